import PyProof.Rows.All
import Wide.All
import OpenK.AllK
import Wide.FinOn
import KE.KStateDown
import Lean
import HandS.HeadHook3
import HandS.HeadHook4
import HandS.Base
import HandS.Call
import HandS.Ends
import HandS.Lambda
import HandS.EndBits
import HandS.EndTab
import HandS.ForMost
import HandS.More
import HandS.Exc
import HandS.Star
import HandS.ClsMeth
import HandS.MakeKwOnly
import HandS.Style
import HandS.TupAny
import KE.GoesMore
import KE.GoesEnum
import HandS.Words
import HandS.Property
import HandS.Head0
import HandS.Head1
import HandS.Head2
import HandS.HeadEnd
import HandS.HeadHook1
import HandS.HeadHook2
import KE.KExcIs
import PyProof.CallFns
import HandS.ExcInit
import HandS.ExcField
import HandS.IsInst
import HandS.RaiseMore
import KE.KOpsOwn
import HandS.Walk
import HandS.Iter
import HandS.Codes
import HandS.List
import HandS.Zip
import HandS.Dict
import KE.KCallOwn
import PyProof.P3Eq
import PyProof.EqKinds
import PyProof.SliceList
import KE.KOwnIter
import PyProof.TupleIter
import PyProof.WalksMore
import HandS.IterVal
import HandS.OwnIter
import PyProof.NeKinds
import PyProof.EqAt
import HandS.Wide
import HandS.NoneIn
import KE.KEqNest
import PyProof.Rows.StrMeet
import PyProof.ReprBulk
import HandS.DictComp
import KE.KDictList
import HandS.Set
import HandS.SetFor
import HandS.Strs
import KE.KEqDict
import HandS.ForExc
import HandS.WordsExc
import PySem.Challenge.RW_nextkind_k05_whole_houses_in_order
set_option Elab.async false
set_option linter.all false
set_option maxRecDepth 100000
set_option maxHeartbeats 0
section
/-! Rules for what an own class defines: o[i] by its __getitem__, a def of a class called off the class, a static method, cls(*xs), an object called by a keyword. -/
namespace OwR
open PySem PySem.Spec PyProof.Rows L2
/-- the class at C has the def at g as its special method nm -/
structure Spc (K : PySem.W.Frag) (C g : Addr) (nm : Str) : Prop where
  at_ : PySem.W.findIn K (.ref C) nm = some (some (.ref g))
  fn : PySem.W.isFn K (.ref g) = true
  fi : PySem.W.fnIn K g = true
section
variable {X : Cx} {CX : CXT} {k i : Nat} {C f g p : Addr} {mc : Value} {sp : Sp} {E : XK} {a b o e : Expr} {es : List Expr} {m x : Str} {ta tb te : TE} {t tk : TA} {pos apos q1 q2 : Pos} {pins : List (Addr × Obj)} {σ : L2.St} {H : Hp} {s : Shared}
/-- a promise kept one step further in -/
theorem run_in {Q : VK} {us : List Value} {vs : List V} (F : FnR X.prog X.w X.K X.mg X.base CX k g sp) (hr : Room (k + 1) X.A) (hx : Passes CX X E) (I : Inv X pins σ H s) (r : Vals vs us) (h : sp vs H Q E) :
    wpAny (model X.prog X.w) X.A.in1 (call (.ref g) us) (EP X pins σ Q) X.xe s := by
  refine wpAny_call (codeAny_mono (F X.A.in1 X.stack s H us vs Q E hr.in1 I.env0.in1 r h) fun r s' hq => ?_)
  cases r with
  | error er => exact hx pins σ H s er s' I hq
  | ok fl =>
    cases fl with
    | ret u => exact I.after hq
    | next => exact False.elim hq
    | brk => exact False.elim hq
    | cont => exact False.elim hq
/-! ### o[i] -/
def tItem (C : Addr) (sp : Sp) (E : XK) (ta tb : TE) : TE := fun σ H Q => ta σ H fun x H1 => tb σ H1 fun y H2 => ∃ p dx fs, x = .ref p ∧ H2 p = some (.ins C dx fs) ∧ sp [.ref p, y] H2 Q E
theorem pe_item (c : Spc X.K C g "__getitem__") (F : FnR X.prog X.w X.K X.mg X.base CX k g sp) (hr : Room (k + 1) X.A) (hx : Passes CX X E) (ha : PE X a ta) (hb : PE X b tb)
    (hsl : ∀ (z : Addr) (v : Value), subscripted b true (.ref z) v = runValue (.builtin "lifetime.subscript" ⟨[.ref z, v], []⟩) := by intros; rfl) : PE X (.Subscript a b pos) (tItem C sp E ta tb) := by
  refine ⟨fun pins s σ H Q I h => ?_⟩
  refine Subscript_ (binT ha hb I h fun v u s2 x y H2 I2 rx ry q => ?_)
  obtain ⟨p, dx, fs, ex, ep, hq⟩ := q
  subst ex
  obtain rfl : v = Value.ref p := rx
  obtain ⟨ox, od, J, _⟩ := StX.insC_at I2 (.inr ⟨dx, fs, ep⟩)
  have KI := I2.kIn
  have hfi := c.fi
  unfold PySem.W.fnIn at hfi
  split at hfi
  · rename_i hg
    unfold subscriptTail getitemInPython
    refine wpAny_bind (wpAny_bind (wpAny_bind (J.type.here ((PySem.W.looks_findIn KI c.at_).here ?_))))
    dsimp only
    refine wpAny_bind (wpAny_load (KI _ _ hg) (wpAny_pure ?_))
    dsimp only
    rw [hsl]
    refine wpAny_bind (wpAny_runValue (codeAny_builtin PySem.W.entry_sub ?_))
    unfold Builtin.«lifetime.subscript»
    refine wpAny_bind (PySem.W.special_fn KI J c.at_ (beq_iff_eq.mp c.fn) (wpAny_mono (run_in (us := [Value.ref p, u]) (vs := [V.ref p, y]) F hr hx I2 (.cons rfl (.cons ry .nil)) hq) (fun v' s' z => ?_) fun _ _ z => z))
    refine wpAny_pure ?_
    show wpAny _ X.A (letTemporaryGo a (.ref p) v' >>= fun _ => pure v') _ _ s'
    exact wpAny_bind (wpAny_letTemporaryGo (wpAny_pure z))
  · cases hfi
/-! ### C.m(e, ..), m a plain def of the class -/
structure CFun (K : PySem.W.Frag) (C : Addr) (mc : Value) (m : Str) (g : Addr) : Prop where
  at_ : PySem.W.findCls K (.ref C) mc m = some (.val (.ref g))
  kp : PySem.W.keepIn K (.ref g) = true
def tCFun (C : Addr) (sp : Sp) (E : XK) (ta : TE) (t : TA) : TE := fun σ H Q => ta σ H fun x H1 => x = .ref C ∧ t σ H1 fun vs H2 => sp vs H2 Q E
theorem pe_cfun {pl : Sem Bool} (he : PE X o ta) (r : ClX.CRead X.K C mc) (c : CFun X.K C mc m g) (F : FnR X.prog X.w X.K X.mg X.base CX k g sp) (hr : Room k X.A) (hx : Passes CX X E) (ha : PA X (e :: es) t)
    (hst : starEach (e :: es) X.env = (false, eval e X.env) :: starEach es X.env := by rfl) (hpl : (backTo pos (starEach es X.env)).any (·.1) = false := by rfl)
    (ht : eval (.Call (.Attribute o m apos) (e :: es) [] pos) X.env = (do
      let ov ← eval o X.env
      standAt apos.atName
      let (f, first) ← holding [ov] (getMethod ov m pl)
      callWith pos f first (backTo pos (starEach (e :: es) X.env)) (backToKw pos (keywordEach [] X.env))) := by rfl) :
    PE X (.Call (.Attribute o m apos) (e :: es) [] pos) (tCFun C sp E ta t) := by
  refine ⟨fun pins s σ H Q I h => ?_⟩
  refine PySem.W.methodCall_KW (pl := pl) (thn (he.run pins s σ H _ I h) fun u s1 ⟨x, H1, I1, rx, ex, q⟩ => ?_) ht
  subst ex
  obtain rfl : u = Value.ref C := rx
  refine PySem.W.method_cls I1.kIn r.ga (PySem.W.cls_value I1.kIn r.rd c.at_ rfl ?_)
  refine PySem.W.callWith_K (first := []) (h₀ := X.base) I1.ok.mod.kin c.kp (thn (ha.run pos pins _ σ H1 _ (I1.tok _) q) fun us s2 ⟨vs, H2, I2, rv, q2⟩ => ⟨I2.kIn, ?_⟩) hst hpl
  exact wpAny_call (run_fnR F hr hx I2 rv q2)
/-! ### C.m(), m a static method -/
structure CSta (K : PySem.W.Frag) (C : Addr) (mc : Value) (m : Str) (p g : Addr) : Prop where
  at_ : PySem.W.findCls K (.ref C) mc m = some (.get (.builtin "staticmethod.__get__") (.ref p) .none (.ref C))
  rc : ∃ rest, PySem.W.recIn K p "staticmethod" = some (.ref g :: rest)
  kp : PySem.W.keepIn K (.ref g) = true
theorem pe_csta0 {pl : Sem Bool} (he : PE X o ta) (r : ClX.CRead X.K C mc) (c : CSta X.K C mc m p g) (F : FnR X.prog X.w X.K X.mg X.base CX k g sp) (hr : Room k X.A) (hx : Passes CX X E)
    (ht : eval (.Call (.Attribute o m apos) [] [] pos) X.env = (do
      let ov ← eval o X.env
      standAt apos.atName
      let (f, first) ← holding [ov] (getMethod ov m pl)
      callWith pos f first (backTo pos (starEach [] X.env)) (backToKw pos (keywordEach [] X.env))) := by rfl) :
    PE X (.Call (.Attribute o m apos) [] [] pos) (tCFun C sp E ta tNil) := by
  refine ⟨fun pins s σ H Q I h => ?_⟩
  refine PySem.W.methodCall_KW (pl := pl) (thn (he.run pins s σ H _ I h) fun u s1 ⟨x, H1, I1, rx, ex, q⟩ => ?_) ht
  subst ex
  obtain rfl : u = Value.ref C := rx
  obtain ⟨rest, hrec⟩ := c.rc
  refine PySem.W.method_cls I1.kIn r.ga (PySem.W.cls_bind I1.kIn r.rd c.at_ ?_)
  refine wpAny_call (PySem.W.sm_get (s := { s1 with toks := s1.toks + 1 }) I1.kIn hrec (PySem.W.handed_on rfl ?_))
  have I2 := I1.tok (s1.toks + 1)
  exact PySem.W.callWith_K0 (first := []) I2.kIn c.kp (wpAny_call (run_fnR (us := []) F hr hx I2 .nil q))
/-! ### cls(*xs), cls a slot that holds the class -/
def tMakeLS (K : PySem.W.Frag) (i : Nat) (C : Addr) (sp : Sp) (E : XK) (te : TE) : TE := fun σ H Q => σ[i]? = some (some (.ref C)) ∧ te σ H fun y H1 => ∃ a xs, y = V.ref a ∧ (SqT K H1 a xs ∨ SqL K H1 a xs) ∧
  ∀ z dz, H1 z = none → H1 dz = none → dz ≠ z → sp (V.ref z :: xs) (upd (upd H1 dz (.own z)) z (.ins C dz [])) (fun v H2 => v = .non ∧ Q (.ref z) H2) E
theorem pe_makeLS (M : Mk X.K C f) (F : FnR X.prog X.w X.K X.mg X.base CX k f sp) (hr : Room (k + 1) X.A) (hN : X.N[i]? = some x) (hv : Vis X.env.scope x) (hx : Passes CX X E) (he : PE X e te)
    (hdb : (x == ("__debug__" : Str)) = false := by decide) (hcd : (x == ("__classdict__" : Str)) = false := by decide) (hst : starEach [.Starred e q1] X.env = [(true, eval e X.env)] := by rfl) :
    PE X (.Call (.Name x q2) [.Starred e q1] [] pos) (tMakeLS X.K i C sp E te) := by
  refine ⟨fun pins s σ H Q I h => ?_⟩
  obtain ⟨hs, ht⟩ := h
  refine wpAny_Call_Name_kw (thn ((pe_var (pos := q2) hN hv hdb hcd).run pins s σ H (fun v H1 => v = .ref C ∧ H1 = H) I ⟨.ref C, hs, rfl, rfl⟩) fun u s1 ⟨v, H1, I1, r1, e1⟩ => ?_)
  obtain ⟨rfl, rfl⟩ := e1
  cases r1
  refine PySem.W.callWith_S (h₀ := X.base) (first := []) I1.ok.mod.kin M.kp (thn (he.run pins s1 σ _ _ I1 ht) fun v s2 ⟨y, H2, I2, ry, a, xs, ey, hxs, q⟩ => ?_) hst
  subst ey
  obtain rfl : v = Value.ref a := ry
  exact StX.star_any I2 hxs fun us s3 I3 rv => ⟨I3.kIn, StX.run_makeR M F hr hx I3 rv q⟩
end
end OwR
end
section
namespace OwR
open PySem PySem.Spec PyProof.Rows L2
open AutoSeq1 (wpAny_loadPart')
/-! ### enumerate(t), t a tuple -/
theorem meets_enumT {v : Value} {o : Obj} {G : Heap → Prop} (B : Begins v o G) :
    Meets (Builtin.«enumerate.__new__» ⟨[.type "enumerate", v], []⟩) (fun _ R s => G s.heap ∧
      R (.ok (.ret (.ref (s.heap.push o).objs.size))) { s with heap := (s.heap.push o).push { cls := .type "enumerate", data := .fields #[.none, .bool false, .ref s.heap.objs.size, rawInt 0, .none, .none] } }) :=
  .of_wp fun prog w A R s h => by
    obtain ⟨hp, g, d, tk, os⟩ := s; obtain ⟨h1, h⟩ := h
    have hsub := sub_enumerate
    have start : ∀ {A' : Around} {E : Value → Shared → Prop} {Q : Value → Shared → Prop}, Q (.ref hp.objs.size) ⟨hp.push o, g, d, tk, os⟩ → wpAny (model prog w) A' (pyIter v) Q E ⟨hp, g, d, tk, os⟩ :=
      fun q => B.iter prog w _ _ ⟨hp, g, d, tk, os⟩ _ h1 q
    wp_walk using start
    refine wpAny_stack_any fun st => wpAny_pure ?_
    split
    · rename_i c _ _ _ _ _
      cases (c == Value.type "enumerate")
      all_goals (wp_walk using start; exact ⟨_, rfl, h⟩)
    · wp_walk using start
      exact ⟨_, rfl, h⟩
section
variable {prog : Program} {w : World} {A : Around} {E : Value → Shared → Prop} {s : Shared}
theorem call_enumT {v : Value} {o : Obj} {G : Heap → Prop} {Q : Value → Shared → Prop} (B : Begins v o G) (h1 : G s.heap)
    (h : ∀ h', IsEnum h' (s.heap.objs.size + 1) s.heap.objs.size 0 .none → h'.get? s.heap.objs.size = some o → (∀ b x, s.heap.get? b = some x → h'.get? b = some x) → Q (.ref (s.heap.objs.size + 1)) { s with heap := h' }) :
    wpAny (model prog w) A (call (.type "enumerate") [v]) Q E s := by
  refine callType_new F.called_enumerate (by decide) (F.typeCall_enumerate_1 _) (F.newCall_enumerate_1 _) (fun obj => F.args_object_init_2 obj _) F.entry_enumerate_new (meets_enumT B) ⟨h1, ?_⟩
  have hz : (s.heap.push o).objs.size = s.heap.objs.size + 1 := Heap.size_push ..
  have he := Heap.get?_push_size (s.heap.push o) (o := { cls := .type "enumerate", data := .fields #[.none, .bool false, .ref s.heap.objs.size, rawInt 0, .none, .none] }) rfl
  rw [hz] at he
  show _ ∧ _
  rw [hz]
  exact ⟨⟨_, he, rfl⟩, h _ he (Heap.get?_push_of_some _ (Heap.get?_push_size _ B.free)) fun b x q => Heap.get?_push_of_some _ (Heap.get?_push_of_some _ q)⟩
end
/-- the tuple at a at each turn: its item in a new pair -/
def IteT (K : PySem.W.Frag) (a : Addr) : It :=
  ⟨fun i H => ∃ (xs : List V) (x : V), SqT K H a xs ∧ xs[i]? = some x, fun i H v H' => ∃ T x, v = .ref T ∧ H T = none ∧ H' = upd H T (.tup [.int (i : Nat), x]) ∧ ∀ xs, SqT K H a xs → xs[i]? = some x, fun i H => ∃ xs : List V, SqT K H a xs ∧ xs.length ≤ i⟩
theorem tup_one {X : Cx} {pins : List (Addr × Obj)} {σ : L2.St} {H : Hp} {s : Shared} {a : Addr} {xs ys : List V} (I : Inv X pins σ H s) (h : SqT X.K H a xs) (h' : SqT X.K H a ys) : xs = ys := by
  first | exact I.tup_inj h h' | exact I.tuple_inj h h'
theorem turn_enumT {P : Program} {w : World} {K : PySem.W.Frag} {elts : List Expr} {kk : Nat} {tpos : Pos} (a e it : Addr) (hane : a ≠ it) :
    Turn P w K (.Tuple elts kk tpos) (IteT K a) [e, it] e (fun i h => (∃ old, IsEnum h e it ((i : Nat) : Int) old) ∧ h.IsTupleIter it a i ∧ e ≠ it ∧ a ≠ e) where
  mem := by simp
  obj := fun i h st b hb => by
    obtain ⟨⟨old, he⟩, ⟨o, ho, hc, hd⟩, _⟩ := st
    rcases List.mem_cons.mp hb with z | z
    · rw [z]; exact ⟨_, he, fun v q => nomatch q⟩
    · rw [List.mem_singleton.mp z]; exact ⟨o, ho, fun v q => by rw [hd] at q; cases q⟩
  keep := fun i h h' st k => let ⟨⟨old, he⟩, hi, hne⟩ := st; ⟨⟨old, k e (by simp) _ he⟩, hi.at fun o q => k it (by simp) o q, hne⟩
  item := by
    intro X hP hw hK hc i pins s σ H E I hf st hg
    subst hP hw hK
    obtain ⟨⟨old, he⟩, hit, hne, hae⟩ := st
    obtain ⟨xs, x, hq, hx⟩ := hg
    obtain ⟨its, rv, p, hz⟩ := I.tuple hq
    obtain ⟨u, hu, ru⟩ := rv.get hx
    have hel : e < s.heap.objs.size := Heap.lt_size he
    have hil : it < s.heap.objs.size := by obtain ⟨_, q, _⟩ := hit; exact Heap.lt_size q
    have hlt : i < its.toArray.size := by
      rw [List.size_toArray]
      exact (List.getElem?_eq_some_iff.mp hu).1
    have D : Draws X.prog X.w X.A.in1 it [it, a] its.toArray.size _ _ := Draws.tuple (A := X.A.in1) (show X.A.in1.handled = none from I.ok.hd hc) it a hane its.toArray
    refine wpAny_pyNext_enum_itemD D he ⟨hit, p⟩ hlt hne (by simp [hne, Ne.symm hae]) fun y h' tk hy ho hst hT hsz hk => ?_
    have ey : y = u := by
      have q : its.toArray[i]? = some u := by simpa using hu
      exact Option.some.inj (hy.symm.trans q)
    subst ey
    refine ⟨_, rfl, wpAny_letOwnedTupleGo_enum (s := { s with heap := h', toks := tk + 1 }) ho fun h'' he' sb => ?_⟩
    have hT2 : h''.get? s.heap.objs.size = some { cls := .type "tuple", data := .seq #[.int i tk, y] } := (sb.2 _ (Nat.ne_of_gt hel)).trans hT
    have new : ObjOk X.prog X.w (upd H s.heap.objs.size (.tup [.int (i : Nat), x])) h'' s.heap.objs.size (.tup [.int (i : Nat), x]) :=
      ⟨by show 2 ≤ sizeLine; decide, [.int i tk, y], .cons ⟨_, rfl⟩ (.cons ru .nil), ⟨_, hT2, rfl, _, rfl⟩⟩
    have I1 : Inv X pins σ (upd H s.heap.objs.size (.tup [.int (i : Nat), x])) { s with heap := h'', toks := tk + 1 } :=
      I.turnedNew (ch := [e, it]) (fun b ob hb q => (sb.2 b (fun z => hb (by simp [z]))).trans (hk b ob (fun z => hb (by simp [z])) (fun z => hb (by simp [z])) q)) hf (Nat.le_refl _) new
    refine ⟨.ref s.heap.objs.size, _, I1, rfl, ⟨_, x, rfl, I.hok.fresh (Nat.le_refl _), rfl, fun ys hy' => by rw [tup_one I hy' hq]; exact hx⟩, ⟨⟨y, ?_⟩, hst.1.at fun o q => (sb.2 it (Ne.symm hne)).trans q, hne, hae⟩, fun b hb => ?_⟩
    · have e1 : ((i + 1 : Nat) : Int) = (i : Int) + 1 := by omega
      rw [e1]; exact he'
    · have hb' : b < s.heap.objs.size := by
        rcases List.mem_cons.mp hb with z | z
        · rw [z]; exact hel
        · rw [List.mem_singleton.mp z]; exact hil
      rw [upd_ne (Nat.ne_of_lt hb')]
      exact (hf b hb).1
  done := by
    intro X hP hw hK hc i pins s σ H E I hf st hg
    subst hP hw hK
    obtain ⟨⟨old, he⟩, hit, hne, hae⟩ := st
    obtain ⟨xs, hq, hx⟩ := hg
    obtain ⟨its, rv, p, hz⟩ := I.tuple hq
    obtain ⟨f0, f1, f2, f3, f4, f5⟩ := hf it (by simp)
    have hl := rv.length
    have hgt : its.toArray[i]? = none := by simp; omega
    unfold pyNext
    refine wpAny_bind (wpAny_attempt (wpAny_callSpecial?_slot (name := Str.ofString "__next__") ⟨_, he, rfl⟩ F.slot_enumerate_next
      (wpAny_call_entry F.slot_enumerate_next ⟨_, he, rfl⟩ F.entry_enumerate_next ?_ (F.args_enumerate_next_1 _))))
    show wpAny _ _ (field (.ref e) 2 >>= _) _ _ _
    refine wpAny_bind (wpAny_field he rfl (x := .ref it) rfl ?_)
    refine wpAny_bind (wpAny_nextOf_tuple_end (I.ok.hd hc) hit p hgt fun h' z he' hz' => ?_)
    obtain ⟨o, ho, hcl⟩ := hz'
    refine wpAny_bind (wpAny_isInstance (T := "StopIteration") (b := true) ⟨o, ho, hcl⟩ isSubtype_stop ?_)
    exact wpAny_pure ⟨rfl, I.turned (t' := s.toks) (fun b o hb q => he' b o hb q) f0 f1 f3 f4 f5⟩
  self := fun A i s Q E st h => let ⟨⟨_, he⟩, _⟩ := st; wpAny_pyIter_enum he h
def iEnumT (K : PySem.W.Frag) (ta : TA) : TI := fun σ H R => ta σ H fun vs H1 => ∃ a xs, vs = [.ref a] ∧ SqT K H1 a xs ∧ R (IteT K a) H1
theorem pi_enumT {X : Cx} {e : Expr} {ta : TA} {p pos tpos : Pos} {elts : List Expr} {kk : Nat} (hg : Gl X "enumerate") (hm : X.mg "enumerate" = none) (ha : PA X [e] ta) (hs : starEach [e] X.env = [(false, eval e X.env)] := by rfl) :
    PI X (.Tuple elts kk tpos) (.Call (.Name "enumerate" p) [e] [] pos) (iEnumT X.K ta) := by
  refine ⟨fun pins s σ H R I h => ?_⟩
  refine Call_ (ld_blt I hg hm boot_enumerate (PyProof.Rows.callWith_type1 (thn (ha.run pos pins s σ H _ I h) fun us s1 ⟨vs, H1, I1, r1, q1⟩ => ?_) hs rfl))
  obtain ⟨a, xs, ex, hq, q⟩ := q1
  subst ex
  cases r1 with
  | cons r rr =>
    cases rr
    cases r
    obtain ⟨its, rv, p', hz⟩ := I1.tuple hq
    have hal : a < s1.heap.objs.size := p'.lt
    refine call_enumT (begins_tuple a its.toArray) p' fun h' he hit hk => wpAny_pyIter_enum he ?_
    have I2 : Inv X pins σ H1 { s1 with heap := h' } := I1.kept (t' := s1.toks) hk
    refine ⟨s1.heap.objs.size + 1, [s1.heap.objs.size + 1, s1.heap.objs.size], _, _, H1, rfl, I2, turn_enumT a (s1.heap.objs.size + 1) s1.heap.objs.size (Nat.ne_of_lt hal),
      ⟨⟨.none, he⟩, ⟨_, hit, rfl, rfl⟩, Nat.succ_ne_self _, Nat.ne_of_lt (Nat.lt_succ_of_lt hal)⟩, fun b hb => ?_, q⟩
    have hle : s1.heap.objs.size ≤ b := by
      rcases List.mem_cons.mp hb with z | z
      · rw [z]; exact Nat.le_add_right _ _
      · rw [List.mem_singleton.mp z]; exact Nat.le_refl _
    exact I1.fpOk hle (I1.hok.fresh hle)
end OwR
end
section
namespace OwR
open PySem PySem.Spec PyProof.Rows L2
/-! ### t[::-1], t a tuple -/
theorem places_back (n : Nat) : Builtin.Slice.slicePlaces ((n : Int) - 1) (-1) (-1) = n := by
  unfold Builtin.Slice.slicePlaces
  rw [if_neg (by decide)]
  split
  · have e : ((n : Int) - 1 - -1 - 1) / (- -1) + 1 = (n : Int) := by
      rw [show (- -1 : Int) = 1 by decide, Int.ediv_one]
      omega
    rw [e]
    exact Int.toNat_natCast n
  · rename_i h
    have : n = 0 := by omega
    subst this
    rfl
theorem fm_same {α β : Type} {f g : α → Option β} : ∀ l : List α, (∀ x ∈ l, f x = g x) → l.filterMap f = l.filterMap g
  | [], _ => rfl
  | x :: l, h => by
    rw [List.filterMap_cons, List.filterMap_cons, h x List.mem_cons_self, fm_same l fun y hy => h y (List.mem_cons_of_mem _ hy)]
theorem pick_back (xs : Array Value) : ((List.range xs.size).filterMap fun (m : Nat) => xs[(((xs.size : Int) - 1) + (m : Int) * (-1)).toNat]?) = xs.toList.reverse := by
  rw [← PySem.W.krv_all xs, ← List.filterMap_reverse, ← PySem.W.krv_range, List.filterMap_map]
  refine fm_same _ fun m hm => ?_
  have hlt := List.mem_range.mp hm
  have e : (((xs.size : Int) - 1) + (m : Int) * (-1)).toNat = xs.size - 1 - m := by omega
  rw [e]
  rfl
section
variable {prog : Program} {w : World} {A : Around} {E : Value → Shared → Prop} {s : Shared}
theorem applied_back {sl : Addr} {vl vu vs : Value} {n : Nat} {Q : Int × Int × Nat → Shared → Prop} (hs : s.heap.IsSliceOf sl vl vu vs) (pl : IsPart vl none) (pu : IsPart vu none) (ps : IsPart vs (some (-1)))
    (h : Q ((n : Int) - 1, -1, n) s) : wpAny (model prog w) A (Builtin.Slice.sliceApplied (.ref sl) (pure (n : Int))) Q E s := by
  obtain ⟨os, hos, hcs, hds⟩ := id hs
  unfold Builtin.Slice.sliceApplied Builtin.Slice.sliceFields
  refine wpAny_bind (wpAny_bind (wpAny_field hos hds (x := vl) rfl (wpAny_bind (wpAny_field hos hds (x := vu) rfl (wpAny_bind (wpAny_field hos hds (x := vs) rfl (wpAny_pure ?_)))))))
  refine wpAny_bind (HT.slicePart_ ps ?_)
  show wpAny _ _ (if ((-1 : Int) == 0) = true then _ else _) _ _ s
  rw [if_neg (by decide)]
  refine wpAny_bind (HT.slicePart_ pl (wpAny_bind (HT.slicePart_ pu (wpAny_bind (wpAny_pure ?_)))))
  show wpAny _ _ (pure ((n : Int) - 1, (-1 : Int), Builtin.Slice.slicePlaces ((n : Int) - 1) (-1) (-1))) _ _ s
  rw [places_back]
  exact wpAny_pure h
theorem getTup_back {t sl : Addr} {items : Array Value} {vl vu vs : Value} {Q : Value → Shared → Prop} (ht : IsTup s.heap t items) (hs : s.heap.IsSliceOf sl vl vu vs) (pl : IsPart vl none) (pu : IsPart vu none) (ps : IsPart vs (some (-1)))
    (hsz : items.size ≤ sizeLine) (h : Q (.ref s.heap.objs.size) { s with heap := s.heap.push { cls := .type "tuple", data := .seq items.toList.reverse.toArray } }) : wpAny (model prog w) A (getItem (.ref t) (.ref sl)) Q E s := by
  obtain ⟨os, hos, hcs, hds⟩ := id hs
  have hTs : s.TypeIs (.ref sl) "slice" := ⟨os, hos, hcs⟩
  have hok : sizeOk (.seq items.toList.reverse.toArray) := by
    show items.toList.reverse.toArray.size ≤ sizeLine
    rw [List.size_toArray, List.length_reverse, Array.length_toList]
    exact hsz
  unfold getItem
  try with_reducible refine wpAny_holding ?_
  first | refine wpAny_bind (wpAny_pure ?_) | skip
  refine wpAny_bind (wpAny_sequenceKey ht.typeIs (by decide) ?_)
  refine wpAny_bind (wpAny_callSpecial?_slot (name := Str.ofString "__getitem__") ht.typeIs PyProof.Rows.slot_tuple_getitem
    (wpAny_call_entry PyProof.Rows.slot_tuple_getitem ht.typeIs entry_tuple_getitem ?_ (args_tuple_getitem _ _)))
  show wpAny _ _ (Builtin.Tuple.tupleItemsOf (.ref t) >>= _) _ _ s
  refine wpAny_bind (tupleItemsOf_ ht (wpAny_bind (wpAny_typeOf hTs ?_)))
  rw [if_pos (by decide)]
  refine wpAny_bind (applied_back hs pl pu ps ?_)
  have hno : ¬ ((((items.size : Int) - 1) == 0 && (-1 : Int) == 1 && items.size == items.size) = true) := by
    intro q
    rw [Bool.and_eq_true, Bool.and_eq_true] at q
    exact absurd q.1.2 (by decide)
  show wpAny _ _ (if ((((items.size : Int) - 1) == 0 && (-1 : Int) == 1 && items.size == items.size) = true) then _ else _) _ _ s
  rw [if_neg hno]
  have e := pick_back items
  first
    | (rw [e]; exact wpAny_bind (m := Builtin.Tuple.tupleExact _) (wpAny_newObj_type (wpAny_pure ⟨_, rfl, wpAny_pure h⟩) hok))
    | (rw [e]; exact wpAny_bind (m := Builtin.Tuple.tupleExact _) (wpAny_newObj_type (wpAny_bind (wpAny_pure (wpAny_pure ⟨_, rfl, wpAny_pure h⟩))) hok))
    | (rw [e]; exact wpAny_bind (wpAny_bind (m := Builtin.Tuple.tupleExact _) (wpAny_newObj_type (wpAny_pure (wpAny_pure ⟨_, rfl, wpAny_pure h⟩)) hok)))
    | (rw [e]; exact wpAny_bind (wpAny_bind (m := Builtin.Tuple.tupleExact _) (wpAny_newObj_type (wpAny_pure ⟨_, rfl, wpAny_pure h⟩) hok)))
end
def tRevT (K : PySem.W.Frag) (te : TE) : TE := fun σ H Q => te σ H fun x H1 => ∃ a xs, x = .ref a ∧ SqT K H1 a xs ∧ ∀ p, H1 p = none → Q (.ref p) (upd H1 p (.tup xs.reverse))
theorem pe_revT {X : Cx} {e : Expr} {te : TE} {k : Nat} {p1 p2 p3 pos : Pos} (he : PE X e te) : PE X (.Subscript e (.Slice none none (some (.UnaryOp .USub (.Constant (.int 1) k p1) p2)) p3) pos) (tRevT X.K te) := by
  refine ⟨fun pins s σ H Q I h => ?_⟩
  refine Subscript_ (thn (he.run pins s σ H _ I h) fun v s1 ⟨x, H1, I1, r1, a, xs, ex, hx, q⟩ => ?_)
  subst ex
  cases r1
  have hst : PO X (some (.UnaryOp .USub (.Constant (.int 1) k p1) p2)) (tPart (tUn (rU fun i => .int (-i)) (tC (.int 1)))) := po_some (pe_un un_neg pe_int)
  refine wpAny_Slice (thn (po_none.run pins s1 σ H1 (fun o H2 => o = none ∧ H2 = H1) I1 ⟨rfl, rfl⟩) fun vl s2 ⟨l, H2, I2, pl, el, e2⟩ => ?_)
  subst el e2
  refine thn (po_none.run pins s2 σ H2 (fun o H3 => o = none ∧ H3 = H2) I2 ⟨rfl, rfl⟩) fun vu s3 ⟨u, H3, I3, pu, eu, e3⟩ => ?_
  subst eu e3
  refine thn (hst.run pins s3 σ H3 (fun o H4 => o = some (-1) ∧ H4 = H3) I3 ⟨1, rfl, -1, rfl, rfl, rfl⟩) fun vs s4 ⟨o, H4, I4, ps, eo, e4⟩ => ?_
  subst eo e4
  have I5 : Inv X pins σ H4 { s4 with heap := s4.heap.push { cls := .type "slice", data := .fields #[vl, vu, vs] } } := I4.kept (t' := s4.toks) fun b ob q => Heap.get?_push_of_some _ q
  obtain ⟨its, r, ht, hz⟩ := I5.tuple hx
  have hlen := r.length
  show wpAny (model X.prog X.w) X.A (subscriptTail e (.Slice none none (some (.UnaryOp .USub (.Constant (.int 1) k p1) p2)) p3) (.ref a) (.ref s4.heap.objs.size)) (EP X pins σ Q) X.xe { s4 with heap := s4.heap.push { cls := .type "slice", data := .fields #[vl, vu, vs] } }
  refine tail_any (ops := [.ref a, .ref s4.heap.objs.size]) ht.typeIs (PyProof.Rows.slot_tuple_getitem.lookup) ?_ (by with_unfolding_all rfl)
  refine getTup_back ht (Heap.IsSliceOf.new _ vl vu vs) pl pu ps (by rw [List.size_toArray]; omega) ?_
  refine ⟨.ref _, _, I5.laid (t' := s4.toks) (o := .tup xs.reverse) (fun b ob q => Heap.get?_push_of_some _ q) (Nat.le_refl _) ?_, rfl, q _ (I5.hok.fresh (Nat.le_refl _))⟩
  exact ⟨by rw [List.length_reverse]; exact hz, its.toArray.toList.reverse, r.reverse, ⟨_, Heap.get?_push_size _ rfl, rfl, 0, rfl⟩⟩
end OwR
end
section
namespace OwR
open PySem PySem.Spec PyProof.Rows L2
/-! ### def f(a, .., **d), called without keywords: an empty dict beside -/
section
variable {CX : CXT} {P : Program} {w : World} {K : PySem.W.Frag} {mg : Str → Option Value} {base : Heap} {k : Nat} {f : Addr} {name qual : Str} {params : Arguments} {body : List Stmt} {scope : Scope} {dV kV doc pm cdv ct oc : Value} {an od : Option Addr}
  {osl : Array (Option Value)} {N ps : List Str} {sp : Sp}
theorem fn_kw {pd : Str} (lk : K.lookup f = some ⟨oc, od, .func (PySem.W.fnOf name qual params body scope dV kV doc pm an cdv ct), osl⟩) (hcd : PySem.W.codeIn K cdv qual = true) (S : FnScope N (ps ++ [pd]) scope) (hCX : StX.CXUp CX)
    (hb : ∀ us : List Value, us.length = ps.length → bindArgs (PySem.W.fnOf name qual params body scope dV kV doc pm an cdv ct) ⟨us, []⟩ = ((alloc ({ cls := .type "dict", data := .dict #[] } : Obj) : Sem Addr) >>= fun d => pure (ps.zip us ++ [(pd, Value.ref d)])))
    (hbody : ∀ (A : Around) (outer : List Env) (s : Shared) (H : Hp) (vs : List V) (Q : VK) (E : XK), Room k (A.deeper (envOfC qual scope s.heap.objs.size f cdv)) → sp vs H Q E →
      ∃ t, PSs (cxOf CX P w K mg base N qual scope f cdv A outer s H E) body t ∧ t { nx := fun _ H' => Q .non H', rt := Q } (start N vs) H) :
    FnR P w K mg base CX (k + 1) f (fun vs H Q E => vs.length = ps.length ∧ ∀ d, H d = Option.none → sp (vs ++ [V.ref d]) (upd H d (.dK [])) Q E) := by
  intro A outer s H us vs Q E hr e0 r hsp
  obtain ⟨hl, hq⟩ := hsp
  have hn : H s.heap.objs.size = Option.none := e0.hok.fresh (Nat.le_refl _)
  have hl1 : us.length = ps.length := by rw [← r.length]; exact hl
  refine StX.run_bnd lk hcd S hr e0 (G := fun xs H2 => ∃ d, H d = Option.none ∧ xs = vs ++ [V.ref d] ∧ H2 = upd H d (.dK [])) (fun A' Ex Q' h => ?_) fun s2 H2 xs ⟨d, hd, ex, eH⟩ hr' => ?_
  · rw [hb us hl1]
    refine wpAny_bind (wpAny_alloc (wpAny_pure ?_))
    have e1 := StX.env0_laid (u := .dK []) (o := ({ cls := .type "dict", data := .dict #[] } : Obj)) e0 (dk_empty _ (StX.env0_big e0))
    have un := StX.un_laid (fs := frs outer) (s := s) (o := ({ cls := .type "dict", data := .dict #[] } : Obj)) (u := .dK []) hn
    have z := h _ _ (vs ++ [V.ref s.heap.objs.size]) (us ++ [Value.ref s.heap.objs.size]) e1 un rfl (fun e s' => hCX outer s H _ _ E e s' un (fun b o q => Heap.get?_push_of_some _ q) rfl) (r.append (.cons rfl .nil))
      (by rw [List.length_append, List.length_append, hl] <;> rfl) ⟨_, hn, rfl, rfl⟩
    rw [List.zip_append hl1.symm] at z
    exact z
  · subst ex eH
    exact hbody A outer s2 _ _ Q E hr' (hq d hd)
/-! ### a def called where no guard stands (repr of lists wants that) -/
def FnG (P : Program) (w : World) (K : PySem.W.Frag) (mg : Str → Option Value) (base : Heap) (CX : CXT) (k : Nat) (f : Addr) (fd : FuncData) (ps : List Str) (sp : Sp) : Prop :=
  ∀ (A : Around) (outer : List Env) (s : Shared) (H : Hp) (args : Args) (us : List Value) (vs : List V) (Q : VK) (E : XK), A.guards = some [] → Room k A → Env0 P w K mg base A outer s H → BindsTo s fd args (ps.zip us) → Vals vs us → sp vs H Q E →
    codeAny (model P w) A (.call (.ref f) args) (CR CX outer P w H s Q E) s
theorem fn_ofG (lk : K.lookup f = some ⟨oc, od, .func (PySem.W.fnOf name qual params body scope dV kV doc pm an cdv ct), osl⟩) (hcd : PySem.W.codeIn K cdv qual = true) (S : FnScope N ps scope)
    (len : ∀ vs H Q E, sp vs H Q E → vs.length = ps.length)
    (hbody : ∀ (A : Around) (outer : List Env) (s : Shared) (H : Hp) (vs : List V) (Q : VK) (E : XK), A.guards = some [] → Room k (A.deeper (envOfC qual scope s.heap.objs.size f cdv)) → sp vs H Q E →
      ∃ t, PSs (cxOf CX P w K mg base N qual scope f cdv A outer s H E) body t ∧ t { nx := fun _ H' => Q .non H', rt := Q } (start N vs) H) :
    FnG P w K mg base CX (k + 1) f (PySem.W.fnOf name qual params body scope dV kV doc pm an cdv ct) ps sp := by
  intro A outer s H args us vs Q E hgd hr e0 hb r hsp
  have hl := len _ _ _ _ hsp
  have KS : K.In s.heap := e0.mod.kin.keeps fun b o e => (e0.bs b o e).1
  have lims : s.heap.NoLimit := e0.mod.nolimit.keeps fun b o e => (e0.bs b o e).1
  have kinds : ∀ y ∈ ps.zip us, scope.names.lookup y.1 = some .local ∨ (scope.names.lookup y.1 = some .cell ∧ ((cellsFrom (s.heap.objs.size + 1) scope.names []).lookup y.1).isSome = true) := fun y hy =>
    (S.par y.1 (List.of_mem_zip hy).1).imp id fun q => ⟨q, PySem.W.cellsFrom_some _ _ _ (.inl q)⟩
  refine codeAny_call_function hr.depth (KS _ _ lk) rfl S.co S.gen rfl (PySem.W.codeRec_of KS hcd) (hb _ _ _ _ ?_)
  refine wpAny_newFunctionEnv_cells S.kind kinds fun env he s1 x => ?_
  subst he
  refine ⟨lims.keeps x.toInCall.keep, codeAny_func ?_⟩
  obtain ⟨t, ht, hq⟩ := hbody A outer s H vs Q E hgd (hr.deeper _) hsp
  have I : Inv (cxOf CX P w K mg base N qual scope f cdv A outer s H E) [] (start N vs) H s1 := inv_start S hr.hd e0 hl r x
  refine wpAny_mono (ht.run [] s1 (start N vs) H _ I hq) (fun fl s' hs => ?_) fun _ _ z => z
  have done : ∀ {σ' : L2.St} {H' : Hp} {v : V} {u : Value}, Inv (cxOf CX P w K mg base N qual scope f cdv A outer s H E) [] σ' H' s' → RelV v u → Q v H' → CE outer P w H s Q u s' :=
    fun {σ' H' v u} J rv q => ⟨v, H', J.os, J.bare, J.base, J.hok, rv, q⟩
  cases fl with
  | ret u =>
    obtain ⟨v, σ', H', J, rv, q⟩ := hs
    exact done J rv q
  | next =>
    obtain ⟨σ', H', J, q⟩ := hs
    exact done (v := V.non) (u := Value.none) J rfl q
  | brk => exact (hs.elim fun _ z => z.elim fun _ z => z.2.elim)
  | cont => exact (hs.elim fun _ z => z.elim fun _ z => z.2.elim)
end
/-! ### repr of data -/
def rReprD (K : PySem.W.Frag) : List V → Hp → VK → Prop := fun vs H Q => ∃ a d, vs = [V.ref a] ∧ Dp K H (.ref a) d ∧ d.showable = true ∧ d.hasDict = false ∧ d.depth ≤ 64 ∧ d.shown.length ≤ sizeLine ∧ Q (.str d.shown) H
theorem cr_reprD {X : Cx} (hg : X.A.guards = some []) (hu : X.A.units + 70 < cLine) : CallR X (.builtin "repr") (rReprD X.K) := by
  intro pins s σ H vs us Q I r h
  obtain ⟨a, d, rfl, hd, hs, hnd, hdp, hsz, q⟩ := h
  rw [Vals.ref1 r]
  obtain ⟨as, R⟩ := Dp.reads I d _ (.ref a) hd rfl
  refine repr_of_reads' R hs (fun z => by rw [hnd] at z; cases z) hg (by omega) (fun _ _ e => e) (fun h' u tk k => ?_) hsz
  exact ⟨.str d.shown, H, I.kept (t' := tk) k, ⟨u, rfl⟩, q⟩
/-! ### an object called with keywords alone -/
theorem callOK_of {M : Model} {A : Around} {E : Value → Shared → Prop} {s : Shared} {a : Addr} {pos : Pos} {Q : Value → Shared → Prop} {args : List (Bool × Sem Value)} {kws : List (Option Str × Sem Value)} (hpl : (args.any (·.1) || kws.any (·.1.isNone)) = false)
    (h : wpAny M A (evalArgs (.ref a) true args kws) (fun z s₁ => (∃ C ox od, PySem.W.InstAt s₁.heap a ox C od ∧ ox.data = .plain) ∧ wpAny M A (call (.ref a) ([] ++ z.pos) z.kw) Q E s₁) E s) : wpAny M A (callWith pos (.ref a) [] args kws) Q E s := by
  unfold callWith
  refine wpAny_bind (wpAny_holding (wpAny_mono h (fun z s₂ h₁ => wpAny_bind (wpAny_standAt ?_)) fun _ _ y => y))
  obtain ⟨⟨C, ox, od, J, hd⟩, h₂⟩ := h₁
  have L := PySem.W.kco_keeper (M := M) J hd
  simp only [hpl]
  refine wpAny_bind (L.here ?_)
  have rest : ∀ {t : Sem Value}, wpAny M A t Q E s₂ → wpAny M A (t >>= fun r => holding [r] point >>= fun _ => pure r) Q E s₂ :=
    fun ht => wpAny_bind (wpAny_mono ht (fun _ _ hr => wpAny_bind (wpAny_holding (wpAny_point (wpAny_pure hr)))) fun _ _ y => y)
  exact rest (wpAny_operateT h₂)
section
variable {X : Cx} {CX : CXT} {k : Nat} {C g : Addr} {fd : FuncData} {ps ks : List Str} {sp : Sp} {E : XK} {fe : Expr} {kws : List Keyword} {tf : TE} {tk : TA} {pos : Pos} {gg : List Value → List Value → List Value} {gV : List V → List V → List V}
def tCallOK (X : Cx) (C : Addr) (sp : Sp) (gV : List V → List V → List V) (E : XK) (tf : TE) (tk : TA) : TE := fun σ H Q => tf σ H fun y H1 => ∃ a, y = V.ref a ∧ tk σ H1 fun zs H2 => StX.InsC X H2 a C ∧ sp (gV [V.ref a] zs) H2 Q E
theorem pe_callOK (hf : PE X fe tf) (c : StX.CallO X.K C g) (F : FnOk X.prog X.w X.K X.mg X.base CX k g fd ps sp) (hr : Room k X.A) (hb : KBinds X.K fd ps ks gg gV) (hx : Passes CX X E) (hkw : PK X kws tk)
    (ht : eval (.Call fe [] kws pos) X.env = (do callWith pos (← eval fe X.env) [] (backTo pos (starEach [] X.env)) (backToKw pos (keywordEach kws X.env))) := by rfl)
    (hall : (backToKw pos (keywordEach kws X.env)).all (·.1.isSome) = true := by rfl) (hks : (backToKw pos (keywordEach kws X.env)).filterMap (·.1) = ks := by rfl)
    (hpl : ((backTo pos (starEach [] X.env)).any (·.1) || (backToKw pos (keywordEach kws X.env)).any (·.1.isNone)) = false := by rfl) : PE X (.Call fe [] kws pos) (tCallOK X C sp gV E tf tk) := by
  refine ⟨fun pins s σ H Q I h => ?_⟩
  rw [ht]
  refine wpAny_bind (thn (hf.run pins s σ H _ I h) fun u s1 ⟨y, H1, I1, ry, a, ey, q⟩ => ?_)
  subst ey
  obtain rfl : u = Value.ref a := ry
  refine callOK_of hpl (evalArgs_kw2_nil hall (thn (hkw.run pos pins s1 σ H1 _ I1 q) fun ws s2 ⟨zs, H2, I2, rz, hi, q2⟩ => ?_))
  obtain ⟨ox, od, J, hd⟩ := StX.insC_at I2 hi
  refine ⟨⟨C, ox, od, J, hd⟩, ?_⟩
  rw [hks]
  have r1 : Vals [V.ref a] [Value.ref a] := .cons rfl .nil
  have r2 := hb.rel r1 rz
  have hl : (gg [Value.ref a] ws).length = ps.length := by rw [← r2.length]; exact F.len _ _ _ _ q2
  refine wpAny_call (PySem.W.kco_code I2.kIn J hd c.at_ c.fn c.fi (codeAny_mono (F.run X.A X.stack s2 H2 ⟨[.ref a], ks.zip ws⟩ (gg [.ref a] ws) (gV [.ref a] zs) Q E hr I2.env0 (hb.to s2 [.ref a] ws I2.kIn hl) r2 q2) fun r s' hq => ?_))
  cases r with
  | error e => exact hx pins σ H2 s2 e s' I2 hq
  | ok fl =>
    cases fl with
    | ret u => exact I2.after hq
    | next => exact False.elim hq
    | brk => exact False.elim hq
    | cont => exact False.elim hq
end
end OwR
end
section
/-! Own: a law by a promise that wants no guard about it, where lambdas are made: with the tables of the code that makes them. -/
namespace OwR
open PySem PySem.Spec PyProof.Rows L2
abbrev tabO : Obj := { cls := .none, data := .fields #[] }
/-- what is followed: the script where the written part does not hold it, the tables -/
def scrT (K : PySem.W.Frag) (a : Addr) (ob : Obj) (xs : List V) (ts : List Addr) : Hp := fun b => if b = a then (if K.lookup a = none then some (.frz ob (.lst xs)) else none) else if b ∈ ts then some (.tbl #[]) else none
theorem scrT_cases (K : PySem.W.Frag) (a : Addr) (ob : Obj) (xs : List V) (ts : List Addr) (b : Addr) : scrT K a ob xs ts b = none ∨ (b = a ∧ K.lookup a = none ∧ scrT K a ob xs ts b = some (.frz ob (.lst xs))) ∨ (b ≠ a ∧ b ∈ ts ∧ scrT K a ob xs ts b = some (.tbl #[])) := by
  unfold scrT
  by_cases c : b = a
  · rw [if_pos c]
    by_cases d : K.lookup a = none
    · rw [if_pos d]
      exact .inr (.inl ⟨c, d, rfl⟩)
    · rw [if_neg d]
      exact .inl rfl
  · rw [if_neg c]
    by_cases d : b ∈ ts
    · rw [if_pos d]
      exact .inr (.inr ⟨c, d, rfl⟩)
    · rw [if_neg d]
      exact .inl rfl
theorem law_callTG {P : Program} {w : World} {K : PySem.W.Frag} {mg mb : Str → Option Value} {k : Nat} {fn a : Addr} {cs : List (Addr × Addr)} {fd : FuncData} {x : Str} {sp : Sp} {t : Shared} {us : List Value} {zs : List Int} (hK : K.In t.heap) (hG : t.heap.Ns mainGlobals mg)
    (hB : t.heap.Ns builtinsNs mb) (hBB : ∀ y : Str, y ≠ "__name__" → mb y = bootBuiltins y) (hL : t.heap.NoLimit) (hN : t.gens = #[]) (hO : t.heap.get? a = some ({ cls := .type "list", data := .seq us.toArray } : Obj)) (hI : IntsAre us zs)
    (hT : ∀ e ∈ cs, t.heap.get? e.2 = some tabO) (hX : ∀ e ∈ cs, K.lookup e.2 = none) (hC : ∀ e ∈ cs, PySem.W.CodeHd t.heap e.1 e.2)
    (hM : ∃ (m : Addr) (mo : Obj), mg "__builtins__" = some (.ref m) ∧ m ≠ builtinsNs ∧ t.heap.get? m = some mo ∧ mo.cls = .type "module" ∧ mo.dict = some builtinsNs ∧ mo.data = .plain)
    (hz : zs.length ≤ sizeLine) (hr : Room k callerA) (F : ∀ base : Heap, K.In base → base.Ns mainGlobals mg → (∀ e ∈ cs, LamX.TabB base mg e.1 e.2) → FnG P w K mg base CX0 k fn fd [x] sp) (hb : ∀ (s : Shared) (u : Value), BindsTo s fd ⟨[u], []⟩ [(x, u)])
    (hS : ∀ G : Hp, (∀ e ∈ cs, G e.2 = some (.tbl #[])) → SqL K G a (zs.map V.int) → sp [.ref a] G (fun v _ => v = .bl true) fun _ _ _ => False) :
    codeAny (model P w) callerA (.call (.ref fn) ⟨[.ref a], []⟩) (fun r s' => r = .ok (.ret (.bool true)) ∧ OldK t.heap s'.heap ∧ s'.os = t.os ∧ AllBare s'.gens) t := by
  have rel := vals_ints hI
  have le := hI.length
  obtain ⟨ts, ets⟩ : ∃ ts, ts = cs.map (·.2) := ⟨_, rfl⟩
  have atT : ∀ b, b ∈ ts → t.heap.get? b = some tabO ∧ K.lookup b = none ∧ ∃ e ∈ cs, e.2 = b := fun b hb => by
    rw [ets] at hb
    obtain ⟨e, he, rfl⟩ := List.mem_map.mp hb
    exact ⟨hT e he, hX e he, e, he, rfl⟩
  have inT : ∀ e ∈ cs, e.2 ∈ ts := fun e he => by
    rw [ets]
    exact List.mem_map.mpr ⟨e, he, rfl⟩
  have aT : ∀ e ∈ cs, e.2 ≠ a := fun e he q => by
    have h := hT e he
    rw [q, hO] at h
    cases h
  obtain ⟨G, eG⟩ : ∃ G, G = scrT K a ({ cls := .type "list", data := .seq us.toArray } : Obj) (zs.map V.int) ts := ⟨_, rfl⟩
  have three : ∀ b, G b = none ∨ (b = a ∧ K.lookup a = none ∧ G b = some (.frz { cls := .type "list", data := .seq us.toArray } (.lst (zs.map V.int)))) ∨ (b ≠ a ∧ b ∈ ts ∧ G b = some (.tbl #[])) := fun b => by
    rw [eG]
    exact scrT_cases K a _ _ ts b
  have GT : ∀ e ∈ cs, G e.2 = some (.tbl #[]) := fun e he => by
    rw [eG]
    unfold scrT
    rw [if_neg (aT e he), if_pos (inT e he)]
  have sq : SqL K G a (zs.map V.int) := by
    cases l : K.lookup a with
    | some ob =>
      have e := (hK a ob l).symm.trans hO
      cases e
      exact .inr ⟨_, us.toArray, _, l, rfl, rfl, rfl, by rw [List.size_toArray, le]; exact hz, by simpa using rel⟩
    | none =>
      refine .inl (.inr ⟨({ cls := .type "list", data := .seq us.toArray } : Obj), ?_⟩)
      rw [eG]
      unfold scrT
      rw [if_pos rfl, if_pos l]
  have gone : ∀ {b : Addr} {ob : Obj}, t.heap.get? b = some ob → (∀ vs n, ob.data ≠ .seq vs n) → ob.data ≠ .fields #[] → G b = none := fun {b ob} e nd nf => by
    rcases three b with c | ⟨rfl, _, _⟩ | ⟨_, hb, _⟩
    · exact c
    · rw [hO] at e
      cases e
      exact absurd rfl (nd us.toArray 0)
    · rw [(atT b hb).1] at e
      cases e
      exact absurd rfl nf
  have nsp : ∀ {b : Addr} {m : Str → Option Value}, t.heap.Ns b m → (hidT t.heap G).Ns b m := fun {b m} h => by
    obtain ⟨ob, es, ep, e1, e2, e3⟩ := h
    exact ⟨ob, es, ep, hidT_get e1 (gone e1 (fun vs n q => by rw [e2] at q; cases q) fun q => by rw [e2] at q; cases q), e2, e3⟩
  have kin : K.In (hidT t.heap G) := fun b ob l => hidT_get (hK b ob l) (by
    rcases three b with c | ⟨rfl, c, _⟩ | ⟨_, hb, _⟩
    · exact c
    · rw [c] at l
      cases l
    · rw [(atT b hb).2.1] at l
      cases l)
  have lim : (hidT t.heap G).NoLimit := by
    obtain ⟨mc, h1, h2⟩ := hL
    exact ⟨mc, nsp h1, h2⟩
  have ok : HOk P w G t.heap := fun b u e => by
    rcases three b with c | ⟨rfl, _, c⟩ | ⟨_, hb, c⟩
    · rw [c] at e
      cases e
    · rw [c] at e
      cases e
      exact ⟨hO, by rw [List.length_map]; exact hz, us, _, rel, hO⟩
    · rw [c] at e
      cases e
      exact (atT b hb).1
  have env : Env0 P w K mg (hidT t.heap G) callerA [] t G := { frames := rfl, mod := ⟨kin, nsp hG, ⟨mb, nsp hB, hBB⟩, lim⟩, bs := fun _ _ e => of_hidT e, bsz := Nat.le_of_eq (hidT_size _ _), funs := True.intro, frf := fun _ h => absurd h List.not_mem_nil, hok := ok, bare := .of_eq hN }
  have TB : ∀ e ∈ cs, LamX.TabB (hidT t.heap G) mg e.1 e.2 := fun e he => by
    have hP := hT e he
    constructor
    · obtain ⟨co, cv, fi, tf, fl, tg, nf, tx, tt, q0, q1, q2, q3, q4, q5, q6, q7, q8, q9⟩ := hC e he
      have gc : G e.1 = none := gone q0 (fun vs n q => by rw [q2] at q; cases q) fun q => by
        rw [q2] at q
        cases q
        simp at q3
      exact ⟨co, cv, fi, tf, fl, tg, nf, tx, tt, hidT_get q0 gc, q1, q2, q3, q4, q5, q6, q7, q8, q9⟩
    · obtain ⟨m, mo, b1, b2, b3, b4, b5, b6⟩ := hM
      have n1 : m ≠ mainGlobals := fun q => by
        obtain ⟨o, es, ep, e1, e2, _⟩ := hG
        rw [q, e1] at b3
        cases b3
        rw [e2] at b6
        cases b6
      have n2 : m ≠ e.2 := fun q => by
        rw [q, hP] at b3
        cases b3
        cases b6
      have gm : G m = none := gone b3 (fun vs n q => by rw [b6] at q; cases q) fun q => by
        rw [b6] at q
        cases q
      exact ⟨m, mo, b1, b2, n1, n2, hidT_get b3 gm, b4, b5, b6⟩
    · intro q
      obtain ⟨o, es, ep, e1, e2, _⟩ := hG
      rw [q, hP] at e1
      cases e1
      cases e2
  have run := F (hidT t.heap G) kin (nsp hG) TB callerA [] t G ⟨[.ref a], []⟩ [.ref a] [.ref a] _ _ rfl hr env (hb t (.ref a)) (.cons rfl .nil) (hS G GT sq)
  refine codeAny_mono run fun r s' h => ?_
  match r, h with
  | .error _, h => exact h.elim
  | .ok (.ret u), h =>
    obtain ⟨v, G', os, br, un, ok', rv, qv⟩ := h
    have ev : v = .bl true := qv
    subst ev
    obtain rfl : u = Value.bool true := rv
    have kept : ∀ b ob, b ∉ ts → t.heap.get? b = some ob → s'.heap.get? b = some ob := fun b ob nb e => by
      rcases three b with c | ⟨rfl, _, c⟩ | ⟨_, hb, _⟩
      · exact un.keep b ob e c List.not_mem_nil List.not_mem_nil
      · have e2 := (ok' b _ (un.frzs b _ _ c)).1
        rw [hO] at e
        cases e
        exact e2
      · exact absurd hb nb
    have more : ∀ e ∈ cs, ∃ vs : Array Value, s'.heap.get? e.2 = some ({ cls := .none, data := .fields vs } : Obj) := fun e he => by
      obtain ⟨vs, q⟩ := un.tbls e.2 #[] (GT e he)
      exact ⟨_, ok' e.2 _ q⟩
    refine ⟨rfl, ⟨fun b ob e => ?_, fun b ob e => ?_⟩, os, br⟩
    · by_cases hb : b ∈ ts
      · obtain ⟨et, _, q, hq, rfl⟩ := atT b hb
        obtain ⟨vs, em⟩ := more q hq
        rw [et] at e
        cases e
        exact .inr (.inl ⟨((hC q hq).tab et).isCodeTable, rfl, #[], vs, rfl, by rw [Array.empty_append]; exact em⟩)
      · exact .inl (kept b ob hb e)
    · by_cases hb : b ∈ ts
      · obtain ⟨_, _, q, hq, rfl⟩ := atT b hb
        obtain ⟨vs, em⟩ := more q hq
        exact ⟨_, em⟩
      · exact ⟨ob, kept b ob hb e⟩
/-- .. as the end of a law over a head by facts -/
theorem walk_ofTG {l : PySem.W.OpenLaw} {n k : Nat} {q : Program} {loose : List Str} {XP : (Str → Option Value) → Heap → Prop} {YP : World → Heap → Prop} {d : DefRec} {x : Str} (most : l.most = some n) (small : n ≤ sizeLine) (nodf : d.params.defaults = []) (room : Room k callerA)
    (F : ∀ (w : World) (mg : Str → Option Value) (fn : Addr) (h : Heap), YP w h → h.Ns mainGlobals mg → mg d.name = some (.ref fn) → ∃ (K : PySem.W.Frag) (fd : FuncData) (cs : List (Addr × Addr)) (sp : Sp), K.In h ∧ (∀ e ∈ cs, h.get? e.2 = some tabO) ∧ (∀ e ∈ cs, K.lookup e.2 = none) ∧ (∀ e ∈ cs, PySem.W.CodeHd h e.1 e.2) ∧
      (∀ (s : Shared) (u : Value), BindsTo s fd ⟨[u], []⟩ [(x, u)]) ∧ (∀ (G : Hp) (a : Addr) (zs : List Int), zs.length ≤ n → (∀ e ∈ cs, G e.2 = some (.tbl #[])) → SqL K G a (zs.map V.int) → sp [.ref a] G (fun v _ => v = .bl true) fun _ _ _ => False) ∧
      ∀ base : Heap, K.In base → base.Ns mainGlobals mg → (∀ e ∈ cs, LamX.TabB base mg e.1 e.2) → FnG l.prog w K mg base CX0 k fn fd [x] sp) :
    PySem.W.WalkO q loose XP YP l.row.toRowW d [] (fun f vs => PySem.call f vs) := by
  refine Att.attach_callB most nodf fun w s0 t mg mb fn o pm cd doc a us zs G Y _ _ _ hmg hO hI hz _ hN => ?_
  obtain ⟨K, fd, cs, sp, hK, hT, hX, hC, hb, hS, hF⟩ := F w mg fn _ Y G.T.g hmg
  exact law_callTG hK G.T.g G.T.b G.T.builtins G.T.nolimit hN hO hI hT hX hC G.T.bmain (Nat.le_trans hz small) room hF hb fun G' g sq => hS G' a zs hz g sq
end OwR
end
section
/-! What the end of the top says of named classes, of the records in them and of their defs. Own. -/
namespace OwH
open PySem PySem.Spec PyProof.Rows L2
/-- the def within a record (a class method, a static one, a property) -/
def inRec (K : PySem.W.Frag) (p : Addr) (kind : String) : Addr := match PySem.W.recIn K p kind with
  | some (.ref g :: _) => g
  | _ => 0
def recOk (K : PySem.W.Frag) (p : Addr) (kind : String) : Bool := match PySem.W.recIn K p kind with
  | some (.ref _ :: _) => true
  | _ => false
theorem recOk_ok {K : PySem.W.Frag} {p : Addr} {kind : String} (h : recOk K p kind = true) : ∃ rest, PySem.W.recIn K p kind = some (.ref (inRec K p kind) :: rest) := by
  unfold recOk at h
  unfold inRec
  cases e : PySem.W.recIn K p kind with
  | none =>
    rw [e] at h
    cases h
  | some l =>
    rw [e] at h
    match l, h with
    | .ref g :: r, _ => exact ⟨r, rfl⟩
def getB (x : Option PySem.W.CFound) (id : String) (p C : Addr) : Bool := match x with
  | some (.get (.builtin i) (.ref q) .none (.ref D)) => decide (i = id) && (decide (q = p) && decide (D = C))
  | _ => false
theorem getB_ok {x : Option PySem.W.CFound} {id : String} {p C : Addr} (h : getB x id p C = true) : x = some (.get (.builtin id) (.ref p) .none (.ref C)) := by
  unfold getB at h
  split at h
  · obtain ⟨h1, h2⟩ := Bool.and_eq_true_iff.mp h
    obtain ⟨h3, h4⟩ := Bool.and_eq_true_iff.mp h2
    rw [of_decide_eq_true h1, of_decide_eq_true h3, of_decide_eq_true h4]
  · cases h
def valB (x : Option PySem.W.CFound) (g : Addr) : Bool := match x with
  | some (.val (.ref q)) => decide (q = g)
  | _ => false
theorem valB_ok {x : Option PySem.W.CFound} {g : Addr} (h : valB x g = true) : x = some (.val (.ref g)) := by
  unfold valB at h
  split at h
  · rw [of_decide_eq_true h]
  · cases h
abbrev ga := He.ga
/-- what the class named x holds under m -/
def mo (K : PySem.W.Frag) (x m : Str) : Addr := He.ma K (ga K x) m
def fRead (x : Str) (K : PySem.W.Frag) : Bool := PySem.W.readsIn K (ga K x) (.type "type") && He.eqO (PySem.W.specialIn K (.ref (ga K x)) "__getattribute__") (some (some (.builtin "type.__getattribute__")))
def fCMet (x m : Str) (K : PySem.W.Frag) : Bool := getB (PySem.W.findCls K (.ref (ga K x)) (.type "type") m) "classmethod.__get__" (mo K x m) (ga K x) && (recOk K (mo K x m) "classmethod" && PySem.W.fnIn K (inRec K (mo K x m) "classmethod"))
def fCSta (x m : Str) (K : PySem.W.Frag) : Bool := getB (PySem.W.findCls K (.ref (ga K x)) (.type "type") m) "staticmethod.__get__" (mo K x m) (ga K x) && (recOk K (mo K x m) "staticmethod" && PySem.W.keepIn K (.ref (inRec K (mo K x m) "staticmethod")))
def fCFun (x m : Str) (K : PySem.W.Frag) : Bool := valB (PySem.W.findCls K (.ref (ga K x)) (.type "type") m) (mo K x m) && PySem.W.keepIn K (.ref (mo K x m))
def fSpc (x m : Str) (K : PySem.W.Frag) : Bool := He.eqO (PySem.W.findIn K (.ref (ga K x)) m) (some (some (.ref (mo K x m)))) && (PySem.W.isFn K (.ref (mo K x m)) && PySem.W.fnIn K (mo K x m))
def fProp (x m : Str) (K : PySem.W.Frag) : Bool := He.eqO (PySem.W.findIn K (.ref (ga K x)) m) (some (some (.ref (mo K x m)))) && (He.eqO (PySem.W.specialIn K (.ref (mo K x m)) "__get__") (some (some (.builtin "property.__get__"))) && (decide (PySem.W.takesIn K (.ref (mo K x m)) = some true) && recOk K (mo K x m) "property"))
section
variable {K : PySem.W.Frag} {x m : Str}
theorem two {a b : Bool} (h : (a && b) = true) : a = true ∧ b = true := Bool.and_eq_true_iff.mp h
theorem read_ok (h : fRead x K = true) : ClX.CRead K (ga K x) (.type "type") := ⟨(two h).1, He.eqO_ok (two h).2⟩
theorem cmet_ok (h : fCMet x m K = true) : ClX.CMet K (ga K x) (.type "type") m (mo K x m) (inRec K (mo K x m) "classmethod") := ⟨getB_ok (two h).1, recOk_ok (two (two h).2).1, (two (two h).2).2⟩
theorem csta_ok (h : fCSta x m K = true) : OwR.CSta K (ga K x) (.type "type") m (mo K x m) (inRec K (mo K x m) "staticmethod") := ⟨getB_ok (two h).1, recOk_ok (two (two h).2).1, (two (two h).2).2⟩
theorem cfun_ok (h : fCFun x m K = true) : OwR.CFun K (ga K x) (.type "type") m (mo K x m) := ⟨valB_ok (two h).1, (two h).2⟩
theorem spc_ok (h : fSpc x m K = true) : OwR.Spc K (ga K x) (mo K x m) m := ⟨He.eqO_ok (two h).1, (two (two h).2).1, (two (two h).2).2⟩
theorem callo_ok (h : fSpc x "__call__" K = true) : StX.CallO K (ga K x) (mo K x "__call__") := ⟨He.eqO_ok (two h).1, (two (two h).2).1, (two (two h).2).2⟩
theorem prop_ok (h : fProp x m K = true) : PropOf K (ga K x) m (mo K x m) (inRec K (mo K x m) "property") := ⟨He.eqO_ok (two h).1, He.eqO_ok (two (two h).2).1, of_decide_eq_true (two (two (two h).2).2).1, recOk_ok (two (two (two h).2).2).2⟩
end
/-! ### defs -/
structure DX where
  adr : PySem.W.Frag → Addr
  name : Str
  qual : Str
  st : Stmt
abbrev FX : Type := Option (Str × Str × Arguments × FuncBody × Scope × Addr × List (Str × Addr) × Value × Addr)
def seeF (K : PySem.W.Frag) (a : Addr) : FX := match K.lookup a with
  | some ⟨_, _, .func fd, _⟩ => some (fd.name, fd.qualname, fd.params, fd.body, fd.scope, fd.globals, fd.closure, fd.defaults, fd.builtins)
  | _ => none
def codB (K : PySem.W.Frag) (a : Addr) (qual : Str) : Bool := PySem.W.keepIn K (.ref a) && (match K.lookup a with
  | some ⟨_, _, .func fd, _⟩ => PySem.W.codeIn K fd.code qual
  | _ => false)
def DX.val (d : DX) : FX := some (d.name, d.qual, defArgs d.st, .stmts (defBody d.st), defScope d.st, mainGlobals, [], .none, builtinsNs)
theorem DX.fun_ {K : PySem.W.Frag} {d : DX} (h1 : seeF K (d.adr K) = d.val) (h2 : codB K (d.adr K) d.qual = true) : ∃ fd, Fun K d.name d.qual d.st (d.adr K) fd := by
  obtain ⟨kp, cd⟩ := two h2
  unfold seeF at h1
  cases l : K.lookup (d.adr K) with
  | none =>
    rw [l] at cd
    cases cd
  | some ob =>
    obtain ⟨oc, od, dt, osl⟩ := ob
    rw [l] at h1 cd
    match dt, h1, cd with
    | .func f, h1, cd =>
      obtain ⟨a1, a2, a3, a4, a5, a6, a7, a8, a9, a10, a11, a12, a13, a14, a15⟩ := f
      have e : (some (a1, a2, a3, a4, a5, a6, a7, a8, a15) : FX) = some (d.name, d.qual, defArgs d.st, .stmts (defBody d.st), defScope d.st, mainGlobals, [], .none, builtinsNs) := h1
      injection e with e
      injection e with e1 e
      injection e with e2 e
      injection e with e3 e
      injection e with e4 e
      injection e with e5 e
      injection e with e6 e
      injection e with e7 e
      injection e with e8 e9
      subst e1 e2 e3 e4 e5 e6 e7 e8 e9
      exact ⟨_, ⟨⟨oc, od, a9, a10, a11, a12, a13, a14, osl, rfl, l, cd⟩, kp⟩⟩
/-! ### the hook -/
abbrev AX : Type := Bool × List FX
def seeX (fa : List (PySem.W.Frag → Bool)) (fn : List DX) (K : PySem.W.Frag) : AX := ((fa.all fun f => f K) && fn.all fun d => codB K (d.adr K) d.qual, fn.map fun d => seeF K (d.adr K))
def wantX (fn : List DX) : AX := (true, fn.map DX.val)
def placesX (xs : List Str) (g : Addr → Option Obj) : Nat → List Addr
  | 0 => (xs.map (ga (He.frG g [mainGlobals])))
  | n + 1 => He.growD g (placesX xs g n)
def partX (xs : List Str) (g : Addr → Option Obj) : PySem.W.Frag := He.frG g (mainGlobals :: PySem.cStatics :: placesX xs g 4)
def hookX (xs : List Str) (fa : List (PySem.W.Frag → Bool)) (fn : List DX) : PySem.W.Hook where
  α := AX
  obs := fun s => seeX fa fn (partX xs s.heap.get?)
  val := fun _ => wantX fn
  says := fun _ h => ∃ K : PySem.W.Frag, K.In h ∧ seeX fa fn K = wantX fn
  of := fun _ _ e => ⟨partX xs _, He.frG_in, e⟩
  keeps := fun _ _ _ p k => match p with
    | ⟨K, hK, c⟩ => ⟨K, PySem.W.Frag.In.keeps hK k, c⟩
theorem seeX_eq {xs : List Str} {fa : List (PySem.W.Frag → Bool)} {fn : List DX} {g : Addr → Option Obj} {s : Shared} (h : ∀ a, g a = s.heap.get? a) : seeX fa fn (partX xs g) = (hookX xs fa fn).obs s := by
  have e : g = s.heap.get? := funext h
  subst e
  rfl
section
variable {fa : List (PySem.W.Frag → Bool)} {fn : List DX} {K : PySem.W.Frag}
theorem fact (c : seeX fa fn K = wantX fn) (i : Nat) {f : PySem.W.Frag → Bool} (h : fa[i]? = some f := by rfl) : f K = true :=
  List.all_eq_true.mp (two (congrArg Prod.fst c)).1 f (List.mem_of_getElem? h)
theorem def_ (c : seeX fa fn K = wantX fn) (i : Nat) {d : DX} (h : fn[i]? = some d := by rfl) : ∃ fd, Fun K d.name d.qual d.st (d.adr K) fd := by
  have h2 : codB K (d.adr K) d.qual = true := List.all_eq_true.mp (two (congrArg Prod.fst c)).2 d (List.mem_of_getElem? h)
  have h3 : (fn.map fun d => seeF K (d.adr K))[i]? = (fn.map DX.val)[i]? := congrArg (fun z : AX => z.2[i]?) c
  rw [List.getElem?_map, List.getElem?_map, h] at h3
  exact DX.fun_ (Option.some.inj h3) h2
end
end OwH
end
section
/-! Own: what a value's repr is; a caught error's class and fields. -/
namespace OwE
open PySem PySem.Spec PyProof.Rows L2
inductive RepV (K : PySem.W.Frag) (H : Hp) : V → Str → Prop where
  | non : RepV K H .non "None"
  | bl (b : Bool) : RepV K H (.bl b) (if b then "True" else "False")
  | int {i : Int} (h : i.natAbs.log2 < 1920) : RepV K H (.int i) (toString i)
  | str {z : Str} (h : (reprText z).length ≤ sizeLine) : RepV K H (.str z) (reprText z)
  | dat {a : Addr} {d : PyData} (h : Dp K H (.ref a) d) (hs : d.showable = true) (hn : d.hasDict = false) (hd : d.depth ≤ 64) (hz : d.shown.length ≤ sizeLine) : RepV K H (.ref a) d.shown
  | dic {a : Addr} (h : H a = some (.dK [])) : RepV K H (.ref a) (PyData.dict []).shown
def rRepr (K : PySem.W.Frag) : List V → Hp → VK → Prop := fun xs H Q => ∃ v r, xs = [v] ∧ RepV K H v r ∧ Q (.str r) H
theorem empty_reads {P : Program} {w : World} {H : Hp} {h : Heap} {a : Addr} (ok : HOk P w H h) (e : H a = some (.dK [])) : Reads h (.ref a) (.dict []) ([a] ++ []) ∧ a ≠ sysModules := by
  obtain ⟨_, ns, vs, kv, o, es, ep, h1, h2, h3, h4⟩ := (show ObjOk P w H h a (.dK []) from ok a _ e)
  refine ⟨?_, fun q => by rw [q] at ns; simp at ns⟩
  have ev : vs = [] := by
    cases kv
    rfl
  subst ev
  have ee : es.toList = [] := by
    have p := h4.2.1
    generalize es.toList = l at p
    cases p
    rfl
  exact Reads.dict h1 h2.1 h3 (by rw [ee]; exact .nil) (by rw [ee]; exact .nil)
theorem cr_repr {X : Cx} (hg : X.A.guards = some []) (hu : X.A.units + 70 < cLine) : CallR X (.builtin "repr") (rRepr X.K) := by
  intro pins s σ H xs us Q I r h
  obtain ⟨v, t, rfl, rep, q⟩ := h
  obtain ⟨u, rfl, rx⟩ := vals1 r
  cases rep with
  | non =>
    cases (show u = Value.none from rx)
    exact PySem.P.repr_of_none ⟨.str _, H, I.tok _, ⟨_, rfl⟩, q⟩
  | bl b =>
    cases (show u = Value.bool b from rx)
    exact PySem.P.repr_of_bool ⟨.str _, H, I.tok _, ⟨_, rfl⟩, q⟩
  | @int i hz =>
    obtain ⟨t, rfl⟩ := (show ∃ t, u = Value.int i t from rx)
    exact PySem.P.repr_of_int hz ⟨.str _, H, I.tok _, ⟨_, rfl⟩, q⟩
  | @str z hz =>
    obtain ⟨t, rfl⟩ := (show ∃ t, u = Value.str z t from rx)
    exact PySem.P.repr_of_str ⟨.str _, H, I.tok _, ⟨_, rfl⟩, q⟩ hz
  | @dat a d hd hs hn hp hz =>
    exact OwR.cr_reprD hg hu pins s σ H _ _ Q I (.cons rx .nil) ⟨a, d, rfl, hd, hs, hn, hp, hz, q⟩
  | @dic a e =>
    cases (show u = Value.ref a from rx)
    obtain ⟨R, ns⟩ := empty_reads I.hok e
    refine repr_of_reads' R (by decide) (fun _ m => ?_) hg (by show X.A.units + (PyData.depth (.dict []) + 1) < cLine; have : PyData.depth (.dict []) ≤ 60 := by decide +kernel
                                                               omega) (fun _ _ z => z) (fun h' u tk k => ?_) (by decide +kernel)
    · rw [List.append_nil, List.mem_singleton] at m
      exact ns m.symm
    · exact ⟨.str _, H, I.kept (t' := tk) k, ⟨u, rfl⟩, q⟩
/-- all that an own error class must say, so that its caught errors are asked -/
structure ErrC (K : PySem.W.Frag) (C : Addr) : Prop where
  ox : OexC K C
  xf : XfC K C
  ha : PySem.W.findIn K (.ref C) "__class__" = some (some (.builtin "object.__class__"))
  hn : PySem.W.specialIn K (.builtin "object.__class__") "__get__" = some (some (.builtin "getset_descriptor.__get__"))
  ht : PySem.W.takesIn K (.builtin "object.__class__") = some true
  hm : PySem.W.mroIn K C (.type "object") = some true
theorem OexC.cl {K : PySem.W.Frag} {C : Addr} (T : OexC K C) : (PySem.W.clsIn K C).isSome = true := by
  obtain ⟨nm, q, N, bs, bm, sn, sub, ab, col, dd, k0, k1, k2, k3, k5, hC, hbm⟩ := T.cls
  unfold PySem.W.clsIn
  rw [hC] <;> rfl
/-- isinstance of the error that the suite holds -/
def rIsE (K : PySem.W.Frag) (a : Addr) (cls : Value) (d : Option Addr) : List V → Hp → VK → Prop := fun xs H Q => ∃ (c : V) (u : Value) (C dd : Addr) (fs : List (Str × V)) (b : Bool), xs = [.ref a, c] ∧ ClsV c u ∧ cls = .ref C ∧ ErrC K C ∧ d = some dd ∧ H dd = some (.xd fs) ∧
  PySem.W.kitOne K (.ref C) u = some b ∧ Q (.bl b) H
theorem call_isE {X : Cx} {a : Addr} {cls : Value} {d : Option Addr} {oe : Obj} {pn : List (Addr × Obj)} (hz : Zc cls d oe) (hf : ∃ vs, oe.data = .fields vs) : CallR (X.suite a ((a, oe) :: pn)) (.builtin "isinstance") (rIsE X.K a cls d) := by
  intro pins s σ H xs us Q I r h
  obtain ⟨c, cv, C, dd, fs, b, rfl, hcv, rfl, T, rfl, ed, e, q⟩ := h
  obtain ⟨u1, u2, rfl, r1, r2⟩ := vals2 r
  cases (show u1 = Value.ref a from r1)
  have e2 := hcv.eq r2
  subst e2
  obtain ⟨hget, _⟩ := I.pin (a, oe) (List.mem_append.mpr (.inl List.mem_cons_self))
  obtain ⟨vs, hv⟩ := hf
  obtain ⟨mA, hns, hr⟩ := (show ObjOk X.prog X.w H s.heap dd (.xd fs) from I.hok dd _ ed)
  obtain ⟨od, ho, hl⟩ := lookIn_ns hns
  have J : PySem.W.InstAt s.heap a oe C (some od) := ⟨hget, hz.1, by unfold PySem.W.notCls; rw [hv] <;> rfl, by rw [hz.2]; exact ho⟩
  exact PySem.W.kia_one (PySem.W.kitx_exc (OexC.cl T.ox) T.xf.ga T.xf.gg T.xf.exC T.ha T.hn T.ht T.hm) I.kIn J e (fun z => nomatch z) fun tk => ⟨.bl b, H, I.tok tk, rfl, q⟩
/-- err.f of the error that the suite holds -/
def tXe (K : PySem.W.Frag) (a : Addr) (cls : Value) (d : Option Addr) (f : Str) (te : TE) : TE := fun σ H Q => te σ H fun x H1 => x = .ref a ∧ ∃ (C dd : Addr) (fs : List (Str × V)) (v : V), cls = .ref C ∧ ErrC K C ∧ PySem.W.findIn K (.ref C) f = some none ∧ d = some dd ∧ H1 dd = some (.xd fs) ∧ fs.lookup f = some v ∧ Q v H1
theorem pe_xe {X : Cx} {a : Addr} {oe : Obj} {cls : Value} {d : Option Addr} {pn : List (Addr × Obj)} {e : Expr} {te : TE} {pos : Pos} {n : Str} (hz : Zc cls d oe) (hf : ∃ vs, oe.data = .fields vs) (he : PE (X.suite a ((a, oe) :: pn)) e te) (hb : attributeBase e n X.env (eval e X.env) = eval e X.env := by rfl) :
    PE (X.suite a ((a, oe) :: pn)) (.Attribute e n pos) (tXe X.K a cls d n te) := by
  refine ⟨fun pins s σ H Q I h => ?_⟩
  refine attr_of hb (thn (he.run pins s σ H _ I h) fun u s1 hh => ?_)
  obtain ⟨x, H1, I1, rx, ex, C, dd, fs, v, ec, T, hno, ed, ea, l, q⟩ := hh
  subst ex ec ed
  obtain rfl : u = Value.ref a := rx
  obtain ⟨ha, _⟩ := I1.pin (a, oe) (List.mem_append_left _ List.mem_cons_self)
  obtain ⟨vs, hd⟩ := hf
  obtain ⟨mA, hns, hr⟩ := (show ObjOk X.prog X.w H1 s1.heap dd (.xd fs) from I1.hok dd _ ea)
  obtain ⟨od, ho, hl⟩ := lookIn_ns hns
  obtain ⟨u, hu, ru⟩ := RelO.some_of (v := v) (o := mA n) (by rw [← l]; exact hr n)
  have J : PySem.W.InstAt s1.heap a oe C (some od) := ⟨ha, hz.1, by unfold PySem.W.notCls; rw [hd] <;> rfl, by rw [hz.2]; exact ho⟩
  exact HandSPX.exc_get I1.kIn J T.xf.ga T.xf.gg T.xf.exC (PySem.W.findObj_own T.xf.hdC hno rfl (by rw [hl, hu])) (handed_of ru) ⟨v, H1, I1.tok _, ru, q⟩
/-! ### an error class with one field, with two -/
def spErr1 (K : PySem.W.Frag) (f : Str) : Sp := fun vs H Q _ => ∃ (a C : Addr) (v : V), vs = [.ref a, v] ∧ OexC K C ∧ PySem.W.findIn K (.ref C) f = some none ∧ H a = some (exo a C none) ∧
  ∀ dx, H dx = none → dx ≠ a → Q .non (upd (upd H dx (exd dx [(f, v)])) a (exo a C (some dx)))
theorem err_heap {H : Hp} {a d C : Addr} {fs : List (Str × V)} (ne : d ≠ a) (ha : H a = none) : upd (del (upd (upd (upd H a (exo a C none)) d (exd d fs)) a (exo a C (some d))) a) d (.xd fs) = upd H d (.xd fs) := by
  funext b
  by_cases h1 : b = d
  · rw [h1, upd_same, upd_same]
  · rw [upd_ne h1, upd_ne h1]
    by_cases h2 : b = a
    · rw [h2, del_same, ha]
    · rw [del_ne h2, upd_ne h2, upd_ne h1, upd_ne h2]
theorem mk_err1 {K : PySem.W.Frag} {C : Addr} {f : Str} {v : V} {H : Hp} {E : XK} (T : OexC K C) (hno : PySem.W.findIn K (.ref C) f = some none) (k : ∀ d, H d = none → E (.ref C) (some d) (upd H d (.xd [(f, v)]))) :
    ([v] : List V).length ≤ 1000 ∧ ∀ a, H a = none → spErr1 K f (.ref a :: ([v] ++ [])) (upd H a (exo a C none)) (fun v H2 => v = .non ∧ ∃ (d : Addr) (fs : List (Str × V)), H2 a = some (exo a C (some d)) ∧ H2 d = some (exd d fs) ∧ H d = none ∧ E (.ref C) (some d) (upd (del H2 a) d (.xd fs))) (fun _ _ _ => False) := by
  refine ⟨by show (1 : Nat) ≤ 1000; decide, fun a ha => ⟨a, C, v, rfl, T, hno, upd_same, fun dx hd ne => ⟨rfl, dx, [(f, v)], upd_same, by rw [upd_ne ne, upd_same], ?_, ?_⟩⟩⟩
  · rw [upd_ne ne] at hd
    exact hd
  · rw [err_heap ne ha]
    rw [upd_ne ne] at hd
    exact k dx hd
end OwE
end
section
/-! Own: what the end of the top says, with the tables of the code of some defs. -/
namespace OwH
open PySem PySem.Spec PyProof.Rows L2
def codA (K : PySem.W.Frag) (f : Addr) : Addr := match K.lookup f with
  | some ⟨_, _, .func fd, _⟩ => (match fd.code with
    | .ref c => c
    | _ => 0)
  | _ => 0
theorem codA_eq {K : PySem.W.Frag} {f c : Addr} {oc : Value} {od : Option Addr} {osl : Array (Option Value)} {fd : FuncData} (lk : K.lookup f = some ⟨oc, od, .func fd, osl⟩) (e : fd.code = .ref c) : codA K f = c := by
  unfold codA
  rw [lk]
  show (match fd.code with | .ref c => c | _ => 0) = c
  rw [e]
/-- the code of the def at f, its table -/
def cTab (K : PySem.W.Frag) (f : Addr) : Addr × Addr := (codA K f, He.tabOf K (codA K f))
def tabsOk (g : Addr → Option Obj) (tf : List (PySem.W.Frag → Addr)) (K : PySem.W.Frag) : Bool := tf.all fun f => PySem.W.codeHdIn K (cTab K (f K)).1 (cTab K (f K)).2 && (match g (cTab K (f K)).2 with
  | some o => He.emptyTab o
  | none => false)
def partT (xs : List Str) (g : Addr → Option Obj) : PySem.W.Frag := He.frT g (mainGlobals :: PySem.cStatics :: placesX xs g 4)
structure SaysT (fa : List (PySem.W.Frag → Bool)) (fn : List DX) (tf : List (PySem.W.Frag → Addr)) (h : Heap) (K : PySem.W.Frag) : Prop where
  see : seeX fa fn K = wantX fn
  hd : ∀ f ∈ tf, PySem.W.codeHdIn K (cTab K (f K)).1 (cTab K (f K)).2 = true
  out : ∀ f ∈ tf, K.lookup (cTab K (f K)).2 = none
  empty : ∀ f ∈ tf, h.get? (cTab K (f K)).2 = some OwR.tabO
abbrev AT : Type := AX × Bool
def obsT (xs : List Str) (fa : List (PySem.W.Frag → Bool)) (fn : List DX) (tf : List (PySem.W.Frag → Addr)) (g : Addr → Option Obj) : AT := (seeX fa fn (partT xs g), tabsOk g tf (partT xs g))
theorem saysT_of {xs : List Str} {fa : List (PySem.W.Frag → Bool)} {fn : List DX} {tf : List (PySem.W.Frag → Addr)} {h : Heap} (e : obsT xs fa fn tf h.get? = (wantX fn, true)) : SaysT fa fn tf h (partT xs h.get?) := by
  have e1 : seeX fa fn (partT xs h.get?) = wantX fn := congrArg Prod.fst e
  have e2 : tabsOk h.get? tf (partT xs h.get?) = true := congrArg Prod.snd e
  have key : ∀ f ∈ tf, PySem.W.codeHdIn (partT xs h.get?) (cTab (partT xs h.get?) (f (partT xs h.get?))).1 (cTab (partT xs h.get?) (f (partT xs h.get?))).2 = true ∧ ∃ o, h.get? (cTab (partT xs h.get?) (f (partT xs h.get?))).2 = some o ∧ He.emptyTab o = true := fun f hf => by
    obtain ⟨h3, h4⟩ := two (List.all_eq_true.mp e2 f hf)
    refine ⟨h3, ?_⟩
    cases q : h.get? (cTab (partT xs h.get?) (f (partT xs h.get?))).2 with
    | none =>
      rw [q] at h4
      cases h4
    | some o =>
      rw [q] at h4
      exact ⟨o, rfl, h4⟩
  refine ⟨e1, fun f hf => (key f hf).1, fun f hf => ?_, fun f hf => ?_⟩
  · obtain ⟨_, o, q, z⟩ := key f hf
    exact He.frT_none q z
  · obtain ⟨_, o, q, z⟩ := key f hf
    rw [q, He.emptyTab_eq z]
def hookT (xs : List Str) (fa : List (PySem.W.Frag → Bool)) (fn : List DX) (tf : List (PySem.W.Frag → Addr)) : PySem.W.Hook where
  α := AT
  obs := fun s => obsT xs fa fn tf s.heap.get?
  val := fun _ => (wantX fn, true)
  says := fun _ h => ∃ K : PySem.W.Frag, K.In h ∧ SaysT fa fn tf h K
  of := fun _ _ e => ⟨_, He.frT_in, saysT_of e⟩
  keeps := fun _ _ _ p k => match p with
    | ⟨K, hK, c⟩ => ⟨K, PySem.W.Frag.In.keeps hK k, ⟨c.see, c.hd, c.out, fun f hf => k _ _ (c.empty f hf)⟩⟩
theorem obsT_eq {xs : List Str} {fa : List (PySem.W.Frag → Bool)} {fn : List DX} {tf : List (PySem.W.Frag → Addr)} {g : Addr → Option Obj} {s : Shared} (h : ∀ a, g a = s.heap.get? a) : obsT xs fa fn tf g = (hookT xs fa fn tf).obs s := by
  have e : g = s.heap.get? := funext h
  rw [e] <;> rfl
/-! ### facts of error classes -/
def oexB (K : PySem.W.Frag) (C : Addr) : Bool := match K.lookup C with
  | some ⟨.type t, _, .cls cd, sl⟩ => decide (t = "type") && (match cd.mro, sl.toList with
    | .ref D :: bm, [_, _, _, _, some (.builtin n), _] => decide (D = C) && (decide (n = "ValueError.__new__") && (cd.hasDict && (!cd.hasDel && PySem.HandSPX.refsVE bm)))
    | _, _ => false)
  | _ => false
theorem oexB_ok {K : PySem.W.Frag} {C : Addr} (h : oexB K C = true) : ∃ nm q N bs bm sn sub ab col dd k0 k1 k2 k3 k5, K.lookup C = some (excClassObj nm q C N bs bm true sn sub ab col dd k0 k1 k2 k3 k5 "ValueError.__new__") ∧ PySem.HandSPX.refsVE bm = true := by
  unfold oexB at h
  split at h
  · rename_i t dd cd sl ho
    obtain ⟨h1, h2⟩ := two h
    split at h2
    · rename_i D bm k0 k1 k2 k3 n k5 hm hs
      obtain ⟨a1, h3⟩ := two h2
      obtain ⟨a2, h4⟩ := two h3
      obtain ⟨a3, h5⟩ := two h4
      obtain ⟨a4, a5⟩ := two h5
      have e1 := of_decide_eq_true h1
      have e2 := of_decide_eq_true a1
      have e3 := of_decide_eq_true a2
      subst e1 e2 e3
      obtain ⟨nm, bs, mro, ns, qn, hd, sn, sub, ab, col, del⟩ := cd
      have esl : sl = #[k0, k1, k2, k3, some (.builtin "ValueError.__new__"), k5] := by
        obtain ⟨l⟩ := sl
        have hs : l = _ := hs
        rw [hs]
      have em : mro = .ref D :: bm := hm
      have ed : hd = true := a3
      have el : del = false := by
        cases del with
        | true => cases a4
        | false => rfl
      subst esl em ed el
      exact ⟨nm, qn, ns, bs, bm, sn, sub, ab, col, dd, k0, k1, k2, k3, k5, ho, a5⟩
    · cases h2
  · cases h
def fErr (x : Str) (K : PySem.W.Frag) : Bool := oexB K (ga K x) && (He.eqO (PySem.W.findIn K (.ref (ga K x)) "__setattr__") (some (some (.builtin "object.__setattr__"))) && (decide (PySem.W.typeIn K (.ref (ga K x)) = some (.type "type")) && (PySem.W.keepIn K (.ref (ga K x)) && (xfB K (ga K x) &&
  (He.eqO (PySem.W.findIn K (.ref (ga K x)) "__class__") (some (some (.builtin "object.__class__"))) && (He.eqO (PySem.W.specialIn K (.builtin "object.__class__") "__get__") (some (some (.builtin "getset_descriptor.__get__"))) &&
  (decide (PySem.W.takesIn K (.builtin "object.__class__") = some true) && decide (PySem.W.mroIn K (ga K x) (.type "object") = some true))))))))
theorem err_ok {x : Str} {K : PySem.W.Frag} (h : fErr x K = true) : OwE.ErrC K (ga K x) := by
  obtain ⟨a1, h⟩ := two h
  obtain ⟨a2, h⟩ := two h
  obtain ⟨a3, h⟩ := two h
  obtain ⟨a4, h⟩ := two h
  obtain ⟨a5, h⟩ := two h
  obtain ⟨a6, h⟩ := two h
  obtain ⟨a7, h⟩ := two h
  obtain ⟨a8, a9⟩ := two h
  have X := xfB_ok a5
  exact ⟨⟨oexB_ok a1, He.eqO_ok a2, X.exC, of_decide_eq_true a3, a4⟩, X, He.eqO_ok a6, He.eqO_ok a7, of_decide_eq_true a8, of_decide_eq_true a9⟩
/-- the class's __init__ is the def at its place -/
def fIni (x : Str) (K : PySem.W.Frag) : Bool := He.eqO (PySem.W.findIn K (.ref (ga K x)) "__init__") (some (some (.ref (mo K x "__init__")))) && decide (PySem.W.typeIn K (.ref (mo K x "__init__")) = some (.type "function"))
theorem ini_ok {x : Str} {K : PySem.W.Frag} (h : fIni x K = true) : PySem.W.findIn K (.ref (ga K x)) "__init__" = some (some (.ref (mo K x "__init__"))) ∧ PySem.W.typeIn K (.ref (mo K x "__init__")) = some (.type "function") := ⟨He.eqO_ok (two h).1, of_decide_eq_true (two h).2⟩
/-- no attribute of that name in the class -/
def fNoF (x n : Str) (K : PySem.W.Frag) : Bool := decide (PySem.W.findIn K (.ref (ga K x)) n = some none)
def fExm (x y : Str) (b : Bool) (K : PySem.W.Frag) : Bool := decide (PySem.W.exmOne K (.ref (ga K x)) (.ref (ga K y)) = some b)
def fKit (x y : Str) (b : Bool) (K : PySem.W.Frag) : Bool := decide (PySem.W.kitOne K (.ref (ga K x)) (.ref (ga K y)) = some b)
/-- what isinstance and the like ask of the objects of the class -/
def fIsC (x : Str) (K : PySem.W.Frag) : Bool := He.eqO (PySem.W.findIn K (.ref (ga K x)) "__class__") (some (some (.builtin "object.__class__"))) && (He.eqO (PySem.W.specialIn K (.builtin "object.__class__") "__get__") (some (some (.builtin "getset_descriptor.__get__"))) &&
  (decide (PySem.W.takesIn K (.builtin "object.__class__") = some true) && decide (PySem.W.mroIn K (ga K x) (.type "object") = some true)))
theorem isC_ok {x : Str} {K : PySem.W.Frag} (h : fIsC x K = true) : PySem.W.findIn K (.ref (ga K x)) "__class__" = some (some (.builtin "object.__class__")) ∧ PySem.W.specialIn K (.builtin "object.__class__") "__get__" = some (some (.builtin "getset_descriptor.__get__")) ∧ PySem.W.takesIn K (.builtin "object.__class__") = some true ∧ PySem.W.mroIn K (ga K x) (.type "object") = some true := by
  obtain ⟨a1, h⟩ := two h
  obtain ⟨a2, h⟩ := two h
  obtain ⟨a3, a4⟩ := two h
  exact ⟨He.eqO_ok a1, He.eqO_ok a2, of_decide_eq_true a3, of_decide_eq_true a4⟩
/-- the class (or one above it) has the def at its place as m -/
def fHas (x m : Str) (K : PySem.W.Frag) : Bool := He.eqO (PySem.W.findIn K (.ref (ga K x)) m) (some (some (.ref (mo K x m)))) && PySem.W.isFn K (.ref (mo K x m))
theorem has_ok {x m : Str} {K : PySem.W.Frag} (h : fHas x m K = true) : PySem.W.findIn K (.ref (ga K x)) m = some (some (.ref (mo K x m))) ∧ PySem.W.isFn K (.ref (mo K x m)) = true := ⟨He.eqO_ok (two h).1, (two h).2⟩
/-- != of the class is object's -/
def fNe (x : Str) (K : PySem.W.Frag) : Bool := He.eqO (PySem.W.findIn K (.ref (ga K x)) "__ne__") (some (some (.builtin "object.__ne__")))
theorem ne_ok {x : Str} {K : PySem.W.Frag} (h : fNe x K = true) : PySem.W.findIn K (.ref (ga K x)) "__ne__" = some (some (.builtin "object.__ne__")) := He.eqO_ok h
def fNot (x : Str) (t : PySem.W.Frag → Value) (K : PySem.W.Frag) : Bool := PySem.W.notFirst K (ga K x) (t K)
end OwH
end
section
/-! Operators and comparisons that an own class defines. -/
namespace OwR
open PySem PySem.Spec PyProof.Rows L2
/-- an own operator between instances of two own classes, neither below the other -/
theorem bin_two {prog : Program} {w : World} {A : Around} {E : Value → Shared → Prop} {s : Shared} {K : PySem.W.Frag} {x C D f f2 : Addr} {ox : Obj} {od : Option Obj} {op : Operator} {b : Value} {rc rd : Option Value} {Q : Value → Shared → Prop} (X : K.In s.heap) (I : PySem.W.InstAt s.heap x ox C od)
    (hb : PySem.W.Looks (model prog w) s.heap (typeOf b) (.ref D)) (ne : (Value.ref C == Value.ref D) = false) (cC : PySem.W.selfFirst K C = true) (cD : PySem.W.selfFirst K D = true) (sC : PySem.W.findIn K (.ref C) (PySem.dunder op.info.2) = some (some (.ref f))) (sD : PySem.W.findIn K (.ref D) (PySem.dunder op.info.2) = some (some (.ref f2)))
    (rC : PySem.W.findIn K (.ref C) (dunderR op.info.2) = some rc) (pC : rc = none ∨ ∃ g : Addr, rc = some (.ref g)) (rD : PySem.W.findIn K (.ref D) (dunderR op.info.2) = some rd) (pD : rd = none ∨ ∃ g : Addr, rd = some (.ref g))
    (sub : PySem.W.subIn K (.ref D) (.ref C) = some false) (hf : PySem.W.isFn K (.ref f) = true) (h : wpAny (model prog w) A (call (.ref f) [.ref x, b]) (PySem.W.CmpBack Q) E s) : wpAny (model prog w) A (binaryOp op (.ref x) b) Q E s := by
  obtain ⟨c1, r1, k1, m1⟩ := PySem.W.ksp_first cC
  obtain ⟨c2, r2, k2, m2⟩ := PySem.W.ksp_first cD
  rcases hi : op.info with ⟨sym, nm⟩
  rw [hi] at sC sD rC rD
  dsimp only at sC sD rC rD
  have one := PySem.W.ksp_try X I sC hf h
  obtain ⟨hp, gs, dr, tk, os⟩ := s
  have L1 : PySem.W.Looks (model prog w) hp (typeOf (.ref x)) (.ref C) := I.type
  have L2 : PySem.W.Looks (model prog w) hp (typeOf b) (.ref D) := hb
  have L3 : PySem.W.Looks (model prog w) hp (fillsNumberSlot (.ref C) nm) true := PySem.W.fills_K X k1 m1 sC
  have L4 : PySem.W.Looks (model prog w) hp (fillsNumberSlot (.ref D) nm) true := PySem.W.fills_K X k2 m2 sD
  have L5 : PySem.W.Looks (model prog w) hp (isSubtype (.ref D) (.ref C)) false := PySem.W.looks_subIn X sub
  have L6 : PySem.W.Looks (model prog w) hp (numberSlotInPython (.ref C) nm) true := PySem.W.ksp_inPy X sC rC pC
  have L7 : PySem.W.Looks (model prog w) hp (numberSlotInPython (.ref D) nm) true := PySem.W.ksp_inPy X sD rD pD
  simp only [binaryOp, hi]
  refine wpAny_holding (wpAny_bind ?_)
  unfold binaryOp1
  refine wpAny_bind (L1.at (wpAny_bind (L2.at (wpAny_bind (L3.at ?_)))))
  simp only [ne, Bool.false_eq_true, if_false]
  ksp_lk
  refine wpAny_mono one (fun r s' q => ?_) fun _ _ e => e
  obtain ⟨v, rfl, hq⟩ := q
  ksp_lk
  exact hq
/-- what a class must have for an operator of its own -/
structure Bin1 (K : PySem.W.Frag) (op : Operator) (C g : Addr) : Prop where
  self : PySem.W.selfFirst K C = true
  at_ : PySem.W.findIn K (.ref C) (PySem.dunder op.info.2) = some (some (.ref g))
  fn : PySem.W.isFn K (.ref g) = true
  refl : ∃ rc, PySem.W.findIn K (.ref C) (dunderR op.info.2) = some rc ∧ (rc = none ∨ ∃ h : Addr, rc = some (.ref h))
/-- .. between two classes: one, or neither above the other -/
def BinP (K : PySem.W.Frag) (op : Operator) (C D g : Addr) : Prop := Bin1 K op C g ∧ (C = D ∨ ((∃ g', Bin1 K op D g') ∧ C ≠ D ∧ PySem.W.subIn K (.ref D) (.ref C) = some false))
structure BinT (K : PySem.W.Frag) (op : Operator) (C : Addr) (T : String) : Prop where
  f : ∃ fo, PySem.W.findIn K (.type T) (PySem.dunder op.info.2) = some fo
  r : ∃ ro, PySem.W.findIn K (.type T) (dunderR op.info.2) = some ro
  sub : PySem.W.subIn K (.type T) (.ref C) = some false
def tyS : V → Option String
  | .non => some "NoneType" | .bl _ => some "bool" | .int _ => some "int" | .str _ => some "str" | _ => none
theorem tyS_of {y : V} {u : Value} {T : String} (r : RelV y u) (h : tyS y = some T) : typeOf u = pure (.type T) := by
  cases y with
  | non => cases (show u = Value.none from r); cases h; rfl
  | bl b => cases (show u = Value.bool b from r); cases h; rfl
  | int i => obtain ⟨t, rfl⟩ := r; cases h; rfl
  | str z => obtain ⟨t, rfl⟩ := r; cases h; rfl
  | _ => cases h
def rOwn2 (K : PySem.W.Frag) (op : Operator) (g : Addr) (sp : Sp) (E : XK) : R2 := fun x y H Q => ∃ (p q C D dx dy : Addr) (fs gs : List (Str × V)), x = .ref p ∧ y = .ref q ∧ H p = some (.ins C dx fs) ∧ H q = some (.ins D dy gs) ∧ BinP K op C D g ∧ sp [.ref p, .ref q] H Q E
def rOwnT (K : PySem.W.Frag) (op : Operator) (g : Addr) (sp : Sp) (E : XK) : R2 := fun x y H Q => ∃ (p C dx : Addr) (fs : List (Str × V)) (T : String), x = .ref p ∧ H p = some (.ins C dx fs) ∧ tyS y = some T ∧ Bin1 K op C g ∧ BinT K op C T ∧ sp [.ref p, y] H Q E
section
variable {X : Cx} {CX : CXT} {k : Nat} {g : Addr} {sp : Sp} {E : XK} {op : Operator}
theorem ep_back {pins : List (Addr × Obj)} {σ : L2.St} {Q : VK} {u : Value} {s : Shared} (h : EP X pins σ Q u s) : PySem.W.CmpBack (EP X pins σ Q) u s := by
  obtain ⟨v, H, I, r, q⟩ := h
  unfold PySem.W.CmpBack
  split
  · cases v with
    | int i => obtain ⟨_, z⟩ := r; cases z
    | str i => obtain ⟨_, z⟩ := r; cases z
    | byt i => obtain ⟨_, z⟩ := r; cases z
    | flt i => obtain ⟨_, z⟩ := r; cases z
    | _ => cases r
  · exact ⟨v, H, I, r, q⟩
theorem run_own {pins : List (Addr × Obj)} {σ : L2.St} {H : Hp} {s : Shared} {Q : VK} {us : List Value} {vs : List V} (F : FnR X.prog X.w X.K X.mg X.base CX k g sp) (hr : Room k X.A) (hx : Passes CX X E) (I : Inv X pins σ H s) (r : Vals vs us) (h : sp vs H Q E) :
    wpAny (model X.prog X.w) X.A (call (.ref g) us) (PySem.W.CmpBack (EP X pins σ Q)) X.xe s := wpAny_mono (wpAny_call (run_fnR F hr hx I r h)) (fun _ _ q => ep_back q) fun _ _ q => q
theorem op_own2 (F : FnR X.prog X.w X.K X.mg X.base CX k g sp) (hr : Room k X.A) (hx : Passes CX X E) : OpR X (binaryOp op) (rOwn2 X.K op g sp E) := by
  intro pins s σ H x y v u Q I rx ry h
  obtain ⟨p, q, C, D, dx, dy, fs, gs, rfl, rfl, ep, eq, ⟨b1, b2⟩, hq⟩ := h
  obtain rfl : v = Value.ref p := rx
  obtain rfl : u = Value.ref q := ry
  obtain ⟨ox, od, J, _⟩ := StX.insC_at I (.inr ⟨dx, fs, ep⟩)
  obtain ⟨oy, oe, J2, _⟩ := StX.insC_at I (.inr ⟨dy, gs, eq⟩)
  have go := run_own F hr hx I (us := [.ref p, .ref q]) (vs := [.ref p, .ref q]) (.cons rfl (.cons rfl .nil)) hq
  obtain ⟨mm, fr⟩ := I.fr
  rcases b2 with rfl | ⟨⟨g', b2⟩, ne, sub⟩
  · exact PySem.W.binop_K fr I.ok.mod.kin J J2.type b1.self b1.at_ b1.fn go
  · obtain ⟨rc, e1, e2⟩ := b1.refl
    obtain ⟨rd, e3, e4⟩ := b2.refl
    exact bin_two I.kIn J J2.type (Bool.eq_false_iff.mpr fun z => ne (by cases beq_iff_eq.mp z; rfl)) b1.self b2.self b1.at_ b2.at_ e1 e2 e3 e4 sub b1.fn go
theorem op_ownT (F : FnR X.prog X.w X.K X.mg X.base CX k g sp) (hr : Room k X.A) (hx : Passes CX X E) : OpR X (binaryOp op) (rOwnT X.K op g sp E) := by
  intro pins s σ H x y v u Q I rx ry h
  obtain ⟨p, C, dx, fs, T, rfl, ep, ty, b1, bT, hq⟩ := h
  obtain rfl : v = Value.ref p := rx
  obtain ⟨ox, od, J, _⟩ := StX.insC_at I (.inr ⟨dx, fs, ep⟩)
  obtain ⟨mm, fr⟩ := I.fr
  obtain ⟨rc, e1, e2⟩ := b1.refl
  obtain ⟨fo, e3⟩ := bT.f
  obtain ⟨ro, e4⟩ := bT.r
  exact PySem.W.ksp_binT fr I.ok.mod.kin J (tyS_of ry ty) b1.self b1.at_ b1.fn e1 e2 e3 e4 bT.sub (run_own F hr hx I (us := [.ref p, u]) (vs := [.ref p, y]) (.cons rfl (.cons ry .nil)) hq)
/-! ### comparisons -/
structure Cmp1 (K : PySem.W.Frag) (op : CmpOp) (C g : Addr) : Prop where
  at_ : PySem.W.findIn K (.ref C) (cmpInfo op).2.1 = some (some (.ref g))
  fn : PySem.W.isFn K (.ref g) = true
def rCmp2 (K : PySem.W.Frag) (op : CmpOp) (g : Addr) (sp : Sp) (E : XK) : R2 := fun x y H Q => ∃ (p q C D dx dy : Addr) (fs gs : List (Str × V)), x = .ref p ∧ y = .ref q ∧ H p = some (.ins C dx fs) ∧ H q = some (.ins D dy gs) ∧ Cmp1 K op C g ∧ PySem.W.notFirst K C (.ref D) = true ∧ sp [.ref p, .ref q] H Q E
theorem rc_own2 {o : CmpOp} (hu : X.A.units < cLine) (F : FnR X.prog X.w X.K X.mg X.base CX k g sp) (hr : Room k X.A) (hx : Passes CX X E) : OpR X (richCompare o) (rCmp2 X.K o g sp E) := by
  intro pins s σ H x y v u Q I rx ry h
  obtain ⟨p, q, C, D, dx, dy, fs, gs, rfl, rfl, ep, eq, c1, nf, hq⟩ := h
  obtain rfl : v = Value.ref p := rx
  obtain rfl : u = Value.ref q := ry
  obtain ⟨ox, od, J, _⟩ := StX.insC_at I (.inr ⟨dx, fs, ep⟩)
  obtain ⟨oy, oe, J2, _⟩ := StX.insC_at I (.inr ⟨dy, gs, eq⟩)
  obtain ⟨mm, fr⟩ := I.fr
  exact PySem.W.cmp_K hu fr I.ok.mod.kin J J2.type nf c1.at_ c1.fn (run_own F hr hx I (us := [.ref p, .ref q]) (vs := [.ref p, .ref q]) (.cons rfl (.cons rfl .nil)) hq)
theorem op_ownEq (hu : X.A.units < cLine) (F : FnR X.prog X.w X.K X.mg X.base CX k g sp) (hr : Room k X.A) (hx : Passes CX X E) : OpR X (compareOp .Eq) (rCmp2 X.K .Eq g sp E) := fun pins s σ H x y v u Q I rx ry h => PySem.W.cmp_ofEq (rc_own2 hu F hr hx pins s σ H x y v u Q I rx ry h)
theorem op_ownLe (hu : X.A.units < cLine) (F : FnR X.prog X.w X.K X.mg X.base CX k g sp) (hr : Room k X.A) (hx : Passes CX X E) : OpR X (compareOp .LtE) (rCmp2 X.K .LtE g sp E) := fun pins s σ H x y v u Q I rx ry h => PySem.W.cmp_ofLtE (rc_own2 hu F hr hx pins s σ H x y v u Q I rx ry h)
theorem op_ownLt (hu : X.A.units < cLine) (F : FnR X.prog X.w X.K X.mg X.base CX k g sp) (hr : Room k X.A) (hx : Passes CX X E) : OpR X (compareOp .Lt) (rCmp2 X.K .Lt g sp E) := fun pins s σ H x y v u Q I rx ry h => PySem.W.cmp_ofLt (rc_own2 hu F hr hx pins s σ H x y v u Q I rx ry h)
theorem op_ownGe (hu : X.A.units < cLine) (F : FnR X.prog X.w X.K X.mg X.base CX k g sp) (hr : Room k X.A) (hx : Passes CX X E) : OpR X (compareOp .GtE) (rCmp2 X.K .GtE g sp E) := fun pins s σ H x y v u Q I rx ry h => PySem.W.cmp_ofGtE (rc_own2 hu F hr hx pins s σ H x y v u Q I rx ry h)
theorem op_ownGt (hu : X.A.units < cLine) (F : FnR X.prog X.w X.K X.mg X.base CX k g sp) (hr : Room k X.A) (hx : Passes CX X E) : OpR X (compareOp .Gt) (rCmp2 X.K .Gt g sp E) := fun pins s σ H x y v u Q I rx ry h => PySem.W.cmp_ofGt (rc_own2 hu F hr hx pins s σ H x y v u Q I rx ry h)
end
end OwR
end
section
/-! Facts of the end of the top about special methods of a class. Own. -/
namespace OwH
open PySem PySem.Spec PyProof.Rows L2
def hasF (K : PySem.W.Frag) (C : Value) (m : Str) (f : Addr) : Bool := He.eqO (PySem.W.findIn K C m) (some (some (.ref f))) && PySem.W.isFn K (.ref f)
theorem hasF_ok {K : PySem.W.Frag} {C : Value} {m : Str} {f : Addr} (h : hasF K C m f = true) : PySem.W.findIn K C m = some (some (.ref f)) ∧ PySem.W.isFn K (.ref f) = true := ⟨He.eqO_ok (two h).1, (two h).2⟩
def noneOrRef : Option (Option Value) → Bool
  | some none => true
  | some (some (.ref _)) => true
  | _ => false
theorem noneOrRef_ok {x : Option (Option Value)} (h : noneOrRef x = true) : ∃ rc, x = some rc ∧ (rc = none ∨ ∃ g : Addr, rc = some (.ref g)) := by
  match x, h with
  | some none, _ => exact ⟨none, rfl, .inl rfl⟩
  | some (some (.ref g)), _ => exact ⟨_, rfl, .inr ⟨g, rfl⟩⟩
def fBin (op : Operator) (K : PySem.W.Frag) (C f : Addr) : Bool := PySem.W.selfFirst K C && (hasF K (.ref C) (PySem.dunder op.info.2) f && noneOrRef (PySem.W.findIn K (.ref C) (dunderR op.info.2)))
theorem fBin_ok {op : Operator} {K : PySem.W.Frag} {C f : Addr} (h : fBin op K C f = true) : OwR.Bin1 K op C f :=
  ⟨(two h).1, (hasF_ok (two (two h).2).1).1, (hasF_ok (two (two h).2).1).2, noneOrRef_ok (two (two h).2).2⟩
def fBinT (op : Operator) (K : PySem.W.Frag) (C : Addr) (T : String) : Bool := (PySem.W.findIn K (.type T) (PySem.dunder op.info.2)).isSome && ((PySem.W.findIn K (.type T) (dunderR op.info.2)).isSome && decide (PySem.W.subIn K (.type T) (.ref C) = some false))
theorem fBinT_ok {op : Operator} {K : PySem.W.Frag} {C : Addr} {T : String} (h : fBinT op K C T = true) : OwR.BinT K op C T :=
  ⟨Option.isSome_iff_exists.mp (two h).1, Option.isSome_iff_exists.mp (two (two h).2).1, of_decide_eq_true (two (two h).2).2⟩
def fPropAt (K : PySem.W.Frag) (C : Addr) (m : Str) (p : Addr) : Bool := He.eqO (PySem.W.findIn K (.ref C) m) (some (some (.ref p))) && (He.eqO (PySem.W.specialIn K (.ref p) "__get__") (some (some (.builtin "property.__get__"))) && (decide (PySem.W.takesIn K (.ref p) = some true) && recOk K p "property"))
theorem propAt_ok {K : PySem.W.Frag} {C p : Addr} {m : Str} (h : fPropAt K C m p = true) : PropOf K C m p (inRec K p "property") := ⟨He.eqO_ok (two h).1, He.eqO_ok (two (two h).2).1, of_decide_eq_true (two (two (two h).2).2).1, recOk_ok (two (two (two h).2).2).2⟩
def fMethAt (K : PySem.W.Frag) (C : Addr) (m : Str) (f : Addr) : Bool := hasF K (.ref C) m f && PySem.W.keepIn K (.ref f)
theorem methAt_ok {K : PySem.W.Frag} {C f : Addr} {m : Str} (h : fMethAt K C m f = true) : Meth K C m f := ⟨(hasF_ok (two h).1).1, (hasF_ok (two h).1).2, (two h).2⟩
end OwH
end
section
/-! a != b of own classes that define == alone. -/
namespace OwR
open PySem PySem.Spec PyProof.Rows L2
theorem slot_ne : Slot "object" "__ne__" "object.__ne__" := Slot.of (T := "object") (name := "__ne__") (owner := "object") (n := "__ne__") (by rw [typeLookup_type, builtinLookup_eq_fast]; kernel_rfl) (by decide +kernel) (by decide +kernel) (by decide +kernel)
  (.inl (by decide +kernel)) (by rw [isSubtype_type]; kernel_rfl)
theorem entry_ne : entryFor table "object.__ne__" = some Builtin.«object.__ne__» := entryFor_of_tree (by kernel_rfl)
theorem args_ne (a b : Value) : argsOk "object.__ne__" ⟨[a, b], []⟩ := by unfold argsOk; kernel_rfl
section
variable {prog : Program} {w : World} {A : Around} {E : Value → Shared → Prop} {s : Shared} {K : PySem.W.Frag} {x C f : Addr} {ox : Obj} {od : Option Obj} {b : Value}
theorem bound_ne {M : Model} {args : List Value} {Q : Option Value → Shared → Prop} (sp : PySem.W.Looks M s.heap (specialOf (.ref x) "__ne__") (some (.builtin "object.__ne__"))) (h : wpAny M A (call (.builtin "object.__ne__") (.ref x :: args)) (fun v => Q (some v)) E s) :
    wpAny M A (callSpecialIfBound? (.ref x) "__ne__" args) Q E s := by
  have fin : wpAny M A (call (.builtin "object.__ne__") ([.ref x] ++ args) >>= fun v => pure (some v)) Q E s := wpAny_bind (wpAny_mono h (fun v s' q => wpAny_pure q) fun _ _ q => q)
  have hb : bindSpecial (.builtin "object.__ne__") (.ref x) = pure (.builtin "object.__ne__", [.ref x]) := slot_ne.bind _
  simp only [callSpecialIfBound?, bindSpecialIfBound?]
  refine wpAny_holding (wpAny_bind (wpAny_bind (sp.here ?_)))
  simp only [hb]
  refine wpAny_bind (wpAny_askSetting (wpAny_ite ?_))
  split
  · exact wpAny_bind (wpAny_pure (wpAny_pure fin))
  · exact wpAny_tryCatch (wpAny_bind (wpAny_pure (wpAny_pure fin)))
theorem ne_K {tb : Value} {Q : Value → Shared → Prop} (hu : A.units + 1 < cLine) (X : K.In s.heap) (I : PySem.W.InstAt s.heap x ox C od) (hb : PySem.W.Looks (model prog w) s.heap (typeOf b) tb) (nf : PySem.W.notFirst K C tb = true) (obj : PySem.W.mroIn K C (.type "object") = some true)
    (ne : PySem.W.findIn K (.ref C) "__ne__" = some (some (.builtin "object.__ne__"))) (eq : PySem.W.findIn K (.ref C) "__eq__" = some (some (.ref f))) (fn : PySem.W.isFn K (.ref f) = true)
    (h : wpAny (model prog w) A.in1 (call (.ref f) [.ref x, b]) (fun v s' => ∃ c, v = .bool c ∧ Q (.bool (!c)) s') E s) : wpAny (model prog w) A (richCompare .NotEq (.ref x) b) Q E s := by
  have sp : PySem.W.Looks (model prog w) s.heap (specialOf (.ref x) "__ne__") (some (.builtin "object.__ne__")) := I.type.andThen (PySem.W.looks_findIn X ne)
  have inst : PySem.W.Looks (model prog w) s.heap (isInstance (.ref x) (.type "object")) true := I.type.andThen (PySem.W.looks_mroIn X obj)
  have hu0 : A.units < cLine := by omega
  have body : wpAny (model prog w) A (call (.builtin "object.__ne__") [.ref x, b]) (fun v s' => ∃ c, v = .bool c ∧ Q (.bool c) s') E s := by
    refine wpAny_call (codeAny_call_builtin slot_ne.plain entry_ne (@PySem.W.check_slot (model prog w) _ _ _ "object.__ne__" "object" "__ne__" (.ref x) [b] [] _ (by decide +kernel) (by decide +kernel) inst (args_ne _ _) ?_))
    show wpAny _ _ (do
      cRoomFor "comparison" [.ref x, b]
      match ← callSpecialIfBound? (.ref x) "__eq__" [b] with
      | some .notImplemented | none => ret .notImplemented
      | some r => ret (.bool (!(← truthy r)))) _ _ s
    refine wpAny_bind (wpAny_cRoomFor hu ?_)
    refine wpAny_bind (PySem.W.ifBound_K X I eq fn (wpAny_mono h (fun v s' q => ?_) fun _ _ q => q))
    obtain ⟨c, rfl, q⟩ := q
    show wpAny _ _ (truthy (.bool c) >>= fun t => ret (.bool (!t))) _ _ s'
    exact wpAny_bind (wpAny_pure (wpAny_pure ⟨!c, rfl, q⟩))
  have one : wpAny (model prog w) A (tryCompare (.ref x) "__ne__" b) (fun r s' => ∃ c, r = some (.bool c) ∧ Q (.bool c) s') E s := by
    unfold tryCompare
    refine wpAny_bind (bound_ne sp (wpAny_mono body (fun v s' q => ?_) fun _ _ q => q))
    obtain ⟨c, rfl, q⟩ := q
    exact wpAny_pure ⟨c, rfl, q⟩
  unfold richCompare
  simp only [oneThing_ref]
  refine wpAny_holding (wpAny_bind (wpAny_cRoomFor hu0 ?_))
  refine wpAny_bind (I.type.here (wpAny_bind (hb.here ?_)))
  have fin : ∀ r s', (∃ c, r = some (Value.bool c) ∧ Q (.bool c) s') → ∃ v, r = some v ∧ Q v s' := fun r s' ⟨c, e, q⟩ => ⟨_, e, q⟩
  split
  · rename_i q
    have e : PySem.W.subIn K tb (.ref C) = some false := by
      rcases Bool.or_eq_true_iff.mp nf with e | e
      · rw [beq_iff_eq.mp e] at q
        simp at q
      · exact beq_iff_eq.mp e
    refine wpAny_bind ((PySem.W.looks_subIn X e).here ?_)
    simp only [if_false, Bool.false_eq_true]
    refine wpAny_bind (wpAny_mono one (fun r s' z => ?_) fun _ _ e => e)
    obtain ⟨c, rfl, hq⟩ := z
    exact wpAny_pure hq
  · refine wpAny_bind (m := pure false) (wpAny_pure ?_)
    simp only [if_false, Bool.false_eq_true]
    refine wpAny_bind (wpAny_mono one (fun r s' z => ?_) fun _ _ e => e)
    obtain ⟨c, rfl, hq⟩ := z
    exact wpAny_pure hq
end
/-- the class has == of its own and object's != -/
structure Ne1 (K : PySem.W.Frag) (C g : Addr) : Prop where
  eq : PySem.W.findIn K (.ref C) "__eq__" = some (some (.ref g))
  fn : PySem.W.isFn K (.ref g) = true
  ne : PySem.W.findIn K (.ref C) "__ne__" = some (some (.builtin "object.__ne__"))
  obj : PySem.W.mroIn K C (.type "object") = some true
/-- a != b: the promise of == with the answer turned -/
def rNe2 (K : PySem.W.Frag) (g : Addr) (sp : Sp) (E : XK) : R2 := fun x y H Q => ∃ (p q C D dx dy : Addr) (fs gs : List (Str × V)), x = .ref p ∧ y = .ref q ∧ H p = some (.ins C dx fs) ∧ H q = some (.ins D dy gs) ∧ Ne1 K C g ∧ PySem.W.notFirst K C (.ref D) = true ∧ sp [.ref p, .ref q] H (fun v H' => ∃ c, v = .bl c ∧ Q (.bl (!c)) H') E
theorem op_ownNe {X : Cx} {CX : CXT} {k : Nat} {g : Addr} {sp : Sp} {E : XK} (hu : X.A.units + 1 < cLine) (F : FnR X.prog X.w X.K X.mg X.base CX k g sp) (hr : Room (k + 1) X.A) (hx : Passes CX X E) : OpR X (compareOp .NotEq) (rNe2 X.K g sp E) := by
  intro pins s σ H x y v u Q I rx ry h
  obtain ⟨p, q, C, D, dx, dy, fs, gs, rfl, rfl, ep, eq, c1, nf, hq⟩ := h
  obtain rfl : v = Value.ref p := rx
  obtain rfl : u = Value.ref q := ry
  obtain ⟨ox, od, J, _⟩ := StX.insC_at I (.inr ⟨dx, fs, ep⟩)
  obtain ⟨oy, oe, J2, _⟩ := StX.insC_at I (.inr ⟨dy, gs, eq⟩)
  refine PySem.W.cmp_ofNotEq (ne_K hu I.kIn J J2.type nf c1.obj c1.ne c1.eq c1.fn ?_)
  refine wpAny_mono (run_in (us := [.ref p, .ref q]) (vs := [.ref p, .ref q]) F hr hx I (.cons rfl (.cons rfl .nil)) hq) (fun v s' z => ?_) fun _ _ z => z
  obtain ⟨x2, H2, I2, r2, c, rfl, z⟩ := z
  exact ⟨c, r2, .bl (!c), H2, I2, rfl, z⟩
/-! ### len(o), o of an own class -/
structure Len1 (K : PySem.W.Frag) (C g : Addr) : Prop where
  at_ : PySem.W.findIn K (.ref C) "__len__" = some (some (.ref g))
  fn : PySem.W.isFn K (.ref g) = true
def rLenO (K : PySem.W.Frag) (g : Addr) (sp : Sp) (E : XK) : List V → Hp → VK → Prop := fun xs H Q => ∃ (a C dx : Addr) (fs : List (Str × V)), xs = [.ref a] ∧ H a = some (.ins C dx fs) ∧ Len1 K C g ∧ sp [.ref a] H (fun v H' => ∃ n : Int, v = .int n ∧ 0 ≤ n ∧ n < 2 ^ 63 ∧ Q (.int n) H') E
theorem call_lenO {X : Cx} {CX : CXT} {k : Nat} {g : Addr} {sp : Sp} {E : XK} (F : FnR X.prog X.w X.K X.mg X.base CX k g sp) (hr : Room (k + 1) X.A) (hx : Passes CX X E) : CallR X (.builtin "len") (rLenO X.K g sp E) := by
  intro pins s σ H xs us Q I r h
  obtain ⟨a, C, dx, fs, rfl, ea, c, hq⟩ := h
  obtain rfl := Vals.ref1 r
  obtain ⟨ox, od, J, _⟩ := StX.insC_at I (.inr ⟨dx, fs, ea⟩)
  obtain ⟨mm, fr⟩ := I.fr
  refine PySem.W.len_K fr I.ok.mod.kin J c.at_ c.fn (wpAny_mono (run_in (us := [.ref a]) (vs := [.ref a]) F hr hx I (.cons rfl .nil) hq) (fun v s' z => ?_) fun _ _ z => z)
  obtain ⟨y, H2, I2, ry, n, rfl, n0, n1, z⟩ := z
  obtain ⟨t, rfl⟩ := ry
  exact ⟨⟨n0, n1⟩, .int n, H2, I2.tok _, ⟨_, rfl⟩, z⟩
end OwR
end
section
/-! Walks over objects of own classes whose __iter__ gives a tuple's iterator. -/
namespace OwR
open PySem PySem.Spec PyProof.Rows L2
abbrev itTup (l : Addr) (i : Nat) : Obj := { cls := .type "tuple_iterator", data := .fields #[.ref l, .int i 0] }
/-- at it the iterator of the tuple at l, just made -/
def ItT (l it : Addr) : HO := .ext fun h => h.get? it = some (itTup l 0)
theorem itT_ok {P : Program} {w : World} {H : Hp} {h : Heap} {l it : Addr} (e : h.get? it = some (itTup l 0)) : ObjOk P w H h it (ItT l it) := ⟨e, ⟨_, e⟩, fun h1 h2 q k => k _ q⟩
theorem itT_get {X : Cx} {pins : List (Addr × Obj)} {σ : L2.St} {H : Hp} {s : Shared} {l it : Addr} (I : Inv X pins σ H s) (e : H it = some (ItT l it)) : s.heap.get? it = some (itTup l 0) := (I.hok it _ e).1
/-- iter(t), t a tuple -/
def rIterT (K : PySem.W.Frag) : List V → Hp → VK → Prop := fun xs H Q => ∃ (l : Addr) (zs : List V), xs = [.ref l] ∧ SqT K H l zs ∧ ∀ it, H it = none → Q (.ref it) (upd H it (ItT l it))
theorem call_iterT {X : Cx} : CallR X (.builtin "iter") (rIterT X.K) := by
  intro pins s σ H xs us Q I r h
  obtain ⟨l, zs, rfl, hq, q⟩ := h
  obtain rfl := Vals.ref1 r
  obtain ⟨its, rv, pl, hz⟩ := I.tuple hq
  refine Calls.call_function_entry (by decide +kernel) (by decide +kernel) PySem.W.kdk_entry_iter (PySem.W.kdk_args_iter _) ?_
  unfold Builtin.«iter»
  refine wpAny_bind (m := someArgs "iter" 1 2 _) (wpAny_of_eq (a := [Value.ref l]) (by first | rfl | kernel_rfl!) ?_)
  show wpAny _ _ (pyIter (.ref l) >>= fun v => ret v) _ _ _
  refine wpAny_bind (wpAny_pyIter_tuple (show s.heap.IsTuple l its.toArray from pl) ?_)
  exact wpAny_pure ⟨_, rfl, .ref s.heap.objs.size, _, I.laid (t' := s.toks) (fun b u e => Heap.get?_push_of_some _ e) (Nat.le_refl _) (itT_ok (Heap.get?_push_size _ rfl)), rfl, q _ (I.hok.fresh (Nat.le_refl _))⟩
/-- .. as young as the call -/
def rIterTN (K : PySem.W.Frag) (n : Nat) : List V → Hp → VK → Prop := fun xs H Q => ∃ (l : Addr) (zs : List V), xs = [.ref l] ∧ SqT K H l zs ∧ ∀ it, H it = none → n ≤ it → Q (.ref it) (upd H it (ItT l it))
theorem call_iterTN {X : Cx} : CallR X (.builtin "iter") (rIterTN X.K X.s_0.heap.objs.size) := by
  intro pins s σ H xs us Q I r h
  obtain ⟨l, zs, rfl, hq, q⟩ := h
  obtain rfl := Vals.ref1 r
  obtain ⟨its, rv, pl, hz⟩ := I.tuple hq
  refine Calls.call_function_entry (by decide +kernel) (by decide +kernel) PySem.W.kdk_entry_iter (PySem.W.kdk_args_iter _) ?_
  unfold Builtin.«iter»
  refine wpAny_bind (m := someArgs "iter" 1 2 _) (wpAny_of_eq (a := [Value.ref l]) (by first | rfl | kernel_rfl!) ?_)
  show wpAny _ _ (pyIter (.ref l) >>= fun v => ret v) _ _ _
  refine wpAny_bind (wpAny_pyIter_tuple (show s.heap.IsTuple l its.toArray from pl) ?_)
  exact wpAny_pure ⟨_, rfl, .ref s.heap.objs.size, _, I.laid (t' := s.toks) (fun b u e => Heap.get?_push_of_some _ e) (Nat.le_refl _) (itT_ok (Heap.get?_push_size _ rfl)), rfl, q _ (I.hok.fresh (Nat.le_refl _)) I.sz⟩
/-! ### a def whose promise may speak of where the call stands -/
def FnS (P : Program) (w : World) (K : PySem.W.Frag) (mg : Str → Option Value) (base : Heap) (CX : CXT) (k : Nat) (f : Addr) (fd : FuncData) (ps : List Str) (sp : Shared → Sp) : Prop :=
  ∀ (A : Around) (outer : List Env) (s : Shared) (H : Hp) (args : Args) (us : List Value) (vs : List V) (Q : VK) (E : XK), Room k A → Env0 P w K mg base A outer s H → BindsTo s fd args (ps.zip us) → Vals vs us → sp s vs H Q E →
    codeAny (model P w) A (.call (.ref f) args) (CR CX outer P w H s Q E) s
section
variable {CX : CXT} {P : Program} {w : World} {K : PySem.W.Frag} {mg : Str → Option Value} {base : Heap} {k : Nat} {f : Addr} {name qual : Str} {params : Arguments} {body : List Stmt} {scope : Scope} {dV kV doc pm cdv ct oc : Value} {an od : Option Addr}
  {osl : Array (Option Value)} {N ps : List Str} {sp : Shared → Sp}
theorem fn_ofS (lk : K.lookup f = some ⟨oc, od, .func (PySem.W.fnOf name qual params body scope dV kV doc pm an cdv ct), osl⟩) (hcd : PySem.W.codeIn K cdv qual = true) (S : FnScope N ps scope)
    (len : ∀ s vs H Q E, sp s vs H Q E → vs.length = ps.length)
    (hbody : ∀ (A : Around) (outer : List Env) (s : Shared) (H : Hp) (vs : List V) (Q : VK) (E : XK), Room k (A.deeper (envOfC qual scope s.heap.objs.size f cdv)) → sp s vs H Q E →
      ∃ t, PSs (cxOf CX P w K mg base N qual scope f cdv A outer s H E) body t ∧ t { nx := fun _ H' => Q .non H', rt := Q } (start N vs) H) :
    FnS P w K mg base CX (k + 1) f (PySem.W.fnOf name qual params body scope dV kV doc pm an cdv ct) ps sp := by
  intro A outer s H args us vs Q E hr e0 hb r hsp
  have hl := len _ _ _ _ _ hsp
  have KS : K.In s.heap := e0.mod.kin.keeps fun b o e => (e0.bs b o e).1
  have lims : s.heap.NoLimit := e0.mod.nolimit.keeps fun b o e => (e0.bs b o e).1
  have kinds : ∀ y ∈ ps.zip us, scope.names.lookup y.1 = some .local ∨ (scope.names.lookup y.1 = some .cell ∧ ((cellsFrom (s.heap.objs.size + 1) scope.names []).lookup y.1).isSome = true) := fun y hy =>
    (S.par y.1 (List.of_mem_zip hy).1).imp id fun q => ⟨q, PySem.W.cellsFrom_some _ _ _ (.inl q)⟩
  refine codeAny_call_function hr.depth (KS _ _ lk) rfl S.co S.gen rfl (PySem.W.codeRec_of KS hcd) (hb _ _ _ _ ?_)
  refine wpAny_newFunctionEnv_cells S.kind kinds fun env he s1 x => ?_
  subst he
  refine ⟨lims.keeps x.toInCall.keep, codeAny_func ?_⟩
  obtain ⟨t, ht, hq⟩ := hbody A outer s H vs Q E (hr.deeper _) hsp
  have I : Inv (cxOf CX P w K mg base N qual scope f cdv A outer s H E) [] (start N vs) H s1 := inv_start S hr.hd e0 hl r x
  refine wpAny_mono (ht.run [] s1 (start N vs) H _ I hq) (fun fl s' hs => ?_) fun _ _ z => z
  have done : ∀ {σ' : L2.St} {H' : Hp} {v : V} {u : Value}, Inv (cxOf CX P w K mg base N qual scope f cdv A outer s H E) [] σ' H' s' → RelV v u → Q v H' → CE outer P w H s Q u s' :=
    fun {σ' H' v u} J rv q => ⟨v, H', J.os, J.bare, J.base, J.hok, rv, q⟩
  cases fl with
  | ret u =>
    obtain ⟨v, σ', H', J, rv, q⟩ := hs
    exact done J rv q
  | next =>
    obtain ⟨σ', H', J, q⟩ := hs
    exact done (v := V.non) (u := Value.none) J rfl q
  | brk => exact (hs.elim fun _ z => z.elim fun _ z => z.2.elim)
  | cont => exact (hs.elim fun _ z => z.elim fun _ z => z.2.elim)
end
/-- def __iter__(self): return iter(self.fld) -/
def spIt (C : Addr) (K : PySem.W.Frag) (fld : Str) : Shared → Sp := fun s vs H Q _ => ∃ (a dx l : Addr) (fs : List (Str × V)) (zs : List V), vs = [.ref a] ∧ H a = some (.ins C dx fs) ∧ fs.lookup fld = some (.ref l) ∧ SqT K H l zs ∧ ∀ it, H it = none → s.heap.objs.size ≤ it → Q (.ref it) (upd H it (ItT l it))
/-- .. at a call with its arguments by place -/
def FnSR (P : Program) (w : World) (K : PySem.W.Frag) (mg : Str → Option Value) (base : Heap) (CX : CXT) (k : Nat) (f : Addr) (sp : Shared → Sp) : Prop :=
  ∀ (A : Around) (outer : List Env) (s : Shared) (H : Hp) (us : List Value) (vs : List V) (Q : VK) (E : XK), Room k A → Env0 P w K mg base A outer s H → Vals vs us → sp s vs H Q E →
    codeAny (model P w) A (.call (.ref f) ⟨us, []⟩) (CR CX outer P w H s Q E) s
theorem FnS.raw {P : Program} {w : World} {K : PySem.W.Frag} {mg : Str → Option Value} {base : Heap} {CX : CXT} {k : Nat} {f : Addr} {fd : FuncData} {ps : List Str} {sp : Shared → Sp} (F : FnS P w K mg base CX k f fd ps sp) (len : ∀ s vs H Q E, sp s vs H Q E → vs.length = ps.length)
    (hb : Binds K fd ps []) : FnSR P w K mg base CX k f sp := fun A outer s H us vs Q E hr e0 r hs => by
  have hl : (us ++ []).length = ps.length := by
    rw [List.append_nil, ← r.length]
    exact len _ _ _ _ _ hs
  have b := hb s us (e0.mod.kin.keeps fun b o e => (e0.bs b o e).1) hl
  rw [List.append_nil] at b
  exact F A outer s H ⟨us, []⟩ us vs Q E hr e0 b r hs
structure OwnIt (K : PySem.W.Frag) (C f : Addr) (fld : Str) : Prop where
  cls : Cls K C
  na : NoAttr K C fld
  at_ : PySem.W.findIn K (.ref C) "__iter__" = some (some (.ref f))
  fn : PySem.W.isFn K (.ref f) = true
/-- over an object whose __iter__ gives the iterator of the tuple at l -/
def iOwn (K : PySem.W.Frag) (f : Addr) (fld : Str) (te : TE) : TI := fun σ H R => te σ H fun x H1 => ∃ (a C dx l : Addr) (fs : List (Str × V)) (zs : List V), x = .ref a ∧ H1 a = some (.ins C dx fs) ∧ OwnIt K C f fld ∧ fs.lookup fld = some (.ref l) ∧ SqT K H1 l zs ∧ R (Itt K l) H1
theorem tup_next {M : Model} {A : Around} {E : Value → Shared → Prop} {s : Shared} {it l : Addr} {Q : Value → Shared → Prop} (h : s.heap.get? it = some (itTup l 0)) (q : Q (.ref it) s) : PySem.W.OwitIt M A Q E (.ref it) s := by
  unfold PySem.W.OwitIt
  exact wpAny_specialOf (name := Str.ofString "__next__") (⟨_, h, rfl⟩ : s.TypeIs (.ref it) "tuple_iterator") PySem.F.slot_tuple_iterator_next.lookup q
theorem pi_own {X : Cx} {CX : CXT} {k : Nat} {f : Addr} {fld : Str} {E : XK} {tg e : Expr} {te : TE} (he : PE X e te) (F : ∀ C, OwnIt X.K C f fld → FnSR X.prog X.w X.K X.mg X.base CX k f (spIt C X.K fld)) (hr : Room k X.A) (hx : Passes CX X E) : PI X tg e (iOwn X.K f fld te) := by
  refine ⟨fun pins s σ H R I h => ?_⟩
  refine thn (he.run pins s σ H _ I h) fun u s1 ⟨x, H1, I1, rx, a, C, dx, l, fs, zs, ex, ea, c, lk, sq, hq⟩ => ?_
  subst ex
  obtain rfl : u = Value.ref a := rx
  obtain ⟨ox, od, J, _⟩ := StX.insC_at I1 (.inr ⟨dx, fs, ea⟩)
  obtain ⟨mm, fr⟩ := I1.fr
  have sp0 : spIt C X.K fld s1 [.ref a] H1 (fun v H2 => ∃ it, v = .ref it ∧ H1 it = none ∧ s1.heap.objs.size ≤ it ∧ H2 = upd H1 it (ItT l it)) E := ⟨a, dx, l, fs, zs, rfl, ea, lk, sq, fun it e n => ⟨it, rfl, e, n, rfl⟩⟩
  refine PySem.W.owit_iter fr I1.ok.mod.kin J c.at_ c.fn (wpAny_call (codeAny_mono (F C c X.A X.stack s1 H1 [.ref a] [.ref a] _ E hr I1.env0 (.cons rfl .nil) sp0) fun r s' z => ?_))
  match r, z with
  | .error er, z => exact hx pins σ H1 s1 er s' I1 z
  | .ok (.ret v), z =>
    obtain ⟨y, H2, os, br, un, ok, ry, it, ey, e1, hn, eH⟩ := z
    subst ey
    subst eH
    obtain rfl : v = Value.ref it := ry
    have I2 : Inv X pins σ (upd H1 it (ItT l it)) s' := I1.call' os un ok br fun b m => by cases m
    have eo := itT_get I2 upd_same
    refine tup_next eo ?_
    have e2 : upd H1 it (ItT l it) it = some (.ext fun h => h.get? it = some (itTup l 0)) := upd_same
    have I3 := ItX.inv_drop I2 e2
    rw [ItX.dropH_upd e1] at I3
    have fp := ItX.inv_fp I2 e2 (Nat.le_trans I1.sz hn)
    rw [ItX.dropH_upd e1] at fp
    refine ⟨it, [it], _, _, H1, rfl, I3, turn_tuple l it, ⟨_, eo, rfl, rfl⟩, fun b hb => ?_, hq⟩
    obtain rfl : b = it := by simpa using hb
    exact fp
end OwR
end
section
/-! list(o), o an object whose __iter__ gives a tuple's iterator and whose __len__ its length. -/
namespace OwR
open PySem PySem.Spec PyProof.Rows L2
section
variable {X : Cx} {pins : List (Addr × Obj)} {σ : L2.St} {H : Hp} {s : Shared}
/-- a list has been filled, an iterator has turned -/
theorem listed {S it : Addr} {xs ys : List V} {acc : Array Value} {c : Nat} {h' : Heap} {t' : Nat} (I : Inv X pins σ H s) (fp : FpOk X pins H it) (hS : H S = some (.lst ys)) (k : ∀ b o, b ≠ S → b ≠ it → s.heap.get? b = some o → h'.get? b = some o)
    (eS : h'.get? S = some ({ cls := .type "list", dict := none, data := .seq acc c, slots := #[] } : Obj)) (rv : Vals xs acc.toList) (hz : xs.length ≤ sizeLine) : Inv X pins σ (upd H S (.lst xs)) { s with heap := h', toks := t' } := by
  have nS : ∀ {b : Addr} {u : HO}, H b = some u → (∀ zs, u ≠ .lst zs) → b ≠ S := fun {b u} e n z => by
    rw [z, hS] at e
    exact n ys (Option.some.inj e).symm
  have nN : ∀ {b : Addr}, H b = none → b ≠ S := fun {b} e z => by
    rw [z, hS] at e
    cases e
  have nI : ∀ {b : Addr} {u : HO}, H b = some u → b ≠ it := fun {b u} e z => by
    rw [z, fp.1] at e
    cases e
  have ni : ∀ {b : Addr}, b ∉ [it] → b ≠ it := fun {b} m z => m (List.mem_singleton.mpr z)
  refine I.step (g' := s.gens) (d' := s.drawn) (ch := [it]) (fun b m => ?_) (fun b o _ _ m e n => k b o (nN n) (ni m) e) (fun b o _ _ m e n => ⟨o.slots, k b o (nN n) (ni m) e⟩) (fun b o m e n => by rw [upd_ne (nN n)]; exact n) (fun b o m e => ?_)
    (fun b zs e => by rw [upd_ne (nS e fun _ z => by cases z)]; exact e) (fun b o u e => by rw [upd_ne (nS e fun _ z => by cases z)]; exact e) (fun b ps e => ⟨#[], by rw [upd_ne (nS e fun _ z => by cases z), e]; simp⟩) (fun m hm => ?_) (fun b u e => ?_) I.bare
  · obtain rfl : b = it := by simpa using m
    exact ⟨fp.2.2.2.1, fp.2.1, fp.2.2.2.2.1, fp.2.2.2.2.2⟩
  · by_cases c : b = S
    · subst c
      exact ⟨_, eS⟩
    · exact ⟨o, k b o c (ni m) e⟩
  · obtain ⟨o, es, ep, ho, r⟩ := hm
    exact ⟨o, es, ep, k _ o (nN I.free) (Ne.symm fp.2.1) ho, r⟩
  · by_cases c : b = S
    · subst c
      rw [upd_same] at e
      cases e
      exact ⟨hz, acc.toList, _, rv, eS⟩
    · rw [upd_ne c] at e
      refine (I.hok b u e).stay (fun d v hd q => k d v ?_ ?_ q) (fun d z => ?_) fun d zs z => ?_
      · rcases hd with z | z
        · rw [z]
          exact c
        · exact nS z fun _ w => by cases w
      · rcases hd with z | z
        · rw [z]
          exact nI e
        · exact nI z
      · rw [upd_ne (nS z fun _ w => by cases w)]
        exact z
      · rw [upd_ne (nS z fun _ w => by cases w)]
        exact z
end
theorem items_all {its : List Value} {acc : Array Value} (h : ItemsOf (fun i v => its.toArray[i]? = some v) acc its.toArray.size) : acc.toList = its := by
  refine List.ext_getElem? fun i => ?_
  obtain ⟨h1, h2⟩ := h
  have h1' : acc.size = its.length := by simpa using h1
  cases e : acc.toList[i]? with
  | some v =>
    have e2 : acc[i]? = some v := by rw [← Array.getElem?_toList]; exact e
    have e3 : its.toArray[i]? = some v := h2 i v e2
    rw [List.getElem?_toArray] at e3
    exact e3.symm
  | none =>
    have : acc.toList.length ≤ i := List.getElem?_eq_none_iff.mp e
    rw [Array.length_toList, h1'] at this
    exact (List.getElem?_eq_none this).symm
/-- len(self) is len(self.fld) -/
def spLn (C : Addr) (K : PySem.W.Frag) (fld : Str) : Sp := fun vs H Q _ => ∃ (a dx l : Addr) (fs : List (Str × V)) (zs : List V), vs = [.ref a] ∧ H a = some (.ins C dx fs) ∧ fs.lookup fld = some (.ref l) ∧ SqT K H l zs ∧ Q (.int (zs.length : Nat)) H
def rListO (K : PySem.W.Frag) (f g : Addr) (fld : Str) : List V → Hp → VK → Prop := fun xs H Q => ∃ (a C dx l : Addr) (fs : List (Str × V)) (zs : List V), xs = [.ref a] ∧ H a = some (.ins C dx fs) ∧ OwnIt K C f fld ∧ Len1 K C g ∧ fs.lookup fld = some (.ref l) ∧ SqT K H l zs ∧ ∀ q, H q = none → Q (.ref q) (upd H q (.lst zs))
theorem asInt_of (n : Int) (t : Tok) : asInt? (.int n t) = pure (some n) := rfl
/-- the hint of how many there are -/
theorem hint_own {prog : Program} {w : World} {A : Around} {E : Value → Shared → Prop} {s : Shared} {K : PySem.W.Frag} {a C g : Addr} {ox : Obj} {od : Option Obj} {Q : Bool → Shared → Prop} (X : K.In s.heap) (J : PySem.W.InstAt s.heap a ox C od) (c : Len1 K C g)
    (h : ∀ E' : Value → Shared → Prop, wpAny (model prog w) A (call (.builtin "len") [.ref a]) (fun v s' => ∃ (n : Int) (t : Tok), v = .int n t ∧ n.toNat ≤ sizeLine ∧ Q (n != 0) s') E' s) : wpAny (model prog w) A (Builtin.List.listLengthHint (.ref a)) Q E s := by
  unfold Builtin.List.listLengthHint
  refine wpAny_bind (wpAny_bind (J.type.here ((PySem.W.looks_findIn X c.at_).here ?_)))
  refine PySem.W.KFB.if_not rfl ?_
  refine wpAny_ite_split (fun _ => ?_) (fun z => absurd rfl z)
  refine wpAny_bind (wpAny_rule ?_)
  refine wpAny_bind (wpAny_attempt (wpAny_mono (h _) (fun v s' q => ?_) fun _ _ z => z))
  obtain ⟨n, t, rfl, hn, q⟩ := q
  refine wpAny_bind (m := asInt? (.int n t)) (wpAny_pure ?_)
  exact PySem.W.KFB.if_not (notLongL hn) (wpAny_pure q)
theorem call_listO {X : Cx} {k : Nat} {f g : Addr} {fld : Str} (F : ∀ C, OwnIt X.K C f fld → FnSR X.prog X.w X.K X.mg X.base CX0 k f (spIt C X.K fld)) (G : ∀ C, Len1 X.K C g → OwnIt X.K C f fld → FnR X.prog X.w X.K X.mg X.base CX0 k g (spLn C X.K fld)) (hc : X.calm = true) (hr : Room (k + 3) X.A) : CallR X (.type "list") (rListO X.K f g fld) := by
  intro pins s σ H xs us Q I rv h
  obtain ⟨a, C, dx, l, fs, zs, rfl, ha, cI, cL, lk, sq, q⟩ := h
  obtain rfl := Vals.ref1 rv
  have fr0 : H s.heap.objs.size = none := I.hok.fresh (Nat.le_refl _)
  refine callType_codes (Q₁ := fun obj t => obj = .ref s.heap.objs.size ∧ t = { s with heap := s.heap.push { cls := .type "list", data := .seq #[] } }) PySem.F.called_list (PySem.F.typeCall_list_1 _) PySem.F.entry_list_init (code_list_new _ ⟨rfl, rfl⟩) fun obj t ht => ?_
  obtain ⟨rfl, rfl⟩ := ht
  have hS : (s.heap.push { cls := .type "list", data := .seq #[] }).get? s.heap.objs.size = some { cls := .type "list", data := .seq #[] } := Heap.get?_push_size _ rfl
  refine ⟨⟨_, hS, rfl⟩, PySem.F.args_list_init_2 _ _, ?_⟩
  have I1 : Inv X pins σ (upd H s.heap.objs.size (.lst [])) { s with heap := s.heap.push { cls := .type "list", data := .seq #[] } } := I.lnew (its := []) (t' := s.toks) .nil (Nat.zero_le _)
  generalize eSz : s.heap.objs.size = S at *
  show wpAny _ _ (do let old ← Builtin.List.listItems (.ref S); Builtin.List.listUpdate (.ref S) (fun _ => #[]); letGo old.toList.reverse; Builtin.List.listExtendWith (.ref S) (.ref a) .none) _ _ _
  refine wpAny_bind ?_
  unfold Builtin.List.listItems
  refine wpAny_bind (wpAny_seqItems hS rfl (wpAny_pure ?_))
  show wpAny _ _ (updateSeq S (fun _ => #[]) >>= fun _ => letGo (#[] : Array Value).toList.reverse >>= fun _ => Builtin.List.listExtendWith (.ref S) (.ref a) .none) _ _ _
  refine wpAny_bind (wpAny_updateSeq hS rfl ?_)
  have I2 := I1.lset (f := fun _ => #[]) (its := []) (its' := []) (ys := []) (t' := s.toks) upd_same hS rfl .nil (Nat.zero_le _)
  rw [upd_upd] at I2
  refine wpAny_bind (wpAny_letGo ?_)
  have ha2 : upd H S (.lst []) a = some (.ins C dx fs) := by
    rw [upd_ne (ne_of_none ha fr0)]
    exact ha
  have sq2 : SqT X.K (upd H S (.lst [])) l zs := sq.elim (fun r => .inl (r.elim (fun e => .inl (by rw [upd_ne (ne_of_none e fr0)]; exact e)) fun ⟨o, e⟩ => .inr ⟨o, by rw [upd_ne (ne_of_none e fr0)]; exact e⟩)) .inr
  have eS2 : upd H S (.lst []) S = some (.lst []) := upd_same
  have done : ∀ s', Inv X pins σ (upd (upd H S (.lst [])) S (.lst zs)) s' → EP X pins σ Q (.ref S) s' := fun s' J => by
    rw [upd_upd] at J
    exact ⟨.ref S, _, J, rfl, q S fr0⟩
  generalize upd H S (.lst []) = H2 at I2 ha2 sq2 eS2 done
  generalize ({ s with heap := ((s.heap.push { cls := .type "list", data := .seq #[] }).update S (Obj.mapSeq fun _ => #[])), toks := s.toks } : Shared) = s2 at I2 ⊢
  have sz := sizeLine_eq
  have nSa : S ≠ a := fun z => by
    rw [z, ha2] at eS2
    cases eS2
  obtain ⟨ox, od, J, _⟩ := StX.insC_at I2 (.inr ⟨dx, fs, ha2⟩)
  obtain ⟨mm, fr⟩ := I2.fr
  obtain ⟨itz, rvz, plz, hz⟩ := I2.tuple sq2
  unfold Builtin.List.listExtendWith
  refine wpAny_bind (J.type.here ?_)
  have t1 : Builtin.List.listSameRef (.ref S) (.ref a) = false := by simp [Builtin.List.listSameRef, nSa]
  have t2 : (Value.ref C == Value.type "list") = false := rfl
  have t3 : (Value.ref C == Value.type "tuple") = false := rfl
  simp only [t3, t2, t1, Bool.false_eq_true, Bool.or_false, if_false]
  have sp0 : spIt C X.K fld s2 [.ref a] H2 (fun v G2 => ∃ it, v = .ref it ∧ H2 it = none ∧ s2.heap.objs.size ≤ it ∧ G2 = upd H2 it (ItT l it)) E0 := ⟨a, dx, l, fs, zs, rfl, ha2, lk, sq2, fun it e n => ⟨it, rfl, e, n, rfl⟩⟩
  refine wpAny_bind (PySem.W.owit_iter fr I2.ok.mod.kin J cI.at_ cI.fn (wpAny_call (codeAny_mono (F C cI X.A.in1.in1 X.stack s2 H2 [.ref a] [.ref a] _ E0 (hr.in1.in1.mono (Nat.le_succ k)) I2.env0.in1.in1 (.cons rfl .nil) sp0) fun r s' z => ?_)))
  match r, z with
  | .error er, z => exact z.elim
  | .ok (.ret v), z =>
    obtain ⟨y, G3, os, br, un, ok, ry, it, ey, e1, hn, eH⟩ := z
    subst ey
    subst eH
    obtain rfl : v = Value.ref it := ry
    have I3 : Inv X pins σ (upd H2 it (ItT l it)) s' := I2.call' os un ok br fun b m => by cases m
    have nlit : l ≠ it := fun e => by
      obtain ⟨o, eo, _⟩ := plz
      exact absurd (Nat.lt_of_lt_of_le (Heap.lt_size eo) (e ▸ hn)) (Nat.lt_irrefl _)
    have mono : ∀ {b : Addr} {u : HO}, H2 b = some u → upd H2 it (ItT l it) b = some u := fun {b u} e => by
      rw [upd_ne (ne_of_none e e1)]
      exact e
    have ha3 := mono ha2
    have eS3 := mono eS2
    have sq3 : SqT X.K (upd H2 it (ItT l it)) l zs := sq2.elim (fun r => .inl (r.elim (fun e => .inl (mono e)) fun ⟨o, e⟩ => .inr ⟨o, mono e⟩)) .inr
    have e2 : upd H2 it (ItT l it) it = some (.ext fun h => h.get? it = some (itTup l 0)) := upd_same
    have fp0 := ItX.inv_fp I3 e2 (Nat.le_trans I2.sz hn)
    rw [ItX.dropH_upd e1] at fp0
    have loop : ∀ s4, Inv X pins σ (upd H2 it (ItT l it)) s4 → codeAny (model X.prog X.w) X.A.in1 (.builtin "list.extend.loop" ⟨[.ref S, .ref it, .none], []⟩) (wants (fun r t => r = .none ∧ EP X pins σ Q (.ref S) t) X.xe) s4 := fun s4 I4 => by
      have eo := itT_get I4 upd_same
      obtain ⟨iz, rz, pz, lz⟩ := I4.tuple sq3
      obtain ⟨z1, l1, c1, r1, _, f1⟩ := I4.lstM eS3
      cases r1
      have W := Walks.tuple (prog := X.prog) (w := X.w) (A := X.A.in1.in1) (I.ok.hd hc) it l nlit iz.toArray
      have I5 := ItX.inv_drop I4 e2
      rw [ItX.dropH_upd e1] at I5
      have nSf : S ∉ [it, l] := fun m => by
        rcases List.mem_cons.mp m with z | m
        · rw [z, e1] at eS2
          cases eS2
        · obtain ⟨o, e3, c3, d3⟩ := pz
          rw [← List.mem_singleton.mp m, f1] at e3
          cases e3
          exact absurd (show Value.type "list" = Value.type "tuple" from c3) (by decide)
      refine codeAny_extend_loopS W.toS (by rw [List.size_toArray, ← rz.length]; exact lz) S nSf .none iz.toArray.size 0 s4 #[] c1 rfl (Nat.zero_le _) ⟨⟨_, eo, rfl, rfl⟩, pz⟩ f1 (ItemsOf.nil _) fun t acc c2 mv f2 ic => ?_
      refine ⟨rfl, done t ?_⟩
      have J5 := listed (xs := zs) (acc := acc) (c := c2) (h' := t.heap) (t' := t.toks) I5 fp0 eS2 (fun b o n1 n2 e => mv.heap b o (fun m => (List.mem_cons.mp m).elim n1 fun m => n2 (List.mem_singleton.mp m)) e) f2 (by rw [items_all ic]; exact rz) lz
      rw [Moved.eq_with mv]
      exact J5
    refine tup_next (itT_get I3 upd_same) ?_
    obtain ⟨ox3, od3, J3, _⟩ := StX.insC_at I3 (.inr ⟨dx, fs, ha3⟩)
    obtain ⟨m3, fr3⟩ := I3.fr
    refine wpAny_bind (wpAny_holding (hint_own I3.kIn J3 cL fun E' => ?_))
    refine PySem.W.len_K fr3 I3.ok.mod.kin J3 cL.at_ cL.fn (wpAny_call (codeAny_mono (G C cL cI X.A.in1.in1.in1 X.stack s' _ [.ref a] [.ref a] (fun v G4 => v = .int (zs.length : Nat) ∧ G4 = upd H2 it (ItT l it)) E0 hr.in1.in1.in1 I3.env0.in1.in1.in1 (.cons rfl .nil) ⟨a, dx, l, fs, zs, rfl, ha3, lk, sq3, rfl, rfl⟩) fun r2 s5 z2 => ?_))
    match r2, z2 with
    | .error er, z2 => exact z2.elim
    | .ok (.ret v2), z2 =>
      obtain ⟨y2, G5, os2, br2, un2, ok2, ry2, ey2, eG⟩ := z2
      subst ey2
      subst eG
      obtain ⟨tk, rfl⟩ := ry2
      have I5 : Inv X pins σ (upd H2 it (ItT l it)) { s5 with toks := s5.toks + 1 } := (I3.call' os2 un2 ok2 br2 fun b m => by cases m).tok _
      refine ⟨⟨Int.natCast_nonneg _, by have : zs.length ≤ 16777216 := by rw [← sz]; exact hz
                                        omega⟩, _, _, rfl, by rw [Int.toNat_natCast]; exact hz, ?_⟩
      refine wpAny_ite_split (fun _ => ?_) (fun _ => wpAny_pure ⟨plainId_quiet PySem.F.plain_extend_loop _, loop _ I5⟩)
      refine wpAny_bind (wpAny_rule ?_)
      refine wpAny_bind ?_
      show wpAny _ _ (updateSeq S (·.push .none) >>= fun _ => updateSeq S (·.pop)) _ _ _
      obtain ⟨z6, l6, c6, r6, _, f6⟩ := I5.lstM eS3
      cases r6
      refine wpAny_bind (wpAny_updateSeq f6 rfl ?_)
      have I6 := I5.lset (f := (·.push Value.none)) (its := []) (its' := [Value.none]) (ys := [.non]) (t' := s5.toks + 1) eS3 f6 (by simp) (.cons rfl .nil) (by rw [List.length_singleton, sz]; decide)
      obtain ⟨z7, l7, c7, r7, _, f7⟩ := I6.lstM upd_same
      obtain ⟨u7, rfl, ru7⟩ := r7.one
      refine wpAny_updateSeq f7 rfl ?_ (by show 1 ≤ sizeLine; rw [sz]; decide) (by show 0 ≤ sizeLine + 1; exact Nat.zero_le _)
      have I7 := I6.lset (f := (·.pop)) (its := [u7]) (its' := []) (ys := []) (t' := s5.toks + 1) upd_same f7 (by rfl) .nil (Nat.zero_le _)
      rw [upd_upd] at I7
      have back : upd (upd H2 it (ItT l it)) S (.lst []) = upd H2 it (ItT l it) := funext fun b => by
        by_cases e : b = S
        · rw [e, upd_same, eS3]
        · rw [upd_ne e]
      rw [back] at I7
      exact wpAny_pure ⟨plainId_quiet PySem.F.plain_extend_loop _, loop _ I7⟩
end OwR
end
section
/-! def f(a, .., *v, k): called with the keyword; instances made so. -/
namespace OwR
open PySem PySem.Spec PyProof.Rows L2
/-- a promise by places and by the values of given keywords -/
def FnRK (P : Program) (w : World) (K : PySem.W.Frag) (mg : Str → Option Value) (base : Heap) (CX : CXT) (k : Nat) (f : Addr) (ks : List Str) (sp : List V → Sp) : Prop :=
  ∀ (A : Around) (outer : List Env) (s : Shared) (H : Hp) (us ws : List Value) (vs zs : List V) (Q : VK) (E : XK), Room k A → Env0 P w K mg base A outer s H → Vals vs us → Vals zs ws → sp zs vs H Q E →
    codeAny (model P w) A (.call (.ref f) ⟨us, ks.zip ws⟩) (CR CX outer P w H s Q E) s
section
variable {CX : CXT} {P : Program} {w : World} {K : PySem.W.Frag} {mg : Str → Option Value} {base : Heap} {k : Nat} {f : Addr} {name qual : Str} {params : Arguments} {body : List Stmt} {scope : Scope} {dV kV doc pm cdv ct oc : Value} {an od : Option Addr}
  {osl : Array (Option Value)} {N ps : List Str} {sp : Sp}
theorem fn_starko {pv kn : Str} (lk : K.lookup f = some ⟨oc, od, .func (PySem.W.fnOf name qual params body scope dV kV doc pm an cdv ct), osl⟩) (hcd : PySem.W.codeIn K cdv qual = true) (S : FnScope N (ps ++ [kn, pv]) scope) (hCX : StX.CXUp CX)
    (hb : ∀ (us rest : List Value) (y : Value), us.length = ps.length → bindArgs (PySem.W.fnOf name qual params body scope dV kV doc pm an cdv ct) ⟨us ++ rest, [(kn, y)]⟩ = (newTuple rest >>= fun t => pure (ps.zip us ++ [(kn, y), (pv, t)])))
    (hbody : ∀ (A : Around) (outer : List Env) (s : Shared) (H : Hp) (vs : List V) (Q : VK) (E : XK), Room k (A.deeper (envOfC qual scope s.heap.objs.size f cdv)) → sp vs H Q E →
      ∃ t, PSs (cxOf CX P w K mg base N qual scope f cdv A outer s H E) body t ∧ t { nx := fun _ H' => Q .non H', rt := Q } (start N vs) H) :
    FnRK P w K mg base CX (k + 1) f [kn] (fun zs vs H Q E => ∃ as rest y, zs = [y] ∧ vs = as ++ rest ∧ as.length = ps.length ∧ rest.length ≤ sizeLine ∧ ∀ p, H p = none → sp (as ++ [y, V.ref p]) (upd H p (.tup rest)) Q E) := by
  intro A outer s H us ws vs zs Q E hr e0 r rz hsp
  obtain ⟨as, rest, y, rfl, rfl, hl, hz, hq⟩ := hsp
  obtain ⟨u1, u2, rfl, r1, r2⟩ := StX.vals_split r
  obtain ⟨yv, rfl, ry⟩ := rz.one
  have fresh : H s.heap.objs.size = none := e0.hok.fresh (Nat.le_refl _)
  have l1 : u1.length = ps.length := r1.length.symm.trans hl
  have l2 : u2.length ≤ sizeLine := r2.length ▸ hz
  refine StX.run_bnd (args := ⟨u1 ++ u2, [kn].zip [yv]⟩) lk hcd S hr e0 (G := fun xs G2 => ∃ p, H p = none ∧ xs = as ++ [y, V.ref p] ∧ G2 = upd H p (.tup rest)) (fun A' Ex Q' h => ?_) fun s2 G2 xs g hr' => ?_
  · show wpAny _ _ (bindArgs _ ⟨u1 ++ u2, [(kn, yv)]⟩) _ _ _
    rw [hb u1 u2 yv l1]
    refine wpAny_bind (wpAny_newTuple (wpAny_pure ?_) l2)
    have laid : ObjOk P w (upd H s.heap.objs.size (.tup rest)) (s.heap.push ({ cls := .type "tuple", data := .seq u2.toArray } : Obj)) s.heap.objs.size (.tup rest) := ⟨hz, u2, r2, ⟨_, Heap.get?_push_size _ rfl, rfl, _, rfl⟩⟩
    have un := StX.un_laid (fs := frs outer) (s := s) (o := ({ cls := .type "tuple", data := .seq u2.toArray } : Obj)) (u := .tup rest) fresh
    have z := h _ _ (as ++ [y, V.ref s.heap.objs.size]) (u1 ++ [yv, Value.ref s.heap.objs.size]) (StX.env0_laid e0 laid) un rfl (fun e s' => hCX outer s H _ _ E e s' un (fun b o q => Heap.get?_push_of_some _ q) rfl) (r1.append (.cons ry (.cons rfl .nil)))
      (by rw [List.length_append, List.length_append, hl] <;> rfl) ⟨_, fresh, rfl, rfl⟩
    rw [List.zip_append l1.symm] at z
    exact z
  · obtain ⟨p, hp, rfl, rfl⟩ := g
    exact hbody A outer s2 _ _ Q E hr' (hq p hp)
end
section
variable {X : Cx} {CX : CXT} {k : Nat} {f C : Addr} {ks : List Str} {sp : List V → Sp} {E : XK} {x : Str} {p pos : Pos} {e : Expr} {es : List Expr} {kws : List Keyword} {t tk : TA}
theorem run_makeRK {pins : List (Addr × Obj)} {σ : L2.St} {H : Hp} {s : Shared} {Q : VK} {us ws : List Value} {vs zs : List V} (M : Mk X.K C f) (F : FnRK X.prog X.w X.K X.mg X.base CX k f ks sp) (hr : Room (k + 1) X.A) (hx : Passes CX X E) (I : Inv X pins σ H s) (r : Vals vs us) (rz : Vals zs ws)
    (h : ∀ y dy, H y = none → H dy = none → dy ≠ y → sp zs (.ref y :: vs) (upd (upd H dy (.own y)) y (.ins C dy [])) (fun v G => v = .non ∧ Q (.ref y) G) E) : wpAny (model X.prog X.w) X.A (call (.ref C) us (ks.zip ws)) (EP X pins σ Q) X.xe s := by
  have hq := h (s.heap.objs.size + 1) s.heap.objs.size (I.hok.fresh (Nat.le_succ _)) (I.hok.fresh (Nat.le_refl _)) (Nat.ne_of_lt (Nat.lt_succ_self _))
  have J := Inv.made (C := C) I
  have rr : Vals (V.ref (s.heap.objs.size + 1) :: vs) (Value.ref (s.heap.objs.size + 1) :: us) := .cons rfl r
  refine wpAny_call (make_map (f := f) I.kIn M.makes M.init (beq_iff_eq.mp M.fn) (codeAny_mono (F _ X.stack _ _ (Value.ref (s.heap.objs.size + 1) :: us) ws _ zs _ E (hr.make C us (ks.zip ws)) (J.env0.make C us (ks.zip ws)) rr rz hq) fun r s' z => ?_))
  match r, z with
  | .error er, z => exact hx pins σ _ _ er s' J z
  | .ok (.ret u), z =>
    obtain ⟨v, G, I3, rv, ev, q3⟩ := J.after z
    subst ev
    exact ⟨rv, ⟨V.ref (s.heap.objs.size + 1), G, I3, rfl, q3⟩⟩
def tMakeRK (C : Addr) (sp : List V → Sp) (E : XK) (t tk : TA) : TE := fun σ H Q => t σ H fun vs H1 => tk σ H1 fun zs H2 => ∀ y dy, H2 y = none → H2 dy = none → dy ≠ y → sp zs (.ref y :: vs) (upd (upd H2 dy (.own y)) y (.ins C dy [])) (fun v G => v = .non ∧ Q (.ref y) G) E
/-- C(e, .., k = v), __init__ with a starred parameter -/
theorem pe_makeRK (M : Mk X.K C f) (F : FnRK X.prog X.w X.K X.mg X.base CX k f ks sp) (hr : Room (k + 1) X.A) (hg : Gl X x) (hm : X.mg x = some (.ref C)) (hx : Passes CX X E) (ha : PA X (e :: es) t) (hkw : PK X kws tk)
    (hall : (backToKw pos (keywordEach kws X.env)).all (·.1.isSome) = true := by rfl) (hks : (backToKw pos (keywordEach kws X.env)).filterMap (·.1) = ks := by rfl) (hdb : (x == ("__debug__" : Str)) = false := by decide)
    (he : starEach (e :: es) X.env = (false, eval e X.env) :: starEach es X.env := by rfl) (hpl : ((backTo pos (starEach (e :: es) X.env)).any (·.1) || (backToKw pos (keywordEach kws X.env)).any (·.1.isNone)) = false := by rfl) :
    PE X (.Call (.Name x p) (e :: es) kws pos) (tMakeRK C sp E t tk) := by
  refine ⟨fun pins s σ H Q I h => ?_⟩
  refine wpAny_Call_Name_kw (ld_glob I hg hm ?_ hdb)
  refine PySem.W.callWith_KW (h₀ := X.base) I.ok.mod.kin M.kp hall (thn (ha.run pos pins s σ H _ I h) fun us s1 ⟨vs, H1, I1, r, q⟩ => ?_) hpl he
  refine thn (hkw.run pos pins s1 σ H1 _ I1 q) fun ws s2 ⟨zs, H2, I2, rz, q2⟩ => ⟨I2.kIn, ?_⟩
  rw [hks]
  exact run_makeRK M F hr hx I2 r rz q2
end
end OwR
end
section
/-! xs[::k]; an own == asked of any value; str(o) by an own __str__. -/
namespace OwR
open PySem PySem.Spec PyProof.Rows L2
/-! ### xs[::k] -/
theorem vals_pick {xs : List V} {us : List Value} (r : Vals xs us) : ∀ idx : List Nat, Vals (idx.filterMap (xs[·]?)) (idx.filterMap (us[·]?))
  | [] => .nil
  | i :: l => by
    have ih := vals_pick r l
    rw [List.filterMap_cons, List.filterMap_cons]
    cases hx : xs[i]? with
    | none =>
      have e : us[i]? = none := by
        rw [List.getElem?_eq_none_iff] at hx ⊢
        rw [← r.length]
        exact hx
      rw [e]
      exact ih
    | some x =>
      obtain ⟨u, hu, ru⟩ := r.get hx
      rw [hu]
      exact .cons ru ih
theorem pick_mem {α : Type} {xs : List α} : ∀ {idx : List Nat} {y : α}, y ∈ idx.filterMap (xs[·]?) → y ∈ xs := fun {idx y} h => by
  obtain ⟨i, _, e⟩ := List.mem_filterMap.mp h
  exact List.mem_of_getElem? e
def tStepL (K : PySem.W.Frag) (te : TE) : TE := fun σ H Q => te σ H fun x H1 => ∃ a xs, x = .ref a ∧ SqL K H1 a xs ∧ ∀ p ys, H1 p = none → (∀ y ∈ ys, y ∈ xs) → Q (.ref p) (upd H1 p (.lst ys))
theorem pe_stepL {X : Cx} {e : Expr} {te : TE} {n : Nat} {k : Nat} {p1 p3 pos : Pos} (h0 : (n : Int) ≠ 0) (he : PE X e te) : PE X (.Subscript e (.Slice none none (some (.Constant (.int (n : Int)) k p1)) p3) pos) (tStepL X.K te) := by
  refine ⟨fun pins s σ H Q I h => ?_⟩
  refine Subscript_ (thn (he.run pins s σ H _ I h) fun v s1 w => ?_)
  obtain ⟨x, H1, I1, r1, a, xs, rfl, hx, q⟩ := w
  cases r1
  have hst : PO X (some (.Constant (.int (n : Int)) k p1)) (tPart (tC (.int (n : Int)))) := po_some pe_int
  refine wpAny_Slice (thn (po_none.run pins s1 σ H1 (fun o H2 => o = none ∧ H2 = H1) I1 ⟨rfl, rfl⟩) fun vl s2 w2 => ?_)
  obtain ⟨l, H2, I2, pl, rfl, rfl⟩ := w2
  refine thn (po_none.run pins s2 σ H2 (fun o H3 => o = none ∧ H3 = H2) I2 ⟨rfl, rfl⟩) fun vu s3 w3 => ?_
  obtain ⟨u, H3, I3, pu, rfl, rfl⟩ := w3
  refine thn (hst.run pins s3 σ H3 (fun o H4 => o = some (n : Int) ∧ H4 = H3) I3 ⟨(n : Int), rfl, rfl, rfl⟩) fun vs s4 w4 => ?_
  obtain ⟨o, H4, I4, ps, rfl, rfl⟩ := w4
  have I5 : Inv X pins σ H4 { s4 with heap := s4.heap.push { cls := .type "slice", data := .fields #[vl, vu, vs] } } := I4.kept (t' := s4.toks) fun b ob q => Heap.get?_push_of_some _ q
  obtain ⟨its, r, ht, hz⟩ := I5.list hx
  have hlen := r.length
  show wpAny (model X.prog X.w) X.A (subscriptTail e (.Slice none none (some (.Constant (.int (n : Int)) k p1)) p3) (.ref a) (.ref s4.heap.objs.size)) (EP X pins σ Q) X.xe { s4 with heap := s4.heap.push { cls := .type "slice", data := .fields #[vl, vu, vs] } }
  refine tail_any (ops := [.ref a, .ref s4.heap.objs.size]) ht.isList.typeIs (PySem.slot_list_getitem.lookup) ?_ (by with_unfolding_all rfl)
  refine wpAny_getItem_list_slice ht.isList (Heap.IsSliceOf.new _ vl vu vs) pl pu ps (fun z => h0 (Option.some.inj z)) ?_ (by rw [List.size_toArray]; omega)
  have hz2 := slicePick_size_le its.toArray none none (some (n : Int))
  have ep : slicePick its.toArray none none (some (n : Int)) = ((sliceRange (sliceBounds none none (some (n : Int)) its.toArray.size).1 (sliceBounds none none (some (n : Int)) its.toArray.size).2.1 (sliceBounds none none (some (n : Int)) its.toArray.size).2.2).filterMap (its[·]?)).toArray := by
    unfold slicePick
    simp
  rw [ep] at hz2 ⊢
  generalize sliceRange (sliceBounds none none (some (n : Int)) its.toArray.size).1 (sliceBounds none none (some (n : Int)) its.toArray.size).2.1 (sliceBounds none none (some (n : Int)) its.toArray.size).2.2 = idx at hz2 ⊢
  have rv := vals_pick r idx
  rw [List.size_toArray, List.size_toArray] at hz2
  refine ⟨.ref _, _, I5.laid (t' := s4.toks) (o := .lst (idx.filterMap (xs[·]?))) (fun b ob q => Heap.get?_push_of_some _ q) (Nat.le_refl _) ?_, rfl, q _ _ (I5.hok.fresh (Nat.le_refl _)) fun y hy => pick_mem hy⟩
  exact ⟨by rw [rv.length]; omega, _, 0, rv, Heap.get?_push_size _ rfl⟩
/-! ### an own comparison asked of any value -/
def rCmpX (K : PySem.W.Frag) (op : CmpOp) (g : Addr) (sp : Sp) (E : XK) : R2 := fun x y H Q => ∃ (p C dx : Addr) (fs : List (Str × V)) (t : Value), x = .ref p ∧ H p = some (.ins C dx fs) ∧ TyX K H y t ∧ Cmp1 K op C g ∧ PySem.W.notFirst K C t = true ∧ sp [.ref p, y] H Q E
section
variable {X : Cx} {CX : CXT} {k : Nat} {g : Addr} {sp : Sp} {E : XK}
theorem rc_ownX {o : CmpOp} (hu : X.A.units < cLine) (F : FnR X.prog X.w X.K X.mg X.base CX k g sp) (hr : Room k X.A) (hx : Passes CX X E) : OpR X (richCompare o) (rCmpX X.K o g sp E) := by
  intro pins s σ H x y v u Q I rx ry h
  obtain ⟨p, C, dx, fs, t, rfl, ep, ty, c1, nf, hq⟩ := h
  obtain rfl : v = Value.ref p := rx
  obtain ⟨ox, od, J, _⟩ := StX.insC_at I (.inr ⟨dx, fs, ep⟩)
  obtain ⟨P, kx, pS, _⟩ := kit_of I ry ty
  obtain ⟨mm, fr⟩ := I.fr
  exact PySem.W.cmp_K hu fr I.ok.mod.kin J (kx.ty (model X.prog X.w) s.heap I.kIn pS) nf c1.at_ c1.fn (run_own F hr hx I (us := [.ref p, u]) (vs := [.ref p, y]) (.cons rfl (.cons ry .nil)) hq)
theorem op_ownEqX (hu : X.A.units < cLine) (F : FnR X.prog X.w X.K X.mg X.base CX k g sp) (hr : Room k X.A) (hx : Passes CX X E) : OpR X (compareOp .Eq) (rCmpX X.K .Eq g sp E) := fun pins s σ H x y v u Q I rx ry h => PySem.W.cmp_ofEq (rc_ownX hu F hr hx pins s σ H x y v u Q I rx ry h)
theorem op_ownEqXK {K : PySem.W.Frag} (hK : X.K = K) (hu : X.A.units < cLine) (F : FnR X.prog X.w X.K X.mg X.base CX k g sp) (hr : Room k X.A) (hx : Passes CX X E) : OpR X (compareOp .Eq) (rCmpX K .Eq g sp E) := by
  subst hK
  exact op_ownEqX hu F hr hx
/-! ### str(o) -/
structure Str1 (K : PySem.W.Frag) (C g : Addr) : Prop where
  at_ : PySem.W.findIn K (.ref C) "__str__" = some (some (.ref g))
  fn : PySem.W.isFn K (.ref g) = true
def rStrO (K : PySem.W.Frag) (g : Addr) (sp : Sp) (E : XK) : List V → Hp → VK → Prop := fun xs H Q => ∃ (a C dx : Addr) (fs : List (Str × V)), xs = [.ref a] ∧ H a = some (.ins C dx fs) ∧ Str1 K C g ∧ sp [.ref a] H (fun v H' => ∃ z : Str, v = .str z ∧ Q (.str z) H') E
theorem call_strO (hu : X.A.units + 2 < cLine) (F : FnR X.prog X.w X.K X.mg X.base CX k g sp) (hr : Room (k + 2) X.A) (hx : Passes CX X E) : CallR X (.type "str") (rStrO X.K g sp E) := by
  intro pins s σ H xs us Q I r h
  obtain ⟨a, C, dx, fs, rfl, ea, c, hq⟩ := h
  obtain rfl := Vals.ref1 r
  obtain ⟨ox, od, J, _⟩ := StX.insC_at I (.inr ⟨dx, fs, ea⟩)
  refine PySem.W.kso_call (by simpa using hu) I.kIn J c.at_ c.fn ?_
  refine wpAny_call (codeAny_mono (F X.A.in1.in1 X.stack s H [.ref a] [.ref a] _ E hr.in1.in1 I.env0.in1.in1 (.cons rfl .nil) hq) fun r s' hq => ?_)
  cases r with
  | error er => exact hx pins σ H s er s' I hq
  | ok fl =>
    cases fl with
    | ret u =>
      obtain ⟨v, H', I', rv, z, rfl, q2⟩ := I.after hq
      obtain ⟨t, rfl⟩ := rv
      exact ⟨.str z, H', I', ⟨t, rfl⟩, q2⟩
    | next => exact False.elim hq
    | brk => exact False.elim hq
    | cont => exact False.elim hq
end
end OwR
end
section
/-! a text == a dict, == an object with an own ==; x in o by an own __contains__. -/
namespace OwR
open PySem PySem.Spec PyProof.Rows L2
theorem str_no_plain (b : Str) (u : Tok) (l : Addr) (c : Value) (dd : Option Addr) (sl : Array (Option Value)) :
    Meets (Builtin.«str.__eq__» ⟨[.str b u, .ref l], []⟩) (fun _ R s => s.heap.get? l = some { cls := c, dict := dd, data := .plain, slots := sl } ∧ R (.ok (.ret .notImplemented)) s) :=
  .of_wp fun prog w A R s h => by obtain ⟨hp, g, d, tk, os⟩ := s; obtain ⟨hl, h⟩ := h; wp_walk using wpAny_loadPart' hl, wpAny_load hl; exact ⟨_, rfl, h⟩
theorem str_no_dict (b : Str) (u : Tok) (l : Addr) (c : Value) (es : Array DictEntry) (n : Nat) (dd : Option Addr) (sl : Array (Option Value)) :
    Meets (Builtin.«str.__eq__» ⟨[.str b u, .ref l], []⟩) (fun _ R s => s.heap.get? l = some { cls := c, dict := dd, data := .dict es n, slots := sl } ∧ R (.ok (.ret .notImplemented)) s) :=
  .of_wp fun prog w A R s h => by obtain ⟨hp, g, d, tk, os⟩ := s; obtain ⟨hl, h⟩ := h; wp_walk using wpAny_loadPart' hl, wpAny_load hl; exact ⟨_, rfl, h⟩
section
variable {prog : Program} {w : World} {A : Around} {E : Value → Shared → Prop} {s : Shared} {K : PySem.W.Frag} {x C f : Addr} {ox : Obj} {od : Option Obj} {z : Str} {t : Tok}
theorem rc_strOwn {Q : Value → Shared → Prop} (hu : A.units < cLine) (X : K.In s.heap) (I : PySem.W.InstAt s.heap x ox C od) (hd : ox.data = .plain) (sub : PySem.W.subIn K (.ref C) (.type "str") = some false)
    (eq : PySem.W.findIn K (.ref C) "__eq__" = some (some (.ref f))) (fn : PySem.W.isFn K (.ref f) = true) (h : wpAny (model prog w) A (call (.ref f) [.ref x, .str z t]) (PySem.W.CmpBack Q) E s) :
    wpAny (model prog w) A (richCompare .Eq (.str z t) (.ref x)) Q E s := by
  have one : wpAny (model prog w) A (tryCompare (.ref x) "__eq__" (.str z t)) (fun r s' => ∃ v, r = some v ∧ Q v s') E s := by
    unfold tryCompare
    refine wpAny_bind (PySem.W.ifBound_K X I eq fn (wpAny_mono h (fun v s' hv => ?_) fun _ _ e => e))
    cases v <;> first | exact hv.elim | exact wpAny_pure ⟨_, rfl, hv⟩
  have ta : s.TypeIs (.str z t) "str" := typeIs_str s z t
  have no : wpAny (model prog w) A (call (.builtin "str.__eq__") [.str z t, .ref x]) (fun v s' => v = .notImplemented ∧ s' = s) E s := by
    obtain ⟨cls, dd, data, sl⟩ := ox
    have hd : data = .plain := hd
    subst hd
    exact call_meets F.slot_str_eq ta F.entry_str_eq (F.args_str_eq_2 _ _) (str_no_plain z t x cls dd sl) ⟨I.at_, rfl, rfl⟩
  rcases hi : cmpInfo CmpOp.Eq with ⟨sym, f1, r1⟩
  have h1 := F.slot_str_eq
  have e2 : r1 = "__eq__" := by cases hi; rfl
  rw [hi] at h1
  subst e2
  simp only [richCompare, hi, ta.oneThing_none]
  refine wpAny_holding (wpAny_bind (wpAny_cRoomFor hu ?_))
  refine wpAny_bind (wpAny_typeOf ta (wpAny_bind (I.type.here ?_)))
  simp only [show (Value.type "str" != Value.ref C) = true from rfl, if_true]
  refine wpAny_bind ((PySem.W.looks_subIn X sub).here ?_)
  simp only [Bool.false_eq_true, if_false, Bool.not_false, if_true]
  refine wpAny_bind (m := tryCompare (.str z t) _ (.ref x)) (wpAny_tryCompare_declines ta h1 (wpAny_mono no (fun v s1 h1 => ⟨h1.1, ?_⟩) fun _ _ x => x))
  obtain ⟨_, rfl⟩ := h1
  refine wpAny_bind (wpAny_mono one (fun r s' q => ?_) fun _ _ e => e)
  obtain ⟨v, rfl, hq⟩ := q
  exact wpAny_pure hq
theorem sub_str_dict : isSubtype (.type "str") (.type "dict") = pure false := by rw [isSubtype_type]; kernel_rfl
theorem rc_strDict {l : Addr} {o : Obj} {es : Array DictEntry} {n : Nat} {Q : Value → Shared → Prop} (hu : A.units < cLine) (ho : s.heap.get? l = some o) (hc : o.cls = .type "dict") (hd : o.data = .dict es n) (h : Q (.bool false) s) : wpAny (model prog w) A (richCompare .Eq (.str z t) (.ref l)) Q E s := by
  obtain ⟨cls, dd, data, sl⟩ := o
  have hc : cls = .type "dict" := hc
  have hd : data = .dict es n := hd
  subst hc hd
  have tb : s.TypeIs (.ref l) "dict" := ⟨_, ho, rfl⟩
  exact PySem.SeqAt.rc_eq_decline_or (k := false) (typeIs_str s z t) tb (by decide) F.sub_dict_str F.slot_str_eq F.slot_dict_eq_refl
    (fun _ hq => call_meets F.slot_str_eq (typeIs_str s z t) F.entry_str_eq (F.args_str_eq_2 _ _) (str_no_dict z t l (.type "dict") es n dd sl) ⟨ho, hq⟩)
    (fun _ hq => by
      refine wpAny_call_entry F.slot_dict_eq_refl tb F.entry_dict_eq ?_ (F.args_dict_eq_2 _ _)
      show wpAny _ _ (Builtin.Dict.dictSlotArgs "__eq__" ⟨[.ref l, .str z t], []⟩ >>= _) _ _ s
      refine wpAny_bind ?_
      unfold Builtin.Dict.dictSlotArgs
      refine wpAny_bind (wpAny_notOrdered_dict tb ?_)
      show wpAny _ _ (pure (Value.ref l, Value.str z t)) _ _ s
      refine wpAny_pure ?_
      refine wpAny_bind (wpAny_isInstance (T := "str") (typeIs_str s z t) sub_str_dict ?_)
      simp only [Bool.not_false, if_true]
      exact wpAny_bind (wpAny_rule (wpAny_bind (wpAny_pure (wpAny_pure ⟨_, rfl, hq⟩)))))
    (fun _ hq => wpAny_of_eq (rfl : isSame (.str z t) (.ref l) = pure false) hq) (.inr hu) h
end
/-! ### the rules -/
structure StrEq (K : PySem.W.Frag) (C g : Addr) : Prop where
  sub : PySem.W.subIn K (.ref C) (.type "str") = some false
  at_ : PySem.W.findIn K (.ref C) "__eq__" = some (some (.ref g))
  fn : PySem.W.isFn K (.ref g) = true
/-- a text == anything: data, a dict, an object with an own == -/
def rStrAny (K : PySem.W.Frag) (g : Addr) (sp : Sp) (E : XK) : R2 := fun x y H Q => rEqD K x y H Q ∨ (∃ (z : Str) (a : Addr) (kvs : List (Key × V)), x = .str z ∧ y = .ref a ∧ H a = some (.dK kvs) ∧ Q (.bl false) H) ∨
  ∃ (z : Str) (p C dx : Addr) (fs : List (Str × V)), x = .str z ∧ y = .ref p ∧ H p = some (.ins C dx fs) ∧ StrEq K C g ∧ sp [.ref p, x] H Q E
structure In1 (K : PySem.W.Frag) (C g : Addr) : Prop where
  at_ : PySem.W.findIn K (.ref C) "__contains__" = some (some (.ref g))
  fn : PySem.W.isFn K (.ref g) = true
def rInO (K : PySem.W.Frag) (g : Addr) (sp : Sp) (E : XK) : R2 := fun x y H Q => ∃ (p C dx : Addr) (fs : List (Str × V)), y = .ref p ∧ H p = some (.ins C dx fs) ∧ In1 K C g ∧ sp [.ref p, x] H (fun v H' => ∃ c, v = .bl c ∧ Q (.bl c) H') E
section
variable {X : Cx} {CX : CXT} {k : Nat} {g : Addr} {sp : Sp} {E : XK}
theorem op_strAny {K : PySem.W.Frag} (hK : X.K = K) (hu : X.A.units + 64 < cLine) (F : FnR X.prog X.w X.K X.mg X.base CX k g sp) (hr : Room k X.A) (hx : Passes CX X E) : OpR X (compareOp .Eq) (rStrAny K g sp E) := by
  subst hK
  intro pins s σ H x y v u Q I rx ry h
  have hu0 : X.A.units < cLine := by omega
  rcases h with h | ⟨z, a, kvs, rfl, rfl, ea, q⟩ | ⟨z, p, C, dx, fs, rfl, rfl, ep, c, hq⟩
  · exact op_eqD hu pins s σ H x y v u Q I rx ry h
  · obtain ⟨t, rfl⟩ := rx
    obtain rfl : u = Value.ref a := ry
    obtain ⟨_, _, vs, _, o, es, n, e1, e2, e3, _⟩ := (show ObjOk X.prog X.w H s.heap a (.dK kvs) from I.hok a _ ea)
    exact PySem.W.cmp_ofEq (rc_strDict hu0 e1 e2.1 e3 ⟨.bl _, H, I, rfl, q⟩)
  · obtain ⟨t, rfl⟩ := rx
    obtain rfl : u = Value.ref p := ry
    obtain ⟨ox, od, J, hd⟩ := StX.insC_at I (.inr ⟨dx, fs, ep⟩)
    exact PySem.W.cmp_ofEq (rc_strOwn hu0 I.kIn J hd c.sub c.at_ c.fn (run_own F hr hx I (us := [.ref p, .str z t]) (vs := [.ref p, .str z]) (.cons rfl (.cons ⟨t, rfl⟩ .nil)) hq))
theorem op_inO (F : FnR X.prog X.w X.K X.mg X.base CX k g sp) (hr : Room k X.A) (hx : Passes CX X E) : OpR X (compareOp .In) (rInO X.K g sp E) := by
  intro pins s σ H x y v u Q I rx ry h
  obtain ⟨p, C, dx, fs, rfl, ep, c, hq⟩ := h
  obtain rfl : u = Value.ref p := ry
  obtain ⟨ox, od, J, _⟩ := StX.insC_at I (.inr ⟨dx, fs, ep⟩)
  obtain ⟨mm, fr⟩ := I.fr
  refine PySem.W.in_K fr I.ok.mod.kin J c.at_ c.fn (wpAny_mono (wpAny_call (run_fnR F hr hx I (us := [.ref p, v]) (vs := [.ref p, x]) (.cons rfl (.cons rx .nil)) hq)) (fun r s' q => ?_) fun _ _ q => q)
  obtain ⟨y2, H2, I2, r2, b, rfl, q⟩ := q
  cases (show r = Value.bool b from r2)
  exact wpAny_pure ⟨.bl b, H2, I2, rfl, q⟩
end
end OwR
end
section
/-! a def that wants no guard, called by name; repr of a number or None. -/
namespace OwR
open PySem PySem.Spec PyProof.Rows L2
section
variable {X : Cx} {CX : CXT} {k : Nat} {f : Addr} {fd : FuncData} {ps : List Str} {sp : Sp} {E : XK} {x : Str} {p pos : Pos} {e : Expr} {es : List Expr} {t : TA}
theorem run_fnG {pins : List (Addr × Obj)} {σ : L2.St} {H : Hp} {s : Shared} {Q : VK} {us : List Value} {vs : List V} (F : FnG X.prog X.w X.K X.mg X.base CX k f fd ps sp) (len : ∀ vs H Q E, sp vs H Q E → vs.length = ps.length) (hgd : X.A.guards = some []) (hr : Room k X.A) (hb : Binds X.K fd ps []) (hx : Passes CX X E)
    (I : Inv X pins σ H s) (r : Vals vs us) (h : sp vs H Q E) : wpAny (model X.prog X.w) X.A (call (.ref f) us) (EP X pins σ Q) X.xe s := by
  have hl : us.length = ps.length := by rw [← r.length]; exact len _ _ _ _ h
  have b := hb s us I.kIn (by rw [List.append_nil]; exact hl)
  rw [List.append_nil] at b
  refine wpAny_call (codeAny_mono (F X.A X.stack s H ⟨us, []⟩ us vs Q E hgd hr I.env0 b r h) fun r s' hq => ?_)
  cases r with
  | error e => exact hx pins σ H s e s' I hq
  | ok fl =>
    cases fl with
    | ret u => exact I.after hq
    | next => exact False.elim hq
    | brk => exact False.elim hq
    | cont => exact False.elim hq
theorem pe_callG (F : FnG X.prog X.w X.K X.mg X.base CX k f fd ps sp) (len : ∀ vs H Q E, sp vs H Q E → vs.length = ps.length) (hgd : X.A.guards = some []) (hr : Room k X.A) (hg : Gl X x) (hm : X.mg x = some (.ref f)) (hk : PySem.W.keepIn X.K (.ref f) = true) (hb : Binds X.K fd ps []) (hx : Passes CX X E)
    (ha : PA X (e :: es) t) (hdb : (x == ("__debug__" : Str)) = false := by decide) (he : starEach (e :: es) X.env = (false, eval e X.env) :: starEach es X.env := by rfl) (hpl : (backTo pos (starEach es X.env)).any (·.1) = false := by rfl) :
    PE X (.Call (.Name x p) (e :: es) [] pos) (tCall sp [] E t) := by
  refine ⟨fun pins s σ H Q I h => ?_⟩
  refine wpAny_Call_Name_kw (ld_glob I hg hm ?_ hdb)
  refine PySem.W.callWith_K (h₀ := X.base) I.ok.mod.kin hk (thn (ha.run pos pins s σ H _ I h) fun us s1 ⟨vs, H1, I1, r, q⟩ => ⟨I1.kIn, ?_⟩) he hpl
  have q : sp (vs ++ []) H1 Q E := q
  rw [List.append_nil] at q
  exact run_fnG F len hgd hr hb hx I1 r q
end
def reprI : Option Int → Str
  | none => "None"
  | some i => toString i
def rReprI : List V → Hp → VK → Prop := fun xs H Q => ∃ o : Option Int, xs = [match o with | none => V.non | some i => V.int i] ∧ (∀ i, o = some i → i.natAbs.log2 < 1920) ∧ Q (.str (reprI o)) H
/-- repr of a number or of None -/
theorem cr_reprI {X : Cx} : CallR X (.builtin "repr") rReprI := by
  intro pins s σ H xs us Q I r h
  obtain ⟨o, rfl, hz, q⟩ := h
  cases o with
  | none =>
    obtain ⟨u, rfl, rx⟩ := vals1 r
    cases (show u = Value.none from rx)
    exact call_repr_gives (typeIs_none s) F.slot_NoneType_repr F.entry_NoneType_repr (F.args_NoneType_repr_1 _) gives_none_repr ⟨.str _, H, I.tok _, ⟨_, rfl⟩, q⟩
  | some i => exact SkE.call_repr_int pins s σ H _ us Q I r ⟨i, rfl, hz i rfl, q⟩
end OwR
end
section
/-! Own: operators of own classes beside values of any built-in type; x op= y where the class has no method for it; lists of the same things. -/
namespace OwR
open PySem PySem.Spec PyProof.Rows L2
/-- no class above has the method -/
def noIn (K : PySem.W.Frag) (C : Addr) (i : Str) : Bool := (PySem.W.clsIn K C).any fun cd => cd.mro.all fun c => decide (PySem.W.findIn K c i = some none)
theorem none_fills {M : Model} {K : PySem.W.Frag} {h : Heap} {C : Addr} {nm : String} {add : Bool} (X : K.In h) (n : noIn K C (dunderI nm) = true) : PySem.W.Looks M h (fillsInplaceSlot (.ref C) nm add) false := by
  unfold noIn at n
  cases hc : PySem.W.clsIn K C with
  | none => rw [hc] at n; cases n
  | some cd =>
    rw [hc] at n
    have all : ∀ c ∈ cd.mro, PySem.W.findIn K c (dunderI nm) = some none := fun c m => of_decide_eq_true (List.all_eq_true.mp n c m)
    intro A Q E s k q
    have Lm : PySem.W.Looks M h (mroOf (.ref C)) cd.mro := (PySem.W.looks_clsIn X hc).andThen (f := fun cd => pure cd.mro) .now
    have Lm2 := Lm.keeps k
    have walk : ∀ (l : List Value) (f : Value → Sem Bool) (Q : Bool → Shared → Prop), (∀ c ∈ l, ∀ Q : Bool → Shared → Prop, Q false s → wpAny M A (f c) Q E s) → Q false s → wpAny M A (l.anyM f) Q E s := fun l f => by
      induction l with
      | nil => exact fun Q _ q => wpAny_pure q
      | cons c r ih =>
        intro Q hf q
        rw [List.anyM_cons]
        refine wpAny_bind (hf c List.mem_cons_self _ ?_)
        exact ih _ (fun d m => hf d (List.mem_cons_of_mem _ m)) q
    unfold fillsInplaceSlot
    refine wpAny_bind (Lm2.here ?_)
    refine walk _ _ _ (fun c m Q' q' => ?_) q
    have L1 : PySem.W.Looks M s.heap (typeLookup c (dunderI nm)) none := PySem.W.looks_findIn (X.keeps k) (all c m)
    exact wpAny_bind (L1.here (wpAny_pure q'))
section
variable {prog : Program} {w : World} {A : Around} {E : Value → Shared → Prop} {s : Shared} {K : PySem.W.Frag} {x C f : Addr} {ox : Obj} {od : Option Obj} {nm : String} {b : Value} {Q : Value → Shared → Prop}
/-- the operator's own method, b of the same class -/
theorem bin1_same (X : K.In s.heap) (I : PySem.W.InstAt s.heap x ox C od) (hb : PySem.W.Looks (model prog w) s.heap (typeOf b) (.ref C)) (cC : PySem.W.selfFirst K C = true) (sC : PySem.W.findIn K (.ref C) (PySem.dunder nm) = some (some (.ref f))) (hf : PySem.W.isFn K (.ref f) = true)
    (h : wpAny (model prog w) A (call (.ref f) [.ref x, b]) (PySem.W.CmpBack Q) E s) : wpAny (model prog w) A (binaryOp1 nm (.ref x) b) (fun r s' => ∃ v, r = some v ∧ Q v s') E s := by
  obtain ⟨c1, r1, k1, m1⟩ := PySem.W.ksp_first cC
  have one := PySem.W.ksp_try X I sC hf h
  obtain ⟨hp, gs, dr, tk, os⟩ := s
  have L1 : PySem.W.Looks (model prog w) hp (typeOf (.ref x)) (.ref C) := I.type
  have L2 : PySem.W.Looks (model prog w) hp (typeOf b) (.ref C) := hb
  have L3 : PySem.W.Looks (model prog w) hp (fillsNumberSlot (.ref C) nm) true := PySem.W.fills_K X k1 m1 sC
  unfold binaryOp1
  refine wpAny_bind (L1.at (wpAny_bind (L2.at (wpAny_bind (L3.at ?_)))))
  simp only [BEq.rfl, if_true]
  ksp_lk
  refine wpAny_mono one (fun r s' q => ?_) fun _ _ e => e
  obtain ⟨v, rfl, hq⟩ := q
  ksp_lk
  exact ⟨v, rfl, hq⟩
/-- .. b of another type, which is not below C -/
theorem bin1_other {tb : Value} {right py : Bool} {rc ro : Option Value} (X : K.In s.heap) (I : PySem.W.InstAt s.heap x ox C od) (hb : PySem.W.Looks (model prog w) s.heap (typeOf b) tb) (ne : (Value.ref C == tb) = false) (cC : PySem.W.selfFirst K C = true) (sC : PySem.W.findIn K (.ref C) (PySem.dunder nm) = some (some (.ref f)))
    (rC : PySem.W.findIn K (.ref C) (dunderR nm) = some rc) (pC : rc = none ∨ ∃ g : Addr, rc = some (.ref g)) (fb : PySem.W.Looks (model prog w) s.heap (fillsNumberSlot tb nm) right) (sub : PySem.W.subIn K tb (.ref C) = some false) (pb : PySem.W.Looks (model prog w) s.heap (numberSlotInPython tb nm) py)
    (rb : PySem.W.findIn K tb (dunderR nm) = some ro) (hf : PySem.W.isFn K (.ref f) = true) (h : wpAny (model prog w) A (call (.ref f) [.ref x, b]) (PySem.W.CmpBack Q) E s) : wpAny (model prog w) A (binaryOp1 nm (.ref x) b) (fun r s' => ∃ v, r = some v ∧ Q v s') E s := by
  obtain ⟨c1, r1, k1, m1⟩ := PySem.W.ksp_first cC
  have one := PySem.W.ksp_try X I sC hf h
  obtain ⟨hp, gs, dr, tk, os⟩ := s
  have L1 : PySem.W.Looks (model prog w) hp (typeOf (.ref x)) (.ref C) := I.type
  have L2 : PySem.W.Looks (model prog w) hp (typeOf b) tb := hb
  have L3 : PySem.W.Looks (model prog w) hp (fillsNumberSlot (.ref C) nm) true := PySem.W.fills_K X k1 m1 sC
  have L4 : PySem.W.Looks (model prog w) hp (fillsNumberSlot tb nm) right := fb
  have L5 : PySem.W.Looks (model prog w) hp (isSubtype tb (.ref C)) false := PySem.W.looks_subIn X sub
  have L6 : PySem.W.Looks (model prog w) hp (numberSlotInPython (.ref C) nm) true := PySem.W.ksp_inPy X sC rC pC
  have L7 : PySem.W.Looks (model prog w) hp (numberSlotInPython tb nm) py := pb
  have L8 : PySem.W.Looks (model prog w) hp (typeLookup tb (dunderR nm)) ro := PySem.W.looks_findIn X rb
  unfold binaryOp1
  refine wpAny_bind (L1.at (wpAny_bind (L2.at (wpAny_bind (L3.at ?_)))))
  simp only [ne, Bool.false_eq_true, if_false]
  cases right <;> cases py <;>
    (ksp_lk
     refine wpAny_mono one (fun r s' q => ?_) fun _ _ e => e
     obtain ⟨v, rfl, hq⟩ := q
     ksp_lk
     exact ⟨v, rfl, hq⟩)
/-- a op b by binaryOp1 -/
theorem bin_of1 {op : Operator} (h : wpAny (model prog w) A (binaryOp1 op.info.2 (.ref x) b) (fun r s' => ∃ v, r = some v ∧ Q v s') E s) : wpAny (model prog w) A (binaryOp op (.ref x) b) Q E s := by
  rcases hi : op.info with ⟨sym, n⟩
  rw [hi] at h
  simp only [binaryOp, hi]
  refine wpAny_holding (wpAny_bind (wpAny_mono h (fun r s' q => ?_) fun _ _ e => e))
  obtain ⟨v, rfl, hq⟩ := q
  ksp_lk
  exact hq
/-- a op= b by binaryOp1 -/
theorem iop_of1 {op : Operator} (X : K.In s.heap) (I : PySem.W.InstAt s.heap x ox C od) (n : noIn K C (dunderI op.info.2) = true) (h : wpAny (model prog w) A (binaryOp1 op.info.2 (.ref x) b) (fun r s' => ∃ v, r = some v ∧ Q v s') E s) : wpAny (model prog w) A (inplaceOp op (.ref x) b) Q E s := by
  have L1 : PySem.W.Looks (model prog w) s.heap (typeOf (.ref x)) (.ref C) := I.type
  have L2 : PySem.W.Looks (model prog w) s.heap (fillsInplaceSlot (.ref C) op.info.2 (op == .Add)) false := none_fills X n
  unfold inplaceOp
  refine wpAny_holding (wpAny_bind (L1.here (wpAny_bind (L2.here ?_))))
  simp only [Bool.false_eq_true, if_false]
  refine wpAny_bind (wpAny_mono h (fun r s' q => ?_) fun _ _ e => e)
  obtain ⟨v, rfl, hq⟩ := q
  ksp_lk
  exact hq
end
/-- a value's built-in type -/
inductive TyB (H : Hp) : V → String → Prop where
  | sc {y : V} {T : String} (h : tyS y = some T) : TyB H y T
  | lst {a : Addr} {xs : List V} (e : H a = some (.lst xs)) : TyB H (.ref a) "list"
  | tup {a : Addr} {xs : List V} (e : H a = some (.tup xs)) : TyB H (.ref a) "tuple"
  | dic {a : Addr} {kvs : List (Key × V)} (e : H a = some (.dK kvs)) : TyB H (.ref a) "dict"
section
variable {X : Cx} {CX : CXT} {k : Nat} {g : Addr} {sp : Sp} {E : XK} {op : Operator}
theorem TyB.looks {pins : List (Addr × Obj)} {σ : L2.St} {H : Hp} {s : Shared} {y : V} {u : Value} {T : String} {M : Model} (t : TyB H y T) (I : Inv X pins σ H s) (r : RelV y u) : PySem.W.Looks M s.heap (typeOf u) (.type T) := by
  have byRef : ∀ {a : Addr} {o : Obj}, s.heap.get? a = some o → o.cls = .type T → PySem.W.Looks M s.heap (typeOf (.ref a)) (.type T) := fun {a o} e c A Q E s k q => wpAny_typeOf_ref (k _ _ e) (by rw [c]; exact q)
  cases t with
  | sc h => exact PySem.W.Looks.of_pure (tyS_of r h)
  | @lst a xs e =>
    obtain rfl : u = Value.ref a := r
    obtain ⟨_, its, n, _, h1⟩ := (show ObjOk X.prog X.w H s.heap a (.lst xs) from I.hok a _ e)
    exact byRef h1 rfl
  | @tup a xs e =>
    obtain rfl : u = Value.ref a := r
    obtain ⟨_, its, _, ob, h1, c, _⟩ := (show ObjOk X.prog X.w H s.heap a (.tup xs) from I.hok a _ e)
    exact byRef h1 c
  | @dic a kvs e =>
    obtain rfl : u = Value.ref a := r
    obtain ⟨_, _, vs, _, ob, es, ep, h1, c, _⟩ := (show ObjOk X.prog X.w H s.heap a (.dK kvs) from I.hok a _ e)
    exact byRef h1 c.1
def rOwnB (K : PySem.W.Frag) (op : Operator) (g : Addr) (sp : Sp) (E : XK) : R2 := fun x y H Q => ∃ (p C dx : Addr) (fs : List (Str × V)) (T : String), x = .ref p ∧ H p = some (.ins C dx fs) ∧ TyB H y T ∧ Bin1 K op C g ∧ BinT K op C T ∧ sp [.ref p, y] H Q E
theorem one_B {pins : List (Addr × Obj)} {σ : L2.St} {H : Hp} {s : Shared} {Q : VK} {p C dx : Addr} {fs : List (Str × V)} {T : String} {y : V} {u : Value} (F : FnR X.prog X.w X.K X.mg X.base CX k g sp) (hr : Room k X.A) (hx : Passes CX X E) (I : Inv X pins σ H s) (ep : H p = some (.ins C dx fs)) (ty : TyB H y T) (b1 : Bin1 X.K op C g) (bT : BinT X.K op C T) (ry : RelV y u) (hq : sp [.ref p, y] H Q E) :
    wpAny (model X.prog X.w) X.A (binaryOp1 op.info.2 (.ref p) u) (fun r s' => ∃ v, r = some v ∧ EP X pins σ Q v s') X.xe s := by
  obtain ⟨ox, od, J, _⟩ := StX.insC_at I (.inr ⟨dx, fs, ep⟩)
  obtain ⟨rc, e1, e2⟩ := b1.refl
  obtain ⟨fo, e3⟩ := bT.f
  obtain ⟨ro, e4⟩ := bT.r
  exact bin1_other I.kIn J (ty.looks I ry) (Bool.eq_false_iff.mpr fun q => by cases beq_iff_eq.mp q) b1.self b1.at_ e1 e2 (PySem.W.ksp_fillsT I.kIn e3 e4) bT.sub (PySem.W.Looks.of_pure rfl) e4 b1.fn (run_own F hr hx I (us := [.ref p, u]) (vs := [.ref p, y]) (.cons rfl (.cons ry .nil)) hq)
theorem op_ownB (F : FnR X.prog X.w X.K X.mg X.base CX k g sp) (hr : Room k X.A) (hx : Passes CX X E) : OpR X (binaryOp op) (rOwnB X.K op g sp E) := by
  intro pins s σ H x y v u Q I rx ry h
  obtain ⟨p, C, dx, fs, T, rfl, ep, ty, b1, bT, hq⟩ := h
  obtain rfl : v = Value.ref p := rx
  exact bin_of1 (one_B F hr hx I ep ty b1 bT ry hq)
theorem op_ownBK {K : PySem.W.Frag} (h : X.K = K) (F : FnR X.prog X.w X.K X.mg X.base CX k g sp) (hr : Room k X.A) (hx : Passes CX X E) : OpR X (binaryOp op) (rOwnB K op g sp E) := by
  subst h
  exact op_ownB F hr hx
/-- x op= y, y of a built-in type -/
theorem in_ownB (F : FnR X.prog X.w X.K X.mg X.base CX k g sp) (hr : Room k X.A) (hx : Passes CX X E) : InOp X op (fun x y H Q => (∀ p, x = .ref p → ∀ C dx fs, H p = some (.ins C dx fs) → noIn X.K C (dunderI op.info.2) = true) ∧ rOwnB X.K op g sp E x y H Q) := by
  intro pins s σ H x y u v Q I rx ry ⟨ni, h⟩
  obtain ⟨p, C, dx, fs, T, rfl, ep, ty, b1, bT, hq⟩ := h
  obtain rfl : u = Value.ref p := rx
  obtain ⟨ox, od, J, _⟩ := StX.insC_at I (.inr ⟨dx, fs, ep⟩)
  exact iop_of1 I.kIn J (ni p rfl C dx fs ep) (one_B F hr hx I ep ty b1 bT ry hq)
/-- x op= y, both of own classes -/
theorem in_own2 (F : FnR X.prog X.w X.K X.mg X.base CX k g sp) (hr : Room k X.A) (hx : Passes CX X E) : InOp X op (fun x y H Q => (∀ p, x = .ref p → ∀ C dx fs, H p = some (.ins C dx fs) → noIn X.K C (dunderI op.info.2) = true) ∧ rOwn2 X.K op g sp E x y H Q) := by
  intro pins s σ H x y v u Q I rx ry ⟨ni, h⟩
  obtain ⟨p, q, C, D, dx, dy, fs, gs, rfl, rfl, ep, eq, ⟨b1, b2⟩, hq⟩ := h
  obtain rfl : v = Value.ref p := rx
  obtain rfl : u = Value.ref q := ry
  obtain ⟨ox, od, J, _⟩ := StX.insC_at I (.inr ⟨dx, fs, ep⟩)
  obtain ⟨oy, oe, J2, _⟩ := StX.insC_at I (.inr ⟨dy, gs, eq⟩)
  have go := run_own F hr hx I (us := [.ref p, .ref q]) (vs := [.ref p, .ref q]) (.cons rfl (.cons rfl .nil)) hq
  refine iop_of1 I.kIn J (ni p rfl C dx fs ep) ?_
  rcases b2 with rfl | ⟨⟨g', b2⟩, ne, sub⟩
  · exact bin1_same I.kIn J J2.type b1.self b1.at_ b1.fn go
  · obtain ⟨rc, e1, e2⟩ := b1.refl
    obtain ⟨rd, e3, e4⟩ := b2.refl
    obtain ⟨c2, r2, k2, m2⟩ := PySem.W.ksp_first b2.self
    exact bin1_other I.kIn J J2.type (Bool.eq_false_iff.mpr fun z => ne (by cases beq_iff_eq.mp z; rfl)) b1.self b1.at_ e1 e2 (PySem.W.fills_K I.kIn k2 m2 b2.at_) sub (PySem.W.ksp_inPy I.kIn b2.at_ e3 e4) e3 b1.fn go
end
/-! ### lists of the same things -/
def rNeRefs (K : PySem.W.Frag) : R2 := fun x y H Q => ∃ (a b : Addr) (rs : List Addr), x = .ref a ∧ y = .ref b ∧ SqL K H a (rs.map V.ref) ∧ SqL K H b (rs.map V.ref) ∧ Q (.bl false) H
theorem op_neRefs {X : Cx} (hu : X.A.units < cLine) : OpR X (compareOp .NotEq) (rNeRefs X.K) := by
  intro pins s σ H x y v u Q I rx ry h
  obtain ⟨a, b, rs, rfl, rfl, ha, hb, q⟩ := h
  obtain rfl : v = Value.ref a := rx
  obtain rfl : u = Value.ref b := ry
  obtain ⟨i1, r1, h1, _⟩ := I.list ha
  obtain ⟨i2, r2, h2, _⟩ := I.list hb
  have eqs : ∀ (rs : List Addr) (i1 i2 : List Value), Vals (rs.map V.ref) i1 → Vals (rs.map V.ref) i2 → i1 = i2 := fun rs => by
    induction rs with
    | nil =>
      intro i1 i2 r1 r2
      cases r1
      cases r2
      rfl
    | cons z zs ih =>
      intro i1 i2 r1 r2
      cases r1 with
      | cons e1 t1 =>
        cases r2 with
        | cons e2 t2 =>
          rw [show _ = Value.ref z from e1, show _ = Value.ref z from e2, ih _ _ t1 t2]
  have e := eqs rs i1 i2 r1 r2
  subst e
  refine SeqAt.RcNeAt.lists (e := fun _ => true) h1.isList h2.isList rfl hu (fun j _ _ => SeqAt.EqAt.same _) X.prog X.w X.xe _ ?_
  rw [show (List.range _).all (fun _ => true) = true from List.all_eq_true.mpr fun _ _ => rfl]
  exact ⟨.bl false, H, I, rfl, q⟩
end OwR
end
section
namespace OwD
open PySem PySem.Spec PyProof.Rows L2
theorem lays {α : Type} {f : α → PyData} : ∀ l : List α, (∀ x ∈ l, (f x).canLay0 = true) → PyData.canLayAll0 (l.map f) = true
  | [], _ => by simp [PyData.canLayAll0]
  | x :: l, h => by
    rw [List.map_cons, PyData.canLayAll0, h x List.mem_cons_self, lays l fun y hy => h y (List.mem_cons_of_mem _ hy)]
    rfl
theorem deps {α : Type} {f : α → PyData} {k : Nat} : ∀ l : List α, (∀ x ∈ l, (f x).depth ≤ k) → PyData.depthAll (l.map f) ≤ k
  | [], _ => by simp [PyData.depthAll]
  | x :: l, h => by
    have h1 := h x List.mem_cons_self
    have h2 := deps l fun y hy => h y (List.mem_cons_of_mem _ hy)
    rw [List.map_cons, PyData.depthAll]
    exact Nat.max_le.mpr ⟨h1, h2⟩
theorem shaped_of {d : PyData} (h1 : d.canLay0 = true) (h2 : d.depth ≤ 64) : SeqAt.shaped d = true := by
  show (d.canLay0 && decide (d.depth ≤ 64)) = true
  rw [h1, decide_eq_true h2]
  rfl
theorem shaped_lst {α : Type} {f : α → PyData} {l : List α} {k : Nat} (hk : k ≤ 60) (h1 : ∀ x ∈ l, (f x).canLay0 = true) (h2 : ∀ x ∈ l, (f x).depth ≤ k) : SeqAt.shaped (.list (l.map f)) = true := by
  refine shaped_of (by rw [PyData.canLay0]; exact lays l h1) ?_
  have := deps l h2
  rw [PyData.depth]
  omega
theorem shaped_tup {α : Type} {f : α → PyData} {l : List α} {k : Nat} (hk : k ≤ 60) (h1 : ∀ x ∈ l, (f x).canLay0 = true) (h2 : ∀ x ∈ l, (f x).depth ≤ k) : SeqAt.shaped (.tuple (l.map f)) = true := by
  refine shaped_of (by rw [PyData.canLay0]; exact lays l h1) ?_
  have := deps l h2
  rw [PyData.depth]
  omega
theorem dp_ints {K : PySem.W.Frag} {H : Hp} : ∀ ns : List Int, DpAll K H (ns.map V.int) (ns.map PyData.int)
  | [] => .nil
  | n :: r => .cons (.int n) (dp_ints r)
theorem dp_strs {K : PySem.W.Frag} {H : Hp} : ∀ ns : List Str, DpAll K H (ns.map V.str) (ns.map PyData.str)
  | [] => .nil
  | n :: r => .cons (.str n) (dp_strs r)
theorem shaped_ints (ns : List Int) : SeqAt.shaped (.list (ns.map PyData.int)) = true := shaped_lst (k := 0) (by decide) (fun _ _ => by simp [PyData.canLay0]) fun _ _ => by simp [PyData.depth]
theorem eqv_nil {α : Type} {f : α → PyData} (l : List α) : PyData.eqv (.list (l.map f)) (.list []) = l.isEmpty := by
  cases l <;> simp [PyData.eqv, PyData.eqvAll]
theorem shaped_nil : SeqAt.shaped (.list []) = true := shaped_of (by simp [PyData.canLay0, PyData.canLayAll0]) (by simp [PyData.depth, PyData.depthAll])
end OwD
end
section
namespace OwR
open PySem PySem.Spec PyProof.Rows L2
theorem raw0 {P : Program} {w : World} {K : PySem.W.Frag} {mg : Str → Option Value} {base : Heap} {CX : CXT} {k : Nat} {f : Addr} {fd : FuncData} {ps : List Str} {sp : Sp} (F : FnOk P w K mg base CX k f fd ps sp) (hb : Binds K fd ps []) : FnR P w K mg base CX k f sp :=
  (F.raw hb .nil).imp fun vs H Q E h => by rw [List.append_nil]; exact h
end OwR
namespace K10
open PySem PySem.Spec PyProof.Rows L2
/-- what stands behind the module's names -/
structure Nm (mg : Str → Option Value) : Prop where
  n_int : mg "int" = none
  n_len : mg "len" = none
  n_abs : mg "abs" = none
  n_list : mg "list" = none
/-- the state of the draws at p: the cells at c, how many were taken, what is left of a great one -/
structure PenAt (H : Hp) (p c : Addr) (ns : List Int) (n : Nat) (z : Int) : Prop where
  pen : H p = some (.lst [.ref c, .int n, .int z])
  cells : H c = some (.lst (ns.map V.int))
  few : ns.length ≤ 63
  rest : 0 ≤ z
theorem PenAt.ne {H : Hp} {p c : Addr} {ns : List Int} {n : Nat} {z : Int} (P : PenAt H p c ns n z) : c ≠ p := fun e => by
  have h1 := P.pen
  have h2 := P.cells
  rw [e, h1] at h2
  have h3 := congrArg (fun o : Option HO => match o with | some (.lst xs) => xs | _ => []) h2
  have h4 : ([V.ref c, V.int n, V.int z] : List V) = ns.map V.int := h3
  cases ns with
  | nil => cases h4
  | cons a l => cases h4
/-- all but the pen stands -/
def But (p : Addr) (H H' : Hp) : Prop := ∀ b o, b ≠ p → H b = some o → H' b = some o
theorem But.refl (p : Addr) (H : Hp) : But p H H := fun _ _ _ h => h
theorem But.trans {p : Addr} {H H1 H2 : Hp} (a : But p H H1) (b : But p H1 H2) : But p H H2 := fun c o n h => b c o n (a c o n h)
theorem But.new {p l : Addr} {H : Hp} {o : HO} (h : H l = none) : But p H (upd H l o) := fun b u _ e => by
  rw [upd_ne (ne_of_none e h)]
  exact e
theorem But.at {p : Addr} {H : Hp} {o : HO} : But p H (upd H p o) := fun b u n e => by
  rw [upd_ne n]
  exact e
theorem But.same {p : Addr} {H H' : Hp} (a : But p H H') (s : Same H' H') : But p H H' := a
theorem at_mod (ns : List Int) (n : Int) (h : 0 < ns.length) : ∃ x : Int, atI (ns.map V.int) (n % ((ns.map V.int).length : Int)) = some (V.int x) := by
  have hl : (ns.map V.int).length = ns.length := List.length_map _
  have h1 : 0 ≤ n % ((ns.map V.int).length : Int) := Int.emod_nonneg _ (by omega)
  have h2 : n % ((ns.map V.int).length : Int) < ((ns.map V.int).length : Int) := Int.emod_lt_of_pos _ (by omega)
  generalize n % ((ns.map V.int).length : Int) = j at h1 h2
  obtain ⟨i, rfl⟩ : ∃ i : Nat, j = (i : Int) := ⟨j.toNat, by omega⟩
  have hi : i < ns.length := by omega
  refine ⟨ns[i], atI_nat ?_⟩
  rw [List.getElem?_map, List.getElem?_eq_getElem hi]
  rfl
theorem mix_lt {x n a b c : Int} (x0 : 0 ≤ x) (x1 : x < 2147483648) (n0 : 0 ≤ n) (n1 : n < 100000) (a0 : 0 ≤ a) (a1 : a < 1000000) (b0 : 0 ≤ b) (b1 : b < 1000000) (c0 : 0 ≤ c) (c1 : c < 1000000) :
    (x * (2 * n + a) + b * n * n + c).natAbs < 2 ^ 64 := by
  have h1 : 0 ≤ x * (2 * n + a) := Int.mul_nonneg x0 (by omega)
  have h2 : x * (2 * n + a) ≤ 2147483648 * 1200000 := Int.mul_le_mul (by omega) (by omega) (by omega) (by decide)
  have h3 : 0 ≤ b * n * n := Int.mul_nonneg (Int.mul_nonneg b0 n0) n0
  have h4 : b * n ≤ 1000000 * 100000 := Int.mul_le_mul (by omega) (by omega) n0 (by decide)
  have h5 : b * n * n ≤ 1000000 * 100000 * 100000 := Int.mul_le_mul h4 (by omega) n0 (by decide)
  omega
def spDraw : Sp := fun vs H Q _ => ∃ (p c : Addr) (ns : List Int) (n : Nat) (z m : Int), vs = [.ref p, .int m] ∧ PenAt H p c ns n z ∧ n < 100000 ∧ 0 < m ∧ m.natAbs < 2 ^ 1000 ∧
  ∀ (d : Int) (n' : Nat) (z' : Int) (H' : Hp), 0 ≤ d → d < m → n' ≤ n + 1 → PenAt H' p c ns n' z' → But p H H' → Q (.int d) H'
theorem Same.of_new {H : Hp} {p : Addr} {o : HO} (h : H p = none) : Same H (upd H p o) := fun b u e => by
  rw [upd_ne (ne_of_none e h)]
  exact e
theorem But.rd {p : Addr} {H H' : Hp} (s : But p H H') {a : Addr} {o : HO} (n : a ≠ p) (h : Rd H a o) : Rd H' a o := h.elim (fun e => .inl (s a _ n e)) fun ⟨q, e⟩ => .inr ⟨q, s a _ n e⟩
theorem Same.but {H H' : Hp} (p : Addr) (s : Same H H') : But p H H' := fun b o _ e => s b o e
theorem Same.rd {H H' : Hp} (s : Same H H') {a : Addr} {o : HO} (h : Rd H a o) : Rd H' a o := h.elim (fun e => .inl (s a _ e)) fun ⟨q, e⟩ => .inr ⟨q, s a _ e⟩
theorem made_same {H H' : Hp} {x dx : Addr} {o o' : HO} (hx : H x = none) (hd : H dx = none) (s : But x (upd (upd H dx o) x o') H') : Same H H' := fun b u e => by
  refine s b u (ne_of_none e hx) ?_
  rw [upd_ne (ne_of_none e hx), upd_ne (ne_of_none e hd)]
  exact e
theorem upd_keep2 {H : Hp} {D b : Addr} {o u : HO} (h : H b = some u) (hD : H D = none) : upd H D o b = some u := by
  rw [upd_ne (ne_of_none h hD)]
  exact h
theorem SqL.mono {K : PySem.W.Frag} {H H' : Hp} {a : Addr} {xs : List V} (h : SqL K H a xs) (s : Same H H') : SqL K H' a xs := h.elim (fun r => .inl (Same.rd s r)) .inr
theorem SqT.mono {K : PySem.W.Frag} {H H' : Hp} {a : Addr} {xs : List V} (h : SqT K H a xs) (s : Same H H') : SqT K H' a xs := h.elim (fun r => .inl (Same.rd s r)) .inr
theorem But.free {p l : Addr} {H H' : Hp} (s : But p H H') (hp : H' p ≠ none) (h : H' l = none) : H l = none := by
  cases e : H l with
  | none => rfl
  | some o =>
    by_cases n : l = p
    · rw [n] at h
      exact (hp h).elim
    · rw [s l o n e] at h
      cases h
theorem PenAt.some {H : Hp} {p c : Addr} {ns : List Int} {n : Nat} {z : Int} (P : PenAt H p c ns n z) : H p ≠ none := by
  rw [P.pen]
  exact fun h => by cases h
theorem PenAt.same {H H' : Hp} {p c : Addr} {ns : List Int} {n : Nat} {z : Int} (P : PenAt H p c ns n z) (s : Same H H') : PenAt H' p c ns n z := ⟨s _ _ P.pen, s _ _ P.cells, P.few, P.rest⟩
theorem SqL.but {K : PySem.W.Frag} {p : Addr} {H H' : Hp} {a : Addr} {xs : List V} (h : SqL K H a xs) (n : a ≠ p) (s : But p H H') : SqL K H' a xs := h.elim (fun r => .inl (But.rd s n r)) .inr
theorem nth {α : Type} {xs : List α} {d : Int} (h0 : 0 ≤ d) (h1 : d < xs.length) : ∃ x, x ∈ xs ∧ atI xs d = some x := by
  obtain ⟨j, rfl⟩ : ∃ j : Nat, d = (j : Int) := ⟨d.toNat, by omega⟩
  have hj : j < xs.length := by omega
  exact ⟨xs[j], List.getElem_mem hj, atI_nat (List.getElem?_eq_getElem hj)⟩
theorem cut_63 {ns : List Int} (h : ns.length ≤ 63) : cutV (ns.map V.int) none (some 63) = ns.map V.int := by
  have e : (some 63 : Option Int) = some ((63 : Nat) : Int) := rfl
  unfold cutV
  rw [HT.sIx_none, e, HT.sIx_nat, List.drop_zero]
  exact List.take_of_length_le (by rw [List.length_map]; omega)
theorem PenAt.put {H : Hp} {p c D : Addr} {ns : List Int} {n : Nat} {z : Int} {o : HO} (P : PenAt H p c ns n z) (n1 : p ≠ D) (n2 : c ≠ D) : PenAt (upd H D o) p c ns n z := ⟨by rw [upd_ne n1]; exact P.pen, by rw [upd_ne n2]; exact P.cells, P.few, P.rest⟩
def spPen (K : PySem.W.Frag) : Sp := fun vs H Q _ => ∃ (a : Addr) (ns : List Int), vs = [.ref a] ∧ SqL K H a (ns.map V.int) ∧ ns.length ≤ 63 ∧ ∀ p c H', H p = none → Same H H' → PenAt H' p c ns 0 0 → Q (.ref p) H'
def spPick (K : PySem.W.Frag) : Sp := fun vs H Q _ => ∃ (p c l : Addr) (ns : List Int) (n : Nat) (z : Int) (xs : List V), vs = [.ref p, .ref l] ∧ PenAt H p c ns n z ∧ n < 100000 ∧ l ≠ p ∧ SqL K H l xs ∧ 0 < xs.length ∧ xs.length < 1000 ∧
  ∀ (x : V) (n' : Nat) (z' : Int) (H' : Hp), x ∈ xs → n' ≤ n + 1 → PenAt H' p c ns n' z' → But p H H' → Q x H'
theorem small_int {i : Int} (h0 : 0 ≤ i) (h1 : i < 1000) : i.natAbs < 2 ^ 1000 := Nat.lt_of_lt_of_le (show i.natAbs < 1000 by omega) (by decide +kernel)
def letter (c : Nat) : Bool := decide (97 ≤ c) && decide (c ≤ 122)
def nameB (z : Str) : Bool := (decide (1 ≤ z.length) && decide (z.length ≤ 8)) && z.cps.toList.all letter
theorem one_le (a c : Nat) : (!decide (([c] : List Nat) < [a])) = decide (a ≤ c) := by
  by_cases h : a ≤ c
  · rw [decide_eq_true h, decide_eq_false]
    · rfl
    · intro q
      rcases List.cons_lt_cons_iff.mp q with q | ⟨_, q⟩
      · omega
      · exact absurd q (by simp)
  · rw [decide_eq_false h, decide_eq_true]
    · rfl
    · exact List.cons_lt_cons_iff.mpr (.inl (by omega))
/-- what is no text -/
def NoStr (K : PySem.W.Frag) (H : Hp) (v : V) : Prop := ∃ t, TyX K H v t ∧ PySem.W.kitOne K t (.type "str") = some false
/-- what is no name -/
def NoName (K : PySem.W.Frag) (H : Hp) (v : V) : Prop := (∃ z : Str, v = .str z ∧ z.length ≤ 1000 ∧ nameB z = false) ∨ NoStr K H v
def spName (K : PySem.W.Frag) : Sp := fun vs H Q _ => ∃ v : V, vs = [v] ∧ ((∃ z : Str, v = .str z ∧ z.length ≤ 1000 ∧ ∀ H', Same H H' → Q (.bl (nameB z)) H') ∨ (NoStr K H v ∧ Q (.bl false) H))
def spCheck (K : PySem.W.Frag) (CB : Addr) : Sp := fun vs H Q E => ∃ v : V, vs = [v] ∧ ((∃ z : Str, v = .str z ∧ z.length ≤ 1000 ∧ nameB z = true ∧ ∀ H', Same H H' → Q .non H') ∨ (NoName K H v ∧ ∀ H' d, Same H H' → H' d = none → E (.ref CB) (some d) (upd H' d (.xd [("value", v)]))))
theorem name_short {z : Str} (h : nameB z = true) (B : Nat) : PyData.leavesShort B (.str z) = true := by
  unfold nameB at h
  have h2 := List.all_eq_true.mp (Bool.and_eq_true_iff.mp h).2
  show (z.cps.toList.all fun c => decide (c < 16 ^ 8)) = true
  refine List.all_eq_true.mpr fun c hc => ?_
  have h3 := h2 c hc
  unfold letter at h3
  have h4 := of_decide_eq_true (Bool.and_eq_true_iff.mp h3).2
  exact decide_eq_true (by omega)
theorem name_strOk {z : Str} (h : nameB z = true) : PyData.strOk z = true := by
  have h2 := List.all_eq_true.mp (Bool.and_eq_true_iff.mp (show (_ && _) = true from h)).2
  unfold PyData.strOk
  rw [Array.all_eq_true']
  intro c hc
  have h3 := h2 c (Array.mem_toList_iff.mpr hc)
  unfold letter at h3
  have h4 := of_decide_eq_true (Bool.and_eq_true_iff.mp h3).2
  exact decide_eq_true (by omega)
theorem strOk_app {x y : Str} (hx : PyData.strOk x = true) (hy : PyData.strOk y = true) : PyData.strOk (x ++ y) = true := by
  obtain ⟨c⟩ := x
  obtain ⟨d⟩ := y
  show (c ++ d).all _ = true
  rw [Array.all_append]
  exact Bool.and_eq_true_iff.mpr ⟨hx, hy⟩
theorem shaped_strs {zs : List Str} (h : ∀ z ∈ zs, PyData.strOk z = true) : SeqAt.shaped (.list (zs.map PyData.str)) = true := by
  refine OwD.shaped_lst (k := 0) (by decide) (fun z hz => ?_) fun z hz => ?_
  · rw [PyData.canLay0]
    exact h z hz
  · exact Nat.le_of_ble_eq_true rfl
theorem eqv_strs {zs : List Str} (h : ∀ z ∈ zs, PyData.strOk z = true) : PyData.eqv (.list (zs.map PyData.str)) (.list (zs.map PyData.str)) = true := SeqAt.eqv_refl _ (SeqAt.canLay_of_shaped (shaped_strs h))
theorem shown_fits {d : PyData} (h : d.leavesShort 100 = true) (hb : d.bulk ≤ 1000) : d.shown.length ≤ sizeLine := by
  have := PyData.shown_le_bulk 100 (by decide) d h
  have sz := sizeLine_eq
  have h2 : (100 + 2) * d.bulk ≤ (100 + 2) * 1000 := Nat.mul_le_mul_left _ hb
  omega
/-- the error class at C, as a def that raises it wants it -/
structure ErrT (K : PySem.W.Frag) (mg : Str → Option Value) (x : Str) (C fI : Addr) : Prop where
  er : OwE.ErrC K C
  g : mg x = some (.ref C)
  ini : PySem.W.findIn K (.ref C) "__init__" = some (some (.ref fI))
  ty : PySem.W.typeIn K (.ref fI) = some (.type "function")
theorem joinL_singles : ∀ cs : List Nat, TL.joinL [] (cs.map fun c => [c]) = cs
  | [] => rfl
  | [_] => rfl
  | a :: b :: r => by
    have ih := joinL_singles (b :: r)
    show [a] ++ ([] ++ TL.joinL [] ((b :: r).map fun c => [c])) = a :: b :: r
    rw [ih]
    rfl
theorem join_signs (cs : List Nat) : Txt.join Str.empty (cs.map fun c => (⟨#[c]⟩ : Str)) = ⟨cs.toArray⟩ := by
  rw [← TL.mk_tl (Txt.join Str.empty (cs.map fun c => (⟨#[c]⟩ : Str))), TL.join_eq, TL.tl_join, List.map_map]
  have e : TL.joinL (TL.tl Str.empty) (cs.map (TL.tl ∘ fun c => (⟨#[c]⟩ : Str))) = cs := joinL_singles cs
  rw [e]
def spPickS : Sp := fun vs H Q _ => ∃ (p c : Addr) (ns : List Int) (n : Nat) (z : Int) (t : Str), vs = [.ref p, .str t] ∧ PenAt H p c ns n z ∧ n < 100000 ∧ 0 < t.length ∧ t.length < 1000 ∧
  ∀ (x : Nat) (n' : Nat) (z' : Int) (H' : Hp), x ∈ t.cps.toList → n' ≤ n + 1 → PenAt H' p c ns n' z' → But p H H' → Q (.str ⟨#[x]⟩) H'
theorem letters_name {cs : List Nat} (h1 : 1 ≤ cs.length) (h8 : cs.length ≤ 8) (hc : ∀ c ∈ cs, letter c = true) : nameB ⟨cs.toArray⟩ = true := by
  unfold nameB
  have e : (⟨cs.toArray⟩ : Str).length = cs.length := List.size_toArray
  rw [e, decide_eq_true h1, decide_eq_true h8, Bool.true_and, Bool.true_and]
  exact List.all_eq_true.mpr hc
end K10
end
section
/-! Own: a and b of bools, told as one bool, where b changes nothing that was there. -/
namespace OwR
open PySem PySem.Spec PyProof.Rows L2
def MonoT (ta : TE) : Prop := ∀ (σ : L2.St) (H : Hp) (Q Q' : VK), (∀ v H', Q v H' → Q' v H') → ta σ H Q → ta σ H Q'
theorem mono_var (i : Nat) : MonoT (tVar i) := fun σ H Q Q' h ⟨v, e, q⟩ => ⟨v, e, h v H q⟩
def tAndB (ta tb : TE) : TE := fun σ H Q => ta σ H fun x H1 => ∃ b c : Bool, x = .bl b ∧ (∀ Q' : VK, (∀ H2, L2.Same H1 H2 → Q' (.bl c) H2) → tb σ H1 Q') ∧ ∀ H2, L2.Same H1 H2 → Q (.bl (b && c)) H2
theorem pe_andB {X : Cx} {a b : Expr} {ta tb : TE} {pos : Pos} {rest : List Expr} (m : MonoT ta) (ha : PE X a ta) (hb : PE X (.BoolOp .And (b :: rest) pos) tb) : PE X (.BoolOp .And (a :: b :: rest) pos) (tAndB ta tb) := by
  refine ⟨fun pins s σ H Q I q => (pe_and ha hb).run pins s σ H Q I (m σ H _ _ (fun v H' h => ?_) q)⟩
  obtain ⟨b, c, rfl, h1, h2⟩ := h
  refine ⟨b, rfl, ?_⟩
  cases b with
  | false => exact h2 H' (L2.Same.refl _)
  | true => exact h1 Q fun H2 s => h2 H2 s
end OwR
end
section
/-! Lists and tuples of own objects beside one another: the == of each two of the same place, in whatever state of a kind. Own. -/
namespace OwR
open PySem PySem.Spec PyProof.Rows L2
section
variable {prog : Program} {w : World}
/-- == of two values in every state of a kind, to a state of that kind -/
def EqJ (prog : Program) (w : World) (A : Around) (J : Shared → Prop) (x y : Value) (b : Bool) : Prop := ∀ s, J s → ∀ (E : Value → Shared → Prop) (Q : Bool → Shared → Prop), (∀ s', J s' → Q b s') → wpAny (model prog w) A (eqBool x y) Q E s
theorem EqJ.same {A : Around} {J : Shared → Prop} {x : Value} (h : (x == x) = true) : EqJ prog w A J x x true := fun s hs E Q q => by
  unfold eqBool
  refine wpAny_holding ?_
  rw [if_pos h]
  exact wpAny_bind (wpAny_rule (wpAny_pure (q s hs)))
theorem EqJ.refs {A : Around} {J : Shared → Prop} {l b : Addr} {k : Bool} (ne : l ≠ b) (h : ∀ s, J s → ∀ (E Q : Value → Shared → Prop), (∀ s', J s' → Q (.bool k) s') → wpAny (model prog w) A (richCompare .Eq (.ref l) (.ref b)) Q E s) : EqJ prog w A J (.ref l) (.ref b) k := fun s hs E Q q => by
  unfold eqBool
  refine wpAny_holding ?_
  rw [if_neg (by simp [ne])]
  refine wpAny_bind (h s hs E _ fun s' hs' => ?_)
  exact wpAny_pure (q s' hs')
theorem ls {A : Around} {E : Value → Shared → Prop} {s : Shared} {a : Addr} {xs : Array Value} {Q : Array Value → Shared → Prop} (h : s.heap.IsList a xs) (q : Q xs s) : wpAny (model prog w) A (Builtin.List.listItems (.ref a)) Q E s := by
  obtain ⟨⟨cls, dd, data, sl⟩, ho, hc, n, hd⟩ := h
  cases hc
  cases hd
  unfold Builtin.List.listItems seqItems?
  exact wpAny_bind (wpAny_bind (wpAny_load ho (wpAny_pure (wpAny_pure q))))
theorem ne_loopJ (l b : Addr) (items items2 : Array Value) (hsz : items.size = items2.size) (e : Nat → Bool) (J : Shared → Prop) (hl : ∀ s, J s → s.heap.IsList l items) (hb : ∀ s, J s → s.heap.IsList b items2) :
    ∀ (k i : Nat), items.size - i = k → MeetsIn prog w (Builtin.«list.__eq__.loop» ⟨[.ref l, .ref b, rawInt i, rawInt 3], []⟩) fun A R s => J s ∧ (∀ (j : Nat) (h1 : j < items.size) (h2 : j < items2.size), EqJ prog w A.in1 J items[j] items2[j] (e j)) ∧
      ∀ s', J s' → R (.ok (.ret (.bool (!((List.range items.size).drop i).all e)))) s' := by
  intro k
  induction k with
  | zero =>
    intro i hk A R s h
    obtain ⟨hs, he, h⟩ := h
    show wpAny _ _ (Builtin.List.listItems (.ref l) >>= _) _ _ _
    refine wpAny_bind (ls (hl s hs) (wpAny_bind (ls (hb s hs) ?_)))
    have hi1 : items[((i : Nat) : Int).toNat]? = none := by
      rw [Int.toNat_natCast, Array.getElem?_eq_none_iff]
      omega
    have hi2 : items2[((i : Nat) : Int).toNat]? = none := by
      rw [Int.toNat_natCast, Array.getElem?_eq_none_iff]
      omega
    have hd : (List.range items.size).drop i = [] := by
      rw [List.drop_eq_nil_iff, List.length_range]
      omega
    rw [hd] at h
    rw [hi1, hi2]
    refine wpAny_bind (ls (hl s hs) (wpAny_bind (ls (hb s hs) ?_)))
    have es : ∀ (n m : Nat), n = m → (n != m) = false := fun n m e => by simp [e]
    refine wpAny_pure ?_
    have h := h s hs
    show R (.ok (.ret (.bool (items.size != items2.size)))) s
    rw [es _ _ hsz]
    exact h
  | succ k ih =>
    intro i hk A R s h
    obtain ⟨hs, he, h⟩ := h
    have hlt : i < items.size := by omega
    have hlt2 : i < items2.size := by omega
    show wpAny _ _ (Builtin.List.listItems (.ref l) >>= _) _ _ _
    refine wpAny_bind (ls (hl s hs) (wpAny_bind (ls (hb s hs) ?_)))
    have hi1 : items[((i : Nat) : Int).toNat]? = some items[i] := by
      rw [Int.toNat_natCast, Array.getElem?_eq_getElem hlt]
    have hi2 : items2[((i : Nat) : Int).toNat]? = some items2[i] := by
      rw [Int.toNat_natCast, Array.getElem?_eq_getElem hlt2]
    have hd : (List.range items.size).drop i = i :: (List.range items.size).drop (i + 1) := by
      rw [List.drop_eq_getElem_cons (by rw [List.length_range]; exact hlt), List.getElem_range]
    rw [hd] at h
    rw [hi1, hi2]
    refine wpAny_bind (he i hlt hlt2 s hs _ _ fun s' hs' => ?_)
    cases ei : e i with
    | true =>
      refine wpAny_ite_true rfl ?_
      refine wpAny_pure ⟨plainId_quiet MeetsSeq3.plain_eq_loop _, codeAny_builtin MeetsSeq3.entry_eq_loop ?_⟩
      rw [Around.under_plainId MeetsSeq3.plain_eq_loop _]
      refine ih (i + 1) (by omega) A R s' ⟨hs', he, fun s2 hs2 => ?_⟩
      have h := h s2 hs2
      rw [List.all_cons, ei, Bool.true_and] at h
      exact h
    | false =>
      refine wpAny_ite_false rfl ?_
      refine wpAny_bind (ls (hl s' hs') (wpAny_bind (ls (hb s' hs') ?_)))
      rw [hi1, hi2]
      refine wpAny_pure ?_
      have h := h s' hs'
      rw [List.all_cons, ei, Bool.false_and] at h
      exact h
theorem list_neJ (l b : Addr) (items items2 : Array Value) (hsz : items.size = items2.size) (e : Nat → Bool) (J : Shared → Prop) (hl : ∀ s, J s → s.heap.IsList l items) (hb : ∀ s, J s → s.heap.IsList b items2) :
    MeetsIn prog w (Builtin.«list.__ne__» ⟨[.ref l, .ref b], []⟩) fun A R s => J s ∧ (∀ (j : Nat) (h1 : j < items.size) (h2 : j < items2.size), EqJ prog w A.in1 J items[j] items2[j] (e j)) ∧ ∀ s', J s' → R (.ok (.ret (.bool (!(List.range items.size).all e)))) s' := fun A R s h => by
  obtain ⟨hs, he, h⟩ := h
  have hl0 := hl s hs
  have hb0 := hb s hs
  have loop := ne_loopJ (prog := prog) (w := w) l b items items2 hsz e J hl hb items.size 0 rfl A R s ⟨hs, he, h⟩
  obtain ⟨⟨cls, dd, data, sl⟩, ho, hc, n, hd⟩ := hb s hs
  cases hc
  cases hd
  obtain ⟨hp, g, d, tk, os⟩ := s
  have f3 := AutoSeq1.sub_list_list
  have hne : ¬ ((items.size != items2.size) = true) := by simp [hsz]
  unfold Builtin.«list.__ne__»
  refine wpAny_bind ?_
  rw [show slotArgs "__ne__" 1 ⟨[.ref l, .ref b], []⟩ = pure (.ref l, [.ref b]) from rfl]
  refine wpAny_pure (wpAny_bind (wpAny_bind (wpAny_bind (wpAny_loadPart' ho (wpAny_pure (wpAny_of_eq f3 ?_))))))
  refine wpAny_ite_false rfl (wpAny_ite_true rfl ?_)
  refine wpAny_bind (ls hl0 (wpAny_bind (ls hb0 (wpAny_ite_false (decide_eq_false hne) ?_))))
  refine wpAny_pure ⟨plainId_quiet MeetsSeq3.plain_eq_loop _, codeAny_builtin MeetsSeq3.entry_eq_loop ?_⟩
  rw [Around.under_plainId MeetsSeq3.plain_eq_loop _]
  exact loop
theorem rcJ_lists_ne {A : Around} {s : Shared} {E Q : Value → Shared → Prop} {l b : Addr} {items items2 : Array Value} {e : Nat → Bool} {J : Shared → Prop} (hl : ∀ s, J s → s.heap.IsList l items) (hb : ∀ s, J s → s.heap.IsList b items2) (hsz : items.size = items2.size) (hu : A.units < cLine) (hs : J s)
    (he : ∀ (j : Nat) (h1 : j < items.size) (h2 : j < items2.size), EqJ prog w A.in1 J items[j] items2[j] (e j)) (h : ∀ s', J s' → Q (.bool (!(List.range items.size).all e)) s') : wpAny (model prog w) A (richCompare .NotEq (.ref l) (.ref b)) Q E s := by
  have t1 : s.TypeIs (.ref l) "list" := by
    obtain ⟨ob, ho, hc, _⟩ := hl s hs
    exact ⟨ob, ho, hc⟩
  have t2 : s.TypeIs (.ref b) "list" := by
    obtain ⟨ob, ho, hc, _⟩ := hb s hs
    exact ⟨ob, ho, hc⟩
  exact wpAny_richCompare_same_room t1 t2 F.slot_list_ne (call_meetsIn F.slot_list_ne t1 F.entry_list_ne (F.args_list_ne_2 (Value.ref l) (Value.ref b)) (list_neJ l b items items2 hsz e J hl hb) ⟨hs, he, fun s' hs' => ⟨(fun x => nomatch x), h s' hs'⟩⟩) hu
end
/-! ### lists of own objects -/
section
variable {X : Cx} {k : Nat} {g : Addr} {sp : Sp} {pins : List (Addr × Obj)} {σ : L2.St} {H : Hp}
theorem eqJ_own {r t C D dx dy : Addr} {fs gs : List (Str × V)} {b : Bool} (F : FnR X.prog X.w X.K X.mg X.base CX0 k g sp) (hr : Room (k + 1) X.A) (hu : X.A.units + 1 < cLine) (ne : r ≠ t) (er : H r = some (.ins C dx fs)) (et : H t = some (.ins D dy gs)) (c : Cmp1 X.K .Eq C g) (nf : PySem.W.notFirst X.K C (.ref D) = true)
    (h : sp [.ref r, .ref t] H (fun v H' => v = .bl b ∧ H' = H) E0) : EqJ X.prog X.w X.A.in1 (Inv X pins σ H) (.ref r) (.ref t) b := EqJ.refs ne fun s I E Q q => by
  obtain ⟨ox, od, J, _⟩ := StX.insC_at I (.inr ⟨dx, fs, er⟩)
  obtain ⟨oy, oe, J2, _⟩ := StX.insC_at I (.inr ⟨dy, gs, et⟩)
  obtain ⟨mm, fr⟩ := I.fr
  refine PySem.W.cmp_K (by simpa using hu) fr I.ok.mod.kin J J2.type nf c.at_ c.fn ?_
  refine wpAny_call (codeAny_mono (F X.A.in1 X.stack s H [.ref r, .ref t] [.ref r, .ref t] _ E0 hr.in1 I.env0.in1 (.cons rfl (.cons rfl .nil)) h) fun r s' hq => ?_)
  cases r with
  | error er => exact False.elim hq
  | ok fl =>
    cases fl with
    | ret u =>
      obtain ⟨v, H', I', rv, rfl, rfl⟩ := I.after hq
      obtain rfl : u = Value.bool b := rv
      exact q s' I'
    | next => exact False.elim hq
    | brk => exact False.elim hq
    | cont => exact False.elim hq
/-- the == of each two of the same place -/
def AllEq (K : PySem.W.Frag) (g : Addr) (sp : Sp) (H : Hp) (rs ts : List Addr) (e : Nat → Bool) : Prop := ∀ (j : Nat) (r t : Addr), rs[j]? = some r → ts[j]? = some t → (r = t ∧ e j = true) ∨ (r ≠ t ∧ ∃ (C D dx dy : Addr) (fs gs : List (Str × V)), H r = some (.ins C dx fs) ∧ H t = some (.ins D dy gs) ∧ Cmp1 K .Eq C g ∧ PySem.W.notFirst K C (.ref D) = true ∧ sp [.ref r, .ref t] H (fun v H' => v = .bl (e j) ∧ H' = H) E0)
theorem refs_vals : ∀ {rs : List Addr} {its : List Value}, Vals (rs.map V.ref) its → its = rs.map Value.ref
  | [], _, .nil => rfl
  | r :: rs, _, .cons e t => by rw [show _ = Value.ref r from e, refs_vals t]; rfl
def rNeOwn (K : PySem.W.Frag) (g : Addr) (sp : Sp) : R2 := fun x y H Q => ∃ (a b : Addr) (rs ts : List Addr) (e : Nat → Bool), x = .ref a ∧ y = .ref b ∧ SqL K H a (rs.map V.ref) ∧ SqL K H b (ts.map V.ref) ∧ rs.length = ts.length ∧ AllEq K g sp H rs ts e ∧ Q (.bl (!(List.range rs.length).all e)) H
theorem op_neOwn (F : FnR X.prog X.w X.K X.mg X.base CX0 k g sp) (hr : Room (k + 1) X.A) (hu : X.A.units + 1 < cLine) : OpR X (compareOp .NotEq) (rNeOwn X.K g sp) := by
  intro pins s σ H x y v u Q I rx ry h
  obtain ⟨a, b, rs, ts, e, rfl, rfl, ha, hb, len, he, q⟩ := h
  obtain rfl : v = Value.ref a := rx
  obtain rfl : u = Value.ref b := ry
  show wpAny _ _ (richCompare .NotEq (.ref a) (.ref b)) _ _ _
  have li : ∀ {a : Addr} {rs : List Addr}, SqL X.K H a (rs.map V.ref) → ∀ s, Inv X pins σ H s → s.heap.IsList a (rs.map Value.ref).toArray := fun {a rs} ha s I => by
    obtain ⟨its, r1, h1, _⟩ := I.list ha
    rw [← refs_vals r1]
    exact h1.isList
  refine rcJ_lists_ne (li ha) (li hb) (by simp [len]) (by omega) I (e := e) (fun j h1 h2 => ?_) fun s' I' => ?_
  · have h1' : j < rs.length := by simpa using h1
    have h2' : j < ts.length := by simpa using h2
    have e1 : (rs.map Value.ref).toArray[j] = Value.ref rs[j] := by simp
    have e2 : (ts.map Value.ref).toArray[j] = Value.ref ts[j] := by simp
    rw [e1, e2]
    rcases he j rs[j] ts[j] (List.getElem?_eq_getElem h1') (List.getElem?_eq_getElem h2') with ⟨er, ej⟩ | ⟨ne, C, D, dx, dy, fs, gs, er, et, c, nf, hq⟩
    · rw [er, ej]
      exact EqJ.same (by simp)
    · exact eqJ_own F hr hu ne er et c nf hq
  · refine ⟨.bl _, H, I', rfl, ?_⟩
    have sz : (rs.map Value.ref).toArray.size = rs.length := by simp
    rw [sz]
    exact q
end
end OwR
end
section
/-! Own: a != b, b of any class. -/
namespace OwR
open PySem PySem.Spec PyProof.Rows L2
def rNeX (K : PySem.W.Frag) (g : Addr) (sp : Sp) (E : XK) : R2 := fun x y H Q => ∃ (p C dx : Addr) (fs : List (Str × V)) (t : Value), x = .ref p ∧ H p = some (.ins C dx fs) ∧ TyX K H y t ∧ Ne1 K C g ∧ PySem.W.notFirst K C t = true ∧ sp [.ref p, y] H (fun v H' => ∃ c, v = .bl c ∧ Q (.bl (!c)) H') E
theorem op_ownNeX {X : Cx} {CX : CXT} {k : Nat} {g : Addr} {sp : Sp} {E : XK} (hu : X.A.units + 1 < cLine) (F : FnR X.prog X.w X.K X.mg X.base CX k g sp) (hr : Room (k + 1) X.A) (hx : Passes CX X E) : OpR X (compareOp .NotEq) (rNeX X.K g sp E) := by
  intro pins s σ H x y v u Q I rx ry h
  obtain ⟨p, C, dx, fs, t, rfl, ep, ty, c1, nf, hq⟩ := h
  obtain rfl : v = Value.ref p := rx
  obtain ⟨ox, od, J, _⟩ := StX.insC_at I (.inr ⟨dx, fs, ep⟩)
  obtain ⟨P, kx, pS, _⟩ := kit_of I ry ty
  refine PySem.W.cmp_ofNotEq (ne_K hu I.kIn J (kx.ty (model X.prog X.w) s.heap I.kIn pS) nf c1.obj c1.ne c1.eq c1.fn ?_)
  refine wpAny_mono (run_in (us := [.ref p, u]) (vs := [.ref p, y]) F hr hx I (.cons rfl (.cons ry .nil)) hq) (fun v s' z => ?_) fun _ _ z => z
  obtain ⟨x2, H2, I2, r2, c, rfl, z⟩ := z
  exact ⟨c, r2, .bl (!c), H2, I2, rfl, z⟩
end OwR
end
section
namespace OwR
open PySem PySem.Spec PyProof.Rows L2
/-! ### tuple(d), d a dict: its keys -/
section
variable {prog : Program} {w : World} {A : Around} {E : Value → Shared → Prop} {s : Shared} {T : String} {r d : Addr} {n : Nat} {P : Nat → Value → Prop} {OK : Heap → Prop}
theorem collect_src {Q : List Value → Shared → Prop} (K : PySem.W.KdlSrc prog w T r d n P OK) (hh : A.handled = none) (hok : OK s.heap) (hn : n ≤ sizeLine)
    (hQ : ∀ h' tk (out : List Value), (∀ b o, s.heap.get? b = some o → h'.get? b = some o) → out.length = n → (∀ j v, out[j]? = some v → P j v) → Q out { s with heap := h', toks := tk }) :
    wpAny (model prog w) A (collect (.ref r)) Q E s := by
  unfold collect
  refine wpAny_bind (wpAny_runValue (codeAny_builtin F.entry_proto_collect ?_))
  rw [Around.under_plainId F.plain_proto_collect _]
  show wpAny _ A.in1 (newList [] >>= fun l => again (.builtin "list.__iadd__" ⟨[l, .ref r], []⟩)) _ _ s
  refine wpAny_bind (wpAny_newObj_type ?_)
  refine wpAny_pure ⟨plainId_quiet F.plain_list_iadd _, codeAny_builtin F.entry_list_iadd ?_⟩
  rw [Around.under_plainId F.plain_list_iadd _]
  have there := K.there _ hok
  have hS : (s.heap.push { cls := .type "list", data := .seq ([] : List Value).toArray }).get? s.heap.objs.size = some { cls := .type "list", data := .seq #[] 0 } := Heap.get?_push_size _ rfl
  have fin : ∀ h' tk (acc : Array Value) (c : Nat), (∀ b o, b ≠ s.heap.objs.size → (s.heap.push { cls := .type "list", data := .seq ([] : List Value).toArray }).get? b = some o → h'.get? b = some o) →
      h'.get? s.heap.objs.size = some { cls := .type "list", dict := none, data := .seq acc c, slots := #[] } → ItemsOf P acc n →
      wpAny (model prog w) A (load s.heap.objs.size >>= fun ob => match ob.data with
        | .seq vs _ => pure vs.toList
        | _ => unsupported "internal:collect") Q E { s with heap := h', toks := tk } := fun h' tk acc c k hS' hacc =>
    wpAny_bind (wpAny_load hS' (wpAny_pure (hQ h' tk acc.toList (fun b o e => k b o (Nat.ne_of_lt (Heap.lt_size e)) (Heap.get?_push_of_some _ e)) (by rw [Array.length_toList]; exact hacc.1) fun j v e => hacc.2 j v (by rw [← Array.getElem?_toList]; exact e))))
  refine wpAny_mono (PySem.W.kdl_extend (A := A) (R := fun r s' => r = .ok (.ret (.ref s.heap.objs.size)) ∧ wpAny (model prog w) A (load s.heap.objs.size >>= fun ob => match ob.data with
        | .seq vs _ => pure vs.toList
        | _ => unsupported "internal:collect") Q E s') (s := { s with heap := s.heap.push { cls := .type "list", data := .seq ([] : List Value).toArray } }) K hh (K.keep _ _ hok fun b _ o e => Heap.get?_push_of_some _ e) s.heap.objs.size
    (Nat.ne_of_gt there.1) (Nat.ne_of_gt there.2) (.ref s.heap.objs.size) 0 hS (fun h' tk acc c k hS' hacc => ⟨rfl, fin h' tk acc c k hS' hacc⟩) hn) (fun f s' h => ?_) fun e s' h => ?_
  · cases f with
    | done f =>
      obtain ⟨e, z⟩ := h
      cases e
      exact z
    | again c' => exact ⟨h.1, codeAny_mono h.2 fun r s2 hr => by obtain ⟨rfl, z⟩ := hr; exact z⟩
  · cases h.1
theorem call_tuple_src {Q : Value → Shared → Prop} (K : PySem.W.KdlSrc prog w T r d n P OK) (hok : OK s.heap) (hn : n ≤ sizeLine) (hh : A.handled = none)
    (hQ : ∀ (h' : Heap) (tk : Nat) (out : List Value), (∀ b o, s.heap.get? b = some o → h'.get? b = some o) → out.length = n → (∀ j v, out[j]? = some v → P j v) →
      Q (.ref h'.objs.size) { s with heap := h'.push { cls := .type "tuple", data := .seq out.toArray }, toks := tk }) :
    wpAny (model prog w) A (call (.type "tuple") [.ref r]) Q E s := by
  have M : MeetsIn prog w (Builtin.«tuple.__new__» ⟨[.type "tuple", .ref r], []⟩) (fun (A' : Around) (R : Result → Shared → Prop) (s : Shared) => A'.handled = none ∧ OK s.heap ∧ ∀ (h' : Heap) (tk : Nat) (out : List Value), (∀ b o, s.heap.get? b = some o → h'.get? b = some o) → out.length = n → (∀ j v, out[j]? = some v → P j v) →
      R (.ok (.ret (.ref h'.objs.size))) { s with heap := h'.push { cls := .type "tuple", data := .seq out.toArray }, toks := tk }) := .of_wp fun A R s h => by
    obtain ⟨hp, g, dr, tk, os⟩ := s
    obtain ⟨hh', ht, h⟩ := h
    have hsub := sub_tuple_self
    have hinit := init_tuple_lookup
    have hmh := madeHere_tuple
    have hT : Shared.TypeIs ⟨hp, g, dr, tk, os⟩ (.ref r) T := K.type _ ht
    have col : ∀ {Q : List Value → Shared → Prop} {E : Value → Shared → Prop}, (∀ (h' : Heap) (tk' : Nat) (out : List Value), (∀ b o, hp.get? b = some o → h'.get? b = some o) → out.length = n → (∀ j v, out[j]? = some v → P j v) → Q out ⟨h', g, dr, tk', os⟩) →
        wpAny (model prog w) A.in1 (collect (.ref r)) Q E ⟨hp, g, dr, tk, os⟩ := fun hq => collect_src (s := ⟨hp, g, dr, tk, os⟩) K hh' ht hn hq
    have hnt : (Value.type T == Value.type "tuple") = false := K.notTuple
    wp_walk using wpAny_typeOf hT, col
    intro h' tk' out k l1 l2
    refine wpAny_bind (wpAny_pure ?_)
    show wpAny _ _ (Builtin.Tuple.tupleExact out.toArray >>= fun v => ret v) _ _ _
    unfold Builtin.Tuple.tupleExact
    refine wpAny_bind (wpAny_newObj_type ?_ (by show out.toArray.size ≤ sizeLine; rw [List.size_toArray, l1]; exact hn))
    exact wpAny_pure ⟨_, rfl, h h' tk' out k l1 l2⟩
  exact callType_newIn F.called_tuple (by decide) (F.typeCall_tuple_1 _) (F.newCall_tuple_1 _) (fun obj => F.args_object_init_2 obj _) F.entry_tuple_new M
    ⟨hh, hok, fun h' tk out k l1 l2 => ⟨⟨_, Heap.get?_push_size _ rfl, rfl⟩, hQ h' tk out k l1 l2⟩⟩
end
theorem call_tupleD {X : Cx} (hcalm : X.calm = true) : CallR X (.type "tuple") (fun xs H Q => ∃ (a : Addr) (kvs : List (Key × V)), xs = [.ref a] ∧ Rd H a (.dK kvs) ∧ ∀ p, H p = none → Q (.ref p) (upd H p (.tup (kvs.map fun kv => kV kv.1)))) := by
  intro pins s σ H xs us Q I r q
  obtain ⟨a, kvs, ex, hd, q⟩ := q
  subst ex
  obtain ⟨u, eu, rx⟩ := vals1 r
  subst eu
  cases rx
  obtain ⟨z, lo, vs, rel, dd⟩ := dk_rd I.hok hd
  obtain ⟨ep, hat⟩ := dd.dictAt
  have ek : (kvs.map fun kv => kV kv.1) = vs.map fun p => kV p.1 := by
    have e := congrArg (List.map kV) rel.keys
    rw [List.map_map, List.map_map] at e
    exact e
  refine call_tuple_src (PySem.W.kdl_dict (knd := mixKind X.prog X.w) (kvs := vs) (ep := ep) lo) hat (by rw [← rel.length]; exact z) (I.ok.hd hcalm) fun h' tk out k l1 l2 => ?_
  have hv : Vals (vs.map fun p => kV p.1) out := keys_at l1 fun j v e => l2 j v e
  have I1 : Inv X pins σ H { s with heap := h', toks := tk } := I.kept (t' := tk) k
  exact ⟨.ref h'.objs.size, _, I1.laid (t' := tk) (o := .tup (kvs.map fun kv => kV kv.1)) (fun b o e => Heap.get?_push_of_some _ e) (Nat.le_refl _) ⟨by rw [List.length_map]; exact z, out, by rw [ek]; exact hv, ⟨_, Heap.get?_push_size _ rfl, rfl, 0, rfl⟩⟩, rfl, q _ (I1.hok.fresh (Nat.le_refl _))⟩
end OwR
end
section
namespace TSet
open PySem PySem.Spec PyProof.Rows L2
/-- an entry of a set of texts -/
def TE (w : World) (e : Int × Value) : Prop := ∃ z tk, e = (hashStr w z, Value.str z tk)
def tk1 (e : Int × Value) : Str := strOf e.2
/-- the set object at a holds just the texts L, each once -/
def TS (w : World) (h : Heap) (a : Addr) (L : List Str) : Prop :=
  ∃ ob ents ep tab, h.get? a = some ob ∧ ob.ExactSet ∧ ob.data = .set ents ep tab ∧ (∀ e ∈ ents.toList, TE w e) ∧ (ents.toList.map tk1).Perm L ∧
    L.Nodup ∧ L.length < scanBound ∧ tab.fits ents.size = true ∧ Ris tab.place.toList ∧ (w.params.followText "set-order" = true ∨ tab.led = true)
section
variable {P : Program} {w : World} {h h' : Heap} {a : Addr} {L : List Str}
theorem TS.keep (R : TS w h a L) (k : ∀ o, h.get? a = some o → h'.get? a = some o) : TS w h' a L := by
  obtain ⟨ob, ents, ep, tab, h1, rest⟩ := R
  exact ⟨ob, ents, ep, tab, k ob h1, rest⟩
theorem te_is {e : Int × Value} (g : TE w e) (z : Str) : (strKind P w).is z e.2 = true ↔ tk1 e = z := by
  obtain ⟨y, tk, rfl⟩ := g
  show ((y == z) = true) ↔ y = z
  exact beq_iff_eq
theorem te_elems {l : List (Int × Value)} (g : ∀ e ∈ l, TE w e) : ElemsOf (strKind P w) l := fun e he => by
  obtain ⟨z, tk, rfl⟩ := g e he
  exact ⟨⟨z, strKind_is P w z tk, rfl⟩, rfl⟩
theorem te_mem {l : List (Int × Value)} (g : ∀ e ∈ l, TE w e) (z : Str) : z ∈ l.map tk1 ↔ ∃ e ∈ l, (strKind P w).is z e.2 = true := by
  constructor
  · intro m
    obtain ⟨e, he, q⟩ := List.mem_map.mp m
    exact ⟨e, he, (te_is (g e he) z).2 q⟩
  · rintro ⟨e, he, q⟩
    exact List.mem_map.mpr ⟨e, he, (te_is (g e he) z).1 q⟩
theorem TS.fresh {ob : Obj} (ho : h.get? a = some ob) (e : ob = { cls := .type "set", dict := none, data := .set #[] 0 (.fresh 0 0 (!w.params.followText "set-order")) }) : TS w h a [] := by
  subst e
  refine ⟨_, #[], 0, _, ho, ⟨rfl, rfl, rfl⟩, rfl, fun e he => by simp at he, List.Perm.refl _, List.nodup_nil, by decide, rfl, List.Pairwise.nil, ?_⟩
  show w.params.followText "set-order" = true ∨ (!w.params.followText "set-order") = true
  cases w.params.followText "set-order" <;> simp
end
/-- one more text -/
def put1 (L : List Str) (z : Str) : List Str := if z ∈ L then L else z :: L
theorem put1_len (L : List Str) (z : Str) : (put1 L z).length ≤ L.length + 1 := by
  unfold put1
  split
  · exact Nat.le_succ _
  · exact Nat.le_refl _
section
variable {P : Program} {w : World} {A : Around} {E : Value → Shared → Prop} {s : Shared} {a : Addr} {L : List Str}
theorem ts_add_end {g : Bool → Sem Unit} (hg : ∀ (b : Bool) (s₁ : Shared) (Q' : Unit → Shared → Prop), Q' () s₁ → wpAny (model P w) A (g b) Q' E s₁)
    {ob : Obj} {ents : Array (Int × Value)} {ep : Nat} {tab : SetTable} (ho : s.heap.get? a = some ob) (hex : ob.ExactSet) (hd : ob.data = .set ents ep tab)
    {en1 : Array (Int × Value)} {tb : SetTable} {M : List Str} (g1 : ∀ e ∈ en1.toList, TE w e) (pm1 : (en1.toList.map tk1).Perm M) (nd1 : M.Nodup)
    (hb : M.length < scanBound) (hf : tb.fits en1.size = true) (hr : Ris tb.place.toList) (hl : w.params.followText "set-order" = true ∨ tb.led = true) {dm : Bool} {R : Option Bool → Shared → Prop}
    (hR : ∀ h', Heap.SameBut a s.heap h' → TS w h' a M → R (some true) { s with heap := h' }) :
    wpAny (model P w) A (do
        storeSet a en1 tb
        if (!dm && tb.tooFull) = true then do
            g (relayAll tb en1 (SetTable.grown en1.size)).2.2
            storeSet a (relayAll tb en1 (SetTable.grown en1.size)).1 (relayAll tb en1 (SetTable.grown en1.size)).2.1
            pure (some true)
          else pure (some true)) R E s := by
  have hn1 : en1.size = M.length := by
    have q := pm1.length_eq
    rw [List.length_map, Array.length_toList] at q
    exact q
  refine wpAny_bind (wpAny_storeSet_of ho hd ?_ (fits_of_scanBound (by rw [hn1]; exact hb)))
  have ho1 := store_at (es' := en1) (t' := tb) ho hd
  have sb1 := Heap.SameBut.update s.heap a (Obj.putSet en1 tb)
  split
  · have pm := relayAll_perm tb en1 (SetTable.grown en1.size)
    have hf3 := relayAll_fits tb en1 (SetTable.grown en1.size)
    have hr3 := relayAll_ris tb en1 (SetTable.grown en1.size)
    have hl3 := relayAll_led tb en1 (SetTable.grown en1.size)
    generalize relayAll tb en1 (SetTable.grown en1.size) = Z at pm hf3 hr3 hl3 ⊢
    obtain ⟨en2, tb3, gave⟩ := Z
    dsimp only at pm hf3 hr3 hl3 ⊢
    have hn2 : en2.size = M.length := by rw [← hn1, ← Array.length_toList, pm.length_eq, Array.length_toList]
    refine wpAny_bind (hg _ _ _ ?_)
    refine wpAny_bind (wpAny_storeSet_of ho1 rfl ?_ (fits_of_scanBound (by rw [hn2]; exact hb)))
    have ho2 := store_at (es' := en2) (t' := tb3) ho1 rfl
    exact wpAny_pure (hR _ (sb1.trans (Heap.SameBut.update _ a _)) ⟨_, en2, _, tb3, ho2, hex, rfl, fun e he => g1 e (pm.mem_iff.mp he), (pm.map tk1).trans pm1, nd1, hb, hf3, hr3, by rw [hl3]; exact hl⟩)
  · exact wpAny_pure (hR _ sb1 ⟨_, en1, _, tb, ho1, hex, rfl, g1, pm1, nd1, hb, hf, hr, hl⟩)
theorem ts_add {z : Str} {tk : Tok} {Q : Bool → Shared → Prop} (R : TS w s.heap a L) (room : L.length + 1 < scanBound)
    (hQ : ∀ b h', Heap.SameBut a s.heap h' → TS w h' a (put1 L z) → Q b { s with heap := h' }) :
    wpAny (model P w) A (setAddHashed a (.str z tk) ((strKind P w).hash z)) Q E s := by
  obtain ⟨ob, ents, ep, tab, ho, hex, hd, g, pm0, nd, hb, hf, hr, hl⟩ := R
  have hkey : (strKind P w).is z (.str z tk) = true := strKind_is P w z tk
  have hsc : (Value.str z tk).scannable = true := rfl
  have hel : ElemsOf (strKind P w) ents.toList := te_elems g
  have hn : ents.size = L.length := by
    have q := pm0.length_eq
    rw [List.length_map, Array.length_toList] at q
    exact q
  unfold setAddHashed setAddHashedIn
  refine wpAny_holding (wpAny_bind (wpAny_setState_of ho hd hf ?_))
  dsimp only
  rw [byScan_of hsc (by rw [hn]; exact hb) hel]
  simp only [↓reduceIte]
  unfold setAddByScan
  refine wpAny_bind (wpAny_bind (wpAny_rule (wpAny_bind (wpAny_setScan_of hkey ho hd hf hel ?_))))
  cases hfi : List.findIdx? (fun e => (strKind P w).is z e.2) ents.toList with
  | some j =>
    dsimp only
    obtain ⟨hj, pj, _⟩ := List.findIdx?_eq_some_iff_getElem.mp hfi
    have hz : z ∈ L := pm0.mem_iff.mp ((te_mem (P := P) (w := w) g z).2 ⟨ents.toList[j], List.getElem_mem hj, pj⟩)
    refine wpAny_pure (wpAny_pure ?_)
    refine hQ _ s.heap (Heap.SameBut.refl a s.heap) ?_
    unfold put1
    rw [if_pos hz]
    exact ⟨ob, ents, ep, tab, ho, hex, hd, g, pm0, nd, hb, hf, hr, hl⟩
  | none =>
    dsimp only
    have hz : z ∉ L := fun q => by
      obtain ⟨e, he, c⟩ := (te_mem (P := P) (w := w) g z).1 (pm0.mem_iff.mpr q)
      have d := List.findIdx?_eq_none_iff.mp hfi e he
      rw [c] at d
      cases d
    have hgw : ∀ (b : Bool) {s₁ : Shared} {Q' : Unit → Shared → Prop}, Q' () s₁ → wpAny (model P w) A (match b with | true => rule "set.scan.the-table-gave-way" | false => pure ()) Q' E s₁ :=
      fun b _ _ q => by cases b <;> first | exact wpAny_pure q | exact wpAny_rule q
    have pm := layNew_perm tab ents ((strKind P w).hash z) (.str z tk)
    have hf1 := layNew_fits tab ents ((strKind P w).hash z) (.str z tk)
    have hr1 := layNew_ris tab ents ((strKind P w).hash z) (.str z tk) hr
    have hl1 := layNew_led tab ents ((strKind P w).hash z) (.str z tk)
    generalize layNew tab ents ((strKind P w).hash z) (.str z tk) = Z at pm hf1 hr1 hl1 ⊢
    obtain ⟨en1, tb1, dmy, gave⟩ := Z
    dsimp only at pm hf1 hr1 hl1 ⊢
    rw [Array.toList_push] at pm
    have pc : en1.toList.Perm (((strKind P w).hash z, Value.str z tk) :: ents.toList) := pm.trans (List.perm_append_singleton _ _)
    have pk : (en1.toList.map tk1).Perm (z :: L) := (pc.map tk1).trans (List.Perm.cons z pm0)
    have g1 : ∀ e ∈ en1.toList, TE w e := fun e he => by
      rcases List.mem_cons.mp (pc.mem_iff.mp he) with q | q
      · exact ⟨z, tk, q⟩
      · exact g e q
    have nd1 : (z :: L).Nodup := List.nodup_cons.mpr ⟨hz, nd⟩
    have hled : w.params.followText "set-order" = true ∨ tb1.led = true := by rw [hl1]; exact hl
    have e1 : put1 L z = z :: L := if_neg hz
    rw [e1] at hQ
    refine wpAny_bind (hgw _ ?_)
    split
    · refine wpAny_bind ?_
      rw [hashByValue_scannable 8 hsc]
      refine wpAny_pure ?_
      refine ts_add_end (dm := dmy) ?_ ho hex hd g1 pk nd1 room ?_ ?_ ?_ ?_
      · intro b _ _ q; cases b <;> first | exact wpAny_pure q | exact wpAny_rule q
      · first | (split <;> first | exact hf1 | exact SetTable.fits_plain_off hf1) | exact hf1
      · first | (split <;> exact hr1) | exact hr1
      · first | (split <;> exact hled) | exact hled
      · intro h' sb r; dsimp only; exact wpAny_pure (hQ _ h' sb r)
    · refine wpAny_bind (wpAny_pure ?_)
      simp only [↓reduceIte]
      refine ts_add_end (dm := dmy) ?_ ho hex hd g1 pk nd1 room hf1 hr1 hled ?_
      · intro b _ _ q; cases b <;> first | exact wpAny_pure q | exact wpAny_rule q
      · intro h' sb r; dsimp only; exact wpAny_pure (hQ _ h' sb r)
end
end TSet
end
section
namespace TSet
open PySem PySem.Spec PyProof.Rows L2
/-- the texts of a list, each once -/
def ded (xs : List Str) : List Str := xs.foldl put1 []
theorem put1_mem (L : List Str) (z y : Str) : y ∈ put1 L z ↔ y = z ∨ y ∈ L := by
  unfold put1
  split
  · rename_i h
    exact ⟨.inr, fun q => q.elim (fun e => e ▸ h) id⟩
  · exact List.mem_cons
theorem fold_mem : ∀ (xs L : List Str) (y : Str), y ∈ xs.foldl put1 L ↔ y ∈ L ∨ y ∈ xs
  | [], L, y => by simp
  | x :: xs, L, y => by
    rw [List.foldl_cons, fold_mem xs, put1_mem, List.mem_cons]
    constructor
    · rintro ((q | q) | q)
      · exact .inr (.inl q)
      · exact .inl q
      · exact .inr (.inr q)
    · rintro (q | q | q)
      · exact .inl (.inr q)
      · exact .inl (.inl q)
      · exact .inr q
theorem ded_mem (xs : List Str) (y : Str) : y ∈ ded xs ↔ y ∈ xs := by
  unfold ded
  rw [fold_mem]
  simp
theorem fold_len : ∀ (xs L : List Str), (xs.foldl put1 L).length ≤ L.length + xs.length
  | [], L => Nat.le_refl _
  | x :: xs, L => by
    have q := fold_len xs (put1 L x)
    have r := put1_len L x
    rw [List.foldl_cons, List.length_cons]
    omega
theorem ded_len (xs : List Str) : (ded xs).length ≤ xs.length := by
  have q := fold_len xs []
  unfold ded
  simpa using q
theorem ded_snoc (xs : List Str) (x : Str) : ded (xs ++ [x]) = put1 (ded xs) x := by
  unfold ded
  rw [List.foldl_append]
  rfl
theorem take_snoc {α : Type} {l : List α} {i : Nat} {x : α} (h : l[i]? = some x) : l.take (i + 1) = l.take i ++ [x] := by
  rw [List.take_add_one, h]
  rfl
section
variable {P : Program} {w : World} {A : Around} {E : Value → Shared → Prop} {s : Shared}
theorem upd_loop {I : Addr} {fp wr : List Addr} {G : Array GenState → Array GenState → Prop} {n : Nat} {Pv : Nat → Value → Prop} {St : Nat → Shared → Prop} {R : Result → Shared → Prop}
    (W : WalksS P w A.in1 I fp wr G n Pv St) (S : Addr) (out : S ∉ fp) (xs : List Str) (hn : n = xs.length) (few : xs.length < scanBound) (hval : ∀ i v, Pv i v → ∃ z t, xs[i]? = some z ∧ v = .str z t) :
    ∀ (k i : Nat) (s : Shared), n - i = k → i ≤ n → St i s → TS w s.heap S (ded (xs.take i)) →
      (∀ s', Moved (S :: wr) G s s' → TS w s'.heap S (ded xs) → R (.ok (.ret .none)) s') →
      codeAny (model P w) A (.builtin "set.update.loop" ⟨[.ref S, .ref I], []⟩) R s := by
  have hSw : S ∉ wr := fun h => out (W.sub _ h)
  have hsub : ∀ b ∈ wr, b ∈ S :: wr := fun b hb => List.mem_cons_of_mem _ hb
  intro k
  induction k with
  | zero =>
    intro i s hk hi hst hS hR
    obtain rfl : i = n := by omega
    refine codeAny_builtin F.entry_set_update_loop ?_
    rw [Around.under_plainId F.plain_set_update_loop _]
    refine wpAny_bind (m := pyNext (.ref I)) (W.done s _ _ hst fun s' hm => ?_)
    rw [hn, List.take_length] at hS
    exact wpAny_pure (hR s' (hm.mono hsub) (hS.keep fun o e => hm.heap S o hSw e))
  | succ k ih =>
    intro i s hk hi hst hS hR
    have hlt : i < n := by omega
    refine codeAny_builtin F.entry_set_update_loop ?_
    rw [Around.under_plainId F.plain_set_update_loop _]
    refine wpAny_bind (m := pyNext (.ref I)) (W.item i s _ _ hlt hst fun v s' hP hst' hm => ?_)
    obtain ⟨z, t, hz, rfl⟩ := hval i v hP
    have hS1 : TS w s'.heap S (ded (xs.take i)) := hS.keep fun o e => hm.heap S o hSw e
    have hl : (ded (xs.take i)).length + 1 < scanBound ∨ (ded (xs.take i)).length + 1 ≤ xs.length := by
      have q := ded_len (xs.take i)
      rw [List.length_take] at q
      right
      omega
    have hroom : (ded (xs.take i)).length + 1 < scanBound := hl.elim id fun q => Nat.lt_of_le_of_lt q few
    refine wpAny_bind (m := holding [Value.str z t] (setAdd S (.str z t))) (wpAny_holding ?_)
    unfold setAdd
    refine wpAny_holding (wpAny_bind ((strKind P w).pyHash (k := z) (strKind_is _ _ _ _) ?_))
    refine ts_add (s := { s' with toks := s'.toks + 1 }) hS1 hroom fun b h' sb hS2 => ?_
    rw [← ded_snoc, ← take_snoc hz] at hS2
    refine wpAny_pure ⟨plainId_quiet F.plain_set_update_loop _, ih (i + 1) _ (by omega) hlt (W.frame _ s' _ _ hst' (Nat.le_succ _) fun c hc o e => ?_) hS2 fun s2 hm2 hS3 => ?_⟩
    · rw [sb.2 c fun q => out (q ▸ hc)]; exact e
    · refine hR s2 (Moved.trans W.gtrans ((hm.mono hsub).then_heap (Nat.le_succ _) fun c o hc e => ?_) hm2) hS3
      rw [sb.2 c fun q => hc (by rw [q]; exact List.mem_cons_self)]; exact e
theorem strs_ix : ∀ {us : List Value} {xs : List Str}, StrsAre us xs → ∀ (i : Nat) (v : Value), us[i]? = some v → ∃ z t, xs[i]? = some z ∧ v = .str z t
  | _, _, .nil, i, v, h => by simp at h
  | _, _, .cons z t _, 0, v, h => ⟨z, t, rfl, (Option.some.inj h).symm⟩
  | _, _, .cons _ _ r, i + 1, v, h => by
    rw [List.getElem?_cons_succ] at h
    rw [List.getElem?_cons_succ]
    exact strs_ix r i v h
abbrev nob (w : World) : Obj := { cls := .type "set", dict := none, data := .set #[] 0 (.fresh 0 0 (!w.params.followText "set-order")) }
/-- set(xs), xs a list of texts -/
theorem call_set_texts {l : Addr} {items : Array Value} {xs : List Str} {Q : Value → Shared → Prop} (hh : A.handled = none) (hl : s.heap.IsList l items) (hi : StrsAre items.toList xs) (few : xs.length < scanBound)
    (hq : ∀ (h' : Heap) (tk : Nat), TS w h' s.heap.objs.size (ded xs) → (∀ b o, s.heap.get? b = some o → h'.get? b = some o) → Q (.ref s.heap.objs.size) { s with heap := h', toks := tk }) :
    wpAny (model P w) A (call (.type "set") [.ref l]) Q E s := by
  have hisz : items.size = xs.length := by rw [← Array.length_toList]; exact StrsAre.len_eq hi
  obtain ⟨c, tl, hmro⟩ := F.called_set.mro
  have hmade := F.called_set.made
  have hsub := F.called_set.sub
  refine wpAny_call (codeAny_of_tree ?_)
  show wpAny _ _ (callAny (.type "set") _) _ _ _
  refine wpAny_pure ⟨Code.quiet_builtin _ (by decide +kernel), codeAny_builtin F.entry_type_call ?_⟩
  rw [Around.under_plain (weight_type_call_type "set" [.ref l] []) rfl]
  have h1 := F.called_set.notType
  have h2 := F.called_set.canCreate
  have hct := F.typeCall_set_1 (.ref l)
  repeat (any_goals (first | assumption | wp_step))
  refine codeAny_mono (code_set_led1 (.ref l) (E := E) (Q₁ := fun ov s₁ => ov = .ref s.heap.objs.size ∧ s₁ = { s with heap := s.heap.push { cls := .type "set", dict := none, data := .set #[] 0 (.fresh 0 0 (!w.params.followText "set-order")) } }) ⟨rfl, rfl⟩) fun r s₁ hr => ?_
  cases r with
  | error e => exact hr
  | ok fl =>
    cases fl with
    | ret ov =>
      obtain ⟨rfl, rfl⟩ := hr
      have hS : (s.heap.push (nob w)).get? s.heap.objs.size = some (nob w) := Heap.get?_push_size _ rfl
      have hT : Shared.TypeIs { s with heap := s.heap.push (nob w) } (.ref s.heap.objs.size) "set" := ⟨_, hS, rfl⟩
      have hli := F.called_set.init.lookup
      have hbi := F.called_set.init.bind (.ref s.heap.objs.size)
      repeat (any_goals (first | assumption | wp_step))
      refine codeAny_mono (codeAny_call_builtin (R := wants (fun r s₂ => r = .none ∧ ∃ h' tk, s₂ = { s with heap := h', toks := tk } ∧ TS w h' s.heap.objs.size (ded xs) ∧
          (∀ b o, s.heap.get? b = some o → h'.get? b = some o)) E) F.called_set.init.plain F.entry_set_init (check_set_init_1 hT ?_)) fun r₂ s₂ hr₂ => ?_
      · obtain ⟨ol, hol, hcl, nl, hdl⟩ := hl
        obtain ⟨ocls, odict, odata, oslots⟩ := ol
        simp only at hcl hdl
        subst hcl; subst hdl
        have hol' : (s.heap.push (nob w)).get? l = some { cls := .type "list", dict := odict, data := .seq items nl, slots := oslots } := Heap.get?_push_of_some _ hol
        have hsls := F.sub_list_set
        have hslf := F.sub_list_frozenset
        have hne : (Value.type "list" == Value.type "dict") = false := by decide
        have hl1 : (s.heap.push (nob w)).IsList l items := ⟨_, hol', rfl, nl, rfl⟩
        unfold Builtin.«set.__init__» noKeywords Builtin.Frozenset.updateFrom
        generalize hPI : pyIter = PI
        wp_walk
        subst hPI
        refine wpAny_pyIter_list hl1 ?_
        refine wpAny_bind (wpAny_runValue ?_)
        have hlS : l < s.heap.objs.size := Heap.lt_size hol
        have hz1 : (s.heap.push (nob w)).objs.size = s.heap.objs.size + 1 := Heap.size_push ..
        have hneI : l ≠ (s.heap.push (nob w)).objs.size := by rw [hz1]; exact Nat.ne_of_lt (Nat.lt_succ_of_lt hlS)
        have hSf : s.heap.objs.size ∉ [(s.heap.push (nob w)).objs.size, l] := by
          rw [hz1]
          intro m
          rcases List.mem_cons.mp m with q | q
          · exact absurd q (Nat.ne_of_lt (Nat.lt_succ_self _))
          · exact absurd (List.mem_singleton.mp q) (Nat.ne_of_gt hlS)
        refine upd_loop (A := A.in1.in1) ((Walks.list (by simp [hh]) _ l hneI items).toS) s.heap.objs.size hSf xs hisz few
          (fun i v hv => strs_ix hi i v (by rw [Array.getElem?_toList]; exact hv)) (items.size - 0) 0 _ rfl (Nat.zero_le _)
          ⟨⟨_, Heap.get?_push_size _ rfl, rfl, rfl⟩, (hl1.push _)⟩ ?hS0 ?hR
        case hS0 => exact TS.fresh (Heap.get?_push_of_some _ hS) rfl
        case hR =>
          intro s' hm hS'
          obtain ⟨h', g2, d', tk', os'⟩ := s'
          have eg : g2 = s.gens := hm.gens
          have ed : d' = s.drawn := hm.drawn
          have eo : os' = s.os := hm.os
          subst eg; subst ed; subst eo
          show wpAny _ _ _ _ _ _
          refine wpAny_pure ?_
          show wpAny _ _ (ret Value.none) _ _ _
          refine wpAny_pure ⟨rfl, h', tk', rfl, hS', fun b o e => ?_⟩
          have hlt := Heap.lt_size e
          refine hm.heap b o (fun m => ?_) (Heap.get?_push_of_some _ (Heap.get?_push_of_some _ e))
          rcases List.mem_cons.mp m with q | q
          · exact absurd q (Nat.ne_of_lt hlt)
          · have q := List.mem_singleton.mp q
            rw [hz1] at q
            exact absurd q (Nat.ne_of_lt (Nat.lt_succ_of_lt hlt))
      · cases r₂ with
        | error e => exact hr₂
        | ok fl₂ =>
          cases fl₂ with
          | ret r =>
            obtain ⟨rfl, h', tk, rfl, hS', hk'⟩ := hr₂
            repeat (any_goals (first | assumption | wp_step))
            exact hq _ _ hS' hk'
          | _ => exact hr₂.elim
    | _ => exact hr.elim
end
end TSet
end
section
namespace TSet
open PySem PySem.Spec PyProof.Rows L2
section
variable {P : Program} {w : World} {A : Around} {E : Value → Shared → Prop} {s : Shared} {a : Addr} {L : List Str}
theorem sorted_texts {Q : Value → Shared → Prop} (R : TS w s.heap a L) (hh : A.handled = none) (few : L.length < 64)
    (hQ : ∀ s' p (out : Array Value) (c : Nat) (ys : List Str), (∀ b o, s.heap.get? b = some o → s'.heap.get? b = some o) → s'.gens = s.gens → s'.os = s.os → s.heap.objs.size ≤ p →
      s'.heap.get? p = some (seqObj "list" out c) → StrsAre out.toList ys → ys.Perm L → sortedS ys = true → Q (.ref p) s') :
    wpAny (model P w) A (call (.builtin "sorted") [.ref a]) Q E s := by
  obtain ⟨ob, ents, ep, tab, ho, hex, hd, g, pm0, nd, hb, hf, hr, hl⟩ := R
  have hn : ents.size = L.length := by
    have q := pm0.length_eq
    rw [List.length_map, Array.length_toList] at q
    exact q
  refine Calls.call_function_entry kind_sorted plain_sorted entry_sorted (args_sorted1 _) ?_
  unfold Builtin.«sorted»
  refine wpAny_bind (m := checkCount "sorted" 1 1 _) (wpAny_pure ?_)
  refine wpAny_bind (collect_set (A := A.in1) hh ⟨ob, ho, hex.1, hd⟩ hf (by rw [hn]; exact hb) hr hl fun s1 vs k1 hz g1 o1 pm => ?_)
  have pv : (vs.map strOf).Perm L := by
    have q := pm.map strOf
    rw [List.map_map] at q
    exact q.trans pm0
  have hvl : vs.length = L.length := by
    have q := pv.length_eq
    rw [List.length_map] at q
    exact q
  have hS : StrsAre vs (vs.map strOf) := strsAre_map vs fun v hv => by
    obtain ⟨e, he, q⟩ := List.mem_map.mp (pm.mem_iff.mp hv)
    obtain ⟨z, tk, rfl⟩ := g e he
    exact ⟨z, tk, q.symm⟩
  refine wpAny_bind (wpAny_newList ?_ (by rw [hvl, sizeLine_eq]; omega))
  have hoL : (s1.heap.push (seqObj "list" vs.toArray 0)).get? s1.heap.objs.size = some (seqObj "list" vs.toArray 0) := Heap.get?_push_size _ rfl
  refine wpAny_bind (wpAny_holding (wpAny_call_entry slot_list_sort ⟨_, hoL, rfl⟩ entry_list_sort
    (list_sort_treeK strKind_oneLt hoL hS.keysOf (fun v₁ v₂ rest e => keyKind_strs (by rw [← e]; exact hS)) (by rw [hvl]; exact few) fun st' hp hs => ⟨_, rfl, ?_⟩) (args_list_sort _)))
  obtain ⟨ys, y1, y2, y3⟩ := sorted_out_str hS hp hs
  obtain ⟨c, hc⟩ := sortedHeap_at (vs := vs) (out := (arrOf st').map (·.2)) hoL
  refine wpAny_pure ⟨_, rfl, hQ _ s1.heap.objs.size _ c ys (fun b u e => ?_) g1 o1 hz hc y1 (y2.trans pv) y3⟩
  have q := k1 b u e
  have hlt := Heap.lt_size q
  show (sortedHeap (s1.heap.push (seqObj "list" vs.toArray 0)) s1.heap.objs.size vs ((arrOf st').map (·.2))).get? b = some u
  rw [sortedHeap_old (Nat.ne_of_lt hlt) (by rw [size_push']; exact Nat.lt_succ_of_lt hlt)]
  exact Heap.get?_push_of_some _ q
end
/-! ### over the layer -/
def TSO (w : World) (a : Addr) (L : List Str) : HO := .ext fun h => TS w h a L
theorem tso_new {P : Program} {w : World} {H : Hp} {h : Heap} {a : Addr} {L : List Str} (R : TS w h a L) : ObjOk P w H h a (TSO w a L) := by
  have ⟨ob, _, _, _, ho, _⟩ := R
  exact ⟨R, ⟨ob, ho⟩, fun _ _ p k => p.keep k⟩
section
variable {X : Cx}
/-- set(xs), xs a list of texts, and sorted of it -/
def rSetS (K : PySem.W.Frag) (w : World) : List V → Hp → VK → Prop := fun vs H Q => ∃ (l : Addr) (xs : List Str), vs = [V.ref l] ∧ SqL K H l (xs.map V.str) ∧ xs.length < scanBound ∧
  ∀ a, H a = none → Q (.ref a) (upd H a (TSO w a (ded xs)))
theorem cr_setS (hc : X.calm = true) : CallR X (.type "set") (rSetS X.K X.w) := by
  intro pins s σ H vs us Q I r h
  obtain ⟨l, xs, rfl, hl, few, q⟩ := h
  rw [Vals.ref1 r]
  obtain ⟨its, rv, pl, _⟩ := I.list hl
  have hn : H s.heap.objs.size = none := I.hok.fresh (Nat.le_refl _)
  refine call_set_texts (P := X.prog) (I.ok.hd hc) pl.isList (by simpa using Vals.strs rv) few fun h' tk R k => ?_
  exact ⟨.ref s.heap.objs.size, upd H s.heap.objs.size (TSO X.w s.heap.objs.size (ded xs)), I.laid (t' := tk) k (Nat.le_refl _) (tso_new R), rfl, q _ hn⟩
def rSortedTexts (w : World) : List V → Hp → VK → Prop := fun vs H Q => ∃ (a : Addr) (L : List Str), vs = [V.ref a] ∧ H a = some (TSO w a L) ∧ L.length < 64 ∧
  ∀ (ys : List Str) (p : Addr), ys.Perm L → sortedS ys = true → H p = none → Q (.ref p) (upd H p (.lst (ys.map V.str)))
theorem cr_sortedTexts (hc : X.calm = true) : CallR X (.builtin "sorted") (rSortedTexts X.w) := by
  intro pins s σ H vs us Q I r h
  obtain ⟨a, L, rfl, ha, few, q⟩ := h
  have R : TS X.w s.heap a L := (I.hok a _ ha).1
  rw [Vals.ref1 r]
  refine sorted_texts (P := X.prog) R (I.ok.hd hc) few fun s' p out c ys k g o hp hg hS pm srt => ?_
  have hlen : (ys.map V.str).length ≤ sizeLine := by
    rw [List.length_map, pm.length_eq, sizeLine_eq]
    omega
  have hn : H p = none := I.hok.fresh hp
  have J : Inv X pins σ (upd H p (.lst (ys.map V.str))) { s with heap := s'.heap, gens := s'.gens, drawn := s'.drawn, toks := s'.toks } :=
    I.call (ch := []) (Un.laid k hp hn) (I.hok.laid k hp ⟨hlen, out.toList, c, vals_of_strs hS, hg⟩) (by rw [g]; exact I.bare) (fun _ z => nomatch z)
  have e : s' = { s with heap := s'.heap, gens := s'.gens, drawn := s'.drawn, toks := s'.toks } := by
    cases s'
    cases s
    cases o
    rfl
  rw [e]
  exact ⟨.ref p, _, J, rfl, q ys p pm srt hn⟩
end
end TSet
end
section
/-! Own: what rules choose, their one form; ascending texts; tables. Nothing of a law's text. -/
namespace K10
open PySem PySem.Spec PyProof.Rows L2

abbrev Pk := Str × Int
/-- the bay of the first pick that is open at f -/
def choose (f : Str → Int) : List Pk → Option Str
  | [] => none
  | p :: r => if p.2 < f p.1 then some p.1 else choose f r
def setM (m : Str → Option Int) (b : Str) (k : Int) : Str → Option Int := fun y => if y = b then some k else m y
/-- is it kept behind what was passed? -/
def keeps (m : Str → Option Int) (p : Pk) : Bool := match m p.1 with
  | none => true
  | some k => decide (p.2 < k)
def mAfter (m : Str → Option Int) (p : Pk) : Str → Option Int := if keeps m p = true then setM m p.1 p.2 else m
def kept (m : Str → Option Int) : List Pk → List Pk
  | [] => []
  | p :: r => if keeps m p = true then p :: kept (setM m p.1 p.2) r else kept m r
def mEnd (m : Str → Option Int) : List Pk → (Str → Option Int)
  | [] => m
  | p :: r => mEnd (mAfter m p) r
theorem kept_app (x : Pk) : ∀ (l : List Pk) (m : Str → Option Int), kept m (l ++ [x]) = kept m l ++ (if keeps (mEnd m l) x = true then [x] else [])
  | [], m => by
    show (if keeps m x = true then x :: kept (setM m x.1 x.2) [] else kept m []) = [] ++ (if keeps m x = true then [x] else [])
    split <;> rfl
  | p :: r, m => by
    show (if keeps m p = true then p :: kept (setM m p.1 p.2) (r ++ [x]) else kept m (r ++ [x])) = (if keeps m p = true then p :: kept (setM m p.1 p.2) r else kept m r) ++ (if keeps (mEnd (mAfter m p) r) x = true then [x] else [])
    by_cases h : keeps m p = true
    · rw [if_pos h, if_pos h, kept_app x r, List.cons_append]
      unfold mAfter
      rw [if_pos h]
    · rw [if_neg h, if_neg h, kept_app x r]
      unfold mAfter
      rw [if_neg h]
theorem mEnd_app (x : Pk) : ∀ (l : List Pk) (m : Str → Option Int), mEnd m (l ++ [x]) = mAfter (mEnd m l) x
  | [], _ => rfl
  | p :: r, m => mEnd_app x r (mAfter m p)
theorem kept_len : ∀ (l : List Pk) (m : Str → Option Int), (kept m l).length ≤ l.length
  | [], _ => Nat.le_refl 0
  | p :: r, m => by
    show (if keeps m p = true then p :: kept (setM m p.1 p.2) r else kept m r).length ≤ r.length + 1
    split
    · exact Nat.succ_le_succ (kept_len r _)
    · exact Nat.le_succ_of_le (kept_len r _)
theorem kept_below : ∀ (l : List Pk) (m : Str → Option Int) (p : Pk), p ∈ kept m l → ∀ k, m p.1 = some k → p.2 < k
  | [], _, p, h, _, _ => by cases h
  | q :: r, m, p, h, k, e => by
    have h' : p ∈ (if keeps m q = true then q :: kept (setM m q.1 q.2) r else kept m r) := h
    by_cases c : keeps m q = true
    · rw [if_pos c] at h'
      have c2 := c
      unfold keeps at c2
      rcases List.mem_cons.mp h' with rfl | h2
      · rw [e] at c2
        exact of_decide_eq_true c2
      · by_cases e2 : p.1 = q.1
        · have h3 := kept_below r _ p h2 q.2 (by unfold setM; rw [if_pos e2])
          rw [← e2, e] at c2
          have h4 : q.2 < k := of_decide_eq_true c2
          omega
        · exact kept_below r _ p h2 k (by unfold setM; rw [if_neg e2]; exact e)
    · rw [if_neg c] at h'
      exact kept_below r _ p h' k e
/-- neighbours of one bay have falling keeps -/
def Falls : List Pk → Prop
  | [] => True
  | [_] => True
  | p :: q :: r => (p.1 = q.1 → q.2 < p.2) ∧ Falls (q :: r)
theorem falls_kept : ∀ (l : List Pk) (m : Str → Option Int), Falls (kept m l)
  | [], _ => True.intro
  | p :: r, m => by
    show Falls (if keeps m p = true then p :: kept (setM m p.1 p.2) r else kept m r)
    split
    · have ih := falls_kept r (setM m p.1 p.2)
      have hb := kept_below r (setM m p.1 p.2)
      cases h : kept (setM m p.1 p.2) r with
      | nil => exact True.intro
      | cons q t =>
        rw [h] at ih hb
        exact ⟨fun e => hb q List.mem_cons_self p.2 (by unfold setM; rw [if_pos e.symm]), ih⟩
    · exact falls_kept r m
theorem choose_kept (f : Str → Int) : ∀ (l : List Pk) (m : Str → Option Int), (∀ b k, m b = some k → f b ≤ k) → choose f (kept m l) = choose f l
  | [], _, _ => rfl
  | p :: r, m, h => by
    show choose f (if keeps m p = true then p :: kept (setM m p.1 p.2) r else kept m r) = (if p.2 < f p.1 then some p.1 else choose f r)
    by_cases c : keeps m p = true
    · rw [if_pos c]
      show (if p.2 < f p.1 then some p.1 else choose f (kept (setM m p.1 p.2) r)) = _
      by_cases o : p.2 < f p.1
      · rw [if_pos o, if_pos o]
      · rw [if_neg o, if_neg o]
        refine choose_kept f r _ fun b k e => ?_
        unfold setM at e
        by_cases e2 : b = p.1
        · rw [if_pos e2] at e
          cases e
          rw [e2]
          omega
        · rw [if_neg e2] at e
          exact h b k e
    · rw [if_neg c, choose_kept f r m h, if_neg]
      intro o
      unfold keeps at c
      cases e : m p.1 with
      | none => rw [e] at c; exact c rfl
      | some k =>
        rw [e] at c
        have h1 := h _ _ e
        exact c (decide_eq_true (by omega))
/-- without those behind which the same bay stands -/
def step2 : List Pk → List Pk
  | [] => []
  | [p] => [p]
  | p :: q :: r => if p.1 = q.1 then step2 (q :: r) else p :: step2 (q :: r)
theorem choose_step2 (f : Str → Int) : ∀ l : List Pk, Falls l → choose f (step2 l) = choose f l
  | [], _ => rfl
  | [_], _ => rfl
  | p :: q :: r, h => by
    show choose f (if p.1 = q.1 then step2 (q :: r) else p :: step2 (q :: r)) = (if p.2 < f p.1 then some p.1 else choose f (q :: r))
    have ih := choose_step2 f (q :: r) h.2
    by_cases e : p.1 = q.1
    · rw [if_pos e, ih]
      by_cases o : p.2 < f p.1
      · rw [if_pos o]
        show (if q.2 < f q.1 then some q.1 else choose f r) = some p.1
        have := h.1 e
        rw [if_pos (by rw [← e]; omega), e]
      · rw [if_neg o]
    · rw [if_neg e]
      show (if p.2 < f p.1 then some p.1 else choose f (step2 (q :: r))) = _
      rw [ih]
def oneForm (l : List Pk) : List Pk := step2 (kept (fun _ => none) l)
theorem choose_form (f : Str → Int) (l : List Pk) : choose f (oneForm l) = choose f l :=
  (choose_step2 f _ (falls_kept l _)).trans (choose_kept f l _ fun _ _ e => by cases e)
theorem step2_len : ∀ l : List Pk, (step2 l).length ≤ l.length
  | [] => Nat.le_refl 0
  | [_] => Nat.le_refl 1
  | p :: q :: r => by
    have ih := step2_len (q :: r)
    show (if p.1 = q.1 then step2 (q :: r) else p :: step2 (q :: r)).length ≤ (q :: r).length + 1
    split
    · omega
    · exact Nat.succ_le_succ ih
theorem form_len (l : List Pk) : (oneForm l).length ≤ l.length := Nat.le_trans (step2_len _) (kept_len l _)
/-- the filter by the bays behind -/
def behind (l : List Pk) : List (Option Str) := (l.drop 1).map (fun p => some p.1) ++ [none]
theorem step2_zip : ∀ l : List Pk, step2 l = ((l.zip (behind l)).filter fun e => decide (some e.1.1 ≠ e.2)).map (·.1)
  | [] => rfl
  | [p] => by
    show [p] = (([(p, none)] : List (Pk × Option Str)).filter _).map _
    rfl
  | p :: q :: r => by
    have ih := step2_zip (q :: r)
    have e1 : (p :: q :: r).zip (behind (p :: q :: r)) = (p, some q.1) :: (q :: r).zip (behind (q :: r)) := rfl
    rw [e1, List.filter_cons]
    show (if p.1 = q.1 then step2 (q :: r) else p :: step2 (q :: r)) = _
    by_cases e : p.1 = q.1
    · rw [if_pos e, ih, if_neg (by simp [e])]
    · rw [if_neg e, ih, if_pos (by simp [e]), List.map_cons]
theorem putK_keys {kvs : List (Key × V)} {xs : List Str} (e : kvs.map (·.1) = xs.map Sum.inr) (z : Str) (v : V) : ∃ ys : List Str, (putK kvs (Sum.inr z) v).map (·.1) = ys.map Sum.inr ∧ ys.length ≤ xs.length + 1 := by
  unfold putK
  split
  · refine ⟨xs, ?_, Nat.le_succ _⟩
    rw [← e, List.map_map]
    refine List.map_congr_left fun kv _ => ?_
    show (if kv.1 = Sum.inr z then (kv.1, v) else kv).1 = kv.1
    split <;> rfl
  · refine ⟨xs ++ [z], ?_, by rw [List.length_append]; exact Nat.le_refl _⟩
    rw [List.map_append, List.map_append, e]
    rfl
def Good (p : Pk) : Prop := nameB p.1 = true ∧ p.1.length ≤ 1000 ∧ 0 ≤ p.2 ∧ p.2 ≤ 9
theorem mem_kept : ∀ (l : List Pk) (m : Str → Option Int) (p : Pk), p ∈ kept m l → p ∈ l
  | [], _, _, h => h
  | q :: r, m, p, h => by
    have h' : p ∈ (if keeps m q = true then q :: kept (setM m q.1 q.2) r else kept m r) := h
    split at h'
    · rcases List.mem_cons.mp h' with e | h2
      · exact List.mem_cons.mpr (.inl e)
      · exact List.mem_cons_of_mem _ (mem_kept r _ p h2)
    · exact List.mem_cons_of_mem _ (mem_kept r _ p h')
theorem mem_step2 : ∀ (l : List Pk) (p : Pk), p ∈ step2 l → p ∈ l
  | [], _, h => h
  | [_], _, h => h
  | a :: b :: r, p, h => by
    have h' : p ∈ (if a.1 = b.1 then step2 (b :: r) else a :: step2 (b :: r)) := h
    split at h'
    · exact List.mem_cons_of_mem _ (mem_step2 (b :: r) p h')
    · rcases List.mem_cons.mp h' with e | h2
      · exact List.mem_cons.mpr (.inl e)
      · exact List.mem_cons_of_mem _ (mem_step2 (b :: r) p h2)
theorem mem_form {l : List Pk} {p : Pk} (h : p ∈ oneForm l) : p ∈ l := mem_kept l _ p (mem_step2 _ p h)

/-- one form: the keeps of a bay fall, neighbours are unlike, no keep is below 0 -/
def Norm : List Pk → Prop
  | [] => True
  | p :: r => (∀ q ∈ r, q.1 = p.1 → q.2 < p.2) ∧ (∀ q, r.head? = some q → q.1 ≠ p.1) ∧ 0 ≤ p.2 ∧ Norm r
theorem choose_congr {f g : Str → Int} : ∀ {l : List Pk}, (∀ p ∈ l, (p.2 < f p.1 ↔ p.2 < g p.1)) → choose f l = choose g l
  | [], _ => rfl
  | p :: r, h => by
    have h1 := h p List.mem_cons_self
    have ih := choose_congr (l := r) fun q hq => h q (List.mem_cons_of_mem _ hq)
    show (if p.2 < f p.1 then some p.1 else choose f r) = (if p.2 < g p.1 then some p.1 else choose g r)
    rw [ih]
    by_cases c : p.2 < f p.1
    · rw [if_pos c, if_pos (h1.mp c)]
    · rw [if_neg c, if_neg fun q => c (h1.mpr q)]
theorem choose_head {f : Str → Int} {p : Pk} {r : List Pk} (h : p.2 < f p.1) : choose f (p :: r) = some p.1 := if_pos h
theorem choose_tail {f : Str → Int} {p : Pk} {r : List Pk} (h : ¬ p.2 < f p.1) : choose f (p :: r) = choose f r := if_neg h
/-- the first one of a bay has the smaller keep: the other list chooses otherwise -/
theorem no_less {x : Str} {k m : Int} {a b : List Pk} (ha : Norm ((x, k) :: a)) (h : ∀ f, choose f ((x, k) :: a) = choose f ((x, m) :: b)) (lt : m < k) : False := by
  obtain ⟨h1, h2, h3, h4⟩ := ha
  cases a with
  | nil =>
    have e := h fun z => m + 1
    rw [choose_tail (p := (x, k)) (by show ¬ k < m + 1; omega), choose_head (p := (x, m)) (by show m < m + 1; omega)] at e
    cases e
  | cons q r =>
    have ne : q.1 ≠ x := h2 q rfl
    have e := h fun z => if z = x then m + 1 else q.2 + 1
    rw [choose_tail (p := (x, k)) (by show ¬ k < (if x = x then m + 1 else q.2 + 1); rw [if_pos rfl]; omega), choose_head (p := q) (by rw [if_neg ne]; omega), choose_head (p := (x, m)) (by show m < (if x = x then m + 1 else q.2 + 1); rw [if_pos rfl]; omega)] at e
    exact ne (Option.some.inj e)
theorem uniq : ∀ (a b : List Pk), Norm a → Norm b → (∀ f, choose f a = choose f b) → a = b
  | [], [], _, _, _ => rfl
  | [], (y, m) :: b, _, _, h => by
    have e := h fun _ => m + 1
    rw [choose_head (p := (y, m)) (by show m < m + 1; omega)] at e
    cases e
  | (x, k) :: a, [], _, _, h => by
    have e := h fun _ => k + 1
    rw [choose_head (p := (x, k)) (by show k < k + 1; omega)] at e
    cases e
  | (x, k) :: a, (y, m) :: b, ha, hb, h => by
    have exy : x = y := by
      by_cases c : x = y
      · exact c
      · have e := h fun z => if z = x then k + 1 else m + 1
        rw [choose_head (p := (x, k)) (by show k < (if x = x then k + 1 else m + 1); rw [if_pos rfl]; omega), choose_head (p := (y, m)) (by show m < (if y = x then k + 1 else m + 1); rw [if_neg fun q => c q.symm]; omega)] at e
        exact Option.some.inj e
    subst exy
    have ekm : k = m := by
      rcases Int.lt_trichotomy k m with c | c | c
      · exact (no_less hb (fun f => (h f).symm) c).elim
      · exact c
      · exact (no_less ha h c).elim
    subst ekm
    have cut : ∀ (l : List Pk), (∀ q ∈ l, q.1 = x → q.2 < k) → ∀ f : Str → Int, choose f l = choose (fun z => if z = x then min (f x) k else f z) ((x, k) :: l) := fun l hl f => by
      rw [choose_tail (p := (x, k)) (by show ¬ k < (if x = x then min (f x) k else f x); rw [if_pos rfl]; omega)]
      refine choose_congr fun p hp => ?_
      by_cases c : p.1 = x
      · have := hl p hp c
        rw [if_pos c, c]
        omega
      · rw [if_neg c]
    rw [uniq a b ha.2.2.2 hb.2.2.2 fun f => by rw [cut a ha.1 f, cut b hb.1 f, h]]
def FA : List Pk → Prop
  | [] => True
  | p :: r => (∀ q ∈ r, q.1 = p.1 → q.2 < p.2) ∧ FA r
theorem fa_kept : ∀ (l : List Pk) (m : Str → Option Int), FA (kept m l)
  | [], _ => True.intro
  | p :: r, m => by
    show FA (if keeps m p = true then p :: kept (setM m p.1 p.2) r else kept m r)
    split
    · exact ⟨fun q hq e => kept_below r (setM m p.1 p.2) q hq p.2 (by unfold setM; rw [if_pos e]), fa_kept r _⟩
    · exact fa_kept r m
theorem norm_step2 : ∀ (l : List Pk), FA l → (∀ p ∈ l, 0 ≤ p.2) → Norm (step2 l) ∧ (step2 l).head?.map (·.1) = l.head?.map (·.1)
  | [], _, _ => ⟨True.intro, rfl⟩
  | [p], _, h => ⟨⟨(fun q hq => by cases hq), (fun q hq => by cases hq), h p List.mem_cons_self, True.intro⟩, rfl⟩
  | p :: q :: r, fa, h => by
    have ih := norm_step2 (q :: r) fa.2 fun z hz => h z (List.mem_cons_of_mem _ hz)
    show Norm (if p.1 = q.1 then step2 (q :: r) else p :: step2 (q :: r)) ∧ (if p.1 = q.1 then step2 (q :: r) else p :: step2 (q :: r)).head?.map (·.1) = some p.1
    by_cases c : p.1 = q.1
    · rw [if_pos c, c]
      exact ih
    · rw [if_neg c]
      refine ⟨⟨fun z hz e => fa.1 z (mem_step2 _ z hz) e, fun z hz e => ?_, h p List.mem_cons_self, ih.1⟩, rfl⟩
      have e2 := ih.2
      rw [hz] at e2
      have e3 : z.1 = q.1 := Option.some.inj e2
      exact c (e.symm.trans e3)
theorem norm_form {l : List Pk} (h : ∀ p ∈ l, 0 ≤ p.2) : Norm (oneForm l) := (norm_step2 _ (fa_kept l _) fun p hp => h p (mem_kept l _ p hp)).1
/-- what chooses alike has one form -/
theorem form_eq {a b : List Pk} (ha : ∀ p ∈ a, 0 ≤ p.2) (hb : ∀ p ∈ b, 0 ≤ p.2) (h : ∀ f, choose f a = choose f b) : oneForm a = oneForm b :=
  uniq _ _ (norm_form ha) (norm_form hb) fun f => by rw [choose_form, choose_form, h]
theorem choose_app (f : Str → Int) : ∀ (a b : List Pk), choose f (a ++ b) = (choose f a).or (choose f b)
  | [], b => rfl
  | p :: r, b => by
    show (if p.2 < f p.1 then some p.1 else choose f (r ++ b)) = (if p.2 < f p.1 then some p.1 else choose f r).or (choose f b)
    by_cases c : p.2 < f p.1
    · rw [if_pos c, if_pos c]
      rfl
    · rw [if_neg c, if_neg c]
      exact choose_app f r b

def leS (x y : Str) : Prop := ¬ y.cps.toList < x.cps.toList
theorem leS_trans {x y z : Str} (h1 : leS x y) (h2 : leS y z) : leS x z := List.le_trans (α := Nat) (l₁ := x.cps.toList) (l₂ := y.cps.toList) (l₃ := z.cps.toList) h1 h2
theorem leS_anti {x y : Str} (h1 : leS x y) (h2 : leS y x) : x = y := by
  have e : x.cps.toList = y.cps.toList := List.le_antisymm (α := Nat) h1 h2
  cases x
  cases y
  congr 1
  exact Array.toList_inj.mp e
theorem rising_pw : ∀ (p : Str) (l : List Str), risingS p l = true → (p :: l).Pairwise leS
  | p, [], _ => List.pairwise_singleton _ _
  | p, x :: r, h => by
    obtain ⟨h1, h2⟩ := Bool.and_eq_true_iff.mp (show (!ltCps x.cps.toList p.cps.toList && risingS x r) = true from h)
    have ih := rising_pw x r h2
    have hx : leS p x := by
      rw [ltCps_eq] at h1
      unfold leS
      intro c
      rw [decide_eq_true c] at h1
      cases h1
    refine List.pairwise_cons.mpr ⟨fun y hy => ?_, ih⟩
    rcases List.mem_cons.mp hy with rfl | hy
    · exact hx
    · exact leS_trans hx ((List.pairwise_cons.mp ih).1 y hy)
theorem sorted_pw : ∀ l : List Str, sortedS l = true → l.Pairwise leS
  | [], _ => List.Pairwise.nil
  | x :: r, h => rising_pw x r h
theorem asc_aux : ∀ xs ys : List Str, xs.Pairwise leS → ys.Pairwise leS → xs.Nodup → ys.Nodup → (∀ z, z ∈ xs ↔ z ∈ ys) → xs = ys
  | [], [], _, _, _, _, _ => rfl
  | [], y :: t, _, _, _, _, hm => by have := (hm y).mpr List.mem_cons_self; cases this
  | x :: r, [], _, _, _, _, hm => by have := (hm x).mp List.mem_cons_self; cases this
  | x :: r, y :: t, h1, h2, n1, n2, hm => by
    obtain ⟨a1, a2⟩ := List.pairwise_cons.mp h1
    obtain ⟨b1, b2⟩ := List.pairwise_cons.mp h2
    obtain ⟨c1, c2⟩ := List.nodup_cons.mp n1
    obtain ⟨d1, d2⟩ := List.nodup_cons.mp n2
    have e : x = y := by
      rcases List.mem_cons.mp ((hm x).mp List.mem_cons_self) with e | hx
      · exact e
      · rcases List.mem_cons.mp ((hm y).mpr List.mem_cons_self) with e | hy
        · exact e.symm
        · exact leS_anti (a1 y hy) (b1 x hx)
    subst e
    rw [asc_aux r t a2 b2 c2 d2 fun z => ⟨fun hz => ?_, fun hz => ?_⟩]
    · rcases List.mem_cons.mp ((hm z).mp (List.mem_cons_of_mem _ hz)) with e | h
      · exact (c1 (e ▸ hz)).elim
      · exact h
    · rcases List.mem_cons.mp ((hm z).mpr (List.mem_cons_of_mem _ hz)) with e | h
      · exact (d1 (e ▸ hz)).elim
      · exact h
/-- two ascending lists without doubles of the same members are equal -/
theorem asc_eq {xs ys : List Str} (h1 : sortedS xs = true) (h2 : sortedS ys = true) (n1 : xs.Nodup) (n2 : ys.Nodup) (hm : ∀ z, z ∈ xs ↔ z ∈ ys) : xs = ys := asc_aux xs ys (sorted_pw xs h1) (sorted_pw ys h2) n1 n2 hm
end K10
end
section
/-! Own: picks, tables and rules on the heap. Nothing of a law's text. -/
namespace OwR
open PySem PySem.Spec PyProof.Rows L2
theorem dc_it {J : It} {n : Nat} {G : Hp → Prop} {Y : Nat → Hp → V → Hp → Prop} (w : Walk J n G Y) {g : TG} {tt : TT} {tk tv : TE} {vs : List Nat} {σ : L2.St} {H1 : Hp} {D : Addr} {Qd : Hp → Prop} (Pv : Nat → Hp → Prop)
    (h0 : Pv 0 (upd H1 D (.dK []))) (hG : ∀ i H, i ≤ n → Pv i H → G H)
    (turn : ∀ i x H H', i < n → Pv i H → Y i H x H' → g x (wipe σ vs) H' fun σ2 H2 => wipe σ2 vs = wipe σ vs ∧ tt σ2 H2 fun b H3 =>
      if b = true then tk σ2 H3 fun y H4 => tv σ2 H4 fun z H5 => ∃ kvs k, y = kV k ∧ H5 D = some (.dK kvs) ∧ kvs.length < sizeLine ∧ Pv (i + 1) (upd H5 D (.dK (putK kvs k z))) else Pv (i + 1) H3)
    (fin : ∀ H, Pv n H → Qd H) :
    ∃ W : Nat → Nat → Hp → Prop, (∃ m, W 0 m (upd H1 D (.dK []))) ∧ ∀ i m H, W i m H →
      (J.stop i H ∧ Qd H) ∨ (J.go i H ∧ ∃ Nx : Hp → Prop, (∀ H', Nx H' → ∃ m', m' < m ∧ W (i + 1) m' H') ∧ ∀ x H', J.yld i H x H' → g x (wipe σ vs) H' fun σ2 H2 => wipe σ2 vs = wipe σ vs ∧ tt σ2 H2 fun b H3 =>
        if b = true then tk σ2 H3 fun y H4 => tv σ2 H4 fun z H5 => ∃ kvs k, y = kV k ∧ H5 D = some (.dK kvs) ∧ kvs.length < sizeLine ∧ Nx (upd H5 D (.dK (putK kvs k z))) else Nx H3) := by
  refine ⟨fun i m H => m = n - i ∧ i ≤ n ∧ Pv i H, ⟨n, by simp, Nat.zero_le _, h0⟩, fun i m H ⟨em, hi, p⟩ => ?_⟩
  subst em
  have q := hG i H hi p
  rcases Nat.lt_or_ge i n with hlt | hge
  · exact .inr ⟨w.goes i H hlt q, Pv (i + 1), fun H' p' => ⟨n - (i + 1), by omega, rfl, hlt, p'⟩, fun x H' y => turn i x H H' hlt p (w.yields i H x H' hlt q y)⟩
  · obtain rfl : i = n := by omega
    exact .inl ⟨w.stops H q, fin H p⟩
theorem list_any {X : Cx} (hc : X.calm = true) : CallR X (.type "list") (fun xs H Q => (∃ p ys, xs = [.ref p] ∧ (SqL X.K H p ys ∨ SqT X.K H p ys) ∧ ∀ l, H l = none → Q (.ref l) (upd H l (.lst ys))) ∨
    (∃ (a : Addr) (kvs : List (Key × V)), xs = [.ref a] ∧ Rd H a (.dK kvs) ∧ ∀ p, H p = none → Q (.ref p) (upd H p (.lst (kvs.map fun kv => kV kv.1))))) := by
  intro pins s σ H xs us Q I r h
  rcases h with h | h
  · exact call_list_of pins s σ H xs us Q I r h
  · exact call_listD hc pins s σ H xs us Q I r h
end OwR
namespace TSet
open PySem
theorem put1_nodup {L : List Str} (h : L.Nodup) (z : Str) : (put1 L z).Nodup := by
  unfold put1
  split
  · exact h
  · rename_i q
    exact List.nodup_cons.mpr ⟨q, h⟩
theorem fold_nodup : ∀ (xs L : List Str), L.Nodup → (xs.foldl put1 L).Nodup
  | [], _, h => h
  | x :: xs, L, h => fold_nodup xs (put1 L x) (put1_nodup h x)
theorem ded_nodup (xs : List Str) : (ded xs).Nodup := fold_nodup xs [] List.nodup_nil
theorem ded_perm {xs : List Str} (h : xs.Nodup) : (ded xs).Perm xs := (List.perm_ext_iff_of_nodup (ded_nodup xs) h).mpr fun y => ded_mem xs y
end TSet
namespace OwR
open PySem PySem.Spec PyProof.Rows L2
theorem walk_enumT {K : PySem.W.Frag} {a : Addr} {xs : List V} : Walk (IteT K a) xs.length (fun H => SqT K H a xs) (YPair (fun i => some (.int (i : Nat))) (fun i => xs[i]?)) := by
  refine ⟨fun i _ hi q => ⟨xs, xs[i], q, by simp [hi]⟩, fun _ q => ⟨xs, q, Nat.le_refl _⟩, fun i H v H' _ q y => ?_⟩
  obtain ⟨T, x, h1, h2, h3, h4⟩ := y
  exact ⟨T, .int (i : Nat), x, h1, h2, h3, rfl, h4 xs q⟩
end OwR
namespace OwR
open PySem PySem.Spec PyProof.Rows L2
section
variable {X : Cx} {CX : CXT} {k : Nat} {f C : Addr} {sp : Sp} {E : XK} {x : Str} {p pos : Pos}
/-- C(), __init__ by a positional promise -/
theorem pe_makeR0 (M : Mk X.K C f) (F : FnR X.prog X.w X.K X.mg X.base CX k f sp) (hr : Room (k + 1) X.A) (hg : Gl X x) (hm : X.mg x = some (.ref C)) (hx : Passes CX X E) (hdb : (x == ("__debug__" : Str)) = false := by decide) :
    PE X (.Call (.Name x p) [] [] pos) (StX.tMakeR C sp E tNil) := by
  refine ⟨fun pins s σ H Q I h => ?_⟩
  refine wpAny_Call_Name_kw (ld_glob I hg hm ?_ hdb)
  exact PySem.W.callWith_K0 I.kIn M.kp (StX.run_makeR (us := []) M F hr hx I .nil h)
end
end OwR
namespace K10
open PySem PySem.Spec PyProof.Rows L2
/-- the texts that a list, or a dict's keys, hold -/
def TextsAt (K : PySem.W.Frag) (H : Hp) (a : Addr) (xs : List Str) : Prop := SqL K H a (xs.map V.str) ∨ SqT K H a (xs.map V.str) ∨ ∃ kvs, Rd H a (.dK kvs) ∧ kvs.map (·.1) = xs.map Sum.inr
/-- a table's numbers by its names, and no other key -/
def TabOf (kvs : List (Key × V)) (N : Str → Option Int) : Prop := (∀ z, valV kvs (Sum.inr z) = (N z).map V.int) ∧ ∀ i, valV kvs (Sum.inl i) = none
theorem TabOf.nil : TabOf [] fun _ => none := ⟨fun _ => rfl, fun _ => rfl⟩
theorem TabOf.put {kvs : List (Key × V)} {N : Str → Option Int} (t : TabOf kvs N) (z : Str) (v : Int) : TabOf (putK kvs (Sum.inr z) (.int v)) fun y => if y = z then some v else N y := by
  refine ⟨fun y => ?_, fun i => ?_⟩
  · rw [valV_put, t.1 y]
    by_cases e : y = z
    · dsimp only
      rw [if_pos (congrArg Sum.inr e), if_pos e]
      rfl
    · dsimp only
      rw [if_neg (fun q => e (Sum.inr.inj q)), if_neg e]
  · rw [valV_put, t.2 i, if_neg (fun q => by cases q)]
theorem TabOf.cast {kvs : List (Key × V)} {N M : Str → Option Int} (t : TabOf kvs N) (h : ∀ z, N z = M z) : TabOf kvs M := by
  rw [← funext h]
  exact t
theorem TabOf.get {kvs : List (Key × V)} {N : Str → Option Int} (t : TabOf kvs N) {H : Hp} {a : Addr} (h : Rd H a (.dK kvs)) (z : Str) : DGet H a (.str z) ((N z).map V.int) := .inl ⟨kvs, Sum.inr z, h, rfl, (t.1 z).symm⟩
theorem TabOf.mem {kvs : List (Key × V)} {N : Str → Option Int} (t : TabOf kvs N) {xs : List Str} (e : kvs.map (·.1) = xs.map Sum.inr) (z : Str) : z ∈ xs ↔ (N z).isSome = true := by
  have h1 : (kvs.any fun kv => decide (kv.1 = Sum.inr z)) = (valV kvs (Sum.inr z)).isSome := valV_any _ kvs
  rw [t.1 z, Option.isSome_map] at h1
  rw [← h1, List.any_eq_true]
  refine ⟨fun h => ?_, fun ⟨kv, h, e2⟩ => ?_⟩
  · have h2 : (Sum.inr z : Key) ∈ kvs.map (·.1) := by
      rw [e]
      exact List.mem_map.mpr ⟨z, h, rfl⟩
    obtain ⟨kv, h3, h4⟩ := List.mem_map.mp h2
    exact ⟨kv, h3, decide_eq_true h4⟩
  · have h2 : (Sum.inr z : Key) ∈ kvs.map (·.1) := List.mem_map.mpr ⟨kv, h, of_decide_eq_true e2⟩
    rw [e] at h2
    obtain ⟨y, h3, h4⟩ := List.mem_map.mp h2
    exact Sum.inr.inj h4 ▸ h3
def TupAt (H : Hp) (k : Addr) (p : Pk) : Prop := H k = some (.tup [.str p.1, .int p.2])
/-- picks as tuples of a text and a number -/
structure PicksAt (H : Hp) (ks : List Addr) (ps : List Pk) : Prop where
  len : ks.length = ps.length
  at_ : ∀ (i : Nat) (k : Addr) (p : Pk), ks[i]? = some k → ps[i]? = some p → TupAt H k p
theorem PicksAt.nil {H : Hp} : PicksAt H [] [] := ⟨rfl, fun i k p h => by cases h⟩
theorem PicksAt.get {H : Hp} {ks : List Addr} {ps : List Pk} (h : PicksAt H ks ps) {i : Nat} {v : V} (e : (ks.map V.ref)[i]? = some v) : ∃ k p, v = .ref k ∧ ks[i]? = some k ∧ ps[i]? = some p ∧ TupAt H k p := by
  rw [List.getElem?_map] at e
  obtain ⟨k, hk, rfl⟩ := Option.map_eq_some_iff.mp e
  have hi : i < ps.length := by
    rw [← h.len]
    exact (List.getElem?_eq_some_iff.mp hk).1
  exact ⟨k, ps[i], rfl, hk, List.getElem?_eq_getElem hi, h.at_ i k _ hk (List.getElem?_eq_getElem hi)⟩
theorem PicksAt.mono {H H' : Hp} {ks : List Addr} {ps : List Pk} (h : PicksAt H ks ps) (s : ∀ k xs, H k = some (.tup xs) → H' k = some (.tup xs)) : PicksAt H' ks ps := ⟨h.len, fun i k p e1 e2 => s _ _ (h.at_ i k p e1 e2)⟩
theorem PicksAt.same {H H' : Hp} {ks : List Addr} {ps : List Pk} (h : PicksAt H ks ps) (s : Same H H') : PicksAt H' ks ps := h.mono fun k xs e => s k _ e
theorem PicksAt.upd {H : Hp} {ks : List Addr} {ps : List Pk} (h : PicksAt H ks ps) {D : Addr} {o : HO} (n : ∀ xs, H D ≠ some (.tup xs)) : PicksAt (upd H D o) ks ps := h.mono fun k xs e => by
  have : k ≠ D := fun z => n xs (z ▸ e)
  rw [upd_ne this]
  exact e
theorem PicksAt.snoc {H : Hp} {ks : List Addr} {ps : List Pk} (h : PicksAt H ks ps) {k : Addr} {p : Pk} (e : TupAt H k p) : PicksAt H (ks ++ [k]) (ps ++ [p]) := by
  refine ⟨by rw [List.length_append, List.length_append, h.len]; rfl, fun i k' p' e1 e2 => ?_⟩
  rcases Nat.lt_trichotomy i ks.length with c | c | c
  · rw [List.getElem?_append_left c] at e1
    rw [List.getElem?_append_left (by rw [← h.len]; exact c)] at e2
    exact h.at_ i k' p' e1 e2
  · subst c
    rw [List.getElem?_append_right (Nat.le_refl _), Nat.sub_self] at e1
    rw [h.len, List.getElem?_append_right (Nat.le_refl _), Nat.sub_self] at e2
    cases e1
    cases e2
    exact e
  · rw [List.getElem?_eq_none (by rw [List.length_append]; simp; omega)] at e1
    cases e1
theorem upd_keep {H : Hp} {D b : Addr} {o u w : HO} (hD : H D = some w) (h : H b = some u) (n : u ≠ w) : upd H D o b = some u := by
  have : b ≠ D := fun z => by
    rw [z, hD] at h
    exact n (Option.some.inj h).symm
  rw [upd_ne this]
  exact h
theorem free_of {H : Hp} {D b : Addr} {o : HO} (h : upd H D o b = none) : H b = none := by
  unfold upd at h
  split at h
  · cases h
  · exact h
theorem PicksAt.drop {H : Hp} {ks : List Addr} {ps : List Pk} (h : PicksAt H ks ps) : PicksAt H (ks.drop 1) (ps.drop 1) := by
  refine ⟨by rw [List.length_drop, List.length_drop, h.len], fun i k p e1 e2 => ?_⟩
  rw [List.getElem?_drop] at e1 e2
  exact h.at_ _ k p e1 e2
theorem cut_one (kk : List Addr) : cutV (kk.map V.ref) (some 1) none = (kk.drop 1).map V.ref := by
  have e : (some 1 : Option Int) = some ((1 : Nat) : Int) := rfl
  unfold cutV
  rw [HT.sIx_none, e, HT.sIx_nat]
  cases kk with
  | nil => rfl
  | cons x r =>
    have e2 : min 1 ((x :: r).map V.ref).length = 1 := by
      rw [List.length_map]
      show min 1 (r.length + 1) = 1
      omega
    rw [e2]
    show ((r.map V.ref).take (((x :: r).map V.ref).length - 1)) = r.map V.ref
    exact List.take_of_length_le (by rw [List.length_map, List.length_map]; show r.length ≤ r.length + 1 - 1; omega)
def optV : Option Str → V
  | none => .non
  | some z => .str z
theorem behind_vals (kp : List Pk) : ((kp.drop 1).map fun p => V.str p.1) ++ [V.non] = (behind kp).map optV := by
  unfold behind
  rw [List.map_append, List.map_map]
  rfl
/-- a pick as it is passed: a tuple, or a name alone for a keep of 0 -/
def ValAt (H : Hp) (x : V) (p : Pk) : Prop := (∃ k, x = .ref k ∧ TupAt H k p) ∨ (x = .str p.1 ∧ p.2 = 0)
theorem ValAt.same {H H' : Hp} {x : V} {p : Pk} (h : ValAt H x p) (s : Same H H') : ValAt H' x p := h.elim (fun ⟨k, e, t⟩ => .inl ⟨k, e, s _ _ t⟩) .inr
structure ValsAt (H : Hp) (xs : List V) (ps : List Pk) : Prop where
  len : xs.length = ps.length
  at_ : ∀ (i : Nat) (x : V) (p : Pk), xs[i]? = some x → ps[i]? = some p → ValAt H x p
theorem ValsAt.same {H H' : Hp} {xs : List V} {ps : List Pk} (h : ValsAt H xs ps) (s : Same H H') : ValsAt H' xs ps := ⟨h.len, fun i x p e1 e2 => (h.at_ i x p e1 e2).same s⟩
theorem ValsAt.get {H : Hp} {xs : List V} {ps : List Pk} (h : ValsAt H xs ps) {i : Nat} {x : V} (e : xs[i]? = some x) : ∃ p, ps[i]? = some p ∧ ValAt H x p := by
  have hi : i < ps.length := by
    rw [← h.len]
    exact (List.getElem?_eq_some_iff.mp e).1
  exact ⟨ps[i], List.getElem?_eq_getElem hi, h.at_ i x _ e (List.getElem?_eq_getElem hi)⟩
theorem PicksAt.vals {H : Hp} {ks : List Addr} {ps : List Pk} (h : PicksAt H ks ps) : ValsAt H (ks.map V.ref) ps := by
  refine ⟨by rw [List.length_map, h.len], fun i x p e1 e2 => ?_⟩
  rw [List.getElem?_map] at e1
  obtain ⟨k, hk, rfl⟩ := Option.map_eq_some_iff.mp e1
  exact .inl ⟨k, rfl, h.at_ i k p hk e2⟩
def lookL : List Pk → Str → Option Int
  | [], _ => none
  | p :: r, z => if z = p.1 then some p.2 else lookL r z
theorem lookL_mem : ∀ (l : List Pk) (z : Str), (lookL l z).isSome = true ↔ z ∈ l.map (·.1)
  | [], z => by simp [lookL]
  | p :: r, z => by
    unfold lookL
    rw [List.map_cons, List.mem_cons, ← lookL_mem r z]
    by_cases c : z = p.1
    · rw [if_pos c]; exact ⟨fun _ => .inl c, fun _ => rfl⟩
    · rw [if_neg c]; exact ⟨.inr, fun h => h.elim (fun q => absurd q c) id⟩
/-- what stands behind the picks: the keeps by bays, and the bays ascending -/
structure RuleC (K : PySem.W.Frag) (C : Addr) : Prop where
  cls : Cls K C
  n1 : NoAttr K C "_picks"
  n2 : NoAttr K C "_keeps"
  n3 : NoAttr K C "_bays"
structure More (H : Hp) (fs : List (Str × V)) (ps : List Pk) (D b : Addr) (r : List (Key × V)) (zs : List Str) : Prop where
  lm : fs.lookup ("keep" : Str) = none
  lk : fs.lookup ("_keeps" : Str) = some (.ref D)
  lb : fs.lookup ("_bays" : Str) = some (.ref b)
  eD : H D = some (.dK r)
  tb : TabOf r (lookL ps)
  eb : H b = some (.tup (zs.map V.str))
  nd : zs.Nodup
  mem : ∀ z, z ∈ zs ↔ z ∈ ps.map (·.1)
  srt : sortedS zs = true
def RuleAt (C : Addr) (H : Hp) (a : Addr) (ps : List Pk) : Prop := ∃ (dx : Addr) (fs : List (Str × V)) (p : Addr) (ks : List Addr), H a = some (.ins C dx fs) ∧ fs.lookup ("_picks" : Str) = some (.ref p) ∧ H p = some (.tup (ks.map V.ref)) ∧ PicksAt H ks ps ∧ ∃ D b r zs, More H fs ps D b r zs
theorem RuleAt.same {C : Addr} {H H' : Hp} {a : Addr} {ps : List Pk} (h : RuleAt C H a ps) (s : Same H H') : RuleAt C H' a ps := by
  obtain ⟨dx, fs, p, ks, h1, h2, h3, h4, D, b, r, zs, m⟩ := h
  exact ⟨dx, fs, p, ks, s _ _ h1, h2, s _ _ h3, h4.same s, D, b, r, zs, m.lm, m.lk, m.lb, s _ _ m.eD, m.tb, s _ _ m.eb, m.nd, m.mem, m.srt⟩
def pkD (p : Pk) : PyData := .tuple [.str p.1, .int p.2]
theorem pkD_lay {p : Pk} (h : PyData.strOk p.1 = true) : (pkD p).canLay0 = true := by simp [pkD, PyData.canLay0, PyData.canLayAll0, h]
theorem pkD_dep (p : Pk) : (pkD p).depth ≤ 1 := by simp [pkD, PyData.depth, PyData.depthAll]
theorem PicksAt.dp {K : PySem.W.Frag} {H : Hp} : ∀ {ks : List Addr} {ps : List Pk}, PicksAt H ks ps → DpAll K H (ks.map V.ref) (ps.map pkD)
  | [], [], _ => .nil
  | [], _ :: _, h => by cases h.len
  | _ :: _, [], h => by cases h.len
  | k :: ks, p :: ps, h => .cons (.tup (SqT.of (h.at_ 0 k p rfl rfl)) (.cons (.str p.1) (.cons (.int p.2) .nil))) (PicksAt.dp ⟨Nat.succ.inj h.len, fun i k' p' e1 e2 => h.at_ (i + 1) k' p' e1 e2⟩)
def optI : Option Int → V
  | none => .non
  | some i => .int i
/-- what may be asked with `in` and `keep`: a text, or another value -/
def AskAt (K : PySem.W.Frag) (H : Hp) (x : V) (o : Option Str) : Prop := match o with
  | some z => x = .str z
  | none => ∃ t, TyX K H x t ∧ PySem.W.kitOne K t (.type "str") = some false
def keepAt (ps : List Pk) (o : Option Str) : Option Int := o.elim none (lookL ps)
end K10
end
section
/-! Own: dict(..) of pairs of a text and a number. -/
namespace K10
open PySem PySem.Spec PyProof.Rows L2
def tabL (ps : List Pk) : List (Key × V) := ps.map fun q => (Sum.inr q.1, V.int q.2)
theorem lookL_cons (q : Pk) (r : List Pk) (z : Str) : lookL (q :: r) z = if q.1 = z then some q.2 else lookL r z := by
  show (if z = q.1 then some q.2 else lookL r z) = _
  by_cases e : q.1 = z
  · rw [if_pos e, if_pos e.symm]
  · rw [if_neg e, if_neg fun h => e h.symm]
theorem lookL_at : ∀ {ps : List Pk} {z : Str} {v : Int}, lookL ps z = some v → (z, v) ∈ ps
  | [], z, v, h => by cases h
  | q :: r, z, v, h => by
    rw [lookL_cons] at h
    by_cases e : q.1 = z
    · rw [if_pos e] at h
      cases h
      rw [← e]
      exact List.mem_cons_self
    · rw [if_neg e] at h
      exact List.mem_cons_of_mem _ (lookL_at h)
theorem tabOf_list : ∀ ps : List Pk, TabOf (tabL ps) (lookL ps)
  | [] => TabOf.nil
  | q :: r => by
    have ih := tabOf_list r
    refine ⟨fun z => ?_, fun i => ?_⟩
    · by_cases e : q.1 = z
      · have h1 : valV (tabL (q :: r)) (Sum.inr z) = some (.int q.2) := valV_pos (p := (Sum.inr q.1, V.int q.2)) (congrArg Sum.inr e)
        rw [h1, lookL_cons, if_pos e]
        rfl
      · have h1 : valV (tabL (q :: r)) (Sum.inr z) = valV (tabL r) (Sum.inr z) := valV_neg (p := (Sum.inr q.1, V.int q.2)) fun h => e (Sum.inr.inj h)
        rw [h1, ih.1 z, lookL_cons, if_neg e]
    · have h1 : valV (tabL (q :: r)) (Sum.inl i) = valV (tabL r) (Sum.inl i) := valV_neg (p := (Sum.inr q.1, V.int q.2)) fun h => by cases h
      rw [h1, ih.2 i]
theorem val_none {kvs : List (Key × V)} {k : Key} (h : k ∉ kvs.map (·.1)) : valV kvs k = none := by
  cases e : valV kvs k with
  | none => rfl
  | some v =>
    have h1 := valV_any k kvs
    rw [e] at h1
    obtain ⟨kv, h2, h3⟩ := List.any_eq_true.mp h1
    exact (h (List.mem_map.mpr ⟨kv, h2, of_decide_eq_true h3⟩)).elim
theorem merge_app : ∀ (more acc : List (Key × V)), ((acc ++ more).map (·.1)).Nodup → mergeK acc more = acc ++ more
  | [], acc, _ => (List.append_nil acc).symm
  | x :: r, acc, h => by
    have h2 : x.1 ∉ acc.map (·.1) := fun m => by
      rw [List.map_append] at h
      exact (List.nodup_append.mp h).2.2 x.1 m x.1 (by simp) rfl
    have h1 : putK acc x.1 x.2 = acc ++ [x] := putK_new x.2 (val_none h2)
    have e : acc ++ [x] ++ r = acc ++ x :: r := by simp
    have ih := merge_app r (acc ++ [x]) (by rw [e]; exact h)
    show mergeK (putK acc x.1 x.2) r = _
    rw [h1, ih, e]
theorem merge_tab {ps : List Pk} (h : (ps.map (·.1)).Nodup) : mergeK [] (tabL ps) = tabL ps := by
  refine merge_app (tabL ps) [] ?_
  have e : (tabL ps).map (·.1) = (ps.map (·.1)).map Sum.inr := by
    unfold tabL
    rw [List.map_map, List.map_map]
    rfl
  rw [List.nil_append, e]
  exact List.Pairwise.map Sum.inr (fun a b n q => n (Sum.inr.inj q)) h
theorem PicksAt.paired {K : PySem.W.Frag} {H : Hp} : ∀ {ks : List Addr} {ps : List Pk}, PicksAt H ks ps → Paired (fun p kv => SqT K H p [kV kv.1, kv.2]) ks (tabL ps)
  | [], [], _ => .nil
  | [], _ :: _, h => by cases h.len
  | _ :: _, [], h => by cases h.len
  | k :: ks, p :: ps, h => .cons (SqT.of (h.at_ 0 k p rfl rfl)) (PicksAt.paired ⟨Nat.succ.inj h.len, fun i k' p' e1 e2 => h.at_ (i + 1) k' p' e1 e2⟩)
end K10
end
section
/-! Own: houses as ascending lists of bays with their numbers from 1, and as numbers by bay. -/
namespace K10
open PySem PySem.Spec PyProof.Rows L2
def topN : Int := 10 ^ 60 - 1
def valL (ps : List Pk) (z : Str) : Int := (lookL ps z).getD 0
/-- ascending, each bay once, numbers from 1 -/
structure HNorm (ps : List Pk) : Prop where
  asc : (ps.map (·.1)).Pairwise leS
  nd : (ps.map (·.1)).Nodup
  pos : ∀ p ∈ ps, 0 < p.2
theorem lookL_some : ∀ {ps : List Pk} {p : Pk}, (ps.map (·.1)).Nodup → p ∈ ps → lookL ps p.1 = some p.2
  | q :: r, p, nd, h => by
    rw [lookL_cons]
    rcases List.mem_cons.mp h with rfl | h
    · rw [if_pos rfl]
    · have h1 := (List.nodup_cons.mp nd).1
      rw [if_neg fun e => h1 (by show q.1 ∈ _; rw [e]; exact List.mem_map.mpr ⟨p, h, rfl⟩)]
      exact lookL_some (List.nodup_cons.mp nd).2 h
theorem lookL_none {ps : List Pk} {z : Str} (h : z ∉ ps.map (·.1)) : lookL ps z = none := by
  cases e : lookL ps z with
  | none => rfl
  | some v => exact (h (List.mem_map.mpr ⟨_, lookL_at e, rfl⟩)).elim
theorem valL_mem {ps : List Pk} (n : HNorm ps) {z : Str} : z ∈ ps.map (·.1) ↔ 0 < valL ps z := by
  constructor
  · intro h
    obtain ⟨p, hp, rfl⟩ := List.mem_map.mp h
    unfold valL
    rw [lookL_some n.nd hp]
    exact n.pos p hp
  · intro h
    by_cases c : z ∈ ps.map (·.1)
    · exact c
    · unfold valL at h
      rw [lookL_none c] at h
      exact absurd h (by decide)
theorem valL_nn {ps : List Pk} (n : HNorm ps) (z : Str) : 0 ≤ valL ps z := by
  by_cases c : z ∈ ps.map (·.1)
  · exact Int.le_of_lt ((valL_mem n).mp c)
  · unfold valL
    rw [lookL_none c]
    decide
theorem norm_map {ps : List Pk} (nd : (ps.map (·.1)).Nodup) : ps = (ps.map (·.1)).map fun z => (z, valL ps z) := by
  rw [List.map_map]
  have h : ∀ p ∈ ps, ((fun z => (z, valL ps z)) ∘ fun x : Pk => x.1) p = p := fun p hp => by
    show (p.1, (lookL ps p.1).getD 0) = p
    rw [lookL_some nd hp]
    rfl
  rw [List.map_congr_left h, List.map_id']
theorem norm_ext {ps qs : List Pk} (n : HNorm ps) (m : HNorm qs) (h : ∀ z, valL ps z = valL qs z) : ps = qs := by
  have e : ps.map (·.1) = qs.map (·.1) := asc_aux _ _ n.asc m.asc n.nd m.nd fun z => by rw [valL_mem n, valL_mem m, h z]
  rw [norm_map n.nd, norm_map m.nd, e]
  exact List.map_congr_left fun z _ => by rw [h z]
/-- of ascending names those with a number -/
def mkL (ys : List Str) (F : Str → Int) : List Pk := (ys.filter fun z => decide (0 < F z)).map fun z => (z, F z)
theorem mkL_keys (ys : List Str) (F : Str → Int) : (mkL ys F).map (·.1) = ys.filter fun z => decide (0 < F z) := by
  unfold mkL
  rw [List.map_map]
  exact (List.map_congr_left fun z _ => rfl).trans (List.map_id' _)
theorem mkL_norm {ys : List Str} {F : Str → Int} (h : sortedS ys = true) (nd : ys.Nodup) : HNorm (mkL ys F) := by
  refine ⟨?_, ?_, fun p hp => ?_⟩
  · rw [mkL_keys]
    exact (sorted_pw ys h).sublist List.filter_sublist
  · rw [mkL_keys]
    exact nd.sublist List.filter_sublist
  · obtain ⟨z, hz, rfl⟩ := List.mem_map.mp hp
    exact of_decide_eq_true (List.mem_filter.mp hz).2
theorem mkL_val {ys : List Str} {F : Str → Int} (nd : ys.Nodup) (h : ∀ z, F z ≠ 0 → z ∈ ys) (nn : ∀ z, 0 ≤ F z) (z : Str) : valL (mkL ys F) z = F z := by
  have nk : ((mkL ys F).map (·.1)).Nodup := by
    rw [mkL_keys]
    exact nd.sublist List.filter_sublist
  by_cases c : 0 < F z
  · have m : (z, F z) ∈ mkL ys F := List.mem_map.mpr ⟨z, List.mem_filter.mpr ⟨h z (by omega), decide_eq_true c⟩, rfl⟩
    unfold valL
    rw [lookL_some nk m]
    rfl
  · have m : z ∉ (mkL ys F).map (·.1) := fun q => by
      rw [mkL_keys] at q
      exact c (of_decide_eq_true (List.mem_filter.mp q).2)
    unfold valL
    rw [lookL_none m]
    have := nn z
    show (0 : Int) = F z
    omega
theorem mkL_yes {ys : List Str} {F : Str → Int} {i : Nat} {z : Str} (hz : ys[i]? = some z) (c : 0 < F z) : mkL (ys.take (i + 1)) F = mkL (ys.take i) F ++ [(z, F z)] := by
  unfold mkL
  rw [List.take_add_one, hz, List.filter_append, List.map_append]
  show _ ++ ([z].filter _).map _ = _
  rw [List.filter_cons, if_pos (decide_eq_true c)]
  rfl
theorem mkL_no {ys : List Str} {F : Str → Int} {i : Nat} {z : Str} (hz : ys[i]? = some z) (c : ¬ 0 < F z) : mkL (ys.take (i + 1)) F = mkL (ys.take i) F := by
  unfold mkL
  rw [List.take_add_one, hz, List.filter_append, List.map_append]
  show _ ++ ([z].filter _).map _ = _
  rw [List.filter_cons, if_neg (by simpa using c), List.filter_nil, List.map_nil, List.append_nil]
theorem at_new {ys : List Str} {i : Nat} {z : Str} (nd : ys.Nodup) (hz : ys[i]? = some z) : z ∉ ys.take i := fun q => by
  have h : (ys.take (i + 1)).Nodup := nd.sublist (List.take_sublist _ _)
  rw [List.take_add_one, hz] at h
  exact (List.nodup_append.mp h).2.2 z q z (by simp) rfl
theorem tabL_keys (ps : List Pk) : (tabL ps).map (·.1) = (ps.map (·.1)).map Sum.inr := by
  unfold tabL
  rw [List.map_map, List.map_map]
  rfl
theorem put_tab {ps : List Pk} {z : Str} (v : Int) (h : z ∉ ps.map (·.1)) : putK (tabL ps) (Sum.inr z) (.int v) = tabL (ps ++ [(z, v)]) := by
  have h2 : (Sum.inr z : Key) ∉ (tabL ps).map (·.1) := fun m => by
    rw [tabL_keys] at m
    obtain ⟨y, hy, e⟩ := List.mem_map.mp m
    exact h (Sum.inr.inj e ▸ hy)
  rw [putK_new (V.int v) (val_none h2)]
  unfold tabL
  rw [List.map_append]
  rfl
/-- names with their numbers -/
def mapL (ys : List Str) (f : Str → Int) : List Pk := ys.map fun z => (z, f z)
theorem mapL_keys (ys : List Str) (f : Str → Int) : (mapL ys f).map (·.1) = ys := by
  unfold mapL
  rw [List.map_map]
  exact (List.map_congr_left fun z _ => rfl).trans (List.map_id' _)
theorem mapL_snoc {ys : List Str} {f : Str → Int} {i : Nat} {z : Str} (hz : ys[i]? = some z) : mapL (ys.take (i + 1)) f = mapL (ys.take i) f ++ [(z, f z)] := by
  unfold mapL
  rw [List.take_add_one, hz, List.map_append]
  rfl
theorem mapL_look {ys : List Str} {f : Str → Int} (nd : ys.Nodup) (z : Str) : lookL (mapL ys f) z = if z ∈ ys then some (f z) else none := by
  by_cases c : z ∈ ys
  · rw [if_pos c]
    have nk : ((mapL ys f).map (·.1)).Nodup := by rw [mapL_keys]; exact nd
    exact lookL_some (p := (z, f z)) nk (List.mem_map.mpr ⟨z, c, rfl⟩)
  · rw [if_neg c]
    exact lookL_none (by rw [mapL_keys]; exact c)
theorem nodup_len : ∀ {xs ys : List Str}, xs.Nodup → (∀ z ∈ xs, z ∈ ys) → xs.length ≤ ys.length
  | [], _, _, _ => Nat.zero_le _
  | x :: r, ys, nd, h => by
    have h1 := h x List.mem_cons_self
    have ih := nodup_len (xs := r) (ys := ys.erase x) (List.nodup_cons.mp nd).2 fun z hz => by
      have ne : z ≠ x := fun e => (List.nodup_cons.mp nd).1 (e ▸ hz)
      exact (List.mem_erase_of_ne ne).mpr (h z (List.mem_cons_of_mem _ hz))
    rw [List.length_erase_of_mem h1] at ih
    have := List.length_pos_of_mem h1
    rw [List.length_cons]
    omega
def leB (ns : List Str) (F G : Str → Int) : Bool := ns.all fun z => decide (F z ≤ G z)
def eqB (ns : List Str) (F G : Str → Int) : Bool := ns.all fun z => decide (F z = G z)
end K10
end
section
/-! Own: houses as rows of numbers over names. -/
namespace K10
open PySem PySem.Spec PyProof.Rows L2
def valF (ns : List Str) (xs : List Int) (z : Str) : Int := (lookL (ns.zip xs) z).getD 0
def atMost (xs ys : List Int) : Bool := (xs.zip ys).all fun p => decide (p.1 ≤ p.2)
def viol (xs ys : List Int) (i : Nat) : List Int := ((List.range i).filter fun k => decide (ys.getD k 0 < xs.getD k 0)).map fun k => ((k : Nat) : Int)
theorem zip_keys : ∀ {ns : List Str} {xs : List Int}, xs.length = ns.length → (ns.zip xs).map (·.1) = ns
  | [], _, _ => rfl
  | n :: ns, [], h => by cases h
  | n :: ns, x :: xs, h => by
    show n :: (ns.zip xs).map (·.1) = _
    rw [zip_keys (Nat.succ.inj h)]
theorem valF_get {ns : List Str} {xs : List Int} {i : Nat} {z : Str} {x : Int} (nd : ns.Nodup) (l : xs.length = ns.length) (hz : ns[i]? = some z) (hx : xs[i]? = some x) : valF ns xs z = x := by
  unfold valF
  have m : (z, x) ∈ ns.zip xs := List.mem_of_getElem? (i := i) (by rw [List.getElem?_zip_eq_some]; exact ⟨hz, hx⟩)
  rw [lookL_some (p := (z, x)) (by rw [zip_keys l]; exact nd) m]
  rfl
theorem valF_out {ns : List Str} {xs : List Int} {z : Str} (l : xs.length = ns.length) (h : z ∉ ns) : valF ns xs z = 0 := by
  unfold valF
  rw [lookL_none (by rw [zip_keys l]; exact h)]
  rfl
theorem get_some {α : Type} {xs : List α} {i n : Nat} (l : xs.length = n) (h : i < n) : ∃ x, xs[i]? = some x := ⟨xs[i]'(by omega), List.getElem?_eq_getElem (by omega)⟩
theorem mem_idx {α : Type} {xs : List α} {x : α} (h : x ∈ xs) : ∃ i : Nat, i < xs.length ∧ xs[i]? = some x := by
  obtain ⟨i, hi, e⟩ := List.mem_iff_getElem.mp h
  exact ⟨i, hi, by rw [List.getElem?_eq_getElem hi, e]⟩
theorem leB_rows {ns : List Str} {xs ys : List Int} (nd : ns.Nodup) (lx : xs.length = ns.length) (ly : ys.length = ns.length) : leB ns (valF ns xs) (valF ns ys) = atMost xs ys := by
  unfold leB atMost
  rw [Bool.eq_iff_iff, List.all_eq_true, List.all_eq_true]
  constructor
  · intro h p hp
    obtain ⟨i, hi, e⟩ := mem_idx hp
    obtain ⟨e1, e2⟩ := List.getElem?_zip_eq_some.mp e
    rw [List.length_zip] at hi
    obtain ⟨z, hz⟩ := get_some (xs := ns) rfl (show i < ns.length by omega)
    have := h z (List.mem_of_getElem? hz)
    rw [valF_get nd lx hz e1, valF_get nd ly hz e2] at this
    exact this
  · intro h z hz
    obtain ⟨i, hi, e⟩ := mem_idx hz
    obtain ⟨x, ex⟩ := get_some lx hi
    obtain ⟨y, ey⟩ := get_some ly hi
    rw [valF_get nd lx e ex, valF_get nd ly e ey]
    exact h (x, y) (List.mem_of_getElem? (i := i) (List.getElem?_zip_eq_some.mpr ⟨ex, ey⟩))
theorem eqB_rows {ns : List Str} {xs ys : List Int} (nd : ns.Nodup) (lx : xs.length = ns.length) (ly : ys.length = ns.length) : eqB ns (valF ns xs) (valF ns ys) = decide (xs = ys) := by
  unfold eqB
  rw [Bool.eq_iff_iff, List.all_eq_true, decide_eq_true_eq]
  constructor
  · intro h
    refine List.ext_getElem? fun i => ?_
    by_cases hi : i < ns.length
    · obtain ⟨z, hz⟩ := get_some (xs := ns) rfl hi
      obtain ⟨x, ex⟩ := get_some lx hi
      obtain ⟨y, ey⟩ := get_some ly hi
      have := of_decide_eq_true (h z (List.mem_of_getElem? hz))
      rw [valF_get nd lx hz ex, valF_get nd ly hz ey] at this
      rw [ex, ey, this]
    · rw [List.getElem?_eq_none (by omega), List.getElem?_eq_none (by omega)]
  · intro h z _
    rw [h]
    exact decide_eq_true rfl
theorem eqB_of {ns : List Str} {F G : Str → Int} (h : ∀ z ∈ ns, F z = G z) : eqB ns F G = true := List.all_eq_true.mpr fun z hz => decide_eq_true (h z hz)
theorem viol_yes {xs ys : List Int} {i : Nat} {x y : Int} (hx : xs[i]? = some x) (hy : ys[i]? = some y) (c : y < x) : viol xs ys (i + 1) = viol xs ys i ++ [((i : Nat) : Int)] := by
  unfold viol
  rw [List.range_succ, List.filter_append, List.map_append]
  show _ ++ ([i].filter _).map _ = _
  rw [List.filter_cons, if_pos (by rw [List.getD_eq_getElem?_getD, List.getD_eq_getElem?_getD, hx, hy]; exact decide_eq_true c)]
  rfl
theorem viol_no {xs ys : List Int} {i : Nat} {x y : Int} (hx : xs[i]? = some x) (hy : ys[i]? = some y) (c : ¬ y < x) : viol xs ys (i + 1) = viol xs ys i := by
  unfold viol
  rw [List.range_succ, List.filter_append, List.map_append]
  show _ ++ ([i].filter _).map _ = _
  rw [List.filter_cons, if_neg (by rw [List.getD_eq_getElem?_getD, List.getD_eq_getElem?_getD, hx, hy]; simpa using c), List.filter_nil, List.map_nil, List.append_nil]
theorem viol_end {xs ys : List Int} (l : xs.length = ys.length) : (viol xs ys xs.length).isEmpty = atMost xs ys := by
  unfold viol atMost
  rw [Bool.eq_iff_iff, List.isEmpty_iff, List.map_eq_nil_iff, List.filter_eq_nil_iff, List.all_eq_true]
  constructor
  · intro h p hp
    obtain ⟨i, hi, e⟩ := mem_idx hp
    obtain ⟨e1, e2⟩ := List.getElem?_zip_eq_some.mp e
    rw [List.length_zip] at hi
    have := h i (List.mem_range.mpr (by omega))
    rw [List.getD_eq_getElem?_getD, List.getD_eq_getElem?_getD, e1, e2] at this
    have h2 : ¬ (p.2 < p.1) := by simpa using this
    exact decide_eq_true (by omega)
  · intro h i hi
    have hi := List.mem_range.mp hi
    obtain ⟨x, ex⟩ := get_some (xs := xs) rfl hi
    obtain ⟨y, ey⟩ := get_some (xs := ys) rfl (show i < ys.length by omega)
    have := of_decide_eq_true (h (x, y) (List.mem_of_getElem? (i := i) (List.getElem?_zip_eq_some.mpr ⟨ex, ey⟩)))
    have this : x ≤ y := this
    rw [List.getD_eq_getElem?_getD, List.getD_eq_getElem?_getD, ex, ey]
    show ¬ decide (y < x) = true
    rw [decide_eq_true_eq]
    omega
theorem viol_len (xs ys : List Int) (i : Nat) : (viol xs ys i).length ≤ i := by
  unfold viol
  rw [List.length_map]
  have := List.length_filter_le (fun k => decide (ys.getD k 0 < xs.getD k 0)) (List.range i)
  rw [List.length_range] at this
  exact this
theorem ints_eqv : ∀ a b : List Int, PyData.eqvAll (a.map PyData.int) (b.map PyData.int) = decide (a = b)
  | [], [] => by simp [PyData.eqvAll]
  | [], _ :: _ => by simp [PyData.eqvAll]
  | _ :: _, [] => by simp [PyData.eqvAll]
  | x :: a, y :: b => by
    rw [List.map_cons, List.map_cons, PyData.eqvAll, ints_eqv a b]
    by_cases c : x = y
    · by_cases d : a = b
      · simp [PyData.eqv, c, d]
      · simp [d]
    · simp [PyData.eqv, c]
theorem intl_eqv (a b : List Int) : PyData.eqv (.list (a.map PyData.int)) (.list (b.map PyData.int)) = decide (a = b) := by
  rw [PyData.eqv, ints_eqv]
/-- rows on the heap -/
structure RowsAt (H : Hp) (rs : List Addr) (xss : List (List Int)) : Prop where
  len : rs.length = xss.length
  at_ : ∀ (i : Nat) (r : Addr) (xs : List Int), rs[i]? = some r → xss[i]? = some xs → H r = some (.lst (xs.map V.int))
theorem RowsAt.mono {H H' : Hp} {rs : List Addr} {xss : List (List Int)} (h : RowsAt H rs xss) (s : ∀ k (xs : List Int), H k = some (.lst (xs.map V.int)) → H' k = some (.lst (xs.map V.int))) : RowsAt H' rs xss := ⟨h.len, fun i r xs e1 e2 => s _ _ (h.at_ i r xs e1 e2)⟩
theorem RowsAt.same {H H' : Hp} {rs : List Addr} {xss : List (List Int)} (h : RowsAt H rs xss) (s : Same H H') : RowsAt H' rs xss := h.mono fun _ _ e => s _ _ e
theorem RowsAt.snoc {H : Hp} {rs : List Addr} {xss : List (List Int)} (h : RowsAt H rs xss) {r : Addr} {xs : List Int} (e : H r = some (.lst (xs.map V.int))) : RowsAt H (rs ++ [r]) (xss ++ [xs]) := by
  refine ⟨by rw [List.length_append, List.length_append, h.len]; rfl, fun i k' p' e1 e2 => ?_⟩
  rcases Nat.lt_trichotomy i rs.length with c | c | c
  · rw [List.getElem?_append_left c] at e1
    rw [List.getElem?_append_left (by rw [← h.len]; exact c)] at e2
    exact h.at_ i k' p' e1 e2
  · subst c
    rw [List.getElem?_append_right (Nat.le_refl _), Nat.sub_self] at e1
    rw [h.len, List.getElem?_append_right (Nat.le_refl _), Nat.sub_self] at e2
    cases e1
    cases e2
    exact e
  · rw [List.getElem?_eq_none (by rw [List.length_append]; simp; omega)] at e1
    cases e1
theorem RowsAt.get {H : Hp} {rs : List Addr} {xss : List (List Int)} (h : RowsAt H rs xss) {i : Nat} {v : V} (e : (rs.map V.ref)[i]? = some v) : ∃ r xs, v = .ref r ∧ rs[i]? = some r ∧ xss[i]? = some xs ∧ H r = some (.lst (xs.map V.int)) := by
  rw [List.getElem?_map] at e
  obtain ⟨r, hr, rfl⟩ := Option.map_eq_some_iff.mp e
  have hi : i < rs.length := (List.getElem?_eq_some_iff.mp hr).1
  obtain ⟨xs, hx⟩ := get_some (xs := xss) rfl (show i < xss.length by rw [← h.len]; exact hi)
  exact ⟨r, xs, rfl, hr, hx, h.at_ i r xs hr hx⟩
end K10
end
section
/-! Own: repr of lists of bools. -/
namespace K10
open PySem PySem.Spec PyProof.Rows L2
theorem bools_show : ∀ bs : List Bool, PyData.showableAll (bs.map PyData.bool) = true ∧ PyData.hasDictAll (bs.map PyData.bool) = false ∧ PyData.leavesShortAll 13 (bs.map PyData.bool) = true ∧ PyData.bulkAll (bs.map PyData.bool) = bs.length
  | [] => ⟨rfl, rfl, rfl, rfl⟩
  | b :: r => by
    obtain ⟨i1, i2, i3, i4⟩ := bools_show r
    refine ⟨?_, ?_, ?_, ?_⟩
    · show (true && PyData.showableAll (r.map PyData.bool)) = true
      rw [i1]
      rfl
    · show (false || PyData.hasDictAll (r.map PyData.bool)) = false
      rw [i2]
      rfl
    · show (true && PyData.leavesShortAll 13 (r.map PyData.bool)) = true
      rw [i3]
      rfl
    · show 0 + 1 + PyData.bulkAll (r.map PyData.bool) = r.length + 1
      rw [i4]
      omega
theorem dp_bools {K : PySem.W.Frag} {H : Hp} : ∀ bs : List Bool, DpAll K H (bs.map V.bl) (bs.map PyData.bool)
  | [] => .nil
  | b :: r => .cons (.bl b) (dp_bools r)
theorem rep_bools {K : PySem.W.Frag} {H : Hp} {a : Addr} {bs : List Bool} (l : bs.length ≤ 10) (e : H a = some (.lst (bs.map V.bl))) : OwE.RepV K H (.ref a) (PyData.list (bs.map PyData.bool)).shown := by
  obtain ⟨a1, a2, b1, b2⟩ := bools_show bs
  have dp : (PyData.list (bs.map PyData.bool)).depth ≤ 64 := by
    have := OwD.deps (f := PyData.bool) (k := 0) bs fun q _ => by simp [PyData.depth]
    rw [PyData.depth]
    omega
  refine .dat (.lst (SqL.of e) (dp_bools bs)) a1 a2 dp (PyData.shown_fits_bulk (B := 13) (by decide) (by decide) b1 ?_)
  show PyData.bulkAll (bs.map PyData.bool) ≤ 2 ^ 20
  rw [b2]
  omega
end K10
end
section
/-! == of two dicts of numbers. Own. -/
namespace OwR
open PySem PySem.Spec PyProof.Rows L2
def intTab {κ : Type} (ks : List (κ × V)) : Prop := ∀ p ∈ ks, ∃ i : Int, p.2 = .int i
theorem hits_tab {κ : Type} [DecidableEq κ] {A : Around} {s : Shared} {ls : List (κ × V)} {vb : List (κ × Value)} (rb : KV ls vb) (hl : intTab ls) : ∀ {ks : List (κ × V)} {va : List (κ × Value)}, KV ks va → intTab ks → PySem.W.KeqHits A s vb va (ks.all fun p => decide (valV ls p.1 = some p.2))
  | [], _, .nil, _ => .nil
  | p :: ps, (k, v) :: qs, .cons ⟨e1, r1⟩ t, hk => by
    have ih := hits_tab (A := A) (s := s) rb hl t fun q hq => hk q (List.mem_cons_of_mem _ hq)
    obtain ⟨i, ei⟩ := hk p List.mem_cons_self
    have rr := KV.val rb p.1
    have e1 : p.1 = k := e1
    rw [List.all_cons]
    cases ev : valV ls p.1 with
    | none =>
      rw [ev] at rr
      rw [decide_eq_false (by simp), Bool.false_and]
      refine .miss ?_
      rw [← e1]
      cases h : PySem.valueAt vb p.1 with
      | none => rfl
      | some y => rw [h] at rr; exact rr.elim
    | some y =>
      rw [ev] at rr
      obtain ⟨u, hu, ru⟩ := RelO.some_of rr
      have hy : ∃ j : Int, y = .int j := by
        unfold valV at ev
        obtain ⟨q, hq, rfl⟩ := Option.map_eq_some_iff.mp ev
        exact hl q (List.mem_of_find?_eq_some hq)
      obtain ⟨j, rfl⟩ := hy
      rw [ei] at r1 ⊢
      obtain ⟨t1, rfl⟩ := r1
      obtain ⟨t2, rfl⟩ := ru
      have e : decide (some (V.int j) = some (V.int i)) = (i == j) := by
        by_cases c : i = j
        · subst c
          simp
        · rw [decide_eq_false (fun h => c (V.int.inj (Option.some.inj h)).symm), beq_eq_false_iff_ne.mpr c]
      rw [e]
      rw [e1] at hu
      exact .hit hu (SeqAt.EqAt.int_int i t1 j t2) ih
def rEqTab : R2 := fun x y H Q => ∃ (a b : Addr) (ks ls : List (Key × V)), x = .ref a ∧ y = .ref b ∧ H a = some (.dK ks) ∧ H b = some (.dK ls) ∧ intTab ks ∧ intTab ls ∧ Q (.bl (ks.length == ls.length && ks.all fun p => decide (valV ls p.1 = some p.2))) H
theorem op_eqTab {X : Cx} (hu : X.A.units < cLine) : OpR X (compareOp .Eq) rEqTab := by
  intro pins s σ H x y v u Q I rx ry h
  obtain ⟨a, b, ks, ls, rfl, rfl, ea, eb, hk, hl, q⟩ := h
  obtain rfl : v = Value.ref a := rx
  obtain rfl : u = Value.ref b := ry
  obtain ⟨_, ya, va, ra, da⟩ := I.hok a _ ea
  obtain ⟨_, yb, vb, rb, db⟩ := I.hok b _ eb
  refine PySem.W.keq_eq ya yb da db hu (fun _ => hits_tab rb hl ra hk) (fin_bl I q ?_)
  rw [KV.length ra, KV.length rb]
end OwR
end
section
namespace K10
open PySem PySem.Spec PyProof.Rows L2
def top (i : Nat) : Stmt := PySem.Challenge.pw_nextkind_k05_whole_houses_in_order.main.body.getD i (.Pass ⟨0, 0, 0, 0⟩)
def mth (c j : Nat) : Stmt := match top c with
  | .ClassDef _ _ _ body _ _ _ _ _ _ _ => body.getD j (.Pass ⟨0, 0, 0, 0⟩)
  | _ => .Pass ⟨0, 0, 0, 0⟩
abbrev sPen : Stmt := top 24
abbrev sDraw : Stmt := top 25
abbrev sPick : Stmt := top 26
section
variable {P : Program} {w : World} {K : PySem.W.Frag} {mg : Str → Option Value} {base : Heap}
theorem scD : FnScope ["_law_pen_here", "_law_many", "_law_digit", "_law_begun", "_law_cell", "_law_great", "_law_mixed"] ["_law_pen_here", "_law_many"] (defScope sDraw) := ⟨rfl, rfl, rfl, by decide +kernel, rfl, by decide +kernel, by decide +kernel⟩
theorem ok_draw {f : Addr} {fd : FuncData} (F : Fun K "_law_draw" "_law_draw" sDraw f fd) (T : Nm mg) : FnOk P w K mg base CX0 1 f fd ["_law_pen_here", "_law_many"] spDraw := by
  refine F.ok scD (fun vs H Q E h => ?_) (fun cdv A outer s H vs Q E hr h => ?_)
  · obtain ⟨p, c, ns, n, z, m, rfl, _⟩ := h
    rfl
  · obtain ⟨p, c, ns, n, z, m, rfl, D, hn, hm, hb, k⟩ := h
    have hu := hu_of hr
    obtain ⟨h1, h2, hl, h0⟩ := id D
    refine ⟨_, (pss_cons (ps_if (pt_cmpR op_gt (pe_ix ix_list (pv 0) pe_int (fun _ _ => rfl)) pe_int (nomark _)) (pss_cons (ps_set (i := 2) scD.nd rfl (Or.inl rfl) (pe_op op_mod (pe_callTy call_int1 (by rfl) T.n_int (by decide +kernel) (pa_cons (pe_ix ix_list (pv 0) pe_int (fun _ _ => rfl)) pa_nil)) (pv 1)))
    (pss_cons (ps_asg (pe_op op_fdivW (pe_callTy call_int1 (by rfl) T.n_int (by decide +kernel) (pa_cons (pe_ix ix_list (pv 0) pe_int (fun _ _ => rfl)) pa_nil)) (pv 1)) (pg_sub (pv 0) pe_int set_list))
    (pss_one (ps_ret (pv 2))))) pss_nil)
    (pss_cons (ps_set (i := 3) scD.nd rfl (Or.inl rfl) (pe_ix ix_list (pv 0) pe_int (fun _ _ => rfl)))
    (pss_cons (ps_asg (pe_op op_add (pv 3) pe_int) (pg_sub (pv 0) pe_int set_list))
    (pss_cons (ps_set (i := 4) scD.nd rfl (Or.inl rfl) (pe_op op_add (pe_op op_mul pe_int (pv 3)) pe_int))
    (C8.pss_cut (ps_if (pt_cmpR (op_neD hr.units) (pe_ix ix_list (pv 0) pe_int (fun _ _ => rfl)) (pe_lst pa_nil) (nomark _)) (pss_one (ps_set (i := 4) scD.nd rfl (Or.inl rfl) (pe_ix ix_list (pe_ix ix_list (pv 0) pe_int (fun _ _ => rfl)) (pe_op op_mod (pe_callTy call_int1 (by rfl) T.n_int (by decide +kernel) (pa_cons (pv 3) pa_nil)) (pe_callB call_len_seq (by rfl) T.n_len boot_len (pa_cons (pe_ix ix_list (pv 0) pe_int (fun _ _ => rfl)) pa_nil))) (fun _ _ => rfl)))) pss_nil)
    (C8.pss_cut (ps_if (PW.pt (pw_and (pt_cmpR op_lt (pv 3) (pe_callB call_len_seq (by rfl) T.n_len boot_len (pa_cons (pe_ix ix_list (pv 0) pe_int (fun _ _ => rfl)) pa_nil)) (nomark _)) (pw_and1 (pt_cmpR op_ge (pe_callB call_abs (by rfl) T.n_abs (by decide +kernel) (pa_cons (pv 4) pa_nil)) (pe_op op_pow pe_int pe_int) (nomark _))))) (pss_cons (ps_set (i := 5) scD.nd rfl (Or.inl rfl) (pe_op op_add (pe_op op_mul pe_int (pe_op op_sub (pe_callB call_abs (by rfl) T.n_abs (by decide +kernel) (pa_cons (pv 4) pa_nil)) (pe_op op_pow pe_int pe_int))) (pe_callTy call_int1 (by rfl) T.n_int (by decide +kernel) (pa_cons (pe_cmpR op_lt (pv 4) pe_int (nomark _)) pa_nil))))
    (pss_cons (ps_asg (pe_op op_fdivW (pe_callTy call_int1 (by rfl) T.n_int (by decide +kernel) (pa_cons (pv 5) pa_nil)) (pv 1)) (pg_sub (pv 0) pe_int set_list))
    (pss_one (ps_ret (pe_op op_mod (pe_callTy call_int1 (by rfl) T.n_int (by decide +kernel) (pa_cons (pv 5) pa_nil)) (pv 1)))))) pss_nil)
    (pss_cons (ps_set (i := 6) scD.nd rfl (Or.inl rfl) (pe_op op_mod (pe_callTy call_int1 (by rfl) T.n_int (by decide +kernel) (pa_cons (pe_op op_pow (pe_op op_add (pe_op op_add (pe_op op_mod (pe_callTy call_int1 (by rfl) T.n_int (by decide +kernel) (pa_cons (pv 4) pa_nil)) pe_int) (pe_op op_mul pe_int (pv 3))) pe_int) pe_int) pa_nil)) pe_int))
    (pss_cons (ps_set (i := 6) scD.nd rfl (Or.inl rfl) (pe_op op_mod (pe_callTy call_int1 (by rfl) T.n_int (by decide +kernel) (pa_cons (pe_op op_pow (pe_op op_add (pe_op op_add (pe_op op_mul (pv 6) (pe_op op_add (pe_op op_mul pe_int (pv 3)) pe_int)) (pe_op op_mul (pe_op op_mul pe_int (pv 3)) (pv 3))) pe_int) pe_int) pa_nil)) pe_int))
    (pss_one (ps_ret (pe_op op_mod (pe_callTy call_int1 (by rfl) T.n_int (by decide +kernel) (pa_cons (pe_op op_fdivW (pv 6) pe_int) pa_nil)) (pv 1))))))))))))
, ?_⟩
    refine ⟨_, rfl, p, _, _, _, rfl, rfl, SqL.of h1, rfl, _, _, rfl, rfl, _, rfl, ?_⟩
    refine ite2 (fun c1 => ?_) (fun c1 => ?_)
    · refine ⟨_, rfl, p, _, _, _, rfl, rfl, SqL.of h1, rfl, .inl ⟨_, rfl, _, rfl, _, _, rfl, rfl, hm, ?_⟩⟩
      refine ⟨_, rfl, p, _, _, _, rfl, rfl, SqL.of h1, rfl, .inl ⟨_, rfl, _, rfl, _, _, rfl, rfl, wide_div hm hb (by decide) (by decide), ?_⟩⟩
      refine ⟨_, rfl, p, _, _, 2, rfl, rfl, h1, rfl, _, rfl, ?_⟩
      refine k _ n (z / m) _ (Int.emod_nonneg _ (by omega)) (Int.emod_lt_of_pos _ hm) (Nat.le_succ _) ⟨upd_same, ?_, hl, Int.ediv_nonneg h0 (by omega)⟩ But.at
      rw [upd_ne D.ne]
      exact h2
    · refine ⟨_, rfl, p, _, _, _, rfl, rfl, SqL.of h1, rfl, ?_⟩
      refine ⟨_, rfl, _, _, rfl, rfl, _, rfl, p, _, _, 1, rfl, rfl, h1, rfl, ?_⟩
      -- the cell
      refine ⟨_, rfl, _, _, rfl, rfl, .inl ⟨by decide, by decide⟩, _, _, rfl, rfl, ?_⟩
      have D1 : PenAt (upd H p (.lst [.ref c, .int ((n : Int) + 1), .int z])) p c ns (n + 1) z := ⟨upd_same, by rw [upd_ne D.ne]; exact h2, hl, h0⟩
      have B1 : But p H (upd H p (.lst [.ref c, .int ((n : Int) + 1), .int z])) := But.at
      -- a cell of the script, if there is one
      refine ⟨fun σ' H' => ∃ cell : Int, σ' = [some (.ref p), some (.int m), none, some (.int n), some (.int cell), none, none] ∧ PenAt H' p c ns (n + 1) z ∧ But p H H', ?_, ?_⟩
      · refine ⟨_, rfl, p, _, _, _, rfl, rfl, SqL.of D1.pen, rfl, by show 0 ≤ sizeLine; decide, fun l hl0 => ?_⟩
        have D2 : PenAt (upd (upd H p (.lst [.ref c, .int ((n : Int) + 1), .int z])) l (.lst [])) p c ns (n + 1) z :=
          ⟨by rw [upd_ne (ne_of_none D1.pen hl0)]; exact D1.pen, by rw [upd_ne (ne_of_none D1.cells hl0)]; exact D1.cells, hl, h0⟩
        refine ⟨.list (ns.map PyData.int), .list [], .lst (SqL.of D2.cells) (OwD.dp_ints ns), .lst (SqL.of upd_same) .nil, OwD.shaped_ints ns, OwD.shaped_nil, _, rfl, ?_⟩
        rw [OwD.eqv_nil]
        have B2 := B1.trans (But.new (p := p) (o := .lst []) hl0)
        cases ns with
        | nil =>
          refine iteF ?_
          exact ⟨_, rfl, D2, B2⟩
        | cons a0 rest =>
          refine iteT ?_
          have hpos : 0 < ((a0 :: rest).map V.int).length := by rw [List.length_map]; exact Nat.succ_pos _
          refine ⟨_, rfl, p, _, _, _, rfl, rfl, SqL.of D2.pen, rfl, _, rfl, .inl ⟨_, rfl, _, rfl, p, _, _, _, rfl, rfl, SqL.of D2.pen, rfl, c, _, rfl, .inl (SqL.of D2.cells), _, _, rfl, rfl, by omega, ?_⟩⟩
          obtain ⟨x, hx⟩ := at_mod (a0 :: rest) n (Nat.succ_pos _)
          refine ⟨c, _, _, _, rfl, rfl, SqL.of D2.cells, hx, ?_⟩
          exact ⟨x, rfl, D2, B2⟩
      · rintro σ' H' ⟨cell, rfl, D3, B3⟩
        have C3 := D3.cells
        -- a great cell
        have ret : ∀ (d : Int) (H4 : Hp), 0 ≤ d → d < m → PenAt H4 p c ns (n + 1) z → But p H H4 → Q (.int d) H4 := fun d H4 a1 a2 D4 B4 => k d (n + 1) z H4 a1 a2 (Nat.le_refl _) D4 B4
        refine ⟨fun σ' H' => σ' = [some (.ref p), some (.int m), none, some (.int n), some (.int cell), none, none] ∧ PenAt H' p c ns (n + 1) z ∧ But p H H', ?_, ?_⟩
        · refine ⟨_, rfl, _, rfl, p, _, _, _, rfl, rfl, SqL.of D3.pen, rfl, c, _, rfl, .inl (SqL.of C3), _, _, rfl, rfl, _, rfl, ?_⟩
          refine ite2 (fun c2 => ?_) (fun c2 => ?_)
          · refine ⟨_, rfl, _, rfl, _, _, rfl, rfl, ⟨by decide, by decide, by decide⟩, _, _, rfl, rfl, _, rfl, ?_⟩
            refine ite2 (fun c3 => ?_) (fun c3 => ?_)
            · refine ⟨_, rfl, _, rfl, _, _, rfl, rfl, ⟨by decide, by decide, by decide⟩, _, _, rfl, rfl, _, _, rfl, rfl, .inl ⟨by decide, by decide⟩, ?_⟩
              refine ⟨_, rfl, _, _, rfl, rfl, .inr ⟨_, rfl, _, _, rfl, rfl, ?_⟩⟩
              have gpos : 0 ≤ 2 * ((if cell < 0 then -cell else cell) - (10 : Int) ^ (18 : Int).toNat) + (if decide (cell < 0) = true then 1 else 0) := by
                have h3 : (10 : Int) ^ (18 : Int).toNat ≤ (if cell < 0 then -cell else cell) := of_decide_eq_true c3
                split <;> omega
              refine ⟨_, rfl, .inl ⟨_, rfl, _, rfl, _, _, rfl, rfl, wide_div hm hb (by decide) (by decide), _, rfl, p, _, _, 2, rfl, rfl, D3.pen, rfl, ?_⟩⟩
              refine ⟨_, rfl, .inl ⟨_, rfl, _, rfl, _, _, rfl, rfl, hm, ?_⟩⟩
              refine k _ (n + 1) _ _ (Int.emod_nonneg _ (by omega)) (Int.emod_lt_of_pos _ hm) (Nat.le_refl _) ⟨upd_same, ?_, hl, Int.ediv_nonneg gpos (by omega)⟩ (B3.trans But.at)
              rw [upd_ne D.ne]
              exact C3
            · exact ⟨rfl, D3, B3⟩
          · exact ⟨rfl, D3, B3⟩
        · rintro σ' H4 ⟨rfl, D4, B4⟩
          have a1 := Int.emod_nonneg cell (show (2147483563 : Int) ≠ 0 by decide)
          have a2 := Int.emod_lt_of_pos cell (show (0 : Int) < 2147483563 by decide)
          -- one mixed from the cell
          refine ⟨_, rfl, .inl ⟨_, rfl, _, _, rfl, rfl, (by show (0 : Int) < _; decide), _, rfl, _, _, rfl, rfl, .inl ⟨by decide, by decide⟩, _, _, rfl, rfl, _, _, rfl, rfl, _, _, rfl, rfl, ⟨by decide, by decide, ?_⟩, .inl ⟨_, rfl, _, _, rfl, rfl, (by show (0 : Int) < _; decide), ?_⟩⟩⟩
          · show Int.natAbs _ < 2 ^ 64
            omega
          have b1 := fun x : Int => Int.emod_nonneg x (show (2147483629 : Int) ≠ 0 by decide)
          have b2 := fun x : Int => Int.emod_lt_of_pos x (show (0 : Int) < 2147483629 by decide)
          refine ⟨_, rfl, _, rfl, _, _, rfl, rfl, .inl ⟨by decide, by decide⟩, _, _, rfl, rfl, _, _, rfl, rfl, .inl ⟨Int.lt_of_lt_of_le (by decide) (b1 _), Int.lt_trans (b2 _) (by decide)⟩, ?_⟩
          refine ⟨_, rfl, _, _, rfl, rfl, .inl ⟨by decide, by decide⟩, _, rfl, _, _, rfl, rfl, .inl ⟨by omega, by omega⟩, _, _, rfl, rfl, _, _, rfl, rfl, ?_⟩
          refine ⟨_, _, rfl, rfl, ⟨by decide, by decide, mix_lt (b1 _) (Int.lt_trans (b2 _) (by decide)) (by omega) (by omega) (by decide) (by decide) (by decide) (by decide) (by decide) (by decide)⟩, .inl ⟨_, rfl, _, _, rfl, rfl, (by show (0 : Int) < _; decide), ?_⟩⟩
          refine ⟨_, rfl, _, _, rfl, rfl, wide_div (b := 6) (by decide) (by decide) (by decide) (by decide), .inl ⟨_, rfl, _, rfl, _, _, rfl, rfl, hm, ?_⟩⟩
          exact ret _ _ (Int.emod_nonneg _ (by omega)) (Int.emod_lt_of_pos _ hm) D4 B4
theorem scPe : FnScope ["_law_script"] ["_law_script"] (defScope sPen) := ⟨rfl, rfl, rfl, by decide +kernel, rfl, by decide +kernel, by decide +kernel⟩
theorem ok_pen {f : Addr} {fd : FuncData} (F : Fun K "_law_pen" "_law_pen" sPen f fd) (T : Nm mg) : FnOk P w K mg base CX0 1 f fd ["_law_script"] (spPen K) := by
  refine F.ok scPe (fun vs H Q E h => ?_) (fun cdv A outer s H vs Q E hr h => ?_)
  · obtain ⟨a, ns, rfl, _⟩ := h
    rfl
  · obtain ⟨a, ns, rfl, ha, hl, q⟩ := h
    refine ⟨_, (pss_one (ps_ret (pe_lst (pa_cons (pe_callTy call_list_of (by rfl) T.n_list (by decide +kernel) (pa_cons (pe_slice sl_list (pv 0) po_none (po_some pe_int)) pa_nil)) (pa_cons pe_int (pa_cons pe_int pa_nil)))))), ?_⟩
    have sz := sizeLine_eq
    refine ⟨_, rfl, 63, rfl, a, _, rfl, ha, ?_⟩
    rw [cut_63 hl]
    intro b hb
    refine ⟨b, _, rfl, .inl (SqL.of upd_same), fun c hc => ⟨by show (3 : Nat) ≤ sizeLine; omega, fun p hp => ?_⟩⟩
    have s3 := ((Same.of_new hb).trans (Same.of_new hc)).trans (Same.of_new (o := .lst [.ref c, .int 0, .int 0]) hp)
    exact q p c _ (((Same.of_new hb).trans (Same.of_new hc)).free hp) s3 ⟨upd_same, upd_keep2 upd_same hp, hl, by decide⟩
theorem scPi : FnScope ["_law_pen_here", "_law_some"] ["_law_pen_here", "_law_some"] (defScope sPick) := ⟨rfl, rfl, rfl, by decide +kernel, rfl, by decide +kernel, by decide +kernel⟩
theorem ok_pick {f fD : Addr} {fd fdD : FuncData} (F : Fun K "_law_pick" "_law_pick" sPick f fd) (T : Nm mg) (FD : Fun K "_law_draw" "_law_draw" sDraw fD fdD) (gD : mg "_law_draw" = some (.ref fD)) : FnOk P w K mg base CX0 2 f fd ["_law_pen_here", "_law_some"] (spPick K) := by
  have GD : FnOk P w K mg base CX0 1 fD fdD ["_law_pen_here", "_law_many"] spDraw := ok_draw FD T
  have bD : Binds K fdD ["_law_pen_here", "_law_many"] [] := FD.binds fun _ _ _ _ _ _ us hl => match us, hl with | [_, _], _ => rfl
  refine F.ok scPi (fun vs H Q E h => ?_) (fun cdv A outer s H vs Q E hr h => ?_)
  · obtain ⟨p, c, l, ns, n, z, xs, rfl, _⟩ := h
    rfl
  · obtain ⟨p, c, l, ns, n, z, xs, rfl, hp, hn, nl, hl, h0, h1, q⟩ := h
    refine ⟨_, (pss_one (ps_ret (pe_ix ix_list (pv 1) (pe_call GD hr (by rfl) gD FD.kp bD .nil pass0 (pa_cons (pv 0) (pa_cons (pe_callB call_len_seq (by rfl) T.n_len boot_len (pa_cons (pv 1) pa_nil)) pa_nil))) (fun _ _ => rfl)))), ?_⟩
    refine ⟨_, rfl, _, rfl, _, rfl, l, xs, rfl, .inl hl, p, c, ns, n, z, _, rfl, hp, hn, by omega, ?_, fun d n' z' H' d0 d1 hn' hp' s' => ?_⟩
    · have : (xs.length : Int).natAbs < 1000 := by omega
      exact Nat.lt_of_lt_of_le this (by decide +kernel)
    · obtain ⟨x, hx, ex⟩ := nth d0 d1
      exact ⟨l, xs, d, x, rfl, rfl, SqL.but hl nl s', ex, q x n' z' H' hx hn' hp' s'⟩
theorem ok_pickS {f fD : Addr} {fd fdD : FuncData} (F : Fun K "_law_pick" "_law_pick" sPick f fd) (T : Nm mg) (FD : Fun K "_law_draw" "_law_draw" sDraw fD fdD) (gD : mg "_law_draw" = some (.ref fD)) : FnOk P w K mg base CX0 2 f fd ["_law_pen_here", "_law_some"] spPickS := by
  have GD : FnOk P w K mg base CX0 1 fD fdD ["_law_pen_here", "_law_many"] spDraw := ok_draw FD T
  have bD : Binds K fdD ["_law_pen_here", "_law_many"] [] := FD.binds fun _ _ _ _ _ _ us hl => match us, hl with | [_, _], _ => rfl
  refine F.ok scPi (fun vs H Q E h => ?_) (fun cdv A outer s H vs Q E hr h => ?_)
  · obtain ⟨p, c, ns, n, z, t, rfl, _⟩ := h
    rfl
  · obtain ⟨p, c, ns, n, z, t, rfl, hp, hn, h0, h1, q⟩ := h
    refine ⟨_, (pss_one (ps_ret (pe_ix ix_str (pv 1) (pe_call GD hr (by rfl) gD FD.kp bD .nil pass0 (pa_cons (pv 0) (pa_cons (pe_callB call_len (by rfl) T.n_len boot_len (pa_cons (pv 1) pa_nil)) pa_nil))) (fun _ _ => rfl)))), ?_⟩
    have sz := sizeLine_eq
    have lz : t.length ≤ sizeLine := by omega
    refine ⟨_, rfl, _, rfl, _, rfl, .str t, t.length, rfl, ⟨lz, rfl⟩, p, c, ns, n, z, _, rfl, hp, hn, by omega, small_int (by omega) (by omega), fun d n' z' H' d0 d1 hn' hp' s' => ?_⟩
    have d2 : d < (t.cps.toList.length : Int) := d1
    obtain ⟨x, hx, ex⟩ := nth d0 d2
    exact ⟨t, d, x, rfl, rfl, lz, ex, q x n' z' H' hx hn' hp' s'⟩
end
end K10
end
section
namespace K10
open PySem PySem.Spec PyProof.Rows L2
abbrev sName : Stmt := top 9
abbrev sWithin : Stmt := top 10
abbrev sAsc : Stmt := top 12
structure Nm2 (mg : Str → Option Value) : Prop where
  n_int : mg "int" = none
  n_bool : mg "bool" = none
  n_str : mg "str" = none
  n_len : mg "len" = none
  n_all : mg "all" = none
  n_isinstance : mg "isinstance" = none
structure Nm3 (mg : Str → Option Value) : Prop where
  n_sorted : mg "sorted" = none
  n_set : mg "set" = none
  n_list : mg "list" = none
structure Nm4 (mg : Str → Option Value) : Prop where
  n_tuple : mg "tuple" = none
/-- no integer, or True or False -/
def NoInt (K : PySem.W.Frag) (H : Hp) (v : V) : Prop := (∃ b, v = .bl b) ∨ ∃ t, TyX K H v t ∧ PySem.W.kitOne K t (.type "int") = some false
/-- no integer from a to b -/
def NotIn (K : PySem.W.Frag) (H : Hp) (a b : Int) (v : V) : Prop := (∃ i, v = .int i ∧ ¬ (a ≤ i ∧ i ≤ b)) ∨ NoInt K H v
def spWithin (K : PySem.W.Frag) : Sp := fun vs H Q _ => ∃ (v : V) (a b : Int), vs = [v, .int a, .int b] ∧ ((∃ i, v = .int i ∧ Q (.bl (decide (a ≤ i) && decide (i ≤ b))) H) ∨ (NoInt K H v ∧ Q (.bl false) H))
def spAsc (K : PySem.W.Frag) : Sp := fun vs H Q _ => ∃ (a : Addr) (xs : List Str), vs = [.ref a] ∧ TextsAt K H a xs ∧ xs.length < 64 ∧
  ∀ (ys : List Str) (p : Addr) (H' : Hp), ys.Perm (TSet.ded xs) → sortedS ys = true → H p = none → Same H H' → H' p = some (.lst (ys.map V.str)) → Q (.ref p) H'
section
variable {P : Program} {w : World} {K : PySem.W.Frag} {mg : Str → Option Value} {base : Heap}
abbrev nName : List Str := ["value", "sign"]
theorem scN : FnScope nName ["value"] (defScope sName) := ⟨rfl, rfl, rfl, by decide +kernel, rfl, by decide +kernel, by decide +kernel⟩
theorem ok_name {f : Addr} {fd : FuncData} (F : Fun K "is_name" "is_name" sName f fd) (T : Nm2 mg) : FnOk P w K mg base CX0 1 f fd ["value"] (spName K) := by
  refine F.ok scN (fun vs H Q E h => ?_) (fun cdv A outer s H vs Q E hr h => ?_)
  · obtain ⟨v, rfl, _⟩ := h
    rfl
  · obtain ⟨v, rfl, h⟩ := h
    refine ⟨_, (pss_cons (ps_if (PW.pt (pw_or (pt_not (pt_val (pe_callB call_isi (by rfl) T.n_isinstance (by decide +kernel) (pa_cons (pv 0) (pa_cons (pe_bltn (v := .ty "str") (by rfl) T.n_str (by decide +kernel) rfl) pa_nil))))) (pw_or1 (pt_not (pt_chain op_le op_le pe_int (pe_callB call_len (by rfl) T.n_len boot_len (pa_cons (pv 0) pa_nil)) pe_int))))) (pss_one (ps_ret pe_bl)) pss_nil)
    (pss_one (ps_ret (pe_callB (cr_all rfl) (by rfl) T.n_all (by decide +kernel) (pa_cons (pe_lc (own := [("sign", 1)]) (by rfl) scN.nd (pi_str (pv 0)) (blkOk_by (own := [("sign", 1)]) (N := nName) (sc := defScope sName) (by decide +kernel)) (fun _ _ _ _ _ => (pg_name (i := 1) scN.nd rfl (Or.inl rfl))) (fun _ _ _ _ _ => pts_nil) (fun _ _ _ _ _ => (pe_chain op_le_str op_le_str pe_str (pv 1) pe_str))) pa_nil))))), ?_⟩
    rcases h with ⟨z, rfl, hz, k⟩ | ⟨⟨t, ty, kt⟩, k⟩
    · have hz2 : z.length ≤ sizeLine := Nat.le_trans hz (by decide)
      refine ⟨_, rfl, .str z, .ty "str", _, _, true, rfl, .ty _, .base (by constructor), kit_ty (by decide +kernel), true, rfl, ?_⟩
      refine iteF ?_
      refine ⟨_, rfl, .str z, z.length, rfl, ⟨hz2, rfl⟩, _, _, rfl, rfl, _, rfl, ?_⟩
      refine ite2 (fun c1 => ?_) (fun c1 => ?_)
      · have d1 : 1 ≤ z.length := by
          have := of_decide_eq_true c1
          omega
        refine ⟨_, _, rfl, rfl, _, rfl, ?_⟩
        by_cases d2 : z.length ≤ 8
        · have e2 : decide ((z.length : Int) ≤ 8) = true := decide_eq_true (by omega)
          rw [e2]
          refine iteF ?_
          have rest : ∀ b H', Same H H' → b = z.cps.toList.all letter → Q (.bl b) H' := fun b H' s e => by
            have e' : nameB z = b := by
              unfold nameB
              rw [decide_eq_true d1, decide_eq_true d2, e]
              rfl
            rw [← e']
            exact k H' s
          refine ⟨_, rfl, z, rfl, fun D hD => lc_it (walk_str (z := z)) (fun i H' => H' D = some (.lst (((z.cps.toList.take i).map letter).map V.bl)) ∧ Same H H')
            ⟨upd_same, fun b o e => by rw [upd_ne (ne_of_none e hD)]; exact e⟩ (fun _ _ _ _ => trivial) ?_ ?_⟩
          · rintro i x H1 H2 hi ⟨hl, hs⟩ ⟨rfl, c, hc, rfl⟩
            have step : ∀ b : Bool, b = letter c → ∃ acc : List V, H2 D = some (.lst acc) ∧ acc.length < sizeLine ∧
                (upd H2 D (.lst (acc ++ [V.bl b])) D = some (.lst (((z.cps.toList.take (i + 1)).map letter).map V.bl)) ∧ Same H (upd H2 D (.lst (acc ++ [V.bl b])))) := fun b hb => by
              refine ⟨_, hl, ?_, ?_, fun a o e => ?_⟩
              · rw [List.length_map, List.length_map, List.length_take]
                have h9 : z.cps.toList.length = z.length := by first | rfl | simp [Str.length]
                exact Nat.lt_of_le_of_lt (Nat.min_le_right _ _) (by rw [h9, sizeLine_eq]; omega)
              · rw [upd_same, hb, List.take_add_one, show z.cps.toList[i]? = some c by rw [Array.getElem?_toList]; exact hc]
                simp
              · rw [upd_ne (ne_of_none e hD)]
                exact hs a o e
            refine ⟨rfl, ?_⟩
            refine ⟨_, rfl, _, _, rfl, rfl, _, rfl, ?_⟩
            have l1 : (!decide ((⟨#[c]⟩ : Str).cps.toList < ("a" : Str).cps.toList)) = decide (97 ≤ c) := one_le 97 c
            have l2 : (!decide (("z" : Str).cps.toList < (⟨#[c]⟩ : Str).cps.toList)) = decide (c ≤ 122) := one_le c 122
            by_cases c1 : 97 ≤ c
            · rw [l1, decide_eq_true c1]
              refine iteT ?_
              refine ⟨_, _, rfl, rfl, step _ ?_⟩
              rw [l2]
              unfold letter
              rw [decide_eq_true c1, Bool.true_and]
            · rw [l1, decide_eq_false c1]
              refine iteF ?_
              refine step _ ?_
              unfold letter
              rw [decide_eq_false c1, Bool.false_and]
          · rintro H1 ⟨hl, hs⟩
            refine ⟨D, _, rfl, SqL.of hl, rest _ H1 hs ?_⟩
            rw [show z.cps.size = z.cps.toList.length from rfl, List.take_length, List.all_map]
            rfl
        · have e2 : decide ((z.length : Int) ≤ 8) = false := decide_eq_false (by omega)
          rw [e2]
          refine iteT ?_
          have e : nameB z = false := by
            unfold nameB
            rw [decide_eq_false d2, Bool.and_false, Bool.false_and]
          rw [← e]
          exact k H (Same.refl H)
      · have d1 : ¬ 1 ≤ z.length := fun q => c1 (decide_eq_true (by omega))
        refine ⟨_, rfl, ?_⟩
        have e : nameB z = false := by
          unfold nameB
          rw [decide_eq_false d1, Bool.false_and, Bool.false_and]
        refine iteT ?_
        rw [← e]
        exact k H (Same.refl H)
    · refine ⟨_, rfl, v, .ty "str", _, _, false, rfl, .ty _, ty, kt, false, rfl, ?_⟩
      refine iteT ?_
      exact iteT k
theorem scW : FnScope ["value", "least", "most"] ["value", "least", "most"] (defScope sWithin) := ⟨rfl, rfl, rfl, by decide +kernel, rfl, by decide +kernel, by decide +kernel⟩
theorem ok_within {f : Addr} {fd : FuncData} (F : Fun K "is_within" "is_within" sWithin f fd) (T : Nm2 mg) : FnOk P w K mg base CX0 1 f fd ["value", "least", "most"] (spWithin K) := by
  refine F.ok scW (fun vs H Q E h => ?_) (fun cdv A outer s H vs Q E hr h => ?_)
  · obtain ⟨v, a, b, rfl, _⟩ := h
    rfl
  · obtain ⟨v, a, b, rfl, k⟩ := h
    refine ⟨_, (pss_cons (ps_if (PW.pt (pw_or (pt_not (pt_val (pe_callB call_isi (by rfl) T.n_isinstance (by decide +kernel) (pa_cons (pv 0) (pa_cons (pe_bltn (v := .ty "int") (by rfl) T.n_int (by decide +kernel) rfl) pa_nil))))) (pw_or1 (pt_val (pe_callB call_isi (by rfl) T.n_isinstance (by decide +kernel) (pa_cons (pv 0) (pa_cons (pe_bltn (v := .ty "bool") (by rfl) T.n_bool (by decide +kernel) rfl) pa_nil))))))) (pss_one (ps_ret pe_bl)) pss_nil)
    (pss_one (ps_ret (pe_chain op_le op_le (pv 1) (pv 0) (pv 2))))), ?_⟩
    rcases k with ⟨v, rfl, k⟩ | ⟨⟨c, rfl⟩ | ⟨t, ty, kt⟩, k⟩
    · refine ⟨_, rfl, .int v, .ty "int", _, _, true, rfl, .ty _, .base (.int v), kit_ty (by decide +kernel), true, rfl, ?_⟩
      refine iteF ?_
      refine ⟨_, rfl, .int v, .ty "bool", _, _, false, rfl, .ty _, .base (.int v), kit_ty (by decide +kernel), false, rfl, ?_⟩
      refine iteF ?_
      refine ⟨_, rfl, _, rfl, _, _, rfl, rfl, _, rfl, ?_⟩
      by_cases c : a ≤ v
      · rw [decide_eq_true c] at k ⊢
        refine iteT ?_
        exact ⟨_, rfl, _, _, rfl, rfl, k⟩
      · rw [decide_eq_false c] at k ⊢
        refine iteF ?_
        exact k
    · refine ⟨_, rfl, .bl c, .ty "int", _, _, true, rfl, .ty _, .base (.bl c), kit_ty (by decide +kernel), true, rfl, ?_⟩
      refine iteF ?_
      refine ⟨_, rfl, .bl c, .ty "bool", _, _, true, rfl, .ty _, .base (.bl c), kit_ty (by decide +kernel), true, rfl, ?_⟩
      exact iteT k
    · refine ⟨_, rfl, v, .ty "int", _, _, false, rfl, .ty _, ty, kt, false, rfl, ?_⟩
      refine iteT ?_
      exact iteT k
theorem scA : FnScope ["things"] ["things"] (defScope sAsc) := ⟨rfl, rfl, rfl, by decide +kernel, rfl, by decide +kernel, by decide +kernel⟩
theorem ok_asc {f : Addr} {fd : FuncData} (F : Fun K "ascending" "ascending" sAsc f fd) (T : Nm3 mg) : FnOk P w K mg base CX0 1 f fd ["things"] (spAsc K) := by
  refine F.ok scA (fun vs H Q E h => ?_) (fun cdv A outer s H vs Q E hr h => ?_)
  · obtain ⟨a, xs, rfl, _⟩ := h
    rfl
  · obtain ⟨a, xs, rfl, ha, hl, k⟩ := h
    refine ⟨_, (pss_one (ps_ret (pe_callB (TSet.cr_sortedTexts rfl) (by rfl) T.n_sorted (by decide +kernel) (pa_cons (pe_callTy (TSet.cr_setS rfl) (by rfl) T.n_set (by decide +kernel) (pa_cons (pe_callTy (OwR.list_any rfl) (by rfl) T.n_list (by decide +kernel) (pa_cons (pv 0) pa_nil)) pa_nil)) pa_nil)))), ?_⟩
    have fin : ∀ l, H l = none → ∀ a2, (upd H l (.lst (xs.map V.str))) a2 = none → ∀ (ys : List Str) (p : Addr), ys.Perm (TSet.ded xs) → sortedS ys = true → (upd (upd H l (.lst (xs.map V.str))) a2 (TSet.TSO w a2 (TSet.ded xs))) p = none →
        Q (.ref p) (upd (upd (upd H l (.lst (xs.map V.str))) a2 (TSet.TSO w a2 (TSet.ded xs))) p (.lst (ys.map V.str))) := fun l h1 a2 h2 ys p pm srt h3 => by
      have s1 := Same.of_new (o := .lst (xs.map V.str)) h1
      have s2 := s1.trans (Same.of_new (o := TSet.TSO w a2 (TSet.ded xs)) h2)
      have s3 := s2.trans (Same.of_new (o := .lst (ys.map V.str)) h3)
      exact k ys p _ pm srt (s2.free h3) s3 upd_same
    have hb : xs.length < scanBound := Nat.lt_trans hl (by decide)
    have hd : (TSet.ded xs).length < 64 := Nat.lt_of_le_of_lt (TSet.ded_len xs) hl
    have rest : ∀ l, H l = none → ∃ (l0 : Addr) (zs : List Str), ([V.ref l] : List V) = [V.ref l0] ∧ SqL K (upd H l (.lst (xs.map V.str))) l0 (zs.map V.str) ∧ zs.length < scanBound ∧
        ∀ a2, (upd H l (.lst (xs.map V.str))) a2 = none → ∃ (a3 : Addr) (L : List Str), ([V.ref a2] : List V) = [V.ref a3] ∧ (upd (upd H l (.lst (xs.map V.str))) a2 (TSet.TSO w a2 (TSet.ded zs))) a3 = some (TSet.TSO w a3 L) ∧ L.length < 64 ∧
          ∀ (ys : List Str) (p : Addr), ys.Perm L → sortedS ys = true → (upd (upd H l (.lst (xs.map V.str))) a2 (TSet.TSO w a2 (TSet.ded zs))) p = none →
            Q (.ref p) (upd (upd (upd H l (.lst (xs.map V.str))) a2 (TSet.TSO w a2 (TSet.ded zs))) p (.lst (ys.map V.str))) := fun l h1 =>
      ⟨l, xs, rfl, SqL.of upd_same, hb, fun a2 h2 => ⟨a2, _, rfl, upd_same, hd, fun ys p pm srt h3 => fin l h1 a2 h2 ys p pm srt h3⟩⟩
    refine ⟨_, rfl, ?_⟩
    rcases ha with h | h | ⟨kvs, h, e⟩
    · exact .inl ⟨a, _, rfl, .inl h, rest⟩
    · exact .inl ⟨a, _, rfl, .inr h, rest⟩
    · refine .inr ⟨a, kvs, rfl, h, ?_⟩
      have ek : (kvs.map fun kv => kV kv.1) = xs.map V.str := by
        have q := congrArg (List.map kV) e
        rw [List.map_map, List.map_map] at q
        exact q
      rw [ek]
      exact rest
end
structure Chk (P : Program) (w : World) (K : PySem.W.Frag) (mg : Str → Option Value) (base : Heap) : Prop where
  nm : ∃ f fd, mg "is_name" = some (.ref f) ∧ Fun K "is_name" "is_name" sName f fd
  wi : ∃ f fd, mg "is_within" = some (.ref f) ∧ Fun K "is_within" "is_within" sWithin f fd
  as : ∃ f fd, mg "ascending" = some (.ref f) ∧ Fun K "ascending" "ascending" sAsc f fd
  T : Nm2 mg
  T3 : Nm3 mg
  T4 : Nm4 mg
section
variable {P : Program} {w : World} {K : PySem.W.Frag} {mg : Str → Option Value} {base : Heap}
theorem Chk.name (c : Chk P w K mg base) : ∃ f fd, mg "is_name" = some (.ref f) ∧ PySem.W.keepIn K (.ref f) = true ∧ Binds K fd ["value"] [] ∧ FnOk P w K mg base CX0 1 f fd ["value"] (spName K) := by
  obtain ⟨f, fd, g, F⟩ := c.nm
  exact ⟨f, fd, g, F.kp, F.binds fun _ _ _ _ _ _ us hl => match us, hl with | [_], _ => rfl, ok_name F c.T⟩
theorem Chk.within (c : Chk P w K mg base) : ∃ f fd, mg "is_within" = some (.ref f) ∧ PySem.W.keepIn K (.ref f) = true ∧ Binds K fd ["value", "least", "most"] [] ∧ FnOk P w K mg base CX0 1 f fd ["value", "least", "most"] (spWithin K) := by
  obtain ⟨f, fd, g, F⟩ := c.wi
  exact ⟨f, fd, g, F.kp, F.binds fun _ _ _ _ _ _ us hl => match us, hl with | [_, _, _], _ => rfl, ok_within F c.T⟩
theorem Chk.asc (c : Chk P w K mg base) : ∃ f fd, mg "ascending" = some (.ref f) ∧ PySem.W.keepIn K (.ref f) = true ∧ Binds K fd ["things"] [] ∧ FnOk P w K mg base CX0 1 f fd ["things"] (spAsc K) := by
  obtain ⟨f, fd, g, F⟩ := c.as
  exact ⟨f, fd, g, F.kp, F.binds fun _ _ _ _ _ _ us hl => match us, hl with | [_], _ => rfl, ok_asc F c.T3⟩
end
end K10
end
section
/-! Houses: House.__init__ of no places, house_with, House.of, .none, house[..]; nothing refused. -/
namespace K10
open PySem PySem.Spec PyProof.Rows L2
abbrev sNumber : Stmt := top 11
abbrev sTold : Stmt := top 13
abbrev sHouse0 : Stmt := mth 18 1
abbrev sHouseOf : Stmt := mth 18 2
abbrev sHouseAt : Stmt := mth 18 9
abbrev sWith : Stmt := top 19
def told (N : Str → Option Int) : Str → Option Int := fun z => if 0 < (N z).getD 0 then N z else none
def spNumber : Sp := fun vs H Q _ => ∃ v : Int, vs = [.int v] ∧ Q (.bl (decide (0 ≤ v) && decide (v ≤ 10 ^ 60 - 1))) H
def spTold : Sp := fun vs H Q _ => ∃ (a : Addr) (kvs : List (Key × V)) (xs : List Str) (N : Str → Option Int), vs = [.ref a] ∧ Rd H a (.dK kvs) ∧ kvs.map (·.1) = xs.map Sum.inr ∧ xs.length < 64 ∧ TabOf kvs N ∧
  (∀ z v, N z = some v → 0 ≤ v ∧ v ≤ 10 ^ 60 - 1) ∧ ∀ (kvs' : List (Key × V)) (p : Addr) (H' : Hp), TabOf kvs' (told N) → kvs'.length < 64 → H p = none → Same H H' → H' p = some (.dK kvs') → Q (.ref p) H'
section
variable {P : Program} {w : World} {K : PySem.W.Frag} {mg : Str → Option Value} {base : Heap}
theorem scNu : FnScope ["value"] ["value"] (defScope sNumber) := ⟨rfl, rfl, rfl, by decide +kernel, rfl, by decide +kernel, by decide +kernel⟩
theorem ok_number {f fW : Addr} {fd fdW : FuncData} (F : Fun K "is_number" "is_number" sNumber f fd) (T : Nm2 mg) (FW : Fun K "is_within" "is_within" sWithin fW fdW) (gW : mg "is_within" = some (.ref fW)) : FnOk P w K mg base CX0 2 f fd ["value"] spNumber := by
  have GW : FnOk P w K mg base CX0 1 fW fdW ["value", "least", "most"] (spWithin K) := ok_within FW T
  have bW : Binds K fdW ["value", "least", "most"] [] := FW.binds fun _ _ _ _ _ _ us hl => match us, hl with | [_, _, _], _ => rfl
  refine F.ok scNu (fun vs H Q E h => ?_) (fun cdv A outer s H vs Q E hr h => ?_)
  · obtain ⟨v, rfl, _⟩ := h
    rfl
  · obtain ⟨v, rfl, k⟩ := h
    refine ⟨_, (pss_one (ps_ret (pe_call GW hr (by rfl) gW FW.kp bW .nil pass0 (pa_cons (pv 0) (pa_cons pe_int (pa_cons (pe_op op_sub (pe_op op_pow pe_int pe_int) pe_int) pa_nil)))))), ?_⟩
    exact ⟨_, rfl, _, _, rfl, rfl, ⟨by decide, by decide, by decide⟩, _, _, rfl, rfl, .int v, 0, _, rfl, .inl ⟨v, rfl, k⟩⟩
abbrev nTold : List Str := ["table", "keys", "key"]
theorem scT : FnScope nTold ["table"] (defScope sTold) := ⟨rfl, rfl, rfl, by decide +kernel, rfl, by decide +kernel, by decide +kernel⟩
theorem ok_told {f fN fA fW : Addr} {fd fdN fdA fdW : FuncData} (F : Fun K "numbers_told" "numbers_told" sTold f fd) (T : Nm2 mg) (T3 : Nm3 mg) (FA : Fun K "ascending" "ascending" sAsc fA fdA) (FN : Fun K "is_number" "is_number" sNumber fN fdN) (FW : Fun K "is_within" "is_within" sWithin fW fdW)
    (gW : mg "is_within" = some (.ref fW)) (gA : mg "ascending" = some (.ref fA)) (gN : mg "is_number" = some (.ref fN)) : FnOk P w K mg base CX0 3 f fd ["table"] spTold := by
  have GN : FnOk P w K mg base CX0 2 fN fdN ["value"] spNumber := ok_number FN T FW gW
  have bN : Binds K fdN ["value"] [] := FN.binds fun _ _ _ _ _ _ us hl => match us, hl with | [_], _ => rfl
  have GA : FnOk P w K mg base CX0 1 fA fdA ["things"] (spAsc K) := ok_asc FA T3
  have bA : Binds K fdA ["things"] [] := FA.binds fun _ _ _ _ _ _ us hl => match us, hl with | [_], _ => rfl
  refine F.ok scT (fun vs H Q E h => ?_) (fun cdv A outer s H vs Q E hr h => ?_)
  · obtain ⟨a, kvs, xs, N, rfl, _⟩ := h
    rfl
  · obtain ⟨a, kvs, xs, N, rfl, ha, ek, hl, tb, hn, k⟩ := h
    have hu : (A.deeper (envOfC "numbers_told" (defScope sTold) s.heap.objs.size f cdv)).units + 1 < cLine := (by have := hr.units; omega)
    have hr1 : Room 1 _ := hr.mono (by decide)
    refine ⟨_, (pss_cons (ps_set (i := 1) scT.nd rfl (Or.inl rfl) (pe_call GA hr1 (by rfl) gA FA.kp bA .nil pass0 (pa_cons (pv 0) pa_nil)))
    (pss_cons (ps_for PassesOwn.never rfl (pi_list (pv 1)) (pg_name (i := 2) scT.nd rfl (Or.inl rfl)) (pss_one (ps_if (pt_not (pt_val (pe_call GN hr (by rfl) gN FN.kp bN .nil pass0 (pa_cons (pe_dget hu (pv 0) (pv 2) (fun _ _ => rfl)) pa_nil)))) (pss_one ps_never) pss_nil)))
    (pss_one (ps_ret (pe_dc (own := [("key", 2)]) rfl scT.nd (pi_list (pv 1)) (blkOk_by (own := [("key", 2)]) (N := nTold) (sc := defScope sTold) (by decide +kernel)) (fun _ _ _ _ _ => (pg_name (i := 2) scT.nd rfl (Or.inl rfl))) (fun _ _ _ _ _ => pts_one (pt_cmpR op_gt (pe_dget hu (pv 0) (pv 2) (fun _ _ => rfl)) pe_int (nomark _))) (fun _ _ _ _ _ => (pv 2)) (fun _ _ _ _ _ => (pe_dget hu (pv 0) (pv 2) (fun _ _ => rfl)))))))), ?_⟩
    refine ⟨_, rfl, a, xs, rfl, ?_, hl, fun ys p H1 pm srt hp s1 e1 => ?_⟩
    · exact .inr (.inr ⟨kvs, ha, ek⟩)
    have hlen : ys.length < 64 := Nat.lt_of_le_of_lt (Nat.le_of_eq pm.length_eq) (Nat.lt_of_le_of_lt (TSet.ded_len xs) hl)
    have hys : ∀ z, z ∈ ys ↔ (N z).isSome = true := fun z => (pm.mem_iff.trans (TSet.ded_mem xs z)).trans (tb.mem ek z)
    have hnd : ys.Nodup := pm.nodup_iff.mpr (TSet.ded_nodup xs)
    have hat : ∀ i z, ys[i]? = some z → ∃ v, N z = some v ∧ 0 ≤ v ∧ v ≤ 10 ^ 60 - 1 := fun i z hz => by
      obtain ⟨v, hv⟩ := Option.isSome_iff_exists.mp ((hys z).mp (List.mem_of_getElem? hz))
      exact ⟨v, hv, hn z v hv⟩
    have ha1 : Rd H1 a (.dK kvs) := ha.elim (fun e => .inl (s1 a _ e)) fun ⟨o, e⟩ => .inr ⟨o, s1 a _ e⟩
    refine ⟨_, rfl, p, rfl, ⟨_, SqL.of e1⟩, ?_⟩
    refine for_it (walk_list (xs := ys.map V.str)) (fun i σ H' => H1 = H' ∧ ∃ x, σ = [some (.ref a), some (.ref p), x]) ⟨rfl, _, rfl⟩ (fun i σ H' _ q => q.1 ▸ SqL.of e1) (fun i x σ H' H2 hi q y => ?_) (fun σ H' q => ?_)
    · obtain ⟨rfl, x0, rfl⟩ := q
      obtain ⟨rfl, hx⟩ := y
      rw [List.getElem?_map] at hx
      obtain ⟨z, hz, rfl⟩ := Option.map_eq_some_iff.mp hx
      obtain ⟨v, hv, v0, v1⟩ := hat i z hz
      refine ⟨_, rfl, _, rfl, a, .int v, rfl, ?_, v, rfl, _, rfl, ?_⟩
      · have g := tb.get ha1 z
        rw [hv] at g
        exact g
      rw [decide_eq_true v0, decide_eq_true v1]
      exact ⟨rfl, _, rfl⟩
    · obtain ⟨rfl, x0, rfl⟩ := q
      refine ⟨_, rfl, p, rfl, ⟨_, SqL.of e1⟩, fun D hD => ?_⟩
      have nD : p ≠ D := ne_of_none e1 hD
      refine OwR.dc_it (walk_list (xs := ys.map V.str)) (fun i H2 => Same H1 H2 ∧ ∃ r, H2 D = some (.dK r) ∧ r.length ≤ i ∧ TabOf r fun z => if z ∈ ys.take i then told N z else none) ⟨Same.of_new hD, [], upd_same, Nat.le_refl 0, ?_⟩ (fun i H2 _ q => SqL.of (q.1 p _ e1)) (fun i x H2 H3 hi q y => ?_) (fun H2 q => ?_)
      · exact TabOf.nil.cast fun z => (if_neg (by simp)).symm
      · obtain ⟨s2, r, er, lr, tr⟩ := q
        obtain ⟨rfl, hx⟩ := y
        rw [List.getElem?_map] at hx
        obtain ⟨z, hz, rfl⟩ := Option.map_eq_some_iff.mp hx
        obtain ⟨v, hv, v0, v1⟩ := hat i z hz
        have ha2 : Rd H3 a (.dK kvs) := ha1.elim (fun e => .inl (s2 a _ e)) fun ⟨o, e⟩ => .inr ⟨o, s2 a _ e⟩
        have g := tb.get ha2 z
        rw [hv] at g
        have hi2 : i < ys.length := by rw [List.length_map] at hi; exact hi
        have hmem : ∀ y : Str, y ∈ ys.take (i + 1) ↔ y ∈ ys.take i ∨ y = z := fun y => by
          rw [List.take_add_one, hz]
          simp
        have hz0 : z ∉ ys.take i := fun q => by
          have e3 := List.take_add_one (l := ys) (i := i)
          rw [hz] at e3
          have h5 : (ys.take (i + 1)).Nodup := hnd.sublist (List.take_sublist _ _)
          rw [e3] at h5
          have h6 := (List.nodup_append.mp h5).2.2 z q z (by simp)
          exact h6 rfl
        refine ⟨rfl, ?_⟩
        refine ⟨_, rfl, _, rfl, a, .int v, rfl, g, v, 0, rfl, rfl, _, rfl, ?_⟩
        have tl : told N z = if 0 < v then some v else none := by
          unfold told
          rw [hv]
          rfl
        by_cases c : 0 < v
        · rw [decide_eq_true c]
          refine iteT ?_
          refine ⟨_, rfl, _, rfl, _, rfl, a, .int v, rfl, g, ?_⟩
          refine ⟨r, Sum.inr z, rfl, er, Nat.lt_of_le_of_lt lr (by have := sizeLine_eq; omega), ?_⟩
          refine ⟨fun b o e => ?_, _, upd_same, ?_, (tr.put z v).cast fun y => ?_⟩
          · rw [upd_ne (ne_of_none e hD)]
            exact s2 b o e
          · have := length_putK r (Sum.inr z) (.int v)
            omega
          · by_cases e : y = z
            · subst e
              rw [if_pos rfl, if_pos ((hmem y).mpr (.inr rfl)), tl, if_pos c]
            · rw [if_neg e]
              by_cases m : y ∈ ys.take i
              · rw [if_pos m, if_pos ((hmem y).mpr (.inl m))]
              · rw [if_neg m, if_neg fun q => ((hmem y).mp q).elim m e]
        · rw [decide_eq_false c]
          refine iteF ?_
          refine ⟨s2, r, er, by omega, tr.cast fun y => ?_⟩
          by_cases e : y = z
          · subst e
            rw [if_neg hz0, if_pos ((hmem y).mpr (.inr rfl)), tl, if_neg c]
          · by_cases m : y ∈ ys.take i
            · rw [if_pos m, if_pos ((hmem y).mpr (.inl m))]
            · rw [if_neg m, if_neg fun q => ((hmem y).mp q).elim m e]
      · obtain ⟨s2, r, er, lr, tr⟩ := q
        rw [List.length_map, List.take_length] at tr
        refine k r D H2 (tr.cast fun z => ?_) (Nat.lt_of_le_of_lt (by rw [List.length_map] at lr; exact lr) hlen) (s1.free hD) (s1.trans s2) er
        by_cases c : z ∈ ys
        · exact if_pos c
        · have h7 : N z = none := by
            cases h8 : N z with
            | none => rfl
            | some u => exact absurd ((hys z).mpr (by rw [h8]; rfl)) c
          rw [if_neg c]
          unfold told
          rw [h7]
          rfl
end
/-- the class of houses -/
structure HouseC (K : PySem.W.Frag) (C : Addr) : Prop where
  cls : Cls K C
  n1 : NoAttr K C "_numbers"
  n2 : NoAttr K C "_bays"
/-- at a stands a house with these numbers -/
def HouseAt (C : Addr) (H : Hp) (a : Addr) (N : Str → Option Int) : Prop := ∃ (dx : Addr) (fs : List (Str × V)) (d : Addr) (kvs : List (Key × V)), H a = some (.ins C dx fs) ∧ fs.lookup ("_numbers" : Str) = some (.ref d) ∧ Rd H d (.dK kvs) ∧ TabOf kvs N
theorem HouseAt.same {C : Addr} {H H' : Hp} {a : Addr} {N : Str → Option Int} (h : HouseAt C H a N) (s : Same H H') : HouseAt C H' a N := by
  obtain ⟨dx, fs, d, kvs, h1, h2, h3, h4⟩ := h
  exact ⟨dx, fs, d, kvs, s _ _ h1, h2, Same.rd s h3, h4⟩
theorem HouseAt.cast {C : Addr} {H : Hp} {a : Addr} {N M : Str → Option Int} (h : HouseAt C H a N) (e : ∀ z, N z = M z) : HouseAt C H a M := by
  rw [← funext e]
  exact h
def spH0 (C : Addr) : Sp := fun vs H Q _ => ∃ a d dx : Addr, vs = [.ref a, .ref d] ∧ H a = some (.ins C dx []) ∧ H d = some (.dK []) ∧ ∀ H' fs, But a H H' → H' a = some (.ins C dx fs) → fs.length ≤ 2 → HouseAt C H' a (fun _ => none) → Q .non H'
def spH0' (C : Addr) : Sp := fun vs H Q _ => ∃ a dx : Addr, vs = [.ref a] ∧ H a = some (.ins C dx []) ∧ ∀ H' fs, But a H H' → H' a = some (.ins C dx fs) → fs.length ≤ 2 → HouseAt C H' a (fun _ => none) → Q .non H'
def spWith (C : Addr) : Sp := fun vs H Q _ => ∃ (t : Addr) (kvs : List (Key × V)) (xs : List Str) (N : Str → Option Int), vs = [.ref t] ∧ Rd H t (.dK kvs) ∧ kvs.map (·.1) = xs.map Sum.inr ∧ xs.length < 64 ∧ TabOf kvs N ∧
  (∀ z v, N z = some v → 0 ≤ v ∧ v ≤ 10 ^ 60 - 1) ∧ ∀ a H', H a = none → Same H H' → HouseAt C H' a (told N) → Q (.ref a) H'
def spOf (C : Addr) : Sp := fun vs H Q _ => ∃ (c : V) (t : Addr) (kvs : List (Key × V)) (xs : List Str) (N : Str → Option Int), vs = [c, .ref t] ∧ H t = some (.dK kvs) ∧ kvs.map (·.1) = xs.map Sum.inr ∧ xs.length < 64 ∧ (∀ z ∈ xs, nameB z = true ∧ z.length ≤ 1000) ∧ TabOf kvs N ∧
  (∀ z v, N z = some v → 0 ≤ v ∧ v ≤ 10 ^ 60 - 1) ∧ ∀ a H', H a = none → Same H H' → HouseAt C H' a (told N) → Q (.ref a) H'
def spItem (C : Addr) : Sp := fun vs H Q _ => ∃ (a : Addr) (z : Str) (N : Str → Option Int), vs = [.ref a, .str z] ∧ HouseAt C H a N ∧ nameB z = true ∧ z.length ≤ 1000 ∧ ∀ H', Same H H' → Q (.int ((N z).getD 0)) H'
/-- what houses lean on -/
structure HChk (P : Program) (w : World) (K : PySem.W.Frag) (mg : Str → Option Value) (base : Heap) : Prop where
  chk : Chk P w K mg base
  nu : ∃ f fd, mg "is_number" = some (.ref f) ∧ Fun K "is_number" "is_number" sNumber f fd
  to : ∃ f fd, mg "numbers_told" = some (.ref f) ∧ Fun K "numbers_told" "numbers_told" sTold f fd
section
variable {P : Program} {w : World} {K : PySem.W.Frag} {mg : Str → Option Value} {base : Heap}
theorem HChk.told (c : HChk P w K mg base) : ∃ f fd, mg "numbers_told" = some (.ref f) ∧ PySem.W.keepIn K (.ref f) = true ∧ Binds K fd ["table"] [] ∧ FnOk P w K mg base CX0 3 f fd ["table"] spTold := by
  obtain ⟨f, fd, g, F⟩ := c.to
  obtain ⟨f1, fd1, g1, F1⟩ := c.chk.as
  obtain ⟨f2, fd2, g2, F2⟩ := c.nu
  obtain ⟨f3, fd3, g3, F3⟩ := c.chk.wi
  exact ⟨f, fd, g, F.kp, F.binds fun _ _ _ _ _ _ us hl => match us, hl with | [_], _ => rfl, ok_told F c.chk.T c.chk.T3 F1 F2 F3 g3 g1 g2⟩
abbrev nH0 : List Str := ["self", "places", "name"]
theorem scH0 : FnScope nH0 ([("self" : Str)] ++ [("places" : Str)]) (defScope sHouse0) := ⟨rfl, rfl, rfl, by decide +kernel, rfl, by decide +kernel, by decide +kernel⟩
theorem ok_H0 {C f : Addr} {fd : FuncData} (hc : HouseC K C) (F : Fun K "__init__" "House.__init__" sHouse0 f fd) (c : HChk P w K mg base) : FnR P w K mg base CX0 4 f (spH0' C) := by
  obtain ⟨oc, od, kV, doc, pm, an, cdv, ct, osl, rfl, lk, hcd⟩ := F.ex
  obtain ⟨fA, fdA, gA, kA, bA, GA⟩ := c.chk.asc
  obtain ⟨fT, fdT, gT, kT, bT, GT⟩ := c.told
  obtain ⟨fM, fdM, gM, kM, bM, GM⟩ := c.chk.name
  refine FnR.imp (OwR.fn_kw (k := 3) (ps := ["self"]) (pd := "places") (sp := spH0 C) lk hcd scH0 StX.cxUp_none (fun us hl => match us, hl with | [_], _ => rfl) fun A outer s H vs Q E hr h => ?_) fun vs H Q E h => ?_
  · obtain ⟨a, d, dx, rfl, ha, hd, k⟩ := h
    have hr2 : Room 1 _ := hr.mono (by decide)
    refine ⟨_, PSs.nox (pss_cons (ps_for PassesOwn.never rfl (pi_list (pe_call GA hr2 (by rfl) gA kA bA .nil pass0 (pa_cons (pv 1) pa_nil))) (pg_name (i := 2) scH0.nd rfl (Or.inl rfl)) (pss_one (ps_if (pt_not (pt_val (pe_call GM hr2 (by rfl) gM kM bM .nil pass0 (pa_cons (pv 2) pa_nil)))) (pss_one ps_never) pss_nil)))
    (pss_cons (ps_fld (pv 0) (pe_call GT hr (by rfl) gT kT bT .nil pass0 (pa_cons (pv 1) pa_nil)) rfl)
    (pss_one (ps_fld (pv 0) (pe_callTy (OwR.call_tupleD rfl) (by rfl) c.chk.T4.n_tuple (by decide +kernel) (pa_cons (pe_fld (pv 0) rfl) pa_nil)) rfl)))), ?_⟩
    refine ⟨_, rfl, d, [], rfl, .inr (.inr ⟨[], .inl hd, rfl⟩), by decide, fun ys p H1 pm srt hp s1 e1 => ?_⟩
    have ey : ys = [] := List.Perm.eq_nil pm
    subst ey
    refine ⟨p, rfl, ⟨_, SqL.of e1⟩, ?_⟩
    refine for_it (walk_list (xs := [])) (fun i σ H' => H1 = H' ∧ ∃ x, σ = [some (.ref a), some (.ref d), x]) ⟨rfl, _, rfl⟩ (fun i σ H' _ q => q.1 ▸ SqL.of e1) (fun i x σ H' H2 hi q y => absurd hi (Nat.not_lt_zero i)) (fun σ H' q => ?_)
    obtain ⟨rfl, x0, rfl⟩ := q
    refine ⟨_, rfl, d, [], [], fun _ => none, rfl, .inl (s1 d _ hd), rfl, by decide, TabOf.nil, (fun z v e => by cases e), fun kvs' q H2 t2 l2 hq s2 e2 => ?_⟩
    have ea2 := s2 a _ (s1 a _ ha)
    refine ⟨_, rfl, a, C, dx, [], rfl, ea2, hc.cls, hc.n1, by decide, ?_⟩
    have nq : q ≠ a := fun e => by
      rw [e, s1 a _ ha] at hq
      cases hq
    refine ⟨_, rfl, a, C, dx, _, .ref q, rfl, upd_same, hc.cls, hc.n1, rfl, ?_⟩
    refine ⟨q, kvs', rfl, .inl (by rw [upd_ne nq]; exact e2), fun r hr0 => ?_⟩
    have nr : a ≠ r := fun e => by
      rw [← e, upd_same] at hr0
      cases hr0
    refine ⟨_, rfl, a, C, dx, _, rfl, by rw [upd_ne nr]; exact upd_same, hc.cls, hc.n2, (by show (1:Nat) < 1000; decide), ?_⟩
    have nqr : q ≠ r := fun z => by
      rw [← z, upd_ne nq, e2] at hr0
      cases hr0
    refine k _ _ (fun b o n e => ?_) upd_same (by show (2:Nat) ≤ 2; decide) ⟨dx, _, q, kvs', upd_same, rfl, ?_, t2.cast fun z => rfl⟩
    rotate_left
    · refine .inl ?_
      rw [upd_ne nq, upd_ne nqr, upd_ne nq]
      exact e2
    rw [upd_ne n]
    have hb2 := s2 b _ (s1 b _ e)
    have nb : b ≠ r := fun z => by
      rw [← z, upd_ne n, hb2] at hr0
      cases hr0
    rw [upd_ne nb, upd_ne n]
    exact hb2
  · obtain ⟨a, dx, rfl, ha, k⟩ := h
    refine ⟨rfl, fun d hd => ⟨a, d, dx, rfl, ?_, upd_same, fun H' fs s1 e1 l hA => k H' fs (fun b o n e => s1 b o n (Same.of_new hd b o e)) e1 l hA⟩⟩
    rw [upd_ne (ne_of_none ha hd)]
    exact ha
abbrev nWi : List Str := ["table", "house"]
theorem scWi : FnScope nWi ["table"] (defScope sWith) := ⟨rfl, rfl, rfl, by decide +kernel, rfl, by decide +kernel, by decide +kernel⟩
theorem ok_with {C f fH : Addr} {fd fdH : FuncData} (hc : HouseC K C) (FH : Fun K "__init__" "House.__init__" sHouse0 fH fdH) (MH : Mk K C fH) (gH : mg "House" = some (.ref C)) (F : Fun K "house_with" "house_with" sWith f fd) (c : HChk P w K mg base) : FnOk P w K mg base CX0 6 f fd ["table"] (spWith C) := by
  obtain ⟨fT, fdT, gT, kT, bT, GT⟩ := c.told
  have GH := ok_H0 (P := P) (w := w) (mg := mg) (base := base) hc FH c
  refine F.ok scWi (fun vs H Q E h => ?_) (fun cdv A outer s H vs Q E hr h => ?_)
  · obtain ⟨a, kvs, xs, N, rfl, _⟩ := h
    rfl
  · obtain ⟨a, kvs, xs, N, rfl, ha, ek, hl, tb, hn, k⟩ := h
    have hr3 : Room 3 _ := hr.mono (by decide)
    refine ⟨_, (pss_cons (ps_set (i := 1) scWi.nd rfl (Or.inl rfl) (OwR.pe_makeR0 MH GH hr (by rfl) gH pass0))
    (pss_cons (ps_fld (pv 1) (pe_call GT hr3 (by rfl) gT kT bT .nil pass0 (pa_cons (pv 0) pa_nil)) rfl)
    (pss_cons (ps_fld (pv 1) (pe_callTy (OwR.call_tupleD rfl) (by rfl) c.chk.T4.n_tuple (by decide +kernel) (pa_cons (pe_fld (pv 1) rfl) pa_nil)) rfl)
    (pss_one (ps_ret (pv 1)))))), ?_⟩
    refine fun x dx h1 h2 nd => ⟨x, dx, rfl, upd_same, fun H1 fs s1 e1 l1 _ => ⟨rfl, ?_⟩⟩
    have sm := made_same h1 h2 s1
    refine ⟨_, rfl, a, kvs, xs, N, rfl, Same.rd sm ha, ek, hl, tb, hn, fun kvs' q H2 t2 l2 hq s2 e2 => ?_⟩
    have ex2 := s2 x _ e1
    have nq : q ≠ x := fun e => by
      rw [e, e1] at hq
      cases hq
    refine ⟨_, rfl, x, C, dx, fs, rfl, ex2, hc.cls, hc.n1, by omega, ?_⟩
    have lk1 : (putF ("_numbers" : Str) (V.ref q) fs).lookup ("_numbers" : Str) = some (.ref q) := by
      rw [lookup_putF, if_pos rfl]
    refine ⟨_, rfl, x, C, dx, _, .ref q, rfl, upd_same, hc.cls, hc.n1, lk1, ?_⟩
    refine ⟨q, kvs', rfl, .inl (by rw [upd_ne nq]; exact e2), fun r hr0 => ?_⟩
    have nr : x ≠ r := fun e => by
      rw [← e, upd_same] at hr0
      cases hr0
    refine ⟨_, rfl, x, C, dx, _, rfl, by rw [upd_ne nr]; exact upd_same, hc.cls, hc.n2, by have := length_putF ("_numbers" : Str) (V.ref q) fs; omega, ?_⟩
    refine ⟨_, rfl, ?_⟩
    have nqr : q ≠ r := fun z => by
      rw [← z, upd_ne nq, e2] at hr0
      cases hr0
    refine k x _ h1 (fun b o e => ?_) ⟨dx, _, q, kvs', upd_same, ?_, ?_, t2⟩
    · have n := ne_of_none e h1
      have hb2 := s2 b _ (sm b _ e)
      have nb : b ≠ r := fun z => by
        rw [← z, upd_ne n, hb2] at hr0
        cases hr0
      rw [upd_ne n, upd_ne nb, upd_ne n]
      exact hb2
    · rw [lookup_putF, if_neg (by decide)]
      exact lk1
    · refine .inl ?_
      rw [upd_ne nq, upd_ne nqr, upd_ne nq]
      exact e2
abbrev nHO : List Str := ["cls", "table", "key"]
theorem scHO : FnScope nHO ["cls", "table"] (defScope sHouseOf) := ⟨rfl, rfl, rfl, by decide +kernel, rfl, by decide +kernel, by decide +kernel⟩
theorem ok_Of {C f fH fW : Addr} {fd fdH fdW : FuncData} (hc : HouseC K C) (FH : Fun K "__init__" "House.__init__" sHouse0 fH fdH) (MH : Mk K C fH) (gH : mg "House" = some (.ref C)) (FW : Fun K "house_with" "house_with" sWith fW fdW) (gW : mg "house_with" = some (.ref fW)) (F : Fun K "of" "House.of" sHouseOf f fd) (c : HChk P w K mg base) (n_dict : mg "dict" = none) : FnOk P w K mg base CX0 7 f fd ["cls", "table"] (spOf C) := by
  have GW : FnOk P w K mg base CX0 6 fW fdW ["table"] (spWith C) := ok_with hc FH MH gH FW c
  have bW : Binds K fdW ["table"] [] := FW.binds fun _ _ _ _ _ _ us hl => match us, hl with | [_], _ => rfl
  obtain ⟨fM, fdM, gM, kM, bM, GM⟩ := c.chk.name
  refine F.ok scHO (fun vs H Q E h => ?_) (fun cdv A outer s H vs Q E hr h => ?_)
  · obtain ⟨c, t, kvs, xs, N, rfl, _⟩ := h
    rfl
  · obtain ⟨c0, t, kvs, xs, N, rfl, ht, ek, hl, hg, tb, hn, k⟩ := h
    have hr2 : Room 1 _ := hr.mono (by decide)
    refine ⟨_, (pss_cons (ps_if (pt_not (pt_val (pe_callB call_isi (by rfl) c.chk.T.n_isinstance (by decide +kernel) (pa_cons (pv 1) (pa_cons (pe_bltn (v := .ty "dict") (by rfl) n_dict (by decide +kernel) rfl) pa_nil))))) (pss_one ps_never) pss_nil)
    (pss_cons (ps_lock (ps_for PassesOwn.never rfl (pi_keys (pv 1)) (pg_name (i := 2) scHO.nd rfl (Or.inl rfl)) (pss_one (ps_if (pt_not (pt_val (pe_call GM hr2 (by rfl) gM kM bM .nil pass0 (pa_cons (pv 2) pa_nil)))) (pss_one ps_never) pss_nil))))
    (pss_one (ps_ret (pe_call GW hr (by rfl) gW FW.kp bW .nil pass0 (pa_cons (pv 1) pa_nil)))))), ?_⟩
    refine ⟨_, rfl, .ref t, .ty "dict", _, _, true, rfl, .ty _, .base (.dK ht), kit_ty (by decide +kernel), true, rfl, ?_⟩
    refine iteF ?_
    refine ⟨t, _, ht, True.intro, fun od => ?_⟩
    have hkl : kvs.length = xs.length := by
      have := congrArg List.length ek
      rw [List.length_map, List.length_map] at this
      exact this
    refine ⟨_, rfl, t, od, rfl, .inl ⟨kvs, upd_same, ?_⟩⟩
    refine for_it (walk_keys (kvs := kvs)) (fun i σ H' => Same (upd H t (.frz od (.dK kvs))) H' ∧ ∃ x, σ = [some c0, some (.ref t), x]) ⟨Same.refl _, _, rfl⟩ (fun i σ H' _ q => q.1 t _ upd_same) (fun i x σ H' H2 hi q y => ?_) (fun σ H' q => ?_)
    · obtain ⟨s1, x0, rfl⟩ := q
      obtain ⟨rfl, ky, v, hk, rfl⟩ := y
      have e1 : xs[i]?.map Sum.inr = some ky := by
        have e2 : (kvs.map (·.1))[i]? = some ky := by rw [List.getElem?_map, hk]; rfl
        rw [ek, List.getElem?_map] at e2
        exact e2
      obtain ⟨z, hz, rfl⟩ := Option.map_eq_some_iff.mp e1
      have g := hg z (List.mem_of_getElem? hz)
      refine ⟨_, rfl, _, rfl, .inl ⟨z, rfl, g.2, fun H3 s3 => ⟨_, rfl, ?_⟩⟩⟩
      rw [g.1]
      exact ⟨s1.trans s3, _, rfl⟩
    · obtain ⟨s1, x0, rfl⟩ := q
      refine ⟨s1 t _ upd_same, ?_⟩
      refine ⟨_, rfl, t, kvs, xs, N, rfl, .inl upd_same, ek, hl, tb, hn, fun a H2 ha s2 hA => ?_⟩
      have s3 : Same H (upd H' t (.dK kvs)) := fun b o e => by
        by_cases n : b = t
        · subst n
          rw [upd_same, ← e, ht]
        · rw [upd_ne n]
          exact s1 b o (by rw [upd_ne n]; exact e)
      exact k a H2 (s3.free ha) (s3.trans s2) hA
abbrev nHI : List Str := ["self", "at"]
theorem scHI : FnScope nHI ["self", "at"] (defScope sHouseAt) := ⟨rfl, rfl, rfl, by decide +kernel, rfl, by decide +kernel, by decide +kernel⟩
theorem ok_Item {C f : Addr} {fd : FuncData} (hc : HouseC K C) (F : Fun K "__getitem__" "House.__getitem__" sHouseAt f fd) (c : HChk P w K mg base) : FnOk P w K mg base CX0 2 f fd ["self", "at"] (spItem C) := by
  obtain ⟨fM, fdM, gM, kM, bM, GM⟩ := c.chk.name
  refine F.ok scHI (fun vs H Q E h => ?_) (fun cdv A outer s H vs Q E hr h => ?_)
  · obtain ⟨a, z, N, rfl, _⟩ := h
    rfl
  · obtain ⟨a, z, N, rfl, hA, hz, hz2, k⟩ := h
    have hr2 : Room 1 _ := hr.mono (by decide)
    have hu : (A.deeper (envOfC "House.__getitem__" (defScope sHouseAt) s.heap.objs.size f cdv)).units + 1 < cLine := (by have := hr.units; omega)
    refine ⟨_, (pss_cons (ps_if (pt_not (pt_val (pe_call GM hr2 (by rfl) gM kM bM .nil pass0 (pa_cons (pv 1) pa_nil)))) (pss_one ps_never) pss_nil)
    (pss_one (ps_ret (pe_dget2 hu (pe_fld (pv 0) rfl) (pv 1) pe_int ⟨rfl, rfl, rfl, rfl⟩)))), ?_⟩
    refine ⟨_, rfl, _, rfl, .inl ⟨z, rfl, hz2, fun H1 s1 => ⟨_, rfl, ?_⟩⟩⟩
    rw [hz]
    refine iteF ?_
    obtain ⟨dx, fs, d, kvs, h1, h2, h3, h4⟩ := hA.same s1
    refine ⟨_, rfl, a, C, dx, fs, .ref d, rfl, h1, hc.cls, hc.n1, h2, d, rfl, .inl ⟨kvs, h3⟩, _, rfl, _, h4.get h3 z, ?_⟩
    have e : ((N z).map V.int).getD (.int 0) = .int ((N z).getD 0) := by cases N z <;> rfl
    rw [e]
    exact k H1 s1
end
end K10
end
section
set_option pp.maxSteps 400
set_option pp.deepTerms.threshold 6
/-! Houses with their bays in order: what is made, walks, sums, comparisons. -/
namespace K10
open PySem PySem.Spec PyProof.Rows L2
abbrev sHIter : Stmt := mth 18 12
abbrev sHLen : Stmt := mth 18 11
abbrev sHAdd : Stmt := mth 18 14
abbrev sHSub : Stmt := mth 18 15
abbrev sHAnd : Stmt := mth 18 20
abbrev sHOr : Stmt := mth 18 21
abbrev sHEq : Stmt := mth 18 22
abbrev sHLe : Stmt := mth 18 23
abbrev sHLt : Stmt := mth 18 24
abbrev sHGe : Stmt := mth 18 25
abbrev sHGt : Stmt := mth 18 26
abbrev sBaysOf : Stmt := top 20
/-- a house: its numbers ascending by bay, its bays -/
def HAt (C : Addr) (H : Hp) (a : Addr) (ps : List Pk) : Prop := ∃ (dx : Addr) (fs : List (Str × V)) (d b : Addr), H a = some (.ins C dx fs) ∧ fs.lookup ("_numbers" : Str) = some (.ref d) ∧ fs.lookup ("_bays" : Str) = some (.ref b) ∧ H d = some (.dK (tabL ps)) ∧ H b = some (.tup (ps.map fun p => V.str p.1))
theorem HAt.same {C : Addr} {H H' : Hp} {a : Addr} {ps : List Pk} (h : HAt C H a ps) (s : Same H H') : HAt C H' a ps := by
  obtain ⟨dx, fs, d, b, h1, h2, h3, h4, h5⟩ := h
  exact ⟨dx, fs, d, b, s _ _ h1, h2, h3, s _ _ h4, s _ _ h5⟩
theorem HAt.house {C : Addr} {H : Hp} {a : Addr} {ps : List Pk} (h : HAt C H a ps) : HouseAt C H a (lookL ps) := by
  obtain ⟨dx, fs, d, b, h1, h2, _, h4, _⟩ := h
  exact ⟨dx, fs, d, _, h1, h2, .inl h4, tabOf_list ps⟩
/-- some names -/
structure NS (ns : List Str) : Prop where
  nm : ∀ z ∈ ns, nameB z = true ∧ z.length ≤ 8
  le : ns.length ≤ 20
/-- a house over some names, by its numbers -/
def HouseF (C : Addr) (ns : List Str) (H : Hp) (a : Addr) (F : Str → Int) : Prop := ∃ ps, HAt C H a ps ∧ HNorm ps ∧ (∀ z, valL ps z = F z) ∧ (∀ z, F z ≠ 0 → z ∈ ns) ∧ ∀ z, F z ≤ topN
section
variable {C : Addr} {ns : List Str} {H H' : Hp} {a : Addr} {F G : Str → Int}
theorem HouseF.same (h : HouseF C ns H a F) (s : Same H H') : HouseF C ns H' a F := by
  obtain ⟨ps, h1, h2⟩ := h
  exact ⟨ps, h1.same s, h2⟩
theorem HouseF.nn (h : HouseF C ns H a F) (z : Str) : 0 ≤ F z ∧ F z ≤ topN := by
  obtain ⟨ps, _, n, e, _, t⟩ := h
  exact ⟨e z ▸ valL_nn n z, t z⟩
theorem HouseF.out (h : HouseF C ns H a F) (z : Str) : F z ≠ 0 → z ∈ ns := by
  obtain ⟨ps, _, n, e, o, t⟩ := h
  exact o z
theorem HouseF.cast (h : HouseF C ns H a F) (e : ∀ z, F z = G z) : HouseF C ns H a G := by
  rw [← funext e]
  exact h
theorem HouseF.ins (h : HouseF C ns H a F) : ∃ dx fs, H a = some (.ins C dx fs) := by
  obtain ⟨ps, ⟨dx, fs, d, b, h1, _⟩, _⟩ := h
  exact ⟨dx, fs, h1⟩
theorem HouseF.own (h : HouseF C ns H a F) (n : NS ns) : ∃ (dx l : Addr) (fs : List (Str × V)) (xs : List Str), H a = some (.ins C dx fs) ∧ fs.lookup ("_bays" : Str) = some (.ref l) ∧ H l = some (.tup (xs.map V.str)) ∧ xs.Nodup ∧ xs.length ≤ 20 ∧ (∀ z ∈ xs, z ∈ ns) ∧ ∀ z, z ∈ xs ↔ F z ≠ 0 := by
  obtain ⟨ps, ⟨dx, fs, d, b, h1, h2, h3, h4, h5⟩, nm, e, o, t⟩ := h
  have mem : ∀ z, z ∈ ps.map (·.1) ↔ F z ≠ 0 := fun z => by
    rw [valL_mem nm, e z]
    have := valL_nn nm z
    rw [e z] at this
    omega
  have sub : ∀ z ∈ ps.map (·.1), z ∈ ns := fun z hz => o z ((mem z).mp hz)
  refine ⟨dx, b, fs, ps.map (·.1), h1, h3, ?_, nm.nd, Nat.le_trans (nodup_len nm.nd sub) n.le, sub, mem⟩
  rw [h5, List.map_map]
  rfl
end
def spTold2 : Sp := fun vs H Q _ => ∃ (a : Addr) (kvs : List (Key × V)) (xs : List Str) (N : Str → Option Int), vs = [.ref a] ∧ Rd H a (.dK kvs) ∧ kvs.map (·.1) = xs.map Sum.inr ∧ xs.length < 64 ∧ TabOf kvs N ∧
  (∀ z v, N z = some v → 0 ≤ v ∧ v ≤ 10 ^ 60 - 1) ∧ ∀ (ps : List Pk) (p : Addr) (H' : Hp), HNorm ps → (∀ z, valL ps z = (N z).getD 0) → ps.length < 64 → H p = none → Same H H' → H' p = some (.dK (tabL ps)) → Q (.ref p) H'
def spWith2 (C : Addr) : Sp := fun vs H Q _ => ∃ (t : Addr) (kvs : List (Key × V)) (xs : List Str) (N : Str → Option Int), vs = [.ref t] ∧ Rd H t (.dK kvs) ∧ kvs.map (·.1) = xs.map Sum.inr ∧ xs.length < 64 ∧ TabOf kvs N ∧
  (∀ z v, N z = some v → 0 ≤ v ∧ v ≤ 10 ^ 60 - 1) ∧ ∀ a H' ps, H a = none → Same H H' → HAt C H' a ps → HNorm ps → (∀ z, valL ps z = (N z).getD 0) → Q (.ref a) H'
def spOf2 (C : Addr) : Sp := fun vs H Q _ => ∃ (c : V) (t : Addr) (kvs : List (Key × V)) (xs : List Str) (N : Str → Option Int), vs = [c, .ref t] ∧ H t = some (.dK kvs) ∧ kvs.map (·.1) = xs.map Sum.inr ∧ xs.length < 64 ∧ (∀ z ∈ xs, nameB z = true ∧ z.length ≤ 1000) ∧ TabOf kvs N ∧
  (∀ z v, N z = some v → 0 ≤ v ∧ v ≤ 10 ^ 60 - 1) ∧ ∀ a H' ps, H a = none → Same H H' → HAt C H' a ps → HNorm ps → (∀ z, valL ps z = (N z).getD 0) → Q (.ref a) H'
/-- the house of a table of names -/
theorem with_map {C t : Addr} {H : Hp} {ys ns : List Str} {g : Str → Int} {Q : VK} {E : XK} (et : H t = some (.dK (tabL (mapL ys g)))) (nd : ys.Nodup) (l : ys.length < 64) (g0 : ∀ z, 0 ≤ g z ∧ g z ≤ topN) (out : ∀ z, g z ≠ 0 → z ∈ ys) (sub : ∀ z, g z ≠ 0 → z ∈ ns)
    (q : ∀ r H', H r = none → Same H H' → HouseF C ns H' r g → Q (.ref r) H') : spWith2 C [.ref t] H Q E := by
  have val : ∀ z, (lookL (mapL ys g) z).getD 0 = g z := fun z => by
    rw [mapL_look nd]
    by_cases c : z ∈ ys
    · rw [if_pos c]
      rfl
    · rw [if_neg c]
      by_cases e : g z = 0
      · rw [e]
        rfl
      · exact absurd (out z e) c
  refine ⟨t, _, ys, lookL (mapL ys g), rfl, .inl et, by rw [tabL_keys, mapL_keys], l, tabOf_list _, fun z v e => ?_, fun r H' ps hr s hA n e => q r H' hr s ⟨ps, hA, n, fun z => by rw [e z, val z], sub, fun z => (g0 z).2⟩⟩
  rw [mapL_look nd] at e
  split at e
  · cases e
    exact g0 z
  · cases e
theorem item_F {C a : Addr} {H : Hp} {ns : List Str} {F : Str → Int} {z : Str} {Q : VK} {E : XK} (n : NS ns) (h : HouseF C ns H a F) (hz : z ∈ ns) (q : ∀ H', Same H H' → Q (.int (F z)) H') : ∃ (p dx : Addr) (fs : List (Str × V)), V.ref a = .ref p ∧ H p = some (.ins C dx fs) ∧ spItem C [.ref p, .str z] H Q E := by
  obtain ⟨dx, fs, e⟩ := h.ins
  obtain ⟨ps, hA, nm, ev, o, t⟩ := h
  refine ⟨a, dx, fs, rfl, e, a, z, lookL ps, rfl, hA.house, (n.nm z hz).1, Nat.le_trans (n.nm z hz).2 (by decide), fun H' s => ?_⟩
  have : (lookL ps z).getD 0 = F z := ev z
  rw [this]
  exact q H' s
def spHH (C : Addr) (ok : Int → Int → Prop) (f : Int → Int → Int) : Sp := fun vs H Q _ => ∃ (a b : Addr) (ns : List Str) (F G : Str → Int), vs = [.ref a, .ref b] ∧ NS ns ∧ HouseF C ns H a F ∧ HouseF C ns H b G ∧ (∀ z, ok (F z) (G z)) ∧ ∀ r H', H r = none → Same H H' → HouseF C ns H' r (fun z => f (F z) (G z)) → Q (.ref r) H'
def spCmpH (C : Addr) (R : List Str → (Str → Int) → (Str → Int) → Bool) : Sp := fun vs H Q _ => ∃ (a b : Addr) (ns : List Str) (F G : Str → Int), vs = [.ref a, .ref b] ∧ NS ns ∧ HouseF C ns H a F ∧ HouseF C ns H b G ∧ ∀ H', Same H H' → Q (.bl (R ns F G)) H'
def spEqH (C : Addr) : Sp := fun vs H Q _ => ∃ (a b : Addr) (ns : List Str) (F G : Str → Int), vs = [.ref a, .ref b] ∧ NS ns ∧ HouseF C ns H a F ∧ HouseF C ns H b G ∧ Q (.bl (eqB ns F G)) H
def spBo (C : Addr) : Sp := fun vs H Q _ => ∃ (a b : Addr) (ns : List Str) (F G : Str → Int), vs = [.ref a, .ref b] ∧ NS ns ∧ HouseF C ns H a F ∧ HouseF C ns H b G ∧ ∀ (ys : List Str) (p : Addr) (H' : Hp), ys.Nodup → ys.length < 64 → (∀ z, z ∈ ys ↔ F z ≠ 0 ∨ G z ≠ 0) → H p = none → Same H H' → H' p = some (.lst (ys.map V.str)) → Q (.ref p) H'
section
variable {P : Program} {w : World} {K : PySem.W.Frag} {mg : Str → Option Value} {base : Heap}
theorem ok_told2 {f fN fA fW : Addr} {fd fdN fdA fdW : FuncData} (F : Fun K "numbers_told" "numbers_told" sTold f fd) (T : Nm2 mg) (T3 : Nm3 mg) (FA : Fun K "ascending" "ascending" sAsc fA fdA) (FN : Fun K "is_number" "is_number" sNumber fN fdN) (FW : Fun K "is_within" "is_within" sWithin fW fdW)
    (gW : mg "is_within" = some (.ref fW)) (gA : mg "ascending" = some (.ref fA)) (gN : mg "is_number" = some (.ref fN)) : FnOk P w K mg base CX0 3 f fd ["table"] spTold2 := by
  have GN : FnOk P w K mg base CX0 2 fN fdN ["value"] spNumber := ok_number FN T FW gW
  have bN : Binds K fdN ["value"] [] := FN.binds fun _ _ _ _ _ _ us hl => match us, hl with | [_], _ => rfl
  have GA : FnOk P w K mg base CX0 1 fA fdA ["things"] (spAsc K) := ok_asc FA T3
  have bA : Binds K fdA ["things"] [] := FA.binds fun _ _ _ _ _ _ us hl => match us, hl with | [_], _ => rfl
  refine F.ok scT (fun vs H Q E h => ?_) (fun cdv A outer s H vs Q E hr h => ?_)
  · obtain ⟨a, kvs, xs, N, rfl, _⟩ := h
    rfl
  · obtain ⟨a, kvs, xs, N, rfl, ha, ek, hl, tb, hn, k⟩ := h
    have hu : (A.deeper (envOfC "numbers_told" (defScope sTold) s.heap.objs.size f cdv)).units + 1 < cLine := (by have := hr.units; omega)
    have hr1 : Room 1 _ := hr.mono (by decide)
    refine ⟨_, (pss_cons (ps_set (i := 1) scT.nd rfl (Or.inl rfl) (pe_call GA hr1 (by rfl) gA FA.kp bA .nil pass0 (pa_cons (pv 0) pa_nil)))
    (pss_cons (ps_for PassesOwn.never rfl (pi_list (pv 1)) (pg_name (i := 2) scT.nd rfl (Or.inl rfl)) (pss_one (ps_if (pt_not (pt_val (pe_call GN hr (by rfl) gN FN.kp bN .nil pass0 (pa_cons (pe_dget hu (pv 0) (pv 2) (fun _ _ => rfl)) pa_nil)))) (pss_one ps_never) pss_nil)))
    (pss_one (ps_ret (pe_dc (own := [("key", 2)]) rfl scT.nd (pi_list (pv 1)) (blkOk_by (own := [("key", 2)]) (N := nTold) (sc := defScope sTold) (by decide +kernel)) (fun _ _ _ _ _ => (pg_name (i := 2) scT.nd rfl (Or.inl rfl))) (fun _ _ _ _ _ => pts_one (pt_cmpR op_gt (pe_dget hu (pv 0) (pv 2) (fun _ _ => rfl)) pe_int (nomark _))) (fun _ _ _ _ _ => (pv 2)) (fun _ _ _ _ _ => (pe_dget hu (pv 0) (pv 2) (fun _ _ => rfl)))))))), ?_⟩
    refine ⟨_, rfl, a, xs, rfl, ?_, hl, fun ys p H1 pm srt hp s1 e1 => ?_⟩
    · exact .inr (.inr ⟨kvs, ha, ek⟩)
    have hlen : ys.length < 64 := Nat.lt_of_le_of_lt (Nat.le_of_eq pm.length_eq) (Nat.lt_of_le_of_lt (TSet.ded_len xs) hl)
    have hys : ∀ z, z ∈ ys ↔ (N z).isSome = true := fun z => (pm.mem_iff.trans (TSet.ded_mem xs z)).trans (tb.mem ek z)
    have hnd : ys.Nodup := pm.nodup_iff.mpr (TSet.ded_nodup xs)
    have hat : ∀ i z, ys[i]? = some z → ∃ v, N z = some v ∧ 0 ≤ v ∧ v ≤ 10 ^ 60 - 1 := fun i z hz => by
      obtain ⟨v, hv⟩ := Option.isSome_iff_exists.mp ((hys z).mp (List.mem_of_getElem? hz))
      exact ⟨v, hv, hn z v hv⟩
    have ha1 : Rd H1 a (.dK kvs) := ha.elim (fun e => .inl (s1 a _ e)) fun ⟨o, e⟩ => .inr ⟨o, s1 a _ e⟩
    refine ⟨_, rfl, p, rfl, ⟨_, SqL.of e1⟩, ?_⟩
    refine for_it (walk_list (xs := ys.map V.str)) (fun i σ H' => H1 = H' ∧ ∃ x, σ = [some (.ref a), some (.ref p), x]) ⟨rfl, _, rfl⟩ (fun i σ H' _ q => q.1 ▸ SqL.of e1) (fun i x σ H' H2 hi q y => ?_) (fun σ H' q => ?_)
    · obtain ⟨rfl, x0, rfl⟩ := q
      obtain ⟨rfl, hx⟩ := y
      rw [List.getElem?_map] at hx
      obtain ⟨z, hz, rfl⟩ := Option.map_eq_some_iff.mp hx
      obtain ⟨v, hv, v0, v1⟩ := hat i z hz
      refine ⟨_, rfl, _, rfl, a, .int v, rfl, ?_, v, rfl, _, rfl, ?_⟩
      · have g := tb.get ha1 z
        rw [hv] at g
        exact g
      rw [decide_eq_true v0, decide_eq_true v1]
      exact ⟨rfl, _, rfl⟩
    · obtain ⟨rfl, x0, rfl⟩ := q
      refine ⟨_, rfl, p, rfl, ⟨_, SqL.of e1⟩, fun D hD => ?_⟩
      have nD : p ≠ D := ne_of_none e1 hD
      refine OwR.dc_it (walk_list (xs := ys.map V.str)) (fun i H2 => Same H1 H2 ∧ H2 D = some (.dK (tabL (mkL (ys.take i) fun z => (N z).getD 0)))) ⟨Same.of_new hD, upd_same⟩ (fun i H2 _ q => SqL.of (q.1 p _ e1)) (fun i x H2 H3 hi q y => ?_) (fun H2 q => ?_)
      · obtain ⟨s2, er⟩ := q
        obtain ⟨rfl, hx⟩ := y
        rw [List.getElem?_map] at hx
        obtain ⟨z, hz, rfl⟩ := Option.map_eq_some_iff.mp hx
        obtain ⟨v, hv, v0, v1⟩ := hat i z hz
        have ha2 : Rd H3 a (.dK kvs) := ha1.elim (fun e => .inl (s2 a _ e)) fun ⟨o, e⟩ => .inr ⟨o, s2 a _ e⟩
        have g := tb.get ha2 z
        rw [hv] at g
        have hi2 : i < ys.length := by rw [List.length_map] at hi; exact hi
        have hz0 := at_new hnd hz
        have hF : (N z).getD 0 = v := by rw [hv]; rfl
        have lm : (tabL (mkL (ys.take i) fun z => (N z).getD 0)).length ≤ i := by
          unfold tabL mkL
          rw [List.length_map, List.length_map]
          refine Nat.le_trans (List.length_filter_le _ _) ?_
          rw [List.length_take]
          omega
        refine ⟨rfl, ?_⟩
        refine ⟨_, rfl, _, rfl, a, .int v, rfl, g, v, 0, rfl, rfl, _, rfl, ?_⟩
        by_cases c : 0 < v
        · rw [decide_eq_true c]
          refine iteT ?_
          refine ⟨_, rfl, _, rfl, _, rfl, a, .int v, rfl, g, ?_⟩
          refine ⟨_, Sum.inr z, rfl, er, Nat.lt_of_le_of_lt lm (by have := sizeLine_eq; omega), ?_⟩
          refine ⟨fun b o e => ?_, ?_⟩
          · rw [upd_ne (ne_of_none e hD)]
            exact s2 b o e
          · rw [put_tab v (by rw [mkL_keys]; exact fun h => hz0 (List.mem_filter.mp h).1), mkL_yes hz (by rw [hF]; exact c), hF]
            exact upd_same
        · rw [decide_eq_false c]
          refine iteF ?_
          refine ⟨s2, ?_⟩
          rw [mkL_no hz (by rw [hF]; exact c)]
          exact er
      · obtain ⟨s2, er⟩ := q
        rw [List.length_map, List.take_length] at er
        have nn : ∀ z, 0 ≤ (N z).getD 0 := fun z => by
          cases h8 : N z with
          | none => exact Int.le_refl 0
          | some u => exact (hn z u h8).1
        refine k _ D H2 (mkL_norm srt hnd) (mkL_val hnd (fun z c => (hys z).mpr ?_) nn) ?_ (s1.free hD) (s1.trans s2) er
        · cases h8 : N z with
          | none => rw [h8] at c; exact absurd rfl c
          | some u => rfl
        · unfold mkL
          rw [List.length_map]
          exact Nat.lt_of_le_of_lt (List.length_filter_le _ _) hlen
theorem HChk.told2 (c : HChk P w K mg base) : ∃ f fd, mg "numbers_told" = some (.ref f) ∧ PySem.W.keepIn K (.ref f) = true ∧ Binds K fd ["table"] [] ∧ FnOk P w K mg base CX0 3 f fd ["table"] spTold2 := by
  obtain ⟨f, fd, g, F⟩ := c.to
  obtain ⟨f1, fd1, g1, F1⟩ := c.chk.as
  obtain ⟨f2, fd2, g2, F2⟩ := c.nu
  obtain ⟨f3, fd3, g3, F3⟩ := c.chk.wi
  exact ⟨f, fd, g, F.kp, F.binds fun _ _ _ _ _ _ us hl => match us, hl with | [_], _ => rfl, ok_told2 F c.chk.T c.chk.T3 F1 F2 F3 g3 g1 g2⟩
theorem ok_with2 {C f fH : Addr} {fd fdH : FuncData} (hc : HouseC K C) (FH : Fun K "__init__" "House.__init__" sHouse0 fH fdH) (MH : Mk K C fH) (gH : mg "House" = some (.ref C)) (F : Fun K "house_with" "house_with" sWith f fd) (c : HChk P w K mg base) : FnOk P w K mg base CX0 6 f fd ["table"] (spWith2 C) := by
  obtain ⟨fT, fdT, gT, kT, bT, GT⟩ := c.told2
  have GH := ok_H0 (P := P) (w := w) (mg := mg) (base := base) hc FH c
  refine F.ok scWi (fun vs H Q E h => ?_) (fun cdv A outer s H vs Q E hr h => ?_)
  · obtain ⟨a, kvs, xs, N, rfl, _⟩ := h
    rfl
  · obtain ⟨a, kvs, xs, N, rfl, ha, ek, hl, tb, hn, k⟩ := h
    have hr3 : Room 3 _ := hr.mono (by decide)
    refine ⟨_, (pss_cons (ps_set (i := 1) scWi.nd rfl (Or.inl rfl) (OwR.pe_makeR0 MH GH hr (by rfl) gH pass0))
    (pss_cons (ps_fld (pv 1) (pe_call GT hr3 (by rfl) gT kT bT .nil pass0 (pa_cons (pv 0) pa_nil)) rfl)
    (pss_cons (ps_fld (pv 1) (pe_callTy (OwR.call_tupleD rfl) (by rfl) c.chk.T4.n_tuple (by decide +kernel) (pa_cons (pe_fld (pv 1) rfl) pa_nil)) rfl)
    (pss_one (ps_ret (pv 1)))))), ?_⟩
    refine fun x dx h1 h2 nd => ⟨x, dx, rfl, upd_same, fun H1 fs s1 e1 l1 _ => ⟨rfl, ?_⟩⟩
    have sm := made_same h1 h2 s1
    refine ⟨_, rfl, a, kvs, xs, N, rfl, Same.rd sm ha, ek, hl, tb, hn, fun ps q H2 nps vps lps hq s2 e2 => ?_⟩
    have ex2 := s2 x _ e1
    have nq : q ≠ x := fun e => by
      rw [e, e1] at hq
      cases hq
    refine ⟨_, rfl, x, C, dx, fs, rfl, ex2, hc.cls, hc.n1, by omega, ?_⟩
    have lk1 : (putF ("_numbers" : Str) (V.ref q) fs).lookup ("_numbers" : Str) = some (.ref q) := by
      rw [lookup_putF, if_pos rfl]
    refine ⟨_, rfl, x, C, dx, _, .ref q, rfl, upd_same, hc.cls, hc.n1, lk1, ?_⟩
    refine ⟨q, tabL ps, rfl, .inl (by rw [upd_ne nq]; exact e2), fun r hr0 => ?_⟩
    have nr : x ≠ r := fun e => by
      rw [← e, upd_same] at hr0
      cases hr0
    refine ⟨_, rfl, x, C, dx, _, rfl, by rw [upd_ne nr]; exact upd_same, hc.cls, hc.n2, by have := length_putF ("_numbers" : Str) (V.ref q) fs; omega, ?_⟩
    refine ⟨_, rfl, ?_⟩
    have nqr : q ≠ r := fun z => by
      rw [← z, upd_ne nq, e2] at hr0
      cases hr0
    refine k x _ ps h1 (fun b o e => ?_) ⟨dx, _, q, r, upd_same, ?_, ?_, ?_, ?_⟩ nps vps
    · have n := ne_of_none e h1
      have hb2 := s2 b _ (sm b _ e)
      have nb : b ≠ r := fun z => by
        rw [← z, upd_ne n, hb2] at hr0
        cases hr0
      rw [upd_ne n, upd_ne nb, upd_ne n]
      exact hb2
    · rw [lookup_putF, if_neg (by decide)]
      exact lk1
    · rw [lookup_putF, if_pos rfl]
    · rw [upd_ne nq, upd_ne nqr, upd_ne nq]
      exact e2
    · rw [upd_ne (Ne.symm nr), upd_same]
      unfold tabL
      rw [List.map_map]
      rfl
theorem ok_Of2 {C f fH fW : Addr} {fd fdH fdW : FuncData} (hc : HouseC K C) (FH : Fun K "__init__" "House.__init__" sHouse0 fH fdH) (MH : Mk K C fH) (gH : mg "House" = some (.ref C)) (FW : Fun K "house_with" "house_with" sWith fW fdW) (gW : mg "house_with" = some (.ref fW)) (F : Fun K "of" "House.of" sHouseOf f fd) (c : HChk P w K mg base) (n_dict : mg "dict" = none) : FnOk P w K mg base CX0 7 f fd ["cls", "table"] (spOf2 C) := by
  have GW : FnOk P w K mg base CX0 6 fW fdW ["table"] (spWith2 C) := ok_with2 hc FH MH gH FW c
  have bW : Binds K fdW ["table"] [] := FW.binds fun _ _ _ _ _ _ us hl => match us, hl with | [_], _ => rfl
  obtain ⟨fM, fdM, gM, kM, bM, GM⟩ := c.chk.name
  refine F.ok scHO (fun vs H Q E h => ?_) (fun cdv A outer s H vs Q E hr h => ?_)
  · obtain ⟨c, t, kvs, xs, N, rfl, _⟩ := h
    rfl
  · obtain ⟨c0, t, kvs, xs, N, rfl, ht, ek, hl, hg, tb, hn, k⟩ := h
    have hr2 : Room 1 _ := hr.mono (by decide)
    refine ⟨_, (pss_cons (ps_if (pt_not (pt_val (pe_callB call_isi (by rfl) c.chk.T.n_isinstance (by decide +kernel) (pa_cons (pv 1) (pa_cons (pe_bltn (v := .ty "dict") (by rfl) n_dict (by decide +kernel) rfl) pa_nil))))) (pss_one ps_never) pss_nil)
    (pss_cons (ps_lock (ps_for PassesOwn.never rfl (pi_keys (pv 1)) (pg_name (i := 2) scHO.nd rfl (Or.inl rfl)) (pss_one (ps_if (pt_not (pt_val (pe_call GM hr2 (by rfl) gM kM bM .nil pass0 (pa_cons (pv 2) pa_nil)))) (pss_one ps_never) pss_nil))))
    (pss_one (ps_ret (pe_call GW hr (by rfl) gW FW.kp bW .nil pass0 (pa_cons (pv 1) pa_nil)))))), ?_⟩
    refine ⟨_, rfl, .ref t, .ty "dict", _, _, true, rfl, .ty _, .base (.dK ht), kit_ty (by decide +kernel), true, rfl, ?_⟩
    refine iteF ?_
    refine ⟨t, _, ht, True.intro, fun od => ?_⟩
    have hkl : kvs.length = xs.length := by
      have := congrArg List.length ek
      rw [List.length_map, List.length_map] at this
      exact this
    refine ⟨_, rfl, t, od, rfl, .inl ⟨kvs, upd_same, ?_⟩⟩
    refine for_it (walk_keys (kvs := kvs)) (fun i σ H' => Same (upd H t (.frz od (.dK kvs))) H' ∧ ∃ x, σ = [some c0, some (.ref t), x]) ⟨Same.refl _, _, rfl⟩ (fun i σ H' _ q => q.1 t _ upd_same) (fun i x σ H' H2 hi q y => ?_) (fun σ H' q => ?_)
    · obtain ⟨s1, x0, rfl⟩ := q
      obtain ⟨rfl, ky, v, hk, rfl⟩ := y
      have e1 : xs[i]?.map Sum.inr = some ky := by
        have e2 : (kvs.map (·.1))[i]? = some ky := by rw [List.getElem?_map, hk]; rfl
        rw [ek, List.getElem?_map] at e2
        exact e2
      obtain ⟨z, hz, rfl⟩ := Option.map_eq_some_iff.mp e1
      have g := hg z (List.mem_of_getElem? hz)
      refine ⟨_, rfl, _, rfl, .inl ⟨z, rfl, g.2, fun H3 s3 => ⟨_, rfl, ?_⟩⟩⟩
      rw [g.1]
      exact ⟨s1.trans s3, _, rfl⟩
    · obtain ⟨s1, x0, rfl⟩ := q
      refine ⟨s1 t _ upd_same, ?_⟩
      refine ⟨_, rfl, t, kvs, xs, N, rfl, .inl upd_same, ek, hl, tb, hn, fun a H2 ps ha s2 hA np vp => ?_⟩
      have s3 : Same H (upd H' t (.dK kvs)) := fun b o e => by
        by_cases n : b = t
        · subst n
          rw [upd_same, ← e, ht]
        · rw [upd_ne n]
          exact s1 b o (by rw [upd_ne n]; exact e)
      exact k a H2 ps (s3.free ha) (s3.trans s2) hA np vp
/-! ### walks over a house -/
theorem scHIt : FnScope ["self"] ["self"] (defScope sHIter) := ⟨rfl, rfl, rfl, by decide +kernel, rfl, by decide +kernel, by decide +kernel⟩
theorem ok_hiter {f : Addr} {fd : FuncData} (F : Fun K "__iter__" "House.__iter__" sHIter f fd) (n_iter : mg "iter" = none) (C : Addr) (c : OwR.OwnIt K C f "_bays") : OwR.FnSR P w K mg base CX0 1 f (OwR.spIt C K "_bays") := by
  have b : Binds K fd ["self"] [] := F.binds fun _ _ _ _ _ _ us hl => match us, hl with | [_], _ => rfl
  obtain ⟨oc, od, kV, doc, pm, an, cdv, ct, osl, rfl, lk, hcd⟩ := F.ex
  have len : ∀ (s : Shared) (vs : List V) (H : Hp) (Q : VK) (E : XK), OwR.spIt C K "_bays" s vs H Q E → vs.length = ([("self" : Str)]).length := fun s vs H Q E h => by
    obtain ⟨a, dx, l, fs, zs, rfl, _⟩ := h
    rfl
  refine OwR.FnS.raw (OwR.fn_ofS (k := 0) (sp := OwR.spIt C K "_bays") lk hcd scHIt len fun A outer s H vs Q E hr h => ?_) len b
  obtain ⟨a, dx, l, fs, zs, rfl, ha, hf, sq, q⟩ := h
  refine ⟨_, (pss_one (ps_ret (pe_callB OwR.call_iterTN (by rfl) n_iter (by decide +kernel) (pa_cons (pe_fld (pv 0) rfl) pa_nil)))), ?_⟩
  exact ⟨_, rfl, a, C, dx, fs, .ref l, rfl, ha, c.cls, c.na, hf, l, zs, rfl, sq, q⟩
theorem scHLn : FnScope ["self"] ["self"] (defScope sHLen) := ⟨rfl, rfl, rfl, by decide +kernel, rfl, by decide +kernel, by decide +kernel⟩
theorem ok_hlen {f fI : Addr} {fd : FuncData} (F : Fun K "__len__" "House.__len__" sHLen f fd) (T : Nm2 mg) (C : Addr) (c : OwR.OwnIt K C fI "_bays") : FnR P w K mg base CX0 1 f (OwR.spLn C K "_bays") := by
  refine OwR.raw0 (F.ok (k := 0) (ps := ["self"]) scHLn (fun vs H Q E h => ?_) (fun cdv A outer s H vs Q E hr h => ?_)) (F.binds fun _ _ _ _ _ _ us hl => match us, hl with | [_], _ => rfl)
  · obtain ⟨a, dx, l, fs, zs, rfl, _⟩ := h
    rfl
  · obtain ⟨a, dx, l, fs, zs, rfl, ha, hf, sq, q⟩ := h
    refine ⟨_, (pss_one (ps_ret (pe_callB call_len_seq (by rfl) T.n_len boot_len (pa_cons (pe_fld (pv 0) rfl) pa_nil)))), ?_⟩
    exact ⟨_, rfl, a, C, dx, fs, .ref l, rfl, ha, c.cls, c.na, hf, l, zs, rfl, .inr sq, q⟩
end
end K10
end
section
set_option pp.maxSteps 400
set_option pp.deepTerms.threshold 6
namespace K10
open PySem PySem.Spec PyProof.Rows L2
/-- what sums and comparisons of houses lean on -/
structure HOp (P : Program) (w : World) (K : PySem.W.Frag) (mg : Str → Option Value) (base : Heap) (C fAt fI fL : Addr) : Prop where
  chk : HChk P w K mg base
  hc : HouseC K C
  n_list : mg "list" = none
  it : OwR.OwnIt K C fI "_bays"
  ln : OwR.Len1 K C fL
  FIt : ∀ C, OwR.OwnIt K C fI "_bays" → OwR.FnSR P w K mg base CX0 1 fI (OwR.spIt C K "_bays")
  FLn : ∀ C, OwR.Len1 K C fL → OwR.OwnIt K C fI "_bays" → FnR P w K mg base CX0 1 fL (OwR.spLn C K "_bays")
  spc : OwR.Spc K C fAt "__getitem__"
  GI : FnR P w K mg base CX0 2 fAt (spItem C)
  wit : ∃ f fd, mg "house_with" = some (.ref f) ∧ Fun K "house_with" "house_with" sWith f fd ∧ FnOk P w K mg base CX0 6 f fd ["table"] (spWith2 C)
section
variable {P : Program} {w : World} {K : PySem.W.Frag} {mg : Str → Option Value} {base : Heap}
abbrev nBo : List Str := ["one", "other"]
theorem scBo : FnScope nBo ["one", "other"] (defScope sBaysOf) := ⟨rfl, rfl, rfl, by decide +kernel, rfl, by decide +kernel, by decide +kernel⟩
theorem ok_Bo {C fAt fI fL f : Addr} {fd : FuncData} (O : HOp P w K mg base C fAt fI fL) (F : Fun K "bays_of" "bays_of" sBaysOf f fd) : FnOk P w K mg base CX0 5 f fd ["one", "other"] (spBo C) := by
  obtain ⟨c, hc, n_list, it, ln, FIt, FLn, _, _, _⟩ := O
  obtain ⟨fA, fdA, gA, kA, bA, GA⟩ := c.chk.asc
  refine F.ok scBo (fun vs H Q E h => ?_) (fun cdv A outer s H vs Q E hr h => ?_)
  · obtain ⟨a, b, ns, F, G, rfl, _⟩ := h
    rfl
  · obtain ⟨a, b, ns, F, G, rfl, n, hF, hG, k⟩ := h
    have hr1 : Room 1 _ := hr.mono (by decide)
    have hr4 : Room (1 + 3) _ := hr.mono (by decide)
    refine ⟨_, (pss_one (ps_ret (pe_call GA hr1 (by rfl) gA kA bA .nil pass0 (pa_cons (pe_op op_cat (pe_callTy (OwR.call_listO FIt FLn rfl hr4) (by rfl) n_list (by decide +kernel) (pa_cons (pv 0) pa_nil)) (pe_callTy (OwR.call_listO FIt FLn rfl hr4) (by rfl) n_list (by decide +kernel) (pa_cons (pv 1) pa_nil))) pa_nil)))), ?_⟩
    have sz := sizeLine_eq
    obtain ⟨dx, l, fs, xs, ea, lk, el, nd, le, sub, mem⟩ := hF.own n
    obtain ⟨dy, l2, gs, ys, eb, lk2, el2, nd2, le2, sub2, mem2⟩ := hG.own n
    refine ⟨_, rfl, a, C, dx, l, fs, _, rfl, ea, it, ln, lk, SqT.of el, fun q1 h1 => ?_⟩
    have s1 := Same.of_new (o := .lst (xs.map V.str)) h1
    refine ⟨_, rfl, b, C, dy, l2, gs, _, rfl, s1 _ _ eb, it, ln, lk2, SqT.of (s1 _ _ el2), fun q2 h2 => ?_⟩
    have s2 := Same.of_new (o := .lst (ys.map V.str)) h2
    refine ⟨q1, q2, _, _, rfl, rfl, s2 _ _ upd_same, upd_same, by rw [List.length_map, List.length_map]; omega, fun q3 h3 => ?_⟩
    have s3 := Same.of_new (o := .lst (xs.map V.str ++ ys.map V.str)) h3
    refine ⟨q3, xs ++ ys, rfl, .inl (SqL.of ?_), by rw [List.length_append]; omega, fun zs p H' pm srt hp s4 e4 => ?_⟩
    · rw [List.map_append]
      exact upd_same
    have s := (s1.trans s2).trans s3
    refine k zs p H' (pm.nodup_iff.mpr (TSet.ded_nodup _)) ?_ (fun z => ?_) (s.free hp) (s.trans s4) e4
    · have := TSet.ded_len (xs ++ ys)
      rw [pm.length_eq]
      rw [List.length_append] at this
      omega
    · rw [pm.mem_iff, TSet.ded_mem, List.mem_append, mem z, mem2 z]
abbrev nAdd : List Str := ["self", "other", "bay"]
theorem scAdd : FnScope nAdd ["self", "other"] (defScope sHAdd) := ⟨rfl, rfl, rfl, by decide +kernel, rfl, by decide +kernel, by decide +kernel⟩
theorem ok_add {C fAt fI fL fB f : Addr} {fdB fd : FuncData} (O : HOp P w K mg base C fAt fI fL) (FB : Fun K "bays_of" "bays_of" sBaysOf fB fdB) (gB : mg "bays_of" = some (.ref fB)) (F : Fun K "__add__" "House.__add__" sHAdd f fd) : FnR P w K mg base CX0 7 f (spHH C (fun x y => x + y ≤ topN) (fun x y => x + y)) := by
  obtain ⟨_, _, gW, FW, GW⟩ := O.wit
  have bW : Binds K _ ["table"] [] := FW.binds fun _ _ _ _ _ _ us hl => match us, hl with | [_], _ => rfl
  have cI := O.spc
  have GI := O.GI
  have FIt := O.FIt
  have GB : FnOk P w K mg base CX0 5 fB fdB ["one", "other"] (spBo C) := ok_Bo O FB
  have bB : Binds K fdB ["one", "other"] [] := FB.binds fun _ _ _ _ _ _ us hl => match us, hl with | [_, _], _ => rfl
  refine OwR.raw0 (F.ok (k := 6) (ps := ["self", "other"]) scAdd (fun vs H Q E h => ?_) (fun cdv A outer s H vs Q E hr h => ?_)) (F.binds fun _ _ _ _ _ _ us hl => match us, hl with | [_, _], _ => rfl)
  · obtain ⟨a, b, ns, F, G, rfl, _⟩ := h
    rfl
  · obtain ⟨a, b, ns, F, G, rfl, n, hF, hG, okz, k⟩ := h
    have hr6 : Room 6 _ := hr
    have hr5 : Room 5 _ := hr.mono (by decide)
    have hr3 : Room (2 + 1) _ := hr.mono (by decide)
    have hr1 : Room 1 _ := hr.mono (by decide)
    refine ⟨_, (pss_one (ps_ret (pe_call GW hr6 (by rfl) gW FW.kp bW .nil pass0 (pa_cons (pe_dc (own := [("bay", 2)]) rfl scAdd.nd (pi_list (pe_call GB hr5 (by rfl) gB FB.kp bB .nil pass0 (pa_cons (pv 0) (pa_cons (pv 1) pa_nil)))) (blkOk_by (own := [("bay", 2)]) (N := nAdd) (sc := defScope sHAdd) (by decide +kernel)) (fun _ _ _ _ _ => (pg_name (i := 2) scAdd.nd rfl (Or.inl rfl))) (fun _ _ _ _ _ => pts_nil) (fun _ _ _ _ _ => (pv 2)) (fun _ _ _ _ _ => (pe_op op_add (OwR.pe_item cI GI hr3 pass0 (pv 0) (pv 2)) (OwR.pe_item cI GI hr3 pass0 (pv 1) (pv 2))))) pa_nil)))), ?_⟩
    have sz := sizeLine_eq
    refine ⟨_, rfl, _, rfl, a, b, ns, F, G, rfl, n, hF, hG, fun ys p H1 nd ly mem hp sF ep => ?_⟩
    have subn : ∀ z ∈ ys, z ∈ ns := fun z hz => ((mem z).mp hz).elim (hF.out z) (hG.out z)
    refine ⟨p, rfl, ⟨_, SqL.of ep⟩, fun D hD => ?_⟩
    refine OwR.dc_it (walk_list (xs := ys.map V.str)) (fun i H2 => Same H1 H2 ∧ H2 D = some (.dK (tabL (mapL (ys.take i) (fun z => F z + G z))))) ⟨Same.of_new hD, upd_same⟩ (fun i H2 _ q => SqL.of (q.1 _ _ ep)) (fun i x H2 H3 hi q y => ?_) (fun H2 q => ?_)
    · obtain ⟨s2, er⟩ := q
      obtain ⟨rfl, hx⟩ := y
      rw [List.getElem?_map] at hx
      obtain ⟨z, hz, rfl⟩ := Option.map_eq_some_iff.mp hx
      have zn : z ∈ ns := subn z (List.mem_of_getElem? hz)
      have lm : (tabL (mapL (ys.take i) (fun z => F z + G z))).length ≤ i := by
        unfold tabL mapL
        rw [List.length_map, List.length_map, List.length_take]
        omega
      rw [List.length_map] at hi
      refine ⟨rfl, ?_⟩
      refine ⟨_, rfl, ?_⟩
      have hF2 := (hF.same sF).same s2
      have hG2 := (hG.same sF).same s2
      refine ⟨_, rfl, _, rfl, item_F n hF2 zn fun H4 s4 => ?_⟩
      refine ⟨_, rfl, _, rfl, item_F n (hG2.same s4) zn fun H5 s5 => ?_⟩
      have sE := s4.trans s5
      refine ⟨_, _, rfl, rfl, ?_⟩

      refine ⟨_, Sum.inr z, rfl, sE _ _ er, Nat.lt_of_le_of_lt lm (by omega), ?_⟩
      refine ⟨fun b o e => ?_, ?_⟩
      · rw [upd_ne (ne_of_none e hD)]
        exact sE _ _ (s2 b o e)
      · rw [mapL_snoc hz, put_tab _ (by rw [mapL_keys]; exact at_new nd hz)]
        exact upd_same
    · obtain ⟨s2, er⟩ := q
      rw [List.length_map, List.take_length] at er
      have nz : ∀ z, F z + G z ≠ 0 → F z ≠ 0 ∨ G z ≠ 0 := fun z c => by omega
      exact with_map (E := E0) er nd ly (fun z => ⟨by have := (hF.nn z).1; have := (hG.nn z).1; omega, okz z⟩) (fun z c => (mem z).mpr (nz z c)) (fun z c => (nz z c).elim (hF.out z) (hG.out z)) fun r H' hr s' hh => k r H' ((sF.trans s2).free hr) ((sF.trans s2).trans s') hh
abbrev nSub : List Str := ["self", "other", "bay"]
theorem scSub : FnScope nSub ["self", "other"] (defScope sHSub) := ⟨rfl, rfl, rfl, by decide +kernel, rfl, by decide +kernel, by decide +kernel⟩
theorem ok_sub {C fAt fI fL f : Addr} {fd : FuncData} (O : HOp P w K mg base C fAt fI fL) (F : Fun K "__sub__" "House.__sub__" sHSub f fd) : FnR P w K mg base CX0 7 f (spHH C (fun x y => y ≤ x) (fun x y => x - y)) := by
  obtain ⟨_, _, gW, FW, GW⟩ := O.wit
  have bW : Binds K _ ["table"] [] := FW.binds fun _ _ _ _ _ _ us hl => match us, hl with | [_], _ => rfl
  have cI := O.spc
  have GI := O.GI
  have FIt := O.FIt
  refine OwR.raw0 (F.ok (k := 6) (ps := ["self", "other"]) scSub (fun vs H Q E h => ?_) (fun cdv A outer s H vs Q E hr h => ?_)) (F.binds fun _ _ _ _ _ _ us hl => match us, hl with | [_, _], _ => rfl)
  · obtain ⟨a, b, ns, F, G, rfl, _⟩ := h
    rfl
  · obtain ⟨a, b, ns, F, G, rfl, n, hF, hG, okz, k⟩ := h
    have hr6 : Room 6 _ := hr
    have hr5 : Room 5 _ := hr.mono (by decide)
    have hr3 : Room (2 + 1) _ := hr.mono (by decide)
    have hr1 : Room 1 _ := hr.mono (by decide)
    refine ⟨_, (pss_cons (ps_for PassesOwn.never rfl (OwR.pi_own (pv 1) FIt hr1 pass0) (pg_name (i := 2) scSub.nd rfl (Or.inl rfl)) (pss_one (ps_if (pt_cmpR op_lt (OwR.pe_item cI GI hr3 pass0 (pv 0) (pv 2)) (OwR.pe_item cI GI hr3 pass0 (pv 1) (pv 2)) (nomark _)) (pss_one ps_never) pss_nil)))
    (pss_one (ps_ret (pe_call GW hr6 (by rfl) gW FW.kp bW .nil pass0 (pa_cons (pe_dc (own := [("bay", 2)]) rfl scSub.nd (OwR.pi_own (pv 0) FIt hr1 pass0) (blkOk_by (own := [("bay", 2)]) (N := nSub) (sc := defScope sHSub) (by decide +kernel)) (fun _ _ _ _ _ => (pg_name (i := 2) scSub.nd rfl (Or.inl rfl))) (fun _ _ _ _ _ => pts_nil) (fun _ _ _ _ _ => (pv 2)) (fun _ _ _ _ _ => (pe_op op_sub (OwR.pe_item cI GI hr3 pass0 (pv 0) (pv 2)) (OwR.pe_item cI GI hr3 pass0 (pv 1) (pv 2))))) pa_nil))))), ?_⟩
    have sz := sizeLine_eq
    obtain ⟨dx, l, fs, ys, ea, lk, el, nd, le, subn, mem⟩ := hF.own n
    obtain ⟨dy, l2, gs, xs, eb, lk2, el2, _, le2, subm, _⟩ := hG.own n
    refine ⟨_, rfl, b, C, dy, l2, gs, _, rfl, eb, O.it, lk2, SqT.of el2, ?_⟩
    refine for_it (walk_tup (xs := xs.map V.str)) (fun i σ H' => Same H H' ∧ ∃ x, σ = [some (.ref a), some (.ref b), x]) ⟨Same.refl _, _, rfl⟩ (fun i σ H' _ q => SqT.of (q.1 _ _ el2)) (fun i x σ H' H2 hi q y => ?_) (fun σ H1 q => ?_)
    · obtain ⟨sF, x0, rfl⟩ := q
      obtain ⟨rfl, hx⟩ := y
      rw [List.getElem?_map] at hx
      obtain ⟨z, hz, rfl⟩ := Option.map_eq_some_iff.mp hx
      have zn : z ∈ ns := subm z (List.mem_of_getElem? hz)
      refine ⟨_, rfl, _, rfl, item_F n (hF.same sF) zn fun H4 s4 => ?_⟩
      refine ⟨_, rfl, _, rfl, item_F n ((hG.same sF).same s4) zn fun H5 s5 => ?_⟩
      refine ⟨_, _, rfl, rfl, _, rfl, ?_⟩
      rw [decide_eq_false (by have := okz z; omega)]
      exact iteF ⟨(sF.trans s4).trans s5, _, rfl⟩
    obtain ⟨sF, x0, rfl⟩ := q
    refine ⟨_, rfl, a, C, dx, l, fs, _, rfl, sF _ _ ea, O.it, lk, SqT.of (sF _ _ el), fun D hD => ?_⟩
    refine OwR.dc_it (walk_tup (xs := ys.map V.str)) (fun i H2 => Same H1 H2 ∧ H2 D = some (.dK (tabL (mapL (ys.take i) (fun z => F z - G z))))) ⟨Same.of_new hD, upd_same⟩ (fun i H2 _ q => SqT.of (q.1 _ _ (sF _ _ el))) (fun i x H2 H3 hi q y => ?_) (fun H2 q => ?_)
    · obtain ⟨s2, er⟩ := q
      obtain ⟨rfl, hx⟩ := y
      rw [List.getElem?_map] at hx
      obtain ⟨z, hz, rfl⟩ := Option.map_eq_some_iff.mp hx
      have zn : z ∈ ns := subn z (List.mem_of_getElem? hz)
      have lm : (tabL (mapL (ys.take i) (fun z => F z - G z))).length ≤ i := by
        unfold tabL mapL
        rw [List.length_map, List.length_map, List.length_take]
        omega
      rw [List.length_map] at hi
      refine ⟨rfl, ?_⟩
      refine ⟨_, rfl, ?_⟩
      have hF2 := (hF.same sF).same s2
      have hG2 := (hG.same sF).same s2
      refine ⟨_, rfl, _, rfl, item_F n hF2 zn fun H4 s4 => ?_⟩
      refine ⟨_, rfl, _, rfl, item_F n (hG2.same s4) zn fun H5 s5 => ?_⟩
      have sE := s4.trans s5
      refine ⟨_, _, rfl, rfl, ?_⟩
      refine ⟨_, Sum.inr z, rfl, sE _ _ er, Nat.lt_of_le_of_lt lm (by omega), ?_⟩
      refine ⟨fun b o e => ?_, ?_⟩
      · rw [upd_ne (ne_of_none e hD)]
        exact sE _ _ (s2 b o e)
      · rw [mapL_snoc hz, put_tab _ (by rw [mapL_keys]; exact at_new nd hz)]
        exact upd_same
    · obtain ⟨s2, er⟩ := q
      rw [List.length_map, List.take_length] at er
      have nz : ∀ z, F z - G z ≠ 0 → F z ≠ 0 := fun z c => by
        have := okz z
        have := (hG.nn z).1
        omega
      exact with_map (E := E0) er nd (by omega) (fun z => ⟨by have := okz z; omega, by have := hF.nn z; have := (hG.nn z).1; omega⟩) (fun z c => (mem z).mpr (nz z c)) (fun z c => hF.out z (nz z c)) fun r H' hr s' hh => k r H' ((sF.trans s2).free hr) ((sF.trans s2).trans s') hh
abbrev nAnd : List Str := ["self", "other", "bay"]
theorem scAnd : FnScope nAnd ["self", "other"] (defScope sHAnd) := ⟨rfl, rfl, rfl, by decide +kernel, rfl, by decide +kernel, by decide +kernel⟩
theorem ok_and_ {C fAt fI fL f : Addr} {fd : FuncData} (O : HOp P w K mg base C fAt fI fL) (F : Fun K "__and__" "House.__and__" sHAnd f fd) : FnR P w K mg base CX0 7 f (spHH C (fun _ _ => True) (fun x y => if x < y then x else y)) := by
  obtain ⟨_, _, gW, FW, GW⟩ := O.wit
  have bW : Binds K _ ["table"] [] := FW.binds fun _ _ _ _ _ _ us hl => match us, hl with | [_], _ => rfl
  have cI := O.spc
  have GI := O.GI
  have FIt := O.FIt
  refine OwR.raw0 (F.ok (k := 6) (ps := ["self", "other"]) scAnd (fun vs H Q E h => ?_) (fun cdv A outer s H vs Q E hr h => ?_)) (F.binds fun _ _ _ _ _ _ us hl => match us, hl with | [_, _], _ => rfl)
  · obtain ⟨a, b, ns, F, G, rfl, _⟩ := h
    rfl
  · obtain ⟨a, b, ns, F, G, rfl, n, hF, hG, okz, k⟩ := h
    have hr6 : Room 6 _ := hr
    have hr5 : Room 5 _ := hr.mono (by decide)
    have hr3 : Room (2 + 1) _ := hr.mono (by decide)
    have hr1 : Room 1 _ := hr.mono (by decide)
    refine ⟨_, (pss_one (ps_ret (pe_call GW hr6 (by rfl) gW FW.kp bW .nil pass0 (pa_cons (pe_dc (own := [("bay", 2)]) rfl scAnd.nd (OwR.pi_own (pv 0) FIt hr1 pass0) (blkOk_by (own := [("bay", 2)]) (N := nAnd) (sc := defScope sHAnd) (by decide +kernel)) (fun _ _ _ _ _ => (pg_name (i := 2) scAnd.nd rfl (Or.inl rfl))) (fun _ _ _ _ _ => pts_nil) (fun _ _ _ _ _ => (pv 2)) (fun _ _ _ _ _ => (pe_ifExp (pt_cmpR op_lt (OwR.pe_item cI GI hr3 pass0 (pv 0) (pv 2)) (OwR.pe_item cI GI hr3 pass0 (pv 1) (pv 2)) (nomark _)) (OwR.pe_item cI GI hr3 pass0 (pv 0) (pv 2)) (OwR.pe_item cI GI hr3 pass0 (pv 1) (pv 2))))) pa_nil)))), ?_⟩
    have sz := sizeLine_eq
    obtain ⟨dx, l, fs, ys, ea, lk, el, nd, le, subn, mem⟩ := hF.own n
    refine ⟨_, rfl, a, C, dx, l, fs, _, rfl, ea, O.it, lk, SqT.of el, fun D hD => ?_⟩
    refine OwR.dc_it (walk_tup (xs := ys.map V.str)) (fun i H2 => Same H H2 ∧ H2 D = some (.dK (tabL (mapL (ys.take i) (fun z => if F z < G z then F z else G z))))) ⟨Same.of_new hD, upd_same⟩ (fun i H2 _ q => SqT.of (q.1 _ _ el)) (fun i x H2 H3 hi q y => ?_) (fun H2 q => ?_)
    · obtain ⟨s2, er⟩ := q
      obtain ⟨rfl, hx⟩ := y
      rw [List.getElem?_map] at hx
      obtain ⟨z, hz, rfl⟩ := Option.map_eq_some_iff.mp hx
      have zn : z ∈ ns := subn z (List.mem_of_getElem? hz)
      have lm : (tabL (mapL (ys.take i) (fun z => if F z < G z then F z else G z))).length ≤ i := by
        unfold tabL mapL
        rw [List.length_map, List.length_map, List.length_take]
        omega
      rw [List.length_map] at hi
      refine ⟨rfl, ?_⟩
      refine ⟨_, rfl, ?_⟩
      have hF2 := (hF.same (Same.refl _)).same s2
      have hG2 := (hG.same (Same.refl _)).same s2
      refine ⟨_, rfl, _, rfl, item_F n hF2 zn fun H4 s4 => ?_⟩
      refine ⟨_, rfl, _, rfl, item_F n (hG2.same s4) zn fun H5 s5 => ?_⟩
      have hF5 := (hF2.same s4).same s5
      have hG5 := (hG2.same s4).same s5
      refine ⟨_, _, rfl, rfl, _, rfl, ?_⟩
      refine ite2 (fun c => ?_) (fun c => ?_)
      · refine ⟨_, rfl, _, rfl, item_F n hF5 zn fun H6 s6 => ?_⟩
        have sE := (s4.trans s5).trans s6
        have eg : (if F z < G z then F z else G z) = F z := if_pos (of_decide_eq_true c)
        refine ⟨_, Sum.inr z, rfl, sE _ _ er, Nat.lt_of_le_of_lt lm (by omega), ?_⟩
        refine ⟨fun b o e => ?_, ?_⟩
        · rw [upd_ne (ne_of_none e hD)]
          exact sE _ _ (s2 b o e)
        · rw [mapL_snoc hz, put_tab _ (by rw [mapL_keys]; exact at_new nd hz)]
          rw [eg]
          exact upd_same
      · refine ⟨_, rfl, _, rfl, item_F n hG5 zn fun H6 s6 => ?_⟩
        have sE := (s4.trans s5).trans s6
        have eg : (if F z < G z then F z else G z) = G z := if_neg (fun h => c (decide_eq_true h))
        refine ⟨_, Sum.inr z, rfl, sE _ _ er, Nat.lt_of_le_of_lt lm (by omega), ?_⟩
        refine ⟨fun b o e => ?_, ?_⟩
        · rw [upd_ne (ne_of_none e hD)]
          exact sE _ _ (s2 b o e)
        · rw [mapL_snoc hz, put_tab _ (by rw [mapL_keys]; exact at_new nd hz)]
          rw [eg]
          exact upd_same
    · obtain ⟨s2, er⟩ := q
      rw [List.length_map, List.take_length] at er
      have nz : ∀ z, (if F z < G z then F z else G z) ≠ 0 → F z ≠ 0 := fun z c e => by
        have := (hG.nn z).1
        rw [e] at c
        split at c
        · exact c rfl
        · omega
      exact with_map (E := E0) er nd (by omega) (fun z => by
        have := hF.nn z
        have := hG.nn z
        split
        · exact hF.nn z
        · exact hG.nn z) (fun z c => (mem z).mpr (nz z c)) (fun z c => hF.out z (nz z c)) fun r H' hr s' hh => k r H' (s2.free hr) (s2.trans s') hh
abbrev nOr : List Str := ["self", "other", "bays", "bay"]
theorem scOr : FnScope nOr ["self", "other"] (defScope sHOr) := ⟨rfl, rfl, rfl, by decide +kernel, rfl, by decide +kernel, by decide +kernel⟩
theorem ok_or_ {C fAt fI fL fB f : Addr} {fdB fd : FuncData} (O : HOp P w K mg base C fAt fI fL) (FB : Fun K "bays_of" "bays_of" sBaysOf fB fdB) (gB : mg "bays_of" = some (.ref fB)) (F : Fun K "__or__" "House.__or__" sHOr f fd) : FnR P w K mg base CX0 7 f (spHH C (fun _ _ => True) (fun x y => if x > y then x else y)) := by
  obtain ⟨_, _, gW, FW, GW⟩ := O.wit
  have bW : Binds K _ ["table"] [] := FW.binds fun _ _ _ _ _ _ us hl => match us, hl with | [_], _ => rfl
  have cI := O.spc
  have GI := O.GI
  have FIt := O.FIt
  have GB : FnOk P w K mg base CX0 5 fB fdB ["one", "other"] (spBo C) := ok_Bo O FB
  have bB : Binds K fdB ["one", "other"] [] := FB.binds fun _ _ _ _ _ _ us hl => match us, hl with | [_, _], _ => rfl
  refine OwR.raw0 (F.ok (k := 6) (ps := ["self", "other"]) scOr (fun vs H Q E h => ?_) (fun cdv A outer s H vs Q E hr h => ?_)) (F.binds fun _ _ _ _ _ _ us hl => match us, hl with | [_, _], _ => rfl)
  · obtain ⟨a, b, ns, F, G, rfl, _⟩ := h
    rfl
  · obtain ⟨a, b, ns, F, G, rfl, n, hF, hG, okz, k⟩ := h
    have hr6 : Room 6 _ := hr
    have hr5 : Room 5 _ := hr.mono (by decide)
    have hr3 : Room (2 + 1) _ := hr.mono (by decide)
    have hr1 : Room 1 _ := hr.mono (by decide)
    refine ⟨_, (pss_cons (ps_set (i := 2) scOr.nd rfl (Or.inl rfl) (pe_call GB hr5 (by rfl) gB FB.kp bB .nil pass0 (pa_cons (pv 0) (pa_cons (pv 1) pa_nil))))
    (pss_one (ps_ret (pe_call GW hr6 (by rfl) gW FW.kp bW .nil pass0 (pa_cons (pe_dc (own := [("bay", 3)]) rfl scOr.nd (pi_list (pv 2)) (blkOk_by (own := [("bay", 3)]) (N := nOr) (sc := defScope sHOr) (by decide +kernel)) (fun _ _ _ _ _ => (pg_name (i := 3) scOr.nd rfl (Or.inl rfl))) (fun _ _ _ _ _ => pts_nil) (fun _ _ _ _ _ => (pv 3)) (fun _ _ _ _ _ => (pe_ifExp (pt_cmpR op_gt (OwR.pe_item cI GI hr3 pass0 (pv 0) (pv 3)) (OwR.pe_item cI GI hr3 pass0 (pv 1) (pv 3)) (nomark _)) (OwR.pe_item cI GI hr3 pass0 (pv 0) (pv 3)) (OwR.pe_item cI GI hr3 pass0 (pv 1) (pv 3))))) pa_nil))))), ?_⟩
    have sz := sizeLine_eq
    refine ⟨_, rfl, _, rfl, a, b, ns, F, G, rfl, n, hF, hG, fun ys p H1 nd ly mem hp sF ep => ?_⟩
    have subn : ∀ z ∈ ys, z ∈ ns := fun z hz => ((mem z).mp hz).elim (hF.out z) (hG.out z)
    refine ⟨_, rfl, p, rfl, ⟨_, SqL.of ep⟩, fun D hD => ?_⟩
    refine OwR.dc_it (walk_list (xs := ys.map V.str)) (fun i H2 => Same H1 H2 ∧ H2 D = some (.dK (tabL (mapL (ys.take i) (fun z => if F z > G z then F z else G z))))) ⟨Same.of_new hD, upd_same⟩ (fun i H2 _ q => SqL.of (q.1 _ _ ep)) (fun i x H2 H3 hi q y => ?_) (fun H2 q => ?_)
    · obtain ⟨s2, er⟩ := q
      obtain ⟨rfl, hx⟩ := y
      rw [List.getElem?_map] at hx
      obtain ⟨z, hz, rfl⟩ := Option.map_eq_some_iff.mp hx
      have zn : z ∈ ns := subn z (List.mem_of_getElem? hz)
      have lm : (tabL (mapL (ys.take i) (fun z => if F z > G z then F z else G z))).length ≤ i := by
        unfold tabL mapL
        rw [List.length_map, List.length_map, List.length_take]
        omega
      rw [List.length_map] at hi
      refine ⟨rfl, ?_⟩
      refine ⟨_, rfl, ?_⟩
      have hF2 := (hF.same sF).same s2
      have hG2 := (hG.same sF).same s2
      refine ⟨_, rfl, _, rfl, item_F n hF2 zn fun H4 s4 => ?_⟩
      refine ⟨_, rfl, _, rfl, item_F n (hG2.same s4) zn fun H5 s5 => ?_⟩
      have hF5 := (hF2.same s4).same s5
      have hG5 := (hG2.same s4).same s5
      refine ⟨_, _, rfl, rfl, _, rfl, ?_⟩
      refine ite2 (fun c => ?_) (fun c => ?_)
      · refine ⟨_, rfl, _, rfl, item_F n hF5 zn fun H6 s6 => ?_⟩
        have sE := (s4.trans s5).trans s6
        have eg : (if F z > G z then F z else G z) = F z := if_pos (of_decide_eq_true c)
        refine ⟨_, Sum.inr z, rfl, sE _ _ er, Nat.lt_of_le_of_lt lm (by omega), ?_⟩
        refine ⟨fun b o e => ?_, ?_⟩
        · rw [upd_ne (ne_of_none e hD)]
          exact sE _ _ (s2 b o e)
        · rw [mapL_snoc hz, put_tab _ (by rw [mapL_keys]; exact at_new nd hz)]
          rw [eg]
          exact upd_same
      · refine ⟨_, rfl, _, rfl, item_F n hG5 zn fun H6 s6 => ?_⟩
        have sE := (s4.trans s5).trans s6
        have eg : (if F z > G z then F z else G z) = G z := if_neg (fun h => c (decide_eq_true h))
        refine ⟨_, Sum.inr z, rfl, sE _ _ er, Nat.lt_of_le_of_lt lm (by omega), ?_⟩
        refine ⟨fun b o e => ?_, ?_⟩
        · rw [upd_ne (ne_of_none e hD)]
          exact sE _ _ (s2 b o e)
        · rw [mapL_snoc hz, put_tab _ (by rw [mapL_keys]; exact at_new nd hz)]
          rw [eg]
          exact upd_same
    · obtain ⟨s2, er⟩ := q
      rw [List.length_map, List.take_length] at er
      have nz : ∀ z, (if F z > G z then F z else G z) ≠ 0 → F z ≠ 0 ∨ G z ≠ 0 := fun z c => by
        split at c
        · exact .inl c
        · exact .inr c
      exact with_map (E := E0) er nd ly (fun z => by
        split
        · exact hF.nn z
        · exact hG.nn z) (fun z c => (mem z).mpr (nz z c)) (fun z c => (nz z c).elim (hF.out z) (hG.out z)) fun r H' hr s' hh => k r H' ((sF.trans s2).free hr) ((sF.trans s2).trans s') hh
end
/-- the class of houses, as isinstance asks -/
structure HouseK (K : PySem.W.Frag) (C : Addr) : Prop where
  hc : HouseC K C
  cl : PySem.W.findIn K (.ref C) "__class__" = some (some (.builtin "object.__class__"))
  cg : PySem.W.specialIn K (.builtin "object.__class__") "__get__" = some (some (.builtin "getset_descriptor.__get__"))
  ct : PySem.W.takesIn K (.builtin "object.__class__") = some true
  ob : PySem.W.mroIn K C (.type "object") = some true
  own : PySem.W.kitOne K (.ref C) (.ref C) = some true
theorem HouseK.ty {K : PySem.W.Frag} {C : Addr} (k : HouseK K C) {H : Hp} {a dx : Addr} {fs : List (Str × V)} (e : H a = some (.ins C dx fs)) : TyX K H (.ref a) (.ref C) := .base (.ins e k.hc.cls k.cl k.cg k.ct k.ob)
def spEqHO (K : PySem.W.Frag) (C : Addr) : Sp := fun vs H Q _ => ∃ (a : Addr) (y : V) (t : Value), vs = [.ref a, y] ∧ TyX K H y t ∧ PySem.W.kitOne K t (.ref C) = some false ∧ Q (.bl false) H
theorem intTab_list (ps : List Pk) : OwR.intTab (tabL ps) := fun p hp => by
  obtain ⟨q, _, rfl⟩ := List.mem_map.mp hp
  exact ⟨_, rfl⟩
/-- == of two tables of houses -/
theorem tab_eq {ns : List Str} {ps qs : List Pk} {F G : Str → Int} (n : HNorm ps) (m : HNorm qs) (e1 : ∀ z, valL ps z = F z) (e2 : ∀ z, valL qs z = G z) (o1 : ∀ z, F z ≠ 0 → z ∈ ns) (o2 : ∀ z, G z ≠ 0 → z ∈ ns) : ((tabL ps).length == (tabL qs).length && (tabL ps).all fun p => decide (valV (tabL qs) p.1 = some p.2)) = eqB ns F G := by
  by_cases c : ps = qs
  · subst c
    have h1 : ((tabL ps).all fun p => decide (valV (tabL ps) p.1 = some p.2)) = true := by
      refine List.all_eq_true.mpr fun p hp => ?_
      obtain ⟨q, hq, rfl⟩ := List.mem_map.mp hp
      refine decide_eq_true ?_
      show valV (tabL ps) (Sum.inr q.1) = some (V.int q.2)
      rw [(tabOf_list ps).1 q.1, lookL_some n.nd hq]
      rfl
    rw [h1, beq_self_eq_true, Bool.true_and]
    symm
    refine List.all_eq_true.mpr fun z _ => decide_eq_true ?_
    rw [← e1 z, ← e2 z]
  · have h2 : eqB ns F G = false := by
      cases h : eqB ns F G with
      | false => rfl
      | true =>
        refine absurd (norm_ext n m fun z => ?_) c
        rw [e1 z, e2 z]
        by_cases hz : z ∈ ns
        · exact of_decide_eq_true (List.all_eq_true.mp h z hz)
        · have a1 : F z = 0 := Classical.byContradiction fun x => hz (o1 z x)
          have a2 : G z = 0 := Classical.byContradiction fun x => hz (o2 z x)
          rw [a1, a2]
    rw [h2]
    cases h : ((tabL ps).length == (tabL qs).length && (tabL ps).all fun p => decide (valV (tabL qs) p.1 = some p.2)) with
    | false => rfl
    | true =>
      obtain ⟨h3, h4⟩ := Bool.and_eq_true_iff.mp h
      have hl : ps.length = qs.length := by
        have := beq_iff_eq.mp h3
        unfold tabL at this
        rw [List.length_map, List.length_map] at this
        exact this
      have sub : ∀ p ∈ ps, lookL qs p.1 = some p.2 := fun p hp => by
        have h5 := of_decide_eq_true (List.all_eq_true.mp h4 (Sum.inr p.1, V.int p.2) (List.mem_map.mpr ⟨p, hp, rfl⟩))
        have h6 : valV (tabL qs) (Sum.inr p.1) = some (V.int p.2) := h5
        rw [(tabOf_list qs).1 p.1] at h6
        obtain ⟨v, hv, e⟩ := Option.map_eq_some_iff.mp h6
        rw [hv, V.int.inj e]
      -- the keys of one are those of the other
      have k1 : ∀ z ∈ ps.map (·.1), z ∈ qs.map (·.1) := fun z hz => by
        obtain ⟨p, hp, rfl⟩ := List.mem_map.mp hz
        exact List.mem_map.mpr ⟨_, lookL_at (sub p hp), rfl⟩
      have k2 : ∀ z, z ∈ qs.map (·.1) → z ∈ ps.map (·.1) := fun z hz => Classical.byContradiction fun nz => by
        have h7 := nodup_len (xs := z :: ps.map (·.1)) (ys := qs.map (·.1)) (List.nodup_cons.mpr ⟨nz, n.nd⟩) fun y hy => (List.mem_cons.mp hy).elim (fun e => e ▸ hz) (k1 y)
        rw [List.length_cons, List.length_map, List.length_map] at h7
        omega
      refine absurd (norm_ext n m fun z => ?_) c
      by_cases hz : z ∈ ps.map (·.1)
      · obtain ⟨p, hp, rfl⟩ := List.mem_map.mp hz
        unfold valL
        rw [lookL_some n.nd hp, sub p hp]
      · unfold valL
        rw [lookL_none hz, lookL_none fun h => hz (k2 z h)]
section
variable {P : Program} {w : World} {K : PySem.W.Frag} {mg : Str → Option Value} {base : Heap}
theorem scHE : FnScope ["self", "other"] ["self", "other"] (defScope sHEq) := ⟨rfl, rfl, rfl, by decide +kernel, rfl, by decide +kernel, by decide +kernel⟩
theorem ok_heq {C f : Addr} {fd : FuncData} (kC : HouseK K C) (c : Chk P w K mg base) (gH : mg "House" = some (.ref C)) (F : Fun K "__eq__" "House.__eq__" sHEq f fd) : FnR P w K mg base CX0 1 f (spEqH C) := by
  refine OwR.raw0 (F.ok (k := 0) (ps := ["self", "other"]) scHE (fun vs H Q E h => ?_) (fun cdv A outer s H vs Q E hr h => ?_)) (F.binds fun _ _ _ _ _ _ us hl => match us, hl with | [_, _], _ => rfl)
  · obtain ⟨a, b, ns, F, G, rfl, _⟩ := h
    rfl
  · obtain ⟨a, b, ns, F, G, rfl, n, ⟨ps, ⟨dx, fs, d, l, ea, lk, _, ed, _⟩, nm, ev, o, _⟩, ⟨qs, ⟨dy, gs, d2, l2, eb, lk2, _, ed2, _⟩, nm2, ev2, o2, _⟩, k⟩ := h
    have hu : (A.deeper (envOfC "House.__eq__" (defScope sHEq) s.heap.objs.size f cdv)).units < cLine := (by have := hr.units; omega)
    refine ⟨_, (pss_one (ps_ret (pe_and (pe_callB call_isi (by rfl) c.T.n_isinstance (by decide +kernel) (pa_cons (pv 1) (pa_cons (pe_glob (v := .ref C) rfl gH rfl) pa_nil))) (pe_one (pe_cmpR (OwR.op_eqTab hu) (pe_fld (pv 0) rfl) (pe_fld (pv 1) rfl) (nomark _)))))), ?_⟩
    refine ⟨_, rfl, .ref b, .ref C, _, _, true, rfl, .own _, kC.ty eb, kC.own, true, rfl, ?_⟩
    refine iteT ?_
    refine ⟨_, rfl, a, C, dx, fs, _, rfl, ea, kC.hc.cls, kC.hc.n1, lk, _, rfl, b, C, dy, gs, _, rfl, eb, kC.hc.cls, kC.hc.n1, lk2, d, d2, _, _, rfl, rfl, ed, ed2, intTab_list ps, intTab_list qs, ?_⟩
    rw [tab_eq nm nm2 ev ev2 o o2]
    exact k
theorem ok_heqO {C f : Addr} {fd : FuncData} (c : Chk P w K mg base) (gH : mg "House" = some (.ref C)) (F : Fun K "__eq__" "House.__eq__" sHEq f fd) : FnR P w K mg base CX0 1 f (spEqHO K C) := by
  refine OwR.raw0 (F.ok (k := 0) (ps := ["self", "other"]) scHE (fun vs H Q E h => ?_) (fun cdv A outer s H vs Q E hr h => ?_)) (F.binds fun _ _ _ _ _ _ us hl => match us, hl with | [_, _], _ => rfl)
  · obtain ⟨a, y, t, rfl, _⟩ := h
    rfl
  · obtain ⟨a, y, t, rfl, ty, kt, q⟩ := h
    have hu : (A.deeper (envOfC "House.__eq__" (defScope sHEq) s.heap.objs.size f cdv)).units < cLine := (by have := hr.units; omega)
    refine ⟨_, (pss_one (ps_ret (pe_and (pe_callB call_isi (by rfl) c.T.n_isinstance (by decide +kernel) (pa_cons (pv 1) (pa_cons (pe_glob (v := .ref C) rfl gH rfl) pa_nil))) (pe_one (pe_cmpR (OwR.op_eqTab hu) (pe_fld (pv 0) rfl) (pe_fld (pv 1) rfl) (nomark _)))))), ?_⟩
    refine ⟨_, rfl, y, .ref C, t, _, false, rfl, .own _, ty, kt, false, rfl, ?_⟩
    exact iteF q
abbrev nLe : List Str := ["self", "other", "bay"]
theorem scLe : FnScope nLe ["self", "other"] (defScope sHLe) := ⟨rfl, rfl, rfl, by decide +kernel, rfl, by decide +kernel, by decide +kernel⟩
theorem ok_hle {C fAt fI fL f : Addr} {fd : FuncData} (O : HOp P w K mg base C fAt fI fL) (F : Fun K "__le__" "House.__le__" sHLe f fd) : FnR P w K mg base CX0 4 f (spCmpH C leB) := by
  have c := O.chk
  have cI := O.spc
  have GI := O.GI
  have FIt := O.FIt
  refine OwR.raw0 (F.ok (k := 3) (ps := ["self", "other"]) scLe (fun vs H Q E h => ?_) (fun cdv A outer s H vs Q E hr h => ?_)) (F.binds fun _ _ _ _ _ _ us hl => match us, hl with | [_, _], _ => rfl)
  · obtain ⟨a, b, ns, F, G, rfl, _⟩ := h
    rfl
  · obtain ⟨a, b, ns, F, G, rfl, n, hF, hG, k⟩ := h
    have hr3 : Room (2 + 1) _ := hr
    have hr1 : Room 1 _ := hr.mono (by decide)
    refine ⟨_, (pss_one (ps_ret (pe_callB (cr_all rfl) (by rfl) c.chk.T.n_all (by decide +kernel) (pa_cons (pe_lc (own := [("bay", 2)]) (by rfl) scLe.nd (OwR.pi_own (pv 0) FIt hr1 pass0) (blkOk_by (own := [("bay", 2)]) (N := nLe) (sc := defScope sHLe) (by decide +kernel)) (fun _ _ _ _ _ => (pg_name (i := 2) scLe.nd rfl (Or.inl rfl))) (fun _ _ _ _ _ => pts_nil) (fun _ _ _ _ _ => (pe_cmpR op_le (OwR.pe_item cI GI hr3 pass0 (pv 0) (pv 2)) (OwR.pe_item cI GI hr3 pass0 (pv 1) (pv 2)) (nomark _)))) pa_nil)))), ?_⟩
    have sz := sizeLine_eq
    obtain ⟨dx, l, fs, ys, ea, lk, el, nd, le, subn, mem⟩ := hF.own n
    refine ⟨_, rfl, a, C, dx, l, fs, _, rfl, ea, O.it, lk, SqT.of el, fun D hD => ?_⟩
    refine lc_it (walk_tup (xs := ys.map V.str)) (fun i H2 => Same H H2 ∧ H2 D = some (.lst (((ys.take i).map fun z => decide (F z ≤ G z)).map V.bl))) ⟨Same.of_new hD, upd_same⟩ (fun i H2 _ q => SqT.of (q.1 _ _ el)) (fun i x H2 H3 hi q y => ?_) (fun H2 q => ?_)
    · obtain ⟨s2, er⟩ := q
      obtain ⟨rfl, hx⟩ := y
      rw [List.getElem?_map] at hx
      obtain ⟨z, hz, rfl⟩ := Option.map_eq_some_iff.mp hx
      have zn : z ∈ ns := subn z (List.mem_of_getElem? hz)
      rw [List.length_map] at hi
      refine ⟨rfl, ?_⟩
      refine ⟨_, rfl, _, rfl, item_F n (hF.same s2) zn fun H4 s4 => ?_⟩
      refine ⟨_, rfl, _, rfl, item_F n ((hG.same s2).same s4) zn fun H5 s5 => ?_⟩
      have sE := s4.trans s5
      refine ⟨_, _, rfl, rfl, ?_⟩
      refine ⟨_, sE _ _ er, by rw [List.length_map, List.length_map, List.length_take]; omega, fun b o e => ?_, ?_⟩
      · rw [upd_ne (ne_of_none e hD)]
        exact sE _ _ (s2 b o e)
      · rw [List.take_add_one, hz, List.map_append, List.map_append]
        exact upd_same
    · obtain ⟨s2, er⟩ := q
      rw [List.length_map, List.take_length] at er
      refine ⟨D, _, rfl, SqL.of er, ?_⟩
      have e : (ys.map fun z => decide (F z ≤ G z)).all id = leB ns F G := by
        rw [Bool.eq_iff_iff, List.all_eq_true]
        unfold leB
        rw [List.all_eq_true]
        constructor
        · intro h z hz
          by_cases c : z ∈ ys
          · exact h _ (List.mem_map.mpr ⟨z, c, rfl⟩)
          · have f0 : F z = 0 := Classical.byContradiction fun x => c ((mem z).mpr x)
            exact decide_eq_true (by rw [f0]; exact (hG.nn z).1)
        · intro h b hb
          obtain ⟨z, hz, rfl⟩ := List.mem_map.mp hb
          exact h z (subn z hz)
      rw [e]
      exact k _ s2
def ltB (ns : List Str) (F G : Str → Int) : Bool := leB ns F G && !eqB ns F G
abbrev nLtH : List Str := ["self", "other"]
theorem scLtH : FnScope nLtH ["self", "other"] (defScope sHLt) := ⟨rfl, rfl, rfl, by decide +kernel, rfl, by decide +kernel, by decide +kernel⟩
theorem ok_hlt {C fLe fEq f : Addr} {fd : FuncData} (cLe : OwR.Cmp1 K .LtE C fLe) (cEq : OwR.Cmp1 K .Eq C fEq) (own : PySem.W.notFirst K C (.ref C) = true) (GLe : FnR P w K mg base CX0 4 fLe (spCmpH C leB)) (GEq : FnR P w K mg base CX0 1 fEq (spEqH C)) (F : Fun K "__lt__" "House.__lt__" sHLt f fd) : FnR P w K mg base CX0 5 f (spCmpH C ltB) := by
  refine OwR.raw0 (F.ok (k := 4) (ps := ["self", "other"]) scLtH (fun vs H Q E h => ?_) (fun cdv A outer s H vs Q E hr h => ?_)) (F.binds fun _ _ _ _ _ _ us hl => match us, hl with | [_, _], _ => rfl)
  · obtain ⟨a, b, ns, F, G, rfl, _⟩ := h
    rfl
  · obtain ⟨a, b, ns, F, G, rfl, n, hF, hG, k⟩ := h
    have hrL : Room 4 _ := hr
    have hr1 : Room 1 _ := hr.mono (by decide)
    have hu : (A.deeper (envOfC "House.__lt__" (defScope sHLt) s.heap.objs.size f cdv)).units < cLine := (by have := hr.units; omega)
    refine ⟨_, (pss_one (ps_ret (pe_and (pe_cmpR (OwR.op_ownLe hu GLe hrL pass0) (pv 0) (pv 1) (nomark _)) (pe_one (pe_not (pe_cmpR (OwR.op_ownEq hu GEq hr1 pass0) (pv 0) (pv 1) (nomark _))))))), ?_⟩
    obtain ⟨dx, fs, ea⟩ := hF.ins
    obtain ⟨dy, gs, eb⟩ := hG.ins
    refine ⟨_, rfl, _, rfl, a, b, C, C, dx, dy, fs, gs, rfl, rfl, ea, eb, cLe, own, a, b, ns, F, G, rfl, n, hF, hG, fun H1 s1 => ⟨_, rfl, ?_⟩⟩
    unfold ltB at k
    cases e : leB ns F G with
    | false =>
      rw [e] at k
      exact iteF (k H1 s1)
    | true =>
      rw [e, Bool.true_and] at k
      refine iteT ?_
      exact ⟨_, rfl, _, rfl, a, b, C, C, dx, dy, fs, gs, rfl, rfl, s1 _ _ ea, s1 _ _ eb, cEq, own, a, b, ns, F, G, rfl, n, hF.same s1, hG.same s1, _, rfl, k H1 s1⟩
abbrev nGe : List Str := ["self", "other"]
theorem scGe : FnScope nGe ["self", "other"] (defScope sHGe) := ⟨rfl, rfl, rfl, by decide +kernel, rfl, by decide +kernel, by decide +kernel⟩
theorem ok_hge {C fLe f : Addr} {fd : FuncData} (cLe : OwR.Cmp1 K .LtE C fLe) (own : PySem.W.notFirst K C (.ref C) = true) (GLe : FnR P w K mg base CX0 4 fLe (spCmpH C leB)) (F : Fun K "__ge__" "House.__ge__" sHGe f fd) : FnR P w K mg base CX0 5 f (spCmpH C fun ns F G => leB ns G F) := by
  refine OwR.raw0 (F.ok (k := 4) (ps := ["self", "other"]) scGe (fun vs H Q E h => ?_) (fun cdv A outer s H vs Q E hr h => ?_)) (F.binds fun _ _ _ _ _ _ us hl => match us, hl with | [_, _], _ => rfl)
  · obtain ⟨a, b, ns, F, G, rfl, _⟩ := h
    rfl
  · obtain ⟨a, b, ns, F, G, rfl, n, hF, hG, k⟩ := h
    have hrL : Room 4 _ := hr
    have hu : (A.deeper (envOfC "House.__ge__" (defScope sHGe) s.heap.objs.size f cdv)).units < cLine := (by have := hr.units; omega)
    refine ⟨_, (pss_one (ps_ret (pe_cmpR (OwR.op_ownLe hu GLe hrL pass0) (pv 1) (pv 0) (nomark _)))), ?_⟩
    obtain ⟨dx, fs, ea⟩ := hF.ins
    obtain ⟨dy, gs, eb⟩ := hG.ins
    exact ⟨_, rfl, _, rfl, b, a, C, C, dy, dx, gs, fs, rfl, rfl, eb, ea, cLe, own, b, a, ns, G, F, rfl, n, hG, hF, k⟩
abbrev nGtH : List Str := ["self", "other"]
theorem scGtH : FnScope nGtH ["self", "other"] (defScope sHGt) := ⟨rfl, rfl, rfl, by decide +kernel, rfl, by decide +kernel, by decide +kernel⟩
theorem ok_hgt {C fLt f : Addr} {fd : FuncData} (cLt : OwR.Cmp1 K .Lt C fLt) (own : PySem.W.notFirst K C (.ref C) = true) (GLt : FnR P w K mg base CX0 5 fLt (spCmpH C ltB)) (F : Fun K "__gt__" "House.__gt__" sHGt f fd) : FnR P w K mg base CX0 6 f (spCmpH C fun ns F G => ltB ns G F) := by
  refine OwR.raw0 (F.ok (k := 5) (ps := ["self", "other"]) scGtH (fun vs H Q E h => ?_) (fun cdv A outer s H vs Q E hr h => ?_)) (F.binds fun _ _ _ _ _ _ us hl => match us, hl with | [_, _], _ => rfl)
  · obtain ⟨a, b, ns, F, G, rfl, _⟩ := h
    rfl
  · obtain ⟨a, b, ns, F, G, rfl, n, hF, hG, k⟩ := h
    have hrT : Room 5 _ := hr
    have hu : (A.deeper (envOfC "House.__gt__" (defScope sHGt) s.heap.objs.size f cdv)).units < cLine := (by have := hr.units; omega)
    refine ⟨_, (pss_one (ps_ret (pe_cmpR (OwR.op_ownLt hu GLt hrT pass0) (pv 1) (pv 0) (nomark _)))), ?_⟩
    obtain ⟨dx, fs, ea⟩ := hF.ins
    obtain ⟨dy, gs, eb⟩ := hG.ins
    exact ⟨_, rfl, _, rfl, b, a, C, C, dy, dx, gs, fs, rfl, rfl, eb, ea, cLt, own, b, a, ns, G, F, rfl, n, hG, hF, k⟩
end
end K10
end
section
namespace K10
open PySem PySem.Spec PyProof.Rows L2
/-- where the parts of houses stand -/
structure HAd where
  (C f0 fAt fI fL fAdd fSub fAnd fOr fEq fLe fLt fGe fGt pOf fOf : Addr)
/-- all that houses are known by -/
structure HHF (P : Program) (w : World) (K : PySem.W.Frag) (mg : Str → Option Value) (base : Heap) (a : HAd) : Prop where
  chk : HChk P w K mg base
  n_dict : mg "dict" = none
  n_list : mg "list" = none
  n_iter : mg "iter" = none
  k : HouseK K a.C
  n2 : NoAttr K a.C "_bays"
  gH : mg "House" = some (.ref a.C)
  own : PySem.W.notFirst K a.C (.ref a.C) = true
  mk0 : Mk K a.C a.f0
  d0 : ∃ fd, Fun K "__init__" "House.__init__" sHouse0 a.f0 fd
  wit : ∃ f fd, mg "house_with" = some (.ref f) ∧ Fun K "house_with" "house_with" sWith f fd
  rH : ClX.CRead K a.C (.type "type")
  mOf : ClX.CMet K a.C (.type "type") "of" a.pOf a.fOf
  dOf : ∃ fd, Fun K "of" "House.of" sHouseOf a.fOf fd
  spc : OwR.Spc K a.C a.fAt "__getitem__"
  dAt : ∃ fd, Fun K "__getitem__" "House.__getitem__" sHouseAt a.fAt fd
  it : OwR.OwnIt K a.C a.fI "_bays"
  dI : ∃ fd, Fun K "__iter__" "House.__iter__" sHIter a.fI fd
  ln : OwR.Len1 K a.C a.fL
  dL : ∃ fd, Fun K "__len__" "House.__len__" sHLen a.fL fd
  bo : ∃ f fd, mg "bays_of" = some (.ref f) ∧ Fun K "bays_of" "bays_of" sBaysOf f fd
  cAdd : OwR.Bin1 K .Add a.C a.fAdd
  cSub : OwR.Bin1 K .Sub a.C a.fSub
  cAnd : OwR.Bin1 K .BitAnd a.C a.fAnd
  cOr : OwR.Bin1 K .BitOr a.C a.fOr
  dAdd : ∃ fd, Fun K "__add__" "House.__add__" sHAdd a.fAdd fd
  dSub : ∃ fd, Fun K "__sub__" "House.__sub__" sHSub a.fSub fd
  dAnd : ∃ fd, Fun K "__and__" "House.__and__" sHAnd a.fAnd fd
  dOr : ∃ fd, Fun K "__or__" "House.__or__" sHOr a.fOr fd
  cEq : OwR.Cmp1 K .Eq a.C a.fEq
  cNe : OwR.Ne1 K a.C a.fEq
  cLe : OwR.Cmp1 K .LtE a.C a.fLe
  cLt : OwR.Cmp1 K .Lt a.C a.fLt
  cGe : OwR.Cmp1 K .GtE a.C a.fGe
  cGt : OwR.Cmp1 K .Gt a.C a.fGt
  iAdd : OwR.noIn K a.C (dunderI Operator.Add.info.2) = true
  iOr : OwR.noIn K a.C (dunderI Operator.BitOr.info.2) = true
  dEq : ∃ fd, Fun K "__eq__" "House.__eq__" sHEq a.fEq fd
  dLe : ∃ fd, Fun K "__le__" "House.__le__" sHLe a.fLe fd
  dLt : ∃ fd, Fun K "__lt__" "House.__lt__" sHLt a.fLt fd
  dGe : ∃ fd, Fun K "__ge__" "House.__ge__" sHGe a.fGe fd
  dGt : ∃ fd, Fun K "__gt__" "House.__gt__" sHGt a.fGt fd
section
variable {P : Program} {w : World} {K : PySem.W.Frag} {mg : Str → Option Value} {base : Heap} {a : HAd}
theorem HHF.of (h : HHF P w K mg base a) : FnR P w K mg base CX0 7 a.fOf (spOf2 a.C) := by
  obtain ⟨_, d⟩ := h.dOf
  obtain ⟨_, d0⟩ := h.d0
  obtain ⟨fW, _, gW, dW⟩ := h.wit
  exact OwR.raw0 (ok_Of2 h.k.hc d0 h.mk0 h.gH dW gW d h.chk h.n_dict) (d.binds fun _ _ _ _ _ _ us hl => match us, hl with | [_, _], _ => rfl)
theorem HHF.op (h : HHF P w K mg base a) : HOp P w K mg base a.C a.fAt a.fI a.fL := by
  obtain ⟨_, dA⟩ := h.dAt
  obtain ⟨_, dI⟩ := h.dI
  obtain ⟨_, dL⟩ := h.dL
  obtain ⟨_, d0⟩ := h.d0
  obtain ⟨fW, fdW, gW, dW⟩ := h.wit
  exact ⟨h.chk, h.k.hc, h.n_list, h.it, h.ln, fun C o => ok_hiter dI h.n_iter C o, fun C _ o => ok_hlen dL h.chk.chk.T C o, h.spc, OwR.raw0 (ok_Item h.k.hc dA h.chk) (dA.binds fun _ _ _ _ _ _ us hl => match us, hl with | [_, _], _ => rfl), ⟨fW, fdW, gW, dW, ok_with2 h.k.hc d0 h.mk0 h.gH dW h.chk⟩⟩
theorem HHF.add (h : HHF P w K mg base a) : FnR P w K mg base CX0 7 a.fAdd (spHH a.C (fun x y => x + y ≤ topN) fun x y => x + y) := by
  obtain ⟨_, d⟩ := h.dAdd
  obtain ⟨_, _, g, dB⟩ := h.bo
  exact ok_add h.op dB g d
theorem HHF.or_ (h : HHF P w K mg base a) : FnR P w K mg base CX0 7 a.fOr (spHH a.C (fun _ _ => True) fun x y => if x > y then x else y) := by
  obtain ⟨_, d⟩ := h.dOr
  obtain ⟨_, _, g, dB⟩ := h.bo
  exact ok_or_ h.op dB g d
theorem HHF.sub (h : HHF P w K mg base a) : FnR P w K mg base CX0 7 a.fSub (spHH a.C (fun x y => y ≤ x) fun x y => x - y) := by
  obtain ⟨_, d⟩ := h.dSub
  exact ok_sub h.op d
theorem HHF.and_ (h : HHF P w K mg base a) : FnR P w K mg base CX0 7 a.fAnd (spHH a.C (fun _ _ => True) fun x y => if x < y then x else y) := by
  obtain ⟨_, d⟩ := h.dAnd
  exact ok_and_ h.op d
theorem HHF.eq (h : HHF P w K mg base a) : FnR P w K mg base CX0 1 a.fEq (spEqH a.C) := by
  obtain ⟨_, d⟩ := h.dEq
  exact ok_heq h.k h.chk.chk h.gH d
theorem HHF.eqO (h : HHF P w K mg base a) : FnR P w K mg base CX0 1 a.fEq (spEqHO K a.C) := by
  obtain ⟨_, d⟩ := h.dEq
  exact ok_heqO h.chk.chk h.gH d
theorem HHF.le (h : HHF P w K mg base a) : FnR P w K mg base CX0 4 a.fLe (spCmpH a.C leB) := by
  obtain ⟨_, d⟩ := h.dLe
  exact ok_hle h.op d
theorem HHF.lt (h : HHF P w K mg base a) : FnR P w K mg base CX0 5 a.fLt (spCmpH a.C ltB) := by
  obtain ⟨_, d⟩ := h.dLt
  exact ok_hlt h.cLe h.cEq h.own h.le h.eq d
theorem HHF.ge (h : HHF P w K mg base a) : FnR P w K mg base CX0 5 a.fGe (spCmpH a.C fun ns F G => leB ns G F) := by
  obtain ⟨_, d⟩ := h.dGe
  exact ok_hge h.cLe h.own h.le d
theorem HHF.gt (h : HHF P w K mg base a) : FnR P w K mg base CX0 6 a.fGt (spCmpH a.C fun ns F G => ltB ns G F) := by
  obtain ⟨_, d⟩ := h.dGt
  exact ok_hgt h.cLt h.own h.lt d
/-! ### the operators between two houses -/
variable {ns : List Str} {H : Hp} {x y : Addr} {F G : Str → Int} {Q : VK} {E : XK}
theorem two_op {op : Operator} {f : Addr} {ok : Int → Int → Prop} {g : Int → Int → Int} {C : Addr} (b : OwR.Bin1 K op C f) (n : NS ns) (hF : HouseF C ns H x F) (hG : HouseF C ns H y G) (o : ∀ z, ok (F z) (G z)) (k : ∀ r H', H r = none → Same H H' → HouseF C ns H' r (fun z => g (F z) (G z)) → Q (.ref r) H') : OwR.rOwn2 K op f (spHH C ok g) E (.ref x) (.ref y) H Q := by
  obtain ⟨dx, fs, ea⟩ := hF.ins
  obtain ⟨dy, gs, eb⟩ := hG.ins
  exact ⟨x, y, C, C, dx, dy, fs, gs, rfl, rfl, ea, eb, ⟨b, .inl rfl⟩, x, y, ns, F, G, rfl, n, hF, hG, o, k⟩
theorem two_cmp {op : CmpOp} {f : Addr} {R : List Str → (Str → Int) → (Str → Int) → Bool} {C : Addr} (c : OwR.Cmp1 K op C f) (own : PySem.W.notFirst K C (.ref C) = true) (n : NS ns) (hF : HouseF C ns H x F) (hG : HouseF C ns H y G) (k : ∀ H', Same H H' → Q (.bl (R ns F G)) H') : OwR.rCmp2 K op f (spCmpH C R) E (.ref x) (.ref y) H Q := by
  obtain ⟨dx, fs, ea⟩ := hF.ins
  obtain ⟨dy, gs, eb⟩ := hG.ins
  exact ⟨x, y, C, C, dx, dy, fs, gs, rfl, rfl, ea, eb, c, own, x, y, ns, F, G, rfl, n, hF, hG, k⟩
theorem two_eq (h : HHF P w K mg base a) (n : NS ns) (hF : HouseF a.C ns H x F) (hG : HouseF a.C ns H y G) (k : Q (.bl (eqB ns F G)) H) : OwR.rCmp2 K .Eq a.fEq (spEqH a.C) E (.ref x) (.ref y) H Q := by
  obtain ⟨dx, fs, ea⟩ := hF.ins
  obtain ⟨dy, gs, eb⟩ := hG.ins
  exact ⟨x, y, _, _, dx, dy, fs, gs, rfl, rfl, ea, eb, h.cEq, h.own, x, y, ns, F, G, rfl, n, hF, hG, k⟩
theorem two_ne (h : HHF P w K mg base a) (n : NS ns) (hF : HouseF a.C ns H x F) (hG : HouseF a.C ns H y G) (k : Q (.bl (!eqB ns F G)) H) : OwR.rNe2 K a.fEq (spEqH a.C) E (.ref x) (.ref y) H Q := by
  obtain ⟨dx, fs, ea⟩ := hF.ins
  obtain ⟨dy, gs, eb⟩ := hG.ins
  exact ⟨x, y, _, _, dx, dy, fs, gs, rfl, rfl, ea, eb, h.cNe, h.own, x, y, ns, F, G, rfl, n, hF, hG, _, rfl, k⟩
end
end K10
end
section
set_option pp.maxSteps 400
set_option pp.deepTerms.threshold 6
/-! The law's drawn names. -/
namespace K10
open PySem PySem.Spec PyProof.Rows L2
abbrev sWord : Stmt := top 27
def spWord : Sp := fun vs H Q _ => ∃ (p c : Addr) (ns : List Int) (n : Nat) (z : Int), vs = [.ref p] ∧ PenAt H p c ns n z ∧ n + 20 < 100000 ∧ ∀ (w : Str) (n' : Nat) (z' : Int) (H' : Hp), nameB w = true → w.length ≤ 8 → n' ≤ n + 10 → PenAt H' p c ns n' z' → But p H H' → Q (.str w) H'
theorem letters_two : (∀ c ∈ ("abcdefghijklmnopqrstuvwxyz" : Str).cps.toList, letter c = true) ∧ (∀ c ∈ ("aby" : Str).cps.toList, letter c = true) ∧ 0 < ("abcdefghijklmnopqrstuvwxyz" : Str).length ∧ ("abcdefghijklmnopqrstuvwxyz" : Str).length < 1000 ∧ 0 < ("aby" : Str).length ∧ ("aby" : Str).length < 1000 := by decide +kernel
theorem str_snoc (cs : List Nat) (x : Nat) : (⟨cs.toArray⟩ : Str) ++ (⟨#[x]⟩ : Str) = ⟨(cs ++ [x]).toArray⟩ := by
  show (⟨cs.toArray ++ #[x]⟩ : Str) = _
  congr 1
  simp
section
variable {P : Program} {w : World} {K : PySem.W.Frag} {mg : Str → Option Value} {base : Heap}
abbrev nWo : List Str := ["_law_pen_here", "_law_letters", "_law_word_here", "_law_turn"]
theorem scWo : FnScope nWo ["_law_pen_here"] (defScope sWord) := ⟨rfl, rfl, rfl, by decide +kernel, rfl, by decide +kernel, by decide +kernel⟩
theorem ok_word {f fD fP : Addr} {fd fdD fdP : FuncData} (F : Fun K "_law_word" "_law_word" sWord f fd) (T : Nm mg) (n_range : mg "range" = none) (FD : Fun K "_law_draw" "_law_draw" sDraw fD fdD) (gD : mg "_law_draw" = some (.ref fD)) (FP : Fun K "_law_pick" "_law_pick" sPick fP fdP) (gP : mg "_law_pick" = some (.ref fP)) : FnOk P w K mg base CX0 3 f fd ["_law_pen_here"] spWord := by
  have GD : FnOk P w K mg base CX0 1 fD fdD ["_law_pen_here", "_law_many"] spDraw := ok_draw FD T
  have bD : Binds K fdD ["_law_pen_here", "_law_many"] [] := FD.binds fun _ _ _ _ _ _ us hl => match us, hl with | [_, _], _ => rfl
  have GP : FnOk P w K mg base CX0 2 fP fdP ["_law_pen_here", "_law_some"] (spPick K) := ok_pick FP T FD gD
  have GS : FnOk P w K mg base CX0 2 fP fdP ["_law_pen_here", "_law_some"] spPickS := ok_pickS FP T FD gD
  have bP : Binds K fdP ["_law_pen_here", "_law_some"] [] := FP.binds fun _ _ _ _ _ _ us hl => match us, hl with | [_, _], _ => rfl
  refine F.ok scWo (fun vs H Q E h => ?_) (fun cdv A outer s H vs Q E hr h => ?_)
  · obtain ⟨p, c, ns, n, z, rfl, _⟩ := h
    rfl
  · obtain ⟨p, c, ns, n, z, rfl, hp, hn, q⟩ := h
    have hr1 : Room 1 _ := hr.mono (by decide)
    refine ⟨_, (pss_cons (ps_set (i := 1) scWo.nd rfl (Or.inl rfl) (pe_call GP hr (by rfl) gP FP.kp bP .nil pass0 (pa_cons (pv 0) (pa_cons (pe_lst (pa_cons pe_str (pa_cons pe_str pa_nil))) pa_nil))))
    (pss_cons (ps_set (i := 2) scWo.nd rfl (Or.inl rfl) pe_str)
    (pss_cons (ps_for PassesOwn.never rfl (pi_range1 rfl n_range (pa_cons (pe_op op_add pe_int (pe_call GD hr1 (by rfl) gD FD.kp bD .nil pass0 (pa_cons (pv 0) (pa_cons pe_int pa_nil)))) pa_nil)) (pg_name (i := 3) scWo.nd rfl (Or.inl rfl)) (pss_one (ps_set (i := 2) scWo.nd rfl (Or.inl rfl) (pe_op op_add_str (pv 2) (pe_call GS hr (by rfl) gP FP.kp bP .nil pass0 (pa_cons (pv 0) (pa_cons (pv 1) pa_nil)))))))
    (pss_one (ps_ret (pv 2)))))), ?_⟩
    have sz := sizeLine_eq
    refine ⟨_, rfl, by show (2 : Nat) ≤ sizeLine; omega, fun L hL => ?_⟩
    have sL := Same.of_new (o := .lst [.str "abcdefghijklmnopqrstuvwxyz", .str "aby"]) hL
    have nL : L ≠ p := fun e => hp.some (e ▸ hL)
    refine ⟨p, c, L, ns, n, z, _, rfl, hp.same sL, by omega, nL, SqL.of upd_same, by show 0 < 2; decide, by show 2 < 1000; decide, fun x n1 z1 H1 hx hn1 hp1 t1 => ?_⟩
    obtain ⟨l1, l2, a1, a2, a3, a4⟩ := letters_two
    obtain ⟨t, rfl, lt, t0, t9⟩ : ∃ t : Str, x = .str t ∧ (∀ c ∈ t.cps.toList, letter c = true) ∧ 0 < t.length ∧ t.length < 1000 := by
      simp only [List.mem_cons, List.not_mem_nil, or_false] at hx
      rcases hx with rfl | rfl
      · exact ⟨_, rfl, l1, a1, a2⟩
      · exact ⟨_, rfl, l2, a3, a4⟩
    have b1 : But p H H1 := (Same.but p sL).trans t1
    refine ⟨_, rfl, p, c, ns, n1, z1, 8, rfl, hp1, by omega, by decide, by decide +kernel, fun d n2 z2 H2 d0 d1 hn2 hp2 s2 => ⟨1, d, rfl, rfl, _, rfl, by omega, by omega, ?_⟩⟩
    have b2 := b1.trans s2
    refine for_it walk_range (fun i σ Hx => ∃ (cs : List Nat) (x3 : Option V) (n' : Nat) (z' : Int), σ = [some (.ref p), some (.str t), some (.str ⟨cs.toArray⟩), x3] ∧ cs.length = i ∧ (∀ c ∈ cs, letter c = true) ∧ PenAt Hx p c ns n' z' ∧ n' ≤ n + 2 + i ∧ But p H Hx)
      ⟨[], none, n2, z2, rfl, rfl, (fun c h => by cases h), hp2, by omega, b2⟩ (fun _ _ _ _ _ => True.intro) (fun i x σ Hx Hy hi q0 y => ?_) (fun σ Hx q0 => ?_)
    · obtain ⟨cs, x3, n', z', rfl, lc, al, pn, ln, bt⟩ := q0
      obtain ⟨rfl, ex⟩ := y
      refine ⟨_, rfl, _, rfl, _, rfl, p, c, ns, n', z', t, rfl, pn, by omega, t0, t9, fun x n3 z3 H3 hx hn3 hp3 s3 => ?_⟩
      refine ⟨_, _, rfl, rfl, ?_, ?_⟩
      · have e1 : (⟨cs.toArray⟩ : Str).length = cs.length := List.size_toArray
        have e2 : (⟨#[x]⟩ : Str).length = 1 := rfl
        rw [e1, e2]
        omega
      rw [str_snoc]
      refine ⟨cs ++ [x], _, n3, z3, rfl, by rw [List.length_append, lc]; rfl, fun c hc => ?_, hp3, by omega, bt.trans s3⟩
      rcases List.mem_append.mp hc with h | h
      · exact al c h
      · rw [List.mem_singleton.mp h]
        exact lt x hx
    · obtain ⟨cs, x3, n', z', rfl, lc, al, pn, ln, bt⟩ := q0
      have l8 : cs.length ≤ 8 := by omega
      have e1 : (⟨cs.toArray⟩ : Str).length = cs.length := List.size_toArray
      exact ⟨_, rfl, q _ n' z' Hx (letters_name (by omega) l8 al) (by rw [e1]; exact l8) (by omega) pn bt⟩
end
end K10
end
section
set_option pp.maxSteps 400
set_option pp.deepTerms.threshold 6
namespace K10
open PySem PySem.Spec PyProof.Rows L2
abbrev sNum : Stmt := top 28
abbrev sAM : Stmt := top 29
abbrev sLH : Stmt := top 30
abbrev sCmp : Stmt := top 31
theorem ints_pen {H : Hp} {p c k : Addr} {ds : List Int} {n : Nat} {z : Int} {xs : List Int} (P : PenAt H p c ds n z) (e : H k = some (.lst (xs.map V.int))) : k ≠ p := fun q => by
  rw [q, P.pen] at e
  have h := HO.lst.inj (Option.some.inj e)
  match xs, h with
  | [], h => cases h
  | _ :: _, h => cases (List.cons.inj h).1
def spNum : Sp := fun vs H Q _ => ∃ (p c : Addr) (ds : List Int) (n : Nat) (z : Int) (sl : Addr) (rs : List Addr) (xss : List (List Int)) (many : Nat) (B : Int), vs = [.ref p, .ref sl, .int (many : Nat)] ∧ PenAt H p c ds n z ∧ n + 30 < 100000 ∧ sl ≠ p ∧ H sl = some (.lst (rs.map V.ref)) ∧ RowsAt H rs xss ∧ (∀ xs ∈ xss, xs.length = many ∧ ∀ v ∈ xs, 0 ≤ v ∧ v ≤ B) ∧ rs.length ≤ 10 ∧ 1 ≤ many ∧ many ≤ 3 ∧ 10 ^ 59 ≤ B ∧
  ∀ (L : Addr) (xs : List Int) (n' : Nat) (z' : Int) (H' : Hp), H L = none → xs.length = many → (∀ v ∈ xs, 0 ≤ v ∧ v ≤ B + 1) → n' ≤ n + 20 → PenAt H' p c ds n' z' → But p H H' → H' L = some (.lst (xs.map V.int)) → Q (.ref L) H'
def spAM (K : PySem.W.Frag) : Sp := fun vs H Q _ => ∃ (a b : Addr) (xs ys : List Int), vs = [.ref a, .ref b] ∧ H a = some (.lst (xs.map V.int)) ∧ H b = some (.lst (ys.map V.int)) ∧ xs.length = ys.length ∧ xs.length ≤ 10 ∧ ∀ H', Same H H' → Q (.bl (atMost xs ys)) H'
def spLH (C : Addr) : Sp := fun vs H Q _ => ∃ (nl b : Addr) (ns : List Str) (xs : List Int), vs = [.ref nl, .ref b] ∧ H nl = some (.lst (ns.map V.str)) ∧ H b = some (.lst (xs.map V.int)) ∧ NS ns ∧ ns.Nodup ∧ xs.length = ns.length ∧ (∀ v ∈ xs, 0 ≤ v ∧ v ≤ topN) ∧ ∀ r H', H r = none → Same H H' → HouseF C ns H' r (valF ns xs) → Q (.ref r) H'
def sixB (ns : List Str) (F G : Str → Int) : List Bool := [leB ns F G, ltB ns F G, leB ns G F, ltB ns G F, eqB ns F G, !eqB ns F G]
def spCp (C : Addr) : Sp := fun vs H Q _ => ∃ (x y : Addr) (ns : List Str) (F G : Str → Int), vs = [.ref x, .ref y] ∧ NS ns ∧ HouseF C ns H x F ∧ HouseF C ns H y G ∧ ∀ L H', Same H H' → H' L = some (.lst ((sixB ns F G).map V.bl)) → Q (.ref L) H'
section
variable {P : Program} {w : World} {K : PySem.W.Frag} {mg : Str → Option Value} {base : Heap}
abbrev nCmp : List Str := ["_law_one", "_law_other"]
theorem scCmp : FnScope nCmp ["_law_one", "_law_other"] (defScope sCmp) := ⟨rfl, rfl, rfl, by decide +kernel, rfl, by decide +kernel, by decide +kernel⟩
theorem ok_Cp {a : HAd} {f : Addr} {fd : FuncData} (R : HHF P w K mg base a) (F : Fun K "_law_compared" "_law_compared" sCmp f fd) : FnOk P w K mg base CX0 7 f fd ["_law_one", "_law_other"] (spCp a.C) := by
  refine F.ok scCmp (fun vs H Q E h => ?_) (fun cdv A outer s H vs Q E hr h => ?_)
  · obtain ⟨x, y, ns, F, G, rfl, _⟩ := h
    rfl
  · obtain ⟨x, y, ns, F, G, rfl, n, hF, hG, k⟩ := h
    have hr6 : Room 6 _ := hr
    have hr5 := hr6.mono (show 5 ≤ 6 by decide)
    have hr4 := hr6.mono (show 4 ≤ 6 by decide)
    have hr2 := hr6.mono (show 2 ≤ 6 by decide)
    have hr1 := hr6.mono (show 1 ≤ 6 by decide)
    have hu1 : (A.deeper (envOfC "_law_compared" (defScope sCmp) s.heap.objs.size f cdv)).units + 1 < cLine := (by have := hr6.units; omega)
    have hu : (A.deeper (envOfC "_law_compared" (defScope sCmp) s.heap.objs.size f cdv)).units < cLine := by omega
    refine ⟨_, (pss_one (ps_ret (pe_lst (pa_cons (pe_cmpR (OwR.op_ownLe hu R.le hr4 pass0) (pv 0) (pv 1) (nomark _)) (pa_cons (pe_cmpR (OwR.op_ownLt hu R.lt hr5 pass0) (pv 0) (pv 1) (nomark _)) (pa_cons (pe_cmpR (OwR.op_ownGe hu R.ge hr5 pass0) (pv 0) (pv 1) (nomark _)) (pa_cons (pe_cmpR (OwR.op_ownGt hu R.gt hr6 pass0) (pv 0) (pv 1) (nomark _)) (pa_cons (pe_cmpR (OwR.op_ownEq hu R.eq hr1 pass0) (pv 0) (pv 1) (nomark _)) (pa_cons (pe_cmpR (OwR.op_ownNe hu1 R.eq hr2 pass0) (pv 0) (pv 1) (nomark _)) pa_nil))))))))), ?_⟩
    have sz := sizeLine_eq
    refine ⟨_, rfl, _, rfl, two_cmp R.cLe R.own n hF hG fun H1 s1 => ?_⟩
    have hF := hF.same s1
    have hG := hG.same s1
    refine ⟨_, rfl, _, rfl, two_cmp R.cLt R.own n hF hG fun H2 s2 => ?_⟩
    have hF := hF.same s2
    have hG := hG.same s2
    refine ⟨_, rfl, _, rfl, two_cmp R.cGe R.own n hF hG fun H3 s3 => ?_⟩
    have hF := hF.same s3
    have hG := hG.same s3
    refine ⟨_, rfl, _, rfl, two_cmp R.cGt R.own n hF hG fun H4 s4 => ?_⟩
    have hF := hF.same s4
    have hG := hG.same s4
    refine ⟨_, rfl, _, rfl, two_eq R n hF hG ?_⟩
    refine ⟨_, rfl, _, rfl, two_ne R n hF hG ⟨by show (6 : Nat) ≤ sizeLine; omega, fun L hL => ?_⟩⟩
    exact k L _ ((((s1.trans s2).trans s3).trans s4).trans (Same.of_new hL)) upd_same
abbrev nAM : List Str := ["_law_left", "_law_right", "_law_k", "_law_number"]
theorem scAM : FnScope nAM ["_law_left", "_law_right"] (defScope sAM) := ⟨rfl, rfl, rfl, by decide +kernel, rfl, by decide +kernel, by decide +kernel⟩
theorem ok_AM {f : Addr} {fd : FuncData} (F : Fun K "_law_at_most" "_law_at_most" sAM f fd) (n_enumerate : mg "enumerate" = none) : FnOk P w K mg base CX0 1 f fd ["_law_left", "_law_right"] (spAM K) := by
  refine F.ok scAM (fun vs H Q E h => ?_) (fun cdv A outer s H vs Q E hr h => ?_)
  · obtain ⟨x, y, xs, ys, rfl, _⟩ := h
    rfl
  · obtain ⟨x, y, xs, ys, rfl, ex, ey, le, l10, k⟩ := h
    have hud : (A.deeper (envOfC "_law_at_most" (defScope sAM) s.heap.objs.size f cdv)).units + 64 < cLine := (by have := hr.units; omega)
    refine ⟨_, (pss_one (ps_ret (pe_cmpR (op_eqD hud) (pe_lc (own := [("_law_k", 2), ("_law_number", 3)]) (g := (gTup K 2 (gCons (gName 2) (gCons (gName 3) gNil)))) (by rfl) scAM.nd (pi_enum (by rfl) n_enumerate (pa_cons (pv 0) pa_nil)) (blkOk_by (own := [("_law_k", 2), ("_law_number", 3)]) (N := nAM) (sc := defScope sAM) (by decide +kernel)) (fun _ _ _ _ _ => (pg_tup rfl (pgs_cons (pg_name (i := 2) scAM.nd rfl (Or.inl rfl)) (pgs_cons (pg_name (i := 3) scAM.nd rfl (Or.inl rfl)) pgs_nil)))) (fun _ _ _ _ _ => pts_one (pt_cmpR op_gt (pv 3) (pe_ix (r := rIxL K) ix_list (pv 1) (pv 2) (fun _ _ => rfl)) (nomark _))) (fun _ _ _ _ _ => (pv 2))) (pe_lst pa_nil) (nomark _)))), ?_⟩
    have sz := sizeLine_eq
    refine ⟨_, rfl, x, _, rfl, SqL.of ex, fun L hL => ?_⟩
    refine lc_it (walk_enum (xs := xs.map V.int)) (fun i Hx => Same H Hx ∧ Hx L = some (.lst ((viol xs ys i).map V.int))) ⟨Same.of_new hL, upd_same⟩ (fun i Hx _ q => SqL.of (q.1 _ _ ex)) (fun i u Hx Hy hi q0 y1 => ?_) (fun Hx q0 => ?_)
    · obtain ⟨s1, eL⟩ := q0
      obtain ⟨T, x1, z1, rfl, hT, rfl, hx, hz⟩ := y1
      have hx : some (V.int (i : Nat)) = some x1 := hx
      cases hx
      have hz : (xs.map V.int)[i]? = some z1 := hz
      rw [List.getElem?_map] at hz
      obtain ⟨v, hv, rfl⟩ := Option.map_eq_some_iff.mp hz
      rw [List.length_map] at hi
      obtain ⟨u, hu⟩ := get_some (xs := ys) rfl (show i < ys.length by omega)
      have sT := Same.of_new (o := .tup [.int ((i : Nat) : Int), .int v]) hT
      have ey2 := sT _ _ (s1 _ _ ey)
      have hyu : (ys.map V.int)[i]? = some (.int u) := by rw [List.getElem?_map, hu]; rfl
      refine ⟨T, _, rfl, .inl (.inl upd_same), rfl, _, _, rfl, _, _, rfl, rfl, rfl, ?_⟩
      refine ⟨_, rfl, _, rfl, _, rfl, y, _, _, _, rfl, rfl, SqL.of ey2, atI_nat (j := i) hyu, _, _, rfl, rfl, _, rfl, ?_⟩
      refine ite2 (fun c => ?_) (fun c => ?_)
      · have c := of_decide_eq_true c
        refine ⟨_, rfl, _, sT _ _ eL, by rw [List.length_map]; have := viol_len xs ys i; omega, fun b o e => ?_, ?_⟩
        · rw [upd_ne (ne_of_none e hL)]
          exact sT _ _ (s1 b o e)
        · rw [viol_yes hv hu c, List.map_append]
          exact upd_same
      · have c : ¬ u < v := fun h => c (decide_eq_true h)
        rw [viol_no hv hu c]
        exact ⟨s1.trans sT, sT _ _ eL⟩
    · obtain ⟨s1, eL⟩ := q0
      rw [List.length_map] at eL
      refine ⟨Nat.zero_le _, fun N hN => ?_⟩
      have sN := Same.of_new (o := .lst []) hN
      refine ⟨.list ((viol xs ys xs.length).map PyData.int), .list [], .lst (SqL.of (sN _ _ eL)) (OwD.dp_ints _), .lst (SqL.of upd_same) .nil, OwD.shaped_ints _, OwD.shaped_nil, ?_⟩
      rw [OwD.eqv_nil, viol_end le]
      exact k _ (s1.trans sN)
abbrev nLH : List Str := ["_law_names", "_law_numbers_here", "_law_name", "_law_number"]
theorem scLH : FnScope nLH ["_law_names", "_law_numbers_here"] (defScope sLH) := ⟨rfl, rfl, rfl, by decide +kernel, rfl, by decide +kernel, by decide +kernel⟩
theorem valF_nn {ns : List Str} {xs : List Int} {t : Int} (nd : ns.Nodup) (l : xs.length = ns.length) (t0 : 0 ≤ t) (h : ∀ v ∈ xs, 0 ≤ v ∧ v ≤ t) (z : Str) : 0 ≤ valF ns xs z ∧ valF ns xs z ≤ t := by
  by_cases c : z ∈ ns
  · obtain ⟨i, hi, e⟩ := mem_idx c
    obtain ⟨x, ex⟩ := get_some l hi
    rw [valF_get nd l e ex]
    exact h x (List.mem_of_getElem? ex)
  · rw [valF_out l c]
    exact ⟨Int.le_refl 0, t0⟩
theorem house_of {C r : Addr} {H : Hp} {ns : List Str} {xs : List Int} {ps : List Pk} (nd : ns.Nodup) (l : xs.length = ns.length) (h : ∀ v ∈ xs, 0 ≤ v ∧ v ≤ topN) (hA : HAt C H r ps) (n : HNorm ps) (e : ∀ z, valL ps z = valF ns xs z) : HouseF C ns H r (valF ns xs) :=
  ⟨ps, hA, n, e, fun z c => Classical.byContradiction fun q => c (valF_out l q), fun z => (valF_nn nd l (by decide +kernel) h z).2⟩
theorem ok_LH {a : HAd} {f : Addr} {fd : FuncData} (R : HHF P w K mg base a) (F : Fun K "_law_house" "_law_house" sLH f fd) (n_zip : mg "zip" = none) : FnOk P w K mg base CX0 8 f fd ["_law_names", "_law_numbers_here"] (spLH a.C) := by
  have n_dict := R.n_dict
  refine F.ok scLH (fun vs H Q E h => ?_) (fun cdv A outer s H vs Q E hr h => ?_)
  · obtain ⟨x, y, xs, ys, rfl, _⟩ := h
    rfl
  · obtain ⟨nl, b, ns, xs, rfl, en, eb, n, nd, le, hv, k⟩ := h
    have hr7 : Room 7 _ := hr
    refine ⟨_, (pss_one (ps_ret (ClX.pe_cmeth (pe_glob (v := .ref a.C) rfl R.gH rfl) R.rH R.mOf R.of hr7 pass0 (pa_cons (pe_callTy (call_dictP rfl) (by rfl) n_dict (by decide +kernel) (pa_cons (pe_lc (own := [("_law_name", 2), ("_law_number", 3)]) (g := (gTup K 2 (gCons (gName 2) (gCons (gName 3) gNil)))) (by rfl) scLH.nd (pi_zip (by rfl) n_zip (pa_cons (pv 0) (pa_cons (pv 1) pa_nil))) (blkOk_by (own := [("_law_name", 2), ("_law_number", 3)]) (N := nLH) (sc := defScope sLH) (by decide +kernel)) (fun _ _ _ _ _ => (pg_tup rfl (pgs_cons (pg_name (i := 2) scLH.nd rfl (Or.inl rfl)) (pgs_cons (pg_name (i := 3) scLH.nd rfl (Or.inl rfl)) pgs_nil)))) (fun _ _ _ _ _ => pts_nil) (fun _ _ _ _ _ => (pe_tup (pa_cons (pv 2) (pa_cons (pv 3) pa_nil))))) pa_nil)) pa_nil)))), ?_⟩
    have sz := sizeLine_eq
    have n20 := n.le
    have hz : (ns.zip xs).length = ns.length := by rw [List.length_zip, le, Nat.min_self]
    refine ⟨rfl, _, rfl, _, rfl, nl, b, _, _, rfl, SqL.of en, SqL.of eb, fun R2 hR => ?_⟩
    refine lc_it (walk_zip (xs := ns.map V.str) (ys := xs.map V.int) (n := ns.length) (by rw [List.length_map, List.length_map, le, Nat.min_self])) (fun i Hx => Same H Hx ∧ ∃ kz : List Addr, Hx R2 = some (.lst (kz.map V.ref)) ∧ kz.length ≤ i ∧ PicksAt Hx kz ((ns.zip xs).take i)) ⟨Same.of_new hR, [], upd_same, Nat.le_refl 0, PicksAt.nil⟩ (fun i Hx _ q => ⟨SqL.of (q.1 _ _ en), SqL.of (q.1 _ _ eb)⟩) (fun i u Hx Hy hi q0 y1 => ?_) (fun Hx q0 => ?_)
    · obtain ⟨s1, kz, eR, lk, pk⟩ := q0
      obtain ⟨T, x1, z1, rfl, hT, rfl, hx, hz1⟩ := y1
      have hx : (ns.map V.str)[i]? = some x1 := hx
      have hz1 : (xs.map V.int)[i]? = some z1 := hz1
      rw [List.getElem?_map] at hx hz1
      obtain ⟨nm, hn, rfl⟩ := Option.map_eq_some_iff.mp hx
      obtain ⟨v, hv1, rfl⟩ := Option.map_eq_some_iff.mp hz1
      have sT := Same.of_new (o := .tup [.str nm, .int v]) hT
      have eR2 := sT _ _ eR
      refine ⟨T, _, rfl, .inl (.inl upd_same), rfl, _, _, rfl, _, _, rfl, rfl, rfl, ?_⟩
      refine ⟨_, rfl, _, rfl, by show (2 : Nat) ≤ sizeLine; omega, fun T2 hT2 => ?_⟩
      have sT2 := Same.of_new (o := .tup [.str nm, .int v]) hT2
      refine ⟨_, sT2 _ _ eR2, by rw [List.length_map]; omega, fun q o e => ?_, kz ++ [T2], ?_, ?_, ?_⟩
      · rw [upd_ne (ne_of_none e hR)]
        exact sT2 _ _ (sT _ _ (s1 q o e))
      · rw [List.map_append]
        exact upd_same
      · rw [List.length_append]
        show kz.length + 1 ≤ i + 1
        omega
      · have ez : (ns.zip xs)[i]? = some (nm, v) := List.getElem?_zip_eq_some.mpr ⟨hn, hv1⟩
        rw [List.take_add_one, ez]
        have p1 := (pk.same sT).same sT2
        have p2 := p1.snoc (k := T2) (p := (nm, v)) upd_same
        exact p2.upd fun ys e => by
          rw [sT2 _ _ eR2] at e
          cases e
    · obtain ⟨s1, kz, eR, lk, pk⟩ := q0
      rw [← hz, List.take_length] at pk
      have ek : ((ns.zip xs).map (·.1)) = ns := zip_keys le
      refine ⟨R2, kz, tabL (ns.zip xs), rfl, SqL.of eR, pk.paired, fun d hd => ?_⟩
      rw [merge_tab (by rw [ek]; exact nd)]
      have sd := Same.of_new (o := .dK (tabL (ns.zip xs))) hd
      have s2 := s1.trans sd
      refine ⟨_, d, _, ns, lookL (ns.zip xs), rfl, upd_same, by rw [tabL_keys, ek], by omega, fun z hz => ⟨(n.nm z hz).1, Nat.le_trans (n.nm z hz).2 (by decide)⟩, tabOf_list _, fun z v e => ?_, fun r H' ps hr2 s3 hA nm e => k r H' (s2.free hr2) (s2.trans s3) (house_of nd le hv hA nm e)⟩
      exact hv v (List.of_mem_zip (lookL_at e)).2
abbrev nNum : List Str := ["_law_pen_here", "_law_some", "_law_many", "_law_way", "_law_at", "_law_turn", "_law_found"]
theorem scNum : FnScope nNum ["_law_pen_here", "_law_some", "_law_many"] (defScope sNum) := ⟨rfl, rfl, rfl, by decide +kernel, rfl, by decide +kernel, by decide +kernel⟩
theorem but_none {p L : Addr} {H H' : Hp} (b : But p H H') (n : L ≠ p) (h : H' L = none) : H L = none := by
  cases e : H L with
  | none => rfl
  | some o => rw [b L o n e] at h; cases h
theorem rows_dp {H : Hp} : ∀ {rs : List Addr} {xss : List (List Int)}, RowsAt H rs xss → DpAll K H (rs.map V.ref) (xss.map fun xs => PyData.list (xs.map PyData.int))
  | [], [], _ => .nil
  | [], _ :: _, h => by cases h.len
  | _ :: _, [], h => by cases h.len
  | r :: rs, xs :: xss, h => .cons (.lst (SqL.of (h.at_ 0 r xs rfl rfl)) (OwD.dp_ints xs)) (rows_dp ⟨Nat.succ.inj h.len, fun i r x e1 e2 => h.at_ (i + 1) r x e1 e2⟩)
theorem rows_shaped (xss : List (List Int)) : SeqAt.shaped (.list (xss.map fun xs => PyData.list (xs.map PyData.int))) = true := by
  refine OwD.shaped_lst (k := 1) (by decide) (fun xs _ => ?_) (fun xs _ => ?_)
  · have := OwD.lays (f := PyData.int) xs fun _ _ => by simp [PyData.canLay0]
    simp [PyData.canLay0, this]
  · have := OwD.deps (f := PyData.int) (k := 0) xs fun _ _ => by simp [PyData.depth]
    simp only [PyData.depth]
    omega
theorem ok_Num {f fDr fPi : Addr} {fd fdDr fdPi : FuncData} (F : Fun K "_law_numbers" "_law_numbers" sNum f fd) (Nn : Nm mg) (F_draw : Fun K "_law_draw" "_law_draw" sDraw fDr fdDr) (g_draw : mg "_law_draw" = some (.ref fDr)) (F_pick : Fun K "_law_pick" "_law_pick" sPick fPi fdPi) (g_pick : mg "_law_pick" = some (.ref fPi)) (n_range : mg "range" = none) (n_list : mg "list" = none) : FnOk P w K mg base CX0 3 f fd ["_law_pen_here", "_law_some", "_law_many"] spNum := by
  have G_draw : FnOk P w K mg base CX0 1 fDr fdDr ["_law_pen_here", "_law_many"] spDraw := ok_draw F_draw Nn
  have b_draw : Binds K fdDr ["_law_pen_here", "_law_many"] [] := F_draw.binds fun _ _ _ _ _ _ us hl => match us, hl with | [_, _], _ => rfl
  have G_pick : FnOk P w K mg base CX0 2 fPi fdPi ["_law_pen_here", "_law_some"] (spPick K) := ok_pick F_pick Nn F_draw g_draw
  have b_pick : Binds K fdPi ["_law_pen_here", "_law_some"] [] := F_pick.binds fun _ _ _ _ _ _ us hl => match us, hl with | [_, _], _ => rfl
  refine F.ok scNum (fun vs H Q E h => ?_) (fun cdv A outer s H vs Q E hr h => ?_)
  · obtain ⟨p, c, ds, n, z, sl, rs, xss, many, B, rfl, _⟩ := h
    rfl
  · obtain ⟨p, c, ds, n, z, sl, rs, xss, many, B, rfl, hp, hn, nsl, esl, ra, rv, r10, m1, m3, hB, k⟩ := h
    have hr2 : Room 2 _ := hr
    have hr1 := hr2.mono (show 1 ≤ 2 by decide)
    have hud : (A.deeper (envOfC "_law_numbers" (defScope sNum) s.heap.objs.size f cdv)).units + 64 < cLine := (by have := hr2.units; omega)
    refine ⟨_, (pss_cons (ps_par (i := 3) (j := 4) (by rfl) scNum.nd rfl rfl (by decide) rfl rfl (pa_cons (pe_call G_draw hr1 (by rfl) g_draw F_draw.kp b_draw .nil pass0 (pa_cons (pv 0) (pa_cons pe_int pa_nil))) (pa_cons (pe_call G_draw hr1 (by rfl) g_draw F_draw.kp b_draw .nil pass0 (pa_cons (pv 0) (pa_cons (pv 2) pa_nil))) pa_nil)) (by rfl))
    (pss_cons (ps_if (PW.pt (pw_or (pt_cmpR op_lt (pv 3) pe_int (nomark _)) (pw_or1 (pt_cmpR (op_eqD hud) (pv 1) (pe_lst pa_nil) (nomark _))))) (pss_one (ps_ret (pe_lc (own := [("_law_turn", 5)]) (by rfl) scNum.nd (pi_range1 rfl n_range (pa_cons (pv 2) pa_nil)) (blkOk_by (own := [("_law_turn", 5)]) (N := nNum) (sc := defScope sNum) (by decide +kernel)) (fun _ _ _ _ _ => (pg_name (i := 5) scNum.nd rfl (Or.inl rfl))) (fun _ _ _ _ _ => pts_nil) (fun _ _ _ _ _ => (pe_call G_draw hr1 (by rfl) g_draw F_draw.kp b_draw .nil pass0 (pa_cons (pv 0) (pa_cons pe_int pa_nil))))))) pss_nil)
    (pss_cons (ps_if (pt_cmpR op_eq (pv 3) pe_int (nomark _)) (pss_one (ps_ret (pe_lc (own := [("_law_turn", 5)]) (by rfl) scNum.nd (pi_range1 rfl n_range (pa_cons (pv 2) pa_nil)) (blkOk_by (own := [("_law_turn", 5)]) (N := nNum) (sc := defScope sNum) (by decide +kernel)) (fun _ _ _ _ _ => (pg_name (i := 5) scNum.nd rfl (Or.inl rfl))) (fun _ _ _ _ _ => pts_nil) (fun _ _ _ _ _ => (pe_call G_pick hr2 (by rfl) g_pick F_pick.kp b_pick .nil pass0 (pa_cons (pv 0) (pa_cons (pe_lst (pa_cons pe_int (pa_cons pe_int (pa_cons (pe_call G_draw hr1 (by rfl) g_draw F_draw.kp b_draw .nil pass0 (pa_cons (pv 0) (pa_cons (pe_op op_pow pe_int pe_int) pa_nil))) pa_nil)))) pa_nil))))))) pss_nil)
    (pss_cons (ps_set (i := 6) scNum.nd rfl (Or.inl rfl) (pe_callTy call_list_of (by rfl) n_list (by decide +kernel) (pa_cons (pe_call G_pick hr2 (by rfl) g_pick F_pick.kp b_pick .nil pass0 (pa_cons (pv 0) (pa_cons (pv 1) pa_nil))) pa_nil)))
    (pss_cons (ps_asg (pe_ifExp (PW.pt (pw_or (pt_cmpR op_eq (pe_call G_draw hr1 (by rfl) g_draw F_draw.kp b_draw .nil pass0 (pa_cons (pv 0) (pa_cons pe_int pa_nil))) pe_int (nomark _)) (pw_or1 (pt_cmpR op_eq (pe_ix ix_list (pv 6) (pv 4) (fun _ _ => rfl)) pe_int (nomark _))))) (pe_op op_add (pe_ix ix_list (pv 6) (pv 4) (fun _ _ => rfl)) pe_int) (pe_op op_sub (pe_ix ix_list (pv 6) (pv 4) (fun _ _ => rfl)) pe_int)) (pg_sub (pv 6) (pv 4) set_list))
    (pss_one (ps_ret (pv 6)))))))), ?_⟩
    have sz := sizeLine_eq
    have tp : (0 : Int) < 10 ^ 59 := by decide +kernel
    have big : ∀ i : Int, 0 ≤ i → i ≤ 10 ^ 59 → i.natAbs < 2 ^ 1000 := fun i h0 h1 => Nat.lt_of_le_of_lt (show i.natAbs ≤ 10 ^ 59 by omega) (by decide +kernel)
    have keep : ∀ {H1 H2 : Hp} {n1 : Nat} {z1 : Int}, PenAt H1 p c ds n1 z1 → But p H1 H2 → RowsAt H1 rs xss → RowsAt H2 rs xss := fun P b h => h.mono fun q xs e => b _ _ (ints_pen P e) e
    refine ⟨_, rfl, p, c, ds, n, z, 4, rfl, hp, by omega, by decide, big 4 (by decide) (by decide +kernel), fun way n1 z1 H1 w0 w1 hn1 hp1 s1 => ?_⟩
    have m59 : (many : Int) ≤ 10 ^ 59 := by omega
    refine ⟨_, rfl, _, rfl, p, c, ds, n1, z1, (many : Nat), rfl, hp1, by omega, by omega, big _ (by omega) m59, fun at_ n2 z2 H2 a0 a1 hn2 hp2 s2 => ⟨_, _, rfl, ?_⟩⟩
    have b2 := s1.trans s2
    have esl2 := b2 _ _ nsl esl
    have ra2 := keep hp b2 ra
    refine ⟨_, rfl, _, _, rfl, rfl, _, rfl, ?_⟩
    refine ite2 (fun c1 => ?_) (fun c1 => ?_)
    · refine ⟨_, rfl, many, rfl, by omega, by omega, fun L hL => ?_⟩
      have nL : L ≠ p := fun e => hp2.some (e ▸ hL)
      have ncL : c ≠ L := ne_of_none hp2.cells hL
      have sL := Same.of_new (o := .lst []) hL
      refine lc_it walk_range (fun i Hx => ∃ (xs : List Int) (n' : Nat) (z' : Int), Hx L = some (.lst (xs.map V.int)) ∧ xs.length = i ∧ (∀ v ∈ xs, 0 ≤ v ∧ v ≤ B + 1) ∧ PenAt Hx p c ds n' z' ∧ n' ≤ n2 + i ∧ But p H2 Hx) ⟨[], n2, _, upd_same, rfl, (fun v h => by cases h), hp2.same sL, by omega, Same.but p sL⟩ (fun _ _ _ _ => True.intro) (fun i u Hx Hy hi q0 y => ?_) (fun Hx q0 => ?_)
      · obtain ⟨xs, n', z', eL, lx, vx, pn, ln, bx⟩ := q0
        obtain ⟨rfl, ey⟩ := y
        rw [Int.toNat_natCast] at hi
        refine ⟨rfl, ?_⟩
        refine ⟨_, rfl, p, c, ds, n', z', 4, rfl, pn, by omega, by decide, big 4 (by decide) (by decide +kernel), fun d n5 z5 H5 d0 d1 hn5 hp5 s5 => ?_⟩
        have eL5 := s5 _ _ nL eL
        refine ⟨_, eL5, by rw [List.length_map]; omega, xs ++ [d], n5, z5, ?_, by rw [List.length_append, lx]; rfl, fun v hv => ?_, hp5.put (Ne.symm nL) ncL, by omega, fun b o nb e => ?_⟩
        · rw [List.map_append]
          exact upd_same
        · rcases List.mem_append.mp hv with h | h
          · exact vx v h
          · rw [List.mem_singleton.mp h]
            omega
        · rw [upd_ne (ne_of_none e hL)]
          exact s5 b o nb (bx b o nb e)
      · obtain ⟨xs, n', z', eL, lx, vx, pn, ln, bx⟩ := q0
        rw [Int.toNat_natCast] at lx ln
        exact k L xs n' z' Hx (but_none b2 nL hL) lx vx (by omega) pn (b2.trans bx) eL
    refine ⟨_, rfl, Nat.zero_le _, fun N hN => ?_⟩
    have sN := Same.of_new (o := .lst []) hN
    have b3 := b2.trans (Same.but p sN)
    have hp3 := hp2.same sN
    have esl3 := sN _ _ esl2
    have ra3 := ra2.same sN
    refine ⟨.list (xss.map fun xs => .list (xs.map PyData.int)), .list [], .lst (SqL.of esl3) (rows_dp ra3), .lst (SqL.of upd_same) .nil, rows_shaped xss, OwD.shaped_nil, _, rfl, ?_⟩
    rw [OwD.eqv_nil]
    generalize upd H2 N (.lst []) = H3 at sN b3 hp3 esl3 ra3 ⊢
    refine ite2 (fun c2 => ?_) (fun c2 => ?_)
    · refine ⟨_, rfl, many, rfl, by omega, by omega, fun L hL => ?_⟩
      have nL : L ≠ p := fun e => hp3.some (e ▸ hL)
      have ncL : c ≠ L := ne_of_none hp3.cells hL
      have sL := Same.of_new (o := .lst []) hL
      refine lc_it walk_range (fun i Hx => ∃ (xs : List Int) (n' : Nat) (z' : Int), Hx L = some (.lst (xs.map V.int)) ∧ xs.length = i ∧ (∀ v ∈ xs, 0 ≤ v ∧ v ≤ B + 1) ∧ PenAt Hx p c ds n' z' ∧ n' ≤ n2 + i ∧ But p H3 Hx) ⟨[], n2, _, upd_same, rfl, (fun v h => by cases h), hp3.same sL, by omega, Same.but p sL⟩ (fun _ _ _ _ => True.intro) (fun i u Hx Hy hi q0 y => ?_) (fun Hx q0 => ?_)
      · obtain ⟨xs, n', z', eL, lx, vx, pn, ln, bx⟩ := q0
        obtain ⟨rfl, ey⟩ := y
        rw [Int.toNat_natCast] at hi
        refine ⟨rfl, ?_⟩
        refine ⟨_, rfl, p, c, ds, n', z', 4, rfl, pn, by omega, by decide, big 4 (by decide) (by decide +kernel), fun d n5 z5 H5 d0 d1 hn5 hp5 s5 => ?_⟩
        have eL5 := s5 _ _ nL eL
        refine ⟨_, eL5, by rw [List.length_map]; omega, xs ++ [d], n5, z5, ?_, by rw [List.length_append, lx]; rfl, fun v hv => ?_, hp5.put (Ne.symm nL) ncL, by omega, fun b o nb e => ?_⟩
        · rw [List.map_append]
          exact upd_same
        · rcases List.mem_append.mp hv with h | h
          · exact vx v h
          · rw [List.mem_singleton.mp h]
            omega
        · rw [upd_ne (ne_of_none e hL)]
          exact s5 b o nb (bx b o nb e)
      · obtain ⟨xs, n', z', eL, lx, vx, pn, ln, bx⟩ := q0
        rw [Int.toNat_natCast] at lx ln
        exact k L xs n' z' Hx (but_none b3 nL hL) lx vx (by omega) pn (b3.trans bx) eL
    have ne : xss ≠ [] := fun e => c2 (by rw [e]; rfl)
    have rpos : 0 < rs.length := by
      rw [ra.len]
      exact List.length_pos_iff.mpr ne
    refine ⟨_, rfl, rfl, _, rfl, ?_⟩
    refine ite2 (fun c3 => ?_) (fun c3 => ?_)
    · refine ⟨_, rfl, many, rfl, by omega, by omega, fun L hL => ?_⟩
      have nL : L ≠ p := fun e => hp3.some (e ▸ hL)
      have ncL : c ≠ L := ne_of_none hp3.cells hL
      have sL := Same.of_new (o := .lst []) hL
      refine lc_it walk_range (fun i Hx => ∃ (xs : List Int) (n' : Nat) (z' : Int), Hx L = some (.lst (xs.map V.int)) ∧ xs.length = i ∧ (∀ v ∈ xs, 0 ≤ v ∧ v ≤ B + 1) ∧ PenAt Hx p c ds n' z' ∧ n' ≤ n2 + 2 * i ∧ But p H3 Hx) ⟨[], n2, _, upd_same, rfl, (fun v h => by cases h), hp3.same sL, by omega, Same.but p sL⟩ (fun _ _ _ _ => True.intro) (fun i u Hx Hy hi q0 y => ?_) (fun Hx q0 => ?_)
      · obtain ⟨xs, n', z', eL, lx, vx, pn, ln, bx⟩ := q0
        obtain ⟨rfl, ey⟩ := y
        rw [Int.toNat_natCast] at hi
        refine ⟨rfl, ?_⟩
        refine ⟨_, rfl, _, rfl, _, _, rfl, rfl, ⟨by decide, by decide, by decide⟩, p, c, ds, n', z', 10 ^ 59, rfl, pn, by omega, tp, big _ (by omega) (Int.le_refl _), fun g n4 z4 H4 g0 g1 hn4 hp4 s4 => ⟨by show (3 : Nat) ≤ sizeLine; omega, fun M hM => ?_⟩⟩
        have sM := Same.of_new (o := .lst [.int 0, .int 2, .int g]) hM
        have nM : M ≠ p := fun e => hp4.some (e ▸ hM)
        refine ⟨p, c, M, ds, n4, z4, _, rfl, hp4.same sM, by omega, nM, SqL.of upd_same, by show 0 < 3; decide, by show 3 < 1000; decide, fun d n5 z5 H5 hd hn5 hp5 s5 => ?_⟩
        have dv : ∃ v : Int, d = .int v ∧ 0 ≤ v ∧ v ≤ B + 1 := by
          simp only [List.mem_cons, List.not_mem_nil, or_false] at hd
          rcases hd with rfl | rfl | rfl
          · exact ⟨0, rfl, by omega, by omega⟩
          · exact ⟨2, rfl, by omega, by omega⟩
          · exact ⟨g, rfl, g0, by omega⟩
        obtain ⟨v, rfl, v0, v1⟩ := dv
        have eL5 := s5 _ _ nL (sM _ _ (s4 _ _ nL eL))
        refine ⟨_, eL5, by rw [List.length_map]; omega, xs ++ [v], n5, z5, ?_, by rw [List.length_append, lx]; rfl, fun u hu => ?_, hp5.put (Ne.symm nL) ncL, by omega, fun b o nb e => ?_⟩
        · rw [List.map_append]
          exact upd_same
        · rcases List.mem_append.mp hu with h | h
          · exact vx u h
          · rw [List.mem_singleton.mp h]
            exact ⟨v0, v1⟩
        · rw [upd_ne (ne_of_none e hL)]
          exact s5 b o nb (sM _ _ (s4 b o nb (bx b o nb e)))
      · obtain ⟨xs, n', z', eL, lx, vx, pn, ln, bx⟩ := q0
        rw [Int.toNat_natCast] at lx ln
        have nLp : L ≠ p := nL
        exact k L xs n' z' Hx (but_none b3 nLp hL) lx vx (by omega) pn (b3.trans bx) eL
    refine ⟨_, rfl, _, rfl, p, c, sl, ds, n2, z2, _, rfl, hp3, by omega, nsl, SqL.of esl3, by rw [List.length_map]; exact rpos, by rw [List.length_map]; omega, fun d n4 z4 H4 hd hn4 hp4 s4 => ?_⟩
    obtain ⟨r, hr0, rfl⟩ := List.mem_map.mp hd
    obtain ⟨i, hi, er⟩ := mem_idx hr0
    obtain ⟨xs, ex⟩ := get_some (xs := xss) rfl (show i < xss.length by rw [← ra.len]; exact hi)
    have ra4 := keep hp3 s4 ra3
    have e4 := ra4.at_ i r xs er ex
    obtain ⟨lx, vx⟩ := rv xs (List.mem_of_getElem? ex)
    refine ⟨r, _, rfl, .inl (SqL.of e4), fun L hL => ?_⟩
    have sL := Same.of_new (o := .lst (xs.map V.int)) hL
    have b5 := (b3.trans s4).trans (Same.but p sL)
    have hp5 := hp4.same sL
    have nL : L ≠ p := fun e => hp4.some (e ▸ hL)
    have ncL : c ≠ L := ne_of_none hp4.cells hL
    have L0 : H L = none := but_none (b3.trans s4) nL hL
    have e5 : upd H4 L (.lst (xs.map V.int)) L = some (.lst (xs.map V.int)) := upd_same
    generalize upd H4 L (.lst (xs.map V.int)) = H5 at e5 b5 hp5 ⊢
    obtain ⟨ak, rfl⟩ := Int.eq_ofNat_of_zero_le a0
    have ak2 : ak < many := by omega
    obtain ⟨v, ev⟩ := get_some lx ak2
    have vv := vx v (List.mem_of_getElem? ev)
    have ev2 : (xs.map V.int)[ak]? = some (.int v) := by rw [List.getElem?_map, ev]; rfl
    have li : (xs.map V.int).length = many := by rw [List.length_map, lx]
    have ixk : ixN (xs.map V.int).length ((ak : Nat) : Int) = some ak := by
      rw [li]
      unfold ixN
      rw [if_pos (by omega), if_pos (by omega), Int.toNat_natCast]
    -- the changed number
    refine ⟨_, rfl, p, c, ds, n4, z4, 2, rfl, hp5, by omega, by decide, big 2 (by decide) (by decide +kernel), fun d n6 z6 H6 d0 d1 hn6 hp6 s6 => ⟨rfl, _, rfl, ?_⟩⟩
    have e6 := s6 _ _ nL e5
    have b6 := b5.trans s6
    have done : ∀ (u : Int), 0 ≤ u → u ≤ B + 1 → ∀ Q' : VK, (∀ (L : Addr) (xs : List Int) (n' : Nat) (z' : Int) (H' : Hp), H L = none → xs.length = many → (∀ v ∈ xs, 0 ≤ v ∧ v ≤ B + 1) → n' ≤ n + 20 → PenAt H' p c ds n' z' → But p H H' → H' L = some (.lst (xs.map V.int)) → Q' (V.ref L) H') → Q' (.ref L) (upd H6 L (.lst ((xs.map V.int).set ak (.int u)))) := fun u u0 u1 Q' k => by
      have es : (xs.map V.int).set ak (.int u) = (xs.set ak u).map V.int := by rw [List.map_set]
      rw [es]
      refine k L (xs.set ak u) n6 z6 _ L0 (by rw [List.length_set, lx]) (fun w hw => ?_) (by omega) (hp6.put (Ne.symm nL) ncL) (fun b o nb e => ?_) upd_same
      · rcases List.mem_or_eq_of_mem_set hw with h | h
        · have := vx w h
          omega
        · rw [h]
          exact ⟨u0, u1⟩
      · rw [upd_ne (ne_of_none e L0)]
        exact b6 b o nb e
    refine ite2 (fun c5 => ?_) (fun c5 => ?_)
    · refine ⟨_, rfl, _, rfl, L, _, _, _, rfl, rfl, SqL.of e6, atI_nat (j := ak) ev2, _, _, rfl, rfl, ?_⟩
      refine ⟨_, rfl, _, rfl, L, _, _, ak, rfl, rfl, e6, ixk, ?_⟩
      exact ⟨_, rfl, done (v + 1) (by omega) (by omega) Q k⟩
    refine ⟨_, rfl, _, rfl, L, _, _, _, rfl, rfl, SqL.of e6, atI_nat (j := ak) ev2, rfl, _, rfl, ?_⟩
    refine ite2 (fun c6 => ?_) (fun c6 => ?_)
    · refine ⟨_, rfl, _, rfl, L, _, _, _, rfl, rfl, SqL.of e6, atI_nat (j := ak) ev2, _, _, rfl, rfl, ?_⟩
      refine ⟨_, rfl, _, rfl, L, _, _, ak, rfl, rfl, e6, ixk, ?_⟩
      exact ⟨_, rfl, done (v + 1) (by omega) (by omega) Q k⟩
    have v1 : v ≠ 0 := fun e => c6 (decide_eq_true (by rw [e]))
    refine ⟨_, rfl, _, rfl, L, _, _, _, rfl, rfl, SqL.of e6, atI_nat (j := ak) ev2, _, _, rfl, rfl, ?_⟩
    refine ⟨_, rfl, _, rfl, L, _, _, ak, rfl, rfl, e6, ixk, ?_⟩
    exact ⟨_, rfl, done (v - 1) (by omega) (by omega) Q k⟩
end
end K10
end
section
set_option pp.maxSteps 400
set_option pp.deepTerms.threshold 6
namespace K10
open PySem PySem.Spec PyProof.Rows L2
abbrev sPR : Stmt := top 32
abbrev sBR : Stmt := top 33
theorem pip_of {X : Cx} {op : Operator} {rd : V → V → Hp → VK → Prop} (h : InOp X op rd) : PIp X op rd := fun pins s σ H x y u v Q I rx ry q => h pins s σ H x y u v Q I rx ry q
theorem mono_le {K : PySem.W.Frag} {op : CmpOp} {g C : Addr} {R : List Str → (Str → Int) → (Str → Int) → Bool} {E : XK} (i j : Nat) : OwR.MonoT (tOp (OwR.rCmp2 K op g (spCmpH C R) E) (tVar i) (tVar j)) := fun σ H Q Q' h ⟨v, e, u, e2, p, q, C1, D, dx, dy, fs, gs, h1, h2, h3, h4, h5, h6, a, b, ns, F, G, h7, n, hF, hG, k⟩ =>
  ⟨v, e, u, e2, p, q, C1, D, dx, dy, fs, gs, h1, h2, h3, h4, h5, h6, a, b, ns, F, G, h7, n, hF, hG, fun H' s => h _ _ (k H' s)⟩
theorem valF_zip {ns : List Str} {xs ys : List Int} {f : Int × Int → Int} (nd : ns.Nodup) (lx : xs.length = ns.length) (ly : ys.length = ns.length) {z : Str} (hz : z ∈ ns) : valF ns ((xs.zip ys).map f) z = f (valF ns xs z, valF ns ys z) := by
  obtain ⟨i, hi, e⟩ := mem_idx hz
  obtain ⟨x, ex⟩ := get_some lx hi
  obtain ⟨y, ey⟩ := get_some ly hi
  have lz : ((xs.zip ys).map f).length = ns.length := by rw [List.length_map, List.length_zip, lx, ly, Nat.min_self]
  have ez : ((xs.zip ys).map f)[i]? = some (f (x, y)) := by
    rw [List.getElem?_map, (List.getElem?_zip_eq_some (z := (x, y))).mpr ⟨ex, ey⟩]
    rfl
  rw [valF_get nd lz e ez, valF_get nd lx e ex, valF_get nd ly e ey]
def lessF (p : Int × Int) : Int := if p.1 < p.2 then p.1 else p.2
def greatF (p : Int × Int) : Int := if p.1 < p.2 then p.2 else p.1
/-- houses of rows -/
structure HsAt (C : Addr) (ns : List Str) (H : Hp) (hs : List Addr) (xss : List (List Int)) : Prop where
  len : hs.length = xss.length
  at_ : ∀ (i : Nat) (h : Addr) (xs : List Int), hs[i]? = some h → xss[i]? = some xs → HouseF C ns H h (valF ns xs)
theorem HsAt.same {C : Addr} {ns : List Str} {H H' : Hp} {hs : List Addr} {xss : List (List Int)} (h : HsAt C ns H hs xss) (s : Same H H') : HsAt C ns H' hs xss := ⟨h.len, fun i k xs e1 e2 => (h.at_ i k xs e1 e2).same s⟩
def capN : Int := 10 ^ 59 + 10
theorem cap_top : 0 ≤ capN ∧ 3 * capN ≤ topN := by decide +kernel
def spPR (C : Addr) : Sp := fun vs H Q _ => ∃ (nl sl hl : Addr) (ns : List Str) (rs hs : List Addr) (xss : List (List Int)), vs = [.ref nl, .ref sl, .ref hl] ∧ H nl = some (.lst (ns.map V.str)) ∧ H sl = some (.lst (rs.map V.ref)) ∧ H hl = some (.lst (hs.map V.ref)) ∧ RowsAt H rs xss ∧ HsAt C ns H hs xss ∧ NS ns ∧ ns.Nodup ∧ ns.length ≤ 3 ∧ (∀ xs ∈ xss, xs.length = ns.length ∧ ∀ v ∈ xs, 0 ≤ v ∧ v ≤ capN) ∧ rs.length ≤ 10 ∧ ∀ H', Same H H' → Q (.bl true) H'
theorem spPR_len {C : Addr} : ∀ vs H Q E, spPR C vs H Q E → vs.length = (["_law_names", "_law_some", "_law_houses"] : List Str).length := fun vs H Q E h => by
  obtain ⟨nl, sl, hl, ns, rs, hs, xss, rfl, _⟩ := h
  rfl
section
variable {P : Program} {w : World} {K : PySem.W.Frag} {mg : Str → Option Value} {base : Heap}
abbrev nPR : List Str := ["_law_names", "_law_some", "_law_houses", "_law_left", "_law_one", "_law_right", "_law_other", "_law_below", "_law_above", "_law_same", "_law_due", "_law_lesser", "_law_a", "_law_b", "_law_greater", "_law_both", "_law_most", "_law_held"]
theorem scPR : FnScope nPR ["_law_names", "_law_some", "_law_houses"] (defScope sPR) := ⟨rfl, rfl, rfl, by decide +kernel, rfl, by decide +kernel, by decide +kernel⟩
theorem ok_PR {a : HAd} {f fAM fLH fCp : Addr} {fd fdAM fdLH fdCp : FuncData} (R : HHF P w K mg base a) (F : Fun K "_law_pairs_right" "_law_pairs_right" sPR f fd) (F_at_most : Fun K "_law_at_most" "_law_at_most" sAM fAM fdAM) (g_at_most : mg "_law_at_most" = some (.ref fAM)) (F_house : Fun K "_law_house" "_law_house" sLH fLH fdLH) (g_house : mg "_law_house" = some (.ref fLH))
    (F_compared : Fun K "_law_compared" "_law_compared" sCmp fCp fdCp) (g_compared : mg "_law_compared" = some (.ref fCp)) (n_zip : mg "zip" = none) (n_enumerate : mg "enumerate" = none) (n_repr : mg "repr" = none) : OwR.FnG P w K mg base CX0 10 f fd ["_law_names", "_law_some", "_law_houses"] (spPR a.C) := by
  have G_at_most : FnOk P w K mg base CX0 1 fAM fdAM ["_law_left", "_law_right"] (spAM K) := ok_AM F_at_most n_enumerate
  have b_at_most : Binds K fdAM ["_law_left", "_law_right"] [] := F_at_most.binds fun _ _ _ _ _ _ us hl => match us, hl with | [_, _], _ => rfl
  have G_house : FnOk P w K mg base CX0 8 fLH fdLH ["_law_names", "_law_numbers_here"] (spLH a.C) := ok_LH R F_house n_zip
  have b_house : Binds K fdLH ["_law_names", "_law_numbers_here"] [] := F_house.binds fun _ _ _ _ _ _ us hl => match us, hl with | [_, _], _ => rfl
  have G_compared : FnOk P w K mg base CX0 7 fCp fdCp ["_law_one", "_law_other"] (spCp a.C) := ok_Cp R F_compared
  have b_compared : Binds K fdCp ["_law_one", "_law_other"] [] := F_compared.binds fun _ _ _ _ _ _ us hl => match us, hl with | [_, _], _ => rfl
  obtain ⟨oc, od, kV, doc, pm, an, cdv, ct, osl, rfl, lk, hcd⟩ := F.ex
  refine OwR.fn_ofG (k := 9) lk hcd scPR (fun vs H Q E h => ?_) fun A outer s H vs Q E hgd0 hr h => ?_
  · exact spPR_len vs H Q E h
  · obtain ⟨nl, sl, hl, ns, rs, hs, xss, rfl, en, es, eh, ra, ha, n, nd, n3, rv, r10, k⟩ := h
    have hgd : (A.deeper (envOfC "_law_pairs_right" (defScope sPR) s.heap.objs.size f cdv)).guards = some [] := hgd0
    have hr9 : Room 9 (A.deeper (envOfC "_law_pairs_right" (defScope sPR) s.heap.objs.size f cdv)) := hr
    have hr8 := hr9.mono (show 8 ≤ 9 by decide)
    have hr7 := hr9.mono (show 7 ≤ 9 by decide)
    have hr2 := hr9.mono (show 2 ≤ 9 by decide)
    have hr1 := hr9.mono (show 1 ≤ 9 by decide)
    have hun := hr9.un
    have hrep : (A.deeper (envOfC "_law_pairs_right" (defScope sPR) s.heap.objs.size f cdv)).units + 70 < cLine := by omega
    have hud : (A.deeper (envOfC "_law_pairs_right" (defScope sPR) s.heap.objs.size f cdv)).units + 64 < cLine := by omega
    have hu1 : (A.deeper (envOfC "_law_pairs_right" (defScope sPR) s.heap.objs.size f cdv)).units + 1 < cLine := by omega
    refine ⟨_, PSs.nox (pss_cons (ps_for PassesOwn.never rfl (pi_zip (by rfl) n_zip (pa_cons (pv 1) (pa_cons (pv 2) pa_nil))) (pg_tup rfl (pgs_cons (pg_name (i := 3) scPR.nd rfl (Or.inl rfl)) (pgs_cons (pg_name (i := 4) scPR.nd rfl (Or.inl rfl)) pgs_nil))) (pss_one (ps_for PassesOwn.never rfl (pi_zip (by rfl) n_zip (pa_cons (pv 1) (pa_cons (pv 2) pa_nil))) (pg_tup rfl (pgs_cons (pg_name (i := 5) scPR.nd rfl (Or.inl rfl)) (pgs_cons (pg_name (i := 6) scPR.nd rfl (Or.inl rfl)) pgs_nil))) (pss_cons (ps_par3 (i := 7) (j := 8) (l := 9) (by rfl) scPR.nd rfl rfl rfl (by decide) (by decide) (by decide) rfl rfl rfl (pa_cons (pe_call G_at_most hr1 (by rfl) g_at_most F_at_most.kp b_at_most .nil pass0 (pa_cons (pv 3) (pa_cons (pv 5) pa_nil))) (pa_cons (pe_call G_at_most hr1 (by rfl) g_at_most F_at_most.kp b_at_most .nil pass0 (pa_cons (pv 5) (pa_cons (pv 3) pa_nil))) (pa_cons (pe_cmpR (op_eqD hud) (pv 3) (pv 5) (nomark _)) pa_nil))) (by rfl))
    (pss_cons (ps_set (i := 10) scPR.nd rfl (Or.inl rfl) (pe_lst (pa_cons (pv 7) (pa_cons (OwR.pe_andB (OwR.mono_var _) (pv 7) (pe_one (pe_not (pv 9)))) (pa_cons (pv 8) (pa_cons (OwR.pe_andB (OwR.mono_var _) (pv 8) (pe_one (pe_not (pv 9)))) (pa_cons (pv 9) (pa_cons (pe_not (pv 9)) pa_nil))))))))
    (pss_cons (ps_if (pt_cmpR op_ne (pe_callB (id := "repr") (r := OwE.rRepr K) (OwE.cr_repr hgd hrep) (by rfl) n_repr (by decide +kernel) (pa_cons (pe_call G_compared hr7 (by rfl) g_compared F_compared.kp b_compared .nil pass0 (pa_cons (pv 4) (pa_cons (pv 6) pa_nil))) pa_nil)) (pe_callB (id := "repr") (r := OwE.rRepr K) (OwE.cr_repr hgd hrep) (by rfl) n_repr (by decide +kernel) (pa_cons (pv 10) pa_nil)) (nomark _)) (pss_one (ps_ret pe_bl)) pss_nil)
    (pss_cons (ps_setLc (i := 11) (own := [("_law_a", 12), ("_law_b", 13)]) (g := (gTup K 2 (gCons (gName 12) (gCons (gName 13) gNil)))) (by rfl) scPR.nd rfl rfl (sw_true rfl rfl rfl (by decide +kernel)) (pi_zip (by rfl) n_zip (pa_cons (pv 3) (pa_cons (pv 5) pa_nil))) (blkOk_by (own := [("_law_a", 12), ("_law_b", 13)]) (N := nPR) (sc := defScope sPR) (by decide +kernel)) (fun _ _ _ _ _ => (pg_tup rfl (pgs_cons (pg_name (i := 12) scPR.nd rfl (Or.inl rfl)) (pgs_cons (pg_name (i := 13) scPR.nd rfl (Or.inl rfl)) pgs_nil)))) (fun _ _ _ _ _ => pts_nil) (fun _ _ _ _ _ => (pe_ifExp (pt_cmpR op_lt (pv 12) (pv 13) (nomark _)) (pv 12) (pv 13))))
    (pss_cons (ps_setLc (i := 14) (own := [("_law_a", 12), ("_law_b", 13)]) (g := (gTup K 2 (gCons (gName 12) (gCons (gName 13) gNil)))) (by rfl) scPR.nd rfl rfl (sw_true rfl rfl rfl (by decide +kernel)) (pi_zip (by rfl) n_zip (pa_cons (pv 3) (pa_cons (pv 5) pa_nil))) (blkOk_by (own := [("_law_a", 12), ("_law_b", 13)]) (N := nPR) (sc := defScope sPR) (by decide +kernel)) (fun _ _ _ _ _ => (pg_tup rfl (pgs_cons (pg_name (i := 12) scPR.nd rfl (Or.inl rfl)) (pgs_cons (pg_name (i := 13) scPR.nd rfl (Or.inl rfl)) pgs_nil)))) (fun _ _ _ _ _ => pts_nil) (fun _ _ _ _ _ => (pe_ifExp (pt_cmpR op_lt (pv 12) (pv 13) (nomark _)) (pv 13) (pv 12))))
    (pss_cons (ps_par (i := 15) (j := 16) (by rfl) scPR.nd rfl rfl (by decide) rfl rfl (pa_cons (pe_op (OwR.op_own2 R.and_ hr7 pass0) (pv 4) (pv 6)) (pa_cons (pe_op (OwR.op_own2 R.or_ hr7 pass0) (pv 4) (pv 6)) pa_nil)) (by rfl))
    (pss_cons (ps_if (PW.pt (pw_or (pt_cmpR (OwR.op_ownNe hu1 R.eq hr2 pass0) (pv 15) (pe_call G_house hr8 (by rfl) g_house F_house.kp b_house .nil pass0 (pa_cons (pv 0) (pa_cons (pv 11) pa_nil))) (nomark _)) (pw_or1 (pt_cmpR (OwR.op_ownNe hu1 R.eq hr2 pass0) (pv 16) (pe_call G_house hr8 (by rfl) g_house F_house.kp b_house .nil pass0 (pa_cons (pv 0) (pa_cons (pv 14) pa_nil))) (nomark _))))) (pss_one (ps_ret pe_bl)) pss_nil)
    (pss_cons (ps_if (PW.pt (pw_or (pt_cmpR (OwR.op_ownNe hu1 R.eq hr2 pass0) (pe_op (OwR.op_own2 R.add hr7 pass0) (pv 15) (pv 16)) (pe_op (OwR.op_own2 R.add hr7 pass0) (pv 4) (pv 6)) (nomark _)) (pw_or1 (pt_cmpR (OwR.op_ownNe hu1 R.eq hr2 pass0) (pe_op (OwR.op_own2 R.sub hr7 pass0) (pv 16) (pv 6)) (pe_op (OwR.op_own2 R.sub hr7 pass0) (pv 4) (pv 15)) (nomark _))))) (pss_one (ps_ret pe_bl)) pss_nil)
    (pss_cons (ps_set (i := 17) scPR.nd rfl (Or.inl rfl) (pv 4))
    (pss_cons (ps_aug (i := 17) scPR.nd rfl (Or.inl rfl) (pv 6) (pip_of (OwR.in_own2 R.or_ hr7 pass0)))
    (pss_cons (ps_aug (i := 17) scPR.nd rfl (Or.inl rfl) (pv 6) (pip_of (OwR.in_own2 R.add hr7 pass0)))
    (pss_one (ps_if (PW.pt (pw_or (pt_cmpR (OwR.op_ownNe hu1 R.eq hr2 pass0) (pv 17) (pe_op (OwR.op_own2 R.add hr7 pass0) (pv 16) (pv 6)) (nomark _)) (pw_or (pt_cmpR (OwR.op_ownNe hu1 R.eq hr2 pass0) (pv 4) (pe_call G_house hr8 (by rfl) g_house F_house.kp b_house .nil pass0 (pa_cons (pv 0) (pa_cons (pv 3) pa_nil))) (nomark _)) (pw_or1 (pt_cmpR (OwR.op_ownNe hu1 R.eq hr2 pass0) (pv 6) (pe_call G_house hr8 (by rfl) g_house F_house.kp b_house .nil pass0 (pa_cons (pv 0) (pa_cons (pv 5) pa_nil))) (nomark _)))))) (pss_one (ps_ret pe_bl)) pss_nil))))))))))))))))
    (pss_one (ps_ret pe_bl))), ?_⟩
    have sz := sizeLine_eq
    have szl : ∀ n : Nat, n ≤ 30 → n ≤ sizeLine := fun n h => by omega
    obtain ⟨cap0, cap3⟩ := cap_top
    have hlen : rs.length = hs.length := by rw [ra.len, ha.len]
    have hnz : rs.length = min (rs.map V.ref).length (hs.map V.ref).length := by rw [List.length_map, List.length_map, ← hlen, Nat.min_self]
    refine ⟨_, rfl, _, rfl, sl, hl, _, _, rfl, SqL.of es, SqL.of eh, ?_⟩
    refine for_it (walk_zip (xs := rs.map V.ref) (ys := hs.map V.ref) hnz) (fun i σ Hx => Same H Hx ∧ ∃ x3 x4 x5 x6 x7 x8 x9 x10 x11 x12 x13 x14 x15 x16 x17, σ = [some (.ref nl), some (.ref sl), some (.ref hl), x3, x4, x5, x6, x7, x8, x9, x10, x11, x12, x13, x14, x15, x16, x17])
      ⟨Same.refl _, _, _, _, _, _, _, _, _, _, _, _, _, _, _, _, rfl⟩ (fun i σ Hx _ q => ⟨SqL.of (q.1 _ _ es), SqL.of (q.1 _ _ eh)⟩) (fun i u σ Hx Hy hi q0 y1 => ?_) (fun σ Hx q0 => ?_)
    · obtain ⟨s1, x3, x4, x5, x6, x7, x8, x9, x10, x11, x12, x13, x14, x15, x16, x17, rfl⟩ := q0
      obtain ⟨T, u1, u2, rfl, hT, rfl, hx, hz⟩ := y1
      obtain ⟨r1, xs, rfl, hr1', hxs, er1⟩ := (ra.same s1).get hx
      have hz : (hs.map V.ref)[i]? = some u2 := hz
      rw [List.getElem?_map] at hz
      obtain ⟨h1, hh1, rfl⟩ := Option.map_eq_some_iff.mp hz
      have hF0 := (ha.same s1).at_ i h1 xs hh1 hxs
      obtain ⟨lx, vx⟩ := rv xs (List.mem_of_getElem? hxs)
      have sT := Same.of_new (o := .tup [.ref r1, .ref h1]) hT
      refine ⟨T, _, rfl, .inl (.inl upd_same), rfl, _, _, rfl, _, _, rfl, rfl, ?_⟩
      have s2 := s1.trans sT
      have hF0 := hF0.same sT
      have er1 := sT _ _ er1
      generalize upd Hx T _ = H2 at s2 hF0 er1 ⊢
      clear s1 sT hT
      refine ⟨_, rfl, _, rfl, sl, hl, _, _, rfl, SqL.of (s2 _ _ es), SqL.of (s2 _ _ eh), ?_⟩
      refine for_it (walk_zip (xs := rs.map V.ref) (ys := hs.map V.ref) hnz) (fun i σ Hx => Same H2 Hx ∧ ∃ x5 x6 x7 x8 x9 x10 x11 x12 x13 x14 x15 x16 x17, σ = [some (.ref nl), some (.ref sl), some (.ref hl), some (.ref r1), some (.ref h1), x5, x6, x7, x8, x9, x10, x11, x12, x13, x14, x15, x16, x17])
        ⟨Same.refl _, _, _, _, _, _, _, _, _, _, _, _, _, _, rfl⟩ (fun i σ Hx _ q => ⟨SqL.of (q.1 _ _ (s2 _ _ es)), SqL.of (q.1 _ _ (s2 _ _ eh))⟩) (fun j u σ Hx Hy hj q0 y1 => ?_) (fun σ Hx q0 => ?_)
      rotate_left
      · obtain ⟨s3, x5, x6, x7, x8, x9, x10, x11, x12, x13, x14, x15, x16, x17, rfl⟩ := q0
        exact ⟨s2.trans s3, _, _, _, _, _, _, _, _, _, _, _, _, _, _, _, rfl⟩
      obtain ⟨s3, x5, x6, x7, x8, x9, x10, x11, x12, x13, x14, x15, x16, x17, rfl⟩ := q0
      obtain ⟨T, u1, u2, rfl, hT, rfl, hx, hz⟩ := y1
      have s23 := s2.trans s3
      obtain ⟨r2, ys, rfl, hr2', hys, er2⟩ := (ra.same s23).get hx
      have hz : (hs.map V.ref)[j]? = some u2 := hz
      rw [List.getElem?_map] at hz
      obtain ⟨h2, hh2, rfl⟩ := Option.map_eq_some_iff.mp hz
      have hG := (ha.same s23).at_ j h2 ys hh2 hys
      obtain ⟨ly, vy⟩ := rv ys (List.mem_of_getElem? hys)
      have sT := Same.of_new (o := .tup [.ref r2, .ref h2]) hT
      refine ⟨T, _, rfl, .inl (.inl upd_same), rfl, _, _, rfl, _, _, rfl, rfl, ?_⟩
      have s4 := s3.trans sT
      have hF := hF0.same s4
      have hG := hG.same sT
      have er1 := s4 _ _ er1
      have er2 := sT _ _ er2
      have en2 := s4 _ _ (s2 _ _ en)
      generalize upd Hx T _ = H4 at s4 hF hG er1 er2 en2 ⊢
      clear s3 sT hT s23
      obtain ⟨Fx, eFx⟩ : ∃ Fx, valF ns xs = Fx := ⟨_, rfl⟩
      obtain ⟨Gx, eGx⟩ : ∃ Gx, valF ns ys = Gx := ⟨_, rfl⟩
      -- at most
      refine ⟨_, rfl, _, rfl, r1, r2, xs, ys, rfl, er1, er2, by omega, by omega, fun H5 s5 => ?_⟩
      refine ⟨_, rfl, _, rfl, r2, r1, ys, xs, rfl, s5 _ _ er2, s5 _ _ er1, by omega, by omega, fun H6 s6 => ?_⟩
      have s56 := s5.trans s6
      refine ⟨_, rfl, _, rfl, .list (xs.map PyData.int), .list (ys.map PyData.int), .lst (SqL.of (s56 _ _ er1)) (OwD.dp_ints xs), .lst (SqL.of (s56 _ _ er2)) (OwD.dp_ints ys), OwD.shaped_ints xs, OwD.shaped_ints ys, ?_⟩
      rw [intl_eqv]
      refine ⟨_, _, _, rfl, ?_⟩
      have en6 := s56 _ _ en2
      have er16 := s56 _ _ er1
      have er26 := s56 _ _ er2
      have hF := hF.same s56
      have hG := hG.same s56
      have s6 := s4.trans s56
      clear s56 s5 s4 er1 er2 en2
      obtain ⟨ba, eba⟩ : ∃ ba, atMost xs ys = ba := ⟨_, rfl⟩
      obtain ⟨bb, ebb⟩ : ∃ bb, atMost ys xs = bb := ⟨_, rfl⟩
      obtain ⟨bs, ebs⟩ : ∃ bs, decide (xs = ys) = bs := ⟨_, rfl⟩
      rw [eba, ebb, ebs]
      have lF : leB ns Fx Gx = ba := by rw [← eFx, ← eGx, leB_rows nd lx ly, eba]
      have lG : leB ns Gx Fx = bb := by rw [← eFx, ← eGx, leB_rows nd ly lx, ebb]
      have qF : eqB ns Fx Gx = bs := by rw [← eFx, ← eGx, eqB_rows nd lx ly, ebs]
      have qG : eqB ns Gx Fx = bs := by
        rw [← eFx, ← eGx, eqB_rows nd ly lx, ← ebs]
        exact decide_eq_decide.mpr ⟨Eq.symm, Eq.symm⟩
      have six : sixB ns Fx Gx = [ba, ba && !bs, bb, bb && !bs, bs, !bs] := by
        unfold sixB ltB
        rw [lF, lG, qF, qG]
      have vF : ∀ z, 0 ≤ Fx z ∧ Fx z ≤ capN := fun z => eFx ▸ valF_nn nd lx cap0 vx z
      have vG : ∀ z, 0 ≤ Gx z ∧ Gx z ≤ capN := fun z => eGx ▸ valF_nn nd ly cap0 vy z
      rw [eFx] at hF
      rw [eGx] at hG
      -- what is due
      refine ⟨_, rfl, _, rfl, ba, !bs, rfl, fun Q' q1 => ⟨_, rfl, _, rfl, q1 _ (Same.refl _)⟩, fun H7 s7 => ?_⟩
      refine ⟨_, rfl, _, rfl, bb, !bs, rfl, fun Q' q1 => ⟨_, rfl, _, rfl, q1 _ (Same.refl _)⟩, fun H8 s8 => ?_⟩
      refine ⟨_, rfl, _, rfl, _, rfl, szl 6 (by decide), fun D hD => ?_⟩
      have sD := Same.of_new (o := .lst [.bl ba, .bl (ba && !bs), .bl bb, .bl (bb && !bs), .bl bs, .bl (!bs)]) hD
      have s9 := (s7.trans s8).trans sD
      have eD : upd H8 D (.lst [.bl ba, .bl (ba && !bs), .bl bb, .bl (bb && !bs), .bl bs, .bl (!bs)]) D = some (.lst (([ba, ba && !bs, bb, bb && !bs, bs, !bs]).map V.bl)) := upd_same
      generalize upd H8 D _ = H9 at s9 eD ⊢
      have hF := hF.same s9
      have hG := hG.same s9
      have er1 := s9 _ _ er16
      have er2 := s9 _ _ er26
      have en9 := s9 _ _ en6
      have s10 := s6.trans s9
      clear s7 s8 sD hD s9 s6 er16 er26 en6
      -- compared
      refine ⟨_, rfl, _, rfl, h1, h2, ns, Fx, Gx, rfl, n, hF, hG, fun L1 H10 s11 e11 => ?_⟩
      rw [six] at e11
      have eD2 := s11 _ _ eD
      refine ⟨_, _, rfl, rep_bools (by show (6 : Nat) ≤ 10; decide) e11, _, rfl, _, _, rfl, rep_bools (by show (6 : Nat) ≤ 10; decide) eD2, rfl, _, rfl, ?_⟩
      rw [decide_eq_true rfl]
      refine iteF ?_
      have hF := hF.same s11
      have hG := hG.same s11
      have er1 := s11 _ _ er1
      have er2 := s11 _ _ er2
      have en9 := s11 _ _ en9
      have s10 := s10.trans s11
      clear s11 e11 eD eD2
      have lz : (xs.zip ys).length = xs.length := by rw [List.length_zip, lx, ly, Nat.min_self]
      -- the lesser, the greater
      refine ⟨_, rfl, _, rfl, r1, r2, _, _, rfl, SqL.of er1, SqL.of er2, fun La hL => ?_⟩
      refine lc_it (walk_zip (xs := xs.map V.int) (ys := ys.map V.int) (n := xs.length) (by rw [List.length_map, List.length_map, lx, ly, Nat.min_self])) (fun i Hx => Same H10 Hx ∧ Hx La = some (.lst ((((xs.zip ys).take i).map lessF).map V.int))) ⟨Same.of_new hL, upd_same⟩ (fun i Hx _ q => ⟨SqL.of (q.1 _ _ er1), SqL.of (q.1 _ _ er2)⟩) (fun i u Hx Hy hi q0 y1 => ?_) (fun Hx q0 => ?_)
      · obtain ⟨t1, eL⟩ := q0
        obtain ⟨T, u1, u2, rfl, hT, rfl, hx, hz⟩ := y1
        have hx : (xs.map V.int)[i]? = some u1 := hx
        have hz : (ys.map V.int)[i]? = some u2 := hz
        rw [List.getElem?_map] at hx hz
        obtain ⟨v1, hv1, rfl⟩ := Option.map_eq_some_iff.mp hx
        obtain ⟨v2, hv2, rfl⟩ := Option.map_eq_some_iff.mp hz
        have sT := Same.of_new (o := .tup [.int v1, .int v2]) hT
        have ez : (xs.zip ys)[i]? = some (v1, v2) := List.getElem?_zip_eq_some.mpr ⟨hv1, hv2⟩
        refine ⟨T, _, rfl, .inl (.inl upd_same), rfl, _, _, rfl, _, _, rfl, rfl, rfl, ?_⟩
        refine ⟨_, rfl, _, rfl, _, _, rfl, rfl, _, rfl, ?_⟩
        have ll : ((((xs.zip ys).take i).map lessF).map V.int).length < sizeLine := by
          rw [List.length_map, List.length_map, List.length_take]
          omega
        refine ite2 (fun c => ?_) (fun c => ?_)
        · have c := of_decide_eq_true c
          refine ⟨_, rfl, _, sT _ _ eL, ll, fun q o e => ?_, ?_⟩
          · rw [upd_ne (ne_of_none e hL)]
            exact sT _ _ (t1 q o e)
          · rw [List.take_add_one, ez, List.map_append, List.map_append]
            have ef : lessF (v1, v2) = v1 := if_pos c
            show upd _ La (.lst (_ ++ [V.int v1])) La = some (.lst (_ ++ [V.int (lessF (v1, v2))]))
            rw [ef]
            exact upd_same
        · have c : ¬ v1 < v2 := fun h => c (decide_eq_true h)
          refine ⟨_, rfl, _, sT _ _ eL, ll, fun q o e => ?_, ?_⟩
          · rw [upd_ne (ne_of_none e hL)]
            exact sT _ _ (t1 q o e)
          · rw [List.take_add_one, ez, List.map_append, List.map_append]
            have ef : lessF (v1, v2) = v2 := if_neg c
            show upd _ La (.lst (_ ++ [V.int v2])) La = some (.lst (_ ++ [V.int (lessF (v1, v2))]))
            rw [ef]
            exact upd_same
      obtain ⟨t1, eL⟩ := q0
      rw [← lz, List.take_length] at eL
      clear hL
      have hF := hF.same t1
      have hG := hG.same t1
      have er1 := t1 _ _ er1
      have er2 := t1 _ _ er2
      have en9 := t1 _ _ en9
      have s10 := s10.trans t1
      have eLa := eL
      generalize Hx = H11 at hF hG er1 er2 en9 s10 eLa ⊢
      clear eL t1
      refine ⟨_, rfl, _, rfl, r1, r2, _, _, rfl, SqL.of er1, SqL.of er2, fun Lb hL => ?_⟩
      refine lc_it (walk_zip (xs := xs.map V.int) (ys := ys.map V.int) (n := xs.length) (by rw [List.length_map, List.length_map, lx, ly, Nat.min_self])) (fun i Hx => Same H11 Hx ∧ Hx Lb = some (.lst ((((xs.zip ys).take i).map greatF).map V.int))) ⟨Same.of_new hL, upd_same⟩ (fun i Hx _ q => ⟨SqL.of (q.1 _ _ er1), SqL.of (q.1 _ _ er2)⟩) (fun i u Hx Hy hi q0 y1 => ?_) (fun Hx q0 => ?_)
      · obtain ⟨t1, eL⟩ := q0
        obtain ⟨T, u1, u2, rfl, hT, rfl, hx, hz⟩ := y1
        have hx : (xs.map V.int)[i]? = some u1 := hx
        have hz : (ys.map V.int)[i]? = some u2 := hz
        rw [List.getElem?_map] at hx hz
        obtain ⟨v1, hv1, rfl⟩ := Option.map_eq_some_iff.mp hx
        obtain ⟨v2, hv2, rfl⟩ := Option.map_eq_some_iff.mp hz
        have sT := Same.of_new (o := .tup [.int v1, .int v2]) hT
        have ez : (xs.zip ys)[i]? = some (v1, v2) := List.getElem?_zip_eq_some.mpr ⟨hv1, hv2⟩
        refine ⟨T, _, rfl, .inl (.inl upd_same), rfl, _, _, rfl, _, _, rfl, rfl, rfl, ?_⟩
        refine ⟨_, rfl, _, rfl, _, _, rfl, rfl, _, rfl, ?_⟩
        have ll : ((((xs.zip ys).take i).map greatF).map V.int).length < sizeLine := by
          rw [List.length_map, List.length_map, List.length_take]
          omega
        refine ite2 (fun c => ?_) (fun c => ?_)
        · have c := of_decide_eq_true c
          refine ⟨_, rfl, _, sT _ _ eL, ll, fun q o e => ?_, ?_⟩
          · rw [upd_ne (ne_of_none e hL)]
            exact sT _ _ (t1 q o e)
          · rw [List.take_add_one, ez, List.map_append, List.map_append]
            have ef : greatF (v1, v2) = v2 := if_pos c
            show upd _ Lb (.lst (_ ++ [V.int v2])) Lb = some (.lst (_ ++ [V.int (greatF (v1, v2))]))
            rw [ef]
            exact upd_same
        · have c : ¬ v1 < v2 := fun h => c (decide_eq_true h)
          refine ⟨_, rfl, _, sT _ _ eL, ll, fun q o e => ?_, ?_⟩
          · rw [upd_ne (ne_of_none e hL)]
            exact sT _ _ (t1 q o e)
          · rw [List.take_add_one, ez, List.map_append, List.map_append]
            have ef : greatF (v1, v2) = v1 := if_neg c
            show upd _ Lb (.lst (_ ++ [V.int v1])) Lb = some (.lst (_ ++ [V.int (greatF (v1, v2))]))
            rw [ef]
            exact upd_same
      obtain ⟨t1, eL⟩ := q0
      rw [← lz, List.take_length] at eL
      clear hL
      have hF := hF.same t1
      have hG := hG.same t1
      have er1 := t1 _ _ er1
      have er2 := t1 _ _ er2
      have en9 := t1 _ _ en9
      have s10 := s10.trans t1
      have eLb := eL
      have eLa := t1 _ _ eLa
      generalize Hx = H12 at hF hG er1 er2 en9 s10 eLa eLb ⊢
      clear eL t1
      have lmin : ((xs.zip ys).map lessF).length = ns.length := by rw [List.length_map, lz, lx]
      have lmax : ((xs.zip ys).map greatF).length = ns.length := by rw [List.length_map, lz, lx]
      have vmin : ∀ v ∈ (xs.zip ys).map lessF, 0 ≤ v ∧ v ≤ topN := fun v hv => by
        obtain ⟨p, hp, rfl⟩ := List.mem_map.mp hv
        have h1 := vx _ (List.of_mem_zip (a := p.1) (b := p.2) hp).1
        have h2 := vy _ (List.of_mem_zip (a := p.1) (b := p.2) hp).2
        unfold lessF
        split <;> omega
      have vmax : ∀ v ∈ (xs.zip ys).map greatF, 0 ≤ v ∧ v ≤ topN := fun v hv => by
        obtain ⟨p, hp, rfl⟩ := List.mem_map.mp hv
        have h1 := vx _ (List.of_mem_zip (a := p.1) (b := p.2) hp).1
        have h2 := vy _ (List.of_mem_zip (a := p.1) (b := p.2) hp).2
        unfold greatF
        split <;> omega
      have fmin : ∀ z ∈ ns, valF ns ((xs.zip ys).map lessF) z = if Fx z < Gx z then Fx z else Gx z := fun z hz => by
        rw [valF_zip nd lx ly hz, eFx, eGx]
        rfl
      have fmax : ∀ z ∈ ns, valF ns ((xs.zip ys).map greatF) z = if Fx z > Gx z then Fx z else Gx z := fun z hz => by
        rw [valF_zip nd lx ly hz, eFx, eGx]
        show (if Fx z < Gx z then Gx z else Fx z) = _
        split <;> split <;> omega
      -- both, most
      refine ⟨_, rfl, _, rfl, two_op R.cAnd n hF hG (fun _ => True.intro) fun q1 H13 _ s13 hMin => ?_⟩
      refine ⟨_, rfl, _, rfl, two_op R.cOr n (hF.same s13) (hG.same s13) (fun _ => True.intro) fun q2 H14 _ s14 hMax => ⟨_, _, rfl, ?_⟩⟩
      have s134 := s13.trans s14
      have hF := hF.same s134
      have hG := hG.same s134
      have hMin := hMin.same s14
      have en9 := s134 _ _ en9
      have eLa := s134 _ _ eLa
      have eLb := s134 _ _ eLb
      have er1 := s134 _ _ er1
      have er2 := s134 _ _ er2
      have s10 := s10.trans s134
      clear s13 s14 s134
      refine ⟨_, rfl, _, rfl, _, rfl, nl, La, ns, _, rfl, en9, eLa, n, nd, lmin, vmin, fun q3 H15 _ s15 h3 => two_ne R n (hMin.same s15) h3 ?_⟩
      rw [eqB_of fun z hz => (fmin z hz).symm]
      refine ⟨_, rfl, iteF ?_⟩
      refine ⟨_, rfl, _, rfl, _, rfl, nl, Lb, ns, _, rfl, s15 _ _ en9, s15 _ _ eLb, n, nd, lmax, vmax, fun q4 H16 _ s16 h4 => two_ne R n ((hMax.same s15).same s16) h4 ?_⟩
      rw [eqB_of fun z hz => (fmax z hz).symm]
      refine ⟨_, rfl, iteF ?_⟩
      have s156 := s15.trans s16
      have hF := hF.same s156
      have hG := hG.same s156
      have hMin := hMin.same s156
      have hMax := hMax.same s156
      have en9 := s156 _ _ en9
      have er1 := s156 _ _ er1
      have er2 := s156 _ _ er2
      have s10 := s10.trans s156
      clear s15 s16 s156 h3 h4 eLa eLb
      -- sums
      refine ⟨_, rfl, _, rfl, two_op R.cAdd n hMin hMax (fun z => ?_) fun q5 H17 _ s17 h5 => ?_⟩
      · have := vF z
        have := vG z
        show (if Fx z < Gx z then Fx z else Gx z) + (if Fx z > Gx z then Fx z else Gx z) ≤ topN
        split <;> split <;> omega
      refine ⟨_, rfl, _, rfl, two_op R.cAdd n (hF.same s17) (hG.same s17) (fun z => ?_) fun q6 H18 _ s18 h6 => two_ne R n (h5.same s18) h6 ?_⟩
      · have := vF z
        have := vG z
        omega
      rw [eqB_of fun z hz => ?_]
      rotate_left
      · have := vF z
        show (if Fx z < Gx z then Fx z else Gx z) + (if Fx z > Gx z then Fx z else Gx z) = Fx z + Gx z
        split <;> split <;> omega
      refine ⟨_, rfl, iteF ?_⟩
      have s178 := s17.trans s18
      refine ⟨_, rfl, _, rfl, two_op R.cSub n (hMax.same s178) (hG.same s178) (fun z => ?_) fun q7 H19 _ s19 h7 => ?_⟩
      · show Gx z ≤ if Fx z > Gx z then Fx z else Gx z
        split <;> omega
      refine ⟨_, rfl, _, rfl, two_op R.cSub n ((hF.same s178).same s19) ((hMin.same s178).same s19) (fun z => ?_) fun q8 H20 _ s20 h8 => two_ne R n (h7.same s20) h8 ?_⟩
      · show (if Fx z < Gx z then Fx z else Gx z) ≤ Fx z
        split <;> omega
      rw [eqB_of fun z hz => ?_]
      rotate_left
      · show (if Fx z > Gx z then Fx z else Gx z) - Gx z = Fx z - (if Fx z < Gx z then Fx z else Gx z)
        split <;> split <;> omega
      refine ⟨_, rfl, iteF ?_⟩
      have s1720 := (s178.trans s19).trans s20
      have hF := hF.same s1720
      have hG := hG.same s1720
      have hMax := hMax.same s1720
      have en9 := s1720 _ _ en9
      have er1 := s1720 _ _ er1
      have er2 := s1720 _ _ er2
      have s10 := s10.trans s1720
      clear s17 s18 s178 s19 s20 s1720 h5 h6 h7 h8 hMin
      -- what is held
      refine ⟨_, rfl, ?_⟩
      have noA : ∀ {H : Hp} {q : Addr} {ad : Operator}, OwR.noIn K a.C (dunderI ad.info.2) = true → (∃ F, HouseF a.C ns H q F) → ∀ p, V.ref q = .ref p → ∀ C dx fs, H p = some (.ins C dx fs) → OwR.noIn K C (dunderI ad.info.2) = true := fun {H q ad} no ⟨F, h⟩ p e C dx fs ep => by
        cases e
        obtain ⟨dx2, fs2, e2⟩ := h.ins
        rw [e2] at ep
        cases ep
        exact no
      refine ⟨_, rfl, _, rfl, noA R.iOr ⟨_, hF⟩, two_op R.cOr n hF hG (fun _ => True.intro) fun q9 H21 _ s21 h9 => ?_⟩
      refine ⟨_, rfl, _, rfl, noA R.iAdd ⟨_, h9⟩, two_op R.cAdd n h9 (hG.same s21) (fun z => ?_) fun q10 H22 _ s22 h10 => ?_⟩
      · have := vF z
        have := vG z
        show (if Fx z > Gx z then Fx z else Gx z) + Gx z ≤ topN
        split <;> omega
      have s212 := s21.trans s22
      have hF := hF.same s212
      have hG := hG.same s212
      have hMax := hMax.same s212
      have en9 := s212 _ _ en9
      have er1 := s212 _ _ er1
      have er2 := s212 _ _ er2
      have s10 := s10.trans s212
      refine ⟨_, rfl, _, rfl, _, rfl, two_op R.cAdd n hMax hG (fun z => ?_) fun q11 H23 _ s23 h11 => two_ne R n (h10.same s23) h11 ?_⟩
      · have := vF z
        have := vG z
        show (if Fx z > Gx z then Fx z else Gx z) + Gx z ≤ topN
        split <;> omega
      rw [eqB_of fun z hz => rfl]
      refine ⟨_, rfl, iteF ?_⟩
      have tx : ∀ v ∈ xs, 0 ≤ v ∧ v ≤ topN := fun v hv => by
        have := vx v hv
        omega
      have ty : ∀ v ∈ ys, 0 ≤ v ∧ v ≤ topN := fun v hv => by
        have := vy v hv
        omega
      refine ⟨_, rfl, _, rfl, _, rfl, nl, r1, ns, xs, rfl, s23 _ _ en9, s23 _ _ er1, n, nd, lx, tx, fun q12 H24 _ s24 h12 => two_ne R n ((hF.same s23).same s24) h12 ?_⟩
      rw [eFx, eqB_of fun z hz => rfl]
      refine ⟨_, rfl, iteF ?_⟩
      have s234 := s23.trans s24
      refine ⟨_, rfl, _, rfl, _, rfl, nl, r2, ns, ys, rfl, s234 _ _ en9, s234 _ _ er2, n, nd, ly, ty, fun q13 H25 _ s25 h13 => two_ne R n ((hG.same s234).same s25) h13 ?_⟩
      rw [eGx, eqB_of fun z hz => rfl]
      exact ⟨_, rfl, iteF ⟨(s10.trans s234).trans s25, _, _, _, _, _, _, _, _, _, _, _, _, _, rfl⟩⟩
    · obtain ⟨s1, x3, x4, x5, x6, x7, x8, x9, x10, x11, x12, x13, x14, x15, x16, x17, rfl⟩ := q0
      exact k _ s1
end
end K10
end
section
set_option pp.maxSteps 400
set_option pp.deepTerms.threshold 6
namespace K10
open PySem PySem.Spec PyProof.Rows L2
theorem le_min {ns : List Str} {F G M : Str → Int} : leB ns M (fun z => if F z < G z then F z else G z) = (leB ns M F && leB ns M G) := by
  unfold leB
  rw [Bool.eq_iff_iff, Bool.and_eq_true, List.all_eq_true, List.all_eq_true, List.all_eq_true]
  constructor
  · intro h
    refine ⟨fun z hz => ?_, fun z hz => ?_⟩ <;>
    · have this : M z ≤ (if F z < G z then F z else G z) := of_decide_eq_true (h z hz)
      refine decide_eq_true ?_
      split at this <;> omega
  · intro ⟨h1, h2⟩ z hz
    have a1 := of_decide_eq_true (h1 z hz)
    have a2 := of_decide_eq_true (h2 z hz)
    refine decide_eq_true ?_
    show M z ≤ (if F z < G z then F z else G z)
    split <;> omega
theorem max_le {ns : List Str} {F G M : Str → Int} : leB ns (fun z => if F z > G z then F z else G z) M = (leB ns F M && leB ns G M) := by
  unfold leB
  rw [Bool.eq_iff_iff, Bool.and_eq_true, List.all_eq_true, List.all_eq_true, List.all_eq_true]
  constructor
  · intro h
    refine ⟨fun z hz => ?_, fun z hz => ?_⟩ <;>
    · have this : (if F z > G z then F z else G z) ≤ M z := of_decide_eq_true (h z hz)
      refine decide_eq_true ?_
      split at this <;> omega
  · intro ⟨h1, h2⟩ z hz
    have a1 := of_decide_eq_true (h1 z hz)
    have a2 := of_decide_eq_true (h2 z hz)
    refine decide_eq_true ?_
    show (if F z > G z then F z else G z) ≤ M z
    split <;> omega
theorem le_get {ns : List Str} {F G : Str → Int} (h : leB ns F G = true) : ∀ z ∈ ns, F z ≤ G z := fun z hz => of_decide_eq_true (List.all_eq_true.mp h z hz)
theorem le_of {ns : List Str} {F G : Str → Int} (h : ∀ z ∈ ns, F z ≤ G z) : leB ns F G = true := List.all_eq_true.mpr fun z hz => decide_eq_true (h z hz)
def spBR (C : Addr) : Sp := fun vs H Q _ => ∃ (hl : Addr) (ns : List Str) (hs : List Addr) (xss : List (List Int)), vs = [.ref hl] ∧ H hl = some (.lst (hs.map V.ref)) ∧ HsAt C ns H hs xss ∧ NS ns ∧ ns.Nodup ∧ (∀ xs ∈ xss, xs.length = ns.length ∧ ∀ v ∈ xs, 0 ≤ v ∧ v ≤ capN) ∧ ∀ H', Same H H' → Q (.bl true) H'
theorem spBR_len {C : Addr} : ∀ vs H Q E, spBR C vs H Q E → vs.length = (["_law_houses"] : List Str).length := fun vs H Q E h => by
  obtain ⟨hl, ns, hs, xss, rfl, _⟩ := h
  rfl
section
variable {P : Program} {w : World} {K : PySem.W.Frag} {mg : Str → Option Value} {base : Heap}
abbrev nBR : List Str := ["_law_houses", "_law_one", "_law_other", "_law_third"]
theorem scBR : FnScope nBR ["_law_houses"] (defScope sBR) := ⟨rfl, rfl, rfl, by decide +kernel, rfl, by decide +kernel, by decide +kernel⟩
theorem ok_BR {a : HAd} {f : Addr} {fd : FuncData} (R : HHF P w K mg base a) (F : Fun K "_law_bounds_right" "_law_bounds_right" sBR f fd) (n_repr : mg "repr" = none) : OwR.FnG P w K mg base CX0 10 f fd ["_law_houses"] (spBR a.C) := by
  obtain ⟨oc, od, kV, doc, pm, an, cdv, ct, osl, rfl, lk, hcd⟩ := F.ex
  refine OwR.fn_ofG (k := 9) lk hcd scBR (fun vs H Q E h => ?_) fun A outer s H vs Q E hgd0 hr h => ?_
  · exact spBR_len vs H Q E h
  · obtain ⟨hl, ns, hs, xss, rfl, eh, ha, n, nd, rv, k⟩ := h
    have hgd : (A.deeper (envOfC "_law_bounds_right" (defScope sBR) s.heap.objs.size f cdv)).guards = some [] := hgd0
    have hr9 : Room 9 (A.deeper (envOfC "_law_bounds_right" (defScope sBR) s.heap.objs.size f cdv)) := hr
    have hr7 := hr9.mono (show 7 ≤ 9 by decide)
    have hr4 := hr9.mono (show 4 ≤ 9 by decide)
    have hr2 := hr9.mono (show 2 ≤ 9 by decide)
    have hun := hr9.un
    have hrep : (A.deeper (envOfC "_law_bounds_right" (defScope sBR) s.heap.objs.size f cdv)).units + 70 < cLine := by omega
    have hu1 : (A.deeper (envOfC "_law_bounds_right" (defScope sBR) s.heap.objs.size f cdv)).units + 1 < cLine := by omega
    have hu : (A.deeper (envOfC "_law_bounds_right" (defScope sBR) s.heap.objs.size f cdv)).units < cLine := by omega
    refine ⟨_, PSs.nox (pss_cons (ps_for PassesOwn.never rfl (pi_list (pv 0)) (pg_name (i := 1) scBR.nd rfl (Or.inl rfl)) (pss_one (ps_for PassesOwn.never rfl (pi_list (pv 0)) (pg_name (i := 2) scBR.nd rfl (Or.inl rfl)) (pss_one (ps_for PassesOwn.never rfl (pi_list (pv 0)) (pg_name (i := 3) scBR.nd rfl (Or.inl rfl)) (pss_cons (ps_if (pt_cmpR op_ne (pe_callB (id := "repr") (r := OwE.rRepr K) (OwE.cr_repr hgd hrep) (by rfl) n_repr (by decide +kernel) (pa_cons (pe_cmpR (OwR.op_ownLe hu R.le hr4 pass0) (pv 3) (pe_op (OwR.op_own2 R.and_ hr7 pass0) (pv 1) (pv 2)) (nomark _)) pa_nil)) (pe_callB (id := "repr") (r := OwE.rRepr K) (OwE.cr_repr hgd hrep) (by rfl) n_repr (by decide +kernel) (pa_cons (OwR.pe_andB (mono_le _ _) (pe_cmpR (OwR.op_ownLe hu R.le hr4 pass0) (pv 3) (pv 1) (nomark _)) (pe_one (pe_cmpR (OwR.op_ownLe hu R.le hr4 pass0) (pv 3) (pv 2) (nomark _)))) pa_nil)) (nomark _)) (pss_one (ps_ret pe_bl)) pss_nil)
    (pss_cons (ps_if (pt_cmpR op_ne (pe_callB (id := "repr") (r := OwE.rRepr K) (OwE.cr_repr hgd hrep) (by rfl) n_repr (by decide +kernel) (pa_cons (pe_cmpR (OwR.op_ownLe hu R.le hr4 pass0) (pe_op (OwR.op_own2 R.or_ hr7 pass0) (pv 1) (pv 2)) (pv 3) (nomark _)) pa_nil)) (pe_callB (id := "repr") (r := OwE.rRepr K) (OwE.cr_repr hgd hrep) (by rfl) n_repr (by decide +kernel) (pa_cons (OwR.pe_andB (mono_le _ _) (pe_cmpR (OwR.op_ownLe hu R.le hr4 pass0) (pv 1) (pv 3) (nomark _)) (pe_one (pe_cmpR (OwR.op_ownLe hu R.le hr4 pass0) (pv 2) (pv 3) (nomark _)))) pa_nil)) (nomark _)) (pss_one (ps_ret pe_bl)) pss_nil)
    (pss_cons (ps_if (pt_cmpR (OwR.op_ownNe hu1 R.eq hr2 pass0) (pe_op (OwR.op_own2 R.and_ hr7 pass0) (pv 1) (pe_op (OwR.op_own2 R.or_ hr7 pass0) (pv 2) (pv 3))) (pe_op (OwR.op_own2 R.or_ hr7 pass0) (pe_op (OwR.op_own2 R.and_ hr7 pass0) (pv 1) (pv 2)) (pe_op (OwR.op_own2 R.and_ hr7 pass0) (pv 1) (pv 3))) (nomark _)) (pss_one (ps_ret pe_bl)) pss_nil)
    (C8.pss_cut (ps_if (PW.pt (pw_and (pt_cmpR (OwR.op_ownLe hu R.le hr4 pass0) (pv 1) (pv 2) (nomark _)) (pw_and1 (pt_not (pt_cmpR (OwR.op_ownLe hu R.le hr4 pass0) (pe_op (OwR.op_own2 R.add hr7 pass0) (pv 1) (pv 3)) (pe_op (OwR.op_own2 R.add hr7 pass0) (pv 2) (pv 3)) (nomark _)))))) (pss_one (ps_ret pe_bl)) pss_nil)
    (pss_one (ps_if (PW.pt (pw_and (pt_cmpR (OwR.op_ownLe hu R.le hr4 pass0) (pv 1) (pv 2) (nomark _)) (pw_and1 (pt_not (pt_cmpR (OwR.op_ownLe hu R.le hr4 pass0) (pe_op (OwR.op_own2 R.and_ hr7 pass0) (pv 1) (pv 3)) (pe_op (OwR.op_own2 R.and_ hr7 pass0) (pv 2) (pv 3)) (nomark _)))))) (pss_one (ps_ret pe_bl)) pss_nil)))))))))))
    (pss_one (ps_ret pe_bl))), ?_⟩
    have sz := sizeLine_eq
    obtain ⟨cap0, cap3⟩ := cap_top
    have get : ∀ {Hx : Hp} {i : Nat} {u : V}, Same H Hx → (hs.map V.ref)[i]? = some u → ∃ h F, u = .ref h ∧ HouseF a.C ns Hx h F ∧ ∀ z, 0 ≤ F z ∧ F z ≤ capN := fun {Hx i u} s hx => by
      rw [List.getElem?_map] at hx
      obtain ⟨h, hh, rfl⟩ := Option.map_eq_some_iff.mp hx
      have hi : i < hs.length := (List.getElem?_eq_some_iff.mp hh).1
      obtain ⟨xs, hxs⟩ := get_some (xs := xss) rfl (show i < xss.length by rw [← ha.len]; exact hi)
      obtain ⟨lx, vx⟩ := rv xs (List.mem_of_getElem? hxs)
      exact ⟨h, _, rfl, (ha.same s).at_ i h xs hh hxs, fun z => valF_nn nd lx cap0 vx z⟩
    refine ⟨_, rfl, hl, rfl, ⟨_, SqL.of eh⟩, ?_⟩
    refine for_it (walk_list (xs := hs.map V.ref)) (fun i σ Hx => Same H Hx ∧ ∃ x1 x2 x3, σ = [some (.ref hl), x1, x2, x3]) ⟨Same.refl _, _, _, _, rfl⟩ (fun i σ Hx _ q => SqL.of (q.1 _ _ eh)) (fun i u σ Hx Hy hi q0 y => ?_) (fun σ Hx q0 => ?_)
    rotate_left
    · obtain ⟨s1, x1, x2, x3, rfl⟩ := q0
      exact k _ s1
    obtain ⟨s1, x1, x2, x3, rfl⟩ := q0
    obtain ⟨rfl, hx⟩ := y
    obtain ⟨h1, F1, rfl, -, -⟩ := get s1 hx
    refine ⟨_, rfl, hl, rfl, ⟨_, SqL.of (s1 _ _ eh)⟩, ?_⟩
    refine for_it (walk_list (xs := hs.map V.ref)) (fun i σ Hz => Same H Hz ∧ ∃ x2 x3, σ = [some (.ref hl), some (.ref h1), x2, x3]) ⟨s1, _, _, rfl⟩ (fun i σ Hx _ q => SqL.of (q.1 _ _ eh)) (fun j u σ Hv Hw hj q0 y => ?_) (fun σ Hx q0 => ?_)
    rotate_left
    · obtain ⟨s2, x2, x3, rfl⟩ := q0
      exact ⟨s2, _, _, _, rfl⟩
    obtain ⟨s2, x2, x3, rfl⟩ := q0
    obtain ⟨rfl, hx2⟩ := y
    obtain ⟨h2, F2, rfl, -, -⟩ := get s2 hx2
    refine ⟨_, rfl, hl, rfl, ⟨_, SqL.of (s2 _ _ eh)⟩, ?_⟩
    refine for_it (walk_list (xs := hs.map V.ref)) (fun i σ Hz => Same H Hz ∧ ∃ x3, σ = [some (.ref hl), some (.ref h1), some (.ref h2), x3]) ⟨s2, _, rfl⟩ (fun i σ Hx _ q => SqL.of (q.1 _ _ eh)) (fun l u σ Hv Hw hl' q0 y => ?_) (fun σ Hx q0 => ?_)
    rotate_left
    · obtain ⟨s3, x3, rfl⟩ := q0
      exact ⟨s3, _, _, rfl⟩
    obtain ⟨s3, x3, rfl⟩ := q0
    obtain ⟨rfl, hx3⟩ := y
    obtain ⟨_, F1, e1, hF1, v1⟩ := get s3 hx
    cases e1
    obtain ⟨_, F2, e2, hF2, v2⟩ := get s3 hx2
    cases e2
    obtain ⟨h3, F3, rfl, hF3, v3⟩ := get s3 hx3
    -- third <= one & other
    refine ⟨_, rfl, _, rfl, _, rfl, two_op R.cAnd n hF1 hF2 (fun _ => True.intro) fun q1 H4 _ s4 hM => two_cmp R.cLe R.own n (hF3.same s4) hM fun H5 s5 => ?_⟩
    have s45 := s4.trans s5
    have s := s3.trans s45
    have hF1 := hF1.same s45
    have hF2 := hF2.same s45
    have hF3 := hF3.same s45
    rw [le_min]
    refine ⟨_, _, rfl, .bl _, _, rfl, _, rfl, two_cmp R.cLe R.own n hF3 hF1 fun H6 s6 => ⟨_, leB ns F3 F2, rfl, fun Q' q => ⟨_, rfl, _, rfl, two_cmp R.cLe R.own n (hF3.same s6) (hF2.same s6) fun H7 s7 => q _ s7⟩, fun H7 s7 => ⟨_, _, rfl, .bl _, rfl, _, rfl, ?_⟩⟩⟩
    rw [decide_eq_true rfl]
    refine iteF ?_
    have s67 := s6.trans s7
    have s := s.trans s67
    have hF1 := hF1.same s67
    have hF2 := hF2.same s67
    have hF3 := hF3.same s67
    clear s4 s5 s45 s6 s7 s67 hM
    -- one | other <= third
    refine ⟨_, rfl, _, rfl, two_op R.cOr n hF1 hF2 (fun _ => True.intro) fun q1 H4 _ s4 hM => ⟨_, rfl, two_cmp R.cLe R.own n hM (hF3.same s4) fun H5 s5 => ?_⟩⟩
    have s45 := s4.trans s5
    have s := s.trans s45
    have hF1 := hF1.same s45
    have hF2 := hF2.same s45
    have hF3 := hF3.same s45
    rw [max_le]
    refine ⟨_, _, rfl, .bl _, _, rfl, _, rfl, two_cmp R.cLe R.own n hF1 hF3 fun H6 s6 => ⟨_, leB ns F2 F3, rfl, fun Q' q => ⟨_, rfl, _, rfl, two_cmp R.cLe R.own n (hF2.same s6) (hF3.same s6) fun H7 s7 => q _ s7⟩, fun H7 s7 => ⟨_, _, rfl, .bl _, rfl, _, rfl, ?_⟩⟩⟩
    rw [decide_eq_true rfl]
    refine iteF ?_
    have s67 := s6.trans s7
    have s := s.trans s67
    have hF1 := hF1.same s67
    have hF2 := hF2.same s67
    have hF3 := hF3.same s67
    clear s4 s5 s45 s6 s7 s67 hM
    -- & is spread over |
    refine ⟨_, rfl, _, rfl, _, rfl, two_op R.cOr n hF2 hF3 (fun _ => True.intro) fun q1 H4 _ s4 hA => two_op R.cAnd n (hF1.same s4) hA (fun _ => True.intro) fun q2 H5 _ s5 hB => ?_⟩
    have s45 := s4.trans s5
    refine ⟨_, rfl, _, rfl, two_op R.cAnd n (hF1.same s45) (hF2.same s45) (fun _ => True.intro) fun q3 H6 _ s6 hC => ?_⟩
    have s46 := s45.trans s6
    refine ⟨_, rfl, _, rfl, two_op R.cAnd n (hF1.same s46) (hF3.same s46) (fun _ => True.intro) fun q4 H7 _ s7 hD => two_op R.cOr n (hC.same s7) hD (fun _ => True.intro) fun q5 H8 _ s8 hE => two_ne R n (((hB.same s6).same s7).same s8) hE ?_⟩
    rw [eqB_of fun z hz => ?_]
    rotate_left
    · show (if F1 z < (if F2 z > F3 z then F2 z else F3 z) then F1 z else (if F2 z > F3 z then F2 z else F3 z)) = (if (if F1 z < F2 z then F1 z else F2 z) > (if F1 z < F3 z then F1 z else F3 z) then (if F1 z < F2 z then F1 z else F2 z) else (if F1 z < F3 z then F1 z else F3 z))
      repeat' split
      all_goals omega
    refine ⟨_, rfl, iteF ?_⟩
    have s48 := (s46.trans s7).trans s8
    have s := s.trans s48
    have hF1 := hF1.same s48
    have hF2 := hF2.same s48
    have hF3 := hF3.same s48
    clear s4 s5 s45 s6 s46 s7 s8 s48 hA hB hC hD hE
    -- + goes along
    refine ⟨fun σ' H' => σ' = [some (.ref hl), some (.ref h1), some (.ref h2), some (.ref h3)] ∧ Same H8 H', ?_, fun σ' H9 q9 => ?_⟩
    · refine ⟨_, rfl, _, rfl, two_cmp R.cLe R.own n hF1 hF2 fun H9 s9 => ⟨_, rfl, ?_⟩⟩
      refine ite2 (fun c => ?_) (fun c => ⟨rfl, s9⟩)
      have hF1 := hF1.same s9
      have hF2 := hF2.same s9
      have hF3 := hF3.same s9
      refine ⟨_, rfl, _, rfl, two_op R.cAdd n hF1 hF3 (fun z => ?_) fun q1 H10 _ s10 hA => ?_⟩
      · have := v1 z
        have := v3 z
        omega
      refine ⟨_, rfl, _, rfl, two_op R.cAdd n (hF2.same s10) (hF3.same s10) (fun z => ?_) fun q2 H11 _ s11 hB => two_cmp R.cLe R.own n (hA.same s11) hB fun H12 s12 => ?_⟩
      · have := v2 z
        have := v3 z
        omega
      rw [le_of fun z hz => ?_]
      rotate_left
      · have := le_get c z hz
        show F1 z + F3 z ≤ F2 z + F3 z
        omega
      exact ⟨_, rfl, iteF ⟨rfl, ((s9.trans s10).trans s11).trans s12⟩⟩
    obtain ⟨rfl, s9⟩ := q9
    have s := s.trans s9
    have hF1 := hF1.same s9
    have hF2 := hF2.same s9
    have hF3 := hF3.same s9
    -- & goes along
    refine ⟨_, rfl, _, rfl, two_cmp R.cLe R.own n hF1 hF2 fun H10 s10 => ⟨_, rfl, ?_⟩⟩
    refine ite2 (fun c => ?_) (fun c => ⟨s.trans s10, _, rfl⟩)
    have hF1 := hF1.same s10
    have hF2 := hF2.same s10
    have hF3 := hF3.same s10
    refine ⟨_, rfl, _, rfl, two_op R.cAnd n hF1 hF3 (fun z => True.intro) fun q1 H11 _ s11 hA => ?_⟩
    refine ⟨_, rfl, _, rfl, two_op R.cAnd n (hF2.same s11) (hF3.same s11) (fun z => True.intro) fun q2 H12 _ s12 hB => two_cmp R.cLe R.own n (hA.same s12) hB fun H13 s13 => ?_⟩
    rw [le_of fun z hz => ?_]
    rotate_left
    · have := le_get c z hz
      show (if F1 z < F3 z then F1 z else F3 z) ≤ (if F2 z < F3 z then F2 z else F3 z)
      split <;> split <;> omega
    exact ⟨_, rfl, iteF ⟨(((s.trans s10).trans s11).trans s12).trans s13, _, rfl⟩⟩
end
end K10
end
section
set_option pp.maxSteps 400
set_option pp.deepTerms.threshold 6
namespace K10
open PySem PySem.Spec PyProof.Rows L2
abbrev sLaw : Stmt := top 34
theorem in_texts (z : Str) : ∀ xs : List Str, inV (.str z) (xs.map V.str) = decide (z ∈ xs)
  | [] => rfl
  | x :: r => by
    have ih := in_texts z r
    show (eqV (.str x) (.str z) || inV (.str z) (r.map V.str)) = _
    rw [ih]
    have e : eqV (.str x) (.str z) = decide (x = z) := by
      show (x == z) = _
      by_cases c : x = z
      · subst c
        simp
      · simp [c]
    rw [e]
    by_cases c : x = z
    · subst c
      simp
    · have : z ≠ x := fun q => c q.symm
      simp [c, this]
theorem flat_texts (xs : List Str) : (xs.map V.str).all flatV = true := by
  rw [List.all_map]
  exact List.all_eq_true.mpr fun x _ => rfl
def spLaw (K : PySem.W.Frag) : Sp := fun vs H Q _ => ∃ (x : Addr) (ds : List Int), vs = [.ref x] ∧ SqL K H x (ds.map V.int) ∧ ds.length ≤ 63 ∧ ∀ H', Q (.bl true) H'
theorem spLaw_len {K : PySem.W.Frag} : ∀ vs H Q E, spLaw K vs H Q E → vs.length = (["_law_script"] : List Str).length := fun vs H Q E h => by
  obtain ⟨x, ns, rfl, _⟩ := h
  rfl
theorem HAt.mono {C : Addr} {H H' : Hp} {a : Addr} {ps : List Pk} (h : HAt C H a ps) (s : ∀ k o, (∀ xs, o ≠ .lst xs) → H k = some o → H' k = some o) : HAt C H' a ps := by
  obtain ⟨dx, fs, d, b, h1, h2, h3, h4, h5⟩ := h
  exact ⟨dx, fs, d, b, s _ _ (fun xs e => by cases e) h1, h2, h3, s _ _ (fun xs e => by cases e) h4, s _ _ (fun xs e => by cases e) h5⟩
theorem HouseF.mono {C : Addr} {ns : List Str} {H H' : Hp} {a : Addr} {F : Str → Int} (h : HouseF C ns H a F) (s : ∀ k o, (∀ xs, o ≠ .lst xs) → H k = some o → H' k = some o) : HouseF C ns H' a F := by
  obtain ⟨ps, h1, h2⟩ := h
  exact ⟨ps, h1.mono s, h2⟩
theorem upd_lst {H : Hp} {D : Addr} {ys zs : List V} (e : H D = some (.lst ys)) : ∀ k o, (∀ xs, o ≠ .lst xs) → H k = some o → upd H D (.lst zs) k = some o := fun k o n ek => by
  rw [upd_ne (fun q => by rw [q, e] at ek; exact n ys (Option.some.inj ek).symm)]
  exact ek
theorem HsAt.mono {C : Addr} {ns : List Str} {H H' : Hp} {hs : List Addr} {xss : List (List Int)} (h : HsAt C ns H hs xss) (s : ∀ k o, (∀ xs, o ≠ .lst xs) → H k = some o → H' k = some o) : HsAt C ns H' hs xss := ⟨h.len, fun i k xs e1 e2 => (h.at_ i k xs e1 e2).mono s⟩
theorem HsAt.snoc {C : Addr} {ns : List Str} {H : Hp} {hs : List Addr} {xss : List (List Int)} (h : HsAt C ns H hs xss) {r : Addr} {xs : List Int} (e : HouseF C ns H r (valF ns xs)) : HsAt C ns H (hs ++ [r]) (xss ++ [xs]) := by
  refine ⟨by rw [List.length_append, List.length_append, h.len]; rfl, fun i k' p' e1 e2 => ?_⟩
  rcases Nat.lt_trichotomy i hs.length with c | c | c
  · rw [List.getElem?_append_left c] at e1
    rw [List.getElem?_append_left (by rw [← h.len]; exact c)] at e2
    exact h.at_ i k' p' e1 e2
  · subst c
    rw [List.getElem?_append_right (Nat.le_refl _), Nat.sub_self] at e1
    rw [h.len, List.getElem?_append_right (Nat.le_refl _), Nat.sub_self] at e2
    cases e1
    cases e2
    exact e
  · rw [List.getElem?_eq_none (by rw [List.length_append]; simp; omega)] at e1
    cases e1
theorem HsAt.take {C : Addr} {ns : List Str} {H : Hp} {hs : List Addr} {xss : List (List Int)} (h : HsAt C ns H hs xss) (n : Nat) : HsAt C ns H (hs.take n) (xss.take n) := by
  refine ⟨by rw [List.length_take, List.length_take, h.len], fun i k' p' e1 e2 => ?_⟩
  rw [List.getElem?_take] at e1 e2
  split at e1
  · rename_i c
    rw [if_pos c] at e2
    exact h.at_ i k' p' e1 e2
  · cases e1
/-- the two houses of one bay -/
def oneF (x : Str) (z : Str) : Int := (lookL [(x, 2)] z).getD 0
theorem sb_facts : (nameB ("s" : Str) = true ∧ ("s" : Str).length ≤ 8) ∧ (nameB ("b" : Str) = true ∧ ("b" : Str).length ≤ 8) ∧ leB ["s", "b"] (oneF "s") (oneF "b") = false ∧ leB ["s", "b"] (oneF "b") (oneF "s") = false := by decide +kernel
theorem oneF_out {x z : Str} (h : oneF x z ≠ 0) : z = x := by
  unfold oneF at h
  rw [lookL_cons] at h
  split at h
  · rename_i e
    exact e.symm
  · exact absurd rfl h
theorem oneF_top (x z : Str) : oneF x z ≤ topN := by
  unfold oneF
  rw [lookL_cons]
  split
  · show (2 : Int) ≤ topN
    decide +kernel
  · show (0 : Int) ≤ topN
    decide +kernel
theorem one_of {C r : Addr} {H : Hp} {x : Str} {ps : List Pk} (hx : x ∈ ([("s" : Str), "b"] : List Str)) (hA : HAt C H r ps) (n : HNorm ps) (e : ∀ z, valL ps z = oneF x z) : HouseF C ["s", "b"] H r (oneF x) :=
  ⟨ps, hA, n, e, fun z c => oneF_out c ▸ hx, fun z => oneF_top x z⟩
section
variable {P : Program} {w : World} {K : PySem.W.Frag} {mg : Str → Option Value} {base : Heap}
abbrev nLaw : List Str := ["_law_script", "_law_pen_here", "_law_turn", "_law_names", "_law_again", "_law_name", "_law_some", "_law_houses", "_law_numbers_here", "_law_one", "_law_other"]
theorem scLaw : FnScope nLaw ["_law_script"] (defScope sLaw) := ⟨rfl, rfl, rfl, by decide +kernel, rfl, by decide +kernel, by decide +kernel⟩
theorem ok_law {a : HAd} {f fPe fWo fNu fLH fPR fBR : Addr} {fd fdPe fdWo fdNu fdLH fdPR fdBR : FuncData} (F : Fun K "law" "law" sLaw f fd) (R : HHF P w K mg base a) (nfS : PySem.W.notFirst K a.C (.type "str") = true) (kS : PySem.W.kitOne K (.type "str") (.ref a.C) = some false) (Nn : Nm mg)
    (F_pen : Fun K "_law_pen" "_law_pen" sPen fPe fdPe) (g_pen : mg "_law_pen" = some (.ref fPe)) (F_word : Fun K "_law_word" "_law_word" sWord fWo fdWo) (g_word : mg "_law_word" = some (.ref fWo)) (G_word : FnOk P w K mg base CX0 3 fWo fdWo ["_law_pen_here"] spWord)
    (F_numbers : Fun K "_law_numbers" "_law_numbers" sNum fNu fdNu) (g_numbers : mg "_law_numbers" = some (.ref fNu)) (G_numbers : FnOk P w K mg base CX0 3 fNu fdNu ["_law_pen_here", "_law_some", "_law_many"] spNum) (F_house : Fun K "_law_house" "_law_house" sLH fLH fdLH) (g_house : mg "_law_house" = some (.ref fLH))
    (G_pairs : OwR.FnG P w K mg base CX0 10 fPR fdPR ["_law_names", "_law_some", "_law_houses"] (spPR a.C)) (kp_pairs : PySem.W.keepIn K (.ref fPR) = true) (g_pairs : mg "_law_pairs_right" = some (.ref fPR)) (b_pairs : Binds K fdPR ["_law_names", "_law_some", "_law_houses"] [])
    (G_bounds : OwR.FnG P w K mg base CX0 10 fBR fdBR ["_law_houses"] (spBR a.C)) (kp_bounds : PySem.W.keepIn K (.ref fBR) = true) (g_bounds : mg "_law_bounds_right" = some (.ref fBR)) (b_bounds : Binds K fdBR ["_law_houses"] [])
    (n_range : mg "range" = none) (n_zip : mg "zip" = none) (n_len : mg "len" = none) : OwR.FnG P w K mg base CX0 11 f fd ["_law_script"] (spLaw K) := by
  have G_pen : FnOk P w K mg base CX0 1 fPe fdPe ["_law_script"] (spPen K) := ok_pen F_pen Nn
  have b_pen : Binds K fdPe ["_law_script"] [] := F_pen.binds fun _ _ _ _ _ _ us hl => match us, hl with | [_], _ => rfl
  have b_word : Binds K fdWo ["_law_pen_here"] [] := F_word.binds fun _ _ _ _ _ _ us hl => match us, hl with | [_], _ => rfl
  have b_numbers : Binds K fdNu ["_law_pen_here", "_law_some", "_law_many"] [] := F_numbers.binds fun _ _ _ _ _ _ us hl => match us, hl with | [_, _, _], _ => rfl
  have G_house : FnOk P w K mg base CX0 8 fLH fdLH ["_law_names", "_law_numbers_here"] (spLH a.C) := ok_LH R F_house n_zip
  have b_house : Binds K fdLH ["_law_names", "_law_numbers_here"] [] := F_house.binds fun _ _ _ _ _ _ us hl => match us, hl with | [_, _], _ => rfl
  obtain ⟨oc, od, kV, doc, pm, an, cdv, ct, osl, rfl, lk, hcd⟩ := F.ex
  refine OwR.fn_ofG (k := 10) lk hcd scLaw (fun vs H Q E h => ?_) fun A outer s H vs Q E hgd0 hr h => ?_
  · exact spLaw_len vs H Q E h
  · obtain ⟨x, ds, rfl, hx, hl, q⟩ := h
    have hgd : (A.deeper (envOfC "law" (defScope sLaw) s.heap.objs.size f cdv)).guards = some [] := hgd0
    have hr10 : Room 10 (A.deeper (envOfC "law" (defScope sLaw) s.heap.objs.size f cdv)) := hr
    have hr8 := hr10.mono (show 8 ≤ 10 by decide)
    have hr7 := hr10.mono (show 7 ≤ 10 by decide)
    have hr5 := hr10.mono (show 5 ≤ 10 by decide)
    have hr4 := hr10.mono (show 4 ≤ 10 by decide)
    have hr3 := hr10.mono (show 3 ≤ 10 by decide)
    have hr2 := hr10.mono (show 2 ≤ 10 by decide)
    have hr1 := hr10.mono (show 1 ≤ 10 by decide)
    have hun := hr10.un
    have hu1 : (A.deeper (envOfC "law" (defScope sLaw) s.heap.objs.size f cdv)).units + 1 < cLine := by omega
    have hu : (A.deeper (envOfC "law" (defScope sLaw) s.heap.objs.size f cdv)).units < cLine := by omega
    refine ⟨_, PSs.nox (pss_cons (ps_set (i := 1) scLaw.nd rfl (Or.inl rfl) (pe_call G_pen hr1 (by rfl) g_pen F_pen.kp b_pen .nil pass0 (pa_cons (pv 0) pa_nil)))
    (pss_cons (ps_for PassesOwn.never rfl (pi_range1 rfl n_range (pa_cons pe_int pa_nil)) (pg_name (i := 2) scLaw.nd rfl (Or.inl rfl)) (pss_cons (ps_set (i := 3) scLaw.nd rfl (Or.inr rfl) (pe_lst pa_nil))
    (pss_cons (ps_for PassesOwn.never rfl (pi_range1 rfl n_range (pa_cons pe_int pa_nil)) (pg_name (i := 4) scLaw.nd rfl (Or.inl rfl)) (pss_cons (ps_set (i := 5) scLaw.nd rfl (Or.inl rfl) (pe_call G_word hr3 (by rfl) g_word F_word.kp b_word .nil pass0 (pa_cons (pv 1) pa_nil)))
    (pss_one (ps_if (pt_cmpR op_notIn_seq (pv 5) (pv 3) (by rfl)) (pss_one (ps_expr (pe_bm PySem.F.plainAttrs_list PySem.F.slot_list_append PySem.F.type_list_append mt_append (pv 3) (pa_cons (pv 5) pa_nil)))) pss_nil))))
    (pss_cons (ps_set (i := 6) scLaw.nd rfl (Or.inl rfl) (pe_lst pa_nil))
    (pss_cons (ps_for PassesOwn.never rfl (pi_range1 rfl n_range (pa_cons pe_int pa_nil)) (pg_name (i := 4) scLaw.nd rfl (Or.inl rfl)) (pss_one (ps_expr (pe_bm PySem.F.plainAttrs_list PySem.F.slot_list_append PySem.F.type_list_append mt_append (pv 6) (pa_cons (pe_call G_numbers hr3 (by rfl) g_numbers F_numbers.kp b_numbers .nil pass0 (pa_cons (pv 1) (pa_cons (pv 6) (pa_cons (pe_callB call_len_seq (by rfl) n_len boot_len (pa_cons (pv 3) pa_nil)) pa_nil)))) pa_nil)))))
    (pss_cons (ps_setLc (i := 7) (own := [("_law_numbers_here", 8)]) (by rfl) scLaw.nd rfl rfl (sw_true rfl rfl rfl (by decide +kernel)) (pi_list (pv 6)) (blkOk_by (own := [("_law_numbers_here", 8)]) (N := nLaw) (sc := defScope sLaw) (by decide +kernel)) (fun _ _ _ _ _ => (pg_name (i := 8) scLaw.nd rfl (Or.inl rfl))) (fun _ _ _ _ _ => pts_nil) (fun _ _ _ _ _ => (pe_call G_house hr8 (by rfl) g_house F_house.kp b_house .nil pass0 (pa_cons (pv 3) (pa_cons (pv 8) pa_nil)))))
    (pss_cons (ps_if (PW.pt (pw_or (pt_not (pt_val (OwR.pe_callG G_pairs spPR_len hgd hr10 (by rfl) g_pairs kp_pairs b_pairs pass0 (pa_cons (pv 3) (pa_cons (pv 6) (pa_cons (pv 7) pa_nil)))))) (pw_or1 (pt_not (pt_val (OwR.pe_callG G_bounds spBR_len hgd hr10 (by rfl) g_bounds kp_bounds b_bounds pass0 (pa_cons (pe_slice sl_list (pv 7) po_none (po_some pe_int)) pa_nil))))))) (pss_one (ps_ret pe_bl)) pss_nil)
    (pss_one (ps_if (pt_cmpR (OwR.op_neOwn R.eq hr2 hu1) (pe_lc (own := [("_law_numbers_here", 8)]) (by rfl) scLaw.nd (pi_list (pv 6)) (blkOk_by (own := [("_law_numbers_here", 8)]) (N := nLaw) (sc := defScope sLaw) (by decide +kernel)) (fun _ _ _ _ _ => (pg_name (i := 8) scLaw.nd rfl (Or.inl rfl))) (fun _ _ _ _ _ => pts_nil) (fun _ _ _ _ _ => (pe_call G_house hr8 (by rfl) g_house F_house.kp b_house .nil pass0 (pa_cons (pv 3) (pa_cons (pv 8) pa_nil))))) (pv 7) (nomark _)) (pss_one (ps_ret pe_bl)) pss_nil)))))))))
    (pss_cons (ps_par (i := 9) (j := 10) (by rfl) scLaw.nd rfl rfl (by decide) rfl rfl (pa_cons (ClX.pe_cmeth (pe_glob (v := .ref a.C) rfl R.gH rfl) R.rH R.mOf R.of hr7 pass0 (pa_cons (pe_disp (pps_cons pe_str pe_int pps_nil) (by rfl) (by rfl) (fun z => by cases z) (by decide)) pa_nil)) (pa_cons (ClX.pe_cmeth (pe_glob (v := .ref a.C) rfl R.gH rfl) R.rH R.mOf R.of hr7 pass0 (pa_cons (pe_disp (pps_cons pe_str pe_int pps_nil) (by rfl) (by rfl) (fun z => by cases z) (by decide)) pa_nil)) pa_nil)) (by rfl))
    (pss_one (ps_ret (pe_and (pe_not (pe_cmpR (OwR.op_ownLe hu R.le hr4 pass0) (pv 9) (pv 10) (nomark _))) (pe_and (pe_not (pe_cmpR (OwR.op_ownLe hu R.le hr4 pass0) (pv 10) (pv 9) (nomark _))) (pe_and (pe_not (pe_cmpR (OwR.op_ownLt hu R.lt hr5 pass0) (pv 9) (pv 10) (nomark _))) (pe_and (pe_not (pe_cmpR (OwR.op_ownGe hu R.ge hr5 pass0) (pv 9) (pv 10) (nomark _))) (pe_one (pe_cmpR (OwR.op_ownNeX hu1 R.eqO hr2 pass0) (pv 9) pe_str (nomark _)))))))))))), ?_⟩
    have sz := sizeLine_eq
    obtain ⟨cap0, cap3⟩ := cap_top
    have capB : (10 : Int) ^ 59 + 4 ≤ capN := by decide +kernel
    refine ⟨_, rfl, x, ds, rfl, hx, hl, fun p c H1 hp0 s1 pn1 => ?_⟩
    refine ⟨2, rfl, by decide, by decide, ?_⟩
    refine for_it walk_range (fun i σ Hx => (∃ x2 x3 x4 x5 x6 x7 x8 x9 x10, σ = [some (.ref x), some (.ref p), x2, x3, x4, x5, x6, x7, x8, x9, x10]) ∧ ∃ (n : Nat) (z : Int), PenAt Hx p c ds n z ∧ n ≤ 200 * i)
      ⟨⟨_, _, _, _, _, _, _, _, _, rfl⟩, 0, 0, pn1, Nat.le_refl 0⟩ (fun _ _ _ _ _ => True.intro) (fun i y0 σ Hx Hy hi q0 y => ?_) (fun σ Hx q0 => ?_)
    · obtain ⟨⟨x2, x3, x4, x5, x6, x7, x8, x9, x10, rfl⟩, n0, z0, pn2, ln0⟩ := q0
      obtain ⟨rfl, ey⟩ := y
      have hi2 : i < 2 := hi
      -- the names
      refine ⟨Nat.zero_le _, fun L hL => ?_⟩
      have nL : L ≠ p := fun e => pn2.some (e ▸ hL)
      have ncL : c ≠ L := ne_of_none pn2.cells hL
      refine ⟨3, rfl, by decide, by decide, ?_⟩
      refine for_it walk_range (fun j σ Hv => ∃ (xs : List Str) (x4 x5 : Option V) (n' : Nat) (z' : Int), σ = [some (.ref x), some (.ref p), some y0, some (.ref L), x4, x5, x6, x7, x8, x9, x10] ∧ Hv L = some (.lst (xs.map V.str)) ∧ xs.Nodup ∧ (∀ x ∈ xs, nameB x = true ∧ x.length ≤ 8) ∧ xs.length ≤ j ∧ (1 ≤ j → 1 ≤ xs.length) ∧ PenAt Hv p c ds n' z' ∧ n' ≤ n0 + 10 * j)
        ⟨[], _, _, n0, z0, rfl, upd_same, List.nodup_nil, (fun x h => by cases h), Nat.le_refl 0, (fun h => absurd h (by decide)), pn2.same (Same.of_new hL), Nat.le_refl _⟩ (fun _ _ _ _ _ => True.intro) (fun j u σ Hv Hw hj q0 y => ?_) (fun σ Hv q0 => ?_)
      · obtain ⟨xs, x4, x5, n', z', rfl, eL, nd, al, lx, l1, pn, ln⟩ := q0
        obtain ⟨rfl, ex⟩ := y
        have hj3 : j < 3 := hj
        refine ⟨_, rfl, p, c, ds, n', z', rfl, pn, by omega, fun wd n3 z3 H3 nw lw hn3 hp3 s3 => ?_⟩
        have eL3 := s3 _ _ nL eL
        refine ⟨_, rfl, _, rfl, L, _, rfl, .inl (SqL.of eL3), rfl, flat_texts _, _, rfl, ?_⟩
        rw [if_pos rfl, in_texts]
        refine ite2 (fun c1 => ?_) (fun c1 => ?_)
        · have ni : wd ∉ xs := fun m => by
            rw [decide_eq_true m] at c1
            cases c1
          refine ⟨_, rfl, .inl ⟨rfl, _, SqL.of eL3⟩, _, rfl, L, _, _, rfl, rfl, eL3, by rw [List.length_map]; omega, xs ++ [wd], _, _, n3, z3, rfl, by rw [List.map_append]; exact upd_same, ?_, fun x hx => ?_, by rw [List.length_append]; show xs.length + 1 ≤ j + 1; omega, fun _ => by rw [List.length_append]; show 1 ≤ xs.length + 1; omega, hp3.put (Ne.symm nL) ncL, by omega⟩
          · exact List.nodup_append.mpr ⟨nd, by simp, fun a ha b hb => by rw [List.mem_singleton.mp hb]; exact fun e => ni (e ▸ ha)⟩
          · rcases List.mem_append.mp hx with h | h
            · exact al x h
            · rw [List.mem_singleton.mp h]
              exact ⟨nw, lw⟩
        · have mi : wd ∈ xs := by
            by_cases m : wd ∈ xs
            · exact m
            · rw [decide_eq_false m] at c1
              exact absurd rfl c1
          exact ⟨xs, _, _, n3, z3, rfl, eL3, nd, al, by omega, fun _ => List.length_pos_of_mem mi, hp3, by omega⟩
      obtain ⟨ns, x4, x5, n1, z1, rfl, eL, nd, al, lx, l1, pn3, ln1⟩ := q0
      have lx : ns.length ≤ 3 := lx
      have l1 : 1 ≤ ns.length := l1 (by decide)
      have ln1 : n1 ≤ n0 + 30 := ln1
      have n : NS ns := ⟨al, by omega⟩
      clear pn2 hL
      -- the rows
      refine ⟨Nat.zero_le _, fun M hM => ?_⟩
      have nM : M ≠ p := fun e => pn3.some (e ▸ hM)
      have ncM : c ≠ M := ne_of_none pn3.cells hM
      have nLM : L ≠ M := ne_of_none eL hM
      refine ⟨4, rfl, by decide, by decide, ?_⟩
      refine for_it walk_range (fun j σ Hz => ∃ (rs : List Addr) (xss : List (List Int)) (x4 : Option V) (n' : Nat) (z' : Int), σ = [some (.ref x), some (.ref p), some y0, some (.ref L), x4, x5, some (.ref M), x7, x8, x9, x10] ∧ Hz M = some (.lst (rs.map V.ref)) ∧ RowsAt Hz rs xss ∧ (∀ xs ∈ xss, xs.length = ns.length ∧ ∀ v ∈ xs, 0 ≤ v ∧ v ≤ 10 ^ 59 + (j : Nat)) ∧ rs.length = j ∧ PenAt Hz p c ds n' z' ∧ n' ≤ n1 + 20 * j ∧ Hz L = some (.lst (ns.map V.str)))
        ⟨[], [], _, n1, z1, rfl, upd_same, ⟨rfl, fun i r xs e => by cases e⟩, (fun x h => by cases h), rfl, pn3.same (Same.of_new hM), Nat.le_refl _, Same.of_new hM _ _ eL⟩ (fun _ _ _ _ _ => True.intro) (fun j u σ Hz Hw hj q0 y => ?_) (fun σ Hz q0 => ?_)
      · obtain ⟨rs, xss, x4, n', z', rfl, eM, ra, rv, lr, pn, ln, eL⟩ := q0
        obtain ⟨rfl, ex⟩ := y
        have hj4 : j < 4 := hj
        refine ⟨_, rfl, .inl ⟨rfl, _, SqL.of eM⟩, _, rfl, _, rfl, _, rfl, L, _, rfl, .inl (SqL.of eL), ?_⟩
        have el : (((ns.map V.str).length : Nat) : Int) = ((ns.length : Nat) : Int) := by rw [List.length_map]
        refine ⟨p, c, ds, n', z', M, rs, xss, ns.length, 10 ^ 59 + (j : Nat), congrArg (fun i => [V.ref p, .ref M, V.int i]) el, pn, by omega, nM, eM, ra, rv, by omega, l1, lx, by omega, fun N xs n5 z5 H5 hN lxs vxs hn5 hp5 b5 eN => ?_⟩
        have eM5 := b5 _ _ nM eM
        have nNM : N ≠ M := fun e => by
          rw [e, eM] at hN
          cases hN
        have ra5 : RowsAt H5 rs xss := ra.mono fun k ys e => b5 _ _ (ints_pen pn e) e
        refine ⟨M, _, _, rfl, rfl, eM5, by rw [List.length_map]; omega, rs ++ [N], xss ++ [xs], _, n5, z5, rfl, by rw [List.map_append]; exact upd_same, ?_, ?_, by rw [List.length_append, lr]; rfl, hp5.put (Ne.symm nM) ncM, by omega, ?_⟩
        · refine (RowsAt.snoc (r := N) (xs := xs) (rs := rs) (xss := xss) ⟨ra5.len, fun i r ys e1 e2 => ?_⟩ ?_)
          · have er := ra5.at_ i r ys e1 e2
            have hy := (rv ys (List.mem_of_getElem? e2)).1
            rw [upd_ne (fun e => by
              rw [e, eM5] at er
              have h := HO.lst.inj (Option.some.inj er)
              match ys, rs, h, hy with
              | [], _, _, hy => rw [List.length_nil] at hy; omega
              | _ :: _, [], h, _ => cases h
              | _ :: _, _ :: _, h, _ => cases (List.cons.inj h).1)]
            exact er
          · rw [upd_ne nNM]
            exact eN
        · intro ys hy
          rcases List.mem_append.mp hy with h | h
          · obtain ⟨h1, h2⟩ := rv ys h
            refine ⟨h1, fun v hv => ?_⟩
            have := h2 v hv
            push_cast
            omega
          · rw [List.mem_singleton.mp h]
            refine ⟨lxs, fun v hv => ?_⟩
            have := vxs v hv
            push_cast
            omega
        · rw [upd_ne nLM]
          exact b5 _ _ nL eL
      obtain ⟨rs, xss, x4, n2, z2, rfl, eM, ra, rv, lr, pn4, ln2, eL⟩ := q0
      have lr : rs.length = 4 := lr
      have rv : ∀ xs ∈ xss, xs.length = ns.length ∧ ∀ v ∈ xs, 0 ≤ v ∧ v ≤ capN := fun xs h => ⟨(rv xs h).1, fun v hv => ⟨((rv xs h).2 v hv).1, Int.le_trans ((rv xs h).2 v hv).2 capB⟩⟩
      have rt : ∀ xs ∈ xss, ∀ v ∈ xs, 0 ≤ v ∧ v ≤ topN := fun xs h v hv => by
        have := (rv xs h).2 v hv
        omega
      have ln2 : n2 ≤ n1 + 80 := ln2
      clear pn3
      -- the houses
      refine ⟨_, rfl, M, rfl, ⟨_, SqL.of eM⟩, fun D hD => ?_⟩
      refine lc_it (walk_list (xs := rs.map V.ref)) (fun i Hx => Same Hz Hx ∧ ∃ hs : List Addr, Hx D = some (.lst (hs.map V.ref)) ∧ HsAt a.C ns Hx hs (xss.take i)) ⟨Same.of_new hD, [], upd_same, ⟨rfl, fun i r xs e => by cases e⟩⟩ (fun i Hx _ q => SqL.of (q.1 _ _ eM)) (fun i u Hx Hy hi q0 y => ?_) (fun Hx q0 => ?_)
      · obtain ⟨t1, hs, eD, ha⟩ := q0
        obtain ⟨rfl, hx⟩ := y
        obtain ⟨r, xs, rfl, hr', hxs, er⟩ := (ra.same t1).get hx
        rw [List.length_map] at hi
        refine ⟨rfl, ?_⟩
        refine ⟨_, rfl, _, rfl, L, r, ns, xs, rfl, t1 _ _ eL, er, n, nd, (rv xs (List.mem_of_getElem? hxs)).1, rt xs (List.mem_of_getElem? hxs), fun h H5 _ s5 hh => ?_⟩
        have eD5 := s5 _ _ eD
        have lh : hs.length = i := by
          rw [ha.len, List.length_take, ← ra.len]
          omega
        refine ⟨_, eD5, by rw [List.length_map]; omega, fun b o e => ?_, hs ++ [h], ?_, ?_⟩
        · rw [upd_ne (ne_of_none e hD)]
          exact s5 _ _ (t1 b o e)
        · rw [List.map_append]
          exact upd_same
        · rw [List.take_add_one, hxs]
          exact ((ha.same s5).mono (upd_lst eD5)).snoc (hh.mono (upd_lst eD5))
      obtain ⟨t1, hs, eD, ha⟩ := q0
      rw [List.length_map, ra.len, List.take_length] at ha
      have eL := t1 _ _ eL
      have eM := t1 _ _ eM
      have ra := ra.same t1
      have pn5 := pn4.same t1
      have lh : hs.length = 4 := by rw [ha.len, ← ra.len, lr]
      clear t1 pn4 hD
      -- pairs
      refine ⟨_, rfl, _, rfl, _, rfl, L, M, D, ns, rs, hs, xss, rfl, eL, eM, eD, ra, ha, n, nd, lx, rv, by omega, fun H6 s6 => ⟨_, rfl, iteF ?_⟩⟩
      have eD6 := s6 _ _ eD
      refine ⟨_, rfl, 3, rfl, D, _, rfl, SqL.of eD6, fun D2 hD2 => ?_⟩
      have ec : cutV (hs.map V.ref) none (some 3) = (hs.take 3).map V.ref := by
        show ((hs.map V.ref).drop 0).take (min 3 (hs.map V.ref).length - 0) = _
        rw [List.drop_zero, List.length_map, lh, List.map_take]
        rfl
      rw [ec]
      have sD2 := Same.of_new (o := .lst ((hs.take 3).map V.ref)) hD2
      have s62 := s6.trans sD2
      refine ⟨D2, ns, hs.take 3, xss.take 3, rfl, upd_same, (ha.same s62).take 3, n, nd, fun xs h => rv xs (List.mem_of_mem_take h), fun H7 s7 => ⟨_, rfl, iteF ?_⟩⟩
      have s67 := s62.trans s7
      have eL := s67 _ _ eL
      have eM := s67 _ _ eM
      have eD := s67 _ _ eD
      have ra := ra.same s67
      have ha := ha.same s67
      have pn6 := pn5.same s67
      clear s6 eD6 hD2 sD2 s62 s7 s67 pn5
      -- once more
      refine ⟨_, rfl, M, rfl, ⟨_, SqL.of eM⟩, fun D3 hD3 => ?_⟩
      refine lc_it (walk_list (xs := rs.map V.ref)) (fun i Hx => Same H7 Hx ∧ ∃ ks : List Addr, Hx D3 = some (.lst (ks.map V.ref)) ∧ HsAt a.C ns Hx ks (xss.take i)) ⟨Same.of_new hD3, [], upd_same, ⟨rfl, fun i r xs e => by cases e⟩⟩ (fun i Hx _ q => SqL.of (q.1 _ _ eM)) (fun i u Hx Hy hi q0 y => ?_) (fun Hx q0 => ?_)
      · obtain ⟨t1, ks, eK, ka⟩ := q0
        obtain ⟨rfl, hx⟩ := y
        obtain ⟨r, xs, rfl, hr', hxs, er⟩ := (ra.same t1).get hx
        rw [List.length_map] at hi
        refine ⟨rfl, ?_⟩
        refine ⟨_, rfl, _, rfl, L, r, ns, xs, rfl, t1 _ _ eL, er, n, nd, (rv xs (List.mem_of_getElem? hxs)).1, rt xs (List.mem_of_getElem? hxs), fun h H5 _ s5 hh => ?_⟩
        have eD5 := s5 _ _ eK
        have lh : ks.length = i := by
          rw [ka.len, List.length_take, ← ra.len]
          omega
        refine ⟨_, eD5, by rw [List.length_map]; omega, fun b o e => ?_, ks ++ [h], ?_, ?_⟩
        · rw [upd_ne (ne_of_none e hD3)]
          exact s5 _ _ (t1 b o e)
        · rw [List.map_append]
          exact upd_same
        · rw [List.take_add_one, hxs]
          exact ((ka.same s5).mono (upd_lst eD5)).snoc (hh.mono (upd_lst eD5))
      obtain ⟨t1, ks, eK, ka⟩ := q0
      rw [List.length_map, ra.len, List.take_length] at ka
      have eD := t1 _ _ eD
      have ha := ha.same t1
      have pn7 := pn6.same t1
      refine ⟨_, rfl, D3, D, ks, hs, fun _ => true, rfl, rfl, SqL.of eK, SqL.of eD, by rw [ka.len, ha.len], fun j r t er et => ?_, ?_⟩
      · by_cases c : r = t
        · exact .inl ⟨c, rfl⟩
        · have hj : j < ks.length := (List.getElem?_eq_some_iff.mp er).1
          obtain ⟨xs, hxs⟩ := get_some (xs := xss) rfl (show j < xss.length by rw [← ka.len]; exact hj)
          have f1 := ka.at_ j r xs er hxs
          have f2 := ha.at_ j t xs et hxs
          obtain ⟨dx, fs, e1⟩ := f1.ins
          obtain ⟨dy, gs, e2⟩ := f2.ins
          refine .inr ⟨c, a.C, a.C, dx, dy, fs, gs, e1, e2, R.cEq, R.own, r, t, ns, _, _, rfl, n, f1, f2, ?_, rfl⟩
          rw [eqB_of fun z _ => rfl]
      have eall : (!(List.range ks.length).all fun _ => true) = false := by
        rw [List.all_eq_true.mpr fun _ _ => rfl]
        rfl
      rw [eall]
      exact ⟨_, rfl, iteF ⟨⟨_, _, _, _, _, _, _, _, _, rfl⟩, n2, z2, pn7, by omega⟩⟩
    · obtain ⟨⟨x2, x3, x4, x5, x6, x7, x8, x9, x10, rfl⟩, n0, z0, pn2, ln0⟩ := q0
      clear pn2 ln0 pn1 hx
      obtain ⟨⟨ns1, ns2⟩, ⟨nb1, nb2⟩, le1, le2⟩ := sb_facts
      have nsb : NS ["s", "b"] := ⟨fun z hz => by
        simp only [List.mem_cons, List.not_mem_nil, or_false] at hz
        rcases hz with rfl | rfl
        · exact ⟨ns1, ns2⟩
        · exact ⟨nb1, nb2⟩, by decide⟩
      have vals : ∀ (x z : Str) (v : Int), lookL [(x, 2)] z = some v → 0 ≤ v ∧ v ≤ 10 ^ 60 - 1 := fun x z v e => by
        have := List.mem_singleton.mp (lookL_at e)
        cases this
        exact ⟨by decide, by decide +kernel⟩
      refine ⟨rfl, fun d1 hd1 => ⟨upd_same, tabL [("s", 2)], rfl, by decide, ?_⟩⟩
      rw [merge_tab (ps := [("s", 2)]) (by simp)]
      refine ⟨_, d1, _, ["s"], lookL [("s", 2)], rfl, upd_same, rfl, by decide, fun z hz => by rw [List.mem_singleton.mp hz]; exact ⟨ns1, Nat.le_trans ns2 (by decide)⟩, tabOf_list _, vals "s", fun r1 H2 ps _ s2 hA nm e => ?_⟩
      have h1 : HouseF a.C ["s", "b"] H2 r1 (oneF "s") := one_of (by simp) hA nm e
      refine ⟨rfl, fun d2 hd2 => ⟨upd_same, tabL [("b", 2)], rfl, by decide, ?_⟩⟩
      rw [merge_tab (ps := [("b", 2)]) (by simp)]
      refine ⟨_, d2, _, ["b"], lookL [("b", 2)], rfl, upd_same, rfl, by decide, fun z hz => by rw [List.mem_singleton.mp hz]; exact ⟨nb1, Nat.le_trans nb2 (by decide)⟩, tabOf_list _, vals "b", fun r2 H3 qs _ s3 hB nm2 e2 => ⟨_, _, rfl, ?_⟩⟩
      have h2 : HouseF a.C ["s", "b"] H3 r2 (oneF "b") := one_of (by simp) hB nm2 e2
      have sd : Same H2 (upd (upd H2 d2 (.dK [])) d2 (.dK (tabL [("b", 2)]))) := fun b o e => by
        rw [upd_ne (ne_of_none e hd2), upd_ne (ne_of_none e hd2)]
        exact e
      have h1 := (h1.same sd).same s3
      have lt1 : ltB ["s", "b"] (oneF "s") (oneF "b") = false := by
        unfold ltB
        rw [le1]
        rfl
      refine ⟨_, rfl, _, rfl, two_cmp R.cLe R.own nsb h1 h2 fun H4 s4 => ?_⟩
      rw [le1]
      refine ⟨_, rfl, _, rfl, iteT ?_⟩
      refine ⟨_, rfl, _, rfl, two_cmp R.cLe R.own nsb (h2.same s4) (h1.same s4) fun H5 s5 => ?_⟩
      rw [le2]
      refine ⟨_, rfl, _, rfl, iteT ?_⟩
      have s45 := s4.trans s5
      refine ⟨_, rfl, _, rfl, two_cmp R.cLt R.own nsb (h1.same s45) (h2.same s45) fun H6 s6 => ?_⟩
      rw [lt1]
      refine ⟨_, rfl, _, rfl, iteT ?_⟩
      have s46 := s45.trans s6
      refine ⟨_, rfl, _, rfl, two_cmp R.cGe R.own nsb (h1.same s46) (h2.same s46) fun H7 s7 => ?_⟩
      rw [le2]
      refine ⟨_, rfl, _, rfl, iteT ?_⟩
      obtain ⟨dx, fs, e7⟩ := ((h1.same s46).same s7).ins
      exact ⟨_, rfl, r1, a.C, dx, fs, .type "str", rfl, e7, .base (.str _), R.cNe, nfS, r1, _, .type "str", rfl, .base (.str _), kS, _, rfl, q _⟩
end
end K10
end
section
namespace K10
open PySem PySem.Spec PyProof.Rows L2
/-- where the parts of houses stand, read off the class -/
def hAd (K : PySem.W.Frag) : HAd where
  C := OwH.ga K "House"
  f0 := OwH.mo K "House" "__init__"
  fAt := OwH.mo K "House" "__getitem__"
  fI := OwH.mo K "House" "__iter__"
  fL := OwH.mo K "House" "__len__"
  fAdd := OwH.mo K "House" "__add__"
  fSub := OwH.mo K "House" "__sub__"
  fAnd := OwH.mo K "House" "__and__"
  fOr := OwH.mo K "House" "__or__"
  fEq := OwH.mo K "House" "__eq__"
  fLe := OwH.mo K "House" "__le__"
  fLt := OwH.mo K "House" "__lt__"
  fGe := OwH.mo K "House" "__ge__"
  fGt := OwH.mo K "House" "__gt__"
  pOf := OwH.mo K "House" "of"
  fOf := OwH.inRec K (OwH.mo K "House" "of") "classmethod"
def fH1 (K : PySem.W.Frag) : Bool := (He.Fa.cls "House").ok K && ((He.Fa.noat "House" "_numbers").ok K && ((He.Fa.noat "House" "_bays").ok K && (OwH.fIsC "House" K && (OwH.fKit "House" "House" true K && PySem.W.notFirst K (hAd K).C (.ref (hAd K).C)))))
def fH2 (K : PySem.W.Frag) : Bool := OwH.hasF K (.ref (hAd K).C) "__iter__" (hAd K).fI && (OwH.hasF K (.ref (hAd K).C) "__len__" (hAd K).fL && (OwH.fBin .Add K (hAd K).C (hAd K).fAdd && (OwH.fBin .Sub K (hAd K).C (hAd K).fSub && (OwH.fBin .BitAnd K (hAd K).C (hAd K).fAnd && OwH.fBin .BitOr K (hAd K).C (hAd K).fOr))))
def fH3 (K : PySem.W.Frag) : Bool := OwH.hasF K (.ref (hAd K).C) "__eq__" (hAd K).fEq && (OwH.fNe "House" K && (OwH.hasF K (.ref (hAd K).C) "__le__" (hAd K).fLe && (OwH.hasF K (.ref (hAd K).C) "__lt__" (hAd K).fLt && (OwH.hasF K (.ref (hAd K).C) "__ge__" (hAd K).fGe && (OwH.hasF K (.ref (hAd K).C) "__gt__" (hAd K).fGt &&
  (OwR.noIn K (hAd K).C (dunderI Operator.Add.info.2) && OwR.noIn K (hAd K).C (dunderI Operator.BitOr.info.2)))))))
/-- what the defs of houses are -/
structure HDefs (K : PySem.W.Frag) (mg : Str → Option Value) (a : HAd) : Prop where
  mk0 : Mk K a.C a.f0
  d0 : ∃ fd, Fun K "__init__" "House.__init__" sHouse0 a.f0 fd
  wit : ∃ f fd, mg "house_with" = some (.ref f) ∧ Fun K "house_with" "house_with" sWith f fd
  rH : ClX.CRead K a.C (.type "type")
  mOf : ClX.CMet K a.C (.type "type") "of" a.pOf a.fOf
  dOf : ∃ fd, Fun K "of" "House.of" sHouseOf a.fOf fd
  spc : OwR.Spc K a.C a.fAt "__getitem__"
  dAt : ∃ fd, Fun K "__getitem__" "House.__getitem__" sHouseAt a.fAt fd
  dI : ∃ fd, Fun K "__iter__" "House.__iter__" sHIter a.fI fd
  dL : ∃ fd, Fun K "__len__" "House.__len__" sHLen a.fL fd
  bo : ∃ f fd, mg "bays_of" = some (.ref f) ∧ Fun K "bays_of" "bays_of" sBaysOf f fd
  dAdd : ∃ fd, Fun K "__add__" "House.__add__" sHAdd a.fAdd fd
  dSub : ∃ fd, Fun K "__sub__" "House.__sub__" sHSub a.fSub fd
  dAnd : ∃ fd, Fun K "__and__" "House.__and__" sHAnd a.fAnd fd
  dOr : ∃ fd, Fun K "__or__" "House.__or__" sHOr a.fOr fd
  dEq : ∃ fd, Fun K "__eq__" "House.__eq__" sHEq a.fEq fd
  dLe : ∃ fd, Fun K "__le__" "House.__le__" sHLe a.fLe fd
  dLt : ∃ fd, Fun K "__lt__" "House.__lt__" sHLt a.fLt fd
  dGe : ∃ fd, Fun K "__ge__" "House.__ge__" sHGe a.fGe fd
  dGt : ∃ fd, Fun K "__gt__" "House.__gt__" sHGt a.fGt fd
theorem house_ok {P : Program} {w : World} {K : PySem.W.Frag} {mg : Str → Option Value} {base : Heap} (chk : HChk P w K mg base) (n_dict : mg "dict" = none) (n_list : mg "list" = none) (n_iter : mg "iter" = none) (gH : mg "House" = some (.ref (hAd K).C)) (h1 : fH1 K = true) (h2 : fH2 K = true) (h3 : fH3 K = true) (D : HDefs K mg (hAd K)) : HHF P w K mg base (hAd K) := by
  obtain ⟨a1, h⟩ := OwH.two h1
  obtain ⟨a2, h⟩ := OwH.two h
  obtain ⟨a3, h⟩ := OwH.two h
  obtain ⟨a4, h⟩ := OwH.two h
  obtain ⟨a5, a6⟩ := OwH.two h
  obtain ⟨b1, h⟩ := OwH.two h2
  obtain ⟨b2, h⟩ := OwH.two h
  obtain ⟨b3, h⟩ := OwH.two h
  obtain ⟨b4, h⟩ := OwH.two h
  obtain ⟨b5, b6⟩ := OwH.two h
  obtain ⟨c1, h⟩ := OwH.two h3
  obtain ⟨c2, h⟩ := OwH.two h
  obtain ⟨c3, h⟩ := OwH.two h
  obtain ⟨c4, h⟩ := OwH.two h
  obtain ⟨c5, h⟩ := OwH.two h
  obtain ⟨c6, h⟩ := OwH.two h
  obtain ⟨c7, c8⟩ := OwH.two h
  obtain ⟨e1, e2, e3, e4⟩ := OwH.isC_ok a4
  have hc : HouseC K (hAd K).C := ⟨He.cls_ok a1, He.noat_ok a2, He.noat_ok a3⟩
  obtain ⟨mk0, d0, wit, rH, mOf, dOf, spc, dAt, dI, dL, bo, dAdd, dSub, dAnd, dOr, dEq, dLe, dLt, dGe, dGt⟩ := D
  exact {
    chk := chk, n_dict := n_dict, n_list := n_list, n_iter := n_iter
    k := ⟨hc, e1, e2, e3, e4, of_decide_eq_true a5⟩
    n2 := hc.n2, gH := gH, own := a6, mk0 := mk0, d0 := d0, wit := wit, rH := rH, mOf := mOf, dOf := dOf, spc := spc, dAt := dAt
    it := ⟨hc.cls, hc.n2, (OwH.hasF_ok b1).1, (OwH.hasF_ok b1).2⟩
    dI := dI
    ln := ⟨(OwH.hasF_ok b2).1, (OwH.hasF_ok b2).2⟩
    dL := dL, bo := bo
    cAdd := OwH.fBin_ok b3, cSub := OwH.fBin_ok b4, cAnd := OwH.fBin_ok b5, cOr := OwH.fBin_ok b6
    dAdd := dAdd, dSub := dSub, dAnd := dAnd, dOr := dOr
    cEq := ⟨(OwH.hasF_ok c1).1, (OwH.hasF_ok c1).2⟩
    cNe := ⟨(OwH.hasF_ok c1).1, (OwH.hasF_ok c1).2, OwH.ne_ok c2, e4⟩
    cLe := ⟨(OwH.hasF_ok c3).1, (OwH.hasF_ok c3).2⟩
    cLt := ⟨(OwH.hasF_ok c4).1, (OwH.hasF_ok c4).2⟩
    cGe := ⟨(OwH.hasF_ok c5).1, (OwH.hasF_ok c5).2⟩
    cGt := ⟨(OwH.hasF_ok c6).1, (OwH.hasF_ok c6).2⟩
    iAdd := c7, iOr := c8
    dEq := dEq, dLe := dLe, dLt := dLt, dGe := dGe, dGt := dGt }
/-- all that the end of the top says -/
structure Facts (P : Program) (w : World) (K : PySem.W.Frag) (mg : Str → Option Value) (base : Heap) (a : HAd) : Prop where
  R : HHF P w K mg base a
  nfS : PySem.W.notFirst K a.C (.type "str") = true
  kS : PySem.W.kitOne K (.type "str") (.ref a.C) = some false
  nm : Nm mg
  n_range : mg "range" = none
  n_zip : mg "zip" = none
  n_len : mg "len" = none
  n_enumerate : mg "enumerate" = none
  n_repr : mg "repr" = none
  n_list : mg "list" = none
  pen : ∃ f fd, mg "_law_pen" = some (.ref f) ∧ Fun K "_law_pen" "_law_pen" sPen f fd
  draw : ∃ f fd, mg "_law_draw" = some (.ref f) ∧ Fun K "_law_draw" "_law_draw" sDraw f fd
  pick : ∃ f fd, mg "_law_pick" = some (.ref f) ∧ Fun K "_law_pick" "_law_pick" sPick f fd
  word : ∃ f fd, mg "_law_word" = some (.ref f) ∧ Fun K "_law_word" "_law_word" sWord f fd
  numbers : ∃ f fd, mg "_law_numbers" = some (.ref f) ∧ Fun K "_law_numbers" "_law_numbers" sNum f fd
  atm : ∃ f fd, mg "_law_at_most" = some (.ref f) ∧ Fun K "_law_at_most" "_law_at_most" sAM f fd
  house : ∃ f fd, mg "_law_house" = some (.ref f) ∧ Fun K "_law_house" "_law_house" sLH f fd
  compared : ∃ f fd, mg "_law_compared" = some (.ref f) ∧ Fun K "_law_compared" "_law_compared" sCmp f fd
  pairs : ∃ f fd, mg "_law_pairs_right" = some (.ref f) ∧ Fun K "_law_pairs_right" "_law_pairs_right" sPR f fd
  bounds : ∃ f fd, mg "_law_bounds_right" = some (.ref f) ∧ Fun K "_law_bounds_right" "_law_bounds_right" sBR f fd
section
variable {P : Program} {w : World} {K : PySem.W.Frag} {mg : Str → Option Value} {base : Heap}
theorem ok_all {a : HAd} (Fa : Facts P w K mg base a) {f : Addr} {fd : FuncData} (F : Fun K "law" "law" sLaw f fd) : OwR.FnG P w K mg base CX0 11 f fd ["_law_script"] (spLaw K) := by
  obtain ⟨R, nfS, kS, nm, n_range, n_zip, n_len, n_enumerate, n_repr, n_list, ⟨_, _, g_pen, F_pen⟩, ⟨_, _, g_draw, F_draw⟩, ⟨_, _, g_pick, F_pick⟩, ⟨_, _, g_word, F_word⟩, ⟨_, _, g_num, F_num⟩, ⟨_, _, g_am, F_am⟩, ⟨_, _, g_lh, F_lh⟩, ⟨_, _, g_cp, F_cp⟩, ⟨_, _, g_pr, F_pr⟩, ⟨_, _, g_br, F_br⟩⟩ := Fa
  exact ok_law F R nfS kS nm F_pen g_pen F_word g_word (ok_word F_word nm n_range F_draw g_draw F_pick g_pick) F_num g_num (ok_Num F_num nm F_draw g_draw F_pick g_pick n_range n_list) F_lh g_lh
    (ok_PR R F_pr F_am g_am F_lh g_lh F_cp g_cp n_zip n_enumerate n_repr) F_pr.kp g_pr (F_pr.binds fun _ _ _ _ _ _ us hl => match us, hl with | [_, _, _], _ => rfl)
    (ok_BR R F_br n_repr) F_br.kp g_br (F_br.binds fun _ _ _ _ _ _ us hl => match us, hl with | [_], _ => rfl) n_range n_zip n_len
end
end K10
end
section
namespace K10
open PySem PySem.Spec PyProof.Rows L2
def theDefs : List OwH.DX :=
  [⟨fun K => OwH.ga K "is_name", "is_name", "is_name", sName⟩,
   ⟨fun K => OwH.ga K "is_within", "is_within", "is_within", sWithin⟩,
   ⟨fun K => OwH.ga K "is_number", "is_number", "is_number", sNumber⟩,
   ⟨fun K => OwH.ga K "ascending", "ascending", "ascending", sAsc⟩,
   ⟨fun K => OwH.ga K "numbers_told", "numbers_told", "numbers_told", sTold⟩,
   ⟨fun K => OwH.ga K "house_with", "house_with", "house_with", sWith⟩,
   ⟨fun K => OwH.ga K "bays_of", "bays_of", "bays_of", sBaysOf⟩,
   ⟨fun K => OwH.ga K "_law_pen", "_law_pen", "_law_pen", sPen⟩,
   ⟨fun K => OwH.ga K "_law_draw", "_law_draw", "_law_draw", sDraw⟩,
   ⟨fun K => OwH.ga K "_law_pick", "_law_pick", "_law_pick", sPick⟩,
   ⟨fun K => OwH.ga K "_law_word", "_law_word", "_law_word", sWord⟩,
   ⟨fun K => OwH.ga K "_law_numbers", "_law_numbers", "_law_numbers", sNum⟩,
   ⟨fun K => OwH.ga K "_law_at_most", "_law_at_most", "_law_at_most", sAM⟩,
   ⟨fun K => OwH.ga K "_law_house", "_law_house", "_law_house", sLH⟩,
   ⟨fun K => OwH.ga K "_law_compared", "_law_compared", "_law_compared", sCmp⟩,
   ⟨fun K => OwH.ga K "_law_pairs_right", "_law_pairs_right", "_law_pairs_right", sPR⟩,
   ⟨fun K => OwH.ga K "_law_bounds_right", "_law_bounds_right", "_law_bounds_right", sBR⟩,
   ⟨fun K => OwH.ga K "law", "law", "law", sLaw⟩,
   ⟨fun K => OwH.mo K "House" "__init__", "__init__", "House.__init__", sHouse0⟩,
   ⟨fun K => OwH.inRec K (OwH.mo K "House" "of") "classmethod", "of", "House.of", sHouseOf⟩,
   ⟨fun K => OwH.mo K "House" "__getitem__", "__getitem__", "House.__getitem__", sHouseAt⟩,
   ⟨fun K => OwH.mo K "House" "__iter__", "__iter__", "House.__iter__", sHIter⟩,
   ⟨fun K => OwH.mo K "House" "__len__", "__len__", "House.__len__", sHLen⟩,
   ⟨fun K => OwH.mo K "House" "__add__", "__add__", "House.__add__", sHAdd⟩,
   ⟨fun K => OwH.mo K "House" "__sub__", "__sub__", "House.__sub__", sHSub⟩,
   ⟨fun K => OwH.mo K "House" "__and__", "__and__", "House.__and__", sHAnd⟩,
   ⟨fun K => OwH.mo K "House" "__or__", "__or__", "House.__or__", sHOr⟩,
   ⟨fun K => OwH.mo K "House" "__eq__", "__eq__", "House.__eq__", sHEq⟩,
   ⟨fun K => OwH.mo K "House" "__le__", "__le__", "House.__le__", sHLe⟩,
   ⟨fun K => OwH.mo K "House" "__lt__", "__lt__", "House.__lt__", sHLt⟩,
   ⟨fun K => OwH.mo K "House" "__ge__", "__ge__", "House.__ge__", sHGe⟩,
   ⟨fun K => OwH.mo K "House" "__gt__", "__gt__", "House.__gt__", sHGt⟩]
def theFacts : List (PySem.W.Frag → Bool) :=
  [(He.Fa.glo "is_name").ok,
   (He.Fa.glo "is_within").ok,
   (He.Fa.glo "is_number").ok,
   (He.Fa.glo "ascending").ok,
   (He.Fa.glo "numbers_told").ok,
   (He.Fa.glo "house_with").ok,
   (He.Fa.glo "bays_of").ok,
   (He.Fa.glo "_law_pen").ok,
   (He.Fa.glo "_law_draw").ok,
   (He.Fa.glo "_law_pick").ok,
   (He.Fa.glo "_law_word").ok,
   (He.Fa.glo "_law_numbers").ok,
   (He.Fa.glo "_law_at_most").ok,
   (He.Fa.glo "_law_house").ok,
   (He.Fa.glo "_law_compared").ok,
   (He.Fa.glo "_law_pairs_right").ok,
   (He.Fa.glo "_law_bounds_right").ok,
   (He.Fa.glo "law").ok,
   (He.Fa.glo "House").ok,
   (He.Fa.free "int").ok,
   (He.Fa.free "bool").ok,
   (He.Fa.free "str").ok,
   (He.Fa.free "len").ok,
   (He.Fa.free "all").ok,
   (He.Fa.free "isinstance").ok,
   (He.Fa.free "sorted").ok,
   (He.Fa.free "set").ok,
   (He.Fa.free "list").ok,
   (He.Fa.free "tuple").ok,
   (He.Fa.free "abs").ok,
   (He.Fa.free "range").ok,
   (He.Fa.free "repr").ok,
   (He.Fa.free "zip").ok,
   (He.Fa.free "enumerate").ok,
   (He.Fa.free "iter").ok,
   (He.Fa.free "dict").ok,
   fH1,
   fH2,
   fH3,
   (He.Fa.mkr "House").ok,
   OwH.fRead "House",
   OwH.fCMet "House" "of",
   OwH.fSpc "House" "__getitem__",
   OwH.fNot "House" fun _ => .type "str",
   fun K => decide (PySem.W.kitOne K (.type "str") (.ref (OwH.ga K "House")) = some false)]
def theTabs : List (PySem.W.Frag → Addr) := []
def roots : List Str := ([("is_name" : Str), ("is_within" : Str), ("is_number" : Str), ("ascending" : Str), ("numbers_told" : Str), ("house_with" : Str), ("bays_of" : Str), ("_law_pen" : Str)] : List Str) ++ ([("_law_draw" : Str), ("_law_pick" : Str), ("_law_word" : Str), ("_law_numbers" : Str), ("_law_at_most" : Str), ("_law_house" : Str), ("_law_compared" : Str), ("_law_pairs_right" : Str)] : List Str) ++ ([("_law_bounds_right" : Str), ("law" : Str), ("House" : Str)] : List Str)
def names : List Str := ([("_wall" : Str), ("NextError" : Str), ("BadName" : Str), ("BadNumber" : Str), ("BadTable" : Str), ("Lacking" : Str), ("BadText" : Str), ("is_name" : Str)] : List Str) ++ ([("is_within" : Str), ("is_number" : Str), ("ascending" : Str), ("numbers_told" : Str), ("number_of" : Str), ("Words" : Str), ("House" : Str), ("house_with" : Str)] : List Str) ++ ([("bays_of" : Str), ("check_share" : Str), ("places_from" : Str), ("_law_pen" : Str), ("_law_draw" : Str), ("_law_pick" : Str), ("_law_word" : Str), ("_law_numbers" : Str)] : List Str) ++ ([("_law_at_most" : Str), ("_law_house" : Str), ("_law_compared" : Str), ("_law_pairs_right" : Str), ("_law_bounds_right" : Str)] : List Str)
abbrev Rw : PySem.W.OpenRow := PySem.W.OpenLaw.row PySem.Challenge.rw_nextkind_k05_whole_houses_in_order
abbrev hk : PySem.W.Hook := OwH.hookT roots theFacts theDefs theTabs
def ob (s : PySem.W.SharedT) : OwH.AT := OwH.obsT roots theFacts theDefs theTabs (HandSHeadRun.getT s)
theorem ob_eq (s : PySem.W.SharedT) : ob s = hk.obs s.abs := OwH.obsT_eq (HandSHeadRun.getT_eq s)
theorem run (w : World) : HandSHeadRun.RunEq Rw (PySem.W.view Rw.prog [34]) hk ob 12000 names w := by
  intro os
  kernel_rfl
theorem facts {P : Program} {w : World} {K : PySem.W.Frag} {h base : Heap} {mg : Str → Option Value} (X : K.In h) (G : h.Ns mainGlobals mg) (c : OwH.seeX theFacts theDefs K = OwH.wantX theDefs) : Facts P w K mg base (hAd K) := by
  obtain ⟨fd0, F0⟩ := OwH.def_ c 0 rfl
  obtain ⟨fd1, F1⟩ := OwH.def_ c 1 rfl
  obtain ⟨fd2, F2⟩ := OwH.def_ c 2 rfl
  obtain ⟨fd3, F3⟩ := OwH.def_ c 3 rfl
  obtain ⟨fd4, F4⟩ := OwH.def_ c 4 rfl
  obtain ⟨fd5, F5⟩ := OwH.def_ c 5 rfl
  obtain ⟨fd6, F6⟩ := OwH.def_ c 6 rfl
  obtain ⟨fd7, F7⟩ := OwH.def_ c 7 rfl
  obtain ⟨fd8, F8⟩ := OwH.def_ c 8 rfl
  obtain ⟨fd9, F9⟩ := OwH.def_ c 9 rfl
  obtain ⟨fd10, F10⟩ := OwH.def_ c 10 rfl
  obtain ⟨fd11, F11⟩ := OwH.def_ c 11 rfl
  obtain ⟨fd12, F12⟩ := OwH.def_ c 12 rfl
  obtain ⟨fd13, F13⟩ := OwH.def_ c 13 rfl
  obtain ⟨fd14, F14⟩ := OwH.def_ c 14 rfl
  obtain ⟨fd15, F15⟩ := OwH.def_ c 15 rfl
  obtain ⟨fd16, F16⟩ := OwH.def_ c 16 rfl
  obtain ⟨fd18, F18⟩ := OwH.def_ c 18 rfl
  obtain ⟨fd19, F19⟩ := OwH.def_ c 19 rfl
  obtain ⟨fd20, F20⟩ := OwH.def_ c 20 rfl
  obtain ⟨fd21, F21⟩ := OwH.def_ c 21 rfl
  obtain ⟨fd22, F22⟩ := OwH.def_ c 22 rfl
  obtain ⟨fd23, F23⟩ := OwH.def_ c 23 rfl
  obtain ⟨fd24, F24⟩ := OwH.def_ c 24 rfl
  obtain ⟨fd25, F25⟩ := OwH.def_ c 25 rfl
  obtain ⟨fd26, F26⟩ := OwH.def_ c 26 rfl
  obtain ⟨fd27, F27⟩ := OwH.def_ c 27 rfl
  obtain ⟨fd28, F28⟩ := OwH.def_ c 28 rfl
  obtain ⟨fd29, F29⟩ := OwH.def_ c 29 rfl
  obtain ⟨fd30, F30⟩ := OwH.def_ c 30 rfl
  obtain ⟨fd31, F31⟩ := OwH.def_ c 31 rfl
  exact ⟨house_ok ⟨⟨⟨_, _, (He.glo_ok X G (OwH.fact c 0 rfl)), F0⟩, ⟨_, _, (He.glo_ok X G (OwH.fact c 1 rfl)), F1⟩, ⟨_, _, (He.glo_ok X G (OwH.fact c 3 rfl)), F3⟩, ⟨(He.free_ok X G (OwH.fact c 19 rfl)), (He.free_ok X G (OwH.fact c 20 rfl)), (He.free_ok X G (OwH.fact c 21 rfl)), (He.free_ok X G (OwH.fact c 22 rfl)), (He.free_ok X G (OwH.fact c 23 rfl)), (He.free_ok X G (OwH.fact c 24 rfl))⟩, ⟨(He.free_ok X G (OwH.fact c 25 rfl)), (He.free_ok X G (OwH.fact c 26 rfl)), (He.free_ok X G (OwH.fact c 27 rfl))⟩, ⟨(He.free_ok X G (OwH.fact c 28 rfl))⟩⟩, ⟨_, _, (He.glo_ok X G (OwH.fact c 2 rfl)), F2⟩, ⟨_, _, (He.glo_ok X G (OwH.fact c 4 rfl)), F4⟩⟩ (He.free_ok X G (OwH.fact c 35 rfl)) (He.free_ok X G (OwH.fact c 27 rfl)) (He.free_ok X G (OwH.fact c 34 rfl)) (He.glo_ok X G (OwH.fact c 18 rfl)) (OwH.fact c 36 rfl) (OwH.fact c 37 rfl) (OwH.fact c 38 rfl)
    ⟨He.mkr_ok (OwH.fact c 39 rfl), ⟨_, F18⟩, ⟨_, _, (He.glo_ok X G (OwH.fact c 5 rfl)), F5⟩, OwH.read_ok (OwH.fact c 40 rfl), OwH.cmet_ok (OwH.fact c 41 rfl), ⟨_, F19⟩, OwH.spc_ok (OwH.fact c 42 rfl), ⟨_, F20⟩, ⟨_, F21⟩, ⟨_, F22⟩, ⟨_, _, (He.glo_ok X G (OwH.fact c 6 rfl)), F6⟩, ⟨_, F23⟩, ⟨_, F24⟩, ⟨_, F25⟩, ⟨_, F26⟩, ⟨_, F27⟩, ⟨_, F28⟩, ⟨_, F29⟩, ⟨_, F30⟩, ⟨_, F31⟩⟩,
    (OwH.fact c 43 rfl), of_decide_eq_true (OwH.fact c 44 rfl), ⟨(He.free_ok X G (OwH.fact c 19 rfl)), (He.free_ok X G (OwH.fact c 22 rfl)), (He.free_ok X G (OwH.fact c 29 rfl)), (He.free_ok X G (OwH.fact c 27 rfl))⟩, (He.free_ok X G (OwH.fact c 30 rfl)), (He.free_ok X G (OwH.fact c 32 rfl)), (He.free_ok X G (OwH.fact c 22 rfl)), (He.free_ok X G (OwH.fact c 33 rfl)), (He.free_ok X G (OwH.fact c 31 rfl)), (He.free_ok X G (OwH.fact c 27 rfl)),
    ⟨_, _, (He.glo_ok X G (OwH.fact c 7 rfl)), F7⟩, ⟨_, _, (He.glo_ok X G (OwH.fact c 8 rfl)), F8⟩, ⟨_, _, (He.glo_ok X G (OwH.fact c 9 rfl)), F9⟩, ⟨_, _, (He.glo_ok X G (OwH.fact c 10 rfl)), F10⟩, ⟨_, _, (He.glo_ok X G (OwH.fact c 11 rfl)), F11⟩, ⟨_, _, (He.glo_ok X G (OwH.fact c 12 rfl)), F12⟩, ⟨_, _, (He.glo_ok X G (OwH.fact c 13 rfl)), F13⟩, ⟨_, _, (He.glo_ok X G (OwH.fact c 14 rfl)), F14⟩, ⟨_, _, (He.glo_ok X G (OwH.fact c 15 rfl)), F15⟩, ⟨_, _, (He.glo_ok X G (OwH.fact c 16 rfl)), F16⟩⟩
theorem ends {P : Program} {w : World} {K : PySem.W.Frag} {h : Heap} {mg : Str → Option Value} {f : Addr} (X : K.In h) (G : h.Ns mainGlobals mg) (hf : mg ("law" : Str) = some (.ref f)) (c : OwH.SaysT theFacts theDefs theTabs h K) :
    ∃ (K : PySem.W.Frag) (fd : FuncData) (cs : List (Addr × Addr)) (sp : Sp), K.In h ∧ (∀ e ∈ cs, h.get? e.2 = some OwR.tabO) ∧ (∀ e ∈ cs, K.lookup e.2 = none) ∧ (∀ e ∈ cs, PySem.W.CodeHd h e.1 e.2) ∧
      (∀ (s : Shared) (u : Value), BindsTo s fd ⟨[u], []⟩ [("_law_script", u)]) ∧ (∀ (G : Hp) (a : Addr) (zs : List Int), zs.length ≤ 63 → (∀ e ∈ cs, G e.2 = some (.tbl #[])) → SqL K G a (zs.map V.int) → sp [.ref a] G (fun v _ => v = .bl true) fun _ _ _ => False) ∧
      ∀ base : Heap, K.In base → base.Ns mainGlobals mg → (∀ e ∈ cs, LamX.TabB base mg e.1 e.2) → OwR.FnG P w K mg base CX0 11 f fd ["_law_script"] sp := by
  obtain ⟨fd2, F2⟩ := OwH.def_ c.see 17 rfl
  have e := hf.symm.trans (He.glo_ok X G (OwH.fact c.see 17 rfl))
  cases e
  obtain ⟨oc2, od2, kV2, doc2, pm2, an2, cdv2, ct2, osl2, rfl, lk2, hcd2⟩ := id F2.ex
  exact ⟨K, PySem.W.fnOf "law" "law" (defArgs sLaw) (defBody sLaw) (defScope sLaw) .none kV2 doc2 pm2 an2 cdv2 ct2, [], spLaw K, X, (fun e he => by cases he), (fun e he => by cases he), (fun e he => by cases he), fun s v => .of_eq rfl, fun G a zs hz ht sq => ⟨a, zs, rfl, sq, hz, fun _ => rfl⟩, fun base hK hN hT => ok_all (facts (P := P) (w := w) (base := base) X G c.see) F2⟩

end K10
open PySem PySem.W PySem.Calls PyProof.Rows
theorem PySem.Challenge.cw_nextkind_k05_whole_houses_in_order_holds : PySem.Challenge.rw_nextkind_k05_whole_houses_in_order.Holds := by
  w_on; o_law
  refine HandSHeadRun.head_any (r := K10.Rw) (q := view K10.Rw.prog [34]) (H := K10.hk) (ob := K10.ob) (M := 12000) (loose := K10.names) (d := HandSHeadRun.topDef K10.Rw.prog 34) (kwd := []) K10.ob_eq
    (by kernel_rfl) (fun s => by kernel_rfl) K10.run (by kernel_rfl) (by kernel_rfl) (by kernel_rfl) (by rfl) (by first | assumption | decide +kernel) (by decide +kernel) ⟨rfl, rfl, rfl, rfl, rfl, by decide +kernel⟩ ?hw ?hc
  case hw => w_witness2
  case hc =>
    refine OwR.walk_ofTG (l := PySem.Challenge.rw_nextkind_k05_whole_houses_in_order) (n := 63) (k := 11) (x := "_law_script") rfl (by decide) (by kernel_rfl) ⟨rfl, by decide, by decide⟩ ?_
    intro w mg fn h Y G hmg
    obtain ⟨K, X, c⟩ := Y
    have en : (HandSHeadRun.topDef K10.Rw.prog 34).name = ("law" : PySem.Str) := by kernel_rfl
    rw [en] at hmg
    exact K10.ends (P := PySem.Challenge.rw_nextkind_k05_whole_houses_in_order.prog) (w := w) X G hmg c
end
