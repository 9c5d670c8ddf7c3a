import PyProof.Rows.All
import Wide.All
import OpenK.AllK
import Wide.FinOn
import KE.KStateDown
import Lean
import HandS.HeadHook3
import HandS.HeadHook4
import HandS.Base
import HandS.Call
import HandS.Ends
import HandS.Lambda
import HandS.EndBits
import HandS.EndTab
import HandS.ForMost
import HandS.More
import HandS.Exc
import HandS.Star
import HandS.ClsMeth
import HandS.MakeKwOnly
import HandS.Style
import HandS.TupAny
import KE.GoesMore
import KE.GoesEnum
import HandS.Words
import HandS.Property
import HandS.Head0
import HandS.Head1
import HandS.Head2
import HandS.HeadEnd
import HandS.HeadHook1
import HandS.HeadHook2
import KE.KExcIs
import PyProof.CallFns
import HandS.ExcInit
import HandS.ExcField
import HandS.IsInst
import HandS.RaiseMore
import KE.KOpsOwn
import HandS.Text
import HandS.TryOnly
import HandS.Codes
import HandS.Wide
import HandS.NoneIn
import HandS.Walk
import HandS.Iter
import HandS.DictComp
import KE.KDictList
import PyProof.Rows.StrMeet
import PyProof.ReprBulk
import HandS.Set
import HandS.SetFor
import HandS.Strs
import HandS.Dict
import HandS.List
import HandS.ForExc
import HandS.WordsExc
import KE.KOwnIter
import PyProof.TupleIter
import HandS.IterVal
import PyProof.WalksMore
import HandS.OwnIter
import KE.KCallOwn
import PyProof.SliceList
import KE.KEqNest
import PyProof.P3Eq
import PyProof.EqKinds
import HandS.FStr
import PyProof.NeKinds
import PyProof.EqAt
import PyProof.ZipIter
import PyProof.Rows.Range3
import HandS.Zip0
import HandS.Zip
import PySem.Challenge.RW_nextkind_k32_rows_made
set_option Elab.async false
set_option linter.all false
set_option maxRecDepth 100000
set_option maxHeartbeats 0
section
/-! Rules for what an own class defines: o[i] by its __getitem__, a def of a class called off the class, a static method, cls(*xs), an object called by a keyword. -/
namespace OwR
open PySem PySem.Spec PyProof.Rows L2
/-- the class at C has the def at g as its special method nm -/
structure Spc (K : PySem.W.Frag) (C g : Addr) (nm : Str) : Prop where
  at_ : PySem.W.findIn K (.ref C) nm = some (some (.ref g))
  fn : PySem.W.isFn K (.ref g) = true
  fi : PySem.W.fnIn K g = true
section
variable {X : Cx} {CX : CXT} {k i : Nat} {C f g p : Addr} {mc : Value} {sp : Sp} {E : XK} {a b o e : Expr} {es : List Expr} {m x : Str} {ta tb te : TE} {t tk : TA} {pos apos q1 q2 : Pos} {pins : List (Addr × Obj)} {σ : L2.St} {H : Hp} {s : Shared}
/-- a promise kept one step further in -/
theorem run_in {Q : VK} {us : List Value} {vs : List V} (F : FnR X.prog X.w X.K X.mg X.base CX k g sp) (hr : Room (k + 1) X.A) (hx : Passes CX X E) (I : Inv X pins σ H s) (r : Vals vs us) (h : sp vs H Q E) :
    wpAny (model X.prog X.w) X.A.in1 (call (.ref g) us) (EP X pins σ Q) X.xe s := by
  refine wpAny_call (codeAny_mono (F X.A.in1 X.stack s H us vs Q E hr.in1 I.env0.in1 r h) fun r s' hq => ?_)
  cases r with
  | error er => exact hx pins σ H s er s' I hq
  | ok fl =>
    cases fl with
    | ret u => exact I.after hq
    | next => exact False.elim hq
    | brk => exact False.elim hq
    | cont => exact False.elim hq
/-! ### o[i] -/
def tItem (C : Addr) (sp : Sp) (E : XK) (ta tb : TE) : TE := fun σ H Q => ta σ H fun x H1 => tb σ H1 fun y H2 => ∃ p dx fs, x = .ref p ∧ H2 p = some (.ins C dx fs) ∧ sp [.ref p, y] H2 Q E
theorem pe_item (c : Spc X.K C g "__getitem__") (F : FnR X.prog X.w X.K X.mg X.base CX k g sp) (hr : Room (k + 1) X.A) (hx : Passes CX X E) (ha : PE X a ta) (hb : PE X b tb)
    (hsl : ∀ (z : Addr) (v : Value), subscripted b true (.ref z) v = runValue (.builtin "lifetime.subscript" ⟨[.ref z, v], []⟩) := by intros; rfl) : PE X (.Subscript a b pos) (tItem C sp E ta tb) := by
  refine ⟨fun pins s σ H Q I h => ?_⟩
  refine Subscript_ (binT ha hb I h fun v u s2 x y H2 I2 rx ry q => ?_)
  obtain ⟨p, dx, fs, ex, ep, hq⟩ := q
  subst ex
  obtain rfl : v = Value.ref p := rx
  obtain ⟨ox, od, J, _⟩ := StX.insC_at I2 (.inr ⟨dx, fs, ep⟩)
  have KI := I2.kIn
  have hfi := c.fi
  unfold PySem.W.fnIn at hfi
  split at hfi
  · rename_i hg
    unfold subscriptTail getitemInPython
    refine wpAny_bind (wpAny_bind (wpAny_bind (J.type.here ((PySem.W.looks_findIn KI c.at_).here ?_))))
    dsimp only
    refine wpAny_bind (wpAny_load (KI _ _ hg) (wpAny_pure ?_))
    dsimp only
    rw [hsl]
    refine wpAny_bind (wpAny_runValue (codeAny_builtin PySem.W.entry_sub ?_))
    unfold Builtin.«lifetime.subscript»
    refine wpAny_bind (PySem.W.special_fn KI J c.at_ (beq_iff_eq.mp c.fn) (wpAny_mono (run_in (us := [Value.ref p, u]) (vs := [V.ref p, y]) F hr hx I2 (.cons rfl (.cons ry .nil)) hq) (fun v' s' z => ?_) fun _ _ z => z))
    refine wpAny_pure ?_
    show wpAny _ X.A (letTemporaryGo a (.ref p) v' >>= fun _ => pure v') _ _ s'
    exact wpAny_bind (wpAny_letTemporaryGo (wpAny_pure z))
  · cases hfi
/-! ### C.m(e, ..), m a plain def of the class -/
structure CFun (K : PySem.W.Frag) (C : Addr) (mc : Value) (m : Str) (g : Addr) : Prop where
  at_ : PySem.W.findCls K (.ref C) mc m = some (.val (.ref g))
  kp : PySem.W.keepIn K (.ref g) = true
def tCFun (C : Addr) (sp : Sp) (E : XK) (ta : TE) (t : TA) : TE := fun σ H Q => ta σ H fun x H1 => x = .ref C ∧ t σ H1 fun vs H2 => sp vs H2 Q E
theorem pe_cfun {pl : Sem Bool} (he : PE X o ta) (r : ClX.CRead X.K C mc) (c : CFun X.K C mc m g) (F : FnR X.prog X.w X.K X.mg X.base CX k g sp) (hr : Room k X.A) (hx : Passes CX X E) (ha : PA X (e :: es) t)
    (hst : starEach (e :: es) X.env = (false, eval e X.env) :: starEach es X.env := by rfl) (hpl : (backTo pos (starEach es X.env)).any (·.1) = false := by rfl)
    (ht : eval (.Call (.Attribute o m apos) (e :: es) [] pos) X.env = (do
      let ov ← eval o X.env
      standAt apos.atName
      let (f, first) ← holding [ov] (getMethod ov m pl)
      callWith pos f first (backTo pos (starEach (e :: es) X.env)) (backToKw pos (keywordEach [] X.env))) := by rfl) :
    PE X (.Call (.Attribute o m apos) (e :: es) [] pos) (tCFun C sp E ta t) := by
  refine ⟨fun pins s σ H Q I h => ?_⟩
  refine PySem.W.methodCall_KW (pl := pl) (thn (he.run pins s σ H _ I h) fun u s1 ⟨x, H1, I1, rx, ex, q⟩ => ?_) ht
  subst ex
  obtain rfl : u = Value.ref C := rx
  refine PySem.W.method_cls I1.kIn r.ga (PySem.W.cls_value I1.kIn r.rd c.at_ rfl ?_)
  refine PySem.W.callWith_K (first := []) (h₀ := X.base) I1.ok.mod.kin c.kp (thn (ha.run pos pins _ σ H1 _ (I1.tok _) q) fun us s2 ⟨vs, H2, I2, rv, q2⟩ => ⟨I2.kIn, ?_⟩) hst hpl
  exact wpAny_call (run_fnR F hr hx I2 rv q2)
/-! ### C.m(), m a static method -/
structure CSta (K : PySem.W.Frag) (C : Addr) (mc : Value) (m : Str) (p g : Addr) : Prop where
  at_ : PySem.W.findCls K (.ref C) mc m = some (.get (.builtin "staticmethod.__get__") (.ref p) .none (.ref C))
  rc : ∃ rest, PySem.W.recIn K p "staticmethod" = some (.ref g :: rest)
  kp : PySem.W.keepIn K (.ref g) = true
theorem pe_csta0 {pl : Sem Bool} (he : PE X o ta) (r : ClX.CRead X.K C mc) (c : CSta X.K C mc m p g) (F : FnR X.prog X.w X.K X.mg X.base CX k g sp) (hr : Room k X.A) (hx : Passes CX X E)
    (ht : eval (.Call (.Attribute o m apos) [] [] pos) X.env = (do
      let ov ← eval o X.env
      standAt apos.atName
      let (f, first) ← holding [ov] (getMethod ov m pl)
      callWith pos f first (backTo pos (starEach [] X.env)) (backToKw pos (keywordEach [] X.env))) := by rfl) :
    PE X (.Call (.Attribute o m apos) [] [] pos) (tCFun C sp E ta tNil) := by
  refine ⟨fun pins s σ H Q I h => ?_⟩
  refine PySem.W.methodCall_KW (pl := pl) (thn (he.run pins s σ H _ I h) fun u s1 ⟨x, H1, I1, rx, ex, q⟩ => ?_) ht
  subst ex
  obtain rfl : u = Value.ref C := rx
  obtain ⟨rest, hrec⟩ := c.rc
  refine PySem.W.method_cls I1.kIn r.ga (PySem.W.cls_bind I1.kIn r.rd c.at_ ?_)
  refine wpAny_call (PySem.W.sm_get (s := { s1 with toks := s1.toks + 1 }) I1.kIn hrec (PySem.W.handed_on rfl ?_))
  have I2 := I1.tok (s1.toks + 1)
  exact PySem.W.callWith_K0 (first := []) I2.kIn c.kp (wpAny_call (run_fnR (us := []) F hr hx I2 .nil q))
/-! ### cls(*xs), cls a slot that holds the class -/
def tMakeLS (K : PySem.W.Frag) (i : Nat) (C : Addr) (sp : Sp) (E : XK) (te : TE) : TE := fun σ H Q => σ[i]? = some (some (.ref C)) ∧ te σ H fun y H1 => ∃ a xs, y = V.ref a ∧ (SqT K H1 a xs ∨ SqL K H1 a xs) ∧
  ∀ z dz, H1 z = none → H1 dz = none → dz ≠ z → sp (V.ref z :: xs) (upd (upd H1 dz (.own z)) z (.ins C dz [])) (fun v H2 => v = .non ∧ Q (.ref z) H2) E
theorem pe_makeLS (M : Mk X.K C f) (F : FnR X.prog X.w X.K X.mg X.base CX k f sp) (hr : Room (k + 1) X.A) (hN : X.N[i]? = some x) (hv : Vis X.env.scope x) (hx : Passes CX X E) (he : PE X e te)
    (hdb : (x == ("__debug__" : Str)) = false := by decide) (hcd : (x == ("__classdict__" : Str)) = false := by decide) (hst : starEach [.Starred e q1] X.env = [(true, eval e X.env)] := by rfl) :
    PE X (.Call (.Name x q2) [.Starred e q1] [] pos) (tMakeLS X.K i C sp E te) := by
  refine ⟨fun pins s σ H Q I h => ?_⟩
  obtain ⟨hs, ht⟩ := h
  refine wpAny_Call_Name_kw (thn ((pe_var (pos := q2) hN hv hdb hcd).run pins s σ H (fun v H1 => v = .ref C ∧ H1 = H) I ⟨.ref C, hs, rfl, rfl⟩) fun u s1 ⟨v, H1, I1, r1, e1⟩ => ?_)
  obtain ⟨rfl, rfl⟩ := e1
  cases r1
  refine PySem.W.callWith_S (h₀ := X.base) (first := []) I1.ok.mod.kin M.kp (thn (he.run pins s1 σ _ _ I1 ht) fun v s2 ⟨y, H2, I2, ry, a, xs, ey, hxs, q⟩ => ?_) hst
  subst ey
  obtain rfl : v = Value.ref a := ry
  exact StX.star_any I2 hxs fun us s3 I3 rv => ⟨I3.kIn, StX.run_makeR M F hr hx I3 rv q⟩
end
end OwR
end
section
namespace OwR
open PySem PySem.Spec PyProof.Rows L2
open AutoSeq1 (wpAny_loadPart')
/-! ### enumerate(t), t a tuple -/
theorem meets_enumT {v : Value} {o : Obj} {G : Heap → Prop} (B : Begins v o G) :
    Meets (Builtin.«enumerate.__new__» ⟨[.type "enumerate", v], []⟩) (fun _ R s => G s.heap ∧
      R (.ok (.ret (.ref (s.heap.push o).objs.size))) { s with heap := (s.heap.push o).push { cls := .type "enumerate", data := .fields #[.none, .bool false, .ref s.heap.objs.size, rawInt 0, .none, .none] } }) :=
  .of_wp fun prog w A R s h => by
    obtain ⟨hp, g, d, tk, os⟩ := s; obtain ⟨h1, h⟩ := h
    have hsub := sub_enumerate
    have start : ∀ {A' : Around} {E : Value → Shared → Prop} {Q : Value → Shared → Prop}, Q (.ref hp.objs.size) ⟨hp.push o, g, d, tk, os⟩ → wpAny (model prog w) A' (pyIter v) Q E ⟨hp, g, d, tk, os⟩ :=
      fun q => B.iter prog w _ _ ⟨hp, g, d, tk, os⟩ _ h1 q
    wp_walk using start
    refine wpAny_stack_any fun st => wpAny_pure ?_
    split
    · rename_i c _ _ _ _ _
      cases (c == Value.type "enumerate")
      all_goals (wp_walk using start; exact ⟨_, rfl, h⟩)
    · wp_walk using start
      exact ⟨_, rfl, h⟩
section
variable {prog : Program} {w : World} {A : Around} {E : Value → Shared → Prop} {s : Shared}
theorem call_enumT {v : Value} {o : Obj} {G : Heap → Prop} {Q : Value → Shared → Prop} (B : Begins v o G) (h1 : G s.heap)
    (h : ∀ h', IsEnum h' (s.heap.objs.size + 1) s.heap.objs.size 0 .none → h'.get? s.heap.objs.size = some o → (∀ b x, s.heap.get? b = some x → h'.get? b = some x) → Q (.ref (s.heap.objs.size + 1)) { s with heap := h' }) :
    wpAny (model prog w) A (call (.type "enumerate") [v]) Q E s := by
  refine callType_new F.called_enumerate (by decide) (F.typeCall_enumerate_1 _) (F.newCall_enumerate_1 _) (fun obj => F.args_object_init_2 obj _) F.entry_enumerate_new (meets_enumT B) ⟨h1, ?_⟩
  have hz : (s.heap.push o).objs.size = s.heap.objs.size + 1 := Heap.size_push ..
  have he := Heap.get?_push_size (s.heap.push o) (o := { cls := .type "enumerate", data := .fields #[.none, .bool false, .ref s.heap.objs.size, rawInt 0, .none, .none] }) rfl
  rw [hz] at he
  show _ ∧ _
  rw [hz]
  exact ⟨⟨_, he, rfl⟩, h _ he (Heap.get?_push_of_some _ (Heap.get?_push_size _ B.free)) fun b x q => Heap.get?_push_of_some _ (Heap.get?_push_of_some _ q)⟩
end
/-- the tuple at a at each turn: its item in a new pair -/
def IteT (K : PySem.W.Frag) (a : Addr) : It :=
  ⟨fun i H => ∃ (xs : List V) (x : V), SqT K H a xs ∧ xs[i]? = some x, fun i H v H' => ∃ T x, v = .ref T ∧ H T = none ∧ H' = upd H T (.tup [.int (i : Nat), x]) ∧ ∀ xs, SqT K H a xs → xs[i]? = some x, fun i H => ∃ xs : List V, SqT K H a xs ∧ xs.length ≤ i⟩
theorem tup_one {X : Cx} {pins : List (Addr × Obj)} {σ : L2.St} {H : Hp} {s : Shared} {a : Addr} {xs ys : List V} (I : Inv X pins σ H s) (h : SqT X.K H a xs) (h' : SqT X.K H a ys) : xs = ys := by
  first | exact I.tup_inj h h' | exact I.tuple_inj h h'
theorem turn_enumT {P : Program} {w : World} {K : PySem.W.Frag} {elts : List Expr} {kk : Nat} {tpos : Pos} (a e it : Addr) (hane : a ≠ it) :
    Turn P w K (.Tuple elts kk tpos) (IteT K a) [e, it] e (fun i h => (∃ old, IsEnum h e it ((i : Nat) : Int) old) ∧ h.IsTupleIter it a i ∧ e ≠ it ∧ a ≠ e) where
  mem := by simp
  obj := fun i h st b hb => by
    obtain ⟨⟨old, he⟩, ⟨o, ho, hc, hd⟩, _⟩ := st
    rcases List.mem_cons.mp hb with z | z
    · rw [z]; exact ⟨_, he, fun v q => nomatch q⟩
    · rw [List.mem_singleton.mp z]; exact ⟨o, ho, fun v q => by rw [hd] at q; cases q⟩
  keep := fun i h h' st k => let ⟨⟨old, he⟩, hi, hne⟩ := st; ⟨⟨old, k e (by simp) _ he⟩, hi.at fun o q => k it (by simp) o q, hne⟩
  item := by
    intro X hP hw hK hc i pins s σ H E I hf st hg
    subst hP hw hK
    obtain ⟨⟨old, he⟩, hit, hne, hae⟩ := st
    obtain ⟨xs, x, hq, hx⟩ := hg
    obtain ⟨its, rv, p, hz⟩ := I.tuple hq
    obtain ⟨u, hu, ru⟩ := rv.get hx
    have hel : e < s.heap.objs.size := Heap.lt_size he
    have hil : it < s.heap.objs.size := by obtain ⟨_, q, _⟩ := hit; exact Heap.lt_size q
    have hlt : i < its.toArray.size := by
      rw [List.size_toArray]
      exact (List.getElem?_eq_some_iff.mp hu).1
    have D : Draws X.prog X.w X.A.in1 it [it, a] its.toArray.size _ _ := Draws.tuple (A := X.A.in1) (show X.A.in1.handled = none from I.ok.hd hc) it a hane its.toArray
    refine wpAny_pyNext_enum_itemD D he ⟨hit, p⟩ hlt hne (by simp [hne, Ne.symm hae]) fun y h' tk hy ho hst hT hsz hk => ?_
    have ey : y = u := by
      have q : its.toArray[i]? = some u := by simpa using hu
      exact Option.some.inj (hy.symm.trans q)
    subst ey
    refine ⟨_, rfl, wpAny_letOwnedTupleGo_enum (s := { s with heap := h', toks := tk + 1 }) ho fun h'' he' sb => ?_⟩
    have hT2 : h''.get? s.heap.objs.size = some { cls := .type "tuple", data := .seq #[.int i tk, y] } := (sb.2 _ (Nat.ne_of_gt hel)).trans hT
    have new : ObjOk X.prog X.w (upd H s.heap.objs.size (.tup [.int (i : Nat), x])) h'' s.heap.objs.size (.tup [.int (i : Nat), x]) :=
      ⟨by show 2 ≤ sizeLine; decide, [.int i tk, y], .cons ⟨_, rfl⟩ (.cons ru .nil), ⟨_, hT2, rfl, _, rfl⟩⟩
    have I1 : Inv X pins σ (upd H s.heap.objs.size (.tup [.int (i : Nat), x])) { s with heap := h'', toks := tk + 1 } :=
      I.turnedNew (ch := [e, it]) (fun b ob hb q => (sb.2 b (fun z => hb (by simp [z]))).trans (hk b ob (fun z => hb (by simp [z])) (fun z => hb (by simp [z])) q)) hf (Nat.le_refl _) new
    refine ⟨.ref s.heap.objs.size, _, I1, rfl, ⟨_, x, rfl, I.hok.fresh (Nat.le_refl _), rfl, fun ys hy' => by rw [tup_one I hy' hq]; exact hx⟩, ⟨⟨y, ?_⟩, hst.1.at fun o q => (sb.2 it (Ne.symm hne)).trans q, hne, hae⟩, fun b hb => ?_⟩
    · have e1 : ((i + 1 : Nat) : Int) = (i : Int) + 1 := by omega
      rw [e1]; exact he'
    · have hb' : b < s.heap.objs.size := by
        rcases List.mem_cons.mp hb with z | z
        · rw [z]; exact hel
        · rw [List.mem_singleton.mp z]; exact hil
      rw [upd_ne (Nat.ne_of_lt hb')]
      exact (hf b hb).1
  done := by
    intro X hP hw hK hc i pins s σ H E I hf st hg
    subst hP hw hK
    obtain ⟨⟨old, he⟩, hit, hne, hae⟩ := st
    obtain ⟨xs, hq, hx⟩ := hg
    obtain ⟨its, rv, p, hz⟩ := I.tuple hq
    obtain ⟨f0, f1, f2, f3, f4, f5⟩ := hf it (by simp)
    have hl := rv.length
    have hgt : its.toArray[i]? = none := by simp; omega
    unfold pyNext
    refine wpAny_bind (wpAny_attempt (wpAny_callSpecial?_slot (name := Str.ofString "__next__") ⟨_, he, rfl⟩ F.slot_enumerate_next
      (wpAny_call_entry F.slot_enumerate_next ⟨_, he, rfl⟩ F.entry_enumerate_next ?_ (F.args_enumerate_next_1 _))))
    show wpAny _ _ (field (.ref e) 2 >>= _) _ _ _
    refine wpAny_bind (wpAny_field he rfl (x := .ref it) rfl ?_)
    refine wpAny_bind (wpAny_nextOf_tuple_end (I.ok.hd hc) hit p hgt fun h' z he' hz' => ?_)
    obtain ⟨o, ho, hcl⟩ := hz'
    refine wpAny_bind (wpAny_isInstance (T := "StopIteration") (b := true) ⟨o, ho, hcl⟩ isSubtype_stop ?_)
    exact wpAny_pure ⟨rfl, I.turned (t' := s.toks) (fun b o hb q => he' b o hb q) f0 f1 f3 f4 f5⟩
  self := fun A i s Q E st h => let ⟨⟨_, he⟩, _⟩ := st; wpAny_pyIter_enum he h
def iEnumT (K : PySem.W.Frag) (ta : TA) : TI := fun σ H R => ta σ H fun vs H1 => ∃ a xs, vs = [.ref a] ∧ SqT K H1 a xs ∧ R (IteT K a) H1
theorem pi_enumT {X : Cx} {e : Expr} {ta : TA} {p pos tpos : Pos} {elts : List Expr} {kk : Nat} (hg : Gl X "enumerate") (hm : X.mg "enumerate" = none) (ha : PA X [e] ta) (hs : starEach [e] X.env = [(false, eval e X.env)] := by rfl) :
    PI X (.Tuple elts kk tpos) (.Call (.Name "enumerate" p) [e] [] pos) (iEnumT X.K ta) := by
  refine ⟨fun pins s σ H R I h => ?_⟩
  refine Call_ (ld_blt I hg hm boot_enumerate (PyProof.Rows.callWith_type1 (thn (ha.run pos pins s σ H _ I h) fun us s1 ⟨vs, H1, I1, r1, q1⟩ => ?_) hs rfl))
  obtain ⟨a, xs, ex, hq, q⟩ := q1
  subst ex
  cases r1 with
  | cons r rr =>
    cases rr
    cases r
    obtain ⟨its, rv, p', hz⟩ := I1.tuple hq
    have hal : a < s1.heap.objs.size := p'.lt
    refine call_enumT (begins_tuple a its.toArray) p' fun h' he hit hk => wpAny_pyIter_enum he ?_
    have I2 : Inv X pins σ H1 { s1 with heap := h' } := I1.kept (t' := s1.toks) hk
    refine ⟨s1.heap.objs.size + 1, [s1.heap.objs.size + 1, s1.heap.objs.size], _, _, H1, rfl, I2, turn_enumT a (s1.heap.objs.size + 1) s1.heap.objs.size (Nat.ne_of_lt hal),
      ⟨⟨.none, he⟩, ⟨_, hit, rfl, rfl⟩, Nat.succ_ne_self _, Nat.ne_of_lt (Nat.lt_succ_of_lt hal)⟩, fun b hb => ?_, q⟩
    have hle : s1.heap.objs.size ≤ b := by
      rcases List.mem_cons.mp hb with z | z
      · rw [z]; exact Nat.le_add_right _ _
      · rw [List.mem_singleton.mp z]; exact Nat.le_refl _
    exact I1.fpOk hle (I1.hok.fresh hle)
end OwR
end
section
namespace OwR
open PySem PySem.Spec PyProof.Rows L2
/-! ### t[::-1], t a tuple -/
theorem places_back (n : Nat) : Builtin.Slice.slicePlaces ((n : Int) - 1) (-1) (-1) = n := by
  unfold Builtin.Slice.slicePlaces
  rw [if_neg (by decide)]
  split
  · have e : ((n : Int) - 1 - -1 - 1) / (- -1) + 1 = (n : Int) := by
      rw [show (- -1 : Int) = 1 by decide, Int.ediv_one]
      omega
    rw [e]
    exact Int.toNat_natCast n
  · rename_i h
    have : n = 0 := by omega
    subst this
    rfl
theorem fm_same {α β : Type} {f g : α → Option β} : ∀ l : List α, (∀ x ∈ l, f x = g x) → l.filterMap f = l.filterMap g
  | [], _ => rfl
  | x :: l, h => by
    rw [List.filterMap_cons, List.filterMap_cons, h x List.mem_cons_self, fm_same l fun y hy => h y (List.mem_cons_of_mem _ hy)]
theorem pick_back (xs : Array Value) : ((List.range xs.size).filterMap fun (m : Nat) => xs[(((xs.size : Int) - 1) + (m : Int) * (-1)).toNat]?) = xs.toList.reverse := by
  rw [← PySem.W.krv_all xs, ← List.filterMap_reverse, ← PySem.W.krv_range, List.filterMap_map]
  refine fm_same _ fun m hm => ?_
  have hlt := List.mem_range.mp hm
  have e : (((xs.size : Int) - 1) + (m : Int) * (-1)).toNat = xs.size - 1 - m := by omega
  rw [e]
  rfl
section
variable {prog : Program} {w : World} {A : Around} {E : Value → Shared → Prop} {s : Shared}
theorem applied_back {sl : Addr} {vl vu vs : Value} {n : Nat} {Q : Int × Int × Nat → Shared → Prop} (hs : s.heap.IsSliceOf sl vl vu vs) (pl : IsPart vl none) (pu : IsPart vu none) (ps : IsPart vs (some (-1)))
    (h : Q ((n : Int) - 1, -1, n) s) : wpAny (model prog w) A (Builtin.Slice.sliceApplied (.ref sl) (pure (n : Int))) Q E s := by
  obtain ⟨os, hos, hcs, hds⟩ := id hs
  unfold Builtin.Slice.sliceApplied Builtin.Slice.sliceFields
  refine wpAny_bind (wpAny_bind (wpAny_field hos hds (x := vl) rfl (wpAny_bind (wpAny_field hos hds (x := vu) rfl (wpAny_bind (wpAny_field hos hds (x := vs) rfl (wpAny_pure ?_)))))))
  refine wpAny_bind (HT.slicePart_ ps ?_)
  show wpAny _ _ (if ((-1 : Int) == 0) = true then _ else _) _ _ s
  rw [if_neg (by decide)]
  refine wpAny_bind (HT.slicePart_ pl (wpAny_bind (HT.slicePart_ pu (wpAny_bind (wpAny_pure ?_)))))
  show wpAny _ _ (pure ((n : Int) - 1, (-1 : Int), Builtin.Slice.slicePlaces ((n : Int) - 1) (-1) (-1))) _ _ s
  rw [places_back]
  exact wpAny_pure h
theorem getTup_back {t sl : Addr} {items : Array Value} {vl vu vs : Value} {Q : Value → Shared → Prop} (ht : IsTup s.heap t items) (hs : s.heap.IsSliceOf sl vl vu vs) (pl : IsPart vl none) (pu : IsPart vu none) (ps : IsPart vs (some (-1)))
    (hsz : items.size ≤ sizeLine) (h : Q (.ref s.heap.objs.size) { s with heap := s.heap.push { cls := .type "tuple", data := .seq items.toList.reverse.toArray } }) : wpAny (model prog w) A (getItem (.ref t) (.ref sl)) Q E s := by
  obtain ⟨os, hos, hcs, hds⟩ := id hs
  have hTs : s.TypeIs (.ref sl) "slice" := ⟨os, hos, hcs⟩
  have hok : sizeOk (.seq items.toList.reverse.toArray) := by
    show items.toList.reverse.toArray.size ≤ sizeLine
    rw [List.size_toArray, List.length_reverse, Array.length_toList]
    exact hsz
  unfold getItem
  try with_reducible refine wpAny_holding ?_
  first | refine wpAny_bind (wpAny_pure ?_) | skip
  refine wpAny_bind (wpAny_sequenceKey ht.typeIs (by decide) ?_)
  refine wpAny_bind (wpAny_callSpecial?_slot (name := Str.ofString "__getitem__") ht.typeIs PyProof.Rows.slot_tuple_getitem
    (wpAny_call_entry PyProof.Rows.slot_tuple_getitem ht.typeIs entry_tuple_getitem ?_ (args_tuple_getitem _ _)))
  show wpAny _ _ (Builtin.Tuple.tupleItemsOf (.ref t) >>= _) _ _ s
  refine wpAny_bind (tupleItemsOf_ ht (wpAny_bind (wpAny_typeOf hTs ?_)))
  rw [if_pos (by decide)]
  refine wpAny_bind (applied_back hs pl pu ps ?_)
  have hno : ¬ ((((items.size : Int) - 1) == 0 && (-1 : Int) == 1 && items.size == items.size) = true) := by
    intro q
    rw [Bool.and_eq_true, Bool.and_eq_true] at q
    exact absurd q.1.2 (by decide)
  show wpAny _ _ (if ((((items.size : Int) - 1) == 0 && (-1 : Int) == 1 && items.size == items.size) = true) then _ else _) _ _ s
  rw [if_neg hno]
  have e := pick_back items
  first
    | (rw [e]; exact wpAny_bind (m := Builtin.Tuple.tupleExact _) (wpAny_newObj_type (wpAny_pure ⟨_, rfl, wpAny_pure h⟩) hok))
    | (rw [e]; exact wpAny_bind (m := Builtin.Tuple.tupleExact _) (wpAny_newObj_type (wpAny_bind (wpAny_pure (wpAny_pure ⟨_, rfl, wpAny_pure h⟩))) hok))
    | (rw [e]; exact wpAny_bind (wpAny_bind (m := Builtin.Tuple.tupleExact _) (wpAny_newObj_type (wpAny_pure (wpAny_pure ⟨_, rfl, wpAny_pure h⟩)) hok)))
    | (rw [e]; exact wpAny_bind (wpAny_bind (m := Builtin.Tuple.tupleExact _) (wpAny_newObj_type (wpAny_pure ⟨_, rfl, wpAny_pure h⟩) hok)))
end
def tRevT (K : PySem.W.Frag) (te : TE) : TE := fun σ H Q => te σ H fun x H1 => ∃ a xs, x = .ref a ∧ SqT K H1 a xs ∧ ∀ p, H1 p = none → Q (.ref p) (upd H1 p (.tup xs.reverse))
theorem pe_revT {X : Cx} {e : Expr} {te : TE} {k : Nat} {p1 p2 p3 pos : Pos} (he : PE X e te) : PE X (.Subscript e (.Slice none none (some (.UnaryOp .USub (.Constant (.int 1) k p1) p2)) p3) pos) (tRevT X.K te) := by
  refine ⟨fun pins s σ H Q I h => ?_⟩
  refine Subscript_ (thn (he.run pins s σ H _ I h) fun v s1 ⟨x, H1, I1, r1, a, xs, ex, hx, q⟩ => ?_)
  subst ex
  cases r1
  have hst : PO X (some (.UnaryOp .USub (.Constant (.int 1) k p1) p2)) (tPart (tUn (rU fun i => .int (-i)) (tC (.int 1)))) := po_some (pe_un un_neg pe_int)
  refine wpAny_Slice (thn (po_none.run pins s1 σ H1 (fun o H2 => o = none ∧ H2 = H1) I1 ⟨rfl, rfl⟩) fun vl s2 ⟨l, H2, I2, pl, el, e2⟩ => ?_)
  subst el e2
  refine thn (po_none.run pins s2 σ H2 (fun o H3 => o = none ∧ H3 = H2) I2 ⟨rfl, rfl⟩) fun vu s3 ⟨u, H3, I3, pu, eu, e3⟩ => ?_
  subst eu e3
  refine thn (hst.run pins s3 σ H3 (fun o H4 => o = some (-1) ∧ H4 = H3) I3 ⟨1, rfl, -1, rfl, rfl, rfl⟩) fun vs s4 ⟨o, H4, I4, ps, eo, e4⟩ => ?_
  subst eo e4
  have I5 : Inv X pins σ H4 { s4 with heap := s4.heap.push { cls := .type "slice", data := .fields #[vl, vu, vs] } } := I4.kept (t' := s4.toks) fun b ob q => Heap.get?_push_of_some _ q
  obtain ⟨its, r, ht, hz⟩ := I5.tuple hx
  have hlen := r.length
  show wpAny (model X.prog X.w) X.A (subscriptTail e (.Slice none none (some (.UnaryOp .USub (.Constant (.int 1) k p1) p2)) p3) (.ref a) (.ref s4.heap.objs.size)) (EP X pins σ Q) X.xe { s4 with heap := s4.heap.push { cls := .type "slice", data := .fields #[vl, vu, vs] } }
  refine tail_any (ops := [.ref a, .ref s4.heap.objs.size]) ht.typeIs (PyProof.Rows.slot_tuple_getitem.lookup) ?_ (by with_unfolding_all rfl)
  refine getTup_back ht (Heap.IsSliceOf.new _ vl vu vs) pl pu ps (by rw [List.size_toArray]; omega) ?_
  refine ⟨.ref _, _, I5.laid (t' := s4.toks) (o := .tup xs.reverse) (fun b ob q => Heap.get?_push_of_some _ q) (Nat.le_refl _) ?_, rfl, q _ (I5.hok.fresh (Nat.le_refl _))⟩
  exact ⟨by rw [List.length_reverse]; exact hz, its.toArray.toList.reverse, r.reverse, ⟨_, Heap.get?_push_size _ rfl, rfl, 0, rfl⟩⟩
end OwR
end
section
namespace OwR
open PySem PySem.Spec PyProof.Rows L2
/-! ### def f(a, .., **d), called without keywords: an empty dict beside -/
section
variable {CX : CXT} {P : Program} {w : World} {K : PySem.W.Frag} {mg : Str → Option Value} {base : Heap} {k : Nat} {f : Addr} {name qual : Str} {params : Arguments} {body : List Stmt} {scope : Scope} {dV kV doc pm cdv ct oc : Value} {an od : Option Addr}
  {osl : Array (Option Value)} {N ps : List Str} {sp : Sp}
theorem fn_kw {pd : Str} (lk : K.lookup f = some ⟨oc, od, .func (PySem.W.fnOf name qual params body scope dV kV doc pm an cdv ct), osl⟩) (hcd : PySem.W.codeIn K cdv qual = true) (S : FnScope N (ps ++ [pd]) scope) (hCX : StX.CXUp CX)
    (hb : ∀ us : List Value, us.length = ps.length → bindArgs (PySem.W.fnOf name qual params body scope dV kV doc pm an cdv ct) ⟨us, []⟩ = ((alloc ({ cls := .type "dict", data := .dict #[] } : Obj) : Sem Addr) >>= fun d => pure (ps.zip us ++ [(pd, Value.ref d)])))
    (hbody : ∀ (A : Around) (outer : List Env) (s : Shared) (H : Hp) (vs : List V) (Q : VK) (E : XK), Room k (A.deeper (envOfC qual scope s.heap.objs.size f cdv)) → sp vs H Q E →
      ∃ t, PSs (cxOf CX P w K mg base N qual scope f cdv A outer s H E) body t ∧ t { nx := fun _ H' => Q .non H', rt := Q } (start N vs) H) :
    FnR P w K mg base CX (k + 1) f (fun vs H Q E => vs.length = ps.length ∧ ∀ d, H d = Option.none → sp (vs ++ [V.ref d]) (upd H d (.dK [])) Q E) := by
  intro A outer s H us vs Q E hr e0 r hsp
  obtain ⟨hl, hq⟩ := hsp
  have hn : H s.heap.objs.size = Option.none := e0.hok.fresh (Nat.le_refl _)
  have hl1 : us.length = ps.length := by rw [← r.length]; exact hl
  refine StX.run_bnd lk hcd S hr e0 (G := fun xs H2 => ∃ d, H d = Option.none ∧ xs = vs ++ [V.ref d] ∧ H2 = upd H d (.dK [])) (fun A' Ex Q' h => ?_) fun s2 H2 xs ⟨d, hd, ex, eH⟩ hr' => ?_
  · rw [hb us hl1]
    refine wpAny_bind (wpAny_alloc (wpAny_pure ?_))
    have e1 := StX.env0_laid (u := .dK []) (o := ({ cls := .type "dict", data := .dict #[] } : Obj)) e0 (dk_empty _ (StX.env0_big e0))
    have un := StX.un_laid (fs := frs outer) (s := s) (o := ({ cls := .type "dict", data := .dict #[] } : Obj)) (u := .dK []) hn
    have z := h _ _ (vs ++ [V.ref s.heap.objs.size]) (us ++ [Value.ref s.heap.objs.size]) e1 un rfl (fun e s' => hCX outer s H _ _ E e s' un (fun b o q => Heap.get?_push_of_some _ q) rfl) (r.append (.cons rfl .nil))
      (by rw [List.length_append, List.length_append, hl] <;> rfl) ⟨_, hn, rfl, rfl⟩
    rw [List.zip_append hl1.symm] at z
    exact z
  · subst ex eH
    exact hbody A outer s2 _ _ Q E hr' (hq d hd)
/-! ### a def called where no guard stands (repr of lists wants that) -/
def FnG (P : Program) (w : World) (K : PySem.W.Frag) (mg : Str → Option Value) (base : Heap) (CX : CXT) (k : Nat) (f : Addr) (fd : FuncData) (ps : List Str) (sp : Sp) : Prop :=
  ∀ (A : Around) (outer : List Env) (s : Shared) (H : Hp) (args : Args) (us : List Value) (vs : List V) (Q : VK) (E : XK), A.guards = some [] → Room k A → Env0 P w K mg base A outer s H → BindsTo s fd args (ps.zip us) → Vals vs us → sp vs H Q E →
    codeAny (model P w) A (.call (.ref f) args) (CR CX outer P w H s Q E) s
theorem fn_ofG (lk : K.lookup f = some ⟨oc, od, .func (PySem.W.fnOf name qual params body scope dV kV doc pm an cdv ct), osl⟩) (hcd : PySem.W.codeIn K cdv qual = true) (S : FnScope N ps scope)
    (len : ∀ vs H Q E, sp vs H Q E → vs.length = ps.length)
    (hbody : ∀ (A : Around) (outer : List Env) (s : Shared) (H : Hp) (vs : List V) (Q : VK) (E : XK), A.guards = some [] → Room k (A.deeper (envOfC qual scope s.heap.objs.size f cdv)) → sp vs H Q E →
      ∃ t, PSs (cxOf CX P w K mg base N qual scope f cdv A outer s H E) body t ∧ t { nx := fun _ H' => Q .non H', rt := Q } (start N vs) H) :
    FnG P w K mg base CX (k + 1) f (PySem.W.fnOf name qual params body scope dV kV doc pm an cdv ct) ps sp := by
  intro A outer s H args us vs Q E hgd hr e0 hb r hsp
  have hl := len _ _ _ _ hsp
  have KS : K.In s.heap := e0.mod.kin.keeps fun b o e => (e0.bs b o e).1
  have lims : s.heap.NoLimit := e0.mod.nolimit.keeps fun b o e => (e0.bs b o e).1
  have kinds : ∀ y ∈ ps.zip us, scope.names.lookup y.1 = some .local ∨ (scope.names.lookup y.1 = some .cell ∧ ((cellsFrom (s.heap.objs.size + 1) scope.names []).lookup y.1).isSome = true) := fun y hy =>
    (S.par y.1 (List.of_mem_zip hy).1).imp id fun q => ⟨q, PySem.W.cellsFrom_some _ _ _ (.inl q)⟩
  refine codeAny_call_function hr.depth (KS _ _ lk) rfl S.co S.gen rfl (PySem.W.codeRec_of KS hcd) (hb _ _ _ _ ?_)
  refine wpAny_newFunctionEnv_cells S.kind kinds fun env he s1 x => ?_
  subst he
  refine ⟨lims.keeps x.toInCall.keep, codeAny_func ?_⟩
  obtain ⟨t, ht, hq⟩ := hbody A outer s H vs Q E hgd (hr.deeper _) hsp
  have I : Inv (cxOf CX P w K mg base N qual scope f cdv A outer s H E) [] (start N vs) H s1 := inv_start S hr.hd e0 hl r x
  refine wpAny_mono (ht.run [] s1 (start N vs) H _ I hq) (fun fl s' hs => ?_) fun _ _ z => z
  have done : ∀ {σ' : L2.St} {H' : Hp} {v : V} {u : Value}, Inv (cxOf CX P w K mg base N qual scope f cdv A outer s H E) [] σ' H' s' → RelV v u → Q v H' → CE outer P w H s Q u s' :=
    fun {σ' H' v u} J rv q => ⟨v, H', J.os, J.bare, J.base, J.hok, rv, q⟩
  cases fl with
  | ret u =>
    obtain ⟨v, σ', H', J, rv, q⟩ := hs
    exact done J rv q
  | next =>
    obtain ⟨σ', H', J, q⟩ := hs
    exact done (v := V.non) (u := Value.none) J rfl q
  | brk => exact (hs.elim fun _ z => z.elim fun _ z => z.2.elim)
  | cont => exact (hs.elim fun _ z => z.elim fun _ z => z.2.elim)
end
/-! ### repr of data -/
def rReprD (K : PySem.W.Frag) : List V → Hp → VK → Prop := fun vs H Q => ∃ a d, vs = [V.ref a] ∧ Dp K H (.ref a) d ∧ d.showable = true ∧ d.hasDict = false ∧ d.depth ≤ 64 ∧ d.shown.length ≤ sizeLine ∧ Q (.str d.shown) H
theorem cr_reprD {X : Cx} (hg : X.A.guards = some []) (hu : X.A.units + 70 < cLine) : CallR X (.builtin "repr") (rReprD X.K) := by
  intro pins s σ H vs us Q I r h
  obtain ⟨a, d, rfl, hd, hs, hnd, hdp, hsz, q⟩ := h
  rw [Vals.ref1 r]
  obtain ⟨as, R⟩ := Dp.reads I d _ (.ref a) hd rfl
  refine repr_of_reads' R hs (fun z => by rw [hnd] at z; cases z) hg (by omega) (fun _ _ e => e) (fun h' u tk k => ?_) hsz
  exact ⟨.str d.shown, H, I.kept (t' := tk) k, ⟨u, rfl⟩, q⟩
/-! ### an object called with keywords alone -/
theorem callOK_of {M : Model} {A : Around} {E : Value → Shared → Prop} {s : Shared} {a : Addr} {pos : Pos} {Q : Value → Shared → Prop} {args : List (Bool × Sem Value)} {kws : List (Option Str × Sem Value)} (hpl : (args.any (·.1) || kws.any (·.1.isNone)) = false)
    (h : wpAny M A (evalArgs (.ref a) true args kws) (fun z s₁ => (∃ C ox od, PySem.W.InstAt s₁.heap a ox C od ∧ ox.data = .plain) ∧ wpAny M A (call (.ref a) ([] ++ z.pos) z.kw) Q E s₁) E s) : wpAny M A (callWith pos (.ref a) [] args kws) Q E s := by
  unfold callWith
  refine wpAny_bind (wpAny_holding (wpAny_mono h (fun z s₂ h₁ => wpAny_bind (wpAny_standAt ?_)) fun _ _ y => y))
  obtain ⟨⟨C, ox, od, J, hd⟩, h₂⟩ := h₁
  have L := PySem.W.kco_keeper (M := M) J hd
  simp only [hpl]
  refine wpAny_bind (L.here ?_)
  have rest : ∀ {t : Sem Value}, wpAny M A t Q E s₂ → wpAny M A (t >>= fun r => holding [r] point >>= fun _ => pure r) Q E s₂ :=
    fun ht => wpAny_bind (wpAny_mono ht (fun _ _ hr => wpAny_bind (wpAny_holding (wpAny_point (wpAny_pure hr)))) fun _ _ y => y)
  exact rest (wpAny_operateT h₂)
section
variable {X : Cx} {CX : CXT} {k : Nat} {C g : Addr} {fd : FuncData} {ps ks : List Str} {sp : Sp} {E : XK} {fe : Expr} {kws : List Keyword} {tf : TE} {tk : TA} {pos : Pos} {gg : List Value → List Value → List Value} {gV : List V → List V → List V}
def tCallOK (X : Cx) (C : Addr) (sp : Sp) (gV : List V → List V → List V) (E : XK) (tf : TE) (tk : TA) : TE := fun σ H Q => tf σ H fun y H1 => ∃ a, y = V.ref a ∧ tk σ H1 fun zs H2 => StX.InsC X H2 a C ∧ sp (gV [V.ref a] zs) H2 Q E
theorem pe_callOK (hf : PE X fe tf) (c : StX.CallO X.K C g) (F : FnOk X.prog X.w X.K X.mg X.base CX k g fd ps sp) (hr : Room k X.A) (hb : KBinds X.K fd ps ks gg gV) (hx : Passes CX X E) (hkw : PK X kws tk)
    (ht : eval (.Call fe [] kws pos) X.env = (do callWith pos (← eval fe X.env) [] (backTo pos (starEach [] X.env)) (backToKw pos (keywordEach kws X.env))) := by rfl)
    (hall : (backToKw pos (keywordEach kws X.env)).all (·.1.isSome) = true := by rfl) (hks : (backToKw pos (keywordEach kws X.env)).filterMap (·.1) = ks := by rfl)
    (hpl : ((backTo pos (starEach [] X.env)).any (·.1) || (backToKw pos (keywordEach kws X.env)).any (·.1.isNone)) = false := by rfl) : PE X (.Call fe [] kws pos) (tCallOK X C sp gV E tf tk) := by
  refine ⟨fun pins s σ H Q I h => ?_⟩
  rw [ht]
  refine wpAny_bind (thn (hf.run pins s σ H _ I h) fun u s1 ⟨y, H1, I1, ry, a, ey, q⟩ => ?_)
  subst ey
  obtain rfl : u = Value.ref a := ry
  refine callOK_of hpl (evalArgs_kw2_nil hall (thn (hkw.run pos pins s1 σ H1 _ I1 q) fun ws s2 ⟨zs, H2, I2, rz, hi, q2⟩ => ?_))
  obtain ⟨ox, od, J, hd⟩ := StX.insC_at I2 hi
  refine ⟨⟨C, ox, od, J, hd⟩, ?_⟩
  rw [hks]
  have r1 : Vals [V.ref a] [Value.ref a] := .cons rfl .nil
  have r2 := hb.rel r1 rz
  have hl : (gg [Value.ref a] ws).length = ps.length := by rw [← r2.length]; exact F.len _ _ _ _ q2
  refine wpAny_call (PySem.W.kco_code I2.kIn J hd c.at_ c.fn c.fi (codeAny_mono (F.run X.A X.stack s2 H2 ⟨[.ref a], ks.zip ws⟩ (gg [.ref a] ws) (gV [.ref a] zs) Q E hr I2.env0 (hb.to s2 [.ref a] ws I2.kIn hl) r2 q2) fun r s' hq => ?_))
  cases r with
  | error e => exact hx pins σ H2 s2 e s' I2 hq
  | ok fl =>
    cases fl with
    | ret u => exact I2.after hq
    | next => exact False.elim hq
    | brk => exact False.elim hq
    | cont => exact False.elim hq
end
end OwR
end
section
/-! Own: a law by a promise that wants no guard about it, where lambdas are made: with the tables of the code that makes them. -/
namespace OwR
open PySem PySem.Spec PyProof.Rows L2
abbrev tabO : Obj := { cls := .none, data := .fields #[] }
/-- what is followed: the script where the written part does not hold it, the tables -/
def scrT (K : PySem.W.Frag) (a : Addr) (ob : Obj) (xs : List V) (ts : List Addr) : Hp := fun b => if b = a then (if K.lookup a = none then some (.frz ob (.lst xs)) else none) else if b ∈ ts then some (.tbl #[]) else none
theorem scrT_cases (K : PySem.W.Frag) (a : Addr) (ob : Obj) (xs : List V) (ts : List Addr) (b : Addr) : scrT K a ob xs ts b = none ∨ (b = a ∧ K.lookup a = none ∧ scrT K a ob xs ts b = some (.frz ob (.lst xs))) ∨ (b ≠ a ∧ b ∈ ts ∧ scrT K a ob xs ts b = some (.tbl #[])) := by
  unfold scrT
  by_cases c : b = a
  · rw [if_pos c]
    by_cases d : K.lookup a = none
    · rw [if_pos d]
      exact .inr (.inl ⟨c, d, rfl⟩)
    · rw [if_neg d]
      exact .inl rfl
  · rw [if_neg c]
    by_cases d : b ∈ ts
    · rw [if_pos d]
      exact .inr (.inr ⟨c, d, rfl⟩)
    · rw [if_neg d]
      exact .inl rfl
theorem law_callTG {P : Program} {w : World} {K : PySem.W.Frag} {mg mb : Str → Option Value} {k : Nat} {fn a : Addr} {cs : List (Addr × Addr)} {fd : FuncData} {x : Str} {sp : Sp} {t : Shared} {us : List Value} {zs : List Int} (hK : K.In t.heap) (hG : t.heap.Ns mainGlobals mg)
    (hB : t.heap.Ns builtinsNs mb) (hBB : ∀ y : Str, y ≠ "__name__" → mb y = bootBuiltins y) (hL : t.heap.NoLimit) (hN : t.gens = #[]) (hO : t.heap.get? a = some ({ cls := .type "list", data := .seq us.toArray } : Obj)) (hI : IntsAre us zs)
    (hT : ∀ e ∈ cs, t.heap.get? e.2 = some tabO) (hX : ∀ e ∈ cs, K.lookup e.2 = none) (hC : ∀ e ∈ cs, PySem.W.CodeHd t.heap e.1 e.2)
    (hM : ∃ (m : Addr) (mo : Obj), mg "__builtins__" = some (.ref m) ∧ m ≠ builtinsNs ∧ t.heap.get? m = some mo ∧ mo.cls = .type "module" ∧ mo.dict = some builtinsNs ∧ mo.data = .plain)
    (hz : zs.length ≤ sizeLine) (hr : Room k callerA) (F : ∀ base : Heap, K.In base → base.Ns mainGlobals mg → (∀ e ∈ cs, LamX.TabB base mg e.1 e.2) → FnG P w K mg base CX0 k fn fd [x] sp) (hb : ∀ (s : Shared) (u : Value), BindsTo s fd ⟨[u], []⟩ [(x, u)])
    (hS : ∀ G : Hp, (∀ e ∈ cs, G e.2 = some (.tbl #[])) → SqL K G a (zs.map V.int) → sp [.ref a] G (fun v _ => v = .bl true) fun _ _ _ => False) :
    codeAny (model P w) callerA (.call (.ref fn) ⟨[.ref a], []⟩) (fun r s' => r = .ok (.ret (.bool true)) ∧ OldK t.heap s'.heap ∧ s'.os = t.os ∧ AllBare s'.gens) t := by
  have rel := vals_ints hI
  have le := hI.length
  obtain ⟨ts, ets⟩ : ∃ ts, ts = cs.map (·.2) := ⟨_, rfl⟩
  have atT : ∀ b, b ∈ ts → t.heap.get? b = some tabO ∧ K.lookup b = none ∧ ∃ e ∈ cs, e.2 = b := fun b hb => by
    rw [ets] at hb
    obtain ⟨e, he, rfl⟩ := List.mem_map.mp hb
    exact ⟨hT e he, hX e he, e, he, rfl⟩
  have inT : ∀ e ∈ cs, e.2 ∈ ts := fun e he => by
    rw [ets]
    exact List.mem_map.mpr ⟨e, he, rfl⟩
  have aT : ∀ e ∈ cs, e.2 ≠ a := fun e he q => by
    have h := hT e he
    rw [q, hO] at h
    cases h
  obtain ⟨G, eG⟩ : ∃ G, G = scrT K a ({ cls := .type "list", data := .seq us.toArray } : Obj) (zs.map V.int) ts := ⟨_, rfl⟩
  have three : ∀ b, G b = none ∨ (b = a ∧ K.lookup a = none ∧ G b = some (.frz { cls := .type "list", data := .seq us.toArray } (.lst (zs.map V.int)))) ∨ (b ≠ a ∧ b ∈ ts ∧ G b = some (.tbl #[])) := fun b => by
    rw [eG]
    exact scrT_cases K a _ _ ts b
  have GT : ∀ e ∈ cs, G e.2 = some (.tbl #[]) := fun e he => by
    rw [eG]
    unfold scrT
    rw [if_neg (aT e he), if_pos (inT e he)]
  have sq : SqL K G a (zs.map V.int) := by
    cases l : K.lookup a with
    | some ob =>
      have e := (hK a ob l).symm.trans hO
      cases e
      exact .inr ⟨_, us.toArray, _, l, rfl, rfl, rfl, by rw [List.size_toArray, le]; exact hz, by simpa using rel⟩
    | none =>
      refine .inl (.inr ⟨({ cls := .type "list", data := .seq us.toArray } : Obj), ?_⟩)
      rw [eG]
      unfold scrT
      rw [if_pos rfl, if_pos l]
  have gone : ∀ {b : Addr} {ob : Obj}, t.heap.get? b = some ob → (∀ vs n, ob.data ≠ .seq vs n) → ob.data ≠ .fields #[] → G b = none := fun {b ob} e nd nf => by
    rcases three b with c | ⟨rfl, _, _⟩ | ⟨_, hb, _⟩
    · exact c
    · rw [hO] at e
      cases e
      exact absurd rfl (nd us.toArray 0)
    · rw [(atT b hb).1] at e
      cases e
      exact absurd rfl nf
  have nsp : ∀ {b : Addr} {m : Str → Option Value}, t.heap.Ns b m → (hidT t.heap G).Ns b m := fun {b m} h => by
    obtain ⟨ob, es, ep, e1, e2, e3⟩ := h
    exact ⟨ob, es, ep, hidT_get e1 (gone e1 (fun vs n q => by rw [e2] at q; cases q) fun q => by rw [e2] at q; cases q), e2, e3⟩
  have kin : K.In (hidT t.heap G) := fun b ob l => hidT_get (hK b ob l) (by
    rcases three b with c | ⟨rfl, c, _⟩ | ⟨_, hb, _⟩
    · exact c
    · rw [c] at l
      cases l
    · rw [(atT b hb).2.1] at l
      cases l)
  have lim : (hidT t.heap G).NoLimit := by
    obtain ⟨mc, h1, h2⟩ := hL
    exact ⟨mc, nsp h1, h2⟩
  have ok : HOk P w G t.heap := fun b u e => by
    rcases three b with c | ⟨rfl, _, c⟩ | ⟨_, hb, c⟩
    · rw [c] at e
      cases e
    · rw [c] at e
      cases e
      exact ⟨hO, by rw [List.length_map]; exact hz, us, _, rel, hO⟩
    · rw [c] at e
      cases e
      exact (atT b hb).1
  have env : Env0 P w K mg (hidT t.heap G) callerA [] t G := { frames := rfl, mod := ⟨kin, nsp hG, ⟨mb, nsp hB, hBB⟩, lim⟩, bs := fun _ _ e => of_hidT e, bsz := Nat.le_of_eq (hidT_size _ _), funs := True.intro, frf := fun _ h => absurd h List.not_mem_nil, hok := ok, bare := .of_eq hN }
  have TB : ∀ e ∈ cs, LamX.TabB (hidT t.heap G) mg e.1 e.2 := fun e he => by
    have hP := hT e he
    constructor
    · obtain ⟨co, cv, fi, tf, fl, tg, nf, tx, tt, q0, q1, q2, q3, q4, q5, q6, q7, q8, q9⟩ := hC e he
      have gc : G e.1 = none := gone q0 (fun vs n q => by rw [q2] at q; cases q) fun q => by
        rw [q2] at q
        cases q
        simp at q3
      exact ⟨co, cv, fi, tf, fl, tg, nf, tx, tt, hidT_get q0 gc, q1, q2, q3, q4, q5, q6, q7, q8, q9⟩
    · obtain ⟨m, mo, b1, b2, b3, b4, b5, b6⟩ := hM
      have n1 : m ≠ mainGlobals := fun q => by
        obtain ⟨o, es, ep, e1, e2, _⟩ := hG
        rw [q, e1] at b3
        cases b3
        rw [e2] at b6
        cases b6
      have n2 : m ≠ e.2 := fun q => by
        rw [q, hP] at b3
        cases b3
        cases b6
      have gm : G m = none := gone b3 (fun vs n q => by rw [b6] at q; cases q) fun q => by
        rw [b6] at q
        cases q
      exact ⟨m, mo, b1, b2, n1, n2, hidT_get b3 gm, b4, b5, b6⟩
    · intro q
      obtain ⟨o, es, ep, e1, e2, _⟩ := hG
      rw [q, hP] at e1
      cases e1
      cases e2
  have run := F (hidT t.heap G) kin (nsp hG) TB callerA [] t G ⟨[.ref a], []⟩ [.ref a] [.ref a] _ _ rfl hr env (hb t (.ref a)) (.cons rfl .nil) (hS G GT sq)
  refine codeAny_mono run fun r s' h => ?_
  match r, h with
  | .error _, h => exact h.elim
  | .ok (.ret u), h =>
    obtain ⟨v, G', os, br, un, ok', rv, qv⟩ := h
    have ev : v = .bl true := qv
    subst ev
    obtain rfl : u = Value.bool true := rv
    have kept : ∀ b ob, b ∉ ts → t.heap.get? b = some ob → s'.heap.get? b = some ob := fun b ob nb e => by
      rcases three b with c | ⟨rfl, _, c⟩ | ⟨_, hb, _⟩
      · exact un.keep b ob e c List.not_mem_nil List.not_mem_nil
      · have e2 := (ok' b _ (un.frzs b _ _ c)).1
        rw [hO] at e
        cases e
        exact e2
      · exact absurd hb nb
    have more : ∀ e ∈ cs, ∃ vs : Array Value, s'.heap.get? e.2 = some ({ cls := .none, data := .fields vs } : Obj) := fun e he => by
      obtain ⟨vs, q⟩ := un.tbls e.2 #[] (GT e he)
      exact ⟨_, ok' e.2 _ q⟩
    refine ⟨rfl, ⟨fun b ob e => ?_, fun b ob e => ?_⟩, os, br⟩
    · by_cases hb : b ∈ ts
      · obtain ⟨et, _, q, hq, rfl⟩ := atT b hb
        obtain ⟨vs, em⟩ := more q hq
        rw [et] at e
        cases e
        exact .inr (.inl ⟨((hC q hq).tab et).isCodeTable, rfl, #[], vs, rfl, by rw [Array.empty_append]; exact em⟩)
      · exact .inl (kept b ob hb e)
    · by_cases hb : b ∈ ts
      · obtain ⟨_, _, q, hq, rfl⟩ := atT b hb
        obtain ⟨vs, em⟩ := more q hq
        exact ⟨_, em⟩
      · exact ⟨ob, kept b ob hb e⟩
/-- .. as the end of a law over a head by facts -/
theorem walk_ofTG {l : PySem.W.OpenLaw} {n k : Nat} {q : Program} {loose : List Str} {XP : (Str → Option Value) → Heap → Prop} {YP : World → Heap → Prop} {d : DefRec} {x : Str} (most : l.most = some n) (small : n ≤ sizeLine) (nodf : d.params.defaults = []) (room : Room k callerA)
    (F : ∀ (w : World) (mg : Str → Option Value) (fn : Addr) (h : Heap), YP w h → h.Ns mainGlobals mg → mg d.name = some (.ref fn) → ∃ (K : PySem.W.Frag) (fd : FuncData) (cs : List (Addr × Addr)) (sp : Sp), K.In h ∧ (∀ e ∈ cs, h.get? e.2 = some tabO) ∧ (∀ e ∈ cs, K.lookup e.2 = none) ∧ (∀ e ∈ cs, PySem.W.CodeHd h e.1 e.2) ∧
      (∀ (s : Shared) (u : Value), BindsTo s fd ⟨[u], []⟩ [(x, u)]) ∧ (∀ (G : Hp) (a : Addr) (zs : List Int), zs.length ≤ n → (∀ e ∈ cs, G e.2 = some (.tbl #[])) → SqL K G a (zs.map V.int) → sp [.ref a] G (fun v _ => v = .bl true) fun _ _ _ => False) ∧
      ∀ base : Heap, K.In base → base.Ns mainGlobals mg → (∀ e ∈ cs, LamX.TabB base mg e.1 e.2) → FnG l.prog w K mg base CX0 k fn fd [x] sp) :
    PySem.W.WalkO q loose XP YP l.row.toRowW d [] (fun f vs => PySem.call f vs) := by
  refine Att.attach_callB most nodf fun w s0 t mg mb fn o pm cd doc a us zs G Y _ _ _ hmg hO hI hz _ hN => ?_
  obtain ⟨K, fd, cs, sp, hK, hT, hX, hC, hb, hS, hF⟩ := F w mg fn _ Y G.T.g hmg
  exact law_callTG hK G.T.g G.T.b G.T.builtins G.T.nolimit hN hO hI hT hX hC G.T.bmain (Nat.le_trans hz small) room hF hb fun G' g sq => hS G' a zs hz g sq
end OwR
end
section
/-! What the end of the top says of named classes, of the records in them and of their defs. Own. -/
namespace OwH
open PySem PySem.Spec PyProof.Rows L2
/-- the def within a record (a class method, a static one, a property) -/
def inRec (K : PySem.W.Frag) (p : Addr) (kind : String) : Addr := match PySem.W.recIn K p kind with
  | some (.ref g :: _) => g
  | _ => 0
def recOk (K : PySem.W.Frag) (p : Addr) (kind : String) : Bool := match PySem.W.recIn K p kind with
  | some (.ref _ :: _) => true
  | _ => false
theorem recOk_ok {K : PySem.W.Frag} {p : Addr} {kind : String} (h : recOk K p kind = true) : ∃ rest, PySem.W.recIn K p kind = some (.ref (inRec K p kind) :: rest) := by
  unfold recOk at h
  unfold inRec
  cases e : PySem.W.recIn K p kind with
  | none =>
    rw [e] at h
    cases h
  | some l =>
    rw [e] at h
    match l, h with
    | .ref g :: r, _ => exact ⟨r, rfl⟩
def getB (x : Option PySem.W.CFound) (id : String) (p C : Addr) : Bool := match x with
  | some (.get (.builtin i) (.ref q) .none (.ref D)) => decide (i = id) && (decide (q = p) && decide (D = C))
  | _ => false
theorem getB_ok {x : Option PySem.W.CFound} {id : String} {p C : Addr} (h : getB x id p C = true) : x = some (.get (.builtin id) (.ref p) .none (.ref C)) := by
  unfold getB at h
  split at h
  · obtain ⟨h1, h2⟩ := Bool.and_eq_true_iff.mp h
    obtain ⟨h3, h4⟩ := Bool.and_eq_true_iff.mp h2
    rw [of_decide_eq_true h1, of_decide_eq_true h3, of_decide_eq_true h4]
  · cases h
def valB (x : Option PySem.W.CFound) (g : Addr) : Bool := match x with
  | some (.val (.ref q)) => decide (q = g)
  | _ => false
theorem valB_ok {x : Option PySem.W.CFound} {g : Addr} (h : valB x g = true) : x = some (.val (.ref g)) := by
  unfold valB at h
  split at h
  · rw [of_decide_eq_true h]
  · cases h
abbrev ga := He.ga
/-- what the class named x holds under m -/
def mo (K : PySem.W.Frag) (x m : Str) : Addr := He.ma K (ga K x) m
def fRead (x : Str) (K : PySem.W.Frag) : Bool := PySem.W.readsIn K (ga K x) (.type "type") && He.eqO (PySem.W.specialIn K (.ref (ga K x)) "__getattribute__") (some (some (.builtin "type.__getattribute__")))
def fCMet (x m : Str) (K : PySem.W.Frag) : Bool := getB (PySem.W.findCls K (.ref (ga K x)) (.type "type") m) "classmethod.__get__" (mo K x m) (ga K x) && (recOk K (mo K x m) "classmethod" && PySem.W.fnIn K (inRec K (mo K x m) "classmethod"))
def fCSta (x m : Str) (K : PySem.W.Frag) : Bool := getB (PySem.W.findCls K (.ref (ga K x)) (.type "type") m) "staticmethod.__get__" (mo K x m) (ga K x) && (recOk K (mo K x m) "staticmethod" && PySem.W.keepIn K (.ref (inRec K (mo K x m) "staticmethod")))
def fCFun (x m : Str) (K : PySem.W.Frag) : Bool := valB (PySem.W.findCls K (.ref (ga K x)) (.type "type") m) (mo K x m) && PySem.W.keepIn K (.ref (mo K x m))
def fSpc (x m : Str) (K : PySem.W.Frag) : Bool := He.eqO (PySem.W.findIn K (.ref (ga K x)) m) (some (some (.ref (mo K x m)))) && (PySem.W.isFn K (.ref (mo K x m)) && PySem.W.fnIn K (mo K x m))
def fProp (x m : Str) (K : PySem.W.Frag) : Bool := He.eqO (PySem.W.findIn K (.ref (ga K x)) m) (some (some (.ref (mo K x m)))) && (He.eqO (PySem.W.specialIn K (.ref (mo K x m)) "__get__") (some (some (.builtin "property.__get__"))) && (decide (PySem.W.takesIn K (.ref (mo K x m)) = some true) && recOk K (mo K x m) "property"))
section
variable {K : PySem.W.Frag} {x m : Str}
theorem two {a b : Bool} (h : (a && b) = true) : a = true ∧ b = true := Bool.and_eq_true_iff.mp h
theorem read_ok (h : fRead x K = true) : ClX.CRead K (ga K x) (.type "type") := ⟨(two h).1, He.eqO_ok (two h).2⟩
theorem cmet_ok (h : fCMet x m K = true) : ClX.CMet K (ga K x) (.type "type") m (mo K x m) (inRec K (mo K x m) "classmethod") := ⟨getB_ok (two h).1, recOk_ok (two (two h).2).1, (two (two h).2).2⟩
theorem csta_ok (h : fCSta x m K = true) : OwR.CSta K (ga K x) (.type "type") m (mo K x m) (inRec K (mo K x m) "staticmethod") := ⟨getB_ok (two h).1, recOk_ok (two (two h).2).1, (two (two h).2).2⟩
theorem cfun_ok (h : fCFun x m K = true) : OwR.CFun K (ga K x) (.type "type") m (mo K x m) := ⟨valB_ok (two h).1, (two h).2⟩
theorem spc_ok (h : fSpc x m K = true) : OwR.Spc K (ga K x) (mo K x m) m := ⟨He.eqO_ok (two h).1, (two (two h).2).1, (two (two h).2).2⟩
theorem callo_ok (h : fSpc x "__call__" K = true) : StX.CallO K (ga K x) (mo K x "__call__") := ⟨He.eqO_ok (two h).1, (two (two h).2).1, (two (two h).2).2⟩
theorem prop_ok (h : fProp x m K = true) : PropOf K (ga K x) m (mo K x m) (inRec K (mo K x m) "property") := ⟨He.eqO_ok (two h).1, He.eqO_ok (two (two h).2).1, of_decide_eq_true (two (two (two h).2).2).1, recOk_ok (two (two (two h).2).2).2⟩
end
/-! ### defs -/
structure DX where
  adr : PySem.W.Frag → Addr
  name : Str
  qual : Str
  st : Stmt
abbrev FX : Type := Option (Str × Str × Arguments × FuncBody × Scope × Addr × List (Str × Addr) × Value × Addr)
def seeF (K : PySem.W.Frag) (a : Addr) : FX := match K.lookup a with
  | some ⟨_, _, .func fd, _⟩ => some (fd.name, fd.qualname, fd.params, fd.body, fd.scope, fd.globals, fd.closure, fd.defaults, fd.builtins)
  | _ => none
def codB (K : PySem.W.Frag) (a : Addr) (qual : Str) : Bool := PySem.W.keepIn K (.ref a) && (match K.lookup a with
  | some ⟨_, _, .func fd, _⟩ => PySem.W.codeIn K fd.code qual
  | _ => false)
def DX.val (d : DX) : FX := some (d.name, d.qual, defArgs d.st, .stmts (defBody d.st), defScope d.st, mainGlobals, [], .none, builtinsNs)
theorem DX.fun_ {K : PySem.W.Frag} {d : DX} (h1 : seeF K (d.adr K) = d.val) (h2 : codB K (d.adr K) d.qual = true) : ∃ fd, Fun K d.name d.qual d.st (d.adr K) fd := by
  obtain ⟨kp, cd⟩ := two h2
  unfold seeF at h1
  cases l : K.lookup (d.adr K) with
  | none =>
    rw [l] at cd
    cases cd
  | some ob =>
    obtain ⟨oc, od, dt, osl⟩ := ob
    rw [l] at h1 cd
    match dt, h1, cd with
    | .func f, h1, cd =>
      obtain ⟨a1, a2, a3, a4, a5, a6, a7, a8, a9, a10, a11, a12, a13, a14, a15⟩ := f
      have e : (some (a1, a2, a3, a4, a5, a6, a7, a8, a15) : FX) = some (d.name, d.qual, defArgs d.st, .stmts (defBody d.st), defScope d.st, mainGlobals, [], .none, builtinsNs) := h1
      injection e with e
      injection e with e1 e
      injection e with e2 e
      injection e with e3 e
      injection e with e4 e
      injection e with e5 e
      injection e with e6 e
      injection e with e7 e
      injection e with e8 e9
      subst e1 e2 e3 e4 e5 e6 e7 e8 e9
      exact ⟨_, ⟨⟨oc, od, a9, a10, a11, a12, a13, a14, osl, rfl, l, cd⟩, kp⟩⟩
/-! ### the hook -/
abbrev AX : Type := Bool × List FX
def seeX (fa : List (PySem.W.Frag → Bool)) (fn : List DX) (K : PySem.W.Frag) : AX := ((fa.all fun f => f K) && fn.all fun d => codB K (d.adr K) d.qual, fn.map fun d => seeF K (d.adr K))
def wantX (fn : List DX) : AX := (true, fn.map DX.val)
def placesX (xs : List Str) (g : Addr → Option Obj) : Nat → List Addr
  | 0 => (xs.map (ga (He.frG g [mainGlobals])))
  | n + 1 => He.growD g (placesX xs g n)
def partX (xs : List Str) (g : Addr → Option Obj) : PySem.W.Frag := He.frG g (mainGlobals :: PySem.cStatics :: placesX xs g 4)
def hookX (xs : List Str) (fa : List (PySem.W.Frag → Bool)) (fn : List DX) : PySem.W.Hook where
  α := AX
  obs := fun s => seeX fa fn (partX xs s.heap.get?)
  val := fun _ => wantX fn
  says := fun _ h => ∃ K : PySem.W.Frag, K.In h ∧ seeX fa fn K = wantX fn
  of := fun _ _ e => ⟨partX xs _, He.frG_in, e⟩
  keeps := fun _ _ _ p k => match p with
    | ⟨K, hK, c⟩ => ⟨K, PySem.W.Frag.In.keeps hK k, c⟩
theorem seeX_eq {xs : List Str} {fa : List (PySem.W.Frag → Bool)} {fn : List DX} {g : Addr → Option Obj} {s : Shared} (h : ∀ a, g a = s.heap.get? a) : seeX fa fn (partX xs g) = (hookX xs fa fn).obs s := by
  have e : g = s.heap.get? := funext h
  subst e
  rfl
section
variable {fa : List (PySem.W.Frag → Bool)} {fn : List DX} {K : PySem.W.Frag}
theorem fact (c : seeX fa fn K = wantX fn) (i : Nat) {f : PySem.W.Frag → Bool} (h : fa[i]? = some f := by rfl) : f K = true :=
  List.all_eq_true.mp (two (congrArg Prod.fst c)).1 f (List.mem_of_getElem? h)
theorem def_ (c : seeX fa fn K = wantX fn) (i : Nat) {d : DX} (h : fn[i]? = some d := by rfl) : ∃ fd, Fun K d.name d.qual d.st (d.adr K) fd := by
  have h2 : codB K (d.adr K) d.qual = true := List.all_eq_true.mp (two (congrArg Prod.fst c)).2 d (List.mem_of_getElem? h)
  have h3 : (fn.map fun d => seeF K (d.adr K))[i]? = (fn.map DX.val)[i]? := congrArg (fun z : AX => z.2[i]?) c
  rw [List.getElem?_map, List.getElem?_map, h] at h3
  exact DX.fun_ (Option.some.inj h3) h2
end
end OwH
end
section
/-! Own: what a value's repr is; a caught error's class and fields. -/
namespace OwE
open PySem PySem.Spec PyProof.Rows L2
inductive RepV (K : PySem.W.Frag) (H : Hp) : V → Str → Prop where
  | non : RepV K H .non "None"
  | bl (b : Bool) : RepV K H (.bl b) (if b then "True" else "False")
  | int {i : Int} (h : i.natAbs.log2 < 1920) : RepV K H (.int i) (toString i)
  | str {z : Str} (h : (reprText z).length ≤ sizeLine) : RepV K H (.str z) (reprText z)
  | dat {a : Addr} {d : PyData} (h : Dp K H (.ref a) d) (hs : d.showable = true) (hn : d.hasDict = false) (hd : d.depth ≤ 64) (hz : d.shown.length ≤ sizeLine) : RepV K H (.ref a) d.shown
  | dic {a : Addr} (h : H a = some (.dK [])) : RepV K H (.ref a) (PyData.dict []).shown
def rRepr (K : PySem.W.Frag) : List V → Hp → VK → Prop := fun xs H Q => ∃ v r, xs = [v] ∧ RepV K H v r ∧ Q (.str r) H
theorem empty_reads {P : Program} {w : World} {H : Hp} {h : Heap} {a : Addr} (ok : HOk P w H h) (e : H a = some (.dK [])) : Reads h (.ref a) (.dict []) ([a] ++ []) ∧ a ≠ sysModules := by
  obtain ⟨_, ns, vs, kv, o, es, ep, h1, h2, h3, h4⟩ := (show ObjOk P w H h a (.dK []) from ok a _ e)
  refine ⟨?_, fun q => by rw [q] at ns; simp at ns⟩
  have ev : vs = [] := by
    cases kv
    rfl
  subst ev
  have ee : es.toList = [] := by
    have p := h4.2.1
    generalize es.toList = l at p
    cases p
    rfl
  exact Reads.dict h1 h2.1 h3 (by rw [ee]; exact .nil) (by rw [ee]; exact .nil)
theorem cr_repr {X : Cx} (hg : X.A.guards = some []) (hu : X.A.units + 70 < cLine) : CallR X (.builtin "repr") (rRepr X.K) := by
  intro pins s σ H xs us Q I r h
  obtain ⟨v, t, rfl, rep, q⟩ := h
  obtain ⟨u, rfl, rx⟩ := vals1 r
  cases rep with
  | non =>
    cases (show u = Value.none from rx)
    exact PySem.P.repr_of_none ⟨.str _, H, I.tok _, ⟨_, rfl⟩, q⟩
  | bl b =>
    cases (show u = Value.bool b from rx)
    exact PySem.P.repr_of_bool ⟨.str _, H, I.tok _, ⟨_, rfl⟩, q⟩
  | @int i hz =>
    obtain ⟨t, rfl⟩ := (show ∃ t, u = Value.int i t from rx)
    exact PySem.P.repr_of_int hz ⟨.str _, H, I.tok _, ⟨_, rfl⟩, q⟩
  | @str z hz =>
    obtain ⟨t, rfl⟩ := (show ∃ t, u = Value.str z t from rx)
    exact PySem.P.repr_of_str ⟨.str _, H, I.tok _, ⟨_, rfl⟩, q⟩ hz
  | @dat a d hd hs hn hp hz =>
    exact OwR.cr_reprD hg hu pins s σ H _ _ Q I (.cons rx .nil) ⟨a, d, rfl, hd, hs, hn, hp, hz, q⟩
  | @dic a e =>
    cases (show u = Value.ref a from rx)
    obtain ⟨R, ns⟩ := empty_reads I.hok e
    refine repr_of_reads' R (by decide) (fun _ m => ?_) hg (by show X.A.units + (PyData.depth (.dict []) + 1) < cLine; have : PyData.depth (.dict []) ≤ 60 := by decide +kernel
                                                               omega) (fun _ _ z => z) (fun h' u tk k => ?_) (by decide +kernel)
    · rw [List.append_nil, List.mem_singleton] at m
      exact ns m.symm
    · exact ⟨.str _, H, I.kept (t' := tk) k, ⟨u, rfl⟩, q⟩
/-- all that an own error class must say, so that its caught errors are asked -/
structure ErrC (K : PySem.W.Frag) (C : Addr) : Prop where
  ox : OexC K C
  xf : XfC K C
  ha : PySem.W.findIn K (.ref C) "__class__" = some (some (.builtin "object.__class__"))
  hn : PySem.W.specialIn K (.builtin "object.__class__") "__get__" = some (some (.builtin "getset_descriptor.__get__"))
  ht : PySem.W.takesIn K (.builtin "object.__class__") = some true
  hm : PySem.W.mroIn K C (.type "object") = some true
theorem OexC.cl {K : PySem.W.Frag} {C : Addr} (T : OexC K C) : (PySem.W.clsIn K C).isSome = true := by
  obtain ⟨nm, q, N, bs, bm, sn, sub, ab, col, dd, k0, k1, k2, k3, k5, hC, hbm⟩ := T.cls
  unfold PySem.W.clsIn
  rw [hC] <;> rfl
/-- isinstance of the error that the suite holds -/
def rIsE (K : PySem.W.Frag) (a : Addr) (cls : Value) (d : Option Addr) : List V → Hp → VK → Prop := fun xs H Q => ∃ (c : V) (u : Value) (C dd : Addr) (fs : List (Str × V)) (b : Bool), xs = [.ref a, c] ∧ ClsV c u ∧ cls = .ref C ∧ ErrC K C ∧ d = some dd ∧ H dd = some (.xd fs) ∧
  PySem.W.kitOne K (.ref C) u = some b ∧ Q (.bl b) H
theorem call_isE {X : Cx} {a : Addr} {cls : Value} {d : Option Addr} {oe : Obj} {pn : List (Addr × Obj)} (hz : Zc cls d oe) (hf : ∃ vs, oe.data = .fields vs) : CallR (X.suite a ((a, oe) :: pn)) (.builtin "isinstance") (rIsE X.K a cls d) := by
  intro pins s σ H xs us Q I r h
  obtain ⟨c, cv, C, dd, fs, b, rfl, hcv, rfl, T, rfl, ed, e, q⟩ := h
  obtain ⟨u1, u2, rfl, r1, r2⟩ := vals2 r
  cases (show u1 = Value.ref a from r1)
  have e2 := hcv.eq r2
  subst e2
  obtain ⟨hget, _⟩ := I.pin (a, oe) (List.mem_append.mpr (.inl List.mem_cons_self))
  obtain ⟨vs, hv⟩ := hf
  obtain ⟨mA, hns, hr⟩ := (show ObjOk X.prog X.w H s.heap dd (.xd fs) from I.hok dd _ ed)
  obtain ⟨od, ho, hl⟩ := lookIn_ns hns
  have J : PySem.W.InstAt s.heap a oe C (some od) := ⟨hget, hz.1, by unfold PySem.W.notCls; rw [hv] <;> rfl, by rw [hz.2]; exact ho⟩
  exact PySem.W.kia_one (PySem.W.kitx_exc (OexC.cl T.ox) T.xf.ga T.xf.gg T.xf.exC T.ha T.hn T.ht T.hm) I.kIn J e (fun z => nomatch z) fun tk => ⟨.bl b, H, I.tok tk, rfl, q⟩
/-- err.f of the error that the suite holds -/
def tXe (K : PySem.W.Frag) (a : Addr) (cls : Value) (d : Option Addr) (f : Str) (te : TE) : TE := fun σ H Q => te σ H fun x H1 => x = .ref a ∧ ∃ (C dd : Addr) (fs : List (Str × V)) (v : V), cls = .ref C ∧ ErrC K C ∧ PySem.W.findIn K (.ref C) f = some none ∧ d = some dd ∧ H1 dd = some (.xd fs) ∧ fs.lookup f = some v ∧ Q v H1
theorem pe_xe {X : Cx} {a : Addr} {oe : Obj} {cls : Value} {d : Option Addr} {pn : List (Addr × Obj)} {e : Expr} {te : TE} {pos : Pos} {n : Str} (hz : Zc cls d oe) (hf : ∃ vs, oe.data = .fields vs) (he : PE (X.suite a ((a, oe) :: pn)) e te) (hb : attributeBase e n X.env (eval e X.env) = eval e X.env := by rfl) :
    PE (X.suite a ((a, oe) :: pn)) (.Attribute e n pos) (tXe X.K a cls d n te) := by
  refine ⟨fun pins s σ H Q I h => ?_⟩
  refine attr_of hb (thn (he.run pins s σ H _ I h) fun u s1 hh => ?_)
  obtain ⟨x, H1, I1, rx, ex, C, dd, fs, v, ec, T, hno, ed, ea, l, q⟩ := hh
  subst ex ec ed
  obtain rfl : u = Value.ref a := rx
  obtain ⟨ha, _⟩ := I1.pin (a, oe) (List.mem_append_left _ List.mem_cons_self)
  obtain ⟨vs, hd⟩ := hf
  obtain ⟨mA, hns, hr⟩ := (show ObjOk X.prog X.w H1 s1.heap dd (.xd fs) from I1.hok dd _ ea)
  obtain ⟨od, ho, hl⟩ := lookIn_ns hns
  obtain ⟨u, hu, ru⟩ := RelO.some_of (v := v) (o := mA n) (by rw [← l]; exact hr n)
  have J : PySem.W.InstAt s1.heap a oe C (some od) := ⟨ha, hz.1, by unfold PySem.W.notCls; rw [hd] <;> rfl, by rw [hz.2]; exact ho⟩
  exact HandSPX.exc_get I1.kIn J T.xf.ga T.xf.gg T.xf.exC (PySem.W.findObj_own T.xf.hdC hno rfl (by rw [hl, hu])) (handed_of ru) ⟨v, H1, I1.tok _, ru, q⟩
/-! ### an error class with one field, with two -/
def spErr1 (K : PySem.W.Frag) (f : Str) : Sp := fun vs H Q _ => ∃ (a C : Addr) (v : V), vs = [.ref a, v] ∧ OexC K C ∧ PySem.W.findIn K (.ref C) f = some none ∧ H a = some (exo a C none) ∧
  ∀ dx, H dx = none → dx ≠ a → Q .non (upd (upd H dx (exd dx [(f, v)])) a (exo a C (some dx)))
theorem err_heap {H : Hp} {a d C : Addr} {fs : List (Str × V)} (ne : d ≠ a) (ha : H a = none) : upd (del (upd (upd (upd H a (exo a C none)) d (exd d fs)) a (exo a C (some d))) a) d (.xd fs) = upd H d (.xd fs) := by
  funext b
  by_cases h1 : b = d
  · rw [h1, upd_same, upd_same]
  · rw [upd_ne h1, upd_ne h1]
    by_cases h2 : b = a
    · rw [h2, del_same, ha]
    · rw [del_ne h2, upd_ne h2, upd_ne h1, upd_ne h2]
theorem mk_err1 {K : PySem.W.Frag} {C : Addr} {f : Str} {v : V} {H : Hp} {E : XK} (T : OexC K C) (hno : PySem.W.findIn K (.ref C) f = some none) (k : ∀ d, H d = none → E (.ref C) (some d) (upd H d (.xd [(f, v)]))) :
    ([v] : List V).length ≤ 1000 ∧ ∀ a, H a = none → spErr1 K f (.ref a :: ([v] ++ [])) (upd H a (exo a C none)) (fun v H2 => v = .non ∧ ∃ (d : Addr) (fs : List (Str × V)), H2 a = some (exo a C (some d)) ∧ H2 d = some (exd d fs) ∧ H d = none ∧ E (.ref C) (some d) (upd (del H2 a) d (.xd fs))) (fun _ _ _ => False) := by
  refine ⟨by show (1 : Nat) ≤ 1000; decide, fun a ha => ⟨a, C, v, rfl, T, hno, upd_same, fun dx hd ne => ⟨rfl, dx, [(f, v)], upd_same, by rw [upd_ne ne, upd_same], ?_, ?_⟩⟩⟩
  · rw [upd_ne ne] at hd
    exact hd
  · rw [err_heap ne ha]
    rw [upd_ne ne] at hd
    exact k dx hd
end OwE
end
section
/-! Own: what the end of the top says, with the tables of the code of some defs. -/
namespace OwH
open PySem PySem.Spec PyProof.Rows L2
def codA (K : PySem.W.Frag) (f : Addr) : Addr := match K.lookup f with
  | some ⟨_, _, .func fd, _⟩ => (match fd.code with
    | .ref c => c
    | _ => 0)
  | _ => 0
theorem codA_eq {K : PySem.W.Frag} {f c : Addr} {oc : Value} {od : Option Addr} {osl : Array (Option Value)} {fd : FuncData} (lk : K.lookup f = some ⟨oc, od, .func fd, osl⟩) (e : fd.code = .ref c) : codA K f = c := by
  unfold codA
  rw [lk]
  show (match fd.code with | .ref c => c | _ => 0) = c
  rw [e]
/-- the code of the def at f, its table -/
def cTab (K : PySem.W.Frag) (f : Addr) : Addr × Addr := (codA K f, He.tabOf K (codA K f))
def tabsOk (g : Addr → Option Obj) (tf : List (PySem.W.Frag → Addr)) (K : PySem.W.Frag) : Bool := tf.all fun f => PySem.W.codeHdIn K (cTab K (f K)).1 (cTab K (f K)).2 && (match g (cTab K (f K)).2 with
  | some o => He.emptyTab o
  | none => false)
def partT (xs : List Str) (g : Addr → Option Obj) : PySem.W.Frag := He.frT g (mainGlobals :: PySem.cStatics :: placesX xs g 4)
structure SaysT (fa : List (PySem.W.Frag → Bool)) (fn : List DX) (tf : List (PySem.W.Frag → Addr)) (h : Heap) (K : PySem.W.Frag) : Prop where
  see : seeX fa fn K = wantX fn
  hd : ∀ f ∈ tf, PySem.W.codeHdIn K (cTab K (f K)).1 (cTab K (f K)).2 = true
  out : ∀ f ∈ tf, K.lookup (cTab K (f K)).2 = none
  empty : ∀ f ∈ tf, h.get? (cTab K (f K)).2 = some OwR.tabO
abbrev AT : Type := AX × Bool
def obsT (xs : List Str) (fa : List (PySem.W.Frag → Bool)) (fn : List DX) (tf : List (PySem.W.Frag → Addr)) (g : Addr → Option Obj) : AT := (seeX fa fn (partT xs g), tabsOk g tf (partT xs g))
theorem saysT_of {xs : List Str} {fa : List (PySem.W.Frag → Bool)} {fn : List DX} {tf : List (PySem.W.Frag → Addr)} {h : Heap} (e : obsT xs fa fn tf h.get? = (wantX fn, true)) : SaysT fa fn tf h (partT xs h.get?) := by
  have e1 : seeX fa fn (partT xs h.get?) = wantX fn := congrArg Prod.fst e
  have e2 : tabsOk h.get? tf (partT xs h.get?) = true := congrArg Prod.snd e
  have key : ∀ f ∈ tf, PySem.W.codeHdIn (partT xs h.get?) (cTab (partT xs h.get?) (f (partT xs h.get?))).1 (cTab (partT xs h.get?) (f (partT xs h.get?))).2 = true ∧ ∃ o, h.get? (cTab (partT xs h.get?) (f (partT xs h.get?))).2 = some o ∧ He.emptyTab o = true := fun f hf => by
    obtain ⟨h3, h4⟩ := two (List.all_eq_true.mp e2 f hf)
    refine ⟨h3, ?_⟩
    cases q : h.get? (cTab (partT xs h.get?) (f (partT xs h.get?))).2 with
    | none =>
      rw [q] at h4
      cases h4
    | some o =>
      rw [q] at h4
      exact ⟨o, rfl, h4⟩
  refine ⟨e1, fun f hf => (key f hf).1, fun f hf => ?_, fun f hf => ?_⟩
  · obtain ⟨_, o, q, z⟩ := key f hf
    exact He.frT_none q z
  · obtain ⟨_, o, q, z⟩ := key f hf
    rw [q, He.emptyTab_eq z]
def hookT (xs : List Str) (fa : List (PySem.W.Frag → Bool)) (fn : List DX) (tf : List (PySem.W.Frag → Addr)) : PySem.W.Hook where
  α := AT
  obs := fun s => obsT xs fa fn tf s.heap.get?
  val := fun _ => (wantX fn, true)
  says := fun _ h => ∃ K : PySem.W.Frag, K.In h ∧ SaysT fa fn tf h K
  of := fun _ _ e => ⟨_, He.frT_in, saysT_of e⟩
  keeps := fun _ _ _ p k => match p with
    | ⟨K, hK, c⟩ => ⟨K, PySem.W.Frag.In.keeps hK k, ⟨c.see, c.hd, c.out, fun f hf => k _ _ (c.empty f hf)⟩⟩
theorem obsT_eq {xs : List Str} {fa : List (PySem.W.Frag → Bool)} {fn : List DX} {tf : List (PySem.W.Frag → Addr)} {g : Addr → Option Obj} {s : Shared} (h : ∀ a, g a = s.heap.get? a) : obsT xs fa fn tf g = (hookT xs fa fn tf).obs s := by
  have e : g = s.heap.get? := funext h
  rw [e] <;> rfl
/-! ### facts of error classes -/
def oexB (K : PySem.W.Frag) (C : Addr) : Bool := match K.lookup C with
  | some ⟨.type t, _, .cls cd, sl⟩ => decide (t = "type") && (match cd.mro, sl.toList with
    | .ref D :: bm, [_, _, _, _, some (.builtin n), _] => decide (D = C) && (decide (n = "ValueError.__new__") && (cd.hasDict && (!cd.hasDel && PySem.HandSPX.refsVE bm)))
    | _, _ => false)
  | _ => false
theorem oexB_ok {K : PySem.W.Frag} {C : Addr} (h : oexB K C = true) : ∃ nm q N bs bm sn sub ab col dd k0 k1 k2 k3 k5, K.lookup C = some (excClassObj nm q C N bs bm true sn sub ab col dd k0 k1 k2 k3 k5 "ValueError.__new__") ∧ PySem.HandSPX.refsVE bm = true := by
  unfold oexB at h
  split at h
  · rename_i t dd cd sl ho
    obtain ⟨h1, h2⟩ := two h
    split at h2
    · rename_i D bm k0 k1 k2 k3 n k5 hm hs
      obtain ⟨a1, h3⟩ := two h2
      obtain ⟨a2, h4⟩ := two h3
      obtain ⟨a3, h5⟩ := two h4
      obtain ⟨a4, a5⟩ := two h5
      have e1 := of_decide_eq_true h1
      have e2 := of_decide_eq_true a1
      have e3 := of_decide_eq_true a2
      subst e1 e2 e3
      obtain ⟨nm, bs, mro, ns, qn, hd, sn, sub, ab, col, del⟩ := cd
      have esl : sl = #[k0, k1, k2, k3, some (.builtin "ValueError.__new__"), k5] := by
        obtain ⟨l⟩ := sl
        have hs : l = _ := hs
        rw [hs]
      have em : mro = .ref D :: bm := hm
      have ed : hd = true := a3
      have el : del = false := by
        cases del with
        | true => cases a4
        | false => rfl
      subst esl em ed el
      exact ⟨nm, qn, ns, bs, bm, sn, sub, ab, col, dd, k0, k1, k2, k3, k5, ho, a5⟩
    · cases h2
  · cases h
def fErr (x : Str) (K : PySem.W.Frag) : Bool := oexB K (ga K x) && (He.eqO (PySem.W.findIn K (.ref (ga K x)) "__setattr__") (some (some (.builtin "object.__setattr__"))) && (decide (PySem.W.typeIn K (.ref (ga K x)) = some (.type "type")) && (PySem.W.keepIn K (.ref (ga K x)) && (xfB K (ga K x) &&
  (He.eqO (PySem.W.findIn K (.ref (ga K x)) "__class__") (some (some (.builtin "object.__class__"))) && (He.eqO (PySem.W.specialIn K (.builtin "object.__class__") "__get__") (some (some (.builtin "getset_descriptor.__get__"))) &&
  (decide (PySem.W.takesIn K (.builtin "object.__class__") = some true) && decide (PySem.W.mroIn K (ga K x) (.type "object") = some true))))))))
theorem err_ok {x : Str} {K : PySem.W.Frag} (h : fErr x K = true) : OwE.ErrC K (ga K x) := by
  obtain ⟨a1, h⟩ := two h
  obtain ⟨a2, h⟩ := two h
  obtain ⟨a3, h⟩ := two h
  obtain ⟨a4, h⟩ := two h
  obtain ⟨a5, h⟩ := two h
  obtain ⟨a6, h⟩ := two h
  obtain ⟨a7, h⟩ := two h
  obtain ⟨a8, a9⟩ := two h
  have X := xfB_ok a5
  exact ⟨⟨oexB_ok a1, He.eqO_ok a2, X.exC, of_decide_eq_true a3, a4⟩, X, He.eqO_ok a6, He.eqO_ok a7, of_decide_eq_true a8, of_decide_eq_true a9⟩
/-- the class's __init__ is the def at its place -/
def fIni (x : Str) (K : PySem.W.Frag) : Bool := He.eqO (PySem.W.findIn K (.ref (ga K x)) "__init__") (some (some (.ref (mo K x "__init__")))) && decide (PySem.W.typeIn K (.ref (mo K x "__init__")) = some (.type "function"))
theorem ini_ok {x : Str} {K : PySem.W.Frag} (h : fIni x K = true) : PySem.W.findIn K (.ref (ga K x)) "__init__" = some (some (.ref (mo K x "__init__"))) ∧ PySem.W.typeIn K (.ref (mo K x "__init__")) = some (.type "function") := ⟨He.eqO_ok (two h).1, of_decide_eq_true (two h).2⟩
/-- no attribute of that name in the class -/
def fNoF (x n : Str) (K : PySem.W.Frag) : Bool := decide (PySem.W.findIn K (.ref (ga K x)) n = some none)
def fExm (x y : Str) (b : Bool) (K : PySem.W.Frag) : Bool := decide (PySem.W.exmOne K (.ref (ga K x)) (.ref (ga K y)) = some b)
def fKit (x y : Str) (b : Bool) (K : PySem.W.Frag) : Bool := decide (PySem.W.kitOne K (.ref (ga K x)) (.ref (ga K y)) = some b)
/-- what isinstance and the like ask of the objects of the class -/
def fIsC (x : Str) (K : PySem.W.Frag) : Bool := He.eqO (PySem.W.findIn K (.ref (ga K x)) "__class__") (some (some (.builtin "object.__class__"))) && (He.eqO (PySem.W.specialIn K (.builtin "object.__class__") "__get__") (some (some (.builtin "getset_descriptor.__get__"))) &&
  (decide (PySem.W.takesIn K (.builtin "object.__class__") = some true) && decide (PySem.W.mroIn K (ga K x) (.type "object") = some true)))
theorem isC_ok {x : Str} {K : PySem.W.Frag} (h : fIsC x K = true) : PySem.W.findIn K (.ref (ga K x)) "__class__" = some (some (.builtin "object.__class__")) ∧ PySem.W.specialIn K (.builtin "object.__class__") "__get__" = some (some (.builtin "getset_descriptor.__get__")) ∧ PySem.W.takesIn K (.builtin "object.__class__") = some true ∧ PySem.W.mroIn K (ga K x) (.type "object") = some true := by
  obtain ⟨a1, h⟩ := two h
  obtain ⟨a2, h⟩ := two h
  obtain ⟨a3, a4⟩ := two h
  exact ⟨He.eqO_ok a1, He.eqO_ok a2, of_decide_eq_true a3, of_decide_eq_true a4⟩
/-- the class (or one above it) has the def at its place as m -/
def fHas (x m : Str) (K : PySem.W.Frag) : Bool := He.eqO (PySem.W.findIn K (.ref (ga K x)) m) (some (some (.ref (mo K x m)))) && PySem.W.isFn K (.ref (mo K x m))
theorem has_ok {x m : Str} {K : PySem.W.Frag} (h : fHas x m K = true) : PySem.W.findIn K (.ref (ga K x)) m = some (some (.ref (mo K x m))) ∧ PySem.W.isFn K (.ref (mo K x m)) = true := ⟨He.eqO_ok (two h).1, (two h).2⟩
/-- != of the class is object's -/
def fNe (x : Str) (K : PySem.W.Frag) : Bool := He.eqO (PySem.W.findIn K (.ref (ga K x)) "__ne__") (some (some (.builtin "object.__ne__")))
theorem ne_ok {x : Str} {K : PySem.W.Frag} (h : fNe x K = true) : PySem.W.findIn K (.ref (ga K x)) "__ne__" = some (some (.builtin "object.__ne__")) := He.eqO_ok h
def fNot (x : Str) (t : PySem.W.Frag → Value) (K : PySem.W.Frag) : Bool := PySem.W.notFirst K (ga K x) (t K)
end OwH
end
section
/-! Operators and comparisons that an own class defines. -/
namespace OwR
open PySem PySem.Spec PyProof.Rows L2
/-- an own operator between instances of two own classes, neither below the other -/
theorem bin_two {prog : Program} {w : World} {A : Around} {E : Value → Shared → Prop} {s : Shared} {K : PySem.W.Frag} {x C D f f2 : Addr} {ox : Obj} {od : Option Obj} {op : Operator} {b : Value} {rc rd : Option Value} {Q : Value → Shared → Prop} (X : K.In s.heap) (I : PySem.W.InstAt s.heap x ox C od)
    (hb : PySem.W.Looks (model prog w) s.heap (typeOf b) (.ref D)) (ne : (Value.ref C == Value.ref D) = false) (cC : PySem.W.selfFirst K C = true) (cD : PySem.W.selfFirst K D = true) (sC : PySem.W.findIn K (.ref C) (PySem.dunder op.info.2) = some (some (.ref f))) (sD : PySem.W.findIn K (.ref D) (PySem.dunder op.info.2) = some (some (.ref f2)))
    (rC : PySem.W.findIn K (.ref C) (dunderR op.info.2) = some rc) (pC : rc = none ∨ ∃ g : Addr, rc = some (.ref g)) (rD : PySem.W.findIn K (.ref D) (dunderR op.info.2) = some rd) (pD : rd = none ∨ ∃ g : Addr, rd = some (.ref g))
    (sub : PySem.W.subIn K (.ref D) (.ref C) = some false) (hf : PySem.W.isFn K (.ref f) = true) (h : wpAny (model prog w) A (call (.ref f) [.ref x, b]) (PySem.W.CmpBack Q) E s) : wpAny (model prog w) A (binaryOp op (.ref x) b) Q E s := by
  obtain ⟨c1, r1, k1, m1⟩ := PySem.W.ksp_first cC
  obtain ⟨c2, r2, k2, m2⟩ := PySem.W.ksp_first cD
  rcases hi : op.info with ⟨sym, nm⟩
  rw [hi] at sC sD rC rD
  dsimp only at sC sD rC rD
  have one := PySem.W.ksp_try X I sC hf h
  obtain ⟨hp, gs, dr, tk, os⟩ := s
  have L1 : PySem.W.Looks (model prog w) hp (typeOf (.ref x)) (.ref C) := I.type
  have L2 : PySem.W.Looks (model prog w) hp (typeOf b) (.ref D) := hb
  have L3 : PySem.W.Looks (model prog w) hp (fillsNumberSlot (.ref C) nm) true := PySem.W.fills_K X k1 m1 sC
  have L4 : PySem.W.Looks (model prog w) hp (fillsNumberSlot (.ref D) nm) true := PySem.W.fills_K X k2 m2 sD
  have L5 : PySem.W.Looks (model prog w) hp (isSubtype (.ref D) (.ref C)) false := PySem.W.looks_subIn X sub
  have L6 : PySem.W.Looks (model prog w) hp (numberSlotInPython (.ref C) nm) true := PySem.W.ksp_inPy X sC rC pC
  have L7 : PySem.W.Looks (model prog w) hp (numberSlotInPython (.ref D) nm) true := PySem.W.ksp_inPy X sD rD pD
  simp only [binaryOp, hi]
  refine wpAny_holding (wpAny_bind ?_)
  unfold binaryOp1
  refine wpAny_bind (L1.at (wpAny_bind (L2.at (wpAny_bind (L3.at ?_)))))
  simp only [ne, Bool.false_eq_true, if_false]
  ksp_lk
  refine wpAny_mono one (fun r s' q => ?_) fun _ _ e => e
  obtain ⟨v, rfl, hq⟩ := q
  ksp_lk
  exact hq
/-- what a class must have for an operator of its own -/
structure Bin1 (K : PySem.W.Frag) (op : Operator) (C g : Addr) : Prop where
  self : PySem.W.selfFirst K C = true
  at_ : PySem.W.findIn K (.ref C) (PySem.dunder op.info.2) = some (some (.ref g))
  fn : PySem.W.isFn K (.ref g) = true
  refl : ∃ rc, PySem.W.findIn K (.ref C) (dunderR op.info.2) = some rc ∧ (rc = none ∨ ∃ h : Addr, rc = some (.ref h))
/-- .. between two classes: one, or neither above the other -/
def BinP (K : PySem.W.Frag) (op : Operator) (C D g : Addr) : Prop := Bin1 K op C g ∧ (C = D ∨ ((∃ g', Bin1 K op D g') ∧ C ≠ D ∧ PySem.W.subIn K (.ref D) (.ref C) = some false))
structure BinT (K : PySem.W.Frag) (op : Operator) (C : Addr) (T : String) : Prop where
  f : ∃ fo, PySem.W.findIn K (.type T) (PySem.dunder op.info.2) = some fo
  r : ∃ ro, PySem.W.findIn K (.type T) (dunderR op.info.2) = some ro
  sub : PySem.W.subIn K (.type T) (.ref C) = some false
def tyS : V → Option String
  | .non => some "NoneType" | .bl _ => some "bool" | .int _ => some "int" | .str _ => some "str" | _ => none
theorem tyS_of {y : V} {u : Value} {T : String} (r : RelV y u) (h : tyS y = some T) : typeOf u = pure (.type T) := by
  cases y with
  | non => cases (show u = Value.none from r); cases h; rfl
  | bl b => cases (show u = Value.bool b from r); cases h; rfl
  | int i => obtain ⟨t, rfl⟩ := r; cases h; rfl
  | str z => obtain ⟨t, rfl⟩ := r; cases h; rfl
  | _ => cases h
def rOwn2 (K : PySem.W.Frag) (op : Operator) (g : Addr) (sp : Sp) (E : XK) : R2 := fun x y H Q => ∃ (p q C D dx dy : Addr) (fs gs : List (Str × V)), x = .ref p ∧ y = .ref q ∧ H p = some (.ins C dx fs) ∧ H q = some (.ins D dy gs) ∧ BinP K op C D g ∧ sp [.ref p, .ref q] H Q E
def rOwnT (K : PySem.W.Frag) (op : Operator) (g : Addr) (sp : Sp) (E : XK) : R2 := fun x y H Q => ∃ (p C dx : Addr) (fs : List (Str × V)) (T : String), x = .ref p ∧ H p = some (.ins C dx fs) ∧ tyS y = some T ∧ Bin1 K op C g ∧ BinT K op C T ∧ sp [.ref p, y] H Q E
section
variable {X : Cx} {CX : CXT} {k : Nat} {g : Addr} {sp : Sp} {E : XK} {op : Operator}
theorem ep_back {pins : List (Addr × Obj)} {σ : L2.St} {Q : VK} {u : Value} {s : Shared} (h : EP X pins σ Q u s) : PySem.W.CmpBack (EP X pins σ Q) u s := by
  obtain ⟨v, H, I, r, q⟩ := h
  unfold PySem.W.CmpBack
  split
  · cases v with
    | int i => obtain ⟨_, z⟩ := r; cases z
    | str i => obtain ⟨_, z⟩ := r; cases z
    | byt i => obtain ⟨_, z⟩ := r; cases z
    | flt i => obtain ⟨_, z⟩ := r; cases z
    | _ => cases r
  · exact ⟨v, H, I, r, q⟩
theorem run_own {pins : List (Addr × Obj)} {σ : L2.St} {H : Hp} {s : Shared} {Q : VK} {us : List Value} {vs : List V} (F : FnR X.prog X.w X.K X.mg X.base CX k g sp) (hr : Room k X.A) (hx : Passes CX X E) (I : Inv X pins σ H s) (r : Vals vs us) (h : sp vs H Q E) :
    wpAny (model X.prog X.w) X.A (call (.ref g) us) (PySem.W.CmpBack (EP X pins σ Q)) X.xe s := wpAny_mono (wpAny_call (run_fnR F hr hx I r h)) (fun _ _ q => ep_back q) fun _ _ q => q
theorem op_own2 (F : FnR X.prog X.w X.K X.mg X.base CX k g sp) (hr : Room k X.A) (hx : Passes CX X E) : OpR X (binaryOp op) (rOwn2 X.K op g sp E) := by
  intro pins s σ H x y v u Q I rx ry h
  obtain ⟨p, q, C, D, dx, dy, fs, gs, rfl, rfl, ep, eq, ⟨b1, b2⟩, hq⟩ := h
  obtain rfl : v = Value.ref p := rx
  obtain rfl : u = Value.ref q := ry
  obtain ⟨ox, od, J, _⟩ := StX.insC_at I (.inr ⟨dx, fs, ep⟩)
  obtain ⟨oy, oe, J2, _⟩ := StX.insC_at I (.inr ⟨dy, gs, eq⟩)
  have go := run_own F hr hx I (us := [.ref p, .ref q]) (vs := [.ref p, .ref q]) (.cons rfl (.cons rfl .nil)) hq
  obtain ⟨mm, fr⟩ := I.fr
  rcases b2 with rfl | ⟨⟨g', b2⟩, ne, sub⟩
  · exact PySem.W.binop_K fr I.ok.mod.kin J J2.type b1.self b1.at_ b1.fn go
  · obtain ⟨rc, e1, e2⟩ := b1.refl
    obtain ⟨rd, e3, e4⟩ := b2.refl
    exact bin_two I.kIn J J2.type (Bool.eq_false_iff.mpr fun z => ne (by cases beq_iff_eq.mp z; rfl)) b1.self b2.self b1.at_ b2.at_ e1 e2 e3 e4 sub b1.fn go
theorem op_ownT (F : FnR X.prog X.w X.K X.mg X.base CX k g sp) (hr : Room k X.A) (hx : Passes CX X E) : OpR X (binaryOp op) (rOwnT X.K op g sp E) := by
  intro pins s σ H x y v u Q I rx ry h
  obtain ⟨p, C, dx, fs, T, rfl, ep, ty, b1, bT, hq⟩ := h
  obtain rfl : v = Value.ref p := rx
  obtain ⟨ox, od, J, _⟩ := StX.insC_at I (.inr ⟨dx, fs, ep⟩)
  obtain ⟨mm, fr⟩ := I.fr
  obtain ⟨rc, e1, e2⟩ := b1.refl
  obtain ⟨fo, e3⟩ := bT.f
  obtain ⟨ro, e4⟩ := bT.r
  exact PySem.W.ksp_binT fr I.ok.mod.kin J (tyS_of ry ty) b1.self b1.at_ b1.fn e1 e2 e3 e4 bT.sub (run_own F hr hx I (us := [.ref p, u]) (vs := [.ref p, y]) (.cons rfl (.cons ry .nil)) hq)
/-! ### comparisons -/
structure Cmp1 (K : PySem.W.Frag) (op : CmpOp) (C g : Addr) : Prop where
  at_ : PySem.W.findIn K (.ref C) (cmpInfo op).2.1 = some (some (.ref g))
  fn : PySem.W.isFn K (.ref g) = true
def rCmp2 (K : PySem.W.Frag) (op : CmpOp) (g : Addr) (sp : Sp) (E : XK) : R2 := fun x y H Q => ∃ (p q C D dx dy : Addr) (fs gs : List (Str × V)), x = .ref p ∧ y = .ref q ∧ H p = some (.ins C dx fs) ∧ H q = some (.ins D dy gs) ∧ Cmp1 K op C g ∧ PySem.W.notFirst K C (.ref D) = true ∧ sp [.ref p, .ref q] H Q E
theorem rc_own2 {o : CmpOp} (hu : X.A.units < cLine) (F : FnR X.prog X.w X.K X.mg X.base CX k g sp) (hr : Room k X.A) (hx : Passes CX X E) : OpR X (richCompare o) (rCmp2 X.K o g sp E) := by
  intro pins s σ H x y v u Q I rx ry h
  obtain ⟨p, q, C, D, dx, dy, fs, gs, rfl, rfl, ep, eq, c1, nf, hq⟩ := h
  obtain rfl : v = Value.ref p := rx
  obtain rfl : u = Value.ref q := ry
  obtain ⟨ox, od, J, _⟩ := StX.insC_at I (.inr ⟨dx, fs, ep⟩)
  obtain ⟨oy, oe, J2, _⟩ := StX.insC_at I (.inr ⟨dy, gs, eq⟩)
  obtain ⟨mm, fr⟩ := I.fr
  exact PySem.W.cmp_K hu fr I.ok.mod.kin J J2.type nf c1.at_ c1.fn (run_own F hr hx I (us := [.ref p, .ref q]) (vs := [.ref p, .ref q]) (.cons rfl (.cons rfl .nil)) hq)
theorem op_ownEq (hu : X.A.units < cLine) (F : FnR X.prog X.w X.K X.mg X.base CX k g sp) (hr : Room k X.A) (hx : Passes CX X E) : OpR X (compareOp .Eq) (rCmp2 X.K .Eq g sp E) := fun pins s σ H x y v u Q I rx ry h => PySem.W.cmp_ofEq (rc_own2 hu F hr hx pins s σ H x y v u Q I rx ry h)
theorem op_ownLe (hu : X.A.units < cLine) (F : FnR X.prog X.w X.K X.mg X.base CX k g sp) (hr : Room k X.A) (hx : Passes CX X E) : OpR X (compareOp .LtE) (rCmp2 X.K .LtE g sp E) := fun pins s σ H x y v u Q I rx ry h => PySem.W.cmp_ofLtE (rc_own2 hu F hr hx pins s σ H x y v u Q I rx ry h)
theorem op_ownLt (hu : X.A.units < cLine) (F : FnR X.prog X.w X.K X.mg X.base CX k g sp) (hr : Room k X.A) (hx : Passes CX X E) : OpR X (compareOp .Lt) (rCmp2 X.K .Lt g sp E) := fun pins s σ H x y v u Q I rx ry h => PySem.W.cmp_ofLt (rc_own2 hu F hr hx pins s σ H x y v u Q I rx ry h)
theorem op_ownGe (hu : X.A.units < cLine) (F : FnR X.prog X.w X.K X.mg X.base CX k g sp) (hr : Room k X.A) (hx : Passes CX X E) : OpR X (compareOp .GtE) (rCmp2 X.K .GtE g sp E) := fun pins s σ H x y v u Q I rx ry h => PySem.W.cmp_ofGtE (rc_own2 hu F hr hx pins s σ H x y v u Q I rx ry h)
theorem op_ownGt (hu : X.A.units < cLine) (F : FnR X.prog X.w X.K X.mg X.base CX k g sp) (hr : Room k X.A) (hx : Passes CX X E) : OpR X (compareOp .Gt) (rCmp2 X.K .Gt g sp E) := fun pins s σ H x y v u Q I rx ry h => PySem.W.cmp_ofGt (rc_own2 hu F hr hx pins s σ H x y v u Q I rx ry h)
end
end OwR
end
section
/-! Facts of the end of the top about special methods of a class. Own. -/
namespace OwH
open PySem PySem.Spec PyProof.Rows L2
def hasF (K : PySem.W.Frag) (C : Value) (m : Str) (f : Addr) : Bool := He.eqO (PySem.W.findIn K C m) (some (some (.ref f))) && PySem.W.isFn K (.ref f)
theorem hasF_ok {K : PySem.W.Frag} {C : Value} {m : Str} {f : Addr} (h : hasF K C m f = true) : PySem.W.findIn K C m = some (some (.ref f)) ∧ PySem.W.isFn K (.ref f) = true := ⟨He.eqO_ok (two h).1, (two h).2⟩
def noneOrRef : Option (Option Value) → Bool
  | some none => true
  | some (some (.ref _)) => true
  | _ => false
theorem noneOrRef_ok {x : Option (Option Value)} (h : noneOrRef x = true) : ∃ rc, x = some rc ∧ (rc = none ∨ ∃ g : Addr, rc = some (.ref g)) := by
  match x, h with
  | some none, _ => exact ⟨none, rfl, .inl rfl⟩
  | some (some (.ref g)), _ => exact ⟨_, rfl, .inr ⟨g, rfl⟩⟩
def fBin (op : Operator) (K : PySem.W.Frag) (C f : Addr) : Bool := PySem.W.selfFirst K C && (hasF K (.ref C) (PySem.dunder op.info.2) f && noneOrRef (PySem.W.findIn K (.ref C) (dunderR op.info.2)))
theorem fBin_ok {op : Operator} {K : PySem.W.Frag} {C f : Addr} (h : fBin op K C f = true) : OwR.Bin1 K op C f :=
  ⟨(two h).1, (hasF_ok (two (two h).2).1).1, (hasF_ok (two (two h).2).1).2, noneOrRef_ok (two (two h).2).2⟩
def fBinT (op : Operator) (K : PySem.W.Frag) (C : Addr) (T : String) : Bool := (PySem.W.findIn K (.type T) (PySem.dunder op.info.2)).isSome && ((PySem.W.findIn K (.type T) (dunderR op.info.2)).isSome && decide (PySem.W.subIn K (.type T) (.ref C) = some false))
theorem fBinT_ok {op : Operator} {K : PySem.W.Frag} {C : Addr} {T : String} (h : fBinT op K C T = true) : OwR.BinT K op C T :=
  ⟨Option.isSome_iff_exists.mp (two h).1, Option.isSome_iff_exists.mp (two (two h).2).1, of_decide_eq_true (two (two h).2).2⟩
def fPropAt (K : PySem.W.Frag) (C : Addr) (m : Str) (p : Addr) : Bool := He.eqO (PySem.W.findIn K (.ref C) m) (some (some (.ref p))) && (He.eqO (PySem.W.specialIn K (.ref p) "__get__") (some (some (.builtin "property.__get__"))) && (decide (PySem.W.takesIn K (.ref p) = some true) && recOk K p "property"))
theorem propAt_ok {K : PySem.W.Frag} {C p : Addr} {m : Str} (h : fPropAt K C m p = true) : PropOf K C m p (inRec K p "property") := ⟨He.eqO_ok (two h).1, He.eqO_ok (two (two h).2).1, of_decide_eq_true (two (two (two h).2).2).1, recOk_ok (two (two (two h).2).2).2⟩
def fMethAt (K : PySem.W.Frag) (C : Addr) (m : Str) (f : Addr) : Bool := hasF K (.ref C) m f && PySem.W.keepIn K (.ref f)
theorem methAt_ok {K : PySem.W.Frag} {C f : Addr} {m : Str} (h : fMethAt K C m f = true) : Meth K C m f := ⟨(hasF_ok (two h).1).1, (hasF_ok (two h).1).2, (two h).2⟩
end OwH
end
section
namespace OwD
open PySem PySem.Spec PyProof.Rows L2
theorem lays {α : Type} {f : α → PyData} : ∀ l : List α, (∀ x ∈ l, (f x).canLay0 = true) → PyData.canLayAll0 (l.map f) = true
  | [], _ => by simp [PyData.canLayAll0]
  | x :: l, h => by
    rw [List.map_cons, PyData.canLayAll0, h x List.mem_cons_self, lays l fun y hy => h y (List.mem_cons_of_mem _ hy)]
    rfl
theorem deps {α : Type} {f : α → PyData} {k : Nat} : ∀ l : List α, (∀ x ∈ l, (f x).depth ≤ k) → PyData.depthAll (l.map f) ≤ k
  | [], _ => by simp [PyData.depthAll]
  | x :: l, h => by
    have h1 := h x List.mem_cons_self
    have h2 := deps l fun y hy => h y (List.mem_cons_of_mem _ hy)
    rw [List.map_cons, PyData.depthAll]
    exact Nat.max_le.mpr ⟨h1, h2⟩
theorem shaped_of {d : PyData} (h1 : d.canLay0 = true) (h2 : d.depth ≤ 64) : SeqAt.shaped d = true := by
  show (d.canLay0 && decide (d.depth ≤ 64)) = true
  rw [h1, decide_eq_true h2]
  rfl
theorem shaped_lst {α : Type} {f : α → PyData} {l : List α} {k : Nat} (hk : k ≤ 60) (h1 : ∀ x ∈ l, (f x).canLay0 = true) (h2 : ∀ x ∈ l, (f x).depth ≤ k) : SeqAt.shaped (.list (l.map f)) = true := by
  refine shaped_of (by rw [PyData.canLay0]; exact lays l h1) ?_
  have := deps l h2
  rw [PyData.depth]
  omega
theorem shaped_tup {α : Type} {f : α → PyData} {l : List α} {k : Nat} (hk : k ≤ 60) (h1 : ∀ x ∈ l, (f x).canLay0 = true) (h2 : ∀ x ∈ l, (f x).depth ≤ k) : SeqAt.shaped (.tuple (l.map f)) = true := by
  refine shaped_of (by rw [PyData.canLay0]; exact lays l h1) ?_
  have := deps l h2
  rw [PyData.depth]
  omega
theorem dp_ints {K : PySem.W.Frag} {H : Hp} : ∀ ns : List Int, DpAll K H (ns.map V.int) (ns.map PyData.int)
  | [] => .nil
  | n :: r => .cons (.int n) (dp_ints r)
theorem dp_strs {K : PySem.W.Frag} {H : Hp} : ∀ ns : List Str, DpAll K H (ns.map V.str) (ns.map PyData.str)
  | [] => .nil
  | n :: r => .cons (.str n) (dp_strs r)
theorem shaped_ints (ns : List Int) : SeqAt.shaped (.list (ns.map PyData.int)) = true := shaped_lst (k := 0) (by decide) (fun _ _ => by simp [PyData.canLay0]) fun _ _ => by simp [PyData.depth]
theorem eqv_nil {α : Type} {f : α → PyData} (l : List α) : PyData.eqv (.list (l.map f)) (.list []) = l.isEmpty := by
  cases l <;> simp [PyData.eqv, PyData.eqvAll]
theorem shaped_nil : SeqAt.shaped (.list []) = true := shaped_of (by simp [PyData.canLay0, PyData.canLayAll0]) (by simp [PyData.depth, PyData.depthAll])
end OwD
end
section
namespace OwR
open PySem PySem.Spec PyProof.Rows L2
theorem raw0 {P : Program} {w : World} {K : PySem.W.Frag} {mg : Str → Option Value} {base : Heap} {CX : CXT} {k : Nat} {f : Addr} {fd : FuncData} {ps : List Str} {sp : Sp} (F : FnOk P w K mg base CX k f fd ps sp) (hb : Binds K fd ps []) : FnR P w K mg base CX k f sp :=
  (F.raw hb .nil).imp fun vs H Q E h => by rw [List.append_nil]; exact h
end OwR
namespace K10
open PySem PySem.Spec PyProof.Rows L2
/-- what stands behind the module's names -/
structure Nm (mg : Str → Option Value) : Prop where
  n_int : mg "int" = none
  n_len : mg "len" = none
  n_abs : mg "abs" = none
  n_list : mg "list" = none
/-- the state of the draws at p: the cells at c, how many were taken, what is left of a great one -/
structure PenAt (H : Hp) (p c : Addr) (ns : List Int) (n : Nat) (z : Int) : Prop where
  pen : H p = some (.lst [.ref c, .int n, .int z])
  cells : H c = some (.lst (ns.map V.int))
  few : ns.length ≤ 63
  rest : 0 ≤ z
theorem PenAt.ne {H : Hp} {p c : Addr} {ns : List Int} {n : Nat} {z : Int} (P : PenAt H p c ns n z) : c ≠ p := fun e => by
  have h1 := P.pen
  have h2 := P.cells
  rw [e, h1] at h2
  have h3 := congrArg (fun o : Option HO => match o with | some (.lst xs) => xs | _ => []) h2
  have h4 : ([V.ref c, V.int n, V.int z] : List V) = ns.map V.int := h3
  cases ns with
  | nil => cases h4
  | cons a l => cases h4
/-- all but the pen stands -/
def But (p : Addr) (H H' : Hp) : Prop := ∀ b o, b ≠ p → H b = some o → H' b = some o
theorem But.refl (p : Addr) (H : Hp) : But p H H := fun _ _ _ h => h
theorem But.trans {p : Addr} {H H1 H2 : Hp} (a : But p H H1) (b : But p H1 H2) : But p H H2 := fun c o n h => b c o n (a c o n h)
theorem But.new {p l : Addr} {H : Hp} {o : HO} (h : H l = none) : But p H (upd H l o) := fun b u _ e => by
  rw [upd_ne (ne_of_none e h)]
  exact e
theorem But.at {p : Addr} {H : Hp} {o : HO} : But p H (upd H p o) := fun b u n e => by
  rw [upd_ne n]
  exact e
theorem But.same {p : Addr} {H H' : Hp} (a : But p H H') (s : Same H' H') : But p H H' := a
theorem at_mod (ns : List Int) (n : Int) (h : 0 < ns.length) : ∃ x : Int, atI (ns.map V.int) (n % ((ns.map V.int).length : Int)) = some (V.int x) := by
  have hl : (ns.map V.int).length = ns.length := List.length_map _
  have h1 : 0 ≤ n % ((ns.map V.int).length : Int) := Int.emod_nonneg _ (by omega)
  have h2 : n % ((ns.map V.int).length : Int) < ((ns.map V.int).length : Int) := Int.emod_lt_of_pos _ (by omega)
  generalize n % ((ns.map V.int).length : Int) = j at h1 h2
  obtain ⟨i, rfl⟩ : ∃ i : Nat, j = (i : Int) := ⟨j.toNat, by omega⟩
  have hi : i < ns.length := by omega
  refine ⟨ns[i], atI_nat ?_⟩
  rw [List.getElem?_map, List.getElem?_eq_getElem hi]
  rfl
theorem mix_lt {x n a b c : Int} (x0 : 0 ≤ x) (x1 : x < 2147483648) (n0 : 0 ≤ n) (n1 : n < 100000) (a0 : 0 ≤ a) (a1 : a < 1000000) (b0 : 0 ≤ b) (b1 : b < 1000000) (c0 : 0 ≤ c) (c1 : c < 1000000) :
    (x * (2 * n + a) + b * n * n + c).natAbs < 2 ^ 64 := by
  have h1 : 0 ≤ x * (2 * n + a) := Int.mul_nonneg x0 (by omega)
  have h2 : x * (2 * n + a) ≤ 2147483648 * 1200000 := Int.mul_le_mul (by omega) (by omega) (by omega) (by decide)
  have h3 : 0 ≤ b * n * n := Int.mul_nonneg (Int.mul_nonneg b0 n0) n0
  have h4 : b * n ≤ 1000000 * 100000 := Int.mul_le_mul (by omega) (by omega) n0 (by decide)
  have h5 : b * n * n ≤ 1000000 * 100000 * 100000 := Int.mul_le_mul h4 (by omega) n0 (by decide)
  omega
def spDraw : Sp := fun vs H Q _ => ∃ (p c : Addr) (ns : List Int) (n : Nat) (z m : Int), vs = [.ref p, .int m] ∧ PenAt H p c ns n z ∧ n < 100000 ∧ 0 < m ∧ m.natAbs < 2 ^ 1000 ∧
  ∀ (d : Int) (n' : Nat) (z' : Int) (H' : Hp), 0 ≤ d → d < m → n' ≤ n + 1 → PenAt H' p c ns n' z' → But p H H' → Q (.int d) H'
theorem Same.of_new {H : Hp} {p : Addr} {o : HO} (h : H p = none) : Same H (upd H p o) := fun b u e => by
  rw [upd_ne (ne_of_none e h)]
  exact e
theorem But.rd {p : Addr} {H H' : Hp} (s : But p H H') {a : Addr} {o : HO} (n : a ≠ p) (h : Rd H a o) : Rd H' a o := h.elim (fun e => .inl (s a _ n e)) fun ⟨q, e⟩ => .inr ⟨q, s a _ n e⟩
theorem Same.but {H H' : Hp} (p : Addr) (s : Same H H') : But p H H' := fun b o _ e => s b o e
theorem Same.rd {H H' : Hp} (s : Same H H') {a : Addr} {o : HO} (h : Rd H a o) : Rd H' a o := h.elim (fun e => .inl (s a _ e)) fun ⟨q, e⟩ => .inr ⟨q, s a _ e⟩
theorem made_same {H H' : Hp} {x dx : Addr} {o o' : HO} (hx : H x = none) (hd : H dx = none) (s : But x (upd (upd H dx o) x o') H') : Same H H' := fun b u e => by
  refine s b u (ne_of_none e hx) ?_
  rw [upd_ne (ne_of_none e hx), upd_ne (ne_of_none e hd)]
  exact e
theorem upd_keep2 {H : Hp} {D b : Addr} {o u : HO} (h : H b = some u) (hD : H D = none) : upd H D o b = some u := by
  rw [upd_ne (ne_of_none h hD)]
  exact h
theorem SqL.mono {K : PySem.W.Frag} {H H' : Hp} {a : Addr} {xs : List V} (h : SqL K H a xs) (s : Same H H') : SqL K H' a xs := h.elim (fun r => .inl (Same.rd s r)) .inr
theorem SqT.mono {K : PySem.W.Frag} {H H' : Hp} {a : Addr} {xs : List V} (h : SqT K H a xs) (s : Same H H') : SqT K H' a xs := h.elim (fun r => .inl (Same.rd s r)) .inr
theorem But.free {p l : Addr} {H H' : Hp} (s : But p H H') (hp : H' p ≠ none) (h : H' l = none) : H l = none := by
  cases e : H l with
  | none => rfl
  | some o =>
    by_cases n : l = p
    · rw [n] at h
      exact (hp h).elim
    · rw [s l o n e] at h
      cases h
theorem PenAt.some {H : Hp} {p c : Addr} {ns : List Int} {n : Nat} {z : Int} (P : PenAt H p c ns n z) : H p ≠ none := by
  rw [P.pen]
  exact fun h => by cases h
theorem PenAt.same {H H' : Hp} {p c : Addr} {ns : List Int} {n : Nat} {z : Int} (P : PenAt H p c ns n z) (s : Same H H') : PenAt H' p c ns n z := ⟨s _ _ P.pen, s _ _ P.cells, P.few, P.rest⟩
theorem SqL.but {K : PySem.W.Frag} {p : Addr} {H H' : Hp} {a : Addr} {xs : List V} (h : SqL K H a xs) (n : a ≠ p) (s : But p H H') : SqL K H' a xs := h.elim (fun r => .inl (But.rd s n r)) .inr
theorem nth {α : Type} {xs : List α} {d : Int} (h0 : 0 ≤ d) (h1 : d < xs.length) : ∃ x, x ∈ xs ∧ atI xs d = some x := by
  obtain ⟨j, rfl⟩ : ∃ j : Nat, d = (j : Int) := ⟨d.toNat, by omega⟩
  have hj : j < xs.length := by omega
  exact ⟨xs[j], List.getElem_mem hj, atI_nat (List.getElem?_eq_getElem hj)⟩
theorem cut_63 {ns : List Int} (h : ns.length ≤ 63) : cutV (ns.map V.int) none (some 63) = ns.map V.int := by
  have e : (some 63 : Option Int) = some ((63 : Nat) : Int) := rfl
  unfold cutV
  rw [HT.sIx_none, e, HT.sIx_nat, List.drop_zero]
  exact List.take_of_length_le (by rw [List.length_map]; omega)
theorem PenAt.put {H : Hp} {p c D : Addr} {ns : List Int} {n : Nat} {z : Int} {o : HO} (P : PenAt H p c ns n z) (n1 : p ≠ D) (n2 : c ≠ D) : PenAt (upd H D o) p c ns n z := ⟨by rw [upd_ne n1]; exact P.pen, by rw [upd_ne n2]; exact P.cells, P.few, P.rest⟩
def spPen (K : PySem.W.Frag) : Sp := fun vs H Q _ => ∃ (a : Addr) (ns : List Int), vs = [.ref a] ∧ SqL K H a (ns.map V.int) ∧ ns.length ≤ 63 ∧ ∀ p c H', H p = none → Same H H' → PenAt H' p c ns 0 0 → Q (.ref p) H'
def spPick (K : PySem.W.Frag) : Sp := fun vs H Q _ => ∃ (p c l : Addr) (ns : List Int) (n : Nat) (z : Int) (xs : List V), vs = [.ref p, .ref l] ∧ PenAt H p c ns n z ∧ n < 100000 ∧ l ≠ p ∧ SqL K H l xs ∧ 0 < xs.length ∧ xs.length < 1000 ∧
  ∀ (x : V) (n' : Nat) (z' : Int) (H' : Hp), x ∈ xs → n' ≤ n + 1 → PenAt H' p c ns n' z' → But p H H' → Q x H'
theorem small_int {i : Int} (h0 : 0 ≤ i) (h1 : i < 1000) : i.natAbs < 2 ^ 1000 := Nat.lt_of_lt_of_le (show i.natAbs < 1000 by omega) (by decide +kernel)
def letter (c : Nat) : Bool := decide (97 ≤ c) && decide (c ≤ 122)
def nameB (z : Str) : Bool := (decide (1 ≤ z.length) && decide (z.length ≤ 8)) && z.cps.toList.all letter
theorem one_le (a c : Nat) : (!decide (([c] : List Nat) < [a])) = decide (a ≤ c) := by
  by_cases h : a ≤ c
  · rw [decide_eq_true h, decide_eq_false]
    · rfl
    · intro q
      rcases List.cons_lt_cons_iff.mp q with q | ⟨_, q⟩
      · omega
      · exact absurd q (by simp)
  · rw [decide_eq_false h, decide_eq_true]
    · rfl
    · exact List.cons_lt_cons_iff.mpr (.inl (by omega))
/-- what is no text -/
def NoStr (K : PySem.W.Frag) (H : Hp) (v : V) : Prop := ∃ t, TyX K H v t ∧ PySem.W.kitOne K t (.type "str") = some false
/-- what is no name -/
def NoName (K : PySem.W.Frag) (H : Hp) (v : V) : Prop := (∃ z : Str, v = .str z ∧ z.length ≤ 1000 ∧ nameB z = false) ∨ NoStr K H v
def spName (K : PySem.W.Frag) : Sp := fun vs H Q _ => ∃ v : V, vs = [v] ∧ ((∃ z : Str, v = .str z ∧ z.length ≤ 1000 ∧ ∀ H', Same H H' → Q (.bl (nameB z)) H') ∨ (NoStr K H v ∧ Q (.bl false) H))
def spCheck (K : PySem.W.Frag) (CB : Addr) : Sp := fun vs H Q E => ∃ v : V, vs = [v] ∧ ((∃ z : Str, v = .str z ∧ z.length ≤ 1000 ∧ nameB z = true ∧ ∀ H', Same H H' → Q .non H') ∨ (NoName K H v ∧ ∀ H' d, Same H H' → H' d = none → E (.ref CB) (some d) (upd H' d (.xd [("value", v)]))))
theorem name_short {z : Str} (h : nameB z = true) (B : Nat) : PyData.leavesShort B (.str z) = true := by
  unfold nameB at h
  have h2 := List.all_eq_true.mp (Bool.and_eq_true_iff.mp h).2
  show (z.cps.toList.all fun c => decide (c < 16 ^ 8)) = true
  refine List.all_eq_true.mpr fun c hc => ?_
  have h3 := h2 c hc
  unfold letter at h3
  have h4 := of_decide_eq_true (Bool.and_eq_true_iff.mp h3).2
  exact decide_eq_true (by omega)
theorem name_strOk {z : Str} (h : nameB z = true) : PyData.strOk z = true := by
  have h2 := List.all_eq_true.mp (Bool.and_eq_true_iff.mp (show (_ && _) = true from h)).2
  unfold PyData.strOk
  rw [Array.all_eq_true']
  intro c hc
  have h3 := h2 c (Array.mem_toList_iff.mpr hc)
  unfold letter at h3
  have h4 := of_decide_eq_true (Bool.and_eq_true_iff.mp h3).2
  exact decide_eq_true (by omega)
theorem strOk_app {x y : Str} (hx : PyData.strOk x = true) (hy : PyData.strOk y = true) : PyData.strOk (x ++ y) = true := by
  obtain ⟨c⟩ := x
  obtain ⟨d⟩ := y
  show (c ++ d).all _ = true
  rw [Array.all_append]
  exact Bool.and_eq_true_iff.mpr ⟨hx, hy⟩
theorem shaped_strs {zs : List Str} (h : ∀ z ∈ zs, PyData.strOk z = true) : SeqAt.shaped (.list (zs.map PyData.str)) = true := by
  refine OwD.shaped_lst (k := 0) (by decide) (fun z hz => ?_) fun z hz => ?_
  · rw [PyData.canLay0]
    exact h z hz
  · exact Nat.le_of_ble_eq_true rfl
theorem eqv_strs {zs : List Str} (h : ∀ z ∈ zs, PyData.strOk z = true) : PyData.eqv (.list (zs.map PyData.str)) (.list (zs.map PyData.str)) = true := SeqAt.eqv_refl _ (SeqAt.canLay_of_shaped (shaped_strs h))
theorem shown_fits {d : PyData} (h : d.leavesShort 100 = true) (hb : d.bulk ≤ 1000) : d.shown.length ≤ sizeLine := by
  have := PyData.shown_le_bulk 100 (by decide) d h
  have sz := sizeLine_eq
  have h2 : (100 + 2) * d.bulk ≤ (100 + 2) * 1000 := Nat.mul_le_mul_left _ hb
  omega
/-- the error class at C, as a def that raises it wants it -/
structure ErrT (K : PySem.W.Frag) (mg : Str → Option Value) (x : Str) (C fI : Addr) : Prop where
  er : OwE.ErrC K C
  g : mg x = some (.ref C)
  ini : PySem.W.findIn K (.ref C) "__init__" = some (some (.ref fI))
  ty : PySem.W.typeIn K (.ref fI) = some (.type "function")
theorem joinL_singles : ∀ cs : List Nat, TL.joinL [] (cs.map fun c => [c]) = cs
  | [] => rfl
  | [_] => rfl
  | a :: b :: r => by
    have ih := joinL_singles (b :: r)
    show [a] ++ ([] ++ TL.joinL [] ((b :: r).map fun c => [c])) = a :: b :: r
    rw [ih]
    rfl
theorem join_signs (cs : List Nat) : Txt.join Str.empty (cs.map fun c => (⟨#[c]⟩ : Str)) = ⟨cs.toArray⟩ := by
  rw [← TL.mk_tl (Txt.join Str.empty (cs.map fun c => (⟨#[c]⟩ : Str))), TL.join_eq, TL.tl_join, List.map_map]
  have e : TL.joinL (TL.tl Str.empty) (cs.map (TL.tl ∘ fun c => (⟨#[c]⟩ : Str))) = cs := joinL_singles cs
  rw [e]
def spPickS : Sp := fun vs H Q _ => ∃ (p c : Addr) (ns : List Int) (n : Nat) (z : Int) (t : Str), vs = [.ref p, .str t] ∧ PenAt H p c ns n z ∧ n < 100000 ∧ 0 < t.length ∧ t.length < 1000 ∧
  ∀ (x : Nat) (n' : Nat) (z' : Int) (H' : Hp), x ∈ t.cps.toList → n' ≤ n + 1 → PenAt H' p c ns n' z' → But p H H' → Q (.str ⟨#[x]⟩) H'
theorem letters_name {cs : List Nat} (h1 : 1 ≤ cs.length) (h8 : cs.length ≤ 8) (hc : ∀ c ∈ cs, letter c = true) : nameB ⟨cs.toArray⟩ = true := by
  unfold nameB
  have e : (⟨cs.toArray⟩ : Str).length = cs.length := List.size_toArray
  rw [e, decide_eq_true h1, decide_eq_true h8, Bool.true_and, Bool.true_and]
  exact List.all_eq_true.mpr hc
end K10
end
section
/-! Own: a lambda handed to a def of the text by its name; what stays meanwhile. -/
namespace OwE
open PySem PySem.Spec PyProof.Rows L2
theorem pe_lam {X : Cx} {x a q : Str} {sH : Stmt} {g c Pt : Addr} {gd : FuncData} {Ng : List Str} {TT : (XK → Hp → VK → Prop) → Hp → VK → Prop} {k : Nat} {params : Arguments} {body : Expr} {scope : Scope} {t : XK → TE} {p lpos pos : Pos}
    (hg : Gl X x) (F : Fun X.K x x sH g gd) (hm : X.mg x = some (.ref g)) (hb : L2.Binds X.K gd [a] []) (Sg : FnScope Ng [a] (defScope sH)) (hNg : Ng[0]? = some a) (hva : Vis (defScope sH) a) (hq : X.env.qual ++ "<lambda>" = q)
    (hG : ∀ cdv, LamX.GivesTo X Ng x (defScope sH) g cdv (defBody sH) a q TT) (TB : LamX.TabB X.base X.mg c Pt) (hcode : X.env.code = .ref c) (hr : Room (k + 2) X.A) (L : LamX.LamS X.env.scope scope)
    (hbody : ∀ (A : Around) (outer : List Env) (s : Shared) (H : Hp) (E : XK) (f c' : Addr), Room k (A.deeper (LamX.lamEnv X scope s.heap.objs.size f c')) → PE (LamX.lamCx X A outer s H E scope f c') body (t E))
    (hdef : defaultsOf params X.env = ([], []) := by rfl) (hbind : ∀ (q : Str) (cl : List (Str × Addr)) (pm cv ctv : Value), bindArgs (PySem.W.kla_fn "<lambda>" q params body scope cl pm cv ctv) ⟨[], []⟩ = pure [] := by intros; rfl)
    (hdb : (x == ("__debug__" : Str)) = false := by decide) (hd : (a == ("__debug__" : Str)) = false := by decide) (hcd : (a == ("__classdict__" : Str)) = false := by decide) :
    PE X (.Call (.Name x p) [.Lambda params body scope lpos] [] pos) (LamX.tLam [(Pt, q)] TT t) := by
  subst hq
  obtain ⟨oc, od, kV, doc, pm, an, cdv, ct, osl, rfl, lk, hcdv⟩ := F.ex
  exact LamX.pe_lamcall hg hm F.kp lk hcdv hb Sg hNg hva (hG cdv) TB hcode (List.mem_singleton.mpr rfl) (fun p hp _ => by rw [List.mem_singleton.mp hp]) hr L hdef hbind hbody hdb hd hcd
/-- what is wished may lean on the number of slots -/
theorem takes_len {X : Cx} {W : WX} (t : Takes X W) : Takes X (fun c d σ H => σ.length = X.N.length → W c d σ H) := fun u s' ⟨a, B, sI, pins, σ, H, cls, d, e, I, nb, up, sky, na, os, ag, w⟩ =>
  t u s' ⟨a, B, sI, pins, σ, H, cls, d, e, I, nb, up, sky, na, os, ag, w I.len⟩
theorem set_get {σ : L2.St} {n i : Nat} {v : Option V} (h : σ.length = n) (hi : i < n) : (σ.set i v)[i]? = some v := by
  rw [List.getElem?_set_self (by omega)]
end OwE
namespace K10
open PySem PySem.Spec PyProof.Rows L2
/-- all but the pen and the tables of code stay -/
def Lo (p : Addr) (H H' : Hp) : Prop := ∀ b o, b ≠ p → (∀ ps, o ≠ .tbl ps) → H b = some o → H' b = some o
theorem Lo.refl (p : Addr) (H : Hp) : Lo p H H := fun _ _ _ _ h => h
theorem Lo.trans {p : Addr} {H H1 H2 : Hp} (a : Lo p H H1) (b : Lo p H1 H2) : Lo p H H2 := fun c o n t h => b c o n t (a c o n t h)
theorem But.lo {p : Addr} {H H' : Hp} (s : But p H H') : Lo p H H' := fun b o n _ h => s b o n h
theorem Same.lo {H H' : Hp} (p : Addr) (s : Same H H') : Lo p H H' := fun b o _ _ h => s b o h
theorem extN_lo {H H' : Hp} (p : Addr) (s : LamX.ExtN H H') : Lo p H H' := fun b o _ t h => s b o h t
theorem PenAt.ext {H H' : Hp} {p c : Addr} {ns : List Int} {n : Nat} {z : Int} (P : PenAt H p c ns n z) (s : LamX.ExtN H H') : PenAt H' p c ns n z := ⟨s _ _ P.pen (fun ps h => by cases h), s _ _ P.cells (fun ps h => by cases h), P.few, P.rest⟩
theorem PenAt.lo {H H' : Hp} {p c : Addr} {ns : List Int} {n : Nat} {z : Int} (P : PenAt H p c ns n z) (s : Lo p H H') (hp : H' p = H p) : PenAt H' p c ns n z := ⟨hp.trans P.pen, s _ _ P.ne (fun ps h => by cases h) P.cells, P.few, P.rest⟩
theorem PenAt.ne_of {H : Hp} {p c : Addr} {ns : List Int} {n : Nat} {z : Int} (P : PenAt H p c ns n z) {b : Addr} {o : HO} (h : H b = Option.some o) (d : ∀ (c : Addr) (n z : Int), o ≠ .lst [.ref c, .int n, .int z]) : b ≠ p := fun q => by
  rw [q, P.pen] at h
  exact d _ _ _ (Option.some.inj h).symm
theorem tabs_but {T : List (Addr × Str)} {H H' : Hp} {p c : Addr} {ns : List Int} {n : Nat} {z : Int} (t : LamX.Tabs T H) (P : PenAt H p c ns n z) (s : But p H H') : LamX.Tabs T H' := fun e he => by
  obtain ⟨ps, h1, h2, h3⟩ := t e he
  have np : ∀ {b : Addr} {o : HO}, H b = some o → (∀ xs, o ≠ .lst xs) → b ≠ p := fun {b o} h d q => by
    rw [q, P.pen] at h
    exact d _ (Option.some.inj h).symm
  refine ⟨ps, s _ _ (np h1 fun xs h => by cases h) h1, h2, fun pos cv hc => ?_⟩
  obtain ⟨c2, e1, e2⟩ := h3 pos cv hc
  exact ⟨c2, e1, s _ _ (np e2 fun xs h => by
    unfold LamX.CodeO at h
    cases h) e2⟩
theorem tabs_put {T : List (Addr × Str)} {H : Hp} {l : Addr} {xs : List V} {o : HO} (t : LamX.Tabs T H) (h : H l = some (.lst xs)) : LamX.Tabs T (upd H l o) := fun e he => by
  obtain ⟨ps, h1, h2, h3⟩ := t e he
  have np : ∀ {b : Addr} {o : HO}, H b = some o → (∀ xs, o ≠ .lst xs) → b ≠ l := fun {b o} e d q => by
    rw [q, h] at e
    exact d _ (Option.some.inj e).symm
  refine ⟨ps, by rw [upd_ne (np h1 fun xs h => by cases h)]; exact h1, h2, fun pos cv hc => ?_⟩
  obtain ⟨c2, e1, e2⟩ := h3 pos cv hc
  have n2 : c2 ≠ l := np e2 fun xs h => by
    unfold LamX.CodeO at h
    cases h
  exact ⟨c2, e1, by rw [upd_ne n2]; exact e2⟩
theorem PenAt.lput {H : Hp} {p c l : Addr} {ns : List Int} {n : Nat} {z : Int} {s : Str} {xs : List V} {o : HO} (P : PenAt H p c ns n z) (nl : l ≠ p) (h : H l = Option.some (.lst (.str s :: xs))) : PenAt (upd H l o) p c ns n z := by
  refine P.put (Ne.symm nl) fun q => ?_
  rw [← q, P.cells] at h
  cases ns with
  | nil => cases h
  | cons a r => cases h
theorem tabs_same {T : List (Addr × Str)} {H H' : Hp} (t : LamX.Tabs T H) (s : Same H H') : LamX.Tabs T H' := t.ext fun b o h => s b o h
end K10
end
section
namespace OwR
open PySem PySem.Spec PyProof.Rows L2
/-! ### tuple(d), d a dict: its keys -/
section
variable {prog : Program} {w : World} {A : Around} {E : Value → Shared → Prop} {s : Shared} {T : String} {r d : Addr} {n : Nat} {P : Nat → Value → Prop} {OK : Heap → Prop}
theorem collect_src {Q : List Value → Shared → Prop} (K : PySem.W.KdlSrc prog w T r d n P OK) (hh : A.handled = none) (hok : OK s.heap) (hn : n ≤ sizeLine)
    (hQ : ∀ h' tk (out : List Value), (∀ b o, s.heap.get? b = some o → h'.get? b = some o) → out.length = n → (∀ j v, out[j]? = some v → P j v) → Q out { s with heap := h', toks := tk }) :
    wpAny (model prog w) A (collect (.ref r)) Q E s := by
  unfold collect
  refine wpAny_bind (wpAny_runValue (codeAny_builtin F.entry_proto_collect ?_))
  rw [Around.under_plainId F.plain_proto_collect _]
  show wpAny _ A.in1 (newList [] >>= fun l => again (.builtin "list.__iadd__" ⟨[l, .ref r], []⟩)) _ _ s
  refine wpAny_bind (wpAny_newObj_type ?_)
  refine wpAny_pure ⟨plainId_quiet F.plain_list_iadd _, codeAny_builtin F.entry_list_iadd ?_⟩
  rw [Around.under_plainId F.plain_list_iadd _]
  have there := K.there _ hok
  have hS : (s.heap.push { cls := .type "list", data := .seq ([] : List Value).toArray }).get? s.heap.objs.size = some { cls := .type "list", data := .seq #[] 0 } := Heap.get?_push_size _ rfl
  have fin : ∀ h' tk (acc : Array Value) (c : Nat), (∀ b o, b ≠ s.heap.objs.size → (s.heap.push { cls := .type "list", data := .seq ([] : List Value).toArray }).get? b = some o → h'.get? b = some o) →
      h'.get? s.heap.objs.size = some { cls := .type "list", dict := none, data := .seq acc c, slots := #[] } → ItemsOf P acc n →
      wpAny (model prog w) A (load s.heap.objs.size >>= fun ob => match ob.data with
        | .seq vs _ => pure vs.toList
        | _ => unsupported "internal:collect") Q E { s with heap := h', toks := tk } := fun h' tk acc c k hS' hacc =>
    wpAny_bind (wpAny_load hS' (wpAny_pure (hQ h' tk acc.toList (fun b o e => k b o (Nat.ne_of_lt (Heap.lt_size e)) (Heap.get?_push_of_some _ e)) (by rw [Array.length_toList]; exact hacc.1) fun j v e => hacc.2 j v (by rw [← Array.getElem?_toList]; exact e))))
  refine wpAny_mono (PySem.W.kdl_extend (A := A) (R := fun r s' => r = .ok (.ret (.ref s.heap.objs.size)) ∧ wpAny (model prog w) A (load s.heap.objs.size >>= fun ob => match ob.data with
        | .seq vs _ => pure vs.toList
        | _ => unsupported "internal:collect") Q E s') (s := { s with heap := s.heap.push { cls := .type "list", data := .seq ([] : List Value).toArray } }) K hh (K.keep _ _ hok fun b _ o e => Heap.get?_push_of_some _ e) s.heap.objs.size
    (Nat.ne_of_gt there.1) (Nat.ne_of_gt there.2) (.ref s.heap.objs.size) 0 hS (fun h' tk acc c k hS' hacc => ⟨rfl, fin h' tk acc c k hS' hacc⟩) hn) (fun f s' h => ?_) fun e s' h => ?_
  · cases f with
    | done f =>
      obtain ⟨e, z⟩ := h
      cases e
      exact z
    | again c' => exact ⟨h.1, codeAny_mono h.2 fun r s2 hr => by obtain ⟨rfl, z⟩ := hr; exact z⟩
  · cases h.1
theorem call_tuple_src {Q : Value → Shared → Prop} (K : PySem.W.KdlSrc prog w T r d n P OK) (hok : OK s.heap) (hn : n ≤ sizeLine) (hh : A.handled = none)
    (hQ : ∀ (h' : Heap) (tk : Nat) (out : List Value), (∀ b o, s.heap.get? b = some o → h'.get? b = some o) → out.length = n → (∀ j v, out[j]? = some v → P j v) →
      Q (.ref h'.objs.size) { s with heap := h'.push { cls := .type "tuple", data := .seq out.toArray }, toks := tk }) :
    wpAny (model prog w) A (call (.type "tuple") [.ref r]) Q E s := by
  have M : MeetsIn prog w (Builtin.«tuple.__new__» ⟨[.type "tuple", .ref r], []⟩) (fun (A' : Around) (R : Result → Shared → Prop) (s : Shared) => A'.handled = none ∧ OK s.heap ∧ ∀ (h' : Heap) (tk : Nat) (out : List Value), (∀ b o, s.heap.get? b = some o → h'.get? b = some o) → out.length = n → (∀ j v, out[j]? = some v → P j v) →
      R (.ok (.ret (.ref h'.objs.size))) { s with heap := h'.push { cls := .type "tuple", data := .seq out.toArray }, toks := tk }) := .of_wp fun A R s h => by
    obtain ⟨hp, g, dr, tk, os⟩ := s
    obtain ⟨hh', ht, h⟩ := h
    have hsub := sub_tuple_self
    have hinit := init_tuple_lookup
    have hmh := madeHere_tuple
    have hT : Shared.TypeIs ⟨hp, g, dr, tk, os⟩ (.ref r) T := K.type _ ht
    have col : ∀ {Q : List Value → Shared → Prop} {E : Value → Shared → Prop}, (∀ (h' : Heap) (tk' : Nat) (out : List Value), (∀ b o, hp.get? b = some o → h'.get? b = some o) → out.length = n → (∀ j v, out[j]? = some v → P j v) → Q out ⟨h', g, dr, tk', os⟩) →
        wpAny (model prog w) A.in1 (collect (.ref r)) Q E ⟨hp, g, dr, tk, os⟩ := fun hq => collect_src (s := ⟨hp, g, dr, tk, os⟩) K hh' ht hn hq
    have hnt : (Value.type T == Value.type "tuple") = false := K.notTuple
    wp_walk using wpAny_typeOf hT, col
    intro h' tk' out k l1 l2
    refine wpAny_bind (wpAny_pure ?_)
    show wpAny _ _ (Builtin.Tuple.tupleExact out.toArray >>= fun v => ret v) _ _ _
    unfold Builtin.Tuple.tupleExact
    refine wpAny_bind (wpAny_newObj_type ?_ (by show out.toArray.size ≤ sizeLine; rw [List.size_toArray, l1]; exact hn))
    exact wpAny_pure ⟨_, rfl, h h' tk' out k l1 l2⟩
  exact callType_newIn F.called_tuple (by decide) (F.typeCall_tuple_1 _) (F.newCall_tuple_1 _) (fun obj => F.args_object_init_2 obj _) F.entry_tuple_new M
    ⟨hh, hok, fun h' tk out k l1 l2 => ⟨⟨_, Heap.get?_push_size _ rfl, rfl⟩, hQ h' tk out k l1 l2⟩⟩
end
theorem call_tupleD {X : Cx} (hcalm : X.calm = true) : CallR X (.type "tuple") (fun xs H Q => ∃ (a : Addr) (kvs : List (Key × V)), xs = [.ref a] ∧ Rd H a (.dK kvs) ∧ ∀ p, H p = none → Q (.ref p) (upd H p (.tup (kvs.map fun kv => kV kv.1)))) := by
  intro pins s σ H xs us Q I r q
  obtain ⟨a, kvs, ex, hd, q⟩ := q
  subst ex
  obtain ⟨u, eu, rx⟩ := vals1 r
  subst eu
  cases rx
  obtain ⟨z, lo, vs, rel, dd⟩ := dk_rd I.hok hd
  obtain ⟨ep, hat⟩ := dd.dictAt
  have ek : (kvs.map fun kv => kV kv.1) = vs.map fun p => kV p.1 := by
    have e := congrArg (List.map kV) rel.keys
    rw [List.map_map, List.map_map] at e
    exact e
  refine call_tuple_src (PySem.W.kdl_dict (knd := mixKind X.prog X.w) (kvs := vs) (ep := ep) lo) hat (by rw [← rel.length]; exact z) (I.ok.hd hcalm) fun h' tk out k l1 l2 => ?_
  have hv : Vals (vs.map fun p => kV p.1) out := keys_at l1 fun j v e => l2 j v e
  have I1 : Inv X pins σ H { s with heap := h', toks := tk } := I.kept (t' := tk) k
  exact ⟨.ref h'.objs.size, _, I1.laid (t' := tk) (o := .tup (kvs.map fun kv => kV kv.1)) (fun b o e => Heap.get?_push_of_some _ e) (Nat.le_refl _) ⟨by rw [List.length_map]; exact z, out, by rw [ek]; exact hv, ⟨_, Heap.get?_push_size _ rfl, rfl, 0, rfl⟩⟩, rfl, q _ (I1.hok.fresh (Nat.le_refl _))⟩
end OwR
end
section
namespace TSet
open PySem PySem.Spec PyProof.Rows L2
/-- an entry of a set of texts -/
def TE (w : World) (e : Int × Value) : Prop := ∃ z tk, e = (hashStr w z, Value.str z tk)
def tk1 (e : Int × Value) : Str := strOf e.2
/-- the set object at a holds just the texts L, each once -/
def TS (w : World) (h : Heap) (a : Addr) (L : List Str) : Prop :=
  ∃ ob ents ep tab, h.get? a = some ob ∧ ob.ExactSet ∧ ob.data = .set ents ep tab ∧ (∀ e ∈ ents.toList, TE w e) ∧ (ents.toList.map tk1).Perm L ∧
    L.Nodup ∧ L.length < scanBound ∧ tab.fits ents.size = true ∧ Ris tab.place.toList ∧ (w.params.followText "set-order" = true ∨ tab.led = true)
section
variable {P : Program} {w : World} {h h' : Heap} {a : Addr} {L : List Str}
theorem TS.keep (R : TS w h a L) (k : ∀ o, h.get? a = some o → h'.get? a = some o) : TS w h' a L := by
  obtain ⟨ob, ents, ep, tab, h1, rest⟩ := R
  exact ⟨ob, ents, ep, tab, k ob h1, rest⟩
theorem te_is {e : Int × Value} (g : TE w e) (z : Str) : (strKind P w).is z e.2 = true ↔ tk1 e = z := by
  obtain ⟨y, tk, rfl⟩ := g
  show ((y == z) = true) ↔ y = z
  exact beq_iff_eq
theorem te_elems {l : List (Int × Value)} (g : ∀ e ∈ l, TE w e) : ElemsOf (strKind P w) l := fun e he => by
  obtain ⟨z, tk, rfl⟩ := g e he
  exact ⟨⟨z, strKind_is P w z tk, rfl⟩, rfl⟩
theorem te_mem {l : List (Int × Value)} (g : ∀ e ∈ l, TE w e) (z : Str) : z ∈ l.map tk1 ↔ ∃ e ∈ l, (strKind P w).is z e.2 = true := by
  constructor
  · intro m
    obtain ⟨e, he, q⟩ := List.mem_map.mp m
    exact ⟨e, he, (te_is (g e he) z).2 q⟩
  · rintro ⟨e, he, q⟩
    exact List.mem_map.mpr ⟨e, he, (te_is (g e he) z).1 q⟩
theorem TS.fresh {ob : Obj} (ho : h.get? a = some ob) (e : ob = { cls := .type "set", dict := none, data := .set #[] 0 (.fresh 0 0 (!w.params.followText "set-order")) }) : TS w h a [] := by
  subst e
  refine ⟨_, #[], 0, _, ho, ⟨rfl, rfl, rfl⟩, rfl, fun e he => by simp at he, List.Perm.refl _, List.nodup_nil, by decide, rfl, List.Pairwise.nil, ?_⟩
  show w.params.followText "set-order" = true ∨ (!w.params.followText "set-order") = true
  cases w.params.followText "set-order" <;> simp
end
/-- one more text -/
def put1 (L : List Str) (z : Str) : List Str := if z ∈ L then L else z :: L
theorem put1_len (L : List Str) (z : Str) : (put1 L z).length ≤ L.length + 1 := by
  unfold put1
  split
  · exact Nat.le_succ _
  · exact Nat.le_refl _
section
variable {P : Program} {w : World} {A : Around} {E : Value → Shared → Prop} {s : Shared} {a : Addr} {L : List Str}
theorem ts_add_end {g : Bool → Sem Unit} (hg : ∀ (b : Bool) (s₁ : Shared) (Q' : Unit → Shared → Prop), Q' () s₁ → wpAny (model P w) A (g b) Q' E s₁)
    {ob : Obj} {ents : Array (Int × Value)} {ep : Nat} {tab : SetTable} (ho : s.heap.get? a = some ob) (hex : ob.ExactSet) (hd : ob.data = .set ents ep tab)
    {en1 : Array (Int × Value)} {tb : SetTable} {M : List Str} (g1 : ∀ e ∈ en1.toList, TE w e) (pm1 : (en1.toList.map tk1).Perm M) (nd1 : M.Nodup)
    (hb : M.length < scanBound) (hf : tb.fits en1.size = true) (hr : Ris tb.place.toList) (hl : w.params.followText "set-order" = true ∨ tb.led = true) {dm : Bool} {R : Option Bool → Shared → Prop}
    (hR : ∀ h', Heap.SameBut a s.heap h' → TS w h' a M → R (some true) { s with heap := h' }) :
    wpAny (model P w) A (do
        storeSet a en1 tb
        if (!dm && tb.tooFull) = true then do
            g (relayAll tb en1 (SetTable.grown en1.size)).2.2
            storeSet a (relayAll tb en1 (SetTable.grown en1.size)).1 (relayAll tb en1 (SetTable.grown en1.size)).2.1
            pure (some true)
          else pure (some true)) R E s := by
  have hn1 : en1.size = M.length := by
    have q := pm1.length_eq
    rw [List.length_map, Array.length_toList] at q
    exact q
  refine wpAny_bind (wpAny_storeSet_of ho hd ?_ (fits_of_scanBound (by rw [hn1]; exact hb)))
  have ho1 := store_at (es' := en1) (t' := tb) ho hd
  have sb1 := Heap.SameBut.update s.heap a (Obj.putSet en1 tb)
  split
  · have pm := relayAll_perm tb en1 (SetTable.grown en1.size)
    have hf3 := relayAll_fits tb en1 (SetTable.grown en1.size)
    have hr3 := relayAll_ris tb en1 (SetTable.grown en1.size)
    have hl3 := relayAll_led tb en1 (SetTable.grown en1.size)
    generalize relayAll tb en1 (SetTable.grown en1.size) = Z at pm hf3 hr3 hl3 ⊢
    obtain ⟨en2, tb3, gave⟩ := Z
    dsimp only at pm hf3 hr3 hl3 ⊢
    have hn2 : en2.size = M.length := by rw [← hn1, ← Array.length_toList, pm.length_eq, Array.length_toList]
    refine wpAny_bind (hg _ _ _ ?_)
    refine wpAny_bind (wpAny_storeSet_of ho1 rfl ?_ (fits_of_scanBound (by rw [hn2]; exact hb)))
    have ho2 := store_at (es' := en2) (t' := tb3) ho1 rfl
    exact wpAny_pure (hR _ (sb1.trans (Heap.SameBut.update _ a _)) ⟨_, en2, _, tb3, ho2, hex, rfl, fun e he => g1 e (pm.mem_iff.mp he), (pm.map tk1).trans pm1, nd1, hb, hf3, hr3, by rw [hl3]; exact hl⟩)
  · exact wpAny_pure (hR _ sb1 ⟨_, en1, _, tb, ho1, hex, rfl, g1, pm1, nd1, hb, hf, hr, hl⟩)
theorem ts_add {z : Str} {tk : Tok} {Q : Bool → Shared → Prop} (R : TS w s.heap a L) (room : L.length + 1 < scanBound)
    (hQ : ∀ b h', Heap.SameBut a s.heap h' → TS w h' a (put1 L z) → Q b { s with heap := h' }) :
    wpAny (model P w) A (setAddHashed a (.str z tk) ((strKind P w).hash z)) Q E s := by
  obtain ⟨ob, ents, ep, tab, ho, hex, hd, g, pm0, nd, hb, hf, hr, hl⟩ := R
  have hkey : (strKind P w).is z (.str z tk) = true := strKind_is P w z tk
  have hsc : (Value.str z tk).scannable = true := rfl
  have hel : ElemsOf (strKind P w) ents.toList := te_elems g
  have hn : ents.size = L.length := by
    have q := pm0.length_eq
    rw [List.length_map, Array.length_toList] at q
    exact q
  unfold setAddHashed setAddHashedIn
  refine wpAny_holding (wpAny_bind (wpAny_setState_of ho hd hf ?_))
  dsimp only
  rw [byScan_of hsc (by rw [hn]; exact hb) hel]
  simp only [↓reduceIte]
  unfold setAddByScan
  refine wpAny_bind (wpAny_bind (wpAny_rule (wpAny_bind (wpAny_setScan_of hkey ho hd hf hel ?_))))
  cases hfi : List.findIdx? (fun e => (strKind P w).is z e.2) ents.toList with
  | some j =>
    dsimp only
    obtain ⟨hj, pj, _⟩ := List.findIdx?_eq_some_iff_getElem.mp hfi
    have hz : z ∈ L := pm0.mem_iff.mp ((te_mem (P := P) (w := w) g z).2 ⟨ents.toList[j], List.getElem_mem hj, pj⟩)
    refine wpAny_pure (wpAny_pure ?_)
    refine hQ _ s.heap (Heap.SameBut.refl a s.heap) ?_
    unfold put1
    rw [if_pos hz]
    exact ⟨ob, ents, ep, tab, ho, hex, hd, g, pm0, nd, hb, hf, hr, hl⟩
  | none =>
    dsimp only
    have hz : z ∉ L := fun q => by
      obtain ⟨e, he, c⟩ := (te_mem (P := P) (w := w) g z).1 (pm0.mem_iff.mpr q)
      have d := List.findIdx?_eq_none_iff.mp hfi e he
      rw [c] at d
      cases d
    have hgw : ∀ (b : Bool) {s₁ : Shared} {Q' : Unit → Shared → Prop}, Q' () s₁ → wpAny (model P w) A (match b with | true => rule "set.scan.the-table-gave-way" | false => pure ()) Q' E s₁ :=
      fun b _ _ q => by cases b <;> first | exact wpAny_pure q | exact wpAny_rule q
    have pm := layNew_perm tab ents ((strKind P w).hash z) (.str z tk)
    have hf1 := layNew_fits tab ents ((strKind P w).hash z) (.str z tk)
    have hr1 := layNew_ris tab ents ((strKind P w).hash z) (.str z tk) hr
    have hl1 := layNew_led tab ents ((strKind P w).hash z) (.str z tk)
    generalize layNew tab ents ((strKind P w).hash z) (.str z tk) = Z at pm hf1 hr1 hl1 ⊢
    obtain ⟨en1, tb1, dmy, gave⟩ := Z
    dsimp only at pm hf1 hr1 hl1 ⊢
    rw [Array.toList_push] at pm
    have pc : en1.toList.Perm (((strKind P w).hash z, Value.str z tk) :: ents.toList) := pm.trans (List.perm_append_singleton _ _)
    have pk : (en1.toList.map tk1).Perm (z :: L) := (pc.map tk1).trans (List.Perm.cons z pm0)
    have g1 : ∀ e ∈ en1.toList, TE w e := fun e he => by
      rcases List.mem_cons.mp (pc.mem_iff.mp he) with q | q
      · exact ⟨z, tk, q⟩
      · exact g e q
    have nd1 : (z :: L).Nodup := List.nodup_cons.mpr ⟨hz, nd⟩
    have hled : w.params.followText "set-order" = true ∨ tb1.led = true := by rw [hl1]; exact hl
    have e1 : put1 L z = z :: L := if_neg hz
    rw [e1] at hQ
    refine wpAny_bind (hgw _ ?_)
    split
    · refine wpAny_bind ?_
      rw [hashByValue_scannable 8 hsc]
      refine wpAny_pure ?_
      refine ts_add_end (dm := dmy) ?_ ho hex hd g1 pk nd1 room ?_ ?_ ?_ ?_
      · intro b _ _ q; cases b <;> first | exact wpAny_pure q | exact wpAny_rule q
      · first | (split <;> first | exact hf1 | exact SetTable.fits_plain_off hf1) | exact hf1
      · first | (split <;> exact hr1) | exact hr1
      · first | (split <;> exact hled) | exact hled
      · intro h' sb r; dsimp only; exact wpAny_pure (hQ _ h' sb r)
    · refine wpAny_bind (wpAny_pure ?_)
      simp only [↓reduceIte]
      refine ts_add_end (dm := dmy) ?_ ho hex hd g1 pk nd1 room hf1 hr1 hled ?_
      · intro b _ _ q; cases b <;> first | exact wpAny_pure q | exact wpAny_rule q
      · intro h' sb r; dsimp only; exact wpAny_pure (hQ _ h' sb r)
end
end TSet
end
section
namespace TSet
open PySem PySem.Spec PyProof.Rows L2
/-- the texts of a list, each once -/
def ded (xs : List Str) : List Str := xs.foldl put1 []
theorem put1_mem (L : List Str) (z y : Str) : y ∈ put1 L z ↔ y = z ∨ y ∈ L := by
  unfold put1
  split
  · rename_i h
    exact ⟨.inr, fun q => q.elim (fun e => e ▸ h) id⟩
  · exact List.mem_cons
theorem fold_mem : ∀ (xs L : List Str) (y : Str), y ∈ xs.foldl put1 L ↔ y ∈ L ∨ y ∈ xs
  | [], L, y => by simp
  | x :: xs, L, y => by
    rw [List.foldl_cons, fold_mem xs, put1_mem, List.mem_cons]
    constructor
    · rintro ((q | q) | q)
      · exact .inr (.inl q)
      · exact .inl q
      · exact .inr (.inr q)
    · rintro (q | q | q)
      · exact .inl (.inr q)
      · exact .inl (.inl q)
      · exact .inr q
theorem ded_mem (xs : List Str) (y : Str) : y ∈ ded xs ↔ y ∈ xs := by
  unfold ded
  rw [fold_mem]
  simp
theorem fold_len : ∀ (xs L : List Str), (xs.foldl put1 L).length ≤ L.length + xs.length
  | [], L => Nat.le_refl _
  | x :: xs, L => by
    have q := fold_len xs (put1 L x)
    have r := put1_len L x
    rw [List.foldl_cons, List.length_cons]
    omega
theorem ded_len (xs : List Str) : (ded xs).length ≤ xs.length := by
  have q := fold_len xs []
  unfold ded
  simpa using q
theorem ded_snoc (xs : List Str) (x : Str) : ded (xs ++ [x]) = put1 (ded xs) x := by
  unfold ded
  rw [List.foldl_append]
  rfl
theorem take_snoc {α : Type} {l : List α} {i : Nat} {x : α} (h : l[i]? = some x) : l.take (i + 1) = l.take i ++ [x] := by
  rw [List.take_add_one, h]
  rfl
section
variable {P : Program} {w : World} {A : Around} {E : Value → Shared → Prop} {s : Shared}
theorem upd_loop {I : Addr} {fp wr : List Addr} {G : Array GenState → Array GenState → Prop} {n : Nat} {Pv : Nat → Value → Prop} {St : Nat → Shared → Prop} {R : Result → Shared → Prop}
    (W : WalksS P w A.in1 I fp wr G n Pv St) (S : Addr) (out : S ∉ fp) (xs : List Str) (hn : n = xs.length) (few : xs.length < scanBound) (hval : ∀ i v, Pv i v → ∃ z t, xs[i]? = some z ∧ v = .str z t) :
    ∀ (k i : Nat) (s : Shared), n - i = k → i ≤ n → St i s → TS w s.heap S (ded (xs.take i)) →
      (∀ s', Moved (S :: wr) G s s' → TS w s'.heap S (ded xs) → R (.ok (.ret .none)) s') →
      codeAny (model P w) A (.builtin "set.update.loop" ⟨[.ref S, .ref I], []⟩) R s := by
  have hSw : S ∉ wr := fun h => out (W.sub _ h)
  have hsub : ∀ b ∈ wr, b ∈ S :: wr := fun b hb => List.mem_cons_of_mem _ hb
  intro k
  induction k with
  | zero =>
    intro i s hk hi hst hS hR
    obtain rfl : i = n := by omega
    refine codeAny_builtin F.entry_set_update_loop ?_
    rw [Around.under_plainId F.plain_set_update_loop _]
    refine wpAny_bind (m := pyNext (.ref I)) (W.done s _ _ hst fun s' hm => ?_)
    rw [hn, List.take_length] at hS
    exact wpAny_pure (hR s' (hm.mono hsub) (hS.keep fun o e => hm.heap S o hSw e))
  | succ k ih =>
    intro i s hk hi hst hS hR
    have hlt : i < n := by omega
    refine codeAny_builtin F.entry_set_update_loop ?_
    rw [Around.under_plainId F.plain_set_update_loop _]
    refine wpAny_bind (m := pyNext (.ref I)) (W.item i s _ _ hlt hst fun v s' hP hst' hm => ?_)
    obtain ⟨z, t, hz, rfl⟩ := hval i v hP
    have hS1 : TS w s'.heap S (ded (xs.take i)) := hS.keep fun o e => hm.heap S o hSw e
    have hl : (ded (xs.take i)).length + 1 < scanBound ∨ (ded (xs.take i)).length + 1 ≤ xs.length := by
      have q := ded_len (xs.take i)
      rw [List.length_take] at q
      right
      omega
    have hroom : (ded (xs.take i)).length + 1 < scanBound := hl.elim id fun q => Nat.lt_of_le_of_lt q few
    refine wpAny_bind (m := holding [Value.str z t] (setAdd S (.str z t))) (wpAny_holding ?_)
    unfold setAdd
    refine wpAny_holding (wpAny_bind ((strKind P w).pyHash (k := z) (strKind_is _ _ _ _) ?_))
    refine ts_add (s := { s' with toks := s'.toks + 1 }) hS1 hroom fun b h' sb hS2 => ?_
    rw [← ded_snoc, ← take_snoc hz] at hS2
    refine wpAny_pure ⟨plainId_quiet F.plain_set_update_loop _, ih (i + 1) _ (by omega) hlt (W.frame _ s' _ _ hst' (Nat.le_succ _) fun c hc o e => ?_) hS2 fun s2 hm2 hS3 => ?_⟩
    · rw [sb.2 c fun q => out (q ▸ hc)]; exact e
    · refine hR s2 (Moved.trans W.gtrans ((hm.mono hsub).then_heap (Nat.le_succ _) fun c o hc e => ?_) hm2) hS3
      rw [sb.2 c fun q => hc (by rw [q]; exact List.mem_cons_self)]; exact e
theorem strs_ix : ∀ {us : List Value} {xs : List Str}, StrsAre us xs → ∀ (i : Nat) (v : Value), us[i]? = some v → ∃ z t, xs[i]? = some z ∧ v = .str z t
  | _, _, .nil, i, v, h => by simp at h
  | _, _, .cons z t _, 0, v, h => ⟨z, t, rfl, (Option.some.inj h).symm⟩
  | _, _, .cons _ _ r, i + 1, v, h => by
    rw [List.getElem?_cons_succ] at h
    rw [List.getElem?_cons_succ]
    exact strs_ix r i v h
abbrev nob (w : World) : Obj := { cls := .type "set", dict := none, data := .set #[] 0 (.fresh 0 0 (!w.params.followText "set-order")) }
/-- set(xs), xs a list of texts -/
theorem call_set_texts {l : Addr} {items : Array Value} {xs : List Str} {Q : Value → Shared → Prop} (hh : A.handled = none) (hl : s.heap.IsList l items) (hi : StrsAre items.toList xs) (few : xs.length < scanBound)
    (hq : ∀ (h' : Heap) (tk : Nat), TS w h' s.heap.objs.size (ded xs) → (∀ b o, s.heap.get? b = some o → h'.get? b = some o) → Q (.ref s.heap.objs.size) { s with heap := h', toks := tk }) :
    wpAny (model P w) A (call (.type "set") [.ref l]) Q E s := by
  have hisz : items.size = xs.length := by rw [← Array.length_toList]; exact StrsAre.len_eq hi
  obtain ⟨c, tl, hmro⟩ := F.called_set.mro
  have hmade := F.called_set.made
  have hsub := F.called_set.sub
  refine wpAny_call (codeAny_of_tree ?_)
  show wpAny _ _ (callAny (.type "set") _) _ _ _
  refine wpAny_pure ⟨Code.quiet_builtin _ (by decide +kernel), codeAny_builtin F.entry_type_call ?_⟩
  rw [Around.under_plain (weight_type_call_type "set" [.ref l] []) rfl]
  have h1 := F.called_set.notType
  have h2 := F.called_set.canCreate
  have hct := F.typeCall_set_1 (.ref l)
  repeat (any_goals (first | assumption | wp_step))
  refine codeAny_mono (code_set_led1 (.ref l) (E := E) (Q₁ := fun ov s₁ => ov = .ref s.heap.objs.size ∧ s₁ = { s with heap := s.heap.push { cls := .type "set", dict := none, data := .set #[] 0 (.fresh 0 0 (!w.params.followText "set-order")) } }) ⟨rfl, rfl⟩) fun r s₁ hr => ?_
  cases r with
  | error e => exact hr
  | ok fl =>
    cases fl with
    | ret ov =>
      obtain ⟨rfl, rfl⟩ := hr
      have hS : (s.heap.push (nob w)).get? s.heap.objs.size = some (nob w) := Heap.get?_push_size _ rfl
      have hT : Shared.TypeIs { s with heap := s.heap.push (nob w) } (.ref s.heap.objs.size) "set" := ⟨_, hS, rfl⟩
      have hli := F.called_set.init.lookup
      have hbi := F.called_set.init.bind (.ref s.heap.objs.size)
      repeat (any_goals (first | assumption | wp_step))
      refine codeAny_mono (codeAny_call_builtin (R := wants (fun r s₂ => r = .none ∧ ∃ h' tk, s₂ = { s with heap := h', toks := tk } ∧ TS w h' s.heap.objs.size (ded xs) ∧
          (∀ b o, s.heap.get? b = some o → h'.get? b = some o)) E) F.called_set.init.plain F.entry_set_init (check_set_init_1 hT ?_)) fun r₂ s₂ hr₂ => ?_
      · obtain ⟨ol, hol, hcl, nl, hdl⟩ := hl
        obtain ⟨ocls, odict, odata, oslots⟩ := ol
        simp only at hcl hdl
        subst hcl; subst hdl
        have hol' : (s.heap.push (nob w)).get? l = some { cls := .type "list", dict := odict, data := .seq items nl, slots := oslots } := Heap.get?_push_of_some _ hol
        have hsls := F.sub_list_set
        have hslf := F.sub_list_frozenset
        have hne : (Value.type "list" == Value.type "dict") = false := by decide
        have hl1 : (s.heap.push (nob w)).IsList l items := ⟨_, hol', rfl, nl, rfl⟩
        unfold Builtin.«set.__init__» noKeywords Builtin.Frozenset.updateFrom
        generalize hPI : pyIter = PI
        wp_walk
        subst hPI
        refine wpAny_pyIter_list hl1 ?_
        refine wpAny_bind (wpAny_runValue ?_)
        have hlS : l < s.heap.objs.size := Heap.lt_size hol
        have hz1 : (s.heap.push (nob w)).objs.size = s.heap.objs.size + 1 := Heap.size_push ..
        have hneI : l ≠ (s.heap.push (nob w)).objs.size := by rw [hz1]; exact Nat.ne_of_lt (Nat.lt_succ_of_lt hlS)
        have hSf : s.heap.objs.size ∉ [(s.heap.push (nob w)).objs.size, l] := by
          rw [hz1]
          intro m
          rcases List.mem_cons.mp m with q | q
          · exact absurd q (Nat.ne_of_lt (Nat.lt_succ_self _))
          · exact absurd (List.mem_singleton.mp q) (Nat.ne_of_gt hlS)
        refine upd_loop (A := A.in1.in1) ((Walks.list (by simp [hh]) _ l hneI items).toS) s.heap.objs.size hSf xs hisz few
          (fun i v hv => strs_ix hi i v (by rw [Array.getElem?_toList]; exact hv)) (items.size - 0) 0 _ rfl (Nat.zero_le _)
          ⟨⟨_, Heap.get?_push_size _ rfl, rfl, rfl⟩, (hl1.push _)⟩ ?hS0 ?hR
        case hS0 => exact TS.fresh (Heap.get?_push_of_some _ hS) rfl
        case hR =>
          intro s' hm hS'
          obtain ⟨h', g2, d', tk', os'⟩ := s'
          have eg : g2 = s.gens := hm.gens
          have ed : d' = s.drawn := hm.drawn
          have eo : os' = s.os := hm.os
          subst eg; subst ed; subst eo
          show wpAny _ _ _ _ _ _
          refine wpAny_pure ?_
          show wpAny _ _ (ret Value.none) _ _ _
          refine wpAny_pure ⟨rfl, h', tk', rfl, hS', fun b o e => ?_⟩
          have hlt := Heap.lt_size e
          refine hm.heap b o (fun m => ?_) (Heap.get?_push_of_some _ (Heap.get?_push_of_some _ e))
          rcases List.mem_cons.mp m with q | q
          · exact absurd q (Nat.ne_of_lt hlt)
          · have q := List.mem_singleton.mp q
            rw [hz1] at q
            exact absurd q (Nat.ne_of_lt (Nat.lt_succ_of_lt hlt))
      · cases r₂ with
        | error e => exact hr₂
        | ok fl₂ =>
          cases fl₂ with
          | ret r =>
            obtain ⟨rfl, h', tk, rfl, hS', hk'⟩ := hr₂
            repeat (any_goals (first | assumption | wp_step))
            exact hq _ _ hS' hk'
          | _ => exact hr₂.elim
    | _ => exact hr.elim
end
end TSet
end
section
namespace TSet
open PySem PySem.Spec PyProof.Rows L2
section
variable {P : Program} {w : World} {A : Around} {E : Value → Shared → Prop} {s : Shared} {a : Addr} {L : List Str}
theorem sorted_texts {Q : Value → Shared → Prop} (R : TS w s.heap a L) (hh : A.handled = none) (few : L.length < 64)
    (hQ : ∀ s' p (out : Array Value) (c : Nat) (ys : List Str), (∀ b o, s.heap.get? b = some o → s'.heap.get? b = some o) → s'.gens = s.gens → s'.os = s.os → s.heap.objs.size ≤ p →
      s'.heap.get? p = some (seqObj "list" out c) → StrsAre out.toList ys → ys.Perm L → sortedS ys = true → Q (.ref p) s') :
    wpAny (model P w) A (call (.builtin "sorted") [.ref a]) Q E s := by
  obtain ⟨ob, ents, ep, tab, ho, hex, hd, g, pm0, nd, hb, hf, hr, hl⟩ := R
  have hn : ents.size = L.length := by
    have q := pm0.length_eq
    rw [List.length_map, Array.length_toList] at q
    exact q
  refine Calls.call_function_entry kind_sorted plain_sorted entry_sorted (args_sorted1 _) ?_
  unfold Builtin.«sorted»
  refine wpAny_bind (m := checkCount "sorted" 1 1 _) (wpAny_pure ?_)
  refine wpAny_bind (collect_set (A := A.in1) hh ⟨ob, ho, hex.1, hd⟩ hf (by rw [hn]; exact hb) hr hl fun s1 vs k1 hz g1 o1 pm => ?_)
  have pv : (vs.map strOf).Perm L := by
    have q := pm.map strOf
    rw [List.map_map] at q
    exact q.trans pm0
  have hvl : vs.length = L.length := by
    have q := pv.length_eq
    rw [List.length_map] at q
    exact q
  have hS : StrsAre vs (vs.map strOf) := strsAre_map vs fun v hv => by
    obtain ⟨e, he, q⟩ := List.mem_map.mp (pm.mem_iff.mp hv)
    obtain ⟨z, tk, rfl⟩ := g e he
    exact ⟨z, tk, q.symm⟩
  refine wpAny_bind (wpAny_newList ?_ (by rw [hvl, sizeLine_eq]; omega))
  have hoL : (s1.heap.push (seqObj "list" vs.toArray 0)).get? s1.heap.objs.size = some (seqObj "list" vs.toArray 0) := Heap.get?_push_size _ rfl
  refine wpAny_bind (wpAny_holding (wpAny_call_entry slot_list_sort ⟨_, hoL, rfl⟩ entry_list_sort
    (list_sort_treeK strKind_oneLt hoL hS.keysOf (fun v₁ v₂ rest e => keyKind_strs (by rw [← e]; exact hS)) (by rw [hvl]; exact few) fun st' hp hs => ⟨_, rfl, ?_⟩) (args_list_sort _)))
  obtain ⟨ys, y1, y2, y3⟩ := sorted_out_str hS hp hs
  obtain ⟨c, hc⟩ := sortedHeap_at (vs := vs) (out := (arrOf st').map (·.2)) hoL
  refine wpAny_pure ⟨_, rfl, hQ _ s1.heap.objs.size _ c ys (fun b u e => ?_) g1 o1 hz hc y1 (y2.trans pv) y3⟩
  have q := k1 b u e
  have hlt := Heap.lt_size q
  show (sortedHeap (s1.heap.push (seqObj "list" vs.toArray 0)) s1.heap.objs.size vs ((arrOf st').map (·.2))).get? b = some u
  rw [sortedHeap_old (Nat.ne_of_lt hlt) (by rw [size_push']; exact Nat.lt_succ_of_lt hlt)]
  exact Heap.get?_push_of_some _ q
end
/-! ### over the layer -/
def TSO (w : World) (a : Addr) (L : List Str) : HO := .ext fun h => TS w h a L
theorem tso_new {P : Program} {w : World} {H : Hp} {h : Heap} {a : Addr} {L : List Str} (R : TS w h a L) : ObjOk P w H h a (TSO w a L) := by
  have ⟨ob, _, _, _, ho, _⟩ := R
  exact ⟨R, ⟨ob, ho⟩, fun _ _ p k => p.keep k⟩
section
variable {X : Cx}
/-- set(xs), xs a list of texts, and sorted of it -/
def rSetS (K : PySem.W.Frag) (w : World) : List V → Hp → VK → Prop := fun vs H Q => ∃ (l : Addr) (xs : List Str), vs = [V.ref l] ∧ SqL K H l (xs.map V.str) ∧ xs.length < scanBound ∧
  ∀ a, H a = none → Q (.ref a) (upd H a (TSO w a (ded xs)))
theorem cr_setS (hc : X.calm = true) : CallR X (.type "set") (rSetS X.K X.w) := by
  intro pins s σ H vs us Q I r h
  obtain ⟨l, xs, rfl, hl, few, q⟩ := h
  rw [Vals.ref1 r]
  obtain ⟨its, rv, pl, _⟩ := I.list hl
  have hn : H s.heap.objs.size = none := I.hok.fresh (Nat.le_refl _)
  refine call_set_texts (P := X.prog) (I.ok.hd hc) pl.isList (by simpa using Vals.strs rv) few fun h' tk R k => ?_
  exact ⟨.ref s.heap.objs.size, upd H s.heap.objs.size (TSO X.w s.heap.objs.size (ded xs)), I.laid (t' := tk) k (Nat.le_refl _) (tso_new R), rfl, q _ hn⟩
def rSortedTexts (w : World) : List V → Hp → VK → Prop := fun vs H Q => ∃ (a : Addr) (L : List Str), vs = [V.ref a] ∧ H a = some (TSO w a L) ∧ L.length < 64 ∧
  ∀ (ys : List Str) (p : Addr), ys.Perm L → sortedS ys = true → H p = none → Q (.ref p) (upd H p (.lst (ys.map V.str)))
theorem cr_sortedTexts (hc : X.calm = true) : CallR X (.builtin "sorted") (rSortedTexts X.w) := by
  intro pins s σ H vs us Q I r h
  obtain ⟨a, L, rfl, ha, few, q⟩ := h
  have R : TS X.w s.heap a L := (I.hok a _ ha).1
  rw [Vals.ref1 r]
  refine sorted_texts (P := X.prog) R (I.ok.hd hc) few fun s' p out c ys k g o hp hg hS pm srt => ?_
  have hlen : (ys.map V.str).length ≤ sizeLine := by
    rw [List.length_map, pm.length_eq, sizeLine_eq]
    omega
  have hn : H p = none := I.hok.fresh hp
  have J : Inv X pins σ (upd H p (.lst (ys.map V.str))) { s with heap := s'.heap, gens := s'.gens, drawn := s'.drawn, toks := s'.toks } :=
    I.call (ch := []) (Un.laid k hp hn) (I.hok.laid k hp ⟨hlen, out.toList, c, vals_of_strs hS, hg⟩) (by rw [g]; exact I.bare) (fun _ z => nomatch z)
  have e : s' = { s with heap := s'.heap, gens := s'.gens, drawn := s'.drawn, toks := s'.toks } := by
    cases s'
    cases s
    cases o
    rfl
  rw [e]
  exact ⟨.ref p, _, J, rfl, q ys p pm srt hn⟩
end
end TSet
end
section
/-! Own: what rules choose, their one form; ascending texts; tables. Nothing of a law's text. -/
namespace K10
open PySem PySem.Spec PyProof.Rows L2

abbrev Pk := Str × Int
/-- the bay of the first pick that is open at f -/
def choose (f : Str → Int) : List Pk → Option Str
  | [] => none
  | p :: r => if p.2 < f p.1 then some p.1 else choose f r
def setM (m : Str → Option Int) (b : Str) (k : Int) : Str → Option Int := fun y => if y = b then some k else m y
/-- is it kept behind what was passed? -/
def keeps (m : Str → Option Int) (p : Pk) : Bool := match m p.1 with
  | none => true
  | some k => decide (p.2 < k)
def mAfter (m : Str → Option Int) (p : Pk) : Str → Option Int := if keeps m p = true then setM m p.1 p.2 else m
def kept (m : Str → Option Int) : List Pk → List Pk
  | [] => []
  | p :: r => if keeps m p = true then p :: kept (setM m p.1 p.2) r else kept m r
def mEnd (m : Str → Option Int) : List Pk → (Str → Option Int)
  | [] => m
  | p :: r => mEnd (mAfter m p) r
theorem kept_app (x : Pk) : ∀ (l : List Pk) (m : Str → Option Int), kept m (l ++ [x]) = kept m l ++ (if keeps (mEnd m l) x = true then [x] else [])
  | [], m => by
    show (if keeps m x = true then x :: kept (setM m x.1 x.2) [] else kept m []) = [] ++ (if keeps m x = true then [x] else [])
    split <;> rfl
  | p :: r, m => by
    show (if keeps m p = true then p :: kept (setM m p.1 p.2) (r ++ [x]) else kept m (r ++ [x])) = (if keeps m p = true then p :: kept (setM m p.1 p.2) r else kept m r) ++ (if keeps (mEnd (mAfter m p) r) x = true then [x] else [])
    by_cases h : keeps m p = true
    · rw [if_pos h, if_pos h, kept_app x r, List.cons_append]
      unfold mAfter
      rw [if_pos h]
    · rw [if_neg h, if_neg h, kept_app x r]
      unfold mAfter
      rw [if_neg h]
theorem mEnd_app (x : Pk) : ∀ (l : List Pk) (m : Str → Option Int), mEnd m (l ++ [x]) = mAfter (mEnd m l) x
  | [], _ => rfl
  | p :: r, m => mEnd_app x r (mAfter m p)
theorem kept_len : ∀ (l : List Pk) (m : Str → Option Int), (kept m l).length ≤ l.length
  | [], _ => Nat.le_refl 0
  | p :: r, m => by
    show (if keeps m p = true then p :: kept (setM m p.1 p.2) r else kept m r).length ≤ r.length + 1
    split
    · exact Nat.succ_le_succ (kept_len r _)
    · exact Nat.le_succ_of_le (kept_len r _)
theorem kept_below : ∀ (l : List Pk) (m : Str → Option Int) (p : Pk), p ∈ kept m l → ∀ k, m p.1 = some k → p.2 < k
  | [], _, p, h, _, _ => by cases h
  | q :: r, m, p, h, k, e => by
    have h' : p ∈ (if keeps m q = true then q :: kept (setM m q.1 q.2) r else kept m r) := h
    by_cases c : keeps m q = true
    · rw [if_pos c] at h'
      have c2 := c
      unfold keeps at c2
      rcases List.mem_cons.mp h' with rfl | h2
      · rw [e] at c2
        exact of_decide_eq_true c2
      · by_cases e2 : p.1 = q.1
        · have h3 := kept_below r _ p h2 q.2 (by unfold setM; rw [if_pos e2])
          rw [← e2, e] at c2
          have h4 : q.2 < k := of_decide_eq_true c2
          omega
        · exact kept_below r _ p h2 k (by unfold setM; rw [if_neg e2]; exact e)
    · rw [if_neg c] at h'
      exact kept_below r _ p h' k e
/-- neighbours of one bay have falling keeps -/
def Falls : List Pk → Prop
  | [] => True
  | [_] => True
  | p :: q :: r => (p.1 = q.1 → q.2 < p.2) ∧ Falls (q :: r)
theorem falls_kept : ∀ (l : List Pk) (m : Str → Option Int), Falls (kept m l)
  | [], _ => True.intro
  | p :: r, m => by
    show Falls (if keeps m p = true then p :: kept (setM m p.1 p.2) r else kept m r)
    split
    · have ih := falls_kept r (setM m p.1 p.2)
      have hb := kept_below r (setM m p.1 p.2)
      cases h : kept (setM m p.1 p.2) r with
      | nil => exact True.intro
      | cons q t =>
        rw [h] at ih hb
        exact ⟨fun e => hb q List.mem_cons_self p.2 (by unfold setM; rw [if_pos e.symm]), ih⟩
    · exact falls_kept r m
theorem choose_kept (f : Str → Int) : ∀ (l : List Pk) (m : Str → Option Int), (∀ b k, m b = some k → f b ≤ k) → choose f (kept m l) = choose f l
  | [], _, _ => rfl
  | p :: r, m, h => by
    show choose f (if keeps m p = true then p :: kept (setM m p.1 p.2) r else kept m r) = (if p.2 < f p.1 then some p.1 else choose f r)
    by_cases c : keeps m p = true
    · rw [if_pos c]
      show (if p.2 < f p.1 then some p.1 else choose f (kept (setM m p.1 p.2) r)) = _
      by_cases o : p.2 < f p.1
      · rw [if_pos o, if_pos o]
      · rw [if_neg o, if_neg o]
        refine choose_kept f r _ fun b k e => ?_
        unfold setM at e
        by_cases e2 : b = p.1
        · rw [if_pos e2] at e
          cases e
          rw [e2]
          omega
        · rw [if_neg e2] at e
          exact h b k e
    · rw [if_neg c, choose_kept f r m h, if_neg]
      intro o
      unfold keeps at c
      cases e : m p.1 with
      | none => rw [e] at c; exact c rfl
      | some k =>
        rw [e] at c
        have h1 := h _ _ e
        exact c (decide_eq_true (by omega))
/-- without those behind which the same bay stands -/
def step2 : List Pk → List Pk
  | [] => []
  | [p] => [p]
  | p :: q :: r => if p.1 = q.1 then step2 (q :: r) else p :: step2 (q :: r)
theorem choose_step2 (f : Str → Int) : ∀ l : List Pk, Falls l → choose f (step2 l) = choose f l
  | [], _ => rfl
  | [_], _ => rfl
  | p :: q :: r, h => by
    show choose f (if p.1 = q.1 then step2 (q :: r) else p :: step2 (q :: r)) = (if p.2 < f p.1 then some p.1 else choose f (q :: r))
    have ih := choose_step2 f (q :: r) h.2
    by_cases e : p.1 = q.1
    · rw [if_pos e, ih]
      by_cases o : p.2 < f p.1
      · rw [if_pos o]
        show (if q.2 < f q.1 then some q.1 else choose f r) = some p.1
        have := h.1 e
        rw [if_pos (by rw [← e]; omega), e]
      · rw [if_neg o]
    · rw [if_neg e]
      show (if p.2 < f p.1 then some p.1 else choose f (step2 (q :: r))) = _
      rw [ih]
def oneForm (l : List Pk) : List Pk := step2 (kept (fun _ => none) l)
theorem choose_form (f : Str → Int) (l : List Pk) : choose f (oneForm l) = choose f l :=
  (choose_step2 f _ (falls_kept l _)).trans (choose_kept f l _ fun _ _ e => by cases e)
theorem step2_len : ∀ l : List Pk, (step2 l).length ≤ l.length
  | [] => Nat.le_refl 0
  | [_] => Nat.le_refl 1
  | p :: q :: r => by
    have ih := step2_len (q :: r)
    show (if p.1 = q.1 then step2 (q :: r) else p :: step2 (q :: r)).length ≤ (q :: r).length + 1
    split
    · omega
    · exact Nat.succ_le_succ ih
theorem form_len (l : List Pk) : (oneForm l).length ≤ l.length := Nat.le_trans (step2_len _) (kept_len l _)
/-- the filter by the bays behind -/
def behind (l : List Pk) : List (Option Str) := (l.drop 1).map (fun p => some p.1) ++ [none]
theorem step2_zip : ∀ l : List Pk, step2 l = ((l.zip (behind l)).filter fun e => decide (some e.1.1 ≠ e.2)).map (·.1)
  | [] => rfl
  | [p] => by
    show [p] = (([(p, none)] : List (Pk × Option Str)).filter _).map _
    rfl
  | p :: q :: r => by
    have ih := step2_zip (q :: r)
    have e1 : (p :: q :: r).zip (behind (p :: q :: r)) = (p, some q.1) :: (q :: r).zip (behind (q :: r)) := rfl
    rw [e1, List.filter_cons]
    show (if p.1 = q.1 then step2 (q :: r) else p :: step2 (q :: r)) = _
    by_cases e : p.1 = q.1
    · rw [if_pos e, ih, if_neg (by simp [e])]
    · rw [if_neg e, ih, if_pos (by simp [e]), List.map_cons]
theorem putK_keys {kvs : List (Key × V)} {xs : List Str} (e : kvs.map (·.1) = xs.map Sum.inr) (z : Str) (v : V) : ∃ ys : List Str, (putK kvs (Sum.inr z) v).map (·.1) = ys.map Sum.inr ∧ ys.length ≤ xs.length + 1 := by
  unfold putK
  split
  · refine ⟨xs, ?_, Nat.le_succ _⟩
    rw [← e, List.map_map]
    refine List.map_congr_left fun kv _ => ?_
    show (if kv.1 = Sum.inr z then (kv.1, v) else kv).1 = kv.1
    split <;> rfl
  · refine ⟨xs ++ [z], ?_, by rw [List.length_append]; exact Nat.le_refl _⟩
    rw [List.map_append, List.map_append, e]
    rfl
def Good (p : Pk) : Prop := nameB p.1 = true ∧ p.1.length ≤ 1000 ∧ 0 ≤ p.2 ∧ p.2 ≤ 9
theorem mem_kept : ∀ (l : List Pk) (m : Str → Option Int) (p : Pk), p ∈ kept m l → p ∈ l
  | [], _, _, h => h
  | q :: r, m, p, h => by
    have h' : p ∈ (if keeps m q = true then q :: kept (setM m q.1 q.2) r else kept m r) := h
    split at h'
    · rcases List.mem_cons.mp h' with e | h2
      · exact List.mem_cons.mpr (.inl e)
      · exact List.mem_cons_of_mem _ (mem_kept r _ p h2)
    · exact List.mem_cons_of_mem _ (mem_kept r _ p h')
theorem mem_step2 : ∀ (l : List Pk) (p : Pk), p ∈ step2 l → p ∈ l
  | [], _, h => h
  | [_], _, h => h
  | a :: b :: r, p, h => by
    have h' : p ∈ (if a.1 = b.1 then step2 (b :: r) else a :: step2 (b :: r)) := h
    split at h'
    · exact List.mem_cons_of_mem _ (mem_step2 (b :: r) p h')
    · rcases List.mem_cons.mp h' with e | h2
      · exact List.mem_cons.mpr (.inl e)
      · exact List.mem_cons_of_mem _ (mem_step2 (b :: r) p h2)
theorem mem_form {l : List Pk} {p : Pk} (h : p ∈ oneForm l) : p ∈ l := mem_kept l _ p (mem_step2 _ p h)

/-- one form: the keeps of a bay fall, neighbours are unlike, no keep is below 0 -/
def Norm : List Pk → Prop
  | [] => True
  | p :: r => (∀ q ∈ r, q.1 = p.1 → q.2 < p.2) ∧ (∀ q, r.head? = some q → q.1 ≠ p.1) ∧ 0 ≤ p.2 ∧ Norm r
theorem choose_congr {f g : Str → Int} : ∀ {l : List Pk}, (∀ p ∈ l, (p.2 < f p.1 ↔ p.2 < g p.1)) → choose f l = choose g l
  | [], _ => rfl
  | p :: r, h => by
    have h1 := h p List.mem_cons_self
    have ih := choose_congr (l := r) fun q hq => h q (List.mem_cons_of_mem _ hq)
    show (if p.2 < f p.1 then some p.1 else choose f r) = (if p.2 < g p.1 then some p.1 else choose g r)
    rw [ih]
    by_cases c : p.2 < f p.1
    · rw [if_pos c, if_pos (h1.mp c)]
    · rw [if_neg c, if_neg fun q => c (h1.mpr q)]
theorem choose_head {f : Str → Int} {p : Pk} {r : List Pk} (h : p.2 < f p.1) : choose f (p :: r) = some p.1 := if_pos h
theorem choose_tail {f : Str → Int} {p : Pk} {r : List Pk} (h : ¬ p.2 < f p.1) : choose f (p :: r) = choose f r := if_neg h
/-- the first one of a bay has the smaller keep: the other list chooses otherwise -/
theorem no_less {x : Str} {k m : Int} {a b : List Pk} (ha : Norm ((x, k) :: a)) (h : ∀ f, choose f ((x, k) :: a) = choose f ((x, m) :: b)) (lt : m < k) : False := by
  obtain ⟨h1, h2, h3, h4⟩ := ha
  cases a with
  | nil =>
    have e := h fun z => m + 1
    rw [choose_tail (p := (x, k)) (by show ¬ k < m + 1; omega), choose_head (p := (x, m)) (by show m < m + 1; omega)] at e
    cases e
  | cons q r =>
    have ne : q.1 ≠ x := h2 q rfl
    have e := h fun z => if z = x then m + 1 else q.2 + 1
    rw [choose_tail (p := (x, k)) (by show ¬ k < (if x = x then m + 1 else q.2 + 1); rw [if_pos rfl]; omega), choose_head (p := q) (by rw [if_neg ne]; omega), choose_head (p := (x, m)) (by show m < (if x = x then m + 1 else q.2 + 1); rw [if_pos rfl]; omega)] at e
    exact ne (Option.some.inj e)
theorem uniq : ∀ (a b : List Pk), Norm a → Norm b → (∀ f, choose f a = choose f b) → a = b
  | [], [], _, _, _ => rfl
  | [], (y, m) :: b, _, _, h => by
    have e := h fun _ => m + 1
    rw [choose_head (p := (y, m)) (by show m < m + 1; omega)] at e
    cases e
  | (x, k) :: a, [], _, _, h => by
    have e := h fun _ => k + 1
    rw [choose_head (p := (x, k)) (by show k < k + 1; omega)] at e
    cases e
  | (x, k) :: a, (y, m) :: b, ha, hb, h => by
    have exy : x = y := by
      by_cases c : x = y
      · exact c
      · have e := h fun z => if z = x then k + 1 else m + 1
        rw [choose_head (p := (x, k)) (by show k < (if x = x then k + 1 else m + 1); rw [if_pos rfl]; omega), choose_head (p := (y, m)) (by show m < (if y = x then k + 1 else m + 1); rw [if_neg fun q => c q.symm]; omega)] at e
        exact Option.some.inj e
    subst exy
    have ekm : k = m := by
      rcases Int.lt_trichotomy k m with c | c | c
      · exact (no_less hb (fun f => (h f).symm) c).elim
      · exact c
      · exact (no_less ha h c).elim
    subst ekm
    have cut : ∀ (l : List Pk), (∀ q ∈ l, q.1 = x → q.2 < k) → ∀ f : Str → Int, choose f l = choose (fun z => if z = x then min (f x) k else f z) ((x, k) :: l) := fun l hl f => by
      rw [choose_tail (p := (x, k)) (by show ¬ k < (if x = x then min (f x) k else f x); rw [if_pos rfl]; omega)]
      refine choose_congr fun p hp => ?_
      by_cases c : p.1 = x
      · have := hl p hp c
        rw [if_pos c, c]
        omega
      · rw [if_neg c]
    rw [uniq a b ha.2.2.2 hb.2.2.2 fun f => by rw [cut a ha.1 f, cut b hb.1 f, h]]
def FA : List Pk → Prop
  | [] => True
  | p :: r => (∀ q ∈ r, q.1 = p.1 → q.2 < p.2) ∧ FA r
theorem fa_kept : ∀ (l : List Pk) (m : Str → Option Int), FA (kept m l)
  | [], _ => True.intro
  | p :: r, m => by
    show FA (if keeps m p = true then p :: kept (setM m p.1 p.2) r else kept m r)
    split
    · exact ⟨fun q hq e => kept_below r (setM m p.1 p.2) q hq p.2 (by unfold setM; rw [if_pos e]), fa_kept r _⟩
    · exact fa_kept r m
theorem norm_step2 : ∀ (l : List Pk), FA l → (∀ p ∈ l, 0 ≤ p.2) → Norm (step2 l) ∧ (step2 l).head?.map (·.1) = l.head?.map (·.1)
  | [], _, _ => ⟨True.intro, rfl⟩
  | [p], _, h => ⟨⟨(fun q hq => by cases hq), (fun q hq => by cases hq), h p List.mem_cons_self, True.intro⟩, rfl⟩
  | p :: q :: r, fa, h => by
    have ih := norm_step2 (q :: r) fa.2 fun z hz => h z (List.mem_cons_of_mem _ hz)
    show Norm (if p.1 = q.1 then step2 (q :: r) else p :: step2 (q :: r)) ∧ (if p.1 = q.1 then step2 (q :: r) else p :: step2 (q :: r)).head?.map (·.1) = some p.1
    by_cases c : p.1 = q.1
    · rw [if_pos c, c]
      exact ih
    · rw [if_neg c]
      refine ⟨⟨fun z hz e => fa.1 z (mem_step2 _ z hz) e, fun z hz e => ?_, h p List.mem_cons_self, ih.1⟩, rfl⟩
      have e2 := ih.2
      rw [hz] at e2
      have e3 : z.1 = q.1 := Option.some.inj e2
      exact c (e.symm.trans e3)
theorem norm_form {l : List Pk} (h : ∀ p ∈ l, 0 ≤ p.2) : Norm (oneForm l) := (norm_step2 _ (fa_kept l _) fun p hp => h p (mem_kept l _ p hp)).1
/-- what chooses alike has one form -/
theorem form_eq {a b : List Pk} (ha : ∀ p ∈ a, 0 ≤ p.2) (hb : ∀ p ∈ b, 0 ≤ p.2) (h : ∀ f, choose f a = choose f b) : oneForm a = oneForm b :=
  uniq _ _ (norm_form ha) (norm_form hb) fun f => by rw [choose_form, choose_form, h]
theorem choose_app (f : Str → Int) : ∀ (a b : List Pk), choose f (a ++ b) = (choose f a).or (choose f b)
  | [], b => rfl
  | p :: r, b => by
    show (if p.2 < f p.1 then some p.1 else choose f (r ++ b)) = (if p.2 < f p.1 then some p.1 else choose f r).or (choose f b)
    by_cases c : p.2 < f p.1
    · rw [if_pos c, if_pos c]
      rfl
    · rw [if_neg c, if_neg c]
      exact choose_app f r b

def leS (x y : Str) : Prop := ¬ y.cps.toList < x.cps.toList
theorem leS_trans {x y z : Str} (h1 : leS x y) (h2 : leS y z) : leS x z := List.le_trans (α := Nat) (l₁ := x.cps.toList) (l₂ := y.cps.toList) (l₃ := z.cps.toList) h1 h2
theorem leS_anti {x y : Str} (h1 : leS x y) (h2 : leS y x) : x = y := by
  have e : x.cps.toList = y.cps.toList := List.le_antisymm (α := Nat) h1 h2
  cases x
  cases y
  congr 1
  exact Array.toList_inj.mp e
theorem rising_pw : ∀ (p : Str) (l : List Str), risingS p l = true → (p :: l).Pairwise leS
  | p, [], _ => List.pairwise_singleton _ _
  | p, x :: r, h => by
    obtain ⟨h1, h2⟩ := Bool.and_eq_true_iff.mp (show (!ltCps x.cps.toList p.cps.toList && risingS x r) = true from h)
    have ih := rising_pw x r h2
    have hx : leS p x := by
      rw [ltCps_eq] at h1
      unfold leS
      intro c
      rw [decide_eq_true c] at h1
      cases h1
    refine List.pairwise_cons.mpr ⟨fun y hy => ?_, ih⟩
    rcases List.mem_cons.mp hy with rfl | hy
    · exact hx
    · exact leS_trans hx ((List.pairwise_cons.mp ih).1 y hy)
theorem sorted_pw : ∀ l : List Str, sortedS l = true → l.Pairwise leS
  | [], _ => List.Pairwise.nil
  | x :: r, h => rising_pw x r h
theorem asc_aux : ∀ xs ys : List Str, xs.Pairwise leS → ys.Pairwise leS → xs.Nodup → ys.Nodup → (∀ z, z ∈ xs ↔ z ∈ ys) → xs = ys
  | [], [], _, _, _, _, _ => rfl
  | [], y :: t, _, _, _, _, hm => by have := (hm y).mpr List.mem_cons_self; cases this
  | x :: r, [], _, _, _, _, hm => by have := (hm x).mp List.mem_cons_self; cases this
  | x :: r, y :: t, h1, h2, n1, n2, hm => by
    obtain ⟨a1, a2⟩ := List.pairwise_cons.mp h1
    obtain ⟨b1, b2⟩ := List.pairwise_cons.mp h2
    obtain ⟨c1, c2⟩ := List.nodup_cons.mp n1
    obtain ⟨d1, d2⟩ := List.nodup_cons.mp n2
    have e : x = y := by
      rcases List.mem_cons.mp ((hm x).mp List.mem_cons_self) with e | hx
      · exact e
      · rcases List.mem_cons.mp ((hm y).mpr List.mem_cons_self) with e | hy
        · exact e.symm
        · exact leS_anti (a1 y hy) (b1 x hx)
    subst e
    rw [asc_aux r t a2 b2 c2 d2 fun z => ⟨fun hz => ?_, fun hz => ?_⟩]
    · rcases List.mem_cons.mp ((hm z).mp (List.mem_cons_of_mem _ hz)) with e | h
      · exact (c1 (e ▸ hz)).elim
      · exact h
    · rcases List.mem_cons.mp ((hm z).mpr (List.mem_cons_of_mem _ hz)) with e | h
      · exact (d1 (e ▸ hz)).elim
      · exact h
/-- two ascending lists without doubles of the same members are equal -/
theorem asc_eq {xs ys : List Str} (h1 : sortedS xs = true) (h2 : sortedS ys = true) (n1 : xs.Nodup) (n2 : ys.Nodup) (hm : ∀ z, z ∈ xs ↔ z ∈ ys) : xs = ys := asc_aux xs ys (sorted_pw xs h1) (sorted_pw ys h2) n1 n2 hm
end K10
end
section
/-! Own: picks, tables and rules on the heap. Nothing of a law's text. -/
namespace OwR
open PySem PySem.Spec PyProof.Rows L2
theorem dc_it {J : It} {n : Nat} {G : Hp → Prop} {Y : Nat → Hp → V → Hp → Prop} (w : Walk J n G Y) {g : TG} {tt : TT} {tk tv : TE} {vs : List Nat} {σ : L2.St} {H1 : Hp} {D : Addr} {Qd : Hp → Prop} (Pv : Nat → Hp → Prop)
    (h0 : Pv 0 (upd H1 D (.dK []))) (hG : ∀ i H, i ≤ n → Pv i H → G H)
    (turn : ∀ i x H H', i < n → Pv i H → Y i H x H' → g x (wipe σ vs) H' fun σ2 H2 => wipe σ2 vs = wipe σ vs ∧ tt σ2 H2 fun b H3 =>
      if b = true then tk σ2 H3 fun y H4 => tv σ2 H4 fun z H5 => ∃ kvs k, y = kV k ∧ H5 D = some (.dK kvs) ∧ kvs.length < sizeLine ∧ Pv (i + 1) (upd H5 D (.dK (putK kvs k z))) else Pv (i + 1) H3)
    (fin : ∀ H, Pv n H → Qd H) :
    ∃ W : Nat → Nat → Hp → Prop, (∃ m, W 0 m (upd H1 D (.dK []))) ∧ ∀ i m H, W i m H →
      (J.stop i H ∧ Qd H) ∨ (J.go i H ∧ ∃ Nx : Hp → Prop, (∀ H', Nx H' → ∃ m', m' < m ∧ W (i + 1) m' H') ∧ ∀ x H', J.yld i H x H' → g x (wipe σ vs) H' fun σ2 H2 => wipe σ2 vs = wipe σ vs ∧ tt σ2 H2 fun b H3 =>
        if b = true then tk σ2 H3 fun y H4 => tv σ2 H4 fun z H5 => ∃ kvs k, y = kV k ∧ H5 D = some (.dK kvs) ∧ kvs.length < sizeLine ∧ Nx (upd H5 D (.dK (putK kvs k z))) else Nx H3) := by
  refine ⟨fun i m H => m = n - i ∧ i ≤ n ∧ Pv i H, ⟨n, by simp, Nat.zero_le _, h0⟩, fun i m H ⟨em, hi, p⟩ => ?_⟩
  subst em
  have q := hG i H hi p
  rcases Nat.lt_or_ge i n with hlt | hge
  · exact .inr ⟨w.goes i H hlt q, Pv (i + 1), fun H' p' => ⟨n - (i + 1), by omega, rfl, hlt, p'⟩, fun x H' y => turn i x H H' hlt p (w.yields i H x H' hlt q y)⟩
  · obtain rfl : i = n := by omega
    exact .inl ⟨w.stops H q, fin H p⟩
theorem list_any {X : Cx} (hc : X.calm = true) : CallR X (.type "list") (fun xs H Q => (∃ p ys, xs = [.ref p] ∧ (SqL X.K H p ys ∨ SqT X.K H p ys) ∧ ∀ l, H l = none → Q (.ref l) (upd H l (.lst ys))) ∨
    (∃ (a : Addr) (kvs : List (Key × V)), xs = [.ref a] ∧ Rd H a (.dK kvs) ∧ ∀ p, H p = none → Q (.ref p) (upd H p (.lst (kvs.map fun kv => kV kv.1))))) := by
  intro pins s σ H xs us Q I r h
  rcases h with h | h
  · exact call_list_of pins s σ H xs us Q I r h
  · exact call_listD hc pins s σ H xs us Q I r h
end OwR
namespace TSet
open PySem
theorem put1_nodup {L : List Str} (h : L.Nodup) (z : Str) : (put1 L z).Nodup := by
  unfold put1
  split
  · exact h
  · rename_i q
    exact List.nodup_cons.mpr ⟨q, h⟩
theorem fold_nodup : ∀ (xs L : List Str), L.Nodup → (xs.foldl put1 L).Nodup
  | [], _, h => h
  | x :: xs, L, h => fold_nodup xs (put1 L x) (put1_nodup h x)
theorem ded_nodup (xs : List Str) : (ded xs).Nodup := fold_nodup xs [] List.nodup_nil
theorem ded_perm {xs : List Str} (h : xs.Nodup) : (ded xs).Perm xs := (List.perm_ext_iff_of_nodup (ded_nodup xs) h).mpr fun y => ded_mem xs y
end TSet
namespace OwR
open PySem PySem.Spec PyProof.Rows L2
theorem walk_enumT {K : PySem.W.Frag} {a : Addr} {xs : List V} : Walk (IteT K a) xs.length (fun H => SqT K H a xs) (YPair (fun i => some (.int (i : Nat))) (fun i => xs[i]?)) := by
  refine ⟨fun i _ hi q => ⟨xs, xs[i], q, by simp [hi]⟩, fun _ q => ⟨xs, q, Nat.le_refl _⟩, fun i H v H' _ q y => ?_⟩
  obtain ⟨T, x, h1, h2, h3, h4⟩ := y
  exact ⟨T, .int (i : Nat), x, h1, h2, h3, rfl, h4 xs q⟩
end OwR
namespace OwR
open PySem PySem.Spec PyProof.Rows L2
section
variable {X : Cx} {CX : CXT} {k : Nat} {f C : Addr} {sp : Sp} {E : XK} {x : Str} {p pos : Pos}
/-- C(), __init__ by a positional promise -/
theorem pe_makeR0 (M : Mk X.K C f) (F : FnR X.prog X.w X.K X.mg X.base CX k f sp) (hr : Room (k + 1) X.A) (hg : Gl X x) (hm : X.mg x = some (.ref C)) (hx : Passes CX X E) (hdb : (x == ("__debug__" : Str)) = false := by decide) :
    PE X (.Call (.Name x p) [] [] pos) (StX.tMakeR C sp E tNil) := by
  refine ⟨fun pins s σ H Q I h => ?_⟩
  refine wpAny_Call_Name_kw (ld_glob I hg hm ?_ hdb)
  exact PySem.W.callWith_K0 I.kIn M.kp (StX.run_makeR (us := []) M F hr hx I .nil h)
end
end OwR
namespace K10
open PySem PySem.Spec PyProof.Rows L2
/-- the texts that a list, or a dict's keys, hold -/
def TextsAt (K : PySem.W.Frag) (H : Hp) (a : Addr) (xs : List Str) : Prop := SqL K H a (xs.map V.str) ∨ SqT K H a (xs.map V.str) ∨ ∃ kvs, Rd H a (.dK kvs) ∧ kvs.map (·.1) = xs.map Sum.inr
/-- a table's numbers by its names, and no other key -/
def TabOf (kvs : List (Key × V)) (N : Str → Option Int) : Prop := (∀ z, valV kvs (Sum.inr z) = (N z).map V.int) ∧ ∀ i, valV kvs (Sum.inl i) = none
theorem TabOf.nil : TabOf [] fun _ => none := ⟨fun _ => rfl, fun _ => rfl⟩
theorem TabOf.put {kvs : List (Key × V)} {N : Str → Option Int} (t : TabOf kvs N) (z : Str) (v : Int) : TabOf (putK kvs (Sum.inr z) (.int v)) fun y => if y = z then some v else N y := by
  refine ⟨fun y => ?_, fun i => ?_⟩
  · rw [valV_put, t.1 y]
    by_cases e : y = z
    · dsimp only
      rw [if_pos (congrArg Sum.inr e), if_pos e]
      rfl
    · dsimp only
      rw [if_neg (fun q => e (Sum.inr.inj q)), if_neg e]
  · rw [valV_put, t.2 i, if_neg (fun q => by cases q)]
theorem TabOf.cast {kvs : List (Key × V)} {N M : Str → Option Int} (t : TabOf kvs N) (h : ∀ z, N z = M z) : TabOf kvs M := by
  rw [← funext h]
  exact t
theorem TabOf.get {kvs : List (Key × V)} {N : Str → Option Int} (t : TabOf kvs N) {H : Hp} {a : Addr} (h : Rd H a (.dK kvs)) (z : Str) : DGet H a (.str z) ((N z).map V.int) := .inl ⟨kvs, Sum.inr z, h, rfl, (t.1 z).symm⟩
theorem TabOf.mem {kvs : List (Key × V)} {N : Str → Option Int} (t : TabOf kvs N) {xs : List Str} (e : kvs.map (·.1) = xs.map Sum.inr) (z : Str) : z ∈ xs ↔ (N z).isSome = true := by
  have h1 : (kvs.any fun kv => decide (kv.1 = Sum.inr z)) = (valV kvs (Sum.inr z)).isSome := valV_any _ kvs
  rw [t.1 z, Option.isSome_map] at h1
  rw [← h1, List.any_eq_true]
  refine ⟨fun h => ?_, fun ⟨kv, h, e2⟩ => ?_⟩
  · have h2 : (Sum.inr z : Key) ∈ kvs.map (·.1) := by
      rw [e]
      exact List.mem_map.mpr ⟨z, h, rfl⟩
    obtain ⟨kv, h3, h4⟩ := List.mem_map.mp h2
    exact ⟨kv, h3, decide_eq_true h4⟩
  · have h2 : (Sum.inr z : Key) ∈ kvs.map (·.1) := List.mem_map.mpr ⟨kv, h, of_decide_eq_true e2⟩
    rw [e] at h2
    obtain ⟨y, h3, h4⟩ := List.mem_map.mp h2
    exact Sum.inr.inj h4 ▸ h3
def TupAt (H : Hp) (k : Addr) (p : Pk) : Prop := H k = some (.tup [.str p.1, .int p.2])
/-- picks as tuples of a text and a number -/
structure PicksAt (H : Hp) (ks : List Addr) (ps : List Pk) : Prop where
  len : ks.length = ps.length
  at_ : ∀ (i : Nat) (k : Addr) (p : Pk), ks[i]? = some k → ps[i]? = some p → TupAt H k p
theorem PicksAt.nil {H : Hp} : PicksAt H [] [] := ⟨rfl, fun i k p h => by cases h⟩
theorem PicksAt.get {H : Hp} {ks : List Addr} {ps : List Pk} (h : PicksAt H ks ps) {i : Nat} {v : V} (e : (ks.map V.ref)[i]? = some v) : ∃ k p, v = .ref k ∧ ks[i]? = some k ∧ ps[i]? = some p ∧ TupAt H k p := by
  rw [List.getElem?_map] at e
  obtain ⟨k, hk, rfl⟩ := Option.map_eq_some_iff.mp e
  have hi : i < ps.length := by
    rw [← h.len]
    exact (List.getElem?_eq_some_iff.mp hk).1
  exact ⟨k, ps[i], rfl, hk, List.getElem?_eq_getElem hi, h.at_ i k _ hk (List.getElem?_eq_getElem hi)⟩
theorem PicksAt.mono {H H' : Hp} {ks : List Addr} {ps : List Pk} (h : PicksAt H ks ps) (s : ∀ k xs, H k = some (.tup xs) → H' k = some (.tup xs)) : PicksAt H' ks ps := ⟨h.len, fun i k p e1 e2 => s _ _ (h.at_ i k p e1 e2)⟩
theorem PicksAt.same {H H' : Hp} {ks : List Addr} {ps : List Pk} (h : PicksAt H ks ps) (s : Same H H') : PicksAt H' ks ps := h.mono fun k xs e => s k _ e
theorem PicksAt.upd {H : Hp} {ks : List Addr} {ps : List Pk} (h : PicksAt H ks ps) {D : Addr} {o : HO} (n : ∀ xs, H D ≠ some (.tup xs)) : PicksAt (upd H D o) ks ps := h.mono fun k xs e => by
  have : k ≠ D := fun z => n xs (z ▸ e)
  rw [upd_ne this]
  exact e
theorem PicksAt.snoc {H : Hp} {ks : List Addr} {ps : List Pk} (h : PicksAt H ks ps) {k : Addr} {p : Pk} (e : TupAt H k p) : PicksAt H (ks ++ [k]) (ps ++ [p]) := by
  refine ⟨by rw [List.length_append, List.length_append, h.len]; rfl, fun i k' p' e1 e2 => ?_⟩
  rcases Nat.lt_trichotomy i ks.length with c | c | c
  · rw [List.getElem?_append_left c] at e1
    rw [List.getElem?_append_left (by rw [← h.len]; exact c)] at e2
    exact h.at_ i k' p' e1 e2
  · subst c
    rw [List.getElem?_append_right (Nat.le_refl _), Nat.sub_self] at e1
    rw [h.len, List.getElem?_append_right (Nat.le_refl _), Nat.sub_self] at e2
    cases e1
    cases e2
    exact e
  · rw [List.getElem?_eq_none (by rw [List.length_append]; simp; omega)] at e1
    cases e1
theorem upd_keep {H : Hp} {D b : Addr} {o u w : HO} (hD : H D = some w) (h : H b = some u) (n : u ≠ w) : upd H D o b = some u := by
  have : b ≠ D := fun z => by
    rw [z, hD] at h
    exact n (Option.some.inj h).symm
  rw [upd_ne this]
  exact h
theorem free_of {H : Hp} {D b : Addr} {o : HO} (h : upd H D o b = none) : H b = none := by
  unfold upd at h
  split at h
  · cases h
  · exact h
theorem PicksAt.drop {H : Hp} {ks : List Addr} {ps : List Pk} (h : PicksAt H ks ps) : PicksAt H (ks.drop 1) (ps.drop 1) := by
  refine ⟨by rw [List.length_drop, List.length_drop, h.len], fun i k p e1 e2 => ?_⟩
  rw [List.getElem?_drop] at e1 e2
  exact h.at_ _ k p e1 e2
theorem cut_one (kk : List Addr) : cutV (kk.map V.ref) (some 1) none = (kk.drop 1).map V.ref := by
  have e : (some 1 : Option Int) = some ((1 : Nat) : Int) := rfl
  unfold cutV
  rw [HT.sIx_none, e, HT.sIx_nat]
  cases kk with
  | nil => rfl
  | cons x r =>
    have e2 : min 1 ((x :: r).map V.ref).length = 1 := by
      rw [List.length_map]
      show min 1 (r.length + 1) = 1
      omega
    rw [e2]
    show ((r.map V.ref).take (((x :: r).map V.ref).length - 1)) = r.map V.ref
    exact List.take_of_length_le (by rw [List.length_map, List.length_map]; show r.length ≤ r.length + 1 - 1; omega)
def optV : Option Str → V
  | none => .non
  | some z => .str z
theorem behind_vals (kp : List Pk) : ((kp.drop 1).map fun p => V.str p.1) ++ [V.non] = (behind kp).map optV := by
  unfold behind
  rw [List.map_append, List.map_map]
  rfl
/-- a pick as it is passed: a tuple, or a name alone for a keep of 0 -/
def ValAt (H : Hp) (x : V) (p : Pk) : Prop := (∃ k, x = .ref k ∧ TupAt H k p) ∨ (x = .str p.1 ∧ p.2 = 0)
theorem ValAt.same {H H' : Hp} {x : V} {p : Pk} (h : ValAt H x p) (s : Same H H') : ValAt H' x p := h.elim (fun ⟨k, e, t⟩ => .inl ⟨k, e, s _ _ t⟩) .inr
structure ValsAt (H : Hp) (xs : List V) (ps : List Pk) : Prop where
  len : xs.length = ps.length
  at_ : ∀ (i : Nat) (x : V) (p : Pk), xs[i]? = some x → ps[i]? = some p → ValAt H x p
theorem ValsAt.same {H H' : Hp} {xs : List V} {ps : List Pk} (h : ValsAt H xs ps) (s : Same H H') : ValsAt H' xs ps := ⟨h.len, fun i x p e1 e2 => (h.at_ i x p e1 e2).same s⟩
theorem ValsAt.get {H : Hp} {xs : List V} {ps : List Pk} (h : ValsAt H xs ps) {i : Nat} {x : V} (e : xs[i]? = some x) : ∃ p, ps[i]? = some p ∧ ValAt H x p := by
  have hi : i < ps.length := by
    rw [← h.len]
    exact (List.getElem?_eq_some_iff.mp e).1
  exact ⟨ps[i], List.getElem?_eq_getElem hi, h.at_ i x _ e (List.getElem?_eq_getElem hi)⟩
theorem PicksAt.vals {H : Hp} {ks : List Addr} {ps : List Pk} (h : PicksAt H ks ps) : ValsAt H (ks.map V.ref) ps := by
  refine ⟨by rw [List.length_map, h.len], fun i x p e1 e2 => ?_⟩
  rw [List.getElem?_map] at e1
  obtain ⟨k, hk, rfl⟩ := Option.map_eq_some_iff.mp e1
  exact .inl ⟨k, rfl, h.at_ i k p hk e2⟩
def lookL : List Pk → Str → Option Int
  | [], _ => none
  | p :: r, z => if z = p.1 then some p.2 else lookL r z
theorem lookL_mem : ∀ (l : List Pk) (z : Str), (lookL l z).isSome = true ↔ z ∈ l.map (·.1)
  | [], z => by simp [lookL]
  | p :: r, z => by
    unfold lookL
    rw [List.map_cons, List.mem_cons, ← lookL_mem r z]
    by_cases c : z = p.1
    · rw [if_pos c]; exact ⟨fun _ => .inl c, fun _ => rfl⟩
    · rw [if_neg c]; exact ⟨.inr, fun h => h.elim (fun q => absurd q c) id⟩
/-- what stands behind the picks: the keeps by bays, and the bays ascending -/
structure RuleC (K : PySem.W.Frag) (C : Addr) : Prop where
  cls : Cls K C
  n1 : NoAttr K C "_picks"
  n2 : NoAttr K C "_keeps"
  n3 : NoAttr K C "_bays"
structure More (H : Hp) (fs : List (Str × V)) (ps : List Pk) (D b : Addr) (r : List (Key × V)) (zs : List Str) : Prop where
  lm : fs.lookup ("keep" : Str) = none
  lk : fs.lookup ("_keeps" : Str) = some (.ref D)
  lb : fs.lookup ("_bays" : Str) = some (.ref b)
  eD : H D = some (.dK r)
  tb : TabOf r (lookL ps)
  eb : H b = some (.tup (zs.map V.str))
  nd : zs.Nodup
  mem : ∀ z, z ∈ zs ↔ z ∈ ps.map (·.1)
  srt : sortedS zs = true
def RuleAt (C : Addr) (H : Hp) (a : Addr) (ps : List Pk) : Prop := ∃ (dx : Addr) (fs : List (Str × V)) (p : Addr) (ks : List Addr), H a = some (.ins C dx fs) ∧ fs.lookup ("_picks" : Str) = some (.ref p) ∧ H p = some (.tup (ks.map V.ref)) ∧ PicksAt H ks ps ∧ ∃ D b r zs, More H fs ps D b r zs
theorem RuleAt.same {C : Addr} {H H' : Hp} {a : Addr} {ps : List Pk} (h : RuleAt C H a ps) (s : Same H H') : RuleAt C H' a ps := by
  obtain ⟨dx, fs, p, ks, h1, h2, h3, h4, D, b, r, zs, m⟩ := h
  exact ⟨dx, fs, p, ks, s _ _ h1, h2, s _ _ h3, h4.same s, D, b, r, zs, m.lm, m.lk, m.lb, s _ _ m.eD, m.tb, s _ _ m.eb, m.nd, m.mem, m.srt⟩
def pkD (p : Pk) : PyData := .tuple [.str p.1, .int p.2]
theorem pkD_lay {p : Pk} (h : PyData.strOk p.1 = true) : (pkD p).canLay0 = true := by simp [pkD, PyData.canLay0, PyData.canLayAll0, h]
theorem pkD_dep (p : Pk) : (pkD p).depth ≤ 1 := by simp [pkD, PyData.depth, PyData.depthAll]
theorem PicksAt.dp {K : PySem.W.Frag} {H : Hp} : ∀ {ks : List Addr} {ps : List Pk}, PicksAt H ks ps → DpAll K H (ks.map V.ref) (ps.map pkD)
  | [], [], _ => .nil
  | [], _ :: _, h => by cases h.len
  | _ :: _, [], h => by cases h.len
  | k :: ks, p :: ps, h => .cons (.tup (SqT.of (h.at_ 0 k p rfl rfl)) (.cons (.str p.1) (.cons (.int p.2) .nil))) (PicksAt.dp ⟨Nat.succ.inj h.len, fun i k' p' e1 e2 => h.at_ (i + 1) k' p' e1 e2⟩)
def optI : Option Int → V
  | none => .non
  | some i => .int i
/-- what may be asked with `in` and `keep`: a text, or another value -/
def AskAt (K : PySem.W.Frag) (H : Hp) (x : V) (o : Option Str) : Prop := match o with
  | some z => x = .str z
  | none => ∃ t, TyX K H x t ∧ PySem.W.kitOne K t (.type "str") = some false
def keepAt (ps : List Pk) (o : Option Str) : Option Int := o.elim none (lookL ps)
end K10
end
section
/-! Own: lambdas of several defs, each with its table; rules and rows where the pen moves. -/
namespace OwE
open PySem PySem.Spec PyProof.Rows L2
theorem pe_lamT {X : Cx} {T : List (Addr × Str)} {x a q : Str} {sH : Stmt} {g c Pt : Addr} {gd : FuncData} {Ng : List Str} {TT : (XK → Hp → VK → Prop) → Hp → VK → Prop} {k : Nat} {params : Arguments} {body : Expr} {scope : Scope} {t : XK → TE} {p lpos pos : Pos}
    (hg : Gl X x) (F : Fun X.K x x sH g gd) (hm : X.mg x = some (.ref g)) (hb : L2.Binds X.K gd [a] []) (Sg : FnScope Ng [a] (defScope sH)) (hNg : Ng[0]? = some a) (hva : Vis (defScope sH) a) (hq : X.env.qual ++ "<lambda>" = q)
    (hG : ∀ cdv, LamX.GivesTo X Ng x (defScope sH) g cdv (defBody sH) a q TT) (TB : LamX.TabB X.base X.mg c Pt) (hcode : X.env.code = .ref c) (mem : (Pt, q) ∈ T) (one : ∀ p ∈ T, p.1 = Pt → p.2 = q) (hr : Room (k + 2) X.A) (L : LamX.LamS X.env.scope scope)
    (hbody : ∀ (A : Around) (outer : List Env) (s : Shared) (H : Hp) (E : XK) (f c' : Addr), Room k (A.deeper (LamX.lamEnv X scope s.heap.objs.size f c')) → PE (LamX.lamCx X A outer s H E scope f c') body (t E))
    (hdef : defaultsOf params X.env = ([], []) := by rfl) (hbind : ∀ (q : Str) (cl : List (Str × Addr)) (pm cv ctv : Value), bindArgs (PySem.W.kla_fn "<lambda>" q params body scope cl pm cv ctv) ⟨[], []⟩ = pure [] := by intros; rfl)
    (hdb : (x == ("__debug__" : Str)) = false := by decide) (hd : (a == ("__debug__" : Str)) = false := by decide) (hcd : (a == ("__classdict__" : Str)) = false := by decide) :
    PE X (.Call (.Name x p) [.Lambda params body scope lpos] [] pos) (LamX.tLam T TT t) := by
  subst hq
  obtain ⟨oc, od, kV, doc, pm, an, cdv, ct, osl, rfl, lk, hcdv⟩ := F.ex
  exact LamX.pe_lamcall hg hm F.kp lk hcdv hb Sg hNg hva (hG cdv) TB hcode mem one hr L hdef hbind hbody hdb hd hcd
end OwE
namespace K10
open PySem PySem.Spec PyProof.Rows L2
section
variable {H H' : Hp} {p c : Addr} {ns : List Int} {n : Nat} {z : Int}
theorem lo_tup (P : PenAt H p c ns n z) (s : Lo p H H') {k : Addr} {xs : List V} (e : H k = some (.tup xs)) : H' k = some (.tup xs) := s k _ (fun q => by rw [q, P.pen] at e; cases e) (fun ps h => by cases h) e
theorem lo_ins (P : PenAt H p c ns n z) (s : Lo p H H') {k C dx : Addr} {fs : List (Str × V)} (e : H k = some (.ins C dx fs)) : H' k = some (.ins C dx fs) := s k _ (fun q => by rw [q, P.pen] at e; cases e) (fun ps h => by cases h) e
theorem lo_dK (P : PenAt H p c ns n z) (s : Lo p H H') {k : Addr} {kvs : List (Key × V)} (e : H k = some (.dK kvs)) : H' k = some (.dK kvs) := s k _ (fun q => by rw [q, P.pen] at e; cases e) (fun ps h => by cases h) e
theorem lo_refs (P : PenAt H p c ns n z) (s : Lo p H H') {k : Addr} {ks : List Addr} (e : H k = some (.lst (ks.map V.ref))) : H' k = some (.lst (ks.map V.ref)) := s k _ (P.ne_of e fun c n z h => by
  have h := HO.lst.inj h
  match ks, h with
  | [_, _, _], h => cases h) (fun ps h => by cases h) e
theorem PicksAt.lo {ks : List Addr} {ps : List Pk} (h : PicksAt H ks ps) (P : PenAt H p c ns n z) (s : Lo p H H') : PicksAt H' ks ps := h.mono fun k xs e => lo_tup P s e
theorem RuleAt.lo {C a : Addr} {ps : List Pk} (h : RuleAt C H a ps) (P : PenAt H p c ns n z) (s : Lo p H H') : RuleAt C H' a ps := by
  obtain ⟨dx, fs, q, ks, h1, h2, h3, h4, D, b, r, zs, m⟩ := h
  exact ⟨dx, fs, q, ks, lo_ins P s h1, h2, lo_tup P s h3, h4.lo P s, D, b, r, zs, m.lm, m.lk, m.lb, lo_dK P s m.eD, m.tb, lo_tup P s m.eb, m.nd, m.mem, m.srt⟩
end
end K10
end
section
/-! a != b of own classes that define == alone. -/
namespace OwR
open PySem PySem.Spec PyProof.Rows L2
theorem slot_ne : Slot "object" "__ne__" "object.__ne__" := Slot.of (T := "object") (name := "__ne__") (owner := "object") (n := "__ne__") (by rw [typeLookup_type, builtinLookup_eq_fast]; kernel_rfl) (by decide +kernel) (by decide +kernel) (by decide +kernel)
  (.inl (by decide +kernel)) (by rw [isSubtype_type]; kernel_rfl)
theorem entry_ne : entryFor table "object.__ne__" = some Builtin.«object.__ne__» := entryFor_of_tree (by kernel_rfl)
theorem args_ne (a b : Value) : argsOk "object.__ne__" ⟨[a, b], []⟩ := by unfold argsOk; kernel_rfl
section
variable {prog : Program} {w : World} {A : Around} {E : Value → Shared → Prop} {s : Shared} {K : PySem.W.Frag} {x C f : Addr} {ox : Obj} {od : Option Obj} {b : Value}
theorem bound_ne {M : Model} {args : List Value} {Q : Option Value → Shared → Prop} (sp : PySem.W.Looks M s.heap (specialOf (.ref x) "__ne__") (some (.builtin "object.__ne__"))) (h : wpAny M A (call (.builtin "object.__ne__") (.ref x :: args)) (fun v => Q (some v)) E s) :
    wpAny M A (callSpecialIfBound? (.ref x) "__ne__" args) Q E s := by
  have fin : wpAny M A (call (.builtin "object.__ne__") ([.ref x] ++ args) >>= fun v => pure (some v)) Q E s := wpAny_bind (wpAny_mono h (fun v s' q => wpAny_pure q) fun _ _ q => q)
  have hb : bindSpecial (.builtin "object.__ne__") (.ref x) = pure (.builtin "object.__ne__", [.ref x]) := slot_ne.bind _
  simp only [callSpecialIfBound?, bindSpecialIfBound?]
  refine wpAny_holding (wpAny_bind (wpAny_bind (sp.here ?_)))
  simp only [hb]
  refine wpAny_bind (wpAny_askSetting (wpAny_ite ?_))
  split
  · exact wpAny_bind (wpAny_pure (wpAny_pure fin))
  · exact wpAny_tryCatch (wpAny_bind (wpAny_pure (wpAny_pure fin)))
theorem ne_K {tb : Value} {Q : Value → Shared → Prop} (hu : A.units + 1 < cLine) (X : K.In s.heap) (I : PySem.W.InstAt s.heap x ox C od) (hb : PySem.W.Looks (model prog w) s.heap (typeOf b) tb) (nf : PySem.W.notFirst K C tb = true) (obj : PySem.W.mroIn K C (.type "object") = some true)
    (ne : PySem.W.findIn K (.ref C) "__ne__" = some (some (.builtin "object.__ne__"))) (eq : PySem.W.findIn K (.ref C) "__eq__" = some (some (.ref f))) (fn : PySem.W.isFn K (.ref f) = true)
    (h : wpAny (model prog w) A.in1 (call (.ref f) [.ref x, b]) (fun v s' => ∃ c, v = .bool c ∧ Q (.bool (!c)) s') E s) : wpAny (model prog w) A (richCompare .NotEq (.ref x) b) Q E s := by
  have sp : PySem.W.Looks (model prog w) s.heap (specialOf (.ref x) "__ne__") (some (.builtin "object.__ne__")) := I.type.andThen (PySem.W.looks_findIn X ne)
  have inst : PySem.W.Looks (model prog w) s.heap (isInstance (.ref x) (.type "object")) true := I.type.andThen (PySem.W.looks_mroIn X obj)
  have hu0 : A.units < cLine := by omega
  have body : wpAny (model prog w) A (call (.builtin "object.__ne__") [.ref x, b]) (fun v s' => ∃ c, v = .bool c ∧ Q (.bool c) s') E s := by
    refine wpAny_call (codeAny_call_builtin slot_ne.plain entry_ne (@PySem.W.check_slot (model prog w) _ _ _ "object.__ne__" "object" "__ne__" (.ref x) [b] [] _ (by decide +kernel) (by decide +kernel) inst (args_ne _ _) ?_))
    show wpAny _ _ (do
      cRoomFor "comparison" [.ref x, b]
      match ← callSpecialIfBound? (.ref x) "__eq__" [b] with
      | some .notImplemented | none => ret .notImplemented
      | some r => ret (.bool (!(← truthy r)))) _ _ s
    refine wpAny_bind (wpAny_cRoomFor hu ?_)
    refine wpAny_bind (PySem.W.ifBound_K X I eq fn (wpAny_mono h (fun v s' q => ?_) fun _ _ q => q))
    obtain ⟨c, rfl, q⟩ := q
    show wpAny _ _ (truthy (.bool c) >>= fun t => ret (.bool (!t))) _ _ s'
    exact wpAny_bind (wpAny_pure (wpAny_pure ⟨!c, rfl, q⟩))
  have one : wpAny (model prog w) A (tryCompare (.ref x) "__ne__" b) (fun r s' => ∃ c, r = some (.bool c) ∧ Q (.bool c) s') E s := by
    unfold tryCompare
    refine wpAny_bind (bound_ne sp (wpAny_mono body (fun v s' q => ?_) fun _ _ q => q))
    obtain ⟨c, rfl, q⟩ := q
    exact wpAny_pure ⟨c, rfl, q⟩
  unfold richCompare
  simp only [oneThing_ref]
  refine wpAny_holding (wpAny_bind (wpAny_cRoomFor hu0 ?_))
  refine wpAny_bind (I.type.here (wpAny_bind (hb.here ?_)))
  have fin : ∀ r s', (∃ c, r = some (Value.bool c) ∧ Q (.bool c) s') → ∃ v, r = some v ∧ Q v s' := fun r s' ⟨c, e, q⟩ => ⟨_, e, q⟩
  split
  · rename_i q
    have e : PySem.W.subIn K tb (.ref C) = some false := by
      rcases Bool.or_eq_true_iff.mp nf with e | e
      · rw [beq_iff_eq.mp e] at q
        simp at q
      · exact beq_iff_eq.mp e
    refine wpAny_bind ((PySem.W.looks_subIn X e).here ?_)
    simp only [if_false, Bool.false_eq_true]
    refine wpAny_bind (wpAny_mono one (fun r s' z => ?_) fun _ _ e => e)
    obtain ⟨c, rfl, hq⟩ := z
    exact wpAny_pure hq
  · refine wpAny_bind (m := pure false) (wpAny_pure ?_)
    simp only [if_false, Bool.false_eq_true]
    refine wpAny_bind (wpAny_mono one (fun r s' z => ?_) fun _ _ e => e)
    obtain ⟨c, rfl, hq⟩ := z
    exact wpAny_pure hq
end
/-- the class has == of its own and object's != -/
structure Ne1 (K : PySem.W.Frag) (C g : Addr) : Prop where
  eq : PySem.W.findIn K (.ref C) "__eq__" = some (some (.ref g))
  fn : PySem.W.isFn K (.ref g) = true
  ne : PySem.W.findIn K (.ref C) "__ne__" = some (some (.builtin "object.__ne__"))
  obj : PySem.W.mroIn K C (.type "object") = some true
/-- a != b: the promise of == with the answer turned -/
def rNe2 (K : PySem.W.Frag) (g : Addr) (sp : Sp) (E : XK) : R2 := fun x y H Q => ∃ (p q C D dx dy : Addr) (fs gs : List (Str × V)), x = .ref p ∧ y = .ref q ∧ H p = some (.ins C dx fs) ∧ H q = some (.ins D dy gs) ∧ Ne1 K C g ∧ PySem.W.notFirst K C (.ref D) = true ∧ sp [.ref p, .ref q] H (fun v H' => ∃ c, v = .bl c ∧ Q (.bl (!c)) H') E
theorem op_ownNe {X : Cx} {CX : CXT} {k : Nat} {g : Addr} {sp : Sp} {E : XK} (hu : X.A.units + 1 < cLine) (F : FnR X.prog X.w X.K X.mg X.base CX k g sp) (hr : Room (k + 1) X.A) (hx : Passes CX X E) : OpR X (compareOp .NotEq) (rNe2 X.K g sp E) := by
  intro pins s σ H x y v u Q I rx ry h
  obtain ⟨p, q, C, D, dx, dy, fs, gs, rfl, rfl, ep, eq, c1, nf, hq⟩ := h
  obtain rfl : v = Value.ref p := rx
  obtain rfl : u = Value.ref q := ry
  obtain ⟨ox, od, J, _⟩ := StX.insC_at I (.inr ⟨dx, fs, ep⟩)
  obtain ⟨oy, oe, J2, _⟩ := StX.insC_at I (.inr ⟨dy, gs, eq⟩)
  refine PySem.W.cmp_ofNotEq (ne_K hu I.kIn J J2.type nf c1.obj c1.ne c1.eq c1.fn ?_)
  refine wpAny_mono (run_in (us := [.ref p, .ref q]) (vs := [.ref p, .ref q]) F hr hx I (.cons rfl (.cons rfl .nil)) hq) (fun v s' z => ?_) fun _ _ z => z
  obtain ⟨x2, H2, I2, r2, c, rfl, z⟩ := z
  exact ⟨c, r2, .bl (!c), H2, I2, rfl, z⟩
/-! ### len(o), o of an own class -/
structure Len1 (K : PySem.W.Frag) (C g : Addr) : Prop where
  at_ : PySem.W.findIn K (.ref C) "__len__" = some (some (.ref g))
  fn : PySem.W.isFn K (.ref g) = true
def rLenO (K : PySem.W.Frag) (g : Addr) (sp : Sp) (E : XK) : List V → Hp → VK → Prop := fun xs H Q => ∃ (a C dx : Addr) (fs : List (Str × V)), xs = [.ref a] ∧ H a = some (.ins C dx fs) ∧ Len1 K C g ∧ sp [.ref a] H (fun v H' => ∃ n : Int, v = .int n ∧ 0 ≤ n ∧ n < 2 ^ 63 ∧ Q (.int n) H') E
theorem call_lenO {X : Cx} {CX : CXT} {k : Nat} {g : Addr} {sp : Sp} {E : XK} (F : FnR X.prog X.w X.K X.mg X.base CX k g sp) (hr : Room (k + 1) X.A) (hx : Passes CX X E) : CallR X (.builtin "len") (rLenO X.K g sp E) := by
  intro pins s σ H xs us Q I r h
  obtain ⟨a, C, dx, fs, rfl, ea, c, hq⟩ := h
  obtain rfl := Vals.ref1 r
  obtain ⟨ox, od, J, _⟩ := StX.insC_at I (.inr ⟨dx, fs, ea⟩)
  obtain ⟨mm, fr⟩ := I.fr
  refine PySem.W.len_K fr I.ok.mod.kin J c.at_ c.fn (wpAny_mono (run_in (us := [.ref a]) (vs := [.ref a]) F hr hx I (.cons rfl .nil) hq) (fun v s' z => ?_) fun _ _ z => z)
  obtain ⟨y, H2, I2, ry, n, rfl, n0, n1, z⟩ := z
  obtain ⟨t, rfl⟩ := ry
  exact ⟨⟨n0, n1⟩, .int n, H2, I2.tok _, ⟨_, rfl⟩, z⟩
end OwR
end
section
/-! Walks over objects of own classes whose __iter__ gives a tuple's iterator. -/
namespace OwR
open PySem PySem.Spec PyProof.Rows L2
abbrev itTup (l : Addr) (i : Nat) : Obj := { cls := .type "tuple_iterator", data := .fields #[.ref l, .int i 0] }
/-- at it the iterator of the tuple at l, just made -/
def ItT (l it : Addr) : HO := .ext fun h => h.get? it = some (itTup l 0)
theorem itT_ok {P : Program} {w : World} {H : Hp} {h : Heap} {l it : Addr} (e : h.get? it = some (itTup l 0)) : ObjOk P w H h it (ItT l it) := ⟨e, ⟨_, e⟩, fun h1 h2 q k => k _ q⟩
theorem itT_get {X : Cx} {pins : List (Addr × Obj)} {σ : L2.St} {H : Hp} {s : Shared} {l it : Addr} (I : Inv X pins σ H s) (e : H it = some (ItT l it)) : s.heap.get? it = some (itTup l 0) := (I.hok it _ e).1
/-- iter(t), t a tuple -/
def rIterT (K : PySem.W.Frag) : List V → Hp → VK → Prop := fun xs H Q => ∃ (l : Addr) (zs : List V), xs = [.ref l] ∧ SqT K H l zs ∧ ∀ it, H it = none → Q (.ref it) (upd H it (ItT l it))
theorem call_iterT {X : Cx} : CallR X (.builtin "iter") (rIterT X.K) := by
  intro pins s σ H xs us Q I r h
  obtain ⟨l, zs, rfl, hq, q⟩ := h
  obtain rfl := Vals.ref1 r
  obtain ⟨its, rv, pl, hz⟩ := I.tuple hq
  refine Calls.call_function_entry (by decide +kernel) (by decide +kernel) PySem.W.kdk_entry_iter (PySem.W.kdk_args_iter _) ?_
  unfold Builtin.«iter»
  refine wpAny_bind (m := someArgs "iter" 1 2 _) (wpAny_of_eq (a := [Value.ref l]) (by first | rfl | kernel_rfl!) ?_)
  show wpAny _ _ (pyIter (.ref l) >>= fun v => ret v) _ _ _
  refine wpAny_bind (wpAny_pyIter_tuple (show s.heap.IsTuple l its.toArray from pl) ?_)
  exact wpAny_pure ⟨_, rfl, .ref s.heap.objs.size, _, I.laid (t' := s.toks) (fun b u e => Heap.get?_push_of_some _ e) (Nat.le_refl _) (itT_ok (Heap.get?_push_size _ rfl)), rfl, q _ (I.hok.fresh (Nat.le_refl _))⟩
/-- .. as young as the call -/
def rIterTN (K : PySem.W.Frag) (n : Nat) : List V → Hp → VK → Prop := fun xs H Q => ∃ (l : Addr) (zs : List V), xs = [.ref l] ∧ SqT K H l zs ∧ ∀ it, H it = none → n ≤ it → Q (.ref it) (upd H it (ItT l it))
theorem call_iterTN {X : Cx} : CallR X (.builtin "iter") (rIterTN X.K X.s_0.heap.objs.size) := by
  intro pins s σ H xs us Q I r h
  obtain ⟨l, zs, rfl, hq, q⟩ := h
  obtain rfl := Vals.ref1 r
  obtain ⟨its, rv, pl, hz⟩ := I.tuple hq
  refine Calls.call_function_entry (by decide +kernel) (by decide +kernel) PySem.W.kdk_entry_iter (PySem.W.kdk_args_iter _) ?_
  unfold Builtin.«iter»
  refine wpAny_bind (m := someArgs "iter" 1 2 _) (wpAny_of_eq (a := [Value.ref l]) (by first | rfl | kernel_rfl!) ?_)
  show wpAny _ _ (pyIter (.ref l) >>= fun v => ret v) _ _ _
  refine wpAny_bind (wpAny_pyIter_tuple (show s.heap.IsTuple l its.toArray from pl) ?_)
  exact wpAny_pure ⟨_, rfl, .ref s.heap.objs.size, _, I.laid (t' := s.toks) (fun b u e => Heap.get?_push_of_some _ e) (Nat.le_refl _) (itT_ok (Heap.get?_push_size _ rfl)), rfl, q _ (I.hok.fresh (Nat.le_refl _)) I.sz⟩
/-! ### a def whose promise may speak of where the call stands -/
def FnS (P : Program) (w : World) (K : PySem.W.Frag) (mg : Str → Option Value) (base : Heap) (CX : CXT) (k : Nat) (f : Addr) (fd : FuncData) (ps : List Str) (sp : Shared → Sp) : Prop :=
  ∀ (A : Around) (outer : List Env) (s : Shared) (H : Hp) (args : Args) (us : List Value) (vs : List V) (Q : VK) (E : XK), Room k A → Env0 P w K mg base A outer s H → BindsTo s fd args (ps.zip us) → Vals vs us → sp s vs H Q E →
    codeAny (model P w) A (.call (.ref f) args) (CR CX outer P w H s Q E) s
section
variable {CX : CXT} {P : Program} {w : World} {K : PySem.W.Frag} {mg : Str → Option Value} {base : Heap} {k : Nat} {f : Addr} {name qual : Str} {params : Arguments} {body : List Stmt} {scope : Scope} {dV kV doc pm cdv ct oc : Value} {an od : Option Addr}
  {osl : Array (Option Value)} {N ps : List Str} {sp : Shared → Sp}
theorem fn_ofS (lk : K.lookup f = some ⟨oc, od, .func (PySem.W.fnOf name qual params body scope dV kV doc pm an cdv ct), osl⟩) (hcd : PySem.W.codeIn K cdv qual = true) (S : FnScope N ps scope)
    (len : ∀ s vs H Q E, sp s vs H Q E → vs.length = ps.length)
    (hbody : ∀ (A : Around) (outer : List Env) (s : Shared) (H : Hp) (vs : List V) (Q : VK) (E : XK), Room k (A.deeper (envOfC qual scope s.heap.objs.size f cdv)) → sp s vs H Q E →
      ∃ t, PSs (cxOf CX P w K mg base N qual scope f cdv A outer s H E) body t ∧ t { nx := fun _ H' => Q .non H', rt := Q } (start N vs) H) :
    FnS P w K mg base CX (k + 1) f (PySem.W.fnOf name qual params body scope dV kV doc pm an cdv ct) ps sp := by
  intro A outer s H args us vs Q E hr e0 hb r hsp
  have hl := len _ _ _ _ _ hsp
  have KS : K.In s.heap := e0.mod.kin.keeps fun b o e => (e0.bs b o e).1
  have lims : s.heap.NoLimit := e0.mod.nolimit.keeps fun b o e => (e0.bs b o e).1
  have kinds : ∀ y ∈ ps.zip us, scope.names.lookup y.1 = some .local ∨ (scope.names.lookup y.1 = some .cell ∧ ((cellsFrom (s.heap.objs.size + 1) scope.names []).lookup y.1).isSome = true) := fun y hy =>
    (S.par y.1 (List.of_mem_zip hy).1).imp id fun q => ⟨q, PySem.W.cellsFrom_some _ _ _ (.inl q)⟩
  refine codeAny_call_function hr.depth (KS _ _ lk) rfl S.co S.gen rfl (PySem.W.codeRec_of KS hcd) (hb _ _ _ _ ?_)
  refine wpAny_newFunctionEnv_cells S.kind kinds fun env he s1 x => ?_
  subst he
  refine ⟨lims.keeps x.toInCall.keep, codeAny_func ?_⟩
  obtain ⟨t, ht, hq⟩ := hbody A outer s H vs Q E (hr.deeper _) hsp
  have I : Inv (cxOf CX P w K mg base N qual scope f cdv A outer s H E) [] (start N vs) H s1 := inv_start S hr.hd e0 hl r x
  refine wpAny_mono (ht.run [] s1 (start N vs) H _ I hq) (fun fl s' hs => ?_) fun _ _ z => z
  have done : ∀ {σ' : L2.St} {H' : Hp} {v : V} {u : Value}, Inv (cxOf CX P w K mg base N qual scope f cdv A outer s H E) [] σ' H' s' → RelV v u → Q v H' → CE outer P w H s Q u s' :=
    fun {σ' H' v u} J rv q => ⟨v, H', J.os, J.bare, J.base, J.hok, rv, q⟩
  cases fl with
  | ret u =>
    obtain ⟨v, σ', H', J, rv, q⟩ := hs
    exact done J rv q
  | next =>
    obtain ⟨σ', H', J, q⟩ := hs
    exact done (v := V.non) (u := Value.none) J rfl q
  | brk => exact (hs.elim fun _ z => z.elim fun _ z => z.2.elim)
  | cont => exact (hs.elim fun _ z => z.elim fun _ z => z.2.elim)
end
/-- def __iter__(self): return iter(self.fld) -/
def spIt (C : Addr) (K : PySem.W.Frag) (fld : Str) : Shared → Sp := fun s vs H Q _ => ∃ (a dx l : Addr) (fs : List (Str × V)) (zs : List V), vs = [.ref a] ∧ H a = some (.ins C dx fs) ∧ fs.lookup fld = some (.ref l) ∧ SqT K H l zs ∧ ∀ it, H it = none → s.heap.objs.size ≤ it → Q (.ref it) (upd H it (ItT l it))
/-- .. at a call with its arguments by place -/
def FnSR (P : Program) (w : World) (K : PySem.W.Frag) (mg : Str → Option Value) (base : Heap) (CX : CXT) (k : Nat) (f : Addr) (sp : Shared → Sp) : Prop :=
  ∀ (A : Around) (outer : List Env) (s : Shared) (H : Hp) (us : List Value) (vs : List V) (Q : VK) (E : XK), Room k A → Env0 P w K mg base A outer s H → Vals vs us → sp s vs H Q E →
    codeAny (model P w) A (.call (.ref f) ⟨us, []⟩) (CR CX outer P w H s Q E) s
theorem FnS.raw {P : Program} {w : World} {K : PySem.W.Frag} {mg : Str → Option Value} {base : Heap} {CX : CXT} {k : Nat} {f : Addr} {fd : FuncData} {ps : List Str} {sp : Shared → Sp} (F : FnS P w K mg base CX k f fd ps sp) (len : ∀ s vs H Q E, sp s vs H Q E → vs.length = ps.length)
    (hb : Binds K fd ps []) : FnSR P w K mg base CX k f sp := fun A outer s H us vs Q E hr e0 r hs => by
  have hl : (us ++ []).length = ps.length := by
    rw [List.append_nil, ← r.length]
    exact len _ _ _ _ _ hs
  have b := hb s us (e0.mod.kin.keeps fun b o e => (e0.bs b o e).1) hl
  rw [List.append_nil] at b
  exact F A outer s H ⟨us, []⟩ us vs Q E hr e0 b r hs
structure OwnIt (K : PySem.W.Frag) (C f : Addr) (fld : Str) : Prop where
  cls : Cls K C
  na : NoAttr K C fld
  at_ : PySem.W.findIn K (.ref C) "__iter__" = some (some (.ref f))
  fn : PySem.W.isFn K (.ref f) = true
/-- over an object whose __iter__ gives the iterator of the tuple at l -/
def iOwn (K : PySem.W.Frag) (f : Addr) (fld : Str) (te : TE) : TI := fun σ H R => te σ H fun x H1 => ∃ (a C dx l : Addr) (fs : List (Str × V)) (zs : List V), x = .ref a ∧ H1 a = some (.ins C dx fs) ∧ OwnIt K C f fld ∧ fs.lookup fld = some (.ref l) ∧ SqT K H1 l zs ∧ R (Itt K l) H1
theorem tup_next {M : Model} {A : Around} {E : Value → Shared → Prop} {s : Shared} {it l : Addr} {Q : Value → Shared → Prop} (h : s.heap.get? it = some (itTup l 0)) (q : Q (.ref it) s) : PySem.W.OwitIt M A Q E (.ref it) s := by
  unfold PySem.W.OwitIt
  exact wpAny_specialOf (name := Str.ofString "__next__") (⟨_, h, rfl⟩ : s.TypeIs (.ref it) "tuple_iterator") PySem.F.slot_tuple_iterator_next.lookup q
theorem pi_own {X : Cx} {CX : CXT} {k : Nat} {f : Addr} {fld : Str} {E : XK} {tg e : Expr} {te : TE} (he : PE X e te) (F : ∀ C, OwnIt X.K C f fld → FnSR X.prog X.w X.K X.mg X.base CX k f (spIt C X.K fld)) (hr : Room k X.A) (hx : Passes CX X E) : PI X tg e (iOwn X.K f fld te) := by
  refine ⟨fun pins s σ H R I h => ?_⟩
  refine thn (he.run pins s σ H _ I h) fun u s1 ⟨x, H1, I1, rx, a, C, dx, l, fs, zs, ex, ea, c, lk, sq, hq⟩ => ?_
  subst ex
  obtain rfl : u = Value.ref a := rx
  obtain ⟨ox, od, J, _⟩ := StX.insC_at I1 (.inr ⟨dx, fs, ea⟩)
  obtain ⟨mm, fr⟩ := I1.fr
  have sp0 : spIt C X.K fld s1 [.ref a] H1 (fun v H2 => ∃ it, v = .ref it ∧ H1 it = none ∧ s1.heap.objs.size ≤ it ∧ H2 = upd H1 it (ItT l it)) E := ⟨a, dx, l, fs, zs, rfl, ea, lk, sq, fun it e n => ⟨it, rfl, e, n, rfl⟩⟩
  refine PySem.W.owit_iter fr I1.ok.mod.kin J c.at_ c.fn (wpAny_call (codeAny_mono (F C c X.A X.stack s1 H1 [.ref a] [.ref a] _ E hr I1.env0 (.cons rfl .nil) sp0) fun r s' z => ?_))
  match r, z with
  | .error er, z => exact hx pins σ H1 s1 er s' I1 z
  | .ok (.ret v), z =>
    obtain ⟨y, H2, os, br, un, ok, ry, it, ey, e1, hn, eH⟩ := z
    subst ey
    subst eH
    obtain rfl : v = Value.ref it := ry
    have I2 : Inv X pins σ (upd H1 it (ItT l it)) s' := I1.call' os un ok br fun b m => by cases m
    have eo := itT_get I2 upd_same
    refine tup_next eo ?_
    have e2 : upd H1 it (ItT l it) it = some (.ext fun h => h.get? it = some (itTup l 0)) := upd_same
    have I3 := ItX.inv_drop I2 e2
    rw [ItX.dropH_upd e1] at I3
    have fp := ItX.inv_fp I2 e2 (Nat.le_trans I1.sz hn)
    rw [ItX.dropH_upd e1] at fp
    refine ⟨it, [it], _, _, H1, rfl, I3, turn_tuple l it, ⟨_, eo, rfl, rfl⟩, fun b hb => ?_, hq⟩
    obtain rfl : b = it := by simpa using hb
    exact fp
end OwR
end
section
/-! list(o), o an object whose __iter__ gives a tuple's iterator and whose __len__ its length. -/
namespace OwR
open PySem PySem.Spec PyProof.Rows L2
section
variable {X : Cx} {pins : List (Addr × Obj)} {σ : L2.St} {H : Hp} {s : Shared}
/-- a list has been filled, an iterator has turned -/
theorem listed {S it : Addr} {xs ys : List V} {acc : Array Value} {c : Nat} {h' : Heap} {t' : Nat} (I : Inv X pins σ H s) (fp : FpOk X pins H it) (hS : H S = some (.lst ys)) (k : ∀ b o, b ≠ S → b ≠ it → s.heap.get? b = some o → h'.get? b = some o)
    (eS : h'.get? S = some ({ cls := .type "list", dict := none, data := .seq acc c, slots := #[] } : Obj)) (rv : Vals xs acc.toList) (hz : xs.length ≤ sizeLine) : Inv X pins σ (upd H S (.lst xs)) { s with heap := h', toks := t' } := by
  have nS : ∀ {b : Addr} {u : HO}, H b = some u → (∀ zs, u ≠ .lst zs) → b ≠ S := fun {b u} e n z => by
    rw [z, hS] at e
    exact n ys (Option.some.inj e).symm
  have nN : ∀ {b : Addr}, H b = none → b ≠ S := fun {b} e z => by
    rw [z, hS] at e
    cases e
  have nI : ∀ {b : Addr} {u : HO}, H b = some u → b ≠ it := fun {b u} e z => by
    rw [z, fp.1] at e
    cases e
  have ni : ∀ {b : Addr}, b ∉ [it] → b ≠ it := fun {b} m z => m (List.mem_singleton.mpr z)
  refine I.step (g' := s.gens) (d' := s.drawn) (ch := [it]) (fun b m => ?_) (fun b o _ _ m e n => k b o (nN n) (ni m) e) (fun b o _ _ m e n => ⟨o.slots, k b o (nN n) (ni m) e⟩) (fun b o m e n => by rw [upd_ne (nN n)]; exact n) (fun b o m e => ?_)
    (fun b zs e => by rw [upd_ne (nS e fun _ z => by cases z)]; exact e) (fun b o u e => by rw [upd_ne (nS e fun _ z => by cases z)]; exact e) (fun b ps e => ⟨#[], by rw [upd_ne (nS e fun _ z => by cases z), e]; simp⟩) (fun m hm => ?_) (fun b u e => ?_) I.bare
  · obtain rfl : b = it := by simpa using m
    exact ⟨fp.2.2.2.1, fp.2.1, fp.2.2.2.2.1, fp.2.2.2.2.2⟩
  · by_cases c : b = S
    · subst c
      exact ⟨_, eS⟩
    · exact ⟨o, k b o c (ni m) e⟩
  · obtain ⟨o, es, ep, ho, r⟩ := hm
    exact ⟨o, es, ep, k _ o (nN I.free) (Ne.symm fp.2.1) ho, r⟩
  · by_cases c : b = S
    · subst c
      rw [upd_same] at e
      cases e
      exact ⟨hz, acc.toList, _, rv, eS⟩
    · rw [upd_ne c] at e
      refine (I.hok b u e).stay (fun d v hd q => k d v ?_ ?_ q) (fun d z => ?_) fun d zs z => ?_
      · rcases hd with z | z
        · rw [z]
          exact c
        · exact nS z fun _ w => by cases w
      · rcases hd with z | z
        · rw [z]
          exact nI e
        · exact nI z
      · rw [upd_ne (nS z fun _ w => by cases w)]
        exact z
      · rw [upd_ne (nS z fun _ w => by cases w)]
        exact z
end
theorem items_all {its : List Value} {acc : Array Value} (h : ItemsOf (fun i v => its.toArray[i]? = some v) acc its.toArray.size) : acc.toList = its := by
  refine List.ext_getElem? fun i => ?_
  obtain ⟨h1, h2⟩ := h
  have h1' : acc.size = its.length := by simpa using h1
  cases e : acc.toList[i]? with
  | some v =>
    have e2 : acc[i]? = some v := by rw [← Array.getElem?_toList]; exact e
    have e3 : its.toArray[i]? = some v := h2 i v e2
    rw [List.getElem?_toArray] at e3
    exact e3.symm
  | none =>
    have : acc.toList.length ≤ i := List.getElem?_eq_none_iff.mp e
    rw [Array.length_toList, h1'] at this
    exact (List.getElem?_eq_none this).symm
/-- len(self) is len(self.fld) -/
def spLn (C : Addr) (K : PySem.W.Frag) (fld : Str) : Sp := fun vs H Q _ => ∃ (a dx l : Addr) (fs : List (Str × V)) (zs : List V), vs = [.ref a] ∧ H a = some (.ins C dx fs) ∧ fs.lookup fld = some (.ref l) ∧ SqT K H l zs ∧ Q (.int (zs.length : Nat)) H
def rListO (K : PySem.W.Frag) (f g : Addr) (fld : Str) : List V → Hp → VK → Prop := fun xs H Q => ∃ (a C dx l : Addr) (fs : List (Str × V)) (zs : List V), xs = [.ref a] ∧ H a = some (.ins C dx fs) ∧ OwnIt K C f fld ∧ Len1 K C g ∧ fs.lookup fld = some (.ref l) ∧ SqT K H l zs ∧ ∀ q, H q = none → Q (.ref q) (upd H q (.lst zs))
theorem asInt_of (n : Int) (t : Tok) : asInt? (.int n t) = pure (some n) := rfl
/-- the hint of how many there are -/
theorem hint_own {prog : Program} {w : World} {A : Around} {E : Value → Shared → Prop} {s : Shared} {K : PySem.W.Frag} {a C g : Addr} {ox : Obj} {od : Option Obj} {Q : Bool → Shared → Prop} (X : K.In s.heap) (J : PySem.W.InstAt s.heap a ox C od) (c : Len1 K C g)
    (h : ∀ E' : Value → Shared → Prop, wpAny (model prog w) A (call (.builtin "len") [.ref a]) (fun v s' => ∃ (n : Int) (t : Tok), v = .int n t ∧ n.toNat ≤ sizeLine ∧ Q (n != 0) s') E' s) : wpAny (model prog w) A (Builtin.List.listLengthHint (.ref a)) Q E s := by
  unfold Builtin.List.listLengthHint
  refine wpAny_bind (wpAny_bind (J.type.here ((PySem.W.looks_findIn X c.at_).here ?_)))
  refine PySem.W.KFB.if_not rfl ?_
  refine wpAny_ite_split (fun _ => ?_) (fun z => absurd rfl z)
  refine wpAny_bind (wpAny_rule ?_)
  refine wpAny_bind (wpAny_attempt (wpAny_mono (h _) (fun v s' q => ?_) fun _ _ z => z))
  obtain ⟨n, t, rfl, hn, q⟩ := q
  refine wpAny_bind (m := asInt? (.int n t)) (wpAny_pure ?_)
  exact PySem.W.KFB.if_not (notLongL hn) (wpAny_pure q)
theorem call_listO {X : Cx} {k : Nat} {f g : Addr} {fld : Str} (F : ∀ C, OwnIt X.K C f fld → FnSR X.prog X.w X.K X.mg X.base CX0 k f (spIt C X.K fld)) (G : ∀ C, Len1 X.K C g → OwnIt X.K C f fld → FnR X.prog X.w X.K X.mg X.base CX0 k g (spLn C X.K fld)) (hc : X.calm = true) (hr : Room (k + 3) X.A) : CallR X (.type "list") (rListO X.K f g fld) := by
  intro pins s σ H xs us Q I rv h
  obtain ⟨a, C, dx, l, fs, zs, rfl, ha, cI, cL, lk, sq, q⟩ := h
  obtain rfl := Vals.ref1 rv
  have fr0 : H s.heap.objs.size = none := I.hok.fresh (Nat.le_refl _)
  refine callType_codes (Q₁ := fun obj t => obj = .ref s.heap.objs.size ∧ t = { s with heap := s.heap.push { cls := .type "list", data := .seq #[] } }) PySem.F.called_list (PySem.F.typeCall_list_1 _) PySem.F.entry_list_init (code_list_new _ ⟨rfl, rfl⟩) fun obj t ht => ?_
  obtain ⟨rfl, rfl⟩ := ht
  have hS : (s.heap.push { cls := .type "list", data := .seq #[] }).get? s.heap.objs.size = some { cls := .type "list", data := .seq #[] } := Heap.get?_push_size _ rfl
  refine ⟨⟨_, hS, rfl⟩, PySem.F.args_list_init_2 _ _, ?_⟩
  have I1 : Inv X pins σ (upd H s.heap.objs.size (.lst [])) { s with heap := s.heap.push { cls := .type "list", data := .seq #[] } } := I.lnew (its := []) (t' := s.toks) .nil (Nat.zero_le _)
  generalize eSz : s.heap.objs.size = S at *
  show wpAny _ _ (do let old ← Builtin.List.listItems (.ref S); Builtin.List.listUpdate (.ref S) (fun _ => #[]); letGo old.toList.reverse; Builtin.List.listExtendWith (.ref S) (.ref a) .none) _ _ _
  refine wpAny_bind ?_
  unfold Builtin.List.listItems
  refine wpAny_bind (wpAny_seqItems hS rfl (wpAny_pure ?_))
  show wpAny _ _ (updateSeq S (fun _ => #[]) >>= fun _ => letGo (#[] : Array Value).toList.reverse >>= fun _ => Builtin.List.listExtendWith (.ref S) (.ref a) .none) _ _ _
  refine wpAny_bind (wpAny_updateSeq hS rfl ?_)
  have I2 := I1.lset (f := fun _ => #[]) (its := []) (its' := []) (ys := []) (t' := s.toks) upd_same hS rfl .nil (Nat.zero_le _)
  rw [upd_upd] at I2
  refine wpAny_bind (wpAny_letGo ?_)
  have ha2 : upd H S (.lst []) a = some (.ins C dx fs) := by
    rw [upd_ne (ne_of_none ha fr0)]
    exact ha
  have sq2 : SqT X.K (upd H S (.lst [])) l zs := sq.elim (fun r => .inl (r.elim (fun e => .inl (by rw [upd_ne (ne_of_none e fr0)]; exact e)) fun ⟨o, e⟩ => .inr ⟨o, by rw [upd_ne (ne_of_none e fr0)]; exact e⟩)) .inr
  have eS2 : upd H S (.lst []) S = some (.lst []) := upd_same
  have done : ∀ s', Inv X pins σ (upd (upd H S (.lst [])) S (.lst zs)) s' → EP X pins σ Q (.ref S) s' := fun s' J => by
    rw [upd_upd] at J
    exact ⟨.ref S, _, J, rfl, q S fr0⟩
  generalize upd H S (.lst []) = H2 at I2 ha2 sq2 eS2 done
  generalize ({ s with heap := ((s.heap.push { cls := .type "list", data := .seq #[] }).update S (Obj.mapSeq fun _ => #[])), toks := s.toks } : Shared) = s2 at I2 ⊢
  have sz := sizeLine_eq
  have nSa : S ≠ a := fun z => by
    rw [z, ha2] at eS2
    cases eS2
  obtain ⟨ox, od, J, _⟩ := StX.insC_at I2 (.inr ⟨dx, fs, ha2⟩)
  obtain ⟨mm, fr⟩ := I2.fr
  obtain ⟨itz, rvz, plz, hz⟩ := I2.tuple sq2
  unfold Builtin.List.listExtendWith
  refine wpAny_bind (J.type.here ?_)
  have t1 : Builtin.List.listSameRef (.ref S) (.ref a) = false := by simp [Builtin.List.listSameRef, nSa]
  have t2 : (Value.ref C == Value.type "list") = false := rfl
  have t3 : (Value.ref C == Value.type "tuple") = false := rfl
  simp only [t3, t2, t1, Bool.false_eq_true, Bool.or_false, if_false]
  have sp0 : spIt C X.K fld s2 [.ref a] H2 (fun v G2 => ∃ it, v = .ref it ∧ H2 it = none ∧ s2.heap.objs.size ≤ it ∧ G2 = upd H2 it (ItT l it)) E0 := ⟨a, dx, l, fs, zs, rfl, ha2, lk, sq2, fun it e n => ⟨it, rfl, e, n, rfl⟩⟩
  refine wpAny_bind (PySem.W.owit_iter fr I2.ok.mod.kin J cI.at_ cI.fn (wpAny_call (codeAny_mono (F C cI X.A.in1.in1 X.stack s2 H2 [.ref a] [.ref a] _ E0 (hr.in1.in1.mono (Nat.le_succ k)) I2.env0.in1.in1 (.cons rfl .nil) sp0) fun r s' z => ?_)))
  match r, z with
  | .error er, z => exact z.elim
  | .ok (.ret v), z =>
    obtain ⟨y, G3, os, br, un, ok, ry, it, ey, e1, hn, eH⟩ := z
    subst ey
    subst eH
    obtain rfl : v = Value.ref it := ry
    have I3 : Inv X pins σ (upd H2 it (ItT l it)) s' := I2.call' os un ok br fun b m => by cases m
    have nlit : l ≠ it := fun e => by
      obtain ⟨o, eo, _⟩ := plz
      exact absurd (Nat.lt_of_lt_of_le (Heap.lt_size eo) (e ▸ hn)) (Nat.lt_irrefl _)
    have mono : ∀ {b : Addr} {u : HO}, H2 b = some u → upd H2 it (ItT l it) b = some u := fun {b u} e => by
      rw [upd_ne (ne_of_none e e1)]
      exact e
    have ha3 := mono ha2
    have eS3 := mono eS2
    have sq3 : SqT X.K (upd H2 it (ItT l it)) l zs := sq2.elim (fun r => .inl (r.elim (fun e => .inl (mono e)) fun ⟨o, e⟩ => .inr ⟨o, mono e⟩)) .inr
    have e2 : upd H2 it (ItT l it) it = some (.ext fun h => h.get? it = some (itTup l 0)) := upd_same
    have fp0 := ItX.inv_fp I3 e2 (Nat.le_trans I2.sz hn)
    rw [ItX.dropH_upd e1] at fp0
    have loop : ∀ s4, Inv X pins σ (upd H2 it (ItT l it)) s4 → codeAny (model X.prog X.w) X.A.in1 (.builtin "list.extend.loop" ⟨[.ref S, .ref it, .none], []⟩) (wants (fun r t => r = .none ∧ EP X pins σ Q (.ref S) t) X.xe) s4 := fun s4 I4 => by
      have eo := itT_get I4 upd_same
      obtain ⟨iz, rz, pz, lz⟩ := I4.tuple sq3
      obtain ⟨z1, l1, c1, r1, _, f1⟩ := I4.lstM eS3
      cases r1
      have W := Walks.tuple (prog := X.prog) (w := X.w) (A := X.A.in1.in1) (I.ok.hd hc) it l nlit iz.toArray
      have I5 := ItX.inv_drop I4 e2
      rw [ItX.dropH_upd e1] at I5
      have nSf : S ∉ [it, l] := fun m => by
        rcases List.mem_cons.mp m with z | m
        · rw [z, e1] at eS2
          cases eS2
        · obtain ⟨o, e3, c3, d3⟩ := pz
          rw [← List.mem_singleton.mp m, f1] at e3
          cases e3
          exact absurd (show Value.type "list" = Value.type "tuple" from c3) (by decide)
      refine codeAny_extend_loopS W.toS (by rw [List.size_toArray, ← rz.length]; exact lz) S nSf .none iz.toArray.size 0 s4 #[] c1 rfl (Nat.zero_le _) ⟨⟨_, eo, rfl, rfl⟩, pz⟩ f1 (ItemsOf.nil _) fun t acc c2 mv f2 ic => ?_
      refine ⟨rfl, done t ?_⟩
      have J5 := listed (xs := zs) (acc := acc) (c := c2) (h' := t.heap) (t' := t.toks) I5 fp0 eS2 (fun b o n1 n2 e => mv.heap b o (fun m => (List.mem_cons.mp m).elim n1 fun m => n2 (List.mem_singleton.mp m)) e) f2 (by rw [items_all ic]; exact rz) lz
      rw [Moved.eq_with mv]
      exact J5
    refine tup_next (itT_get I3 upd_same) ?_
    obtain ⟨ox3, od3, J3, _⟩ := StX.insC_at I3 (.inr ⟨dx, fs, ha3⟩)
    obtain ⟨m3, fr3⟩ := I3.fr
    refine wpAny_bind (wpAny_holding (hint_own I3.kIn J3 cL fun E' => ?_))
    refine PySem.W.len_K fr3 I3.ok.mod.kin J3 cL.at_ cL.fn (wpAny_call (codeAny_mono (G C cL cI X.A.in1.in1.in1 X.stack s' _ [.ref a] [.ref a] (fun v G4 => v = .int (zs.length : Nat) ∧ G4 = upd H2 it (ItT l it)) E0 hr.in1.in1.in1 I3.env0.in1.in1.in1 (.cons rfl .nil) ⟨a, dx, l, fs, zs, rfl, ha3, lk, sq3, rfl, rfl⟩) fun r2 s5 z2 => ?_))
    match r2, z2 with
    | .error er, z2 => exact z2.elim
    | .ok (.ret v2), z2 =>
      obtain ⟨y2, G5, os2, br2, un2, ok2, ry2, ey2, eG⟩ := z2
      subst ey2
      subst eG
      obtain ⟨tk, rfl⟩ := ry2
      have I5 : Inv X pins σ (upd H2 it (ItT l it)) { s5 with toks := s5.toks + 1 } := (I3.call' os2 un2 ok2 br2 fun b m => by cases m).tok _
      refine ⟨⟨Int.natCast_nonneg _, by have : zs.length ≤ 16777216 := by rw [← sz]; exact hz
                                        omega⟩, _, _, rfl, by rw [Int.toNat_natCast]; exact hz, ?_⟩
      refine wpAny_ite_split (fun _ => ?_) (fun _ => wpAny_pure ⟨plainId_quiet PySem.F.plain_extend_loop _, loop _ I5⟩)
      refine wpAny_bind (wpAny_rule ?_)
      refine wpAny_bind ?_
      show wpAny _ _ (updateSeq S (·.push .none) >>= fun _ => updateSeq S (·.pop)) _ _ _
      obtain ⟨z6, l6, c6, r6, _, f6⟩ := I5.lstM eS3
      cases r6
      refine wpAny_bind (wpAny_updateSeq f6 rfl ?_)
      have I6 := I5.lset (f := (·.push Value.none)) (its := []) (its' := [Value.none]) (ys := [.non]) (t' := s5.toks + 1) eS3 f6 (by simp) (.cons rfl .nil) (by rw [List.length_singleton, sz]; decide)
      obtain ⟨z7, l7, c7, r7, _, f7⟩ := I6.lstM upd_same
      obtain ⟨u7, rfl, ru7⟩ := r7.one
      refine wpAny_updateSeq f7 rfl ?_ (by show 1 ≤ sizeLine; rw [sz]; decide) (by show 0 ≤ sizeLine + 1; exact Nat.zero_le _)
      have I7 := I6.lset (f := (·.pop)) (its := [u7]) (its' := []) (ys := []) (t' := s5.toks + 1) upd_same f7 (by rfl) .nil (Nat.zero_le _)
      rw [upd_upd] at I7
      have back : upd (upd H2 it (ItT l it)) S (.lst []) = upd H2 it (ItT l it) := funext fun b => by
        by_cases e : b = S
        · rw [e, upd_same, eS3]
        · rw [upd_ne e]
      rw [back] at I7
      exact wpAny_pure ⟨plainId_quiet PySem.F.plain_extend_loop _, loop _ I7⟩
end OwR
end
section
/-! def f(a, .., *v, k): called with the keyword; instances made so. -/
namespace OwR
open PySem PySem.Spec PyProof.Rows L2
/-- a promise by places and by the values of given keywords -/
def FnRK (P : Program) (w : World) (K : PySem.W.Frag) (mg : Str → Option Value) (base : Heap) (CX : CXT) (k : Nat) (f : Addr) (ks : List Str) (sp : List V → Sp) : Prop :=
  ∀ (A : Around) (outer : List Env) (s : Shared) (H : Hp) (us ws : List Value) (vs zs : List V) (Q : VK) (E : XK), Room k A → Env0 P w K mg base A outer s H → Vals vs us → Vals zs ws → sp zs vs H Q E →
    codeAny (model P w) A (.call (.ref f) ⟨us, ks.zip ws⟩) (CR CX outer P w H s Q E) s
section
variable {CX : CXT} {P : Program} {w : World} {K : PySem.W.Frag} {mg : Str → Option Value} {base : Heap} {k : Nat} {f : Addr} {name qual : Str} {params : Arguments} {body : List Stmt} {scope : Scope} {dV kV doc pm cdv ct oc : Value} {an od : Option Addr}
  {osl : Array (Option Value)} {N ps : List Str} {sp : Sp}
theorem fn_starko {pv kn : Str} (lk : K.lookup f = some ⟨oc, od, .func (PySem.W.fnOf name qual params body scope dV kV doc pm an cdv ct), osl⟩) (hcd : PySem.W.codeIn K cdv qual = true) (S : FnScope N (ps ++ [kn, pv]) scope) (hCX : StX.CXUp CX)
    (hb : ∀ (us rest : List Value) (y : Value), us.length = ps.length → bindArgs (PySem.W.fnOf name qual params body scope dV kV doc pm an cdv ct) ⟨us ++ rest, [(kn, y)]⟩ = (newTuple rest >>= fun t => pure (ps.zip us ++ [(kn, y), (pv, t)])))
    (hbody : ∀ (A : Around) (outer : List Env) (s : Shared) (H : Hp) (vs : List V) (Q : VK) (E : XK), Room k (A.deeper (envOfC qual scope s.heap.objs.size f cdv)) → sp vs H Q E →
      ∃ t, PSs (cxOf CX P w K mg base N qual scope f cdv A outer s H E) body t ∧ t { nx := fun _ H' => Q .non H', rt := Q } (start N vs) H) :
    FnRK P w K mg base CX (k + 1) f [kn] (fun zs vs H Q E => ∃ as rest y, zs = [y] ∧ vs = as ++ rest ∧ as.length = ps.length ∧ rest.length ≤ sizeLine ∧ ∀ p, H p = none → sp (as ++ [y, V.ref p]) (upd H p (.tup rest)) Q E) := by
  intro A outer s H us ws vs zs Q E hr e0 r rz hsp
  obtain ⟨as, rest, y, rfl, rfl, hl, hz, hq⟩ := hsp
  obtain ⟨u1, u2, rfl, r1, r2⟩ := StX.vals_split r
  obtain ⟨yv, rfl, ry⟩ := rz.one
  have fresh : H s.heap.objs.size = none := e0.hok.fresh (Nat.le_refl _)
  have l1 : u1.length = ps.length := r1.length.symm.trans hl
  have l2 : u2.length ≤ sizeLine := r2.length ▸ hz
  refine StX.run_bnd (args := ⟨u1 ++ u2, [kn].zip [yv]⟩) lk hcd S hr e0 (G := fun xs G2 => ∃ p, H p = none ∧ xs = as ++ [y, V.ref p] ∧ G2 = upd H p (.tup rest)) (fun A' Ex Q' h => ?_) fun s2 G2 xs g hr' => ?_
  · show wpAny _ _ (bindArgs _ ⟨u1 ++ u2, [(kn, yv)]⟩) _ _ _
    rw [hb u1 u2 yv l1]
    refine wpAny_bind (wpAny_newTuple (wpAny_pure ?_) l2)
    have laid : ObjOk P w (upd H s.heap.objs.size (.tup rest)) (s.heap.push ({ cls := .type "tuple", data := .seq u2.toArray } : Obj)) s.heap.objs.size (.tup rest) := ⟨hz, u2, r2, ⟨_, Heap.get?_push_size _ rfl, rfl, _, rfl⟩⟩
    have un := StX.un_laid (fs := frs outer) (s := s) (o := ({ cls := .type "tuple", data := .seq u2.toArray } : Obj)) (u := .tup rest) fresh
    have z := h _ _ (as ++ [y, V.ref s.heap.objs.size]) (u1 ++ [yv, Value.ref s.heap.objs.size]) (StX.env0_laid e0 laid) un rfl (fun e s' => hCX outer s H _ _ E e s' un (fun b o q => Heap.get?_push_of_some _ q) rfl) (r1.append (.cons ry (.cons rfl .nil)))
      (by rw [List.length_append, List.length_append, hl] <;> rfl) ⟨_, fresh, rfl, rfl⟩
    rw [List.zip_append l1.symm] at z
    exact z
  · obtain ⟨p, hp, rfl, rfl⟩ := g
    exact hbody A outer s2 _ _ Q E hr' (hq p hp)
end
section
variable {X : Cx} {CX : CXT} {k : Nat} {f C : Addr} {ks : List Str} {sp : List V → Sp} {E : XK} {x : Str} {p pos : Pos} {e : Expr} {es : List Expr} {kws : List Keyword} {t tk : TA}
theorem run_makeRK {pins : List (Addr × Obj)} {σ : L2.St} {H : Hp} {s : Shared} {Q : VK} {us ws : List Value} {vs zs : List V} (M : Mk X.K C f) (F : FnRK X.prog X.w X.K X.mg X.base CX k f ks sp) (hr : Room (k + 1) X.A) (hx : Passes CX X E) (I : Inv X pins σ H s) (r : Vals vs us) (rz : Vals zs ws)
    (h : ∀ y dy, H y = none → H dy = none → dy ≠ y → sp zs (.ref y :: vs) (upd (upd H dy (.own y)) y (.ins C dy [])) (fun v G => v = .non ∧ Q (.ref y) G) E) : wpAny (model X.prog X.w) X.A (call (.ref C) us (ks.zip ws)) (EP X pins σ Q) X.xe s := by
  have hq := h (s.heap.objs.size + 1) s.heap.objs.size (I.hok.fresh (Nat.le_succ _)) (I.hok.fresh (Nat.le_refl _)) (Nat.ne_of_lt (Nat.lt_succ_self _))
  have J := Inv.made (C := C) I
  have rr : Vals (V.ref (s.heap.objs.size + 1) :: vs) (Value.ref (s.heap.objs.size + 1) :: us) := .cons rfl r
  refine wpAny_call (make_map (f := f) I.kIn M.makes M.init (beq_iff_eq.mp M.fn) (codeAny_mono (F _ X.stack _ _ (Value.ref (s.heap.objs.size + 1) :: us) ws _ zs _ E (hr.make C us (ks.zip ws)) (J.env0.make C us (ks.zip ws)) rr rz hq) fun r s' z => ?_))
  match r, z with
  | .error er, z => exact hx pins σ _ _ er s' J z
  | .ok (.ret u), z =>
    obtain ⟨v, G, I3, rv, ev, q3⟩ := J.after z
    subst ev
    exact ⟨rv, ⟨V.ref (s.heap.objs.size + 1), G, I3, rfl, q3⟩⟩
def tMakeRK (C : Addr) (sp : List V → Sp) (E : XK) (t tk : TA) : TE := fun σ H Q => t σ H fun vs H1 => tk σ H1 fun zs H2 => ∀ y dy, H2 y = none → H2 dy = none → dy ≠ y → sp zs (.ref y :: vs) (upd (upd H2 dy (.own y)) y (.ins C dy [])) (fun v G => v = .non ∧ Q (.ref y) G) E
/-- C(e, .., k = v), __init__ with a starred parameter -/
theorem pe_makeRK (M : Mk X.K C f) (F : FnRK X.prog X.w X.K X.mg X.base CX k f ks sp) (hr : Room (k + 1) X.A) (hg : Gl X x) (hm : X.mg x = some (.ref C)) (hx : Passes CX X E) (ha : PA X (e :: es) t) (hkw : PK X kws tk)
    (hall : (backToKw pos (keywordEach kws X.env)).all (·.1.isSome) = true := by rfl) (hks : (backToKw pos (keywordEach kws X.env)).filterMap (·.1) = ks := by rfl) (hdb : (x == ("__debug__" : Str)) = false := by decide)
    (he : starEach (e :: es) X.env = (false, eval e X.env) :: starEach es X.env := by rfl) (hpl : ((backTo pos (starEach (e :: es) X.env)).any (·.1) || (backToKw pos (keywordEach kws X.env)).any (·.1.isNone)) = false := by rfl) :
    PE X (.Call (.Name x p) (e :: es) kws pos) (tMakeRK C sp E t tk) := by
  refine ⟨fun pins s σ H Q I h => ?_⟩
  refine wpAny_Call_Name_kw (ld_glob I hg hm ?_ hdb)
  refine PySem.W.callWith_KW (h₀ := X.base) I.ok.mod.kin M.kp hall (thn (ha.run pos pins s σ H _ I h) fun us s1 ⟨vs, H1, I1, r, q⟩ => ?_) hpl he
  refine thn (hkw.run pos pins s1 σ H1 _ I1 q) fun ws s2 ⟨zs, H2, I2, rz, q2⟩ => ⟨I2.kIn, ?_⟩
  rw [hks]
  exact run_makeRK M F hr hx I2 r rz q2
end
end OwR
end
section
/-! xs[::k]; an own == asked of any value; str(o) by an own __str__. -/
namespace OwR
open PySem PySem.Spec PyProof.Rows L2
/-! ### xs[::k] -/
theorem vals_pick {xs : List V} {us : List Value} (r : Vals xs us) : ∀ idx : List Nat, Vals (idx.filterMap (xs[·]?)) (idx.filterMap (us[·]?))
  | [] => .nil
  | i :: l => by
    have ih := vals_pick r l
    rw [List.filterMap_cons, List.filterMap_cons]
    cases hx : xs[i]? with
    | none =>
      have e : us[i]? = none := by
        rw [List.getElem?_eq_none_iff] at hx ⊢
        rw [← r.length]
        exact hx
      rw [e]
      exact ih
    | some x =>
      obtain ⟨u, hu, ru⟩ := r.get hx
      rw [hu]
      exact .cons ru ih
theorem pick_mem {α : Type} {xs : List α} : ∀ {idx : List Nat} {y : α}, y ∈ idx.filterMap (xs[·]?) → y ∈ xs := fun {idx y} h => by
  obtain ⟨i, _, e⟩ := List.mem_filterMap.mp h
  exact List.mem_of_getElem? e
def tStepL (K : PySem.W.Frag) (te : TE) : TE := fun σ H Q => te σ H fun x H1 => ∃ a xs, x = .ref a ∧ SqL K H1 a xs ∧ ∀ p ys, H1 p = none → (∀ y ∈ ys, y ∈ xs) → Q (.ref p) (upd H1 p (.lst ys))
theorem pe_stepL {X : Cx} {e : Expr} {te : TE} {n : Nat} {k : Nat} {p1 p3 pos : Pos} (h0 : (n : Int) ≠ 0) (he : PE X e te) : PE X (.Subscript e (.Slice none none (some (.Constant (.int (n : Int)) k p1)) p3) pos) (tStepL X.K te) := by
  refine ⟨fun pins s σ H Q I h => ?_⟩
  refine Subscript_ (thn (he.run pins s σ H _ I h) fun v s1 w => ?_)
  obtain ⟨x, H1, I1, r1, a, xs, rfl, hx, q⟩ := w
  cases r1
  have hst : PO X (some (.Constant (.int (n : Int)) k p1)) (tPart (tC (.int (n : Int)))) := po_some pe_int
  refine wpAny_Slice (thn (po_none.run pins s1 σ H1 (fun o H2 => o = none ∧ H2 = H1) I1 ⟨rfl, rfl⟩) fun vl s2 w2 => ?_)
  obtain ⟨l, H2, I2, pl, rfl, rfl⟩ := w2
  refine thn (po_none.run pins s2 σ H2 (fun o H3 => o = none ∧ H3 = H2) I2 ⟨rfl, rfl⟩) fun vu s3 w3 => ?_
  obtain ⟨u, H3, I3, pu, rfl, rfl⟩ := w3
  refine thn (hst.run pins s3 σ H3 (fun o H4 => o = some (n : Int) ∧ H4 = H3) I3 ⟨(n : Int), rfl, rfl, rfl⟩) fun vs s4 w4 => ?_
  obtain ⟨o, H4, I4, ps, rfl, rfl⟩ := w4
  have I5 : Inv X pins σ H4 { s4 with heap := s4.heap.push { cls := .type "slice", data := .fields #[vl, vu, vs] } } := I4.kept (t' := s4.toks) fun b ob q => Heap.get?_push_of_some _ q
  obtain ⟨its, r, ht, hz⟩ := I5.list hx
  have hlen := r.length
  show wpAny (model X.prog X.w) X.A (subscriptTail e (.Slice none none (some (.Constant (.int (n : Int)) k p1)) p3) (.ref a) (.ref s4.heap.objs.size)) (EP X pins σ Q) X.xe { s4 with heap := s4.heap.push { cls := .type "slice", data := .fields #[vl, vu, vs] } }
  refine tail_any (ops := [.ref a, .ref s4.heap.objs.size]) ht.isList.typeIs (PySem.slot_list_getitem.lookup) ?_ (by with_unfolding_all rfl)
  refine wpAny_getItem_list_slice ht.isList (Heap.IsSliceOf.new _ vl vu vs) pl pu ps (fun z => h0 (Option.some.inj z)) ?_ (by rw [List.size_toArray]; omega)
  have hz2 := slicePick_size_le its.toArray none none (some (n : Int))
  have ep : slicePick its.toArray none none (some (n : Int)) = ((sliceRange (sliceBounds none none (some (n : Int)) its.toArray.size).1 (sliceBounds none none (some (n : Int)) its.toArray.size).2.1 (sliceBounds none none (some (n : Int)) its.toArray.size).2.2).filterMap (its[·]?)).toArray := by
    unfold slicePick
    simp
  rw [ep] at hz2 ⊢
  generalize sliceRange (sliceBounds none none (some (n : Int)) its.toArray.size).1 (sliceBounds none none (some (n : Int)) its.toArray.size).2.1 (sliceBounds none none (some (n : Int)) its.toArray.size).2.2 = idx at hz2 ⊢
  have rv := vals_pick r idx
  rw [List.size_toArray, List.size_toArray] at hz2
  refine ⟨.ref _, _, I5.laid (t' := s4.toks) (o := .lst (idx.filterMap (xs[·]?))) (fun b ob q => Heap.get?_push_of_some _ q) (Nat.le_refl _) ?_, rfl, q _ _ (I5.hok.fresh (Nat.le_refl _)) fun y hy => pick_mem hy⟩
  exact ⟨by rw [rv.length]; omega, _, 0, rv, Heap.get?_push_size _ rfl⟩
/-! ### an own comparison asked of any value -/
def rCmpX (K : PySem.W.Frag) (op : CmpOp) (g : Addr) (sp : Sp) (E : XK) : R2 := fun x y H Q => ∃ (p C dx : Addr) (fs : List (Str × V)) (t : Value), x = .ref p ∧ H p = some (.ins C dx fs) ∧ TyX K H y t ∧ Cmp1 K op C g ∧ PySem.W.notFirst K C t = true ∧ sp [.ref p, y] H Q E
section
variable {X : Cx} {CX : CXT} {k : Nat} {g : Addr} {sp : Sp} {E : XK}
theorem rc_ownX {o : CmpOp} (hu : X.A.units < cLine) (F : FnR X.prog X.w X.K X.mg X.base CX k g sp) (hr : Room k X.A) (hx : Passes CX X E) : OpR X (richCompare o) (rCmpX X.K o g sp E) := by
  intro pins s σ H x y v u Q I rx ry h
  obtain ⟨p, C, dx, fs, t, rfl, ep, ty, c1, nf, hq⟩ := h
  obtain rfl : v = Value.ref p := rx
  obtain ⟨ox, od, J, _⟩ := StX.insC_at I (.inr ⟨dx, fs, ep⟩)
  obtain ⟨P, kx, pS, _⟩ := kit_of I ry ty
  obtain ⟨mm, fr⟩ := I.fr
  exact PySem.W.cmp_K hu fr I.ok.mod.kin J (kx.ty (model X.prog X.w) s.heap I.kIn pS) nf c1.at_ c1.fn (run_own F hr hx I (us := [.ref p, u]) (vs := [.ref p, y]) (.cons rfl (.cons ry .nil)) hq)
theorem op_ownEqX (hu : X.A.units < cLine) (F : FnR X.prog X.w X.K X.mg X.base CX k g sp) (hr : Room k X.A) (hx : Passes CX X E) : OpR X (compareOp .Eq) (rCmpX X.K .Eq g sp E) := fun pins s σ H x y v u Q I rx ry h => PySem.W.cmp_ofEq (rc_ownX hu F hr hx pins s σ H x y v u Q I rx ry h)
theorem op_ownEqXK {K : PySem.W.Frag} (hK : X.K = K) (hu : X.A.units < cLine) (F : FnR X.prog X.w X.K X.mg X.base CX k g sp) (hr : Room k X.A) (hx : Passes CX X E) : OpR X (compareOp .Eq) (rCmpX K .Eq g sp E) := by
  subst hK
  exact op_ownEqX hu F hr hx
/-! ### str(o) -/
structure Str1 (K : PySem.W.Frag) (C g : Addr) : Prop where
  at_ : PySem.W.findIn K (.ref C) "__str__" = some (some (.ref g))
  fn : PySem.W.isFn K (.ref g) = true
def rStrO (K : PySem.W.Frag) (g : Addr) (sp : Sp) (E : XK) : List V → Hp → VK → Prop := fun xs H Q => ∃ (a C dx : Addr) (fs : List (Str × V)), xs = [.ref a] ∧ H a = some (.ins C dx fs) ∧ Str1 K C g ∧ sp [.ref a] H (fun v H' => ∃ z : Str, v = .str z ∧ Q (.str z) H') E
theorem call_strO (hu : X.A.units + 2 < cLine) (F : FnR X.prog X.w X.K X.mg X.base CX k g sp) (hr : Room (k + 2) X.A) (hx : Passes CX X E) : CallR X (.type "str") (rStrO X.K g sp E) := by
  intro pins s σ H xs us Q I r h
  obtain ⟨a, C, dx, fs, rfl, ea, c, hq⟩ := h
  obtain rfl := Vals.ref1 r
  obtain ⟨ox, od, J, _⟩ := StX.insC_at I (.inr ⟨dx, fs, ea⟩)
  refine PySem.W.kso_call (by simpa using hu) I.kIn J c.at_ c.fn ?_
  refine wpAny_call (codeAny_mono (F X.A.in1.in1 X.stack s H [.ref a] [.ref a] _ E hr.in1.in1 I.env0.in1.in1 (.cons rfl .nil) hq) fun r s' hq => ?_)
  cases r with
  | error er => exact hx pins σ H s er s' I hq
  | ok fl =>
    cases fl with
    | ret u =>
      obtain ⟨v, H', I', rv, z, rfl, q2⟩ := I.after hq
      obtain ⟨t, rfl⟩ := rv
      exact ⟨.str z, H', I', ⟨t, rfl⟩, q2⟩
    | next => exact False.elim hq
    | brk => exact False.elim hq
    | cont => exact False.elim hq
end
end OwR
end
section
/-! Own: a != b, b of any class. -/
namespace OwR
open PySem PySem.Spec PyProof.Rows L2
def rNeX (K : PySem.W.Frag) (g : Addr) (sp : Sp) (E : XK) : R2 := fun x y H Q => ∃ (p C dx : Addr) (fs : List (Str × V)) (t : Value), x = .ref p ∧ H p = some (.ins C dx fs) ∧ TyX K H y t ∧ Ne1 K C g ∧ PySem.W.notFirst K C t = true ∧ sp [.ref p, y] H (fun v H' => ∃ c, v = .bl c ∧ Q (.bl (!c)) H') E
theorem op_ownNeX {X : Cx} {CX : CXT} {k : Nat} {g : Addr} {sp : Sp} {E : XK} (hu : X.A.units + 1 < cLine) (F : FnR X.prog X.w X.K X.mg X.base CX k g sp) (hr : Room (k + 1) X.A) (hx : Passes CX X E) : OpR X (compareOp .NotEq) (rNeX X.K g sp E) := by
  intro pins s σ H x y v u Q I rx ry h
  obtain ⟨p, C, dx, fs, t, rfl, ep, ty, c1, nf, hq⟩ := h
  obtain rfl : v = Value.ref p := rx
  obtain ⟨ox, od, J, _⟩ := StX.insC_at I (.inr ⟨dx, fs, ep⟩)
  obtain ⟨P, kx, pS, _⟩ := kit_of I ry ty
  refine PySem.W.cmp_ofNotEq (ne_K hu I.kIn J (kx.ty (model X.prog X.w) s.heap I.kIn pS) nf c1.obj c1.ne c1.eq c1.fn ?_)
  refine wpAny_mono (run_in (us := [.ref p, u]) (vs := [.ref p, y]) F hr hx I (.cons rfl (.cons ry .nil)) hq) (fun v s' z => ?_) fun _ _ z => z
  obtain ⟨x2, H2, I2, r2, c, rfl, z⟩ := z
  exact ⟨c, r2, .bl (!c), H2, I2, rfl, z⟩
end OwR
end
section
/-! a text == a dict, == an object with an own ==; x in o by an own __contains__. -/
namespace OwR
open PySem PySem.Spec PyProof.Rows L2
theorem str_no_plain (b : Str) (u : Tok) (l : Addr) (c : Value) (dd : Option Addr) (sl : Array (Option Value)) :
    Meets (Builtin.«str.__eq__» ⟨[.str b u, .ref l], []⟩) (fun _ R s => s.heap.get? l = some { cls := c, dict := dd, data := .plain, slots := sl } ∧ R (.ok (.ret .notImplemented)) s) :=
  .of_wp fun prog w A R s h => by obtain ⟨hp, g, d, tk, os⟩ := s; obtain ⟨hl, h⟩ := h; wp_walk using wpAny_loadPart' hl, wpAny_load hl; exact ⟨_, rfl, h⟩
theorem str_no_dict (b : Str) (u : Tok) (l : Addr) (c : Value) (es : Array DictEntry) (n : Nat) (dd : Option Addr) (sl : Array (Option Value)) :
    Meets (Builtin.«str.__eq__» ⟨[.str b u, .ref l], []⟩) (fun _ R s => s.heap.get? l = some { cls := c, dict := dd, data := .dict es n, slots := sl } ∧ R (.ok (.ret .notImplemented)) s) :=
  .of_wp fun prog w A R s h => by obtain ⟨hp, g, d, tk, os⟩ := s; obtain ⟨hl, h⟩ := h; wp_walk using wpAny_loadPart' hl, wpAny_load hl; exact ⟨_, rfl, h⟩
section
variable {prog : Program} {w : World} {A : Around} {E : Value → Shared → Prop} {s : Shared} {K : PySem.W.Frag} {x C f : Addr} {ox : Obj} {od : Option Obj} {z : Str} {t : Tok}
theorem rc_strOwn {Q : Value → Shared → Prop} (hu : A.units < cLine) (X : K.In s.heap) (I : PySem.W.InstAt s.heap x ox C od) (hd : ox.data = .plain) (sub : PySem.W.subIn K (.ref C) (.type "str") = some false)
    (eq : PySem.W.findIn K (.ref C) "__eq__" = some (some (.ref f))) (fn : PySem.W.isFn K (.ref f) = true) (h : wpAny (model prog w) A (call (.ref f) [.ref x, .str z t]) (PySem.W.CmpBack Q) E s) :
    wpAny (model prog w) A (richCompare .Eq (.str z t) (.ref x)) Q E s := by
  have one : wpAny (model prog w) A (tryCompare (.ref x) "__eq__" (.str z t)) (fun r s' => ∃ v, r = some v ∧ Q v s') E s := by
    unfold tryCompare
    refine wpAny_bind (PySem.W.ifBound_K X I eq fn (wpAny_mono h (fun v s' hv => ?_) fun _ _ e => e))
    cases v <;> first | exact hv.elim | exact wpAny_pure ⟨_, rfl, hv⟩
  have ta : s.TypeIs (.str z t) "str" := typeIs_str s z t
  have no : wpAny (model prog w) A (call (.builtin "str.__eq__") [.str z t, .ref x]) (fun v s' => v = .notImplemented ∧ s' = s) E s := by
    obtain ⟨cls, dd, data, sl⟩ := ox
    have hd : data = .plain := hd
    subst hd
    exact call_meets F.slot_str_eq ta F.entry_str_eq (F.args_str_eq_2 _ _) (str_no_plain z t x cls dd sl) ⟨I.at_, rfl, rfl⟩
  rcases hi : cmpInfo CmpOp.Eq with ⟨sym, f1, r1⟩
  have h1 := F.slot_str_eq
  have e2 : r1 = "__eq__" := by cases hi; rfl
  rw [hi] at h1
  subst e2
  simp only [richCompare, hi, ta.oneThing_none]
  refine wpAny_holding (wpAny_bind (wpAny_cRoomFor hu ?_))
  refine wpAny_bind (wpAny_typeOf ta (wpAny_bind (I.type.here ?_)))
  simp only [show (Value.type "str" != Value.ref C) = true from rfl, if_true]
  refine wpAny_bind ((PySem.W.looks_subIn X sub).here ?_)
  simp only [Bool.false_eq_true, if_false, Bool.not_false, if_true]
  refine wpAny_bind (m := tryCompare (.str z t) _ (.ref x)) (wpAny_tryCompare_declines ta h1 (wpAny_mono no (fun v s1 h1 => ⟨h1.1, ?_⟩) fun _ _ x => x))
  obtain ⟨_, rfl⟩ := h1
  refine wpAny_bind (wpAny_mono one (fun r s' q => ?_) fun _ _ e => e)
  obtain ⟨v, rfl, hq⟩ := q
  exact wpAny_pure hq
theorem sub_str_dict : isSubtype (.type "str") (.type "dict") = pure false := by rw [isSubtype_type]; kernel_rfl
theorem rc_strDict {l : Addr} {o : Obj} {es : Array DictEntry} {n : Nat} {Q : Value → Shared → Prop} (hu : A.units < cLine) (ho : s.heap.get? l = some o) (hc : o.cls = .type "dict") (hd : o.data = .dict es n) (h : Q (.bool false) s) : wpAny (model prog w) A (richCompare .Eq (.str z t) (.ref l)) Q E s := by
  obtain ⟨cls, dd, data, sl⟩ := o
  have hc : cls = .type "dict" := hc
  have hd : data = .dict es n := hd
  subst hc hd
  have tb : s.TypeIs (.ref l) "dict" := ⟨_, ho, rfl⟩
  exact PySem.SeqAt.rc_eq_decline_or (k := false) (typeIs_str s z t) tb (by decide) F.sub_dict_str F.slot_str_eq F.slot_dict_eq_refl
    (fun _ hq => call_meets F.slot_str_eq (typeIs_str s z t) F.entry_str_eq (F.args_str_eq_2 _ _) (str_no_dict z t l (.type "dict") es n dd sl) ⟨ho, hq⟩)
    (fun _ hq => by
      refine wpAny_call_entry F.slot_dict_eq_refl tb F.entry_dict_eq ?_ (F.args_dict_eq_2 _ _)
      show wpAny _ _ (Builtin.Dict.dictSlotArgs "__eq__" ⟨[.ref l, .str z t], []⟩ >>= _) _ _ s
      refine wpAny_bind ?_
      unfold Builtin.Dict.dictSlotArgs
      refine wpAny_bind (wpAny_notOrdered_dict tb ?_)
      show wpAny _ _ (pure (Value.ref l, Value.str z t)) _ _ s
      refine wpAny_pure ?_
      refine wpAny_bind (wpAny_isInstance (T := "str") (typeIs_str s z t) sub_str_dict ?_)
      simp only [Bool.not_false, if_true]
      exact wpAny_bind (wpAny_rule (wpAny_bind (wpAny_pure (wpAny_pure ⟨_, rfl, hq⟩)))))
    (fun _ hq => wpAny_of_eq (rfl : isSame (.str z t) (.ref l) = pure false) hq) (.inr hu) h
end
/-! ### the rules -/
structure StrEq (K : PySem.W.Frag) (C g : Addr) : Prop where
  sub : PySem.W.subIn K (.ref C) (.type "str") = some false
  at_ : PySem.W.findIn K (.ref C) "__eq__" = some (some (.ref g))
  fn : PySem.W.isFn K (.ref g) = true
/-- a text == anything: data, a dict, an object with an own == -/
def rStrAny (K : PySem.W.Frag) (g : Addr) (sp : Sp) (E : XK) : R2 := fun x y H Q => rEqD K x y H Q ∨ (∃ (z : Str) (a : Addr) (kvs : List (Key × V)), x = .str z ∧ y = .ref a ∧ H a = some (.dK kvs) ∧ Q (.bl false) H) ∨
  ∃ (z : Str) (p C dx : Addr) (fs : List (Str × V)), x = .str z ∧ y = .ref p ∧ H p = some (.ins C dx fs) ∧ StrEq K C g ∧ sp [.ref p, x] H Q E
structure In1 (K : PySem.W.Frag) (C g : Addr) : Prop where
  at_ : PySem.W.findIn K (.ref C) "__contains__" = some (some (.ref g))
  fn : PySem.W.isFn K (.ref g) = true
def rInO (K : PySem.W.Frag) (g : Addr) (sp : Sp) (E : XK) : R2 := fun x y H Q => ∃ (p C dx : Addr) (fs : List (Str × V)), y = .ref p ∧ H p = some (.ins C dx fs) ∧ In1 K C g ∧ sp [.ref p, x] H (fun v H' => ∃ c, v = .bl c ∧ Q (.bl c) H') E
section
variable {X : Cx} {CX : CXT} {k : Nat} {g : Addr} {sp : Sp} {E : XK}
theorem op_strAny {K : PySem.W.Frag} (hK : X.K = K) (hu : X.A.units + 64 < cLine) (F : FnR X.prog X.w X.K X.mg X.base CX k g sp) (hr : Room k X.A) (hx : Passes CX X E) : OpR X (compareOp .Eq) (rStrAny K g sp E) := by
  subst hK
  intro pins s σ H x y v u Q I rx ry h
  have hu0 : X.A.units < cLine := by omega
  rcases h with h | ⟨z, a, kvs, rfl, rfl, ea, q⟩ | ⟨z, p, C, dx, fs, rfl, rfl, ep, c, hq⟩
  · exact op_eqD hu pins s σ H x y v u Q I rx ry h
  · obtain ⟨t, rfl⟩ := rx
    obtain rfl : u = Value.ref a := ry
    obtain ⟨_, _, vs, _, o, es, n, e1, e2, e3, _⟩ := (show ObjOk X.prog X.w H s.heap a (.dK kvs) from I.hok a _ ea)
    exact PySem.W.cmp_ofEq (rc_strDict hu0 e1 e2.1 e3 ⟨.bl _, H, I, rfl, q⟩)
  · obtain ⟨t, rfl⟩ := rx
    obtain rfl : u = Value.ref p := ry
    obtain ⟨ox, od, J, hd⟩ := StX.insC_at I (.inr ⟨dx, fs, ep⟩)
    exact PySem.W.cmp_ofEq (rc_strOwn hu0 I.kIn J hd c.sub c.at_ c.fn (run_own F hr hx I (us := [.ref p, .str z t]) (vs := [.ref p, .str z]) (.cons rfl (.cons ⟨t, rfl⟩ .nil)) hq))
theorem op_inO (F : FnR X.prog X.w X.K X.mg X.base CX k g sp) (hr : Room k X.A) (hx : Passes CX X E) : OpR X (compareOp .In) (rInO X.K g sp E) := by
  intro pins s σ H x y v u Q I rx ry h
  obtain ⟨p, C, dx, fs, rfl, ep, c, hq⟩ := h
  obtain rfl : u = Value.ref p := ry
  obtain ⟨ox, od, J, _⟩ := StX.insC_at I (.inr ⟨dx, fs, ep⟩)
  obtain ⟨mm, fr⟩ := I.fr
  refine PySem.W.in_K fr I.ok.mod.kin J c.at_ c.fn (wpAny_mono (wpAny_call (run_fnR F hr hx I (us := [.ref p, v]) (vs := [.ref p, x]) (.cons rfl (.cons rx .nil)) hq)) (fun r s' q => ?_) fun _ _ q => q)
  obtain ⟨y2, H2, I2, r2, b, rfl, q⟩ := q
  cases (show r = Value.bool b from r2)
  exact wpAny_pure ⟨.bl b, H2, I2, rfl, q⟩
end
end OwR
end
section
/-! a def that wants no guard, called by name; repr of a number or None. -/
namespace OwR
open PySem PySem.Spec PyProof.Rows L2
section
variable {X : Cx} {CX : CXT} {k : Nat} {f : Addr} {fd : FuncData} {ps : List Str} {sp : Sp} {E : XK} {x : Str} {p pos : Pos} {e : Expr} {es : List Expr} {t : TA}
theorem run_fnG {pins : List (Addr × Obj)} {σ : L2.St} {H : Hp} {s : Shared} {Q : VK} {us : List Value} {vs : List V} (F : FnG X.prog X.w X.K X.mg X.base CX k f fd ps sp) (len : ∀ vs H Q E, sp vs H Q E → vs.length = ps.length) (hgd : X.A.guards = some []) (hr : Room k X.A) (hb : Binds X.K fd ps []) (hx : Passes CX X E)
    (I : Inv X pins σ H s) (r : Vals vs us) (h : sp vs H Q E) : wpAny (model X.prog X.w) X.A (call (.ref f) us) (EP X pins σ Q) X.xe s := by
  have hl : us.length = ps.length := by rw [← r.length]; exact len _ _ _ _ h
  have b := hb s us I.kIn (by rw [List.append_nil]; exact hl)
  rw [List.append_nil] at b
  refine wpAny_call (codeAny_mono (F X.A X.stack s H ⟨us, []⟩ us vs Q E hgd hr I.env0 b r h) fun r s' hq => ?_)
  cases r with
  | error e => exact hx pins σ H s e s' I hq
  | ok fl =>
    cases fl with
    | ret u => exact I.after hq
    | next => exact False.elim hq
    | brk => exact False.elim hq
    | cont => exact False.elim hq
theorem pe_callG (F : FnG X.prog X.w X.K X.mg X.base CX k f fd ps sp) (len : ∀ vs H Q E, sp vs H Q E → vs.length = ps.length) (hgd : X.A.guards = some []) (hr : Room k X.A) (hg : Gl X x) (hm : X.mg x = some (.ref f)) (hk : PySem.W.keepIn X.K (.ref f) = true) (hb : Binds X.K fd ps []) (hx : Passes CX X E)
    (ha : PA X (e :: es) t) (hdb : (x == ("__debug__" : Str)) = false := by decide) (he : starEach (e :: es) X.env = (false, eval e X.env) :: starEach es X.env := by rfl) (hpl : (backTo pos (starEach es X.env)).any (·.1) = false := by rfl) :
    PE X (.Call (.Name x p) (e :: es) [] pos) (tCall sp [] E t) := by
  refine ⟨fun pins s σ H Q I h => ?_⟩
  refine wpAny_Call_Name_kw (ld_glob I hg hm ?_ hdb)
  refine PySem.W.callWith_K (h₀ := X.base) I.ok.mod.kin hk (thn (ha.run pos pins s σ H _ I h) fun us s1 ⟨vs, H1, I1, r, q⟩ => ⟨I1.kIn, ?_⟩) he hpl
  have q : sp (vs ++ []) H1 Q E := q
  rw [List.append_nil] at q
  exact run_fnG F len hgd hr hb hx I1 r q
end
def reprI : Option Int → Str
  | none => "None"
  | some i => toString i
def rReprI : List V → Hp → VK → Prop := fun xs H Q => ∃ o : Option Int, xs = [match o with | none => V.non | some i => V.int i] ∧ (∀ i, o = some i → i.natAbs.log2 < 1920) ∧ Q (.str (reprI o)) H
/-- repr of a number or of None -/
theorem cr_reprI {X : Cx} : CallR X (.builtin "repr") rReprI := by
  intro pins s σ H xs us Q I r h
  obtain ⟨o, rfl, hz, q⟩ := h
  cases o with
  | none =>
    obtain ⟨u, rfl, rx⟩ := vals1 r
    cases (show u = Value.none from rx)
    exact call_repr_gives (typeIs_none s) F.slot_NoneType_repr F.entry_NoneType_repr (F.args_NoneType_repr_1 _) gives_none_repr ⟨.str _, H, I.tok _, ⟨_, rfl⟩, q⟩
  | some i => exact SkE.call_repr_int pins s σ H _ us Q I r ⟨i, rfl, hz i rfl, q⟩
end OwR
end
section
/-! Lists and tuples of own objects beside one another: the == of each two of the same place, in whatever state of a kind. Own. -/
namespace OwR
open PySem PySem.Spec PyProof.Rows L2
section
variable {prog : Program} {w : World}
/-- == of two values in every state of a kind, to a state of that kind -/
def EqJ (prog : Program) (w : World) (A : Around) (J : Shared → Prop) (x y : Value) (b : Bool) : Prop := ∀ s, J s → ∀ (E : Value → Shared → Prop) (Q : Bool → Shared → Prop), (∀ s', J s' → Q b s') → wpAny (model prog w) A (eqBool x y) Q E s
theorem EqJ.same {A : Around} {J : Shared → Prop} {x : Value} (h : (x == x) = true) : EqJ prog w A J x x true := fun s hs E Q q => by
  unfold eqBool
  refine wpAny_holding ?_
  rw [if_pos h]
  exact wpAny_bind (wpAny_rule (wpAny_pure (q s hs)))
theorem EqJ.refs {A : Around} {J : Shared → Prop} {l b : Addr} {k : Bool} (ne : l ≠ b) (h : ∀ s, J s → ∀ (E Q : Value → Shared → Prop), (∀ s', J s' → Q (.bool k) s') → wpAny (model prog w) A (richCompare .Eq (.ref l) (.ref b)) Q E s) : EqJ prog w A J (.ref l) (.ref b) k := fun s hs E Q q => by
  unfold eqBool
  refine wpAny_holding ?_
  rw [if_neg (by simp [ne])]
  refine wpAny_bind (h s hs E _ fun s' hs' => ?_)
  exact wpAny_pure (q s' hs')
theorem ls {A : Around} {E : Value → Shared → Prop} {s : Shared} {a : Addr} {xs : Array Value} {Q : Array Value → Shared → Prop} (h : s.heap.IsList a xs) (q : Q xs s) : wpAny (model prog w) A (Builtin.List.listItems (.ref a)) Q E s := by
  obtain ⟨⟨cls, dd, data, sl⟩, ho, hc, n, hd⟩ := h
  cases hc
  cases hd
  unfold Builtin.List.listItems seqItems?
  exact wpAny_bind (wpAny_bind (wpAny_load ho (wpAny_pure (wpAny_pure q))))
theorem ne_loopJ (l b : Addr) (items items2 : Array Value) (hsz : items.size = items2.size) (e : Nat → Bool) (J : Shared → Prop) (hl : ∀ s, J s → s.heap.IsList l items) (hb : ∀ s, J s → s.heap.IsList b items2) :
    ∀ (k i : Nat), items.size - i = k → MeetsIn prog w (Builtin.«list.__eq__.loop» ⟨[.ref l, .ref b, rawInt i, rawInt 3], []⟩) fun A R s => J s ∧ (∀ (j : Nat) (h1 : j < items.size) (h2 : j < items2.size), EqJ prog w A.in1 J items[j] items2[j] (e j)) ∧
      ∀ s', J s' → R (.ok (.ret (.bool (!((List.range items.size).drop i).all e)))) s' := by
  intro k
  induction k with
  | zero =>
    intro i hk A R s h
    obtain ⟨hs, he, h⟩ := h
    show wpAny _ _ (Builtin.List.listItems (.ref l) >>= _) _ _ _
    refine wpAny_bind (ls (hl s hs) (wpAny_bind (ls (hb s hs) ?_)))
    have hi1 : items[((i : Nat) : Int).toNat]? = none := by
      rw [Int.toNat_natCast, Array.getElem?_eq_none_iff]
      omega
    have hi2 : items2[((i : Nat) : Int).toNat]? = none := by
      rw [Int.toNat_natCast, Array.getElem?_eq_none_iff]
      omega
    have hd : (List.range items.size).drop i = [] := by
      rw [List.drop_eq_nil_iff, List.length_range]
      omega
    rw [hd] at h
    rw [hi1, hi2]
    refine wpAny_bind (ls (hl s hs) (wpAny_bind (ls (hb s hs) ?_)))
    have es : ∀ (n m : Nat), n = m → (n != m) = false := fun n m e => by simp [e]
    refine wpAny_pure ?_
    have h := h s hs
    show R (.ok (.ret (.bool (items.size != items2.size)))) s
    rw [es _ _ hsz]
    exact h
  | succ k ih =>
    intro i hk A R s h
    obtain ⟨hs, he, h⟩ := h
    have hlt : i < items.size := by omega
    have hlt2 : i < items2.size := by omega
    show wpAny _ _ (Builtin.List.listItems (.ref l) >>= _) _ _ _
    refine wpAny_bind (ls (hl s hs) (wpAny_bind (ls (hb s hs) ?_)))
    have hi1 : items[((i : Nat) : Int).toNat]? = some items[i] := by
      rw [Int.toNat_natCast, Array.getElem?_eq_getElem hlt]
    have hi2 : items2[((i : Nat) : Int).toNat]? = some items2[i] := by
      rw [Int.toNat_natCast, Array.getElem?_eq_getElem hlt2]
    have hd : (List.range items.size).drop i = i :: (List.range items.size).drop (i + 1) := by
      rw [List.drop_eq_getElem_cons (by rw [List.length_range]; exact hlt), List.getElem_range]
    rw [hd] at h
    rw [hi1, hi2]
    refine wpAny_bind (he i hlt hlt2 s hs _ _ fun s' hs' => ?_)
    cases ei : e i with
    | true =>
      refine wpAny_ite_true rfl ?_
      refine wpAny_pure ⟨plainId_quiet MeetsSeq3.plain_eq_loop _, codeAny_builtin MeetsSeq3.entry_eq_loop ?_⟩
      rw [Around.under_plainId MeetsSeq3.plain_eq_loop _]
      refine ih (i + 1) (by omega) A R s' ⟨hs', he, fun s2 hs2 => ?_⟩
      have h := h s2 hs2
      rw [List.all_cons, ei, Bool.true_and] at h
      exact h
    | false =>
      refine wpAny_ite_false rfl ?_
      refine wpAny_bind (ls (hl s' hs') (wpAny_bind (ls (hb s' hs') ?_)))
      rw [hi1, hi2]
      refine wpAny_pure ?_
      have h := h s' hs'
      rw [List.all_cons, ei, Bool.false_and] at h
      exact h
theorem list_neJ (l b : Addr) (items items2 : Array Value) (hsz : items.size = items2.size) (e : Nat → Bool) (J : Shared → Prop) (hl : ∀ s, J s → s.heap.IsList l items) (hb : ∀ s, J s → s.heap.IsList b items2) :
    MeetsIn prog w (Builtin.«list.__ne__» ⟨[.ref l, .ref b], []⟩) fun A R s => J s ∧ (∀ (j : Nat) (h1 : j < items.size) (h2 : j < items2.size), EqJ prog w A.in1 J items[j] items2[j] (e j)) ∧ ∀ s', J s' → R (.ok (.ret (.bool (!(List.range items.size).all e)))) s' := fun A R s h => by
  obtain ⟨hs, he, h⟩ := h
  have hl0 := hl s hs
  have hb0 := hb s hs
  have loop := ne_loopJ (prog := prog) (w := w) l b items items2 hsz e J hl hb items.size 0 rfl A R s ⟨hs, he, h⟩
  obtain ⟨⟨cls, dd, data, sl⟩, ho, hc, n, hd⟩ := hb s hs
  cases hc
  cases hd
  obtain ⟨hp, g, d, tk, os⟩ := s
  have f3 := AutoSeq1.sub_list_list
  have hne : ¬ ((items.size != items2.size) = true) := by simp [hsz]
  unfold Builtin.«list.__ne__»
  refine wpAny_bind ?_
  rw [show slotArgs "__ne__" 1 ⟨[.ref l, .ref b], []⟩ = pure (.ref l, [.ref b]) from rfl]
  refine wpAny_pure (wpAny_bind (wpAny_bind (wpAny_bind (wpAny_loadPart' ho (wpAny_pure (wpAny_of_eq f3 ?_))))))
  refine wpAny_ite_false rfl (wpAny_ite_true rfl ?_)
  refine wpAny_bind (ls hl0 (wpAny_bind (ls hb0 (wpAny_ite_false (decide_eq_false hne) ?_))))
  refine wpAny_pure ⟨plainId_quiet MeetsSeq3.plain_eq_loop _, codeAny_builtin MeetsSeq3.entry_eq_loop ?_⟩
  rw [Around.under_plainId MeetsSeq3.plain_eq_loop _]
  exact loop
theorem rcJ_lists_ne {A : Around} {s : Shared} {E Q : Value → Shared → Prop} {l b : Addr} {items items2 : Array Value} {e : Nat → Bool} {J : Shared → Prop} (hl : ∀ s, J s → s.heap.IsList l items) (hb : ∀ s, J s → s.heap.IsList b items2) (hsz : items.size = items2.size) (hu : A.units < cLine) (hs : J s)
    (he : ∀ (j : Nat) (h1 : j < items.size) (h2 : j < items2.size), EqJ prog w A.in1 J items[j] items2[j] (e j)) (h : ∀ s', J s' → Q (.bool (!(List.range items.size).all e)) s') : wpAny (model prog w) A (richCompare .NotEq (.ref l) (.ref b)) Q E s := by
  have t1 : s.TypeIs (.ref l) "list" := by
    obtain ⟨ob, ho, hc, _⟩ := hl s hs
    exact ⟨ob, ho, hc⟩
  have t2 : s.TypeIs (.ref b) "list" := by
    obtain ⟨ob, ho, hc, _⟩ := hb s hs
    exact ⟨ob, ho, hc⟩
  exact wpAny_richCompare_same_room t1 t2 F.slot_list_ne (call_meetsIn F.slot_list_ne t1 F.entry_list_ne (F.args_list_ne_2 (Value.ref l) (Value.ref b)) (list_neJ l b items items2 hsz e J hl hb) ⟨hs, he, fun s' hs' => ⟨(fun x => nomatch x), h s' hs'⟩⟩) hu
end
/-! ### lists of own objects -/
section
variable {X : Cx} {k : Nat} {g : Addr} {sp : Sp} {pins : List (Addr × Obj)} {σ : L2.St} {H : Hp}
theorem eqJ_own {r t C D dx dy : Addr} {fs gs : List (Str × V)} {b : Bool} (F : FnR X.prog X.w X.K X.mg X.base CX0 k g sp) (hr : Room (k + 1) X.A) (hu : X.A.units + 1 < cLine) (ne : r ≠ t) (er : H r = some (.ins C dx fs)) (et : H t = some (.ins D dy gs)) (c : Cmp1 X.K .Eq C g) (nf : PySem.W.notFirst X.K C (.ref D) = true)
    (h : sp [.ref r, .ref t] H (fun v H' => v = .bl b ∧ H' = H) E0) : EqJ X.prog X.w X.A.in1 (Inv X pins σ H) (.ref r) (.ref t) b := EqJ.refs ne fun s I E Q q => by
  obtain ⟨ox, od, J, _⟩ := StX.insC_at I (.inr ⟨dx, fs, er⟩)
  obtain ⟨oy, oe, J2, _⟩ := StX.insC_at I (.inr ⟨dy, gs, et⟩)
  obtain ⟨mm, fr⟩ := I.fr
  refine PySem.W.cmp_K (by simpa using hu) fr I.ok.mod.kin J J2.type nf c.at_ c.fn ?_
  refine wpAny_call (codeAny_mono (F X.A.in1 X.stack s H [.ref r, .ref t] [.ref r, .ref t] _ E0 hr.in1 I.env0.in1 (.cons rfl (.cons rfl .nil)) h) fun r s' hq => ?_)
  cases r with
  | error er => exact False.elim hq
  | ok fl =>
    cases fl with
    | ret u =>
      obtain ⟨v, H', I', rv, rfl, rfl⟩ := I.after hq
      obtain rfl : u = Value.bool b := rv
      exact q s' I'
    | next => exact False.elim hq
    | brk => exact False.elim hq
    | cont => exact False.elim hq
/-- the == of each two of the same place -/
def AllEq (K : PySem.W.Frag) (g : Addr) (sp : Sp) (H : Hp) (rs ts : List Addr) (e : Nat → Bool) : Prop := ∀ (j : Nat) (r t : Addr), rs[j]? = some r → ts[j]? = some t → (r = t ∧ e j = true) ∨ (r ≠ t ∧ ∃ (C D dx dy : Addr) (fs gs : List (Str × V)), H r = some (.ins C dx fs) ∧ H t = some (.ins D dy gs) ∧ Cmp1 K .Eq C g ∧ PySem.W.notFirst K C (.ref D) = true ∧ sp [.ref r, .ref t] H (fun v H' => v = .bl (e j) ∧ H' = H) E0)
theorem refs_vals : ∀ {rs : List Addr} {its : List Value}, Vals (rs.map V.ref) its → its = rs.map Value.ref
  | [], _, .nil => rfl
  | r :: rs, _, .cons e t => by rw [show _ = Value.ref r from e, refs_vals t]; rfl
def rNeOwn (K : PySem.W.Frag) (g : Addr) (sp : Sp) : R2 := fun x y H Q => ∃ (a b : Addr) (rs ts : List Addr) (e : Nat → Bool), x = .ref a ∧ y = .ref b ∧ SqL K H a (rs.map V.ref) ∧ SqL K H b (ts.map V.ref) ∧ rs.length = ts.length ∧ AllEq K g sp H rs ts e ∧ Q (.bl (!(List.range rs.length).all e)) H
theorem op_neOwn (F : FnR X.prog X.w X.K X.mg X.base CX0 k g sp) (hr : Room (k + 1) X.A) (hu : X.A.units + 1 < cLine) : OpR X (compareOp .NotEq) (rNeOwn X.K g sp) := by
  intro pins s σ H x y v u Q I rx ry h
  obtain ⟨a, b, rs, ts, e, rfl, rfl, ha, hb, len, he, q⟩ := h
  obtain rfl : v = Value.ref a := rx
  obtain rfl : u = Value.ref b := ry
  show wpAny _ _ (richCompare .NotEq (.ref a) (.ref b)) _ _ _
  have li : ∀ {a : Addr} {rs : List Addr}, SqL X.K H a (rs.map V.ref) → ∀ s, Inv X pins σ H s → s.heap.IsList a (rs.map Value.ref).toArray := fun {a rs} ha s I => by
    obtain ⟨its, r1, h1, _⟩ := I.list ha
    rw [← refs_vals r1]
    exact h1.isList
  refine rcJ_lists_ne (li ha) (li hb) (by simp [len]) (by omega) I (e := e) (fun j h1 h2 => ?_) fun s' I' => ?_
  · have h1' : j < rs.length := by simpa using h1
    have h2' : j < ts.length := by simpa using h2
    have e1 : (rs.map Value.ref).toArray[j] = Value.ref rs[j] := by simp
    have e2 : (ts.map Value.ref).toArray[j] = Value.ref ts[j] := by simp
    rw [e1, e2]
    rcases he j rs[j] ts[j] (List.getElem?_eq_getElem h1') (List.getElem?_eq_getElem h2') with ⟨er, ej⟩ | ⟨ne, C, D, dx, dy, fs, gs, er, et, c, nf, hq⟩
    · rw [er, ej]
      exact EqJ.same (by simp)
    · exact eqJ_own F hr hu ne er et c nf hq
  · refine ⟨.bl _, H, I', rfl, ?_⟩
    have sz : (rs.map Value.ref).toArray.size = rs.length := by simp
    rw [sz]
    exact q
end
end OwR
end
section
/-! Tuples of own objects beside one another. Own. -/
namespace OwR
open PySem PySem.Spec PyProof.Rows L2
section
variable {prog : Program} {w : World}
theorem tupItems {A : Around} {E : Value → Shared → Prop} {s : Shared} {a : Addr} {xs : Array Value} {Q : Array Value → Shared → Prop} (h : s.heap.IsTuple a xs) (q : Q xs s) : wpAny (model prog w) A (Builtin.Tuple.tupleItemsOf (.ref a)) Q E s := by
  obtain ⟨⟨cls, dd, data, sl⟩, ho, hc, n, hd⟩ := h
  cases hc
  cases hd
  unfold Builtin.Tuple.tupleItemsOf seqItems?
  exact wpAny_bind (wpAny_bind (wpAny_load ho (wpAny_pure (wpAny_pure q))))
theorem tuple_eqJ (l b : Addr) (items items2 : Array Value) (e : Nat → Bool) (J : Shared → Prop) (hl : ∀ s, J s → s.heap.IsTuple l items) (hb : ∀ s, J s → s.heap.IsTuple b items2) :
    MeetsIn prog w (Builtin.«tuple.__eq__» ⟨[.ref l, .ref b], []⟩) fun A R s => J s ∧ (∀ (j : Nat) (h1 : j < items.size) (h2 : j < items2.size), EqJ prog w A.in1 J items[j] items2[j] (e j)) ∧ ∀ s', J s' → R (.ok (.ret (.bool ((List.range (min items.size items2.size)).all e && items.size == items2.size)))) s' := fun A R s h => by
  obtain ⟨hs, he, h⟩ := h
  have hl0 := hl s hs
  have hb0 := hb s hs
  obtain ⟨⟨cls, dd, data, sl⟩, ho, hc, n, hd⟩ := hb s hs
  cases hc
  cases hd
  have lz : (items.toList.zip items2.toList).length = min items.size items2.size := by rw [List.length_zip, Array.length_toList, Array.length_toList]
  have f2 := AutoSeq1.sub_tuple_tuple
  obtain ⟨hp, g, d, tk, os⟩ := s
  unfold Builtin.«tuple.__eq__»
  refine wpAny_bind ?_
  rw [show slotArgs "__eq__" 1 ⟨[.ref l, .ref b], []⟩ = pure (.ref l, [.ref b]) from rfl]
  refine wpAny_pure (wpAny_bind (wpAny_bind (wpAny_bind (wpAny_loadPart' ho (wpAny_pure (wpAny_of_eq f2 ?_))))))
  refine wpAny_ite_false rfl ?_
  refine wpAny_bind (tupItems hl0 (wpAny_bind (tupItems hb0 (wpAny_bind ?_))))
  refine wpAny_mono (wpAny_forIn_list _ (fun rest c s' => c.1 = none ∧ J s' ∧ ∃ k, rest = (items.toList.zip items2.toList).drop k ∧ ∀ i, i < k → e i = true) (fun c s' => J s' ∧ ((c.1 = none ∧ (List.range (min items.size items2.size)).all e = true) ∨ (c.1 = some (.done (.ret (.bool false))) ∧ (List.range (min items.size items2.size)).all e = false))) (fun x rest c s' hI => ?_) (fun c s' hI => ?_) _ _ ⟨rfl, hs, 0, rfl, fun i h => absurd h (Nat.not_lt_zero i)⟩) (fun c s' hq => ?_) fun _ _ z => z
  · obtain ⟨c0, hs', k, ek, all⟩ := hI
    have hk : k < (items.toList.zip items2.toList).length := by
      refine Nat.lt_of_not_le fun h => ?_
      rw [List.drop_eq_nil_of_le h] at ek
      cases ek
    have ed := List.drop_eq_getElem_cons hk
    rw [ed] at ek
    obtain ⟨ex, er⟩ := List.cons.inj ek
    rw [lz] at hk
    have h1 : k < items.size := by omega
    have h2 : k < items2.size := by omega
    have ex : x = (items[k], items2[k]) := by
      rw [ex, List.getElem_zip]
      simp
    subst ex
    refine wpAny_bind (he k h1 h2 s' hs' _ _ fun s2 hs2 => ?_)
    cases ei : e k with
    | true =>
      refine wpAny_ite_false rfl (wpAny_pure ⟨rfl, hs2, k + 1, er, fun i hi => ?_⟩)
      rcases Nat.lt_or_ge i k with c | c
      · exact all i c
      · rw [show i = k by omega]
        exact ei
    | false =>
      refine wpAny_ite_true rfl (wpAny_bind (wpAny_pure (wpAny_pure ⟨hs2, .inr ⟨rfl, ?_⟩⟩)))
      cases ea : (List.range (min items.size items2.size)).all e with
      | false => rfl
      | true =>
        have := List.all_eq_true.mp ea k (List.mem_range.mpr hk)
        rw [ei] at this
        cases this
  · obtain ⟨c0, hs', k, ek, all⟩ := hI
    refine ⟨hs', .inl ⟨c0, List.all_eq_true.mpr fun i hi => all i ?_⟩⟩
    have := congrArg List.length ek
    rw [List.length_nil, List.length_drop, lz] at this
    have := List.mem_range.mp hi
    omega
  · obtain ⟨hs', hq⟩ := hq
    have h := h s' hs'
    obtain ⟨c1, c2⟩ := c
    rcases hq with ⟨c0, ea⟩ | ⟨c0, ea⟩
    · rw [ea, Bool.true_and] at h
      have c0 : c1 = none := c0
      subst c0
      exact wpAny_pure h
    · rw [ea, Bool.false_and] at h
      have c0 : c1 = some (.done (.ret (.bool false))) := c0
      subst c0
      exact wpAny_pure h
theorem rcJ_tuples {A : Around} {s : Shared} {E Q : Value → Shared → Prop} {l b : Addr} {items items2 : Array Value} {e : Nat → Bool} {J : Shared → Prop} (hl : ∀ s, J s → s.heap.IsTuple l items) (hb : ∀ s, J s → s.heap.IsTuple b items2) (hu : A.units < cLine) (hs : J s)
    (he : ∀ (j : Nat) (h1 : j < items.size) (h2 : j < items2.size), EqJ prog w A.in1 J items[j] items2[j] (e j)) (h : ∀ s', J s' → Q (.bool ((List.range (min items.size items2.size)).all e && items.size == items2.size)) s') : wpAny (model prog w) A (richCompare .Eq (.ref l) (.ref b)) Q E s := by
  have t1 : s.TypeIs (.ref l) "tuple" := by
    obtain ⟨ob, ho, hc, _⟩ := hl s hs
    exact ⟨ob, ho, hc⟩
  have t2 : s.TypeIs (.ref b) "tuple" := by
    obtain ⟨ob, ho, hc, _⟩ := hb s hs
    exact ⟨ob, ho, hc⟩
  exact wpAny_richCompare_same_room t1 t2 F.slot_tuple_eq (call_meetsIn F.slot_tuple_eq t1 F.entry_tuple_eq (F.args_tuple_eq_2 (Value.ref l) (Value.ref b)) (tuple_eqJ l b items items2 e J hl hb) ⟨hs, he, fun s' hs' => ⟨(fun x => nomatch x), h s' hs'⟩⟩) hu
end
end OwR
end
section
/-! Own: an attribute, a comparison, a call of an object that is of one of two classes. -/
namespace OwR
open PySem PySem.Spec PyProof.Rows L2
def GetR (X : Cx) (f : Str) (r : V → Hp → VK → Prop) : Prop := ∀ (pins : List (Addr × Obj)) (s : Shared) (σ : L2.St) (H : Hp) (x : V) (u : Value) (Q : VK), L2.Inv X pins σ H s → L2.RelV x u → r x H Q → wpAny (model X.prog X.w) X.A (getAttr u f true) (EP X pins σ Q) X.xe s
def tGet (r : V → Hp → VK → Prop) (ta : TE) : TE := fun σ H Q => ta σ H fun x H1 => r x H1 Q
section
variable {X : Cx} {f : Str} {r r1 r2 : V → Hp → VK → Prop}
theorem pe_get {e : Expr} {ta : TE} {pos : Pos} (he : PE X e ta) (g : GetR X f r) (hab : attributeBase e f X.env (eval e X.env) = eval e X.env := by rfl) : PE X (.Attribute e f pos) (tGet r ta) :=
  ⟨fun pins s σ H Q I h => attr_of hab (thn (he.run pins s σ H _ I h) fun u s1 ⟨x, H1, I1, rx, q⟩ => g pins s1 σ H1 x u Q I1 rx q)⟩
theorem GetR.or (h1 : GetR X f r1) (h2 : GetR X f r2) : GetR X f (fun x H Q => r1 x H Q ∨ r2 x H Q) := fun pins s σ H x u Q I rx h => h.elim (h1 pins s σ H x u Q I rx) (h2 pins s σ H x u Q I rx)
def rProp (C : Addr) (sp : Sp) (E : XK) : V → Hp → VK → Prop := fun x H Q => ∃ (a dx : Addr) (fs : List (Str × V)), x = .ref a ∧ H a = some (.ins C dx fs) ∧ sp [.ref a] H Q E
theorem get_prop {CX : CXT} {k : Nat} {C p g : Addr} {fd : FuncData} {ps : List Str} {sp : Sp} {E : XK} (c : Cls X.K C) (hp : PropOf X.K C f p g) (F : FnOk X.prog X.w X.K X.mg X.base CX k g fd ps sp) (hr : Room (k + 1) X.A) (hb : L2.Binds X.K fd ps []) (hx : Passes CX X.nox E) : GetR X f (rProp C sp E) := by
  intro pins s σ H x u Q I rx ⟨a, dx, fs, ex, ea, q⟩
  subst ex
  obtain rfl : u = Value.ref a := rx
  exact getprop_ok I ea c hp F hr hb .nil hx q
theorem OpR.or {g : Value → Value → Sem Value} {q1 q2 : R2} (h1 : OpR X g q1) (h2 : OpR X g q2) : OpR X g (fun x y H Q => q1 x y H Q ∨ q2 x y H Q) := fun pins s σ H x y v u Q I rx ry h => h.elim (h1 pins s σ H x y v u Q I rx ry) (h2 pins s σ H x y v u Q I rx ry)
theorem CallR.or {c : Value} {q1 q2 : List V → Hp → VK → Prop} (h1 : CallR X c q1) (h2 : CallR X c q2) : CallR X c (fun xs H Q => q1 xs H Q ∨ q2 xs H Q) := fun pins s σ H xs us Q I rv h => h.elim (h1 pins s σ H xs us Q I rv) (h2 pins s σ H xs us Q I rv)
/-! ### tuples of objects of two classes, beside one another -/
variable {k : Nat} {g1 g2 : Addr} {sp1 sp2 : Sp} {pins : List (Addr × Obj)} {σ : L2.St} {H : Hp}
def OneEq (K : PySem.W.Frag) (g : Addr) (sp : Sp) (H : Hp) (r t : Addr) (b : Bool) : Prop := ∃ (C D dx dy : Addr) (fs gs : List (Str × V)), H r = some (.ins C dx fs) ∧ H t = some (.ins D dy gs) ∧ Cmp1 K .Eq C g ∧ PySem.W.notFirst K C (.ref D) = true ∧ sp [.ref r, .ref t] H (fun v H' => v = .bl b ∧ H' = H) E0
def AllEq2 (K : PySem.W.Frag) (g1 g2 : Addr) (sp1 sp2 : Sp) (H : Hp) (rs ts : List Addr) (e : Nat → Bool) : Prop := ∀ (j : Nat) (r t : Addr), rs[j]? = some r → ts[j]? = some t → (r = t ∧ e j = true) ∨ (r ≠ t ∧ (OneEq K g1 sp1 H r t (e j) ∨ OneEq K g2 sp2 H r t (e j)))
def rEqOwnT (K : PySem.W.Frag) (g1 g2 : Addr) (sp1 sp2 : Sp) : R2 := fun x y H Q => ∃ (a b : Addr) (rs ts : List Addr) (e : Nat → Bool), x = .ref a ∧ y = .ref b ∧ SqT K H a (rs.map V.ref) ∧ SqT K H b (ts.map V.ref) ∧ AllEq2 K g1 g2 sp1 sp2 H rs ts e ∧ Q (.bl ((List.range (min rs.length ts.length)).all e && rs.length == ts.length)) H
theorem op_eqOwnT (F1 : FnR X.prog X.w X.K X.mg X.base CX0 k g1 sp1) (F2 : FnR X.prog X.w X.K X.mg X.base CX0 k g2 sp2) (hr : Room (k + 1) X.A) (hu : X.A.units + 1 < cLine) : OpR X (compareOp .Eq) (rEqOwnT X.K g1 g2 sp1 sp2) := by
  intro pins s σ H x y v u Q I rx ry h
  obtain ⟨a, b, rs, ts, e, rfl, rfl, ha, hb, he, q⟩ := h
  obtain rfl : v = Value.ref a := rx
  obtain rfl : u = Value.ref b := ry
  show wpAny _ _ (richCompare .Eq (.ref a) (.ref b)) _ _ _
  have li : ∀ {a : Addr} {rs : List Addr}, SqT X.K H a (rs.map V.ref) → ∀ s, Inv X pins σ H s → s.heap.IsTuple a (rs.map Value.ref).toArray := fun {a rs} ha s I => by
    obtain ⟨its, r1, h1⟩ := I.tuple ha
    rw [← refs_vals r1]
    exact h1.1
  refine rcJ_tuples (li ha) (li hb) (by omega) I (e := e) (fun j h1 h2 => ?_) fun s' I' => ?_
  · have h1' : j < rs.length := by simpa using h1
    have h2' : j < ts.length := by simpa using h2
    have e1 : (rs.map Value.ref).toArray[j] = Value.ref rs[j] := by simp
    have e2 : (ts.map Value.ref).toArray[j] = Value.ref ts[j] := by simp
    rw [e1, e2]
    rcases he j rs[j] ts[j] (List.getElem?_eq_getElem h1') (List.getElem?_eq_getElem h2') with ⟨er, ej⟩ | ⟨ne, ⟨C, D, dx, dy, fs, gs, er, et, c, nf, hq⟩ | ⟨C, D, dx, dy, fs, gs, er, et, c, nf, hq⟩⟩
    · rw [er, ej]
      exact EqJ.same (by simp)
    · exact eqJ_own F1 hr hu ne er et c nf hq
    · exact eqJ_own F2 hr hu ne er et c nf hq
  · refine ⟨.bl _, H, I', rfl, ?_⟩
    have sz : ∀ rs : List Addr, (rs.map Value.ref).toArray.size = rs.length := fun rs => by simp
    rw [sz, sz]
    exact q
end
section
variable {X : Cx} {CX : CXT} {k : Nat} {C f : Addr} {sp : Sp} {E : XK} {x : Str} {e : Expr} {te : TE} {pos q1 q2 : Pos}
/-- C(*xs), C by the module's name -/
def tMakeGS (K : PySem.W.Frag) (C : Addr) (sp : Sp) (E : XK) (te : TE) : TE := fun σ H Q => te σ H fun y H1 => ∃ a xs, y = V.ref a ∧ (SqT K H1 a xs ∨ SqL K H1 a xs) ∧
  ∀ z dz, H1 z = none → H1 dz = none → dz ≠ z → sp (V.ref z :: xs) (upd (upd H1 dz (.own z)) z (.ins C dz [])) (fun v H2 => v = .non ∧ Q (.ref z) H2) E
theorem pe_makeGS (M : Mk X.K C f) (F : FnR X.prog X.w X.K X.mg X.base CX k f sp) (hr : Room (k + 1) X.A) (hg : Gl X x) (hm : X.mg x = some (.ref C)) (hx : Passes CX X E) (he : PE X e te) (hdb : (x == ("__debug__" : Str)) = false := by decide)
    (hst : starEach [.Starred e q1] X.env = [(true, eval e X.env)] := by rfl) : PE X (.Call (.Name x q2) [.Starred e q1] [] pos) (tMakeGS X.K C sp E te) := by
  refine ⟨fun pins s σ H Q I h => ?_⟩
  refine wpAny_Call_Name_kw (ld_glob I hg hm ?_ hdb)
  refine PySem.W.callWith_S (h₀ := X.base) (first := []) I.ok.mod.kin M.kp (thn (he.run pins s σ _ _ I h) fun v s2 ⟨y, H2, I2, ry, a, xs, ey, hxs, q⟩ => ?_) hst
  subst ey
  obtain rfl : v = Value.ref a := ry
  exact StX.star_any I2 hxs fun us s3 I3 rv => ⟨I3.kIn, StX.run_makeR M F hr hx I3 rv q⟩
end
theorem call_strOK {X : Cx} {CX : CXT} {k : Nat} {g : Addr} {sp : Sp} {E : XK} {K : PySem.W.Frag} (hK : X.K = K) (hu : X.A.units + 2 < cLine) (F : FnR X.prog X.w X.K X.mg X.base CX k g sp) (hr : Room (k + 2) X.A) (hx : Passes CX X E) : CallR X (.type "str") (rStrO K g sp E) := by
  subst hK
  exact call_strO hu F hr hx
end OwR
end
section
namespace K10
open PySem PySem.Spec PyProof.Rows L2
def top (i : Nat) : Stmt := PySem.Challenge.pw_nextkind_k32_rows_made.main.body.getD i (.Pass ⟨0, 0, 0, 0⟩)
def mth (c j : Nat) : Stmt := match top c with
  | .ClassDef _ _ _ body _ _ _ _ _ _ _ => body.getD j (.Pass ⟨0, 0, 0, 0⟩)
  | _ => .Pass ⟨0, 0, 0, 0⟩
abbrev sPen : Stmt := top 21
abbrev sDraw : Stmt := top 22
abbrev sPick : Stmt := top 23
section
variable {P : Program} {w : World} {K : PySem.W.Frag} {mg : Str → Option Value} {base : Heap}
theorem scD : FnScope ["_law_pen_here", "_law_many", "_law_digit", "_law_at", "_law_cell", "_law_great", "_law_mixed"] ["_law_pen_here", "_law_many"] (defScope sDraw) := ⟨rfl, rfl, rfl, by decide +kernel, rfl, by decide +kernel, by decide +kernel⟩
theorem ok_draw {f : Addr} {fd : FuncData} (F : Fun K "_law_draw" "_law_draw" sDraw f fd) (T : Nm mg) : FnOk P w K mg base CX0 1 f fd ["_law_pen_here", "_law_many"] spDraw := by
  refine F.ok scD (fun vs H Q E h => ?_) (fun cdv A outer s H vs Q E hr h => ?_)
  · obtain ⟨p, c, ns, n, z, m, rfl, _⟩ := h
    rfl
  · obtain ⟨p, c, ns, n, z, m, rfl, D, hn, hm, hb, k⟩ := h
    have hu := hu_of hr
    obtain ⟨h1, h2, hl, h0⟩ := id D
    refine ⟨_, (pss_cons (ps_if (pt_cmpR op_gt (pe_ix ix_list (pv 0) pe_int (fun _ _ => rfl)) pe_int (nomark _)) (pss_cons (ps_set (i := 2) scD.nd rfl (Or.inl rfl) (pe_op op_mod (pe_callTy call_int1 (by rfl) T.n_int (by decide +kernel) (pa_cons (pe_ix ix_list (pv 0) pe_int (fun _ _ => rfl)) pa_nil)) (pv 1)))
    (pss_cons (ps_asg (pe_op op_fdivW (pe_callTy call_int1 (by rfl) T.n_int (by decide +kernel) (pa_cons (pe_ix ix_list (pv 0) pe_int (fun _ _ => rfl)) pa_nil)) (pv 1)) (pg_sub (pv 0) pe_int set_list))
    (pss_one (ps_ret (pv 2))))) pss_nil)
    (pss_cons (ps_set (i := 3) scD.nd rfl (Or.inl rfl) (pe_ix ix_list (pv 0) pe_int (fun _ _ => rfl)))
    (pss_cons (ps_asg (pe_op op_add (pv 3) pe_int) (pg_sub (pv 0) pe_int set_list))
    (pss_cons (ps_set (i := 4) scD.nd rfl (Or.inl rfl) (pe_op op_add (pe_op op_mul pe_int (pv 3)) pe_int))
    (C8.pss_cut (ps_if (pt_cmpR (op_neD hr.units) (pe_ix ix_list (pv 0) pe_int (fun _ _ => rfl)) (pe_lst pa_nil) (nomark _)) (pss_one (ps_set (i := 4) scD.nd rfl (Or.inl rfl) (pe_ix ix_list (pe_ix ix_list (pv 0) pe_int (fun _ _ => rfl)) (pe_op op_mod (pe_callTy call_int1 (by rfl) T.n_int (by decide +kernel) (pa_cons (pv 3) pa_nil)) (pe_callB call_len_seq (by rfl) T.n_len boot_len (pa_cons (pe_ix ix_list (pv 0) pe_int (fun _ _ => rfl)) pa_nil))) (fun _ _ => rfl)))) pss_nil)
    (C8.pss_cut (ps_if (PW.pt (pw_and (pt_cmpR op_lt (pv 3) (pe_callB call_len_seq (by rfl) T.n_len boot_len (pa_cons (pe_ix ix_list (pv 0) pe_int (fun _ _ => rfl)) pa_nil)) (nomark _)) (pw_and1 (pt_cmpR op_ge (pe_callB call_abs (by rfl) T.n_abs (by decide +kernel) (pa_cons (pv 4) pa_nil)) (pe_op op_pow pe_int pe_int) (nomark _))))) (pss_cons (ps_set (i := 5) scD.nd rfl (Or.inl rfl) (pe_op op_add (pe_op op_mul pe_int (pe_op op_sub (pe_callB call_abs (by rfl) T.n_abs (by decide +kernel) (pa_cons (pv 4) pa_nil)) (pe_op op_pow pe_int pe_int))) (pe_callTy call_int1 (by rfl) T.n_int (by decide +kernel) (pa_cons (pe_cmpR op_lt (pv 4) pe_int (nomark _)) pa_nil))))
    (pss_cons (ps_asg (pe_op op_fdivW (pe_callTy call_int1 (by rfl) T.n_int (by decide +kernel) (pa_cons (pv 5) pa_nil)) (pv 1)) (pg_sub (pv 0) pe_int set_list))
    (pss_one (ps_ret (pe_op op_mod (pe_callTy call_int1 (by rfl) T.n_int (by decide +kernel) (pa_cons (pv 5) pa_nil)) (pv 1)))))) pss_nil)
    (pss_cons (ps_set (i := 6) scD.nd rfl (Or.inl rfl) (pe_op op_mod (pe_callTy call_int1 (by rfl) T.n_int (by decide +kernel) (pa_cons (pe_op op_pow (pe_op op_add (pe_op op_add (pe_op op_mod (pe_callTy call_int1 (by rfl) T.n_int (by decide +kernel) (pa_cons (pv 4) pa_nil)) pe_int) (pe_op op_mul pe_int (pv 3))) pe_int) pe_int) pa_nil)) pe_int))
    (pss_cons (ps_set (i := 6) scD.nd rfl (Or.inl rfl) (pe_op op_mod (pe_callTy call_int1 (by rfl) T.n_int (by decide +kernel) (pa_cons (pe_op op_pow (pe_op op_add (pe_op op_add (pe_op op_mul (pv 6) (pe_op op_add (pe_op op_mul pe_int (pv 3)) pe_int)) (pe_op op_mul (pe_op op_mul pe_int (pv 3)) (pv 3))) pe_int) pe_int) pa_nil)) pe_int))
    (pss_one (ps_ret (pe_op op_mod (pe_callTy call_int1 (by rfl) T.n_int (by decide +kernel) (pa_cons (pe_op op_fdivW (pv 6) pe_int) pa_nil)) (pv 1))))))))))))
, ?_⟩
    refine ⟨_, rfl, p, _, _, _, rfl, rfl, SqL.of h1, rfl, _, _, rfl, rfl, _, rfl, ?_⟩
    refine ite2 (fun c1 => ?_) (fun c1 => ?_)
    · refine ⟨_, rfl, p, _, _, _, rfl, rfl, SqL.of h1, rfl, .inl ⟨_, rfl, _, rfl, _, _, rfl, rfl, hm, ?_⟩⟩
      refine ⟨_, rfl, p, _, _, _, rfl, rfl, SqL.of h1, rfl, .inl ⟨_, rfl, _, rfl, _, _, rfl, rfl, wide_div hm hb (by decide) (by decide), ?_⟩⟩
      refine ⟨_, rfl, p, _, _, 2, rfl, rfl, h1, rfl, _, rfl, ?_⟩
      refine k _ n (z / m) _ (Int.emod_nonneg _ (by omega)) (Int.emod_lt_of_pos _ hm) (Nat.le_succ _) ⟨upd_same, ?_, hl, Int.ediv_nonneg h0 (by omega)⟩ But.at
      rw [upd_ne D.ne]
      exact h2
    · refine ⟨_, rfl, p, _, _, _, rfl, rfl, SqL.of h1, rfl, ?_⟩
      refine ⟨_, rfl, _, _, rfl, rfl, _, rfl, p, _, _, 1, rfl, rfl, h1, rfl, ?_⟩
      -- the cell
      refine ⟨_, rfl, _, _, rfl, rfl, .inl ⟨by decide, by decide⟩, _, _, rfl, rfl, ?_⟩
      have D1 : PenAt (upd H p (.lst [.ref c, .int ((n : Int) + 1), .int z])) p c ns (n + 1) z := ⟨upd_same, by rw [upd_ne D.ne]; exact h2, hl, h0⟩
      have B1 : But p H (upd H p (.lst [.ref c, .int ((n : Int) + 1), .int z])) := But.at
      -- a cell of the script, if there is one
      refine ⟨fun σ' H' => ∃ cell : Int, σ' = [some (.ref p), some (.int m), none, some (.int n), some (.int cell), none, none] ∧ PenAt H' p c ns (n + 1) z ∧ But p H H', ?_, ?_⟩
      · refine ⟨_, rfl, p, _, _, _, rfl, rfl, SqL.of D1.pen, rfl, by show 0 ≤ sizeLine; decide, fun l hl0 => ?_⟩
        have D2 : PenAt (upd (upd H p (.lst [.ref c, .int ((n : Int) + 1), .int z])) l (.lst [])) p c ns (n + 1) z :=
          ⟨by rw [upd_ne (ne_of_none D1.pen hl0)]; exact D1.pen, by rw [upd_ne (ne_of_none D1.cells hl0)]; exact D1.cells, hl, h0⟩
        refine ⟨.list (ns.map PyData.int), .list [], .lst (SqL.of D2.cells) (OwD.dp_ints ns), .lst (SqL.of upd_same) .nil, OwD.shaped_ints ns, OwD.shaped_nil, _, rfl, ?_⟩
        rw [OwD.eqv_nil]
        have B2 := B1.trans (But.new (p := p) (o := .lst []) hl0)
        cases ns with
        | nil =>
          refine iteF ?_
          exact ⟨_, rfl, D2, B2⟩
        | cons a0 rest =>
          refine iteT ?_
          have hpos : 0 < ((a0 :: rest).map V.int).length := by rw [List.length_map]; exact Nat.succ_pos _
          refine ⟨_, rfl, p, _, _, _, rfl, rfl, SqL.of D2.pen, rfl, _, rfl, .inl ⟨_, rfl, _, rfl, p, _, _, _, rfl, rfl, SqL.of D2.pen, rfl, c, _, rfl, .inl (SqL.of D2.cells), _, _, rfl, rfl, by omega, ?_⟩⟩
          obtain ⟨x, hx⟩ := at_mod (a0 :: rest) n (Nat.succ_pos _)
          refine ⟨c, _, _, _, rfl, rfl, SqL.of D2.cells, hx, ?_⟩
          exact ⟨x, rfl, D2, B2⟩
      · rintro σ' H' ⟨cell, rfl, D3, B3⟩
        have C3 := D3.cells
        -- a great cell
        have ret : ∀ (d : Int) (H4 : Hp), 0 ≤ d → d < m → PenAt H4 p c ns (n + 1) z → But p H H4 → Q (.int d) H4 := fun d H4 a1 a2 D4 B4 => k d (n + 1) z H4 a1 a2 (Nat.le_refl _) D4 B4
        refine ⟨fun σ' H' => σ' = [some (.ref p), some (.int m), none, some (.int n), some (.int cell), none, none] ∧ PenAt H' p c ns (n + 1) z ∧ But p H H', ?_, ?_⟩
        · refine ⟨_, rfl, _, rfl, p, _, _, _, rfl, rfl, SqL.of D3.pen, rfl, c, _, rfl, .inl (SqL.of C3), _, _, rfl, rfl, _, rfl, ?_⟩
          refine ite2 (fun c2 => ?_) (fun c2 => ?_)
          · refine ⟨_, rfl, _, rfl, _, _, rfl, rfl, ⟨by decide, by decide, by decide⟩, _, _, rfl, rfl, _, rfl, ?_⟩
            refine ite2 (fun c3 => ?_) (fun c3 => ?_)
            · refine ⟨_, rfl, _, rfl, _, _, rfl, rfl, ⟨by decide, by decide, by decide⟩, _, _, rfl, rfl, _, _, rfl, rfl, .inl ⟨by decide, by decide⟩, ?_⟩
              refine ⟨_, rfl, _, _, rfl, rfl, .inr ⟨_, rfl, _, _, rfl, rfl, ?_⟩⟩
              have gpos : 0 ≤ 2 * ((if cell < 0 then -cell else cell) - (10 : Int) ^ (18 : Int).toNat) + (if decide (cell < 0) = true then 1 else 0) := by
                have h3 : (10 : Int) ^ (18 : Int).toNat ≤ (if cell < 0 then -cell else cell) := of_decide_eq_true c3
                split <;> omega
              refine ⟨_, rfl, .inl ⟨_, rfl, _, rfl, _, _, rfl, rfl, wide_div hm hb (by decide) (by decide), _, rfl, p, _, _, 2, rfl, rfl, D3.pen, rfl, ?_⟩⟩
              refine ⟨_, rfl, .inl ⟨_, rfl, _, rfl, _, _, rfl, rfl, hm, ?_⟩⟩
              refine k _ (n + 1) _ _ (Int.emod_nonneg _ (by omega)) (Int.emod_lt_of_pos _ hm) (Nat.le_refl _) ⟨upd_same, ?_, hl, Int.ediv_nonneg gpos (by omega)⟩ (B3.trans But.at)
              rw [upd_ne D.ne]
              exact C3
            · exact ⟨rfl, D3, B3⟩
          · exact ⟨rfl, D3, B3⟩
        · rintro σ' H4 ⟨rfl, D4, B4⟩
          have a1 := Int.emod_nonneg cell (show (2147483549 : Int) ≠ 0 by decide)
          have a2 := Int.emod_lt_of_pos cell (show (0 : Int) < 2147483549 by decide)
          -- one mixed from the cell
          refine ⟨_, rfl, .inl ⟨_, rfl, _, _, rfl, rfl, (by show (0 : Int) < _; decide), _, rfl, _, _, rfl, rfl, .inl ⟨by decide, by decide⟩, _, _, rfl, rfl, _, _, rfl, rfl, _, _, rfl, rfl, ⟨by decide, by decide, ?_⟩, .inl ⟨_, rfl, _, _, rfl, rfl, (by show (0 : Int) < _; decide), ?_⟩⟩⟩
          · show Int.natAbs _ < 2 ^ 64
            omega
          have b1 := fun x : Int => Int.emod_nonneg x (show (2147483629 : Int) ≠ 0 by decide)
          have b2 := fun x : Int => Int.emod_lt_of_pos x (show (0 : Int) < 2147483629 by decide)
          refine ⟨_, rfl, _, rfl, _, _, rfl, rfl, .inl ⟨by decide, by decide⟩, _, _, rfl, rfl, _, _, rfl, rfl, .inl ⟨Int.lt_of_lt_of_le (by decide) (b1 _), Int.lt_trans (b2 _) (by decide)⟩, ?_⟩
          refine ⟨_, rfl, _, _, rfl, rfl, .inl ⟨by decide, by decide⟩, _, rfl, _, _, rfl, rfl, .inl ⟨by omega, by omega⟩, _, _, rfl, rfl, _, _, rfl, rfl, ?_⟩
          refine ⟨_, _, rfl, rfl, ⟨by decide, by decide, mix_lt (b1 _) (Int.lt_trans (b2 _) (by decide)) (by omega) (by omega) (by decide) (by decide) (by decide) (by decide) (by decide) (by decide)⟩, .inl ⟨_, rfl, _, _, rfl, rfl, (by show (0 : Int) < _; decide), ?_⟩⟩
          refine ⟨_, rfl, _, _, rfl, rfl, wide_div (b := 6) (by decide) (by decide) (by decide) (by decide), .inl ⟨_, rfl, _, rfl, _, _, rfl, rfl, hm, ?_⟩⟩
          exact ret _ _ (Int.emod_nonneg _ (by omega)) (Int.emod_lt_of_pos _ hm) D4 B4
theorem scPe : FnScope ["_law_script"] ["_law_script"] (defScope sPen) := ⟨rfl, rfl, rfl, by decide +kernel, rfl, by decide +kernel, by decide +kernel⟩
theorem ok_pen {f : Addr} {fd : FuncData} (F : Fun K "_law_pen" "_law_pen" sPen f fd) (T : Nm mg) : FnOk P w K mg base CX0 1 f fd ["_law_script"] (spPen K) := by
  refine F.ok scPe (fun vs H Q E h => ?_) (fun cdv A outer s H vs Q E hr h => ?_)
  · obtain ⟨a, ns, rfl, _⟩ := h
    rfl
  · obtain ⟨a, ns, rfl, ha, hl, q⟩ := h
    refine ⟨_, (pss_one (ps_ret (pe_lst (pa_cons (pe_callTy call_list_of (by rfl) T.n_list (by decide +kernel) (pa_cons (pe_slice sl_list (pv 0) po_none (po_some pe_int)) pa_nil)) (pa_cons pe_int (pa_cons pe_int pa_nil)))))), ?_⟩
    have sz := sizeLine_eq
    refine ⟨_, rfl, 63, rfl, a, _, rfl, ha, ?_⟩
    rw [cut_63 hl]
    intro b hb
    refine ⟨b, _, rfl, .inl (SqL.of upd_same), fun c hc => ⟨by show (3 : Nat) ≤ sizeLine; omega, fun p hp => ?_⟩⟩
    have s3 := ((Same.of_new hb).trans (Same.of_new hc)).trans (Same.of_new (o := .lst [.ref c, .int 0, .int 0]) hp)
    exact q p c _ (((Same.of_new hb).trans (Same.of_new hc)).free hp) s3 ⟨upd_same, upd_keep2 upd_same hp, hl, by decide⟩
theorem scPi : FnScope ["_law_pen_here", "_law_some_here"] ["_law_pen_here", "_law_some_here"] (defScope sPick) := ⟨rfl, rfl, rfl, by decide +kernel, rfl, by decide +kernel, by decide +kernel⟩
theorem ok_pick {f fD : Addr} {fd fdD : FuncData} (F : Fun K "_law_pick" "_law_pick" sPick f fd) (T : Nm mg) (FD : Fun K "_law_draw" "_law_draw" sDraw fD fdD) (gD : mg "_law_draw" = some (.ref fD)) : FnOk P w K mg base CX0 2 f fd ["_law_pen_here", "_law_some_here"] (spPick K) := by
  have GD : FnOk P w K mg base CX0 1 fD fdD ["_law_pen_here", "_law_many"] spDraw := ok_draw FD T
  have bD : Binds K fdD ["_law_pen_here", "_law_many"] [] := FD.binds fun _ _ _ _ _ _ us hl => match us, hl with | [_, _], _ => rfl
  refine F.ok scPi (fun vs H Q E h => ?_) (fun cdv A outer s H vs Q E hr h => ?_)
  · obtain ⟨p, c, l, ns, n, z, xs, rfl, _⟩ := h
    rfl
  · obtain ⟨p, c, l, ns, n, z, xs, rfl, hp, hn, nl, hl, h0, h1, q⟩ := h
    refine ⟨_, (pss_one (ps_ret (pe_ix ix_list (pv 1) (pe_call GD hr (by rfl) gD FD.kp bD .nil pass0 (pa_cons (pv 0) (pa_cons (pe_callB call_len_seq (by rfl) T.n_len boot_len (pa_cons (pv 1) pa_nil)) pa_nil))) (fun _ _ => rfl)))), ?_⟩
    refine ⟨_, rfl, _, rfl, _, rfl, l, xs, rfl, .inl hl, p, c, ns, n, z, _, rfl, hp, hn, by omega, ?_, fun d n' z' H' d0 d1 hn' hp' s' => ?_⟩
    · have : (xs.length : Int).natAbs < 1000 := by omega
      exact Nat.lt_of_lt_of_le this (by decide +kernel)
    · obtain ⟨x, hx, ex⟩ := nth d0 d1
      exact ⟨l, xs, d, x, rfl, rfl, SqL.but hl nl s', ex, q x n' z' H' hx hn' hp' s'⟩
theorem ok_pickS {f fD : Addr} {fd fdD : FuncData} (F : Fun K "_law_pick" "_law_pick" sPick f fd) (T : Nm mg) (FD : Fun K "_law_draw" "_law_draw" sDraw fD fdD) (gD : mg "_law_draw" = some (.ref fD)) : FnOk P w K mg base CX0 2 f fd ["_law_pen_here", "_law_some_here"] spPickS := by
  have GD : FnOk P w K mg base CX0 1 fD fdD ["_law_pen_here", "_law_many"] spDraw := ok_draw FD T
  have bD : Binds K fdD ["_law_pen_here", "_law_many"] [] := FD.binds fun _ _ _ _ _ _ us hl => match us, hl with | [_, _], _ => rfl
  refine F.ok scPi (fun vs H Q E h => ?_) (fun cdv A outer s H vs Q E hr h => ?_)
  · obtain ⟨p, c, ns, n, z, t, rfl, _⟩ := h
    rfl
  · obtain ⟨p, c, ns, n, z, t, rfl, hp, hn, h0, h1, q⟩ := h
    refine ⟨_, (pss_one (ps_ret (pe_ix ix_str (pv 1) (pe_call GD hr (by rfl) gD FD.kp bD .nil pass0 (pa_cons (pv 0) (pa_cons (pe_callB call_len (by rfl) T.n_len boot_len (pa_cons (pv 1) pa_nil)) pa_nil))) (fun _ _ => rfl)))), ?_⟩
    have sz := sizeLine_eq
    have lz : t.length ≤ sizeLine := by omega
    refine ⟨_, rfl, _, rfl, _, rfl, .str t, t.length, rfl, ⟨lz, rfl⟩, p, c, ns, n, z, _, rfl, hp, hn, by omega, small_int (by omega) (by omega), fun d n' z' H' d0 d1 hn' hp' s' => ?_⟩
    have d2 : d < (t.cps.toList.length : Int) := d1
    obtain ⟨x, hx, ex⟩ := nth d0 d2
    exact ⟨t, d, x, rfl, rfl, lz, ex, q x n' z' H' hx hn' hp' s'⟩
end
end K10
end
section
namespace K10
open PySem PySem.Spec PyProof.Rows L2
abbrev sBad0 : Stmt := mth 3 0
abbrev sName : Stmt := top 8
abbrev sCheck : Stmt := top 17
structure Nm2 (mg : Str → Option Value) : Prop where
  n_str : mg "str" = none
  n_len : mg "len" = none
  n_all : mg "all" = none
  n_isinstance : mg "isinstance" = none
section
variable {P : Program} {w : World} {K : PySem.W.Frag} {mg : Str → Option Value} {base : Heap}
theorem scB0 : FnScope ["self", "value"] ["self", "value"] (defScope sBad0) := ⟨rfl, rfl, rfl, by decide +kernel, rfl, by decide +kernel, by decide +kernel⟩
theorem ok_bad0 {f : Addr} {fd : FuncData} (F : Fun K "__init__" "BadName.__init__" sBad0 f fd) : FnOk P w K mg base CX0 1 f fd ["self", "value"] (OwE.spErr1 K "value") := by
  refine F.ok scB0 (fun vs H Q E h => ?_) (fun cdv A outer s H vs Q E hr h => ?_)
  · obtain ⟨a, C, v, rfl, _⟩ := h
    rfl
  · obtain ⟨a, C, v, rfl, T, hno, ha, k⟩ := h
    refine ⟨_, (pss_one (ps_ost (pv 0) (pv 1))), ?_⟩
    exact ⟨_, rfl, _, rfl, a, C, rfl, T, hno, .inl ⟨ha, fun dx h1 h2 => k dx h1 h2⟩⟩
abbrev nName : List Str := ["value", "sign"]
theorem scN : FnScope nName ["value"] (defScope sName) := ⟨rfl, rfl, rfl, by decide +kernel, rfl, by decide +kernel, by decide +kernel⟩
theorem ok_name {f : Addr} {fd : FuncData} (F : Fun K "is_name" "is_name" sName f fd) (T : Nm2 mg) : FnOk P w K mg base CX0 1 f fd ["value"] (spName K) := by
  refine F.ok scN (fun vs H Q E h => ?_) (fun cdv A outer s H vs Q E hr h => ?_)
  · obtain ⟨v, rfl, _⟩ := h
    rfl
  · obtain ⟨v, rfl, h⟩ := h
    refine ⟨_, (pss_cons (ps_if (PW.pt (pw_or (pt_not (pt_val (pe_callB call_isi (by rfl) T.n_isinstance (by decide +kernel) (pa_cons (pv 0) (pa_cons (pe_bltn (v := .ty "str") (by rfl) T.n_str (by decide +kernel) rfl) pa_nil))))) (pw_or1 (pt_not (pt_chain op_le op_le pe_int (pe_callB call_len (by rfl) T.n_len boot_len (pa_cons (pv 0) pa_nil)) pe_int))))) (pss_one (ps_ret pe_bl)) pss_nil)
    (pss_one (ps_ret (pe_callB (cr_all rfl) (by rfl) T.n_all (by decide +kernel) (pa_cons (pe_lc (own := [("sign", 1)]) (by rfl) scN.nd (pi_str (pv 0)) (blkOk_by (own := [("sign", 1)]) (N := nName) (sc := defScope sName) (by decide +kernel)) (fun _ _ _ _ _ => (pg_name (i := 1) scN.nd rfl (Or.inl rfl))) (fun _ _ _ _ _ => pts_nil) (fun _ _ _ _ _ => (pe_chain op_le_str op_le_str pe_str (pv 1) pe_str))) pa_nil))))), ?_⟩
    rcases h with ⟨z, rfl, hz, k⟩ | ⟨⟨t, ty, kt⟩, k⟩
    · have hz2 : z.length ≤ sizeLine := Nat.le_trans hz (by decide)
      refine ⟨_, rfl, .str z, .ty "str", _, _, true, rfl, .ty _, .base (by constructor), kit_ty (by decide +kernel), true, rfl, ?_⟩
      refine iteF ?_
      refine ⟨_, rfl, .str z, z.length, rfl, ⟨hz2, rfl⟩, _, _, rfl, rfl, _, rfl, ?_⟩
      refine ite2 (fun c1 => ?_) (fun c1 => ?_)
      · have d1 : 1 ≤ z.length := by
          have := of_decide_eq_true c1
          omega
        refine ⟨_, _, rfl, rfl, _, rfl, ?_⟩
        by_cases d2 : z.length ≤ 8
        · have e2 : decide ((z.length : Int) ≤ 8) = true := decide_eq_true (by omega)
          rw [e2]
          refine iteF ?_
          have rest : ∀ b H', Same H H' → b = z.cps.toList.all letter → Q (.bl b) H' := fun b H' s e => by
            have e' : nameB z = b := by
              unfold nameB
              rw [decide_eq_true d1, decide_eq_true d2, e]
              rfl
            rw [← e']
            exact k H' s
          refine ⟨_, rfl, z, rfl, fun D hD => lc_it (walk_str (z := z)) (fun i H' => H' D = some (.lst (((z.cps.toList.take i).map letter).map V.bl)) ∧ Same H H')
            ⟨upd_same, fun b o e => by rw [upd_ne (ne_of_none e hD)]; exact e⟩ (fun _ _ _ _ => trivial) ?_ ?_⟩
          · rintro i x H1 H2 hi ⟨hl, hs⟩ ⟨rfl, c, hc, rfl⟩
            have step : ∀ b : Bool, b = letter c → ∃ acc : List V, H2 D = some (.lst acc) ∧ acc.length < sizeLine ∧
                (upd H2 D (.lst (acc ++ [V.bl b])) D = some (.lst (((z.cps.toList.take (i + 1)).map letter).map V.bl)) ∧ Same H (upd H2 D (.lst (acc ++ [V.bl b])))) := fun b hb => by
              refine ⟨_, hl, ?_, ?_, fun a o e => ?_⟩
              · rw [List.length_map, List.length_map, List.length_take]
                have h9 : z.cps.toList.length = z.length := by first | rfl | simp [Str.length]
                exact Nat.lt_of_le_of_lt (Nat.min_le_right _ _) (by rw [h9, sizeLine_eq]; omega)
              · rw [upd_same, hb, List.take_add_one, show z.cps.toList[i]? = some c by rw [Array.getElem?_toList]; exact hc]
                simp
              · rw [upd_ne (ne_of_none e hD)]
                exact hs a o e
            refine ⟨rfl, ?_⟩
            refine ⟨_, rfl, _, _, rfl, rfl, _, rfl, ?_⟩
            have l1 : (!decide ((⟨#[c]⟩ : Str).cps.toList < ("a" : Str).cps.toList)) = decide (97 ≤ c) := one_le 97 c
            have l2 : (!decide (("z" : Str).cps.toList < (⟨#[c]⟩ : Str).cps.toList)) = decide (c ≤ 122) := one_le c 122
            by_cases c1 : 97 ≤ c
            · rw [l1, decide_eq_true c1]
              refine iteT ?_
              refine ⟨_, _, rfl, rfl, step _ ?_⟩
              rw [l2]
              unfold letter
              rw [decide_eq_true c1, Bool.true_and]
            · rw [l1, decide_eq_false c1]
              refine iteF ?_
              refine step _ ?_
              unfold letter
              rw [decide_eq_false c1, Bool.false_and]
          · rintro H1 ⟨hl, hs⟩
            refine ⟨D, _, rfl, SqL.of hl, rest _ H1 hs ?_⟩
            rw [show z.cps.size = z.cps.toList.length from rfl, List.take_length, List.all_map]
            rfl
        · have e2 : decide ((z.length : Int) ≤ 8) = false := decide_eq_false (by omega)
          rw [e2]
          refine iteT ?_
          have e : nameB z = false := by
            unfold nameB
            rw [decide_eq_false d2, Bool.and_false, Bool.false_and]
          rw [← e]
          exact k H (Same.refl H)
      · have d1 : ¬ 1 ≤ z.length := fun q => c1 (decide_eq_true (by omega))
        refine ⟨_, rfl, ?_⟩
        have e : nameB z = false := by
          unfold nameB
          rw [decide_eq_false d1, Bool.false_and, Bool.false_and]
        refine iteT ?_
        rw [← e]
        exact k H (Same.refl H)
    · refine ⟨_, rfl, v, .ty "str", _, _, false, rfl, .ty _, ty, kt, false, rfl, ?_⟩
      refine iteT ?_
      exact iteT k
theorem scC : FnScope ["value"] ["value"] (defScope sCheck) := ⟨rfl, rfl, rfl, by decide +kernel, rfl, by decide +kernel, by decide +kernel⟩
theorem ok_check {f fN fB CB : Addr} {fd fdN fdB : FuncData} (F : Fun K "check_name" "check_name" sCheck f fd) (T : Nm2 mg) (FN : Fun K "is_name" "is_name" sName fN fdN) (gN : mg "is_name" = some (.ref fN)) (FB : Fun K "__init__" "BadName.__init__" sBad0 fB fdB) (TB : ErrT K mg "BadName" CB fB)
    (hv : PySem.W.findIn K (.ref CB) "value" = some none) : FnOk P w K mg base (L2.CX P w) 3 f fd ["value"] (spCheck K CB) := by
  have GN : FnOk P w K mg base CX0 2 fN fdN ["value"] (spName K) := (ok_name FN T).mono (by decide)
  have bN : Binds K fdN ["value"] [] := FN.binds fun _ _ _ _ _ _ us hl => match us, hl with | [_], _ => rfl
  have GB : FnOk P w K mg base CX0 1 fB fdB ["self", "value"] (OwE.spErr1 K "value") := ok_bad0 FB
  have bB : Binds K fdB ["self", "value"] [] := FB.binds fun _ _ _ _ _ _ us hl => match us, hl with | [_, _], _ => rfl
  refine F.okX scC (fun vs H Q E h => ?_) (fun cdv A outer s H vs Q E hr h => ?_)
  · obtain ⟨v, rfl, _⟩ := h
    rfl
  · obtain ⟨v, rfl, h⟩ := h
    refine ⟨_, (pss_one (ps_if (pt_not (pt_val (pe_call GN hr (by rfl) gN FN.kp bN .nil pass0 (pa_cons (pv 0) pa_nil))))
      (pss_one (ps_raise rfl (takes_of rfl rfl rfl rfl) (pmk_oex TB.er.ox TB.ini TB.ty GB hr bB .nil pass0 (by rfl) TB.g (pa_cons (pv 0) pa_nil)))) pss_nil)), ?_⟩
    rcases h with ⟨z, rfl, hz, hg, k⟩ | ⟨hb, k⟩
    · refine ⟨_, rfl, _, rfl, .inl ⟨z, rfl, hz, fun H' s1 => ⟨_, rfl, ?_⟩⟩⟩
      rw [hg]
      exact iteF (k H' s1)
    · rcases hb with ⟨z, rfl, hz, hg⟩ | hn
      · refine ⟨_, rfl, _, rfl, .inl ⟨z, rfl, hz, fun H' s1 => ⟨_, rfl, ?_⟩⟩⟩
        rw [hg]
        refine iteT ?_
        exact ⟨_, rfl, OwE.mk_err1 TB.er.ox hv fun d hd => k H' d s1 hd⟩
      · refine ⟨_, rfl, _, rfl, .inr ⟨hn, ⟨_, rfl, ?_⟩⟩⟩
        refine iteT ?_
        exact ⟨_, rfl, OwE.mk_err1 TB.er.ox hv fun d hd => k H d (Same.refl H) hd⟩
end
end K10
end
section
namespace K10
open PySem PySem.Spec PyProof.Rows L2
abbrev sDeed0 : Stmt := mth 13 0
abbrev sCome0 : Stmt := mth 14 0
abbrev sGo0 : Stmt := mth 15 0
abbrev sComeP : Stmt := mth 14 1
abbrev sComeE : Stmt := mth 14 2
abbrev sComeS : Stmt := mth 14 3
abbrev sGoP : Stmt := mth 15 1
abbrev sGoE : Stmt := mth 15 2
abbrev sGoS : Stmt := mth 15 3
theorem lt1000s {n : Nat} {f : Str} {v : V} {fs : List (Str × V)} (h : fs.length < n) : (putF f v fs).length < n + 1 := Nat.lt_of_le_of_lt (length_putF f v fs) (Nat.succ_lt_succ h)
theorem lt1000 {f : Str} {v : V} {fs : List (Str × V)} (h : fs.length < 900) : (putF f v fs).length < 1000 := Nat.lt_of_lt_of_le (lt1000s h) (by decide)
/-- what the class of a deed must say -/
structure DC (K : PySem.W.Frag) (C : Addr) : Prop where
  cls : Cls K C
  nP : NoAttr K C "_parts"
  nK : NoAttr K C "kind"
  nB : NoAttr K C "bay"
  ha : PySem.W.findIn K (.ref C) "__class__" = some (some (.builtin "object.__class__"))
  hn : PySem.W.specialIn K (.builtin "object.__class__") "__get__" = some (some (.builtin "getset_descriptor.__get__"))
  ht : PySem.W.takesIn K (.builtin "object.__class__") = some true
  hm : PySem.W.mroIn K C (.type "object") = some true
theorem DC.ty {K : PySem.W.Frag} {C a dx : Addr} {fs : List (Str × V)} {H : Hp} (d : DC K C) (e : H a = some (.ins C dx fs)) : TyX K H (.ref a) (.ref C) := .base (.ins e d.cls d.ha d.hn d.ht d.hm)
def ComeAt (C : Addr) (H : Hp) (a : Addr) (z : Str) : Prop := ∃ dx fs, H a = some (.ins C dx fs) ∧ fs.lookup ("kind" : Str) = some (.str z)
def GoAt (C : Addr) (H : Hp) (a : Addr) (z b : Str) : Prop := ∃ dx fs, H a = some (.ins C dx fs) ∧ fs.lookup ("kind" : Str) = some (.str z) ∧ fs.lookup ("bay" : Str) = some (.str b)
/-- Deed.__init__(self, .., ..) -/
def spDeed (C : Addr) : Sp := fun vs H Q _ => ∃ (a dx l : Addr) (fs : List (Str × V)), vs = [.ref a, .ref l] ∧ H a = some (.ins C dx fs) ∧ fs.length < 1000 ∧ Q .non (upd H a (.ins C dx (putF ("_parts" : Str) (.ref l) fs)))
def spDeedR (C : Addr) : Sp := fun vs H Q _ => ∃ (a dx : Addr) (fs : List (Str × V)) (rest : List V), vs = .ref a :: rest ∧ rest.length ≤ 10 ∧ H a = some (.ins C dx fs) ∧ fs.length < 1000 ∧ ∀ p, H p = none → Q .non (upd (upd H p (.tup rest)) a (.ins C dx (putF ("_parts" : Str) (.ref p) fs)))
/-- a name that is good -/
def GoodN (v : V) (z : Str) : Prop := v = .str z ∧ z.length ≤ 1000 ∧ nameB z = true
def spCome0 (K : PySem.W.Frag) (C CB : Addr) : Sp := fun vs H Q E => ∃ (a dx : Addr) (v : V), vs = [.ref a, v] ∧ H a = some (.ins C dx []) ∧
  ((∃ z, GoodN v z ∧ ∀ H', But a H H' → ComeAt C H' a z → Q .non H') ∨ (NoName K H v ∧ ∀ H' d, Same H H' → H' d = none → E (.ref CB) (some d) (upd H' d (.xd [("value", v)]))))
def spGo0 (K : PySem.W.Frag) (C CB : Addr) : Sp := fun vs H Q E => ∃ (a dx : Addr) (v u : V), vs = [.ref a, v, u] ∧ H a = some (.ins C dx []) ∧
  ((∃ z b, GoodN v z ∧ GoodN u b ∧ ∀ H', But a H H' → GoAt C H' a z b → Q .non H') ∨
   (NoName K H v ∧ ∀ H' d, Same H H' → H' d = none → E (.ref CB) (some d) (upd H' d (.xd [("value", v)]))) ∨
   (∃ z, GoodN v z ∧ (∀ H', Same H H' → NoName K H' u) ∧ ∀ H' d, Same H H' → H' d = none → E (.ref CB) (some d) (upd H' d (.xd [("value", u)]))))
section
variable {P : Program} {w : World} {K : PySem.W.Frag} {mg : Str → Option Value} {base : Heap}
theorem scD0 : FnScope ["self", "parts"] ([("self" : Str)] ++ [("parts" : Str)]) (defScope sDeed0) := ⟨rfl, rfl, rfl, by decide +kernel, rfl, by decide +kernel, by decide +kernel⟩
theorem ok_deed0 {C f : Addr} {fd : FuncData} (hc : DC K C) (F : Fun K "__init__" "Deed.__init__" sDeed0 f fd) : FnR P w K mg base CX0 3 f (spDeedR C) := by
  obtain ⟨oc, od, kV, doc, pm, an, cdv, ct, osl, rfl, lk, hcd⟩ := F.ex
  refine FnR.imp (StX.fn_star (k := 2) (ps := ["self"]) (pv := "parts") (sp := spDeed C) lk hcd scD0 StX.cxUp_none (fun us rest hl => match us, hl, rest with | [_], _, [] => rfl | [_], _, _ :: _ => rfl) fun A outer s H vs Q E hr h => ?_) fun vs H Q E h => ?_
  · obtain ⟨a, dx, l, fs, rfl, ha, hl, q⟩ := h
    refine ⟨_, PSs.nox (pss_one (ps_fld (pv 0) (pv 1) rfl)), ?_⟩
    exact ⟨_, rfl, _, rfl, a, C, dx, fs, rfl, ha, hc.cls, hc.nP, hl, q⟩
  · obtain ⟨a, dx, fs, rest, rfl, hr, ha, hl, q⟩ := h
    have sz := sizeLine_eq
    exact ⟨[.ref a], rest, rfl, rfl, by omega, fun p hp => ⟨a, dx, p, fs, rfl, upd_keep2 ha hp, hl, q p hp⟩⟩
abbrev nC0 : List Str := ["self", "kind"]
theorem scC0 : FnScope nC0 ["self", "kind"] (defScope sCome0) := ⟨rfl, rfl, rfl, by decide +kernel, rfl, by decide +kernel, by decide +kernel⟩
theorem ok_come0 {C CB CD f fC fD : Addr} {mc : Value} {fd fdC fdD : FuncData} (hc : DC K C) (F : Fun K "__init__" "Come.__init__" sCome0 f fd) (FC : Fun K "check_name" "check_name" sCheck fC fdC) (gC : mg "check_name" = some (.ref fC)) (GC : FnOk P w K mg base (L2.CX P w) 3 fC fdC ["value"] (spCheck K CB))
    (FD : Fun K "__init__" "Deed.__init__" sDeed0 fD fdD) (gD : mg "Deed" = some (.ref CD)) (rD : ClX.CRead K CD mc) (cD : OwR.CFun K CD mc "__init__" fD) : FnOk P w K mg base (L2.CX P w) 4 f fd ["self", "kind"] (spCome0 K C CB) := by
  have bC : Binds K fdC ["value"] [] := FC.binds fun _ _ _ _ _ _ us hl => match us, hl with | [_], _ => rfl
  have GD : FnR P w K mg base CX0 3 fD (spDeedR C) := ok_deed0 hc FD
  refine F.okX scC0 (fun vs H Q E h => ?_) (fun cdv A outer s H vs Q E hr h => ?_)
  · obtain ⟨a, dx, v, rfl, _⟩ := h
    rfl
  · obtain ⟨a, dx, v, rfl, ha, h⟩ := h
    refine ⟨_, (pss_cons (ps_expr (pe_call GC hr (by rfl) gC FC.kp bC .nil (passes_call (takes_of rfl rfl rfl rfl) (fun _ _ _ _ h => h)) (pa_cons (pv 1) pa_nil)))
    (pss_cons (ps_expr (OwR.pe_cfun (pe_glob (v := .ref CD) rfl gD rfl) rD cD GD hr pass0 (pa_cons (pv 0) (pa_cons pe_str (pa_cons (pv 1) pa_nil)))))
    (pss_one (ps_fld (pv 0) (pv 1) rfl)))), ?_⟩
    rcases h with ⟨z, ⟨rfl, hz, hg⟩, k⟩ | ⟨hb, k⟩
    · refine ⟨_, rfl, _, rfl, .inl ⟨z, rfl, hz, hg, fun H1 s1 => ?_⟩⟩
      have ha1 := s1 a _ ha
      refine ⟨rfl, _, rfl, _, rfl, a, dx, [], _, rfl, by show _ ≤ 10; simp, ha1, by decide, fun p hp => ?_⟩
      refine ⟨_, rfl, _, rfl, a, C, dx, _, rfl, upd_same, hc.cls, hc.nK, lt1000 (by decide), ?_⟩
      refine k _ (fun b o n e => ?_) ⟨dx, _, upd_same, ?_⟩
      · rw [upd_ne n, upd_ne n, upd_ne (ne_of_none (s1 b o e) hp)]
        exact s1 b o e
      · rw [lookup_putF, if_pos rfl]
    · exact ⟨_, rfl, _, rfl, .inr ⟨hb, fun H' d s1 hd => k H' d s1 hd⟩⟩
abbrev nG0 : List Str := ["self", "kind", "bay"]
theorem scG0 : FnScope nG0 ["self", "kind", "bay"] (defScope sGo0) := ⟨rfl, rfl, rfl, by decide +kernel, rfl, by decide +kernel, by decide +kernel⟩
theorem ok_go0 {C CB CD f fC fD : Addr} {mc : Value} {fd fdC fdD : FuncData} (hc : DC K C) (F : Fun K "__init__" "Go.__init__" sGo0 f fd) (FC : Fun K "check_name" "check_name" sCheck fC fdC) (gC : mg "check_name" = some (.ref fC)) (GC : FnOk P w K mg base (L2.CX P w) 3 fC fdC ["value"] (spCheck K CB))
    (FD : Fun K "__init__" "Deed.__init__" sDeed0 fD fdD) (gD : mg "Deed" = some (.ref CD)) (rD : ClX.CRead K CD mc) (cD : OwR.CFun K CD mc "__init__" fD) : FnOk P w K mg base (L2.CX P w) 4 f fd ["self", "kind", "bay"] (spGo0 K C CB) := by
  have bC : Binds K fdC ["value"] [] := FC.binds fun _ _ _ _ _ _ us hl => match us, hl with | [_], _ => rfl
  have GD : FnR P w K mg base CX0 3 fD (spDeedR C) := ok_deed0 hc FD
  refine F.okX scG0 (fun vs H Q E h => ?_) (fun cdv A outer s H vs Q E hr h => ?_)
  · obtain ⟨a, dx, v, u, rfl, _⟩ := h
    rfl
  · obtain ⟨a, dx, v, u, rfl, ha, h⟩ := h
    refine ⟨_, (pss_cons (ps_expr (pe_call GC hr (by rfl) gC FC.kp bC .nil (passes_call (takes_of rfl rfl rfl rfl) (fun _ _ _ _ h => h)) (pa_cons (pv 1) pa_nil)))
    (pss_cons (ps_expr (pe_call GC hr (by rfl) gC FC.kp bC .nil (passes_call (takes_of rfl rfl rfl rfl) (fun _ _ _ _ h => h)) (pa_cons (pv 2) pa_nil)))
    (pss_cons (ps_expr (OwR.pe_cfun (pe_glob (v := .ref CD) rfl gD rfl) rD cD GD hr pass0 (pa_cons (pv 0) (pa_cons pe_str (pa_cons (pv 1) (pa_cons (pv 2) pa_nil))))))
    (pss_cons (ps_fld (pv 0) (pv 1) rfl)
    (pss_one (ps_fld (pv 0) (pv 2) rfl)))))), ?_⟩
    rcases h with ⟨z, b, ⟨rfl, hz, hg⟩, ⟨rfl, hz2, hg2⟩, k⟩ | ⟨hb, k⟩ | ⟨z, ⟨rfl, hz, hg⟩, hb, k⟩
    · refine ⟨_, rfl, _, rfl, .inl ⟨z, rfl, hz, hg, fun H1 s1 => ?_⟩⟩
      refine ⟨_, rfl, _, rfl, .inl ⟨b, rfl, hz2, hg2, fun H2 s2 => ?_⟩⟩
      have s12 := s1.trans s2
      have ha1 := s12 a _ ha
      refine ⟨rfl, _, rfl, _, rfl, _, rfl, a, dx, [], _, rfl, by show _ ≤ 10; simp, ha1, by decide, fun p hp => ?_⟩
      refine ⟨_, rfl, _, rfl, a, C, dx, _, rfl, upd_same, hc.cls, hc.nK, lt1000 (by decide), ?_⟩
      refine ⟨_, rfl, _, rfl, a, C, dx, _, rfl, upd_same, hc.cls, hc.nB, lt1000 (lt1000s (n := 899) (by decide)), ?_⟩
      refine k _ (fun b o n e => ?_) ⟨dx, _, upd_same, ?_, ?_⟩
      · rw [upd_ne n, upd_ne n, upd_ne n, upd_ne (ne_of_none (s12 b o e) hp)]
        exact s12 b o e
      · rw [lookup_putF, if_neg (by decide), lookup_putF, if_pos rfl]
      · rw [lookup_putF, if_pos rfl]
    · exact ⟨_, rfl, _, rfl, .inr ⟨hb, fun H' d s1 hd => k H' d s1 hd⟩⟩
    · refine ⟨_, rfl, _, rfl, .inl ⟨z, rfl, hz, hg, fun H1 s1 => ?_⟩⟩
      exact ⟨_, rfl, _, rfl, .inr ⟨hb H1 s1, fun H' d s2 hd => k H' d (s1.trans s2) hd⟩⟩
end
end K10
end
section
namespace K10
open PySem PySem.Spec PyProof.Rows L2
def spComeP (C : Addr) : Sp := fun vs H Q _ => ∃ (a : Addr) (z : Str), vs = [.ref a] ∧ ComeAt C H a z ∧ ∀ p, H p = none → Q (.ref p) (upd H p (.tup [.str "come", .str z]))
def spGoP (C : Addr) : Sp := fun vs H Q _ => ∃ (a : Addr) (z b : Str), vs = [.ref a] ∧ GoAt C H a z b ∧ ∀ p, H p = none → Q (.ref p) (upd H p (.tup [.str "go", .str z, .str b]))
def spComeS (C : Addr) : Sp := fun vs H Q _ => ∃ (a : Addr) (z : Str), vs = [.ref a] ∧ ComeAt C H a z ∧ z.length ≤ 1000 ∧ Q (.str ("come " ++ z)) H
def spGoS (C : Addr) : Sp := fun vs H Q _ => ∃ (a : Addr) (z b : Str), vs = [.ref a] ∧ GoAt C H a z b ∧ z.length ≤ 1000 ∧ b.length ≤ 1000 ∧ Q (.str ((("go " ++ z) ++ " ") ++ b)) H
/-- what is no instance of the class at C -/
def NotOf (K : PySem.W.Frag) (H : Hp) (C : Addr) (y : V) : Prop := ∃ t, TyX K H y t ∧ PySem.W.kitOne K t (.ref C) = some false
def spComeE (K : PySem.W.Frag) (C : Addr) : Sp := fun vs H Q _ => ∃ (a : Addr) (z : Str) (y : V), vs = [.ref a, y] ∧ ComeAt C H a z ∧ ((∃ b z2, y = .ref b ∧ ComeAt C H b z2 ∧ Q (.bl (decide (z = z2))) H) ∨ (NotOf K H C y ∧ Q (.bl false) H))
def spGoE (K : PySem.W.Frag) (C : Addr) : Sp := fun vs H Q _ => ∃ (a : Addr) (z s : Str) (y : V), vs = [.ref a, y] ∧ GoAt C H a z s ∧ ((∃ b z2 s2, y = .ref b ∧ GoAt C H b z2 s2 ∧ Q (.bl (decide (z = z2) && decide (s = s2))) H) ∨ (NotOf K H C y ∧ Q (.bl false) H))
theorem empty_app (x : Str) : Str.empty ++ x = x := by
  obtain ⟨c⟩ := x
  show Str.mk (#[] ++ c) = ⟨c⟩
  rw [Array.empty_append]
theorem str_eq (x y : Str) : decide (V.str x = V.str y) = decide (x = y) := by
  by_cases h : x = y
  · rw [h, decide_eq_true rfl, decide_eq_true rfl]
  · rw [decide_eq_false h, decide_eq_false fun q => h (V.str.inj q)]
theorem app_len (x y : Str) : (x ++ y).length = x.length + y.length := by
  obtain ⟨c⟩ := x
  obtain ⟨d⟩ := y
  show (c ++ d).size = c.size + d.size
  exact Array.size_append
section
variable {P : Program} {w : World} {K : PySem.W.Frag} {mg : Str → Option Value} {base : Heap}
theorem scCP : FnScope ["self"] ["self"] (defScope sComeP) := ⟨rfl, rfl, rfl, by decide +kernel, rfl, by decide +kernel, by decide +kernel⟩
theorem ok_comeP {C f : Addr} {fd : FuncData} (hc : DC K C) (F : Fun K "parts" "Come.parts" sComeP f fd) : FnOk P w K mg base CX0 1 f fd ["self"] (spComeP C) := by
  refine F.ok scCP (fun vs H Q E h => ?_) (fun cdv A outer s H vs Q E hr h => ?_)
  · obtain ⟨a, z, rfl, _⟩ := h
    rfl
  · obtain ⟨a, z, rfl, ⟨dx, fs, ha, lk⟩, q⟩ := h
    refine ⟨_, (pss_one (ps_ret (pe_tup (pa_cons pe_str (pa_cons (pe_fld (pv 0) rfl) pa_nil))))), ?_⟩
    have sz := sizeLine_eq
    exact ⟨_, rfl, a, C, dx, fs, _, rfl, ha, hc.cls, hc.nK, lk, by show (2 : Nat) ≤ sizeLine; omega, fun p hp => q p hp⟩
theorem scGP : FnScope ["self"] ["self"] (defScope sGoP) := ⟨rfl, rfl, rfl, by decide +kernel, rfl, by decide +kernel, by decide +kernel⟩
theorem ok_goP {C f : Addr} {fd : FuncData} (hc : DC K C) (F : Fun K "parts" "Go.parts" sGoP f fd) : FnOk P w K mg base CX0 1 f fd ["self"] (spGoP C) := by
  refine F.ok scGP (fun vs H Q E h => ?_) (fun cdv A outer s H vs Q E hr h => ?_)
  · obtain ⟨a, z, b, rfl, _⟩ := h
    rfl
  · obtain ⟨a, z, b, rfl, ⟨dx, fs, ha, lk, lb⟩, q⟩ := h
    refine ⟨_, (pss_one (ps_ret (pe_tup (pa_cons pe_str (pa_cons (pe_fld (pv 0) rfl) (pa_cons (pe_fld (pv 0) rfl) pa_nil)))))), ?_⟩
    have sz := sizeLine_eq
    exact ⟨_, rfl, a, C, dx, fs, _, rfl, ha, hc.cls, hc.nK, lk, _, rfl, a, C, dx, fs, _, rfl, ha, hc.cls, hc.nB, lb, by show (3 : Nat) ≤ sizeLine; omega, fun p hp => q p hp⟩
theorem scCS : FnScope ["self"] ["self"] (defScope sComeS) := ⟨rfl, rfl, rfl, by decide +kernel, rfl, by decide +kernel, by decide +kernel⟩
theorem ok_comeS {C f : Addr} {fd : FuncData} (hc : DC K C) (F : Fun K "__str__" "Come.__str__" sComeS f fd) : FnOk P w K mg base CX0 1 f fd ["self"] (spComeS C) := by
  refine F.ok scCS (fun vs H Q E h => ?_) (fun cdv A outer s H vs Q E hr h => ?_)
  · obtain ⟨a, z, rfl, _⟩ := h
    rfl
  · obtain ⟨a, z, rfl, ⟨dx, fs, ha, lk⟩, hz, q⟩ := h
    refine ⟨_, (pss_one (ps_ret (pe_joined (PJ.cons pe_str (PJ.cons (pe_fmt (pe_fld (pv 0) rfl)) PJ.nil))))), ?_⟩
    have sz := sizeLine_eq
    have l1 : ("come " : Str).length = 5 := by decide +kernel
    refine ⟨_, rfl, ?_, _, rfl, a, C, dx, fs, _, rfl, ha, hc.cls, hc.nK, lk, .inl ⟨z, rfl, by omega, z, rfl, ?_, ?_⟩⟩
    · rw [empty_app, l1]
      omega
    · rw [empty_app, app_len, l1]
      omega
    · rw [empty_app]
      exact q
theorem scGS : FnScope ["self"] ["self"] (defScope sGoS) := ⟨rfl, rfl, rfl, by decide +kernel, rfl, by decide +kernel, by decide +kernel⟩
theorem ok_goS {C f : Addr} {fd : FuncData} (hc : DC K C) (F : Fun K "__str__" "Go.__str__" sGoS f fd) : FnOk P w K mg base CX0 1 f fd ["self"] (spGoS C) := by
  refine F.ok scGS (fun vs H Q E h => ?_) (fun cdv A outer s H vs Q E hr h => ?_)
  · obtain ⟨a, z, b, rfl, _⟩ := h
    rfl
  · obtain ⟨a, z, b, rfl, ⟨dx, fs, ha, lk, lb⟩, hz, hb, q⟩ := h
    refine ⟨_, (pss_one (ps_ret (pe_joined (PJ.cons pe_str (PJ.cons (pe_fmt (pe_fld (pv 0) rfl)) (PJ.cons pe_str (PJ.cons (pe_fmt (pe_fld (pv 0) rfl)) PJ.nil))))))), ?_⟩
    have sz := sizeLine_eq
    have l1 : ("go " : Str).length = 3 := by decide +kernel
    have l2 : (" " : Str).length = 1 := by decide +kernel
    refine ⟨_, rfl, ?_, _, rfl, a, C, dx, fs, _, rfl, ha, hc.cls, hc.nK, lk, .inl ⟨z, rfl, by omega, z, rfl, ?_, _, rfl, ?_, _, rfl, a, C, dx, fs, _, rfl, ha, hc.cls, hc.nB, lb, .inl ⟨b, rfl, by omega, b, rfl, ?_, ?_⟩⟩⟩
    · rw [empty_app, l1]
      omega
    · rw [empty_app, app_len, l1]
      omega
    · rw [empty_app, app_len, app_len, l1, l2]
      omega
    · rw [empty_app, app_len, app_len, app_len, l1, l2]
      omega
    · rw [empty_app]
      exact q
theorem scCE : FnScope ["self", "other"] ["self", "other"] (defScope sComeE) := ⟨rfl, rfl, rfl, by decide +kernel, rfl, by decide +kernel, by decide +kernel⟩
theorem ok_comeE {C f : Addr} {fd : FuncData} (hc : DC K C) (F : Fun K "__eq__" "Come.__eq__" sComeE f fd) (T : Nm2 mg) (gC : mg "Come" = some (.ref C)) (own : PySem.W.kitOne K (.ref C) (.ref C) = some true) : FnOk P w K mg base CX0 1 f fd ["self", "other"] (spComeE K C) := by
  refine F.ok scCE (fun vs H Q E h => ?_) (fun cdv A outer s H vs Q E hr h => ?_)
  · obtain ⟨a, z, y, rfl, _⟩ := h
    rfl
  · obtain ⟨a, z, y, rfl, ⟨dx, fs, ha, lk⟩, h⟩ := h
    refine ⟨_, (pss_one (ps_ret (pe_and (pe_callB call_isi (by rfl) T.n_isinstance (by decide +kernel) (pa_cons (pv 1) (pa_cons (pe_glob (v := .ref C) rfl gC rfl) pa_nil))) (pe_one (pe_cmpR op_eq (pe_fld (pv 0) rfl) (pe_fld (pv 1) rfl) (nomark _)))))), ?_⟩
    rcases h with ⟨b, z2, rfl, ⟨dy, gs, hb, lb⟩, q⟩ | ⟨⟨t, ty, kt⟩, q⟩
    · refine ⟨_, rfl, .ref b, .ref C, _, _, true, rfl, .own C, hc.ty hb, own, true, rfl, ?_⟩
      refine iteT ?_
      refine ⟨_, rfl, a, C, dx, fs, _, rfl, ha, hc.cls, hc.nK, lk, _, rfl, b, C, dy, gs, _, rfl, hb, hc.cls, hc.nK, lb, rfl, ?_⟩
      rw [str_eq]
      exact q
    · refine ⟨_, rfl, y, .ref C, _, _, false, rfl, .own C, ty, kt, false, rfl, ?_⟩
      exact iteF q
theorem scGE : FnScope ["self", "other"] ["self", "other"] (defScope sGoE) := ⟨rfl, rfl, rfl, by decide +kernel, rfl, by decide +kernel, by decide +kernel⟩
theorem ok_goE {C f : Addr} {fd : FuncData} (hc : DC K C) (F : Fun K "__eq__" "Go.__eq__" sGoE f fd) (T : Nm2 mg) (gC : mg "Go" = some (.ref C)) (own : PySem.W.kitOne K (.ref C) (.ref C) = some true) : FnOk P w K mg base CX0 1 f fd ["self", "other"] (spGoE K C) := by
  refine F.ok scGE (fun vs H Q E h => ?_) (fun cdv A outer s H vs Q E hr h => ?_)
  · obtain ⟨a, z, b, y, rfl, _⟩ := h
    rfl
  · obtain ⟨a, z, b, y, rfl, ⟨dx, fs, ha, lk, la⟩, h⟩ := h
    refine ⟨_, (pss_one (ps_ret (pe_and (pe_callB call_isi (by rfl) T.n_isinstance (by decide +kernel) (pa_cons (pv 1) (pa_cons (pe_glob (v := .ref C) rfl gC rfl) pa_nil))) (pe_and (pe_cmpR op_eq (pe_fld (pv 0) rfl) (pe_fld (pv 1) rfl) (nomark _)) (pe_one (pe_cmpR op_eq (pe_fld (pv 0) rfl) (pe_fld (pv 1) rfl) (nomark _))))))), ?_⟩
    rcases h with ⟨b2, z2, s2, rfl, ⟨dy, gs, hb, lb, lc⟩, q⟩ | ⟨⟨t, ty, kt⟩, q⟩
    · refine ⟨_, rfl, .ref b2, .ref C, _, _, true, rfl, .own C, hc.ty hb, own, true, rfl, ?_⟩
      refine iteT ?_
      refine ⟨_, rfl, a, C, dx, fs, _, rfl, ha, hc.cls, hc.nK, lk, _, rfl, b2, C, dy, gs, _, rfl, hb, hc.cls, hc.nK, lb, rfl, ?_⟩
      rw [str_eq]
      refine ⟨_, rfl, ?_⟩
      by_cases e : z = z2
      · rw [decide_eq_true e] at q ⊢
        refine iteT ?_
        refine ⟨_, rfl, a, C, dx, fs, _, rfl, ha, hc.cls, hc.nB, la, _, rfl, b2, C, dy, gs, _, rfl, hb, hc.cls, hc.nB, lc, rfl, ?_⟩
        rw [str_eq]
        exact q
      · rw [decide_eq_false e] at q ⊢
        exact iteF q
    · refine ⟨_, rfl, y, .ref C, _, _, false, rfl, .own C, ty, kt, false, rfl, ?_⟩
      exact iteF q
end
end K10
end
section
set_option pp.maxSteps 400
set_option pp.deepTerms.threshold 6
/-! Rows of deeds. -/
namespace K10
open PySem PySem.Spec PyProof.Rows L2
abbrev sWithin : Stmt := top 9
abbrev sBadDeed0 : Stmt := mth 4 0
abbrev sR0 : Stmt := mth 16 0
abbrev sROf : Stmt := mth 16 1
abbrev sRP : Stmt := mth 16 4
abbrev sRC : Stmt := mth 16 5
abbrev sRU : Stmt := mth 16 6
abbrev sRG : Stmt := mth 16 7
abbrev sRL : Stmt := mth 16 8
abbrev sRI : Stmt := mth 16 9
abbrev sRA : Stmt := mth 16 10
abbrev sRE : Stmt := mth 16 11
abbrev sRS : Stmt := mth 16 12
def NoInt (K : PySem.W.Frag) (H : Hp) (v : V) : Prop := (∃ b, v = .bl b) ∨ ∃ t, TyX K H v t ∧ PySem.W.kitOne K t (.type "int") = some false
def spWithin (K : PySem.W.Frag) : Sp := fun vs H Q _ => ∃ (v : V) (a b : Int), vs = [v, .int a, .int b] ∧ ((∃ i, v = .int i ∧ Q (.bl (decide (a ≤ i) && decide (i ≤ b))) H) ∨ (NoInt K H v ∧ Q (.bl false) H))
/-- where the parts of deeds and rows stand -/
structure DAd where
  (CD CC CG CR CB fB0 fC0 fG0 pCP fCP pGP fGP fCE fGE fCS fGS fR0 fLn fIt fAdd fEq fSt fAt pPt fPt pCm fCm fUn pOf fOf : Addr)
abbrev Dd := Str × Option Str
def DeedAt (a : DAd) (H : Hp) (x : Addr) (d : Dd) : Prop := (d.2 = none ∧ ComeAt a.CC H x d.1) ∨ ∃ b, d.2 = some b ∧ GoAt a.CG H x d.1 b
theorem DeedAt.mono {a : DAd} {H H' : Hp} {x : Addr} {d : Dd} (h : DeedAt a H x d) (s : ∀ C dx fs, H x = some (.ins C dx fs) → H' x = some (.ins C dx fs)) : DeedAt a H' x d := by
  rcases h with ⟨e, dx, fs, h1, h2⟩ | ⟨b, e, dx, fs, h1, h2, h3⟩
  · exact .inl ⟨e, dx, fs, s _ _ _ h1, h2⟩
  · exact .inr ⟨b, e, dx, fs, s _ _ _ h1, h2, h3⟩
theorem DeedAt.same {a : DAd} {H H' : Hp} {x : Addr} {d : Dd} (h : DeedAt a H x d) (s : Same H H') : DeedAt a H' x d := h.mono fun _ _ _ e => s _ _ e
structure DeedsAt (a : DAd) (H : Hp) (ks : List Addr) (ds : List Dd) : Prop where
  len : ks.length = ds.length
  at_ : ∀ (i : Nat) (k : Addr) (d : Dd), ks[i]? = some k → ds[i]? = some d → DeedAt a H k d
theorem DeedsAt.mono {a : DAd} {H H' : Hp} {ks : List Addr} {ds : List Dd} (h : DeedsAt a H ks ds) (s : ∀ x C dx fs, H x = some (.ins C dx fs) → H' x = some (.ins C dx fs)) : DeedsAt a H' ks ds := ⟨h.len, fun i k d e1 e2 => (h.at_ i k d e1 e2).mono (s k)⟩
theorem DeedsAt.same {a : DAd} {H H' : Hp} {ks : List Addr} {ds : List Dd} (h : DeedsAt a H ks ds) (s : Same H H') : DeedsAt a H' ks ds := h.mono fun _ _ _ _ e => s _ _ e
theorem DeedsAt.get {a : DAd} {H : Hp} {ks : List Addr} {ds : List Dd} (h : DeedsAt a H ks ds) {i : Nat} {v : V} (e : (ks.map V.ref)[i]? = some v) : ∃ k d, v = .ref k ∧ ks[i]? = some k ∧ ds[i]? = some d ∧ DeedAt a H k d := by
  rw [List.getElem?_map] at e
  obtain ⟨k, hk, rfl⟩ := Option.map_eq_some_iff.mp e
  have hi : i < ks.length := (List.getElem?_eq_some_iff.mp hk).1
  have hd : i < ds.length := by rw [← h.len]; exact hi
  exact ⟨k, ds[i], rfl, hk, List.getElem?_eq_getElem hd, h.at_ i k _ hk (List.getElem?_eq_getElem hd)⟩
def RowAt (a : DAd) (H : Hp) (z : Addr) (ks : List Addr) : Prop := ∃ (dx : Addr) (fs : List (Str × V)) (l : Addr), H z = some (.ins a.CR dx fs) ∧ fs.lookup ("_deeds" : Str) = some (.ref l) ∧ H l = some (.tup (ks.map V.ref)) ∧ fs.lookup ("until" : Str) = none
theorem RowAt.same {a : DAd} {H H' : Hp} {z : Addr} {ks : List Addr} (h : RowAt a H z ks) (s : Same H H') : RowAt a H' z ks := by
  obtain ⟨dx, fs, l, h1, h2, h3, h4⟩ := h
  exact ⟨dx, fs, l, s _ _ h1, h2, s _ _ h3, h4⟩
/-- what the classes say -/
structure DK (K : PySem.W.Frag) (a : DAd) : Prop where
  dC : DC K a.CC
  dG : DC K a.CG
  dR : DC K a.CR
  nD : NoAttr K a.CR "_deeds"
  cd : PySem.W.kitOne K (.ref a.CC) (.ref a.CD) = some true
  gd : PySem.W.kitOne K (.ref a.CG) (.ref a.CD) = some true
  rd : PySem.W.kitOne K (.ref a.CR) (.ref a.CD) = some false
  cc : PySem.W.kitOne K (.ref a.CC) (.ref a.CC) = some true
  gg : PySem.W.kitOne K (.ref a.CG) (.ref a.CG) = some true
  gc : PySem.W.kitOne K (.ref a.CG) (.ref a.CC) = some false
  cg : PySem.W.kitOne K (.ref a.CC) (.ref a.CG) = some false
  rr : PySem.W.kitOne K (.ref a.CR) (.ref a.CR) = some true
  fCC : PySem.W.notFirst K a.CC (.ref a.CC) = true
  fCG : PySem.W.notFirst K a.CC (.ref a.CG) = true
  fGC : PySem.W.notFirst K a.CG (.ref a.CC) = true
  fGG : PySem.W.notFirst K a.CG (.ref a.CG) = true
theorem DeedAt.isD {K : PySem.W.Frag} {a : DAd} {H : Hp} {x : Addr} {d : Dd} (k : DK K a) (h : DeedAt a H x d) : ∃ t, TyX K H (.ref x) t ∧ PySem.W.kitOne K t (.ref a.CD) = some true ∧ PySem.W.kitOne K t (.ref a.CC) = some d.2.isNone := by
  rcases h with ⟨e, dx, fs, h1, h2⟩ | ⟨b, e, dx, fs, h1, h2, h3⟩
  · exact ⟨_, k.dC.ty h1, k.cd, by rw [e]; exact k.cc⟩
  · exact ⟨_, k.dG.ty h1, k.gd, by rw [e]; exact k.gc⟩
/-- the values of a new row: deeds, or one at n that is none behind deeds -/
def RowIn (K : PySem.W.Frag) (a : DAd) (H : Hp) (z : Addr) (xs : List V) (Q : VK) (E : XK) : Prop := xs.length ≤ 1000 ∧ ((∃ ks ds, xs = ks.map V.ref ∧ DeedsAt a H ks ds ∧ ∀ H', But z H H' → RowAt a H' z ks → Q .non H') ∨
  ∃ (n : Nat) (x : V), xs[n]? = some x ∧ (∀ H', Same H H' → NotOf K H' a.CD x) ∧ (∀ i y, i < n → xs[i]? = some y → ∃ k d, y = .ref k ∧ DeedAt a H k d) ∧ ∀ H' d, But z H H' → H' d = none → E (.ref a.CB) (some d) (upd H' d (.xd [("at", .int (n : Nat))])))
theorem RowIn.new {K : PySem.W.Frag} {a : DAd} {H H' : Hp} {z : Addr} {xs : List V} {Q : VK} {E : XK} (h : RowIn K a H z xs Q E) (s : Same H H') : RowIn K a H' z xs Q E := by
  obtain ⟨l, ⟨ks, ds, e, v, q⟩ | ⟨n, x, e, np, bf, q⟩⟩ := h
  · exact ⟨l, .inl ⟨ks, ds, e, v.same s, fun H2 b r => q H2 ((Same.but z s).trans b) r⟩⟩
  · exact ⟨l, .inr ⟨n, x, e, fun H2 s2 => np H2 (s.trans s2), fun i y hi ey => by
      obtain ⟨k, d, ek, v⟩ := bf i y hi ey
      exact ⟨k, d, ek, v.same s⟩, fun H2 d b nd => q H2 d ((Same.but z s).trans b) nd⟩⟩
/-- what is made of some values -/
def RowMade (K : PySem.W.Frag) (a : DAd) (H : Hp) (xs : List V) (Q : VK) (E : XK) : Prop := xs.length ≤ 1000 ∧ ((∃ ks ds, xs = ks.map V.ref ∧ DeedsAt a H ks ds ∧ ∀ z H', H z = none → Same H H' → RowAt a H' z ks → Q (.ref z) H') ∨
  ∃ (n : Nat) (x : V), xs[n]? = some x ∧ (∀ H', Same H H' → NotOf K H' a.CD x) ∧ (∀ i y, i < n → xs[i]? = some y → ∃ k d, y = .ref k ∧ DeedAt a H k d) ∧ ∀ H' d, Same H H' → H' d = none → E (.ref a.CB) (some d) (upd H' d (.xd [("at", .int (n : Nat))])))
theorem RowMade.row {K : PySem.W.Frag} {a : DAd} {H H1 : Hp} {xs : List V} {Q Q1 : VK} {E : XK} {z : Addr} (h : RowMade K a H xs Q E) (hz : H z = none) (s : Same H H1) (b : ∀ H', But z H1 H' → (Q (.ref z) H' → Q1 .non H') ∧ Same H H') : RowIn K a H1 z xs Q1 E := by
  obtain ⟨l, ⟨ks, ds, e, v, q⟩ | ⟨n, x, e, np, bf, q⟩⟩ := h
  · exact ⟨l, .inl ⟨ks, ds, e, v.same s, fun H' bt r => (b H' bt).1 (q z H' hz (b H' bt).2 r)⟩⟩
  · exact ⟨l, .inr ⟨n, x, e, fun H2 s2 => np H2 (s.trans s2), fun i y hi ey => by
      obtain ⟨k, d, ek, v⟩ := bf i y hi ey
      exact ⟨k, d, ek, v.same s⟩, fun H2 d bt nd => q H2 d (b H2 bt).2 nd⟩⟩
/-- C(*xs): the reading of a row made -/
theorem made_row {K : PySem.W.Frag} {a : DAd} {H : Hp} {xs : List V} {Q : VK} {E : XK} {z dz : Addr} (h : RowMade K a H xs Q E) (h1 : H z = none) (h2 : H dz = none) : RowIn K a (upd (upd H dz (.own z)) z (.ins a.CR dz [])) z xs (fun v G => v = .non ∧ Q (.ref z) G) E :=
  h.row h1 (fun b o e => by
    rw [upd_ne (ne_of_none e h1), upd_ne (ne_of_none e h2)]
    exact e) fun H' s1 => ⟨fun q => ⟨rfl, q⟩, made_same h1 h2 s1⟩
def spR0' (K : PySem.W.Frag) (a : DAd) : Sp := fun vs H Q E => ∃ (z l dx : Addr) (xs : List V), vs = [.ref z, .ref l] ∧ H z = some (.ins a.CR dx []) ∧ H l = some (.tup xs) ∧ RowIn K a H z xs Q E
def spR0 (K : PySem.W.Frag) (a : DAd) : Sp := fun vs H Q E => ∃ (z dx : Addr) (xs : List V), vs = .ref z :: xs ∧ H z = some (.ins a.CR dx []) ∧ RowIn K a H z xs Q E
def spROf (K : PySem.W.Frag) (a : DAd) : Sp := fun vs H Q E => ∃ (l : Addr) (xs : List V), vs = [.ref a.CR, .ref l] ∧ (SqL K H l xs ∨ SqT K H l xs) ∧ RowMade K a H xs Q E
section
variable {P : Program} {w : World} {K : PySem.W.Frag} {mg : Str → Option Value} {base : Heap}
theorem scW : FnScope ["value", "least", "most"] ["value", "least", "most"] (defScope sWithin) := ⟨rfl, rfl, rfl, by decide +kernel, rfl, by decide +kernel, by decide +kernel⟩
theorem ok_within {f : Addr} {fd : FuncData} (F : Fun K "is_within" "is_within" sWithin f fd) (n_int : mg "int" = none) (n_bool : mg "bool" = none) (n_isinstance : mg "isinstance" = none) : FnOk P w K mg base CX0 1 f fd ["value", "least", "most"] (spWithin K) := by
  refine F.ok scW (fun vs H Q E h => ?_) (fun cdv A outer s H vs Q E hr h => ?_)
  · obtain ⟨v, a, b, rfl, _⟩ := h
    rfl
  · obtain ⟨v, a, b, rfl, k⟩ := h
    refine ⟨_, (pss_cons (ps_if (PW.pt (pw_or (pt_not (pt_val (pe_callB call_isi (by rfl) n_isinstance (by decide +kernel) (pa_cons (pv 0) (pa_cons (pe_bltn (v := .ty "int") (by rfl) n_int (by decide +kernel) rfl) pa_nil))))) (pw_or1 (pt_val (pe_callB call_isi (by rfl) n_isinstance (by decide +kernel) (pa_cons (pv 0) (pa_cons (pe_bltn (v := .ty "bool") (by rfl) n_bool (by decide +kernel) rfl) pa_nil))))))) (pss_one (ps_ret pe_bl)) pss_nil)
    (pss_one (ps_ret (pe_chain op_le op_le (pv 1) (pv 0) (pv 2))))), ?_⟩
    rcases k with ⟨v, rfl, k⟩ | ⟨⟨c, rfl⟩ | ⟨t, ty, kt⟩, k⟩
    · refine ⟨_, rfl, .int v, .ty "int", _, _, true, rfl, .ty _, .base (.int v), kit_ty (by decide +kernel), true, rfl, ?_⟩
      refine iteF ?_
      refine ⟨_, rfl, .int v, .ty "bool", _, _, false, rfl, .ty _, .base (.int v), kit_ty (by decide +kernel), false, rfl, ?_⟩
      refine iteF ?_
      refine ⟨_, rfl, _, rfl, _, _, rfl, rfl, _, rfl, ?_⟩
      by_cases c : a ≤ v
      · rw [decide_eq_true c] at k ⊢
        refine iteT ?_
        exact ⟨_, rfl, _, _, rfl, rfl, k⟩
      · rw [decide_eq_false c] at k ⊢
        refine iteF ?_
        exact k
    · refine ⟨_, rfl, .bl c, .ty "int", _, _, true, rfl, .ty _, .base (.bl c), kit_ty (by decide +kernel), true, rfl, ?_⟩
      refine iteF ?_
      refine ⟨_, rfl, .bl c, .ty "bool", _, _, true, rfl, .ty _, .base (.bl c), kit_ty (by decide +kernel), true, rfl, ?_⟩
      exact iteT k
    · refine ⟨_, rfl, v, .ty "int", _, _, false, rfl, .ty _, ty, kt, false, rfl, ?_⟩
      refine iteT ?_
      exact iteT k
theorem scBD : FnScope ["self", "at"] ["self", "at"] (defScope sBadDeed0) := ⟨rfl, rfl, rfl, by decide +kernel, rfl, by decide +kernel, by decide +kernel⟩
theorem ok_baddeed {f : Addr} {fd : FuncData} (F : Fun K "__init__" "BadDeed.__init__" sBadDeed0 f fd) : FnOk P w K mg base CX0 1 f fd ["self", "at"] (OwE.spErr1 K "at") := by
  refine F.ok scBD (fun vs H Q E h => ?_) (fun cdv A outer s H vs Q E hr h => ?_)
  · obtain ⟨a, C, v, rfl, _⟩ := h
    rfl
  · obtain ⟨a, C, v, rfl, T, hno, ha, k⟩ := h
    refine ⟨_, (pss_one (ps_ost (pv 0) (pv 1))), ?_⟩
    exact ⟨_, rfl, _, rfl, a, C, rfl, T, hno, .inl ⟨ha, fun dx h1 h2 => k dx h1 h2⟩⟩
/-- the error of a wrong deed -/
structure DErr (K : PySem.W.Frag) (mg : Str → Option Value) (a : DAd) : Prop where
  T : ErrT K mg "BadDeed" a.CB a.fB0
  at_ : PySem.W.findIn K (.ref a.CB) "at" = some none
  d : ∃ fd, Fun K "__init__" "BadDeed.__init__" sBadDeed0 a.fB0 fd
abbrev nR0 : List Str := ["self", "deeds", "at", "deed"]
theorem scR0 : FnScope nR0 ([("self" : Str)] ++ [("deeds" : Str)]) (defScope sR0) := ⟨rfl, rfl, rfl, by decide +kernel, rfl, by decide +kernel, by decide +kernel⟩
theorem ok_R0 {a : DAd} {f : Addr} {fd : FuncData} (k : DK K a) (Er : DErr K mg a) (F : Fun K "__init__" "Row.__init__" sR0 f fd) (g_Deed : mg "Deed" = some (.ref a.CD)) (n_enumerate : mg "enumerate" = none) (n_isinstance : mg "isinstance" = none) (n_len : mg "len" = none) : FnR P w K mg base (L2.CX P w) 4 f (spR0 K a) := by
  obtain ⟨oc, od, kV, doc, pm, an, cdv, ct, osl, rfl, lk, hcd⟩ := F.ex
  obtain ⟨TK, hat, ⟨fdK, F_K⟩⟩ := Er
  have GK : FnOk P w K mg base CX0 1 a.fB0 fdK ["self", "at"] (OwE.spErr1 K "at") := ok_baddeed F_K
  have bK : Binds K fdK ["self", "at"] [] := F_K.binds fun _ _ _ _ _ _ us hl => match us, hl with | [_, _], _ => rfl
  refine FnR.imp (StX.fn_star (k := 3) (ps := ["self"]) (pv := "deeds") (sp := spR0' K a) lk hcd scR0 StX.cxUp (fun us rest hl => match us, hl, rest with | [_], _, [] => rfl | [_], _, _ :: _ => rfl) fun A outer s H vs Q E hr h => ?_) fun vs H Q E h => ?_
  · obtain ⟨z, l, dx, xs, rfl, hz, hl, hlen, h⟩ := h
    have hr2 := hr.mono (show 2 ≤ 3 by decide)
    refine ⟨_, (pss_cons (ps_for (passes_of rfl) rfl (OwR.pi_enumT (by rfl) n_enumerate (pa_cons (pv 1) pa_nil)) (pg_tup rfl (pgs_cons (pg_name (i := 2) scR0.nd rfl (Or.inl rfl)) (pgs_cons (pg_name (i := 3) scR0.nd rfl (Or.inl rfl)) pgs_nil))) (pss_one (ps_if (pt_not (pt_val (pe_callB call_isi (by rfl) n_isinstance (by decide +kernel) (pa_cons (pv 3) (pa_cons (pe_glob (v := .ref a.CD) rfl g_Deed rfl) pa_nil))))) (pss_one (ps_raise rfl (takes_of rfl rfl rfl rfl) (pmk_oex TK.er.ox TK.ini TK.ty GK hr2 bK .nil pass0 (by rfl) TK.g (pa_cons (pv 2) pa_nil)))) pss_nil)))
    (pss_cons (ps_if (pt_cmpR op_gt (pe_callB call_len_seq (by rfl) n_len boot_len (pa_cons (pv 1) pa_nil)) pe_int (nomark _)) (pss_one ps_never) pss_nil)
    (pss_one (ps_fld (pv 0) (pv 1) rfl)))), ?_⟩
    refine ⟨_, rfl, l, _, rfl, SqT.of hl, ?_⟩
    have sz := sizeLine_eq
    rcases h with ⟨ks, ds, rfl, hd, q⟩ | ⟨n, xb, eb, nb, bf, qb⟩
    · refine for_it (OwR.walk_enumT (xs := ks.map V.ref)) (fun i σ H' => Same H H' ∧ ∃ x y, σ = [some (.ref z), some (.ref l), x, y]) ⟨Same.refl _, none, none, rfl⟩ (fun i σ H' _ q => SqT.of (q.1 _ _ hl)) (fun i x σ H' H2 hi q0 y => ?_) (fun σ H' q0 => ?_)
      · obtain ⟨s1, x0, y0, rfl⟩ := q0
        obtain ⟨T, x, z1, rfl, hT, rfl, hx, hz1⟩ := y
        obtain ⟨k1, d, rfl, _, _, hk⟩ := (hd.same s1).get hz1
        have sT := Same.of_new (o := .tup [x, .ref k1]) hT
        obtain ⟨t, ty, kt, _⟩ := (hk.same sT).isD k
        refine ⟨T, _, rfl, .inl (.inl upd_same), rfl, _, _, rfl, _, _, rfl, rfl, ?_⟩
        refine ⟨_, rfl, .ref k1, .ref a.CD, t, _, true, rfl, .own _, ty, kt, true, rfl, ?_⟩
        exact iteF ⟨s1.trans sT, _, _, rfl⟩
      · obtain ⟨s1, x0, y0, rfl⟩ := q0
        refine ⟨_, rfl, l, _, rfl, .inr (SqT.of (s1 _ _ hl)), _, _, rfl, rfl, _, rfl, ?_⟩
        rw [decide_eq_false (by omega)]
        refine iteF ?_
        refine ⟨_, rfl, _, rfl, z, a.CR, dx, [], rfl, s1 _ _ hz, k.dR.cls, k.nD, (by show (0 : Nat) < 1000; decide), ?_⟩
        have nl : l ≠ z := fun e => by
          rw [e, hz] at hl
          cases hl
        refine q _ (fun b o nb e => ?_) ⟨dx, _, l, upd_same, rfl, ?_, rfl⟩
        · rw [upd_ne nb]
          exact s1 _ _ e
        · rw [upd_ne nl]
          exact s1 _ _ hl
    · have hnb := (List.getElem?_eq_some_iff.mp eb).1
      refine for_it (OwR.walk_enumT (xs := xs)) (fun i σ H' => i ≤ n ∧ Same H H' ∧ ∃ x y, σ = [some (.ref z), some (.ref l), x, y]) ⟨Nat.zero_le _, Same.refl _, none, none, rfl⟩ (fun i σ H' _ q => SqT.of (q.2.1 _ _ hl)) (fun i x σ H' H2 hi q0 y => ?_) (fun σ H' q0 => ?_)
      · obtain ⟨hin, s1, x0, y0, rfl⟩ := q0
        obtain ⟨T, x, z1, rfl, hT, rfl, hx, hz1⟩ := y
        have hz1 : xs[i]? = some z1 := hz1
        have sT : ∀ o, Same H (L2.upd H' T o) := fun o => s1.trans (Same.of_new hT)
        refine ⟨T, _, rfl, .inl (.inl upd_same), rfl, _, _, rfl, _, _, rfl, rfl, ?_⟩
        rcases Nat.lt_or_ge i n with lt | ge
        · obtain ⟨k1, d, rfl, hk⟩ := bf i z1 lt hz1
          obtain ⟨t, ty, kt, _⟩ := (hk.same (sT _)).isD k
          refine ⟨_, rfl, .ref k1, .ref a.CD, t, _, true, rfl, .own _, ty, kt, true, rfl, ?_⟩
          exact iteF ⟨lt, sT _, _, _, rfl⟩
        · obtain rfl : i = n := by omega
          rw [eb] at hz1
          cases hz1
          cases hx
          obtain ⟨t, ty, kt⟩ := nb _ (sT _)
          refine ⟨_, rfl, xb, .ref a.CD, t, _, false, rfl, .own _, ty, kt, false, rfl, ?_⟩
          refine iteT ?_
          exact ⟨_, rfl, OwE.mk_err1 TK.er.ox hat fun d hd => qb _ d (Same.but z (sT _)) hd⟩
      · obtain ⟨hin, _⟩ := q0
        omega
  · obtain ⟨z, dx, xs, rfl, hz, h⟩ := h
    have sz := sizeLine_eq
    have l := h.1
    exact ⟨[.ref z], xs, rfl, rfl, by omega, fun t ht => ⟨z, t, dx, xs, rfl, upd_keep2 hz ht, upd_same, h.new (Same.of_new ht)⟩⟩
abbrev nRO : List Str := ["cls", "deeds"]
theorem scRO : FnScope nRO ["cls", "deeds"] (defScope sROf) := ⟨rfl, rfl, rfl, by decide +kernel, rfl, by decide +kernel, by decide +kernel⟩
theorem ok_ROf {a : DAd} {f fI : Addr} {fd : FuncData} (F : Fun K "of" "Row.of" sROf f fd) (MF : Mk K a.CR fI) (GI : FnR P w K mg base (L2.CX P w) 4 fI (spR0 K a)) : FnOk P w K mg base (L2.CX P w) 6 f fd ["cls", "deeds"] (spROf K a) := by
  refine F.okX scRO (fun vs H Q E h => ?_) (fun cdv A outer s H vs Q E hr h => ?_)
  · obtain ⟨l, ks, rfl, _⟩ := h
    rfl
  · obtain ⟨l, xs, rfl, hl, h⟩ := h
    refine ⟨_, (pss_one (ps_ret (OwR.pe_makeLS (i := 0) MF GI hr (by rfl) (by first | exact Or.inl rfl | exact Or.inr (Or.inl rfl)) (passes_call (takes_of rfl rfl rfl rfl) (fun _ _ _ _ h => h)) (pv 1)))), ?_⟩
    exact ⟨rfl, _, rfl, l, _, rfl, hl.symm, fun z dz h1 h2 nd => ⟨z, dz, xs, rfl, upd_same, made_row h h1 h2⟩⟩
end
end K10
end
section
set_option pp.maxSteps 400
set_option pp.deepTerms.threshold 6
/-! What rows of deeds do. -/
namespace K10
open PySem PySem.Spec PyProof.Rows L2
def partsV (d : Dd) : List V := match d.2 with
  | none => [.str "come", .str d.1]
  | some b => [.str "go", .str d.1, .str b]
def deedText (d : Dd) : Str := match d.2 with
  | none => "come " ++ d.1
  | some b => (("go " ++ d.1) ++ " ") ++ b
/-- small names -/
def SmallD (d : Dd) : Prop := d.1.length ≤ 8 ∧ ∀ b, d.2 = some b → b.length ≤ 8
theorem deed_len {d : Dd} (h : SmallD d) : (deedText d).length ≤ 30 := by
  obtain ⟨z, o⟩ := d
  obtain ⟨h1, h2⟩ := h
  have e1 : ("come " : Str).length = 5 := by decide +kernel
  have e2 : ("go " : Str).length = 3 := by decide +kernel
  have e3 : (" " : Str).length = 1 := by decide +kernel
  have h1 : z.length ≤ 8 := h1
  cases o with
  | none =>
    show ("come " ++ z : Str).length ≤ 30
    rw [Str.length_append, e1]
    omega
  | some b =>
    have := h2 b rfl
    show ((("go " ++ z) ++ " ") ++ b : Str).length ≤ 30
    rw [Str.length_append, Str.length_append, Str.length_append, e2, e3]
    omega
/-- tuples of parts -/
structure PartsAt (H : Hp) (ts : List Addr) (ds : List Dd) : Prop where
  len : ts.length = ds.length
  at_ : ∀ (i : Nat) (t : Addr) (d : Dd), ts[i]? = some t → ds[i]? = some d → H t = some (.tup (partsV d))
theorem PartsAt.mono {H H' : Hp} {ts : List Addr} {ds : List Dd} (h : PartsAt H ts ds) (s : ∀ k xs, H k = some (.tup xs) → H' k = some (.tup xs)) : PartsAt H' ts ds := ⟨h.len, fun i t d e1 e2 => s _ _ (h.at_ i t d e1 e2)⟩
theorem PartsAt.same {H H' : Hp} {ts : List Addr} {ds : List Dd} (h : PartsAt H ts ds) (s : Same H H') : PartsAt H' ts ds := h.mono fun _ _ e => s _ _ e
theorem PartsAt.snoc {H : Hp} {ts : List Addr} {ds : List Dd} (h : PartsAt H ts ds) {t : Addr} {d : Dd} (e : H t = some (.tup (partsV d))) : PartsAt H (ts ++ [t]) (ds ++ [d]) := by
  refine ⟨by rw [List.length_append, List.length_append, h.len]; rfl, fun i k' p' e1 e2 => ?_⟩
  rcases Nat.lt_trichotomy i ts.length with c | c | c
  · rw [List.getElem?_append_left c] at e1
    rw [List.getElem?_append_left (by rw [← h.len]; exact c)] at e2
    exact h.at_ i k' p' e1 e2
  · subst c
    rw [List.getElem?_append_right (Nat.le_refl _), Nat.sub_self] at e1
    rw [h.len, List.getElem?_append_right (Nat.le_refl _), Nat.sub_self] at e2
    cases e1
    cases e2
    exact e
  · rw [List.getElem?_eq_none (by rw [List.length_append]; simp; omega)] at e1
    cases e1
/-- all that deeds and rows are known by -/
structure RW (P : Program) (w : World) (K : PySem.W.Frag) (mg : Str → Option Value) (base : Heap) (a : DAd) : Prop where
  k : DK K a
  er : DErr K mg a
  T : Nm2 mg
  n_int : mg "int" = none
  n_bool : mg "bool" = none
  n_enumerate : mg "enumerate" = none
  n_tuple : mg "tuple" = none
  n_iter : mg "iter" = none
  gD : mg "Deed" = some (.ref a.CD)
  gC : mg "Come" = some (.ref a.CC)
  gG : mg "Go" = some (.ref a.CG)
  gR : mg "Row" = some (.ref a.CR)
  wi : ∃ f fd, mg "is_within" = some (.ref f) ∧ Fun K "is_within" "is_within" sWithin f fd
  pC : PropOf K a.CC "parts" a.pCP a.fCP
  pG : PropOf K a.CG "parts" a.pGP a.fGP
  dCP : ∃ fd, Fun K "parts" "Come.parts" sComeP a.fCP fd
  dGP : ∃ fd, Fun K "parts" "Go.parts" sGoP a.fGP fd
  sC : OwR.Str1 K a.CC a.fCS
  sG : OwR.Str1 K a.CG a.fGS
  dCS : ∃ fd, Fun K "__str__" "Come.__str__" sComeS a.fCS fd
  dGS : ∃ fd, Fun K "__str__" "Go.__str__" sGoS a.fGS fd
  eC : OwR.Cmp1 K .Eq a.CC a.fCE
  eG : OwR.Cmp1 K .Eq a.CG a.fGE
  dCE : ∃ fd, Fun K "__eq__" "Come.__eq__" sComeE a.fCE fd
  dGE : ∃ fd, Fun K "__eq__" "Go.__eq__" sGoE a.fGE fd
  mkR : Mk K a.CR a.fR0
  dR0 : ∃ fd, Fun K "__init__" "Row.__init__" sR0 a.fR0 fd
section
variable {P : Program} {w : World} {K : PySem.W.Frag} {mg : Str → Option Value} {base : Heap} {a : DAd}
theorem RW.row0 (R : RW P w K mg base a) : FnR P w K mg base (L2.CX P w) 4 a.fR0 (spR0 K a) := by
  obtain ⟨_, d⟩ := R.dR0
  exact ok_R0 R.k R.er d R.gD R.n_enumerate R.T.n_isinstance R.T.n_len
theorem RW.comeS (R : RW P w K mg base a) : FnR P w K mg base CX0 1 a.fCS (spComeS a.CC) := by
  obtain ⟨_, d⟩ := R.dCS
  exact OwR.raw0 (ok_comeS R.k.dC d) (d.binds fun _ _ _ _ _ _ us hl => match us, hl with | [_], _ => rfl)
theorem RW.goS (R : RW P w K mg base a) : FnR P w K mg base CX0 1 a.fGS (spGoS a.CG) := by
  obtain ⟨_, d⟩ := R.dGS
  exact OwR.raw0 (ok_goS R.k.dG d) (d.binds fun _ _ _ _ _ _ us hl => match us, hl with | [_], _ => rfl)
theorem RW.comeE (R : RW P w K mg base a) : FnR P w K mg base CX0 1 a.fCE (spComeE K a.CC) := by
  obtain ⟨_, d⟩ := R.dCE
  exact OwR.raw0 (ok_comeE R.k.dC d R.T R.gC R.k.cc) (d.binds fun _ _ _ _ _ _ us hl => match us, hl with | [_, _], _ => rfl)
theorem RW.goE (R : RW P w K mg base a) : FnR P w K mg base CX0 1 a.fGE (spGoE K a.CG) := by
  obtain ⟨_, d⟩ := R.dGE
  exact OwR.raw0 (ok_goE R.k.dG d R.T R.gG R.k.gg) (d.binds fun _ _ _ _ _ _ us hl => match us, hl with | [_, _], _ => rfl)
theorem getParts {X : Cx} (R : RW X.prog X.w X.K X.mg X.base a) (hr : Room 2 X.A) : OwR.GetR X "parts" (fun x H Q => OwR.rProp a.CC (spComeP a.CC) E0 x H Q ∨ OwR.rProp a.CG (spGoP a.CG) E0 x H Q) := by
  obtain ⟨_, d1⟩ := R.dCP
  obtain ⟨_, d2⟩ := R.dGP
  exact OwR.GetR.or (OwR.get_prop (k := 1) R.k.dC.cls R.pC (ok_comeP R.k.dC d1) hr (d1.binds fun _ _ _ _ _ _ us hl => match us, hl with | [_], _ => rfl) pass0) (OwR.get_prop (k := 1) R.k.dG.cls R.pG (ok_goP R.k.dG d2) hr (d2.binds fun _ _ _ _ _ _ us hl => match us, hl with | [_], _ => rfl) pass0)
theorem parts_of {H : Hp} {x : Addr} {d : Dd} {Q : VK} (h : DeedAt a H x d) (q : ∀ p, H p = none → Q (.ref p) (upd H p (.tup (partsV d)))) : OwR.rProp a.CC (spComeP a.CC) E0 (.ref x) H Q ∨ OwR.rProp a.CG (spGoP a.CG) E0 (.ref x) H Q := by
  obtain ⟨z, o⟩ := d
  rcases h with ⟨e, dx, fs, h1, h2⟩ | ⟨b, e, dx, fs, h1, h2, h3⟩
  · have e : o = none := e
    subst e
    exact .inl ⟨x, dx, fs, rfl, h1, x, z, rfl, ⟨dx, fs, h1, h2⟩, q⟩
  · have e : o = some b := e
    subst e
    exact .inr ⟨x, dx, fs, rfl, h1, x, z, b, rfl, ⟨dx, fs, h1, h2, h3⟩, q⟩
theorem str_of (R : RW P w K mg base a) {H : Hp} {x : Addr} {d : Dd} {Q : VK} {E1 E2 : XK} (h : DeedAt a H x d) (sm : SmallD d) (q : Q (.str (deedText d)) H) : OwR.rStrO K a.fCS (spComeS a.CC) E1 [.ref x] H Q ∨ OwR.rStrO K a.fGS (spGoS a.CG) E2 [.ref x] H Q := by
  obtain ⟨z, o⟩ := d
  obtain ⟨m1, m2⟩ := sm
  have m1 : z.length ≤ 8 := m1
  rcases h with ⟨e, dx, fs, h1, h2⟩ | ⟨b, e, dx, fs, h1, h2, h3⟩
  · have e : o = none := e
    subst e
    exact .inl ⟨x, _, dx, fs, rfl, h1, R.sC, x, z, rfl, ⟨dx, fs, h1, h2⟩, by omega, _, rfl, q⟩
  · have e : o = some b := e
    subst e
    have := m2 b rfl
    exact .inr ⟨x, _, dx, fs, rfl, h1, R.sG, x, z, b, rfl, ⟨dx, fs, h1, h2, h3⟩, by omega, by omega, _, rfl, q⟩
def spRP (a : DAd) : Sp := fun vs H Q _ => ∃ (z : Addr) (ks : List Addr) (ds : List Dd), vs = [.ref z] ∧ RowAt a H z ks ∧ DeedsAt a H ks ds ∧ ks.length ≤ 1000 ∧ ∀ p ts H', Same H H' → H' p = some (.tup (ts.map V.ref)) → PartsAt H' ts ds → Q (.ref p) H'
abbrev nRP : List Str := ["self", "deed"]
theorem scRP : FnScope nRP ["self"] (defScope sRP) := ⟨rfl, rfl, rfl, by decide +kernel, rfl, by decide +kernel, by decide +kernel⟩
theorem ok_RP {f : Addr} {fd : FuncData} (R : RW P w K mg base a) (F : Fun K "parts" "Row.parts" sRP f fd) : FnOk P w K mg base CX0 3 f fd ["self"] (spRP a) := by
  have n_tuple := R.n_tuple
  refine F.ok scRP (fun vs H Q E h => ?_) (fun cdv A outer s H vs Q E hr h => ?_)
  · obtain ⟨z, ks, ds, rfl, _⟩ := h
    rfl
  · obtain ⟨z, ks, ds, rfl, ⟨dx, fs, l, h1, h2, h3, h4⟩, hd, lk, k⟩ := h
    have hr2 : Room 2 _ := hr
    refine ⟨_, (pss_one (ps_ret (pe_callTy call_tuple_of (by rfl) n_tuple (by decide +kernel) (pa_cons (pe_lc (own := [("deed", 1)]) (by rfl) scRP.nd (pi_tup (pe_fld (pv 0) rfl)) (blkOk_by (own := [("deed", 1)]) (N := nRP) (sc := defScope sRP) (by decide +kernel)) (fun _ _ _ _ _ => (pg_name (i := 1) scRP.nd rfl (Or.inl rfl))) (fun _ _ _ _ _ => pts_nil) (fun _ _ _ _ _ => (OwR.pe_get (pv 1) (getParts R hr2)))) pa_nil)))), ?_⟩
    have sz := sizeLine_eq
    refine ⟨_, rfl, z, a.CR, dx, fs, .ref l, rfl, h1, R.k.dR.cls, R.k.nD, h2, l, rfl, ⟨_, SqT.of h3⟩, fun D hD => ?_⟩
    refine lc_it (walk_tup (xs := ks.map V.ref)) (fun i Hx => Same H Hx ∧ ∃ ts : List Addr, Hx D = some (.lst (ts.map V.ref)) ∧ PartsAt Hx ts (ds.take i)) ⟨Same.of_new hD, [], upd_same, ⟨rfl, fun i t d e => by cases e⟩⟩ (fun i Hx _ q => SqT.of (q.1 _ _ h3)) (fun i x Hx Hy hi q0 y => ?_) (fun Hx q0 => ?_)
    · obtain ⟨s1, ts, eD, pt⟩ := q0
      obtain ⟨rfl, hx⟩ := y
      obtain ⟨k1, d, rfl, hk1, hd1, hk⟩ := (hd.same s1).get hx
      rw [List.length_map] at hi
      have lt : ts.length = i := by
        rw [pt.len, List.length_take, ← hd.len]
        omega
      refine ⟨rfl, ?_⟩
      refine ⟨_, rfl, parts_of hk fun p hp => ?_⟩
      have sp := Same.of_new (o := .tup (partsV d)) hp
      have eD2 := sp _ _ eD
      refine ⟨_, eD2, by rw [List.length_map]; omega, fun b o e => ?_, ts ++ [p], ?_, ?_⟩
      · rw [upd_ne (ne_of_none e hD)]
        exact sp _ _ (s1 b o e)
      · rw [List.map_append]
        exact upd_same
      · rw [List.take_add_one, hd1]
        have keep : ∀ k xs, upd _ p (.tup (partsV d)) k = some (.tup xs) → upd (upd _ p (.tup (partsV d))) D (.lst (ts.map V.ref ++ [V.ref p])) k = some (.tup xs) := fun k xs e => by
          rw [upd_ne (fun q => by rw [q, eD2] at e; cases e)]
          exact e
        exact ((pt.same sp).mono keep).snoc (keep _ _ upd_same)
    · obtain ⟨s1, ts, eD, pt⟩ := q0
      rw [List.length_map, hd.len, List.take_length] at pt
      refine ⟨D, _, rfl, .inl ⟨SqL.of eD, fun p hp => ?_⟩⟩
      have sp := Same.of_new (o := .tup (ts.map V.ref)) hp
      exact k p ts _ (s1.trans sp) upd_same (pt.same sp)
end
end K10
end
section
set_option pp.maxSteps 400
set_option pp.deepTerms.threshold 6
namespace K10
open PySem PySem.Spec PyProof.Rows L2
def NotIn (K : PySem.W.Frag) (H : Hp) (a b : Int) (v : V) : Prop := (∃ i, v = .int i ∧ ¬ (a ≤ i ∧ i ≤ b)) ∨ NoInt K H v
def comesN (ds : List Dd) : Nat := (ds.filter fun d => d.2.isNone).length
def rowText (ds : List Dd) : Str := if ds = [] then "none" else Txt.join " ; " (ds.map deedText)
def spRC (a : DAd) : Sp := fun vs H Q _ => ∃ (z : Addr) (ks : List Addr) (ds : List Dd), vs = [.ref z] ∧ RowAt a H z ks ∧ DeedsAt a H ks ds ∧ ks.length ≤ 1000 ∧ ∀ H', Same H H' → Q (.int (comesN ds : Nat)) H'
def spRS (a : DAd) : Sp := fun vs H Q _ => ∃ (z : Addr) (ks : List Addr) (ds : List Dd), vs = [.ref z] ∧ RowAt a H z ks ∧ DeedsAt a H ks ds ∧ (∀ d ∈ ds, SmallD d) ∧ ks.length ≤ 1000 ∧ ∀ H', Same H H' → Q (.str (rowText ds)) H'
def spRU (K : PySem.W.Frag) (a : DAd) : Sp := fun vs H Q _ => ∃ (z : Addr) (k : Nat) (ks : List Addr) (ds : List Dd), vs = [.ref z, .int (k : Nat)] ∧ RowAt a H z ks ∧ DeedsAt a H ks ds ∧ ks.length ≤ 1000 ∧ ∀ r H', Same H H' → RowAt a H' r (ks.take k) → Q (.ref r) H'
def spRG (K : PySem.W.Frag) (a : DAd) : Sp := fun vs H Q E => ∃ (z : Addr) (v : V) (ks : List Addr), vs = [.ref z, v] ∧ RowAt a H z ks ∧ ks.length ≤ 1000 ∧ ((∃ (i : Nat) (k : Addr), v = .int (i : Nat) ∧ ks[i]? = some k ∧ Q (.ref k) H) ∨ (NotIn K H 0 ((ks.length : Int) - 1) v ∧ ∀ d, H d = none → E (.ref a.CB) (some d) (upd H d (.xd [("at", v)]))))
def spRA (K : PySem.W.Frag) (a : DAd) : Sp := fun vs H Q _ => ∃ (z y : Addr) (ks : List Addr) (ds : List Dd) (js : List Addr) (es : List Dd), vs = [.ref z, .ref y] ∧ RowAt a H z ks ∧ DeedsAt a H ks ds ∧ DeedsAt a H js es ∧ ((js = [y]) ∨ RowAt a H y js) ∧ ks.length + js.length ≤ 1000 ∧ ∀ r H', Same H H' → RowAt a H' r (ks ++ js) → Q (.ref r) H'
def spRE (K : PySem.W.Frag) (a : DAd) : Sp := fun vs H Q _ => ∃ (z : Addr) (y : V) (ks : List Addr) (ds : List Dd), vs = [.ref z, y] ∧ RowAt a H z ks ∧ DeedsAt a H ks ds ∧ ((∃ x js es, y = .ref x ∧ RowAt a H x js ∧ DeedsAt a H js es ∧ Q (.bl (decide (ds = es))) H) ∨ (NotOf K H a.CR y ∧ Q (.bl false) H))
section
variable {P : Program} {w : World} {K : PySem.W.Frag} {mg : Str → Option Value} {base : Heap} {a : DAd}
theorem scRI : FnScope ["self"] ["self"] (defScope sRI) := ⟨rfl, rfl, rfl, by decide +kernel, rfl, by decide +kernel, by decide +kernel⟩
theorem ok_RI {f : Addr} {fd : FuncData} (F : Fun K "__iter__" "Row.__iter__" sRI f fd) (n_iter : mg "iter" = none) (C : Addr) (c : OwR.OwnIt K C f "_deeds") : OwR.FnSR P w K mg base CX0 1 f (OwR.spIt C K "_deeds") := by
  have b : Binds K fd ["self"] [] := F.binds fun _ _ _ _ _ _ us hl => match us, hl with | [_], _ => rfl
  obtain ⟨oc, od, kV, doc, pm, an, cdv, ct, osl, rfl, lk, hcd⟩ := F.ex
  have len : ∀ (s : Shared) (vs : List V) (H : Hp) (Q : VK) (E : XK), OwR.spIt C K "_deeds" s vs H Q E → vs.length = ([("self" : Str)]).length := fun s vs H Q E h => by
    obtain ⟨a, dx, l, fs, zs, rfl, _⟩ := h
    rfl
  refine OwR.FnS.raw (OwR.fn_ofS (k := 0) (sp := OwR.spIt C K "_deeds") lk hcd scRI len fun A outer s H vs Q E hr h => ?_) len b
  obtain ⟨a, dx, l, fs, zs, rfl, ha, hf, sq, q⟩ := h
  refine ⟨_, (pss_one (ps_ret (pe_callB OwR.call_iterTN (by rfl) n_iter (by decide +kernel) (pa_cons (pe_fld (pv 0) rfl) pa_nil)))), ?_⟩
  exact ⟨_, rfl, a, C, dx, fs, .ref l, rfl, ha, c.cls, c.na, hf, l, zs, rfl, sq, q⟩
theorem scRL : FnScope ["self"] ["self"] (defScope sRL) := ⟨rfl, rfl, rfl, by decide +kernel, rfl, by decide +kernel, by decide +kernel⟩
theorem ok_RL {C f : Addr} {fd : FuncData} (F : Fun K "__len__" "Row.__len__" sRL f fd) (n_len : mg "len" = none) (cls : Cls K C) (na : NoAttr K C "_deeds") : FnR P w K mg base CX0 1 f (OwR.spLn C K "_deeds") := by
  refine OwR.raw0 (F.ok (k := 0) (ps := ["self"]) scRL (fun vs H Q E h => ?_) (fun cdv A outer s H vs Q E hr h => ?_)) (F.binds fun _ _ _ _ _ _ us hl => match us, hl with | [_], _ => rfl)
  · obtain ⟨a, dx, l, fs, zs, rfl, _⟩ := h
    rfl
  · obtain ⟨a, dx, l, fs, zs, rfl, ha, hf, sq, q⟩ := h
    refine ⟨_, (pss_one (ps_ret (pe_callB call_len_seq (by rfl) n_len boot_len (pa_cons (pe_fld (pv 0) rfl) pa_nil)))), ?_⟩
    exact ⟨_, rfl, a, C, dx, fs, .ref l, rfl, ha, cls, na, hf, l, zs, rfl, .inr sq, q⟩
abbrev nRC : List Str := ["self", "deed"]
theorem scRC : FnScope nRC ["self"] (defScope sRC) := ⟨rfl, rfl, rfl, by decide +kernel, rfl, by decide +kernel, by decide +kernel⟩
theorem ok_RC {f : Addr} {fd : FuncData} (R : RW P w K mg base a) (F : Fun K "comings" "Row.comings" sRC f fd) : FnOk P w K mg base CX0 1 f fd ["self"] (spRC a) := by
  have n_len := R.T.n_len
  have n_isinstance := R.T.n_isinstance
  refine F.ok scRC (fun vs H Q E h => ?_) (fun cdv A outer s H vs Q E hr h => ?_)
  · obtain ⟨z, ks, ds, rfl, _⟩ := h
    rfl
  · obtain ⟨z, ks, ds, rfl, ⟨dx, fs, l, h1, h2, h3, h4⟩, hd, lk, k⟩ := h
    refine ⟨_, (pss_one (ps_ret (pe_callB call_len_seq (by rfl) n_len boot_len (pa_cons (pe_lc (own := [("deed", 1)]) (by rfl) scRC.nd (pi_tup (pe_fld (pv 0) rfl)) (blkOk_by (own := [("deed", 1)]) (N := nRC) (sc := defScope sRC) (by decide +kernel)) (fun _ _ _ _ _ => (pg_name (i := 1) scRC.nd rfl (Or.inl rfl))) (fun _ _ _ _ _ => pts_one (pt_val (pe_callB (id := "isinstance") (r := rIsi K) call_isi (by rfl) n_isinstance (by decide +kernel) (pa_cons (pv 1) (pa_cons (pe_glob (v := .ref a.CC) rfl R.gC rfl) pa_nil))))) (fun _ _ _ _ _ => (pv 1))) pa_nil)))), ?_⟩
    have sz := sizeLine_eq
    refine ⟨_, rfl, z, a.CR, dx, fs, .ref l, rfl, h1, R.k.dR.cls, R.k.nD, h2, l, rfl, ⟨_, SqT.of h3⟩, fun D hD => ?_⟩
    refine lc_it (walk_tup (xs := ks.map V.ref)) (fun i Hx => Same H Hx ∧ ∃ cs : List Addr, Hx D = some (.lst (cs.map V.ref)) ∧ cs.length = comesN (ds.take i)) ⟨Same.of_new hD, [], upd_same, rfl⟩ (fun i Hx _ q => SqT.of (q.1 _ _ h3)) (fun i x Hx Hy hi q0 y => ?_) (fun Hx q0 => ?_)
    · obtain ⟨s1, cs, eD, lc⟩ := q0
      obtain ⟨rfl, hx⟩ := y
      obtain ⟨k1, d, rfl, hk1, hd1, hk⟩ := (hd.same s1).get hx
      rw [List.length_map] at hi
      obtain ⟨t, ty, _, kt⟩ := hk.isD R.k
      have st : comesN (ds.take (i + 1)) = comesN (ds.take i) + if d.2.isNone = true then 1 else 0 := by
        unfold comesN
        rw [List.take_add_one, hd1, List.filter_append, List.length_append]
        show _ + ([d].filter _).length = _
        rw [List.filter_cons]
        split <;> rfl
      have lc2 : cs.length ≤ i := by
        rw [lc]
        unfold comesN
        refine Nat.le_trans (List.length_filter_le _ _) ?_
        rw [List.length_take]
        omega
      refine ⟨rfl, ?_⟩
      refine ⟨_, rfl, .ref k1, .ref a.CC, t, _, d.2.isNone, rfl, .own _, ty, kt, ?_⟩
      cases ed : d.2.isNone with
      | true =>
        rw [ed] at st
        refine ⟨_, rfl, iteT ?_⟩
        refine ⟨_, rfl, _, eD, by rw [List.length_map]; omega, fun b o e => ?_, cs ++ [k1], ?_, ?_⟩
        · rw [upd_ne (ne_of_none e hD)]
          exact s1 b o e
        · rw [List.map_append]
          exact upd_same
        · rw [List.length_append, lc, st]
          rfl
      | false =>
        rw [ed] at st
        refine ⟨_, rfl, iteF ?_⟩
        exact ⟨s1, cs, eD, by rw [lc, st]; rfl⟩
    · obtain ⟨s1, cs, eD, lc⟩ := q0
      rw [List.length_map, hd.len, List.take_length] at lc
      refine ⟨D, _, rfl, .inl (SqL.of eD), ?_⟩
      rw [List.length_map, lc]
      exact k _ s1
abbrev nRU : List Str := ["self", "k", "deeds"]
theorem scRU : FnScope nRU ["self", "k"] (defScope sRU) := ⟨rfl, rfl, rfl, by decide +kernel, rfl, by decide +kernel, by decide +kernel⟩
theorem ok_RU {f : Addr} {fd : FuncData} (R : RW P w K mg base a) (F : Fun K "until" "Row.until" sRU f fd) : FnR P w K mg base (L2.CX P w) 6 f (spRU K a) := by
  refine OwR.raw0 (F.okX (k := 5) (ps := ["self", "k"]) scRU (fun vs H Q E h => ?_) (fun cdv A outer s H vs Q E hr h => ?_)) (F.binds fun _ _ _ _ _ _ us hl => match us, hl with | [_, _], _ => rfl)
  · obtain ⟨z, kk, ks, ds, rfl, _⟩ := h
    rfl
  · obtain ⟨z, kk, ks, ds, rfl, ⟨dx, fs, l, h1, h2, h3, h4⟩, hd, lk, k⟩ := h
    have hr5 : Room 5 _ := hr
    refine ⟨_, (pss_cons (ps_set (i := 2) scRU.nd rfl (Or.inl rfl) (pe_slice sl_tupA (pe_fld (pv 0) rfl) po_none (po_some (pv 1))))
    (pss_one (ps_ret (OwR.pe_makeGS R.mkR (R.row0) hr5 (by rfl) R.gR (passes_call (takes_of rfl rfl rfl rfl) (fun _ _ _ _ h => h)) (pv 2))))), ?_⟩
    have sz := sizeLine_eq
    have fin : ∀ (t : Addr) (H1 : Hp), Same H H1 → H1 t = some (.tup ((ks.take kk).map V.ref)) → ∀ z1 dz, H1 z1 = none → H1 dz = none → dz ≠ z1 → spR0 K a (V.ref z1 :: (ks.take kk).map V.ref) (upd (upd H1 dz (.own z1)) z1 (.ins a.CR dz [])) (fun v H2 => v = .non ∧ Q (.ref z1) H2) E := fun t H1 s1 et z1 dz n1 n2 _ => by
      refine ⟨z1, dz, _, rfl, upd_same, made_row ⟨?_, .inl ⟨ks.take kk, ds.take kk, rfl, ⟨by rw [List.length_take, List.length_take, hd.len], fun i k1 d e1 e2 => ?_⟩, fun z2 H2 _ s2 r => k z2 H2 (s1.trans s2) r⟩⟩ n1 n2⟩
      · rw [List.length_map, List.length_take]
        omega
      · rw [List.getElem?_take] at e1 e2
        split at e1
        · rename_i c
          rw [if_pos c] at e2
          exact (hd.at_ i k1 d e1 e2).same s1
        · cases e1
    refine ⟨_, rfl, z, a.CR, dx, fs, .ref l, rfl, h1, R.k.dR.cls, R.k.nD, h2, _, rfl, _, rfl, l, _, rfl, SqT.of h3, fun c => ?_, fun c p hp => ?_⟩
    · have e : ks.take kk = ks := by
        have c2 := c.2
        rw [List.length_map] at c2
        refine List.take_of_length_le ?_
        have c2 : (if ((kk : Nat) : Int) < 0 then (((kk : Nat) : Int) + ((ks.length : Nat) : Int)).toNat else min ((kk : Nat) : Int).toNat ks.length) = ks.length := c2
        rw [if_neg (by omega), Int.toNat_natCast] at c2
        omega
      refine ⟨_, rfl, l, (ks.take kk).map V.ref, rfl, .inl (SqT.of (by rw [e]; exact h3)), fun z1 dz n1 n2 n3 => ?_⟩
      exact fin l H (Same.refl H) (by rw [e]; exact h3) z1 dz n1 n2 n3
    · have e : cutV (ks.map V.ref) none (some ((kk : Nat) : Int)) = (ks.take kk).map V.ref := by
        show ((ks.map V.ref).drop 0).take ((if ((kk : Nat) : Int) < 0 then (((kk : Nat) : Int) + (((ks.map V.ref).length : Nat) : Int)).toNat else min ((kk : Nat) : Int).toNat (ks.map V.ref).length) - 0) = _
        rw [if_neg (by omega), Int.toNat_natCast, List.drop_zero, List.length_map, Nat.sub_zero, List.map_take]
        rcases Nat.le_total kk ks.length with h | h
        · rw [Nat.min_eq_left h]
        · rw [Nat.min_eq_right h, List.take_of_length_le (by rw [List.length_map]; exact Nat.le_refl _), List.take_of_length_le (by rw [List.length_map]; exact h)]
      rw [e]
      have sp := Same.of_new (o := .tup ((ks.take kk).map V.ref)) hp
      refine ⟨_, rfl, p, _, rfl, .inl (SqT.of upd_same), fun z1 dz n1 n2 n3 => ?_⟩
      exact fin p _ sp upd_same z1 dz n1 n2 n3
abbrev nRG : List Str := ["self", "at"]
theorem scRG : FnScope nRG ["self", "at"] (defScope sRG) := ⟨rfl, rfl, rfl, by decide +kernel, rfl, by decide +kernel, by decide +kernel⟩
theorem ok_RG {f : Addr} {fd : FuncData} (R : RW P w K mg base a) (F : Fun K "__getitem__" "Row.__getitem__" sRG f fd) : FnR P w K mg base (L2.CX P w) 3 f (spRG K a) := by
  have n_len := R.T.n_len
  obtain ⟨TK, hat, ⟨fdK, F_K⟩⟩ := R.er
  have GK : FnOk P w K mg base CX0 1 a.fB0 fdK ["self", "at"] (OwE.spErr1 K "at") := ok_baddeed F_K
  have bK : Binds K fdK ["self", "at"] [] := F_K.binds fun _ _ _ _ _ _ us hl => match us, hl with | [_, _], _ => rfl
  obtain ⟨fW, fdW, gW, FW⟩ := R.wi
  have GW : FnOk P w K mg base CX0 1 fW fdW ["value", "least", "most"] (spWithin K) := ok_within FW R.n_int R.n_bool R.T.n_isinstance
  have bW : Binds K fdW ["value", "least", "most"] [] := FW.binds fun _ _ _ _ _ _ us hl => match us, hl with | [_, _, _], _ => rfl
  refine OwR.raw0 (F.okX (k := 2) (ps := ["self", "at"]) scRG (fun vs H Q E h => ?_) (fun cdv A outer s H vs Q E hr h => ?_)) (F.binds fun _ _ _ _ _ _ us hl => match us, hl with | [_, _], _ => rfl)
  · obtain ⟨z, v, ks, rfl, _⟩ := h
    rfl
  · obtain ⟨z, v, ks, rfl, ⟨dx, fs, l, h1, h2, h3, h4⟩, lk, h⟩ := h
    have hr2 : Room 2 _ := hr
    have hr1 : Room 1 _ := hr.mono (by decide)
    refine ⟨_, (pss_cons (ps_if (pt_not (pt_val (pe_call GW hr1 (by rfl) gW FW.kp bW .nil pass0 (pa_cons (pv 1) (pa_cons pe_int (pa_cons (pe_op op_sub (pe_callB call_len_seq (by rfl) n_len boot_len (pa_cons (pe_fld (pv 0) rfl) pa_nil)) pe_int) pa_nil)))))) (pss_one (ps_raise rfl (takes_of rfl rfl rfl rfl) (pmk_oex TK.er.ox TK.ini TK.ty GK hr2 bK .nil pass0 (by rfl) TK.g (pa_cons (pv 1) pa_nil)))) pss_nil)
    (pss_one (ps_ret (pe_ix ix_tup (pe_fld (pv 0) rfl) (pv 1) (fun _ _ => rfl))))), ?_⟩
    have sz := sizeLine_eq
    refine ⟨_, rfl, _, rfl, z, a.CR, dx, fs, .ref l, rfl, h1, R.k.dR.cls, R.k.nD, h2, l, _, rfl, .inr (SqT.of h3), _, _, rfl, rfl, v, 0, ((ks.length : Nat) : Int) - 1, ?_, ?_⟩
    · rw [List.length_map]
      rfl
    rcases h with ⟨i, k1, rfl, hi, q⟩ | ⟨ni, q⟩
    · have hik : i < ks.length := (List.getElem?_eq_some_iff.mp hi).1
      refine .inl ⟨(i : Nat), rfl, ?_⟩
      rw [decide_eq_true (by omega), decide_eq_true (by omega)]
      refine ⟨_, rfl, iteF ?_⟩
      refine ⟨_, rfl, z, a.CR, dx, fs, .ref l, rfl, h1, R.k.dR.cls, R.k.nD, h2, _, rfl, l, _, _, _, rfl, rfl, SqT.of h3, atI_nat (j := i) (by rw [List.getElem?_map, hi]; rfl), q⟩
    · rcases ni with ⟨i, rfl, ni⟩ | ni
      · refine .inl ⟨i, rfl, ?_⟩
        have e : (decide (0 ≤ i) && decide (i ≤ ((ks.length : Nat) : Int) - 1)) = false := by
          by_cases c : 0 ≤ i
          · rw [decide_eq_false (p := i ≤ ((ks.length : Nat) : Int) - 1) (fun h => ni ⟨c, h⟩), Bool.and_false]
          · rw [decide_eq_false c, Bool.false_and]
        rw [e]
        refine ⟨_, rfl, iteT ?_⟩
        exact ⟨_, rfl, OwE.mk_err1 TK.er.ox hat fun d hd => q d hd⟩
      · refine .inr ⟨ni, ⟨_, rfl, iteT ?_⟩⟩
        exact ⟨_, rfl, OwE.mk_err1 TK.er.ox hat fun d hd => q d hd⟩
abbrev nRA : List Str := ["self", "other", "deeds"]
theorem scRA : FnScope nRA ["self", "other"] (defScope sRA) := ⟨rfl, rfl, rfl, by decide +kernel, rfl, by decide +kernel, by decide +kernel⟩
theorem DeedsAt.app {H : Hp} {ks js : List Addr} {ds es : List Dd} (h1 : DeedsAt a H ks ds) (h2 : DeedsAt a H js es) : DeedsAt a H (ks ++ js) (ds ++ es) := by
  refine ⟨by rw [List.length_append, List.length_append, h1.len, h2.len], fun i k c e1 e2 => ?_⟩
  rcases Nat.lt_or_ge i ks.length with lt | ge
  · rw [List.getElem?_append_left lt] at e1
    rw [List.getElem?_append_left (by rw [← h1.len]; exact lt)] at e2
    exact h1.at_ i k c e1 e2
  · rw [List.getElem?_append_right ge] at e1
    rw [List.getElem?_append_right (by rw [← h1.len]; exact ge), ← h1.len] at e2
    exact h2.at_ _ k c e1 e2
theorem ok_RA {f : Addr} {fd : FuncData} (R : RW P w K mg base a) (F : Fun K "__add__" "Row.__add__" sRA f fd) : FnR P w K mg base (L2.CX P w) 6 f (spRA K a) := by
  have n_isinstance := R.T.n_isinstance
  refine OwR.raw0 (F.okX (k := 5) (ps := ["self", "other"]) scRA (fun vs H Q E h => ?_) (fun cdv A outer s H vs Q E hr h => ?_)) (F.binds fun _ _ _ _ _ _ us hl => match us, hl with | [_, _], _ => rfl)
  · obtain ⟨z, y, ks, ds, js, es, rfl, _⟩ := h
    rfl
  · obtain ⟨z, y, ks, ds, js, es, rfl, ⟨dx, fs, l, h1, h2, h3, h4⟩, hd, he, hy, lk, k⟩ := h
    have hr5 : Room 5 _ := hr
    refine ⟨_, (pss_cons (ps_set (i := 2) scRA.nd rfl (Or.inl rfl) (pe_op op_catA (pe_fld (pv 0) rfl) (pe_ifExp (pt_val (pe_callB call_isi (by rfl) n_isinstance (by decide +kernel) (pa_cons (pv 1) (pa_cons (pe_glob (v := .ref a.CD) rfl R.gD rfl) pa_nil)))) (pe_tup (pa_cons (pv 1) pa_nil)) (pe_fld (pv 1) rfl))))
    (pss_one (ps_ret (OwR.pe_makeGS R.mkR (R.row0) hr5 (by rfl) R.gR (passes_call (takes_of rfl rfl rfl rfl) (fun _ _ _ _ h => h)) (pv 2))))), ?_⟩
    have sz := sizeLine_eq
    have fin : ∀ (t : Addr) (H1 : Hp), Same H H1 → H1 t = some (.tup ((ks ++ js).map V.ref)) → ∀ z1 dz, H1 z1 = none → H1 dz = none → dz ≠ z1 → spR0 K a (V.ref z1 :: (ks ++ js).map V.ref) (upd (upd H1 dz (.own z1)) z1 (.ins a.CR dz [])) (fun v H2 => v = .non ∧ Q (.ref z1) H2) E := fun t H1 s1 et z1 dz n1 n2 _ => by
      refine ⟨z1, dz, _, rfl, upd_same, made_row ⟨?_, .inl ⟨ks ++ js, ds ++ es, rfl, (hd.app he).same s1, fun z2 H2 _ s2 r => k z2 H2 (s1.trans s2) r⟩⟩ n1 n2⟩
      rw [List.length_map, List.length_append]
      omega
    have cat : ∀ (m : Addr) (H1 : Hp), Same H H1 → H1 m = some (.tup (js.map V.ref)) → ∀ (Qc : V → Hp → Prop), (∀ t H2, Same H H2 → H2 t = some (.tup ((ks ++ js).map V.ref)) → Qc (.ref t) H2) → rCatA K (.ref l) (.ref m) H1 Qc := fun m H1 s1 em Qc qc => by
      refine ⟨l, m, _, _, rfl, rfl, SqT.of (s1 _ _ h3), SqT.of em, by rw [List.length_map, List.length_map]; omega, fun e => qc m H1 s1 ?_, fun _ e => qc l H1 s1 ?_, fun _ _ p hp => qc p _ (s1.trans (Same.of_new hp)) ?_⟩
      · have : ks = [] := List.map_eq_nil_iff.mp e
        rw [this, List.nil_append]
        exact em
      · have : js = [] := List.map_eq_nil_iff.mp e
        rw [this, List.append_nil]
        exact s1 _ _ h3
      · rw [List.map_append]
        exact upd_same
    refine ⟨_, rfl, z, a.CR, dx, fs, .ref l, rfl, h1, R.k.dR.cls, R.k.nD, h2, ?_⟩
    have deed : (js = [y]) ∨ ∃ dx2 fs2 l2, H y = some (.ins a.CR dx2 fs2) ∧ fs2.lookup ("_deeds" : Str) = some (.ref l2) ∧ H l2 = some (.tup (js.map V.ref)) ∧ fs2.lookup ("until" : Str) = none := hy
    rcases deed with ej | ⟨dx2, fs2, l2, g1, g2, g3, g4⟩
    · subst ej
      obtain ⟨e0, eE⟩ : ∃ e0, es[0]? = some e0 := ⟨es[0]'(by rw [← he.len]; exact Nat.zero_lt_one), List.getElem?_eq_getElem _⟩
      obtain ⟨t, ty, kt, _⟩ := (he.at_ 0 y e0 rfl eE).isD R.k
      refine ⟨_, rfl, .ref y, .ref a.CD, t, _, true, rfl, .own _, ty, kt, true, rfl, ?_⟩
      refine iteT ?_
      refine ⟨_, rfl, by show (1 : Nat) ≤ sizeLine; omega, fun m hm => ?_⟩
      refine cat m _ (Same.of_new hm) upd_same _ fun t2 H2 s2 et => ?_
      exact ⟨_, rfl, t2, (ks ++ [y]).map V.ref, rfl, .inl (SqT.of et), fun z1 dz n1 n2 n3 => fin t2 H2 s2 et z1 dz n1 n2 n3⟩
    · refine ⟨_, rfl, .ref y, .ref a.CD, _, _, false, rfl, .own _, R.k.dR.ty g1, R.k.rd, false, rfl, ?_⟩
      refine iteF ?_
      refine ⟨_, rfl, y, a.CR, dx2, fs2, .ref l2, rfl, g1, R.k.dR.cls, R.k.nD, g2, ?_⟩
      refine cat l2 _ (Same.refl H) g3 _ fun t2 H2 s2 et => ?_
      exact ⟨_, rfl, t2, (ks ++ js).map V.ref, rfl, .inl (SqT.of et), fun z1 dz n1 n2 n3 => fin t2 H2 s2 et z1 dz n1 n2 n3⟩
/-- == of two deeds -/
theorem deed_eq (k : DK K a) (eC : OwR.Cmp1 K .Eq a.CC a.fCE) (eG : OwR.Cmp1 K .Eq a.CG a.fGE) {H : Hp} {x y : Addr} {d e : Dd} (h1 : DeedAt a H x d) (h2 : DeedAt a H y e) : OwR.OneEq K a.fCE (spComeE K a.CC) H x y (decide (d = e)) ∨ OwR.OneEq K a.fGE (spGoE K a.CG) H x y (decide (d = e)) := by
  obtain ⟨z, o⟩ := d
  obtain ⟨z2, o2⟩ := e
  rcases h1 with ⟨e1, dx, fs, a1, a2⟩ | ⟨b, e1, dx, fs, a1, a2, a3⟩
  · have e1 : o = none := e1
    subst e1
    rcases h2 with ⟨e2, dy, gs, b1, b2⟩ | ⟨b', e2, dy, gs, b1, b2, b3⟩
    · have e2 : o2 = none := e2
      subst e2
      refine .inl ⟨_, _, dx, dy, fs, gs, a1, b1, eC, k.fCC, x, z, _, rfl, ⟨dx, fs, a1, a2⟩, .inl ⟨y, z2, rfl, ⟨dy, gs, b1, b2⟩, ?_, rfl⟩⟩
      exact congrArg V.bl (decide_eq_decide.mpr ⟨fun h => by rw [h], fun h => by cases h; rfl⟩)
    · have e2 : o2 = some b' := e2
      subst e2
      refine .inl ⟨_, _, dx, dy, fs, gs, a1, b1, eC, k.fCG, x, z, _, rfl, ⟨dx, fs, a1, a2⟩, .inr ⟨⟨_, k.dG.ty b1, k.gc⟩, ?_, rfl⟩⟩
      exact congrArg V.bl (decide_eq_false (fun h => by cases h)).symm
  · have e1 : o = some b := e1
    subst e1
    rcases h2 with ⟨e2, dy, gs, b1, b2⟩ | ⟨b', e2, dy, gs, b1, b2, b3⟩
    · have e2 : o2 = none := e2
      subst e2
      refine .inr ⟨_, _, dx, dy, fs, gs, a1, b1, eG, k.fGC, x, z, b, _, rfl, ⟨dx, fs, a1, a2, a3⟩, .inr ⟨⟨_, k.dC.ty b1, k.cg⟩, ?_, rfl⟩⟩
      exact congrArg V.bl (decide_eq_false (fun h => by cases h)).symm
    · have e2 : o2 = some b' := e2
      subst e2
      refine .inr ⟨_, _, dx, dy, fs, gs, a1, b1, eG, k.fGG, x, z, b, _, rfl, ⟨dx, fs, a1, a2, a3⟩, .inl ⟨y, z2, b', rfl, ⟨dy, gs, b1, b2, b3⟩, ?_, rfl⟩⟩
      by_cases c1 : z = z2
      · by_cases c2 : b = b'
        · rw [c1, c2]
          simp
        · simp [c2]
      · simp [c1]
abbrev nRE : List Str := ["self", "other"]
theorem scRE : FnScope nRE ["self", "other"] (defScope sRE) := ⟨rfl, rfl, rfl, by decide +kernel, rfl, by decide +kernel, by decide +kernel⟩
theorem all_eq_list {ds es : List Dd} : ((List.range (min ds.length es.length)).all (fun i => decide (ds[i]? = es[i]?)) && ds.length == es.length) = decide (ds = es) := by
  rw [Bool.eq_iff_iff, Bool.and_eq_true, List.all_eq_true, decide_eq_true_eq, beq_iff_eq]
  constructor
  · intro ⟨h1, h2⟩
    refine List.ext_getElem? fun i => ?_
    by_cases hi : i < ds.length
    · exact of_decide_eq_true (h1 i (List.mem_range.mpr (by omega)))
    · rw [List.getElem?_eq_none (by omega), List.getElem?_eq_none (by omega)]
  · intro h
    rw [h]
    exact ⟨fun i _ => decide_eq_true rfl, rfl⟩
theorem ok_RE {f : Addr} {fd : FuncData} (R : RW P w K mg base a) (F : Fun K "__eq__" "Row.__eq__" sRE f fd) : FnR P w K mg base CX0 3 f (spRE K a) := by
  have n_isinstance := R.T.n_isinstance
  refine OwR.raw0 (F.ok (k := 2) (ps := ["self", "other"]) scRE (fun vs H Q E h => ?_) (fun cdv A outer s H vs Q E hr h => ?_)) (F.binds fun _ _ _ _ _ _ us hl => match us, hl with | [_, _], _ => rfl)
  · obtain ⟨z, y, ks, ds, rfl, _⟩ := h
    rfl
  · obtain ⟨z, y, ks, ds, rfl, ⟨dx, fs, l, h1, h2, h3, h4⟩, hd, h⟩ := h
    have hr2 : Room 2 _ := hr
    have hu1 : (A.deeper (envOfC "Row.__eq__" (defScope sRE) s.heap.objs.size f cdv)).units + 1 < cLine := (by have := hr.units; omega)
    refine ⟨_, (pss_one (ps_ret (pe_and (pe_callB call_isi (by rfl) n_isinstance (by decide +kernel) (pa_cons (pv 1) (pa_cons (pe_glob (v := .ref a.CR) rfl R.gR rfl) pa_nil))) (pe_one (pe_cmpR (OwR.op_eqOwnT R.comeE R.goE hr2 hu1) (pe_fld (pv 0) rfl) (pe_fld (pv 1) rfl) (nomark _)))))), ?_⟩
    rcases h with ⟨x, js, es, rfl, ⟨dx2, fs2, l2, g1, g2, g3, g4⟩, he, q⟩ | ⟨⟨t, ty, kt⟩, q⟩
    · refine ⟨_, rfl, .ref x, .ref a.CR, _, _, true, rfl, .own _, R.k.dR.ty g1, R.k.rr, true, rfl, ?_⟩
      refine iteT ?_
      refine ⟨_, rfl, z, a.CR, dx, fs, .ref l, rfl, h1, R.k.dR.cls, R.k.nD, h2, _, rfl, x, a.CR, dx2, fs2, .ref l2, rfl, g1, R.k.dR.cls, R.k.nD, g2, l, l2, ks, js, fun i => decide (ds[i]? = es[i]?), rfl, rfl, SqT.of h3, SqT.of g3, fun j r t er et => ?_, ?_⟩
      · have hj1 := (List.getElem?_eq_some_iff.mp er).1
        have hj2 := (List.getElem?_eq_some_iff.mp et).1
        obtain ⟨d, ed⟩ : ∃ d, ds[j]? = some d := ⟨ds[j]'(by rw [← hd.len]; exact hj1), List.getElem?_eq_getElem _⟩
        obtain ⟨e, ee⟩ : ∃ e, es[j]? = some e := ⟨es[j]'(by rw [← he.len]; exact hj2), List.getElem?_eq_getElem _⟩
        have a1 := hd.at_ j r d er ed
        have a2 := he.at_ j t e et ee
        have eb : decide (ds[j]? = es[j]?) = decide (d = e) := by
          rw [ed, ee]
          exact decide_eq_decide.mpr ⟨fun h => Option.some.inj h, fun h => by rw [h]⟩
        show (r = t ∧ decide (ds[j]? = es[j]?) = true) ∨ (r ≠ t ∧ (OwR.OneEq K a.fCE (spComeE K a.CC) H r t (decide (ds[j]? = es[j]?)) ∨ OwR.OneEq K a.fGE (spGoE K a.CG) H r t (decide (ds[j]? = es[j]?))))
        rw [eb]
        by_cases c : r = t
        · subst c
          refine .inl ⟨rfl, decide_eq_true ?_⟩
          obtain ⟨z1, o1⟩ := d
          obtain ⟨z2, o2⟩ := e
          rcases a1 with ⟨e1, dx3, fs3, p1, p2⟩ | ⟨b, e1, dx3, fs3, p1, p2, p3⟩
          · have e1 : o1 = none := e1
            rcases a2 with ⟨e2, dy3, gs3, q1, q2⟩ | ⟨b', e2, dy3, gs3, q1, q2, q3⟩
            · have e2 : o2 = none := e2
              rw [p1] at q1
              cases q1
              rw [p2] at q2
              have ez : z1 = z2 := V.str.inj (Option.some.inj q2)
              rw [e1, e2, ez]
            · rw [p1] at q1
              have ec : a.CC = a.CG := (HO.ins.inj (Option.some.inj q1)).1
              have h5 := R.k.gc
              rw [← ec] at h5
              exact absurd (R.k.cc.symm.trans h5) (by simp)
          · have e1 : o1 = some b := e1
            rcases a2 with ⟨e2, dy3, gs3, q1, q2⟩ | ⟨b', e2, dy3, gs3, q1, q2, q3⟩
            · rw [p1] at q1
              have ec : a.CG = a.CC := (HO.ins.inj (Option.some.inj q1)).1
              have h5 := R.k.gc
              rw [ec] at h5
              exact absurd (R.k.cc.symm.trans h5) (by simp)
            · have e2 : o2 = some b' := e2
              rw [p1] at q1
              cases q1
              rw [p2] at q2
              rw [p3] at q3
              have ez : z1 = z2 := V.str.inj (Option.some.inj q2)
              have eb : b = b' := V.str.inj (Option.some.inj q3)
              rw [e1, e2, ez, eb]
        · exact .inr ⟨c, deed_eq R.k R.eC R.eG a1 a2⟩
      · rw [hd.len, he.len, all_eq_list]
        exact q
    · refine ⟨_, rfl, y, .ref a.CR, t, _, false, rfl, .own _, ty, kt, false, rfl, ?_⟩
      exact iteF q
abbrev nRS : List Str := ["self", "deed"]
theorem scRS : FnScope nRS ["self"] (defScope sRS) := ⟨rfl, rfl, rfl, by decide +kernel, rfl, by decide +kernel, by decide +kernel⟩
theorem ok_RS {f : Addr} {fd : FuncData} (R : RW P w K mg base a) (F : Fun K "__str__" "Row.__str__" sRS f fd) : FnR P w K mg base CX0 4 f (spRS a) := by
  have n_str := R.T.n_str
  refine OwR.raw0 (F.ok (k := 3) (ps := ["self"]) scRS (fun vs H Q E h => ?_) (fun cdv A outer s H vs Q E hr h => ?_)) (F.binds fun _ _ _ _ _ _ us hl => match us, hl with | [_], _ => rfl)
  · obtain ⟨z, ks, ds, rfl, _⟩ := h
    rfl
  · obtain ⟨z, ks, ds, rfl, ⟨dx, fs, l, h1, h2, h3, h4⟩, hd, sm, lk, k⟩ := h
    have hr3 : Room (1 + 2) _ := hr
    have hu2 : (A.deeper (envOfC "Row.__str__" (defScope sRS) s.heap.objs.size f cdv)).units + 2 < cLine := (by have := hr.un; omega)
    refine ⟨_, (pss_cons (ps_if (pt_not (pt_truth (pe_fld (pv 0) rfl) (by intro _; rfl))) (pss_one (ps_ret pe_str)) pss_nil)
    (pss_one (ps_ret (pe_join pe_str (pe_lc (own := [("deed", 1)]) (by rfl) scRS.nd (pi_tup (pe_fld (pv 0) rfl)) (blkOk_by (own := [("deed", 1)]) (N := nRS) (sc := defScope sRS) (by decide +kernel)) (fun _ _ _ _ _ => (pg_name (i := 1) scRS.nd rfl (Or.inl rfl))) (fun _ _ _ _ _ => pts_nil) (fun _ _ _ _ _ => (pe_callTy (OwR.CallR.or (OwR.call_strOK (K := K) (E := E0) rfl hu2 R.comeS hr3 pass0) (OwR.call_strOK (K := K) (E := E0) rfl hu2 R.goS hr3 pass0)) (by rfl) n_str (by decide +kernel) (pa_cons (pv 1) pa_nil)))))))), ?_⟩
    have sz := sizeLine_eq
    refine ⟨_, rfl, z, a.CR, dx, fs, .ref l, rfl, h1, R.k.dR.cls, R.k.nD, h2, ?_⟩
    refine ⟨!(ks.map V.ref).isEmpty, .inr (.inl ⟨_, SqT.of h3, rfl⟩), ?_⟩
    cases hks : (ks.map V.ref).isEmpty with
    | true =>
      refine iteT ?_
      have e : rowText ds = "none" := by
        have : ds = [] := by
          have l := hd.len
          cases ks with
          | nil => exact List.length_eq_zero_iff.mp l.symm
          | cons _ _ => cases hks
        unfold rowText
        rw [if_pos this]
      rw [← e]
      exact k _ (Same.refl H)
    | false =>
      refine iteF ?_
      refine ⟨⟨_, rfl⟩, _, rfl, z, a.CR, dx, fs, .ref l, rfl, h1, R.k.dR.cls, R.k.nD, h2, l, rfl, ⟨_, SqT.of h3⟩, fun D hD => ?_⟩
      refine lc_it (walk_tup (xs := ks.map V.ref)) (fun i Hx => Same H Hx ∧ Hx D = some (.lst (((ds.take i).map deedText).map V.str))) ⟨Same.of_new hD, upd_same⟩ (fun i Hx _ q => SqT.of (q.1 _ _ h3)) (fun i x Hx Hy hi q0 y => ?_) (fun Hx q0 => ?_)
      · obtain ⟨s1, eD⟩ := q0
        obtain ⟨rfl, hx⟩ := y
        obtain ⟨k1, d, rfl, hk1, hd1, hk⟩ := (hd.same s1).get hx
        rw [List.length_map] at hi
        refine ⟨rfl, ?_⟩
        refine ⟨_, rfl, str_of R hk (sm d (List.mem_of_getElem? hd1)) ?_⟩
        refine ⟨_, eD, by rw [List.length_map, List.length_map, List.length_take]; omega, fun b o e => ?_, ?_⟩
        · rw [upd_ne (ne_of_none e hD)]
          exact s1 b o e
        · rw [List.take_add_one, hd1, List.map_append, List.map_append]
          exact upd_same
      · obtain ⟨s1, eD⟩ := q0
        rw [List.length_map, hd.len, List.take_length] at eD
        have hne : ds ≠ [] := fun e => by
          have l := hd.len
          rw [e] at l
          cases ks with
          | nil => cases hks
          | cons _ _ => cases l
        have sum : ∀ es : List Dd, (∀ d ∈ es, SmallD d) → ((es.map deedText).map (·.length)).sum ≤ 30 * es.length := fun es => by
          induction es with
          | nil => intro _; exact Nat.le_refl 0
          | cons e r ih =>
            intro h
            have i1 := ih fun d hd => h d (List.mem_cons_of_mem _ hd)
            have i2 := deed_len (h e List.mem_cons_self)
            rw [List.map_cons, List.map_cons, List.sum_cons, List.length_cons]
            omega
        have sd := sum ds sm
        have e3 : (" ; " : Str).length = 3 := by decide +kernel
        have ld : ds.length ≤ 1000 := by rw [← hd.len]; exact lk
        refine ⟨_, D, ds.map deedText, rfl, rfl, .inl (SqL.of eD), by rw [e3, List.length_map]; omega, ?_⟩
        have e : rowText ds = Txt.join " ; " (ds.map deedText) := by
          unfold rowText
          rw [if_neg hne]
        rw [← e]
        exact k _ s1
end
end K10
end
section
/-! Own: repr of lists of bools. -/
namespace K10
open PySem PySem.Spec PyProof.Rows L2
theorem bools_show : ∀ bs : List Bool, PyData.showableAll (bs.map PyData.bool) = true ∧ PyData.hasDictAll (bs.map PyData.bool) = false ∧ PyData.leavesShortAll 13 (bs.map PyData.bool) = true ∧ PyData.bulkAll (bs.map PyData.bool) = bs.length
  | [] => ⟨rfl, rfl, rfl, rfl⟩
  | b :: r => by
    obtain ⟨i1, i2, i3, i4⟩ := bools_show r
    refine ⟨?_, ?_, ?_, ?_⟩
    · show (true && PyData.showableAll (r.map PyData.bool)) = true
      rw [i1]
      rfl
    · show (false || PyData.hasDictAll (r.map PyData.bool)) = false
      rw [i2]
      rfl
    · show (true && PyData.leavesShortAll 13 (r.map PyData.bool)) = true
      rw [i3]
      rfl
    · show 0 + 1 + PyData.bulkAll (r.map PyData.bool) = r.length + 1
      rw [i4]
      omega
theorem dp_bools {K : PySem.W.Frag} {H : Hp} : ∀ bs : List Bool, DpAll K H (bs.map V.bl) (bs.map PyData.bool)
  | [] => .nil
  | b :: r => .cons (.bl b) (dp_bools r)
theorem rep_bools {K : PySem.W.Frag} {H : Hp} {a : Addr} {bs : List Bool} (l : bs.length ≤ 10) (e : H a = some (.lst (bs.map V.bl))) : OwE.RepV K H (.ref a) (PyData.list (bs.map PyData.bool)).shown := by
  obtain ⟨a1, a2, b1, b2⟩ := bools_show bs
  have dp : (PyData.list (bs.map PyData.bool)).depth ≤ 64 := by
    have := OwD.deps (f := PyData.bool) (k := 0) bs fun q _ => by simp [PyData.depth]
    rw [PyData.depth]
    omega
  refine .dat (.lst (SqL.of e) (dp_bools bs)) a1 a2 dp (PyData.shown_fits_bulk (B := 13) (by decide) (by decide) b1 ?_)
  show PyData.bulkAll (bs.map PyData.bool) ≤ 2 ^ 20
  rw [b2]
  omega
end K10
end
section
/-! Own: operators of own classes beside values of any built-in type; x op= y where the class has no method for it; lists of the same things. -/
namespace OwR
open PySem PySem.Spec PyProof.Rows L2
/-- no class above has the method -/
def noIn (K : PySem.W.Frag) (C : Addr) (i : Str) : Bool := (PySem.W.clsIn K C).any fun cd => cd.mro.all fun c => decide (PySem.W.findIn K c i = some none)
theorem none_fills {M : Model} {K : PySem.W.Frag} {h : Heap} {C : Addr} {nm : String} {add : Bool} (X : K.In h) (n : noIn K C (dunderI nm) = true) : PySem.W.Looks M h (fillsInplaceSlot (.ref C) nm add) false := by
  unfold noIn at n
  cases hc : PySem.W.clsIn K C with
  | none => rw [hc] at n; cases n
  | some cd =>
    rw [hc] at n
    have all : ∀ c ∈ cd.mro, PySem.W.findIn K c (dunderI nm) = some none := fun c m => of_decide_eq_true (List.all_eq_true.mp n c m)
    intro A Q E s k q
    have Lm : PySem.W.Looks M h (mroOf (.ref C)) cd.mro := (PySem.W.looks_clsIn X hc).andThen (f := fun cd => pure cd.mro) .now
    have Lm2 := Lm.keeps k
    have walk : ∀ (l : List Value) (f : Value → Sem Bool) (Q : Bool → Shared → Prop), (∀ c ∈ l, ∀ Q : Bool → Shared → Prop, Q false s → wpAny M A (f c) Q E s) → Q false s → wpAny M A (l.anyM f) Q E s := fun l f => by
      induction l with
      | nil => exact fun Q _ q => wpAny_pure q
      | cons c r ih =>
        intro Q hf q
        rw [List.anyM_cons]
        refine wpAny_bind (hf c List.mem_cons_self _ ?_)
        exact ih _ (fun d m => hf d (List.mem_cons_of_mem _ m)) q
    unfold fillsInplaceSlot
    refine wpAny_bind (Lm2.here ?_)
    refine walk _ _ _ (fun c m Q' q' => ?_) q
    have L1 : PySem.W.Looks M s.heap (typeLookup c (dunderI nm)) none := PySem.W.looks_findIn (X.keeps k) (all c m)
    exact wpAny_bind (L1.here (wpAny_pure q'))
section
variable {prog : Program} {w : World} {A : Around} {E : Value → Shared → Prop} {s : Shared} {K : PySem.W.Frag} {x C f : Addr} {ox : Obj} {od : Option Obj} {nm : String} {b : Value} {Q : Value → Shared → Prop}
/-- the operator's own method, b of the same class -/
theorem bin1_same (X : K.In s.heap) (I : PySem.W.InstAt s.heap x ox C od) (hb : PySem.W.Looks (model prog w) s.heap (typeOf b) (.ref C)) (cC : PySem.W.selfFirst K C = true) (sC : PySem.W.findIn K (.ref C) (PySem.dunder nm) = some (some (.ref f))) (hf : PySem.W.isFn K (.ref f) = true)
    (h : wpAny (model prog w) A (call (.ref f) [.ref x, b]) (PySem.W.CmpBack Q) E s) : wpAny (model prog w) A (binaryOp1 nm (.ref x) b) (fun r s' => ∃ v, r = some v ∧ Q v s') E s := by
  obtain ⟨c1, r1, k1, m1⟩ := PySem.W.ksp_first cC
  have one := PySem.W.ksp_try X I sC hf h
  obtain ⟨hp, gs, dr, tk, os⟩ := s
  have L1 : PySem.W.Looks (model prog w) hp (typeOf (.ref x)) (.ref C) := I.type
  have L2 : PySem.W.Looks (model prog w) hp (typeOf b) (.ref C) := hb
  have L3 : PySem.W.Looks (model prog w) hp (fillsNumberSlot (.ref C) nm) true := PySem.W.fills_K X k1 m1 sC
  unfold binaryOp1
  refine wpAny_bind (L1.at (wpAny_bind (L2.at (wpAny_bind (L3.at ?_)))))
  simp only [BEq.rfl, if_true]
  ksp_lk
  refine wpAny_mono one (fun r s' q => ?_) fun _ _ e => e
  obtain ⟨v, rfl, hq⟩ := q
  ksp_lk
  exact ⟨v, rfl, hq⟩
/-- .. b of another type, which is not below C -/
theorem bin1_other {tb : Value} {right py : Bool} {rc ro : Option Value} (X : K.In s.heap) (I : PySem.W.InstAt s.heap x ox C od) (hb : PySem.W.Looks (model prog w) s.heap (typeOf b) tb) (ne : (Value.ref C == tb) = false) (cC : PySem.W.selfFirst K C = true) (sC : PySem.W.findIn K (.ref C) (PySem.dunder nm) = some (some (.ref f)))
    (rC : PySem.W.findIn K (.ref C) (dunderR nm) = some rc) (pC : rc = none ∨ ∃ g : Addr, rc = some (.ref g)) (fb : PySem.W.Looks (model prog w) s.heap (fillsNumberSlot tb nm) right) (sub : PySem.W.subIn K tb (.ref C) = some false) (pb : PySem.W.Looks (model prog w) s.heap (numberSlotInPython tb nm) py)
    (rb : PySem.W.findIn K tb (dunderR nm) = some ro) (hf : PySem.W.isFn K (.ref f) = true) (h : wpAny (model prog w) A (call (.ref f) [.ref x, b]) (PySem.W.CmpBack Q) E s) : wpAny (model prog w) A (binaryOp1 nm (.ref x) b) (fun r s' => ∃ v, r = some v ∧ Q v s') E s := by
  obtain ⟨c1, r1, k1, m1⟩ := PySem.W.ksp_first cC
  have one := PySem.W.ksp_try X I sC hf h
  obtain ⟨hp, gs, dr, tk, os⟩ := s
  have L1 : PySem.W.Looks (model prog w) hp (typeOf (.ref x)) (.ref C) := I.type
  have L2 : PySem.W.Looks (model prog w) hp (typeOf b) tb := hb
  have L3 : PySem.W.Looks (model prog w) hp (fillsNumberSlot (.ref C) nm) true := PySem.W.fills_K X k1 m1 sC
  have L4 : PySem.W.Looks (model prog w) hp (fillsNumberSlot tb nm) right := fb
  have L5 : PySem.W.Looks (model prog w) hp (isSubtype tb (.ref C)) false := PySem.W.looks_subIn X sub
  have L6 : PySem.W.Looks (model prog w) hp (numberSlotInPython (.ref C) nm) true := PySem.W.ksp_inPy X sC rC pC
  have L7 : PySem.W.Looks (model prog w) hp (numberSlotInPython tb nm) py := pb
  have L8 : PySem.W.Looks (model prog w) hp (typeLookup tb (dunderR nm)) ro := PySem.W.looks_findIn X rb
  unfold binaryOp1
  refine wpAny_bind (L1.at (wpAny_bind (L2.at (wpAny_bind (L3.at ?_)))))
  simp only [ne, Bool.false_eq_true, if_false]
  cases right <;> cases py <;>
    (ksp_lk
     refine wpAny_mono one (fun r s' q => ?_) fun _ _ e => e
     obtain ⟨v, rfl, hq⟩ := q
     ksp_lk
     exact ⟨v, rfl, hq⟩)
/-- a op b by binaryOp1 -/
theorem bin_of1 {op : Operator} (h : wpAny (model prog w) A (binaryOp1 op.info.2 (.ref x) b) (fun r s' => ∃ v, r = some v ∧ Q v s') E s) : wpAny (model prog w) A (binaryOp op (.ref x) b) Q E s := by
  rcases hi : op.info with ⟨sym, n⟩
  rw [hi] at h
  simp only [binaryOp, hi]
  refine wpAny_holding (wpAny_bind (wpAny_mono h (fun r s' q => ?_) fun _ _ e => e))
  obtain ⟨v, rfl, hq⟩ := q
  ksp_lk
  exact hq
/-- a op= b by binaryOp1 -/
theorem iop_of1 {op : Operator} (X : K.In s.heap) (I : PySem.W.InstAt s.heap x ox C od) (n : noIn K C (dunderI op.info.2) = true) (h : wpAny (model prog w) A (binaryOp1 op.info.2 (.ref x) b) (fun r s' => ∃ v, r = some v ∧ Q v s') E s) : wpAny (model prog w) A (inplaceOp op (.ref x) b) Q E s := by
  have L1 : PySem.W.Looks (model prog w) s.heap (typeOf (.ref x)) (.ref C) := I.type
  have L2 : PySem.W.Looks (model prog w) s.heap (fillsInplaceSlot (.ref C) op.info.2 (op == .Add)) false := none_fills X n
  unfold inplaceOp
  refine wpAny_holding (wpAny_bind (L1.here (wpAny_bind (L2.here ?_))))
  simp only [Bool.false_eq_true, if_false]
  refine wpAny_bind (wpAny_mono h (fun r s' q => ?_) fun _ _ e => e)
  obtain ⟨v, rfl, hq⟩ := q
  ksp_lk
  exact hq
end
/-- a value's built-in type -/
inductive TyB (H : Hp) : V → String → Prop where
  | sc {y : V} {T : String} (h : tyS y = some T) : TyB H y T
  | lst {a : Addr} {xs : List V} (e : H a = some (.lst xs)) : TyB H (.ref a) "list"
  | tup {a : Addr} {xs : List V} (e : H a = some (.tup xs)) : TyB H (.ref a) "tuple"
  | dic {a : Addr} {kvs : List (Key × V)} (e : H a = some (.dK kvs)) : TyB H (.ref a) "dict"
section
variable {X : Cx} {CX : CXT} {k : Nat} {g : Addr} {sp : Sp} {E : XK} {op : Operator}
theorem TyB.looks {pins : List (Addr × Obj)} {σ : L2.St} {H : Hp} {s : Shared} {y : V} {u : Value} {T : String} {M : Model} (t : TyB H y T) (I : Inv X pins σ H s) (r : RelV y u) : PySem.W.Looks M s.heap (typeOf u) (.type T) := by
  have byRef : ∀ {a : Addr} {o : Obj}, s.heap.get? a = some o → o.cls = .type T → PySem.W.Looks M s.heap (typeOf (.ref a)) (.type T) := fun {a o} e c A Q E s k q => wpAny_typeOf_ref (k _ _ e) (by rw [c]; exact q)
  cases t with
  | sc h => exact PySem.W.Looks.of_pure (tyS_of r h)
  | @lst a xs e =>
    obtain rfl : u = Value.ref a := r
    obtain ⟨_, its, n, _, h1⟩ := (show ObjOk X.prog X.w H s.heap a (.lst xs) from I.hok a _ e)
    exact byRef h1 rfl
  | @tup a xs e =>
    obtain rfl : u = Value.ref a := r
    obtain ⟨_, its, _, ob, h1, c, _⟩ := (show ObjOk X.prog X.w H s.heap a (.tup xs) from I.hok a _ e)
    exact byRef h1 c
  | @dic a kvs e =>
    obtain rfl : u = Value.ref a := r
    obtain ⟨_, _, vs, _, ob, es, ep, h1, c, _⟩ := (show ObjOk X.prog X.w H s.heap a (.dK kvs) from I.hok a _ e)
    exact byRef h1 c.1
def rOwnB (K : PySem.W.Frag) (op : Operator) (g : Addr) (sp : Sp) (E : XK) : R2 := fun x y H Q => ∃ (p C dx : Addr) (fs : List (Str × V)) (T : String), x = .ref p ∧ H p = some (.ins C dx fs) ∧ TyB H y T ∧ Bin1 K op C g ∧ BinT K op C T ∧ sp [.ref p, y] H Q E
theorem one_B {pins : List (Addr × Obj)} {σ : L2.St} {H : Hp} {s : Shared} {Q : VK} {p C dx : Addr} {fs : List (Str × V)} {T : String} {y : V} {u : Value} (F : FnR X.prog X.w X.K X.mg X.base CX k g sp) (hr : Room k X.A) (hx : Passes CX X E) (I : Inv X pins σ H s) (ep : H p = some (.ins C dx fs)) (ty : TyB H y T) (b1 : Bin1 X.K op C g) (bT : BinT X.K op C T) (ry : RelV y u) (hq : sp [.ref p, y] H Q E) :
    wpAny (model X.prog X.w) X.A (binaryOp1 op.info.2 (.ref p) u) (fun r s' => ∃ v, r = some v ∧ EP X pins σ Q v s') X.xe s := by
  obtain ⟨ox, od, J, _⟩ := StX.insC_at I (.inr ⟨dx, fs, ep⟩)
  obtain ⟨rc, e1, e2⟩ := b1.refl
  obtain ⟨fo, e3⟩ := bT.f
  obtain ⟨ro, e4⟩ := bT.r
  exact bin1_other I.kIn J (ty.looks I ry) (Bool.eq_false_iff.mpr fun q => by cases beq_iff_eq.mp q) b1.self b1.at_ e1 e2 (PySem.W.ksp_fillsT I.kIn e3 e4) bT.sub (PySem.W.Looks.of_pure rfl) e4 b1.fn (run_own F hr hx I (us := [.ref p, u]) (vs := [.ref p, y]) (.cons rfl (.cons ry .nil)) hq)
theorem op_ownB (F : FnR X.prog X.w X.K X.mg X.base CX k g sp) (hr : Room k X.A) (hx : Passes CX X E) : OpR X (binaryOp op) (rOwnB X.K op g sp E) := by
  intro pins s σ H x y v u Q I rx ry h
  obtain ⟨p, C, dx, fs, T, rfl, ep, ty, b1, bT, hq⟩ := h
  obtain rfl : v = Value.ref p := rx
  exact bin_of1 (one_B F hr hx I ep ty b1 bT ry hq)
theorem op_ownBK {K : PySem.W.Frag} (h : X.K = K) (F : FnR X.prog X.w X.K X.mg X.base CX k g sp) (hr : Room k X.A) (hx : Passes CX X E) : OpR X (binaryOp op) (rOwnB K op g sp E) := by
  subst h
  exact op_ownB F hr hx
/-- x op= y, y of a built-in type -/
theorem in_ownB (F : FnR X.prog X.w X.K X.mg X.base CX k g sp) (hr : Room k X.A) (hx : Passes CX X E) : InOp X op (fun x y H Q => (∀ p, x = .ref p → ∀ C dx fs, H p = some (.ins C dx fs) → noIn X.K C (dunderI op.info.2) = true) ∧ rOwnB X.K op g sp E x y H Q) := by
  intro pins s σ H x y u v Q I rx ry ⟨ni, h⟩
  obtain ⟨p, C, dx, fs, T, rfl, ep, ty, b1, bT, hq⟩ := h
  obtain rfl : u = Value.ref p := rx
  obtain ⟨ox, od, J, _⟩ := StX.insC_at I (.inr ⟨dx, fs, ep⟩)
  exact iop_of1 I.kIn J (ni p rfl C dx fs ep) (one_B F hr hx I ep ty b1 bT ry hq)
/-- x op= y, both of own classes -/
theorem in_own2 (F : FnR X.prog X.w X.K X.mg X.base CX k g sp) (hr : Room k X.A) (hx : Passes CX X E) : InOp X op (fun x y H Q => (∀ p, x = .ref p → ∀ C dx fs, H p = some (.ins C dx fs) → noIn X.K C (dunderI op.info.2) = true) ∧ rOwn2 X.K op g sp E x y H Q) := by
  intro pins s σ H x y v u Q I rx ry ⟨ni, h⟩
  obtain ⟨p, q, C, D, dx, dy, fs, gs, rfl, rfl, ep, eq, ⟨b1, b2⟩, hq⟩ := h
  obtain rfl : v = Value.ref p := rx
  obtain rfl : u = Value.ref q := ry
  obtain ⟨ox, od, J, _⟩ := StX.insC_at I (.inr ⟨dx, fs, ep⟩)
  obtain ⟨oy, oe, J2, _⟩ := StX.insC_at I (.inr ⟨dy, gs, eq⟩)
  have go := run_own F hr hx I (us := [.ref p, .ref q]) (vs := [.ref p, .ref q]) (.cons rfl (.cons rfl .nil)) hq
  refine iop_of1 I.kIn J (ni p rfl C dx fs ep) ?_
  rcases b2 with rfl | ⟨⟨g', b2⟩, ne, sub⟩
  · exact bin1_same I.kIn J J2.type b1.self b1.at_ b1.fn go
  · obtain ⟨rc, e1, e2⟩ := b1.refl
    obtain ⟨rd, e3, e4⟩ := b2.refl
    obtain ⟨c2, r2, k2, m2⟩ := PySem.W.ksp_first b2.self
    exact bin1_other I.kIn J J2.type (Bool.eq_false_iff.mpr fun z => ne (by cases beq_iff_eq.mp z; rfl)) b1.self b1.at_ e1 e2 (PySem.W.fills_K I.kIn k2 m2 b2.at_) sub (PySem.W.ksp_inPy I.kIn b2.at_ e3 e4) e3 b1.fn go
end
/-! ### lists of the same things -/
def rNeRefs (K : PySem.W.Frag) : R2 := fun x y H Q => ∃ (a b : Addr) (rs : List Addr), x = .ref a ∧ y = .ref b ∧ SqL K H a (rs.map V.ref) ∧ SqL K H b (rs.map V.ref) ∧ Q (.bl false) H
theorem op_neRefs {X : Cx} (hu : X.A.units < cLine) : OpR X (compareOp .NotEq) (rNeRefs X.K) := by
  intro pins s σ H x y v u Q I rx ry h
  obtain ⟨a, b, rs, rfl, rfl, ha, hb, q⟩ := h
  obtain rfl : v = Value.ref a := rx
  obtain rfl : u = Value.ref b := ry
  obtain ⟨i1, r1, h1, _⟩ := I.list ha
  obtain ⟨i2, r2, h2, _⟩ := I.list hb
  have eqs : ∀ (rs : List Addr) (i1 i2 : List Value), Vals (rs.map V.ref) i1 → Vals (rs.map V.ref) i2 → i1 = i2 := fun rs => by
    induction rs with
    | nil =>
      intro i1 i2 r1 r2
      cases r1
      cases r2
      rfl
    | cons z zs ih =>
      intro i1 i2 r1 r2
      cases r1 with
      | cons e1 t1 =>
        cases r2 with
        | cons e2 t2 =>
          rw [show _ = Value.ref z from e1, show _ = Value.ref z from e2, ih _ _ t1 t2]
  have e := eqs rs i1 i2 r1 r2
  subst e
  refine SeqAt.RcNeAt.lists (e := fun _ => true) h1.isList h2.isList rfl hu (fun j _ _ => SeqAt.EqAt.same _) X.prog X.w X.xe _ ?_
  rw [show (List.range _).all (fun _ => true) = true from List.all_eq_true.mpr fun _ _ => rfl]
  exact ⟨.bl false, H, I, rfl, q⟩
end OwR
end
section
/-! Own: a op b and a op= b, b of an own class that has no such operator. -/
namespace OwR
open PySem PySem.Spec PyProof.Rows L2
/-- no class above has the operator, from either side -/
structure NoBin (K : PySem.W.Frag) (op : Operator) (D : Addr) : Prop where
  f : noIn K D (PySem.dunder op.info.2) = true
  r : noIn K D (dunderR op.info.2) = true
  at_ : PySem.W.findIn K (.ref D) (PySem.dunder op.info.2) = some none
  rt : PySem.W.findIn K (.ref D) (dunderR op.info.2) = some none
theorem none_num {M : Model} {K : PySem.W.Frag} {h : Heap} {C : Addr} {nm : String} (X : K.In h) (n1 : noIn K C (PySem.dunder nm) = true) (n2 : noIn K C (dunderR nm) = true) : PySem.W.Looks M h (fillsNumberSlot (.ref C) nm) false := by
  unfold noIn at n1 n2
  cases hc : PySem.W.clsIn K C with
  | none => rw [hc] at n1; cases n1
  | some cd =>
    rw [hc] at n1 n2
    have a1 : ∀ c ∈ cd.mro, PySem.W.findIn K c (PySem.dunder nm) = some none := fun c m => of_decide_eq_true (List.all_eq_true.mp n1 c m)
    have a2 : ∀ c ∈ cd.mro, PySem.W.findIn K c (dunderR nm) = some none := fun c m => of_decide_eq_true (List.all_eq_true.mp n2 c m)
    intro A Q E s k q
    have Lm : PySem.W.Looks M h (mroOf (.ref C)) cd.mro := (PySem.W.looks_clsIn X hc).andThen (f := fun cd => pure cd.mro) .now
    have Lm2 := Lm.keeps k
    have walk : ∀ {α : Type} (l : List α) (f : α → Sem Bool) (Q : Bool → Shared → Prop), (∀ c ∈ l, ∀ Q : Bool → Shared → Prop, Q false s → wpAny M A (f c) Q E s) → Q false s → wpAny M A (l.anyM f) Q E s := fun {α} l f => by
      induction l with
      | nil => exact fun Q _ q => wpAny_pure q
      | cons c r ih =>
        intro Q hf q
        rw [List.anyM_cons]
        refine wpAny_bind (hf c List.mem_cons_self _ ?_)
        exact ih _ (fun d m => hf d (List.mem_cons_of_mem _ m)) q
    unfold fillsNumberSlot
    refine wpAny_bind (Lm2.here ?_)
    refine walk _ _ _ (fun c m Q' q' => ?_) q
    have L1 : PySem.W.Looks M s.heap (typeLookup c (PySem.dunder nm)) none := PySem.W.looks_findIn (X.keeps k) (a1 c m)
    have L2 : PySem.W.Looks M s.heap (typeLookup c (dunderR nm)) none := PySem.W.looks_findIn (X.keeps k) (a2 c m)
    have two : ∀ (Q' : Bool → Shared → Prop), Q' false s → wpAny M A (List.anyM (fun name => do
        let __x ← typeLookup c name
        match __x with
          | some x => if (!ownNameWrapper x name) = true then pure true else do
              let __do_lift ← inheritsSeqSlot c name
              pure !__do_lift
          | x => pure false) [PySem.dunder nm, dunderR nm]) Q' E s := fun Q' q' => by
      refine walk _ _ _ (fun nn mm Q2 q2 => ?_) q'
      simp only [List.mem_cons, List.not_mem_nil, or_false] at mm
      rcases mm with rfl | rfl
      · exact wpAny_bind (L1.here (wpAny_pure q2))
      · exact wpAny_bind (L2.here (wpAny_pure q2))
    cases c with
    | type name => exact wpAny_bind (L1.here (wpAny_bind (L2.here (wpAny_pure q'))))
    | _ => exact two Q' q'
theorem none_py {M : Model} {K : PySem.W.Frag} {h : Heap} {C : Addr} {nm : String} (X : K.In h) (n1 : PySem.W.findIn K (.ref C) (PySem.dunder nm) = some none) (n2 : PySem.W.findIn K (.ref C) (dunderR nm) = some none) : PySem.W.Looks M h (numberSlotInPython (.ref C) nm) false := by
  intro A Q E s k q
  have L1 : PySem.W.Looks M s.heap (typeLookup (.ref C) (PySem.dunder nm)) none := PySem.W.looks_findIn (X.keeps k) n1
  have L2 : PySem.W.Looks M s.heap (typeLookup (.ref C) (dunderR nm)) none := PySem.W.looks_findIn (X.keeps k) n2
  unfold numberSlotInPython
  refine wpAny_bind (L1.here (wpAny_bind (wpAny_pure (wpAny_bind (L2.here (wpAny_bind (wpAny_pure ?_)))))))
  refine wpAny_ite_false rfl (wpAny_bind (L1.here ?_))
  exact wpAny_ite_true rfl (wpAny_pure q)
section
variable {X : Cx} {CX : CXT} {k : Nat} {g : Addr} {sp : Sp} {E : XK} {op : Operator}
/-- a op b, b of an own class without the operator -/
def rOwnN (K : PySem.W.Frag) (op : Operator) (g : Addr) (sp : Sp) (E : XK) : R2 := fun x y H Q => ∃ (p q C D dx dy : Addr) (fs gs : List (Str × V)), x = .ref p ∧ y = .ref q ∧ H p = some (.ins C dx fs) ∧ H q = some (.ins D dy gs) ∧ Bin1 K op C g ∧ NoBin K op D ∧ C ≠ D ∧ PySem.W.subIn K (.ref D) (.ref C) = some false ∧ sp [.ref p, .ref q] H Q E
theorem one_N {pins : List (Addr × Obj)} {σ : L2.St} {H : Hp} {s : Shared} {Q : VK} {p q C D dx dy : Addr} {fs gs : List (Str × V)} (F : FnR X.prog X.w X.K X.mg X.base CX k g sp) (hr : Room k X.A) (hx : Passes CX X E) (I : Inv X pins σ H s) (ep : H p = some (.ins C dx fs)) (eq : H q = some (.ins D dy gs)) (b1 : Bin1 X.K op C g) (b2 : NoBin X.K op D) (ne : C ≠ D)
    (sub : PySem.W.subIn X.K (.ref D) (.ref C) = some false) (hq : sp [.ref p, .ref q] H Q E) : wpAny (model X.prog X.w) X.A (binaryOp1 op.info.2 (.ref p) (.ref q)) (fun r s' => ∃ v, r = some v ∧ EP X pins σ Q v s') X.xe s := by
  obtain ⟨ox, od, J, _⟩ := StX.insC_at I (.inr ⟨dx, fs, ep⟩)
  obtain ⟨oy, oe, J2, _⟩ := StX.insC_at I (.inr ⟨dy, gs, eq⟩)
  obtain ⟨rc, e1, e2⟩ := b1.refl
  exact bin1_other I.kIn J J2.type (Bool.eq_false_iff.mpr fun z => ne (by cases beq_iff_eq.mp z; rfl)) b1.self b1.at_ e1 e2 (none_num I.kIn b2.f b2.r) sub (none_py I.kIn b2.at_ b2.rt) b2.rt b1.fn (run_own F hr hx I (us := [.ref p, .ref q]) (vs := [.ref p, .ref q]) (.cons rfl (.cons rfl .nil)) hq)
theorem op_ownN (F : FnR X.prog X.w X.K X.mg X.base CX k g sp) (hr : Room k X.A) (hx : Passes CX X E) : OpR X (binaryOp op) (rOwnN X.K op g sp E) := by
  intro pins s σ H x y v u Q I rx ry h
  obtain ⟨p, q, C, D, dx, dy, fs, gs, rfl, rfl, ep, eq, b1, b2, ne, sub, hq⟩ := h
  obtain rfl : v = Value.ref p := rx
  obtain rfl : u = Value.ref q := ry
  exact bin_of1 (one_N F hr hx I ep eq b1 b2 ne sub hq)
theorem in_ownN (F : FnR X.prog X.w X.K X.mg X.base CX k g sp) (hr : Room k X.A) (hx : Passes CX X E) : InOp X op (fun x y H Q => (∀ p, x = .ref p → ∀ C dx fs, H p = some (.ins C dx fs) → noIn X.K C (dunderI op.info.2) = true) ∧ rOwnN X.K op g sp E x y H Q) := by
  intro pins s σ H x y u v Q I rx ry ⟨ni, h⟩
  obtain ⟨p, q, C, D, dx, dy, fs, gs, rfl, rfl, ep, eq, b1, b2, ne, sub, hq⟩ := h
  obtain rfl : u = Value.ref p := rx
  obtain rfl : v = Value.ref q := ry
  obtain ⟨ox, od, J, _⟩ := StX.insC_at I (.inr ⟨dx, fs, ep⟩)
  exact iop_of1 I.kIn J (ni p rfl C dx fs ep) (one_N F hr hx I ep eq b1 b2 ne sub hq)
end
end OwR
end
section
set_option pp.maxSteps 400
set_option pp.deepTerms.threshold 6
namespace K10
open PySem PySem.Spec PyProof.Rows L2
abbrev sLD : Stmt := top 24
abbrev sLM : Stmt := top 25
abbrev sSo : Stmt := top 26
abbrev sLC : Stmt := top 28
abbrev sLL : Stmt := top 29
def GoodD (d : Dd) : Prop := (nameB d.1 = true ∧ d.1.length ≤ 8) ∧ ∀ b, d.2 = some b → nameB b = true ∧ b.length ≤ 8
theorem GoodD.small {d : Dd} (h : GoodD d) : SmallD d := ⟨h.1.2, fun b e => (h.2 b e).2⟩
/-- with the making of deeds -/
structure RX (P : Program) (w : World) (K : PySem.W.Frag) (mg : Str → Option Value) (base : Heap) (a : DAd) (CN : Addr) : Prop where
  R : RW P w K mg base a
  mkC : Mk K a.CC a.fC0
  mkG : Mk K a.CG a.fG0
  come0 : FnR P w K mg base (L2.CX P w) 4 a.fC0 (spCome0 K a.CC CN)
  go0 : FnR P w K mg base (L2.CX P w) 4 a.fG0 (spGo0 K a.CG CN)
theorem lawnames : (nameB ("a" : Str) = true ∧ ("a" : Str).length ≤ 8) ∧ (nameB ("b" : Str) = true ∧ ("b" : Str).length ≤ 8) ∧ (nameB ("go" : Str) = true ∧ ("go" : Str).length ≤ 8) ∧ (nameB ("none" : Str) = true ∧ ("none" : Str).length ≤ 8) ∧ (nameB ("s" : Str) = true ∧ ("s" : Str).length ≤ 8) ∧ (nameB ("come" : Str) = true ∧ ("come" : Str).length ≤ 8) ∧ (nameB ("x" : Str) = true ∧ ("x" : Str).length ≤ 8) := by decide +kernel
def spLD : Sp := fun vs H Q _ => ∃ (p c : Addr) (ns : List Int) (n : Nat) (z : Int), vs = [.ref p] ∧ PenAt H p c ns n z ∧ n + 20 < 100000 ∧ ∀ (t : Addr) (d : Dd) (n' : Nat) (z' : Int) (H' : Hp), GoodD d → H' t = some (.tup (partsV d)) → n' ≤ n + 3 → PenAt H' p c ns n' z' → But p H H' → Q (.ref t) H'
def spLM (a : DAd) : Sp := fun vs H Q _ => ∃ (t : Addr) (d : Dd), vs = [.ref t] ∧ H t = some (.tup (partsV d)) ∧ GoodD d ∧ ∀ k H', Same H H' → DeedAt a H' k d → Q (.ref k) H'
def spSoL : Sp := fun vs H Q _ => ∃ (p c : Addr) (ns : List Int) (n : Nat) (z : Int) (top : Nat), vs = [.ref p, .int (top : Nat)] ∧ PenAt H p c ns n z ∧ n + 100 < 100000 ∧ top ≤ 10 ∧ ∀ (sl : Addr) (ts : List Addr) (ds : List Dd) (n' : Nat) (z' : Int) (H' : Hp), H' sl = some (.lst (ts.map V.ref)) → sl ≠ p → PartsAt H' ts ds → (∀ d ∈ ds, GoodD d) → ds.length ≤ top → n' ≤ n + 1 + 3 * top → PenAt H' p c ns n' z' → But p H H' → Q (.ref sl) H'
def spLC (a : DAd) : Sp := fun vs H Q _ => ∃ (l : Addr) (ks : List Addr) (ds : List Dd), vs = [.ref l] ∧ H l = some (.lst (ks.map V.ref)) ∧ DeedsAt a H ks ds ∧ ks.length ≤ 3 ∧ ∀ r H', Same H H' → RowAt a H' r ks → Q (.ref r) H'
def spLL : Sp := fun vs H Q _ => ∃ (l : Addr) (ts : List Addr) (ds : List Dd), vs = [.ref l] ∧ H l = some (.lst (ts.map V.ref)) ∧ PartsAt H ts ds ∧ (∀ d ∈ ds, GoodD d) ∧ ts.length ≤ 100 ∧ ∀ H', Same H H' → Q (.str (rowText ds)) H'
theorem PartsAt.get {H : Hp} {ts : List Addr} {ds : List Dd} (h : PartsAt H ts ds) {i : Nat} {v : V} (e : (ts.map V.ref)[i]? = some v) : ∃ t d, v = .ref t ∧ ts[i]? = some t ∧ ds[i]? = some d ∧ H t = some (.tup (partsV d)) := by
  rw [List.getElem?_map] at e
  obtain ⟨t, ht, rfl⟩ := Option.map_eq_some_iff.mp e
  have hi : i < ts.length := (List.getElem?_eq_some_iff.mp ht).1
  have hd : i < ds.length := by rw [← h.len]; exact hi
  exact ⟨t, ds[i], rfl, ht, List.getElem?_eq_getElem hd, h.at_ i t _ ht (List.getElem?_eq_getElem hd)⟩
theorem PartsAt.but {H H' : Hp} {p c : Addr} {ns : List Int} {n : Nat} {z : Int} {ts : List Addr} {ds : List Dd} (h : PartsAt H ts ds) (P : PenAt H p c ns n z) (s : But p H H') : PartsAt H' ts ds := h.mono fun k xs e => s _ _ (fun q => by rw [q, P.pen] at e; cases e) e
section
variable {P : Program} {w : World} {K : PySem.W.Frag} {mg : Str → Option Value} {base : Heap} {a : DAd} {CN : Addr}
abbrev nLD : List Str := ["_law_pen_here", "_law_thing", "_law_place"]
theorem scLD : FnScope nLD ["_law_pen_here"] (defScope sLD) := ⟨rfl, rfl, rfl, by decide +kernel, rfl, by decide +kernel, by decide +kernel⟩
theorem ok_LD {f fDr fPi : Addr} {fd fdDr fdPi : FuncData} (F : Fun K "_law_deed" "_law_deed" sLD f fd) (Nn : Nm mg) (F_draw : Fun K "_law_draw" "_law_draw" sDraw fDr fdDr) (g_draw : mg "_law_draw" = some (.ref fDr)) (F_pick : Fun K "_law_pick" "_law_pick" sPick fPi fdPi) (g_pick : mg "_law_pick" = some (.ref fPi)) : FnOk P w K mg base CX0 3 f fd ["_law_pen_here"] spLD := by
  have G_draw : FnOk P w K mg base CX0 1 fDr fdDr ["_law_pen_here", "_law_many"] spDraw := ok_draw F_draw Nn
  have b_draw : Binds K fdDr ["_law_pen_here", "_law_many"] [] := F_draw.binds fun _ _ _ _ _ _ us hl => match us, hl with | [_, _], _ => rfl
  have G_pick : FnOk P w K mg base CX0 2 fPi fdPi ["_law_pen_here", "_law_some_here"] (spPick K) := ok_pick F_pick Nn F_draw g_draw
  have b_pick : Binds K fdPi ["_law_pen_here", "_law_some_here"] [] := F_pick.binds fun _ _ _ _ _ _ us hl => match us, hl with | [_, _], _ => rfl
  refine F.ok scLD (fun vs H Q E h => ?_) (fun cdv A outer s H vs Q E hr h => ?_)
  · obtain ⟨p, c, ns, n, z, rfl, _⟩ := h
    rfl
  · obtain ⟨p, c, ns, n, z, rfl, hp, hn, q⟩ := h
    have hr2 : Room 2 _ := hr
    have hr1 := hr2.mono (show 1 ≤ 2 by decide)
    refine ⟨_, (pss_cons (ps_par (i := 1) (j := 2) (by rfl) scLD.nd rfl rfl (by decide) rfl rfl (pa_cons (pe_call G_pick hr2 (by rfl) g_pick F_pick.kp b_pick .nil pass0 (pa_cons (pv 0) (pa_cons (pe_lst (pa_cons pe_str (pa_cons pe_str (pa_cons pe_str (pa_cons pe_str pa_nil))))) pa_nil))) (pa_cons (pe_call G_pick hr2 (by rfl) g_pick F_pick.kp b_pick .nil pass0 (pa_cons (pv 0) (pa_cons (pe_lst (pa_cons pe_str (pa_cons pe_str (pa_cons pe_str pa_nil)))) pa_nil))) pa_nil)) (by rfl))
    (pss_one (ps_ret (pe_ifExp (pt_cmpR op_eq (pe_call G_draw hr1 (by rfl) g_draw F_draw.kp b_draw .nil pass0 (pa_cons (pv 0) (pa_cons pe_int pa_nil))) pe_int (nomark _)) (pe_tup (pa_cons pe_str (pa_cons (pv 1) pa_nil))) (pe_tup (pa_cons pe_str (pa_cons (pv 1) (pa_cons (pv 2) pa_nil)))))))), ?_⟩
    have sz := sizeLine_eq
    have big : ∀ i : Int, 0 ≤ i → i ≤ 100 → i.natAbs < 2 ^ 1000 := fun i h0 h1 => Nat.lt_of_le_of_lt (show i.natAbs ≤ 100 by omega) (by decide +kernel)
    obtain ⟨na, nb, ng, nn, nS, nc, _⟩ := lawnames
    refine ⟨_, rfl, by show (4 : Nat) ≤ sizeLine; omega, fun L hL => ?_⟩
    have nL : L ≠ p := fun e => hp.some (e ▸ hL)
    refine ⟨p, c, L, ns, n, z, _, rfl, hp.same (Same.of_new hL), by omega, nL, SqL.of upd_same, by show 0 < 4; decide, by show 4 < 1000; decide, fun x n1 z1 H1 hx hn1 hp1 s1 => ?_⟩
    have b1 : But p H H1 := (Same.but p (Same.of_new hL)).trans s1
    refine ⟨_, rfl, by show (3 : Nat) ≤ sizeLine; omega, fun M hM => ?_⟩
    have nM : M ≠ p := fun e => hp1.some (e ▸ hM)
    refine ⟨p, c, M, ns, n1, z1, _, rfl, hp1.same (Same.of_new hM), by omega, nM, SqL.of upd_same, by show 0 < 3; decide, by show 3 < 1000; decide, fun y n2 z2 H2 hy hn2 hp2 s2 => ⟨_, _, rfl, ?_⟩⟩
    have b2 := b1.trans ((Same.but p (Same.of_new hM)).trans s2)
    have gx : ∃ u : Str, x = .str u ∧ nameB u = true ∧ u.length ≤ 8 := by
      simp only [List.mem_cons, List.not_mem_nil, or_false] at hx
      rcases hx with rfl | rfl | rfl | rfl
      · exact ⟨_, rfl, na⟩
      · exact ⟨_, rfl, nb⟩
      · exact ⟨_, rfl, ng⟩
      · exact ⟨_, rfl, nn⟩
    have gy : ∃ u : Str, y = .str u ∧ nameB u = true ∧ u.length ≤ 8 := by
      simp only [List.mem_cons, List.not_mem_nil, or_false] at hy
      rcases hy with rfl | rfl | rfl
      · exact ⟨_, rfl, nS⟩
      · exact ⟨_, rfl, nc⟩
      · exact ⟨_, rfl, nb⟩
    obtain ⟨u, rfl, gu⟩ := gx
    obtain ⟨v, rfl, gv⟩ := gy
    refine ⟨_, rfl, p, c, ns, n2, z2, 2, rfl, hp2, by omega, by decide, big 2 (by decide) (by decide), fun d n3 z3 H3 d0 d1 hn3 hp3 s3 => ⟨rfl, _, rfl, ?_⟩⟩
    have b3 := b2.trans s3
    refine ite2 (fun _ => ?_) (fun _ => ?_)
    · refine ⟨_, rfl, by show (2 : Nat) ≤ sizeLine; omega, fun t ht => ?_⟩
      have st := Same.of_new (o := .tup [.str "come", .str u]) ht
      exact q t (u, none) n3 z3 _ ⟨gu, fun b e => by cases e⟩ upd_same (by omega) (hp3.same st) (b3.trans (Same.but p st))
    · refine ⟨_, rfl, _, rfl, by show (3 : Nat) ≤ sizeLine; omega, fun t ht => ?_⟩
      have st := Same.of_new (o := .tup [.str "go", .str u, .str v]) ht
      exact q t (u, some v) n3 z3 _ ⟨gu, fun b e => by cases e; exact gv⟩ upd_same (by omega) (hp3.same st) (b3.trans (Same.but p st))
abbrev nLM : List Str := ["_law_parts_so"]
theorem scLM : FnScope nLM ["_law_parts_so"] (defScope sLM) := ⟨rfl, rfl, rfl, by decide +kernel, rfl, by decide +kernel, by decide +kernel⟩
theorem cg_words : decide (V.str "come" = V.str "come") = true ∧ decide (V.str "go" = V.str "come") = false := by decide +kernel
theorem ok_LM {f : Addr} {fd : FuncData} (R : RX P w K mg base a CN) (F : Fun K "_law_made" "_law_made" sLM f fd) : FnOk P w K mg base (L2.CX P w) 6 f fd ["_law_parts_so"] (spLM a) := by
  refine F.okX scLM (fun vs H Q E h => ?_) (fun cdv A outer s H vs Q E hr h => ?_)
  · obtain ⟨t, d, rfl, _⟩ := h
    rfl
  · obtain ⟨t, ⟨z, o⟩, rfl, et, ⟨gz, gb⟩, q⟩ := h
    have hr5 : Room 5 _ := hr
    refine ⟨_, (pss_one (ps_ret (pe_ifExp (pt_cmpR op_eq (pe_ix ix_tup (pv 0) pe_int (fun _ _ => rfl)) pe_str (nomark _)) (StX.pe_makeR R.mkC R.come0 hr5 (by rfl) R.R.gC (passes_call (takes_of rfl rfl rfl rfl) (fun _ _ _ _ h => h)) (pa_cons (pe_ix ix_tup (pv 0) pe_int (fun _ _ => rfl)) pa_nil)) (StX.pe_makeR R.mkG R.go0 hr5 (by rfl) R.R.gG (passes_call (takes_of rfl rfl rfl rfl) (fun _ _ _ _ h => h)) (pa_cons (pe_ix ix_tup (pv 0) pe_int (fun _ _ => rfl)) (pa_cons (pe_ix ix_tup (pv 0) pe_int (fun _ _ => rfl)) pa_nil)))))), ?_⟩
    cases o with
    | none =>
      have et : H t = some (.tup [.str "come", .str z]) := et
      refine ⟨_, rfl, t, _, 0, _, rfl, rfl, SqT.of et, atI_nat (j := 0) rfl, rfl, _, rfl, ?_⟩
      refine ite2 (fun _ => ?_) (fun c => absurd cg_words.1 c)
      refine ⟨_, rfl, t, _, 1, _, rfl, rfl, SqT.of et, atI_nat (j := 1) rfl, fun z1 dz h1 h2 nd => ?_⟩
      exact ⟨z1, dz, _, rfl, upd_same, .inl ⟨z, ⟨rfl, Nat.le_trans gz.2 (by decide), gz.1⟩, fun H' bt ca => ⟨rfl, q z1 H' (made_same h1 h2 bt) (.inl ⟨rfl, ca⟩)⟩⟩⟩
    | some b =>
      obtain ⟨gb1, gb2⟩ := gb b rfl
      have et : H t = some (.tup [.str "go", .str z, .str b]) := et
      refine ⟨_, rfl, t, _, 0, _, rfl, rfl, SqT.of et, atI_nat (j := 0) rfl, rfl, _, rfl, ?_⟩
      refine ite2 (fun c => absurd c (by rw [cg_words.2]; decide)) (fun _ => ?_)
      refine ⟨_, rfl, t, _, 1, _, rfl, rfl, SqT.of et, atI_nat (j := 1) rfl, _, rfl, t, _, 2, _, rfl, rfl, SqT.of et, atI_nat (j := 2) rfl, fun z1 dz h1 h2 nd => ?_⟩
      exact ⟨z1, dz, _, _, rfl, upd_same, .inl ⟨z, b, ⟨rfl, Nat.le_trans gz.2 (by decide), gz.1⟩, ⟨rfl, Nat.le_trans gb2 (by decide), gb1⟩, fun H' bt ca => ⟨rfl, q z1 H' (made_same h1 h2 bt) (.inr ⟨b, rfl, ca⟩)⟩⟩⟩
abbrev nSo : List Str := ["_law_pen_here", "_law_top", "_law_k"]
theorem scSo : FnScope nSo ["_law_pen_here", "_law_top"] (defScope sSo) := ⟨rfl, rfl, rfl, by decide +kernel, rfl, by decide +kernel, by decide +kernel⟩
theorem ok_So {f fDr fLD : Addr} {fd fdDr fdLD : FuncData} (F : Fun K "_law_some" "_law_some" sSo f fd) (Nn : Nm mg) (n_range : mg "range" = none) (F_draw : Fun K "_law_draw" "_law_draw" sDraw fDr fdDr) (g_draw : mg "_law_draw" = some (.ref fDr)) (F_deed : Fun K "_law_deed" "_law_deed" sLD fLD fdLD) (g_deed : mg "_law_deed" = some (.ref fLD)) (G_deed : FnOk P w K mg base CX0 3 fLD fdLD ["_law_pen_here"] spLD) : FnOk P w K mg base CX0 4 f fd ["_law_pen_here", "_law_top"] spSoL := by
  have G_draw : FnOk P w K mg base CX0 1 fDr fdDr ["_law_pen_here", "_law_many"] spDraw := ok_draw F_draw Nn
  have b_draw : Binds K fdDr ["_law_pen_here", "_law_many"] [] := F_draw.binds fun _ _ _ _ _ _ us hl => match us, hl with | [_, _], _ => rfl
  have b_deed : Binds K fdLD ["_law_pen_here"] [] := F_deed.binds fun _ _ _ _ _ _ us hl => match us, hl with | [_], _ => rfl
  refine F.ok scSo (fun vs H Q E h => ?_) (fun cdv A outer s H vs Q E hr h => ?_)
  · obtain ⟨p, c, ns, n, z, top, rfl, _⟩ := h
    rfl
  · obtain ⟨p, c, ns, n, z, top, rfl, hp, hn, ht, q⟩ := h
    have hr3 : Room 3 _ := hr
    have hr1 := hr3.mono (show 1 ≤ 3 by decide)
    refine ⟨_, (pss_one (ps_ret (pe_lc (own := [("_law_k", 2)]) (by rfl) scSo.nd (pi_range1 rfl n_range (pa_cons (pe_call G_draw hr1 (by rfl) g_draw F_draw.kp b_draw .nil pass0 (pa_cons (pv 0) (pa_cons (pe_op op_add (pv 1) pe_int) pa_nil))) pa_nil)) (blkOk_by (own := [("_law_k", 2)]) (N := nSo) (sc := defScope sSo) (by decide +kernel)) (fun _ _ _ _ _ => (pg_name (i := 2) scSo.nd rfl (Or.inl rfl))) (fun _ _ _ _ _ => pts_nil) (fun _ _ _ _ _ => (pe_call G_deed hr3 (by rfl) g_deed F_deed.kp b_deed .nil pass0 (pa_cons (pv 0) pa_nil)))))), ?_⟩
    have sz := sizeLine_eq
    have big : ∀ i : Int, 0 ≤ i → i ≤ 100 → i.natAbs < 2 ^ 1000 := fun i h0 h1 => Nat.lt_of_le_of_lt (show i.natAbs ≤ 100 by omega) (by decide +kernel)
    refine ⟨_, rfl, _, rfl, _, _, rfl, rfl, p, c, ns, n, z, (top : Int) + 1, rfl, hp, by omega, by omega, big _ (by omega) (by omega), fun m n1 z1 H1 m0 m1 hn1 hp1 s1 => ?_⟩
    obtain ⟨mk, rfl⟩ := Int.eq_ofNat_of_zero_le m0
    refine ⟨mk, rfl, by omega, by omega, fun L hL => ?_⟩
    have nL : L ≠ p := fun e => hp1.some (e ▸ hL)
    have ncL : c ≠ L := ne_of_none hp1.cells hL
    have sL := Same.of_new (o := .lst []) hL
    refine lc_it walk_range (fun i Hx => ∃ (ts : List Addr) (ds : List Dd) (n' : Nat) (z' : Int), Hx L = some (.lst (ts.map V.ref)) ∧ PartsAt Hx ts ds ∧ (∀ d ∈ ds, GoodD d) ∧ ds.length = i ∧ PenAt Hx p c ns n' z' ∧ n' ≤ n1 + 3 * i ∧ But p H1 Hx) ⟨[], [], n1, z1, upd_same, ⟨rfl, fun i t d e => by cases e⟩, (fun d h => by cases h), rfl, hp1.same sL, by omega, Same.but p sL⟩ (fun _ _ _ _ => True.intro) (fun i x Hx Hy hi q0 y => ?_) (fun Hx q0 => ?_)
    · obtain ⟨ts, ds, n', z', eL, pt, gd, ld, pn, ln, bt⟩ := q0
      obtain ⟨rfl, ey⟩ := y
      rw [Int.toNat_natCast] at hi
      refine ⟨rfl, ?_⟩
      refine ⟨_, rfl, p, c, ns, n', z', rfl, pn, by omega, fun t d n2 z2 H2 g2 et hn2 hp2 s2 => ?_⟩
      have eL2 := s2 _ _ nL eL
      have pt2 := pt.but pn s2
      have keep : ∀ k xs, H2 k = some (.tup xs) → upd H2 L (.lst (ts.map V.ref ++ [V.ref t])) k = some (.tup xs) := fun k xs e => by
        rw [upd_ne (fun q => by rw [q, eL2] at e; cases e)]
        exact e
      have lt : ts.length = i := by rw [pt.len, ld]
      refine ⟨_, eL2, by rw [List.length_map]; omega, ts ++ [t], ds ++ [d], n2, z2, ?_, (pt2.mono keep).snoc (keep _ _ et), fun e he => ?_, by rw [List.length_append, ld]; rfl, hp2.put (Ne.symm nL) ncL, by omega, fun b o nb e => ?_⟩
      · rw [List.map_append]
        exact upd_same
      · rcases List.mem_append.mp he with h | h
        · exact gd e h
        · rw [List.mem_singleton.mp h]
          exact g2
      · rw [upd_ne (ne_of_none e hL)]
        exact s2 b o nb (bt b o nb e)
    · obtain ⟨ts, ds, n', z', eL, pt, gd, ld, pn, ln, bt⟩ := q0
      rw [Int.toNat_natCast] at ld ln
      exact q L ts ds n' z' Hx eL nL pt gd (by omega) (by omega) pn (s1.trans bt)
abbrev nLC : List Str := ["_law_deeds_so"]
theorem scLC : FnScope nLC ["_law_deeds_so"] (defScope sLC) := ⟨rfl, rfl, rfl, by decide +kernel, rfl, by decide +kernel, by decide +kernel⟩
theorem ok_LC {f : Addr} {fd : FuncData} (R : RW P w K mg base a) (F : Fun K "_law_called" "_law_called" sLC f fd) (n_len : mg "len" = none) : FnOk P w K mg base (L2.CX P w) 6 f fd ["_law_deeds_so"] (spLC a) := by
  refine F.okX scLC (fun vs H Q E h => ?_) (fun cdv A outer s H vs Q E hr h => ?_)
  · obtain ⟨l, ks, ds, rfl, _⟩ := h
    rfl
  · obtain ⟨l, ks, ds, rfl, el, hd, l3, q⟩ := h
    have hr5 : Room 5 _ := hr
    refine ⟨_, (pss_cons (ps_if (pt_cmpR op_eq (pe_callB call_len_seq (by rfl) n_len boot_len (pa_cons (pv 0) pa_nil)) pe_int (nomark _)) (pss_one (ps_ret (OwR.pe_makeR0 R.mkR R.row0 hr5 (by rfl) R.gR (passes_call (takes_of rfl rfl rfl rfl) (fun _ _ _ _ h => h))))) pss_nil)
    (pss_cons (ps_if (pt_cmpR op_eq (pe_callB call_len_seq (by rfl) n_len boot_len (pa_cons (pv 0) pa_nil)) pe_int (nomark _)) (pss_one (ps_ret (StX.pe_makeR R.mkR R.row0 hr5 (by rfl) R.gR (passes_call (takes_of rfl rfl rfl rfl) (fun _ _ _ _ h => h)) (pa_cons (pe_ix ix_list (pv 0) pe_int (fun _ _ => rfl)) pa_nil)))) pss_nil)
    (pss_one (ps_ret (pe_ifExp (pt_cmpR op_eq (pe_callB call_len_seq (by rfl) n_len boot_len (pa_cons (pv 0) pa_nil)) pe_int (nomark _)) (StX.pe_makeR R.mkR R.row0 hr5 (by rfl) R.gR (passes_call (takes_of rfl rfl rfl rfl) (fun _ _ _ _ h => h)) (pa_cons (pe_ix ix_list (pv 0) pe_int (fun _ _ => rfl)) (pa_cons (pe_ix ix_list (pv 0) pe_int (fun _ _ => rfl)) pa_nil))) (StX.pe_makeR R.mkR R.row0 hr5 (by rfl) R.gR (passes_call (takes_of rfl rfl rfl rfl) (fun _ _ _ _ h => h)) (pa_cons (pe_ix ix_list (pv 0) pe_int (fun _ _ => rfl)) (pa_cons (pe_ix ix_list (pv 0) pe_int (fun _ _ => rfl)) (pa_cons (pe_ix ix_list (pv 0) pe_int (fun _ _ => rfl)) pa_nil))))))))), ?_⟩
    have made : RowMade K a H (ks.map V.ref) Q E := ⟨by rw [List.length_map]; omega, .inl ⟨ks, ds, rfl, hd, fun z2 H2 _ s2 r => q z2 H2 s2 r⟩⟩
    have ll : (((ks.map V.ref).length : Nat) : Int) = (ks.length : Nat) := by rw [List.length_map]
    refine ⟨_, rfl, l, _, rfl, .inl (SqL.of el), rfl, _, rfl, ?_⟩
    rw [ll]
    match ks, l3, made, el with
    | [], _, made, el =>
      refine iteT ?_
      exact fun z dz h1 h2 nd => ⟨z, dz, _, rfl, upd_same, made_row made h1 h2⟩
    | [k1], _, made, el =>
      refine iteF ?_
      refine ⟨_, rfl, l, _, rfl, .inl (SqL.of el), rfl, _, rfl, ?_⟩
      refine iteT ?_
      exact ⟨_, rfl, l, _, 0, _, rfl, rfl, SqL.of el, atI_nat (j := 0) rfl, fun z dz h1 h2 nd => ⟨z, dz, _, rfl, upd_same, made_row made h1 h2⟩⟩
    | [k1, k2], _, made, el =>
      refine iteF ?_
      refine ⟨_, rfl, l, _, rfl, .inl (SqL.of el), rfl, _, rfl, ?_⟩
      refine iteF ?_
      refine ⟨_, rfl, l, _, rfl, .inl (SqL.of el), rfl, _, rfl, ?_⟩
      refine iteT ?_
      exact ⟨_, rfl, l, _, 0, _, rfl, rfl, SqL.of el, atI_nat (j := 0) rfl, _, rfl, l, _, 1, _, rfl, rfl, SqL.of el, atI_nat (j := 1) rfl, fun z dz h1 h2 nd => ⟨z, dz, _, rfl, upd_same, made_row made h1 h2⟩⟩
    | [k1, k2, k3], _, made, el =>
      refine iteF ?_
      refine ⟨_, rfl, l, _, rfl, .inl (SqL.of el), rfl, _, rfl, ?_⟩
      refine iteF ?_
      refine ⟨_, rfl, l, _, rfl, .inl (SqL.of el), rfl, _, rfl, ?_⟩
      refine iteF ?_
      exact ⟨_, rfl, l, _, 0, _, rfl, rfl, SqL.of el, atI_nat (j := 0) rfl, _, rfl, l, _, 1, _, rfl, rfl, SqL.of el, atI_nat (j := 1) rfl, _, rfl, l, _, 2, _, rfl, rfl, SqL.of el, atI_nat (j := 2) rfl, fun z dz h1 h2 nd => ⟨z, dz, _, rfl, upd_same, made_row made h1 h2⟩⟩
    | _ :: _ :: _ :: _ :: _, l3, _, _ => exact absurd l3 (by simp)
end
end K10
end
section
set_option pp.maxSteps 400
set_option pp.deepTerms.threshold 6
namespace K10
open PySem PySem.Spec PyProof.Rows L2
abbrev sHeard : Stmt := top 27
abbrev nH : List Str := ["_law_ask", "error"]
theorem scH : FnScope nH ["_law_ask"] (defScope sHeard) := ⟨rfl, rfl, rfl, by decide +kernel, rfl, by decide +kernel, by decide +kernel⟩
def rListOf (K : PySem.W.Frag) : List V → Hp → VK → Prop := fun xs H Q => ∃ p ys, xs = [.ref p] ∧ (SqL K H p ys ∨ SqT K H p ys) ∧ ∀ l, H l = none → Q (.ref l) (upd H l (.lst ys))
theorem call_listK {X : Cx} {K : PySem.W.Frag} (hK : X.K = K) : CallR X (.type "list") (rListOf K) := by
  subst hK
  exact call_list_of
def tJn (K : PySem.W.Frag) (to te : TE) : TE := tM1 (fun x xs H Q => ∃ a p, ∃ ys : List Str, x = .str a ∧ xs = [.ref p] ∧ (SqL K H p (ys.map V.str) ∨ SqT K H p (ys.map V.str)) ∧ (ys.map (·.length)).sum + ys.length * a.length ≤ 16777216 ∧ Q (.str (Txt.join a ys)) H) to te
theorem pe_joinK {X : Cx} {K : PySem.W.Frag} {o e : Expr} {to te : TE} {apos pos : Pos} (hK : X.K = K) (ho : PE X o to) (he : PE X e te) (hs : starEach [e] X.env = [(false, eval e X.env)] := by rfl) (hbase : attributeBase o "join" X.env (eval o X.env) = eval o X.env := by rfl) (hline : (apos.endLine == pos.line) = true := by rfl) : PE X (.Call (.Attribute o "join" apos) [e] [] pos) (tJn K to te) := by
  subst hK
  exact pe_join ho he hs hbase hline
def wordsP (d : Dd) : List Str := match d.2 with
  | none => ["come", d.1]
  | some b => ["go", d.1, b]
theorem partsV_words (d : Dd) : partsV d = (wordsP d).map V.str := by
  obtain ⟨z, o⟩ := d
  cases o <;> rfl
theorem app_str (a b : Str) : TL.tl (a ++ b) = TL.tl a ++ TL.tl b := TL.tl_append a b
theorem words_text (d : Dd) : Txt.join " " (wordsP d) = deedText d := by
  obtain ⟨z, o⟩ := d
  rw [TL.join_eq]
  cases o with
  | none =>
    show ("come" ++ " " ++ z : Str) = "come " ++ z
    exact congrArg (· ++ z) (by decide +kernel)
  | some b =>
    show ("go" ++ " " ++ (z ++ " " ++ b) : Str) = (("go " ++ z) ++ " ") ++ b
    rw [← TL.mk_tl ("go" ++ " " ++ (z ++ " " ++ b) : Str), ← TL.mk_tl ((("go " ++ z) ++ " ") ++ b : Str)]
    congr 2
    have e : TL.tl ("go " : Str) = TL.tl ("go" : Str) ++ TL.tl (" " : Str) := by decide +kernel
    simp only [app_str, e, List.append_assoc]
/-- what the law's ear makes of a refusal -/
def TTh (K : PySem.W.Frag) (CB : Addr) : (XK → Hp → VK → Prop) → Hp → VK → Prop := fun tl H Q =>
  tl (fun cls d H' => ∃ (dd : Addr) (v : V) (r : Str), cls = .ref CB ∧ d = some dd ∧ H' dd = some (.xd [("at", v)]) ∧ OwE.RepV K H' v r ∧ ∀ t, H' t = none → Q (.ref t) (upd H' t (.tup [.str "deed", .str r]))) H (fun _ H' => Q .non H')
structure EarC (K : PySem.W.Frag) (mg : Str → Option Value) (CB CN : Addr) : Prop where
  e : OwE.ErrC K CB
  v : PySem.W.findIn K (.ref CB) "at" = some none
  gB : mg "BadDeed" = some (.ref CB)
  gN : mg "NextError" = some (.ref CN)
  sub : PySem.W.exmOne K (.ref CB) (.ref CN) = some true
  kit : PySem.W.kitOne K (.ref CB) (.ref CB) = some true
theorem heard_gives {X : Cx} {g CB CN : Addr} {cdg : Value} {q : Str} {k : Nat} (hgd : X.A.guards = some []) (hr : Room (k + 1) X.A) (c : EarC X.K X.mg CB CN) (n_isi : X.mg "isinstance" = none) (n_repr : X.mg "repr" = none) :
    LamX.GivesTo X nH "_law_heard" (defScope sHeard) g cdg (defBody sHeard) "_law_ask" q (TTh X.K CB) := by
  intro f c' s H Q tl act hc h
  have hr2 := hr.deeper (envOfC "_law_heard" (defScope sHeard) s.heap.objs.size g cdg)
  have hu : (X.A.deeper (envOfC "_law_heard" (defScope sHeard) s.heap.objs.size g cdg)).units + 70 < cLine := by
    have := hr2.un
    omega
  have sz := sizeLine_eq
  refine ⟨_, pss_cons (ps_try_as (X := (cxOf C8.CX0 X.prog X.w X.K X.mg X.base nH "_law_heard" (defScope sHeard) g cdg X.A X.stack s H C8.E0).nox) (i := 1) (c := .ref CN)
      (tb := fun W D σ H => ∃ Ech : XK, (∀ cls d σ' H', Ech cls d H' → σ'.length = 2 → W cls d σ' H') ∧ σ[0]? = some (some (.ref f)) ∧ H c' = some (LamX.CodeO c' q) ∧ tl Ech H (fun _ H' => D.nx σ H'))
      rfl rfl scH.nd rfl rfl ⟨rfl, by decide, .inl c.gN⟩ LamX.takes0 (fun W pn xe tk _ => ?_)
      (fun a oe cls d pn hz hf => pss_one (ps_ret (pe_ifExp (pt_val (pe_callB (OwE.call_isE hz hf) (by rfl) n_isi (by decide +kernel) (pa_cons (pv 1) (pa_cons (pe_glob (v := .ref CB) rfl c.gB rfl) pa_nil))))
        (pe_tup (pa_cons pe_str (pa_cons (pe_callB (id := "repr") (r := OwE.rRepr X.K) (OwE.cr_repr (X := Cx.suite (cxOf C8.CX0 X.prog X.w X.K X.mg X.base nH "_law_heard" (defScope sHeard) g cdg X.A X.stack s H C8.E0).nox a ((a, oe) :: pn)) hgd hu) (by rfl) n_repr (by decide +kernel) (pa_cons (OwE.pe_xe hz hf (pv 1)) pa_nil)) pa_nil))) (pe_tup (pa_cons pe_str pa_nil))))))
    (pss_one (ps_ret pe_non)), ?_⟩
  · refine ⟨fun pins s' σ H' D I h' => ?_⟩
    obtain ⟨Ech, hW, h1, h2, h3⟩ := h'
    exact (pss_one (ps_expr (act (fun c d σ H => σ.length = 2 → W c d σ H) pn xe Ech _ _ (OwE.takes_len tk) hW))).run pins s' σ H' D I ⟨h1, h2, h3⟩
  · refine ⟨fun cls d H' => ∃ (dd : Addr) (v : V) (r : Str), cls = .ref CB ∧ d = some dd ∧ H' dd = some (.xd [("at", v)]) ∧ OwE.RepV X.K H' v r ∧ ∀ t, H' t = none → Q (.ref t) (upd H' t (.tup [.str "deed", .str r])), ?_, rfl, hc, h⟩
    rintro cls d σ' H' ⟨dd, v, r, rfl, rfl, e, rep, q⟩ hl
    refine ⟨true, c.sub, fun _ a na => ?_, fun q => by cases q⟩
    have h1 := OwE.set_get (i := 1) (v := some (.ref a)) hl (by decide)
    refine ⟨_, h1, .ref CB, .ref CB, CB, dd, _, true, rfl, .own CB, rfl, c.e, rfl, e, c.kit, true, rfl, iteT ?_⟩
    exact ⟨_, h1, rfl, CB, dd, _, v, rfl, c.e, c.v, rfl, e, rfl, v, r, rfl, rep, by show (2 : Nat) ≤ sizeLine; omega, fun t ht => q t ht⟩
end K10
end
section
set_option pp.maxSteps 400
set_option pp.deepTerms.threshold 6
/-! The parts of deeds as data. -/
namespace K10
open PySem PySem.Spec PyProof.Rows L2
def partsD (d : Dd) : PyData := .tuple ((wordsP d).map PyData.str)
theorem words_good {d : Dd} (h : GoodD d) : ∀ z ∈ wordsP d, nameB z = true ∧ z.length ≤ 8 := by
  obtain ⟨z, o⟩ := d
  obtain ⟨_, _, ng, _, _, nc, _⟩ := lawnames
  obtain ⟨h1, h2⟩ := h
  intro y hy
  cases o with
  | none =>
    simp only [wordsP, List.mem_cons, List.not_mem_nil, or_false] at hy
    rcases hy with rfl | rfl
    · exact nc
    · exact h1
  | some b =>
    simp only [wordsP, List.mem_cons, List.not_mem_nil, or_false] at hy
    rcases hy with rfl | rfl | rfl
    · exact ng
    · exact h1
    · exact h2 _ rfl
theorem words_len (d : Dd) : (wordsP d).length ≤ 3 := by
  obtain ⟨z, o⟩ := d
  cases o <;> simp [wordsP]
theorem words_lay : ∀ zs : List Str, (∀ z ∈ zs, nameB z = true) → PyData.canLayAll0 (zs.map PyData.str) = true
  | [], _ => by simp [PyData.canLayAll0]
  | z :: r, h => by
    rw [List.map_cons, PyData.canLayAll0, PyData.canLay0, name_strOk (h z List.mem_cons_self), words_lay r fun y hy => h y (List.mem_cons_of_mem _ hy)]
    rfl
theorem partsD_ok {d : Dd} (h : GoodD d) : (partsD d).canLay0 = true ∧ (partsD d).depth ≤ 1 := by
  have l := words_lay (wordsP d) fun z hz => (words_good h z hz).1
  have dd := OwD.deps (f := PyData.str) (k := 0) (wordsP d) fun q _ => by simp [PyData.depth]
  refine ⟨by simp [partsD, PyData.canLay0, l], ?_⟩
  simp only [partsD, PyData.depth]
  omega
theorem parts_shaped {ds : List Dd} (h : ∀ d ∈ ds, GoodD d) : SeqAt.shaped (.list (ds.map partsD)) = true ∧ SeqAt.shaped (.tuple (ds.map partsD)) = true :=
  ⟨OwD.shaped_lst (k := 1) (by decide) (fun d hd => (partsD_ok (h d hd)).1) (fun d hd => (partsD_ok (h d hd)).2), OwD.shaped_tup (k := 1) (by decide) (fun d hd => (partsD_ok (h d hd)).1) (fun d hd => (partsD_ok (h d hd)).2)⟩
theorem strs_eqv : ∀ a b : List Str, PyData.eqvAll (a.map PyData.str) (b.map PyData.str) = decide (a = b)
  | [], [] => by simp [PyData.eqvAll]
  | [], _ :: _ => by simp [PyData.eqvAll]
  | _ :: _, [] => by simp [PyData.eqvAll]
  | x :: a, y :: b => by
    rw [List.map_cons, List.map_cons, PyData.eqvAll, strs_eqv a b]
    by_cases c : x = y
    · by_cases d : a = b
      · simp [PyData.eqv, c, d]
      · simp [PyData.eqv, c, d]
    · simp [PyData.eqv, c]
theorem words_inj {d e : Dd} (h : wordsP d = wordsP e) : d = e := by
  obtain ⟨z, o⟩ := d
  obtain ⟨y, p⟩ := e
  cases o <;> cases p <;> simp [wordsP] at h
  · rw [h]
  · rw [h.1, h.2]
theorem partsD_eqv (d e : Dd) : PyData.eqv (partsD d) (partsD e) = decide (d = e) := by
  unfold partsD
  rw [PyData.eqv, strs_eqv]
  exact decide_eq_decide.mpr ⟨words_inj, fun h => by rw [h]⟩
theorem parts_eqvA : ∀ a b : List Dd, PyData.eqvAll (a.map partsD) (b.map partsD) = decide (a = b)
  | [], [] => by simp [PyData.eqvAll]
  | [], _ :: _ => by simp [PyData.eqvAll]
  | _ :: _, [] => by simp [PyData.eqvAll]
  | x :: a, y :: b => by
    rw [List.map_cons, List.map_cons, PyData.eqvAll, parts_eqvA a b, partsD_eqv]
    by_cases c : x = y
    · by_cases d : a = b
      · simp [c, d]
      · simp [c, d]
    · simp [c]
theorem parts_eqvL (a b : List Dd) : PyData.eqv (.list (a.map partsD)) (.list (b.map partsD)) = decide (a = b) := by
  rw [PyData.eqv, parts_eqvA]
theorem parts_eqvT (a b : List Dd) : PyData.eqv (.tuple (a.map partsD)) (.tuple (b.map partsD)) = decide (a = b) := by
  rw [PyData.eqv, parts_eqvA]
theorem part_dp {K : PySem.W.Frag} {H : Hp} {t : Addr} {d : Dd} (e : H t = some (.tup (partsV d))) : Dp K H (.ref t) (partsD d) := .tup (xs := (wordsP d).map V.str) (SqT.of (by rw [e, partsV_words])) (OwD.dp_strs _)
theorem PartsAt.dp {K : PySem.W.Frag} {H : Hp} : ∀ {ts : List Addr} {ds : List Dd}, PartsAt H ts ds → DpAll K H (ts.map V.ref) (ds.map partsD)
  | [], [], _ => .nil
  | [], _ :: _, h => by cases h.len
  | _ :: _, [], h => by cases h.len
  | t :: ts, d :: ds, h => .cons (part_dp (h.at_ 0 t d rfl rfl)) (PartsAt.dp ⟨Nat.succ.inj h.len, fun i a c e1 e2 => h.at_ (i + 1) a c e1 e2⟩)
theorem words_show {zs : List Str} (h : ∀ z ∈ zs, nameB z = true ∧ z.length ≤ 8) : PyData.showableAll (zs.map PyData.str) = true ∧ PyData.hasDictAll (zs.map PyData.str) = false ∧ PyData.leavesShortAll 13 (zs.map PyData.str) = true ∧ PyData.bulkAll (zs.map PyData.str) ≤ 9 * zs.length := by
  induction zs with
  | nil => exact ⟨rfl, rfl, rfl, Nat.le_refl _⟩
  | cons z r ih =>
    obtain ⟨i1, i2, i3, i4⟩ := ih fun q hq => h q (List.mem_cons_of_mem _ hq)
    obtain ⟨o2, o3⟩ := h z List.mem_cons_self
    refine ⟨?_, ?_, ?_, ?_⟩
    · show (true && PyData.showableAll (r.map PyData.str)) = true
      rw [i1]
      rfl
    · show (false || PyData.hasDictAll (r.map PyData.str)) = false
      rw [i2]
      rfl
    · show (PyData.leavesShort 13 (.str z) && PyData.leavesShortAll 13 (r.map PyData.str)) = true
      rw [name_short o2, i3]
      rfl
    · show z.cps.size + 1 + PyData.bulkAll (r.map PyData.str) ≤ 9 * (r.length + 1)
      have : z.cps.size ≤ 8 := o3
      omega
theorem parts_show {ds : List Dd} (h : ∀ d ∈ ds, GoodD d) : PyData.showableAll (ds.map partsD) = true ∧ PyData.hasDictAll (ds.map partsD) = false ∧ PyData.leavesShortAll 13 (ds.map partsD) = true ∧ PyData.bulkAll (ds.map partsD) ≤ 28 * ds.length := by
  induction ds with
  | nil => exact ⟨rfl, rfl, rfl, Nat.le_refl _⟩
  | cons d r ih =>
    obtain ⟨i1, i2, i3, i4⟩ := ih fun q hq => h q (List.mem_cons_of_mem _ hq)
    obtain ⟨o1, o2, o3, o4⟩ := words_show (words_good (h d List.mem_cons_self))
    have o5 := words_len d
    refine ⟨?_, ?_, ?_, ?_⟩
    · show (PyData.showableAll ((wordsP d).map PyData.str) && PyData.showableAll (r.map partsD)) = true
      rw [i1, o1]
      rfl
    · show (PyData.hasDictAll ((wordsP d).map PyData.str) || PyData.hasDictAll (r.map partsD)) = false
      rw [i2, o2]
      rfl
    · show (PyData.leavesShortAll 13 ((wordsP d).map PyData.str) && PyData.leavesShortAll 13 (r.map partsD)) = true
      rw [o3, i3]
      rfl
    · show PyData.bulkAll ((wordsP d).map PyData.str) + 1 + PyData.bulkAll (r.map partsD) ≤ 28 * (r.length + 1)
      omega
/-- [parts, len] as data -/
def rowD (ds : List Dd) : PyData := .list [.tuple (ds.map partsD), .int (ds.length : Nat)]
theorem nums_ok : ∀ m : Fin 41, (((m.val : Nat) : Int)).natAbs.log2 < 1920 ∧ (PyData.shown (.int ((m.val : Nat) : Int))).length ≤ 13 := by decide +kernel
theorem row_show {ds : List Dd} (h : ∀ d ∈ ds, GoodD d) (l : ds.length ≤ 40) : (rowD ds).showable = true ∧ (rowD ds).hasDict = false ∧ (rowD ds).depth ≤ 64 ∧ (rowD ds).shown.length ≤ sizeLine := by
  obtain ⟨a1, a2, b1, b2⟩ := parts_show h
  have k := nums_ok ⟨ds.length, by omega⟩
  have k1 : (((ds.length : Nat) : Int)).natAbs.log2 < 1920 := k.1
  have k2 : (PyData.shown (.int ((ds.length : Nat) : Int))).length ≤ 13 := k.2
  refine ⟨?_, ?_, ?_, ?_⟩
  · show (PyData.showableAll (ds.map partsD) && (decide (((ds.length : Nat) : Int).natAbs.log2 < 1920) && true)) = true
    rw [a1, decide_eq_true k1]
    rfl
  · show (PyData.hasDictAll (ds.map partsD) || (false || false)) = false
    rw [a2]
    rfl
  · have := OwD.deps (f := partsD) (k := 1) ds fun q hq => (partsD_ok (h q hq)).2
    simp only [rowD, PyData.depth, PyData.depthAll]
    omega
  · refine PyData.shown_fits_bulk (B := 13) (by decide) (by decide) ?_ ?_
    · show (PyData.leavesShortAll 13 (ds.map partsD) && (decide ((PyData.shown (.int ((ds.length : Nat) : Int))).length ≤ 13) && true)) = true
      rw [b1, decide_eq_true k2]
      rfl
    · show (PyData.bulkAll (ds.map partsD) + 1 + (0 + 1 + 0)) ≤ 2 ^ 20
      omega
theorem row_rep {K : PySem.W.Frag} {H : Hp} {L p : Addr} {ts : List Addr} {ds : List Dd} (h : ∀ d ∈ ds, GoodD d) (l : ds.length ≤ 40) (eL : H L = some (.lst [.ref p, .int (ds.length : Nat)])) (ep : H p = some (.tup (ts.map V.ref))) (pt : PartsAt H ts ds) : OwE.RepV K H (.ref L) (rowD ds).shown := by
  obtain ⟨a, b, c, d⟩ := row_show h l
  exact .dat (.lst (SqL.of eL) (.cons (.tup (SqT.of ep) pt.dp) (.cons (.int _) .nil))) a b c d
end K10
end
section
set_option pp.maxSteps 400
set_option pp.deepTerms.threshold 6
namespace K10
open PySem PySem.Spec PyProof.Rows L2
theorem sum_le8 : ∀ zs : List Str, (∀ z ∈ zs, z.length ≤ 8) → (zs.map (·.length)).sum ≤ 8 * zs.length
  | [], _ => Nat.le_refl 0
  | z :: r, h => by
    have i1 := sum_le8 r fun y hy => h y (List.mem_cons_of_mem _ hy)
    have i2 := h z List.mem_cons_self
    rw [List.map_cons, List.sum_cons, List.length_cons]
    omega
theorem sum_deeds : ∀ es : List Dd, (∀ d ∈ es, SmallD d) → ((es.map deedText).map (·.length)).sum ≤ 30 * es.length
  | [], _ => Nat.le_refl 0
  | e :: r, h => by
    have i1 := sum_deeds r fun d hd => h d (List.mem_cons_of_mem _ hd)
    have i2 := deed_len (h e List.mem_cons_self)
    rw [List.map_cons, List.map_cons, List.sum_cons, List.length_cons]
    omega
section
variable {P : Program} {w : World} {K : PySem.W.Frag} {mg : Str → Option Value} {base : Heap} {a : DAd} {CN : Addr}
abbrev nLL : List Str := ["_law_some_here", "_law_parts_so"]
theorem scLL : FnScope nLL ["_law_some_here"] (defScope sLL) := ⟨rfl, rfl, rfl, by decide +kernel, rfl, by decide +kernel, by decide +kernel⟩
theorem ok_LL {f : Addr} {fd : FuncData} (F : Fun K "_law_line" "_law_line" sLL f fd) (n_list : mg "list" = none) : FnOk P w K mg base CX0 1 f fd ["_law_some_here"] spLL := by
  refine F.ok scLL (fun vs H Q E h => ?_) (fun cdv A outer s H vs Q E hr h => ?_)
  · obtain ⟨l, ts, ds, rfl, _⟩ := h
    rfl
  · obtain ⟨l, ts, ds, rfl, el, pt, gd, lt, k⟩ := h
    have hud := hr.units
    refine ⟨_, (pss_one (ps_ret (pe_ifExp (pt_cmpR (op_neD hud) (pv 0) (pe_lst pa_nil) (nomark _)) (pe_join pe_str (pe_lc (own := [("_law_parts_so", 1)]) (by rfl) scLL.nd (pi_list (pv 0)) (blkOk_by (own := [("_law_parts_so", 1)]) (N := nLL) (sc := defScope sLL) (by decide +kernel)) (fun _ _ _ _ _ => (pg_name (i := 1) scLL.nd rfl (Or.inl rfl))) (fun _ _ _ _ _ => pts_nil) (fun _ _ _ _ _ => (pe_joinK (K := K) rfl pe_str (pe_callTy (r := rListOf K) (call_listK rfl) (by rfl) n_list (by decide +kernel) (pa_cons (pv 1) pa_nil)))))) pe_str))), ?_⟩
    have sz := sizeLine_eq
    refine ⟨_, rfl, by show 0 ≤ sizeLine; decide, fun l0 hl0 => ?_⟩
    have s0 := Same.of_new (o := .lst []) hl0
    refine ⟨.list (ds.map partsD), .list [], .lst (SqL.of (s0 _ _ el)) (pt.same s0).dp, .lst (SqL.of upd_same) .nil, (parts_shaped gd).1, OwD.shaped_nil, ?_⟩
    refine ⟨_, rfl, ?_⟩
    rw [OwD.eqv_nil]
    cases ds with
    | nil =>
      refine iteF ?_
      have e : rowText ([] : List Dd) = "none" := rfl
      rw [← e]
      exact k _ s0
    | cons d0 r0 =>
      refine iteT ?_
      refine ⟨⟨_, rfl⟩, _, rfl, l, rfl, ⟨_, SqL.of (s0 _ _ el)⟩, fun D hD => ?_⟩
      refine lc_it (walk_list (xs := ts.map V.ref)) (fun i Hx => Same H Hx ∧ Hx D = some (.lst ((((d0 :: r0).take i).map deedText).map V.str))) ⟨s0.trans (Same.of_new hD), upd_same⟩ (fun i Hx _ q => SqL.of (q.1 _ _ el)) (fun i x Hx Hy hi q0 y => ?_) (fun Hx q0 => ?_)
      · obtain ⟨s1, eD⟩ := q0
        obtain ⟨rfl, hx⟩ := y
        obtain ⟨t1, d, rfl, ht1, hd1, et⟩ := (pt.same s1).get hx
        rw [List.length_map] at hi
        have gw := words_good (gd d (List.mem_of_getElem? hd1))
        have lw := words_len d
        refine ⟨rfl, ?_⟩
        refine ⟨⟨_, rfl⟩, _, rfl, t1, _, rfl, .inr (SqT.of et), fun b hb => ?_⟩
        have sb := Same.of_new (o := .lst (partsV d)) hb
        refine ⟨_, b, wordsP d, rfl, rfl, .inl (SqL.of (by rw [upd_same, partsV_words])), ?_, ?_⟩
        · have sum := sum_le8 (wordsP d) fun z hz => (gw z hz).2
          have e1 : (" " : Str).length = 1 := by decide +kernel
          rw [e1]
          omega
        rw [words_text]
        refine ⟨_, sb _ _ eD, by rw [List.length_map, List.length_map, List.length_take]; omega, fun c o e => ?_, ?_⟩
        · rw [upd_ne (ne_of_none (s0 _ _ e) hD)]
          exact sb _ _ (s1 c o e)
        · rw [List.take_add_one, hd1, List.map_append, List.map_append]
          exact upd_same
      · obtain ⟨s1, eD⟩ := q0
        rw [List.length_map, pt.len, List.take_length] at eD
        have sd := sum_deeds (d0 :: r0) fun d hd => (gd d hd).small
        have e3 : (" ; " : Str).length = 3 := by decide +kernel
        have ld := pt.len
        refine ⟨_, D, (d0 :: r0).map deedText, rfl, rfl, .inl (SqL.of eD), by rw [e3, List.length_map]; omega, ?_⟩
        have e : rowText (d0 :: r0) = Txt.join " ; " ((d0 :: r0).map deedText) := rfl
        rw [← e]
        exact k _ s1
end
end K10
end
section
set_option pp.maxSteps 400
set_option pp.deepTerms.threshold 6
/-! All that rows of deeds are known by. -/
namespace K10
open PySem PySem.Spec PyProof.Rows L2
/-- the built-in types that are asked beside rows -/
def tyRow : List String := ["NoneType", "bool", "int", "str", "tuple", "list"]
structure RK (P : Program) (w : World) (K : PySem.W.Frag) (mg : Str → Option Value) (base : Heap) (a : DAd) (CN : Addr) : Prop where
  X : RX P w K mg base a CN
  it : OwR.OwnIt K a.CR a.fIt "_deeds"
  dIt : ∃ fd, Fun K "__iter__" "Row.__iter__" sRI a.fIt fd
  ln : OwR.Len1 K a.CR a.fLn
  dLn : ∃ fd, Fun K "__len__" "Row.__len__" sRL a.fLn fd
  spc : OwR.Spc K a.CR a.fAt "__getitem__"
  dAt : ∃ fd, Fun K "__getitem__" "Row.__getitem__" sRG a.fAt fd
  str : OwR.Str1 K a.CR a.fSt
  dSt : ∃ fd, Fun K "__str__" "Row.__str__" sRS a.fSt fd
  eq : OwR.Cmp1 K .Eq a.CR a.fEq
  dEq : ∃ fd, Fun K "__eq__" "Row.__eq__" sRE a.fEq fd
  own : PySem.W.notFirst K a.CR (.ref a.CR) = true
  add : OwR.Bin1 K .Add a.CR a.fAdd
  dAdd : ∃ fd, Fun K "__add__" "Row.__add__" sRA a.fAdd fd
  iadd : OwR.noIn K a.CR (dunderI Operator.Add.info.2) = true
  nC : OwR.NoBin K .Add a.CC
  nG : OwR.NoBin K .Add a.CG
  rc : a.CR ≠ a.CC
  rg : a.CR ≠ a.CG
  sC : PySem.W.subIn K (.ref a.CC) (.ref a.CR) = some false
  sG : PySem.W.subIn K (.ref a.CG) (.ref a.CR) = some false
  pt : PropOf K a.CR "parts" a.pPt a.fPt
  dPt : ∃ fd, Fun K "parts" "Row.parts" sRP a.fPt fd
  cm : PropOf K a.CR "comings" a.pCm a.fCm
  dCm : ∃ fd, Fun K "comings" "Row.comings" sRC a.fCm fd
  un : Meth K a.CR "until" a.fUn
  dUn : ∃ fd, Fun K "until" "Row.until" sRU a.fUn fd
  rR : ClX.CRead K a.CR (.type "type")
  mOf : ClX.CMet K a.CR (.type "type") "of" a.pOf a.fOf
  dOf : ∃ fd, Fun K "of" "Row.of" sROf a.fOf fd
  ty : ∀ T ∈ tyRow, PySem.W.notFirst K a.CR (.type T) = true ∧ PySem.W.kitOne K (.type T) (.ref a.CR) = some false ∧ PySem.W.kitOne K (.type T) (.ref a.CD) = some false
section
variable {P : Program} {w : World} {K : PySem.W.Frag} {mg : Str → Option Value} {base : Heap} {a : DAd} {CN : Addr}
theorem RK.iT (R : RK P w K mg base a CN) : ∀ C, OwR.OwnIt K C a.fIt "_deeds" → OwR.FnSR P w K mg base CX0 1 a.fIt (OwR.spIt C K "_deeds") := by
  obtain ⟨_, d⟩ := R.dIt
  exact fun C c => ok_RI d R.X.R.n_iter C c
theorem RK.lenF (R : RK P w K mg base a CN) : FnR P w K mg base CX0 1 a.fLn (OwR.spLn a.CR K "_deeds") := by
  obtain ⟨_, d⟩ := R.dLn
  exact ok_RL d R.X.R.T.n_len R.X.R.k.dR.cls R.X.R.k.nD
theorem RK.getF (R : RK P w K mg base a CN) : FnR P w K mg base (L2.CX P w) 3 a.fAt (spRG K a) := by
  obtain ⟨_, d⟩ := R.dAt
  exact ok_RG R.X.R d
theorem RK.strF (R : RK P w K mg base a CN) : FnR P w K mg base CX0 4 a.fSt (spRS a) := by
  obtain ⟨_, d⟩ := R.dSt
  exact ok_RS R.X.R d
theorem RK.eqF (R : RK P w K mg base a CN) : FnR P w K mg base CX0 3 a.fEq (spRE K a) := by
  obtain ⟨_, d⟩ := R.dEq
  exact ok_RE R.X.R d
theorem RK.addF (R : RK P w K mg base a CN) : FnR P w K mg base (L2.CX P w) 6 a.fAdd (spRA K a) := by
  obtain ⟨_, d⟩ := R.dAdd
  exact ok_RA R.X.R d
theorem RK.ptF (R : RK P w K mg base a CN) : ∃ fd, FnOk P w K mg base CX0 3 a.fPt fd ["self"] (spRP a) ∧ Binds K fd ["self"] [] := by
  obtain ⟨_, d⟩ := R.dPt
  exact ⟨_, ok_RP R.X.R d, d.binds fun _ _ _ _ _ _ us hl => match us, hl with | [_], _ => rfl⟩
theorem RK.cmF (R : RK P w K mg base a CN) : ∃ fd, FnOk P w K mg base CX0 1 a.fCm fd ["self"] (spRC a) ∧ Binds K fd ["self"] [] := by
  obtain ⟨_, d⟩ := R.dCm
  exact ⟨_, ok_RC R.X.R d, d.binds fun _ _ _ _ _ _ us hl => match us, hl with | [_], _ => rfl⟩
theorem RK.unF (R : RK P w K mg base a CN) : FnR P w K mg base (L2.CX P w) 6 a.fUn (spRU K a) := by
  obtain ⟨_, d⟩ := R.dUn
  exact ok_RU R.X.R d
theorem RK.ofF (R : RK P w K mg base a CN) : FnR P w K mg base (L2.CX P w) 6 a.fOf (spROf K a) := by
  obtain ⟨_, d⟩ := R.dOf
  exact OwR.raw0 (ok_ROf d R.X.R.mkR R.X.R.row0) (d.binds fun _ _ _ _ _ _ us hl => match us, hl with | [_, _], _ => rfl)
/-- what a row says of its own parts, and back -/
theorem RowAt.lo {p c : Addr} {ns : List Int} {n : Nat} {z : Int} {H H' : Hp} {r : Addr} {ks : List Addr} (h : RowAt a H r ks) (P : PenAt H p c ns n z) (s : Lo p H H') : RowAt a H' r ks := by
  obtain ⟨dx, fs, l, h1, h2, h3, h4⟩ := h
  exact ⟨dx, fs, l, lo_ins P s h1, h2, lo_tup P s h3, h4⟩
theorem DeedsAt.lo {p c : Addr} {ns : List Int} {n : Nat} {z : Int} {H H' : Hp} {ks : List Addr} {ds : List Dd} (h : DeedsAt a H ks ds) (P : PenAt H p c ns n z) (s : Lo p H H') : DeedsAt a H' ks ds := h.mono fun _ _ _ _ e => lo_ins P s e
theorem PartsAt.lo {p c : Addr} {ns : List Int} {n : Nat} {z : Int} {H H' : Hp} {ts : List Addr} {ds : List Dd} (h : PartsAt H ts ds) (P : PenAt H p c ns n z) (s : Lo p H H') : PartsAt H' ts ds := h.mono fun _ _ e => lo_tup P s e
/-- a == b of two rows -/
theorem row_eq (R : RK P w K mg base a CN) {H : Hp} {x y : Addr} {ks js : List Addr} {ds es : List Dd} {Q : VK} {E : XK} (h1 : RowAt a H x ks) (d1 : DeedsAt a H ks ds) (h2 : RowAt a H y js) (d2 : DeedsAt a H js es) (q : Q (.bl (decide (ds = es))) H) : OwR.rCmp2 K .Eq a.fEq (spRE K a) E (.ref x) (.ref y) H Q := by
  obtain ⟨dx, fs, l, e1, _⟩ := id h1
  obtain ⟨dy, gs, m, e2, _⟩ := id h2
  exact ⟨x, y, _, _, dx, dy, fs, gs, rfl, rfl, e1, e2, R.eq, R.own, x, .ref y, ks, ds, rfl, h1, d1, .inl ⟨y, js, es, rfl, h2, d2, q⟩⟩
end
end K10
end
section
set_option pp.maxSteps 400
set_option pp.deepTerms.threshold 6
namespace K10
open PySem PySem.Spec PyProof.Rows L2
abbrev sRi : Stmt := top 30
def spRi (a : DAd) : Sp := fun vs H Q _ => ∃ (r l : Addr) (ks ts : List Addr) (ds : List Dd), vs = [.ref r, .ref l] ∧ RowAt a H r ks ∧ DeedsAt a H ks ds ∧ H l = some (.lst (ts.map V.ref)) ∧ PartsAt H ts ds ∧ (∀ d ∈ ds, GoodD d) ∧ ds.length ≤ 40 ∧ ∀ H', Same H H' → Q (.bl true) H'
theorem ne_self (v : V) : (!decide (v = v)) = false := by simp
theorem DeedsAt.take {a : DAd} {H : Hp} {ks : List Addr} {ds : List Dd} (h : DeedsAt a H ks ds) (k : Nat) : DeedsAt a H (ks.take k) (ds.take k) := by
  refine ⟨by rw [List.length_take, List.length_take, h.len], fun i k1 d e1 e2 => ?_⟩
  rw [List.getElem?_take] at e1 e2
  split at e1
  · rename_i c
    rw [if_pos c] at e2
    exact h.at_ i k1 d e1 e2
  · cases e1
theorem PartsAt.take {H : Hp} {ks : List Addr} {ds : List Dd} (h : PartsAt H ks ds) (k : Nat) : PartsAt H (ks.take k) (ds.take k) := by
  refine ⟨by rw [List.length_take, List.length_take, h.len], fun i k1 d e1 e2 => ?_⟩
  rw [List.getElem?_take] at e1 e2
  split at e1
  · rename_i c
    rw [if_pos c] at e2
    exact h.at_ i k1 d e1 e2
  · cases e1
theorem cut_take (ks : List Addr) (k : Nat) : cutV (ks.map V.ref) none (some ((k : Nat) : Int)) = (ks.take k).map V.ref := by
  show ((ks.map V.ref).drop 0).take ((if ((k : Nat) : Int) < 0 then (((k : Nat) : Int) + (((ks.map V.ref).length : Nat) : Int)).toNat else min ((k : Nat) : Int).toNat (ks.map V.ref).length) - 0) = _
  rw [if_neg (by omega), Int.toNat_natCast, List.drop_zero, List.length_map, Nat.sub_zero, List.map_take]
  rcases Nat.le_total k ks.length with h | h
  · rw [Nat.min_eq_left h]
  · rw [Nat.min_eq_right h, List.take_of_length_le (by rw [List.length_map]; exact Nat.le_refl _), List.take_of_length_le (by rw [List.length_map]; exact h)]
section
variable {P : Program} {w : World} {K : PySem.W.Frag} {mg : Str → Option Value} {base : Heap} {a : DAd} {CN : Addr}
abbrev nRi : List Str := ["_law_row_so", "_law_some_here", "_law_deed_here", "_law_k", "_law_parts_so"]
theorem scRi : FnScope nRi ["_law_row_so", "_law_some_here"] (defScope sRi) := ⟨rfl, rfl, rfl, by decide +kernel, rfl, by decide +kernel, by decide +kernel⟩
theorem ok_Ri {f fLn : Addr} {fd fdLn : FuncData} (R : RK P w K mg base a CN) (F : Fun K "_law_right" "_law_right" sRi f fd) (F_line : Fun K "_law_line" "_law_line" sLL fLn fdLn) (g_line : mg "_law_line" = some (.ref fLn)) (n_list : mg "list" = none) (n_repr : mg "repr" = none) (n_range : mg "range" = none) : OwR.FnG P w K mg base CX0 7 f fd ["_law_row_so", "_law_some_here"] (spRi a) := by
  obtain ⟨oc, od, kV, doc, pm, an, cdv, ct, osl, rfl, lk, hcd⟩ := F.ex
  have G_line : FnOk P w K mg base CX0 1 fLn fdLn ["_law_some_here"] spLL := ok_LL F_line n_list
  have b_line : Binds K fdLn ["_law_some_here"] [] := F_line.binds fun _ _ _ _ _ _ us hl => match us, hl with | [_], _ => rfl
  obtain ⟨fdPt, GPt, bPt⟩ := R.ptF
  obtain ⟨fdCm, GCm, bCm⟩ := R.cmF
  have n_len := R.X.R.T.n_len
  have n_tuple := R.X.R.n_tuple
  have n_str := R.X.R.T.n_str
  refine OwR.fn_ofG (k := 6) lk hcd scRi (fun vs H Q E h => ?_) fun A outer s H vs Q E hgd0 hr h => ?_
  · obtain ⟨r, l, ks, ts, ds, rfl, _⟩ := h
    rfl
  · have hgd : (A.deeper (envOfC "_law_right" (defScope sRi) s.heap.objs.size f cdv)).guards = some [] := hgd0
    have hr6 : Room 6 _ := hr
    have hr5 := hr6.mono (show 5 ≤ 6 by decide)
    have hr4 := hr6.mono (show 4 ≤ 6 by decide)
    have hr3 := hr6.mono (show 3 ≤ 6 by decide)
    have hr2 := hr6.mono (show 2 ≤ 6 by decide)
    have hr1 := hr6.mono (show 1 ≤ 6 by decide)
    have hud := hr.units
    have hrep : (A.deeper (envOfC "_law_right" (defScope sRi) s.heap.objs.size f cdv)).units + 70 < cLine := by
      have := hr.un
      omega
    have hu2 : (A.deeper (envOfC "_law_right" (defScope sRi) s.heap.objs.size f cdv)).units + 2 < cLine := by omega
    have hu0 : (A.deeper (envOfC "_law_right" (defScope sRi) s.heap.objs.size f cdv)).units < cLine := by omega
    obtain ⟨r, l, ks, ts, ds, rfl, hrow, hd, el, pt, gd, l40, q⟩ := h
    refine ⟨_, PSs.nox (pss_cons (ps_if (PW.pt (pw_or (pt_cmpR op_ne (pe_callB (id := "repr") (r := OwE.rRepr K) (OwE.cr_repr hgd hrep) (by rfl) n_repr (by decide +kernel) (pa_cons (pe_lst (pa_cons (pe_prop (pv 0) R.X.R.k.dR.cls R.pt GPt hr4 bPt .nil pass0 rfl) (pa_cons (pe_callB (OwR.call_lenO R.lenF hr2 pass0) (by rfl) n_len boot_len (pa_cons (pv 0) pa_nil)) pa_nil))) pa_nil)) (pe_callB (id := "repr") (r := OwE.rRepr K) (OwE.cr_repr hgd hrep) (by rfl) n_repr (by decide +kernel) (pa_cons (pe_lst (pa_cons (pe_callTy call_tuple_of (by rfl) n_tuple (by decide +kernel) (pa_cons (pv 1) pa_nil)) (pa_cons (pe_callB call_len_seq (by rfl) n_len boot_len (pa_cons (pv 1) pa_nil)) pa_nil))) pa_nil)) (nomark _)) (pw_or1 (pt_cmpR op_ne (pe_callTy (OwR.call_strOK (K := K) (E := E0) rfl hu2 R.strF hr6 pass0) (by rfl) n_str (by decide +kernel) (pa_cons (pv 0) pa_nil)) (pe_call G_line hr1 (by rfl) g_line F_line.kp b_line .nil pass0 (pa_cons (pv 1) pa_nil)) (nomark _))))) (pss_one (ps_ret pe_bl)) pss_nil)
    (pss_cons (ps_if (PW.pt (pw_or (pt_cmpR (op_neD hud) (pe_lc (own := [("_law_deed_here", 2)]) (by rfl) scRi.nd (OwR.pi_own (pv 0) R.iT hr1 pass0) (blkOk_by (own := [("_law_deed_here", 2)]) (N := nRi) (sc := defScope sRi) (by decide +kernel)) (fun _ _ _ _ _ => (pg_name (i := 2) scRi.nd rfl (Or.inl rfl))) (fun _ _ _ _ _ => pts_nil) (fun _ _ _ _ _ => (OwR.pe_get (pv 2) (getParts R.X.R hr2)))) (pv 1) (nomark _)) (pw_or1 (pt_cmpR (op_neD hud) (pe_lc (own := [("_law_k", 3)]) (by rfl) scRi.nd (pi_range1 rfl n_range (pa_cons (pe_callB call_len_seq (by rfl) n_len boot_len (pa_cons (pv 1) pa_nil)) pa_nil)) (blkOk_by (own := [("_law_k", 3)]) (N := nRi) (sc := defScope sRi) (by decide +kernel)) (fun _ _ _ _ _ => (pg_name (i := 3) scRi.nd rfl (Or.inl rfl))) (fun _ _ _ _ _ => pts_nil) (fun _ _ _ _ _ => (OwR.pe_get (OwR.pe_item R.spc R.getF hr4 passL (pv 0) (pv 3)) (getParts R.X.R hr2)))) (pv 1) (nomark _))))) (pss_one (ps_ret pe_bl)) pss_nil)
    (pss_cons (ps_if (pt_cmpR op_ne (pe_callB (id := "repr") (r := OwE.rRepr K) (OwE.cr_repr hgd hrep) (by rfl) n_repr (by decide +kernel) (pa_cons (pe_prop (pv 0) R.X.R.k.dR.cls R.cm GCm hr2 bCm .nil pass0 rfl) pa_nil)) (pe_callB (id := "repr") (r := OwE.rRepr K) (OwE.cr_repr hgd hrep) (by rfl) n_repr (by decide +kernel) (pa_cons (pe_callB call_len_seq (by rfl) n_len boot_len (pa_cons (pe_lc (own := [("_law_parts_so", 4)]) (by rfl) scRi.nd (pi_list (pv 1)) (blkOk_by (own := [("_law_parts_so", 4)]) (N := nRi) (sc := defScope sRi) (by decide +kernel)) (fun _ _ _ _ _ => (pg_name (i := 4) scRi.nd rfl (Or.inl rfl))) (fun _ _ _ _ _ => pts_one (pt_cmpR op_eq (pe_ix (r := rIxT K) ix_tup (pv 4) pe_int (fun _ _ => rfl)) pe_str (nomark _))) (fun _ _ _ _ _ => (pv 4))) pa_nil)) pa_nil)) (nomark _)) (pss_one (ps_ret pe_bl)) pss_nil)
    (pss_cons (ps_for PassesOwn.never rfl (pi_range1 rfl n_range (pa_cons (pe_op op_add (pe_callB call_len_seq (by rfl) n_len boot_len (pa_cons (pv 1) pa_nil)) pe_int) pa_nil)) (pg_name (i := 3) scRi.nd rfl (Or.inl rfl)) (pss_one (ps_if (pt_cmpR (op_neD hud) (pe_prop (pe_methR (pv 0) R.X.R.k.dR.cls R.un R.unF hr6 passL (pa_cons (pv 3) pa_nil)) R.X.R.k.dR.cls R.pt GPt hr4 bPt .nil pass0 rfl) (pe_callTy call_tuple_of (by rfl) n_tuple (by decide +kernel) (pa_cons (pe_slice sl_list (pv 1) po_none (po_some (pv 3))) pa_nil)) (nomark _)) (pss_one (ps_ret pe_bl)) pss_nil)))
    (pss_one (ps_ret (pe_and (pe_cmpR (OwR.op_ownEq hu0 R.eqF hr3 pass0) (pe_methR (pv 0) R.X.R.k.dR.cls R.un R.unF hr6 passL (pa_cons (pe_op op_pow pe_int pe_int) pa_nil)) (pv 0) (nomark _)) (pe_one (pe_cmpR (OwR.op_ownEq hu0 R.eqF hr3 pass0) (pe_methR (pv 0) R.X.R.k.dR.cls R.un R.unF hr6 passL (pa_cons pe_int pa_nil)) (OwR.pe_makeR0 R.X.R.mkR R.X.R.row0 hr5 (by rfl) R.X.R.gR passL) (nomark _)))))))))), ?_⟩
    have sz := sizeLine_eq
    have szl : ∀ n : Nat, n ≤ 40 → n ≤ sizeLine := fun n h => by omega
    obtain ⟨dx, fs, m, er, lkr, em, lu⟩ := id hrow
    have lk40 : ks.length ≤ 40 := by rw [hd.len]; exact l40
    have lt40 : ts.length ≤ 40 := by rw [pt.len]; exact l40
    refine ⟨_, rfl, r, dx, fs, rfl, er, r, ks, ds, rfl, hrow, hd, by omega, fun p1 ts1 H1 s1 e1 pt1 => ?_⟩
    refine ⟨_, rfl, r, _, dx, fs, rfl, s1 _ _ er, R.ln, r, dx, m, fs, _, rfl, s1 _ _ er, lkr, SqT.of (s1 _ _ em), ?_⟩
    have lz : (((ks.map V.ref).length : Nat) : Int) = (ds.length : Nat) := by rw [List.length_map, hd.len]
    have lz2 : (((ts.map V.ref).length : Nat) : Int) = (ds.length : Nat) := by rw [List.length_map, pt.len]
    rw [lz]
    refine ⟨_, rfl, by omega, by omega, szl 2 (by decide), fun L1 hL1 => ?_⟩
    have u1 := Same.of_new (o := .lst [.ref p1, .int (ds.length : Nat)]) hL1
    have s2 := s1.trans u1
    refine ⟨_, _, rfl, row_rep gd l40 upd_same (u1 _ _ e1) (pt1.same u1), ?_⟩
    refine ⟨_, rfl, l, _, rfl, .inl ⟨SqL.of (s2 _ _ el), fun p2 hp2 => ?_⟩⟩
    have u2 := Same.of_new (o := .tup (ts.map V.ref)) hp2
    have s3 := s2.trans u2
    refine ⟨_, rfl, l, _, rfl, .inl (SqL.of (s3 _ _ el)), ?_⟩
    rw [lz2]
    refine ⟨szl 2 (by decide), fun L2 hL2 => ?_⟩
    have u3 := Same.of_new (o := .lst [.ref p2, .int (ds.length : Nat)]) hL2
    have s4 := s3.trans u3
    refine ⟨_, _, rfl, row_rep gd l40 upd_same (u3 _ _ upd_same) ((pt.same s3).same u3), ?_⟩
    refine ⟨rfl, _, rfl, ?_⟩
    rw [ne_self]
    refine iteF ?_
    refine ⟨_, rfl, r, _, dx, fs, rfl, s4 _ _ er, R.str, r, ks, ds, rfl, hrow.same s4, hd.same s4, fun d hd => (gd d hd).small, by omega, fun H5 u5 => ⟨_, rfl, ?_⟩⟩
    have s5 := s4.trans u5
    refine ⟨_, rfl, l, ts, ds, rfl, s5 _ _ el, pt.same s5, gd, by omega, fun H6 u6 => ?_⟩
    have s6 := s5.trans u6
    refine ⟨rfl, _, rfl, ?_⟩
    rw [ne_self]
    refine iteF ?_
    -- deeds in turn, by index
    refine ⟨_, rfl, r, _, dx, m, fs, _, rfl, s6 _ _ er, R.it, lkr, SqT.of (s6 _ _ em), fun D hD => ?_⟩
    refine lc_it (walk_tup (xs := ks.map V.ref)) (fun i Hx => Same H6 Hx ∧ ∃ ts1 : List Addr, Hx D = some (.lst (ts1.map V.ref)) ∧ PartsAt Hx ts1 (ds.take i)) ⟨Same.of_new hD, [], upd_same, ⟨rfl, fun i t d e => by cases e⟩⟩ (fun i Hx _ q => SqT.of (q.1 _ _ (s6 _ _ em))) (fun i x Hx Hy hi q0 y => ?_) (fun Hx q0 => ?_)
    · obtain ⟨v1, ts1, eD, pt1⟩ := q0
      obtain ⟨rfl, hx⟩ := y
      obtain ⟨k1, d, rfl, hk1, hd1, hk⟩ := ((hd.same s6).same v1).get hx
      rw [List.length_map] at hi
      have lt : ts1.length = i := by
        rw [pt1.len, List.length_take, ← hd.len]
        omega
      refine ⟨rfl, ?_⟩
      refine ⟨_, rfl, parts_of hk fun p hp => ?_⟩
      have sp := Same.of_new (o := .tup (partsV d)) hp
      have eD2 := sp _ _ eD
      refine ⟨_, eD2, by rw [List.length_map]; omega, fun b o e => ?_, ts1 ++ [p], ?_, ?_⟩
      · rw [upd_ne (ne_of_none e hD)]
        exact sp _ _ (v1 b o e)
      · rw [List.map_append]
        exact upd_same
      · rw [List.take_add_one, hd1]
        have keep : ∀ k xs, upd _ p (.tup (partsV d)) k = some (.tup xs) → upd (upd _ p (.tup (partsV d))) D (.lst (ts1.map V.ref ++ [V.ref p])) k = some (.tup xs) := fun k xs e => by
          rw [upd_ne (fun q => by rw [q, eD2] at e; cases e)]
          exact e
        exact ((pt1.same sp).mono keep).snoc (keep _ _ upd_same)
    obtain ⟨v1, ts1, eD, pt1⟩ := q0
    rw [List.length_map, hd.len, List.take_length] at pt1
    have s7 := s6.trans v1
    obtain ⟨sh1, sh2⟩ := parts_shaped gd
    refine ⟨_, rfl, .list (ds.map partsD), .list (ds.map partsD), .lst (SqL.of eD) pt1.dp, .lst (SqL.of (s7 _ _ el)) (pt.same s7).dp, sh1, sh1, ?_⟩
    refine ⟨_, rfl, ?_⟩
    rw [parts_eqvL, decide_eq_true rfl]
    refine iteF ?_
    refine ⟨_, rfl, l, _, rfl, .inl (SqL.of (s7 _ _ el)), ?_⟩
    rw [lz2]
    refine ⟨ds.length, rfl, by omega, by omega, fun D2 hD2 => ?_⟩
    refine lc_it walk_range (fun i Hy => Same Hx Hy ∧ ∃ ts1 : List Addr, Hy D2 = some (.lst (ts1.map V.ref)) ∧ PartsAt Hy ts1 (ds.take i)) ⟨Same.of_new hD2, [], upd_same, ⟨rfl, fun i t d e => by cases e⟩⟩ (fun _ _ _ _ => True.intro) (fun i x Hy Hz hi q0 y => ?_) (fun Hy q0 => ?_)
    · obtain ⟨v2, ts1, eD, pt1⟩ := q0
      obtain ⟨rfl, rfl⟩ := y
      rw [Int.toNat_natCast] at hi
      have s8 := s7.trans v2
      have hik : i < ks.length := by rw [hd.len]; exact hi
      have hki : ks[i]? = some ks[i] := List.getElem?_eq_getElem hik
      have hdi : ds[i]? = some ds[i] := List.getElem?_eq_getElem hi
      have hk := (hd.same s8).at_ i _ _ hki hdi
      have lt : ts1.length = i := by
        rw [pt1.len, List.length_take]
        omega
      refine ⟨rfl, ?_⟩
      refine ⟨_, rfl, _, rfl, r, dx, fs, rfl, s8 _ _ er, r, _, ks, rfl, hrow.same s8, by omega, .inl ⟨i, ks[i], congrArg V.int (by omega), hki, parts_of hk fun p hp => ?_⟩⟩
      have sp := Same.of_new (o := .tup (partsV ds[i])) hp
      have eD2 := sp _ _ eD
      refine ⟨_, eD2, by rw [List.length_map]; omega, fun b o e => ?_, ts1 ++ [p], ?_, ?_⟩
      · rw [upd_ne (ne_of_none e hD2)]
        exact sp _ _ (v2 b o e)
      · rw [List.map_append]
        exact upd_same
      · rw [List.take_add_one, hdi]
        have keep : ∀ k xs, upd _ p (.tup (partsV ds[i])) k = some (.tup xs) → upd (upd _ p (.tup (partsV ds[i]))) D2 (.lst (ts1.map V.ref ++ [V.ref p])) k = some (.tup xs) := fun k xs e => by
          rw [upd_ne (fun q => by rw [q, eD2] at e; cases e)]
          exact e
        exact ((pt1.same sp).mono keep).snoc (keep _ _ upd_same)
    obtain ⟨v2, ts2, eD2, pt2⟩ := q0
    rw [Int.toNat_natCast, List.take_length] at pt2
    have s8 := s7.trans v2
    refine ⟨_, rfl, .list (ds.map partsD), .list (ds.map partsD), .lst (SqL.of eD2) pt2.dp, .lst (SqL.of (s8 _ _ el)) (pt.same s8).dp, sh1, sh1, ?_⟩
    rw [parts_eqvL, decide_eq_true rfl]
    refine ⟨_, rfl, ?_⟩
    refine iteF ?_
    -- comings
    refine ⟨_, rfl, r, dx, fs, rfl, s8 _ _ er, r, ks, ds, rfl, hrow.same s8, hd.same s8, by omega, fun H9 u9 => ?_⟩
    have s9 := s8.trans u9
    have small : ∀ n : Nat, n ≤ 40 → ((n : Nat) : Int).natAbs.log2 < 1920 := fun n h => (nums_ok ⟨n, by omega⟩).1
    have cN : comesN ds ≤ 40 := Nat.le_trans (List.length_filter_le _ _) l40
    refine ⟨_, _, rfl, .int (small _ cN), ?_⟩
    refine ⟨_, rfl, l, rfl, ⟨_, SqL.of (s9 _ _ el)⟩, fun D3 hD3 => ?_⟩
    refine lc_it (walk_list (xs := ts.map V.ref)) (fun i Hx => Same H9 Hx ∧ ∃ cs : List Addr, Hx D3 = some (.lst (cs.map V.ref)) ∧ cs.length = comesN (ds.take i)) ⟨Same.of_new hD3, [], upd_same, rfl⟩ (fun i Hx _ q => SqL.of (q.1 _ _ (s9 _ _ el))) (fun i x Hx Hy hi q0 y => ?_) (fun Hx q0 => ?_)
    · obtain ⟨v3, cs, eD, lc⟩ := q0
      obtain ⟨rfl, hx⟩ := y
      obtain ⟨t1, d, rfl, ht1, hd1, et⟩ := ((pt.same s9).same v3).get hx
      rw [List.length_map] at hi
      have st : comesN (ds.take (i + 1)) = comesN (ds.take i) + if d.2.isNone = true then 1 else 0 := by
        unfold comesN
        rw [List.take_add_one, hd1, List.filter_append, List.length_append]
        show _ + ([d].filter _).length = _
        rw [List.filter_cons]
        split <;> rfl
      have lc2 : cs.length ≤ i := by
        rw [lc]
        unfold comesN
        refine Nat.le_trans (List.length_filter_le _ _) ?_
        rw [List.length_take]
        omega
      refine ⟨rfl, ?_⟩
      obtain ⟨z, o⟩ := d
      cases o with
      | none =>
        have et : Hy t1 = some (.tup [.str "come", .str z]) := et
        refine ⟨_, rfl, t1, _, 0, _, rfl, rfl, SqT.of et, atI_nat (j := 0) rfl, rfl, _, rfl, ?_⟩
        refine iteT ?_
        refine ⟨_, rfl, _, eD, by rw [List.length_map]; omega, fun b o e => ?_, cs ++ [t1], ?_, ?_⟩
        · rw [upd_ne (ne_of_none e hD3)]
          exact v3 b o e
        · rw [List.map_append]
          exact upd_same
        · rw [List.length_append, lc, st]
          rfl
      | some b =>
        have et : Hy t1 = some (.tup [.str "go", .str z, .str b]) := et
        refine ⟨_, rfl, t1, _, 0, _, rfl, rfl, SqT.of et, atI_nat (j := 0) rfl, rfl, _, rfl, ?_⟩
        refine iteF ?_
        exact ⟨v3, cs, eD, by rw [lc, st]; rfl⟩
    obtain ⟨v3, cs, eD3, lc⟩ := q0
    rw [List.length_map, pt.len, List.take_length] at lc
    have s10 := s9.trans v3
    refine ⟨D3, _, rfl, .inl (SqL.of eD3), ?_⟩
    rw [List.length_map, lc]
    refine ⟨_, _, rfl, .int (small _ cN), rfl, _, rfl, ?_⟩
    rw [ne_self]
    refine iteF ?_
    -- the first k of them
    refine ⟨_, rfl, l, _, rfl, .inl (SqL.of (s10 _ _ el)), ?_⟩
    rw [lz2]
    refine ⟨_, _, rfl, rfl, ds.length + 3, by push_cast; rfl, by omega, by omega, ?_⟩
    refine for_it walk_range (fun i σ Hy => Same Hx Hy ∧ ∃ x2 x3 x4, σ = [some (.ref r), some (.ref l), x2, x3, x4]) ⟨Same.refl _, _, _, _, rfl⟩ (fun _ _ _ _ _ => True.intro) (fun i x σ Hy Hz hi q0 y => ?_) (fun σ Hy q0 => ?_)
    · obtain ⟨v4, x2, x3, x4, rfl⟩ := q0
      obtain ⟨rfl, rfl⟩ := y
      have s11 := s10.trans v4
      refine ⟨_, rfl, r, dx, fs, rfl, s11 _ _ er, lu, _, rfl, r, i, ks, ds, congrArg (fun v => [V.ref r, v]) (congrArg V.int (by omega)), hrow.same s11, hd.same s11, by omega, fun r2 H2 u2 hr2 => ?_⟩
      have s12 := s11.trans u2
      obtain ⟨dx2, fs2, m2, er2, lkr2, em2, lu2⟩ := id hr2
      refine ⟨r2, dx2, fs2, rfl, er2, r2, ks.take i, ds.take i, rfl, hr2, (hd.same s12).take i, by rw [List.length_take]; omega, fun p3 ts3 H3 u3 e3 pt3 => ?_⟩
      have s13 := s12.trans u3
      refine ⟨_, rfl, _, rfl, _, congrArg V.int (show ((0 : Int) + (i : Int)) = ((i : Nat) : Int) by omega), l, _, rfl, SqL.of (s13 _ _ el), ?_⟩
      rw [cut_take]
      intro b hb
      have u4 := Same.of_new (o := .lst ((ts.take i).map V.ref)) hb
      refine ⟨b, _, rfl, .inl ⟨SqL.of upd_same, fun p4 hp4 => ?_⟩⟩
      have u5 := Same.of_new (o := .tup ((ts.take i).map V.ref)) hp4
      have u45 := u4.trans u5
      have s14 := s13.trans u45
      have gdi : ∀ d ∈ ds.take i, GoodD d := fun d hd => gd d (List.mem_of_mem_take hd)
      refine ⟨.tuple ((ds.take i).map partsD), .tuple ((ds.take i).map partsD), .tup (SqT.of (u45 _ _ e3)) (pt3.same u45).dp, .tup (SqT.of upd_same) ((pt.same s14).take i).dp, (parts_shaped gdi).2, (parts_shaped gdi).2, ?_⟩
      rw [parts_eqvT, decide_eq_true rfl]
      refine ⟨_, rfl, ?_⟩
      exact iteF ⟨((v4.trans u2).trans u3).trans u45, _, _, _, rfl⟩
    obtain ⟨v4, x2, x3, x4, rfl⟩ := q0
    have s11 := s10.trans v4
    refine ⟨_, rfl, r, dx, fs, rfl, s11 _ _ er, lu, ?_⟩
    refine ⟨_, _, rfl, rfl, ⟨by decide, by decide, by decide⟩, r, 10 ^ 30, ks, ds, congrArg (fun v => [V.ref r, v]) (congrArg V.int rfl), hrow.same s11, hd.same s11, by omega, fun r2 H2 u2 hr2 => ?_⟩
    rw [List.take_of_length_le (Nat.le_trans lk40 (by decide))] at hr2
    have s12 := s11.trans u2
    refine ⟨_, rfl, row_eq R hr2 (hd.same s12) (hrow.same s12) (hd.same s12) ?_⟩
    rw [decide_eq_true rfl]
    refine ⟨true, rfl, iteT ?_⟩
    refine ⟨_, rfl, r, dx, fs, rfl, s12 _ _ er, lu, r, 0, ks, ds, rfl, hrow.same s12, hd.same s12, by omega, fun r3 H3 u3 hr3' => ?_⟩
    rw [List.take_zero] at hr3'
    have s13 := s12.trans u3
    have none_ : DeedsAt a H3 [] [] := ⟨rfl, fun i k d e => by cases e⟩
    intro z dz n1 n2 nd
    refine ⟨z, dz, [], rfl, upd_same, made_row (Q := fun v H' => OwR.rCmp2 K .Eq a.fEq (spRE K a) E0 (.ref r3) v H' Q) ⟨Nat.zero_le _, .inl ⟨[], [], rfl, none_, fun z2 H4 _ u4 r4 => ?_⟩⟩ n1 n2⟩
    refine row_eq R (hr3'.same u4) (none_.same u4) r4 (none_.same u4) ?_
    exact q _ (s13.trans u4)
end
end K10
end
section
/-! Own: zip of two objects whose __iter__ gives a tuple's iterator. -/
namespace OwZ2
open PySem PySem.Spec PyProof.Rows L2
section
variable {prog : Program} {w : World}
abbrev m1 (h : Heap) (u v : Value) : Heap := h.push { cls := .type "tuple", data := .seq #[u, v] }
abbrev m2 (h : Heap) (u v : Value) : Heap := (m1 h u v).push { cls := .type "tuple", data := .seq #[.none, .none] }
abbrev m3 (h : Heap) (u v : Value) : Heap := (m2 h u v).push { cls := .type "zip", data := .fields #[.none, .bool false, .bool false, .ref h.objs.size, .ref (m1 h u v).objs.size] }
theorem new_meets (x y : Value) : MeetsIn prog w (Builtin.«zip.__new__» ⟨[.type "zip", x, y], []⟩) (fun A R s =>
    wpAny (model prog w) A.in1 (pyIter x) (fun u s1 => wpAny (model prog w) A.in1 (pyIter y) (fun v s2 => R (.ok (.ret (.ref (m2 s2.heap u v).objs.size))) { s2 with heap := m3 s2.heap u v }) (fun e s' => R (.error e) s') s1) (fun e s' => R (.error e) s') s) :=
  .of_wp fun A R s h => by
    have hsub := sub_zip
    have L : ∀ {Q : Value → Shared → Prop}, (∀ u s1, wpAny (model prog w) A.in1 (pyIter y) (fun v s2 => R (.ok (.ret (.ref (m2 s2.heap u v).objs.size))) { s2 with heap := m3 s2.heap u v }) (fun e s' => R (.error e) s') s1 → Q u s1) → wpAny (model prog w) A.in1 (pyIter x) Q (fun e s' => R (.error e) s') s := fun {Q} q => wpAny_mono h (fun u s1 h1 => q u s1 h1) fun _ _ z => z
    obtain ⟨hp, g, d, tk, os⟩ := s
    unfold Builtin.«zip.__new__»
    refine wpAny_bind ?_
    unfold Builtin.SmallTypes.newClass
    wp_walk using L
    intro u s1 h1
    have L2 : ∀ {Q : Value → Shared → Prop}, (∀ v s2, R (.ok (.ret (.ref (m2 s2.heap u v).objs.size))) { s2 with heap := m3 s2.heap u v } → Q v s2) → wpAny (model prog w) A.in1 (pyIter y) Q (fun e s' => R (.error e) s') s1 := fun {Q} q => wpAny_mono h1 (fun u s1 h1 => q u s1 h1) fun _ _ z => z
    obtain ⟨hp1, g1, d1, tk1, os1⟩ := s1
    wp_walk using L2
    intro v s2 h2
    obtain ⟨hp2, g2, d2, tk2, os2⟩ := s2
    wp_walk
    exact ⟨_, rfl, h2⟩
/-- zip(x, y): what it makes of two iterators -/
theorem made {A : Around} {E Q : Value → Shared → Prop} {s : Shared} {x y : Value}
    (h : wpAny (model prog w) A.in1.in1 (pyIter x) (fun u s1 => wpAny (model prog w) A.in1.in1 (pyIter y) (fun v s2 => ∀ h', IsZip h' (s2.heap.objs.size + 2) s2.heap.objs.size (s2.heap.objs.size + 1) .none → IsPair h' s2.heap.objs.size u v → IsPair h' (s2.heap.objs.size + 1) .none .none →
      (∀ c o, s2.heap.get? c = some o → h'.get? c = some o) → Q (.ref (s2.heap.objs.size + 2)) { s2 with heap := h' }) E s1) E s) : wpAny (model prog w) A (call (.type "zip") [x, y]) Q E s := by
  refine callType_newIn F.called_zip (by decide) (F.typeCall_zip_2 _ _) (F.newCall_zip_2 _ _) (fun obj => F.args_object_init_3 obj _ _) F.entry_zip_new (new_meets x y) ?_
  refine wpAny_mono h (fun u s1 h1 => wpAny_mono h1 (fun v s2 h2 => ?_) fun _ _ z => z) fun _ _ z => z
  have n1 : (m1 s2.heap u v).objs.size = s2.heap.objs.size + 1 := Heap.size_push ..
  have n2 : (m2 s2.heap u v).objs.size = s2.heap.objs.size + 2 := by rw [Heap.size_push, n1]
  have f3 : (m3 s2.heap u v).get? (m2 s2.heap u v).objs.size = some _ := Heap.get?_push_size _ rfl
  have f2 : (m3 s2.heap u v).get? (m1 s2.heap u v).objs.size = some _ := Heap.get?_push_of_some _ (Heap.get?_push_size _ rfl)
  have f1 : (m3 s2.heap u v).get? s2.heap.objs.size = some _ := Heap.get?_push_of_some _ (Heap.get?_push_of_some _ (Heap.get?_push_size _ rfl))
  show _ ∧ _
  rw [n1, n2] at f3
  rw [n1] at f2
  rw [n2]
  exact ⟨⟨_, f3, rfl⟩, h2 _ f3 f1 f2 fun c o q => Heap.get?_push_of_some _ (Heap.get?_push_of_some _ (Heap.get?_push_of_some _ q))⟩
end
open OwR
section
variable {X : Cx} {CX : CXT} {k : Nat} {f : Addr} {fld : Str} {E : XK} {pins : List (Addr × Obj)} {σ : L2.St} {H : Hp} {s : Shared}
/-- iter(o), two steps further in; the iterator is told of -/
theorem iter_own {Q : Value → Shared → Prop} {a C dx l : Addr} {fs : List (Str × V)} {zs : List V} (F : ∀ C, OwnIt X.K C f fld → FnSR X.prog X.w X.K X.mg X.base CX k f (spIt C X.K fld)) (hr : Room (k + 2) X.A) (hx : Passes CX X E) (I : Inv X pins σ H s) (ea : H a = some (.ins C dx fs)) (c : OwnIt X.K C f fld) (lk : fs.lookup fld = some (.ref l)) (sq : SqT X.K H l zs)
    (h : ∀ it s', H it = none → s.heap.objs.size ≤ it → Inv X pins σ (upd H it (ItT l it)) s' → Q (.ref it) s') : wpAny (model X.prog X.w) X.A.in1.in1 (pyIter (.ref a)) Q X.xe s := by
  obtain ⟨ox, od, J, _⟩ := StX.insC_at I (.inr ⟨dx, fs, ea⟩)
  obtain ⟨mm, fr⟩ := I.fr
  have sp0 : spIt C X.K fld s [.ref a] H (fun v H2 => ∃ it, v = .ref it ∧ H it = none ∧ s.heap.objs.size ≤ it ∧ H2 = upd H it (ItT l it)) E := ⟨a, dx, l, fs, zs, rfl, ea, lk, sq, fun it e n => ⟨it, rfl, e, n, rfl⟩⟩
  refine PySem.W.owit_iter fr I.ok.mod.kin J c.at_ c.fn (wpAny_call (codeAny_mono (F C c X.A.in1.in1 X.stack s H [.ref a] [.ref a] _ E hr.in1.in1 I.env0.in1.in1 (.cons rfl .nil) sp0) fun r s' z => ?_))
  match r, z with
  | .error er, z => exact hx pins σ H s er s' I z
  | .ok (.ret v), z =>
    obtain ⟨y, H2, os, br, un, ok, ry, it, ey, e1, hn, eH⟩ := z
    subst ey
    subst eH
    obtain rfl : v = Value.ref it := ry
    have I2 : Inv X pins σ (upd H it (ItT l it)) s' := I.call' os un ok br fun b m => by cases m
    exact tup_next (itT_get I2 upd_same) (h it s' e1 hn I2)
end
/-- zip of two such objects -/
def iZipO (K : PySem.W.Frag) (f : Addr) (fld : Str) (ta : TA) : TI := fun σ H R => ta σ H fun vs H1 => ∃ (x y C D dx dy l m : Addr) (fs gs : List (Str × V)) (xs ys : List V), vs = [.ref x, .ref y] ∧ H1 x = some (.ins C dx fs) ∧ OwnIt K C f fld ∧ fs.lookup fld = some (.ref l) ∧ SqT K H1 l xs ∧
  H1 y = some (.ins D dy gs) ∧ OwnIt K D f fld ∧ gs.lookup fld = some (.ref m) ∧ SqT K H1 m ys ∧ R (RZ.ItzT K l m) H1
theorem pi_zipO {X : Cx} {CX : CXT} {k : Nat} {f : Addr} {fld : Str} {E : XK} {e e2 : Expr} {ta : TA} {p pos tpos : Pos} {elts : List Expr} {kk : Nat} (hg : Gl X "zip") (hm : X.mg "zip" = none) (ha : PA X [e, e2] ta) (F : ∀ C, OwnIt X.K C f fld → FnSR X.prog X.w X.K X.mg X.base CX k f (spIt C X.K fld)) (hr : Room (k + 2) X.A) (hx : Passes CX X E)
    (hs : starEach [e, e2] X.env = (false, eval e X.env) :: starEach [e2] X.env := by rfl) (hpl : (backTo pos (starEach [e2] X.env)).any (·.1) = false := by rfl) : PI X (.Tuple elts kk tpos) (.Call (.Name "zip" p) [e, e2] [] pos) (iZipO X.K f fld ta) := by
  refine ⟨fun pins s σ H R I h => Call_ (ld_blt I hg hm PyProof.Rows.boot_zip (PyProof.Rows.callWith_type1 (thn (ha.run pos pins s σ H _ I h) fun us s1 ⟨vs, H1, I1, r1, x, y, C, D, dx, dy, l, m, fs, gs, xs, ys, ex, ea, c, lk, sq, eb, d, lk2, sq2, q⟩ => ?_) hs hpl))⟩
  subst ex
  obtain ⟨u1, u2, eu, ra, rb⟩ := vals2 r1
  subst eu
  obtain rfl : u1 = Value.ref x := ra
  obtain rfl : u2 = Value.ref y := rb
  refine made (iter_own F hr hx I1 ea c lk sq fun i1 s2 n1 le1 I2 => ?_)
  have eb2 : upd H1 i1 (ItT l i1) y = some (.ins D dy gs) := K10.upd_keep2 eb n1
  refine iter_own F hr hx I2 eb2 d lk2 (K10.SqT.mono sq2 (K10.Same.of_new n1)) fun i2 s3 n2 le2 I3 => ?_
  intro h' hz hTI hTO hk
  refine wpAny_pyIter_zip hz ?_
  have ne : i2 ≠ i1 := fun z => by
    rw [z, upd_same] at n2
    cases n2
  have n2' : H1 i2 = none := by
    rw [upd_ne ne] at n2
    exact n2
  have e2 : upd (upd H1 i1 (ItT l i1)) i2 (ItT m i2) i2 = some (.ext fun h => h.get? i2 = some (itTup m 0)) := upd_same
  have e1 : upd (upd H1 i1 (ItT l i1)) i2 (ItT m i2) i1 = some (ItT l i1) := by
    rw [upd_ne (Ne.symm ne), upd_same]
  have g1 := itT_get I3 e1
  have g2 := itT_get I3 upd_same
  have I4 := ItX.inv_drop I3 e2
  rw [ItX.dropH_upd n2] at I4
  have fp2 := ItX.inv_fp I3 e2 (Nat.le_trans I2.sz le2)
  have e3 : upd H1 i1 (ItT l i1) i1 = some (.ext fun h => h.get? i1 = some (itTup l 0)) := upd_same
  have I5 := ItX.inv_drop I4 e3
  rw [ItX.dropH_upd n1] at I5
  have fp1 := ItX.inv_fp I4 e3 (Nat.le_trans I1.sz le1)
  rw [ItX.dropH_upd n1] at fp1
  obtain ⟨its, rv, p1, _⟩ := I5.tuple sq
  obtain ⟨its2, rv2, p2, _⟩ := I5.tuple sq2
  obtain ⟨o1, ho1, _⟩ := id p1
  obtain ⟨o2, ho2, _⟩ := id p2
  have lt1 : @LT.lt Nat _ i1 s3.heap.objs.size := Heap.lt_size g1
  have lt2 : @LT.lt Nat _ i2 s3.heap.objs.size := Heap.lt_size g2
  have ltl : @LT.lt Nat _ l s3.heap.objs.size := Heap.lt_size ho1
  have ltm : @LT.lt Nat _ m s3.heap.objs.size := Heap.lt_size ho2
  have lt_ : ∀ {b : Addr} {zs : List V} {H : Hp} {s : Shared}, Inv X pins σ H s → SqT X.K H b zs → b < s.heap.objs.size := fun {b zs H s} I hq => by
    obtain ⟨its, rv, p1, _⟩ := I.tuple hq
    obtain ⟨o1, ho1, _⟩ := id p1
    exact Heap.lt_size ho1
  have la : @LT.lt Nat _ l s1.heap.objs.size := lt_ I1 sq
  have lb : @LT.lt Nat _ m s1.heap.objs.size := lt_ I1 sq2
  have lc : @LT.lt Nat _ l s2.heap.objs.size := lt_ I2 (K10.SqT.mono sq (K10.Same.of_new n1))
  have ld : @LT.lt Nat _ m s2.heap.objs.size := lt_ I2 (K10.SqT.mono sq2 (K10.Same.of_new n1))
  have D : ZipApart (s3.heap.objs.size + 2) s3.heap.objs.size (s3.heap.objs.size + 1) i1 i2 l m := {
    TIz := by refine PySem.W.neN ?_; omega
    TOz := by refine PySem.W.neN ?_; omega
    i1z := by refine PySem.W.neN ?_; omega
    i2z := by refine PySem.W.neN ?_; omega
    TITO := by refine PySem.W.neN ?_; omega
    TIi1 := by refine PySem.W.neN ?_; omega
    TIi2 := by refine PySem.W.neN ?_; omega
    TOi1 := by refine PySem.W.neN ?_; omega
    TOi2 := by refine PySem.W.neN ?_; omega
    i12 := Ne.symm ne
    l1z := by refine PySem.W.neN ?_; omega
    l1TO := by refine PySem.W.neN ?_; omega
    l1i1 := by refine PySem.W.neN ?_; omega
    l1i2 := by refine PySem.W.neN ?_; omega
    l2z := by refine PySem.W.neN ?_; omega
    l2TO := by refine PySem.W.neN ?_; omega
    l2i1 := by refine PySem.W.neN ?_; omega
    l2i2 := by refine PySem.W.neN ?_; omega }
  have I6 : Inv X pins σ H1 { s3 with heap := h' } := I5.kept (t' := s3.toks) hk
  refine ⟨s3.heap.objs.size + 2, [s3.heap.objs.size + 2, s3.heap.objs.size, s3.heap.objs.size + 1, i1, i2], _, _, H1, rfl, I6, RZ.turn_zipT D, ⟨hz, hTI, ⟨_, _, hTO⟩, ⟨_, hk _ _ g1, rfl, rfl⟩, ⟨_, hk _ _ g2, rfl, rfl⟩⟩, fun b hb => ?_, q⟩
  have e' : b = s3.heap.objs.size + 2 ∨ b = s3.heap.objs.size ∨ b = s3.heap.objs.size + 1 ∨ b = i1 ∨ b = i2 := by simpa using hb
  rcases e' with z | z | z | z | z
  · rw [z]
    exact I5.fpOk (Nat.le_add_right _ _) (I5.hok.fresh (Nat.le_add_right _ _))
  · rw [z]
    exact I5.fpOk (Nat.le_refl _) (I5.hok.fresh (Nat.le_refl _))
  · rw [z]
    exact I5.fpOk (Nat.le_add_right _ _) (I5.hok.fresh (Nat.le_add_right _ _))
  · rw [z]
    exact fp1
  · rw [z]
    exact ⟨n2', fp2.2⟩
end OwZ2
end
section
set_option pp.maxSteps 400
set_option pp.deepTerms.threshold 6
namespace OwR
open PySem PySem.Spec PyProof.Rows L2
theorem op_ownEqK {X : Cx} {CX : CXT} {k : Nat} {g : Addr} {sp : Sp} {E : XK} {K : PySem.W.Frag} (hK : X.K = K) (hu : X.A.units < cLine) (F : FnR X.prog X.w X.K X.mg X.base CX k g sp) (hr : Room k X.A) (hx : Passes CX X E) : OpR X (compareOp .Eq) (rCmp2 K .Eq g sp E) := by
  subst hK
  exact op_ownEq hu F hr hx
end OwR
namespace K10
open PySem PySem.Spec PyProof.Rows L2
abbrev sWa : Stmt := top 31
/-- pairs of parts -/
def pairD (p : Dd × Dd) : PyData := .tuple [partsD p.1, partsD p.2]
structure PairsAt (H : Hp) (ts : List Addr) (ps : List (Dd × Dd)) : Prop where
  len : ts.length = ps.length
  at_ : ∀ (i : Nat) (t : Addr) (p : Dd × Dd), ts[i]? = some t → ps[i]? = some p → ∃ u v, H t = some (.tup [.ref u, .ref v]) ∧ H u = some (.tup (partsV p.1)) ∧ H v = some (.tup (partsV p.2))
theorem PairsAt.mono {H H' : Hp} {ts : List Addr} {ps : List (Dd × Dd)} (h : PairsAt H ts ps) (s : ∀ k xs, H k = some (.tup xs) → H' k = some (.tup xs)) : PairsAt H' ts ps := ⟨h.len, fun i t p e1 e2 => by
  obtain ⟨u, v, a1, a2, a3⟩ := h.at_ i t p e1 e2
  exact ⟨u, v, s _ _ a1, s _ _ a2, s _ _ a3⟩⟩
theorem PairsAt.same {H H' : Hp} {ts : List Addr} {ps : List (Dd × Dd)} (h : PairsAt H ts ps) (s : Same H H') : PairsAt H' ts ps := h.mono fun _ _ e => s _ _ e
theorem PairsAt.nil {H : Hp} : PairsAt H [] [] := ⟨rfl, fun i t d e => by cases e⟩
theorem PairsAt.app {H : Hp} {ts us : List Addr} {ps qs : List (Dd × Dd)} (h : PairsAt H ts ps) (g : PairsAt H us qs) : PairsAt H (ts ++ us) (ps ++ qs) := by
  refine ⟨by rw [List.length_append, List.length_append, h.len, g.len], fun i k c e1 e2 => ?_⟩
  rcases Nat.lt_or_ge i ts.length with lt | ge
  · rw [List.getElem?_append_left lt] at e1
    rw [List.getElem?_append_left (by rw [← h.len]; exact lt)] at e2
    exact h.at_ i k c e1 e2
  · rw [List.getElem?_append_right ge] at e1
    rw [List.getElem?_append_right (by rw [← h.len]; exact ge), ← h.len] at e2
    exact g.at_ _ k c e1 e2
theorem PairsAt.one {H : Hp} {t u v : Addr} {p : Dd × Dd} (a1 : H t = some (.tup [.ref u, .ref v])) (a2 : H u = some (.tup (partsV p.1))) (a3 : H v = some (.tup (partsV p.2))) : PairsAt H [t] [p] := ⟨rfl, fun i k c e1 e2 => by
  match i, e1, e2 with
  | 0, e1, e2 =>
    cases e1
    cases e2
    exact ⟨u, v, a1, a2, a3⟩⟩
theorem PairsAt.dp {K : PySem.W.Frag} {H : Hp} : ∀ {ts : List Addr} {ps : List (Dd × Dd)}, PairsAt H ts ps → DpAll K H (ts.map V.ref) (ps.map pairD)
  | [], [], _ => .nil
  | [], _ :: _, h => by cases h.len
  | _ :: _, [], h => by cases h.len
  | t :: ts, p :: ps, h => by
    obtain ⟨u, v, a1, a2, a3⟩ := h.at_ 0 t p rfl rfl
    exact .cons (.tup (SqT.of a1) (.cons (part_dp a2) (.cons (part_dp a3) .nil))) (PairsAt.dp ⟨Nat.succ.inj h.len, fun i a c e1 e2 => h.at_ (i + 1) a c e1 e2⟩)
theorem pairD_ok {p : Dd × Dd} (h1 : GoodD p.1) (h2 : GoodD p.2) : (pairD p).canLay0 = true ∧ (pairD p).depth ≤ 2 := by
  obtain ⟨a1, a2⟩ := partsD_ok h1
  obtain ⟨b1, b2⟩ := partsD_ok h2
  refine ⟨by simp [pairD, PyData.canLay0, PyData.canLayAll0, a1, b1], ?_⟩
  simp only [pairD, PyData.depth, PyData.depthAll]
  omega
theorem pairs_shaped {ps : List (Dd × Dd)} (h : ∀ p ∈ ps, GoodD p.1 ∧ GoodD p.2) : SeqAt.shaped (.list (ps.map pairD)) = true :=
  OwD.shaped_lst (k := 2) (by decide) (fun p hp => (pairD_ok (h p hp).1 (h p hp).2).1) (fun p hp => (pairD_ok (h p hp).1 (h p hp).2).2)
/-- each with each -/
def prodL (ds es : List Dd) : List (Dd × Dd) := ds.flatMap fun d => es.map fun e => (d, e)
theorem prod_next {ds es : List Dd} {i : Nat} {d : Dd} (h : ds[i]? = some d) : prodL (ds.take (i + 1)) es = prodL (ds.take i) es ++ es.map fun e => (d, e) := by
  unfold prodL
  rw [List.take_add_one, h, List.flatMap_append]
  show _ ++ ([d].flatMap _) = _
  rw [List.flatMap_singleton]
theorem prod_len (es : List Dd) : ∀ ds : List Dd, (prodL ds es).length = ds.length * es.length
  | [] => by simp [prodL]
  | d :: ds => by
    show ((es.map fun e => (d, e)) ++ prodL ds es).length = _
    rw [List.length_append, List.length_map, prod_len es ds, List.length_cons, Nat.add_mul, Nat.one_mul, Nat.add_comm]
theorem prod_mem {ds es : List Dd} {p : Dd × Dd} (h : p ∈ prodL ds es) : p.1 ∈ ds ∧ p.2 ∈ es := by
  unfold prodL at h
  obtain ⟨d, hd, m⟩ := List.mem_flatMap.mp h
  obtain ⟨e, he, rfl⟩ := List.mem_map.mp m
  exact ⟨hd, he⟩
theorem lens_le {n m : Nat} (h1 : n ≤ 10) (h2 : m ≤ 10) : n * m ≤ 100 := Nat.le_trans (Nat.mul_le_mul h1 h2) (by decide)
def spWa (a : DAd) : Sp := fun vs H Q _ => ∃ (r l : Addr) (ks ts : List Addr) (ds : List Dd), vs = [.ref r, .ref l] ∧ RowAt a H r ks ∧ DeedsAt a H ks ds ∧ H l = some (.lst (ts.map V.ref)) ∧ PartsAt H ts ds ∧ (∀ d ∈ ds, GoodD d) ∧ ds.length ≤ 10 ∧ ∀ H', Same H H' → Q (.bl true) H'
theorem walk_zipT {K : PySem.W.Frag} {a b : Addr} {xs ys : List V} {n : Nat} (hn : n = min xs.length ys.length) : Walk (RZ.ItzT K a b) n (fun H => SqT K H a xs ∧ SqT K H b ys) (YPair (fun i => xs[i]?) (fun i => ys[i]?)) := by
  subst hn
  refine ⟨fun i _ hi q => ?_, fun _ q => ⟨xs, ys, q.1, q.2, by omega⟩, fun i H v H' _ q ⟨T, x, z, h1, h2, h3, h4, h5⟩ => ⟨T, x, z, h1, h2, h3, h4 xs q.1, h5 ys q.2⟩⟩
  have h1 : i < xs.length := by omega
  have h2 : i < ys.length := by omega
  exact ⟨xs, ys, xs[i], ys[i], q.1, q.2, by simp [h1], by simp [h2]⟩
section
variable {P : Program} {w : World} {K : PySem.W.Frag} {mg : Str → Option Value} {base : Heap} {a : DAd} {CN : Addr}
/-- d == e of two deeds, as an operator -/
theorem deed_cmp (R : RK P w K mg base a CN) {H : Hp} {x y : Addr} {d e : Dd} {Q : VK} (h1 : DeedAt a H x d) (h2 : DeedAt a H y e) (q : Q (.bl (decide (d = e))) H) : OwR.rCmp2 K .Eq a.fCE (spComeE K a.CC) E0 (.ref x) (.ref y) H Q ∨ OwR.rCmp2 K .Eq a.fGE (spGoE K a.CG) E0 (.ref x) (.ref y) H Q := by
  have k := R.X.R.k
  obtain ⟨z, o⟩ := d
  obtain ⟨z2, o2⟩ := e
  rcases h1 with ⟨e1, dx, fs, a1, a2⟩ | ⟨b, e1, dx, fs, a1, a2, a3⟩
  · have e1 : o = none := e1
    subst e1
    rcases h2 with ⟨e2, dy, gs, b1, b2⟩ | ⟨b', e2, dy, gs, b1, b2, b3⟩
    · have e2 : o2 = none := e2
      subst e2
      refine .inl ⟨_, _, _, _, dx, dy, fs, gs, rfl, rfl, a1, b1, R.X.R.eC, k.fCC, x, z, _, rfl, ⟨dx, fs, a1, a2⟩, .inl ⟨y, z2, rfl, ⟨dy, gs, b1, b2⟩, ?_⟩⟩
      rw [show decide (z = z2) = decide ((z, (none : Option Str)) = (z2, none)) from decide_eq_decide.mpr ⟨fun h => by rw [h], fun h => by cases h; rfl⟩]
      exact q
    · have e2 : o2 = some b' := e2
      subst e2
      refine .inl ⟨_, _, _, _, dx, dy, fs, gs, rfl, rfl, a1, b1, R.X.R.eC, k.fCG, x, z, _, rfl, ⟨dx, fs, a1, a2⟩, .inr ⟨⟨_, k.dG.ty b1, k.gc⟩, ?_⟩⟩
      rw [← show decide ((z, (none : Option Str)) = (z2, some b')) = false from decide_eq_false (fun h => by cases h)]
      exact q
  · have e1 : o = some b := e1
    subst e1
    rcases h2 with ⟨e2, dy, gs, b1, b2⟩ | ⟨b', e2, dy, gs, b1, b2, b3⟩
    · have e2 : o2 = none := e2
      subst e2
      refine .inr ⟨_, _, _, _, dx, dy, fs, gs, rfl, rfl, a1, b1, R.X.R.eG, k.fGC, x, z, b, _, rfl, ⟨dx, fs, a1, a2, a3⟩, .inr ⟨⟨_, k.dC.ty b1, k.cg⟩, ?_⟩⟩
      rw [← show decide ((z, some b) = (z2, (none : Option Str))) = false from decide_eq_false (fun h => by cases h)]
      exact q
    · have e2 : o2 = some b' := e2
      subst e2
      refine .inr ⟨_, _, _, _, dx, dy, fs, gs, rfl, rfl, a1, b1, R.X.R.eG, k.fGG, x, z, b, _, rfl, ⟨dx, fs, a1, a2, a3⟩, .inl ⟨y, z2, b', rfl, ⟨dy, gs, b1, b2, b3⟩, ?_⟩⟩
      have e : (decide (z = z2) && decide (b = b')) = decide ((z, some b) = (z2, some b')) := by
        by_cases c1 : z = z2
        · by_cases c2 : b = b'
          · rw [c1, c2]
            simp
          · simp [c2]
        · simp [c1]
      rw [e]
      exact q
abbrev nWa : List Str := ["_law_row_so", "_law_some_here", "_law_found", "_law_deed_here", "_law_other", "_law_due", "_law_parts_so", "_law_others", "_law_alike"]
theorem scWa : FnScope nWa ["_law_row_so", "_law_some_here"] (defScope sWa) := ⟨rfl, rfl, rfl, by decide +kernel, rfl, by decide +kernel, by decide +kernel⟩
theorem ok_Wa {f : Addr} {fd : FuncData} (R : RK P w K mg base a CN) (F : Fun K "_law_walked_right" "_law_walked_right" sWa f fd) (n_zip : mg "zip" = none) : FnOk P w K mg base CX0 7 f fd ["_law_row_so", "_law_some_here"] (spWa a) := by
  refine F.ok scWa (fun vs H Q E h => ?_) (fun cdv A outer s H vs Q E hr h => ?_)
  · obtain ⟨r, l, ks, ts, ds, rfl, _⟩ := h
    rfl
  · have hr6 : Room 6 _ := hr
    have hr3 := hr6.mono (show 3 ≤ 6 by decide)
    have hr2 := hr6.mono (show 2 ≤ 6 by decide)
    have hr1 := hr6.mono (show 1 ≤ 6 by decide)
    have hud := hr.units
    have hu0 : (A.deeper (envOfC "_law_walked_right" (defScope sWa) s.heap.objs.size f cdv)).units < cLine := by omega
    obtain ⟨r, l, ks, ts, ds, rfl, hrow, hd, el, pt, gd, l10, q⟩ := h
    refine ⟨_, (pss_cons (ps_set (i := 2) scWa.nd rfl (Or.inl rfl) (pe_lst pa_nil))
    (pss_cons (ps_for PassesOwn.never rfl (OwR.pi_own (pv 0) R.iT hr1 pass0) (pg_name (i := 3) scWa.nd rfl (Or.inl rfl)) (pss_one (ps_for PassesOwn.never rfl (OwR.pi_own (pv 0) R.iT hr1 pass0) (pg_name (i := 4) scWa.nd rfl (Or.inl rfl)) (pss_one (ps_expr (pe_bm PySem.F.plainAttrs_list PySem.F.slot_list_append PySem.F.type_list_append mt_append (pv 2) (pa_cons (pe_tup (pa_cons (OwR.pe_get (pv 3) (getParts R.X.R hr2)) (pa_cons (OwR.pe_get (pv 4) (getParts R.X.R hr2)) pa_nil))) pa_nil)))))))
    (pss_cons (ps_set (i := 5) scWa.nd rfl (Or.inl rfl) (pe_lst pa_nil))
    (pss_cons (ps_for PassesOwn.never rfl (pi_list (pv 1)) (pg_name (i := 6) scWa.nd rfl (Or.inr rfl)) (pss_one (ps_set (i := 5) scWa.nd rfl (Or.inl rfl) (pe_op op_cat (pv 5) (pe_lc (own := [("_law_others", 7)]) (by rfl) scWa.nd (pi_list (pv 1)) (blkOk_by (own := [("_law_others", 7)]) (N := nWa) (sc := defScope sWa) (by decide +kernel)) (fun _ _ _ _ _ => (pg_name (i := 7) scWa.nd rfl (Or.inl rfl))) (fun _ _ _ _ _ => pts_nil) (fun _ _ _ _ _ => (pe_tup (pa_cons (pv 6) (pa_cons (pv 7) pa_nil)))))))))
    (pss_cons (ps_setLc (i := 8) (own := [("_law_deed_here", 3), ("_law_other", 4)]) (g := (gTup K 2 (gCons (gName 3) (gCons (gName 4) gNil)))) (by rfl) scWa.nd rfl rfl (sw_true rfl rfl rfl (by decide +kernel)) (OwZ2.pi_zipO (by rfl) n_zip (pa_cons (pv 0) (pa_cons (pv 0) pa_nil)) R.iT hr3 pass0) (blkOk_by (own := [("_law_deed_here", 3), ("_law_other", 4)]) (N := nWa) (sc := defScope sWa) (by decide +kernel)) (fun _ _ _ _ _ => (pg_tup rfl (pgs_cons (pg_name (i := 3) scWa.nd rfl (Or.inl rfl)) (pgs_cons (pg_name (i := 4) scWa.nd rfl (Or.inl rfl)) pgs_nil)))) (fun _ _ _ _ _ => pts_one (pt_cmpR (OwR.OpR.or (OwR.op_ownEqK (K := K) (E := E0) rfl hu0 R.X.R.comeE hr1 pass0) (OwR.op_ownEqK (K := K) (E := E0) rfl hu0 R.X.R.goE hr1 pass0)) (pv 3) (pv 4) (nomark _))) (fun _ _ _ _ _ => (OwR.pe_get (pv 3) (getParts R.X.R hr2))))
    (pss_one (ps_ret (pe_and (pe_cmpR (op_eqD hud) (pv 2) (pv 5) (nomark _)) (pe_one (pe_cmpR (op_eqD hud) (pv 8) (pv 1) (nomark _))))))))))), ?_⟩
    have sz := sizeLine_eq
    obtain ⟨dx, fs, m, er, lkr, em, lu⟩ := id hrow
    have lk10 : ks.length ≤ 10 := by rw [hd.len]; exact l10
    have lt10 : ts.length ≤ 10 := by rw [pt.len]; exact l10
    refine ⟨by show 0 ≤ sizeLine; decide, fun L hL => ?_⟩
    have s1 := Same.of_new (o := .lst []) hL
    refine ⟨_, rfl, r, _, dx, m, fs, _, rfl, s1 _ _ er, R.it, lkr, SqT.of (s1 _ _ em), ?_⟩
    refine for_it (walk_tup (xs := ks.map V.ref)) (fun i σ Hx => Same H Hx ∧ (∃ x3 x4 x5 x6 x7 x8, σ = [some (.ref r), some (.ref l), some (.ref L), x3, x4, x5, x6, x7, x8]) ∧ ∃ us : List Addr, Hx L = some (.lst (us.map V.ref)) ∧ PairsAt Hx us (prodL (ds.take i) ds)) ⟨s1, ⟨_, _, _, _, _, _, rfl⟩, [], upd_same, .nil⟩ (fun i σ Hx _ q => SqT.of (q.1 _ _ em)) (fun i x σ Hx Hy hi q0 y => ?_) (fun σ Hx q0 => ?_)
    · obtain ⟨t1, ⟨x3, x4, x5, x6, x7, x8, rfl⟩, us, eL, pu⟩ := q0
      obtain ⟨rfl, hx⟩ := y
      obtain ⟨k1, d, rfl, hk1, hd1, hk⟩ := (hd.same t1).get hx
      refine ⟨_, rfl, r, _, dx, m, fs, _, rfl, t1 _ _ er, R.it, lkr, SqT.of (t1 _ _ em), ?_⟩
      refine for_it (walk_tup (xs := ks.map V.ref)) (fun j σ Hz => Same H Hz ∧ (∃ x4 x5 x6 x7 x8, σ = [some (.ref r), some (.ref l), some (.ref L), some (.ref k1), x4, x5, x6, x7, x8]) ∧ ∃ us : List Addr, Hz L = some (.lst (us.map V.ref)) ∧ PairsAt Hz us (prodL (ds.take i) ds ++ (ds.take j).map fun e => (d, e))) ⟨t1, ⟨_, _, _, _, _, rfl⟩, us, eL, by rw [List.take_zero, List.map_nil, List.append_nil]; exact pu⟩ (fun j σ Hz _ q => SqT.of (q.1 _ _ em)) (fun j x σ Hz Hw hj q1 y => ?_) (fun σ Hz q1 => ?_)
      · obtain ⟨t2, ⟨x4, x5, x6, x7, x8, rfl⟩, us, eL, pu⟩ := q1
        obtain ⟨rfl, hx⟩ := y
        obtain ⟨k2, e, rfl, hk2, he1, hk3⟩ := (hd.same t2).get hx
        have hk3' := (hd.same t2).at_ i k1 d hk1 hd1
        refine ⟨_, rfl, .inl ⟨rfl, _, SqL.of eL⟩, _, rfl, parts_of hk3' fun p1 hp1 => ?_⟩
        have u1 := Same.of_new (o := .tup (partsV d)) hp1
        refine ⟨_, rfl, parts_of (hk3.same u1) fun p2 hp2 => ⟨by show (2 : Nat) ≤ sizeLine; omega, fun p3 hp3 => ?_⟩⟩
        have u2 := Same.of_new (o := .tup (partsV e)) hp2
        have u3 := Same.of_new (o := .tup [.ref p1, .ref p2]) hp3
        have u13 := (u1.trans u2).trans u3
        have eL2 := u13 _ _ eL
        have lu : us.length ≤ 200 := by
          rw [pu.len, List.length_append, List.length_map, prod_len, List.length_take, List.length_take]
          have := lens_le (n := min i ds.length) (m := ds.length) (by omega) l10
          omega
        refine ⟨_, _, _, rfl, rfl, eL2, by rw [List.length_map]; omega, ?_⟩
        have keep : ∀ k xs, upd (upd (upd _ p1 (.tup (partsV d))) p2 (.tup (partsV e))) p3 (.tup [.ref p1, .ref p2]) k = some (.tup xs) → upd (upd (upd (upd _ p1 (.tup (partsV d))) p2 (.tup (partsV e))) p3 (.tup [.ref p1, .ref p2])) L (.lst (us.map V.ref ++ [V.ref p3])) k = some (.tup xs) := fun k xs e => by
          rw [upd_ne (fun q => by rw [q, eL2] at e; cases e)]
          exact e
        refine ⟨fun b o h => ?_, ⟨_, _, _, _, _, rfl⟩, us ++ [p3], by rw [List.map_append]; exact upd_same, ?_⟩
        · rw [upd_ne (ne_of_none h hL)]
          exact u13 _ _ (t2 b o h)
        · rw [List.take_add_one, he1, List.map_append, ← List.append_assoc]
          exact ((pu.same u13).mono keep).app (.one (keep _ _ upd_same) (keep _ _ (u3 _ _ (u2 _ _ upd_same))) (keep _ _ (u3 _ _ upd_same)))
      · obtain ⟨t2, ⟨x4, x5, x6, x7, x8, rfl⟩, us, eL, pu⟩ := q1
        rw [List.length_map, hd.len, List.take_length, ← prod_next hd1] at pu
        exact ⟨t2, ⟨_, _, _, _, _, _, rfl⟩, us, eL, pu⟩
    obtain ⟨t1, ⟨x3, x4, x5, x6, x7, x8, rfl⟩, us, eL, pu⟩ := q0
    rw [List.length_map, hd.len, List.take_length] at pu
    refine ⟨by show 0 ≤ sizeLine; decide, fun M hM => ?_⟩
    have v1 := Same.of_new (o := .lst []) hM
    have t2 := t1.trans v1
    refine ⟨_, rfl, l, rfl, ⟨_, SqL.of (t2 _ _ el)⟩, ?_⟩
    refine for_it (walk_list (xs := ts.map V.ref)) (fun i σ Hx' => Same Hx Hx' ∧ (∃ x6 x7 x8 M, σ = [some (.ref r), some (.ref l), some (.ref L), x3, x4, some (.ref M), x6, x7, x8] ∧ ∃ us : List Addr, Hx' M = some (.lst (us.map V.ref)) ∧ PairsAt Hx' us (prodL (ds.take i) ds))) ⟨v1, _, _, _, M, rfl, [], upd_same, .nil⟩ (fun i σ Hy _ q => SqL.of (q.1 _ _ (t1 _ _ el))) (fun i x σ Hy Hz hi q0 y => ?_) (fun σ Hy q0 => ?_)
    · obtain ⟨w1, x6, x7, x8, M1, rfl, us1, eM, pu1⟩ := q0
      obtain ⟨rfl, hx⟩ := y
      have t3 := t1.trans w1
      obtain ⟨a1, d, rfl, ha1, hd1, ea1⟩ := (pt.same t3).get hx
      rw [List.length_map] at hi
      refine ⟨_, rfl, _, rfl, l, rfl, ⟨_, SqL.of (t3 _ _ el)⟩, fun D hD => ?_⟩
      refine lc_it (walk_list (xs := ts.map V.ref)) (fun j Hw => Same Hz Hw ∧ ∃ vs : List Addr, Hw D = some (.lst (vs.map V.ref)) ∧ PairsAt Hw vs ((ds.take j).map fun e => (d, e))) ⟨Same.of_new hD, [], upd_same, .nil⟩ (fun j Hw _ q => SqL.of (q.1 _ _ (t3 _ _ el))) (fun j x Hw Hv hj q1 y => ?_) (fun Hw q1 => ?_)
      · obtain ⟨w2, vs, eD, pv⟩ := q1
        obtain ⟨rfl, hx⟩ := y
        obtain ⟨b1, e, rfl, hb1, he1, eb1⟩ := ((pt.same t3).same w2).get hx
        rw [List.length_map] at hj
        have lv : vs.length ≤ 10 := by
          rw [pv.len, List.length_map, List.length_take]
          omega
        refine ⟨rfl, ?_⟩
        refine ⟨_, rfl, _, rfl, by show (2 : Nat) ≤ sizeLine; omega, fun T hT => ?_⟩
        have uT := Same.of_new (o := .tup [.ref a1, .ref b1]) hT
        have eD2 := uT _ _ eD
        have keep : ∀ k xs, upd _ T (.tup [.ref a1, .ref b1]) k = some (.tup xs) → upd (upd _ T (.tup [.ref a1, .ref b1])) D (.lst (vs.map V.ref ++ [V.ref T])) k = some (.tup xs) := fun k xs e => by
          rw [upd_ne (fun q => by rw [q, eD2] at e; cases e)]
          exact e
        refine ⟨_, eD2, by rw [List.length_map]; omega, fun b o h => ?_, vs ++ [T], by rw [List.map_append]; exact upd_same, ?_⟩
        · rw [upd_ne (ne_of_none h hD)]
          exact uT _ _ (w2 b o h)
        · rw [List.take_add_one, he1, List.map_append]
          exact ((pv.same uT).mono keep).app (.one (keep _ _ upd_same) (keep _ _ (uT _ _ (w2 _ _ ea1))) (keep _ _ (uT _ _ eb1)))
      · obtain ⟨w2, vs, eD, pv⟩ := q1
        rw [List.length_map, pt.len, List.take_length] at pv
        have lv : vs.length ≤ 10 := by rw [pv.len, List.length_map]; exact l10
        have lu : us1.length ≤ 100 := by
          rw [pu1.len, prod_len, List.length_take]
          exact lens_le (by omega) l10
        refine ⟨M1, D, _, _, rfl, rfl, w2 _ _ eM, eD, by rw [List.length_map, List.length_map]; omega, fun p hp => ?_⟩
        have up := Same.of_new (o := .lst (us1.map V.ref ++ vs.map V.ref)) hp
        refine ⟨(w1.trans w2).trans up, _, _, _, p, rfl, us1 ++ vs, by rw [List.map_append]; exact upd_same, ?_⟩
        rw [prod_next hd1]
        exact ((pu1.same w2).same up).app (pv.same up)
    obtain ⟨w1, x6, x7, x8, M1, rfl, us1, eM, pu1⟩ := q0
    rw [List.length_map, pt.len, List.take_length] at pu1
    have t3 := t1.trans w1
    refine ⟨_, rfl, _, rfl, r, r, _, _, dx, dx, m, m, fs, fs, _, _, rfl, t3 _ _ er, R.it, lkr, SqT.of (t3 _ _ em), t3 _ _ er, R.it, lkr, SqT.of (t3 _ _ em), fun D hD => ?_⟩
    have hn : ds.length = min (ks.map V.ref).length (ks.map V.ref).length := by rw [List.length_map, hd.len, Nat.min_self]
    refine lc_it (walk_zipT (xs := ks.map V.ref) (ys := ks.map V.ref) hn) (fun i Hx => Same Hy Hx ∧ ∃ ts1 : List Addr, Hx D = some (.lst (ts1.map V.ref)) ∧ PartsAt Hx ts1 (ds.take i)) ⟨Same.of_new hD, [], upd_same, ⟨rfl, fun i t d e => by cases e⟩⟩ (fun i Hx _ q => ⟨SqT.of (q.1 _ _ (t3 _ _ em)), SqT.of (q.1 _ _ (t3 _ _ em))⟩) (fun i x Hz Hw hi q0 y => ?_) (fun Hz q0 => ?_)
    · obtain ⟨v4, ts1, eD, pt1⟩ := q0
      obtain ⟨T, x, z, rfl, hT, rfl, hx, hz⟩ := y
      have uT := Same.of_new (o := .tup [x, z]) hT
      obtain ⟨k1, d, rfl, hk1, hd1, hk⟩ := ((hd.same t3).same v4).get hx
      obtain rfl : V.ref k1 = z := Option.some.inj (hx.symm.trans hz)
      have lt : ts1.length = i := by
        rw [pt1.len, List.length_take]
        omega
      refine ⟨T, _, rfl, .inl (.inl upd_same), rfl, _, _, rfl, _, _, rfl, rfl, rfl, ?_⟩
      refine ⟨_, rfl, _, rfl, deed_cmp R (hk.same uT) (hk.same uT) ?_⟩
      rw [decide_eq_true rfl]
      refine ⟨_, rfl, iteT ?_⟩
      refine ⟨_, rfl, parts_of (hk.same uT) fun p hp => ?_⟩
      have sp := uT.trans (Same.of_new (o := .tup (partsV d)) hp)
      have eD2 := sp _ _ eD
      refine ⟨_, eD2, by rw [List.length_map]; omega, fun b o e => ?_, ts1 ++ [p], ?_, ?_⟩
      · rw [upd_ne (ne_of_none e hD)]
        exact sp _ _ (v4 b o e)
      · rw [List.map_append]
        exact upd_same
      · rw [List.take_add_one, hd1]
        have keep : ∀ k xs, upd (upd _ T (.tup [.ref k1, .ref k1])) p (.tup (partsV d)) k = some (.tup xs) → upd (upd (upd _ T (.tup [.ref k1, .ref k1])) p (.tup (partsV d))) D (.lst (ts1.map V.ref ++ [V.ref p])) k = some (.tup xs) := fun k xs e => by
          rw [upd_ne (fun q => by rw [q, eD2] at e; cases e)]
          exact e
        exact ((pt1.same sp).mono keep).snoc (keep _ _ upd_same)
    obtain ⟨v4, ts1, eD, pt1⟩ := q0
    rw [List.take_length] at pt1
    have t4 := t3.trans v4
    have sh := pairs_shaped (ps := prodL ds ds) fun p hp => ⟨gd _ (prod_mem hp).1, gd _ (prod_mem hp).2⟩
    have w14 := w1.trans v4
    refine ⟨_, rfl, _, rfl, .list ((prodL ds ds).map pairD), .list ((prodL ds ds).map pairD), .lst (SqL.of (w14 _ _ eL)) (pu.same w14).dp, .lst (SqL.of (v4 _ _ eM)) (pu1.same v4).dp, sh, sh, ?_⟩
    rw [SeqAt.eqv_refl _ (SeqAt.canLay_of_shaped sh)]
    refine ⟨true, rfl, iteT ?_⟩
    have sh2 := (parts_shaped gd).1
    refine ⟨_, rfl, _, rfl, .list (ds.map partsD), .list (ds.map partsD), .lst (SqL.of eD) pt1.dp, .lst (SqL.of (t4 _ _ el)) (pt.same t4).dp, sh2, sh2, ?_⟩
    rw [parts_eqvL, decide_eq_true rfl]
    exact q _ t4
end
end K10
end
section
set_option pp.maxSteps 400
set_option pp.deepTerms.threshold 6
namespace K10
open PySem PySem.Spec PyProof.Rows L2
open OwR in
theorem pip_of {X : Cx} {op : Operator} {rd : V → V → Hp → VK → Prop} (h : InOp X op rd) : PIp X op rd := fun pins s σ H x y u v Q I rx ry q => h pins s σ H x y u v Q I rx ry q
abbrev sJo : Stmt := top 32
theorem spRi_len {a : DAd} : ∀ vs H Q E, spRi a vs H Q E → vs.length = (["_law_row_so", "_law_some_here"] : List Str).length := fun vs H Q E h => by
  obtain ⟨r, l, ks, ts, ds, rfl, _⟩ := h
  rfl
def spJo (a : DAd) : Sp := fun vs H Q _ => ∃ (r1 r2 l1 l2 : Addr) (ks js ts us : List Addr) (ds es : List Dd), vs = [.ref r1, .ref r2, .ref l1, .ref l2] ∧ RowAt a H r1 ks ∧ DeedsAt a H ks ds ∧ RowAt a H r2 js ∧ DeedsAt a H js es ∧ H l1 = some (.lst (ts.map V.ref)) ∧ PartsAt H ts ds ∧ H l2 = some (.lst (us.map V.ref)) ∧ PartsAt H us es ∧ (∀ d ∈ ds, GoodD d) ∧ (∀ d ∈ es, GoodD d) ∧ ds.length ≤ 10 ∧ es.length ≤ 10 ∧ ∀ H', Same H H' → Q (.bl true) H'
theorem spJo_len {a : DAd} : ∀ vs H Q E, spJo a vs H Q E → vs.length = (["_law_one", "_law_two", "_law_some_here", "_law_more"] : List Str).length := fun vs H Q E h => by
  obtain ⟨r1, r2, l1, l2, ks, js, ts, us, ds, es, rfl, _⟩ := h
  rfl
theorem PartsAt.app {H : Hp} {ts us : List Addr} {ds es : List Dd} (h : PartsAt H ts ds) (g : PartsAt H us es) : PartsAt H (ts ++ us) (ds ++ es) := by
  refine ⟨by rw [List.length_append, List.length_append, h.len, g.len], fun i k c e1 e2 => ?_⟩
  rcases Nat.lt_or_ge i ts.length with lt | ge
  · rw [List.getElem?_append_left lt] at e1
    rw [List.getElem?_append_left (by rw [← h.len]; exact lt)] at e2
    exact h.at_ i k c e1 e2
  · rw [List.getElem?_append_right ge] at e1
    rw [List.getElem?_append_right (by rw [← h.len]; exact ge), ← h.len] at e2
    exact g.at_ _ k c e1 e2
section
variable {P : Program} {w : World} {K : PySem.W.Frag} {mg : Str → Option Value} {base : Heap} {a : DAd} {CN : Addr}
theorem DeedsAt.one {H : Hp} {k : Addr} {d : Dd} (h : DeedAt a H k d) : DeedsAt a H [k] [d] := ⟨rfl, fun i t e e1 e2 => by
  match i, e1, e2 with
  | 0, e1, e2 =>
    cases e1
    cases e2
    exact h⟩
/-- row + row -/
theorem row_add (R : RK P w K mg base a CN) {H : Hp} {x y : Addr} {ks js : List Addr} {ds es : List Dd} {Q : VK} {E : XK} (h1 : RowAt a H x ks) (d1 : DeedsAt a H ks ds) (h2 : RowAt a H y js) (d2 : DeedsAt a H js es) (l : ks.length + js.length ≤ 1000) (q : ∀ r H', Same H H' → RowAt a H' r (ks ++ js) → Q (.ref r) H') : OwR.rOwn2 K .Add a.fAdd (spRA K a) E (.ref x) (.ref y) H Q := by
  obtain ⟨dx, fs, l1, e1, _⟩ := id h1
  obtain ⟨dy, gs, l2, e2, _⟩ := id h2
  exact ⟨x, y, _, _, dx, dy, fs, gs, rfl, rfl, e1, e2, ⟨R.add, .inl rfl⟩, x, y, ks, ds, js, es, rfl, h1, d1, d2, .inr h2, l, q⟩
theorem row_noi (R : RK P w K mg base a CN) {H : Hp} {x : Addr} {ks : List Addr} (h1 : RowAt a H x ks) : ∀ p, V.ref x = .ref p → ∀ C dx fs, H p = some (.ins C dx fs) → OwR.noIn K C (dunderI Operator.Add.info.2) = true := fun p e C dx fs h => by
  cases e
  obtain ⟨dx', fs', l1, e1, _⟩ := h1
  rw [e1] at h
  cases h
  exact R.iadd
/-- row + deed -/
theorem deed_add (R : RK P w K mg base a CN) {H : Hp} {x y : Addr} {ks : List Addr} {ds : List Dd} {d : Dd} {Q : VK} {E : XK} (h1 : RowAt a H x ks) (d1 : DeedsAt a H ks ds) (h2 : DeedAt a H y d) (l : ks.length + 1 ≤ 1000) (q : ∀ r H', Same H H' → RowAt a H' r (ks ++ [y]) → Q (.ref r) H') : OwR.rOwnN K .Add a.fAdd (spRA K a) E (.ref x) (.ref y) H Q := by
  obtain ⟨dx, fs, l1, e1, _⟩ := id h1
  have sp : spRA K a [.ref x, .ref y] H Q E := ⟨x, y, ks, ds, [y], [d], rfl, h1, d1, .one h2, .inl rfl, l, q⟩
  rcases h2 with ⟨e, dy, gs, a1, a2⟩ | ⟨b, e, dy, gs, a1, a2, a3⟩
  · exact ⟨x, y, _, _, dx, dy, fs, gs, rfl, rfl, e1, a1, R.add, R.nC, R.rc, R.sC, sp⟩
  · exact ⟨x, y, _, _, dx, dy, fs, gs, rfl, rfl, e1, a1, R.add, R.nG, R.rg, R.sG, sp⟩
abbrev nJo : List Str := ["_law_one", "_law_two", "_law_some_here", "_law_more", "_law_held", "_law_parts_so"]
theorem scJo : FnScope nJo ["_law_one", "_law_two", "_law_some_here", "_law_more"] (defScope sJo) := ⟨rfl, rfl, rfl, by decide +kernel, rfl, by decide +kernel, by decide +kernel⟩
theorem ok_Jo {f fRi fMd : Addr} {fd fdRi fdMd : FuncData} (R : RK P w K mg base a CN) (F : Fun K "_law_joined_right" "_law_joined_right" sJo f fd) (G_right : OwR.FnG P w K mg base CX0 7 fRi fdRi ["_law_row_so", "_law_some_here"] (spRi a)) (g_right : mg "_law_right" = some (.ref fRi)) (kp_right : PySem.W.keepIn K (.ref fRi) = true) (b_right : Binds K fdRi ["_law_row_so", "_law_some_here"] [])
    (F_made : Fun K "_law_made" "_law_made" sLM fMd fdMd) (g_made : mg "_law_made" = some (.ref fMd)) : OwR.FnG P w K mg base CX0 8 f fd ["_law_one", "_law_two", "_law_some_here", "_law_more"] (spJo a) := by
  have G_made : FnOk P w K mg base (L2.CX P w) 6 fMd fdMd ["_law_parts_so"] (spLM a) := ok_LM R.X F_made
  have b_made : Binds K fdMd ["_law_parts_so"] [] := F_made.binds fun _ _ _ _ _ _ us hl => match us, hl with | [_], _ => rfl
  obtain ⟨oc, od, kV, doc, pm, an, cdv, ct, osl, rfl, lk, hcd⟩ := F.ex
  refine OwR.fn_ofG (k := 7) lk hcd scJo (fun vs H Q E h => spJo_len vs H Q E h) fun A outer s H vs Q E hgd0 hr h => ?_
  have hgd : (A.deeper (envOfC "_law_joined_right" (defScope sJo) s.heap.objs.size f cdv)).guards = some [] := hgd0
  have hr7 : Room 7 _ := hr
  have hr6 := hr7.mono (show 6 ≤ 7 by decide)
  have hr3 := hr7.mono (show 3 ≤ 7 by decide)
  have hud := hr.units
  have hu0 : (A.deeper (envOfC "_law_joined_right" (defScope sJo) s.heap.objs.size f cdv)).units < cLine := by omega
  obtain ⟨r1, r2, l1, l2, ks, js, ts, us, ds, es, rfl, w1, d1, w2, d2, e1, p1, e2, p2, g1, g2, n1, n2, q⟩ := h
  refine ⟨_, PSs.nox (pss_cons (ps_if (PW.pt (pw_or (pt_not (pt_val (OwR.pe_callG G_right spRi_len hgd hr7 (by rfl) g_right kp_right b_right pass0 (pa_cons (pe_op (OwR.op_own2 R.addF hr6 passL) (pv 0) (pv 1)) (pa_cons (pe_op op_cat (pv 2) (pv 3)) pa_nil))))) (pw_or (pt_not (pt_val (OwR.pe_callG G_right spRi_len hgd hr7 (by rfl) g_right kp_right b_right pass0 (pa_cons (pv 0) (pa_cons (pv 2) pa_nil))))) (pw_or1 (pt_not (pt_val (OwR.pe_callG G_right spRi_len hgd hr7 (by rfl) g_right kp_right b_right pass0 (pa_cons (pv 1) (pa_cons (pv 3) pa_nil))))))))) (pss_one (ps_ret pe_bl)) pss_nil)
    (pss_cons (ps_set (i := 4) scJo.nd rfl (Or.inl rfl) (pv 0))
    (pss_cons (ps_aug (i := 4) scJo.nd rfl (Or.inl rfl) (pv 1) (pip_of (OwR.in_own2 R.addF hr6 passL)))
    (pss_cons (ps_for PassesOwn.never rfl (pi_list (pv 3)) (pg_name (i := 5) scJo.nd rfl (Or.inl rfl)) (pss_one (ps_aug (i := 4) scJo.nd rfl (Or.inl rfl) (pe_call G_made hr6 (by rfl) g_made F_made.kp b_made .nil passL (pa_cons (pv 5) pa_nil)) (pip_of (OwR.in_ownN R.addF hr6 passL)))))
    (pss_one (ps_ret (pe_and (OwR.pe_callG G_right spRi_len hgd hr7 (by rfl) g_right kp_right b_right pass0 (pa_cons (pv 4) (pa_cons (pe_op op_cat (pe_op op_cat (pv 2) (pv 3)) (pv 3)) pa_nil))) (pe_and (OwR.pe_callG G_right spRi_len hgd hr7 (by rfl) g_right kp_right b_right pass0 (pa_cons (pv 0) (pa_cons (pv 2) pa_nil))) (pe_one (pe_cmpR op_eq (pe_cmpR (OwR.op_ownEq hu0 R.eqF hr3 pass0) (pv 0) (pv 1) (nomark _)) (pe_cmpR (op_eqD hud) (pv 2) (pv 3) (nomark _)) (nomark _))))))))))), ?_⟩
  have sz := sizeLine_eq
  have lk1 : ks.length ≤ 10 := by rw [d1.len]; exact n1
  have lj1 : js.length ≤ 10 := by rw [d2.len]; exact n2
  have lt1 : ts.length ≤ 10 := by rw [p1.len]; exact n1
  have lu1 : us.length ≤ 10 := by rw [p2.len]; exact n2
  have g12 : ∀ d ∈ ds ++ es, GoodD d := fun d hd => (List.mem_append.mp hd).elim (g1 d) (g2 d)
  have g122 : ∀ d ∈ ds ++ es ++ es, GoodD d := fun d hd => (List.mem_append.mp hd).elim (g12 d) (g2 d)
  refine ⟨_, rfl, _, rfl, row_add R w1 d1 w2 d2 (by omega) fun r H1 s1 w3 => ?_⟩
  refine ⟨_, rfl, _, rfl, l1, l2, _, _, rfl, rfl, s1 _ _ e1, s1 _ _ e2, by rw [List.length_map, List.length_map]; omega, fun l3 hl3 => ?_⟩
  have u2 := Same.of_new (o := .lst (ts.map V.ref ++ us.map V.ref)) hl3
  have s2 := s1.trans u2
  refine ⟨r, l3, ks ++ js, ts ++ us, ds ++ es, rfl, w3.same u2, (d1.same s2).app (d2.same s2), by rw [List.map_append]; exact upd_same, (p1.same s2).app (p2.same s2), g12, by rw [List.length_append]; omega, fun H3 u3 => ?_⟩
  have s3 := s2.trans u3
  refine ⟨_, rfl, iteF ?_⟩
  refine ⟨_, rfl, _, rfl, r1, l1, ks, ts, ds, rfl, w1.same s3, d1.same s3, s3 _ _ e1, p1.same s3, g1, by omega, fun H4 u4 => ?_⟩
  have s4 := s3.trans u4
  refine ⟨_, rfl, iteF ?_⟩
  refine ⟨_, rfl, _, rfl, r2, l2, js, us, es, rfl, w2.same s4, d2.same s4, s4 _ _ e2, p2.same s4, g2, by omega, fun H5 u5 => ?_⟩
  have s5 := s4.trans u5
  refine ⟨_, rfl, iteF ?_⟩
  refine ⟨_, rfl, ?_⟩
  refine ⟨_, rfl, _, rfl, row_noi R (w1.same s5), row_add R (w1.same s5) (d1.same s5) (w2.same s5) (d2.same s5) (by omega) fun r6 H6 u6 w6 => ?_⟩
  have s6 := s5.trans u6
  refine ⟨_, rfl, l2, rfl, ⟨_, SqL.of (s6 _ _ e2)⟩, ?_⟩
  refine for_it (walk_list (xs := us.map V.ref)) (fun i σ Hx => Same H6 Hx ∧ ∃ (rh : Addr) (x5 : Option V) (hs : List Addr), σ = [some (.ref r1), some (.ref r2), some (.ref l1), some (.ref l2), some (.ref rh), x5] ∧ RowAt a Hx rh (ks ++ js ++ hs) ∧ DeedsAt a Hx hs (es.take i)) ⟨Same.refl _, r6, none, [], rfl, by rw [List.append_nil]; exact w6, ⟨rfl, fun i k d e => by cases e⟩⟩ (fun i σ Hx _ q => SqL.of (q.1 _ _ (s6 _ _ e2))) (fun i x σ Hx Hy hi q0 y => ?_) (fun σ Hx q0 => ?_)
  · obtain ⟨t1, rh, x5, hs, rfl, wh, dh⟩ := q0
    obtain ⟨rfl, hx⟩ := y
    have s7 := s6.trans t1
    obtain ⟨b1, d, rfl, hb1, hd1, eb1⟩ := (p2.same s7).get hx
    rw [List.length_map] at hi
    have lh : hs.length ≤ 10 := by
      rw [dh.len, List.length_take]
      omega
    refine ⟨_, rfl, _, rfl, b1, d, rfl, eb1, g2 d (List.mem_of_getElem? hd1), fun k8 H8 u8 dk => ?_⟩
    have s8 := s7.trans u8
    have dall : DeedsAt a H8 (ks ++ js ++ hs) (ds ++ es ++ es.take i) := ((d1.same s8).app (d2.same s8)).app (dh.same u8)
    refine ⟨row_noi R (wh.same u8), deed_add R (wh.same u8) dall dk (by rw [List.length_append, List.length_append]; omega) fun r9 H9 u9 w9 => ?_⟩
    refine ⟨(t1.trans u8).trans u9, r9, _, hs ++ [k8], rfl, by rw [← List.append_assoc]; exact w9, ?_⟩
    rw [List.take_add_one, hd1]
    exact ((dh.same u8).app (.one dk)).same u9
  obtain ⟨t1, rh, x5, hs, rfl, wh, dh⟩ := q0
  rw [List.length_map, p2.len, List.take_length] at dh
  have s7 := s6.trans t1
  have lh : hs.length ≤ 10 := by rw [dh.len]; exact n2
  refine ⟨_, rfl, _, rfl, _, rfl, l1, l2, _, _, rfl, rfl, s7 _ _ e1, s7 _ _ e2, by rw [List.length_map, List.length_map]; omega, fun l8 hl8 => ?_⟩
  have u8 := Same.of_new (o := .lst (ts.map V.ref ++ us.map V.ref)) hl8
  have s8 := s7.trans u8
  refine ⟨_, rfl, l8, l2, _, _, rfl, rfl, upd_same, s8 _ _ e2, by rw [List.length_append, List.length_map, List.length_map]; omega, fun l9 hl9 => ?_⟩
  have u9 := Same.of_new (o := .lst (ts.map V.ref ++ us.map V.ref ++ us.map V.ref)) hl9
  have s9 := s8.trans u9
  refine ⟨rh, l9, ks ++ js ++ hs, ts ++ us ++ us, ds ++ es ++ es, rfl, (wh.same u8).same u9, ((d1.same s9).app (d2.same s9)).app ((dh.same u8).same u9), by rw [List.map_append, List.map_append]; exact upd_same, ((p1.same s9).app (p2.same s9)).app (p2.same s9), g122, by rw [List.length_append, List.length_append]; omega, fun H10 u10 => ?_⟩
  have s10 := s9.trans u10
  refine ⟨true, rfl, iteT ?_⟩
  refine ⟨_, rfl, _, rfl, r1, l1, ks, ts, ds, rfl, w1.same s10, d1.same s10, s10 _ _ e1, p1.same s10, g1, by omega, fun H11 u11 => ?_⟩
  have s11 := s10.trans u11
  refine ⟨true, rfl, iteT ?_⟩
  refine ⟨_, rfl, _, rfl, row_eq R (w1.same s11) (d1.same s11) (w2.same s11) (d2.same s11) ?_⟩
  refine ⟨_, rfl, _, rfl, .list (ds.map partsD), .list (es.map partsD), .lst (SqL.of (s11 _ _ e1)) (p1.same s11).dp, .lst (SqL.of (s11 _ _ e2)) (p2.same s11).dp, (parts_shaped g1).1, (parts_shaped g2).1, ?_⟩
  rw [parts_eqvL]
  refine ⟨rfl, ?_⟩
  rw [decide_eq_true rfl]
  exact q _ s11
end
end K10
end
section
set_option pp.maxSteps 400
set_option pp.deepTerms.threshold 6
namespace K10
open PySem PySem.Spec PyProof.Rows L2
abbrev sLaw : Stmt := top 33
def qLaw : Str := "law.<locals>.<lambda>"
theorem qLaw_eq : (("law" : Str) ++ ".<locals>.") ++ "<lambda>" = qLaw := by decide +kernel
def spLaw (K : PySem.W.Frag) (T : List (Addr × Str)) : Sp := fun vs H Q _ => ∃ (x : Addr) (ns : List Int), vs = [.ref x] ∧ SqL K H x (ns.map V.int) ∧ ns.length ≤ 63 ∧ LamX.Tabs T H ∧ ∀ H', Q (.bl true) H'
theorem spLaw_len {K : PySem.W.Frag} {T : List (Addr × Str)} : ∀ vs H Q E, spLaw K T vs H Q E → vs.length = (["_law_script"] : List Str).length := fun vs H Q E h => by
  obtain ⟨x, ns, rfl, _⟩ := h
  rfl
/-- what stands in a turn -/
structure LS (a : DAd) (T : List (Addr × Str)) (p c : Addr) (ns : List Int) (sl ml le r1 r2 : Addr) (ks js ts us : List Addr) (ds es : List Dd) (n : Nat) (z : Int) (H : Hp) : Prop where
  pen : PenAt H p c ns n z
  tabs : LamX.Tabs T H
  w1 : RowAt a H r1 ks
  d1 : DeedsAt a H ks ds
  w2 : RowAt a H r2 js
  d2 : DeedsAt a H js es
  esl : H sl = some (.lst (ts.map V.ref))
  pt : PartsAt H ts ds
  eml : H ml = some (.lst (us.map V.ref))
  pu : PartsAt H us es
  ele : H le = some (.lst (ks.map V.ref))
section
variable {a : DAd} {T : List (Addr × Str)} {p c : Addr} {ns : List Int} {sl ml le r1 r2 : Addr} {ks js ts us : List Addr} {ds es : List Dd} {n n' : Nat} {z z' : Int} {H H' : Hp}
theorem LS.lo (h : LS a T p c ns sl ml le r1 r2 ks js ts us ds es n z H) (s : Lo p H H') (P' : PenAt H' p c ns n' z') (tb : LamX.Tabs T H') : LS a T p c ns sl ml le r1 r2 ks js ts us ds es n' z' H' :=
  ⟨P', tb, h.w1.lo h.pen s, h.d1.lo h.pen s, h.w2.lo h.pen s, h.d2.lo h.pen s, lo_refs h.pen s h.esl, h.pt.lo h.pen s, lo_refs h.pen s h.eml, h.pu.lo h.pen s, lo_refs h.pen s h.ele⟩
theorem LS.same (h : LS a T p c ns sl ml le r1 r2 ks js ts us ds es n z H) (s : Same H H') : LS a T p c ns sl ml le r1 r2 ks js ts us ds es n z H' := h.lo (Same.lo p s) (h.pen.same s) (tabs_same h.tabs s)
theorem LS.but (h : LS a T p c ns sl ml le r1 r2 ks js ts us ds es n z H) (s : But p H H') (P' : PenAt H' p c ns n' z') : LS a T p c ns sl ml le r1 r2 ks js ts us ds es n' z' H' := h.lo s.lo P' (tabs_but h.tabs h.pen s)
end
/-- values that are no deeds -/
inductive OddV (a : DAd) (r1 : Addr) (H : Hp) : V → Prop
  | non : OddV a r1 H .non
  | int (i : Int) : OddV a r1 H (.int i)
  | str (z : Str) : OddV a r1 H (.str z)
  | bl (b : Bool) : OddV a r1 H (.bl b)
  | tup {t : Addr} {xs : List V} (e : H t = some (.tup xs)) : OddV a r1 H (.ref t)
  | lst {t : Addr} (e : H t = some (.lst [])) : OddV a r1 H (.ref t)
  | row {ks : List Addr} (w : RowAt a H r1 ks) : OddV a r1 H (.ref r1)
theorem OddV.lo {a : DAd} {r1 p c : Addr} {ns : List Int} {n : Nat} {z : Int} {H H' : Hp} {x : V} (h : OddV a r1 H x) (P : PenAt H p c ns n z) (s : Lo p H H') : OddV a r1 H' x := by
  cases h with
  | non => exact .non
  | int i => exact .int i
  | str z => exact .str z
  | bl b => exact .bl b
  | tup e => exact .tup (lo_tup P s e)
  | lst e => exact .lst (lo_refs (ks := []) P s e)
  | row w => exact .row (w.lo P s)
theorem OddV.same {a : DAd} {r1 : Addr} {H H' : Hp} {x : V} (h : OddV a r1 H x) (s : Same H H') : OddV a r1 H' x := by
  cases h with
  | non => exact .non
  | int i => exact .int i
  | str z => exact .str z
  | bl b => exact .bl b
  | tup e => exact .tup (s _ _ e)
  | lst e => exact .lst (s _ _ e)
  | row w => exact .row (w.same s)
theorem OddV.notD {P : Program} {w : World} {K : PySem.W.Frag} {mg : Str → Option Value} {base : Heap} {a : DAd} {CN r1 : Addr} {H : Hp} {x : V} (R : RK P w K mg base a CN) (h : OddV a r1 H x) : NotOf K H a.CD x := by
  have ty := fun T hT => (R.ty T hT).2.2
  cases h with
  | non => exact ⟨_, .base .non, ty "NoneType" (by decide)⟩
  | int i => exact ⟨_, .base (.int i), ty "int" (by decide)⟩
  | str z => exact ⟨_, .base (.str z), ty "str" (by decide)⟩
  | bl b => exact ⟨_, .base (.bl b), ty "bool" (by decide)⟩
  | tup e => exact ⟨_, .base (.tup e), ty "tuple" (by decide)⟩
  | lst e => exact ⟨_, .base (.lst e), ty "list" (by decide)⟩
  | row w =>
    obtain ⟨dx, fs, l, e, _⟩ := w
    exact ⟨_, R.X.R.k.dR.ty e, R.X.R.k.rd⟩
theorem lo_ext {p c : Addr} {ns : List Int} {n : Nat} {z : Int} {H H' H4 : Hp} (P : PenAt H p c ns n z) (eN : LamX.ExtN H H4) (s : Same H4 H') : Lo p H H' ∧ H' p = H p := ⟨(extN_lo p eN).trans (Same.lo p s), by
  rw [s _ _ ((P.ext eN).pen)]
  exact P.pen.symm⟩
/-- the answer of the ear as data -/
def earD (r : Str) : PyData := .tuple [.str "deed", .str r]
theorem ear_dp {K : PySem.W.Frag} {H : Hp} {t : Addr} {r : Str} (e : H t = some (.tup [.str "deed", .str r])) : Dp K H (.ref t) (earD r) := .tup (SqT.of e) (.cons (.str _) (.cons (.str _) .nil))
theorem ear_ok : ∀ m : Fin 41, SeqAt.shaped (earD (toString ((m.val : Nat) : Int))) = true := by decide +kernel
/-- row == a value of a built-in type -/
theorem row_neT {P : Program} {w : World} {K : PySem.W.Frag} {mg : Str → Option Value} {base : Heap} {a : DAd} {CN r1 : Addr} {ks : List Addr} {ds : List Dd} {H : Hp} {x : V} {T : String} {Q : VK} {E : XK} (R : RK P w K mg base a CN) (hT : T ∈ tyRow) (w1 : RowAt a H r1 ks) (d1 : DeedsAt a H ks ds) (ty : TyX K H x (.type T)) (q : Q (.bl false) H) : OwR.rCmpX K .Eq a.fEq (spRE K a) E (.ref r1) x H Q := by
  obtain ⟨dx, fs, l, e, _⟩ := id w1
  exact ⟨r1, _, dx, fs, _, rfl, e, ty, R.eq, (R.ty T hT).1, r1, x, ks, ds, rfl, w1, d1, .inr ⟨⟨_, ty, (R.ty T hT).2.1⟩, q⟩⟩
/-- a value that is no index of m things, and its text -/
theorem bad_ix {K : PySem.W.Frag} {m : Nat} {tz lz : Addr} {x : V} (lm : m ≤ 8) (h : x ∈ ([.int (m : Nat), .int (-1), .non, .bl true, .str "0", .ref tz, .int (10 ^ 30), .ref lz] : List V)) :
    ∃ r : Str, SeqAt.shaped (earD r) = true ∧ ∀ H : Hp, H tz = some (.tup [.int 0]) → H lz = some (.lst [.int 0]) → NotIn K H 0 ((m : Int) - 1) x ∧ OwE.RepV K H x r := by
  simp only [List.mem_cons, List.not_mem_nil, or_false] at h
  rcases h with rfl | rfl | rfl | rfl | rfl | rfl | rfl | rfl
  · refine ⟨toString ((m : Nat) : Int), ear_ok ⟨m, by omega⟩, fun H _ _ => ⟨.inl ⟨_, rfl, by omega⟩, .int (nums_ok ⟨m, by omega⟩).1⟩⟩
  · exact ⟨toString (-1 : Int), by decide +kernel, fun H _ _ => ⟨.inl ⟨_, rfl, by omega⟩, .int (by decide +kernel)⟩⟩
  · exact ⟨"None", by decide +kernel, fun H _ _ => ⟨.inr (.inr ⟨_, .base .non, kit_ty (by decide +kernel)⟩), .non⟩⟩
  · exact ⟨"True", by decide +kernel, fun H _ _ => ⟨.inr (.inl ⟨true, rfl⟩), .bl true⟩⟩
  · exact ⟨reprText "0", by decide +kernel, fun H _ _ => ⟨.inr (.inr ⟨_, .base (.str _), kit_ty (by decide +kernel)⟩), .str (by decide +kernel)⟩⟩
  · exact ⟨(PyData.tuple [.int 0]).shown, by decide +kernel, fun H et _ => ⟨.inr (.inr ⟨_, .base (.tup et), kit_ty (by decide +kernel)⟩), .dat (.tup (SqT.of et) (.cons (.int 0) .nil)) (by decide +kernel) (by decide +kernel) (by decide +kernel) (by decide +kernel)⟩⟩
  · refine ⟨toString (10 ^ 30 : Int), by decide +kernel, fun H _ _ => ⟨.inl ⟨_, rfl, ?_⟩, .int (by decide +kernel)⟩⟩
    have : (10 : Int) ^ 30 > 100 := by decide +kernel
    omega
  · exact ⟨(PyData.list [.int 0]).shown, by decide +kernel, fun H _ el => ⟨.inr (.inr ⟨_, .base (.lst el), kit_ty (by decide +kernel)⟩), .dat (.lst (SqL.of el) (.cons (.int 0) .nil)) (by decide +kernel) (by decide +kernel) (by decide +kernel) (by decide +kernel)⟩⟩
theorem cut_len {xs : List V} {lo hi : Option Int} : (cutV xs lo hi).length ≤ xs.length := by
  unfold cutV
  rw [List.length_take, List.length_drop]
  omega
section
variable {P : Program} {w : World} {K : PySem.W.Frag} {mg : Str → Option Value} {base : Heap}
abbrev nLaw : List Str := ["_law_script", "_law_pen_here", "_law_turn", "_law_some_here", "_law_more", "_law_lent", "_law_parts_so", "_law_one", "_law_two", "_law_spot", "_law_odd", "_law_wrong", "_law_bad", "_law_others", "_law_thing"]
theorem scLaw : FnScope nLaw ["_law_script"] (defScope sLaw) := ⟨rfl, rfl, rfl, by decide +kernel, rfl, by decide +kernel, by decide +kernel⟩
theorem ok_law {a : DAd} {CN CX f c0 Pt fH fDr fPe fPi fSo fMd fCl fRi fJo fWa : Addr} {fdH fdDr fdPe fdPi fdSo fdMd fdCl fdRi fdJo fdWa : FuncData} {T : List (Addr × Str)} {oc kV doc pm ct : Value} {od an : Option Addr} {osl : Array (Option Value)} (lk : K.lookup f = some ⟨oc, od, .func (PySem.W.fnOf "law" "law" (defArgs sLaw) (defBody sLaw) (defScope sLaw) .none kV doc pm an (.ref c0) ct), osl⟩) (hcd : PySem.W.codeIn K (.ref c0) "law" = true)
    (R : RK P w K mg base a CN) (ear : EarC K mg a.CB CX) (Nn : Nm mg) (F_heard : Fun K "_law_heard" "_law_heard" sHeard fH fdH) (g_heard : mg "_law_heard" = some (.ref fH)) (F_draw : Fun K "_law_draw" "_law_draw" sDraw fDr fdDr) (g_draw : mg "_law_draw" = some (.ref fDr)) (F_pen : Fun K "_law_pen" "_law_pen" sPen fPe fdPe) (g_pen : mg "_law_pen" = some (.ref fPe)) (F_pick : Fun K "_law_pick" "_law_pick" sPick fPi fdPi) (g_pick : mg "_law_pick" = some (.ref fPi))
    (F_some : Fun K "_law_some" "_law_some" sSo fSo fdSo) (g_some : mg "_law_some" = some (.ref fSo)) (G_some : FnOk P w K mg base CX0 4 fSo fdSo ["_law_pen_here", "_law_top"] spSoL) (F_made : Fun K "_law_made" "_law_made" sLM fMd fdMd) (g_made : mg "_law_made" = some (.ref fMd)) (F_called : Fun K "_law_called" "_law_called" sLC fCl fdCl) (g_called : mg "_law_called" = some (.ref fCl))
    (G_right : OwR.FnG P w K mg base CX0 7 fRi fdRi ["_law_row_so", "_law_some_here"] (spRi a)) (g_right : mg "_law_right" = some (.ref fRi)) (kp_right : PySem.W.keepIn K (.ref fRi) = true) (b_right : Binds K fdRi ["_law_row_so", "_law_some_here"] [])
    (G_joined : OwR.FnG P w K mg base CX0 8 fJo fdJo ["_law_one", "_law_two", "_law_some_here", "_law_more"] (spJo a)) (g_joined : mg "_law_joined_right" = some (.ref fJo)) (kp_joined : PySem.W.keepIn K (.ref fJo) = true) (b_joined : Binds K fdJo ["_law_one", "_law_two", "_law_some_here", "_law_more"] [])
    (F_walked_right : Fun K "_law_walked_right" "_law_walked_right" sWa fWa fdWa) (g_walked_right : mg "_law_walked_right" = some (.ref fWa)) (n_range : mg "range" = none) (n_repr : mg "repr" = none) (n_zip : mg "zip" = none) (TB : LamX.TabB base mg c0 Pt) (memT : (Pt, qLaw) ∈ T) (oneT : ∀ p ∈ T, p.1 = Pt → p.2 = qLaw) :
    OwR.FnG P w K mg base CX0 10 f (PySem.W.fnOf "law" "law" (defArgs sLaw) (defBody sLaw) (defScope sLaw) .none kV doc pm an (.ref c0) ct) ["_law_script"] (spLaw K T) := by
  have n_len := R.X.R.T.n_len
  have n_str := R.X.R.T.n_str
  have n_isinstance := R.X.R.T.n_isinstance
  have n_tuple := R.X.R.n_tuple
  obtain ⟨fdPt, GPt, bPt⟩ := R.ptF
  have b_heard : Binds K fdH ["_law_ask"] [] := F_heard.binds fun _ _ _ _ _ _ us hl => match us, hl with | [_], _ => rfl
  have G_pen : FnOk P w K mg base CX0 1 fPe fdPe ["_law_script"] (spPen K) := ok_pen F_pen Nn
  have b_pen : Binds K fdPe ["_law_script"] [] := F_pen.binds fun _ _ _ _ _ _ us hl => match us, hl with | [_], _ => rfl
  have G_draw : FnOk P w K mg base CX0 1 fDr fdDr ["_law_pen_here", "_law_many"] spDraw := ok_draw F_draw Nn
  have b_draw : Binds K fdDr ["_law_pen_here", "_law_many"] [] := F_draw.binds fun _ _ _ _ _ _ us hl => match us, hl with | [_, _], _ => rfl
  have G_pick : FnOk P w K mg base CX0 2 fPi fdPi ["_law_pen_here", "_law_some_here"] (spPick K) := ok_pick F_pick Nn F_draw g_draw
  have b_pick : Binds K fdPi ["_law_pen_here", "_law_some_here"] [] := F_pick.binds fun _ _ _ _ _ _ us hl => match us, hl with | [_, _], _ => rfl
  have b_some : Binds K fdSo ["_law_pen_here", "_law_top"] [] := F_some.binds fun _ _ _ _ _ _ us hl => match us, hl with | [_, _], _ => rfl
  have G_made : FnOk P w K mg base (L2.CX P w) 6 fMd fdMd ["_law_parts_so"] (spLM a) := ok_LM R.X F_made
  have b_made : Binds K fdMd ["_law_parts_so"] [] := F_made.binds fun _ _ _ _ _ _ us hl => match us, hl with | [_], _ => rfl
  have G_called : FnOk P w K mg base (L2.CX P w) 6 fCl fdCl ["_law_deeds_so"] (spLC a) := ok_LC R.X.R F_called n_len
  have b_called : Binds K fdCl ["_law_deeds_so"] [] := F_called.binds fun _ _ _ _ _ _ us hl => match us, hl with | [_], _ => rfl
  have G_walked : FnOk P w K mg base CX0 7 fWa fdWa ["_law_row_so", "_law_some_here"] (spWa a) := ok_Wa R F_walked_right n_zip
  have b_walked_right : Binds K fdWa ["_law_row_so", "_law_some_here"] [] := F_walked_right.binds fun _ _ _ _ _ _ us hl => match us, hl with | [_, _], _ => rfl
  refine OwR.fn_ofG (k := 9) lk hcd scLaw (fun vs H Q E h => ?_) fun A outer s H vs Q E hgd0 hr h => ?_
  · exact spLaw_len vs H Q E h
  · obtain ⟨x, ns, rfl, hx, hl, hT, q⟩ := h
    have hgd : (A.deeper (envOfC "law" (defScope sLaw) s.heap.objs.size f (.ref c0))).guards = some [] := hgd0
    have hr9 : Room 9 (A.deeper (envOfC "law" (defScope sLaw) s.heap.objs.size f (.ref c0))) := hr
    have hr8 := hr9.mono (show 8 ≤ 9 by decide)
    have hr7 := hr9.mono (show 7 ≤ 9 by decide)
    have hr6 := hr9.mono (show 6 ≤ 9 by decide)
    have hr5 := hr9.mono (show 5 ≤ 9 by decide)
    have hr4 := hr9.mono (show 4 ≤ 9 by decide)
    have hr3 := hr9.mono (show 3 ≤ 9 by decide)
    have hr2 := hr9.mono (show 2 ≤ 9 by decide)
    have hr1 := hr9.mono (show 1 ≤ 9 by decide)
    have hun := hr9.un
    have hud := hr9.units
    have hrep : (A.deeper (envOfC "law" (defScope sLaw) s.heap.objs.size f (.ref c0))).units + 70 < cLine := by omega
    have hu0 : (A.deeper (envOfC "law" (defScope sLaw) s.heap.objs.size f (.ref c0))).units < cLine := by omega
    have hu2 : (A.deeper (envOfC "law" (defScope sLaw) s.heap.objs.size f (.ref c0))).units + 2 < cLine := by omega
    refine ⟨_, PSs.nox (pss_cons (ps_set (i := 1) scLaw.nd rfl (Or.inl rfl) (pe_call G_pen hr1 (by rfl) g_pen F_pen.kp b_pen .nil pass0 (pa_cons (pv 0) pa_nil)))
    (pss_cons (ps_for PassesOwn.never rfl (pi_range1 rfl n_range (pa_cons pe_int pa_nil)) (pg_name (i := 2) scLaw.nd rfl (Or.inl rfl)) (pss_cons (ps_par (i := 3) (j := 4) (by rfl) scLaw.nd rfl rfl (by decide) rfl rfl (pa_cons (pe_call G_some hr4 (by rfl) g_some F_some.kp b_some .nil pass0 (pa_cons (pv 1) (pa_cons pe_int pa_nil))) (pa_cons (pe_call G_some hr4 (by rfl) g_some F_some.kp b_some .nil pass0 (pa_cons (pv 1) (pa_cons pe_int pa_nil))) pa_nil)) (by rfl))
    (pss_cons (ps_setLc (i := 5) (own := [("_law_parts_so", 6)]) (by rfl) scLaw.nd rfl rfl (sw_true rfl rfl rfl (by decide +kernel)) (pi_list (pv 3)) (blkOk_by (own := [("_law_parts_so", 6)]) (N := nLaw) (sc := defScope sLaw) (by decide +kernel)) (fun _ _ _ _ _ => (pg_name (i := 6) scLaw.nd rfl (Or.inl rfl))) (fun _ _ _ _ _ => pts_nil) (fun _ _ _ _ _ => (pe_call G_made hr6 (by rfl) g_made F_made.kp b_made .nil passL (pa_cons (pv 6) pa_nil))))
    (pss_cons (ps_set (i := 7) scLaw.nd rfl (Or.inr rfl) (ClX.pe_cmeth (pe_glob (v := .ref a.CR) rfl R.X.R.gR rfl) R.rR R.mOf R.ofF hr6 passL (pa_cons (pv 5) pa_nil)))
    (pss_cons (ps_set (i := 8) scLaw.nd rfl (Or.inl rfl) (ClX.pe_cmeth (pe_glob (v := .ref a.CR) rfl R.X.R.gR rfl) R.rR R.mOf R.ofF hr6 passL (pa_cons (pe_callTy call_tuple_of (by rfl) n_tuple (by decide +kernel) (pa_cons (pe_lc (own := [("_law_parts_so", 6)]) (by rfl) scLaw.nd (pi_list (pv 4)) (blkOk_by (own := [("_law_parts_so", 6)]) (N := nLaw) (sc := defScope sLaw) (by decide +kernel)) (fun _ _ _ _ _ => (pg_name (i := 6) scLaw.nd rfl (Or.inl rfl))) (fun _ _ _ _ _ => pts_nil) (fun _ _ _ _ _ => (pe_call G_made hr6 (by rfl) g_made F_made.kp b_made .nil passL (pa_cons (pv 6) pa_nil)))) pa_nil)) pa_nil)))
    (pss_cons (ps_if (PW.pt (pw_or (pt_not (pt_val (OwR.pe_callG G_right spRi_len hgd hr7 (by rfl) g_right kp_right b_right pass0 (pa_cons (pe_call G_called hr6 (by rfl) g_called F_called.kp b_called .nil passL (pa_cons (pe_slice sl_list (pv 5) po_none (po_some pe_int)) pa_nil)) (pa_cons (pe_slice sl_list (pv 3) po_none (po_some pe_int)) pa_nil))))) (pw_or1 (pt_not (pt_val (OwR.pe_callG G_joined spJo_len hgd hr8 (by rfl) g_joined kp_joined b_joined pass0 (pa_cons (pv 7) (pa_cons (pv 8) (pa_cons (pv 3) (pa_cons (pv 4) pa_nil)))))))))) (pss_one (ps_ret pe_bl)) pss_nil)
    (pss_cons (ps_if (pt_not (pt_val (pe_call G_walked hr7 (by rfl) g_walked_right F_walked_right.kp b_walked_right .nil pass0 (pa_cons (pv 7) (pa_cons (pv 3) pa_nil))))) (pss_one (ps_ret pe_bl)) pss_nil)
    (pss_cons (ps_set (i := 9) scLaw.nd rfl (Or.inl rfl) (pe_call G_draw hr1 (by rfl) g_draw F_draw.kp b_draw .nil pass0 (pa_cons (pv 1) (pa_cons (pe_op op_add (pe_callB call_len_seq (by rfl) n_len boot_len (pa_cons (pv 5) pa_nil)) pe_int) pa_nil))))
    (pss_cons (ps_set (i := 10) scLaw.nd rfl (Or.inl rfl) (pe_call G_pick hr2 (by rfl) g_pick F_pick.kp b_pick .nil pass0 (pa_cons (pv 1) (pa_cons (pe_lst (pa_cons pe_non (pa_cons pe_int (pa_cons pe_str (pa_cons (pe_tup (pa_cons pe_str (pa_cons pe_str pa_nil))) (pa_cons pe_bl (pa_cons (pe_lst pa_nil) (pa_cons (pv 7) (pa_cons pe_str pa_nil))))))))) pa_nil))))
    (pss_cons (ps_set (i := 11) scLaw.nd rfl (Or.inr rfl) (pe_op op_cat (pe_op op_cat (pe_op op_cat (pe_slice sl_list (pv 5) po_none (po_some (pv 9))) (pe_lst (pa_cons (pv 10) pa_nil))) (pe_slice sl_list (pv 5) (po_some (pv 9)) po_none)) (pe_call G_pick hr2 (by rfl) g_pick F_pick.kp b_pick .nil pass0 (pa_cons (pv 1) (pa_cons (pe_lst (pa_cons (pe_lst pa_nil) (pa_cons (pe_lst (pa_cons pe_non pa_nil)) (pa_cons (pe_lst (pa_cons (pv 10) pa_nil)) pa_nil)))) pa_nil)))))
    (pss_cons (ps_if (pt_cmpR (op_neD hud) (OwE.pe_lamT (T := T) (k := 6) (q := qLaw) (by rfl) F_heard g_heard b_heard scH rfl (Or.inl rfl) qLaw_eq (fun cdv => heard_gives (k := 2) hgd hr3 ear n_isinstance n_repr) TB rfl memT oneT hr8 (LamX.lamS_by (sc := defScope sLaw) (by decide +kernel)) (fun A outer s H E f c2 hr => (ClX.pe_cmeth (pe_glob (v := .ref a.CR) rfl R.X.R.gR rfl) R.rR R.mOf R.ofF hr (passes_call (takes_of rfl rfl rfl rfl) (fun _ _ _ _ h => h)) (pa_cons (pv 11) pa_nil)))) (pe_tup (pa_cons pe_str (pa_cons (pe_callB (id := "repr") (r := OwE.rRepr K) (OwE.cr_repr hgd hrep) (by rfl) n_repr (by decide +kernel) (pa_cons (pv 9) pa_nil)) pa_nil))) (nomark _)) (pss_one (ps_ret pe_bl)) pss_nil)
    (pss_cons (ps_for PassesOwn.never rfl (pi_list (pe_lst (pa_cons (pe_callB call_len_seq (by rfl) n_len boot_len (pa_cons (pv 3) pa_nil)) (pa_cons (pe_un un_neg pe_int) (pa_cons pe_non (pa_cons pe_bl (pa_cons pe_str (pa_cons (pe_tup (pa_cons pe_int pa_nil)) (pa_cons (pe_op op_pow pe_int pe_int) (pa_cons (pe_lst (pa_cons pe_int pa_nil)) pa_nil)))))))))) (pg_name (i := 12) scLaw.nd rfl (Or.inr rfl)) (pss_one (ps_if (pt_cmpR (op_neD hud) (OwE.pe_lamT (T := T) (k := 6) (q := qLaw) (by rfl) F_heard g_heard b_heard scH rfl (Or.inl rfl) qLaw_eq (fun cdv => heard_gives (k := 2) hgd hr3 ear n_isinstance n_repr) TB rfl memT oneT hr8 (LamX.lamS_by (sc := defScope sLaw) (by decide +kernel)) (fun A outer s H E f c2 hr => (OwR.pe_item R.spc R.getF (hr.mono (show 4 ≤ 6 by decide)) (passes_call (takes_of rfl rfl rfl rfl) (fun _ _ _ _ h => h)) (pv 7) (pv 12)))) (pe_tup (pa_cons pe_str (pa_cons (pe_callB (id := "repr") (r := OwE.rRepr K) (OwE.cr_repr hgd hrep) (by rfl) n_repr (by decide +kernel) (pa_cons (pv 12) pa_nil)) pa_nil))) (nomark _)) (pss_one (ps_ret pe_bl)) pss_nil)))
    (pss_cons (ps_expr (pe_bm PySem.F.plainAttrs_list PySem.F.slot_list_append PySem.F.type_list_append mt_append (pv 5) (pa_cons (StX.pe_makeR R.X.mkC R.X.come0 hr5 (by rfl) R.X.R.gC passL (pa_cons pe_str pa_nil)) pa_nil)))
    (pss_cons (ps_set (i := 13) scLaw.nd rfl (Or.inl rfl) (pe_lst (pa_cons pe_non (pa_cons (pv 5) (pa_cons (pe_prop (pv 7) R.X.R.k.dR.cls R.pt GPt hr4 bPt .nil pass0 rfl) (pa_cons (pe_callTy (OwR.call_strOK (K := K) (E := E0) rfl hu2 R.strF hr6 pass0) (by rfl) n_str (by decide +kernel) (pa_cons (pv 7) pa_nil)) (pa_cons pe_int pa_nil)))))))
    (pss_one (ps_if (PW.pt (pw_or (pt_not (pt_val (OwR.pe_callG G_right spRi_len hgd hr7 (by rfl) g_right kp_right b_right pass0 (pa_cons (pv 7) (pa_cons (pv 3) pa_nil))))) (pw_or1 (pt_cmpR (op_neD hud) (pe_lc (own := [("_law_thing", 14)]) (by rfl) scLaw.nd (pi_list (pv 13)) (blkOk_by (own := [("_law_thing", 14)]) (N := nLaw) (sc := defScope sLaw) (by decide +kernel)) (fun _ _ _ _ _ => (pg_name (i := 14) scLaw.nd rfl (Or.inl rfl))) (fun _ _ _ _ _ => pts_one (pt_cmpR (OwR.op_ownEqXK (K := K) (E := E0) rfl hu0 R.eqF hr3 pass0) (pv 7) (pv 14) (nomark _))) (fun _ _ _ _ _ => (pv 14))) (pe_lst pa_nil) (nomark _))))) (pss_one (ps_ret pe_bl)) pss_nil))))))))))))))))
    (pss_one (ps_ret pe_bl)))), ?_⟩
    have sz := sizeLine_eq
    have szl : ∀ n : Nat, n ≤ 40 → n ≤ sizeLine := fun n h => by omega
    refine ⟨_, rfl, x, ns, rfl, hx, hl, fun p c H1 hp0 s1 pn1 => ?_⟩
    have tb1 := tabs_same hT s1
    refine ⟨8, rfl, by decide, by decide, ?_⟩
    refine for_it walk_range (fun i σ Hx => (∃ x2 x3 x4 x5 x6 x7 x8 x9 x10 x11 x12 x13 x14, σ = [some (.ref x), some (.ref p), x2, x3, x4, x5, x6, x7, x8, x9, x10, x11, x12, x13, x14]) ∧ LamX.Tabs T Hx ∧ ∃ (n : Nat) (z0 : Int), PenAt Hx p c ns n z0 ∧ n ≤ 100 * i)
      ⟨⟨_, _, _, _, _, _, _, _, _, _, _, _, _, rfl⟩, tb1, 0, 0, pn1, Nat.le_refl 0⟩ (fun _ _ _ _ _ => True.intro) (fun i y0 σ Hx Hy hi q0 y => ?_) (fun σ Hx q0 => ?_)
    · obtain ⟨⟨x2, x3, x4, x5, x6, x7, x8, x9, x10, x11, x12, x13, x14, rfl⟩, tb2, n0, z0, pn2, ln0⟩ := q0
      obtain ⟨rfl, ey⟩ := y
      have hi8 : i < 8 := hi
      refine ⟨_, rfl, p, c, ns, n0, z0, 8, rfl, pn2, by omega, by decide, fun sl ts ds n1 z1 H1 esl nsl pt g1 l1 hn1 hp1 b1 => ?_⟩
      refine ⟨_, rfl, p, c, ns, n1, z1, 4, rfl, hp1, by omega, by decide, fun ml us es n2 z2 H2 eml nml pu g2 l2 hn2 hp2 b2 => ⟨_, _, rfl, ?_⟩⟩
      have tb4 := tabs_but (tabs_but tb2 pn2 b1) hp1 b2
      have esl := b2 _ _ nsl esl
      have pt := pt.but hp1 b2
      clear b1 b2 hp1 pn2 tb2
      -- the deeds that are lent
      refine ⟨_, rfl, sl, rfl, ⟨_, SqL.of esl⟩, fun D hD => ?_⟩
      have lts : ts.length ≤ 8 := by rw [pt.len]; exact l1
      have lus : us.length ≤ 4 := by rw [pu.len]; exact l2
      refine lc_it (walk_list (xs := ts.map V.ref)) (fun i Hx => Same H2 Hx ∧ ∃ ks : List Addr, Hx D = some (.lst (ks.map V.ref)) ∧ DeedsAt a Hx ks (ds.take i)) ⟨Same.of_new hD, [], upd_same, ⟨rfl, fun i k d e => by cases e⟩⟩ (fun i Hx _ q => SqL.of (q.1 _ _ esl)) (fun i x Hx Hy hi q0 y => ?_) (fun Hx q0 => ?_)
      · obtain ⟨t1, ks, eD, dk⟩ := q0
        obtain ⟨rfl, hx⟩ := y
        obtain ⟨k1, d, rfl, hk1, hd1, et⟩ := (pt.same t1).get hx
        rw [List.length_map] at hi
        have lk1 : ks.length ≤ 8 := by
          rw [dk.len, List.length_take]
          omega
        refine ⟨rfl, ?_⟩
        refine ⟨_, rfl, k1, d, rfl, et, g1 d (List.mem_of_getElem? hd1), fun k2 H4 u4 d4 => ?_⟩
        have eD2 := u4 _ _ eD
        refine ⟨_, eD2, by rw [List.length_map]; omega, fun b o e => ?_, ks ++ [k2], by rw [List.map_append]; exact upd_same, ?_⟩
        · rw [upd_ne (ne_of_none e hD)]
          exact u4 _ _ (t1 b o e)
        · rw [List.take_add_one, hd1]
          refine ((dk.same u4).app (.one d4)).mono fun b C dx fs e => ?_
          rw [upd_ne (fun q => by rw [q, eD2] at e; cases e)]
          exact e
      obtain ⟨t1, ks, ele, dk⟩ := q0
      rw [List.length_map, pt.len, List.take_length] at dk
      have lks : ks.length ≤ 8 := by rw [dk.len]; exact l1
      have nle : D ≠ p := fun e => hp2.some (e ▸ hD)
      have nsD : sl ≠ D := ne_of_none esl hD
      have ncD : c ≠ D := ne_of_none hp2.cells hD
      refine ⟨rfl, _, rfl, D, ks.map V.ref, rfl, .inl (SqL.of ele), by rw [List.length_map]; omega, .inl ⟨ks, ds, rfl, dk, fun r1 H5 _ t2 w1 => ?_⟩⟩
      have t12 := t1.trans t2
      -- the other row
      refine ⟨rfl, _, rfl, ml, rfl, ⟨_, SqL.of (t12 _ _ eml)⟩, fun D2 hD2 => ?_⟩
      refine lc_it (walk_list (xs := us.map V.ref)) (fun i Hx => Same H5 Hx ∧ ∃ ks : List Addr, Hx D2 = some (.lst (ks.map V.ref)) ∧ DeedsAt a Hx ks (es.take i)) ⟨Same.of_new hD2, [], upd_same, ⟨rfl, fun i k d e => by cases e⟩⟩ (fun i Hx _ q => SqL.of (q.1 _ _ (t12 _ _ eml))) (fun i x Hx Hy hi q0 y => ?_) (fun Hx2 q0 => ?_)
      · obtain ⟨t3, ks, eD, dk⟩ := q0
        obtain ⟨rfl, hx⟩ := y
        obtain ⟨k1, d, rfl, hk1, hd1, et⟩ := ((pu.same t12).same t3).get hx
        rw [List.length_map] at hi
        have lk1 : ks.length ≤ 8 := by
          rw [dk.len, List.length_take]
          omega
        refine ⟨rfl, ?_⟩
        refine ⟨_, rfl, k1, d, rfl, et, g2 d (List.mem_of_getElem? hd1), fun k2 H4 u4 d4 => ?_⟩
        have eD2 := u4 _ _ eD
        refine ⟨_, eD2, by rw [List.length_map]; omega, fun b o e => ?_, ks ++ [k2], by rw [List.map_append]; exact upd_same, ?_⟩
        · rw [upd_ne (ne_of_none e hD2)]
          exact u4 _ _ (t3 b o e)
        · rw [List.take_add_one, hd1]
          refine ((dk.same u4).app (.one d4)).mono fun b C dx fs e => ?_
          rw [upd_ne (fun q => by rw [q, eD2] at e; cases e)]
          exact e
      obtain ⟨t3, js, eD2, dj⟩ := q0
      rw [List.length_map, pu.len, List.take_length] at dj
      have ljs : js.length ≤ 4 := by rw [dj.len]; exact l2
      refine ⟨D2, _, rfl, .inl ⟨SqL.of eD2, fun p6 hp6 => ?_⟩⟩
      have u6 := Same.of_new (o := .tup (js.map V.ref)) hp6
      refine ⟨p6, js.map V.ref, rfl, .inr (SqT.of upd_same), by rw [List.length_map]; omega, .inl ⟨js, es, rfl, dj.same u6, fun r2 H7 _ t4 w2 => ?_⟩⟩
      have t234 := (t3.trans u6).trans t4
      have tA := t12.trans t234
      have st : LS a T p c ns sl ml D r1 r2 ks js ts us ds es n2 z2 H7 := ⟨hp2.same tA, tabs_same tb4 tA, w1.same t234, (dk.same t2).same t234, w2, (dj.same u6).same t4, tA _ _ esl, pt.same tA, tA _ _ eml, pu.same tA, t234 _ _ (t2 _ _ ele)⟩
      clear t1 t2 t12 t3 t4 u6 t234 tA hp2 tb4 w1 w2 dk dj esl eml pt pu ele eD2 hp6 hD hD2
      -- by written arguments, joined, walked
      refine ⟨_, rfl, 3, rfl, D, _, rfl, SqL.of st.ele, ?_⟩
      have c3 := cut_take ks 3
      have c3' := cut_take ts 3
      intro b hb
      have u1 := Same.of_new (o := .lst (cutV (ks.map V.ref) none (some 3))) hb
      have s1 := st.same u1
      refine ⟨b, ks.take 3, ds.take 3, rfl, by rw [upd_same]; exact congrArg (fun l => some (HO.lst l)) c3, s1.d1.take 3, by rw [List.length_take]; omega, fun r8 H8 u2 w8 => ?_⟩
      have s2 := s1.same u2
      refine ⟨_, rfl, 3, rfl, sl, _, rfl, SqL.of s2.esl, ?_⟩
      intro b2 hb2
      have u3 := Same.of_new (o := .lst (cutV (ts.map V.ref) none (some 3))) hb2
      have s3 := s2.same u3
      have ln3 : (ds.take 3).length ≤ 40 := by
        rw [List.length_take]
        omega
      refine ⟨r8, b2, ks.take 3, ts.take 3, ds.take 3, rfl, w8.same u3, s3.d1.take 3, by rw [upd_same]; exact congrArg (fun l => some (HO.lst l)) c3', s3.pt.take 3, fun d hd => g1 d (List.mem_of_mem_take hd), ln3, fun H9 u4 => ?_⟩
      have s4 := s3.same u4
      refine ⟨_, rfl, iteF ?_⟩
      refine ⟨_, rfl, _, rfl, _, rfl, _, rfl, r1, r2, sl, ml, ks, js, ts, us, ds, es, rfl, s4.w1, s4.d1, s4.w2, s4.d2, s4.esl, s4.pt, s4.eml, s4.pu, g1, g2, by omega, by omega, fun H10 u5 => ?_⟩
      have s5 := s4.same u5
      refine ⟨_, rfl, iteF ?_⟩
      refine ⟨_, rfl, _, rfl, r1, sl, ks, ts, ds, rfl, s5.w1, s5.d1, s5.esl, s5.pt, g1, by omega, fun H11 u6 => ?_⟩
      have s6 := s5.same u6
      clear s1 s2 s3 s4 s5 u1 u2 u3 u4 u5 u6 st hb hb2 w8
      refine ⟨_, rfl, iteF ?_⟩
      -- a spot, an odd value
      have lkm : (ks.map V.ref).length = ks.length := List.length_map _
      have big : ∀ i : Int, 0 ≤ i → i ≤ 100 → i.natAbs < 2 ^ 1000 := fun i h0 h1 => Nat.lt_of_le_of_lt (show i.natAbs ≤ 100 by omega) (by decide +kernel)
      refine ⟨_, rfl, _, rfl, D, _, rfl, .inl (SqL.of s6.ele), _, _, rfl, rfl, p, c, ns, n2, z2, _, rfl, s6.pen, by omega, by omega, big _ (by omega) (by omega), fun dsp n3 z3 H12 d0 d1 hn3 hp3 b3 => ?_⟩
      obtain ⟨sp, rfl⟩ := Int.eq_ofNat_of_zero_le d0
      have lsp : sp ≤ ks.length := by omega
      have s7 := s6.but b3 hp3
      clear s6 b3 d0 d1
      refine ⟨_, rfl, szl 2 (by decide), fun ta hta => ⟨szl 0 (by decide), fun la hla => ⟨_, rfl, szl 8 (by decide), fun L8 hL8 => ?_⟩⟩⟩
      have ua := Same.of_new (o := .tup [.str "come", .str "a"]) hta
      have ub := Same.of_new (o := .lst []) hla
      have uc := Same.of_new (o := .lst [.non, .int 0, .str "come a", .ref ta, .bl true, .ref la, .ref r1, .str "a"]) hL8
      have s8 := ((s7.same ua).same ub).same uc
      have eta := (ub.trans uc) _ _ (upd_same (H := H12) (a := ta) (o := .tup [.str "come", .str "a"]))
      have ela := uc _ _ (upd_same (H := upd H12 ta (.tup [.str "come", .str "a"])) (a := la) (o := .lst []))
      have nL8 : L8 ≠ p := fun e => (((s7.same ua).same ub).pen).some (e ▸ hL8)
      refine ⟨p, c, L8, ns, n3, z3, _, rfl, s8.pen, by omega, nL8, SqL.of upd_same, by show 0 < 8; decide, by show 8 < 1000; decide, fun odd n4 z4 H13 hodd hn4 hp4 b4 => ?_⟩
      have od : OddV a r1 H13 odd := by
        have od0 : OddV a r1 (upd (upd (upd H12 ta (.tup [.str "come", .str "a"])) la (.lst [])) L8 (.lst [.non, .int 0, .str "come a", .ref ta, .bl true, .ref la, .ref r1, .str "a"])) odd := by
          simp only [List.mem_cons, List.not_mem_nil, or_false] at hodd
          rcases hodd with rfl | rfl | rfl | rfl | rfl | rfl | rfl | rfl
          · exact .non
          · exact .int 0
          · exact .str _
          · exact .tup eta
          · exact .bl _
          · exact .lst ela
          · exact .row s8.w1
          · exact .str _
        exact od0.lo s8.pen b4.lo
      have s9 := s8.but b4 hp4
      clear s7 s8 ua ub uc eta ela b4 hodd hta hla hL8
      -- the list with it
      refine ⟨_, rfl, _, rfl, _, rfl, D, _, rfl, SqL.of s9.ele, ?_⟩
      rw [cut_take]
      intro b1 hb1
      have u1 := Same.of_new (o := .lst ((ks.take sp).map V.ref)) hb1
      refine ⟨_, rfl, szl 1 (by decide), fun b2 hb2 => ?_⟩
      have u2 := Same.of_new (o := .lst [odd]) hb2
      have ltk : ((ks.take sp).map V.ref).length = sp := by
        rw [List.length_map, List.length_take]
        omega
      refine ⟨b1, b2, _, _, rfl, rfl, u2 _ _ upd_same, upd_same, by rw [ltk, List.length_singleton]; omega, fun b3 hb3 => ?_⟩
      have u3 := Same.of_new (o := .lst ((ks.take sp).map V.ref ++ [odd])) hb3
      have u123 := (u1.trans u2).trans u3
      have s10 := s9.same u123
      refine ⟨_, rfl, _, rfl, _, rfl, D, _, rfl, SqL.of s10.ele, fun b4 hb4 => ?_⟩
      have lrest : (cutV (ks.map V.ref) (some ((sp : Nat) : Int)) none).length ≤ 8 := Nat.le_trans cut_len (by omega)
      generalize cutV (ks.map V.ref) (some ((sp : Nat) : Int)) none = rest at *
      have u4 := Same.of_new (o := .lst rest) hb4
      refine ⟨b3, b4, _, _, rfl, rfl, u4 _ _ upd_same, upd_same, by rw [List.length_append, ltk, List.length_singleton]; omega, fun b5 hb5 => ?_⟩
      have u5 := Same.of_new (o := .lst ((ks.take sp).map V.ref ++ [odd] ++ rest)) hb5
      have s11 := (s10.same u4).same u5
      have nb5 : b5 ≠ p := fun e => ((s10.same u4).pen).some (e ▸ hb5)
      have e5 : upd (upd (upd (upd (upd H13 b1 (.lst ((ks.take sp).map V.ref))) b2 (.lst [odd])) b3 (.lst ((ks.take sp).map V.ref ++ [odd]))) b4 (.lst rest)) b5 (.lst ((ks.take sp).map V.ref ++ [odd] ++ rest)) b5 = some (.lst ((ks.take sp).map V.ref ++ [odd] ++ rest)) := upd_same
      have od5 := ((od.same u123).same u4).same u5
      clear od s9 s10 u1 u2 u3 u123 u4 u5
      generalize upd (upd (upd (upd (upd H13 b1 (.lst ((ks.take sp).map V.ref))) b2 (.lst [odd])) b3 (.lst ((ks.take sp).map V.ref ++ [odd]))) b4 (.lst rest)) b5 (.lst ((ks.take sp).map V.ref ++ [odd] ++ rest)) = H14 at *
      clear hb1 hb2 hb3 hb4 hb5
      refine ⟨_, rfl, szl 0 (by decide), fun m1 hm1 => ⟨szl 1 (by decide), fun m2 hm2 => ?_⟩⟩
      have v1 := Same.of_new (o := .lst []) hm1
      have v2 := Same.of_new (o := .lst [.non]) hm2
      refine ⟨_, rfl, szl 1 (by decide), fun m3 hm3 => ⟨szl 3 (by decide), fun M hM => ?_⟩⟩
      have v3 := Same.of_new (o := .lst [odd]) hm3
      have v4 := Same.of_new (o := .lst [.ref m1, .ref m2, .ref m3]) hM
      have v14 := ((v1.trans v2).trans v3).trans v4
      have s12 := s11.same v14
      have e5 := v14 _ _ e5
      have f1 := ((v2.trans v3).trans v4) _ _ (upd_same (H := H14) (a := m1) (o := .lst []))
      have f2 := (v3.trans v4) _ _ (upd_same (H := upd H14 m1 (.lst [])) (a := m2) (o := .lst [.non]))
      have f3 := v4 _ _ (upd_same (H := upd (upd H14 m1 (.lst [])) m2 (.lst [.non])) (a := m3) (o := .lst [odd]))
      have nM : M ≠ p := fun e => ((((s11.same v1).same v2).same v3).pen).some (e ▸ hM)
      have nm1 : m1 ≠ p := fun e => s11.pen.some (e ▸ hm1)
      have nm2 : m2 ≠ p := fun e => (s11.same v1).pen.some (e ▸ hm2)
      have nm3 : m3 ≠ p := fun e => ((s11.same v1).same v2).pen.some (e ▸ hm3)
      refine ⟨p, c, M, ns, n4, z4, _, rfl, s12.pen, by omega, nM, SqL.of upd_same, by show 0 < 3; decide, by show 3 < 1000; decide, fun last n5 z5 H15 hlast hn5 hp5 b5' => ?_⟩
      have od6 := ((od5.same v14).lo s12.pen b5'.lo)
      have s13 := s12.but b5' hp5
      have e6 := b5' _ _ nb5 e5
      have hl : ∃ m zs, last = .ref m ∧ H15 m = some (.lst zs) ∧ zs.length ≤ 1 := by
        simp only [List.mem_cons, List.not_mem_nil, or_false] at hlast
        rcases hlast with rfl | rfl | rfl
        · exact ⟨m1, _, rfl, b5' _ _ nm1 f1, Nat.zero_le _⟩
        · exact ⟨m2, _, rfl, b5' _ _ nm2 f2, Nat.le_refl _⟩
        · exact ⟨m3, _, rfl, b5' _ _ nm3 f3, Nat.le_refl _⟩
      obtain ⟨m, zs, rfl, em, lzs⟩ := hl
      clear od5 s11 s12 v1 v2 v3 v4 v14 e5 f1 f2 f3 b5' hlast hm1 hm2 hm3 hM nm1 nm2 nm3 nM
      refine ⟨b5, m, _, _, rfl, rfl, e6, em, by rw [List.length_append, List.length_append, ltk, List.length_singleton]; omega, fun W hW => ?_⟩
      have u7 := Same.of_new (o := .lst ((ks.take sp).map V.ref ++ [odd] ++ rest ++ zs)) hW
      have s14 := s13.same u7
      have od7 := od6.same u7
      have eW : upd H15 W (.lst ((ks.take sp).map V.ref ++ [odd] ++ rest ++ zs)) W = some (.lst ((ks.take sp).map V.ref ++ [odd] ++ rest ++ zs)) := upd_same
      have lW : ((ks.take sp).map V.ref ++ [odd] ++ rest ++ zs).length ≤ 30 := by
        rw [List.length_append, List.length_append, List.length_append, ltk, List.length_singleton]
        omega
      have nW : W ≠ p := fun e => s13.pen.some (e ▸ hW)
      have aW : ((ks.take sp).map V.ref ++ [odd] ++ rest ++ zs)[sp]? = some odd := by
        rw [List.append_assoc, List.append_assoc, List.getElem?_append_right (by omega), ltk, Nat.sub_self]
        rfl
      have bW : ∀ (k : Nat) (y : V), k < sp → ((ks.take sp).map V.ref ++ [odd] ++ rest ++ zs)[k]? = some y → ∃ t d, y = .ref t ∧ ks[k]? = some t ∧ ds[k]? = some d := fun k y hk e => by
        rw [List.append_assoc, List.append_assoc, List.getElem?_append_left (by omega), List.getElem?_map, List.getElem?_take_of_lt hk] at e
        obtain ⟨t, ht, rfl⟩ := Option.map_eq_some_iff.mp e
        have hd : k < ds.length := by rw [← s14.d1.len]; exact (List.getElem?_eq_some_iff.mp ht).1
        exact ⟨t, ds[k], rfl, ht, List.getElem?_eq_getElem hd⟩
      generalize upd H15 W (.lst ((ks.take sp).map V.ref ++ [odd] ++ rest ++ zs)) = H16 at *
      clear s13 od6 u7 e6 em hW
      generalize (ks.take sp).map V.ref ++ [odd] ++ rest ++ zs = xs at *
      -- refused with its spot
      refine ⟨s14.tabs, fun H17 eN tb8 => ?_⟩
      refine ⟨rfl, _, rfl, W, xs, rfl, .inl (SqL.of (eN _ _ eW fun ps h => by cases h)), ?_⟩
      have l17 := (lo_ext s14.pen eN (Same.refl H17)).1
      have s15 := s14.lo l17 (s14.pen.ext eN) tb8
      have od8 := od7.lo s14.pen l17
      have rok := (nums_ok ⟨sp, by omega⟩).1
      have sok := ear_ok ⟨sp, by omega⟩
      have rok : (((sp : Nat) : Int)).natAbs.log2 < 1920 := rok
      have sok : SeqAt.shaped (earD (toString ((sp : Nat) : Int))) = true := sok
      refine ⟨by omega, .inr ⟨sp, odd, aW, fun H' s => (od8.same s).notD R, fun k y hk e => ?_, fun H18 dd v1 nd => ?_⟩⟩
      · obtain ⟨t, d, rfl, ht, hd⟩ := bW k y hk e
        exact ⟨t, d, rfl, s15.d1.at_ k t d ht hd⟩
      refine ⟨dd, .int (sp : Nat), toString ((sp : Nat) : Int), rfl, rfl, upd_same, .int rok, fun t1 ht1 => ?_⟩
      have v2 := Same.of_new (o := .xd [("at", .int (sp : Nat))]) nd
      have v3 := Same.of_new (o := .tup [.str "deed", .str (toString ((sp : Nat) : Int))]) ht1
      have s16 := ((s15.same v1).same v2).same v3
      have e1 : upd (upd H18 dd (.xd [("at", .int (sp : Nat))])) t1 (.tup [.str "deed", .str (toString ((sp : Nat) : Int))]) t1 = some (.tup [.str "deed", .str (toString ((sp : Nat) : Int))]) := upd_same
      clear s14 s15 od7 od8 l17 v1 v2 v3 eN tb8 bW aW eW lW
      generalize upd (upd H18 dd (.xd [("at", .int (sp : Nat))])) t1 (.tup [.str "deed", .str (toString ((sp : Nat) : Int))]) = H19 at *
      clear ht1 nd
      refine ⟨_, rfl, _, _, rfl, .int rok, szl 2 (by decide), fun t2 ht2 => ?_⟩
      have v4 := Same.of_new (o := .tup [.str "deed", .str (toString ((sp : Nat) : Int))]) ht2
      have s17 := s16.same v4
      refine ⟨earD (toString ((sp : Nat) : Int)), earD (toString ((sp : Nat) : Int)), ear_dp (v4 _ _ e1), ear_dp upd_same, sok, sok, ?_⟩
      rw [SeqAt.eqv_refl _ (SeqAt.canLay_of_shaped sok)]
      refine ⟨_, rfl, iteF ?_⟩
      clear s16 e1 v4
      generalize upd H19 t2 (.tup [.str "deed", .str (toString ((sp : Nat) : Int))]) = H20 at *
      clear ht2
      -- values that are no indexes
      refine ⟨_, rfl, sl, _, rfl, .inl (SqL.of s17.esl), ?_⟩
      have lz2 : (((ts.map V.ref).length : Nat) : Int) = (ks.length : Nat) := by rw [List.length_map, s17.pt.len, s17.d1.len]
      rw [lz2]
      refine ⟨_, rfl, ?_⟩
      refine ⟨szl 1 (by decide), fun tz htz => ⟨_, _, rfl, rfl, ⟨by decide, by decide, by decide⟩, szl 1 (by decide), fun lz hlz => ⟨szl 8 (by decide), fun Lb hLb => ?_⟩⟩⟩
      have u1 := Same.of_new (o := .tup [.int 0]) htz
      have u2 := Same.of_new (o := .lst [.int 0]) hlz
      have nLb : Lb ≠ p := fun e => ((s17.same u1).same u2).pen.some (e ▸ hLb)
      have nlz : lz ≠ p := fun e => (s17.same u1).pen.some (e ▸ hlz)
      have s18 := (s17.same u1).same u2
      have etz := u2 _ _ (upd_same (H := H20) (a := tz) (o := .tup [.int 0]))
      have elz : upd (upd H20 tz (.tup [.int 0])) lz (.lst [.int 0]) lz = some (.lst [.int 0]) := upd_same
      generalize upd (upd H20 tz (.tup [.int 0])) lz (.lst [.int 0]) = H21 at *
      have u3 := Same.of_new (o := .lst [.int (ks.length : Nat), .int (-1), .non, .bl true, .str "0", .ref tz, .int (10 ^ 30), .ref lz]) hLb
      have s19 := s18.same u3
      have etz := u3 _ _ etz
      have elz := u3 _ _ elz
      have eLb : upd H21 Lb (.lst [.int (ks.length : Nat), .int (-1), .non, .bl true, .str "0", .ref tz, .int (10 ^ 30), .ref lz]) Lb = some (.lst [.int (ks.length : Nat), .int (-1), .non, .bl true, .str "0", .ref tz, .int (10 ^ 30), .ref lz]) := upd_same
      clear s17 s18 u1 u2 u3 htz hlz
      refine ⟨Lb, rfl, ⟨_, SqL.of eLb⟩, ?_⟩
      refine for_it (walk_list (xs := [.int (ks.length : Nat), .int (-1), .non, .bl true, .str "0", .ref tz, .int (10 ^ 30), .ref lz])) (fun i σ Hx => (∃ x2 x6 x12 x13 x14, σ = [some (.ref x), some (.ref p), x2, some (.ref sl), some (.ref ml), some (.ref D), x6, some (.ref r1), some (.ref r2), some (.int (sp : Nat)), some odd, some (.ref W), x12, x13, x14]) ∧ LS a T p c ns sl ml D r1 r2 ks js ts us ds es n5 z5 Hx ∧ Hx tz = some (.tup [.int 0]) ∧ Hx lz = some (.lst [.int 0]) ∧ Hx Lb = some (.lst [.int (ks.length : Nat), .int (-1), .non, .bl true, .str "0", .ref tz, .int (10 ^ 30), .ref lz]))
        ⟨⟨_, _, _, _, _, rfl⟩, s19, etz, elz, eLb⟩ (fun i σ Hx _ q => SqL.of q.2.2.2.2) (fun i x0 σ Hx Hy hi q0 y => ?_) (fun σ Hx q0 => ?_)
      · obtain ⟨⟨x2, x6, x12, x13, x14, rfl⟩, s20, etz, elz, eLb⟩ := q0
        obtain ⟨rfl, hx⟩ := y
        obtain ⟨r, sok, hb⟩ := bad_ix (K := K) (m := ks.length) (tz := tz) (lz := lz) (x := x0) (by omega) (List.mem_of_getElem? hx)
        refine ⟨s20.tabs, fun H22 eN tb8 => ?_⟩
        have l22 := (lo_ext s20.pen eN (Same.refl H22)).1
        have s21 := s20.lo l22 (s20.pen.ext eN) tb8
        have etz := lo_tup s20.pen l22 etz
        have elz := l22 _ _ nlz (fun ps h => by cases h) elz
        have eLb := l22 _ _ nLb (fun ps h => by cases h) eLb
        obtain ⟨dx, fs, l1', er, _⟩ := id s21.w1
        refine ⟨_, rfl, _, rfl, r1, dx, fs, rfl, er, r1, x0, ks, rfl, s21.w1, by omega, .inr ⟨(hb H22 etz elz).1, fun d nd => ?_⟩⟩
        have v2 := Same.of_new (o := .xd [("at", x0)]) nd
        refine ⟨d, x0, r, rfl, rfl, upd_same, (hb _ (v2 _ _ etz) (v2 _ _ elz)).2, fun t1 ht1 => ?_⟩
        have v3 := Same.of_new (o := .tup [.str "deed", .str r]) ht1
        have v23 := v2.trans v3
        refine ⟨_, rfl, _, _, rfl, (hb _ (v23 _ _ etz) (v23 _ _ elz)).2, szl 2 (by decide), fun t2 ht2 => ?_⟩
        have v4 := Same.of_new (o := .tup [.str "deed", .str r]) ht2
        have v24 := v23.trans v4
        refine ⟨earD r, earD r, ear_dp (v4 _ _ upd_same), ear_dp upd_same, sok, sok, ?_⟩
        rw [SeqAt.eqv_refl _ (SeqAt.canLay_of_shaped sok)]
        exact ⟨_, rfl, iteF ⟨⟨_, _, _, _, _, rfl⟩, s21.same v24, v24 _ _ etz, v24 _ _ elz, v24 _ _ eLb⟩⟩
      obtain ⟨⟨x2, x6, x12, x13, x14, rfl⟩, s20, _, _, _⟩ := q0
      clear s19 etz elz eLb hLb
      -- what was lent grows, the row does not
      refine ⟨_, rfl, .inl ⟨rfl, _, SqL.of s20.ele⟩, ?_⟩
      intro z1 dz k1 k2 nd
      obtain ⟨_, _, _, _, _, _, nx⟩ := lawnames
      refine ⟨z1, dz, _, rfl, upd_same, .inl ⟨"x", ⟨rfl, Nat.le_trans nx.2 (by decide), nx.1⟩, fun H23 bt ca => ⟨rfl, ?_⟩⟩⟩
      have u1 := made_same k1 k2 bt
      have s21 := s20.same u1
      refine ⟨D, _, _, rfl, rfl, s21.ele, by rw [lkm]; omega, ?_⟩
      have pn := s21.pen.put (o := .lst (ks.map V.ref ++ [V.ref z1])) (Ne.symm nle) ncD
      have tb := tabs_put (o := .lst (ks.map V.ref ++ [V.ref z1])) s21.tabs s21.ele
      have kt : ∀ k xs, H23 k = some (.tup xs) → upd H23 D (.lst (ks.map V.ref ++ [V.ref z1])) k = some (.tup xs) := fun k xs e => by
        rw [upd_ne (fun q => by rw [q, s21.ele] at e; cases e)]
        exact e
      have ki : ∀ k C dx fs, H23 k = some (.ins C dx fs) → upd H23 D (.lst (ks.map V.ref ++ [V.ref z1])) k = some (.ins C dx fs) := fun k C dx fs e => by
        rw [upd_ne (fun q => by rw [q, s21.ele] at e; cases e)]
        exact e
      have w1 : RowAt a (upd H23 D (.lst (ks.map V.ref ++ [V.ref z1]))) r1 ks := by
        obtain ⟨dx, fs, l1', e1, e2, e3, e4⟩ := s21.w1
        exact ⟨dx, fs, l1', ki _ _ _ _ e1, e2, kt _ _ e3, e4⟩
      have d1 := s21.d1.mono ki
      have pt := s21.pt.mono kt
      have esl : upd H23 D (.lst (ks.map V.ref ++ [V.ref z1])) sl = some (.lst (ts.map V.ref)) := by
        rw [upd_ne nsD]
        exact s21.esl
      have eD : upd H23 D (.lst (ks.map V.ref ++ [V.ref z1])) D = some (.lst (ks.map V.ref ++ [V.ref z1])) := upd_same
      generalize upd H23 D (.lst (ks.map V.ref ++ [V.ref z1])) = H24 at *
      clear s20 s21 u1 kt ki bt ca k1 k2
      obtain ⟨dx, fs, l1', er, _⟩ := id w1
      refine ⟨_, rfl, _, rfl, r1, dx, fs, rfl, er, r1, ks, ds, rfl, w1, d1, by omega, fun p9 ts9 H25 u2 e9 _ => ?_⟩
      refine ⟨_, rfl, r1, _, dx, fs, rfl, u2 _ _ er, R.str, r1, ks, ds, rfl, w1.same u2, d1.same u2, fun d hd => (g1 d hd).small, by omega, fun H26 u3 => ⟨_, rfl, szl 5 (by decide), fun Lt hLt => ?_⟩⟩
      generalize rowText ds = txt at *
      have u4 := Same.of_new (o := .lst [.non, .ref D, .ref p9, .str txt, .int 0]) hLt
      have u24 := (u2.trans u3).trans u4
      have eLt : upd H26 Lt (.lst [.non, .ref D, .ref p9, .str txt, .int 0]) Lt = some (.lst [.non, .ref D, .ref p9, .str txt, .int 0]) := upd_same
      refine ⟨_, rfl, _, rfl, r1, sl, ks, ts, ds, rfl, w1.same u24, d1.same u24, u24 _ _ esl, pt.same u24, g1, by omega, fun H27 u5 => ?_⟩
      have u25 := u24.trans u5
      refine ⟨_, rfl, iteF ?_⟩
      refine ⟨_, rfl, Lt, rfl, ⟨_, SqL.of (u5 _ _ eLt)⟩, fun Dc hDc => ?_⟩
      refine lc_it (walk_list (xs := [.non, .ref D, .ref p9, .str txt, .int 0])) (fun i Hx => Same H27 Hx ∧ Hx Dc = some (.lst [])) ⟨Same.of_new hDc, upd_same⟩ (fun i Hx _ q => SqL.of (q.1 _ _ (u5 _ _ eLt))) (fun i x0 Hx Hy hi q0 y => ?_) (fun Hx q0 => ?_)
      · obtain ⟨v1, eC⟩ := q0
        obtain ⟨rfl, hx⟩ := y
        have v := u25.trans v1
        have w6 := w1.same v
        have d6 := d1.same v
        refine ⟨rfl, ?_⟩
        match i, hx with
        | 0, hx =>
          cases hx
          exact ⟨_, rfl, _, rfl, row_neT (T := "NoneType") R (by decide) w6 d6 (.base .non) ⟨_, rfl, iteF ⟨v1, eC⟩⟩⟩
        | 1, hx =>
          cases hx
          exact ⟨_, rfl, _, rfl, row_neT (T := "list") R (by decide) w6 d6 (.base (.lst (v _ _ eD))) ⟨_, rfl, iteF ⟨v1, eC⟩⟩⟩
        | 2, hx =>
          cases hx
          exact ⟨_, rfl, _, rfl, row_neT (T := "tuple") R (by decide) w6 d6 (.base (.tup (v1 _ _ (u5 _ _ (u4 _ _ (u3 _ _ e9)))))) ⟨_, rfl, iteF ⟨v1, eC⟩⟩⟩
        | 3, hx =>
          cases hx
          exact ⟨_, rfl, _, rfl, row_neT (T := "str") R (by decide) w6 d6 (.base (.str _)) ⟨_, rfl, iteF ⟨v1, eC⟩⟩⟩
        | 4, hx =>
          cases hx
          exact ⟨_, rfl, _, rfl, row_neT (T := "int") R (by decide) w6 d6 (.base (.int _)) ⟨_, rfl, iteF ⟨v1, eC⟩⟩⟩
        | n + 5, hx => cases hx
      obtain ⟨v1, eC⟩ := q0
      have v := u25.trans v1
      refine ⟨szl 0 (by decide), fun Z hZ => ?_⟩
      have u6 := Same.of_new (o := .lst []) hZ
      refine ⟨.list [], .list [], .lst (SqL.of (u6 _ _ eC)) .nil, .lst (SqL.of upd_same) .nil, OwD.shaped_nil, OwD.shaped_nil, ?_⟩
      rw [SeqAt.eqv_refl _ (SeqAt.canLay_of_shaped OwD.shaped_nil)]
      refine ⟨_, rfl, iteF ?_⟩
      have vv := v.trans u6
      exact ⟨⟨_, _, _, _, _, _, _, _, _, _, _, _, _, rfl⟩, tabs_same tb vv, n5, z5, pn.same vv, by omega⟩
    exact q _
end
end K10
end
section
namespace K10
open PySem PySem.Spec PyProof.Rows L2
/-- where the parts of deeds and rows stand, read off the classes -/
def da (K : PySem.W.Frag) : DAd where
  CD := OwH.ga K "Deed"
  CC := OwH.ga K "Come"
  CG := OwH.ga K "Go"
  CR := OwH.ga K "Row"
  CB := OwH.ga K "BadDeed"
  fB0 := OwH.mo K "BadDeed" "__init__"
  fC0 := OwH.mo K "Come" "__init__"
  fG0 := OwH.mo K "Go" "__init__"
  pCP := OwH.mo K "Come" "parts"
  fCP := OwH.inRec K (OwH.mo K "Come" "parts") "property"
  pGP := OwH.mo K "Go" "parts"
  fGP := OwH.inRec K (OwH.mo K "Go" "parts") "property"
  fCE := OwH.mo K "Come" "__eq__"
  fGE := OwH.mo K "Go" "__eq__"
  fCS := OwH.mo K "Come" "__str__"
  fGS := OwH.mo K "Go" "__str__"
  fR0 := OwH.mo K "Row" "__init__"
  fLn := OwH.mo K "Row" "__len__"
  fIt := OwH.mo K "Row" "__iter__"
  fAdd := OwH.mo K "Row" "__add__"
  fEq := OwH.mo K "Row" "__eq__"
  fSt := OwH.mo K "Row" "__str__"
  fAt := OwH.mo K "Row" "__getitem__"
  pPt := OwH.mo K "Row" "parts"
  fPt := OwH.inRec K (OwH.mo K "Row" "parts") "property"
  pCm := OwH.mo K "Row" "comings"
  fCm := OwH.inRec K (OwH.mo K "Row" "comings") "property"
  fUn := OwH.mo K "Row" "until"
  pOf := OwH.mo K "Row" "of"
  fOf := OwH.inRec K (OwH.mo K "Row" "of") "classmethod"
def fTys (K : PySem.W.Frag) : Bool := tyRow.all fun T => PySem.W.notFirst K (OwH.ga K "Row") (.type T) && (decide (PySem.W.kitOne K (.type T) (.ref (OwH.ga K "Row")) = some false) && decide (PySem.W.kitOne K (.type T) (.ref (OwH.ga K "Deed")) = some false))
theorem tys_ok {K : PySem.W.Frag} (h : fTys K = true) : ∀ T ∈ tyRow, PySem.W.notFirst K (da K).CR (.type T) = true ∧ PySem.W.kitOne K (.type T) (.ref (da K).CR) = some false ∧ PySem.W.kitOne K (.type T) (.ref (da K).CD) = some false := fun T hT => by
  obtain ⟨a1, a⟩ := OwH.two (List.all_eq_true.mp h T hT)
  obtain ⟨a2, a3⟩ := OwH.two a
  exact ⟨a1, of_decide_eq_true a2, of_decide_eq_true a3⟩
def fNoB (x : Str) (K : PySem.W.Frag) : Bool := OwR.noIn K (OwH.ga K x) (PySem.dunder Operator.Add.info.2) && (OwR.noIn K (OwH.ga K x) (dunderR Operator.Add.info.2) && (decide (PySem.W.findIn K (.ref (OwH.ga K x)) (PySem.dunder Operator.Add.info.2) = some none) && (decide (PySem.W.findIn K (.ref (OwH.ga K x)) (dunderR Operator.Add.info.2) = some none) &&
  (decide (OwH.ga K "Row" ≠ OwH.ga K x) && decide (PySem.W.subIn K (.ref (OwH.ga K x)) (.ref (OwH.ga K "Row")) = some false)))))
theorem nob_ok {x : Str} {K : PySem.W.Frag} (h : fNoB x K = true) : OwR.NoBin K .Add (OwH.ga K x) ∧ OwH.ga K "Row" ≠ OwH.ga K x ∧ PySem.W.subIn K (.ref (OwH.ga K x)) (.ref (OwH.ga K "Row")) = some false := by
  obtain ⟨a1, h⟩ := OwH.two h
  obtain ⟨a2, h⟩ := OwH.two h
  obtain ⟨a3, h⟩ := OwH.two h
  obtain ⟨a4, h⟩ := OwH.two h
  obtain ⟨a5, a6⟩ := OwH.two h
  exact ⟨⟨a1, a2, of_decide_eq_true a3, of_decide_eq_true a4⟩, of_decide_eq_true a5, of_decide_eq_true a6⟩
/-- all that the end of the top says -/
structure Facts (P : Program) (w : World) (K : PySem.W.Frag) (mg : Str → Option Value) (base : Heap) (a : DAd) (CN CX : Addr) : Prop where
  R : RW P w K mg base a
  mkC : Mk K a.CC a.fC0
  mkG : Mk K a.CG a.fG0
  bad : ∃ fB fd, ErrT K mg "BadName" CN fB ∧ PySem.W.findIn K (.ref CN) "value" = some none ∧ Fun K "__init__" "BadName.__init__" sBad0 fB fd
  isn : ∃ f fd, mg "is_name" = some (.ref f) ∧ Fun K "is_name" "is_name" sName f fd
  chk : ∃ f fd, mg "check_name" = some (.ref f) ∧ Fun K "check_name" "check_name" sCheck f fd
  deed : ∃ mc fD fd, ClX.CRead K a.CD mc ∧ OwR.CFun K a.CD mc "__init__" fD ∧ Fun K "__init__" "Deed.__init__" sDeed0 fD fd
  come : ∃ fd, Fun K "__init__" "Come.__init__" sCome0 a.fC0 fd
  go : ∃ fd, Fun K "__init__" "Go.__init__" sGo0 a.fG0 fd
  rk : RX P w K mg base a CN → RK P w K mg base a CN
  ear : EarC K mg a.CB CX
  nm : Nm mg
  n_range : mg "range" = none
  n_repr : mg "repr" = none
  n_zip : mg "zip" = none
  pen : ∃ f fd, mg "_law_pen" = some (.ref f) ∧ Fun K "_law_pen" "_law_pen" sPen f fd
  draw : ∃ f fd, mg "_law_draw" = some (.ref f) ∧ Fun K "_law_draw" "_law_draw" sDraw f fd
  pick : ∃ f fd, mg "_law_pick" = some (.ref f) ∧ Fun K "_law_pick" "_law_pick" sPick f fd
  ldeed : ∃ f fd, mg "_law_deed" = some (.ref f) ∧ Fun K "_law_deed" "_law_deed" sLD f fd
  made : ∃ f fd, mg "_law_made" = some (.ref f) ∧ Fun K "_law_made" "_law_made" sLM f fd
  some_ : ∃ f fd, mg "_law_some" = some (.ref f) ∧ Fun K "_law_some" "_law_some" sSo f fd
  heard : ∃ f fd, mg "_law_heard" = some (.ref f) ∧ Fun K "_law_heard" "_law_heard" sHeard f fd
  called : ∃ f fd, mg "_law_called" = some (.ref f) ∧ Fun K "_law_called" "_law_called" sLC f fd
  line : ∃ f fd, mg "_law_line" = some (.ref f) ∧ Fun K "_law_line" "_law_line" sLL f fd
  right : ∃ f fd, mg "_law_right" = some (.ref f) ∧ Fun K "_law_right" "_law_right" sRi f fd
  walked : ∃ f fd, mg "_law_walked_right" = some (.ref f) ∧ Fun K "_law_walked_right" "_law_walked_right" sWa f fd
  joined : ∃ f fd, mg "_law_joined_right" = some (.ref f) ∧ Fun K "_law_joined_right" "_law_joined_right" sJo f fd
section
variable {P : Program} {w : World} {K : PySem.W.Frag} {mg : Str → Option Value} {base : Heap}
theorem ok_all {a : DAd} {CN CX f c0 Pt : Addr} {oc kV doc pm ct : Value} {od an : Option Addr} {osl : Array (Option Value)} (lk : K.lookup f = some ⟨oc, od, .func (PySem.W.fnOf "law" "law" (defArgs sLaw) (defBody sLaw) (defScope sLaw) .none kV doc pm an (.ref c0) ct), osl⟩) (hcd : PySem.W.codeIn K (.ref c0) "law" = true) (TB : LamX.TabB base mg c0 Pt) (Fa : Facts P w K mg base a CN CX) :
    OwR.FnG P w K mg base CX0 10 f (PySem.W.fnOf "law" "law" (defArgs sLaw) (defBody sLaw) (defScope sLaw) .none kV doc pm an (.ref c0) ct) ["_law_script"] (spLaw K [(Pt, qLaw)]) := by
  obtain ⟨R, mkC, mkG, ⟨fB, _, TBad, hv, F_bad⟩, ⟨_, _, g_is, F_is⟩, ⟨_, _, g_chk, F_chk⟩, ⟨_, _, _, rD, cD, F_deed0⟩, ⟨_, F_come⟩, ⟨_, F_go⟩, rk, ear, nm, n_range, n_repr, n_zip, ⟨_, _, g_pen, F_pen⟩, ⟨_, _, g_draw, F_draw⟩, ⟨_, _, g_pick, F_pick⟩, ⟨_, _, g_deed, F_deed⟩, ⟨_, _, g_made, F_made⟩, ⟨_, _, g_some, F_some⟩, ⟨_, _, g_heard, F_heard⟩, ⟨_, _, g_called, F_called⟩, ⟨_, _, g_line, F_line⟩, ⟨_, _, g_right, F_right⟩, ⟨_, _, g_walked, F_walked⟩, ⟨_, _, g_joined, F_joined⟩⟩ := Fa
  have GC := ok_check (P := P) (w := w) (base := base) F_chk R.T F_is g_is F_bad TBad hv
  have come0 : FnR P w K mg base (L2.CX P w) 4 a.fC0 (spCome0 K a.CC CN) := OwR.raw0 (ok_come0 R.k.dC F_come F_chk g_chk GC F_deed0 R.gD rD cD) (F_come.binds fun _ _ _ _ _ _ us hl => match us, hl with | [_, _], _ => rfl)
  have go0 : FnR P w K mg base (L2.CX P w) 4 a.fG0 (spGo0 K a.CG CN) := OwR.raw0 (ok_go0 R.k.dG F_go F_chk g_chk GC F_deed0 R.gD rD cD) (F_go.binds fun _ _ _ _ _ _ us hl => match us, hl with | [_, _, _], _ => rfl)
  have K1 := rk ⟨R, mkC, mkG, come0, go0⟩
  have n_list := nm.n_list
  have bR := F_right.binds (ps := ["_law_row_so", "_law_some_here"]) fun _ _ _ _ _ _ us hl => match us, hl with | [_, _], _ => rfl
  have bJ := F_joined.binds (ps := ["_law_one", "_law_two", "_law_some_here", "_law_more"]) fun _ _ _ _ _ _ us hl => match us, hl with | [_, _, _, _], _ => rfl
  have GR := ok_Ri K1 F_right F_line g_line n_list n_repr n_range
  exact ok_law lk hcd K1 ear nm F_heard g_heard F_draw g_draw F_pen g_pen F_pick g_pick F_some g_some (ok_So F_some nm n_range F_draw g_draw F_deed g_deed (ok_LD F_deed nm F_draw g_draw F_pick g_pick)) F_made g_made F_called g_called
    GR g_right F_right.kp bR (ok_Jo K1 F_joined GR g_right F_right.kp bR F_made g_made) g_joined F_joined.kp bJ F_walked g_walked n_range n_repr n_zip TB (List.mem_singleton.mpr rfl) (fun p hp _ => by rw [List.mem_singleton.mp hp])
end
end K10
end
section
namespace K10
open PySem PySem.Spec PyProof.Rows L2
def theDefs : List OwH.DX :=
  [⟨fun K => OwH.ga K "is_name", "is_name", "is_name", sName⟩,
   ⟨fun K => OwH.ga K "is_within", "is_within", "is_within", sWithin⟩,
   ⟨fun K => OwH.ga K "check_name", "check_name", "check_name", sCheck⟩,
   ⟨fun K => OwH.ga K "_law_pen", "_law_pen", "_law_pen", sPen⟩,
   ⟨fun K => OwH.ga K "_law_draw", "_law_draw", "_law_draw", sDraw⟩,
   ⟨fun K => OwH.ga K "_law_pick", "_law_pick", "_law_pick", sPick⟩,
   ⟨fun K => OwH.ga K "_law_deed", "_law_deed", "_law_deed", sLD⟩,
   ⟨fun K => OwH.ga K "_law_made", "_law_made", "_law_made", sLM⟩,
   ⟨fun K => OwH.ga K "_law_some", "_law_some", "_law_some", sSo⟩,
   ⟨fun K => OwH.ga K "_law_heard", "_law_heard", "_law_heard", sHeard⟩,
   ⟨fun K => OwH.ga K "_law_called", "_law_called", "_law_called", sLC⟩,
   ⟨fun K => OwH.ga K "_law_line", "_law_line", "_law_line", sLL⟩,
   ⟨fun K => OwH.ga K "_law_right", "_law_right", "_law_right", sRi⟩,
   ⟨fun K => OwH.ga K "_law_walked_right", "_law_walked_right", "_law_walked_right", sWa⟩,
   ⟨fun K => OwH.ga K "_law_joined_right", "_law_joined_right", "_law_joined_right", sJo⟩,
   ⟨fun K => OwH.ga K "law", "law", "law", sLaw⟩,
   ⟨fun K => OwH.mo K "BadName" "__init__", "__init__", "BadName.__init__", sBad0⟩,
   ⟨fun K => OwH.mo K "BadDeed" "__init__", "__init__", "BadDeed.__init__", sBadDeed0⟩,
   ⟨fun K => OwH.mo K "Deed" "__init__", "__init__", "Deed.__init__", sDeed0⟩,
   ⟨fun K => OwH.mo K "Come" "__init__", "__init__", "Come.__init__", sCome0⟩,
   ⟨fun K => OwH.mo K "Go" "__init__", "__init__", "Go.__init__", sGo0⟩,
   ⟨fun K => OwH.inRec K (OwH.mo K "Come" "parts") "property", "parts", "Come.parts", sComeP⟩,
   ⟨fun K => OwH.inRec K (OwH.mo K "Go" "parts") "property", "parts", "Go.parts", sGoP⟩,
   ⟨fun K => OwH.mo K "Come" "__eq__", "__eq__", "Come.__eq__", sComeE⟩,
   ⟨fun K => OwH.mo K "Go" "__eq__", "__eq__", "Go.__eq__", sGoE⟩,
   ⟨fun K => OwH.mo K "Come" "__str__", "__str__", "Come.__str__", sComeS⟩,
   ⟨fun K => OwH.mo K "Go" "__str__", "__str__", "Go.__str__", sGoS⟩,
   ⟨fun K => OwH.mo K "Row" "__init__", "__init__", "Row.__init__", sR0⟩,
   ⟨fun K => OwH.inRec K (OwH.mo K "Row" "of") "classmethod", "of", "Row.of", sROf⟩,
   ⟨fun K => OwH.inRec K (OwH.mo K "Row" "parts") "property", "parts", "Row.parts", sRP⟩,
   ⟨fun K => OwH.inRec K (OwH.mo K "Row" "comings") "property", "comings", "Row.comings", sRC⟩,
   ⟨fun K => OwH.mo K "Row" "until", "until", "Row.until", sRU⟩,
   ⟨fun K => OwH.mo K "Row" "__getitem__", "__getitem__", "Row.__getitem__", sRG⟩,
   ⟨fun K => OwH.mo K "Row" "__len__", "__len__", "Row.__len__", sRL⟩,
   ⟨fun K => OwH.mo K "Row" "__iter__", "__iter__", "Row.__iter__", sRI⟩,
   ⟨fun K => OwH.mo K "Row" "__add__", "__add__", "Row.__add__", sRA⟩,
   ⟨fun K => OwH.mo K "Row" "__eq__", "__eq__", "Row.__eq__", sRE⟩,
   ⟨fun K => OwH.mo K "Row" "__str__", "__str__", "Row.__str__", sRS⟩]
def theFacts : List (PySem.W.Frag → Bool) :=
  [(He.Fa.glo "is_name").ok,
   (He.Fa.glo "is_within").ok,
   (He.Fa.glo "check_name").ok,
   (He.Fa.glo "_law_pen").ok,
   (He.Fa.glo "_law_draw").ok,
   (He.Fa.glo "_law_pick").ok,
   (He.Fa.glo "_law_deed").ok,
   (He.Fa.glo "_law_made").ok,
   (He.Fa.glo "_law_some").ok,
   (He.Fa.glo "_law_heard").ok,
   (He.Fa.glo "_law_called").ok,
   (He.Fa.glo "_law_line").ok,
   (He.Fa.glo "_law_right").ok,
   (He.Fa.glo "_law_walked_right").ok,
   (He.Fa.glo "_law_joined_right").ok,
   (He.Fa.glo "law").ok,
   (He.Fa.glo "Come").ok,
   (He.Fa.glo "Go").ok,
   (He.Fa.glo "Deed").ok,
   (He.Fa.glo "Row").ok,
   (He.Fa.glo "BadName").ok,
   (He.Fa.glo "BadDeed").ok,
   (He.Fa.glo "NextError").ok,
   (He.Fa.free "int").ok,
   (He.Fa.free "bool").ok,
   (He.Fa.free "str").ok,
   (He.Fa.free "len").ok,
   (He.Fa.free "all").ok,
   (He.Fa.free "isinstance").ok,
   (He.Fa.free "list").ok,
   (He.Fa.free "tuple").ok,
   (He.Fa.free "abs").ok,
   (He.Fa.free "range").ok,
   (He.Fa.free "repr").ok,
   (He.Fa.free "zip").ok,
   (He.Fa.free "enumerate").ok,
   (He.Fa.free "iter").ok,
   (He.Fa.mkr "Come").ok,
   (He.Fa.cls "Come").ok,
   (He.Fa.noat "Come" "_parts").ok,
   (He.Fa.noat "Come" "kind").ok,
   (He.Fa.noat "Come" "bay").ok,
   OwH.fIsC "Come",
   OwH.fHas "Come" "__eq__",
   OwH.fHas "Come" "__str__",
   (He.Fa.mkr "Go").ok,
   (He.Fa.cls "Go").ok,
   (He.Fa.noat "Go" "_parts").ok,
   (He.Fa.noat "Go" "kind").ok,
   (He.Fa.noat "Go" "bay").ok,
   OwH.fIsC "Go",
   OwH.fHas "Go" "__eq__",
   OwH.fHas "Go" "__str__",
   (He.Fa.mkr "Row").ok,
   (He.Fa.cls "Row").ok,
   (He.Fa.noat "Row" "_parts").ok,
   (He.Fa.noat "Row" "kind").ok,
   (He.Fa.noat "Row" "bay").ok,
   OwH.fIsC "Row",
   OwH.fHas "Row" "__eq__",
   OwH.fHas "Row" "__str__",
   OwH.fProp "Come" "parts",
   fNoB "Come",
   OwH.fNot "Come" fun K => .ref (OwH.ga K "Come"),
   OwH.fNot "Come" fun K => .ref (OwH.ga K "Go"),
   OwH.fProp "Go" "parts",
   fNoB "Go",
   OwH.fNot "Go" fun K => .ref (OwH.ga K "Come"),
   OwH.fNot "Go" fun K => .ref (OwH.ga K "Go"),
   OwH.fKit "Come" "Deed" true,
   OwH.fKit "Go" "Deed" true,
   OwH.fKit "Row" "Deed" false,
   OwH.fKit "Come" "Come" true,
   OwH.fKit "Go" "Go" true,
   OwH.fKit "Go" "Come" false,
   OwH.fKit "Come" "Go" false,
   OwH.fKit "Row" "Row" true,
   OwH.fKit "BadDeed" "BadDeed" true,
   OwH.fNot "Row" fun K => .ref (OwH.ga K "Row"),
   (He.Fa.noat "Row" "_deeds").ok,
   OwH.fHas "Row" "__iter__",
   OwH.fHas "Row" "__len__",
   OwH.fSpc "Row" "__getitem__",
   fun K => OwH.fBin .Add K (OwH.ga K "Row") (OwH.mo K "Row" "__add__"),
   fun K => OwR.noIn K (OwH.ga K "Row") (dunderI Operator.Add.info.2),
   OwH.fProp "Row" "parts",
   OwH.fProp "Row" "comings",
   fun K => OwH.fMethAt K (OwH.ga K "Row") "until" (OwH.mo K "Row" "until"),
   OwH.fRead "Row",
   OwH.fCMet "Row" "of",
   fTys,
   OwH.fRead "Deed",
   OwH.fCFun "Deed" "__init__",
   OwH.fExm "BadDeed" "NextError" true,
   OwH.fErr "BadName",
   OwH.fIni "BadName",
   OwH.fNoF "BadName" "value",
   OwH.fErr "BadDeed",
   OwH.fIni "BadDeed",
   OwH.fNoF "BadDeed" "at"]
def theTabs : List (PySem.W.Frag → Addr) := [fun K => OwH.ga K "law"]
def roots : List Str := ([("is_name" : Str), ("is_within" : Str), ("check_name" : Str), ("_law_pen" : Str), ("_law_draw" : Str), ("_law_pick" : Str), ("_law_deed" : Str), ("_law_made" : Str)] : List Str) ++ ([("_law_some" : Str), ("_law_heard" : Str), ("_law_called" : Str), ("_law_line" : Str), ("_law_right" : Str), ("_law_walked_right" : Str), ("_law_joined_right" : Str), ("law" : Str)] : List Str) ++ ([("Come" : Str), ("Go" : Str), ("Deed" : Str), ("Row" : Str), ("BadName" : Str), ("BadDeed" : Str), ("NextError" : Str)] : List Str)
def names : List Str := ([("_wall" : Str), ("NextError" : Str), ("BadName" : Str), ("BadDeed" : Str), ("TooMany" : Str), ("BadText" : Str), ("is_name" : Str), ("is_within" : Str)] : List Str) ++ ([("Words" : Str), ("Deed" : Str), ("Come" : Str), ("Go" : Str), ("Row" : Str), ("check_name" : Str), ("deeds_from" : Str), ("deed_from" : Str)] : List Str) ++ ([("_law_pen" : Str), ("_law_draw" : Str), ("_law_pick" : Str), ("_law_deed" : Str), ("_law_made" : Str), ("_law_some" : Str), ("_law_heard" : Str), ("_law_called" : Str)] : List Str) ++ ([("_law_line" : Str), ("_law_right" : Str), ("_law_walked_right" : Str), ("_law_joined_right" : Str)] : List Str)
abbrev Rw : PySem.W.OpenRow := PySem.W.OpenLaw.row PySem.Challenge.rw_nextkind_k32_rows_made
abbrev hk : PySem.W.Hook := OwH.hookT roots theFacts theDefs theTabs
def ob (s : PySem.W.SharedT) : OwH.AT := OwH.obsT roots theFacts theDefs theTabs (HandSHeadRun.getT s)
theorem ob_eq (s : PySem.W.SharedT) : ob s = hk.obs s.abs := OwH.obsT_eq (HandSHeadRun.getT_eq s)
theorem run (w : World) : HandSHeadRun.RunEq Rw (PySem.W.view Rw.prog [33]) hk ob 12000 names w := by
  intro os
  kernel_rfl
theorem facts {P : Program} {w : World} {K : PySem.W.Frag} {h base : Heap} {mg : Str → Option Value} (X : K.In h) (G : h.Ns mainGlobals mg) (c : OwH.seeX theFacts theDefs K = OwH.wantX theDefs) : Facts P w K mg base (da K) (OwH.ga K "BadName") (OwH.ga K "NextError") := by
  obtain ⟨fd0, F0⟩ := OwH.def_ c 0 rfl
  obtain ⟨fd1, F1⟩ := OwH.def_ c 1 rfl
  obtain ⟨fd2, F2⟩ := OwH.def_ c 2 rfl
  obtain ⟨fd3, F3⟩ := OwH.def_ c 3 rfl
  obtain ⟨fd4, F4⟩ := OwH.def_ c 4 rfl
  obtain ⟨fd5, F5⟩ := OwH.def_ c 5 rfl
  obtain ⟨fd6, F6⟩ := OwH.def_ c 6 rfl
  obtain ⟨fd7, F7⟩ := OwH.def_ c 7 rfl
  obtain ⟨fd8, F8⟩ := OwH.def_ c 8 rfl
  obtain ⟨fd9, F9⟩ := OwH.def_ c 9 rfl
  obtain ⟨fd10, F10⟩ := OwH.def_ c 10 rfl
  obtain ⟨fd11, F11⟩ := OwH.def_ c 11 rfl
  obtain ⟨fd12, F12⟩ := OwH.def_ c 12 rfl
  obtain ⟨fd13, F13⟩ := OwH.def_ c 13 rfl
  obtain ⟨fd14, F14⟩ := OwH.def_ c 14 rfl
  obtain ⟨fd16, F16⟩ := OwH.def_ c 16 rfl
  obtain ⟨fd17, F17⟩ := OwH.def_ c 17 rfl
  obtain ⟨fd18, F18⟩ := OwH.def_ c 18 rfl
  obtain ⟨fd19, F19⟩ := OwH.def_ c 19 rfl
  obtain ⟨fd20, F20⟩ := OwH.def_ c 20 rfl
  obtain ⟨fd21, F21⟩ := OwH.def_ c 21 rfl
  obtain ⟨fd22, F22⟩ := OwH.def_ c 22 rfl
  obtain ⟨fd23, F23⟩ := OwH.def_ c 23 rfl
  obtain ⟨fd24, F24⟩ := OwH.def_ c 24 rfl
  obtain ⟨fd25, F25⟩ := OwH.def_ c 25 rfl
  obtain ⟨fd26, F26⟩ := OwH.def_ c 26 rfl
  obtain ⟨fd27, F27⟩ := OwH.def_ c 27 rfl
  obtain ⟨fd28, F28⟩ := OwH.def_ c 28 rfl
  obtain ⟨fd29, F29⟩ := OwH.def_ c 29 rfl
  obtain ⟨fd30, F30⟩ := OwH.def_ c 30 rfl
  obtain ⟨fd31, F31⟩ := OwH.def_ c 31 rfl
  obtain ⟨fd32, F32⟩ := OwH.def_ c 32 rfl
  obtain ⟨fd33, F33⟩ := OwH.def_ c 33 rfl
  obtain ⟨fd34, F34⟩ := OwH.def_ c 34 rfl
  obtain ⟨fd35, F35⟩ := OwH.def_ c 35 rfl
  obtain ⟨fd36, F36⟩ := OwH.def_ c 36 rfl
  obtain ⟨fd37, F37⟩ := OwH.def_ c 37 rfl
  exact ⟨⟨⟨⟨He.cls_ok (OwH.fact c 38 rfl), He.noat_ok (OwH.fact c 39 rfl), He.noat_ok (OwH.fact c 40 rfl), He.noat_ok (OwH.fact c 41 rfl), (OwH.isC_ok (OwH.fact c 42 rfl)).1, (OwH.isC_ok (OwH.fact c 42 rfl)).2.1, (OwH.isC_ok (OwH.fact c 42 rfl)).2.2.1, (OwH.isC_ok (OwH.fact c 42 rfl)).2.2.2⟩, ⟨He.cls_ok (OwH.fact c 46 rfl), He.noat_ok (OwH.fact c 47 rfl), He.noat_ok (OwH.fact c 48 rfl), He.noat_ok (OwH.fact c 49 rfl), (OwH.isC_ok (OwH.fact c 50 rfl)).1, (OwH.isC_ok (OwH.fact c 50 rfl)).2.1, (OwH.isC_ok (OwH.fact c 50 rfl)).2.2.1, (OwH.isC_ok (OwH.fact c 50 rfl)).2.2.2⟩, ⟨He.cls_ok (OwH.fact c 54 rfl), He.noat_ok (OwH.fact c 55 rfl), He.noat_ok (OwH.fact c 56 rfl), He.noat_ok (OwH.fact c 57 rfl), (OwH.isC_ok (OwH.fact c 58 rfl)).1, (OwH.isC_ok (OwH.fact c 58 rfl)).2.1, (OwH.isC_ok (OwH.fact c 58 rfl)).2.2.1, (OwH.isC_ok (OwH.fact c 58 rfl)).2.2.2⟩, He.noat_ok (OwH.fact c 79 rfl), of_decide_eq_true (OwH.fact c 69 rfl), of_decide_eq_true (OwH.fact c 70 rfl), of_decide_eq_true (OwH.fact c 71 rfl), of_decide_eq_true (OwH.fact c 72 rfl), of_decide_eq_true (OwH.fact c 73 rfl), of_decide_eq_true (OwH.fact c 74 rfl), of_decide_eq_true (OwH.fact c 75 rfl), of_decide_eq_true (OwH.fact c 76 rfl), (OwH.fact c 63 rfl), (OwH.fact c 64 rfl), (OwH.fact c 67 rfl), (OwH.fact c 68 rfl)⟩,
    ⟨⟨OwH.err_ok (OwH.fact c 97 rfl), (He.glo_ok X G (OwH.fact c 21 rfl)), (OwH.ini_ok (OwH.fact c 98 rfl)).1, (OwH.ini_ok (OwH.fact c 98 rfl)).2⟩, of_decide_eq_true (OwH.fact c 99 rfl), ⟨_, F17⟩⟩,
    ⟨(He.free_ok X G (OwH.fact c 25 rfl)), (He.free_ok X G (OwH.fact c 26 rfl)), (He.free_ok X G (OwH.fact c 27 rfl)), (He.free_ok X G (OwH.fact c 28 rfl))⟩, (He.free_ok X G (OwH.fact c 23 rfl)), (He.free_ok X G (OwH.fact c 24 rfl)), (He.free_ok X G (OwH.fact c 35 rfl)), (He.free_ok X G (OwH.fact c 30 rfl)), (He.free_ok X G (OwH.fact c 36 rfl)), (He.glo_ok X G (OwH.fact c 18 rfl)), (He.glo_ok X G (OwH.fact c 16 rfl)), (He.glo_ok X G (OwH.fact c 17 rfl)), (He.glo_ok X G (OwH.fact c 19 rfl)), ⟨_, _, (He.glo_ok X G (OwH.fact c 1 rfl)), F1⟩,
    OwH.prop_ok (OwH.fact c 61 rfl), OwH.prop_ok (OwH.fact c 65 rfl), ⟨_, F21⟩, ⟨_, F22⟩, ⟨(OwH.has_ok (OwH.fact c 44 rfl)).1, (OwH.has_ok (OwH.fact c 44 rfl)).2⟩, ⟨(OwH.has_ok (OwH.fact c 52 rfl)).1, (OwH.has_ok (OwH.fact c 52 rfl)).2⟩, ⟨_, F25⟩, ⟨_, F26⟩, ⟨(OwH.has_ok (OwH.fact c 43 rfl)).1, (OwH.has_ok (OwH.fact c 43 rfl)).2⟩, ⟨(OwH.has_ok (OwH.fact c 51 rfl)).1, (OwH.has_ok (OwH.fact c 51 rfl)).2⟩, ⟨_, F23⟩, ⟨_, F24⟩, He.mkr_ok (OwH.fact c 53 rfl), ⟨_, F27⟩⟩,
    He.mkr_ok (OwH.fact c 37 rfl), He.mkr_ok (OwH.fact c 45 rfl), ⟨_, _, ⟨OwH.err_ok (OwH.fact c 94 rfl), (He.glo_ok X G (OwH.fact c 20 rfl)), (OwH.ini_ok (OwH.fact c 95 rfl)).1, (OwH.ini_ok (OwH.fact c 95 rfl)).2⟩, of_decide_eq_true (OwH.fact c 96 rfl), F16⟩, ⟨_, _, (He.glo_ok X G (OwH.fact c 0 rfl)), F0⟩, ⟨_, _, (He.glo_ok X G (OwH.fact c 2 rfl)), F2⟩, ⟨_, _, _, OwH.read_ok (OwH.fact c 91 rfl), OwH.cfun_ok (OwH.fact c 92 rfl), F18⟩, ⟨_, F19⟩, ⟨_, F20⟩,
    (fun X => ⟨X, ⟨He.cls_ok (OwH.fact c 54 rfl), He.noat_ok (OwH.fact c 79 rfl), (OwH.has_ok (OwH.fact c 80 rfl)).1, (OwH.has_ok (OwH.fact c 80 rfl)).2⟩, ⟨_, F34⟩, ⟨(OwH.has_ok (OwH.fact c 81 rfl)).1, (OwH.has_ok (OwH.fact c 81 rfl)).2⟩, ⟨_, F33⟩, OwH.spc_ok (OwH.fact c 82 rfl), ⟨_, F32⟩, ⟨(OwH.has_ok (OwH.fact c 60 rfl)).1, (OwH.has_ok (OwH.fact c 60 rfl)).2⟩, ⟨_, F37⟩, ⟨(OwH.has_ok (OwH.fact c 59 rfl)).1, (OwH.has_ok (OwH.fact c 59 rfl)).2⟩, ⟨_, F36⟩, (OwH.fact c 78 rfl), OwH.fBin_ok (OwH.fact c 83 rfl), ⟨_, F35⟩, (OwH.fact c 84 rfl),
    (nob_ok (OwH.fact c 62 rfl)).1, (nob_ok (OwH.fact c 66 rfl)).1, (nob_ok (OwH.fact c 62 rfl)).2.1, (nob_ok (OwH.fact c 66 rfl)).2.1, (nob_ok (OwH.fact c 62 rfl)).2.2, (nob_ok (OwH.fact c 66 rfl)).2.2,
    OwH.prop_ok (OwH.fact c 85 rfl), ⟨_, F29⟩, OwH.prop_ok (OwH.fact c 86 rfl), ⟨_, F30⟩, OwH.methAt_ok (OwH.fact c 87 rfl), ⟨_, F31⟩, OwH.read_ok (OwH.fact c 88 rfl), OwH.cmet_ok (OwH.fact c 89 rfl), ⟨_, F28⟩, tys_ok (OwH.fact c 90 rfl)⟩),
    ⟨OwH.err_ok (OwH.fact c 97 rfl), of_decide_eq_true (OwH.fact c 99 rfl), (He.glo_ok X G (OwH.fact c 21 rfl)), (He.glo_ok X G (OwH.fact c 22 rfl)), of_decide_eq_true (OwH.fact c 93 rfl), of_decide_eq_true (OwH.fact c 77 rfl)⟩, ⟨(He.free_ok X G (OwH.fact c 23 rfl)), (He.free_ok X G (OwH.fact c 26 rfl)), (He.free_ok X G (OwH.fact c 31 rfl)), (He.free_ok X G (OwH.fact c 29 rfl))⟩, (He.free_ok X G (OwH.fact c 32 rfl)), (He.free_ok X G (OwH.fact c 33 rfl)), (He.free_ok X G (OwH.fact c 34 rfl)),
    ⟨_, _, (He.glo_ok X G (OwH.fact c 3 rfl)), F3⟩, ⟨_, _, (He.glo_ok X G (OwH.fact c 4 rfl)), F4⟩, ⟨_, _, (He.glo_ok X G (OwH.fact c 5 rfl)), F5⟩, ⟨_, _, (He.glo_ok X G (OwH.fact c 6 rfl)), F6⟩, ⟨_, _, (He.glo_ok X G (OwH.fact c 7 rfl)), F7⟩, ⟨_, _, (He.glo_ok X G (OwH.fact c 8 rfl)), F8⟩, ⟨_, _, (He.glo_ok X G (OwH.fact c 9 rfl)), F9⟩, ⟨_, _, (He.glo_ok X G (OwH.fact c 10 rfl)), F10⟩, ⟨_, _, (He.glo_ok X G (OwH.fact c 11 rfl)), F11⟩, ⟨_, _, (He.glo_ok X G (OwH.fact c 12 rfl)), F12⟩, ⟨_, _, (He.glo_ok X G (OwH.fact c 13 rfl)), F13⟩, ⟨_, _, (He.glo_ok X G (OwH.fact c 14 rfl)), F14⟩⟩
theorem ends {P : Program} {w : World} {K : PySem.W.Frag} {h : Heap} {mg : Str → Option Value} {f : Addr} (X : K.In h) (G : h.Ns mainGlobals mg) (hf : mg ("law" : Str) = some (.ref f)) (c : OwH.SaysT theFacts theDefs theTabs h K) :
    ∃ (K : PySem.W.Frag) (fd : FuncData) (cs : List (Addr × Addr)) (sp : Sp), K.In h ∧ (∀ e ∈ cs, h.get? e.2 = some OwR.tabO) ∧ (∀ e ∈ cs, K.lookup e.2 = none) ∧ (∀ e ∈ cs, PySem.W.CodeHd h e.1 e.2) ∧
      (∀ (s : Shared) (u : Value), BindsTo s fd ⟨[u], []⟩ [("_law_script", u)]) ∧ (∀ (G : Hp) (a : Addr) (zs : List Int), zs.length ≤ 63 → (∀ e ∈ cs, G e.2 = some (.tbl #[])) → SqL K G a (zs.map V.int) → sp [.ref a] G (fun v _ => v = .bl true) fun _ _ _ => False) ∧
      ∀ base : Heap, K.In base → base.Ns mainGlobals mg → (∀ e ∈ cs, LamX.TabB base mg e.1 e.2) → OwR.FnG P w K mg base CX0 10 f fd ["_law_script"] sp := by
  obtain ⟨fd, F⟩ := OwH.def_ c.see 15 rfl
  have e := hf.symm.trans (He.glo_ok X G (OwH.fact c.see 15 rfl))
  cases e
  obtain ⟨oc, od, kV, doc, pm, an, cdv, ct, osl, rfl, lk, hcd⟩ := F.ex
  obtain ⟨c0, rfl⟩ := He.codeIn_ref hcd
  have ec : (OwH.cTab K (OwH.ga K "law")).1 = c0 := OwH.codA_eq lk rfl
  have one : ∀ e ∈ [OwH.cTab K (OwH.ga K "law")], e = OwH.cTab K (OwH.ga K "law") := fun e he => List.mem_singleton.mp he
  have mem : (fun K => OwH.ga K "law") ∈ theTabs := List.mem_singleton.mpr rfl
  refine ⟨K, PySem.W.fnOf "law" "law" (defArgs sLaw) (defBody sLaw) (defScope sLaw) .none kV doc pm an (.ref c0) ct, [OwH.cTab K (OwH.ga K "law")], spLaw K [((OwH.cTab K (OwH.ga K "law")).2, qLaw)], X, fun e he => ?_, fun e he => ?_, fun e he => ?_, fun s v => .of_eq rfl, fun G a zs hz ht sq => ⟨a, zs, rfl, sq, hz, fun e he => ?_, fun _ => rfl⟩, fun base hK hN hT => ?_⟩
  · rw [one e he]
    exact c.empty _ mem
  · rw [one e he]
    exact c.out _ mem
  · rw [one e he]
    exact PySem.W.codeHd_of_K X (c.hd _ mem)
  · rw [List.mem_singleton.mp he]
    exact LamX.TabS.nil (ht _ (List.mem_singleton.mpr rfl))
  · have TB := hT _ (List.mem_singleton.mpr rfl)
    rw [ec] at TB
    exact ok_all lk hcd TB (facts (P := P) (w := w) (base := base) X G c.see)

end K10
open PySem PySem.W PySem.Calls PyProof.Rows
theorem PySem.Challenge.cw_nextkind_k32_rows_made_holds : PySem.Challenge.rw_nextkind_k32_rows_made.Holds := by
  w_on; o_law
  refine HandSHeadRun.head_any (r := K10.Rw) (q := view K10.Rw.prog [33]) (H := K10.hk) (ob := K10.ob) (M := 12000) (loose := K10.names) (d := HandSHeadRun.topDef K10.Rw.prog 33) (kwd := []) K10.ob_eq
    (by kernel_rfl) (fun s => by kernel_rfl) K10.run (by kernel_rfl) (by kernel_rfl) (by kernel_rfl) (by rfl) (by first | assumption | decide +kernel) (by decide +kernel) ⟨rfl, rfl, rfl, rfl, rfl, by decide +kernel⟩ ?hw ?hc
  case hw => w_witness2
  case hc =>
    refine OwR.walk_ofTG (l := PySem.Challenge.rw_nextkind_k32_rows_made) (n := 63) (k := 10) (x := "_law_script") rfl (by decide) (by kernel_rfl) ⟨rfl, by decide, by decide⟩ ?_
    intro w mg fn h Y G hmg
    obtain ⟨K, X, c⟩ := Y
    have en : (HandSHeadRun.topDef K10.Rw.prog 33).name = ("law" : PySem.Str) := by kernel_rfl
    rw [en] at hmg
    exact K10.ends (P := PySem.Challenge.rw_nextkind_k32_rows_made.prog) (w := w) X G hmg c
end
