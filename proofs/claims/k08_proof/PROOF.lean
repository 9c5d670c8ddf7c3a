import PyProof.Rows.All
import Wide.All
import OpenK.AllK
import Wide.FinOn
import HandS.ForMost
import HandS.Set
import HandS.SetFor
import HandS.Strs
import HandS.More
import HandS.Exc
import HandS.Star
import HandS.ClsMeth
import HandS.MakeKwOnly
import HandS.Style
import HandS.TupAny
import KE.GoesMore
import KE.GoesEnum
import KE.KDictList
import HandS.Wide
import HandS.Codes
import PySem.Challenge.RW_nextkind_k08_rules_made
import HandS.IsInst
import HandS.Walk
import HandS.NoneIn
import HandS.DictComp
import HandS.Iter
import KE.KOpsOwn
import KE.KOwnIter
import PyProof.TupleIter
import HandS.IterVal
import PyProof.WalksMore
import HandS.OwnIter
import KE.KCallOwn
import PyProof.SliceList
import PyProof.P3Eq
import PyProof.EqKinds
import HandS.RaiseMore
import PyProof.CallFns
import HandS.Property
import PyProof.Rows.StrMeet
import PyProof.ReprBulk
import PyProof.Rows.FinIter
import KE.KStateDown
import Lean
import HandS.Base
import HandS.Call
import HandS.Ends
import HandS.Words
import HandS.Head0
import HandS.Head1
import HandS.Head2
import HandS.HeadEnd
import HandS.HeadHook1
import HandS.HeadHook2
set_option Elab.async false
set_option linter.all false
set_option maxRecDepth 100000
set_option maxHeartbeats 0
section
namespace TSet
open PySem PySem.Spec PyProof.Rows L2
/-- an entry of a set of texts -/
def TE (w : World) (e : Int × Value) : Prop := ∃ z tk, e = (hashStr w z, Value.str z tk)
def tk1 (e : Int × Value) : Str := strOf e.2
/-- the set object at a holds just the texts L, each once -/
def TS (w : World) (h : Heap) (a : Addr) (L : List Str) : Prop :=
  ∃ ob ents ep tab, h.get? a = some ob ∧ ob.ExactSet ∧ ob.data = .set ents ep tab ∧ (∀ e ∈ ents.toList, TE w e) ∧ (ents.toList.map tk1).Perm L ∧
    L.Nodup ∧ L.length < scanBound ∧ tab.fits ents.size = true ∧ Ris tab.place.toList ∧ (w.params.followText "set-order" = true ∨ tab.led = true)
section
variable {P : Program} {w : World} {h h' : Heap} {a : Addr} {L : List Str}
theorem TS.keep (R : TS w h a L) (k : ∀ o, h.get? a = some o → h'.get? a = some o) : TS w h' a L := by
  obtain ⟨ob, ents, ep, tab, h1, rest⟩ := R
  exact ⟨ob, ents, ep, tab, k ob h1, rest⟩
theorem te_is {e : Int × Value} (g : TE w e) (z : Str) : (strKind P w).is z e.2 = true ↔ tk1 e = z := by
  obtain ⟨y, tk, rfl⟩ := g
  show ((y == z) = true) ↔ y = z
  exact beq_iff_eq
theorem te_elems {l : List (Int × Value)} (g : ∀ e ∈ l, TE w e) : ElemsOf (strKind P w) l := fun e he => by
  obtain ⟨z, tk, rfl⟩ := g e he
  exact ⟨⟨z, strKind_is P w z tk, rfl⟩, rfl⟩
theorem te_mem {l : List (Int × Value)} (g : ∀ e ∈ l, TE w e) (z : Str) : z ∈ l.map tk1 ↔ ∃ e ∈ l, (strKind P w).is z e.2 = true := by
  constructor
  · intro m
    obtain ⟨e, he, q⟩ := List.mem_map.mp m
    exact ⟨e, he, (te_is (g e he) z).2 q⟩
  · rintro ⟨e, he, q⟩
    exact List.mem_map.mpr ⟨e, he, (te_is (g e he) z).1 q⟩
theorem TS.fresh {ob : Obj} (ho : h.get? a = some ob) (e : ob = { cls := .type "set", dict := none, data := .set #[] 0 (.fresh 0 0 (!w.params.followText "set-order")) }) : TS w h a [] := by
  subst e
  refine ⟨_, #[], 0, _, ho, ⟨rfl, rfl, rfl⟩, rfl, fun e he => by simp at he, List.Perm.refl _, List.nodup_nil, by decide, rfl, List.Pairwise.nil, ?_⟩
  show w.params.followText "set-order" = true ∨ (!w.params.followText "set-order") = true
  cases w.params.followText "set-order" <;> simp
end
/-- one more text -/
def put1 (L : List Str) (z : Str) : List Str := if z ∈ L then L else z :: L
theorem put1_len (L : List Str) (z : Str) : (put1 L z).length ≤ L.length + 1 := by
  unfold put1
  split
  · exact Nat.le_succ _
  · exact Nat.le_refl _
section
variable {P : Program} {w : World} {A : Around} {E : Value → Shared → Prop} {s : Shared} {a : Addr} {L : List Str}
theorem ts_add_end {g : Bool → Sem Unit} (hg : ∀ (b : Bool) (s₁ : Shared) (Q' : Unit → Shared → Prop), Q' () s₁ → wpAny (model P w) A (g b) Q' E s₁)
    {ob : Obj} {ents : Array (Int × Value)} {ep : Nat} {tab : SetTable} (ho : s.heap.get? a = some ob) (hex : ob.ExactSet) (hd : ob.data = .set ents ep tab)
    {en1 : Array (Int × Value)} {tb : SetTable} {M : List Str} (g1 : ∀ e ∈ en1.toList, TE w e) (pm1 : (en1.toList.map tk1).Perm M) (nd1 : M.Nodup)
    (hb : M.length < scanBound) (hf : tb.fits en1.size = true) (hr : Ris tb.place.toList) (hl : w.params.followText "set-order" = true ∨ tb.led = true) {dm : Bool} {R : Option Bool → Shared → Prop}
    (hR : ∀ h', Heap.SameBut a s.heap h' → TS w h' a M → R (some true) { s with heap := h' }) :
    wpAny (model P w) A (do
        storeSet a en1 tb
        if (!dm && tb.tooFull) = true then do
            g (relayAll tb en1 (SetTable.grown en1.size)).2.2
            storeSet a (relayAll tb en1 (SetTable.grown en1.size)).1 (relayAll tb en1 (SetTable.grown en1.size)).2.1
            pure (some true)
          else pure (some true)) R E s := by
  have hn1 : en1.size = M.length := by
    have q := pm1.length_eq
    rw [List.length_map, Array.length_toList] at q
    exact q
  refine wpAny_bind (wpAny_storeSet_of ho hd ?_ (fits_of_scanBound (by rw [hn1]; exact hb)))
  have ho1 := store_at (es' := en1) (t' := tb) ho hd
  have sb1 := Heap.SameBut.update s.heap a (Obj.putSet en1 tb)
  split
  · have pm := relayAll_perm tb en1 (SetTable.grown en1.size)
    have hf3 := relayAll_fits tb en1 (SetTable.grown en1.size)
    have hr3 := relayAll_ris tb en1 (SetTable.grown en1.size)
    have hl3 := relayAll_led tb en1 (SetTable.grown en1.size)
    generalize relayAll tb en1 (SetTable.grown en1.size) = Z at pm hf3 hr3 hl3 ⊢
    obtain ⟨en2, tb3, gave⟩ := Z
    dsimp only at pm hf3 hr3 hl3 ⊢
    have hn2 : en2.size = M.length := by rw [← hn1, ← Array.length_toList, pm.length_eq, Array.length_toList]
    refine wpAny_bind (hg _ _ _ ?_)
    refine wpAny_bind (wpAny_storeSet_of ho1 rfl ?_ (fits_of_scanBound (by rw [hn2]; exact hb)))
    have ho2 := store_at (es' := en2) (t' := tb3) ho1 rfl
    exact wpAny_pure (hR _ (sb1.trans (Heap.SameBut.update _ a _)) ⟨_, en2, _, tb3, ho2, hex, rfl, fun e he => g1 e (pm.mem_iff.mp he), (pm.map tk1).trans pm1, nd1, hb, hf3, hr3, by rw [hl3]; exact hl⟩)
  · exact wpAny_pure (hR _ sb1 ⟨_, en1, _, tb, ho1, hex, rfl, g1, pm1, nd1, hb, hf, hr, hl⟩)
theorem ts_add {z : Str} {tk : Tok} {Q : Bool → Shared → Prop} (R : TS w s.heap a L) (room : L.length + 1 < scanBound)
    (hQ : ∀ b h', Heap.SameBut a s.heap h' → TS w h' a (put1 L z) → Q b { s with heap := h' }) :
    wpAny (model P w) A (setAddHashed a (.str z tk) ((strKind P w).hash z)) Q E s := by
  obtain ⟨ob, ents, ep, tab, ho, hex, hd, g, pm0, nd, hb, hf, hr, hl⟩ := R
  have hkey : (strKind P w).is z (.str z tk) = true := strKind_is P w z tk
  have hsc : (Value.str z tk).scannable = true := rfl
  have hel : ElemsOf (strKind P w) ents.toList := te_elems g
  have hn : ents.size = L.length := by
    have q := pm0.length_eq
    rw [List.length_map, Array.length_toList] at q
    exact q
  unfold setAddHashed setAddHashedIn
  refine wpAny_holding (wpAny_bind (wpAny_setState_of ho hd hf ?_))
  dsimp only
  rw [byScan_of hsc (by rw [hn]; exact hb) hel]
  simp only [↓reduceIte]
  unfold setAddByScan
  refine wpAny_bind (wpAny_bind (wpAny_rule (wpAny_bind (wpAny_setScan_of hkey ho hd hf hel ?_))))
  cases hfi : List.findIdx? (fun e => (strKind P w).is z e.2) ents.toList with
  | some j =>
    dsimp only
    obtain ⟨hj, pj, _⟩ := List.findIdx?_eq_some_iff_getElem.mp hfi
    have hz : z ∈ L := pm0.mem_iff.mp ((te_mem (P := P) (w := w) g z).2 ⟨ents.toList[j], List.getElem_mem hj, pj⟩)
    refine wpAny_pure (wpAny_pure ?_)
    refine hQ _ s.heap (Heap.SameBut.refl a s.heap) ?_
    unfold put1
    rw [if_pos hz]
    exact ⟨ob, ents, ep, tab, ho, hex, hd, g, pm0, nd, hb, hf, hr, hl⟩
  | none =>
    dsimp only
    have hz : z ∉ L := fun q => by
      obtain ⟨e, he, c⟩ := (te_mem (P := P) (w := w) g z).1 (pm0.mem_iff.mpr q)
      have d := List.findIdx?_eq_none_iff.mp hfi e he
      rw [c] at d
      cases d
    have hgw : ∀ (b : Bool) {s₁ : Shared} {Q' : Unit → Shared → Prop}, Q' () s₁ → wpAny (model P w) A (match b with | true => rule "set.scan.the-table-gave-way" | false => pure ()) Q' E s₁ :=
      fun b _ _ q => by cases b <;> first | exact wpAny_pure q | exact wpAny_rule q
    have pm := layNew_perm tab ents ((strKind P w).hash z) (.str z tk)
    have hf1 := layNew_fits tab ents ((strKind P w).hash z) (.str z tk)
    have hr1 := layNew_ris tab ents ((strKind P w).hash z) (.str z tk) hr
    have hl1 := layNew_led tab ents ((strKind P w).hash z) (.str z tk)
    generalize layNew tab ents ((strKind P w).hash z) (.str z tk) = Z at pm hf1 hr1 hl1 ⊢
    obtain ⟨en1, tb1, dmy, gave⟩ := Z
    dsimp only at pm hf1 hr1 hl1 ⊢
    rw [Array.toList_push] at pm
    have pc : en1.toList.Perm (((strKind P w).hash z, Value.str z tk) :: ents.toList) := pm.trans (List.perm_append_singleton _ _)
    have pk : (en1.toList.map tk1).Perm (z :: L) := (pc.map tk1).trans (List.Perm.cons z pm0)
    have g1 : ∀ e ∈ en1.toList, TE w e := fun e he => by
      rcases List.mem_cons.mp (pc.mem_iff.mp he) with q | q
      · exact ⟨z, tk, q⟩
      · exact g e q
    have nd1 : (z :: L).Nodup := List.nodup_cons.mpr ⟨hz, nd⟩
    have hled : w.params.followText "set-order" = true ∨ tb1.led = true := by rw [hl1]; exact hl
    have e1 : put1 L z = z :: L := if_neg hz
    rw [e1] at hQ
    refine wpAny_bind (hgw _ ?_)
    split
    · refine wpAny_bind ?_
      rw [hashByValue_scannable 8 hsc]
      refine wpAny_pure ?_
      refine ts_add_end (dm := dmy) ?_ ho hex hd g1 pk nd1 room ?_ ?_ ?_ ?_
      · intro b _ _ q; cases b <;> first | exact wpAny_pure q | exact wpAny_rule q
      · first | (split <;> first | exact hf1 | exact SetTable.fits_plain_off hf1) | exact hf1
      · first | (split <;> exact hr1) | exact hr1
      · first | (split <;> exact hled) | exact hled
      · intro h' sb r; dsimp only; exact wpAny_pure (hQ _ h' sb r)
    · refine wpAny_bind (wpAny_pure ?_)
      simp only [↓reduceIte]
      refine ts_add_end (dm := dmy) ?_ ho hex hd g1 pk nd1 room hf1 hr1 hled ?_
      · intro b _ _ q; cases b <;> first | exact wpAny_pure q | exact wpAny_rule q
      · intro h' sb r; dsimp only; exact wpAny_pure (hQ _ h' sb r)
end
end TSet
end
section
namespace TSet
open PySem PySem.Spec PyProof.Rows L2
/-- the texts of a list, each once -/
def ded (xs : List Str) : List Str := xs.foldl put1 []
theorem put1_mem (L : List Str) (z y : Str) : y ∈ put1 L z ↔ y = z ∨ y ∈ L := by
  unfold put1
  split
  · rename_i h
    exact ⟨.inr, fun q => q.elim (fun e => e ▸ h) id⟩
  · exact List.mem_cons
theorem fold_mem : ∀ (xs L : List Str) (y : Str), y ∈ xs.foldl put1 L ↔ y ∈ L ∨ y ∈ xs
  | [], L, y => by simp
  | x :: xs, L, y => by
    rw [List.foldl_cons, fold_mem xs, put1_mem, List.mem_cons]
    constructor
    · rintro ((q | q) | q)
      · exact .inr (.inl q)
      · exact .inl q
      · exact .inr (.inr q)
    · rintro (q | q | q)
      · exact .inl (.inr q)
      · exact .inl (.inl q)
      · exact .inr q
theorem ded_mem (xs : List Str) (y : Str) : y ∈ ded xs ↔ y ∈ xs := by
  unfold ded
  rw [fold_mem]
  simp
theorem fold_len : ∀ (xs L : List Str), (xs.foldl put1 L).length ≤ L.length + xs.length
  | [], L => Nat.le_refl _
  | x :: xs, L => by
    have q := fold_len xs (put1 L x)
    have r := put1_len L x
    rw [List.foldl_cons, List.length_cons]
    omega
theorem ded_len (xs : List Str) : (ded xs).length ≤ xs.length := by
  have q := fold_len xs []
  unfold ded
  simpa using q
theorem ded_snoc (xs : List Str) (x : Str) : ded (xs ++ [x]) = put1 (ded xs) x := by
  unfold ded
  rw [List.foldl_append]
  rfl
theorem take_snoc {α : Type} {l : List α} {i : Nat} {x : α} (h : l[i]? = some x) : l.take (i + 1) = l.take i ++ [x] := by
  rw [List.take_add_one, h]
  rfl
section
variable {P : Program} {w : World} {A : Around} {E : Value → Shared → Prop} {s : Shared}
theorem upd_loop {I : Addr} {fp wr : List Addr} {G : Array GenState → Array GenState → Prop} {n : Nat} {Pv : Nat → Value → Prop} {St : Nat → Shared → Prop} {R : Result → Shared → Prop}
    (W : WalksS P w A.in1 I fp wr G n Pv St) (S : Addr) (out : S ∉ fp) (xs : List Str) (hn : n = xs.length) (few : xs.length < scanBound) (hval : ∀ i v, Pv i v → ∃ z t, xs[i]? = some z ∧ v = .str z t) :
    ∀ (k i : Nat) (s : Shared), n - i = k → i ≤ n → St i s → TS w s.heap S (ded (xs.take i)) →
      (∀ s', Moved (S :: wr) G s s' → TS w s'.heap S (ded xs) → R (.ok (.ret .none)) s') →
      codeAny (model P w) A (.builtin "set.update.loop" ⟨[.ref S, .ref I], []⟩) R s := by
  have hSw : S ∉ wr := fun h => out (W.sub _ h)
  have hsub : ∀ b ∈ wr, b ∈ S :: wr := fun b hb => List.mem_cons_of_mem _ hb
  intro k
  induction k with
  | zero =>
    intro i s hk hi hst hS hR
    obtain rfl : i = n := by omega
    refine codeAny_builtin F.entry_set_update_loop ?_
    rw [Around.under_plainId F.plain_set_update_loop _]
    refine wpAny_bind (m := pyNext (.ref I)) (W.done s _ _ hst fun s' hm => ?_)
    rw [hn, List.take_length] at hS
    exact wpAny_pure (hR s' (hm.mono hsub) (hS.keep fun o e => hm.heap S o hSw e))
  | succ k ih =>
    intro i s hk hi hst hS hR
    have hlt : i < n := by omega
    refine codeAny_builtin F.entry_set_update_loop ?_
    rw [Around.under_plainId F.plain_set_update_loop _]
    refine wpAny_bind (m := pyNext (.ref I)) (W.item i s _ _ hlt hst fun v s' hP hst' hm => ?_)
    obtain ⟨z, t, hz, rfl⟩ := hval i v hP
    have hS1 : TS w s'.heap S (ded (xs.take i)) := hS.keep fun o e => hm.heap S o hSw e
    have hl : (ded (xs.take i)).length + 1 < scanBound ∨ (ded (xs.take i)).length + 1 ≤ xs.length := by
      have q := ded_len (xs.take i)
      rw [List.length_take] at q
      right
      omega
    have hroom : (ded (xs.take i)).length + 1 < scanBound := hl.elim id fun q => Nat.lt_of_le_of_lt q few
    refine wpAny_bind (m := holding [Value.str z t] (setAdd S (.str z t))) (wpAny_holding ?_)
    unfold setAdd
    refine wpAny_holding (wpAny_bind ((strKind P w).pyHash (k := z) (strKind_is _ _ _ _) ?_))
    refine ts_add (s := { s' with toks := s'.toks + 1 }) hS1 hroom fun b h' sb hS2 => ?_
    rw [← ded_snoc, ← take_snoc hz] at hS2
    refine wpAny_pure ⟨plainId_quiet F.plain_set_update_loop _, ih (i + 1) _ (by omega) hlt (W.frame _ s' _ _ hst' (Nat.le_succ _) fun c hc o e => ?_) hS2 fun s2 hm2 hS3 => ?_⟩
    · rw [sb.2 c fun q => out (q ▸ hc)]; exact e
    · refine hR s2 (Moved.trans W.gtrans ((hm.mono hsub).then_heap (Nat.le_succ _) fun c o hc e => ?_) hm2) hS3
      rw [sb.2 c fun q => hc (by rw [q]; exact List.mem_cons_self)]; exact e
theorem strs_ix : ∀ {us : List Value} {xs : List Str}, StrsAre us xs → ∀ (i : Nat) (v : Value), us[i]? = some v → ∃ z t, xs[i]? = some z ∧ v = .str z t
  | _, _, .nil, i, v, h => by simp at h
  | _, _, .cons z t _, 0, v, h => ⟨z, t, rfl, (Option.some.inj h).symm⟩
  | _, _, .cons _ _ r, i + 1, v, h => by
    rw [List.getElem?_cons_succ] at h
    rw [List.getElem?_cons_succ]
    exact strs_ix r i v h
abbrev nob (w : World) : Obj := { cls := .type "set", dict := none, data := .set #[] 0 (.fresh 0 0 (!w.params.followText "set-order")) }
/-- set(xs), xs a list of texts -/
theorem call_set_texts {l : Addr} {items : Array Value} {xs : List Str} {Q : Value → Shared → Prop} (hh : A.handled = none) (hl : s.heap.IsList l items) (hi : StrsAre items.toList xs) (few : xs.length < scanBound)
    (hq : ∀ (h' : Heap) (tk : Nat), TS w h' s.heap.objs.size (ded xs) → (∀ b o, s.heap.get? b = some o → h'.get? b = some o) → Q (.ref s.heap.objs.size) { s with heap := h', toks := tk }) :
    wpAny (model P w) A (call (.type "set") [.ref l]) Q E s := by
  have hisz : items.size = xs.length := by rw [← Array.length_toList]; exact StrsAre.len_eq hi
  obtain ⟨c, tl, hmro⟩ := F.called_set.mro
  have hmade := F.called_set.made
  have hsub := F.called_set.sub
  refine wpAny_call (codeAny_of_tree ?_)
  show wpAny _ _ (callAny (.type "set") _) _ _ _
  refine wpAny_pure ⟨Code.quiet_builtin _ (by decide +kernel), codeAny_builtin F.entry_type_call ?_⟩
  rw [Around.under_plain (weight_type_call_type "set" [.ref l] []) rfl]
  have h1 := F.called_set.notType
  have h2 := F.called_set.canCreate
  have hct := F.typeCall_set_1 (.ref l)
  repeat (any_goals (first | assumption | wp_step))
  refine codeAny_mono (code_set_led1 (.ref l) (E := E) (Q₁ := fun ov s₁ => ov = .ref s.heap.objs.size ∧ s₁ = { s with heap := s.heap.push { cls := .type "set", dict := none, data := .set #[] 0 (.fresh 0 0 (!w.params.followText "set-order")) } }) ⟨rfl, rfl⟩) fun r s₁ hr => ?_
  cases r with
  | error e => exact hr
  | ok fl =>
    cases fl with
    | ret ov =>
      obtain ⟨rfl, rfl⟩ := hr
      have hS : (s.heap.push (nob w)).get? s.heap.objs.size = some (nob w) := Heap.get?_push_size _ rfl
      have hT : Shared.TypeIs { s with heap := s.heap.push (nob w) } (.ref s.heap.objs.size) "set" := ⟨_, hS, rfl⟩
      have hli := F.called_set.init.lookup
      have hbi := F.called_set.init.bind (.ref s.heap.objs.size)
      repeat (any_goals (first | assumption | wp_step))
      refine codeAny_mono (codeAny_call_builtin (R := wants (fun r s₂ => r = .none ∧ ∃ h' tk, s₂ = { s with heap := h', toks := tk } ∧ TS w h' s.heap.objs.size (ded xs) ∧
          (∀ b o, s.heap.get? b = some o → h'.get? b = some o)) E) F.called_set.init.plain F.entry_set_init (check_set_init_1 hT ?_)) fun r₂ s₂ hr₂ => ?_
      · obtain ⟨ol, hol, hcl, nl, hdl⟩ := hl
        obtain ⟨ocls, odict, odata, oslots⟩ := ol
        simp only at hcl hdl
        subst hcl; subst hdl
        have hol' : (s.heap.push (nob w)).get? l = some { cls := .type "list", dict := odict, data := .seq items nl, slots := oslots } := Heap.get?_push_of_some _ hol
        have hsls := F.sub_list_set
        have hslf := F.sub_list_frozenset
        have hne : (Value.type "list" == Value.type "dict") = false := by decide
        have hl1 : (s.heap.push (nob w)).IsList l items := ⟨_, hol', rfl, nl, rfl⟩
        unfold Builtin.«set.__init__» noKeywords Builtin.Frozenset.updateFrom
        generalize hPI : pyIter = PI
        wp_walk
        subst hPI
        refine wpAny_pyIter_list hl1 ?_
        refine wpAny_bind (wpAny_runValue ?_)
        have hlS : l < s.heap.objs.size := Heap.lt_size hol
        have hz1 : (s.heap.push (nob w)).objs.size = s.heap.objs.size + 1 := Heap.size_push ..
        have hneI : l ≠ (s.heap.push (nob w)).objs.size := by rw [hz1]; exact Nat.ne_of_lt (Nat.lt_succ_of_lt hlS)
        have hSf : s.heap.objs.size ∉ [(s.heap.push (nob w)).objs.size, l] := by
          rw [hz1]
          intro m
          rcases List.mem_cons.mp m with q | q
          · exact absurd q (Nat.ne_of_lt (Nat.lt_succ_self _))
          · exact absurd (List.mem_singleton.mp q) (Nat.ne_of_gt hlS)
        refine upd_loop (A := A.in1.in1) ((Walks.list (by simp [hh]) _ l hneI items).toS) s.heap.objs.size hSf xs hisz few
          (fun i v hv => strs_ix hi i v (by rw [Array.getElem?_toList]; exact hv)) (items.size - 0) 0 _ rfl (Nat.zero_le _)
          ⟨⟨_, Heap.get?_push_size _ rfl, rfl, rfl⟩, (hl1.push _)⟩ ?hS0 ?hR
        case hS0 => exact TS.fresh (Heap.get?_push_of_some _ hS) rfl
        case hR =>
          intro s' hm hS'
          obtain ⟨h', g2, d', tk', os'⟩ := s'
          have eg : g2 = s.gens := hm.gens
          have ed : d' = s.drawn := hm.drawn
          have eo : os' = s.os := hm.os
          subst eg; subst ed; subst eo
          show wpAny _ _ _ _ _ _
          refine wpAny_pure ?_
          show wpAny _ _ (ret Value.none) _ _ _
          refine wpAny_pure ⟨rfl, h', tk', rfl, hS', fun b o e => ?_⟩
          have hlt := Heap.lt_size e
          refine hm.heap b o (fun m => ?_) (Heap.get?_push_of_some _ (Heap.get?_push_of_some _ e))
          rcases List.mem_cons.mp m with q | q
          · exact absurd q (Nat.ne_of_lt hlt)
          · have q := List.mem_singleton.mp q
            rw [hz1] at q
            exact absurd q (Nat.ne_of_lt (Nat.lt_succ_of_lt hlt))
      · cases r₂ with
        | error e => exact hr₂
        | ok fl₂ =>
          cases fl₂ with
          | ret r =>
            obtain ⟨rfl, h', tk, rfl, hS', hk'⟩ := hr₂
            repeat (any_goals (first | assumption | wp_step))
            exact hq _ _ hS' hk'
          | _ => exact hr₂.elim
    | _ => exact hr.elim
end
end TSet
end
section
namespace TSet
open PySem PySem.Spec PyProof.Rows L2
section
variable {P : Program} {w : World} {A : Around} {E : Value → Shared → Prop} {s : Shared} {a : Addr} {L : List Str}
theorem sorted_texts {Q : Value → Shared → Prop} (R : TS w s.heap a L) (hh : A.handled = none) (few : L.length < 64)
    (hQ : ∀ s' p (out : Array Value) (c : Nat) (ys : List Str), (∀ b o, s.heap.get? b = some o → s'.heap.get? b = some o) → s'.gens = s.gens → s'.os = s.os → s.heap.objs.size ≤ p →
      s'.heap.get? p = some (seqObj "list" out c) → StrsAre out.toList ys → ys.Perm L → sortedS ys = true → Q (.ref p) s') :
    wpAny (model P w) A (call (.builtin "sorted") [.ref a]) Q E s := by
  obtain ⟨ob, ents, ep, tab, ho, hex, hd, g, pm0, nd, hb, hf, hr, hl⟩ := R
  have hn : ents.size = L.length := by
    have q := pm0.length_eq
    rw [List.length_map, Array.length_toList] at q
    exact q
  refine Calls.call_function_entry kind_sorted plain_sorted entry_sorted (args_sorted1 _) ?_
  unfold Builtin.«sorted»
  refine wpAny_bind (m := checkCount "sorted" 1 1 _) (wpAny_pure ?_)
  refine wpAny_bind (collect_set (A := A.in1) hh ⟨ob, ho, hex.1, hd⟩ hf (by rw [hn]; exact hb) hr hl fun s1 vs k1 hz g1 o1 pm => ?_)
  have pv : (vs.map strOf).Perm L := by
    have q := pm.map strOf
    rw [List.map_map] at q
    exact q.trans pm0
  have hvl : vs.length = L.length := by
    have q := pv.length_eq
    rw [List.length_map] at q
    exact q
  have hS : StrsAre vs (vs.map strOf) := strsAre_map vs fun v hv => by
    obtain ⟨e, he, q⟩ := List.mem_map.mp (pm.mem_iff.mp hv)
    obtain ⟨z, tk, rfl⟩ := g e he
    exact ⟨z, tk, q.symm⟩
  refine wpAny_bind (wpAny_newList ?_ (by rw [hvl, sizeLine_eq]; omega))
  have hoL : (s1.heap.push (seqObj "list" vs.toArray 0)).get? s1.heap.objs.size = some (seqObj "list" vs.toArray 0) := Heap.get?_push_size _ rfl
  refine wpAny_bind (wpAny_holding (wpAny_call_entry slot_list_sort ⟨_, hoL, rfl⟩ entry_list_sort
    (list_sort_treeK strKind_oneLt hoL hS.keysOf (fun v₁ v₂ rest e => keyKind_strs (by rw [← e]; exact hS)) (by rw [hvl]; exact few) fun st' hp hs => ⟨_, rfl, ?_⟩) (args_list_sort _)))
  obtain ⟨ys, y1, y2, y3⟩ := sorted_out_str hS hp hs
  obtain ⟨c, hc⟩ := sortedHeap_at (vs := vs) (out := (arrOf st').map (·.2)) hoL
  refine wpAny_pure ⟨_, rfl, hQ _ s1.heap.objs.size _ c ys (fun b u e => ?_) g1 o1 hz hc y1 (y2.trans pv) y3⟩
  have q := k1 b u e
  have hlt := Heap.lt_size q
  show (sortedHeap (s1.heap.push (seqObj "list" vs.toArray 0)) s1.heap.objs.size vs ((arrOf st').map (·.2))).get? b = some u
  rw [sortedHeap_old (Nat.ne_of_lt hlt) (by rw [size_push']; exact Nat.lt_succ_of_lt hlt)]
  exact Heap.get?_push_of_some _ q
end
/-! ### over the layer -/
def TSO (w : World) (a : Addr) (L : List Str) : HO := .ext fun h => TS w h a L
theorem tso_new {P : Program} {w : World} {H : Hp} {h : Heap} {a : Addr} {L : List Str} (R : TS w h a L) : ObjOk P w H h a (TSO w a L) := by
  have ⟨ob, _, _, _, ho, _⟩ := R
  exact ⟨R, ⟨ob, ho⟩, fun _ _ p k => p.keep k⟩
section
variable {X : Cx}
/-- set(xs), xs a list of texts, and sorted of it -/
def rSetS (K : PySem.W.Frag) (w : World) : List V → Hp → VK → Prop := fun vs H Q => ∃ (l : Addr) (xs : List Str), vs = [V.ref l] ∧ SqL K H l (xs.map V.str) ∧ xs.length < scanBound ∧
  ∀ a, H a = none → Q (.ref a) (upd H a (TSO w a (ded xs)))
theorem cr_setS (hc : X.calm = true) : CallR X (.type "set") (rSetS X.K X.w) := by
  intro pins s σ H vs us Q I r h
  obtain ⟨l, xs, rfl, hl, few, q⟩ := h
  rw [Vals.ref1 r]
  obtain ⟨its, rv, pl, _⟩ := I.list hl
  have hn : H s.heap.objs.size = none := I.hok.fresh (Nat.le_refl _)
  refine call_set_texts (P := X.prog) (I.ok.hd hc) pl.isList (by simpa using Vals.strs rv) few fun h' tk R k => ?_
  exact ⟨.ref s.heap.objs.size, upd H s.heap.objs.size (TSO X.w s.heap.objs.size (ded xs)), I.laid (t' := tk) k (Nat.le_refl _) (tso_new R), rfl, q _ hn⟩
def rSortedTexts (w : World) : List V → Hp → VK → Prop := fun vs H Q => ∃ (a : Addr) (L : List Str), vs = [V.ref a] ∧ H a = some (TSO w a L) ∧ L.length < 64 ∧
  ∀ (ys : List Str) (p : Addr), ys.Perm L → sortedS ys = true → H p = none → Q (.ref p) (upd H p (.lst (ys.map V.str)))
theorem cr_sortedTexts (hc : X.calm = true) : CallR X (.builtin "sorted") (rSortedTexts X.w) := by
  intro pins s σ H vs us Q I r h
  obtain ⟨a, L, rfl, ha, few, q⟩ := h
  have R : TS X.w s.heap a L := (I.hok a _ ha).1
  rw [Vals.ref1 r]
  refine sorted_texts (P := X.prog) R (I.ok.hd hc) few fun s' p out c ys k g o hp hg hS pm srt => ?_
  have hlen : (ys.map V.str).length ≤ sizeLine := by
    rw [List.length_map, pm.length_eq, sizeLine_eq]
    omega
  have hn : H p = none := I.hok.fresh hp
  have J : Inv X pins σ (upd H p (.lst (ys.map V.str))) { s with heap := s'.heap, gens := s'.gens, drawn := s'.drawn, toks := s'.toks } :=
    I.call (ch := []) (Un.laid k hp hn) (I.hok.laid k hp ⟨hlen, out.toList, c, vals_of_strs hS, hg⟩) (by rw [g]; exact I.bare) (fun _ z => nomatch z)
  have e : s' = { s with heap := s'.heap, gens := s'.gens, drawn := s'.drawn, toks := s'.toks } := by
    cases s'
    cases s
    cases o
    rfl
  rw [e]
  exact ⟨.ref p, _, J, rfl, q ys p pm srt hn⟩
end
end TSet
end
section
/-! Rules for what an own class defines: o[i] by its __getitem__, a def of a class called off the class, a static method, cls(*xs), an object called by a keyword. -/
namespace OwR
open PySem PySem.Spec PyProof.Rows L2
/-- the class at C has the def at g as its special method nm -/
structure Spc (K : PySem.W.Frag) (C g : Addr) (nm : Str) : Prop where
  at_ : PySem.W.findIn K (.ref C) nm = some (some (.ref g))
  fn : PySem.W.isFn K (.ref g) = true
  fi : PySem.W.fnIn K g = true
section
variable {X : Cx} {CX : CXT} {k i : Nat} {C f g p : Addr} {mc : Value} {sp : Sp} {E : XK} {a b o e : Expr} {es : List Expr} {m x : Str} {ta tb te : TE} {t tk : TA} {pos apos q1 q2 : Pos} {pins : List (Addr × Obj)} {σ : L2.St} {H : Hp} {s : Shared}
/-- a promise kept one step further in -/
theorem run_in {Q : VK} {us : List Value} {vs : List V} (F : FnR X.prog X.w X.K X.mg X.base CX k g sp) (hr : Room (k + 1) X.A) (hx : Passes CX X E) (I : Inv X pins σ H s) (r : Vals vs us) (h : sp vs H Q E) :
    wpAny (model X.prog X.w) X.A.in1 (call (.ref g) us) (EP X pins σ Q) X.xe s := by
  refine wpAny_call (codeAny_mono (F X.A.in1 X.stack s H us vs Q E hr.in1 I.env0.in1 r h) fun r s' hq => ?_)
  cases r with
  | error er => exact hx pins σ H s er s' I hq
  | ok fl =>
    cases fl with
    | ret u => exact I.after hq
    | next => exact False.elim hq
    | brk => exact False.elim hq
    | cont => exact False.elim hq
/-! ### o[i] -/
def tItem (C : Addr) (sp : Sp) (E : XK) (ta tb : TE) : TE := fun σ H Q => ta σ H fun x H1 => tb σ H1 fun y H2 => ∃ p dx fs, x = .ref p ∧ H2 p = some (.ins C dx fs) ∧ sp [.ref p, y] H2 Q E
theorem pe_item (c : Spc X.K C g "__getitem__") (F : FnR X.prog X.w X.K X.mg X.base CX k g sp) (hr : Room (k + 1) X.A) (hx : Passes CX X E) (ha : PE X a ta) (hb : PE X b tb)
    (hsl : ∀ (z : Addr) (v : Value), subscripted b true (.ref z) v = runValue (.builtin "lifetime.subscript" ⟨[.ref z, v], []⟩) := by intros; rfl) : PE X (.Subscript a b pos) (tItem C sp E ta tb) := by
  refine ⟨fun pins s σ H Q I h => ?_⟩
  refine Subscript_ (binT ha hb I h fun v u s2 x y H2 I2 rx ry q => ?_)
  obtain ⟨p, dx, fs, ex, ep, hq⟩ := q
  subst ex
  obtain rfl : v = Value.ref p := rx
  obtain ⟨ox, od, J, _⟩ := StX.insC_at I2 (.inr ⟨dx, fs, ep⟩)
  have KI := I2.kIn
  have hfi := c.fi
  unfold PySem.W.fnIn at hfi
  split at hfi
  · rename_i hg
    unfold subscriptTail getitemInPython
    refine wpAny_bind (wpAny_bind (wpAny_bind (J.type.here ((PySem.W.looks_findIn KI c.at_).here ?_))))
    dsimp only
    refine wpAny_bind (wpAny_load (KI _ _ hg) (wpAny_pure ?_))
    dsimp only
    rw [hsl]
    refine wpAny_bind (wpAny_runValue (codeAny_builtin PySem.W.entry_sub ?_))
    unfold Builtin.«lifetime.subscript»
    refine wpAny_bind (PySem.W.special_fn KI J c.at_ (beq_iff_eq.mp c.fn) (wpAny_mono (run_in (us := [Value.ref p, u]) (vs := [V.ref p, y]) F hr hx I2 (.cons rfl (.cons ry .nil)) hq) (fun v' s' z => ?_) fun _ _ z => z))
    refine wpAny_pure ?_
    show wpAny _ X.A (letTemporaryGo a (.ref p) v' >>= fun _ => pure v') _ _ s'
    exact wpAny_bind (wpAny_letTemporaryGo (wpAny_pure z))
  · cases hfi
/-! ### C.m(e, ..), m a plain def of the class -/
structure CFun (K : PySem.W.Frag) (C : Addr) (mc : Value) (m : Str) (g : Addr) : Prop where
  at_ : PySem.W.findCls K (.ref C) mc m = some (.val (.ref g))
  kp : PySem.W.keepIn K (.ref g) = true
def tCFun (C : Addr) (sp : Sp) (E : XK) (ta : TE) (t : TA) : TE := fun σ H Q => ta σ H fun x H1 => x = .ref C ∧ t σ H1 fun vs H2 => sp vs H2 Q E
theorem pe_cfun {pl : Sem Bool} (he : PE X o ta) (r : ClX.CRead X.K C mc) (c : CFun X.K C mc m g) (F : FnR X.prog X.w X.K X.mg X.base CX k g sp) (hr : Room k X.A) (hx : Passes CX X E) (ha : PA X (e :: es) t)
    (hst : starEach (e :: es) X.env = (false, eval e X.env) :: starEach es X.env := by rfl) (hpl : (backTo pos (starEach es X.env)).any (·.1) = false := by rfl)
    (ht : eval (.Call (.Attribute o m apos) (e :: es) [] pos) X.env = (do
      let ov ← eval o X.env
      standAt apos.atName
      let (f, first) ← holding [ov] (getMethod ov m pl)
      callWith pos f first (backTo pos (starEach (e :: es) X.env)) (backToKw pos (keywordEach [] X.env))) := by rfl) :
    PE X (.Call (.Attribute o m apos) (e :: es) [] pos) (tCFun C sp E ta t) := by
  refine ⟨fun pins s σ H Q I h => ?_⟩
  refine PySem.W.methodCall_KW (pl := pl) (thn (he.run pins s σ H _ I h) fun u s1 ⟨x, H1, I1, rx, ex, q⟩ => ?_) ht
  subst ex
  obtain rfl : u = Value.ref C := rx
  refine PySem.W.method_cls I1.kIn r.ga (PySem.W.cls_value I1.kIn r.rd c.at_ rfl ?_)
  refine PySem.W.callWith_K (first := []) (h₀ := X.base) I1.ok.mod.kin c.kp (thn (ha.run pos pins _ σ H1 _ (I1.tok _) q) fun us s2 ⟨vs, H2, I2, rv, q2⟩ => ⟨I2.kIn, ?_⟩) hst hpl
  exact wpAny_call (run_fnR F hr hx I2 rv q2)
/-! ### C.m(), m a static method -/
structure CSta (K : PySem.W.Frag) (C : Addr) (mc : Value) (m : Str) (p g : Addr) : Prop where
  at_ : PySem.W.findCls K (.ref C) mc m = some (.get (.builtin "staticmethod.__get__") (.ref p) .none (.ref C))
  rc : ∃ rest, PySem.W.recIn K p "staticmethod" = some (.ref g :: rest)
  kp : PySem.W.keepIn K (.ref g) = true
theorem pe_csta0 {pl : Sem Bool} (he : PE X o ta) (r : ClX.CRead X.K C mc) (c : CSta X.K C mc m p g) (F : FnR X.prog X.w X.K X.mg X.base CX k g sp) (hr : Room k X.A) (hx : Passes CX X E)
    (ht : eval (.Call (.Attribute o m apos) [] [] pos) X.env = (do
      let ov ← eval o X.env
      standAt apos.atName
      let (f, first) ← holding [ov] (getMethod ov m pl)
      callWith pos f first (backTo pos (starEach [] X.env)) (backToKw pos (keywordEach [] X.env))) := by rfl) :
    PE X (.Call (.Attribute o m apos) [] [] pos) (tCFun C sp E ta tNil) := by
  refine ⟨fun pins s σ H Q I h => ?_⟩
  refine PySem.W.methodCall_KW (pl := pl) (thn (he.run pins s σ H _ I h) fun u s1 ⟨x, H1, I1, rx, ex, q⟩ => ?_) ht
  subst ex
  obtain rfl : u = Value.ref C := rx
  obtain ⟨rest, hrec⟩ := c.rc
  refine PySem.W.method_cls I1.kIn r.ga (PySem.W.cls_bind I1.kIn r.rd c.at_ ?_)
  refine wpAny_call (PySem.W.sm_get (s := { s1 with toks := s1.toks + 1 }) I1.kIn hrec (PySem.W.handed_on rfl ?_))
  have I2 := I1.tok (s1.toks + 1)
  exact PySem.W.callWith_K0 (first := []) I2.kIn c.kp (wpAny_call (run_fnR (us := []) F hr hx I2 .nil q))
/-! ### cls(*xs), cls a slot that holds the class -/
def tMakeLS (K : PySem.W.Frag) (i : Nat) (C : Addr) (sp : Sp) (E : XK) (te : TE) : TE := fun σ H Q => σ[i]? = some (some (.ref C)) ∧ te σ H fun y H1 => ∃ a xs, y = V.ref a ∧ (SqT K H1 a xs ∨ SqL K H1 a xs) ∧
  ∀ z dz, H1 z = none → H1 dz = none → dz ≠ z → sp (V.ref z :: xs) (upd (upd H1 dz (.own z)) z (.ins C dz [])) (fun v H2 => v = .non ∧ Q (.ref z) H2) E
theorem pe_makeLS (M : Mk X.K C f) (F : FnR X.prog X.w X.K X.mg X.base CX k f sp) (hr : Room (k + 1) X.A) (hN : X.N[i]? = some x) (hv : Vis X.env.scope x) (hx : Passes CX X E) (he : PE X e te)
    (hdb : (x == ("__debug__" : Str)) = false := by decide) (hcd : (x == ("__classdict__" : Str)) = false := by decide) (hst : starEach [.Starred e q1] X.env = [(true, eval e X.env)] := by rfl) :
    PE X (.Call (.Name x q2) [.Starred e q1] [] pos) (tMakeLS X.K i C sp E te) := by
  refine ⟨fun pins s σ H Q I h => ?_⟩
  obtain ⟨hs, ht⟩ := h
  refine wpAny_Call_Name_kw (thn ((pe_var (pos := q2) hN hv hdb hcd).run pins s σ H (fun v H1 => v = .ref C ∧ H1 = H) I ⟨.ref C, hs, rfl, rfl⟩) fun u s1 ⟨v, H1, I1, r1, e1⟩ => ?_)
  obtain ⟨rfl, rfl⟩ := e1
  cases r1
  refine PySem.W.callWith_S (h₀ := X.base) (first := []) I1.ok.mod.kin M.kp (thn (he.run pins s1 σ _ _ I1 ht) fun v s2 ⟨y, H2, I2, ry, a, xs, ey, hxs, q⟩ => ?_) hst
  subst ey
  obtain rfl : v = Value.ref a := ry
  exact StX.star_any I2 hxs fun us s3 I3 rv => ⟨I3.kIn, StX.run_makeR M F hr hx I3 rv q⟩
end
end OwR
end
section
namespace OwR
open PySem PySem.Spec PyProof.Rows L2
open AutoSeq1 (wpAny_loadPart')
/-! ### enumerate(t), t a tuple -/
theorem meets_enumT {v : Value} {o : Obj} {G : Heap → Prop} (B : Begins v o G) :
    Meets (Builtin.«enumerate.__new__» ⟨[.type "enumerate", v], []⟩) (fun _ R s => G s.heap ∧
      R (.ok (.ret (.ref (s.heap.push o).objs.size))) { s with heap := (s.heap.push o).push { cls := .type "enumerate", data := .fields #[.none, .bool false, .ref s.heap.objs.size, rawInt 0, .none, .none] } }) :=
  .of_wp fun prog w A R s h => by
    obtain ⟨hp, g, d, tk, os⟩ := s; obtain ⟨h1, h⟩ := h
    have hsub := sub_enumerate
    have start : ∀ {A' : Around} {E : Value → Shared → Prop} {Q : Value → Shared → Prop}, Q (.ref hp.objs.size) ⟨hp.push o, g, d, tk, os⟩ → wpAny (model prog w) A' (pyIter v) Q E ⟨hp, g, d, tk, os⟩ :=
      fun q => B.iter prog w _ _ ⟨hp, g, d, tk, os⟩ _ h1 q
    wp_walk using start
    refine wpAny_stack_any fun st => wpAny_pure ?_
    split
    · rename_i c _ _ _ _ _
      cases (c == Value.type "enumerate")
      all_goals (wp_walk using start; exact ⟨_, rfl, h⟩)
    · wp_walk using start
      exact ⟨_, rfl, h⟩
section
variable {prog : Program} {w : World} {A : Around} {E : Value → Shared → Prop} {s : Shared}
theorem call_enumT {v : Value} {o : Obj} {G : Heap → Prop} {Q : Value → Shared → Prop} (B : Begins v o G) (h1 : G s.heap)
    (h : ∀ h', IsEnum h' (s.heap.objs.size + 1) s.heap.objs.size 0 .none → h'.get? s.heap.objs.size = some o → (∀ b x, s.heap.get? b = some x → h'.get? b = some x) → Q (.ref (s.heap.objs.size + 1)) { s with heap := h' }) :
    wpAny (model prog w) A (call (.type "enumerate") [v]) Q E s := by
  refine callType_new F.called_enumerate (by decide) (F.typeCall_enumerate_1 _) (F.newCall_enumerate_1 _) (fun obj => F.args_object_init_2 obj _) F.entry_enumerate_new (meets_enumT B) ⟨h1, ?_⟩
  have hz : (s.heap.push o).objs.size = s.heap.objs.size + 1 := Heap.size_push ..
  have he := Heap.get?_push_size (s.heap.push o) (o := { cls := .type "enumerate", data := .fields #[.none, .bool false, .ref s.heap.objs.size, rawInt 0, .none, .none] }) rfl
  rw [hz] at he
  show _ ∧ _
  rw [hz]
  exact ⟨⟨_, he, rfl⟩, h _ he (Heap.get?_push_of_some _ (Heap.get?_push_size _ B.free)) fun b x q => Heap.get?_push_of_some _ (Heap.get?_push_of_some _ q)⟩
end
/-- the tuple at a at each turn: its item in a new pair -/
def IteT (K : PySem.W.Frag) (a : Addr) : It :=
  ⟨fun i H => ∃ (xs : List V) (x : V), SqT K H a xs ∧ xs[i]? = some x, fun i H v H' => ∃ T x, v = .ref T ∧ H T = none ∧ H' = upd H T (.tup [.int (i : Nat), x]) ∧ ∀ xs, SqT K H a xs → xs[i]? = some x, fun i H => ∃ xs : List V, SqT K H a xs ∧ xs.length ≤ i⟩
theorem tup_one {X : Cx} {pins : List (Addr × Obj)} {σ : L2.St} {H : Hp} {s : Shared} {a : Addr} {xs ys : List V} (I : Inv X pins σ H s) (h : SqT X.K H a xs) (h' : SqT X.K H a ys) : xs = ys := by
  first | exact I.tup_inj h h' | exact I.tuple_inj h h'
theorem turn_enumT {P : Program} {w : World} {K : PySem.W.Frag} {elts : List Expr} {kk : Nat} {tpos : Pos} (a e it : Addr) (hane : a ≠ it) :
    Turn P w K (.Tuple elts kk tpos) (IteT K a) [e, it] e (fun i h => (∃ old, IsEnum h e it ((i : Nat) : Int) old) ∧ h.IsTupleIter it a i ∧ e ≠ it ∧ a ≠ e) where
  mem := by simp
  obj := fun i h st b hb => by
    obtain ⟨⟨old, he⟩, ⟨o, ho, hc, hd⟩, _⟩ := st
    rcases List.mem_cons.mp hb with z | z
    · rw [z]; exact ⟨_, he, fun v q => nomatch q⟩
    · rw [List.mem_singleton.mp z]; exact ⟨o, ho, fun v q => by rw [hd] at q; cases q⟩
  keep := fun i h h' st k => let ⟨⟨old, he⟩, hi, hne⟩ := st; ⟨⟨old, k e (by simp) _ he⟩, hi.at fun o q => k it (by simp) o q, hne⟩
  item := by
    intro X hP hw hK hc i pins s σ H E I hf st hg
    subst hP hw hK
    obtain ⟨⟨old, he⟩, hit, hne, hae⟩ := st
    obtain ⟨xs, x, hq, hx⟩ := hg
    obtain ⟨its, rv, p, hz⟩ := I.tuple hq
    obtain ⟨u, hu, ru⟩ := rv.get hx
    have hel : e < s.heap.objs.size := Heap.lt_size he
    have hil : it < s.heap.objs.size := by obtain ⟨_, q, _⟩ := hit; exact Heap.lt_size q
    have hlt : i < its.toArray.size := by
      rw [List.size_toArray]
      exact (List.getElem?_eq_some_iff.mp hu).1
    have D : Draws X.prog X.w X.A.in1 it [it, a] its.toArray.size _ _ := Draws.tuple (A := X.A.in1) (show X.A.in1.handled = none from I.ok.hd hc) it a hane its.toArray
    refine wpAny_pyNext_enum_itemD D he ⟨hit, p⟩ hlt hne (by simp [hne, Ne.symm hae]) fun y h' tk hy ho hst hT hsz hk => ?_
    have ey : y = u := by
      have q : its.toArray[i]? = some u := by simpa using hu
      exact Option.some.inj (hy.symm.trans q)
    subst ey
    refine ⟨_, rfl, wpAny_letOwnedTupleGo_enum (s := { s with heap := h', toks := tk + 1 }) ho fun h'' he' sb => ?_⟩
    have hT2 : h''.get? s.heap.objs.size = some { cls := .type "tuple", data := .seq #[.int i tk, y] } := (sb.2 _ (Nat.ne_of_gt hel)).trans hT
    have new : ObjOk X.prog X.w (upd H s.heap.objs.size (.tup [.int (i : Nat), x])) h'' s.heap.objs.size (.tup [.int (i : Nat), x]) :=
      ⟨by show 2 ≤ sizeLine; decide, [.int i tk, y], .cons ⟨_, rfl⟩ (.cons ru .nil), ⟨_, hT2, rfl, _, rfl⟩⟩
    have I1 : Inv X pins σ (upd H s.heap.objs.size (.tup [.int (i : Nat), x])) { s with heap := h'', toks := tk + 1 } :=
      I.turnedNew (ch := [e, it]) (fun b ob hb q => (sb.2 b (fun z => hb (by simp [z]))).trans (hk b ob (fun z => hb (by simp [z])) (fun z => hb (by simp [z])) q)) hf (Nat.le_refl _) new
    refine ⟨.ref s.heap.objs.size, _, I1, rfl, ⟨_, x, rfl, I.hok.fresh (Nat.le_refl _), rfl, fun ys hy' => by rw [tup_one I hy' hq]; exact hx⟩, ⟨⟨y, ?_⟩, hst.1.at fun o q => (sb.2 it (Ne.symm hne)).trans q, hne, hae⟩, fun b hb => ?_⟩
    · have e1 : ((i + 1 : Nat) : Int) = (i : Int) + 1 := by omega
      rw [e1]; exact he'
    · have hb' : b < s.heap.objs.size := by
        rcases List.mem_cons.mp hb with z | z
        · rw [z]; exact hel
        · rw [List.mem_singleton.mp z]; exact hil
      rw [upd_ne (Nat.ne_of_lt hb')]
      exact (hf b hb).1
  done := by
    intro X hP hw hK hc i pins s σ H E I hf st hg
    subst hP hw hK
    obtain ⟨⟨old, he⟩, hit, hne, hae⟩ := st
    obtain ⟨xs, hq, hx⟩ := hg
    obtain ⟨its, rv, p, hz⟩ := I.tuple hq
    obtain ⟨f0, f1, f2, f3, f4, f5⟩ := hf it (by simp)
    have hl := rv.length
    have hgt : its.toArray[i]? = none := by simp; omega
    unfold pyNext
    refine wpAny_bind (wpAny_attempt (wpAny_callSpecial?_slot (name := Str.ofString "__next__") ⟨_, he, rfl⟩ F.slot_enumerate_next
      (wpAny_call_entry F.slot_enumerate_next ⟨_, he, rfl⟩ F.entry_enumerate_next ?_ (F.args_enumerate_next_1 _))))
    show wpAny _ _ (field (.ref e) 2 >>= _) _ _ _
    refine wpAny_bind (wpAny_field he rfl (x := .ref it) rfl ?_)
    refine wpAny_bind (wpAny_nextOf_tuple_end (I.ok.hd hc) hit p hgt fun h' z he' hz' => ?_)
    obtain ⟨o, ho, hcl⟩ := hz'
    refine wpAny_bind (wpAny_isInstance (T := "StopIteration") (b := true) ⟨o, ho, hcl⟩ isSubtype_stop ?_)
    exact wpAny_pure ⟨rfl, I.turned (t' := s.toks) (fun b o hb q => he' b o hb q) f0 f1 f3 f4 f5⟩
  self := fun A i s Q E st h => let ⟨⟨_, he⟩, _⟩ := st; wpAny_pyIter_enum he h
def iEnumT (K : PySem.W.Frag) (ta : TA) : TI := fun σ H R => ta σ H fun vs H1 => ∃ a xs, vs = [.ref a] ∧ SqT K H1 a xs ∧ R (IteT K a) H1
theorem pi_enumT {X : Cx} {e : Expr} {ta : TA} {p pos tpos : Pos} {elts : List Expr} {kk : Nat} (hg : Gl X "enumerate") (hm : X.mg "enumerate" = none) (ha : PA X [e] ta) (hs : starEach [e] X.env = [(false, eval e X.env)] := by rfl) :
    PI X (.Tuple elts kk tpos) (.Call (.Name "enumerate" p) [e] [] pos) (iEnumT X.K ta) := by
  refine ⟨fun pins s σ H R I h => ?_⟩
  refine Call_ (ld_blt I hg hm boot_enumerate (PyProof.Rows.callWith_type1 (thn (ha.run pos pins s σ H _ I h) fun us s1 ⟨vs, H1, I1, r1, q1⟩ => ?_) hs rfl))
  obtain ⟨a, xs, ex, hq, q⟩ := q1
  subst ex
  cases r1 with
  | cons r rr =>
    cases rr
    cases r
    obtain ⟨its, rv, p', hz⟩ := I1.tuple hq
    have hal : a < s1.heap.objs.size := p'.lt
    refine call_enumT (begins_tuple a its.toArray) p' fun h' he hit hk => wpAny_pyIter_enum he ?_
    have I2 : Inv X pins σ H1 { s1 with heap := h' } := I1.kept (t' := s1.toks) hk
    refine ⟨s1.heap.objs.size + 1, [s1.heap.objs.size + 1, s1.heap.objs.size], _, _, H1, rfl, I2, turn_enumT a (s1.heap.objs.size + 1) s1.heap.objs.size (Nat.ne_of_lt hal),
      ⟨⟨.none, he⟩, ⟨_, hit, rfl, rfl⟩, Nat.succ_ne_self _, Nat.ne_of_lt (Nat.lt_succ_of_lt hal)⟩, fun b hb => ?_, q⟩
    have hle : s1.heap.objs.size ≤ b := by
      rcases List.mem_cons.mp hb with z | z
      · rw [z]; exact Nat.le_add_right _ _
      · rw [List.mem_singleton.mp z]; exact Nat.le_refl _
    exact I1.fpOk hle (I1.hok.fresh hle)
end OwR
end
section
namespace OwR
open PySem PySem.Spec PyProof.Rows L2
/-! ### t[::-1], t a tuple -/
theorem places_back (n : Nat) : Builtin.Slice.slicePlaces ((n : Int) - 1) (-1) (-1) = n := by
  unfold Builtin.Slice.slicePlaces
  rw [if_neg (by decide)]
  split
  · have e : ((n : Int) - 1 - -1 - 1) / (- -1) + 1 = (n : Int) := by
      rw [show (- -1 : Int) = 1 by decide, Int.ediv_one]
      omega
    rw [e]
    exact Int.toNat_natCast n
  · rename_i h
    have : n = 0 := by omega
    subst this
    rfl
theorem fm_same {α β : Type} {f g : α → Option β} : ∀ l : List α, (∀ x ∈ l, f x = g x) → l.filterMap f = l.filterMap g
  | [], _ => rfl
  | x :: l, h => by
    rw [List.filterMap_cons, List.filterMap_cons, h x List.mem_cons_self, fm_same l fun y hy => h y (List.mem_cons_of_mem _ hy)]
theorem pick_back (xs : Array Value) : ((List.range xs.size).filterMap fun (m : Nat) => xs[(((xs.size : Int) - 1) + (m : Int) * (-1)).toNat]?) = xs.toList.reverse := by
  rw [← PySem.W.krv_all xs, ← List.filterMap_reverse, ← PySem.W.krv_range, List.filterMap_map]
  refine fm_same _ fun m hm => ?_
  have hlt := List.mem_range.mp hm
  have e : (((xs.size : Int) - 1) + (m : Int) * (-1)).toNat = xs.size - 1 - m := by omega
  rw [e]
  rfl
section
variable {prog : Program} {w : World} {A : Around} {E : Value → Shared → Prop} {s : Shared}
theorem applied_back {sl : Addr} {vl vu vs : Value} {n : Nat} {Q : Int × Int × Nat → Shared → Prop} (hs : s.heap.IsSliceOf sl vl vu vs) (pl : IsPart vl none) (pu : IsPart vu none) (ps : IsPart vs (some (-1)))
    (h : Q ((n : Int) - 1, -1, n) s) : wpAny (model prog w) A (Builtin.Slice.sliceApplied (.ref sl) (pure (n : Int))) Q E s := by
  obtain ⟨os, hos, hcs, hds⟩ := id hs
  unfold Builtin.Slice.sliceApplied Builtin.Slice.sliceFields
  refine wpAny_bind (wpAny_bind (wpAny_field hos hds (x := vl) rfl (wpAny_bind (wpAny_field hos hds (x := vu) rfl (wpAny_bind (wpAny_field hos hds (x := vs) rfl (wpAny_pure ?_)))))))
  refine wpAny_bind (HT.slicePart_ ps ?_)
  show wpAny _ _ (if ((-1 : Int) == 0) = true then _ else _) _ _ s
  rw [if_neg (by decide)]
  refine wpAny_bind (HT.slicePart_ pl (wpAny_bind (HT.slicePart_ pu (wpAny_bind (wpAny_pure ?_)))))
  show wpAny _ _ (pure ((n : Int) - 1, (-1 : Int), Builtin.Slice.slicePlaces ((n : Int) - 1) (-1) (-1))) _ _ s
  rw [places_back]
  exact wpAny_pure h
theorem getTup_back {t sl : Addr} {items : Array Value} {vl vu vs : Value} {Q : Value → Shared → Prop} (ht : IsTup s.heap t items) (hs : s.heap.IsSliceOf sl vl vu vs) (pl : IsPart vl none) (pu : IsPart vu none) (ps : IsPart vs (some (-1)))
    (hsz : items.size ≤ sizeLine) (h : Q (.ref s.heap.objs.size) { s with heap := s.heap.push { cls := .type "tuple", data := .seq items.toList.reverse.toArray } }) : wpAny (model prog w) A (getItem (.ref t) (.ref sl)) Q E s := by
  obtain ⟨os, hos, hcs, hds⟩ := id hs
  have hTs : s.TypeIs (.ref sl) "slice" := ⟨os, hos, hcs⟩
  have hok : sizeOk (.seq items.toList.reverse.toArray) := by
    show items.toList.reverse.toArray.size ≤ sizeLine
    rw [List.size_toArray, List.length_reverse, Array.length_toList]
    exact hsz
  unfold getItem
  try with_reducible refine wpAny_holding ?_
  first | refine wpAny_bind (wpAny_pure ?_) | skip
  refine wpAny_bind (wpAny_sequenceKey ht.typeIs (by decide) ?_)
  refine wpAny_bind (wpAny_callSpecial?_slot (name := Str.ofString "__getitem__") ht.typeIs PyProof.Rows.slot_tuple_getitem
    (wpAny_call_entry PyProof.Rows.slot_tuple_getitem ht.typeIs entry_tuple_getitem ?_ (args_tuple_getitem _ _)))
  show wpAny _ _ (Builtin.Tuple.tupleItemsOf (.ref t) >>= _) _ _ s
  refine wpAny_bind (tupleItemsOf_ ht (wpAny_bind (wpAny_typeOf hTs ?_)))
  rw [if_pos (by decide)]
  refine wpAny_bind (applied_back hs pl pu ps ?_)
  have hno : ¬ ((((items.size : Int) - 1) == 0 && (-1 : Int) == 1 && items.size == items.size) = true) := by
    intro q
    rw [Bool.and_eq_true, Bool.and_eq_true] at q
    exact absurd q.1.2 (by decide)
  show wpAny _ _ (if ((((items.size : Int) - 1) == 0 && (-1 : Int) == 1 && items.size == items.size) = true) then _ else _) _ _ s
  rw [if_neg hno]
  have e := pick_back items
  first
    | (rw [e]; exact wpAny_bind (m := Builtin.Tuple.tupleExact _) (wpAny_newObj_type (wpAny_pure ⟨_, rfl, wpAny_pure h⟩) hok))
    | (rw [e]; exact wpAny_bind (m := Builtin.Tuple.tupleExact _) (wpAny_newObj_type (wpAny_bind (wpAny_pure (wpAny_pure ⟨_, rfl, wpAny_pure h⟩))) hok))
    | (rw [e]; exact wpAny_bind (wpAny_bind (m := Builtin.Tuple.tupleExact _) (wpAny_newObj_type (wpAny_pure (wpAny_pure ⟨_, rfl, wpAny_pure h⟩)) hok)))
    | (rw [e]; exact wpAny_bind (wpAny_bind (m := Builtin.Tuple.tupleExact _) (wpAny_newObj_type (wpAny_pure ⟨_, rfl, wpAny_pure h⟩) hok)))
end
def tRevT (K : PySem.W.Frag) (te : TE) : TE := fun σ H Q => te σ H fun x H1 => ∃ a xs, x = .ref a ∧ SqT K H1 a xs ∧ ∀ p, H1 p = none → Q (.ref p) (upd H1 p (.tup xs.reverse))
theorem pe_revT {X : Cx} {e : Expr} {te : TE} {k : Nat} {p1 p2 p3 pos : Pos} (he : PE X e te) : PE X (.Subscript e (.Slice none none (some (.UnaryOp .USub (.Constant (.int 1) k p1) p2)) p3) pos) (tRevT X.K te) := by
  refine ⟨fun pins s σ H Q I h => ?_⟩
  refine Subscript_ (thn (he.run pins s σ H _ I h) fun v s1 ⟨x, H1, I1, r1, a, xs, ex, hx, q⟩ => ?_)
  subst ex
  cases r1
  have hst : PO X (some (.UnaryOp .USub (.Constant (.int 1) k p1) p2)) (tPart (tUn (rU fun i => .int (-i)) (tC (.int 1)))) := po_some (pe_un un_neg pe_int)
  refine wpAny_Slice (thn (po_none.run pins s1 σ H1 (fun o H2 => o = none ∧ H2 = H1) I1 ⟨rfl, rfl⟩) fun vl s2 ⟨l, H2, I2, pl, el, e2⟩ => ?_)
  subst el e2
  refine thn (po_none.run pins s2 σ H2 (fun o H3 => o = none ∧ H3 = H2) I2 ⟨rfl, rfl⟩) fun vu s3 ⟨u, H3, I3, pu, eu, e3⟩ => ?_
  subst eu e3
  refine thn (hst.run pins s3 σ H3 (fun o H4 => o = some (-1) ∧ H4 = H3) I3 ⟨1, rfl, -1, rfl, rfl, rfl⟩) fun vs s4 ⟨o, H4, I4, ps, eo, e4⟩ => ?_
  subst eo e4
  have I5 : Inv X pins σ H4 { s4 with heap := s4.heap.push { cls := .type "slice", data := .fields #[vl, vu, vs] } } := I4.kept (t' := s4.toks) fun b ob q => Heap.get?_push_of_some _ q
  obtain ⟨its, r, ht, hz⟩ := I5.tuple hx
  have hlen := r.length
  show wpAny (model X.prog X.w) X.A (subscriptTail e (.Slice none none (some (.UnaryOp .USub (.Constant (.int 1) k p1) p2)) p3) (.ref a) (.ref s4.heap.objs.size)) (EP X pins σ Q) X.xe { s4 with heap := s4.heap.push { cls := .type "slice", data := .fields #[vl, vu, vs] } }
  refine tail_any (ops := [.ref a, .ref s4.heap.objs.size]) ht.typeIs (PyProof.Rows.slot_tuple_getitem.lookup) ?_ (by with_unfolding_all rfl)
  refine getTup_back ht (Heap.IsSliceOf.new _ vl vu vs) pl pu ps (by rw [List.size_toArray]; omega) ?_
  refine ⟨.ref _, _, I5.laid (t' := s4.toks) (o := .tup xs.reverse) (fun b ob q => Heap.get?_push_of_some _ q) (Nat.le_refl _) ?_, rfl, q _ (I5.hok.fresh (Nat.le_refl _))⟩
  exact ⟨by rw [List.length_reverse]; exact hz, its.toArray.toList.reverse, r.reverse, ⟨_, Heap.get?_push_size _ rfl, rfl, 0, rfl⟩⟩
end OwR
end
section
namespace OwR
open PySem PySem.Spec PyProof.Rows L2
/-! ### def f(a, .., **d), called without keywords: an empty dict beside -/
section
variable {CX : CXT} {P : Program} {w : World} {K : PySem.W.Frag} {mg : Str → Option Value} {base : Heap} {k : Nat} {f : Addr} {name qual : Str} {params : Arguments} {body : List Stmt} {scope : Scope} {dV kV doc pm cdv ct oc : Value} {an od : Option Addr}
  {osl : Array (Option Value)} {N ps : List Str} {sp : Sp}
theorem fn_kw {pd : Str} (lk : K.lookup f = some ⟨oc, od, .func (PySem.W.fnOf name qual params body scope dV kV doc pm an cdv ct), osl⟩) (hcd : PySem.W.codeIn K cdv qual = true) (S : FnScope N (ps ++ [pd]) scope) (hCX : StX.CXUp CX)
    (hb : ∀ us : List Value, us.length = ps.length → bindArgs (PySem.W.fnOf name qual params body scope dV kV doc pm an cdv ct) ⟨us, []⟩ = ((alloc ({ cls := .type "dict", data := .dict #[] } : Obj) : Sem Addr) >>= fun d => pure (ps.zip us ++ [(pd, Value.ref d)])))
    (hbody : ∀ (A : Around) (outer : List Env) (s : Shared) (H : Hp) (vs : List V) (Q : VK) (E : XK), Room k (A.deeper (envOfC qual scope s.heap.objs.size f cdv)) → sp vs H Q E →
      ∃ t, PSs (cxOf CX P w K mg base N qual scope f cdv A outer s H E) body t ∧ t { nx := fun _ H' => Q .non H', rt := Q } (start N vs) H) :
    FnR P w K mg base CX (k + 1) f (fun vs H Q E => vs.length = ps.length ∧ ∀ d, H d = Option.none → sp (vs ++ [V.ref d]) (upd H d (.dK [])) Q E) := by
  intro A outer s H us vs Q E hr e0 r hsp
  obtain ⟨hl, hq⟩ := hsp
  have hn : H s.heap.objs.size = Option.none := e0.hok.fresh (Nat.le_refl _)
  have hl1 : us.length = ps.length := by rw [← r.length]; exact hl
  refine StX.run_bnd lk hcd S hr e0 (G := fun xs H2 => ∃ d, H d = Option.none ∧ xs = vs ++ [V.ref d] ∧ H2 = upd H d (.dK [])) (fun A' Ex Q' h => ?_) fun s2 H2 xs ⟨d, hd, ex, eH⟩ hr' => ?_
  · rw [hb us hl1]
    refine wpAny_bind (wpAny_alloc (wpAny_pure ?_))
    have e1 := StX.env0_laid (u := .dK []) (o := ({ cls := .type "dict", data := .dict #[] } : Obj)) e0 (dk_empty _ (StX.env0_big e0))
    have un := StX.un_laid (fs := frs outer) (s := s) (o := ({ cls := .type "dict", data := .dict #[] } : Obj)) (u := .dK []) hn
    have z := h _ _ (vs ++ [V.ref s.heap.objs.size]) (us ++ [Value.ref s.heap.objs.size]) e1 un rfl (fun e s' => hCX outer s H _ _ E e s' un (fun b o q => Heap.get?_push_of_some _ q) rfl) (r.append (.cons rfl .nil))
      (by rw [List.length_append, List.length_append, hl] <;> rfl) ⟨_, hn, rfl, rfl⟩
    rw [List.zip_append hl1.symm] at z
    exact z
  · subst ex eH
    exact hbody A outer s2 _ _ Q E hr' (hq d hd)
/-! ### a def called where no guard stands (repr of lists wants that) -/
def FnG (P : Program) (w : World) (K : PySem.W.Frag) (mg : Str → Option Value) (base : Heap) (CX : CXT) (k : Nat) (f : Addr) (fd : FuncData) (ps : List Str) (sp : Sp) : Prop :=
  ∀ (A : Around) (outer : List Env) (s : Shared) (H : Hp) (args : Args) (us : List Value) (vs : List V) (Q : VK) (E : XK), A.guards = some [] → Room k A → Env0 P w K mg base A outer s H → BindsTo s fd args (ps.zip us) → Vals vs us → sp vs H Q E →
    codeAny (model P w) A (.call (.ref f) args) (CR CX outer P w H s Q E) s
theorem fn_ofG (lk : K.lookup f = some ⟨oc, od, .func (PySem.W.fnOf name qual params body scope dV kV doc pm an cdv ct), osl⟩) (hcd : PySem.W.codeIn K cdv qual = true) (S : FnScope N ps scope)
    (len : ∀ vs H Q E, sp vs H Q E → vs.length = ps.length)
    (hbody : ∀ (A : Around) (outer : List Env) (s : Shared) (H : Hp) (vs : List V) (Q : VK) (E : XK), A.guards = some [] → Room k (A.deeper (envOfC qual scope s.heap.objs.size f cdv)) → sp vs H Q E →
      ∃ t, PSs (cxOf CX P w K mg base N qual scope f cdv A outer s H E) body t ∧ t { nx := fun _ H' => Q .non H', rt := Q } (start N vs) H) :
    FnG P w K mg base CX (k + 1) f (PySem.W.fnOf name qual params body scope dV kV doc pm an cdv ct) ps sp := by
  intro A outer s H args us vs Q E hgd hr e0 hb r hsp
  have hl := len _ _ _ _ hsp
  have KS : K.In s.heap := e0.mod.kin.keeps fun b o e => (e0.bs b o e).1
  have lims : s.heap.NoLimit := e0.mod.nolimit.keeps fun b o e => (e0.bs b o e).1
  have kinds : ∀ y ∈ ps.zip us, scope.names.lookup y.1 = some .local ∨ (scope.names.lookup y.1 = some .cell ∧ ((cellsFrom (s.heap.objs.size + 1) scope.names []).lookup y.1).isSome = true) := fun y hy =>
    (S.par y.1 (List.of_mem_zip hy).1).imp id fun q => ⟨q, PySem.W.cellsFrom_some _ _ _ (.inl q)⟩
  refine codeAny_call_function hr.depth (KS _ _ lk) rfl S.co S.gen rfl (PySem.W.codeRec_of KS hcd) (hb _ _ _ _ ?_)
  refine wpAny_newFunctionEnv_cells S.kind kinds fun env he s1 x => ?_
  subst he
  refine ⟨lims.keeps x.toInCall.keep, codeAny_func ?_⟩
  obtain ⟨t, ht, hq⟩ := hbody A outer s H vs Q E hgd (hr.deeper _) hsp
  have I : Inv (cxOf CX P w K mg base N qual scope f cdv A outer s H E) [] (start N vs) H s1 := inv_start S hr.hd e0 hl r x
  refine wpAny_mono (ht.run [] s1 (start N vs) H _ I hq) (fun fl s' hs => ?_) fun _ _ z => z
  have done : ∀ {σ' : L2.St} {H' : Hp} {v : V} {u : Value}, Inv (cxOf CX P w K mg base N qual scope f cdv A outer s H E) [] σ' H' s' → RelV v u → Q v H' → CE outer P w H s Q u s' :=
    fun {σ' H' v u} J rv q => ⟨v, H', J.os, J.bare, J.base, J.hok, rv, q⟩
  cases fl with
  | ret u =>
    obtain ⟨v, σ', H', J, rv, q⟩ := hs
    exact done J rv q
  | next =>
    obtain ⟨σ', H', J, q⟩ := hs
    exact done (v := V.non) (u := Value.none) J rfl q
  | brk => exact (hs.elim fun _ z => z.elim fun _ z => z.2.elim)
  | cont => exact (hs.elim fun _ z => z.elim fun _ z => z.2.elim)
end
/-! ### repr of data -/
def rReprD (K : PySem.W.Frag) : List V → Hp → VK → Prop := fun vs H Q => ∃ a d, vs = [V.ref a] ∧ Dp K H (.ref a) d ∧ d.showable = true ∧ d.hasDict = false ∧ d.depth ≤ 64 ∧ d.shown.length ≤ sizeLine ∧ Q (.str d.shown) H
theorem cr_reprD {X : Cx} (hg : X.A.guards = some []) (hu : X.A.units + 70 < cLine) : CallR X (.builtin "repr") (rReprD X.K) := by
  intro pins s σ H vs us Q I r h
  obtain ⟨a, d, rfl, hd, hs, hnd, hdp, hsz, q⟩ := h
  rw [Vals.ref1 r]
  obtain ⟨as, R⟩ := Dp.reads I d _ (.ref a) hd rfl
  refine repr_of_reads' R hs (fun z => by rw [hnd] at z; cases z) hg (by omega) (fun _ _ e => e) (fun h' u tk k => ?_) hsz
  exact ⟨.str d.shown, H, I.kept (t' := tk) k, ⟨u, rfl⟩, q⟩
/-! ### an object called with keywords alone -/
theorem callOK_of {M : Model} {A : Around} {E : Value → Shared → Prop} {s : Shared} {a : Addr} {pos : Pos} {Q : Value → Shared → Prop} {args : List (Bool × Sem Value)} {kws : List (Option Str × Sem Value)} (hpl : (args.any (·.1) || kws.any (·.1.isNone)) = false)
    (h : wpAny M A (evalArgs (.ref a) true args kws) (fun z s₁ => (∃ C ox od, PySem.W.InstAt s₁.heap a ox C od ∧ ox.data = .plain) ∧ wpAny M A (call (.ref a) ([] ++ z.pos) z.kw) Q E s₁) E s) : wpAny M A (callWith pos (.ref a) [] args kws) Q E s := by
  unfold callWith
  refine wpAny_bind (wpAny_holding (wpAny_mono h (fun z s₂ h₁ => wpAny_bind (wpAny_standAt ?_)) fun _ _ y => y))
  obtain ⟨⟨C, ox, od, J, hd⟩, h₂⟩ := h₁
  have L := PySem.W.kco_keeper (M := M) J hd
  simp only [hpl]
  refine wpAny_bind (L.here ?_)
  have rest : ∀ {t : Sem Value}, wpAny M A t Q E s₂ → wpAny M A (t >>= fun r => holding [r] point >>= fun _ => pure r) Q E s₂ :=
    fun ht => wpAny_bind (wpAny_mono ht (fun _ _ hr => wpAny_bind (wpAny_holding (wpAny_point (wpAny_pure hr)))) fun _ _ y => y)
  exact rest (wpAny_operateT h₂)
section
variable {X : Cx} {CX : CXT} {k : Nat} {C g : Addr} {fd : FuncData} {ps ks : List Str} {sp : Sp} {E : XK} {fe : Expr} {kws : List Keyword} {tf : TE} {tk : TA} {pos : Pos} {gg : List Value → List Value → List Value} {gV : List V → List V → List V}
def tCallOK (X : Cx) (C : Addr) (sp : Sp) (gV : List V → List V → List V) (E : XK) (tf : TE) (tk : TA) : TE := fun σ H Q => tf σ H fun y H1 => ∃ a, y = V.ref a ∧ tk σ H1 fun zs H2 => StX.InsC X H2 a C ∧ sp (gV [V.ref a] zs) H2 Q E
theorem pe_callOK (hf : PE X fe tf) (c : StX.CallO X.K C g) (F : FnOk X.prog X.w X.K X.mg X.base CX k g fd ps sp) (hr : Room k X.A) (hb : KBinds X.K fd ps ks gg gV) (hx : Passes CX X E) (hkw : PK X kws tk)
    (ht : eval (.Call fe [] kws pos) X.env = (do callWith pos (← eval fe X.env) [] (backTo pos (starEach [] X.env)) (backToKw pos (keywordEach kws X.env))) := by rfl)
    (hall : (backToKw pos (keywordEach kws X.env)).all (·.1.isSome) = true := by rfl) (hks : (backToKw pos (keywordEach kws X.env)).filterMap (·.1) = ks := by rfl)
    (hpl : ((backTo pos (starEach [] X.env)).any (·.1) || (backToKw pos (keywordEach kws X.env)).any (·.1.isNone)) = false := by rfl) : PE X (.Call fe [] kws pos) (tCallOK X C sp gV E tf tk) := by
  refine ⟨fun pins s σ H Q I h => ?_⟩
  rw [ht]
  refine wpAny_bind (thn (hf.run pins s σ H _ I h) fun u s1 ⟨y, H1, I1, ry, a, ey, q⟩ => ?_)
  subst ey
  obtain rfl : u = Value.ref a := ry
  refine callOK_of hpl (evalArgs_kw2_nil hall (thn (hkw.run pos pins s1 σ H1 _ I1 q) fun ws s2 ⟨zs, H2, I2, rz, hi, q2⟩ => ?_))
  obtain ⟨ox, od, J, hd⟩ := StX.insC_at I2 hi
  refine ⟨⟨C, ox, od, J, hd⟩, ?_⟩
  rw [hks]
  have r1 : Vals [V.ref a] [Value.ref a] := .cons rfl .nil
  have r2 := hb.rel r1 rz
  have hl : (gg [Value.ref a] ws).length = ps.length := by rw [← r2.length]; exact F.len _ _ _ _ q2
  refine wpAny_call (PySem.W.kco_code I2.kIn J hd c.at_ c.fn c.fi (codeAny_mono (F.run X.A X.stack s2 H2 ⟨[.ref a], ks.zip ws⟩ (gg [.ref a] ws) (gV [.ref a] zs) Q E hr I2.env0 (hb.to s2 [.ref a] ws I2.kIn hl) r2 q2) fun r s' hq => ?_))
  cases r with
  | error e => exact hx pins σ H2 s2 e s' I2 hq
  | ok fl =>
    cases fl with
    | ret u => exact I2.after hq
    | next => exact False.elim hq
    | brk => exact False.elim hq
    | cont => exact False.elim hq
end
end OwR
end
section
namespace OwR
open PySem PySem.Spec PyProof.Rows L2
/-! ### tuple(d), d a dict: its keys -/
section
variable {prog : Program} {w : World} {A : Around} {E : Value → Shared → Prop} {s : Shared} {T : String} {r d : Addr} {n : Nat} {P : Nat → Value → Prop} {OK : Heap → Prop}
theorem collect_src {Q : List Value → Shared → Prop} (K : PySem.W.KdlSrc prog w T r d n P OK) (hh : A.handled = none) (hok : OK s.heap) (hn : n ≤ sizeLine)
    (hQ : ∀ h' tk (out : List Value), (∀ b o, s.heap.get? b = some o → h'.get? b = some o) → out.length = n → (∀ j v, out[j]? = some v → P j v) → Q out { s with heap := h', toks := tk }) :
    wpAny (model prog w) A (collect (.ref r)) Q E s := by
  unfold collect
  refine wpAny_bind (wpAny_runValue (codeAny_builtin F.entry_proto_collect ?_))
  rw [Around.under_plainId F.plain_proto_collect _]
  show wpAny _ A.in1 (newList [] >>= fun l => again (.builtin "list.__iadd__" ⟨[l, .ref r], []⟩)) _ _ s
  refine wpAny_bind (wpAny_newObj_type ?_)
  refine wpAny_pure ⟨plainId_quiet F.plain_list_iadd _, codeAny_builtin F.entry_list_iadd ?_⟩
  rw [Around.under_plainId F.plain_list_iadd _]
  have there := K.there _ hok
  have hS : (s.heap.push { cls := .type "list", data := .seq ([] : List Value).toArray }).get? s.heap.objs.size = some { cls := .type "list", data := .seq #[] 0 } := Heap.get?_push_size _ rfl
  have fin : ∀ h' tk (acc : Array Value) (c : Nat), (∀ b o, b ≠ s.heap.objs.size → (s.heap.push { cls := .type "list", data := .seq ([] : List Value).toArray }).get? b = some o → h'.get? b = some o) →
      h'.get? s.heap.objs.size = some { cls := .type "list", dict := none, data := .seq acc c, slots := #[] } → ItemsOf P acc n →
      wpAny (model prog w) A (load s.heap.objs.size >>= fun ob => match ob.data with
        | .seq vs _ => pure vs.toList
        | _ => unsupported "internal:collect") Q E { s with heap := h', toks := tk } := fun h' tk acc c k hS' hacc =>
    wpAny_bind (wpAny_load hS' (wpAny_pure (hQ h' tk acc.toList (fun b o e => k b o (Nat.ne_of_lt (Heap.lt_size e)) (Heap.get?_push_of_some _ e)) (by rw [Array.length_toList]; exact hacc.1) fun j v e => hacc.2 j v (by rw [← Array.getElem?_toList]; exact e))))
  refine wpAny_mono (PySem.W.kdl_extend (A := A) (R := fun r s' => r = .ok (.ret (.ref s.heap.objs.size)) ∧ wpAny (model prog w) A (load s.heap.objs.size >>= fun ob => match ob.data with
        | .seq vs _ => pure vs.toList
        | _ => unsupported "internal:collect") Q E s') (s := { s with heap := s.heap.push { cls := .type "list", data := .seq ([] : List Value).toArray } }) K hh (K.keep _ _ hok fun b _ o e => Heap.get?_push_of_some _ e) s.heap.objs.size
    (Nat.ne_of_gt there.1) (Nat.ne_of_gt there.2) (.ref s.heap.objs.size) 0 hS (fun h' tk acc c k hS' hacc => ⟨rfl, fin h' tk acc c k hS' hacc⟩) hn) (fun f s' h => ?_) fun e s' h => ?_
  · cases f with
    | done f =>
      obtain ⟨e, z⟩ := h
      cases e
      exact z
    | again c' => exact ⟨h.1, codeAny_mono h.2 fun r s2 hr => by obtain ⟨rfl, z⟩ := hr; exact z⟩
  · cases h.1
theorem call_tuple_src {Q : Value → Shared → Prop} (K : PySem.W.KdlSrc prog w T r d n P OK) (hok : OK s.heap) (hn : n ≤ sizeLine) (hh : A.handled = none)
    (hQ : ∀ (h' : Heap) (tk : Nat) (out : List Value), (∀ b o, s.heap.get? b = some o → h'.get? b = some o) → out.length = n → (∀ j v, out[j]? = some v → P j v) →
      Q (.ref h'.objs.size) { s with heap := h'.push { cls := .type "tuple", data := .seq out.toArray }, toks := tk }) :
    wpAny (model prog w) A (call (.type "tuple") [.ref r]) Q E s := by
  have M : MeetsIn prog w (Builtin.«tuple.__new__» ⟨[.type "tuple", .ref r], []⟩) (fun (A' : Around) (R : Result → Shared → Prop) (s : Shared) => A'.handled = none ∧ OK s.heap ∧ ∀ (h' : Heap) (tk : Nat) (out : List Value), (∀ b o, s.heap.get? b = some o → h'.get? b = some o) → out.length = n → (∀ j v, out[j]? = some v → P j v) →
      R (.ok (.ret (.ref h'.objs.size))) { s with heap := h'.push { cls := .type "tuple", data := .seq out.toArray }, toks := tk }) := .of_wp fun A R s h => by
    obtain ⟨hp, g, dr, tk, os⟩ := s
    obtain ⟨hh', ht, h⟩ := h
    have hsub := sub_tuple_self
    have hinit := init_tuple_lookup
    have hmh := madeHere_tuple
    have hT : Shared.TypeIs ⟨hp, g, dr, tk, os⟩ (.ref r) T := K.type _ ht
    have col : ∀ {Q : List Value → Shared → Prop} {E : Value → Shared → Prop}, (∀ (h' : Heap) (tk' : Nat) (out : List Value), (∀ b o, hp.get? b = some o → h'.get? b = some o) → out.length = n → (∀ j v, out[j]? = some v → P j v) → Q out ⟨h', g, dr, tk', os⟩) →
        wpAny (model prog w) A.in1 (collect (.ref r)) Q E ⟨hp, g, dr, tk, os⟩ := fun hq => collect_src (s := ⟨hp, g, dr, tk, os⟩) K hh' ht hn hq
    have hnt : (Value.type T == Value.type "tuple") = false := K.notTuple
    wp_walk using wpAny_typeOf hT, col
    intro h' tk' out k l1 l2
    refine wpAny_bind (wpAny_pure ?_)
    show wpAny _ _ (Builtin.Tuple.tupleExact out.toArray >>= fun v => ret v) _ _ _
    unfold Builtin.Tuple.tupleExact
    refine wpAny_bind (wpAny_newObj_type ?_ (by show out.toArray.size ≤ sizeLine; rw [List.size_toArray, l1]; exact hn))
    exact wpAny_pure ⟨_, rfl, h h' tk' out k l1 l2⟩
  exact callType_newIn F.called_tuple (by decide) (F.typeCall_tuple_1 _) (F.newCall_tuple_1 _) (fun obj => F.args_object_init_2 obj _) F.entry_tuple_new M
    ⟨hh, hok, fun h' tk out k l1 l2 => ⟨⟨_, Heap.get?_push_size _ rfl, rfl⟩, hQ h' tk out k l1 l2⟩⟩
end
theorem call_tupleD {X : Cx} (hcalm : X.calm = true) : CallR X (.type "tuple") (fun xs H Q => ∃ (a : Addr) (kvs : List (Key × V)), xs = [.ref a] ∧ Rd H a (.dK kvs) ∧ ∀ p, H p = none → Q (.ref p) (upd H p (.tup (kvs.map fun kv => kV kv.1)))) := by
  intro pins s σ H xs us Q I r q
  obtain ⟨a, kvs, ex, hd, q⟩ := q
  subst ex
  obtain ⟨u, eu, rx⟩ := vals1 r
  subst eu
  cases rx
  obtain ⟨z, lo, vs, rel, dd⟩ := dk_rd I.hok hd
  obtain ⟨ep, hat⟩ := dd.dictAt
  have ek : (kvs.map fun kv => kV kv.1) = vs.map fun p => kV p.1 := by
    have e := congrArg (List.map kV) rel.keys
    rw [List.map_map, List.map_map] at e
    exact e
  refine call_tuple_src (PySem.W.kdl_dict (knd := mixKind X.prog X.w) (kvs := vs) (ep := ep) lo) hat (by rw [← rel.length]; exact z) (I.ok.hd hcalm) fun h' tk out k l1 l2 => ?_
  have hv : Vals (vs.map fun p => kV p.1) out := keys_at l1 fun j v e => l2 j v e
  have I1 : Inv X pins σ H { s with heap := h', toks := tk } := I.kept (t' := tk) k
  exact ⟨.ref h'.objs.size, _, I1.laid (t' := tk) (o := .tup (kvs.map fun kv => kV kv.1)) (fun b o e => Heap.get?_push_of_some _ e) (Nat.le_refl _) ⟨by rw [List.length_map]; exact z, out, by rw [ek]; exact hv, ⟨_, Heap.get?_push_size _ rfl, rfl, 0, rfl⟩⟩, rfl, q _ (I1.hok.fresh (Nat.le_refl _))⟩
end OwR
end
section
namespace OwD
open PySem PySem.Spec PyProof.Rows L2
theorem lays {α : Type} {f : α → PyData} : ∀ l : List α, (∀ x ∈ l, (f x).canLay0 = true) → PyData.canLayAll0 (l.map f) = true
  | [], _ => by simp [PyData.canLayAll0]
  | x :: l, h => by
    rw [List.map_cons, PyData.canLayAll0, h x List.mem_cons_self, lays l fun y hy => h y (List.mem_cons_of_mem _ hy)]
    rfl
theorem deps {α : Type} {f : α → PyData} {k : Nat} : ∀ l : List α, (∀ x ∈ l, (f x).depth ≤ k) → PyData.depthAll (l.map f) ≤ k
  | [], _ => by simp [PyData.depthAll]
  | x :: l, h => by
    have h1 := h x List.mem_cons_self
    have h2 := deps l fun y hy => h y (List.mem_cons_of_mem _ hy)
    rw [List.map_cons, PyData.depthAll]
    exact Nat.max_le.mpr ⟨h1, h2⟩
theorem shaped_of {d : PyData} (h1 : d.canLay0 = true) (h2 : d.depth ≤ 64) : SeqAt.shaped d = true := by
  show (d.canLay0 && decide (d.depth ≤ 64)) = true
  rw [h1, decide_eq_true h2]
  rfl
theorem shaped_lst {α : Type} {f : α → PyData} {l : List α} {k : Nat} (hk : k ≤ 60) (h1 : ∀ x ∈ l, (f x).canLay0 = true) (h2 : ∀ x ∈ l, (f x).depth ≤ k) : SeqAt.shaped (.list (l.map f)) = true := by
  refine shaped_of (by rw [PyData.canLay0]; exact lays l h1) ?_
  have := deps l h2
  rw [PyData.depth]
  omega
theorem shaped_tup {α : Type} {f : α → PyData} {l : List α} {k : Nat} (hk : k ≤ 60) (h1 : ∀ x ∈ l, (f x).canLay0 = true) (h2 : ∀ x ∈ l, (f x).depth ≤ k) : SeqAt.shaped (.tuple (l.map f)) = true := by
  refine shaped_of (by rw [PyData.canLay0]; exact lays l h1) ?_
  have := deps l h2
  rw [PyData.depth]
  omega
theorem dp_ints {K : PySem.W.Frag} {H : Hp} : ∀ ns : List Int, DpAll K H (ns.map V.int) (ns.map PyData.int)
  | [] => .nil
  | n :: r => .cons (.int n) (dp_ints r)
theorem dp_strs {K : PySem.W.Frag} {H : Hp} : ∀ ns : List Str, DpAll K H (ns.map V.str) (ns.map PyData.str)
  | [] => .nil
  | n :: r => .cons (.str n) (dp_strs r)
theorem shaped_ints (ns : List Int) : SeqAt.shaped (.list (ns.map PyData.int)) = true := shaped_lst (k := 0) (by decide) (fun _ _ => by simp [PyData.canLay0]) fun _ _ => by simp [PyData.depth]
theorem eqv_nil {α : Type} {f : α → PyData} (l : List α) : PyData.eqv (.list (l.map f)) (.list []) = l.isEmpty := by
  cases l <;> simp [PyData.eqv, PyData.eqvAll]
theorem shaped_nil : SeqAt.shaped (.list []) = true := shaped_of (by simp [PyData.canLay0, PyData.canLayAll0]) (by simp [PyData.depth, PyData.depthAll])
end OwD
end
section
namespace K10
open PySem PySem.Spec PyProof.Rows L2
def top (i : Nat) : Stmt := PySem.Challenge.pw_nextkind_k08_rules_made.main.body.getD i (.Pass ⟨0, 0, 0, 0⟩)
abbrev sPen : Stmt := top 27
abbrev sDraw : Stmt := top 28
abbrev sPick : Stmt := top 29
/-- what stands behind the module's names -/
structure Nm (mg : Str → Option Value) : Prop where
  n_int : mg "int" = none
  n_len : mg "len" = none
  n_abs : mg "abs" = none
  n_list : mg "list" = none
/-- the state of the draws at p: the cells at c, how many were taken, what is left of a great one -/
structure PenAt (H : Hp) (p c : Addr) (ns : List Int) (n : Nat) (z : Int) : Prop where
  pen : H p = some (.lst [.ref c, .int n, .int z])
  cells : H c = some (.lst (ns.map V.int))
  few : ns.length ≤ 63
  rest : 0 ≤ z
theorem PenAt.ne {H : Hp} {p c : Addr} {ns : List Int} {n : Nat} {z : Int} (P : PenAt H p c ns n z) : c ≠ p := fun e => by
  have h1 := P.pen
  have h2 := P.cells
  rw [e, h1] at h2
  have h3 := congrArg (fun o : Option HO => match o with | some (.lst xs) => xs | _ => []) h2
  have h4 : ([V.ref c, V.int n, V.int z] : List V) = ns.map V.int := h3
  cases ns with
  | nil => cases h4
  | cons a l => cases h4
/-- all but the pen stands -/
def But (p : Addr) (H H' : Hp) : Prop := ∀ b o, b ≠ p → H b = some o → H' b = some o
theorem But.refl (p : Addr) (H : Hp) : But p H H := fun _ _ _ h => h
theorem But.trans {p : Addr} {H H1 H2 : Hp} (a : But p H H1) (b : But p H1 H2) : But p H H2 := fun c o n h => b c o n (a c o n h)
theorem But.new {p l : Addr} {H : Hp} {o : HO} (h : H l = none) : But p H (upd H l o) := fun b u _ e => by
  rw [upd_ne (ne_of_none e h)]
  exact e
theorem But.at {p : Addr} {H : Hp} {o : HO} : But p H (upd H p o) := fun b u n e => by
  rw [upd_ne n]
  exact e
theorem But.same {p : Addr} {H H' : Hp} (a : But p H H') (s : Same H' H') : But p H H' := a
theorem at_mod (ns : List Int) (n : Int) (h : 0 < ns.length) : ∃ x : Int, atI (ns.map V.int) (n % ((ns.map V.int).length : Int)) = some (V.int x) := by
  have hl : (ns.map V.int).length = ns.length := List.length_map _
  have h1 : 0 ≤ n % ((ns.map V.int).length : Int) := Int.emod_nonneg _ (by omega)
  have h2 : n % ((ns.map V.int).length : Int) < ((ns.map V.int).length : Int) := Int.emod_lt_of_pos _ (by omega)
  generalize n % ((ns.map V.int).length : Int) = j at h1 h2
  obtain ⟨i, rfl⟩ : ∃ i : Nat, j = (i : Int) := ⟨j.toNat, by omega⟩
  have hi : i < ns.length := by omega
  refine ⟨ns[i], atI_nat ?_⟩
  rw [List.getElem?_map, List.getElem?_eq_getElem hi]
  rfl
theorem mix_lt {x n a b c : Int} (x0 : 0 ≤ x) (x1 : x < 2147483648) (n0 : 0 ≤ n) (n1 : n < 100000) (a0 : 0 ≤ a) (a1 : a < 1000000) (b0 : 0 ≤ b) (b1 : b < 1000000) (c0 : 0 ≤ c) (c1 : c < 1000000) :
    (x * (2 * n + a) + b * n * n + c).natAbs < 2 ^ 64 := by
  have h1 : 0 ≤ x * (2 * n + a) := Int.mul_nonneg x0 (by omega)
  have h2 : x * (2 * n + a) ≤ 2147483648 * 1200000 := Int.mul_le_mul (by omega) (by omega) (by omega) (by decide)
  have h3 : 0 ≤ b * n * n := Int.mul_nonneg (Int.mul_nonneg b0 n0) n0
  have h4 : b * n ≤ 1000000 * 100000 := Int.mul_le_mul (by omega) (by omega) n0 (by decide)
  have h5 : b * n * n ≤ 1000000 * 100000 * 100000 := Int.mul_le_mul h4 (by omega) n0 (by decide)
  omega
def spDraw : Sp := fun vs H Q _ => ∃ (p c : Addr) (ns : List Int) (n : Nat) (z m : Int), vs = [.ref p, .int m] ∧ PenAt H p c ns n z ∧ n < 100000 ∧ 0 < m ∧ m.natAbs < 2 ^ 1000 ∧
  ∀ (d : Int) (n' : Nat) (z' : Int) (H' : Hp), 0 ≤ d → d < m → n' ≤ n + 1 → PenAt H' p c ns n' z' → But p H H' → Q (.int d) H'
section
variable {P : Program} {w : World} {K : PySem.W.Frag} {mg : Str → Option Value} {base : Heap}
theorem scD : FnScope ["_law_pen_here", "_law_many", "_law_digit", "_law_at", "_law_cell", "_law_great", "_law_mixed"] ["_law_pen_here", "_law_many"] (defScope sDraw) := ⟨rfl, rfl, rfl, by decide +kernel, rfl, by decide +kernel, by decide +kernel⟩
theorem ok_draw {f : Addr} {fd : FuncData} (F : Fun K "_law_draw" "_law_draw" sDraw f fd) (T : Nm mg) : FnOk P w K mg base CX0 1 f fd ["_law_pen_here", "_law_many"] spDraw := by
  refine F.ok scD (fun vs H Q E h => ?_) (fun cdv A outer s H vs Q E hr h => ?_)
  · obtain ⟨p, c, ns, n, z, m, rfl, _⟩ := h
    rfl
  · obtain ⟨p, c, ns, n, z, m, rfl, D, hn, hm, hb, k⟩ := h
    have hu := hu_of hr
    obtain ⟨h1, h2, hl, h0⟩ := id D
    refine ⟨_, (pss_cons (ps_if (pt_cmpR op_gt (pe_ix ix_list (pv 0) pe_int (fun _ _ => rfl)) pe_int (nomark _)) (pss_cons (ps_set (i := 2) scD.nd rfl (Or.inl rfl) (pe_op op_mod (pe_callTy call_int1 (by rfl) T.n_int (by decide +kernel) (pa_cons (pe_ix ix_list (pv 0) pe_int (fun _ _ => rfl)) pa_nil)) (pv 1)))
    (pss_cons (ps_asg (pe_op op_fdivW (pe_callTy call_int1 (by rfl) T.n_int (by decide +kernel) (pa_cons (pe_ix ix_list (pv 0) pe_int (fun _ _ => rfl)) pa_nil)) (pv 1)) (pg_sub (pv 0) pe_int set_list))
    (pss_one (ps_ret (pv 2))))) pss_nil)
    (pss_cons (ps_set (i := 3) scD.nd rfl (Or.inl rfl) (pe_ix ix_list (pv 0) pe_int (fun _ _ => rfl)))
    (pss_cons (ps_asg (pe_op op_add (pv 3) pe_int) (pg_sub (pv 0) pe_int set_list))
    (pss_cons (ps_set (i := 4) scD.nd rfl (Or.inl rfl) (pe_op op_add (pe_op op_mul pe_int (pv 3)) pe_int))
    (C8.pss_cut (ps_if (pt_cmpR (op_neD hr.units) (pe_ix ix_list (pv 0) pe_int (fun _ _ => rfl)) (pe_lst pa_nil) (nomark _)) (pss_one (ps_set (i := 4) scD.nd rfl (Or.inl rfl) (pe_ix ix_list (pe_ix ix_list (pv 0) pe_int (fun _ _ => rfl)) (pe_op op_mod (pe_callTy call_int1 (by rfl) T.n_int (by decide +kernel) (pa_cons (pv 3) pa_nil)) (pe_callB call_len_seq (by rfl) T.n_len boot_len (pa_cons (pe_ix ix_list (pv 0) pe_int (fun _ _ => rfl)) pa_nil))) (fun _ _ => rfl)))) pss_nil)
    (C8.pss_cut (ps_if (PW.pt (pw_and (pt_cmpR op_lt (pv 3) (pe_callB call_len_seq (by rfl) T.n_len boot_len (pa_cons (pe_ix ix_list (pv 0) pe_int (fun _ _ => rfl)) pa_nil)) (nomark _)) (pw_and1 (pt_cmpR op_ge (pe_callB call_abs (by rfl) T.n_abs (by decide +kernel) (pa_cons (pv 4) pa_nil)) (pe_op op_pow pe_int pe_int) (nomark _))))) (pss_cons (ps_set (i := 5) scD.nd rfl (Or.inl rfl) (pe_op op_add (pe_op op_mul pe_int (pe_op op_sub (pe_callB call_abs (by rfl) T.n_abs (by decide +kernel) (pa_cons (pv 4) pa_nil)) (pe_op op_pow pe_int pe_int))) (pe_callTy call_int1 (by rfl) T.n_int (by decide +kernel) (pa_cons (pe_cmpR op_lt (pv 4) pe_int (nomark _)) pa_nil))))
    (pss_cons (ps_asg (pe_op op_fdivW (pe_callTy call_int1 (by rfl) T.n_int (by decide +kernel) (pa_cons (pv 5) pa_nil)) (pv 1)) (pg_sub (pv 0) pe_int set_list))
    (pss_one (ps_ret (pe_op op_mod (pe_callTy call_int1 (by rfl) T.n_int (by decide +kernel) (pa_cons (pv 5) pa_nil)) (pv 1)))))) pss_nil)
    (pss_cons (ps_set (i := 6) scD.nd rfl (Or.inl rfl) (pe_op op_mod (pe_callTy call_int1 (by rfl) T.n_int (by decide +kernel) (pa_cons (pe_op op_pow (pe_op op_add (pe_op op_add (pe_op op_mod (pe_callTy call_int1 (by rfl) T.n_int (by decide +kernel) (pa_cons (pv 4) pa_nil)) pe_int) (pe_op op_mul pe_int (pv 3))) pe_int) pe_int) pa_nil)) pe_int))
    (pss_cons (ps_set (i := 6) scD.nd rfl (Or.inl rfl) (pe_op op_mod (pe_callTy call_int1 (by rfl) T.n_int (by decide +kernel) (pa_cons (pe_op op_pow (pe_op op_add (pe_op op_add (pe_op op_mul (pv 6) (pe_op op_add (pe_op op_mul pe_int (pv 3)) pe_int)) (pe_op op_mul (pe_op op_mul pe_int (pv 3)) (pv 3))) pe_int) pe_int) pa_nil)) pe_int))
    (pss_one (ps_ret (pe_op op_mod (pe_callTy call_int1 (by rfl) T.n_int (by decide +kernel) (pa_cons (pe_op op_fdivW (pv 6) pe_int) pa_nil)) (pv 1))))))))))))
, ?_⟩
    refine ⟨_, rfl, p, _, _, _, rfl, rfl, SqL.of h1, rfl, _, _, rfl, rfl, _, rfl, ?_⟩
    refine ite2 (fun c1 => ?_) (fun c1 => ?_)
    · refine ⟨_, rfl, p, _, _, _, rfl, rfl, SqL.of h1, rfl, .inl ⟨_, rfl, _, rfl, _, _, rfl, rfl, hm, ?_⟩⟩
      refine ⟨_, rfl, p, _, _, _, rfl, rfl, SqL.of h1, rfl, .inl ⟨_, rfl, _, rfl, _, _, rfl, rfl, wide_div hm hb (by decide) (by decide), ?_⟩⟩
      refine ⟨_, rfl, p, _, _, 2, rfl, rfl, h1, rfl, _, rfl, ?_⟩
      refine k _ n (z / m) _ (Int.emod_nonneg _ (by omega)) (Int.emod_lt_of_pos _ hm) (Nat.le_succ _) ⟨upd_same, ?_, hl, Int.ediv_nonneg h0 (by omega)⟩ But.at
      rw [upd_ne D.ne]
      exact h2
    · refine ⟨_, rfl, p, _, _, _, rfl, rfl, SqL.of h1, rfl, ?_⟩
      refine ⟨_, rfl, _, _, rfl, rfl, _, rfl, p, _, _, 1, rfl, rfl, h1, rfl, ?_⟩
      -- the cell
      refine ⟨_, rfl, _, _, rfl, rfl, .inl ⟨by decide, by decide⟩, _, _, rfl, rfl, ?_⟩
      have D1 : PenAt (upd H p (.lst [.ref c, .int ((n : Int) + 1), .int z])) p c ns (n + 1) z := ⟨upd_same, by rw [upd_ne D.ne]; exact h2, hl, h0⟩
      have B1 : But p H (upd H p (.lst [.ref c, .int ((n : Int) + 1), .int z])) := But.at
      -- a cell of the script, if there is one
      refine ⟨fun σ' H' => ∃ cell : Int, σ' = [some (.ref p), some (.int m), none, some (.int n), some (.int cell), none, none] ∧ PenAt H' p c ns (n + 1) z ∧ But p H H', ?_, ?_⟩
      · refine ⟨_, rfl, p, _, _, _, rfl, rfl, SqL.of D1.pen, rfl, by show 0 ≤ sizeLine; decide, fun l hl0 => ?_⟩
        have D2 : PenAt (upd (upd H p (.lst [.ref c, .int ((n : Int) + 1), .int z])) l (.lst [])) p c ns (n + 1) z :=
          ⟨by rw [upd_ne (ne_of_none D1.pen hl0)]; exact D1.pen, by rw [upd_ne (ne_of_none D1.cells hl0)]; exact D1.cells, hl, h0⟩
        refine ⟨.list (ns.map PyData.int), .list [], .lst (SqL.of D2.cells) (OwD.dp_ints ns), .lst (SqL.of upd_same) .nil, OwD.shaped_ints ns, OwD.shaped_nil, _, rfl, ?_⟩
        rw [OwD.eqv_nil]
        have B2 := B1.trans (But.new (p := p) (o := .lst []) hl0)
        cases ns with
        | nil =>
          refine iteF ?_
          exact ⟨_, rfl, D2, B2⟩
        | cons a0 rest =>
          refine iteT ?_
          have hpos : 0 < ((a0 :: rest).map V.int).length := by rw [List.length_map]; exact Nat.succ_pos _
          refine ⟨_, rfl, p, _, _, _, rfl, rfl, SqL.of D2.pen, rfl, _, rfl, .inl ⟨_, rfl, _, rfl, p, _, _, _, rfl, rfl, SqL.of D2.pen, rfl, c, _, rfl, .inl (SqL.of D2.cells), _, _, rfl, rfl, by omega, ?_⟩⟩
          obtain ⟨x, hx⟩ := at_mod (a0 :: rest) n (Nat.succ_pos _)
          refine ⟨c, _, _, _, rfl, rfl, SqL.of D2.cells, hx, ?_⟩
          exact ⟨x, rfl, D2, B2⟩
      · rintro σ' H' ⟨cell, rfl, D3, B3⟩
        have C3 := D3.cells
        -- a great cell
        have ret : ∀ (d : Int) (H4 : Hp), 0 ≤ d → d < m → PenAt H4 p c ns (n + 1) z → But p H H4 → Q (.int d) H4 := fun d H4 a1 a2 D4 B4 => k d (n + 1) z H4 a1 a2 (Nat.le_refl _) D4 B4
        refine ⟨fun σ' H' => σ' = [some (.ref p), some (.int m), none, some (.int n), some (.int cell), none, none] ∧ PenAt H' p c ns (n + 1) z ∧ But p H H', ?_, ?_⟩
        · refine ⟨_, rfl, _, rfl, p, _, _, _, rfl, rfl, SqL.of D3.pen, rfl, c, _, rfl, .inl (SqL.of C3), _, _, rfl, rfl, _, rfl, ?_⟩
          refine ite2 (fun c2 => ?_) (fun c2 => ?_)
          · refine ⟨_, rfl, _, rfl, _, _, rfl, rfl, ⟨by decide, by decide, by decide⟩, _, _, rfl, rfl, _, rfl, ?_⟩
            refine ite2 (fun c3 => ?_) (fun c3 => ?_)
            · refine ⟨_, rfl, _, rfl, _, _, rfl, rfl, ⟨by decide, by decide, by decide⟩, _, _, rfl, rfl, _, _, rfl, rfl, .inl ⟨by decide, by decide⟩, ?_⟩
              refine ⟨_, rfl, _, _, rfl, rfl, .inr ⟨_, rfl, _, _, rfl, rfl, ?_⟩⟩
              have gpos : 0 ≤ 2 * ((if cell < 0 then -cell else cell) - (10 : Int) ^ (18 : Int).toNat) + (if decide (cell < 0) = true then 1 else 0) := by
                have h3 : (10 : Int) ^ (18 : Int).toNat ≤ (if cell < 0 then -cell else cell) := of_decide_eq_true c3
                split <;> omega
              refine ⟨_, rfl, .inl ⟨_, rfl, _, rfl, _, _, rfl, rfl, wide_div hm hb (by decide) (by decide), _, rfl, p, _, _, 2, rfl, rfl, D3.pen, rfl, ?_⟩⟩
              refine ⟨_, rfl, .inl ⟨_, rfl, _, rfl, _, _, rfl, rfl, hm, ?_⟩⟩
              refine k _ (n + 1) _ _ (Int.emod_nonneg _ (by omega)) (Int.emod_lt_of_pos _ hm) (Nat.le_refl _) ⟨upd_same, ?_, hl, Int.ediv_nonneg gpos (by omega)⟩ (B3.trans But.at)
              rw [upd_ne D.ne]
              exact C3
            · exact ⟨rfl, D3, B3⟩
          · exact ⟨rfl, D3, B3⟩
        · rintro σ' H4 ⟨rfl, D4, B4⟩
          have a1 := Int.emod_nonneg cell (show (2147483549 : Int) ≠ 0 by decide)
          have a2 := Int.emod_lt_of_pos cell (show (0 : Int) < 2147483549 by decide)
          -- one mixed from the cell
          refine ⟨_, rfl, .inl ⟨_, rfl, _, _, rfl, rfl, (by show (0 : Int) < _; decide), _, rfl, _, _, rfl, rfl, .inl ⟨by decide, by decide⟩, _, _, rfl, rfl, _, _, rfl, rfl, _, _, rfl, rfl, ⟨by decide, by decide, ?_⟩, .inl ⟨_, rfl, _, _, rfl, rfl, (by show (0 : Int) < _; decide), ?_⟩⟩⟩
          · show Int.natAbs _ < 2 ^ 64
            omega
          have b1 := fun x : Int => Int.emod_nonneg x (show (2147483629 : Int) ≠ 0 by decide)
          have b2 := fun x : Int => Int.emod_lt_of_pos x (show (0 : Int) < 2147483629 by decide)
          refine ⟨_, rfl, _, rfl, _, _, rfl, rfl, .inl ⟨by decide, by decide⟩, _, _, rfl, rfl, _, _, rfl, rfl, .inl ⟨Int.lt_of_lt_of_le (by decide) (b1 _), Int.lt_trans (b2 _) (by decide)⟩, ?_⟩
          refine ⟨_, rfl, _, _, rfl, rfl, .inl ⟨by decide, by decide⟩, _, rfl, _, _, rfl, rfl, .inl ⟨by omega, by omega⟩, _, _, rfl, rfl, _, _, rfl, rfl, ?_⟩
          refine ⟨_, _, rfl, rfl, ⟨by decide, by decide, mix_lt (b1 _) (Int.lt_trans (b2 _) (by decide)) (by omega) (by omega) (by decide) (by decide) (by decide) (by decide) (by decide) (by decide)⟩, .inl ⟨_, rfl, _, _, rfl, rfl, (by show (0 : Int) < _; decide), ?_⟩⟩
          refine ⟨_, rfl, _, _, rfl, rfl, wide_div (b := 6) (by decide) (by decide) (by decide) (by decide), .inl ⟨_, rfl, _, rfl, _, _, rfl, rfl, hm, ?_⟩⟩
          exact ret _ _ (Int.emod_nonneg _ (by omega)) (Int.emod_lt_of_pos _ hm) D4 B4
end
end K10
end
section
namespace K10
open PySem PySem.Spec PyProof.Rows L2
abbrev sName : Stmt := top 9
abbrev sWithin : Stmt := top 10
abbrev sNumber : Stmt := top 14
structure Nm2 (mg : Str → Option Value) : Prop where
  n_int : mg "int" = none
  n_bool : mg "bool" = none
  n_str : mg "str" = none
  n_len : mg "len" = none
  n_all : mg "all" = none
  n_isinstance : mg "isinstance" = none
/-- a name: 1 to 8 letters -/
def letter (c : Nat) : Bool := decide (97 ≤ c) && decide (c ≤ 122)
def nameB (z : Str) : Bool := (decide (1 ≤ z.length) && decide (z.length ≤ 8)) && z.cps.toList.all letter
theorem one_le (a c : Nat) : (!decide (([c] : List Nat) < [a])) = decide (a ≤ c) := by
  by_cases h : a ≤ c
  · rw [decide_eq_true h, decide_eq_false]
    · rfl
    · intro q
      rcases List.cons_lt_cons_iff.mp q with q | ⟨_, q⟩
      · omega
      · exact absurd q (by simp)
  · rw [decide_eq_false h, decide_eq_true]
    · rfl
    · exact List.cons_lt_cons_iff.mpr (.inl (by omega))
def spName : Sp := fun vs H Q _ => ∃ z : Str, vs = [.str z] ∧ z.length ≤ 1000 ∧ ∀ H', Same H H' → Q (.bl (nameB z)) H'
def spWithin : Sp := fun vs H Q _ => ∃ v a b : Int, vs = [.int v, .int a, .int b] ∧ Q (.bl (decide (a ≤ v) && decide (v ≤ b))) H
def spNumber : Sp := fun vs H Q _ => ∃ v : Int, vs = [.int v] ∧ Q (.bl (decide (0 ≤ v) && decide (v ≤ 10 ^ 60 - 1))) H
section
variable {P : Program} {w : World} {K : PySem.W.Frag} {mg : Str → Option Value} {base : Heap}
abbrev nName : List Str := ["value", "sign"]
theorem scN : FnScope nName ["value"] (defScope sName) := ⟨rfl, rfl, rfl, by decide +kernel, rfl, by decide +kernel, by decide +kernel⟩
theorem ok_name {f : Addr} {fd : FuncData} (F : Fun K "is_name" "is_name" sName f fd) (T : Nm2 mg) : FnOk P w K mg base CX0 1 f fd ["value"] spName := by
  refine F.ok scN (fun vs H Q E h => ?_) (fun cdv A outer s H vs Q E hr h => ?_)
  · obtain ⟨z, rfl, _⟩ := h
    rfl
  · obtain ⟨z, rfl, hz, k⟩ := h
    refine ⟨_, (pss_cons (ps_if (PW.pt (pw_or (pt_not (pt_val (pe_callB call_isi (by rfl) T.n_isinstance (by decide +kernel) (pa_cons (pv 0) (pa_cons (pe_bltn (v := .ty "str") (by rfl) T.n_str (by decide +kernel) rfl) pa_nil))))) (pw_or1 (pt_not (pt_chain op_le op_le pe_int (pe_callB call_len (by rfl) T.n_len boot_len (pa_cons (pv 0) pa_nil)) pe_int))))) (pss_one (ps_ret pe_bl)) pss_nil)
    (pss_one (ps_ret (pe_callB (cr_all rfl) (by rfl) T.n_all (by decide +kernel) (pa_cons (pe_lc (own := [("sign", 1)]) (by rfl) scN.nd (pi_str (pv 0)) (blkOk_by (own := [("sign", 1)]) (N := nName) (sc := defScope sName) (by decide +kernel)) (fun _ _ _ _ _ => (pg_name (i := 1) scN.nd rfl (Or.inl rfl))) (fun _ _ _ _ _ => pts_nil) (fun _ _ _ _ _ => (pe_chain op_le_str op_le_str pe_str (pv 1) pe_str))) pa_nil))))), ?_⟩
    have hz2 : z.length ≤ sizeLine := Nat.le_trans hz (by decide)
    refine ⟨_, rfl, .str z, .ty "str", _, _, true, rfl, .ty _, .base (by constructor), kit_ty (by decide +kernel), true, rfl, ?_⟩
    refine iteF ?_
    refine ⟨_, rfl, .str z, z.length, rfl, ⟨hz2, rfl⟩, _, _, rfl, rfl, _, rfl, ?_⟩
    refine ite2 (fun c1 => ?_) (fun c1 => ?_)
    · have d1 : 1 ≤ z.length := by
        have := of_decide_eq_true c1
        omega
      refine ⟨_, _, rfl, rfl, _, rfl, ?_⟩
      by_cases d2 : z.length ≤ 8
      · have e2 : decide ((z.length : Int) ≤ 8) = true := decide_eq_true (by omega)
        rw [e2]
        refine iteF ?_
        have rest : ∀ b H', Same H H' → b = z.cps.toList.all letter → Q (.bl b) H' := fun b H' s e => by
          have e' : nameB z = b := by
            unfold nameB
            rw [decide_eq_true d1, decide_eq_true d2, e]
            rfl
          rw [← e']
          exact k H' s
        refine ⟨_, rfl, z, rfl, fun D hD => lc_it (walk_str (z := z)) (fun i H' => H' D = some (.lst (((z.cps.toList.take i).map letter).map V.bl)) ∧ Same H H')
          ⟨upd_same, fun b o e => by rw [upd_ne (ne_of_none e hD)]; exact e⟩ (fun _ _ _ _ => trivial) ?_ ?_⟩
        · rintro i x H1 H2 hi ⟨hl, hs⟩ ⟨rfl, c, hc, rfl⟩
          have step : ∀ b : Bool, b = letter c → ∃ acc : List V, H2 D = some (.lst acc) ∧ acc.length < sizeLine ∧
              (upd H2 D (.lst (acc ++ [V.bl b])) D = some (.lst (((z.cps.toList.take (i + 1)).map letter).map V.bl)) ∧ Same H (upd H2 D (.lst (acc ++ [V.bl b])))) := fun b hb => by
            refine ⟨_, hl, ?_, ?_, fun a o e => ?_⟩
            · rw [List.length_map, List.length_map, List.length_take]
              have h9 : z.cps.toList.length = z.length := by first | rfl | simp [Str.length]
              exact Nat.lt_of_le_of_lt (Nat.min_le_right _ _) (by rw [h9, sizeLine_eq]; omega)
            · rw [upd_same, hb, List.take_add_one, show z.cps.toList[i]? = some c by rw [Array.getElem?_toList]; exact hc]
              simp
            · rw [upd_ne (ne_of_none e hD)]
              exact hs a o e
          refine ⟨rfl, ?_⟩
          refine ⟨_, rfl, _, _, rfl, rfl, _, rfl, ?_⟩
          have l1 : (!decide ((⟨#[c]⟩ : Str).cps.toList < ("a" : Str).cps.toList)) = decide (97 ≤ c) := one_le 97 c
          have l2 : (!decide (("z" : Str).cps.toList < (⟨#[c]⟩ : Str).cps.toList)) = decide (c ≤ 122) := one_le c 122
          by_cases c1 : 97 ≤ c
          · rw [l1, decide_eq_true c1]
            refine iteT ?_
            refine ⟨_, _, rfl, rfl, step _ ?_⟩
            rw [l2]
            unfold letter
            rw [decide_eq_true c1, Bool.true_and]
          · rw [l1, decide_eq_false c1]
            refine iteF ?_
            refine step _ ?_
            unfold letter
            rw [decide_eq_false c1, Bool.false_and]
        · rintro H1 ⟨hl, hs⟩
          refine ⟨D, _, rfl, SqL.of hl, rest _ H1 hs ?_⟩
          rw [show z.cps.size = z.cps.toList.length from rfl, List.take_length, List.all_map]
          rfl
      · have e2 : decide ((z.length : Int) ≤ 8) = false := decide_eq_false (by omega)
        rw [e2]
        refine iteT ?_
        have e : nameB z = false := by
          unfold nameB
          rw [decide_eq_false d2, Bool.and_false, Bool.false_and]
        rw [← e]
        exact k H (Same.refl H)
    · have d1 : ¬ 1 ≤ z.length := fun q => c1 (decide_eq_true (by omega))
      refine ⟨_, rfl, ?_⟩
      have e : nameB z = false := by
        unfold nameB
        rw [decide_eq_false d1, Bool.false_and, Bool.false_and]
      refine iteT ?_
      rw [← e]
      exact k H (Same.refl H)
end
end K10
end
section
namespace OwR
open PySem PySem.Spec PyProof.Rows L2
theorem dc_it {J : It} {n : Nat} {G : Hp → Prop} {Y : Nat → Hp → V → Hp → Prop} (w : Walk J n G Y) {g : TG} {tt : TT} {tk tv : TE} {vs : List Nat} {σ : L2.St} {H1 : Hp} {D : Addr} {Qd : Hp → Prop} (Pv : Nat → Hp → Prop)
    (h0 : Pv 0 (upd H1 D (.dK []))) (hG : ∀ i H, i ≤ n → Pv i H → G H)
    (turn : ∀ i x H H', i < n → Pv i H → Y i H x H' → g x (wipe σ vs) H' fun σ2 H2 => wipe σ2 vs = wipe σ vs ∧ tt σ2 H2 fun b H3 =>
      if b = true then tk σ2 H3 fun y H4 => tv σ2 H4 fun z H5 => ∃ kvs k, y = kV k ∧ H5 D = some (.dK kvs) ∧ kvs.length < sizeLine ∧ Pv (i + 1) (upd H5 D (.dK (putK kvs k z))) else Pv (i + 1) H3)
    (fin : ∀ H, Pv n H → Qd H) :
    ∃ W : Nat → Nat → Hp → Prop, (∃ m, W 0 m (upd H1 D (.dK []))) ∧ ∀ i m H, W i m H →
      (J.stop i H ∧ Qd H) ∨ (J.go i H ∧ ∃ Nx : Hp → Prop, (∀ H', Nx H' → ∃ m', m' < m ∧ W (i + 1) m' H') ∧ ∀ x H', J.yld i H x H' → g x (wipe σ vs) H' fun σ2 H2 => wipe σ2 vs = wipe σ vs ∧ tt σ2 H2 fun b H3 =>
        if b = true then tk σ2 H3 fun y H4 => tv σ2 H4 fun z H5 => ∃ kvs k, y = kV k ∧ H5 D = some (.dK kvs) ∧ kvs.length < sizeLine ∧ Nx (upd H5 D (.dK (putK kvs k z))) else Nx H3) := by
  refine ⟨fun i m H => m = n - i ∧ i ≤ n ∧ Pv i H, ⟨n, by simp, Nat.zero_le _, h0⟩, fun i m H ⟨em, hi, p⟩ => ?_⟩
  subst em
  have q := hG i H hi p
  rcases Nat.lt_or_ge i n with hlt | hge
  · exact .inr ⟨w.goes i H hlt q, Pv (i + 1), fun H' p' => ⟨n - (i + 1), by omega, rfl, hlt, p'⟩, fun x H' y => turn i x H H' hlt p (w.yields i H x H' hlt q y)⟩
  · obtain rfl : i = n := by omega
    exact .inl ⟨w.stops H q, fin H p⟩
theorem list_any {X : Cx} (hc : X.calm = true) : CallR X (.type "list") (fun xs H Q => (∃ p ys, xs = [.ref p] ∧ (SqL X.K H p ys ∨ SqT X.K H p ys) ∧ ∀ l, H l = none → Q (.ref l) (upd H l (.lst ys))) ∨
    (∃ (a : Addr) (kvs : List (Key × V)), xs = [.ref a] ∧ Rd H a (.dK kvs) ∧ ∀ p, H p = none → Q (.ref p) (upd H p (.lst (kvs.map fun kv => kV kv.1))))) := by
  intro pins s σ H xs us Q I r h
  rcases h with h | h
  · exact call_list_of pins s σ H xs us Q I r h
  · exact call_listD hc pins s σ H xs us Q I r h
end OwR
namespace TSet
open PySem
theorem put1_nodup {L : List Str} (h : L.Nodup) (z : Str) : (put1 L z).Nodup := by
  unfold put1
  split
  · exact h
  · rename_i q
    exact List.nodup_cons.mpr ⟨q, h⟩
theorem fold_nodup : ∀ (xs L : List Str), L.Nodup → (xs.foldl put1 L).Nodup
  | [], _, h => h
  | x :: xs, L, h => fold_nodup xs (put1 L x) (put1_nodup h x)
theorem ded_nodup (xs : List Str) : (ded xs).Nodup := fold_nodup xs [] List.nodup_nil
theorem ded_perm {xs : List Str} (h : xs.Nodup) : (ded xs).Perm xs := (List.perm_ext_iff_of_nodup (ded_nodup xs) h).mpr fun y => ded_mem xs y
end TSet
namespace K10
open PySem PySem.Spec PyProof.Rows L2
abbrev sAsc : Stmt := top 11
abbrev sTold : Stmt := top 16
structure Nm3 (mg : Str → Option Value) : Prop where
  n_sorted : mg "sorted" = none
  n_set : mg "set" = none
  n_list : mg "list" = none
theorem Same.of_new {H : Hp} {p : Addr} {o : HO} (h : H p = none) : Same H (upd H p o) := fun b u e => by
  rw [upd_ne (ne_of_none e h)]
  exact e
/-- the texts that a list, or a dict's keys, hold -/
def TextsAt (K : PySem.W.Frag) (H : Hp) (a : Addr) (xs : List Str) : Prop := SqL K H a (xs.map V.str) ∨ SqT K H a (xs.map V.str) ∨ ∃ kvs, Rd H a (.dK kvs) ∧ kvs.map (·.1) = xs.map Sum.inr
def spAsc (K : PySem.W.Frag) : Sp := fun vs H Q _ => ∃ (a : Addr) (xs : List Str), vs = [.ref a] ∧ TextsAt K H a xs ∧ xs.length < 64 ∧
  ∀ (ys : List Str) (p : Addr) (H' : Hp), ys.Perm (TSet.ded xs) → sortedS ys = true → H p = none → Same H H' → H' p = some (.lst (ys.map V.str)) → Q (.ref p) H'
section
variable {P : Program} {w : World} {K : PySem.W.Frag} {mg : Str → Option Value} {base : Heap}
theorem scW : FnScope ["value", "least", "most"] ["value", "least", "most"] (defScope sWithin) := ⟨rfl, rfl, rfl, by decide +kernel, rfl, by decide +kernel, by decide +kernel⟩
theorem ok_within {f : Addr} {fd : FuncData} (F : Fun K "is_within" "is_within" sWithin f fd) (T : Nm2 mg) : FnOk P w K mg base CX0 1 f fd ["value", "least", "most"] spWithin := by
  refine F.ok scW (fun vs H Q E h => ?_) (fun cdv A outer s H vs Q E hr h => ?_)
  · obtain ⟨v, a, b, rfl, _⟩ := h
    rfl
  · obtain ⟨v, a, b, rfl, k⟩ := h
    refine ⟨_, (pss_cons (ps_if (PW.pt (pw_or (pt_not (pt_val (pe_callB call_isi (by rfl) T.n_isinstance (by decide +kernel) (pa_cons (pv 0) (pa_cons (pe_bltn (v := .ty "int") (by rfl) T.n_int (by decide +kernel) rfl) pa_nil))))) (pw_or1 (pt_val (pe_callB call_isi (by rfl) T.n_isinstance (by decide +kernel) (pa_cons (pv 0) (pa_cons (pe_bltn (v := .ty "bool") (by rfl) T.n_bool (by decide +kernel) rfl) pa_nil))))))) (pss_one (ps_ret pe_bl)) pss_nil)
    (pss_one (ps_ret (pe_chain op_le op_le (pv 1) (pv 0) (pv 2))))), ?_⟩
    refine ⟨_, rfl, .int v, .ty "int", _, _, true, rfl, .ty _, .base (.int v), kit_ty (by decide +kernel), true, rfl, ?_⟩
    refine iteF ?_
    refine ⟨_, rfl, .int v, .ty "bool", _, _, false, rfl, .ty _, .base (.int v), kit_ty (by decide +kernel), false, rfl, ?_⟩
    refine iteF ?_
    refine ⟨_, rfl, _, rfl, _, _, rfl, rfl, _, rfl, ?_⟩
    by_cases c : a ≤ v
    · rw [decide_eq_true c] at k ⊢
      refine iteT ?_
      exact ⟨_, rfl, _, _, rfl, rfl, k⟩
    · rw [decide_eq_false c] at k ⊢
      refine iteF ?_
      exact k
theorem scA : FnScope ["things"] ["things"] (defScope sAsc) := ⟨rfl, rfl, rfl, by decide +kernel, rfl, by decide +kernel, by decide +kernel⟩
theorem ok_asc {f : Addr} {fd : FuncData} (F : Fun K "ascending" "ascending" sAsc f fd) (T : Nm3 mg) : FnOk P w K mg base CX0 1 f fd ["things"] (spAsc K) := by
  refine F.ok scA (fun vs H Q E h => ?_) (fun cdv A outer s H vs Q E hr h => ?_)
  · obtain ⟨a, xs, rfl, _⟩ := h
    rfl
  · obtain ⟨a, xs, rfl, ha, hl, k⟩ := h
    refine ⟨_, (pss_one (ps_ret (pe_callB (TSet.cr_sortedTexts rfl) (by rfl) T.n_sorted (by decide +kernel) (pa_cons (pe_callTy (TSet.cr_setS rfl) (by rfl) T.n_set (by decide +kernel) (pa_cons (pe_callTy (OwR.list_any rfl) (by rfl) T.n_list (by decide +kernel) (pa_cons (pv 0) pa_nil)) pa_nil)) pa_nil)))), ?_⟩
    have fin : ∀ l, H l = none → ∀ a2, (upd H l (.lst (xs.map V.str))) a2 = none → ∀ (ys : List Str) (p : Addr), ys.Perm (TSet.ded xs) → sortedS ys = true → (upd (upd H l (.lst (xs.map V.str))) a2 (TSet.TSO w a2 (TSet.ded xs))) p = none →
        Q (.ref p) (upd (upd (upd H l (.lst (xs.map V.str))) a2 (TSet.TSO w a2 (TSet.ded xs))) p (.lst (ys.map V.str))) := fun l h1 a2 h2 ys p pm srt h3 => by
      have s1 := Same.of_new (o := .lst (xs.map V.str)) h1
      have s2 := s1.trans (Same.of_new (o := TSet.TSO w a2 (TSet.ded xs)) h2)
      have s3 := s2.trans (Same.of_new (o := .lst (ys.map V.str)) h3)
      exact k ys p _ pm srt (s2.free h3) s3 upd_same
    have hb : xs.length < scanBound := Nat.lt_trans hl (by decide)
    have hd : (TSet.ded xs).length < 64 := Nat.lt_of_le_of_lt (TSet.ded_len xs) hl
    have rest : ∀ l, H l = none → ∃ (l0 : Addr) (zs : List Str), ([V.ref l] : List V) = [V.ref l0] ∧ SqL K (upd H l (.lst (xs.map V.str))) l0 (zs.map V.str) ∧ zs.length < scanBound ∧
        ∀ a2, (upd H l (.lst (xs.map V.str))) a2 = none → ∃ (a3 : Addr) (L : List Str), ([V.ref a2] : List V) = [V.ref a3] ∧ (upd (upd H l (.lst (xs.map V.str))) a2 (TSet.TSO w a2 (TSet.ded zs))) a3 = some (TSet.TSO w a3 L) ∧ L.length < 64 ∧
          ∀ (ys : List Str) (p : Addr), ys.Perm L → sortedS ys = true → (upd (upd H l (.lst (xs.map V.str))) a2 (TSet.TSO w a2 (TSet.ded zs))) p = none →
            Q (.ref p) (upd (upd (upd H l (.lst (xs.map V.str))) a2 (TSet.TSO w a2 (TSet.ded zs))) p (.lst (ys.map V.str))) := fun l h1 =>
      ⟨l, xs, rfl, SqL.of upd_same, hb, fun a2 h2 => ⟨a2, _, rfl, upd_same, hd, fun ys p pm srt h3 => fin l h1 a2 h2 ys p pm srt h3⟩⟩
    refine ⟨_, rfl, ?_⟩
    rcases ha with h | h | ⟨kvs, h, e⟩
    · exact .inl ⟨a, _, rfl, .inl h, rest⟩
    · exact .inl ⟨a, _, rfl, .inr h, rest⟩
    · refine .inr ⟨a, kvs, rfl, h, ?_⟩
      have ek : (kvs.map fun kv => kV kv.1) = xs.map V.str := by
        have q := congrArg (List.map kV) e
        rw [List.map_map, List.map_map] at q
        exact q
      rw [ek]
      exact rest
end
end K10
end
section
namespace K10
open PySem PySem.Spec PyProof.Rows L2
/-- a table's numbers by its names, and no other key -/
def TabOf (kvs : List (Key × V)) (N : Str → Option Int) : Prop := (∀ z, valV kvs (Sum.inr z) = (N z).map V.int) ∧ ∀ i, valV kvs (Sum.inl i) = none
theorem TabOf.nil : TabOf [] fun _ => none := ⟨fun _ => rfl, fun _ => rfl⟩
theorem TabOf.put {kvs : List (Key × V)} {N : Str → Option Int} (t : TabOf kvs N) (z : Str) (v : Int) : TabOf (putK kvs (Sum.inr z) (.int v)) fun y => if y = z then some v else N y := by
  refine ⟨fun y => ?_, fun i => ?_⟩
  · rw [valV_put, t.1 y]
    by_cases e : y = z
    · dsimp only
      rw [if_pos (congrArg Sum.inr e), if_pos e]
      rfl
    · dsimp only
      rw [if_neg (fun q => e (Sum.inr.inj q)), if_neg e]
  · rw [valV_put, t.2 i, if_neg (fun q => by cases q)]
theorem TabOf.cast {kvs : List (Key × V)} {N M : Str → Option Int} (t : TabOf kvs N) (h : ∀ z, N z = M z) : TabOf kvs M := by
  rw [← funext h]
  exact t
theorem TabOf.get {kvs : List (Key × V)} {N : Str → Option Int} (t : TabOf kvs N) {H : Hp} {a : Addr} (h : Rd H a (.dK kvs)) (z : Str) : DGet H a (.str z) ((N z).map V.int) := .inl ⟨kvs, Sum.inr z, h, rfl, (t.1 z).symm⟩
theorem TabOf.mem {kvs : List (Key × V)} {N : Str → Option Int} (t : TabOf kvs N) {xs : List Str} (e : kvs.map (·.1) = xs.map Sum.inr) (z : Str) : z ∈ xs ↔ (N z).isSome = true := by
  have h1 : (kvs.any fun kv => decide (kv.1 = Sum.inr z)) = (valV kvs (Sum.inr z)).isSome := valV_any _ kvs
  rw [t.1 z, Option.isSome_map] at h1
  rw [← h1, List.any_eq_true]
  refine ⟨fun h => ?_, fun ⟨kv, h, e2⟩ => ?_⟩
  · have h2 : (Sum.inr z : Key) ∈ kvs.map (·.1) := by
      rw [e]
      exact List.mem_map.mpr ⟨z, h, rfl⟩
    obtain ⟨kv, h3, h4⟩ := List.mem_map.mp h2
    exact ⟨kv, h3, decide_eq_true h4⟩
  · have h2 : (Sum.inr z : Key) ∈ kvs.map (·.1) := List.mem_map.mpr ⟨kv, h, of_decide_eq_true e2⟩
    rw [e] at h2
    obtain ⟨y, h3, h4⟩ := List.mem_map.mp h2
    exact Sum.inr.inj h4 ▸ h3
structure Nm4 (mg : Str → Option Value) : Prop where
  n_tuple : mg "tuple" = none
end K10
end
section
namespace OwR
open PySem PySem.Spec PyProof.Rows L2
section
variable {X : Cx} {CX : CXT} {k : Nat} {f C : Addr} {sp : Sp} {E : XK} {x : Str} {p pos : Pos}
/-- C(), __init__ by a positional promise -/
theorem pe_makeR0 (M : Mk X.K C f) (F : FnR X.prog X.w X.K X.mg X.base CX k f sp) (hr : Room (k + 1) X.A) (hg : Gl X x) (hm : X.mg x = some (.ref C)) (hx : Passes CX X E) (hdb : (x == ("__debug__" : Str)) = false := by decide) :
    PE X (.Call (.Name x p) [] [] pos) (StX.tMakeR C sp E tNil) := by
  refine ⟨fun pins s σ H Q I h => ?_⟩
  refine wpAny_Call_Name_kw (ld_glob I hg hm ?_ hdb)
  exact PySem.W.callWith_K0 I.kIn M.kp (StX.run_makeR (us := []) M F hr hx I .nil h)
end
end OwR
namespace K10
open PySem PySem.Spec PyProof.Rows L2
/-- the j-th statement of the class that is the c-th of the text -/
def mth (c j : Nat) : Stmt := match top c with
  | .ClassDef _ _ _ body _ _ _ _ _ _ _ => body.getD j (.Pass ⟨0, 0, 0, 0⟩)
  | _ => .Pass ⟨0, 0, 0, 0⟩
theorem But.rd {p : Addr} {H H' : Hp} (s : But p H H') {a : Addr} {o : HO} (n : a ≠ p) (h : Rd H a o) : Rd H' a o := h.elim (fun e => .inl (s a _ n e)) fun ⟨q, e⟩ => .inr ⟨q, s a _ n e⟩
theorem Same.but {H H' : Hp} (p : Addr) (s : Same H H') : But p H H' := fun b o _ e => s b o e
theorem Same.rd {H H' : Hp} (s : Same H H') {a : Addr} {o : HO} (h : Rd H a o) : Rd H' a o := h.elim (fun e => .inl (s a _ e)) fun ⟨q, e⟩ => .inr ⟨q, s a _ e⟩
theorem made_same {H H' : Hp} {x dx : Addr} {o o' : HO} (hx : H x = none) (hd : H dx = none) (s : But x (upd (upd H dx o) x o') H') : Same H H' := fun b u e => by
  refine s b u (ne_of_none e hx) ?_
  rw [upd_ne (ne_of_none e hx), upd_ne (ne_of_none e hd)]
  exact e
structure Chk (P : Program) (w : World) (K : PySem.W.Frag) (mg : Str → Option Value) (base : Heap) : Prop where
  nm : ∃ f fd, mg "is_name" = some (.ref f) ∧ Fun K "is_name" "is_name" sName f fd
  wi : ∃ f fd, mg "is_within" = some (.ref f) ∧ Fun K "is_within" "is_within" sWithin f fd
  as : ∃ f fd, mg "ascending" = some (.ref f) ∧ Fun K "ascending" "ascending" sAsc f fd
  T : Nm2 mg
  T3 : Nm3 mg
  T4 : Nm4 mg
section
variable {P : Program} {w : World} {K : PySem.W.Frag} {mg : Str → Option Value} {base : Heap}
theorem Chk.name (c : Chk P w K mg base) : ∃ f fd, mg "is_name" = some (.ref f) ∧ PySem.W.keepIn K (.ref f) = true ∧ Binds K fd ["value"] [] ∧ FnOk P w K mg base CX0 1 f fd ["value"] spName := by
  obtain ⟨f, fd, g, F⟩ := c.nm
  exact ⟨f, fd, g, F.kp, F.binds fun _ _ _ _ _ _ us hl => match us, hl with | [_], _ => rfl, ok_name F c.T⟩
theorem Chk.within (c : Chk P w K mg base) : ∃ f fd, mg "is_within" = some (.ref f) ∧ PySem.W.keepIn K (.ref f) = true ∧ Binds K fd ["value", "least", "most"] [] ∧ FnOk P w K mg base CX0 1 f fd ["value", "least", "most"] spWithin := by
  obtain ⟨f, fd, g, F⟩ := c.wi
  exact ⟨f, fd, g, F.kp, F.binds fun _ _ _ _ _ _ us hl => match us, hl with | [_, _, _], _ => rfl, ok_within F c.T⟩
theorem Chk.asc (c : Chk P w K mg base) : ∃ f fd, mg "ascending" = some (.ref f) ∧ PySem.W.keepIn K (.ref f) = true ∧ Binds K fd ["things"] [] ∧ FnOk P w K mg base CX0 1 f fd ["things"] (spAsc K) := by
  obtain ⟨f, fd, g, F⟩ := c.as
  exact ⟨f, fd, g, F.kp, F.binds fun _ _ _ _ _ _ us hl => match us, hl with | [_], _ => rfl, ok_asc F c.T3⟩
end
end K10
end
section
namespace K10
open PySem
abbrev Pk := Str × Int
/-- the bay of the first pick that is open at f -/
def choose (f : Str → Int) : List Pk → Option Str
  | [] => none
  | p :: r => if p.2 < f p.1 then some p.1 else choose f r
def setM (m : Str → Option Int) (b : Str) (k : Int) : Str → Option Int := fun y => if y = b then some k else m y
/-- is it kept behind what was passed? -/
def keeps (m : Str → Option Int) (p : Pk) : Bool := match m p.1 with
  | none => true
  | some k => decide (p.2 < k)
def mAfter (m : Str → Option Int) (p : Pk) : Str → Option Int := if keeps m p = true then setM m p.1 p.2 else m
def kept (m : Str → Option Int) : List Pk → List Pk
  | [] => []
  | p :: r => if keeps m p = true then p :: kept (setM m p.1 p.2) r else kept m r
def mEnd (m : Str → Option Int) : List Pk → (Str → Option Int)
  | [] => m
  | p :: r => mEnd (mAfter m p) r
theorem kept_app (x : Pk) : ∀ (l : List Pk) (m : Str → Option Int), kept m (l ++ [x]) = kept m l ++ (if keeps (mEnd m l) x = true then [x] else [])
  | [], m => by
    show (if keeps m x = true then x :: kept (setM m x.1 x.2) [] else kept m []) = [] ++ (if keeps m x = true then [x] else [])
    split <;> rfl
  | p :: r, m => by
    show (if keeps m p = true then p :: kept (setM m p.1 p.2) (r ++ [x]) else kept m (r ++ [x])) = (if keeps m p = true then p :: kept (setM m p.1 p.2) r else kept m r) ++ (if keeps (mEnd (mAfter m p) r) x = true then [x] else [])
    by_cases h : keeps m p = true
    · rw [if_pos h, if_pos h, kept_app x r, List.cons_append]
      unfold mAfter
      rw [if_pos h]
    · rw [if_neg h, if_neg h, kept_app x r]
      unfold mAfter
      rw [if_neg h]
theorem mEnd_app (x : Pk) : ∀ (l : List Pk) (m : Str → Option Int), mEnd m (l ++ [x]) = mAfter (mEnd m l) x
  | [], _ => rfl
  | p :: r, m => mEnd_app x r (mAfter m p)
theorem kept_len : ∀ (l : List Pk) (m : Str → Option Int), (kept m l).length ≤ l.length
  | [], _ => Nat.le_refl 0
  | p :: r, m => by
    show (if keeps m p = true then p :: kept (setM m p.1 p.2) r else kept m r).length ≤ r.length + 1
    split
    · exact Nat.succ_le_succ (kept_len r _)
    · exact Nat.le_succ_of_le (kept_len r _)
theorem kept_below : ∀ (l : List Pk) (m : Str → Option Int) (p : Pk), p ∈ kept m l → ∀ k, m p.1 = some k → p.2 < k
  | [], _, p, h, _, _ => by cases h
  | q :: r, m, p, h, k, e => by
    have h' : p ∈ (if keeps m q = true then q :: kept (setM m q.1 q.2) r else kept m r) := h
    by_cases c : keeps m q = true
    · rw [if_pos c] at h'
      have c2 := c
      unfold keeps at c2
      rcases List.mem_cons.mp h' with rfl | h2
      · rw [e] at c2
        exact of_decide_eq_true c2
      · by_cases e2 : p.1 = q.1
        · have h3 := kept_below r _ p h2 q.2 (by unfold setM; rw [if_pos e2])
          rw [← e2, e] at c2
          have h4 : q.2 < k := of_decide_eq_true c2
          omega
        · exact kept_below r _ p h2 k (by unfold setM; rw [if_neg e2]; exact e)
    · rw [if_neg c] at h'
      exact kept_below r _ p h' k e
/-- neighbours of one bay have falling keeps -/
def Falls : List Pk → Prop
  | [] => True
  | [_] => True
  | p :: q :: r => (p.1 = q.1 → q.2 < p.2) ∧ Falls (q :: r)
theorem falls_kept : ∀ (l : List Pk) (m : Str → Option Int), Falls (kept m l)
  | [], _ => True.intro
  | p :: r, m => by
    show Falls (if keeps m p = true then p :: kept (setM m p.1 p.2) r else kept m r)
    split
    · have ih := falls_kept r (setM m p.1 p.2)
      have hb := kept_below r (setM m p.1 p.2)
      cases h : kept (setM m p.1 p.2) r with
      | nil => exact True.intro
      | cons q t =>
        rw [h] at ih hb
        exact ⟨fun e => hb q List.mem_cons_self p.2 (by unfold setM; rw [if_pos e.symm]), ih⟩
    · exact falls_kept r m
theorem choose_kept (f : Str → Int) : ∀ (l : List Pk) (m : Str → Option Int), (∀ b k, m b = some k → f b ≤ k) → choose f (kept m l) = choose f l
  | [], _, _ => rfl
  | p :: r, m, h => by
    show choose f (if keeps m p = true then p :: kept (setM m p.1 p.2) r else kept m r) = (if p.2 < f p.1 then some p.1 else choose f r)
    by_cases c : keeps m p = true
    · rw [if_pos c]
      show (if p.2 < f p.1 then some p.1 else choose f (kept (setM m p.1 p.2) r)) = _
      by_cases o : p.2 < f p.1
      · rw [if_pos o, if_pos o]
      · rw [if_neg o, if_neg o]
        refine choose_kept f r _ fun b k e => ?_
        unfold setM at e
        by_cases e2 : b = p.1
        · rw [if_pos e2] at e
          cases e
          rw [e2]
          omega
        · rw [if_neg e2] at e
          exact h b k e
    · rw [if_neg c, choose_kept f r m h, if_neg]
      intro o
      unfold keeps at c
      cases e : m p.1 with
      | none => rw [e] at c; exact c rfl
      | some k =>
        rw [e] at c
        have h1 := h _ _ e
        exact c (decide_eq_true (by omega))
/-- without those behind which the same bay stands -/
def step2 : List Pk → List Pk
  | [] => []
  | [p] => [p]
  | p :: q :: r => if p.1 = q.1 then step2 (q :: r) else p :: step2 (q :: r)
theorem choose_step2 (f : Str → Int) : ∀ l : List Pk, Falls l → choose f (step2 l) = choose f l
  | [], _ => rfl
  | [_], _ => rfl
  | p :: q :: r, h => by
    show choose f (if p.1 = q.1 then step2 (q :: r) else p :: step2 (q :: r)) = (if p.2 < f p.1 then some p.1 else choose f (q :: r))
    have ih := choose_step2 f (q :: r) h.2
    by_cases e : p.1 = q.1
    · rw [if_pos e, ih]
      by_cases o : p.2 < f p.1
      · rw [if_pos o]
        show (if q.2 < f q.1 then some q.1 else choose f r) = some p.1
        have := h.1 e
        rw [if_pos (by rw [← e]; omega), e]
      · rw [if_neg o]
    · rw [if_neg e]
      show (if p.2 < f p.1 then some p.1 else choose f (step2 (q :: r))) = _
      rw [ih]
def oneForm (l : List Pk) : List Pk := step2 (kept (fun _ => none) l)
theorem choose_form (f : Str → Int) (l : List Pk) : choose f (oneForm l) = choose f l :=
  (choose_step2 f _ (falls_kept l _)).trans (choose_kept f l _ fun _ _ e => by cases e)
theorem step2_len : ∀ l : List Pk, (step2 l).length ≤ l.length
  | [] => Nat.le_refl 0
  | [_] => Nat.le_refl 1
  | p :: q :: r => by
    have ih := step2_len (q :: r)
    show (if p.1 = q.1 then step2 (q :: r) else p :: step2 (q :: r)).length ≤ (q :: r).length + 1
    split
    · omega
    · exact Nat.succ_le_succ ih
theorem form_len (l : List Pk) : (oneForm l).length ≤ l.length := Nat.le_trans (step2_len _) (kept_len l _)
/-- the filter by the bays behind -/
def behind (l : List Pk) : List (Option Str) := (l.drop 1).map (fun p => some p.1) ++ [none]
theorem step2_zip : ∀ l : List Pk, step2 l = ((l.zip (behind l)).filter fun e => decide (some e.1.1 ≠ e.2)).map (·.1)
  | [] => rfl
  | [p] => by
    show [p] = (([(p, none)] : List (Pk × Option Str)).filter _).map _
    rfl
  | p :: q :: r => by
    have ih := step2_zip (q :: r)
    have e1 : (p :: q :: r).zip (behind (p :: q :: r)) = (p, some q.1) :: (q :: r).zip (behind (q :: r)) := rfl
    rw [e1, List.filter_cons]
    show (if p.1 = q.1 then step2 (q :: r) else p :: step2 (q :: r)) = _
    by_cases e : p.1 = q.1
    · rw [if_pos e, ih, if_neg (by simp [e])]
    · rw [if_neg e, ih, if_pos (by simp [e]), List.map_cons]
end K10
end
section
namespace K10
open PySem PySem.Spec PyProof.Rows L2
abbrev sIsPick : Stmt := top 21
abbrev sForm : Stmt := top 22
def TupAt (H : Hp) (k : Addr) (p : Pk) : Prop := H k = some (.tup [.str p.1, .int p.2])
/-- picks as tuples of a text and a number -/
structure PicksAt (H : Hp) (ks : List Addr) (ps : List Pk) : Prop where
  len : ks.length = ps.length
  at_ : ∀ (i : Nat) (k : Addr) (p : Pk), ks[i]? = some k → ps[i]? = some p → TupAt H k p
theorem PicksAt.nil {H : Hp} : PicksAt H [] [] := ⟨rfl, fun i k p h => by cases h⟩
theorem PicksAt.get {H : Hp} {ks : List Addr} {ps : List Pk} (h : PicksAt H ks ps) {i : Nat} {v : V} (e : (ks.map V.ref)[i]? = some v) : ∃ k p, v = .ref k ∧ ks[i]? = some k ∧ ps[i]? = some p ∧ TupAt H k p := by
  rw [List.getElem?_map] at e
  obtain ⟨k, hk, rfl⟩ := Option.map_eq_some_iff.mp e
  have hi : i < ps.length := by
    rw [← h.len]
    exact (List.getElem?_eq_some_iff.mp hk).1
  exact ⟨k, ps[i], rfl, hk, List.getElem?_eq_getElem hi, h.at_ i k _ hk (List.getElem?_eq_getElem hi)⟩
theorem PicksAt.mono {H H' : Hp} {ks : List Addr} {ps : List Pk} (h : PicksAt H ks ps) (s : ∀ k xs, H k = some (.tup xs) → H' k = some (.tup xs)) : PicksAt H' ks ps := ⟨h.len, fun i k p e1 e2 => s _ _ (h.at_ i k p e1 e2)⟩
theorem PicksAt.same {H H' : Hp} {ks : List Addr} {ps : List Pk} (h : PicksAt H ks ps) (s : Same H H') : PicksAt H' ks ps := h.mono fun k xs e => s k _ e
theorem PicksAt.upd {H : Hp} {ks : List Addr} {ps : List Pk} (h : PicksAt H ks ps) {D : Addr} {o : HO} (n : ∀ xs, H D ≠ some (.tup xs)) : PicksAt (upd H D o) ks ps := h.mono fun k xs e => by
  have : k ≠ D := fun z => n xs (z ▸ e)
  rw [upd_ne this]
  exact e
theorem PicksAt.snoc {H : Hp} {ks : List Addr} {ps : List Pk} (h : PicksAt H ks ps) {k : Addr} {p : Pk} (e : TupAt H k p) : PicksAt H (ks ++ [k]) (ps ++ [p]) := by
  refine ⟨by rw [List.length_append, List.length_append, h.len]; rfl, fun i k' p' e1 e2 => ?_⟩
  rcases Nat.lt_trichotomy i ks.length with c | c | c
  · rw [List.getElem?_append_left c] at e1
    rw [List.getElem?_append_left (by rw [← h.len]; exact c)] at e2
    exact h.at_ i k' p' e1 e2
  · subst c
    rw [List.getElem?_append_right (Nat.le_refl _), Nat.sub_self] at e1
    rw [h.len, List.getElem?_append_right (Nat.le_refl _), Nat.sub_self] at e2
    cases e1
    cases e2
    exact e
  · rw [List.getElem?_eq_none (by rw [List.length_append]; simp; omega)] at e1
    cases e1
theorem upd_keep {H : Hp} {D b : Addr} {o u w : HO} (hD : H D = some w) (h : H b = some u) (n : u ≠ w) : upd H D o b = some u := by
  have : b ≠ D := fun z => by
    rw [z, hD] at h
    exact n (Option.some.inj h).symm
  rw [upd_ne this]
  exact h
theorem upd_keep2 {H : Hp} {D b : Addr} {o u : HO} (h : H b = some u) (hD : H D = none) : upd H D o b = some u := by
  rw [upd_ne (ne_of_none h hD)]
  exact h
theorem free_of {H : Hp} {D b : Addr} {o : HO} (h : upd H D o b = none) : H b = none := by
  unfold upd at h
  split at h
  · cases h
  · exact h
theorem SqL.mono {K : PySem.W.Frag} {H H' : Hp} {a : Addr} {xs : List V} (h : SqL K H a xs) (s : Same H H') : SqL K H' a xs := h.elim (fun r => .inl (Same.rd s r)) .inr
theorem PicksAt.drop {H : Hp} {ks : List Addr} {ps : List Pk} (h : PicksAt H ks ps) : PicksAt H (ks.drop 1) (ps.drop 1) := by
  refine ⟨by rw [List.length_drop, List.length_drop, h.len], fun i k p e1 e2 => ?_⟩
  rw [List.getElem?_drop] at e1 e2
  exact h.at_ _ k p e1 e2
theorem cut_one (kk : List Addr) : cutV (kk.map V.ref) (some 1) none = (kk.drop 1).map V.ref := by
  have e : (some 1 : Option Int) = some ((1 : Nat) : Int) := rfl
  unfold cutV
  rw [HT.sIx_none, e, HT.sIx_nat]
  cases kk with
  | nil => rfl
  | cons x r =>
    have e2 : min 1 ((x :: r).map V.ref).length = 1 := by
      rw [List.length_map]
      show min 1 (r.length + 1) = 1
      omega
    rw [e2]
    show ((r.map V.ref).take (((x :: r).map V.ref).length - 1)) = r.map V.ref
    exact List.take_of_length_le (by rw [List.length_map, List.length_map]; show r.length ≤ r.length + 1 - 1; omega)
def optV : Option Str → V
  | none => .non
  | some z => .str z
theorem behind_vals (kp : List Pk) : ((kp.drop 1).map fun p => V.str p.1) ++ [V.non] = (behind kp).map optV := by
  unfold behind
  rw [List.map_append, List.map_map]
  rfl
/-- a pick as it is passed: a tuple, or a name alone for a keep of 0 -/
def ValAt (H : Hp) (x : V) (p : Pk) : Prop := (∃ k, x = .ref k ∧ TupAt H k p) ∨ (x = .str p.1 ∧ p.2 = 0)
theorem ValAt.same {H H' : Hp} {x : V} {p : Pk} (h : ValAt H x p) (s : Same H H') : ValAt H' x p := h.elim (fun ⟨k, e, t⟩ => .inl ⟨k, e, s _ _ t⟩) .inr
structure ValsAt (H : Hp) (xs : List V) (ps : List Pk) : Prop where
  len : xs.length = ps.length
  at_ : ∀ (i : Nat) (x : V) (p : Pk), xs[i]? = some x → ps[i]? = some p → ValAt H x p
theorem ValsAt.same {H H' : Hp} {xs : List V} {ps : List Pk} (h : ValsAt H xs ps) (s : Same H H') : ValsAt H' xs ps := ⟨h.len, fun i x p e1 e2 => (h.at_ i x p e1 e2).same s⟩
theorem ValsAt.get {H : Hp} {xs : List V} {ps : List Pk} (h : ValsAt H xs ps) {i : Nat} {x : V} (e : xs[i]? = some x) : ∃ p, ps[i]? = some p ∧ ValAt H x p := by
  have hi : i < ps.length := by
    rw [← h.len]
    exact (List.getElem?_eq_some_iff.mp e).1
  exact ⟨ps[i], List.getElem?_eq_getElem hi, h.at_ i x _ e (List.getElem?_eq_getElem hi)⟩
theorem PicksAt.vals {H : Hp} {ks : List Addr} {ps : List Pk} (h : PicksAt H ks ps) : ValsAt H (ks.map V.ref) ps := by
  refine ⟨by rw [List.length_map, h.len], fun i x p e1 e2 => ?_⟩
  rw [List.getElem?_map] at e1
  obtain ⟨k, hk, rfl⟩ := Option.map_eq_some_iff.mp e1
  exact .inl ⟨k, rfl, h.at_ i k p hk e2⟩
def spIsPick : Sp := fun vs H Q _ => ∃ (x : V) (p : Pk), vs = [x] ∧ ValAt H x p ∧ nameB p.1 = true ∧ p.1.length ≤ 1000 ∧ 0 ≤ p.2 ∧ p.2 ≤ 9 ∧ ∀ H', Same H H' → Q (.bl true) H'
def spForm (K : PySem.W.Frag) : Sp := fun vs H Q _ => ∃ (a : Addr) (ks : List Addr) (ps : List Pk), vs = [.ref a] ∧ SqL K H a (ks.map V.ref) ∧ PicksAt H ks ps ∧ ps.length ≤ 20 ∧
  ∀ (p : Addr) (H' : Hp) (ks' : List Addr), H p = none → Same H H' → H' p = some (.tup (ks'.map V.ref)) → PicksAt H' ks' (oneForm ps) → Q (.ref p) H'
section
variable {P : Program} {w : World} {K : PySem.W.Frag} {mg : Str → Option Value} {base : Heap}
abbrev nIP : List Str := ["value"]
theorem scIP : FnScope nIP ["value"] (defScope sIsPick) := ⟨rfl, rfl, rfl, by decide +kernel, rfl, by decide +kernel, by decide +kernel⟩
theorem ok_IsPick {f : Addr} {fd : FuncData} (F : Fun K "is_pick" "is_pick" sIsPick f fd) (c : Chk P w K mg base) : FnOk P w K mg base CX0 2 f fd ["value"] spIsPick := by
  obtain ⟨fM, fdM, gM, kM, bM, GM⟩ := c.name
  obtain ⟨fI, fdI, gI, kI, bI, GI⟩ := c.within
  refine F.ok scIP (fun vs H Q E h => ?_) (fun cdv A outer s H vs Q E hr h => ?_)
  · obtain ⟨k, p, rfl, _⟩ := h
    rfl
  · obtain ⟨k, p, rfl, hk, hn, hl, h0, h9, q⟩ := h
    have hr0 : Room 1 _ := hr.mono (by decide)
    refine ⟨_, (pss_cons (ps_if (PW.pt (pw_and (pt_val (pe_callB call_isi (by rfl) c.T.n_isinstance (by decide +kernel) (pa_cons (pv 0) (pa_cons (pe_bltn (v := .ty "tuple") (by rfl) c.T4.n_tuple (by decide +kernel) rfl) pa_nil)))) (pw_and1 (pt_cmpR op_eq (pe_callB call_len_seq (by rfl) c.T.n_len boot_len (pa_cons (pv 0) pa_nil)) pe_int (nomark _))))) (pss_one (ps_ret (pe_and (pe_call GM hr0 (by rfl) gM kM bM .nil pass0 (pa_cons (pe_ix ix_tup (pv 0) pe_int (fun _ _ => rfl)) pa_nil)) (pe_one (pe_call GI hr0 (by rfl) gI kI bI .nil pass0 (pa_cons (pe_ix ix_tup (pv 0) pe_int (fun _ _ => rfl)) (pa_cons pe_int (pa_cons pe_int pa_nil)))))))) pss_nil)
    (pss_one (ps_ret (pe_call GM hr0 (by rfl) gM kM bM .nil pass0 (pa_cons (pv 0) pa_nil))))), ?_⟩
    rcases hk with ⟨k, rfl, hk⟩ | ⟨rfl, _⟩
    · refine ⟨_, rfl, .ref k, .ty "tuple", _, _, true, rfl, .ty _, .base (.tup hk), kit_ty (by decide +kernel), true, rfl, ?_⟩
      refine iteT ?_
      refine ⟨_, rfl, k, _, rfl, .inr (.inl (.inl hk)), ?_⟩
      refine ⟨rfl, _, rfl, ?_⟩
      refine iteT ?_
      have st : SqT K H k [.str p.1, .int p.2] := .inl (.inl hk)
      refine ⟨_, rfl, k, _, 0, _, rfl, rfl, st, rfl, p.1, rfl, hl, fun H1 s1 => ?_⟩
      rw [hn]
      refine ⟨_, rfl, ?_⟩
      refine iteT ?_
      refine ⟨_, rfl, k, _, 1, _, rfl, rfl, .inl (.inl (s1 k _ hk)), rfl, p.2, 0, 9, rfl, ?_⟩
      rw [decide_eq_true h0, decide_eq_true h9]
      exact q H1 s1
    · refine ⟨_, rfl, .str p.1, .ty "tuple", _, _, false, rfl, .ty _, .base (.str _), kit_ty (by decide +kernel), false, rfl, ?_⟩
      refine iteF ?_
      refine ⟨_, rfl, p.1, rfl, hl, fun H1 s1 => ?_⟩
      rw [hn]
      exact q H1 s1
abbrev nFo : List Str := ["picks", "least", "kept", "bay", "keep", "behind", "pick"]
theorem scFo : FnScope nFo ["picks"] (defScope sForm) := ⟨rfl, rfl, rfl, by decide +kernel, rfl, by decide +kernel, by decide +kernel⟩
theorem ok_form {f : Addr} {fd : FuncData} (F : Fun K "one_form" "one_form" sForm f fd) (c : Chk P w K mg base) (n_zip : mg "zip" = none) : FnOk P w K mg base CX0 1 f fd ["picks"] (spForm K) := by
  refine F.ok scFo (fun vs H Q E h => ?_) (fun cdv A outer s H vs Q E hr h => ?_)
  · obtain ⟨a, ks, ps, rfl, _⟩ := h
    rfl
  · obtain ⟨a, ks, ps, rfl, ha, hp, hl, q⟩ := h
    have hu64 : (A.deeper (envOfC "one_form" (defScope sForm) s.heap.objs.size f cdv)).units + 64 < cLine := hr.units
    have hu : (A.deeper (envOfC "one_form" (defScope sForm) s.heap.objs.size f cdv)).units + 1 < cLine := by omega
    refine ⟨_, (pss_cons (ps_set (i := 1) scFo.nd rfl (Or.inl rfl) pe_dnewK)
    (pss_cons (ps_set (i := 2) scFo.nd rfl (Or.inl rfl) (pe_lst pa_nil))
    (pss_cons (ps_for PassesOwn.never rfl (pi_list (pv 0)) (pg_tup rfl (pgs_cons (pg_name (i := 3) scFo.nd rfl (Or.inl rfl)) (pgs_cons (pg_name (i := 4) scFo.nd rfl (Or.inl rfl)) pgs_nil))) (pss_one (ps_if (PW.pt (pw_or (pt_cmp (pc_dnotin hu (pv 3) (pv 1))) (pw_or1 (pt_cmpR op_lt (pv 4) (pe_dget hu (pv 1) (pv 3) (fun _ _ => rfl)) (nomark _))))) (pss_cons (ps_dput hu (pv 1) (pv 3) (pv 4) rfl)
    (pss_one (ps_expr (pe_bm PySem.F.plainAttrs_list PySem.F.slot_list_append PySem.F.type_list_append mt_append (pv 2) (pa_cons (pe_tup (pa_cons (pv 3) (pa_cons (pv 4) pa_nil))) pa_nil))))) pss_nil)))
    (pss_cons (ps_set (i := 5) scFo.nd rfl (Or.inl rfl) (pe_op op_cat (pe_lc (own := [("bay", 3), ("keep", 4)]) (g := (gTup K 2 (gCons (gName 3) (gCons (gName 4) gNil)))) (by rfl) scFo.nd (pi_list (pe_slice sl_list (pv 2) (po_some pe_int) po_none)) (blkOk_by (own := [("bay", 3), ("keep", 4)]) (N := nFo) (sc := defScope sForm) (by decide +kernel)) (fun _ _ _ _ _ => (pg_tup rfl (pgs_cons (pg_name (i := 3) scFo.nd rfl (Or.inl rfl)) (pgs_cons (pg_name (i := 4) scFo.nd rfl (Or.inl rfl)) pgs_nil)))) (fun _ _ _ _ _ => pts_nil) (fun _ _ _ _ _ => (pv 3))) (pe_lst (pa_cons pe_non pa_nil))))
    (pss_one (ps_ret (pe_callTy call_tuple_of (by rfl) c.T4.n_tuple (by decide +kernel) (pa_cons (pe_lc (own := [("pick", 6), ("bay", 3)]) (g := (gTup K 2 (gCons (gName 6) (gCons (gName 3) gNil)))) (by rfl) scFo.nd (pi_zip (by rfl) n_zip (pa_cons (pv 2) (pa_cons (pv 5) pa_nil))) (blkOk_by (own := [("pick", 6), ("bay", 3)]) (N := nFo) (sc := defScope sForm) (by decide +kernel)) (fun _ _ _ _ _ => (pg_tup rfl (pgs_cons (pg_name (i := 6) scFo.nd rfl (Or.inl rfl)) (pgs_cons (pg_name (i := 3) scFo.nd rfl (Or.inl rfl)) pgs_nil)))) (fun _ _ _ _ _ => pts_one (pt_cmpR op_ne (pe_ix (r := rIxT K) ix_tup (pv 6) pe_int (fun _ _ => rfl)) (pv 3) (nomark _))) (fun _ _ _ _ _ => (pv 6))) pa_nil)))))))), ?_⟩
    refine fun D hD => ⟨Nat.zero_le _, fun L hL => ?_⟩
    have sb : Same H (upd (upd H D (.dK [])) L (.lst [])) := (Same.of_new hD).trans (Same.of_new hL)
    refine ⟨_, rfl, a, rfl, ⟨_, SqL.mono ha sb⟩, ?_⟩
    refine for_it (walk_list (xs := ks.map V.ref)) (fun i σ H' => Same H H' ∧ (∃ x3 x4, σ = [some (.ref a), some (.ref D), some (.ref L), x3, x4, none, none]) ∧ ∃ (lk : List (Key × V)) (kk : List Addr), H' D = some (.dK lk) ∧ lk.length ≤ i ∧ TabOf lk (mEnd (fun _ => none) (ps.take i)) ∧ H' L = some (.lst (kk.map V.ref)) ∧ kk.length ≤ i ∧ PicksAt H' kk (kept (fun _ => none) (ps.take i)))
      ⟨sb, ⟨none, none, rfl⟩, [], [], by rw [upd_ne (ne_of_none upd_same hL)]; exact upd_same, Nat.le_refl 0, TabOf.nil, upd_same, Nat.le_refl 0, PicksAt.nil⟩ (fun i σ H' _ q => SqL.mono ha q.1) (fun i x σ H' H2 hi q0 y => ?_) (fun σ H' q0 => ?_)
    · obtain ⟨s1, ⟨x3, x4, rfl⟩, lk, kk, eD, ll, tb, eL, kl, pk⟩ := q0
      obtain ⟨rfl, hx⟩ := y
      obtain ⟨k, p, rfl, hk, hpi, tk⟩ := (hp.same s1).get hx
      have hi2 : i < ps.length := (List.getElem?_eq_some_iff.mp hpi).1
      have etake : ps.take (i + 1) = ps.take i ++ [p] := by
        rw [List.take_add_one, hpi]
        rfl
      refine ⟨k, _, rfl, .inl (.inl tk), rfl, _, _, rfl, _, _, rfl, rfl, ?_⟩
      refine ⟨_, rfl, _, rfl, D, _, rfl, tb.get (.inl eD) p.1, _, rfl, ?_⟩
      cases em : mEnd (fun _ => none) (ps.take i) p.1 with
      | none =>
        have ck : keeps (mEnd (fun _ => none) (ps.take i)) p = true := by
          unfold keeps
          rw [em]
        refine iteT ?_
        refine iteT ?_
        refine ⟨_, rfl, _, rfl, _, rfl, D, _, rfl, DPut.k (k := Sum.inr p.1) eD (by have := sizeLine_eq; omega), ?_⟩
        have nLD : L ≠ D := fun z => by
          rw [z, eD] at eL
          cases eL
        have eL2 : upd H2 D (.dK (putK lk (Sum.inr p.1) (.int p.2))) L = some (.lst (kk.map V.ref)) := by
          rw [upd_ne nLD]
          exact eL
        refine ⟨_, rfl, .inl ⟨rfl, _, SqL.of eL2⟩, ?_⟩
        refine ⟨_, rfl, _, rfl, by show (2:Nat) ≤ sizeLine; have := sizeLine_eq; omega, fun T hT => ?_⟩
        refine ⟨L, _, _, rfl, rfl, upd_keep2 eL2 hT, by rw [List.length_map]; have := sizeLine_eq; omega, ?_⟩
        have nDT : D ≠ T := fun z => by
          rw [← z, upd_same] at hT
          cases hT
        have nLT : L ≠ T := ne_of_none eL2 hT
        refine ⟨fun b o e => ?_, ⟨_, _, rfl⟩, putK lk (Sum.inr p.1) (.int p.2), kk ++ [T], ?_, ?_, ?_, ?_, ?_, ?_⟩
        · have n1 : b ≠ D := ne_of_none e hD
          have n2 : b ≠ L := ne_of_none e (free_of hL)
          have e3 : upd H2 D (.dK (putK lk (Sum.inr p.1) (.int p.2))) b = some o := by
            rw [upd_ne n1]
            exact s1 b o e
          rw [upd_ne n2, upd_ne (ne_of_none e3 hT)]
          exact e3
        · rw [upd_ne (Ne.symm nLD), upd_ne nDT]
          exact upd_same
        · have := length_putK lk (Sum.inr p.1) (.int p.2)
          omega
        · rw [etake, mEnd_app]
          unfold mAfter
          rw [if_pos ck]
          exact (tb.put p.1 p.2).cast fun y => rfl
        · rw [List.map_append]
          exact upd_same
        · rw [List.length_append]
          show kk.length + 1 ≤ i + 1
          omega
        · rw [etake, kept_app, if_pos ck]
          refine PicksAt.snoc ?_ ?_
          · have pk1 : PicksAt (upd H2 D (.dK (putK lk (Sum.inr p.1) (.int p.2)))) kk (kept (fun _ => none) (ps.take i)) := pk.upd fun xs e => by
              rw [eD] at e
              cases e
            have pk2 : PicksAt (upd (upd H2 D (.dK (putK lk (Sum.inr p.1) (.int p.2)))) T (.tup [.str p.1, .int p.2])) kk (kept (fun _ => none) (ps.take i)) := pk1.mono fun k xs e => upd_keep2 e hT
            exact pk2.upd fun xs e => by
              rw [upd_ne nLT, eL2] at e
              cases e
          · show upd _ _ _ _ = _
            rw [upd_ne (Ne.symm nLT)]
            exact upd_same
      | some k0 =>
        refine iteF ?_
        have g := tb.get (.inl eD) p.1
        rw [em] at g
        refine ⟨_, rfl, _, rfl, _, rfl, D, .int k0, rfl, g, p.2, k0, rfl, rfl, _, rfl, ?_⟩
        by_cases c : p.2 < k0
        · have ck : keeps (mEnd (fun _ => none) (ps.take i)) p = true := by
            unfold keeps
            rw [em]
            exact decide_eq_true c
          rw [decide_eq_true c]
          refine iteT ?_
          refine ⟨_, rfl, _, rfl, _, rfl, D, _, rfl, DPut.k (k := Sum.inr p.1) eD (by have := sizeLine_eq; omega), ?_⟩
          have nLD : L ≠ D := fun z => by
            rw [z, eD] at eL
            cases eL
          have eL2 : upd H2 D (.dK (putK lk (Sum.inr p.1) (.int p.2))) L = some (.lst (kk.map V.ref)) := by
            rw [upd_ne nLD]
            exact eL
          refine ⟨_, rfl, .inl ⟨rfl, _, SqL.of eL2⟩, ?_⟩
          refine ⟨_, rfl, _, rfl, by show (2:Nat) ≤ sizeLine; have := sizeLine_eq; omega, fun T hT => ?_⟩
          refine ⟨L, _, _, rfl, rfl, upd_keep2 eL2 hT, by rw [List.length_map]; have := sizeLine_eq; omega, ?_⟩
          have nDT : D ≠ T := fun z => by
            rw [← z, upd_same] at hT
            cases hT
          have nLT : L ≠ T := ne_of_none eL2 hT
          refine ⟨fun b o e => ?_, ⟨_, _, rfl⟩, putK lk (Sum.inr p.1) (.int p.2), kk ++ [T], ?_, ?_, ?_, ?_, ?_, ?_⟩
          · have n1 : b ≠ D := ne_of_none e hD
            have n2 : b ≠ L := ne_of_none e (free_of hL)
            have e3 : upd H2 D (.dK (putK lk (Sum.inr p.1) (.int p.2))) b = some o := by
              rw [upd_ne n1]
              exact s1 b o e
            rw [upd_ne n2, upd_ne (ne_of_none e3 hT)]
            exact e3
          · rw [upd_ne (Ne.symm nLD), upd_ne nDT]
            exact upd_same
          · have := length_putK lk (Sum.inr p.1) (.int p.2)
            omega
          · rw [etake, mEnd_app]
            unfold mAfter
            rw [if_pos ck]
            exact (tb.put p.1 p.2).cast fun y => rfl
          · rw [List.map_append]
            exact upd_same
          · rw [List.length_append]
            show kk.length + 1 ≤ i + 1
            omega
          · rw [etake, kept_app, if_pos ck]
            refine PicksAt.snoc ?_ ?_
            · have pk1 : PicksAt (upd H2 D (.dK (putK lk (Sum.inr p.1) (.int p.2)))) kk (kept (fun _ => none) (ps.take i)) := pk.upd fun xs e => by
                rw [eD] at e
                cases e
              have pk2 : PicksAt (upd (upd H2 D (.dK (putK lk (Sum.inr p.1) (.int p.2)))) T (.tup [.str p.1, .int p.2])) kk (kept (fun _ => none) (ps.take i)) := pk1.mono fun k xs e => upd_keep2 e hT
              exact pk2.upd fun xs e => by
                rw [upd_ne nLT, eL2] at e
                cases e
            · show upd _ _ _ _ = _
              rw [upd_ne (Ne.symm nLT)]
              exact upd_same
        · have ck : ¬ keeps (mEnd (fun _ => none) (ps.take i)) p = true := by
            unfold keeps
            rw [em]
            exact fun z => c (of_decide_eq_true z)
          rw [decide_eq_false c]
          refine iteF ?_
          refine ⟨s1, ⟨_, _, rfl⟩, lk, kk, eD, by omega, ?_, eL, by omega, ?_⟩
          · rw [etake, mEnd_app]
            unfold mAfter
            rw [if_neg ck]
            exact tb
          · rw [etake, kept_app, if_neg ck, List.append_nil]
            exact pk
    · obtain ⟨s1, ⟨x3, x4, rfl⟩, lk, kk, eD, ll, tb, eL, kl, pk⟩ := q0
      have e0 : ps.take (ks.map V.ref).length = ps := by
        rw [List.length_map, hp.len, List.take_length]
      rw [e0] at pk
      have kl20 : kk.length ≤ 20 := by
        rw [List.length_map, hp.len] at kl
        omega
      have sz := sizeLine_eq
      generalize ekp : kept (fun _ => none) ps = kp at pk
      refine ⟨_, rfl, 1, rfl, L, _, rfl, SqL.of eL, ?_⟩
      rw [cut_one]
      intro B hB
      refine ⟨B, rfl, ⟨_, SqL.of upd_same⟩, fun C hC => ?_⟩
      have pd := pk.drop
      have lkp : kk.length = kp.length := pk.len
      refine lc_it (walk_list (xs := (kk.drop 1).map V.ref)) (fun i Hx => Same (upd H' B (.lst ((kk.drop 1).map V.ref))) Hx ∧ Hx C = some (.lst (((kp.drop 1).take i).map fun p => V.str p.1))) ⟨Same.of_new hC, upd_same⟩ (fun i Hx _ q => SqL.of (q.1 B _ upd_same)) (fun i x Hx Hy hi q0 y => ?_) (fun Hx q0 => ?_)
      · obtain ⟨s2, eC⟩ := q0
        obtain ⟨rfl, hx⟩ := y
        obtain ⟨k, p, rfl, hk, hpi, tk⟩ := (pd.same ((Same.of_new hB).trans s2)).get hx
        refine ⟨k, _, rfl, .inl (.inl tk), rfl, _, _, rfl, _, _, rfl, rfl, rfl, ?_⟩
        refine ⟨_, rfl, _, eC, ?_, fun b o e => ?_, ?_⟩
        · rw [List.length_map, List.length_take]
          have := (List.getElem?_eq_some_iff.mp hpi).1
          rw [List.length_drop] at *
          omega
        · rw [upd_ne (ne_of_none e hC)]
          exact s2 b o e
        · rw [upd_same, List.take_add_one, hpi, List.map_append]
          rfl
      obtain ⟨s2, eC⟩ := q0
      have e1 : (kp.drop 1).take ((kk.drop 1).map V.ref).length = kp.drop 1 := by
        rw [List.length_map, pd.len, List.take_length]
      rw [e1] at eC
      refine ⟨by show (1:Nat) ≤ sizeLine; omega, fun N hN => ?_⟩
      refine ⟨C, N, _, _, rfl, rfl, upd_keep2 eC hN, upd_same, by rw [List.length_map, List.length_drop]; show _ + 1 ≤ sizeLine; omega, ?_⟩
      rw [behind_vals]
      intro Z hZ
      have s3 : Same H' Hx := (Same.of_new hB).trans s2
      have s4 : Same H' (upd (upd Hx N (.lst [V.non])) Z (.lst ((behind kp).map optV))) := (s3.trans (Same.of_new hN)).trans (Same.of_new hZ)
      have eL4 := s4 L _ eL
      refine ⟨_, rfl, _, rfl, L, Z, _, _, rfl, SqL.of eL4, SqL.of upd_same, fun R hR => ?_⟩
      have pk4 := pk.same s4
      generalize eHz : upd (upd Hx N (.lst [V.non])) Z (.lst ((behind kp).map optV)) = Hz at s4 eL4 hR pk4 ⊢
      have eZ : Hz Z = some (.lst ((behind kp).map optV)) := by
        rw [← eHz]
        exact upd_same
      have hn : kp.length = min (kk.map V.ref).length ((behind kp).map optV).length := by
        unfold behind
        rw [List.length_map, List.length_map, List.length_append, List.length_map, List.length_drop, lkp]
        show kp.length = min kp.length (kp.length - 1 + 1)
        omega
      refine lc_it (walk_zip (xs := kk.map V.ref) (ys := (behind kp).map optV) hn) (fun i Hx => Same Hz Hx ∧ ∃ kr : List Addr, Hx R = some (.lst (kr.map V.ref)) ∧ kr.length ≤ i ∧ PicksAt Hx kr ((((kp.zip (behind kp)).take i).filter fun e => decide (some e.1.1 ≠ e.2)).map (·.1)))
        ⟨Same.of_new hR, [], upd_same, Nat.le_refl 0, PicksAt.nil⟩ (fun i Hx _ q => ⟨SqL.of (q.1 L _ eL4), SqL.of (q.1 Z _ eZ)⟩) (fun i x Hx Hy hi q0 y => ?_) (fun Hx q0 => ?_)
      · obtain ⟨s5, kr, eR, lr, pr⟩ := q0
        obtain ⟨T, x, z, rfl, hT, rfl, hx, hz⟩ := y
        obtain ⟨k, p, rfl, hk, hpi, tk⟩ := (pk4.same s5).get hx
        have hz : ((behind kp).map optV)[i]? = some z := hz
        rw [List.getElem?_map] at hz
        obtain ⟨o, ho, rfl⟩ := Option.map_eq_some_iff.mp hz
        have ez : (kp.zip (behind kp))[i]? = some (p, o) := by
          rw [List.getElem?_zip_eq_some]
          exact ⟨hpi, ho⟩
        have e5 : (((kp.zip (behind kp)).take (i + 1)).filter fun e => decide (some e.1.1 ≠ e.2)).map (·.1) = (((kp.zip (behind kp)).take i).filter fun e => decide (some e.1.1 ≠ e.2)).map (·.1) ++ (if some p.1 ≠ o then [p] else []) := by
          rw [List.take_add_one, ez, List.filter_append, List.map_append]
          congr 1
          show (([(p, o)] : List (Pk × Option Str)).filter _).map _ = _
          by_cases c : some p.1 = o
          · rw [if_neg (fun q => q c)]
            simp [c]
          · rw [if_pos c]
            simp [c]
        refine ⟨T, _, rfl, .inl (.inl upd_same), rfl, _, _, rfl, _, _, rfl, rfl, rfl, ?_⟩
        have tk2 : upd Hx T (.tup [.ref k, optV o]) k = some (.tup [.str p.1, .int p.2]) := upd_keep2 tk hT
        have hsc : scal (.str p.1) (optV o) = true := by cases o <;> rfl
        have hne : (!decide (V.str p.1 = optV o)) = decide (some p.1 ≠ o) := by
          cases o with
          | none => rfl
          | some y =>
            by_cases c : p.1 = y
            · subst c
              simp [optV]
            · have c2 : ¬ V.str p.1 = V.str y := fun q => c (V.str.inj q)
              simp [optV, c, c2]
        refine ⟨_, rfl, k, _, 0, _, rfl, rfl, .inl (.inl tk2), rfl, _, rfl, hsc, _, rfl, ?_⟩
        rw [hne]
        by_cases c : some p.1 ≠ o
        · rw [decide_eq_true c]
          refine iteT ?_
          refine ⟨_, rfl, _, upd_keep2 eR hT, by rw [List.length_map]; have := (List.getElem?_eq_some_iff.mp hpi).1; omega, fun b o2 e => ?_, kr ++ [k], ?_, ?_, ?_⟩
          · have e6 := upd_keep2 (o := .tup [.ref k, optV o]) (s5 b _ e) hT
            rw [upd_ne (ne_of_none e hR)]
            exact e6
          · rw [List.map_append]
            exact upd_same
          · rw [List.length_append]
            show kr.length + 1 ≤ i + 1
            omega
          · rw [e5, if_pos c]
            have p1 : PicksAt (upd Hx T (.tup [.ref k, optV o])) kr _ := pr.mono fun k xs e => upd_keep2 e hT
            have p2 := p1.snoc tk2
            exact p2.upd fun xs e => by
              rw [upd_keep2 eR hT] at e
              cases e
        · rw [decide_eq_false c]
          refine iteF ?_
          refine ⟨s5.trans (Same.of_new hT), kr, upd_keep2 eR hT, by omega, ?_⟩
          rw [e5, if_neg c, List.append_nil]
          exact pr.mono fun k xs e => upd_keep2 e hT
      obtain ⟨s5, kr, eR, lr, pr⟩ := q0
      have e6 : (kp.zip (behind kp)).take kp.length = kp.zip (behind kp) := List.take_of_length_le (by rw [List.length_zip]; omega)
      rw [e6, ← step2_zip, ← ekp] at pr
      have sH : Same H Hx := (s1.trans s4).trans s5
      refine ⟨R, _, rfl, .inl ⟨SqL.of eR, fun l hl2 => ?_⟩⟩
      exact q l _ kr (sH.free hl2) (sH.trans (Same.of_new hl2)) upd_same (pr.mono fun k xs e => upd_keep2 e hl2)
end
end K10
end
section
/-! Operators and comparisons that an own class defines. -/
namespace OwR
open PySem PySem.Spec PyProof.Rows L2
/-- an own operator between instances of two own classes, neither below the other -/
theorem bin_two {prog : Program} {w : World} {A : Around} {E : Value → Shared → Prop} {s : Shared} {K : PySem.W.Frag} {x C D f f2 : Addr} {ox : Obj} {od : Option Obj} {op : Operator} {b : Value} {rc rd : Option Value} {Q : Value → Shared → Prop} (X : K.In s.heap) (I : PySem.W.InstAt s.heap x ox C od)
    (hb : PySem.W.Looks (model prog w) s.heap (typeOf b) (.ref D)) (ne : (Value.ref C == Value.ref D) = false) (cC : PySem.W.selfFirst K C = true) (cD : PySem.W.selfFirst K D = true) (sC : PySem.W.findIn K (.ref C) (PySem.dunder op.info.2) = some (some (.ref f))) (sD : PySem.W.findIn K (.ref D) (PySem.dunder op.info.2) = some (some (.ref f2)))
    (rC : PySem.W.findIn K (.ref C) (dunderR op.info.2) = some rc) (pC : rc = none ∨ ∃ g : Addr, rc = some (.ref g)) (rD : PySem.W.findIn K (.ref D) (dunderR op.info.2) = some rd) (pD : rd = none ∨ ∃ g : Addr, rd = some (.ref g))
    (sub : PySem.W.subIn K (.ref D) (.ref C) = some false) (hf : PySem.W.isFn K (.ref f) = true) (h : wpAny (model prog w) A (call (.ref f) [.ref x, b]) (PySem.W.CmpBack Q) E s) : wpAny (model prog w) A (binaryOp op (.ref x) b) Q E s := by
  obtain ⟨c1, r1, k1, m1⟩ := PySem.W.ksp_first cC
  obtain ⟨c2, r2, k2, m2⟩ := PySem.W.ksp_first cD
  rcases hi : op.info with ⟨sym, nm⟩
  rw [hi] at sC sD rC rD
  dsimp only at sC sD rC rD
  have one := PySem.W.ksp_try X I sC hf h
  obtain ⟨hp, gs, dr, tk, os⟩ := s
  have L1 : PySem.W.Looks (model prog w) hp (typeOf (.ref x)) (.ref C) := I.type
  have L2 : PySem.W.Looks (model prog w) hp (typeOf b) (.ref D) := hb
  have L3 : PySem.W.Looks (model prog w) hp (fillsNumberSlot (.ref C) nm) true := PySem.W.fills_K X k1 m1 sC
  have L4 : PySem.W.Looks (model prog w) hp (fillsNumberSlot (.ref D) nm) true := PySem.W.fills_K X k2 m2 sD
  have L5 : PySem.W.Looks (model prog w) hp (isSubtype (.ref D) (.ref C)) false := PySem.W.looks_subIn X sub
  have L6 : PySem.W.Looks (model prog w) hp (numberSlotInPython (.ref C) nm) true := PySem.W.ksp_inPy X sC rC pC
  have L7 : PySem.W.Looks (model prog w) hp (numberSlotInPython (.ref D) nm) true := PySem.W.ksp_inPy X sD rD pD
  simp only [binaryOp, hi]
  refine wpAny_holding (wpAny_bind ?_)
  unfold binaryOp1
  refine wpAny_bind (L1.at (wpAny_bind (L2.at (wpAny_bind (L3.at ?_)))))
  simp only [ne, Bool.false_eq_true, if_false]
  ksp_lk
  refine wpAny_mono one (fun r s' q => ?_) fun _ _ e => e
  obtain ⟨v, rfl, hq⟩ := q
  ksp_lk
  exact hq
/-- what a class must have for an operator of its own -/
structure Bin1 (K : PySem.W.Frag) (op : Operator) (C g : Addr) : Prop where
  self : PySem.W.selfFirst K C = true
  at_ : PySem.W.findIn K (.ref C) (PySem.dunder op.info.2) = some (some (.ref g))
  fn : PySem.W.isFn K (.ref g) = true
  refl : ∃ rc, PySem.W.findIn K (.ref C) (dunderR op.info.2) = some rc ∧ (rc = none ∨ ∃ h : Addr, rc = some (.ref h))
/-- .. between two classes: one, or neither above the other -/
def BinP (K : PySem.W.Frag) (op : Operator) (C D g : Addr) : Prop := Bin1 K op C g ∧ (C = D ∨ ((∃ g', Bin1 K op D g') ∧ C ≠ D ∧ PySem.W.subIn K (.ref D) (.ref C) = some false))
structure BinT (K : PySem.W.Frag) (op : Operator) (C : Addr) (T : String) : Prop where
  f : ∃ fo, PySem.W.findIn K (.type T) (PySem.dunder op.info.2) = some fo
  r : ∃ ro, PySem.W.findIn K (.type T) (dunderR op.info.2) = some ro
  sub : PySem.W.subIn K (.type T) (.ref C) = some false
def tyS : V → Option String
  | .non => some "NoneType" | .bl _ => some "bool" | .int _ => some "int" | .str _ => some "str" | _ => none
theorem tyS_of {y : V} {u : Value} {T : String} (r : RelV y u) (h : tyS y = some T) : typeOf u = pure (.type T) := by
  cases y with
  | non => cases (show u = Value.none from r); cases h; rfl
  | bl b => cases (show u = Value.bool b from r); cases h; rfl
  | int i => obtain ⟨t, rfl⟩ := r; cases h; rfl
  | str z => obtain ⟨t, rfl⟩ := r; cases h; rfl
  | _ => cases h
def rOwn2 (K : PySem.W.Frag) (op : Operator) (g : Addr) (sp : Sp) (E : XK) : R2 := fun x y H Q => ∃ (p q C D dx dy : Addr) (fs gs : List (Str × V)), x = .ref p ∧ y = .ref q ∧ H p = some (.ins C dx fs) ∧ H q = some (.ins D dy gs) ∧ BinP K op C D g ∧ sp [.ref p, .ref q] H Q E
def rOwnT (K : PySem.W.Frag) (op : Operator) (g : Addr) (sp : Sp) (E : XK) : R2 := fun x y H Q => ∃ (p C dx : Addr) (fs : List (Str × V)) (T : String), x = .ref p ∧ H p = some (.ins C dx fs) ∧ tyS y = some T ∧ Bin1 K op C g ∧ BinT K op C T ∧ sp [.ref p, y] H Q E
section
variable {X : Cx} {CX : CXT} {k : Nat} {g : Addr} {sp : Sp} {E : XK} {op : Operator}
theorem ep_back {pins : List (Addr × Obj)} {σ : L2.St} {Q : VK} {u : Value} {s : Shared} (h : EP X pins σ Q u s) : PySem.W.CmpBack (EP X pins σ Q) u s := by
  obtain ⟨v, H, I, r, q⟩ := h
  unfold PySem.W.CmpBack
  split
  · cases v with
    | int i => obtain ⟨_, z⟩ := r; cases z
    | str i => obtain ⟨_, z⟩ := r; cases z
    | byt i => obtain ⟨_, z⟩ := r; cases z
    | flt i => obtain ⟨_, z⟩ := r; cases z
    | _ => cases r
  · exact ⟨v, H, I, r, q⟩
theorem run_own {pins : List (Addr × Obj)} {σ : L2.St} {H : Hp} {s : Shared} {Q : VK} {us : List Value} {vs : List V} (F : FnR X.prog X.w X.K X.mg X.base CX k g sp) (hr : Room k X.A) (hx : Passes CX X E) (I : Inv X pins σ H s) (r : Vals vs us) (h : sp vs H Q E) :
    wpAny (model X.prog X.w) X.A (call (.ref g) us) (PySem.W.CmpBack (EP X pins σ Q)) X.xe s := wpAny_mono (wpAny_call (run_fnR F hr hx I r h)) (fun _ _ q => ep_back q) fun _ _ q => q
theorem op_own2 (F : FnR X.prog X.w X.K X.mg X.base CX k g sp) (hr : Room k X.A) (hx : Passes CX X E) : OpR X (binaryOp op) (rOwn2 X.K op g sp E) := by
  intro pins s σ H x y v u Q I rx ry h
  obtain ⟨p, q, C, D, dx, dy, fs, gs, rfl, rfl, ep, eq, ⟨b1, b2⟩, hq⟩ := h
  obtain rfl : v = Value.ref p := rx
  obtain rfl : u = Value.ref q := ry
  obtain ⟨ox, od, J, _⟩ := StX.insC_at I (.inr ⟨dx, fs, ep⟩)
  obtain ⟨oy, oe, J2, _⟩ := StX.insC_at I (.inr ⟨dy, gs, eq⟩)
  have go := run_own F hr hx I (us := [.ref p, .ref q]) (vs := [.ref p, .ref q]) (.cons rfl (.cons rfl .nil)) hq
  obtain ⟨mm, fr⟩ := I.fr
  rcases b2 with rfl | ⟨⟨g', b2⟩, ne, sub⟩
  · exact PySem.W.binop_K fr I.ok.mod.kin J J2.type b1.self b1.at_ b1.fn go
  · obtain ⟨rc, e1, e2⟩ := b1.refl
    obtain ⟨rd, e3, e4⟩ := b2.refl
    exact bin_two I.kIn J J2.type (Bool.eq_false_iff.mpr fun z => ne (by cases beq_iff_eq.mp z; rfl)) b1.self b2.self b1.at_ b2.at_ e1 e2 e3 e4 sub b1.fn go
theorem op_ownT (F : FnR X.prog X.w X.K X.mg X.base CX k g sp) (hr : Room k X.A) (hx : Passes CX X E) : OpR X (binaryOp op) (rOwnT X.K op g sp E) := by
  intro pins s σ H x y v u Q I rx ry h
  obtain ⟨p, C, dx, fs, T, rfl, ep, ty, b1, bT, hq⟩ := h
  obtain rfl : v = Value.ref p := rx
  obtain ⟨ox, od, J, _⟩ := StX.insC_at I (.inr ⟨dx, fs, ep⟩)
  obtain ⟨mm, fr⟩ := I.fr
  obtain ⟨rc, e1, e2⟩ := b1.refl
  obtain ⟨fo, e3⟩ := bT.f
  obtain ⟨ro, e4⟩ := bT.r
  exact PySem.W.ksp_binT fr I.ok.mod.kin J (tyS_of ry ty) b1.self b1.at_ b1.fn e1 e2 e3 e4 bT.sub (run_own F hr hx I (us := [.ref p, u]) (vs := [.ref p, y]) (.cons rfl (.cons ry .nil)) hq)
/-! ### comparisons -/
structure Cmp1 (K : PySem.W.Frag) (op : CmpOp) (C g : Addr) : Prop where
  at_ : PySem.W.findIn K (.ref C) (cmpInfo op).2.1 = some (some (.ref g))
  fn : PySem.W.isFn K (.ref g) = true
def rCmp2 (K : PySem.W.Frag) (op : CmpOp) (g : Addr) (sp : Sp) (E : XK) : R2 := fun x y H Q => ∃ (p q C D dx dy : Addr) (fs gs : List (Str × V)), x = .ref p ∧ y = .ref q ∧ H p = some (.ins C dx fs) ∧ H q = some (.ins D dy gs) ∧ Cmp1 K op C g ∧ PySem.W.notFirst K C (.ref D) = true ∧ sp [.ref p, .ref q] H Q E
theorem rc_own2 {o : CmpOp} (hu : X.A.units < cLine) (F : FnR X.prog X.w X.K X.mg X.base CX k g sp) (hr : Room k X.A) (hx : Passes CX X E) : OpR X (richCompare o) (rCmp2 X.K o g sp E) := by
  intro pins s σ H x y v u Q I rx ry h
  obtain ⟨p, q, C, D, dx, dy, fs, gs, rfl, rfl, ep, eq, c1, nf, hq⟩ := h
  obtain rfl : v = Value.ref p := rx
  obtain rfl : u = Value.ref q := ry
  obtain ⟨ox, od, J, _⟩ := StX.insC_at I (.inr ⟨dx, fs, ep⟩)
  obtain ⟨oy, oe, J2, _⟩ := StX.insC_at I (.inr ⟨dy, gs, eq⟩)
  obtain ⟨mm, fr⟩ := I.fr
  exact PySem.W.cmp_K hu fr I.ok.mod.kin J J2.type nf c1.at_ c1.fn (run_own F hr hx I (us := [.ref p, .ref q]) (vs := [.ref p, .ref q]) (.cons rfl (.cons rfl .nil)) hq)
theorem op_ownEq (hu : X.A.units < cLine) (F : FnR X.prog X.w X.K X.mg X.base CX k g sp) (hr : Room k X.A) (hx : Passes CX X E) : OpR X (compareOp .Eq) (rCmp2 X.K .Eq g sp E) := fun pins s σ H x y v u Q I rx ry h => PySem.W.cmp_ofEq (rc_own2 hu F hr hx pins s σ H x y v u Q I rx ry h)
theorem op_ownLe (hu : X.A.units < cLine) (F : FnR X.prog X.w X.K X.mg X.base CX k g sp) (hr : Room k X.A) (hx : Passes CX X E) : OpR X (compareOp .LtE) (rCmp2 X.K .LtE g sp E) := fun pins s σ H x y v u Q I rx ry h => PySem.W.cmp_ofLtE (rc_own2 hu F hr hx pins s σ H x y v u Q I rx ry h)
theorem op_ownLt (hu : X.A.units < cLine) (F : FnR X.prog X.w X.K X.mg X.base CX k g sp) (hr : Room k X.A) (hx : Passes CX X E) : OpR X (compareOp .Lt) (rCmp2 X.K .Lt g sp E) := fun pins s σ H x y v u Q I rx ry h => PySem.W.cmp_ofLt (rc_own2 hu F hr hx pins s σ H x y v u Q I rx ry h)
theorem op_ownGe (hu : X.A.units < cLine) (F : FnR X.prog X.w X.K X.mg X.base CX k g sp) (hr : Room k X.A) (hx : Passes CX X E) : OpR X (compareOp .GtE) (rCmp2 X.K .GtE g sp E) := fun pins s σ H x y v u Q I rx ry h => PySem.W.cmp_ofGtE (rc_own2 hu F hr hx pins s σ H x y v u Q I rx ry h)
theorem op_ownGt (hu : X.A.units < cLine) (F : FnR X.prog X.w X.K X.mg X.base CX k g sp) (hr : Room k X.A) (hx : Passes CX X E) : OpR X (compareOp .Gt) (rCmp2 X.K .Gt g sp E) := fun pins s σ H x y v u Q I rx ry h => PySem.W.cmp_ofGt (rc_own2 hu F hr hx pins s σ H x y v u Q I rx ry h)
end
end OwR
end
section
/-! a != b of own classes that define == alone. -/
namespace OwR
open PySem PySem.Spec PyProof.Rows L2
theorem slot_ne : Slot "object" "__ne__" "object.__ne__" := Slot.of (T := "object") (name := "__ne__") (owner := "object") (n := "__ne__") (by rw [typeLookup_type, builtinLookup_eq_fast]; kernel_rfl) (by decide +kernel) (by decide +kernel) (by decide +kernel)
  (.inl (by decide +kernel)) (by rw [isSubtype_type]; kernel_rfl)
theorem entry_ne : entryFor table "object.__ne__" = some Builtin.«object.__ne__» := entryFor_of_tree (by kernel_rfl)
theorem args_ne (a b : Value) : argsOk "object.__ne__" ⟨[a, b], []⟩ := by unfold argsOk; kernel_rfl
section
variable {prog : Program} {w : World} {A : Around} {E : Value → Shared → Prop} {s : Shared} {K : PySem.W.Frag} {x C f : Addr} {ox : Obj} {od : Option Obj} {b : Value}
theorem bound_ne {M : Model} {args : List Value} {Q : Option Value → Shared → Prop} (sp : PySem.W.Looks M s.heap (specialOf (.ref x) "__ne__") (some (.builtin "object.__ne__"))) (h : wpAny M A (call (.builtin "object.__ne__") (.ref x :: args)) (fun v => Q (some v)) E s) :
    wpAny M A (callSpecialIfBound? (.ref x) "__ne__" args) Q E s := by
  have fin : wpAny M A (call (.builtin "object.__ne__") ([.ref x] ++ args) >>= fun v => pure (some v)) Q E s := wpAny_bind (wpAny_mono h (fun v s' q => wpAny_pure q) fun _ _ q => q)
  have hb : bindSpecial (.builtin "object.__ne__") (.ref x) = pure (.builtin "object.__ne__", [.ref x]) := slot_ne.bind _
  simp only [callSpecialIfBound?, bindSpecialIfBound?]
  refine wpAny_holding (wpAny_bind (wpAny_bind (sp.here ?_)))
  simp only [hb]
  refine wpAny_bind (wpAny_askSetting (wpAny_ite ?_))
  split
  · exact wpAny_bind (wpAny_pure (wpAny_pure fin))
  · exact wpAny_tryCatch (wpAny_bind (wpAny_pure (wpAny_pure fin)))
theorem ne_K {tb : Value} {Q : Value → Shared → Prop} (hu : A.units + 1 < cLine) (X : K.In s.heap) (I : PySem.W.InstAt s.heap x ox C od) (hb : PySem.W.Looks (model prog w) s.heap (typeOf b) tb) (nf : PySem.W.notFirst K C tb = true) (obj : PySem.W.mroIn K C (.type "object") = some true)
    (ne : PySem.W.findIn K (.ref C) "__ne__" = some (some (.builtin "object.__ne__"))) (eq : PySem.W.findIn K (.ref C) "__eq__" = some (some (.ref f))) (fn : PySem.W.isFn K (.ref f) = true)
    (h : wpAny (model prog w) A.in1 (call (.ref f) [.ref x, b]) (fun v s' => ∃ c, v = .bool c ∧ Q (.bool (!c)) s') E s) : wpAny (model prog w) A (richCompare .NotEq (.ref x) b) Q E s := by
  have sp : PySem.W.Looks (model prog w) s.heap (specialOf (.ref x) "__ne__") (some (.builtin "object.__ne__")) := I.type.andThen (PySem.W.looks_findIn X ne)
  have inst : PySem.W.Looks (model prog w) s.heap (isInstance (.ref x) (.type "object")) true := I.type.andThen (PySem.W.looks_mroIn X obj)
  have hu0 : A.units < cLine := by omega
  have body : wpAny (model prog w) A (call (.builtin "object.__ne__") [.ref x, b]) (fun v s' => ∃ c, v = .bool c ∧ Q (.bool c) s') E s := by
    refine wpAny_call (codeAny_call_builtin slot_ne.plain entry_ne (@PySem.W.check_slot (model prog w) _ _ _ "object.__ne__" "object" "__ne__" (.ref x) [b] [] _ (by decide +kernel) (by decide +kernel) inst (args_ne _ _) ?_))
    show wpAny _ _ (do
      cRoomFor "comparison" [.ref x, b]
      match ← callSpecialIfBound? (.ref x) "__eq__" [b] with
      | some .notImplemented | none => ret .notImplemented
      | some r => ret (.bool (!(← truthy r)))) _ _ s
    refine wpAny_bind (wpAny_cRoomFor hu ?_)
    refine wpAny_bind (PySem.W.ifBound_K X I eq fn (wpAny_mono h (fun v s' q => ?_) fun _ _ q => q))
    obtain ⟨c, rfl, q⟩ := q
    show wpAny _ _ (truthy (.bool c) >>= fun t => ret (.bool (!t))) _ _ s'
    exact wpAny_bind (wpAny_pure (wpAny_pure ⟨!c, rfl, q⟩))
  have one : wpAny (model prog w) A (tryCompare (.ref x) "__ne__" b) (fun r s' => ∃ c, r = some (.bool c) ∧ Q (.bool c) s') E s := by
    unfold tryCompare
    refine wpAny_bind (bound_ne sp (wpAny_mono body (fun v s' q => ?_) fun _ _ q => q))
    obtain ⟨c, rfl, q⟩ := q
    exact wpAny_pure ⟨c, rfl, q⟩
  unfold richCompare
  simp only [oneThing_ref]
  refine wpAny_holding (wpAny_bind (wpAny_cRoomFor hu0 ?_))
  refine wpAny_bind (I.type.here (wpAny_bind (hb.here ?_)))
  have fin : ∀ r s', (∃ c, r = some (Value.bool c) ∧ Q (.bool c) s') → ∃ v, r = some v ∧ Q v s' := fun r s' ⟨c, e, q⟩ => ⟨_, e, q⟩
  split
  · rename_i q
    have e : PySem.W.subIn K tb (.ref C) = some false := by
      rcases Bool.or_eq_true_iff.mp nf with e | e
      · rw [beq_iff_eq.mp e] at q
        simp at q
      · exact beq_iff_eq.mp e
    refine wpAny_bind ((PySem.W.looks_subIn X e).here ?_)
    simp only [if_false, Bool.false_eq_true]
    refine wpAny_bind (wpAny_mono one (fun r s' z => ?_) fun _ _ e => e)
    obtain ⟨c, rfl, hq⟩ := z
    exact wpAny_pure hq
  · refine wpAny_bind (m := pure false) (wpAny_pure ?_)
    simp only [if_false, Bool.false_eq_true]
    refine wpAny_bind (wpAny_mono one (fun r s' z => ?_) fun _ _ e => e)
    obtain ⟨c, rfl, hq⟩ := z
    exact wpAny_pure hq
end
/-- the class has == of its own and object's != -/
structure Ne1 (K : PySem.W.Frag) (C g : Addr) : Prop where
  eq : PySem.W.findIn K (.ref C) "__eq__" = some (some (.ref g))
  fn : PySem.W.isFn K (.ref g) = true
  ne : PySem.W.findIn K (.ref C) "__ne__" = some (some (.builtin "object.__ne__"))
  obj : PySem.W.mroIn K C (.type "object") = some true
/-- a != b: the promise of == with the answer turned -/
def rNe2 (K : PySem.W.Frag) (g : Addr) (sp : Sp) (E : XK) : R2 := fun x y H Q => ∃ (p q C D dx dy : Addr) (fs gs : List (Str × V)), x = .ref p ∧ y = .ref q ∧ H p = some (.ins C dx fs) ∧ H q = some (.ins D dy gs) ∧ Ne1 K C g ∧ PySem.W.notFirst K C (.ref D) = true ∧ sp [.ref p, .ref q] H (fun v H' => ∃ c, v = .bl c ∧ Q (.bl (!c)) H') E
theorem op_ownNe {X : Cx} {CX : CXT} {k : Nat} {g : Addr} {sp : Sp} {E : XK} (hu : X.A.units + 1 < cLine) (F : FnR X.prog X.w X.K X.mg X.base CX k g sp) (hr : Room (k + 1) X.A) (hx : Passes CX X E) : OpR X (compareOp .NotEq) (rNe2 X.K g sp E) := by
  intro pins s σ H x y v u Q I rx ry h
  obtain ⟨p, q, C, D, dx, dy, fs, gs, rfl, rfl, ep, eq, c1, nf, hq⟩ := h
  obtain rfl : v = Value.ref p := rx
  obtain rfl : u = Value.ref q := ry
  obtain ⟨ox, od, J, _⟩ := StX.insC_at I (.inr ⟨dx, fs, ep⟩)
  obtain ⟨oy, oe, J2, _⟩ := StX.insC_at I (.inr ⟨dy, gs, eq⟩)
  refine PySem.W.cmp_ofNotEq (ne_K hu I.kIn J J2.type nf c1.obj c1.ne c1.eq c1.fn ?_)
  refine wpAny_mono (run_in (us := [.ref p, .ref q]) (vs := [.ref p, .ref q]) F hr hx I (.cons rfl (.cons rfl .nil)) hq) (fun v s' z => ?_) fun _ _ z => z
  obtain ⟨x2, H2, I2, r2, c, rfl, z⟩ := z
  exact ⟨c, r2, .bl (!c), H2, I2, rfl, z⟩
/-! ### len(o), o of an own class -/
structure Len1 (K : PySem.W.Frag) (C g : Addr) : Prop where
  at_ : PySem.W.findIn K (.ref C) "__len__" = some (some (.ref g))
  fn : PySem.W.isFn K (.ref g) = true
def rLenO (K : PySem.W.Frag) (g : Addr) (sp : Sp) (E : XK) : List V → Hp → VK → Prop := fun xs H Q => ∃ (a C dx : Addr) (fs : List (Str × V)), xs = [.ref a] ∧ H a = some (.ins C dx fs) ∧ Len1 K C g ∧ sp [.ref a] H (fun v H' => ∃ n : Int, v = .int n ∧ 0 ≤ n ∧ n < 2 ^ 63 ∧ Q (.int n) H') E
theorem call_lenO {X : Cx} {CX : CXT} {k : Nat} {g : Addr} {sp : Sp} {E : XK} (F : FnR X.prog X.w X.K X.mg X.base CX k g sp) (hr : Room (k + 1) X.A) (hx : Passes CX X E) : CallR X (.builtin "len") (rLenO X.K g sp E) := by
  intro pins s σ H xs us Q I r h
  obtain ⟨a, C, dx, fs, rfl, ea, c, hq⟩ := h
  obtain rfl := Vals.ref1 r
  obtain ⟨ox, od, J, _⟩ := StX.insC_at I (.inr ⟨dx, fs, ea⟩)
  obtain ⟨mm, fr⟩ := I.fr
  refine PySem.W.len_K fr I.ok.mod.kin J c.at_ c.fn (wpAny_mono (run_in (us := [.ref a]) (vs := [.ref a]) F hr hx I (.cons rfl .nil) hq) (fun v s' z => ?_) fun _ _ z => z)
  obtain ⟨y, H2, I2, ry, n, rfl, n0, n1, z⟩ := z
  obtain ⟨t, rfl⟩ := ry
  exact ⟨⟨n0, n1⟩, .int n, H2, I2.tok _, ⟨_, rfl⟩, z⟩
end OwR
end
section
/-! Walks over objects of own classes whose __iter__ gives a tuple's iterator. -/
namespace OwR
open PySem PySem.Spec PyProof.Rows L2
abbrev itTup (l : Addr) (i : Nat) : Obj := { cls := .type "tuple_iterator", data := .fields #[.ref l, .int i 0] }
/-- at it the iterator of the tuple at l, just made -/
def ItT (l it : Addr) : HO := .ext fun h => h.get? it = some (itTup l 0)
theorem itT_ok {P : Program} {w : World} {H : Hp} {h : Heap} {l it : Addr} (e : h.get? it = some (itTup l 0)) : ObjOk P w H h it (ItT l it) := ⟨e, ⟨_, e⟩, fun h1 h2 q k => k _ q⟩
theorem itT_get {X : Cx} {pins : List (Addr × Obj)} {σ : L2.St} {H : Hp} {s : Shared} {l it : Addr} (I : Inv X pins σ H s) (e : H it = some (ItT l it)) : s.heap.get? it = some (itTup l 0) := (I.hok it _ e).1
/-- iter(t), t a tuple -/
def rIterT (K : PySem.W.Frag) : List V → Hp → VK → Prop := fun xs H Q => ∃ (l : Addr) (zs : List V), xs = [.ref l] ∧ SqT K H l zs ∧ ∀ it, H it = none → Q (.ref it) (upd H it (ItT l it))
theorem call_iterT {X : Cx} : CallR X (.builtin "iter") (rIterT X.K) := by
  intro pins s σ H xs us Q I r h
  obtain ⟨l, zs, rfl, hq, q⟩ := h
  obtain rfl := Vals.ref1 r
  obtain ⟨its, rv, pl, hz⟩ := I.tuple hq
  refine Calls.call_function_entry (by decide +kernel) (by decide +kernel) PySem.W.kdk_entry_iter (PySem.W.kdk_args_iter _) ?_
  unfold Builtin.«iter»
  refine wpAny_bind (m := someArgs "iter" 1 2 _) (wpAny_of_eq (a := [Value.ref l]) (by first | rfl | kernel_rfl!) ?_)
  show wpAny _ _ (pyIter (.ref l) >>= fun v => ret v) _ _ _
  refine wpAny_bind (wpAny_pyIter_tuple (show s.heap.IsTuple l its.toArray from pl) ?_)
  exact wpAny_pure ⟨_, rfl, .ref s.heap.objs.size, _, I.laid (t' := s.toks) (fun b u e => Heap.get?_push_of_some _ e) (Nat.le_refl _) (itT_ok (Heap.get?_push_size _ rfl)), rfl, q _ (I.hok.fresh (Nat.le_refl _))⟩
/-- .. as young as the call -/
def rIterTN (K : PySem.W.Frag) (n : Nat) : List V → Hp → VK → Prop := fun xs H Q => ∃ (l : Addr) (zs : List V), xs = [.ref l] ∧ SqT K H l zs ∧ ∀ it, H it = none → n ≤ it → Q (.ref it) (upd H it (ItT l it))
theorem call_iterTN {X : Cx} : CallR X (.builtin "iter") (rIterTN X.K X.s_0.heap.objs.size) := by
  intro pins s σ H xs us Q I r h
  obtain ⟨l, zs, rfl, hq, q⟩ := h
  obtain rfl := Vals.ref1 r
  obtain ⟨its, rv, pl, hz⟩ := I.tuple hq
  refine Calls.call_function_entry (by decide +kernel) (by decide +kernel) PySem.W.kdk_entry_iter (PySem.W.kdk_args_iter _) ?_
  unfold Builtin.«iter»
  refine wpAny_bind (m := someArgs "iter" 1 2 _) (wpAny_of_eq (a := [Value.ref l]) (by first | rfl | kernel_rfl!) ?_)
  show wpAny _ _ (pyIter (.ref l) >>= fun v => ret v) _ _ _
  refine wpAny_bind (wpAny_pyIter_tuple (show s.heap.IsTuple l its.toArray from pl) ?_)
  exact wpAny_pure ⟨_, rfl, .ref s.heap.objs.size, _, I.laid (t' := s.toks) (fun b u e => Heap.get?_push_of_some _ e) (Nat.le_refl _) (itT_ok (Heap.get?_push_size _ rfl)), rfl, q _ (I.hok.fresh (Nat.le_refl _)) I.sz⟩
/-! ### a def whose promise may speak of where the call stands -/
def FnS (P : Program) (w : World) (K : PySem.W.Frag) (mg : Str → Option Value) (base : Heap) (CX : CXT) (k : Nat) (f : Addr) (fd : FuncData) (ps : List Str) (sp : Shared → Sp) : Prop :=
  ∀ (A : Around) (outer : List Env) (s : Shared) (H : Hp) (args : Args) (us : List Value) (vs : List V) (Q : VK) (E : XK), Room k A → Env0 P w K mg base A outer s H → BindsTo s fd args (ps.zip us) → Vals vs us → sp s vs H Q E →
    codeAny (model P w) A (.call (.ref f) args) (CR CX outer P w H s Q E) s
section
variable {CX : CXT} {P : Program} {w : World} {K : PySem.W.Frag} {mg : Str → Option Value} {base : Heap} {k : Nat} {f : Addr} {name qual : Str} {params : Arguments} {body : List Stmt} {scope : Scope} {dV kV doc pm cdv ct oc : Value} {an od : Option Addr}
  {osl : Array (Option Value)} {N ps : List Str} {sp : Shared → Sp}
theorem fn_ofS (lk : K.lookup f = some ⟨oc, od, .func (PySem.W.fnOf name qual params body scope dV kV doc pm an cdv ct), osl⟩) (hcd : PySem.W.codeIn K cdv qual = true) (S : FnScope N ps scope)
    (len : ∀ s vs H Q E, sp s vs H Q E → vs.length = ps.length)
    (hbody : ∀ (A : Around) (outer : List Env) (s : Shared) (H : Hp) (vs : List V) (Q : VK) (E : XK), Room k (A.deeper (envOfC qual scope s.heap.objs.size f cdv)) → sp s vs H Q E →
      ∃ t, PSs (cxOf CX P w K mg base N qual scope f cdv A outer s H E) body t ∧ t { nx := fun _ H' => Q .non H', rt := Q } (start N vs) H) :
    FnS P w K mg base CX (k + 1) f (PySem.W.fnOf name qual params body scope dV kV doc pm an cdv ct) ps sp := by
  intro A outer s H args us vs Q E hr e0 hb r hsp
  have hl := len _ _ _ _ _ hsp
  have KS : K.In s.heap := e0.mod.kin.keeps fun b o e => (e0.bs b o e).1
  have lims : s.heap.NoLimit := e0.mod.nolimit.keeps fun b o e => (e0.bs b o e).1
  have kinds : ∀ y ∈ ps.zip us, scope.names.lookup y.1 = some .local ∨ (scope.names.lookup y.1 = some .cell ∧ ((cellsFrom (s.heap.objs.size + 1) scope.names []).lookup y.1).isSome = true) := fun y hy =>
    (S.par y.1 (List.of_mem_zip hy).1).imp id fun q => ⟨q, PySem.W.cellsFrom_some _ _ _ (.inl q)⟩
  refine codeAny_call_function hr.depth (KS _ _ lk) rfl S.co S.gen rfl (PySem.W.codeRec_of KS hcd) (hb _ _ _ _ ?_)
  refine wpAny_newFunctionEnv_cells S.kind kinds fun env he s1 x => ?_
  subst he
  refine ⟨lims.keeps x.toInCall.keep, codeAny_func ?_⟩
  obtain ⟨t, ht, hq⟩ := hbody A outer s H vs Q E (hr.deeper _) hsp
  have I : Inv (cxOf CX P w K mg base N qual scope f cdv A outer s H E) [] (start N vs) H s1 := inv_start S hr.hd e0 hl r x
  refine wpAny_mono (ht.run [] s1 (start N vs) H _ I hq) (fun fl s' hs => ?_) fun _ _ z => z
  have done : ∀ {σ' : L2.St} {H' : Hp} {v : V} {u : Value}, Inv (cxOf CX P w K mg base N qual scope f cdv A outer s H E) [] σ' H' s' → RelV v u → Q v H' → CE outer P w H s Q u s' :=
    fun {σ' H' v u} J rv q => ⟨v, H', J.os, J.bare, J.base, J.hok, rv, q⟩
  cases fl with
  | ret u =>
    obtain ⟨v, σ', H', J, rv, q⟩ := hs
    exact done J rv q
  | next =>
    obtain ⟨σ', H', J, q⟩ := hs
    exact done (v := V.non) (u := Value.none) J rfl q
  | brk => exact (hs.elim fun _ z => z.elim fun _ z => z.2.elim)
  | cont => exact (hs.elim fun _ z => z.elim fun _ z => z.2.elim)
end
/-- def __iter__(self): return iter(self.fld) -/
def spIt (C : Addr) (K : PySem.W.Frag) (fld : Str) : Shared → Sp := fun s vs H Q _ => ∃ (a dx l : Addr) (fs : List (Str × V)) (zs : List V), vs = [.ref a] ∧ H a = some (.ins C dx fs) ∧ fs.lookup fld = some (.ref l) ∧ SqT K H l zs ∧ ∀ it, H it = none → s.heap.objs.size ≤ it → Q (.ref it) (upd H it (ItT l it))
/-- .. at a call with its arguments by place -/
def FnSR (P : Program) (w : World) (K : PySem.W.Frag) (mg : Str → Option Value) (base : Heap) (CX : CXT) (k : Nat) (f : Addr) (sp : Shared → Sp) : Prop :=
  ∀ (A : Around) (outer : List Env) (s : Shared) (H : Hp) (us : List Value) (vs : List V) (Q : VK) (E : XK), Room k A → Env0 P w K mg base A outer s H → Vals vs us → sp s vs H Q E →
    codeAny (model P w) A (.call (.ref f) ⟨us, []⟩) (CR CX outer P w H s Q E) s
theorem FnS.raw {P : Program} {w : World} {K : PySem.W.Frag} {mg : Str → Option Value} {base : Heap} {CX : CXT} {k : Nat} {f : Addr} {fd : FuncData} {ps : List Str} {sp : Shared → Sp} (F : FnS P w K mg base CX k f fd ps sp) (len : ∀ s vs H Q E, sp s vs H Q E → vs.length = ps.length)
    (hb : Binds K fd ps []) : FnSR P w K mg base CX k f sp := fun A outer s H us vs Q E hr e0 r hs => by
  have hl : (us ++ []).length = ps.length := by
    rw [List.append_nil, ← r.length]
    exact len _ _ _ _ _ hs
  have b := hb s us (e0.mod.kin.keeps fun b o e => (e0.bs b o e).1) hl
  rw [List.append_nil] at b
  exact F A outer s H ⟨us, []⟩ us vs Q E hr e0 b r hs
structure OwnIt (K : PySem.W.Frag) (C f : Addr) (fld : Str) : Prop where
  cls : Cls K C
  na : NoAttr K C fld
  at_ : PySem.W.findIn K (.ref C) "__iter__" = some (some (.ref f))
  fn : PySem.W.isFn K (.ref f) = true
/-- over an object whose __iter__ gives the iterator of the tuple at l -/
def iOwn (K : PySem.W.Frag) (f : Addr) (fld : Str) (te : TE) : TI := fun σ H R => te σ H fun x H1 => ∃ (a C dx l : Addr) (fs : List (Str × V)) (zs : List V), x = .ref a ∧ H1 a = some (.ins C dx fs) ∧ OwnIt K C f fld ∧ fs.lookup fld = some (.ref l) ∧ SqT K H1 l zs ∧ R (Itt K l) H1
theorem tup_next {M : Model} {A : Around} {E : Value → Shared → Prop} {s : Shared} {it l : Addr} {Q : Value → Shared → Prop} (h : s.heap.get? it = some (itTup l 0)) (q : Q (.ref it) s) : PySem.W.OwitIt M A Q E (.ref it) s := by
  unfold PySem.W.OwitIt
  exact wpAny_specialOf (name := Str.ofString "__next__") (⟨_, h, rfl⟩ : s.TypeIs (.ref it) "tuple_iterator") PySem.F.slot_tuple_iterator_next.lookup q
theorem pi_own {X : Cx} {CX : CXT} {k : Nat} {f : Addr} {fld : Str} {E : XK} {tg e : Expr} {te : TE} (he : PE X e te) (F : ∀ C, OwnIt X.K C f fld → FnSR X.prog X.w X.K X.mg X.base CX k f (spIt C X.K fld)) (hr : Room k X.A) (hx : Passes CX X E) : PI X tg e (iOwn X.K f fld te) := by
  refine ⟨fun pins s σ H R I h => ?_⟩
  refine thn (he.run pins s σ H _ I h) fun u s1 ⟨x, H1, I1, rx, a, C, dx, l, fs, zs, ex, ea, c, lk, sq, hq⟩ => ?_
  subst ex
  obtain rfl : u = Value.ref a := rx
  obtain ⟨ox, od, J, _⟩ := StX.insC_at I1 (.inr ⟨dx, fs, ea⟩)
  obtain ⟨mm, fr⟩ := I1.fr
  have sp0 : spIt C X.K fld s1 [.ref a] H1 (fun v H2 => ∃ it, v = .ref it ∧ H1 it = none ∧ s1.heap.objs.size ≤ it ∧ H2 = upd H1 it (ItT l it)) E := ⟨a, dx, l, fs, zs, rfl, ea, lk, sq, fun it e n => ⟨it, rfl, e, n, rfl⟩⟩
  refine PySem.W.owit_iter fr I1.ok.mod.kin J c.at_ c.fn (wpAny_call (codeAny_mono (F C c X.A X.stack s1 H1 [.ref a] [.ref a] _ E hr I1.env0 (.cons rfl .nil) sp0) fun r s' z => ?_))
  match r, z with
  | .error er, z => exact hx pins σ H1 s1 er s' I1 z
  | .ok (.ret v), z =>
    obtain ⟨y, H2, os, br, un, ok, ry, it, ey, e1, hn, eH⟩ := z
    subst ey
    subst eH
    obtain rfl : v = Value.ref it := ry
    have I2 : Inv X pins σ (upd H1 it (ItT l it)) s' := I1.call' os un ok br fun b m => by cases m
    have eo := itT_get I2 upd_same
    refine tup_next eo ?_
    have e2 : upd H1 it (ItT l it) it = some (.ext fun h => h.get? it = some (itTup l 0)) := upd_same
    have I3 := ItX.inv_drop I2 e2
    rw [ItX.dropH_upd e1] at I3
    have fp := ItX.inv_fp I2 e2 (Nat.le_trans I1.sz hn)
    rw [ItX.dropH_upd e1] at fp
    refine ⟨it, [it], _, _, H1, rfl, I3, turn_tuple l it, ⟨_, eo, rfl, rfl⟩, fun b hb => ?_, hq⟩
    obtain rfl : b = it := by simpa using hb
    exact fp
end OwR
end
section
/-! list(o), o an object whose __iter__ gives a tuple's iterator and whose __len__ its length. -/
namespace OwR
open PySem PySem.Spec PyProof.Rows L2
section
variable {X : Cx} {pins : List (Addr × Obj)} {σ : L2.St} {H : Hp} {s : Shared}
/-- a list has been filled, an iterator has turned -/
theorem listed {S it : Addr} {xs ys : List V} {acc : Array Value} {c : Nat} {h' : Heap} {t' : Nat} (I : Inv X pins σ H s) (fp : FpOk X pins H it) (hS : H S = some (.lst ys)) (k : ∀ b o, b ≠ S → b ≠ it → s.heap.get? b = some o → h'.get? b = some o)
    (eS : h'.get? S = some ({ cls := .type "list", dict := none, data := .seq acc c, slots := #[] } : Obj)) (rv : Vals xs acc.toList) (hz : xs.length ≤ sizeLine) : Inv X pins σ (upd H S (.lst xs)) { s with heap := h', toks := t' } := by
  have nS : ∀ {b : Addr} {u : HO}, H b = some u → (∀ zs, u ≠ .lst zs) → b ≠ S := fun {b u} e n z => by
    rw [z, hS] at e
    exact n ys (Option.some.inj e).symm
  have nN : ∀ {b : Addr}, H b = none → b ≠ S := fun {b} e z => by
    rw [z, hS] at e
    cases e
  have nI : ∀ {b : Addr} {u : HO}, H b = some u → b ≠ it := fun {b u} e z => by
    rw [z, fp.1] at e
    cases e
  have ni : ∀ {b : Addr}, b ∉ [it] → b ≠ it := fun {b} m z => m (List.mem_singleton.mpr z)
  refine I.step (g' := s.gens) (d' := s.drawn) (ch := [it]) (fun b m => ?_) (fun b o _ _ m e n => k b o (nN n) (ni m) e) (fun b o _ _ m e n => ⟨o.slots, k b o (nN n) (ni m) e⟩) (fun b o m e n => by rw [upd_ne (nN n)]; exact n) (fun b o m e => ?_)
    (fun b zs e => by rw [upd_ne (nS e fun _ z => by cases z)]; exact e) (fun b o u e => by rw [upd_ne (nS e fun _ z => by cases z)]; exact e) (fun b ps e => ⟨#[], by rw [upd_ne (nS e fun _ z => by cases z), e]; simp⟩) (fun m hm => ?_) (fun b u e => ?_) I.bare
  · obtain rfl : b = it := by simpa using m
    exact ⟨fp.2.2.2.1, fp.2.1, fp.2.2.2.2.1, fp.2.2.2.2.2⟩
  · by_cases c : b = S
    · subst c
      exact ⟨_, eS⟩
    · exact ⟨o, k b o c (ni m) e⟩
  · obtain ⟨o, es, ep, ho, r⟩ := hm
    exact ⟨o, es, ep, k _ o (nN I.free) (Ne.symm fp.2.1) ho, r⟩
  · by_cases c : b = S
    · subst c
      rw [upd_same] at e
      cases e
      exact ⟨hz, acc.toList, _, rv, eS⟩
    · rw [upd_ne c] at e
      refine (I.hok b u e).stay (fun d v hd q => k d v ?_ ?_ q) (fun d z => ?_) fun d zs z => ?_
      · rcases hd with z | z
        · rw [z]
          exact c
        · exact nS z fun _ w => by cases w
      · rcases hd with z | z
        · rw [z]
          exact nI e
        · exact nI z
      · rw [upd_ne (nS z fun _ w => by cases w)]
        exact z
      · rw [upd_ne (nS z fun _ w => by cases w)]
        exact z
end
theorem items_all {its : List Value} {acc : Array Value} (h : ItemsOf (fun i v => its.toArray[i]? = some v) acc its.toArray.size) : acc.toList = its := by
  refine List.ext_getElem? fun i => ?_
  obtain ⟨h1, h2⟩ := h
  have h1' : acc.size = its.length := by simpa using h1
  cases e : acc.toList[i]? with
  | some v =>
    have e2 : acc[i]? = some v := by rw [← Array.getElem?_toList]; exact e
    have e3 : its.toArray[i]? = some v := h2 i v e2
    rw [List.getElem?_toArray] at e3
    exact e3.symm
  | none =>
    have : acc.toList.length ≤ i := List.getElem?_eq_none_iff.mp e
    rw [Array.length_toList, h1'] at this
    exact (List.getElem?_eq_none this).symm
/-- len(self) is len(self.fld) -/
def spLn (C : Addr) (K : PySem.W.Frag) (fld : Str) : Sp := fun vs H Q _ => ∃ (a dx l : Addr) (fs : List (Str × V)) (zs : List V), vs = [.ref a] ∧ H a = some (.ins C dx fs) ∧ fs.lookup fld = some (.ref l) ∧ SqT K H l zs ∧ Q (.int (zs.length : Nat)) H
def rListO (K : PySem.W.Frag) (f g : Addr) (fld : Str) : List V → Hp → VK → Prop := fun xs H Q => ∃ (a C dx l : Addr) (fs : List (Str × V)) (zs : List V), xs = [.ref a] ∧ H a = some (.ins C dx fs) ∧ OwnIt K C f fld ∧ Len1 K C g ∧ fs.lookup fld = some (.ref l) ∧ SqT K H l zs ∧ ∀ q, H q = none → Q (.ref q) (upd H q (.lst zs))
theorem asInt_of (n : Int) (t : Tok) : asInt? (.int n t) = pure (some n) := rfl
/-- the hint of how many there are -/
theorem hint_own {prog : Program} {w : World} {A : Around} {E : Value → Shared → Prop} {s : Shared} {K : PySem.W.Frag} {a C g : Addr} {ox : Obj} {od : Option Obj} {Q : Bool → Shared → Prop} (X : K.In s.heap) (J : PySem.W.InstAt s.heap a ox C od) (c : Len1 K C g)
    (h : ∀ E' : Value → Shared → Prop, wpAny (model prog w) A (call (.builtin "len") [.ref a]) (fun v s' => ∃ (n : Int) (t : Tok), v = .int n t ∧ n.toNat ≤ sizeLine ∧ Q (n != 0) s') E' s) : wpAny (model prog w) A (Builtin.List.listLengthHint (.ref a)) Q E s := by
  unfold Builtin.List.listLengthHint
  refine wpAny_bind (wpAny_bind (J.type.here ((PySem.W.looks_findIn X c.at_).here ?_)))
  refine PySem.W.KFB.if_not rfl ?_
  refine wpAny_ite_split (fun _ => ?_) (fun z => absurd rfl z)
  refine wpAny_bind (wpAny_rule ?_)
  refine wpAny_bind (wpAny_attempt (wpAny_mono (h _) (fun v s' q => ?_) fun _ _ z => z))
  obtain ⟨n, t, rfl, hn, q⟩ := q
  refine wpAny_bind (m := asInt? (.int n t)) (wpAny_pure ?_)
  exact PySem.W.KFB.if_not (notLongL hn) (wpAny_pure q)
theorem call_listO {X : Cx} {k : Nat} {f g : Addr} {fld : Str} (F : ∀ C, OwnIt X.K C f fld → FnSR X.prog X.w X.K X.mg X.base CX0 k f (spIt C X.K fld)) (G : ∀ C, Len1 X.K C g → OwnIt X.K C f fld → FnR X.prog X.w X.K X.mg X.base CX0 k g (spLn C X.K fld)) (hc : X.calm = true) (hr : Room (k + 3) X.A) : CallR X (.type "list") (rListO X.K f g fld) := by
  intro pins s σ H xs us Q I rv h
  obtain ⟨a, C, dx, l, fs, zs, rfl, ha, cI, cL, lk, sq, q⟩ := h
  obtain rfl := Vals.ref1 rv
  have fr0 : H s.heap.objs.size = none := I.hok.fresh (Nat.le_refl _)
  refine callType_codes (Q₁ := fun obj t => obj = .ref s.heap.objs.size ∧ t = { s with heap := s.heap.push { cls := .type "list", data := .seq #[] } }) PySem.F.called_list (PySem.F.typeCall_list_1 _) PySem.F.entry_list_init (code_list_new _ ⟨rfl, rfl⟩) fun obj t ht => ?_
  obtain ⟨rfl, rfl⟩ := ht
  have hS : (s.heap.push { cls := .type "list", data := .seq #[] }).get? s.heap.objs.size = some { cls := .type "list", data := .seq #[] } := Heap.get?_push_size _ rfl
  refine ⟨⟨_, hS, rfl⟩, PySem.F.args_list_init_2 _ _, ?_⟩
  have I1 : Inv X pins σ (upd H s.heap.objs.size (.lst [])) { s with heap := s.heap.push { cls := .type "list", data := .seq #[] } } := I.lnew (its := []) (t' := s.toks) .nil (Nat.zero_le _)
  generalize eSz : s.heap.objs.size = S at *
  show wpAny _ _ (do let old ← Builtin.List.listItems (.ref S); Builtin.List.listUpdate (.ref S) (fun _ => #[]); letGo old.toList.reverse; Builtin.List.listExtendWith (.ref S) (.ref a) .none) _ _ _
  refine wpAny_bind ?_
  unfold Builtin.List.listItems
  refine wpAny_bind (wpAny_seqItems hS rfl (wpAny_pure ?_))
  show wpAny _ _ (updateSeq S (fun _ => #[]) >>= fun _ => letGo (#[] : Array Value).toList.reverse >>= fun _ => Builtin.List.listExtendWith (.ref S) (.ref a) .none) _ _ _
  refine wpAny_bind (wpAny_updateSeq hS rfl ?_)
  have I2 := I1.lset (f := fun _ => #[]) (its := []) (its' := []) (ys := []) (t' := s.toks) upd_same hS rfl .nil (Nat.zero_le _)
  rw [upd_upd] at I2
  refine wpAny_bind (wpAny_letGo ?_)
  have ha2 : upd H S (.lst []) a = some (.ins C dx fs) := by
    rw [upd_ne (ne_of_none ha fr0)]
    exact ha
  have sq2 : SqT X.K (upd H S (.lst [])) l zs := sq.elim (fun r => .inl (r.elim (fun e => .inl (by rw [upd_ne (ne_of_none e fr0)]; exact e)) fun ⟨o, e⟩ => .inr ⟨o, by rw [upd_ne (ne_of_none e fr0)]; exact e⟩)) .inr
  have eS2 : upd H S (.lst []) S = some (.lst []) := upd_same
  have done : ∀ s', Inv X pins σ (upd (upd H S (.lst [])) S (.lst zs)) s' → EP X pins σ Q (.ref S) s' := fun s' J => by
    rw [upd_upd] at J
    exact ⟨.ref S, _, J, rfl, q S fr0⟩
  generalize upd H S (.lst []) = H2 at I2 ha2 sq2 eS2 done
  generalize ({ s with heap := ((s.heap.push { cls := .type "list", data := .seq #[] }).update S (Obj.mapSeq fun _ => #[])), toks := s.toks } : Shared) = s2 at I2 ⊢
  have sz := sizeLine_eq
  have nSa : S ≠ a := fun z => by
    rw [z, ha2] at eS2
    cases eS2
  obtain ⟨ox, od, J, _⟩ := StX.insC_at I2 (.inr ⟨dx, fs, ha2⟩)
  obtain ⟨mm, fr⟩ := I2.fr
  obtain ⟨itz, rvz, plz, hz⟩ := I2.tuple sq2
  unfold Builtin.List.listExtendWith
  refine wpAny_bind (J.type.here ?_)
  have t1 : Builtin.List.listSameRef (.ref S) (.ref a) = false := by simp [Builtin.List.listSameRef, nSa]
  have t2 : (Value.ref C == Value.type "list") = false := rfl
  have t3 : (Value.ref C == Value.type "tuple") = false := rfl
  simp only [t3, t2, t1, Bool.false_eq_true, Bool.or_false, if_false]
  have sp0 : spIt C X.K fld s2 [.ref a] H2 (fun v G2 => ∃ it, v = .ref it ∧ H2 it = none ∧ s2.heap.objs.size ≤ it ∧ G2 = upd H2 it (ItT l it)) E0 := ⟨a, dx, l, fs, zs, rfl, ha2, lk, sq2, fun it e n => ⟨it, rfl, e, n, rfl⟩⟩
  refine wpAny_bind (PySem.W.owit_iter fr I2.ok.mod.kin J cI.at_ cI.fn (wpAny_call (codeAny_mono (F C cI X.A.in1.in1 X.stack s2 H2 [.ref a] [.ref a] _ E0 (hr.in1.in1.mono (Nat.le_succ k)) I2.env0.in1.in1 (.cons rfl .nil) sp0) fun r s' z => ?_)))
  match r, z with
  | .error er, z => exact z.elim
  | .ok (.ret v), z =>
    obtain ⟨y, G3, os, br, un, ok, ry, it, ey, e1, hn, eH⟩ := z
    subst ey
    subst eH
    obtain rfl : v = Value.ref it := ry
    have I3 : Inv X pins σ (upd H2 it (ItT l it)) s' := I2.call' os un ok br fun b m => by cases m
    have nlit : l ≠ it := fun e => by
      obtain ⟨o, eo, _⟩ := plz
      exact absurd (Nat.lt_of_lt_of_le (Heap.lt_size eo) (e ▸ hn)) (Nat.lt_irrefl _)
    have mono : ∀ {b : Addr} {u : HO}, H2 b = some u → upd H2 it (ItT l it) b = some u := fun {b u} e => by
      rw [upd_ne (ne_of_none e e1)]
      exact e
    have ha3 := mono ha2
    have eS3 := mono eS2
    have sq3 : SqT X.K (upd H2 it (ItT l it)) l zs := sq2.elim (fun r => .inl (r.elim (fun e => .inl (mono e)) fun ⟨o, e⟩ => .inr ⟨o, mono e⟩)) .inr
    have e2 : upd H2 it (ItT l it) it = some (.ext fun h => h.get? it = some (itTup l 0)) := upd_same
    have fp0 := ItX.inv_fp I3 e2 (Nat.le_trans I2.sz hn)
    rw [ItX.dropH_upd e1] at fp0
    have loop : ∀ s4, Inv X pins σ (upd H2 it (ItT l it)) s4 → codeAny (model X.prog X.w) X.A.in1 (.builtin "list.extend.loop" ⟨[.ref S, .ref it, .none], []⟩) (wants (fun r t => r = .none ∧ EP X pins σ Q (.ref S) t) X.xe) s4 := fun s4 I4 => by
      have eo := itT_get I4 upd_same
      obtain ⟨iz, rz, pz, lz⟩ := I4.tuple sq3
      obtain ⟨z1, l1, c1, r1, _, f1⟩ := I4.lstM eS3
      cases r1
      have W := Walks.tuple (prog := X.prog) (w := X.w) (A := X.A.in1.in1) (I.ok.hd hc) it l nlit iz.toArray
      have I5 := ItX.inv_drop I4 e2
      rw [ItX.dropH_upd e1] at I5
      have nSf : S ∉ [it, l] := fun m => by
        rcases List.mem_cons.mp m with z | m
        · rw [z, e1] at eS2
          cases eS2
        · obtain ⟨o, e3, c3, d3⟩ := pz
          rw [← List.mem_singleton.mp m, f1] at e3
          cases e3
          exact absurd (show Value.type "list" = Value.type "tuple" from c3) (by decide)
      refine codeAny_extend_loopS W.toS (by rw [List.size_toArray, ← rz.length]; exact lz) S nSf .none iz.toArray.size 0 s4 #[] c1 rfl (Nat.zero_le _) ⟨⟨_, eo, rfl, rfl⟩, pz⟩ f1 (ItemsOf.nil _) fun t acc c2 mv f2 ic => ?_
      refine ⟨rfl, done t ?_⟩
      have J5 := listed (xs := zs) (acc := acc) (c := c2) (h' := t.heap) (t' := t.toks) I5 fp0 eS2 (fun b o n1 n2 e => mv.heap b o (fun m => (List.mem_cons.mp m).elim n1 fun m => n2 (List.mem_singleton.mp m)) e) f2 (by rw [items_all ic]; exact rz) lz
      rw [Moved.eq_with mv]
      exact J5
    refine tup_next (itT_get I3 upd_same) ?_
    obtain ⟨ox3, od3, J3, _⟩ := StX.insC_at I3 (.inr ⟨dx, fs, ha3⟩)
    obtain ⟨m3, fr3⟩ := I3.fr
    refine wpAny_bind (wpAny_holding (hint_own I3.kIn J3 cL fun E' => ?_))
    refine PySem.W.len_K fr3 I3.ok.mod.kin J3 cL.at_ cL.fn (wpAny_call (codeAny_mono (G C cL cI X.A.in1.in1.in1 X.stack s' _ [.ref a] [.ref a] (fun v G4 => v = .int (zs.length : Nat) ∧ G4 = upd H2 it (ItT l it)) E0 hr.in1.in1.in1 I3.env0.in1.in1.in1 (.cons rfl .nil) ⟨a, dx, l, fs, zs, rfl, ha3, lk, sq3, rfl, rfl⟩) fun r2 s5 z2 => ?_))
    match r2, z2 with
    | .error er, z2 => exact z2.elim
    | .ok (.ret v2), z2 =>
      obtain ⟨y2, G5, os2, br2, un2, ok2, ry2, ey2, eG⟩ := z2
      subst ey2
      subst eG
      obtain ⟨tk, rfl⟩ := ry2
      have I5 : Inv X pins σ (upd H2 it (ItT l it)) { s5 with toks := s5.toks + 1 } := (I3.call' os2 un2 ok2 br2 fun b m => by cases m).tok _
      refine ⟨⟨Int.natCast_nonneg _, by have : zs.length ≤ 16777216 := by rw [← sz]; exact hz
                                        omega⟩, _, _, rfl, by rw [Int.toNat_natCast]; exact hz, ?_⟩
      refine wpAny_ite_split (fun _ => ?_) (fun _ => wpAny_pure ⟨plainId_quiet PySem.F.plain_extend_loop _, loop _ I5⟩)
      refine wpAny_bind (wpAny_rule ?_)
      refine wpAny_bind ?_
      show wpAny _ _ (updateSeq S (·.push .none) >>= fun _ => updateSeq S (·.pop)) _ _ _
      obtain ⟨z6, l6, c6, r6, _, f6⟩ := I5.lstM eS3
      cases r6
      refine wpAny_bind (wpAny_updateSeq f6 rfl ?_)
      have I6 := I5.lset (f := (·.push Value.none)) (its := []) (its' := [Value.none]) (ys := [.non]) (t' := s5.toks + 1) eS3 f6 (by simp) (.cons rfl .nil) (by rw [List.length_singleton, sz]; decide)
      obtain ⟨z7, l7, c7, r7, _, f7⟩ := I6.lstM upd_same
      obtain ⟨u7, rfl, ru7⟩ := r7.one
      refine wpAny_updateSeq f7 rfl ?_ (by show 1 ≤ sizeLine; rw [sz]; decide) (by show 0 ≤ sizeLine + 1; exact Nat.zero_le _)
      have I7 := I6.lset (f := (·.pop)) (its := [u7]) (its' := []) (ys := []) (t' := s5.toks + 1) upd_same f7 (by rfl) .nil (Nat.zero_le _)
      rw [upd_upd] at I7
      have back : upd (upd H2 it (ItT l it)) S (.lst []) = upd H2 it (ItT l it) := funext fun b => by
        by_cases e : b = S
        · rw [e, upd_same, eS3]
        · rw [upd_ne e]
      rw [back] at I7
      exact wpAny_pure ⟨plainId_quiet PySem.F.plain_extend_loop _, loop _ I7⟩
end OwR
end
section
/-! def f(a, .., *v, k): called with the keyword; instances made so. -/
namespace OwR
open PySem PySem.Spec PyProof.Rows L2
/-- a promise by places and by the values of given keywords -/
def FnRK (P : Program) (w : World) (K : PySem.W.Frag) (mg : Str → Option Value) (base : Heap) (CX : CXT) (k : Nat) (f : Addr) (ks : List Str) (sp : List V → Sp) : Prop :=
  ∀ (A : Around) (outer : List Env) (s : Shared) (H : Hp) (us ws : List Value) (vs zs : List V) (Q : VK) (E : XK), Room k A → Env0 P w K mg base A outer s H → Vals vs us → Vals zs ws → sp zs vs H Q E →
    codeAny (model P w) A (.call (.ref f) ⟨us, ks.zip ws⟩) (CR CX outer P w H s Q E) s
section
variable {CX : CXT} {P : Program} {w : World} {K : PySem.W.Frag} {mg : Str → Option Value} {base : Heap} {k : Nat} {f : Addr} {name qual : Str} {params : Arguments} {body : List Stmt} {scope : Scope} {dV kV doc pm cdv ct oc : Value} {an od : Option Addr}
  {osl : Array (Option Value)} {N ps : List Str} {sp : Sp}
theorem fn_starko {pv kn : Str} (lk : K.lookup f = some ⟨oc, od, .func (PySem.W.fnOf name qual params body scope dV kV doc pm an cdv ct), osl⟩) (hcd : PySem.W.codeIn K cdv qual = true) (S : FnScope N (ps ++ [kn, pv]) scope) (hCX : StX.CXUp CX)
    (hb : ∀ (us rest : List Value) (y : Value), us.length = ps.length → bindArgs (PySem.W.fnOf name qual params body scope dV kV doc pm an cdv ct) ⟨us ++ rest, [(kn, y)]⟩ = (newTuple rest >>= fun t => pure (ps.zip us ++ [(kn, y), (pv, t)])))
    (hbody : ∀ (A : Around) (outer : List Env) (s : Shared) (H : Hp) (vs : List V) (Q : VK) (E : XK), Room k (A.deeper (envOfC qual scope s.heap.objs.size f cdv)) → sp vs H Q E →
      ∃ t, PSs (cxOf CX P w K mg base N qual scope f cdv A outer s H E) body t ∧ t { nx := fun _ H' => Q .non H', rt := Q } (start N vs) H) :
    FnRK P w K mg base CX (k + 1) f [kn] (fun zs vs H Q E => ∃ as rest y, zs = [y] ∧ vs = as ++ rest ∧ as.length = ps.length ∧ rest.length ≤ sizeLine ∧ ∀ p, H p = none → sp (as ++ [y, V.ref p]) (upd H p (.tup rest)) Q E) := by
  intro A outer s H us ws vs zs Q E hr e0 r rz hsp
  obtain ⟨as, rest, y, rfl, rfl, hl, hz, hq⟩ := hsp
  obtain ⟨u1, u2, rfl, r1, r2⟩ := StX.vals_split r
  obtain ⟨yv, rfl, ry⟩ := rz.one
  have fresh : H s.heap.objs.size = none := e0.hok.fresh (Nat.le_refl _)
  have l1 : u1.length = ps.length := r1.length.symm.trans hl
  have l2 : u2.length ≤ sizeLine := r2.length ▸ hz
  refine StX.run_bnd (args := ⟨u1 ++ u2, [kn].zip [yv]⟩) lk hcd S hr e0 (G := fun xs G2 => ∃ p, H p = none ∧ xs = as ++ [y, V.ref p] ∧ G2 = upd H p (.tup rest)) (fun A' Ex Q' h => ?_) fun s2 G2 xs g hr' => ?_
  · show wpAny _ _ (bindArgs _ ⟨u1 ++ u2, [(kn, yv)]⟩) _ _ _
    rw [hb u1 u2 yv l1]
    refine wpAny_bind (wpAny_newTuple (wpAny_pure ?_) l2)
    have laid : ObjOk P w (upd H s.heap.objs.size (.tup rest)) (s.heap.push ({ cls := .type "tuple", data := .seq u2.toArray } : Obj)) s.heap.objs.size (.tup rest) := ⟨hz, u2, r2, ⟨_, Heap.get?_push_size _ rfl, rfl, _, rfl⟩⟩
    have un := StX.un_laid (fs := frs outer) (s := s) (o := ({ cls := .type "tuple", data := .seq u2.toArray } : Obj)) (u := .tup rest) fresh
    have z := h _ _ (as ++ [y, V.ref s.heap.objs.size]) (u1 ++ [yv, Value.ref s.heap.objs.size]) (StX.env0_laid e0 laid) un rfl (fun e s' => hCX outer s H _ _ E e s' un (fun b o q => Heap.get?_push_of_some _ q) rfl) (r1.append (.cons ry (.cons rfl .nil)))
      (by rw [List.length_append, List.length_append, hl] <;> rfl) ⟨_, fresh, rfl, rfl⟩
    rw [List.zip_append l1.symm] at z
    exact z
  · obtain ⟨p, hp, rfl, rfl⟩ := g
    exact hbody A outer s2 _ _ Q E hr' (hq p hp)
end
section
variable {X : Cx} {CX : CXT} {k : Nat} {f C : Addr} {ks : List Str} {sp : List V → Sp} {E : XK} {x : Str} {p pos : Pos} {e : Expr} {es : List Expr} {kws : List Keyword} {t tk : TA}
theorem run_makeRK {pins : List (Addr × Obj)} {σ : L2.St} {H : Hp} {s : Shared} {Q : VK} {us ws : List Value} {vs zs : List V} (M : Mk X.K C f) (F : FnRK X.prog X.w X.K X.mg X.base CX k f ks sp) (hr : Room (k + 1) X.A) (hx : Passes CX X E) (I : Inv X pins σ H s) (r : Vals vs us) (rz : Vals zs ws)
    (h : ∀ y dy, H y = none → H dy = none → dy ≠ y → sp zs (.ref y :: vs) (upd (upd H dy (.own y)) y (.ins C dy [])) (fun v G => v = .non ∧ Q (.ref y) G) E) : wpAny (model X.prog X.w) X.A (call (.ref C) us (ks.zip ws)) (EP X pins σ Q) X.xe s := by
  have hq := h (s.heap.objs.size + 1) s.heap.objs.size (I.hok.fresh (Nat.le_succ _)) (I.hok.fresh (Nat.le_refl _)) (Nat.ne_of_lt (Nat.lt_succ_self _))
  have J := Inv.made (C := C) I
  have rr : Vals (V.ref (s.heap.objs.size + 1) :: vs) (Value.ref (s.heap.objs.size + 1) :: us) := .cons rfl r
  refine wpAny_call (make_map (f := f) I.kIn M.makes M.init (beq_iff_eq.mp M.fn) (codeAny_mono (F _ X.stack _ _ (Value.ref (s.heap.objs.size + 1) :: us) ws _ zs _ E (hr.make C us (ks.zip ws)) (J.env0.make C us (ks.zip ws)) rr rz hq) fun r s' z => ?_))
  match r, z with
  | .error er, z => exact hx pins σ _ _ er s' J z
  | .ok (.ret u), z =>
    obtain ⟨v, G, I3, rv, ev, q3⟩ := J.after z
    subst ev
    exact ⟨rv, ⟨V.ref (s.heap.objs.size + 1), G, I3, rfl, q3⟩⟩
def tMakeRK (C : Addr) (sp : List V → Sp) (E : XK) (t tk : TA) : TE := fun σ H Q => t σ H fun vs H1 => tk σ H1 fun zs H2 => ∀ y dy, H2 y = none → H2 dy = none → dy ≠ y → sp zs (.ref y :: vs) (upd (upd H2 dy (.own y)) y (.ins C dy [])) (fun v G => v = .non ∧ Q (.ref y) G) E
/-- C(e, .., k = v), __init__ with a starred parameter -/
theorem pe_makeRK (M : Mk X.K C f) (F : FnRK X.prog X.w X.K X.mg X.base CX k f ks sp) (hr : Room (k + 1) X.A) (hg : Gl X x) (hm : X.mg x = some (.ref C)) (hx : Passes CX X E) (ha : PA X (e :: es) t) (hkw : PK X kws tk)
    (hall : (backToKw pos (keywordEach kws X.env)).all (·.1.isSome) = true := by rfl) (hks : (backToKw pos (keywordEach kws X.env)).filterMap (·.1) = ks := by rfl) (hdb : (x == ("__debug__" : Str)) = false := by decide)
    (he : starEach (e :: es) X.env = (false, eval e X.env) :: starEach es X.env := by rfl) (hpl : ((backTo pos (starEach (e :: es) X.env)).any (·.1) || (backToKw pos (keywordEach kws X.env)).any (·.1.isNone)) = false := by rfl) :
    PE X (.Call (.Name x p) (e :: es) kws pos) (tMakeRK C sp E t tk) := by
  refine ⟨fun pins s σ H Q I h => ?_⟩
  refine wpAny_Call_Name_kw (ld_glob I hg hm ?_ hdb)
  refine PySem.W.callWith_KW (h₀ := X.base) I.ok.mod.kin M.kp hall (thn (ha.run pos pins s σ H _ I h) fun us s1 ⟨vs, H1, I1, r, q⟩ => ?_) hpl he
  refine thn (hkw.run pos pins s1 σ H1 _ I1 q) fun ws s2 ⟨zs, H2, I2, rz, q2⟩ => ⟨I2.kIn, ?_⟩
  rw [hks]
  exact run_makeRK M F hr hx I2 r rz q2
end
end OwR
end
section
/-! xs[::k]; an own == asked of any value; str(o) by an own __str__. -/
namespace OwR
open PySem PySem.Spec PyProof.Rows L2
/-! ### xs[::k] -/
theorem vals_pick {xs : List V} {us : List Value} (r : Vals xs us) : ∀ idx : List Nat, Vals (idx.filterMap (xs[·]?)) (idx.filterMap (us[·]?))
  | [] => .nil
  | i :: l => by
    have ih := vals_pick r l
    rw [List.filterMap_cons, List.filterMap_cons]
    cases hx : xs[i]? with
    | none =>
      have e : us[i]? = none := by
        rw [List.getElem?_eq_none_iff] at hx ⊢
        rw [← r.length]
        exact hx
      rw [e]
      exact ih
    | some x =>
      obtain ⟨u, hu, ru⟩ := r.get hx
      rw [hu]
      exact .cons ru ih
theorem pick_mem {α : Type} {xs : List α} : ∀ {idx : List Nat} {y : α}, y ∈ idx.filterMap (xs[·]?) → y ∈ xs := fun {idx y} h => by
  obtain ⟨i, _, e⟩ := List.mem_filterMap.mp h
  exact List.mem_of_getElem? e
def tStepL (K : PySem.W.Frag) (te : TE) : TE := fun σ H Q => te σ H fun x H1 => ∃ a xs, x = .ref a ∧ SqL K H1 a xs ∧ ∀ p ys, H1 p = none → (∀ y ∈ ys, y ∈ xs) → Q (.ref p) (upd H1 p (.lst ys))
theorem pe_stepL {X : Cx} {e : Expr} {te : TE} {n : Nat} {k : Nat} {p1 p3 pos : Pos} (h0 : (n : Int) ≠ 0) (he : PE X e te) : PE X (.Subscript e (.Slice none none (some (.Constant (.int (n : Int)) k p1)) p3) pos) (tStepL X.K te) := by
  refine ⟨fun pins s σ H Q I h => ?_⟩
  refine Subscript_ (thn (he.run pins s σ H _ I h) fun v s1 w => ?_)
  obtain ⟨x, H1, I1, r1, a, xs, rfl, hx, q⟩ := w
  cases r1
  have hst : PO X (some (.Constant (.int (n : Int)) k p1)) (tPart (tC (.int (n : Int)))) := po_some pe_int
  refine wpAny_Slice (thn (po_none.run pins s1 σ H1 (fun o H2 => o = none ∧ H2 = H1) I1 ⟨rfl, rfl⟩) fun vl s2 w2 => ?_)
  obtain ⟨l, H2, I2, pl, rfl, rfl⟩ := w2
  refine thn (po_none.run pins s2 σ H2 (fun o H3 => o = none ∧ H3 = H2) I2 ⟨rfl, rfl⟩) fun vu s3 w3 => ?_
  obtain ⟨u, H3, I3, pu, rfl, rfl⟩ := w3
  refine thn (hst.run pins s3 σ H3 (fun o H4 => o = some (n : Int) ∧ H4 = H3) I3 ⟨(n : Int), rfl, rfl, rfl⟩) fun vs s4 w4 => ?_
  obtain ⟨o, H4, I4, ps, rfl, rfl⟩ := w4
  have I5 : Inv X pins σ H4 { s4 with heap := s4.heap.push { cls := .type "slice", data := .fields #[vl, vu, vs] } } := I4.kept (t' := s4.toks) fun b ob q => Heap.get?_push_of_some _ q
  obtain ⟨its, r, ht, hz⟩ := I5.list hx
  have hlen := r.length
  show wpAny (model X.prog X.w) X.A (subscriptTail e (.Slice none none (some (.Constant (.int (n : Int)) k p1)) p3) (.ref a) (.ref s4.heap.objs.size)) (EP X pins σ Q) X.xe { s4 with heap := s4.heap.push { cls := .type "slice", data := .fields #[vl, vu, vs] } }
  refine tail_any (ops := [.ref a, .ref s4.heap.objs.size]) ht.isList.typeIs (PySem.slot_list_getitem.lookup) ?_ (by with_unfolding_all rfl)
  refine wpAny_getItem_list_slice ht.isList (Heap.IsSliceOf.new _ vl vu vs) pl pu ps (fun z => h0 (Option.some.inj z)) ?_ (by rw [List.size_toArray]; omega)
  have hz2 := slicePick_size_le its.toArray none none (some (n : Int))
  have ep : slicePick its.toArray none none (some (n : Int)) = ((sliceRange (sliceBounds none none (some (n : Int)) its.toArray.size).1 (sliceBounds none none (some (n : Int)) its.toArray.size).2.1 (sliceBounds none none (some (n : Int)) its.toArray.size).2.2).filterMap (its[·]?)).toArray := by
    unfold slicePick
    simp
  rw [ep] at hz2 ⊢
  generalize sliceRange (sliceBounds none none (some (n : Int)) its.toArray.size).1 (sliceBounds none none (some (n : Int)) its.toArray.size).2.1 (sliceBounds none none (some (n : Int)) its.toArray.size).2.2 = idx at hz2 ⊢
  have rv := vals_pick r idx
  rw [List.size_toArray, List.size_toArray] at hz2
  refine ⟨.ref _, _, I5.laid (t' := s4.toks) (o := .lst (idx.filterMap (xs[·]?))) (fun b ob q => Heap.get?_push_of_some _ q) (Nat.le_refl _) ?_, rfl, q _ _ (I5.hok.fresh (Nat.le_refl _)) fun y hy => pick_mem hy⟩
  exact ⟨by rw [rv.length]; omega, _, 0, rv, Heap.get?_push_size _ rfl⟩
/-! ### an own comparison asked of any value -/
def rCmpX (K : PySem.W.Frag) (op : CmpOp) (g : Addr) (sp : Sp) (E : XK) : R2 := fun x y H Q => ∃ (p C dx : Addr) (fs : List (Str × V)) (t : Value), x = .ref p ∧ H p = some (.ins C dx fs) ∧ TyX K H y t ∧ Cmp1 K op C g ∧ PySem.W.notFirst K C t = true ∧ sp [.ref p, y] H Q E
section
variable {X : Cx} {CX : CXT} {k : Nat} {g : Addr} {sp : Sp} {E : XK}
theorem rc_ownX {o : CmpOp} (hu : X.A.units < cLine) (F : FnR X.prog X.w X.K X.mg X.base CX k g sp) (hr : Room k X.A) (hx : Passes CX X E) : OpR X (richCompare o) (rCmpX X.K o g sp E) := by
  intro pins s σ H x y v u Q I rx ry h
  obtain ⟨p, C, dx, fs, t, rfl, ep, ty, c1, nf, hq⟩ := h
  obtain rfl : v = Value.ref p := rx
  obtain ⟨ox, od, J, _⟩ := StX.insC_at I (.inr ⟨dx, fs, ep⟩)
  obtain ⟨P, kx, pS, _⟩ := kit_of I ry ty
  obtain ⟨mm, fr⟩ := I.fr
  exact PySem.W.cmp_K hu fr I.ok.mod.kin J (kx.ty (model X.prog X.w) s.heap I.kIn pS) nf c1.at_ c1.fn (run_own F hr hx I (us := [.ref p, u]) (vs := [.ref p, y]) (.cons rfl (.cons ry .nil)) hq)
theorem op_ownEqX (hu : X.A.units < cLine) (F : FnR X.prog X.w X.K X.mg X.base CX k g sp) (hr : Room k X.A) (hx : Passes CX X E) : OpR X (compareOp .Eq) (rCmpX X.K .Eq g sp E) := fun pins s σ H x y v u Q I rx ry h => PySem.W.cmp_ofEq (rc_ownX hu F hr hx pins s σ H x y v u Q I rx ry h)
theorem op_ownEqXK {K : PySem.W.Frag} (hK : X.K = K) (hu : X.A.units < cLine) (F : FnR X.prog X.w X.K X.mg X.base CX k g sp) (hr : Room k X.A) (hx : Passes CX X E) : OpR X (compareOp .Eq) (rCmpX K .Eq g sp E) := by
  subst hK
  exact op_ownEqX hu F hr hx
/-! ### str(o) -/
structure Str1 (K : PySem.W.Frag) (C g : Addr) : Prop where
  at_ : PySem.W.findIn K (.ref C) "__str__" = some (some (.ref g))
  fn : PySem.W.isFn K (.ref g) = true
def rStrO (K : PySem.W.Frag) (g : Addr) (sp : Sp) (E : XK) : List V → Hp → VK → Prop := fun xs H Q => ∃ (a C dx : Addr) (fs : List (Str × V)), xs = [.ref a] ∧ H a = some (.ins C dx fs) ∧ Str1 K C g ∧ sp [.ref a] H (fun v H' => ∃ z : Str, v = .str z ∧ Q (.str z) H') E
theorem call_strO (hu : X.A.units + 2 < cLine) (F : FnR X.prog X.w X.K X.mg X.base CX k g sp) (hr : Room (k + 2) X.A) (hx : Passes CX X E) : CallR X (.type "str") (rStrO X.K g sp E) := by
  intro pins s σ H xs us Q I r h
  obtain ⟨a, C, dx, fs, rfl, ea, c, hq⟩ := h
  obtain rfl := Vals.ref1 r
  obtain ⟨ox, od, J, _⟩ := StX.insC_at I (.inr ⟨dx, fs, ea⟩)
  refine PySem.W.kso_call (by simpa using hu) I.kIn J c.at_ c.fn ?_
  refine wpAny_call (codeAny_mono (F X.A.in1.in1 X.stack s H [.ref a] [.ref a] _ E hr.in1.in1 I.env0.in1.in1 (.cons rfl .nil) hq) fun r s' hq => ?_)
  cases r with
  | error er => exact hx pins σ H s er s' I hq
  | ok fl =>
    cases fl with
    | ret u =>
      obtain ⟨v, H', I', rv, z, rfl, q2⟩ := I.after hq
      obtain ⟨t, rfl⟩ := rv
      exact ⟨.str z, H', I', ⟨t, rfl⟩, q2⟩
    | next => exact False.elim hq
    | brk => exact False.elim hq
    | cont => exact False.elim hq
end
end OwR
end
section
/-! a text == a dict, == an object with an own ==; x in o by an own __contains__. -/
namespace OwR
open PySem PySem.Spec PyProof.Rows L2
theorem str_no_plain (b : Str) (u : Tok) (l : Addr) (c : Value) (dd : Option Addr) (sl : Array (Option Value)) :
    Meets (Builtin.«str.__eq__» ⟨[.str b u, .ref l], []⟩) (fun _ R s => s.heap.get? l = some { cls := c, dict := dd, data := .plain, slots := sl } ∧ R (.ok (.ret .notImplemented)) s) :=
  .of_wp fun prog w A R s h => by obtain ⟨hp, g, d, tk, os⟩ := s; obtain ⟨hl, h⟩ := h; wp_walk using wpAny_loadPart' hl, wpAny_load hl; exact ⟨_, rfl, h⟩
theorem str_no_dict (b : Str) (u : Tok) (l : Addr) (c : Value) (es : Array DictEntry) (n : Nat) (dd : Option Addr) (sl : Array (Option Value)) :
    Meets (Builtin.«str.__eq__» ⟨[.str b u, .ref l], []⟩) (fun _ R s => s.heap.get? l = some { cls := c, dict := dd, data := .dict es n, slots := sl } ∧ R (.ok (.ret .notImplemented)) s) :=
  .of_wp fun prog w A R s h => by obtain ⟨hp, g, d, tk, os⟩ := s; obtain ⟨hl, h⟩ := h; wp_walk using wpAny_loadPart' hl, wpAny_load hl; exact ⟨_, rfl, h⟩
section
variable {prog : Program} {w : World} {A : Around} {E : Value → Shared → Prop} {s : Shared} {K : PySem.W.Frag} {x C f : Addr} {ox : Obj} {od : Option Obj} {z : Str} {t : Tok}
theorem rc_strOwn {Q : Value → Shared → Prop} (hu : A.units < cLine) (X : K.In s.heap) (I : PySem.W.InstAt s.heap x ox C od) (hd : ox.data = .plain) (sub : PySem.W.subIn K (.ref C) (.type "str") = some false)
    (eq : PySem.W.findIn K (.ref C) "__eq__" = some (some (.ref f))) (fn : PySem.W.isFn K (.ref f) = true) (h : wpAny (model prog w) A (call (.ref f) [.ref x, .str z t]) (PySem.W.CmpBack Q) E s) :
    wpAny (model prog w) A (richCompare .Eq (.str z t) (.ref x)) Q E s := by
  have one : wpAny (model prog w) A (tryCompare (.ref x) "__eq__" (.str z t)) (fun r s' => ∃ v, r = some v ∧ Q v s') E s := by
    unfold tryCompare
    refine wpAny_bind (PySem.W.ifBound_K X I eq fn (wpAny_mono h (fun v s' hv => ?_) fun _ _ e => e))
    cases v <;> first | exact hv.elim | exact wpAny_pure ⟨_, rfl, hv⟩
  have ta : s.TypeIs (.str z t) "str" := typeIs_str s z t
  have no : wpAny (model prog w) A (call (.builtin "str.__eq__") [.str z t, .ref x]) (fun v s' => v = .notImplemented ∧ s' = s) E s := by
    obtain ⟨cls, dd, data, sl⟩ := ox
    have hd : data = .plain := hd
    subst hd
    exact call_meets F.slot_str_eq ta F.entry_str_eq (F.args_str_eq_2 _ _) (str_no_plain z t x cls dd sl) ⟨I.at_, rfl, rfl⟩
  rcases hi : cmpInfo CmpOp.Eq with ⟨sym, f1, r1⟩
  have h1 := F.slot_str_eq
  have e2 : r1 = "__eq__" := by cases hi; rfl
  rw [hi] at h1
  subst e2
  simp only [richCompare, hi, ta.oneThing_none]
  refine wpAny_holding (wpAny_bind (wpAny_cRoomFor hu ?_))
  refine wpAny_bind (wpAny_typeOf ta (wpAny_bind (I.type.here ?_)))
  simp only [show (Value.type "str" != Value.ref C) = true from rfl, if_true]
  refine wpAny_bind ((PySem.W.looks_subIn X sub).here ?_)
  simp only [Bool.false_eq_true, if_false, Bool.not_false, if_true]
  refine wpAny_bind (m := tryCompare (.str z t) _ (.ref x)) (wpAny_tryCompare_declines ta h1 (wpAny_mono no (fun v s1 h1 => ⟨h1.1, ?_⟩) fun _ _ x => x))
  obtain ⟨_, rfl⟩ := h1
  refine wpAny_bind (wpAny_mono one (fun r s' q => ?_) fun _ _ e => e)
  obtain ⟨v, rfl, hq⟩ := q
  exact wpAny_pure hq
theorem sub_str_dict : isSubtype (.type "str") (.type "dict") = pure false := by rw [isSubtype_type]; kernel_rfl
theorem rc_strDict {l : Addr} {o : Obj} {es : Array DictEntry} {n : Nat} {Q : Value → Shared → Prop} (hu : A.units < cLine) (ho : s.heap.get? l = some o) (hc : o.cls = .type "dict") (hd : o.data = .dict es n) (h : Q (.bool false) s) : wpAny (model prog w) A (richCompare .Eq (.str z t) (.ref l)) Q E s := by
  obtain ⟨cls, dd, data, sl⟩ := o
  have hc : cls = .type "dict" := hc
  have hd : data = .dict es n := hd
  subst hc hd
  have tb : s.TypeIs (.ref l) "dict" := ⟨_, ho, rfl⟩
  exact PySem.SeqAt.rc_eq_decline_or (k := false) (typeIs_str s z t) tb (by decide) F.sub_dict_str F.slot_str_eq F.slot_dict_eq_refl
    (fun _ hq => call_meets F.slot_str_eq (typeIs_str s z t) F.entry_str_eq (F.args_str_eq_2 _ _) (str_no_dict z t l (.type "dict") es n dd sl) ⟨ho, hq⟩)
    (fun _ hq => by
      refine wpAny_call_entry F.slot_dict_eq_refl tb F.entry_dict_eq ?_ (F.args_dict_eq_2 _ _)
      show wpAny _ _ (Builtin.Dict.dictSlotArgs "__eq__" ⟨[.ref l, .str z t], []⟩ >>= _) _ _ s
      refine wpAny_bind ?_
      unfold Builtin.Dict.dictSlotArgs
      refine wpAny_bind (wpAny_notOrdered_dict tb ?_)
      show wpAny _ _ (pure (Value.ref l, Value.str z t)) _ _ s
      refine wpAny_pure ?_
      refine wpAny_bind (wpAny_isInstance (T := "str") (typeIs_str s z t) sub_str_dict ?_)
      simp only [Bool.not_false, if_true]
      exact wpAny_bind (wpAny_rule (wpAny_bind (wpAny_pure (wpAny_pure ⟨_, rfl, hq⟩)))))
    (fun _ hq => wpAny_of_eq (rfl : isSame (.str z t) (.ref l) = pure false) hq) (.inr hu) h
end
/-! ### the rules -/
structure StrEq (K : PySem.W.Frag) (C g : Addr) : Prop where
  sub : PySem.W.subIn K (.ref C) (.type "str") = some false
  at_ : PySem.W.findIn K (.ref C) "__eq__" = some (some (.ref g))
  fn : PySem.W.isFn K (.ref g) = true
/-- a text == anything: data, a dict, an object with an own == -/
def rStrAny (K : PySem.W.Frag) (g : Addr) (sp : Sp) (E : XK) : R2 := fun x y H Q => rEqD K x y H Q ∨ (∃ (z : Str) (a : Addr) (kvs : List (Key × V)), x = .str z ∧ y = .ref a ∧ H a = some (.dK kvs) ∧ Q (.bl false) H) ∨
  ∃ (z : Str) (p C dx : Addr) (fs : List (Str × V)), x = .str z ∧ y = .ref p ∧ H p = some (.ins C dx fs) ∧ StrEq K C g ∧ sp [.ref p, x] H Q E
structure In1 (K : PySem.W.Frag) (C g : Addr) : Prop where
  at_ : PySem.W.findIn K (.ref C) "__contains__" = some (some (.ref g))
  fn : PySem.W.isFn K (.ref g) = true
def rInO (K : PySem.W.Frag) (g : Addr) (sp : Sp) (E : XK) : R2 := fun x y H Q => ∃ (p C dx : Addr) (fs : List (Str × V)), y = .ref p ∧ H p = some (.ins C dx fs) ∧ In1 K C g ∧ sp [.ref p, x] H (fun v H' => ∃ c, v = .bl c ∧ Q (.bl c) H') E
section
variable {X : Cx} {CX : CXT} {k : Nat} {g : Addr} {sp : Sp} {E : XK}
theorem op_strAny {K : PySem.W.Frag} (hK : X.K = K) (hu : X.A.units + 64 < cLine) (F : FnR X.prog X.w X.K X.mg X.base CX k g sp) (hr : Room k X.A) (hx : Passes CX X E) : OpR X (compareOp .Eq) (rStrAny K g sp E) := by
  subst hK
  intro pins s σ H x y v u Q I rx ry h
  have hu0 : X.A.units < cLine := by omega
  rcases h with h | ⟨z, a, kvs, rfl, rfl, ea, q⟩ | ⟨z, p, C, dx, fs, rfl, rfl, ep, c, hq⟩
  · exact op_eqD hu pins s σ H x y v u Q I rx ry h
  · obtain ⟨t, rfl⟩ := rx
    obtain rfl : u = Value.ref a := ry
    obtain ⟨_, _, vs, _, o, es, n, e1, e2, e3, _⟩ := (show ObjOk X.prog X.w H s.heap a (.dK kvs) from I.hok a _ ea)
    exact PySem.W.cmp_ofEq (rc_strDict hu0 e1 e2.1 e3 ⟨.bl _, H, I, rfl, q⟩)
  · obtain ⟨t, rfl⟩ := rx
    obtain rfl : u = Value.ref p := ry
    obtain ⟨ox, od, J, hd⟩ := StX.insC_at I (.inr ⟨dx, fs, ep⟩)
    exact PySem.W.cmp_ofEq (rc_strOwn hu0 I.kIn J hd c.sub c.at_ c.fn (run_own F hr hx I (us := [.ref p, .str z t]) (vs := [.ref p, .str z]) (.cons rfl (.cons ⟨t, rfl⟩ .nil)) hq))
theorem op_inO (F : FnR X.prog X.w X.K X.mg X.base CX k g sp) (hr : Room k X.A) (hx : Passes CX X E) : OpR X (compareOp .In) (rInO X.K g sp E) := by
  intro pins s σ H x y v u Q I rx ry h
  obtain ⟨p, C, dx, fs, rfl, ep, c, hq⟩ := h
  obtain rfl : u = Value.ref p := ry
  obtain ⟨ox, od, J, _⟩ := StX.insC_at I (.inr ⟨dx, fs, ep⟩)
  obtain ⟨mm, fr⟩ := I.fr
  refine PySem.W.in_K fr I.ok.mod.kin J c.at_ c.fn (wpAny_mono (wpAny_call (run_fnR F hr hx I (us := [.ref p, v]) (vs := [.ref p, x]) (.cons rfl (.cons rx .nil)) hq)) (fun r s' q => ?_) fun _ _ q => q)
  obtain ⟨y2, H2, I2, r2, b, rfl, q⟩ := q
  cases (show r = Value.bool b from r2)
  exact wpAny_pure ⟨.bl b, H2, I2, rfl, q⟩
end
end OwR
end
section
/-! a def that wants no guard, called by name; repr of a number or None. -/
namespace OwR
open PySem PySem.Spec PyProof.Rows L2
section
variable {X : Cx} {CX : CXT} {k : Nat} {f : Addr} {fd : FuncData} {ps : List Str} {sp : Sp} {E : XK} {x : Str} {p pos : Pos} {e : Expr} {es : List Expr} {t : TA}
theorem run_fnG {pins : List (Addr × Obj)} {σ : L2.St} {H : Hp} {s : Shared} {Q : VK} {us : List Value} {vs : List V} (F : FnG X.prog X.w X.K X.mg X.base CX k f fd ps sp) (len : ∀ vs H Q E, sp vs H Q E → vs.length = ps.length) (hgd : X.A.guards = some []) (hr : Room k X.A) (hb : Binds X.K fd ps []) (hx : Passes CX X E)
    (I : Inv X pins σ H s) (r : Vals vs us) (h : sp vs H Q E) : wpAny (model X.prog X.w) X.A (call (.ref f) us) (EP X pins σ Q) X.xe s := by
  have hl : us.length = ps.length := by rw [← r.length]; exact len _ _ _ _ h
  have b := hb s us I.kIn (by rw [List.append_nil]; exact hl)
  rw [List.append_nil] at b
  refine wpAny_call (codeAny_mono (F X.A X.stack s H ⟨us, []⟩ us vs Q E hgd hr I.env0 b r h) fun r s' hq => ?_)
  cases r with
  | error e => exact hx pins σ H s e s' I hq
  | ok fl =>
    cases fl with
    | ret u => exact I.after hq
    | next => exact False.elim hq
    | brk => exact False.elim hq
    | cont => exact False.elim hq
theorem pe_callG (F : FnG X.prog X.w X.K X.mg X.base CX k f fd ps sp) (len : ∀ vs H Q E, sp vs H Q E → vs.length = ps.length) (hgd : X.A.guards = some []) (hr : Room k X.A) (hg : Gl X x) (hm : X.mg x = some (.ref f)) (hk : PySem.W.keepIn X.K (.ref f) = true) (hb : Binds X.K fd ps []) (hx : Passes CX X E)
    (ha : PA X (e :: es) t) (hdb : (x == ("__debug__" : Str)) = false := by decide) (he : starEach (e :: es) X.env = (false, eval e X.env) :: starEach es X.env := by rfl) (hpl : (backTo pos (starEach es X.env)).any (·.1) = false := by rfl) :
    PE X (.Call (.Name x p) (e :: es) [] pos) (tCall sp [] E t) := by
  refine ⟨fun pins s σ H Q I h => ?_⟩
  refine wpAny_Call_Name_kw (ld_glob I hg hm ?_ hdb)
  refine PySem.W.callWith_K (h₀ := X.base) I.ok.mod.kin hk (thn (ha.run pos pins s σ H _ I h) fun us s1 ⟨vs, H1, I1, r, q⟩ => ⟨I1.kIn, ?_⟩) he hpl
  have q : sp (vs ++ []) H1 Q E := q
  rw [List.append_nil] at q
  exact run_fnG F len hgd hr hb hx I1 r q
end
def reprI : Option Int → Str
  | none => "None"
  | some i => toString i
def rReprI : List V → Hp → VK → Prop := fun xs H Q => ∃ o : Option Int, xs = [match o with | none => V.non | some i => V.int i] ∧ (∀ i, o = some i → i.natAbs.log2 < 1920) ∧ Q (.str (reprI o)) H
/-- repr of a number or of None -/
theorem cr_reprI {X : Cx} : CallR X (.builtin "repr") rReprI := by
  intro pins s σ H xs us Q I r h
  obtain ⟨o, rfl, hz, q⟩ := h
  cases o with
  | none =>
    obtain ⟨u, rfl, rx⟩ := vals1 r
    cases (show u = Value.none from rx)
    exact call_repr_gives (typeIs_none s) F.slot_NoneType_repr F.entry_NoneType_repr (F.args_NoneType_repr_1 _) gives_none_repr ⟨.str _, H, I.tok _, ⟨_, rfl⟩, q⟩
  | some i => exact SkE.call_repr_int pins s σ H _ us Q I r ⟨i, rfl, hz i rfl, q⟩
end OwR
end
section
namespace OwR
open PySem PySem.Spec PyProof.Rows L2
theorem walk_enumT {K : PySem.W.Frag} {a : Addr} {xs : List V} : Walk (IteT K a) xs.length (fun H => SqT K H a xs) (YPair (fun i => some (.int (i : Nat))) (fun i => xs[i]?)) := by
  refine ⟨fun i _ hi q => ⟨xs, xs[i], q, by simp [hi]⟩, fun _ q => ⟨xs, q, Nat.le_refl _⟩, fun i H v H' _ q y => ?_⟩
  obtain ⟨T, x, h1, h2, h3, h4⟩ := y
  exact ⟨T, .int (i : Nat), x, h1, h2, h3, rfl, h4 xs q⟩
theorem raw0 {P : Program} {w : World} {K : PySem.W.Frag} {mg : Str → Option Value} {base : Heap} {CX : CXT} {k : Nat} {f : Addr} {fd : FuncData} {ps : List Str} {sp : Sp} (F : FnOk P w K mg base CX k f fd ps sp) (hb : Binds K fd ps []) : FnR P w K mg base CX k f sp :=
  (F.raw hb .nil).imp fun vs H Q E h => by rw [List.append_nil]; exact h
end OwR
namespace K10
open PySem PySem.Spec PyProof.Rows L2
abbrev sRule0 : Stmt := mth 18 0
abbrev sPicks : Stmt := mth 18 2
abbrev sBays : Stmt := mth 18 3
abbrev sKeep : Stmt := mth 18 4
abbrev sIn : Stmt := mth 18 6
abbrev sRIter : Stmt := mth 18 8
abbrev sRLen : Stmt := mth 18 7
abbrev sREq : Stmt := mth 18 12
abbrev sFirst0 : Stmt := mth 19 0
abbrev sFirstOf : Stmt := mth 19 1
theorem putK_keys {kvs : List (Key × V)} {xs : List Str} (e : kvs.map (·.1) = xs.map Sum.inr) (z : Str) (v : V) : ∃ ys : List Str, (putK kvs (Sum.inr z) v).map (·.1) = ys.map Sum.inr ∧ ys.length ≤ xs.length + 1 := by
  unfold putK
  split
  · refine ⟨xs, ?_, Nat.le_succ _⟩
    rw [← e, List.map_map]
    refine List.map_congr_left fun kv _ => ?_
    show (if kv.1 = Sum.inr z then (kv.1, v) else kv).1 = kv.1
    split <;> rfl
  · refine ⟨xs ++ [z], ?_, by rw [List.length_append]; exact Nat.le_refl _⟩
    rw [List.map_append, List.map_append, e]
    rfl
theorem SqT.mono {K : PySem.W.Frag} {H H' : Hp} {a : Addr} {xs : List V} (h : SqT K H a xs) (s : Same H H') : SqT K H' a xs := h.elim (fun r => .inl (Same.rd s r)) .inr
structure RuleC (K : PySem.W.Frag) (C : Addr) : Prop where
  cls : Cls K C
  n1 : NoAttr K C "_picks"
  n2 : NoAttr K C "_keeps"
  n3 : NoAttr K C "_bays"
def Good (p : Pk) : Prop := nameB p.1 = true ∧ p.1.length ≤ 1000 ∧ 0 ≤ p.2 ∧ p.2 ≤ 9
theorem mem_kept : ∀ (l : List Pk) (m : Str → Option Int) (p : Pk), p ∈ kept m l → p ∈ l
  | [], _, _, h => h
  | q :: r, m, p, h => by
    have h' : p ∈ (if keeps m q = true then q :: kept (setM m q.1 q.2) r else kept m r) := h
    split at h'
    · rcases List.mem_cons.mp h' with e | h2
      · exact List.mem_cons.mpr (.inl e)
      · exact List.mem_cons_of_mem _ (mem_kept r _ p h2)
    · exact List.mem_cons_of_mem _ (mem_kept r _ p h')
theorem mem_step2 : ∀ (l : List Pk) (p : Pk), p ∈ step2 l → p ∈ l
  | [], _, h => h
  | [_], _, h => h
  | a :: b :: r, p, h => by
    have h' : p ∈ (if a.1 = b.1 then step2 (b :: r) else a :: step2 (b :: r)) := h
    split at h'
    · exact List.mem_cons_of_mem _ (mem_step2 (b :: r) p h')
    · rcases List.mem_cons.mp h' with e | h2
      · exact List.mem_cons.mpr (.inl e)
      · exact List.mem_cons_of_mem _ (mem_step2 (b :: r) p h2)
theorem mem_form {l : List Pk} {p : Pk} (h : p ∈ oneForm l) : p ∈ l := mem_kept l _ p (mem_step2 _ p h)
/-- at a stands a rule with these picks -/
def lookL : List Pk → Str → Option Int
  | [], _ => none
  | p :: r, z => if z = p.1 then some p.2 else lookL r z
theorem lookL_mem : ∀ (l : List Pk) (z : Str), (lookL l z).isSome = true ↔ z ∈ l.map (·.1)
  | [], z => by simp [lookL]
  | p :: r, z => by
    unfold lookL
    rw [List.map_cons, List.mem_cons, ← lookL_mem r z]
    by_cases c : z = p.1
    · rw [if_pos c]; exact ⟨fun _ => .inl c, fun _ => rfl⟩
    · rw [if_neg c]; exact ⟨.inr, fun h => h.elim (fun q => absurd q c) id⟩
/-- what stands behind the picks: the keeps by bays, and the bays ascending -/
structure More (H : Hp) (fs : List (Str × V)) (ps : List Pk) (D b : Addr) (r : List (Key × V)) (zs : List Str) : Prop where
  lm : fs.lookup ("keep" : Str) = none
  lk : fs.lookup ("_keeps" : Str) = some (.ref D)
  lb : fs.lookup ("_bays" : Str) = some (.ref b)
  eD : H D = some (.dK r)
  tb : TabOf r (lookL ps)
  eb : H b = some (.tup (zs.map V.str))
  nd : zs.Nodup
  mem : ∀ z, z ∈ zs ↔ z ∈ ps.map (·.1)
  srt : sortedS zs = true
def RuleAt (C : Addr) (H : Hp) (a : Addr) (ps : List Pk) : Prop := ∃ (dx : Addr) (fs : List (Str × V)) (p : Addr) (ks : List Addr), H a = some (.ins C dx fs) ∧ fs.lookup ("_picks" : Str) = some (.ref p) ∧ H p = some (.tup (ks.map V.ref)) ∧ PicksAt H ks ps ∧ ∃ D b r zs, More H fs ps D b r zs
theorem RuleAt.same {C : Addr} {H H' : Hp} {a : Addr} {ps : List Pk} (h : RuleAt C H a ps) (s : Same H H') : RuleAt C H' a ps := by
  obtain ⟨dx, fs, p, ks, h1, h2, h3, h4, D, b, r, zs, m⟩ := h
  exact ⟨dx, fs, p, ks, s _ _ h1, h2, s _ _ h3, h4.same s, D, b, r, zs, m.lm, m.lk, m.lb, s _ _ m.eD, m.tb, s _ _ m.eb, m.nd, m.mem, m.srt⟩
def spRule0 (K : PySem.W.Frag) (C : Addr) : Sp := fun vs H Q _ => ∃ (a l dx : Addr) (fs0 : List (Str × V)) (ks : List Addr) (ps : List Pk), vs = [.ref a, .ref l] ∧ H a = some (.ins C dx fs0) ∧ fs0.length ≤ 10 ∧ fs0.lookup ("keep" : Str) = none ∧ SqL K H l (ks.map V.ref) ∧ PicksAt H ks ps ∧ ps.length ≤ 12 ∧
  ∀ H', But a H H' → RuleAt C H' a (oneForm ps) → Q .non H'
def spFirst0 (K : PySem.W.Frag) (C : Addr) : Sp := fun vs H Q _ => ∃ (a l dx : Addr) (xs : List V) (ps : List Pk), vs = [.ref a, .ref l] ∧ H a = some (.ins C dx []) ∧ SqT K H l xs ∧ ValsAt H xs ps ∧ ps.length ≤ 12 ∧ (∀ p ∈ ps, Good p) ∧
  ∀ H', But a H H' → RuleAt C H' a (oneForm ps) → Q .non H'
def spFirst (C : Addr) : Sp := fun vs H Q _ => ∃ (a dx : Addr) (xs : List V) (ps : List Pk), vs = .ref a :: xs ∧ H a = some (.ins C dx []) ∧ ValsAt H xs ps ∧ ps.length ≤ 12 ∧ (∀ p ∈ ps, Good p) ∧
  ∀ H', But a H H' → RuleAt C H' a (oneForm ps) → Q .non H'
def spFirstOf (K : PySem.W.Frag) (C : Addr) : Sp := fun vs H Q _ => ∃ (l : Addr) (xs : List V) (ps : List Pk), vs = [.ref C, .ref l] ∧ SqL K H l xs ∧ ValsAt H xs ps ∧ ps.length ≤ 12 ∧ (∀ p ∈ ps, Good p) ∧
  ∀ a H', H a = none → Same H H' → RuleAt C H' a (oneForm ps) → Q (.ref a) H'
section
variable {P : Program} {w : World} {K : PySem.W.Frag} {mg : Str → Option Value} {base : Heap}
abbrev nR0 : List Str := ["self", "picks", "bay", "keep"]
theorem scR0 : FnScope nR0 ["self", "picks"] (defScope sRule0) := ⟨rfl, rfl, rfl, by decide +kernel, rfl, by decide +kernel, by decide +kernel⟩
theorem ok_R0 {C f fF : Addr} {fd fdF : FuncData} (hc : RuleC K C) (F : Fun K "__init__" "Rule.__init__" sRule0 f fd) (c : Chk P w K mg base) (FF : Fun K "one_form" "one_form" sForm fF fdF) (gF : mg "one_form" = some (.ref fF)) (n_zip : mg "zip" = none) : FnOk P w K mg base CX0 2 f fd ["self", "picks"] (spRule0 K C) := by
  obtain ⟨fA, fdA, gA, kA, bA, GA⟩ := c.asc
  have GF : FnOk P w K mg base CX0 1 fF fdF ["picks"] (spForm K) := ok_form FF c n_zip
  have bF : Binds K fdF ["picks"] [] := FF.binds fun _ _ _ _ _ _ us hl => match us, hl with | [_], _ => rfl
  refine F.ok scR0 (fun vs H Q E h => ?_) (fun cdv A outer s H vs Q E hr h => ?_)
  · obtain ⟨a, l, dx, fs0, ks, ps, rfl, _⟩ := h
    rfl
  · obtain ⟨a, l, dx, fs0, ks, ps, rfl, ha, hf0, lm0, hl, hp, hn, q⟩ := h
    have hr3 : Room 1 _ := hr.mono (by decide)
    refine ⟨_, (pss_cons (ps_fld (pv 0) (pe_call GF hr3 (by rfl) gF FF.kp bF .nil pass0 (pa_cons (pv 1) pa_nil)) rfl)
    (pss_cons (ps_if (pt_cmpR op_gt (pe_callB call_len_seq (by rfl) c.T.n_len boot_len (pa_cons (pe_fld (pv 0) rfl) pa_nil)) pe_int (nomark _)) (pss_one ps_never) pss_nil)
    (pss_cons (ps_fld (pv 0) (pe_dc (own := [("bay", 2), ("keep", 3)]) (g := (gTup K 2 (gCons (gName 2) (gCons (gName 3) gNil)))) rfl scR0.nd (pi_tup (OwR.pe_revT (pe_fld (pv 0) rfl))) (blkOk_by (own := [("bay", 2), ("keep", 3)]) (N := nR0) (sc := defScope sRule0) (by decide +kernel)) (fun _ _ _ _ _ => (pg_tup rfl (pgs_cons (pg_name (i := 2) scR0.nd rfl (Or.inl rfl)) (pgs_cons (pg_name (i := 3) scR0.nd rfl (Or.inl rfl)) pgs_nil)))) (fun _ _ _ _ _ => pts_nil) (fun _ _ _ _ _ => (pv 2)) (fun _ _ _ _ _ => (pv 3))) rfl)
    (pss_one (ps_fld (pv 0) (pe_callTy call_tuple_of (by rfl) c.T4.n_tuple (by decide +kernel) (pa_cons (pe_call GA hr (by rfl) gA kA bA .nil pass0 (pa_cons (pe_fld (pv 0) rfl) pa_nil)) pa_nil)) rfl))))), ?_⟩
    refine ⟨_, rfl, l, ks, ps, rfl, hl, hp, by omega, fun p H1 ks' h1 s1 e1 pk1 => ?_⟩
    have np : p ≠ a := fun z => by
      rw [z, ha] at h1
      cases h1
    have ea := s1 a _ ha
    refine ⟨_, rfl, a, C, dx, fs0, rfl, ea, hc.cls, hc.n1, by omega, ?_⟩
    have st2 : But a H (upd H1 a (.ins C dx (putF ("_picks" : Str) (.ref p) fs0))) := (Same.but a s1).trans But.at
    have ea2 : upd H1 a (.ins C dx (putF ("_picks" : Str) (.ref p) fs0)) a = some (.ins C dx (putF ("_picks" : Str) (.ref p) fs0)) := upd_same
    have ep2 : upd H1 a (.ins C dx (putF ("_picks" : Str) (.ref p) fs0)) p = some (.tup (ks'.map V.ref)) := by
      rw [upd_ne np]
      exact e1
    have pk2 : PicksAt (upd H1 a (.ins C dx (putF ("_picks" : Str) (.ref p) fs0))) ks' (oneForm ps) := pk1.upd fun xs e => by
      rw [ea] at e
      cases e
    generalize upd H1 a (.ins C dx (putF ("_picks" : Str) (.ref p) fs0)) = H2 at st2 ea2 ep2 pk2 ⊢
    have lk2 : (putF ("_picks" : Str) (V.ref p) fs0).lookup ("_picks" : Str) = some (.ref p) := by
      rw [lookup_putF, if_pos rfl]
    have ln2 : (putF ("_picks" : Str) (V.ref p) fs0).length ≤ 11 := Nat.le_trans (length_putF _ _ _) (by omega)
    have lm2 : (putF ("_picks" : Str) (V.ref p) fs0).lookup ("keep" : Str) = none := by
      rw [lookup_putF, if_neg (by decide)]
      exact lm0
    generalize putF ("_picks" : Str) (V.ref p) fs0 = fs2 at ea2 lk2 ln2 lm2 ⊢
    have lf : ks'.length ≤ 12 := by
      rw [pk2.len]
      exact Nat.le_trans (form_len ps) hn
    refine ⟨_, rfl, a, C, dx, fs2, .ref p, rfl, ea2, hc.cls, hc.n1, lk2, p, _, rfl, .inr (SqT.of ep2), _, 15, rfl, rfl, _, rfl, ?_⟩
    rw [decide_eq_false (by rw [List.length_map]; omega)]
    refine iteF ?_
    refine ⟨_, rfl, a, C, dx, fs2, .ref p, rfl, ea2, hc.cls, hc.n1, lk2, p, _, rfl, SqT.of ep2, fun v hv => ?_⟩
    refine ⟨v, rfl, ⟨_, SqT.of upd_same⟩, fun D hD => ?_⟩
    have sz := sizeLine_eq
    refine OwR.dc_it (walk_tup (xs := (ks'.map V.ref).reverse)) (fun i Hx => Same (upd H2 v (.tup (ks'.map V.ref).reverse)) Hx ∧ ∃ (r : List (Key × V)) (xs : List Str), Hx D = some (.dK r) ∧ r.map (·.1) = xs.map Sum.inr ∧ xs.length ≤ i ∧ TabOf r (lookL ((oneForm ps).drop ((oneForm ps).length - i)))) ⟨Same.of_new hD, [], [], upd_same, rfl, Nat.le_refl 0, by rw [Nat.sub_zero, List.drop_length]; exact TabOf.nil⟩ (fun i Hx _ q => SqT.of (q.1 v _ upd_same)) (fun i x Hx Hy hi q0 y => ?_) (fun Hx q0 => ?_)
    · obtain ⟨s3, r, xs, er, ek, lx, tb⟩ := q0
      obtain ⟨rfl, hx⟩ := y
      obtain ⟨j, hj, ej⟩ : ∃ j, (ks'.map V.ref)[j]? = some x ∧ j = ks'.length - 1 - i := by
        rw [List.length_reverse, List.length_map] at hi
        rw [List.getElem?_reverse (by rw [List.length_map]; exact hi), List.length_map] at hx
        exact ⟨_, hx, rfl⟩
      obtain ⟨k, pq, rfl, hk, hpi, tk⟩ := (pk2.same ((Same.of_new hv).trans s3)).get hj
      rw [List.length_reverse, List.length_map] at hi
      have lr : r.length = xs.length := by
        have := congrArg List.length ek
        rw [List.length_map, List.length_map] at this
        exact this
      refine ⟨k, _, rfl, .inl (.inl tk), rfl, _, _, rfl, _, _, rfl, rfl, rfl, ?_⟩
      refine ⟨_, rfl, _, rfl, r, Sum.inr pq.1, rfl, er, by omega, fun b o e => ?_, ?_⟩
      · rw [upd_ne (ne_of_none e hD)]
        exact s3 b o e
      · obtain ⟨ys, e5, l5⟩ := putK_keys ek pq.1 (.int pq.2)
        refine ⟨_, ys, upd_same, e5, by omega, (tb.put pq.1 pq.2).cast fun z => ?_⟩
        have ln := pk2.len
        obtain ⟨hj2, ejp⟩ := List.getElem?_eq_some_iff.mp hpi
        have ed : (oneForm ps).drop ((oneForm ps).length - (i + 1)) = pq :: (oneForm ps).drop ((oneForm ps).length - i) := by
          have e1 : (oneForm ps).length - (i + 1) = j := by omega
          have e2 : (oneForm ps).length - i = j + 1 := by omega
          rw [e1, e2, ← ejp]
          exact List.drop_eq_getElem_cons hj2
        rw [ed]
        rfl
    obtain ⟨s3, r, xs, er, ek, lx, tb⟩ := q0
    rw [List.length_reverse, List.length_map] at lx
    rw [List.length_reverse, List.length_map, pk2.len, Nat.sub_self, List.drop_zero] at tb
    have st4 : Same H2 Hx := (Same.of_new hv).trans s3
    have ea4 := st4 a _ ea2
    have nD : D ≠ a := fun z => by
      rw [z] at er
      rw [ea4] at er
      cases er
    refine ⟨_, rfl, a, C, dx, fs2, rfl, ea4, hc.cls, hc.n2, by omega, ?_⟩
    have st5 : But a H (upd Hx a (.ins C dx (putF ("_keeps" : Str) (.ref D) fs2))) := (st2.trans (Same.but a st4)).trans But.at
    have ea5 : upd Hx a (.ins C dx (putF ("_keeps" : Str) (.ref D) fs2)) a = some (.ins C dx (putF ("_keeps" : Str) (.ref D) fs2)) := upd_same
    have ep5 : upd Hx a (.ins C dx (putF ("_keeps" : Str) (.ref D) fs2)) p = some (.tup (ks'.map V.ref)) := by
      rw [upd_ne np]
      exact st4 p _ ep2
    have pk5 : PicksAt (upd Hx a (.ins C dx (putF ("_keeps" : Str) (.ref D) fs2))) ks' (oneForm ps) := (pk2.same st4).upd fun xs e => by
      rw [ea4] at e
      cases e
    have er5 : upd Hx a (.ins C dx (putF ("_keeps" : Str) (.ref D) fs2)) D = some (.dK r) := by
      rw [upd_ne nD]
      exact er
    generalize upd Hx a (.ins C dx (putF ("_keeps" : Str) (.ref D) fs2)) = H5 at st5 ea5 ep5 pk5 er5 ⊢
    have lk5 : (putF ("_keeps" : Str) (V.ref D) fs2).lookup ("_picks" : Str) = some (.ref p) := by
      rw [lookup_putF, if_neg (by decide)]
      exact lk2
    have lk6 : (putF ("_keeps" : Str) (V.ref D) fs2).lookup ("_keeps" : Str) = some (.ref D) := by
      rw [lookup_putF, if_pos rfl]
    have ln5 : (putF ("_keeps" : Str) (V.ref D) fs2).length ≤ 12 := Nat.le_trans (length_putF _ _ _) (by omega)
    have lm5 : (putF ("_keeps" : Str) (V.ref D) fs2).lookup ("keep" : Str) = none := by
      rw [lookup_putF, if_neg (by decide)]
      exact lm2
    generalize putF ("_keeps" : Str) (V.ref D) fs2 = fs5 at ea5 lk5 lk6 ln5 lm5 ⊢
    refine ⟨_, rfl, a, C, dx, fs5, .ref D, rfl, ea5, hc.cls, hc.n2, lk6, D, xs, rfl, .inr (.inr ⟨r, .inl er5, ek⟩), by omega, fun ys g H6 pm srt hg s6 e6 => ?_⟩
    refine ⟨g, _, rfl, .inl ⟨SqL.of e6, fun z hz => ?_⟩⟩
    have ea6 := s6 a _ ea5
    have nz : a ≠ z := ne_of_none ea6 hz
    refine ⟨_, rfl, a, C, dx, fs5, rfl, by rw [upd_ne nz]; exact ea6, hc.cls, hc.n3, by omega, ?_⟩
    have s7 : Same H5 (upd H6 z (.tup (ys.map V.str))) := s6.trans (Same.of_new hz)
    refine q _ ((st5.trans (Same.but a s7)).trans But.at) ⟨dx, _, p, ks', upd_same, ?_, ?_, ?_, D, z, r, ys, ?_, ?_, ?_, ?_, tb, ?_, pm.nodup_iff.mpr (TSet.ded_nodup xs), fun v => ?_, srt⟩
    · rw [lookup_putF, if_neg (by decide)]
      exact lk5
    · rw [upd_ne np]
      exact s7 p _ ep5
    · exact (pk5.same s7).upd fun xs e => by
        rw [s7 a _ ea5] at e
        cases e
    · rw [lookup_putF, if_neg (by decide)]
      exact lm5
    · rw [lookup_putF, if_neg (by decide)]
      exact lk6
    · rw [lookup_putF, if_pos rfl]
    · rw [upd_ne nD]
      exact s7 D _ er5
    · rw [upd_ne (Ne.symm nz)]
      exact upd_same
    · rw [pm.mem_iff, TSet.ded_mem, tb.mem ek, lookL_mem]
abbrev nF0 : List Str := ["self", "picks", "at", "value"]
theorem scF0 : FnScope nF0 ([("self" : Str)] ++ [("picks" : Str)]) (defScope sFirst0) := ⟨rfl, rfl, rfl, by decide +kernel, rfl, by decide +kernel, by decide +kernel⟩
theorem ok_F0 {C CR f fR fF fP : Addr} {mc : Value} {fd fdR fdF fdP : FuncData} (hc : RuleC K C) (F : Fun K "__init__" "First.__init__" sFirst0 f fd) (c : Chk P w K mg base) (FR : Fun K "__init__" "Rule.__init__" sRule0 fR fdR) (FF : Fun K "one_form" "one_form" sForm fF fdF) (gF : mg "one_form" = some (.ref fF)) (n_zip : mg "zip" = none)
    (n_enumerate : mg "enumerate" = none) (FP : Fun K "is_pick" "is_pick" sIsPick fP fdP) (gP : mg "is_pick" = some (.ref fP)) (gR : mg "Rule" = some (.ref CR)) (rR : ClX.CRead K CR mc) (cR : OwR.CFun K CR mc "__init__" fR) : FnR P w K mg base CX0 3 f (spFirst C) := by
  obtain ⟨oc, od, kV, doc, pm, an, cdv, ct, osl, rfl, lk, hcd⟩ := F.ex
  have GP : FnOk P w K mg base CX0 2 fP fdP ["value"] spIsPick := ok_IsPick FP c
  have bP : Binds K fdP ["value"] [] := FP.binds fun _ _ _ _ _ _ us hl => match us, hl with | [_], _ => rfl
  have GR : FnR P w K mg base CX0 2 fR (spRule0 K C) := OwR.raw0 (ok_R0 hc FR c FF gF n_zip) (FR.binds fun _ _ _ _ _ _ us hl => match us, hl with | [_, _], _ => rfl)
  refine FnR.imp (StX.fn_star (k := 2) (ps := ["self"]) (pv := "picks") (sp := spFirst0 K C) lk hcd scF0 StX.cxUp_none (fun us rest hl => match us, hl, rest with | [_], _, [] => rfl | [_], _, _ :: _ => rfl) fun A outer s H vs Q E hr h => ?_) fun vs H Q E h => ?_
  · obtain ⟨a, l, dx, ks, ps, rfl, ha, hl, hp, hn, hg, q⟩ := h
    refine ⟨_, PSs.nox (pss_cons (ps_for PassesOwn.never rfl (OwR.pi_enumT (by rfl) n_enumerate (pa_cons (pv 1) pa_nil)) (pg_tup rfl (pgs_cons (pg_name (i := 2) scF0.nd rfl (Or.inl rfl)) (pgs_cons (pg_name (i := 3) scF0.nd rfl (Or.inl rfl)) pgs_nil))) (pss_one (ps_if (pt_not (pt_val (pe_call GP hr (by rfl) gP FP.kp bP .nil pass0 (pa_cons (pv 3) pa_nil)))) (pss_one ps_never) pss_nil)))
    (pss_one (ps_expr (OwR.pe_cfun (pe_glob (v := .ref CR) rfl gR rfl) rR cR GR hr pass0 (pa_cons (pv 0) (pa_cons (pe_lc (own := [("value", 3)]) (by rfl) scF0.nd (pi_tup (pv 1)) (blkOk_by (own := [("value", 3)]) (N := nF0) (sc := defScope sFirst0) (by decide +kernel)) (fun _ _ _ _ _ => (pg_name (i := 3) scF0.nd rfl (Or.inl rfl))) (fun _ _ _ _ _ => pts_nil) (fun _ _ _ _ _ => (pe_ifExp (pt_val (pe_callB (r := rIsi K) call_isi (by rfl) c.T.n_isinstance (by decide +kernel) (pa_cons (pv 3) (pa_cons (pe_bltn (v := .ty "str") (by rfl) c.T.n_str (by decide +kernel) rfl) pa_nil)))) (pe_tup (pa_cons (pv 3) (pa_cons pe_int pa_nil))) (pv 3)))) pa_nil)))))), ?_⟩
    refine ⟨_, rfl, l, _, rfl, hl, ?_⟩
    have sz := sizeLine_eq
    refine for_it (OwR.walk_enumT (xs := ks)) (fun i σ H' => Same H H' ∧ ∃ x y, σ = [some (.ref a), some (.ref l), x, y]) ⟨Same.refl _, none, none, rfl⟩ (fun i σ H' _ q => SqT.mono hl q.1) (fun i x σ H' H2 hi q0 y => ?_) (fun σ H' q0 => ?_)
    · obtain ⟨s1, x0, y0, rfl⟩ := q0
      obtain ⟨T, x, z, rfl, hT, rfl, hx, hz⟩ := y
      have hz : ks[i]? = some z := hz
      obtain ⟨p, hpi, tk⟩ := (hp.same s1).get hz
      have g := hg p (List.mem_of_getElem? hpi)
      refine ⟨T, _, rfl, .inl (.inl upd_same), rfl, _, _, rfl, _, _, rfl, rfl, ?_⟩
      refine ⟨_, rfl, z, p, rfl, tk.same (Same.of_new hT), g.1, g.2.1, g.2.2.1, g.2.2.2, fun H3 s3 => ⟨_, rfl, ?_⟩⟩
      exact ⟨(s1.trans (Same.of_new hT)).trans s3, _, _, rfl⟩
    · obtain ⟨s1, x0, y0, rfl⟩ := q0
      refine ⟨rfl, _, rfl, _, rfl, l, rfl, ⟨_, SqT.mono hl s1⟩, fun D hD => ?_⟩
      refine lc_it (walk_tup (xs := ks)) (fun i Hx => Same H' Hx ∧ ∃ kk : List Addr, Hx D = some (.lst (kk.map V.ref)) ∧ kk.length ≤ i ∧ PicksAt Hx kk (ps.take i)) ⟨Same.of_new hD, [], upd_same, Nat.le_refl 0, PicksAt.nil⟩ (fun i Hx _ q => SqT.mono hl (s1.trans q.1)) (fun i x Hx Hy hi q0 y => ?_) (fun Hx q0 => ?_)
      · obtain ⟨s2, kk, eD, lk, pk⟩ := q0
        obtain ⟨rfl, hx⟩ := y
        obtain ⟨p, hpi, tv⟩ := (hp.same (s1.trans s2)).get hx
        have hi2 : i < ps.length := (List.getElem?_eq_some_iff.mp hpi).1
        have et : ps.take (i + 1) = ps.take i ++ [p] := by
          rw [List.take_add_one, hpi]
          rfl
        rw [et]
        refine ⟨rfl, ?_⟩
        rcases tv with ⟨k, rfl, tk⟩ | ⟨rfl, p0⟩
        · refine ⟨_, rfl, .ref k, .ty "str", _, _, false, rfl, .ty _, .base (.tup tk), kit_ty (by decide +kernel), false, rfl, ?_⟩
          refine iteF ?_
          refine ⟨_, rfl, _, eD, by rw [List.length_map]; omega, fun b o e => ?_, kk ++ [k], ?_, ?_, ?_⟩
          · rw [upd_ne (ne_of_none e hD)]
            exact s2 b o e
          · rw [List.map_append]
            exact upd_same
          · rw [List.length_append]
            show kk.length + 1 ≤ i + 1
            omega
          · exact (pk.snoc tk).upd fun xs e => by
              rw [eD] at e
              cases e
        · refine ⟨_, rfl, .str p.1, .ty "str", _, _, true, rfl, .ty _, .base (.str _), kit_ty (by decide +kernel), true, rfl, ?_⟩
          refine iteT ?_
          refine ⟨_, rfl, by show (2 : Nat) ≤ sizeLine; omega, fun T hT => ?_⟩
          have eD2 := upd_keep2 (o := .tup [.str p.1, .int 0]) eD hT
          refine ⟨_, eD2, by rw [List.length_map]; omega, fun b o e => ?_, kk ++ [T], ?_, ?_, ?_⟩
          · rw [upd_ne (ne_of_none e hD)]
            exact upd_keep2 (s2 b o e) hT
          · rw [List.map_append]
            exact upd_same
          · rw [List.length_append]
            show kk.length + 1 ≤ i + 1
            omega
          · have g1 : PicksAt (L2.upd Hy T (.tup [.str p.1, .int 0])) kk (ps.take i) := pk.same (Same.of_new hT)
            have g2 := g1.snoc (k := T) (p := p) (by show L2.upd _ _ _ _ = _; rw [upd_same, p0])
            exact g2.upd fun xs e => by
              rw [eD2] at e
              cases e
      obtain ⟨s2, kk, eD, lk, pk⟩ := q0
      rw [List.take_of_length_le (by rw [hp.len]; exact Nat.le_refl _)] at pk
      have s3 : Same H Hx := s1.trans s2
      exact ⟨a, D, dx, [], kk, ps, rfl, s3 a _ ha, by decide, rfl, SqL.of eD, pk, hn, fun H3 s4 hR => q H3 ((Same.but a s3).trans s4) hR⟩
  · obtain ⟨a, dx, ks, ps, rfl, ha, hp, hn, hg, q⟩ := h
    have sz := sizeLine_eq
    refine ⟨[.ref a], ks, rfl, rfl, by rw [hp.len]; omega, fun t ht => ⟨a, t, dx, ks, ps, rfl, upd_keep2 ha ht, SqT.of upd_same, hp.same (Same.of_new ht), hn, hg, fun H' s1 hR => q H' (fun b o n e => s1 b o n (upd_keep2 e ht)) hR⟩⟩
end
end K10
end
section
namespace K10
open PySem PySem.Spec PyProof.Rows L2
section
variable {P : Program} {w : World} {K : PySem.W.Frag} {mg : Str → Option Value} {base : Heap}
abbrev nFO : List Str := ["cls", "picks"]
theorem scFO : FnScope nFO ["cls", "picks"] (defScope sFirstOf) := ⟨rfl, rfl, rfl, by decide +kernel, rfl, by decide +kernel, by decide +kernel⟩
theorem ok_FO {C f fI : Addr} {fd : FuncData} (F : Fun K "of" "First.of" sFirstOf f fd) (MF : Mk K C fI) (GI : FnR P w K mg base CX0 3 fI (spFirst C)) : FnOk P w K mg base CX0 5 f fd ["cls", "picks"] (spFirstOf K C) := by
  refine F.ok scFO (fun vs H Q E h => ?_) (fun cdv A outer s H vs Q E hr h => ?_)
  · obtain ⟨l, ks, ps, rfl, _⟩ := h
    rfl
  · obtain ⟨l, ks, ps, rfl, hl, hp, hn, hg, q⟩ := h
    refine ⟨_, (pss_one (ps_ret (OwR.pe_makeLS (i := 0) MF GI hr (by rfl) (by first | exact Or.inl rfl | exact Or.inr (Or.inl rfl)) pass0 (pv 1)))), ?_⟩
    refine ⟨rfl, _, rfl, l, _, rfl, .inr hl, fun z dz h1 h2 nd => ⟨z, dz, ks, ps, rfl, upd_same, ?_, hn, hg, fun H' s1 hR => ⟨rfl, q z H' h1 (made_same h1 h2 s1) hR⟩⟩⟩
    exact hp.same fun b o e => by
      rw [upd_ne (ne_of_none e h1), upd_ne (ne_of_none e h2)]
      exact e
theorem scPk : FnScope ["self"] ["self"] (defScope sPicks) := ⟨rfl, rfl, rfl, by decide +kernel, rfl, by decide +kernel, by decide +kernel⟩
theorem ok_picks {C f : Addr} {fd : FuncData} (hc : RuleC K C) (F : Fun K "picks" "Rule.picks" sPicks f fd) : FnOk P w K mg base CX0 1 f fd ["self"] (getSp C "_picks") := by
  refine F.ok scPk (fun vs H Q E h => ?_) (fun cdv A outer s H vs Q E hr h => ?_)
  · obtain ⟨a, dx, fs, v, rfl, _⟩ := h
    rfl
  · obtain ⟨a, dx, fs, v, rfl, ha, hl, q⟩ := h
    refine ⟨_, (pss_one (ps_ret (pe_fld (pv 0) rfl))), ?_⟩
    exact ⟨_, rfl, a, C, dx, fs, v, rfl, ha, hc.cls, hc.n1, hl, q⟩
end
end K10
end
section
namespace K10
open PySem PySem.Spec PyProof.Rows L2
/-- the class First: Rule is at CR, its __iter__ at fI, __len__ at fL, __contains__ at fN, __eq__ at fE -/
structure FirstC (K : PySem.W.Frag) (CR fI fL fN fE C : Addr) : Prop where
  rc : RuleC K C
  cl : PySem.W.findIn K (.ref C) "__class__" = some (some (.builtin "object.__class__"))
  cg : PySem.W.specialIn K (.builtin "object.__class__") "__get__" = some (some (.builtin "getset_descriptor.__get__"))
  ct : PySem.W.takesIn K (.builtin "object.__class__") = some true
  ob : PySem.W.mroIn K C (.type "object") = some true
  sub : PySem.W.kitOne K (.ref C) (.ref CR) = some true
  own : PySem.W.kitOne K (.ref C) (.ref C) = some true
  nostr : PySem.W.kitOne K (.ref C) (.type "str") = some false
  strR : PySem.W.kitOne K (.type "str") (.ref CR) = some false
  it : OwR.OwnIt K C fI "_picks"
  ln : OwR.Len1 K C fL
  in_ : OwR.In1 K C fN
  eq : OwR.StrEq K C fE
theorem FirstC.ty {K : PySem.W.Frag} {CR fI fL fN fE C : Addr} (k : FirstC K CR fI fL fN fE C) {H : Hp} {a dx : Addr} {fs : List (Str × V)} (e : H a = some (.ins C dx fs)) : TyX K H (.ref a) (.ref C) := .base (.ins e k.rc.cls k.cl k.cg k.ct k.ob)
def pkD (p : Pk) : PyData := .tuple [.str p.1, .int p.2]
theorem pkD_lay {p : Pk} (h : PyData.strOk p.1 = true) : (pkD p).canLay0 = true := by simp [pkD, PyData.canLay0, PyData.canLayAll0, h]
theorem pkD_dep (p : Pk) : (pkD p).depth ≤ 1 := by simp [pkD, PyData.depth, PyData.depthAll]
theorem PicksAt.dp {K : PySem.W.Frag} {H : Hp} : ∀ {ks : List Addr} {ps : List Pk}, PicksAt H ks ps → DpAll K H (ks.map V.ref) (ps.map pkD)
  | [], [], _ => .nil
  | [], _ :: _, h => by cases h.len
  | _ :: _, [], h => by cases h.len
  | k :: ks, p :: ps, h => .cons (.tup (SqT.of (h.at_ 0 k p rfl rfl)) (.cons (.str p.1) (.cons (.int p.2) .nil))) (PicksAt.dp ⟨Nat.succ.inj h.len, fun i k' p' e1 e2 => h.at_ (i + 1) k' p' e1 e2⟩)
def optI : Option Int → V
  | none => .non
  | some i => .int i
/-- what may be asked with `in` and `keep`: a text, or another value -/
def AskAt (K : PySem.W.Frag) (H : Hp) (x : V) (o : Option Str) : Prop := match o with
  | some z => x = .str z
  | none => ∃ t, TyX K H x t ∧ PySem.W.kitOne K t (.type "str") = some false
def keepAt (ps : List Pk) (o : Option Str) : Option Int := o.elim none (lookL ps)
def spIn (K : PySem.W.Frag) (C : Addr) : Sp := fun vs H Q _ => ∃ (a : Addr) (ps : List Pk) (x : V) (o : Option Str), vs = [.ref a, x] ∧ RuleAt C H a ps ∧ AskAt K H x o ∧ Q (.bl (keepAt ps o).isSome) H
def spKeep (K : PySem.W.Frag) (C : Addr) : Sp := fun vs H Q _ => ∃ (a : Addr) (ps : List Pk) (x : V) (o : Option Str), vs = [.ref a, x] ∧ RuleAt C H a ps ∧ AskAt K H x o ∧ Q (optI (keepAt ps o)) H
def spEqS (K : PySem.W.Frag) (C : Addr) : Sp := fun vs H Q _ => ∃ (a dx : Addr) (fs : List (Str × V)) (z : Str), vs = [.ref a, .str z] ∧ H a = some (.ins C dx fs) ∧ Q (.bl false) H
section
variable {P : Program} {w : World} {K : PySem.W.Frag} {mg : Str → Option Value} {base : Heap}
theorem scBa : FnScope ["self"] ["self"] (defScope sBays) := ⟨rfl, rfl, rfl, by decide +kernel, rfl, by decide +kernel, by decide +kernel⟩
theorem ok_bays {C f : Addr} {fd : FuncData} (hc : RuleC K C) (F : Fun K "bays" "Rule.bays" sBays f fd) : FnOk P w K mg base CX0 1 f fd ["self"] (getSp C "_bays") := by
  refine F.ok scBa (fun vs H Q E h => ?_) (fun cdv A outer s H vs Q E hr h => ?_)
  · obtain ⟨a, dx, fs, v, rfl, _⟩ := h
    rfl
  · obtain ⟨a, dx, fs, v, rfl, ha, hl, q⟩ := h
    refine ⟨_, (pss_one (ps_ret (pe_fld (pv 0) rfl))), ?_⟩
    exact ⟨_, rfl, a, C, dx, fs, v, rfl, ha, hc.cls, hc.n3, hl, q⟩
theorem scIn : FnScope ["self", "x"] ["self", "x"] (defScope sIn) := ⟨rfl, rfl, rfl, by decide +kernel, rfl, by decide +kernel, by decide +kernel⟩
theorem ok_in {C f : Addr} {fd : FuncData} (hc : RuleC K C) (F : Fun K "__contains__" "Rule.__contains__" sIn f fd) (T : Nm2 mg) : FnR P w K mg base CX0 1 f (spIn K C) := by
  refine OwR.raw0 (F.ok (k := 0) (ps := ["self", "x"]) scIn (fun vs H Q E h => ?_) (fun cdv A outer s H vs Q E hr h => ?_)) (F.binds fun _ _ _ _ _ _ us hl => match us, hl with | [_, _], _ => rfl)
  · obtain ⟨a, ps, x, o, rfl, _⟩ := h
    rfl
  · obtain ⟨a, ps, x, o, rfl, hR, hx, q⟩ := h
    obtain ⟨dx, fs, p, ks, ea, lk, ep, pk, D, b, r, zs, m⟩ := hR
    have hu : (A.deeper (envOfC "Rule.__contains__" (defScope sIn) s.heap.objs.size f cdv)).units + 1 < cLine := (by have := hr.units; omega)
    refine ⟨_, (pss_one (ps_ret (pe_and (pe_callB call_isi (by rfl) T.n_isinstance (by decide +kernel) (pa_cons (pv 1) (pa_cons (pe_bltn (v := .ty "str") (by rfl) T.n_str (by decide +kernel) rfl) pa_nil))) (pe_one (pe_cmp (pc_din hu (pv 1) (pe_fld (pv 0) rfl))))))), ?_⟩
    cases o with
    | none =>
      obtain ⟨t, ty, kt⟩ := hx
      refine ⟨_, rfl, x, .ty "str", t, _, false, rfl, .ty _, ty, kt, false, rfl, ?_⟩
      exact iteF q
    | some z =>
      obtain rfl : x = .str z := hx
      refine ⟨_, rfl, .str z, .ty "str", _, _, true, rfl, .ty _, .base (.str z), kit_ty (by decide +kernel), true, rfl, ?_⟩
      refine iteT ?_
      refine ⟨_, rfl, _, rfl, a, C, dx, fs, .ref D, rfl, ea, hc.cls, hc.n2, m.lk, D, _, rfl, m.tb.get (.inl m.eD) z, ?_⟩
      rw [Option.isSome_map]
      exact q
theorem scKe : FnScope ["self", "bay"] ["self", "bay"] (defScope sKeep) := ⟨rfl, rfl, rfl, by decide +kernel, rfl, by decide +kernel, by decide +kernel⟩
theorem ok_keep {CR fI fL fN fE C f : Addr} {fd fdN : FuncData} (k : FirstC K CR fI fL fN fE C) (F : Fun K "keep" "Rule.keep" sKeep f fd) (FN : Fun K "__contains__" "Rule.__contains__" sIn fN fdN) (T : Nm2 mg) : FnOk P w K mg base CX0 2 f fd ["self", "bay"] (spKeep K C) := by
  have GN : FnR P w K mg base CX0 1 fN (spIn K C) := ok_in k.rc FN T
  refine F.ok scKe (fun vs H Q E h => ?_) (fun cdv A outer s H vs Q E hr h => ?_)
  · obtain ⟨a, ps, x, o, rfl, _⟩ := h
    rfl
  · obtain ⟨a, ps, x, o, rfl, hR, hx, q⟩ := h
    obtain ⟨dx, fs, p, ks, ea, lk, ep, pk, D, b, r, zs, m⟩ := id hR
    have hu : (A.deeper (envOfC "Rule.keep" (defScope sKeep) s.heap.objs.size f cdv)).units + 1 < cLine := (by have := hr.units; omega)
    refine ⟨_, (pss_one (ps_ret (pe_ifExp (pt_cmpR (OwR.op_inO GN hr pass0) (pv 1) (pv 0) (by rfl)) (pe_dget hu (pe_fld (pv 0) rfl) (pv 1) (fun _ _ => rfl)) pe_non))), ?_⟩
    refine ⟨_, rfl, _, rfl, a, C, dx, fs, rfl, ea, k.in_, a, ps, x, o, rfl, hR, hx, _, rfl, _, rfl, ?_⟩
    cases o with
    | none => exact iteF q
    | some z =>
      obtain rfl : x = .str z := hx
      have g := m.tb.get (.inl m.eD) z
      have q : Q (optI (lookL ps z)) H := q
      show if (lookL ps z).isSome = true then _ else _
      cases e : lookL ps z with
      | none =>
        rw [e] at q
        exact iteF q
      | some v =>
        rw [e] at q g
        exact iteT ⟨_, rfl, a, C, dx, fs, .ref D, rfl, ea, k.rc.cls, k.rc.n2, m.lk, _, rfl, D, .int v, rfl, g, q⟩
theorem scRI : FnScope ["self"] ["self"] (defScope sRIter) := ⟨rfl, rfl, rfl, by decide +kernel, rfl, by decide +kernel, by decide +kernel⟩
theorem ok_riter {f : Addr} {fd : FuncData} (F : Fun K "__iter__" "Rule.__iter__" sRIter f fd) (n_iter : mg "iter" = none) (C : Addr) (c : OwR.OwnIt K C f "_picks") : OwR.FnSR P w K mg base CX0 1 f (OwR.spIt C K "_picks") := by
  have b : Binds K fd ["self"] [] := F.binds fun _ _ _ _ _ _ us hl => match us, hl with | [_], _ => rfl
  obtain ⟨oc, od, kV, doc, pm, an, cdv, ct, osl, rfl, lk, hcd⟩ := F.ex
  have len : ∀ (s : Shared) (vs : List V) (H : Hp) (Q : VK) (E : XK), OwR.spIt C K "_picks" s vs H Q E → vs.length = ([("self" : Str)]).length := fun s vs H Q E h => by
    obtain ⟨a, dx, l, fs, zs, rfl, _⟩ := h
    rfl
  refine OwR.FnS.raw (OwR.fn_ofS (k := 0) (sp := OwR.spIt C K "_picks") lk hcd scRI len fun A outer s H vs Q E hr h => ?_) len b
  obtain ⟨a, dx, l, fs, zs, rfl, ha, hf, sq, q⟩ := h
  refine ⟨_, (pss_one (ps_ret (pe_callB OwR.call_iterTN (by rfl) n_iter (by decide +kernel) (pa_cons (pe_fld (pv 0) rfl) pa_nil)))), ?_⟩
  exact ⟨_, rfl, a, C, dx, fs, .ref l, rfl, ha, c.cls, c.na, hf, l, zs, rfl, sq, q⟩
theorem scRL : FnScope ["self"] ["self"] (defScope sRLen) := ⟨rfl, rfl, rfl, by decide +kernel, rfl, by decide +kernel, by decide +kernel⟩
theorem ok_rlen {f fI : Addr} {fd : FuncData} (F : Fun K "__len__" "Rule.__len__" sRLen f fd) (T : Nm2 mg) (C : Addr) (c : OwR.OwnIt K C fI "_picks") : FnR P w K mg base CX0 1 f (OwR.spLn C K "_picks") := by
  refine OwR.raw0 (F.ok (k := 0) (ps := ["self"]) scRL (fun vs H Q E h => ?_) (fun cdv A outer s H vs Q E hr h => ?_)) (F.binds fun _ _ _ _ _ _ us hl => match us, hl with | [_], _ => rfl)
  · obtain ⟨a, dx, l, fs, zs, rfl, _⟩ := h
    rfl
  · obtain ⟨a, dx, l, fs, zs, rfl, ha, hf, sq, q⟩ := h
    refine ⟨_, (pss_one (ps_ret (pe_callB call_len_seq (by rfl) T.n_len boot_len (pa_cons (pe_fld (pv 0) rfl) pa_nil)))), ?_⟩
    exact ⟨_, rfl, a, C, dx, fs, .ref l, rfl, ha, c.cls, c.na, hf, l, zs, rfl, .inr sq, q⟩
theorem scRE : FnScope ["self", "other"] ["self", "other"] (defScope sREq) := ⟨rfl, rfl, rfl, by decide +kernel, rfl, by decide +kernel, by decide +kernel⟩
theorem ok_eqS {CR fI fL fN fE C f : Addr} {fd : FuncData} (k : FirstC K CR fI fL fN fE C) (F : Fun K "__eq__" "Rule.__eq__" sREq f fd) (T : Nm2 mg) (gR : mg "Rule" = some (.ref CR)) : FnR P w K mg base CX0 1 f (spEqS K C) := by
  refine OwR.raw0 (F.ok (k := 0) (ps := ["self", "other"]) scRE (fun vs H Q E h => ?_) (fun cdv A outer s H vs Q E hr h => ?_)) (F.binds fun _ _ _ _ _ _ us hl => match us, hl with | [_, _], _ => rfl)
  · obtain ⟨a, dx, fs, z, rfl, _⟩ := h
    rfl
  · obtain ⟨a, dx, fs, z, rfl, ea, q⟩ := h
    refine ⟨_, (pss_one (ps_ret (pe_and (pe_callB call_isi (by rfl) T.n_isinstance (by decide +kernel) (pa_cons (pv 1) (pa_cons (pe_glob (v := .ref CR) rfl gR rfl) pa_nil))) (pe_one (pe_cmpR (op_eqD hr.units) (pe_fld (pv 0) rfl) (pe_fld (pv 1) rfl) (nomark _)))))), ?_⟩
    refine ⟨_, rfl, .str z, .ref CR, _, _, false, rfl, .own _, .base (.str z), k.strR, false, rfl, ?_⟩
    exact iteF q
end
end K10
end
section
namespace K10
open PySem PySem.Spec PyProof.Rows L2
def leS (x y : Str) : Prop := ¬ y.cps.toList < x.cps.toList
theorem leS_trans {x y z : Str} (h1 : leS x y) (h2 : leS y z) : leS x z := List.le_trans (α := Nat) (l₁ := x.cps.toList) (l₂ := y.cps.toList) (l₃ := z.cps.toList) h1 h2
theorem leS_anti {x y : Str} (h1 : leS x y) (h2 : leS y x) : x = y := by
  have e : x.cps.toList = y.cps.toList := List.le_antisymm (α := Nat) h1 h2
  cases x
  cases y
  congr 1
  exact Array.toList_inj.mp e
theorem rising_pw : ∀ (p : Str) (l : List Str), risingS p l = true → (p :: l).Pairwise leS
  | p, [], _ => List.pairwise_singleton _ _
  | p, x :: r, h => by
    obtain ⟨h1, h2⟩ := Bool.and_eq_true_iff.mp (show (!ltCps x.cps.toList p.cps.toList && risingS x r) = true from h)
    have ih := rising_pw x r h2
    have hx : leS p x := by
      rw [ltCps_eq] at h1
      unfold leS
      intro c
      rw [decide_eq_true c] at h1
      cases h1
    refine List.pairwise_cons.mpr ⟨fun y hy => ?_, ih⟩
    rcases List.mem_cons.mp hy with rfl | hy
    · exact hx
    · exact leS_trans hx ((List.pairwise_cons.mp ih).1 y hy)
theorem sorted_pw : ∀ l : List Str, sortedS l = true → l.Pairwise leS
  | [], _ => List.Pairwise.nil
  | x :: r, h => rising_pw x r h
theorem asc_aux : ∀ xs ys : List Str, xs.Pairwise leS → ys.Pairwise leS → xs.Nodup → ys.Nodup → (∀ z, z ∈ xs ↔ z ∈ ys) → xs = ys
  | [], [], _, _, _, _, _ => rfl
  | [], y :: t, _, _, _, _, hm => by have := (hm y).mpr List.mem_cons_self; cases this
  | x :: r, [], _, _, _, _, hm => by have := (hm x).mp List.mem_cons_self; cases this
  | x :: r, y :: t, h1, h2, n1, n2, hm => by
    obtain ⟨a1, a2⟩ := List.pairwise_cons.mp h1
    obtain ⟨b1, b2⟩ := List.pairwise_cons.mp h2
    obtain ⟨c1, c2⟩ := List.nodup_cons.mp n1
    obtain ⟨d1, d2⟩ := List.nodup_cons.mp n2
    have e : x = y := by
      rcases List.mem_cons.mp ((hm x).mp List.mem_cons_self) with e | hx
      · exact e
      · rcases List.mem_cons.mp ((hm y).mpr List.mem_cons_self) with e | hy
        · exact e.symm
        · exact leS_anti (a1 y hy) (b1 x hx)
    subst e
    rw [asc_aux r t a2 b2 c2 d2 fun z => ⟨fun hz => ?_, fun hz => ?_⟩]
    · rcases List.mem_cons.mp ((hm z).mp (List.mem_cons_of_mem _ hz)) with e | h
      · exact (c1 (e ▸ hz)).elim
      · exact h
    · rcases List.mem_cons.mp ((hm z).mpr (List.mem_cons_of_mem _ hz)) with e | h
      · exact (d1 (e ▸ hz)).elim
      · exact h
/-- two ascending lists without doubles of the same members are equal -/
theorem asc_eq {xs ys : List Str} (h1 : sortedS xs = true) (h2 : sortedS ys = true) (n1 : xs.Nodup) (n2 : ys.Nodup) (hm : ∀ z, z ∈ xs ↔ z ∈ ys) : xs = ys := asc_aux xs ys (sorted_pw xs h1) (sorted_pw ys h2) n1 n2 hm
end K10
end
section
namespace OwR
open PySem PySem.Spec PyProof.Rows L2
/-! ### xs == [], the items of xs of any kind -/
def rEqNil (K : PySem.W.Frag) : R2 := fun x y H Q => ∃ (a b : Addr) (xs : List V), x = .ref a ∧ y = .ref b ∧ SqL K H a xs ∧ SqL K H b [] ∧ Q (.bl xs.isEmpty) H
theorem op_eqNil {X : Cx} (hu : X.A.units + 64 < cLine) : OpR X (compareOp .Eq) (rEqNil X.K) := by
  intro pins s σ H x y v u Q I rx ry h
  obtain ⟨a, b, xs, rfl, rfl, ha, hb, q⟩ := h
  cases xs with
  | nil =>
    refine op_eqD hu pins s σ H _ _ v u Q I rx ry ⟨.list [], .list [], .lst ha .nil, .lst hb .nil, OwD.shaped_nil, OwD.shaped_nil, ?_⟩
    have e : PyData.eqv (.list []) (.list []) = true := by simp [PyData.eqv, PyData.eqvAll]
    rw [e]
    exact q
  | cons z zs =>
    obtain rfl : v = Value.ref a := rx
    obtain rfl : u = Value.ref b := ry
    obtain ⟨i1, r1, h1, _⟩ := I.list ha
    obtain ⟨i2, r2, h2, _⟩ := I.list hb
    cases r2
    refine SeqAt.eq_list_lengthsAt h1.isList h2.isList ?_ (by omega) ⟨.bl false, H, I, rfl, q⟩
    have l1 := r1.length
    cases i1 with
    | nil => cases r1
    | cons _ _ => rfl
def rLenK (K : PySem.W.Frag) : List V → Hp → VK → Prop := fun xs H Q => ∃ p ys, xs = [.ref p] ∧ (SqL K H p ys ∨ SqT K H p ys) ∧ Q (.int (ys.length : Nat)) H
theorem cr_lenK {X : Cx} {K : PySem.W.Frag} (h : X.K = K) : CallR X (.builtin "len") (rLenK K) := by
  subst h
  exact call_len_seq
end OwR
namespace K10
open PySem PySem.Spec PyProof.Rows L2
abbrev sLForm : Stmt := top 31
/-- what is kept, and the least keep of each bay so far -/
def KInv (m : Str → Option Int) (t : List Pk) : Prop := (∀ q ∈ t, ∃ k, m q.1 = some k ∧ k ≤ q.2) ∧ ∀ z k, m z = some k → ∃ q ∈ t, q.1 = z ∧ q.2 = k
theorem kinv (l : List Pk) : KInv (mEnd (fun _ => none) l) (kept (fun _ => none) l) := by
  refine PyProof.Rows.FinIter.snoc_ind (P := fun l => KInv (mEnd (fun _ => none) l) (kept (fun _ => none) l)) ?_ ?_ l
  · exact ⟨fun q h => (nomatch h), fun z k h => (nomatch h)⟩
  · intro l x ih
    show KInv (mEnd (fun _ => none) (l ++ [x])) (kept (fun _ => none) (l ++ [x]))
    rw [kept_app, mEnd_app]
    unfold mAfter
    by_cases c : keeps (mEnd (fun _ => none) l) x = true
    · rw [if_pos c, if_pos c]
      refine ⟨fun q h => ?_, fun z k h => ?_⟩
      · rcases List.mem_append.mp h with h | h
        · obtain ⟨k, e, le⟩ := ih.1 q h
          unfold setM
          by_cases e2 : q.1 = x.1
          · rw [if_pos e2]
            unfold keeps at c
            rw [← e2, e] at c
            have := of_decide_eq_true c
            exact ⟨x.2, rfl, by omega⟩
          · rw [if_neg e2]
            exact ⟨k, e, le⟩
        · cases List.mem_singleton.mp h
          exact ⟨x.2, by unfold setM; rw [if_pos rfl], Int.le_refl _⟩
      · unfold setM at h
        by_cases e2 : z = x.1
        · rw [if_pos e2] at h
          cases h
          exact ⟨x, List.mem_append.mpr (.inr (List.mem_singleton.mpr rfl)), e2.symm, rfl⟩
        · rw [if_neg e2] at h
          obtain ⟨q, hq, e3⟩ := ih.2 z k h
          exact ⟨q, List.mem_append.mpr (.inl hq), e3⟩
    · rw [if_neg c, if_neg c, List.append_nil]
      exact ih
/-- the law's own test: is a pick of this bay with no greater keep there? -/
def hitsB (b : Str) (k : Int) (q : Pk) : Bool := decide (q.1 = b) && decide (q.2 ≤ k)
theorem keeps_hits (l : List Pk) (p : Pk) : ((kept (fun _ => none) l).filter (hitsB p.1 p.2)).isEmpty = keeps (mEnd (fun _ => none) l) p := by
  obtain ⟨h1, h2⟩ := kinv l
  rw [Bool.eq_iff_iff, List.isEmpty_iff, List.filter_eq_nil_iff]
  unfold keeps
  refine ⟨fun h => ?_, fun h q hq c => ?_⟩
  · cases e : mEnd (fun _ => none) l p.1 with
    | none => rfl
    | some k =>
      obtain ⟨q, hq, e1, e2⟩ := h2 _ _ e
      refine decide_eq_true ?_
      have := h q hq
      unfold hitsB at this
      rw [decide_eq_true e1, Bool.true_and, decide_eq_true_eq] at this
      omega
  · unfold hitsB at c
    rw [Bool.and_eq_true, decide_eq_true_eq, decide_eq_true_eq] at c
    obtain ⟨k, e, le⟩ := h1 q hq
    rw [c.1] at e
    rw [e] at h
    have := of_decide_eq_true h
    omega
def spLForm (K : PySem.W.Frag) : Sp := fun vs H Q _ => ∃ (a : Addr) (ks : List Addr) (ps : List Pk), vs = [.ref a] ∧ SqL K H a (ks.map V.ref) ∧ PicksAt H ks ps ∧ ps.length ≤ 20 ∧
  ∀ (p : Addr) (H' : Hp) (ks' : List Addr), H p = none → Same H H' → H' p = some (.lst (ks'.map V.ref)) → PicksAt H' ks' (oneForm ps) → Q (.ref p) H'
theorem step2_split {l : List Pk} {i : Nat} {p : Pk} (h : l[i]? = some p) : step2 (l.drop i) = if i + 1 = l.length ∨ (l[i + 1]?).map (·.1) ≠ some p.1 then p :: step2 (l.drop (i + 1)) else step2 (l.drop (i + 1)) := by
  obtain ⟨hi, ep⟩ := List.getElem?_eq_some_iff.mp h
  have ed : l.drop i = p :: l.drop (i + 1) := by
    rw [← ep]
    exact List.drop_eq_getElem_cons hi
  rw [ed]
  by_cases c : i + 1 = l.length
  · rw [if_pos (.inl c), List.drop_of_length_le (by omega)]
    rfl
  · have hi2 : i + 1 < l.length := by omega
    have e2 : l.drop (i + 1) = l[i + 1] :: l.drop (i + 1 + 1) := List.drop_eq_getElem_cons hi2
    rw [e2, List.getElem?_eq_getElem hi2]
    show (if p.1 = l[i + 1].1 then _ else _) = _
    by_cases d : p.1 = l[i + 1].1
    · rw [if_pos d, if_neg fun q => q.elim c fun q => q (by rw [d]; rfl)]
    · rw [if_neg d, if_pos (.inr fun q => d (Option.some.inj q).symm)]
section
variable {P : Program} {w : World} {K : PySem.W.Frag} {mg : Str → Option Value} {base : Heap}
abbrev nLF : List Str := ["_law_picks_so", "_law_first", "_law_bay", "_law_keep", "_law_pair", "_law_k"]
theorem scLF : FnScope nLF ["_law_picks_so"] (defScope sLForm) := ⟨rfl, rfl, rfl, by decide +kernel, rfl, by decide +kernel, by decide +kernel⟩
theorem ok_lform {f : Addr} {fd : FuncData} (F : Fun K "_law_form" "_law_form" sLForm f fd) (n_len : mg "len" = none) (n_range : mg "range" = none) : FnOk P w K mg base CX0 1 f fd ["_law_picks_so"] (spLForm K) := by
  refine F.ok scLF (fun vs H Q E h => ?_) (fun cdv A outer s H vs Q E hr h => ?_)
  · obtain ⟨a, ks, ps, rfl, _⟩ := h
    rfl
  · obtain ⟨a, ks, ps, rfl, ha, hp, hn, q⟩ := h
    refine ⟨_, (pss_cons (ps_set (i := 1) scLF.nd rfl (Or.inr rfl) (pe_lst pa_nil))
    (pss_cons (ps_for PassesOwn.never rfl (pi_list (pv 0)) (pg_tup rfl (pgs_cons (pg_name (i := 2) scLF.nd rfl (Or.inr rfl)) (pgs_cons (pg_name (i := 3) scLF.nd rfl (Or.inr rfl)) pgs_nil))) (pss_one (ps_if (pt_cmpR (OwR.op_eqNil hr.units) (pe_lc (own := [("_law_pair", 4)]) (by rfl) scLF.nd (pi_list (pv 1)) (blkOk_by (own := [("_law_pair", 4)]) (N := nLF) (sc := defScope sLForm) (by decide +kernel)) (fun _ _ _ _ _ => (pg_name (i := 4) scLF.nd rfl (Or.inl rfl))) (fun _ _ _ _ _ => pts_one (PW.pt (pw_and (pt_cmpR op_eq (pe_ix (r := rIxT K) ix_tup (pv 4) pe_int (fun _ _ => rfl)) (pv 2) (nomark _)) (pw_and1 (pt_cmpR op_le (pe_ix (r := rIxT K) ix_tup (pv 4) pe_int (fun _ _ => rfl)) (pv 3) (nomark _)))))) (fun _ _ _ _ _ => (pv 4))) (pe_lst pa_nil) (nomark _)) (pss_one (ps_expr (pe_bm PySem.F.plainAttrs_list PySem.F.slot_list_append PySem.F.type_list_append mt_append (pv 1) (pa_cons (pe_tup (pa_cons (pv 2) (pa_cons (pv 3) pa_nil))) pa_nil)))) pss_nil)))
    (pss_one (ps_ret (pe_lc (own := [("_law_k", 5)]) (by rfl) scLF.nd (pi_range1 rfl n_range (pa_cons (pe_callB call_len_seq (by rfl) n_len boot_len (pa_cons (pv 1) pa_nil)) pa_nil)) (blkOk_by (own := [("_law_k", 5)]) (N := nLF) (sc := defScope sLForm) (by decide +kernel)) (fun _ _ _ _ _ => (pg_name (i := 5) scLF.nd rfl (Or.inl rfl))) (fun _ _ _ _ _ => pts_one (PW.pt (pw_or (pt_cmpR op_eq (pe_op op_add (pv 5) pe_int) (pe_callB (OwR.cr_lenK (K := K) rfl) (by rfl) n_len boot_len (pa_cons (pv 1) pa_nil)) (nomark _)) (pw_or1 (pt_cmpR op_ne (pe_ix (r := rIxT K) ix_tup (pe_ix (r := rIxL K) ix_list (pv 1) (pe_op op_add (pv 5) pe_int) (fun _ _ => rfl)) pe_int (fun _ _ => rfl)) (pe_ix (r := rIxT K) ix_tup (pe_ix (r := rIxL K) ix_list (pv 1) (pv 5) (fun _ _ => rfl)) pe_int (fun _ _ => rfl)) (nomark _)))))) (fun _ _ _ _ _ => (pe_ix (r := rIxL K) ix_list (pv 1) (pv 5) (fun _ _ => rfl)))))))), ?_⟩
    have sz := sizeLine_eq
    refine ⟨Nat.zero_le _, fun L hL => ?_⟩
    have s0 := Same.of_new (o := .lst []) hL
    refine ⟨_, rfl, a, rfl, ⟨_, SqL.mono ha s0⟩, ?_⟩
    refine for_it (walk_list (xs := ks.map V.ref)) (fun i σ H' => Same H H' ∧ (∃ x2 x3, σ = [some (.ref a), some (.ref L), x2, x3, none, none]) ∧ ∃ kk : List Addr, H' L = some (.lst (kk.map V.ref)) ∧ kk.length ≤ i ∧ PicksAt H' kk (kept (fun _ => none) (ps.take i)))
      ⟨s0, ⟨none, none, rfl⟩, [], upd_same, Nat.le_refl 0, PicksAt.nil⟩ (fun i σ H' _ q => SqL.mono ha q.1) (fun i x σ H' H2 hi q0 y => ?_) (fun σ H' q0 => ?_)
    · obtain ⟨s1, ⟨x2, x3, rfl⟩, kk, eL, kl, pk⟩ := q0
      obtain ⟨rfl, hx⟩ := y
      obtain ⟨k, p, rfl, hk, hpi, tk⟩ := (hp.same s1).get hx
      have hi2 : i < ps.length := (List.getElem?_eq_some_iff.mp hpi).1
      have etake : ps.take (i + 1) = ps.take i ++ [p] := by
        rw [List.take_add_one, hpi]
        rfl
      refine ⟨k, _, rfl, .inl (.inl tk), rfl, _, _, rfl, _, _, rfl, rfl, ?_⟩
      refine ⟨_, rfl, L, rfl, ⟨_, SqL.of eL⟩, fun D hD => ?_⟩
      have nLD : L ≠ D := ne_of_none eL hD
      refine lc_it (walk_list (xs := kk.map V.ref)) (fun j Hx => Same H2 Hx ∧ ∃ hh : List Addr, Hx D = some (.lst (hh.map V.ref)) ∧ hh.length ≤ j ∧ hh.length = (((kept (fun _ => none) (ps.take i)).take j).filter (hitsB p.1 p.2)).length) ⟨Same.of_new hD, [], upd_same, Nat.le_refl 0, rfl⟩ (fun j Hx _ q => SqL.of (q.1 L _ eL)) (fun j x Hx Hy hj q1 y => ?_) (fun Hx q1 => ?_)
      · obtain ⟨s2, hh, eD, ll, lf⟩ := q1
        obtain ⟨rfl, hx⟩ := y
        obtain ⟨k2, p2, rfl, hk2, hp2, tk2⟩ := (pk.same s2).get hx
        have et2 : (kept (fun _ => none) (ps.take i)).take (j + 1) = (kept (fun _ => none) (ps.take i)).take j ++ [p2] := by
          rw [List.take_add_one, hp2]
          rfl
        rw [List.length_map] at hj
        refine ⟨rfl, ?_⟩
        refine ⟨_, rfl, k2, _, 0, _, rfl, rfl, SqT.of tk2, rfl, ?_⟩
        refine ⟨_, rfl, rfl, _, rfl, ?_⟩
        have snoc : ∀ b : Bool, hitsB p.1 p.2 p2 = b → (((kept (fun _ => none) (ps.take i)).take (j + 1)).filter (hitsB p.1 p.2)).length = (((kept (fun _ => none) (ps.take i)).take j).filter (hitsB p.1 p.2)).length + b.toNat := fun b e => by
          rw [et2, List.filter_append, List.length_append, List.filter_cons, e]
          cases b <;> rfl
        by_cases c : p2.1 = p.1
        · rw [show decide (V.str p2.1 = V.str p.1) = true from decide_eq_true (by rw [c])]
          refine iteT ?_
          refine ⟨_, rfl, k2, _, 1, _, rfl, rfl, SqT.of tk2, rfl, ?_⟩
          refine ⟨_, rfl, _, _, rfl, rfl, _, rfl, ?_⟩
          by_cases d : p2.2 ≤ p.2
          · rw [decide_eq_true d]
            refine iteT ?_
            have sn := snoc true (by unfold hitsB; rw [decide_eq_true c, decide_eq_true d]; rfl)
            refine ⟨_, rfl, _, eD, by rw [List.length_map]; omega, fun b o e => ?_, hh ++ [k2], ?_, ?_, ?_⟩
            · rw [upd_ne (ne_of_none e hD)]
              exact s2 b o e
            · rw [List.map_append]
              exact upd_same
            · rw [List.length_append]
              show hh.length + 1 ≤ j + 1
              omega
            · rw [List.length_append, sn, lf]
              rfl
          · rw [decide_eq_false d]
            refine iteF ?_
            have sn := snoc false (by unfold hitsB; rw [decide_eq_false d, Bool.and_false])
            exact ⟨s2, hh, eD, by omega, by rw [sn]; exact lf⟩
        · rw [show decide (V.str p2.1 = V.str p.1) = false from decide_eq_false (fun e => c (by injection e))]
          refine iteF ?_
          refine iteF ?_
          have sn := snoc false (by unfold hitsB; rw [decide_eq_false c, Bool.false_and])
          exact ⟨s2, hh, eD, by omega, by rw [sn]; exact lf⟩
      · obtain ⟨s2, hh, eD, ll, lf⟩ := q1
        rw [List.length_map, List.take_of_length_le (by rw [pk.len]; exact Nat.le_refl _)] at lf
        refine ⟨Nat.zero_le _, fun N hN => ?_⟩
        have s3 := Same.of_new (o := .lst []) hN
        refine ⟨D, N, hh.map V.ref, rfl, rfl, SqL.of (s3 D _ eD), SqL.of upd_same, ?_⟩
        have eb : (hh.map V.ref).isEmpty = keeps (mEnd (fun _ => none) (ps.take i)) p := by
          rw [← keeps_hits, Bool.eq_iff_iff, List.isEmpty_iff, List.isEmpty_iff, ← List.length_eq_zero_iff, ← List.length_eq_zero_iff, List.length_map, lf]
        rw [eb]
        have s4 : Same H (upd Hx N (.lst [])) := (s1.trans s2).trans s3
        have eL4 : upd Hx N (.lst []) L = some (.lst (kk.map V.ref)) := s3 L _ (s2 L _ eL)
        have pk4 : PicksAt (upd Hx N (.lst [])) kk (kept (fun _ => none) (ps.take i)) := (pk.same s2).same s3
        by_cases c : keeps (mEnd (fun _ => none) (ps.take i)) p = true
        · rw [c]
          refine ⟨true, rfl, iteT ?_⟩
          refine ⟨_, rfl, .inl ⟨rfl, _, SqL.of eL4⟩, ?_⟩
          refine ⟨_, rfl, _, rfl, by show (2:Nat) ≤ sizeLine; omega, fun T hT => ?_⟩
          refine ⟨L, _, _, rfl, rfl, upd_keep2 eL4 hT, by rw [List.length_map]; omega, ?_⟩
          have nLT : L ≠ T := ne_of_none eL4 hT
          refine ⟨fun b o e => ?_, ⟨_, _, rfl⟩, kk ++ [T], ?_, ?_, ?_⟩
          · rw [upd_ne (ne_of_none e hL), upd_ne (ne_of_none (s4 b o e) hT)]
            exact s4 b o e
          · rw [List.map_append]
            exact upd_same
          · rw [List.length_append]
            show kk.length + 1 ≤ i + 1
            omega
          · rw [etake, kept_app, if_pos c]
            have g1 : PicksAt (upd (upd Hx N (.lst [])) T (.tup [.str p.1, .int p.2])) kk (kept (fun _ => none) (ps.take i)) := pk4.same (Same.of_new hT)
            exact (g1.snoc (k := T) (p := p) (by show upd _ _ _ _ = _; exact upd_same)).upd fun xs e => by
              rw [upd_keep2 eL4 hT] at e
              cases e
        · rw [Bool.eq_false_iff.mpr c]
          refine ⟨false, rfl, iteF ?_⟩
          refine ⟨s4, ⟨_, _, rfl⟩, kk, eL4, by omega, ?_⟩
          rw [etake, kept_app, if_neg c, List.append_nil]
          exact pk4
    · obtain ⟨s1, ⟨x2, x3, rfl⟩, kk, eL, kl, pk⟩ := q0
      rw [List.length_map, hp.len, List.take_length] at pk
      rw [List.length_map] at kl
      have lk := pk.len
      have lks := hp.len
      refine ⟨_, rfl, L, _, rfl, .inl (SqL.of eL), ?_⟩
      rw [List.length_map]
      refine ⟨_, rfl, by omega, by omega, fun D hD => ?_⟩
      refine lc_it walk_range (fun j Hx => Same H' Hx ∧ ∃ (hh : List Addr) (ss : List Pk), Hx D = some (.lst (hh.map V.ref)) ∧ hh.length ≤ j ∧ PicksAt Hx hh ss ∧ ss ++ step2 ((kept (fun _ => none) ps).drop j) = oneForm ps) ⟨Same.of_new hD, [], [], upd_same, Nat.le_refl 0, PicksAt.nil, rfl⟩ (fun _ _ _ _ => True.intro) (fun j x Hx Hy hj q1 y => ?_) (fun Hx q1 => ?_)
      · obtain ⟨s2, hh, ss, eD, ll, ph, es⟩ := q1
        obtain ⟨rfl, rfl⟩ := y
        have hj2 : j < kk.length := by omega
        obtain ⟨k0, hk0⟩ : ∃ k0, kk[j]? = some k0 := ⟨_, List.getElem?_eq_getElem hj2⟩
        obtain ⟨p0, hp0⟩ : ∃ p0, (kept (fun _ => none) ps)[j]? = some p0 := ⟨_, List.getElem?_eq_getElem (by omega)⟩
        have t0 := (pk.same s2).at_ j k0 p0 hk0 hp0
        have sp := step2_split hp0
        have i0 : atI (kk.map V.ref) (0 + (j : Int)) = some (.ref k0) := by
          rw [Int.zero_add]
          exact atI_nat (by rw [List.getElem?_map, hk0]; rfl)
        refine ⟨rfl, ?_⟩
        have eL2 := s2 L _ eL
        refine ⟨_, rfl, _, _, rfl, rfl, _, rfl, L, _, rfl, .inl (SqL.of eL2), rfl, _, rfl, ?_⟩
        rw [List.length_map]
        have put : j + 1 = (kept (fun _ => none) ps).length ∨ ((kept (fun _ => none) ps)[j + 1]?).map (·.1) ≠ some p0.1 → ∃ acc, Hy D = some (.lst acc) ∧ acc.length < sizeLine ∧ (Same H' (upd Hy D (.lst (acc ++ [.ref k0]))) ∧ ∃ (hh : List Addr) (ss : List Pk), upd Hy D (.lst (acc ++ [.ref k0])) D = some (.lst (hh.map V.ref)) ∧ hh.length ≤ j + 1 ∧ PicksAt (upd Hy D (.lst (acc ++ [.ref k0]))) hh ss ∧ ss ++ step2 ((kept (fun _ => none) ps).drop (j + 1)) = oneForm ps) := fun c => by
          rw [if_pos c] at sp
          refine ⟨_, eD, by rw [List.length_map]; omega, fun b o e => ?_, hh ++ [k0], ss ++ [p0], ?_, ?_, ?_, ?_⟩
          · rw [upd_ne (ne_of_none e hD)]
            exact s2 b o e
          · rw [List.map_append]
            exact upd_same
          · rw [List.length_append]
            show hh.length + 1 ≤ j + 1
            omega
          · exact (ph.snoc t0).upd fun xs e => by
              rw [eD] at e
              cases e
          · rw [List.append_assoc, ← es, sp]
            rfl
        by_cases c : j + 1 = (kept (fun _ => none) ps).length
        · rw [show decide (V.int (0 + (j : Nat) + 1) = V.int ((kk.length : Nat) : Int)) = true from decide_eq_true (by rw [lk, ← c]; congr 1; omega)]
          refine iteT ?_
          refine iteT ?_
          exact ⟨_, rfl, _, rfl, L, _, _, _, rfl, rfl, SqL.of eL2, i0, put (.inl c)⟩
        · rw [show decide (V.int (0 + (j : Nat) + 1) = V.int ((kk.length : Nat) : Int)) = false from decide_eq_false (fun e => c (by injection e; omega))]
          refine iteF ?_
          obtain ⟨k1, hk1⟩ : ∃ k1, kk[j + 1]? = some k1 := ⟨_, List.getElem?_eq_getElem (by omega)⟩
          obtain ⟨p1, hp1⟩ : ∃ p1, (kept (fun _ => none) ps)[j + 1]? = some p1 := ⟨_, List.getElem?_eq_getElem (by omega)⟩
          have t1 := (pk.same s2).at_ (j + 1) k1 p1 hk1 hp1
          have i1 : atI (kk.map V.ref) (0 + (j : Int) + 1) = some (.ref k1) := by
            rw [show 0 + (j : Int) + 1 = ((j + 1 : Nat) : Int) by omega]
            exact atI_nat (by rw [List.getElem?_map, hk1]; rfl)
          refine ⟨_, rfl, _, rfl, _, _, rfl, rfl, L, _, _, _, rfl, rfl, SqL.of eL2, i1, ?_⟩
          refine ⟨k1, _, 0, _, rfl, rfl, SqT.of t1, rfl, ?_⟩
          refine ⟨_, rfl, _, rfl, L, _, _, _, rfl, rfl, SqL.of eL2, i0, ?_⟩
          refine ⟨k0, _, 0, _, rfl, rfl, SqT.of t0, rfl, rfl, _, rfl, ?_⟩
          by_cases d : p1.1 = p0.1
          · rw [show (!decide (V.str p1.1 = V.str p0.1)) = false by rw [decide_eq_true (by rw [d])]; rfl]
            refine iteF ?_
            rw [if_neg (fun z => z.elim c fun z => z (by rw [hp1]; exact congrArg some d))] at sp
            exact ⟨s2, hh, ss, eD, by omega, ph, by rw [← es, sp]⟩
          · rw [show (!decide (V.str p1.1 = V.str p0.1)) = true by rw [decide_eq_false (fun e => d (by injection e))]; rfl]
            refine iteT ?_
            exact ⟨_, rfl, _, rfl, L, _, _, _, rfl, rfl, SqL.of eL2, i0, put (.inr (by rw [hp1]; exact fun e => d (Option.some.inj e)))⟩
      · obtain ⟨s2, hh, ss, eD, ll, ph, es⟩ := q1
        rw [lk, Int.toNat_natCast, List.drop_length] at es
        have es : ss = oneForm ps := by rw [← es]; exact (List.append_nil ss).symm
        subst es
        exact q D Hx hh (s1.free hD) (s1.trans s2) eD ph
end
end K10
end
section
namespace K10
open PySem PySem.Spec PyProof.Rows L2
abbrev sRow : Stmt := top 30
theorem But.free {p l : Addr} {H H' : Hp} (s : But p H H') (hp : H' p ≠ none) (h : H' l = none) : H l = none := by
  cases e : H l with
  | none => rfl
  | some o =>
    by_cases n : l = p
    · rw [n] at h
      exact (hp h).elim
    · rw [s l o n e] at h
      cases h
theorem PenAt.some {H : Hp} {p c : Addr} {ns : List Int} {n : Nat} {z : Int} (P : PenAt H p c ns n z) : H p ≠ none := by
  rw [P.pen]
  exact fun h => by cases h
theorem PenAt.same {H H' : Hp} {p c : Addr} {ns : List Int} {n : Nat} {z : Int} (P : PenAt H p c ns n z) (s : Same H H') : PenAt H' p c ns n z := ⟨s _ _ P.pen, s _ _ P.cells, P.few, P.rest⟩
theorem SqL.but {K : PySem.W.Frag} {p : Addr} {H H' : Hp} {a : Addr} {xs : List V} (h : SqL K H a xs) (n : a ≠ p) (s : But p H H') : SqL K H' a xs := h.elim (fun r => .inl (But.rd s n r)) .inr
theorem nth {α : Type} {xs : List α} {d : Int} (h0 : 0 ≤ d) (h1 : d < xs.length) : ∃ x, x ∈ xs ∧ atI xs d = some x := by
  obtain ⟨j, rfl⟩ : ∃ j : Nat, d = (j : Int) := ⟨d.toNat, by omega⟩
  have hj : j < xs.length := by omega
  exact ⟨xs[j], List.getElem_mem hj, atI_nat (List.getElem?_eq_getElem hj)⟩
theorem cut_63 {ns : List Int} (h : ns.length ≤ 63) : cutV (ns.map V.int) none (some 63) = ns.map V.int := by
  have e : (some 63 : Option Int) = some ((63 : Nat) : Int) := rfl
  unfold cutV
  rw [HT.sIx_none, e, HT.sIx_nat, List.drop_zero]
  exact List.take_of_length_le (by rw [List.length_map]; omega)
theorem PenAt.put {H : Hp} {p c D : Addr} {ns : List Int} {n : Nat} {z : Int} {o : HO} (P : PenAt H p c ns n z) (n1 : p ≠ D) (n2 : c ≠ D) : PenAt (upd H D o) p c ns n z := ⟨by rw [upd_ne n1]; exact P.pen, by rw [upd_ne n2]; exact P.cells, P.few, P.rest⟩
theorem PicksAt.but {H H' : Hp} {p c : Addr} {ns : List Int} {n : Nat} {z : Int} {ks : List Addr} {ps : List Pk} (h : PicksAt H ks ps) (P : PenAt H p c ns n z) (s : But p H H') : PicksAt H' ks ps := h.mono fun k xs e => by
  refine s k _ (fun q => ?_) e
  rw [q, P.pen] at e
  cases e
def spPen (K : PySem.W.Frag) : Sp := fun vs H Q _ => ∃ (a : Addr) (ns : List Int), vs = [.ref a] ∧ SqL K H a (ns.map V.int) ∧ ns.length ≤ 63 ∧ ∀ p c H', H p = none → Same H H' → PenAt H' p c ns 0 0 → Q (.ref p) H'
def spPick (K : PySem.W.Frag) : Sp := fun vs H Q _ => ∃ (p c l : Addr) (ns : List Int) (n : Nat) (z : Int) (xs : List V), vs = [.ref p, .ref l] ∧ PenAt H p c ns n z ∧ n < 100000 ∧ l ≠ p ∧ SqL K H l xs ∧ 0 < xs.length ∧ xs.length < 1000 ∧
  ∀ (x : V) (n' : Nat) (z' : Int) (H' : Hp), x ∈ xs → n' ≤ n + 1 → PenAt H' p c ns n' z' → But p H H' → Q x H'
theorem small_int {i : Int} (h0 : 0 ≤ i) (h1 : i < 1000) : i.natAbs < 2 ^ 1000 := Nat.lt_of_lt_of_le (show i.natAbs < 1000 by omega) (by decide +kernel)
def spRow (K : PySem.W.Frag) : Sp := fun vs H Q _ => ∃ (p c b l : Addr) (ns : List Int) (n : Nat) (z : Int) (bs : List Str) (ms : List Int) (m : Nat), vs = [.ref p, .ref b, .ref l, .int m] ∧ m ≤ 12 ∧ PenAt H p c ns n z ∧ n + 30 < 100000 ∧ b ≠ p ∧ l ≠ p ∧
  SqL K H b (bs.map V.str) ∧ 0 < bs.length ∧ bs.length < 1000 ∧ SqL K H l (ms.map V.int) ∧ 0 < ms.length ∧ ms.length < 1000 ∧
  ∀ (r : Addr) (ks : List Addr) (ps : List Pk) (n' : Nat) (z' : Int) (H' : Hp), r ≠ p → H' r = some (.lst (ks.map V.ref)) → PicksAt H' ks ps → ps.length ≤ m → (∀ q ∈ ps, q.1 ∈ bs ∧ q.2 ∈ ms) → n' ≤ n + 30 → PenAt H' p c ns n' z' → But p H H' → Q (.ref r) H'
section
variable {P : Program} {w : World} {K : PySem.W.Frag} {mg : Str → Option Value} {base : Heap}
theorem scPe : FnScope ["_law_script"] ["_law_script"] (defScope sPen) := ⟨rfl, rfl, rfl, by decide +kernel, rfl, by decide +kernel, by decide +kernel⟩
theorem ok_pen {f : Addr} {fd : FuncData} (F : Fun K "_law_pen" "_law_pen" sPen f fd) (T : Nm mg) : FnOk P w K mg base CX0 1 f fd ["_law_script"] (spPen K) := by
  refine F.ok scPe (fun vs H Q E h => ?_) (fun cdv A outer s H vs Q E hr h => ?_)
  · obtain ⟨a, ns, rfl, _⟩ := h
    rfl
  · obtain ⟨a, ns, rfl, ha, hl, q⟩ := h
    refine ⟨_, (pss_one (ps_ret (pe_lst (pa_cons (pe_callTy call_list_of (by rfl) T.n_list (by decide +kernel) (pa_cons (pe_slice sl_list (pv 0) po_none (po_some pe_int)) pa_nil)) (pa_cons pe_int (pa_cons pe_int pa_nil)))))), ?_⟩
    have sz := sizeLine_eq
    refine ⟨_, rfl, 63, rfl, a, _, rfl, ha, ?_⟩
    rw [cut_63 hl]
    intro b hb
    refine ⟨b, _, rfl, .inl (SqL.of upd_same), fun c hc => ⟨by show (3 : Nat) ≤ sizeLine; omega, fun p hp => ?_⟩⟩
    have s3 := ((Same.of_new hb).trans (Same.of_new hc)).trans (Same.of_new (o := .lst [.ref c, .int 0, .int 0]) hp)
    exact q p c _ (((Same.of_new hb).trans (Same.of_new hc)).free hp) s3 ⟨upd_same, upd_keep2 upd_same hp, hl, by decide⟩
theorem scPi : FnScope ["_law_pen_here", "_law_some"] ["_law_pen_here", "_law_some"] (defScope sPick) := ⟨rfl, rfl, rfl, by decide +kernel, rfl, by decide +kernel, by decide +kernel⟩
theorem ok_pick {f fD : Addr} {fd fdD : FuncData} (F : Fun K "_law_pick" "_law_pick" sPick f fd) (T : Nm mg) (FD : Fun K "_law_draw" "_law_draw" sDraw fD fdD) (gD : mg "_law_draw" = some (.ref fD)) : FnOk P w K mg base CX0 2 f fd ["_law_pen_here", "_law_some"] (spPick K) := by
  have GD : FnOk P w K mg base CX0 1 fD fdD ["_law_pen_here", "_law_many"] spDraw := ok_draw FD T
  have bD : Binds K fdD ["_law_pen_here", "_law_many"] [] := FD.binds fun _ _ _ _ _ _ us hl => match us, hl with | [_, _], _ => rfl
  refine F.ok scPi (fun vs H Q E h => ?_) (fun cdv A outer s H vs Q E hr h => ?_)
  · obtain ⟨p, c, l, ns, n, z, xs, rfl, _⟩ := h
    rfl
  · obtain ⟨p, c, l, ns, n, z, xs, rfl, hp, hn, nl, hl, h0, h1, q⟩ := h
    refine ⟨_, (pss_one (ps_ret (pe_ix ix_list (pv 1) (pe_call GD hr (by rfl) gD FD.kp bD .nil pass0 (pa_cons (pv 0) (pa_cons (pe_callB call_len_seq (by rfl) T.n_len boot_len (pa_cons (pv 1) pa_nil)) pa_nil))) (fun _ _ => rfl)))), ?_⟩
    refine ⟨_, rfl, _, rfl, _, rfl, l, xs, rfl, .inl hl, p, c, ns, n, z, _, rfl, hp, hn, by omega, ?_, fun d n' z' H' d0 d1 hn' hp' s' => ?_⟩
    · have : (xs.length : Int).natAbs < 1000 := by omega
      exact Nat.lt_of_lt_of_le this (by decide +kernel)
    · obtain ⟨x, hx, ex⟩ := nth d0 d1
      exact ⟨l, xs, d, x, rfl, rfl, SqL.but hl nl s', ex, q x n' z' H' hx hn' hp' s'⟩
abbrev nRo : List Str := ["_law_pen_here", "_law_bays", "_law_keeps", "_law_top", "_law_k"]
theorem scRo : FnScope nRo ["_law_pen_here", "_law_bays", "_law_keeps", "_law_top"] (defScope sRow) := ⟨rfl, rfl, rfl, by decide +kernel, rfl, by decide +kernel, by decide +kernel⟩
theorem ok_row {f fD fP : Addr} {fd fdD fdP : FuncData} (F : Fun K "_law_row" "_law_row" sRow f fd) (T : Nm mg) (n_range : mg "range" = none) (FD : Fun K "_law_draw" "_law_draw" sDraw fD fdD) (gD : mg "_law_draw" = some (.ref fD)) (FP : Fun K "_law_pick" "_law_pick" sPick fP fdP) (gP : mg "_law_pick" = some (.ref fP)) : FnOk P w K mg base CX0 3 f fd ["_law_pen_here", "_law_bays", "_law_keeps", "_law_top"] (spRow K) := by
  have GD : FnOk P w K mg base CX0 2 fD fdD ["_law_pen_here", "_law_many"] spDraw := (ok_draw FD T).mono (by decide)
  have bD : Binds K fdD ["_law_pen_here", "_law_many"] [] := FD.binds fun _ _ _ _ _ _ us hl => match us, hl with | [_, _], _ => rfl
  have GP : FnOk P w K mg base CX0 2 fP fdP ["_law_pen_here", "_law_some"] (spPick K) := ok_pick FP T FD gD
  have bP : Binds K fdP ["_law_pen_here", "_law_some"] [] := FP.binds fun _ _ _ _ _ _ us hl => match us, hl with | [_, _], _ => rfl
  refine F.ok scRo (fun vs H Q E h => ?_) (fun cdv A outer s H vs Q E hr h => ?_)
  · obtain ⟨p, c, b, l, ns, n, z, bs, ms, m, rfl, _⟩ := h
    rfl
  · obtain ⟨p, c, b, l, ns, n, z, bs, ms, m, rfl, hm10, hp, hn, nb, nl, hb, b0, b1, hm, m0, m1, q⟩ := h
    refine ⟨_, (pss_one (ps_ret (pe_lc (own := [("_law_k", 4)]) (by rfl) scRo.nd (pi_range1 rfl n_range (pa_cons (pe_call GD hr (by rfl) gD FD.kp bD .nil pass0 (pa_cons (pv 0) (pa_cons (pe_op op_add (pv 3) pe_int) pa_nil))) pa_nil)) (blkOk_by (own := [("_law_k", 4)]) (N := nRo) (sc := defScope sRow) (by decide +kernel)) (fun _ _ _ _ _ => (pg_name (i := 4) scRo.nd rfl (Or.inl rfl))) (fun _ _ _ _ _ => pts_nil) (fun _ _ _ _ _ => (pe_tup (pa_cons (pe_call GP hr (by rfl) gP FP.kp bP .nil pass0 (pa_cons (pv 0) (pa_cons (pv 1) pa_nil))) (pa_cons (pe_call GP hr (by rfl) gP FP.kp bP .nil pass0 (pa_cons (pv 0) (pa_cons (pv 2) pa_nil))) pa_nil))))))), ?_⟩
    have sz := sizeLine_eq
    refine ⟨_, rfl, _, rfl, m, 1, rfl, rfl, p, c, ns, n, z, _, rfl, hp, by omega, by omega, small_int (by omega) (by omega), fun d n1 z1 H1 d0 d1 hn1 hp1 s1 => ⟨d, rfl, by omega, by omega, fun R hR => ?_⟩⟩
    have nR : R ≠ p := fun e => hp1.some (e ▸ hR)
    have nRc : c ≠ R := ne_of_none hp1.cells hR
    refine lc_it walk_range (fun i Hx => But p H1 Hx ∧ ∃ (n' : Nat) (z' : Int) (ks : List Addr) (ps : List Pk), PenAt Hx p c ns n' z' ∧ n' ≤ n + 1 + 2 * i ∧ Hx R = some (.lst (ks.map V.ref)) ∧ ks.length ≤ i ∧ PicksAt Hx ks ps ∧ ∀ q ∈ ps, q.1 ∈ bs ∧ q.2 ∈ ms)
      ⟨But.new hR, n1, z1, [], [], hp1.same (Same.of_new hR), by omega, upd_same, Nat.le_refl 0, PicksAt.nil, fun q h => by cases h⟩ (fun _ _ _ _ => True.intro) (fun i x Hx Hy hi q0 y => ?_) (fun Hx q0 => ?_)
    · obtain ⟨sB, n', z', ks, ps, pn, ln, eR, lk, pk, mem⟩ := q0
      obtain ⟨rfl, rfl⟩ := y
      refine ⟨rfl, ?_⟩
      have s2 : But p H Hy := s1.trans sB
      refine ⟨_, rfl, _, rfl, p, c, b, ns, n', z', _, rfl, pn, by omega, nb, SqL.but hb nb s2, by rw [List.length_map]; exact b0, by rw [List.length_map]; exact b1, fun x1 n2 z2 H2 hx1 hn2 hp2 s3 => ?_⟩
      obtain ⟨bq, hbq, rfl⟩ := List.mem_map.mp hx1
      have s4 : But p H H2 := s2.trans s3
      refine ⟨_, rfl, _, rfl, p, c, l, ns, n2, z2, _, rfl, hp2, by omega, nl, SqL.but hm nl s4, by rw [List.length_map]; exact m0, by rw [List.length_map]; exact m1, fun x2 n3 z3 H3 hx2 hn3 hp3 s5 => ?_⟩
      obtain ⟨mq, hmq, rfl⟩ := List.mem_map.mp hx2
      refine ⟨by show (2 : Nat) ≤ sizeLine; omega, fun T hT => ?_⟩
      have s6 : But p Hy H3 := s3.trans s5
      have eR3 := s6 R _ nR eR
      have nRT : R ≠ T := ne_of_none eR3 hT
      refine ⟨_, upd_keep2 eR3 hT, by rw [List.length_map]; omega, ?_, n3, z3, ks ++ [T], ps ++ [(bq, mq)], ?_, by omega, ?_, ?_, ?_, ?_⟩
      · intro a o na e
        rw [upd_ne (ne_of_none e hR)]
        exact upd_keep2 (s6 a o na (sB a o na e)) hT
      · exact (hp3.same (Same.of_new hT)).put (Ne.symm nR) nRc
      · rw [List.map_append]
        exact upd_same
      · rw [List.length_append]
        show ks.length + 1 ≤ i + 1
        omega
      · have p1 : PicksAt (upd H3 T (.tup [.str bq, .int mq])) ks ps := (pk.but pn s6).same (Same.of_new hT)
        have p2 := p1.snoc (k := T) (p := (bq, mq)) upd_same
        exact p2.upd fun xs e => by
          rw [upd_keep2 eR3 hT] at e
          cases e
      · intro q hq
        rcases List.mem_append.mp hq with h | h
        · exact mem q h
        · cases List.mem_singleton.mp h
          exact ⟨hbq, hmq⟩
    · obtain ⟨sB, n', z', ks, ps, pn, ln, eR, lk, pk, mem⟩ := q0
      have hd : d.toNat ≤ m := by omega
      exact q R ks ps n' z' Hx nR eR pk (by rw [← pk.len]; omega) mem (by omega) pn (s1.trans sB)
end
end K10
end
section
namespace K10
open PySem PySem.Spec PyProof.Rows L2
abbrev sVals : Stmt := top 32
abbrev sCalled : Stmt := top 33
theorem ValsAt.nil {H : Hp} : ValsAt H [] [] := ⟨rfl, fun i k p h => by cases h⟩
theorem ValsAt.snoc {H : Hp} {xs : List V} {ps : List Pk} (h : ValsAt H xs ps) {x : V} {p : Pk} (e : ValAt H x p) : ValsAt H (xs ++ [x]) (ps ++ [p]) := by
  refine ⟨by rw [List.length_append, List.length_append, h.len]; rfl, fun i y q e1 e2 => ?_⟩
  by_cases c : i < xs.length
  · rw [List.getElem?_append_left c] at e1
    rw [List.getElem?_append_left (by rw [← h.len]; exact c)] at e2
    exact h.at_ i y q e1 e2
  · rw [List.getElem?_append_right (by omega)] at e1
    rw [List.getElem?_append_right (by rw [← h.len]; omega), ← h.len] at e2
    cases hi : i - xs.length with
    | zero =>
      rw [hi] at e1 e2
      cases e1
      cases e2
      exact e
    | succ n =>
      rw [hi] at e1
      cases e1
theorem ValsAt.upd {H : Hp} {xs : List V} {ps : List Pk} (h : ValsAt H xs ps) {D : Addr} {o : HO} (n : ∀ ys, H D ≠ some (.tup ys)) : ValsAt (upd H D o) xs ps := ⟨h.len, fun i x p e1 e2 => (h.at_ i x p e1 e2).elim (fun ⟨k, e, t⟩ => .inl ⟨k, e, by
  show L2.upd _ _ _ _ = _
  rw [upd_ne (fun z => n _ (z ▸ t))]
  exact t⟩) .inr⟩
theorem ValsAt.but {H H' : Hp} {p c : Addr} {ns : List Int} {n : Nat} {z : Int} {xs : List V} {ps : List Pk} (h : ValsAt H xs ps) (P : PenAt H p c ns n z) (s : But p H H') : ValsAt H' xs ps := ⟨h.len, fun i x q e1 e2 => (h.at_ i x q e1 e2).elim (fun ⟨k, e, t⟩ => .inl ⟨k, e, by
  refine s k _ (fun w => ?_) t
  have t : H k = some (.tup _) := t
  rw [w, P.pen] at t
  cases t⟩) .inr⟩
def spVals (K : PySem.W.Frag) : Sp := fun vs H Q _ => ∃ (p c a : Addr) (ns : List Int) (n : Nat) (z : Int) (ks : List Addr) (ps : List Pk), vs = [.ref p, .ref a] ∧ PenAt H p c ns n z ∧ n + 30 < 100000 ∧ a ≠ p ∧ SqL K H a (ks.map V.ref) ∧ PicksAt H ks ps ∧ ps.length ≤ 12 ∧
  ∀ (r : Addr) (xs : List V) (n' : Nat) (z' : Int) (H' : Hp), r ≠ p → H r = none → H' r = some (.lst xs) → ValsAt H' xs ps → n' ≤ n + 12 → PenAt H' p c ns n' z' → But p H H' → Q (.ref r) H'
def spCalled (K : PySem.W.Frag) (C : Addr) : Sp := fun vs H Q _ => ∃ (a : Addr) (xs : List V) (ps : List Pk), vs = [.ref a] ∧ SqL K H a xs ∧ ValsAt H xs ps ∧ ps.length ≤ 3 ∧ (∀ p ∈ ps, Good p) ∧
  ∀ z H', H z = none → Same H H' → RuleAt C H' z (oneForm ps) → Q (.ref z) H'
section
variable {P : Program} {w : World} {K : PySem.W.Frag} {mg : Str → Option Value} {base : Heap}
abbrev nVa : List Str := ["_law_pen_here", "_law_picks_so", "_law_pair"]
theorem scVa : FnScope nVa ["_law_pen_here", "_law_picks_so"] (defScope sVals) := ⟨rfl, rfl, rfl, by decide +kernel, rfl, by decide +kernel, by decide +kernel⟩
theorem ok_vals {f fD : Addr} {fd fdD : FuncData} (F : Fun K "_law_values" "_law_values" sVals f fd) (T : Nm mg) (FD : Fun K "_law_draw" "_law_draw" sDraw fD fdD) (gD : mg "_law_draw" = some (.ref fD)) : FnOk P w K mg base CX0 2 f fd ["_law_pen_here", "_law_picks_so"] (spVals K) := by
  have GD : FnOk P w K mg base CX0 1 fD fdD ["_law_pen_here", "_law_many"] spDraw := ok_draw FD T
  have bD : Binds K fdD ["_law_pen_here", "_law_many"] [] := FD.binds fun _ _ _ _ _ _ us hl => match us, hl with | [_, _], _ => rfl
  refine F.ok scVa (fun vs H Q E h => ?_) (fun cdv A outer s H vs Q E hr h => ?_)
  · obtain ⟨p, c, a, ns, n, z, ks, ps, rfl, _⟩ := h
    rfl
  · obtain ⟨p, c, a, ns, n, z, ks, ps, rfl, hp, hn, na, ha, pk, ln, q⟩ := h
    refine ⟨_, (pss_one (ps_ret (pe_lc (own := [("_law_pair", 2)]) (by rfl) scVa.nd (pi_list (pv 1)) (blkOk_by (own := [("_law_pair", 2)]) (N := nVa) (sc := defScope sVals) (by decide +kernel)) (fun _ _ _ _ _ => (pg_name (i := 2) scVa.nd rfl (Or.inl rfl))) (fun _ _ _ _ _ => pts_nil) (fun _ _ _ _ _ => (pe_ifExp (PW.pt (pw_and (pt_cmpR op_eq (pe_ix (r := rIxT K) ix_tup (pv 2) pe_int (fun _ _ => rfl)) pe_int (nomark _)) (pw_and1 (pt_cmpR op_eq (pe_call GD hr (by rfl) gD FD.kp bD .nil pass0 (pa_cons (pv 0) (pa_cons pe_int pa_nil))) pe_int (nomark _))))) (pe_ix (r := rIxT K) ix_tup (pv 2) pe_int (fun _ _ => rfl)) (pv 2)))))), ?_⟩
    have sz := sizeLine_eq
    refine ⟨_, rfl, a, rfl, ⟨_, ha⟩, fun R hR => ?_⟩
    have nR : R ≠ p := fun e => hp.some (e ▸ hR)
    have nRc : c ≠ R := ne_of_none hp.cells hR
    refine lc_it (walk_list (xs := ks.map V.ref)) (fun i Hx => But p H Hx ∧ ∃ (n' : Nat) (z' : Int) (xs : List V), PenAt Hx p c ns n' z' ∧ n' ≤ n + i ∧ Hx R = some (.lst xs) ∧ xs.length ≤ i ∧ ValsAt Hx xs (ps.take i))
      ⟨But.new hR, n, z, [], hp.same (Same.of_new hR), by omega, upd_same, Nat.le_refl 0, ValsAt.nil⟩ (fun i Hx _ q => SqL.but ha na q.1) (fun i x Hx Hy hi q0 y => ?_) (fun Hx q0 => ?_)
    · obtain ⟨sB, n', z', xs, pn, ln', eR, lx, vx⟩ := q0
      obtain ⟨rfl, hx⟩ := y
      obtain ⟨k, pq, rfl, hk, hpi, tk⟩ := (pk.but hp sB).get hx
      have hi2 : i < ps.length := (List.getElem?_eq_some_iff.mp hpi).1
      have et : ps.take (i + 1) = ps.take i ++ [pq] := by
        rw [List.take_add_one, hpi]
        rfl
      have put : ∀ (x : V) (n2 : Nat) (z2 : Int) (H2 : Hp), PenAt H2 p c ns n2 z2 → n2 ≤ n' + 1 → But p Hy H2 → ValAt H2 x pq → ∃ acc, H2 R = some (.lst acc) ∧ acc.length < sizeLine ∧ (But p H (upd H2 R (.lst (acc ++ [x]))) ∧ ∃ (n' : Nat) (z' : Int) (xs : List V), PenAt (upd H2 R (.lst (acc ++ [x]))) p c ns n' z' ∧ n' ≤ n + (i + 1) ∧ upd H2 R (.lst (acc ++ [x])) R = some (.lst xs) ∧ xs.length ≤ i + 1 ∧ ValsAt (upd H2 R (.lst (acc ++ [x]))) xs (ps.take (i + 1))) := fun x n2 z2 H2 pn2 hn2 s2 v2 => by
        have eR2 := s2 R _ nR eR
        refine ⟨xs, eR2, by omega, fun b o nb e => ?_, n2, z2, xs ++ [x], pn2.put (Ne.symm nR) nRc, by omega, upd_same, by rw [List.length_append]; show xs.length + 1 ≤ i + 1; omega, ?_⟩
        · rw [upd_ne (ne_of_none e hR)]
          exact s2 b o nb (sB b o nb e)
        · rw [et]
          exact ((vx.but pn s2).snoc v2).upd fun ys e => by
            rw [eR2] at e
            cases e
      refine ⟨rfl, ?_⟩
      refine ⟨_, rfl, k, _, 1, _, rfl, rfl, SqT.of tk, rfl, rfl, _, rfl, ?_⟩
      by_cases c0 : pq.2 = 0
      · rw [show decide (V.int pq.2 = V.int 0) = true from decide_eq_true (by rw [c0])]
        refine iteT ?_
        refine ⟨_, rfl, p, c, ns, n', z', 2, rfl, pn, by omega, by decide, by decide +kernel, fun d n2 z2 H2 d0 d1 hn2 hp2 s2 => ?_⟩
        refine ⟨rfl, _, rfl, ?_⟩
        have tk2 : TupAt H2 k pq := s2 k _ (fun w => by have tk : Hy k = some (.tup _) := tk; rw [w, pn.pen] at tk; cases tk) tk
        cases hd : decide (V.int d = V.int 0) with
        | true =>
          refine iteT ?_
          exact ⟨_, rfl, k, _, 0, _, rfl, rfl, SqT.of tk2, rfl, put _ n2 z2 H2 hp2 hn2 s2 (.inr ⟨rfl, c0⟩)⟩
        | false =>
          refine iteF ?_
          exact ⟨_, rfl, put _ n2 z2 H2 hp2 hn2 s2 (.inl ⟨k, rfl, tk2⟩)⟩
      · rw [show decide (V.int pq.2 = V.int 0) = false from decide_eq_false (fun e => c0 (by injection e))]
        refine iteF ?_
        refine iteF ?_
        exact ⟨_, rfl, put _ n' z' Hy pn (by omega) (fun _ _ _ e => e) (.inl ⟨k, rfl, tk⟩)⟩
    · obtain ⟨sB, n', z', xs, pn, ln', eR, lx, vx⟩ := q0
      rw [List.length_map, pk.len, List.take_length] at vx
      rw [List.length_map, pk.len] at ln'
      exact q R xs n' z' Hx nR hR eR vx (by omega) pn sB
theorem scCd : FnScope ["_law_values_here"] ["_law_values_here"] (defScope sCalled) := ⟨rfl, rfl, rfl, by decide +kernel, rfl, by decide +kernel, by decide +kernel⟩
theorem ok_called {C f f0 : Addr} {fd : FuncData} (F : Fun K "_law_called" "_law_called" sCalled f fd) (n_len : mg "len" = none) (MF : Mk K C f0) (G0 : FnR P w K mg base CX0 3 f0 (spFirst C)) (gC : mg "First" = some (.ref C)) : FnOk P w K mg base CX0 5 f fd ["_law_values_here"] (spCalled K C) := by
  refine F.ok scCd (fun vs H Q E h => ?_) (fun cdv A outer s H vs Q E hr h => ?_)
  · obtain ⟨a, xs, ps, rfl, _⟩ := h
    rfl
  · obtain ⟨a, xs, ps, rfl, ha, hv, hn, hg, q⟩ := h
    refine ⟨_, (pss_cons (ps_if (pt_cmpR op_eq (pe_callB call_len_seq (by rfl) n_len boot_len (pa_cons (pv 0) pa_nil)) pe_int (nomark _)) (pss_one (ps_ret (OwR.pe_makeR0 MF G0 hr (by rfl) gC pass0))) pss_nil)
    (pss_cons (ps_if (pt_cmpR op_eq (pe_callB call_len_seq (by rfl) n_len boot_len (pa_cons (pv 0) pa_nil)) pe_int (nomark _)) (pss_one (ps_ret (StX.pe_makeR MF G0 hr (by rfl) gC pass0 (pa_cons (pe_ix ix_list (pv 0) pe_int (fun _ _ => rfl)) pa_nil)))) pss_nil)
    (pss_cons (ps_if (pt_cmpR op_eq (pe_callB call_len_seq (by rfl) n_len boot_len (pa_cons (pv 0) pa_nil)) pe_int (nomark _)) (pss_one (ps_ret (StX.pe_makeR MF G0 hr (by rfl) gC pass0 (pa_cons (pe_ix ix_list (pv 0) pe_int (fun _ _ => rfl)) (pa_cons (pe_ix ix_list (pv 0) pe_int (fun _ _ => rfl)) pa_nil))))) pss_nil)
    (pss_one (ps_ret (StX.pe_makeR MF G0 hr (by rfl) gC pass0 (pa_cons (pe_ix ix_list (pv 0) pe_int (fun _ _ => rfl)) (pa_cons (pe_ix ix_list (pv 0) pe_int (fun _ _ => rfl)) (pa_cons (pe_ix ix_list (pv 0) pe_int (fun _ _ => rfl)) pa_nil))))))))), ?_⟩
    have fin : ∀ y dy, H y = none → H dy = none → dy ≠ y → spFirst C (.ref y :: xs) (upd (upd H dy (.own y)) y (.ins C dy [])) (fun v G => v = .non ∧ Q (.ref y) G) E := fun y dy h1 h2 nd => by
      refine ⟨y, dy, xs, ps, rfl, upd_same, hv.same fun b o e => ?_, by omega, hg, fun H' sb hR => ⟨rfl, q y H' h1 (made_same h1 h2 sb) hR⟩⟩
      rw [upd_ne (ne_of_none e h1), upd_ne (ne_of_none e h2)]
      exact e
    have hl := hv.len
    match xs, hl, ha, hv, fin with
    | [], _, ha, hv, fin =>
      refine ⟨_, rfl, a, _, rfl, .inl ha, rfl, _, rfl, ?_⟩
      exact iteT fin
    | [x], _, ha, hv, fin =>
      refine ⟨_, rfl, a, _, rfl, .inl ha, rfl, _, rfl, iteF ?_⟩
      refine ⟨_, rfl, a, _, rfl, .inl ha, rfl, _, rfl, iteT ?_⟩
      exact ⟨_, rfl, a, _, 0, _, rfl, rfl, ha, rfl, fin⟩
    | [x, y], _, ha, hv, fin =>
      refine ⟨_, rfl, a, _, rfl, .inl ha, rfl, _, rfl, iteF ?_⟩
      refine ⟨_, rfl, a, _, rfl, .inl ha, rfl, _, rfl, iteF ?_⟩
      refine ⟨_, rfl, a, _, rfl, .inl ha, rfl, _, rfl, iteT ?_⟩
      exact ⟨_, rfl, a, _, 0, _, rfl, rfl, ha, rfl, _, rfl, a, _, 1, _, rfl, rfl, ha, rfl, fin⟩
    | [x, y, z], _, ha, hv, fin =>
      refine ⟨_, rfl, a, _, rfl, .inl ha, rfl, _, rfl, iteF ?_⟩
      refine ⟨_, rfl, a, _, rfl, .inl ha, rfl, _, rfl, iteF ?_⟩
      refine ⟨_, rfl, a, _, rfl, .inl ha, rfl, _, rfl, iteF ?_⟩
      exact ⟨_, rfl, a, _, 0, _, rfl, rfl, ha, rfl, _, rfl, a, _, 1, _, rfl, rfl, ha, rfl, _, rfl, a, _, 2, _, rfl, rfl, ha, rfl, fin⟩
    | _ :: _ :: _ :: _ :: _, hl, _, _, _ =>
      simp only [List.length_cons] at hl
      omega
end
end K10
end
section
namespace K10
open PySem PySem.Spec PyProof.Rows L2
abbrev sRight : Stmt := top 34
/-- of the picks of one bay the first one has the greatest keep -/
def Desc (ps : List Pk) : Prop := ps.Pairwise fun p q => p.1 = q.1 → q.2 < p.2
theorem kept_desc : ∀ (l : List Pk) (m : Str → Option Int), Desc (kept m l)
  | [], _ => List.Pairwise.nil
  | p :: r, m => by
    show Desc (if keeps m p = true then p :: kept (setM m p.1 p.2) r else kept m r)
    split
    · refine List.Pairwise.cons (fun q hq e => kept_below r _ q hq p.2 ?_) (kept_desc r _)
      unfold setM
      rw [if_pos e.symm]
    · exact kept_desc r m
theorem step2_sub : ∀ l : List Pk, (step2 l).Sublist l
  | [] => List.Sublist.refl _
  | [p] => List.Sublist.refl _
  | p :: q :: r => by
    show (if p.1 = q.1 then step2 (q :: r) else p :: step2 (q :: r)).Sublist (p :: q :: r)
    split
    · exact (step2_sub (q :: r)).cons p
    · exact (step2_sub (q :: r)).cons₂ p
theorem form_desc (l : List Pk) : Desc (oneForm l) := (kept_desc l _).sublist (step2_sub _)
/-- the keeps of a bay -/
def keepsOf (z : Str) (ps : List Pk) : List Int := (ps.filter fun p => decide (p.1 = z)).map (·.2)
theorem keepsOf_look : ∀ (ps : List Pk) (z : Str), Desc ps → (keepsOf z ps).isEmpty = (lookL ps z).isNone ∧ ∀ v, lookL ps z = some v → v ∈ keepsOf z ps ∧ ∀ y ∈ keepsOf z ps, y ≤ v
  | [], z, _ => ⟨rfl, fun v h => by cases h⟩
  | p :: r, z, h => by
    obtain ⟨h1, h2⟩ := List.pairwise_cons.mp h
    obtain ⟨i1, i2⟩ := keepsOf_look r z h2
    unfold lookL keepsOf
    by_cases c : z = p.1
    · rw [if_pos c, List.filter_cons, if_pos (decide_eq_true c.symm)]
      refine ⟨rfl, fun v e => ?_⟩
      cases e
      refine ⟨List.mem_cons_self, fun y hy => ?_⟩
      rcases List.mem_cons.mp hy with e | hy
      · exact Int.le_of_eq e
      · obtain ⟨q, hq, rfl⟩ := List.mem_map.mp hy
        obtain ⟨hq, e⟩ := List.mem_filter.mp hq
        exact Int.le_of_lt (h1 q hq (by rw [of_decide_eq_true e, c]))
    · rw [if_neg c, List.filter_cons, if_neg (fun e => c (of_decide_eq_true e).symm)]
      exact ⟨i1, i2⟩
/-- what the law's picks are: short names, small keeps -/
def PkS (p : Pk) : Prop := PyData.strOk p.1 = true ∧ (PyData.leavesShort 13 (.str p.1)) = true ∧ p.1.cps.size ≤ 8 ∧ 0 ≤ p.2 ∧ p.2 ≤ 9
theorem lays_ok : ∀ {ps : List Pk}, (∀ p ∈ ps, PkS p) → PyData.leavesShortAll 13 (ps.map pkD) = true ∧ PyData.bulkAll (ps.map pkD) ≤ 11 * ps.length
  | [], _ => ⟨rfl, Nat.le_refl _⟩
  | p :: r, h => by
    obtain ⟨i1, i2⟩ := lays_ok (ps := r) fun q hq => h q (List.mem_cons_of_mem _ hq)
    obtain ⟨o1, o2, o3, o4, o5⟩ := h p List.mem_cons_self
    have sh : ∀ v : Int, 0 ≤ v → v ≤ 9 → decide ((PyData.shown (.int v)).length ≤ 13) = true := fun v v0 v1 => by
      have key : ∀ n : Nat, n < 10 → decide ((PyData.shown (.int (n : Int))).length ≤ 13) = true := by decide +kernel
      have := key v.toNat (by omega)
      rw [Int.toNat_of_nonneg v0] at this
      exact this
    refine ⟨?_, ?_⟩
    · show ((PyData.leavesShort 13 (.str p.1) && (decide ((PyData.shown (.int p.2)).length ≤ 13) && true)) && PyData.leavesShortAll 13 (r.map pkD)) = true
      rw [o2, sh p.2 o4 o5, i1]
      rfl
    · show (p.1.cps.size + 1 + (0 + 1 + 0)) + 1 + PyData.bulkAll (r.map pkD) ≤ 11 * (r.length + 1)
      omega
theorem show_all {ps : List Pk} (h : ∀ p ∈ ps, PkS p) : PyData.showableAll (ps.map pkD) = true ∧ PyData.hasDictAll (ps.map pkD) = false := by
  induction ps with
  | nil => exact ⟨rfl, rfl⟩
  | cons p r ih =>
    obtain ⟨i1, i2⟩ := ih fun q hq => h q (List.mem_cons_of_mem _ hq)
    obtain ⟨_, _, _, o4, o5⟩ := h p List.mem_cons_self
    have lg : p.2.natAbs.log2 < 1920 := Nat.lt_of_le_of_lt (Nat.log2_le_self _) (by omega)
    refine ⟨?_, ?_⟩
    · show ((true && (decide (p.2.natAbs.log2 < 1920) && true)) && PyData.showableAll (r.map pkD)) = true
      rw [i1, decide_eq_true lg]
      rfl
    · show ((false || (false || false)) || PyData.hasDictAll (r.map pkD)) = false
      rw [i2]
      rfl
theorem show_picks {ps : List Pk} (h : ∀ p ∈ ps, PkS p) (hn : ps.length ≤ 20) : (PyData.tuple (ps.map pkD)).showable = true ∧ (PyData.tuple (ps.map pkD)).hasDict = false ∧ (PyData.tuple (ps.map pkD)).depth ≤ 64 ∧ (PyData.tuple (ps.map pkD)).shown.length ≤ sizeLine := by
  obtain ⟨a1, a2⟩ := show_all h
  obtain ⟨b1, b2⟩ := lays_ok h
  have dp : (PyData.tuple (ps.map pkD)).depth ≤ 64 := by
    have := OwD.deps (f := pkD) (k := 1) ps fun q _ => pkD_dep q
    rw [PyData.depth]
    omega
  refine ⟨a1, a2, dp, PyData.shown_fits_bulk (B := 13) (by decide) (by decide) b1 ?_⟩
  show PyData.bulkAll (ps.map pkD) ≤ 2 ^ 20
  omega
theorem show_strs {zs : List Str} (h : ∀ z ∈ zs, PyData.strOk z = true ∧ PyData.leavesShort 13 (.str z) = true ∧ z.cps.size ≤ 8) : PyData.showableAll (zs.map PyData.str) = true ∧ PyData.hasDictAll (zs.map PyData.str) = false ∧ PyData.leavesShortAll 13 (zs.map PyData.str) = true ∧ PyData.bulkAll (zs.map PyData.str) ≤ 9 * zs.length := by
  induction zs with
  | nil => exact ⟨rfl, rfl, rfl, Nat.le_refl _⟩
  | cons z r ih =>
    obtain ⟨i1, i2, i3, i4⟩ := ih fun q hq => h q (List.mem_cons_of_mem _ hq)
    obtain ⟨_, o2, o3⟩ := h z List.mem_cons_self
    refine ⟨?_, ?_, ?_, ?_⟩
    · show (true && PyData.showableAll (r.map PyData.str)) = true
      rw [i1]
      rfl
    · show (false || PyData.hasDictAll (r.map PyData.str)) = false
      rw [i2]
      rfl
    · show (PyData.leavesShort 13 (.str z) && PyData.leavesShortAll 13 (r.map PyData.str)) = true
      rw [o2, i3]
      rfl
    · show z.cps.size + 1 + PyData.bulkAll (r.map PyData.str) ≤ 9 * (r.length + 1)
      omega
theorem show_bays {zs : List Str} (h : ∀ z ∈ zs, PyData.strOk z = true ∧ PyData.leavesShort 13 (.str z) = true ∧ z.cps.size ≤ 8) (hn : zs.length ≤ 20) : (PyData.tuple (zs.map PyData.str)).showable = true ∧ (PyData.tuple (zs.map PyData.str)).hasDict = false ∧ (PyData.tuple (zs.map PyData.str)).depth ≤ 64 ∧ (PyData.tuple (zs.map PyData.str)).shown.length ≤ sizeLine := by
  obtain ⟨a1, a2, b1, b2⟩ := show_strs h
  have dp : (PyData.tuple (zs.map PyData.str)).depth ≤ 64 := by
    have := OwD.deps (f := PyData.str) (k := 0) zs fun q _ => by simp [PyData.depth]
    rw [PyData.depth]
    omega
  refine ⟨a1, a2, dp, PyData.shown_fits_bulk (B := 13) (by decide) (by decide) b1 ?_⟩
  show PyData.bulkAll (zs.map PyData.str) ≤ 2 ^ 20
  omega
theorem log_small {i : Int} (h : i.natAbs < 1000) : i.natAbs.log2 < 1920 := Nat.lt_of_le_of_lt (Nat.log2_le_self _) (by omega)
/-- the lists that the law makes of a walk: the j-th has the j-th pick ahead of all of them -/
structure WalkedAt (H : Hp) (ws : List Addr) (ks : List Addr) (n : Nat) : Prop where
  len : ws.length = n
  at_ : ∀ (j : Nat) (v : Addr), ws[j]? = some v → ∃ k0, ks[j]? = some k0 ∧ H v = some (.lst (V.ref k0 :: ks.map V.ref))
theorem WalkedAt.same {H H' : Hp} {ws ks : List Addr} {n : Nat} (h : WalkedAt H ws ks n) (s : Same H H') : WalkedAt H' ws ks n := ⟨h.len, fun j v e => by
  obtain ⟨k0, e1, e2⟩ := h.at_ j v e
  exact ⟨k0, e1, s _ _ e2⟩⟩
theorem dp_ix {K : PySem.W.Frag} {H : Hp} : ∀ {xs : List V} {ds : List PyData}, xs.length = ds.length → (∀ (i : Nat) (x : V) (d : PyData), xs[i]? = some x → ds[i]? = some d → Dp K H x d) → DpAll K H xs ds
  | [], [], _, _ => .nil
  | [], _ :: _, h, _ => by cases h
  | _ :: _, [], h, _ => by cases h
  | x :: xs, d :: ds, h, f => .cons (f 0 x d rfl rfl) (dp_ix (Nat.succ.inj h) fun i y e h1 h2 => f (i + 1) y e h1 h2)
def rowD (ps : List Pk) (p : Pk) : PyData := .list ((p :: ps).map pkD)
theorem WalkedAt.dp {K : PySem.W.Frag} {H : Hp} {ws ks : List Addr} {ps : List Pk} {n : Nat} (h : WalkedAt H ws ks n) (hn : n = ks.length) (pk : PicksAt H ks ps) : DpAll K H (ws.map V.ref) (ps.map (rowD ps)) := by
  refine dp_ix (by rw [List.length_map, List.length_map, h.len, hn, pk.len]) fun i x d e1 e2 => ?_
  rw [List.getElem?_map] at e1 e2
  obtain ⟨v, ev, rfl⟩ := Option.map_eq_some_iff.mp e1
  obtain ⟨p, ep, rfl⟩ := Option.map_eq_some_iff.mp e2
  obtain ⟨k0, ek, eh⟩ := h.at_ i v ev
  exact .lst (SqL.of eh) (.cons (.tup (SqT.of (pk.at_ i k0 p ek ep)) (.cons (.str p.1) (.cons (.int p.2) .nil))) pk.dp)
theorem row_lay {ps : List Pk} (h : ∀ p ∈ ps, PyData.strOk p.1 = true) {p : Pk} (hp : p ∈ ps) : (rowD ps p).canLay0 = true := by
  unfold rowD
  rw [PyData.canLay0]
  exact OwD.lays (p :: ps) fun q hq => pkD_lay ((List.mem_cons.mp hq).elim (fun e => e ▸ h p hp) (h q))
theorem row_dep (ps : List Pk) (p : Pk) : (rowD ps p).depth ≤ 2 := by
  unfold rowD
  rw [PyData.depth]
  have := OwD.deps (f := pkD) (k := 1) (p :: ps) fun q _ => pkD_dep q
  omega
theorem rows_shaped {ps : List Pk} (h : ∀ p ∈ ps, PyData.strOk p.1 = true) : SeqAt.shaped (.list (ps.map (rowD ps))) = true := OwD.shaped_lst (k := 2) (by decide) (fun p hp => row_lay h hp) fun p _ => row_dep ps p
theorem rows_eqv {ps : List Pk} (h : ∀ p ∈ ps, PyData.strOk p.1 = true) : PyData.eqv (.list (ps.map (rowD ps))) (.list (ps.map (rowD ps))) = true := by
  refine PySem.SeqAt.eqv_refl _ ?_
  rw [PyData.canLay0]
  exact OwD.lays ps fun p hp => row_lay h hp
theorem pks_shaped {ps : List Pk} (h : ∀ p ∈ ps, PyData.strOk p.1 = true) : SeqAt.shaped (.list (ps.map pkD)) = true := OwD.shaped_lst (k := 1) (by decide) (fun p q => pkD_lay (h p q)) fun p _ => pkD_dep p
theorem pks_eqv {ps : List Pk} (h : ∀ p ∈ ps, PyData.strOk p.1 = true) : PyData.eqv (.list (ps.map pkD)) (.list (ps.map pkD)) = true := by
  refine PySem.SeqAt.eqv_refl _ ?_
  rw [PyData.canLay0]
  exact OwD.lays ps fun p q => pkD_lay (h p q)
/-- what the law asks of a rule: a text (o), or another value -/
def ItemAt (K : PySem.W.Frag) (C : Addr) (H : Hp) (x : V) : Option Str → Prop
  | some z => x = .str z ∧ PyData.strOk z = true
  | none => (∃ t, TyX K H x t ∧ PySem.W.kitOne K t (.type "str") = some false) ∧ ((∃ d, Dp K H x d ∧ SeqAt.shaped d = true ∧ ∀ z, PyData.eqv (.str z) d = false) ∨ (∃ a kvs, x = .ref a ∧ H a = some (.dK kvs)) ∨ ∃ a dx fs, x = .ref a ∧ H a = some (.ins C dx fs))
theorem ItemAt.ask {K : PySem.W.Frag} {C : Addr} {H : Hp} {x : V} {o : Option Str} (h : ItemAt K C H x o) : AskAt K H x o := by
  cases o with
  | none => exact h.1
  | some z => exact h.1
theorem ItemAt.eq {K : PySem.W.Frag} {C fE : Addr} {H : Hp} {x : V} {o : Option Str} (h : ItemAt K C H x o) (se : OwR.StrEq K C fE) {z : Str} (hz : PyData.strOk z = true) {Q : VK} {E : XK} (q : Q (.bl (decide (o = some z))) H) : OwR.rStrAny K fE (spEqS K C) E (.str z) x H Q := by
  have sh : ∀ y : Str, PyData.strOk y = true → SeqAt.shaped (.str y) = true := fun y hy => OwD.shaped_of (by simp [PyData.canLay0, hy]) (by simp [PyData.depth])
  cases o with
  | some y =>
    obtain ⟨rfl, hy⟩ := h
    refine .inl ⟨.str z, .str y, .str z, .str y, sh z hz, sh y hy, ?_⟩
    have e : PyData.eqv (.str z) (.str y) = decide (some y = some z) := by
      by_cases c : z = y
      · subst c
        rw [decide_eq_true rfl]
        simp [PyData.eqv]
      · rw [decide_eq_false (fun e => c (Option.some.inj e).symm)]
        simp [PyData.eqv, c]
    rw [e]
    exact q
  | none =>
    obtain ⟨_, h | ⟨a, kvs, rfl, ea⟩ | ⟨a, dx, fs, rfl, ea⟩⟩ := h
    · obtain ⟨d, hd, hs, hn⟩ := h
      refine .inl ⟨.str z, d, .str z, hd, sh z hz, hs, ?_⟩
      rw [hn z]
      exact q
    · exact .inr (.inl ⟨z, a, kvs, rfl, rfl, ea, q⟩)
    · exact .inr (.inr ⟨z, a, C, dx, fs, rfl, rfl, ea, se, a, dx, fs, z, rfl, ea, q⟩)
def strO : V → Option Str
  | .str z => some z
  | _ => none
def keepsO (o : Option Str) (ps : List Pk) : List Int := (ps.filter fun p => decide (o = some p.1)).map (·.2)
theorem keepsO_some (z : Str) (ps : List Pk) : keepsO (some z) ps = keepsOf z ps := by
  unfold keepsO keepsOf
  congr 1
  refine List.filter_congr fun p _ => ?_
  rw [Bool.eq_iff_iff, decide_eq_true_eq, decide_eq_true_eq, Option.some.injEq]
  exact eq_comm
theorem keepsO_none (ps : List Pk) : keepsO none ps = [] := by
  unfold keepsO
  rw [List.filter_eq_nil_iff.mpr fun p _ h => by cases of_decide_eq_true h]
  rfl
theorem keepsO_is {ps : List Pk} (h : Desc ps) (o : Option Str) : (keepAt ps o).isSome = !(keepsO o ps).isEmpty ∧ ∀ v, keepAt ps o = some v → v ∈ keepsO o ps ∧ ∀ y ∈ keepsO o ps, y ≤ v := by
  cases o with
  | none =>
    rw [keepsO_none]
    exact ⟨rfl, fun v e => by cases e⟩
  | some z =>
    rw [keepsO_some]
    obtain ⟨h1, h2⟩ := keepsOf_look ps z h
    refine ⟨?_, h2⟩
    rw [h1]
    show (lookL ps z).isSome = !(lookL ps z).isNone
    cases lookL ps z <;> rfl
def spRight (K : PySem.W.Frag) (C : Addr) : Sp := fun vs H Q _ => ∃ (m d b : Addr) (ds : List Addr) (ps : List Pk) (bs : List Str), vs = [.ref m, .ref d, .ref b] ∧ RuleAt C H m ps ∧ H d = some (.lst (ds.map V.ref)) ∧ PicksAt H ds ps ∧ ps.length ≤ 12 ∧ Desc ps ∧ (∀ p ∈ ps, PkS p) ∧
  H b = some (.lst (bs.map V.str)) ∧ bs.length ≤ 10 ∧ (∀ z ∈ bs, PyData.strOk z = true) ∧ ∀ H', Same H H' → Q (.bl true) H'
theorem spRight_len {K : PySem.W.Frag} {C : Addr} : ∀ vs H Q E, spRight K C vs H Q E → vs.length = (["_law_made", "_law_due", "_law_bays"] : List Str).length := fun vs H Q E h => by
  obtain ⟨m, d, b, ds, ps, bs, rfl, _⟩ := h
  rfl
section
variable {P : Program} {w : World} {K : PySem.W.Frag} {mg : Str → Option Value} {base : Heap}
abbrev nRi : List Str := ["_law_made", "_law_due", "_law_bays", "_law_pair", "_law_walked", "_law_other", "_law_bay", "_law_found", "_law_keep"]
theorem scRi : FnScope nRi ["_law_made", "_law_due", "_law_bays"] (defScope sRight) := ⟨rfl, rfl, rfl, by decide +kernel, rfl, by decide +kernel, by decide +kernel⟩
theorem ok_right {CR CF f fI fL fN fE pPk fPk pBa fBa fKe : Addr} {fd fdI fdL fdN fdE fdPk fdBa fdKe : FuncData} (k : FirstC K CR fI fL fN fE CF) (F : Fun K "_law_right" "_law_right" sRight f fd) (T : Nm2 mg) (T3 : Nm3 mg) (T4 : Nm4 mg) (n_repr : mg "repr" = none) (n_max : mg "max" = none) (n_iter : mg "iter" = none)
    (gF : mg "First" = some (.ref CF)) (gR : mg "Rule" = some (.ref CR)) (FI : Fun K "__iter__" "Rule.__iter__" sRIter fI fdI) (FL : Fun K "__len__" "Rule.__len__" sRLen fL fdL) (FN : Fun K "__contains__" "Rule.__contains__" sIn fN fdN) (FE : Fun K "__eq__" "Rule.__eq__" sREq fE fdE)
    (cPk : PropOf K CF "picks" pPk fPk) (FPk : Fun K "picks" "Rule.picks" sPicks fPk fdPk) (cBa : PropOf K CF "bays" pBa fBa) (FBa : Fun K "bays" "Rule.bays" sBays fBa fdBa) (mKe : Meth K CF "keep" fKe) (FKe : Fun K "keep" "Rule.keep" sKeep fKe fdKe) :
    OwR.FnG P w K mg base CX0 3 f fd ["_law_made", "_law_due", "_law_bays"] (spRight K CF) := by
  obtain ⟨oc, od, kV, doc, pm, an, cdv, ct, osl, rfl, lk, hcd⟩ := F.ex
  have GPk : FnOk P w K mg base CX0 1 fPk fdPk ["self"] (getSp CF "_picks") := ok_picks k.rc FPk
  have bPk : Binds K fdPk ["self"] [] := FPk.binds fun _ _ _ _ _ _ us hl => match us, hl with | [_], _ => rfl
  have GBa : FnOk P w K mg base CX0 1 fBa fdBa ["self"] (getSp CF "_bays") := ok_bays k.rc FBa
  have bBa : Binds K fdBa ["self"] [] := FBa.binds fun _ _ _ _ _ _ us hl => match us, hl with | [_], _ => rfl
  have GKe : FnOk P w K mg base CX0 2 fKe fdKe ["self", "bay"] (spKeep K CF) := ok_keep k FKe FN T
  have bKe : Binds K fdKe ["self", "bay"] [] := FKe.binds fun _ _ _ _ _ _ us hl => match us, hl with | [_, _], _ => rfl
  have GN : FnR P w K mg base CX0 1 fN (spIn K CF) := ok_in k.rc FN T
  have GL : FnR P w K mg base CX0 1 fL (OwR.spLn CF K "_picks") := ok_rlen FL T CF k.it
  have GE : FnR P w K mg base CX0 1 fE (spEqS K CF) := ok_eqS k FE T gR
  have FIt : ∀ C, OwR.OwnIt K C fI "_picks" → OwR.FnSR P w K mg base CX0 1 fI (OwR.spIt C K "_picks") := fun C o => ok_riter FI n_iter C o
  refine OwR.fn_ofG (k := 2) lk hcd scRi (fun vs H Q E h => ?_) fun A outer s H vs Q E hgd0 hr h => ?_
  · exact spRight_len vs H Q E h
  · obtain ⟨m, d, b, ds, ps, bs, rfl, hR, hd0, pd, hn, hde, hok, hb, hbl, hbo, q⟩ := h
    have hd : SqL K H d (ds.map V.ref) := SqL.of hd0
    have hgd : (A.deeper (envOfC "_law_right" (defScope sRight) s.heap.objs.size f cdv)).guards = some [] := hgd0
    have hr1 : Room 1 (A.deeper (envOfC "_law_right" (defScope sRight) s.heap.objs.size f cdv)) := hr.mono (by decide)
    have hrep : (A.deeper (envOfC "_law_right" (defScope sRight) s.heap.objs.size f cdv)).units + 70 < cLine := by have := hr.un; omega
    refine ⟨_, PSs.nox (pss_cons (ps_if (PW.pt (pw_or (pt_not (pt_val (pe_callB call_isi (by rfl) T.n_isinstance (by decide +kernel) (pa_cons (pv 0) (pa_cons (pe_glob (v := .ref CF) rfl gF rfl) pa_nil))))) (pw_or (pt_not (pt_val (pe_callB call_isi (by rfl) T.n_isinstance (by decide +kernel) (pa_cons (pv 0) (pa_cons (pe_glob (v := .ref CR) rfl gR rfl) pa_nil))))) (pw_or1 (pt_cmpR op_ne (pe_callB (OwR.cr_reprD hgd hrep) (by rfl) n_repr (by decide +kernel) (pa_cons (pe_prop (pv 0) k.rc.cls cPk GPk hr bPk .nil pass0 rfl) pa_nil)) (pe_callB (OwR.cr_reprD hgd hrep) (by rfl) n_repr (by decide +kernel) (pa_cons (pe_callTy call_tuple_of (by rfl) T4.n_tuple (by decide +kernel) (pa_cons (pv 1) pa_nil)) pa_nil)) (nomark _)))))) (pss_one (ps_ret pe_bl)) pss_nil)
    (pss_cons (ps_if (PW.pt (pw_or (pt_cmpR op_ne (pe_callB (OwR.cr_reprD hgd hrep) (by rfl) n_repr (by decide +kernel) (pa_cons (pe_prop (pv 0) k.rc.cls cBa GBa hr bBa .nil pass0 rfl) pa_nil)) (pe_callB (OwR.cr_reprD hgd hrep) (by rfl) n_repr (by decide +kernel) (pa_cons (pe_callTy call_tuple_of (by rfl) T4.n_tuple (by decide +kernel) (pa_cons (pe_callB (TSet.cr_sortedTexts rfl) (by rfl) T3.n_sorted (by decide +kernel) (pa_cons (pe_callTy (TSet.cr_setS rfl) (by rfl) T3.n_set (by decide +kernel) (pa_cons (pe_lc (own := [("_law_pair", 3)]) (by rfl) scRi.nd (pi_list (pv 1)) (blkOk_by (own := [("_law_pair", 3)]) (N := nRi) (sc := defScope sRight) (by decide +kernel)) (fun _ _ _ _ _ => (pg_name (i := 3) scRi.nd rfl (Or.inl rfl))) (fun _ _ _ _ _ => pts_nil) (fun _ _ _ _ _ => (pe_callTy SkE.call_str_str (by rfl) T.n_str (by decide +kernel) (pa_cons (pe_ix (r := rIxT K) ix_tup (pv 3) pe_int (fun _ _ => rfl)) pa_nil)))) pa_nil)) pa_nil)) pa_nil)) pa_nil)) (nomark _)) (pw_or1 (pt_cmpR op_ne (pe_callB OwR.cr_reprI (by rfl) n_repr (by decide +kernel) (pa_cons (pe_callB (OwR.call_lenO GL hr pass0) (by rfl) T.n_len boot_len (pa_cons (pv 0) pa_nil)) pa_nil)) (pe_callB OwR.cr_reprI (by rfl) n_repr (by decide +kernel) (pa_cons (pe_callB call_len_seq (by rfl) T.n_len boot_len (pa_cons (pv 1) pa_nil)) pa_nil)) (nomark _))))) (pss_one (ps_ret pe_bl)) pss_nil)
    (pss_cons (ps_set (i := 4) scRi.nd rfl (Or.inl rfl) (pe_lst pa_nil))
    (pss_cons (ps_for PassesOwn.never rfl (OwR.pi_own (pv 0) FIt hr1 pass0) (pg_name (i := 3) scRi.nd rfl (Or.inl rfl)) (pss_one (ps_expr (pe_bm PySem.F.plainAttrs_list PySem.F.slot_list_append PySem.F.type_list_append mt_append (pv 4) (pa_cons (pe_op op_cat (pe_lst (pa_cons (pv 3) pa_nil)) (pe_lc (own := [("_law_other", 5)]) (by rfl) scRi.nd (OwR.pi_own (pv 0) FIt hr1 pass0) (blkOk_by (own := [("_law_other", 5)]) (N := nRi) (sc := defScope sRight) (by decide +kernel)) (fun _ _ _ _ _ => (pg_name (i := 5) scRi.nd rfl (Or.inl rfl))) (fun _ _ _ _ _ => pts_nil) (fun _ _ _ _ _ => (pv 5)))) pa_nil)))))
    (pss_cons (ps_if (PW.pt (pw_or (pt_cmpR (op_neD hr.units) (pv 4) (pe_lc (own := [("_law_pair", 3)]) (by rfl) scRi.nd (pi_list (pv 1)) (blkOk_by (own := [("_law_pair", 3)]) (N := nRi) (sc := defScope sRight) (by decide +kernel)) (fun _ _ _ _ _ => (pg_name (i := 3) scRi.nd rfl (Or.inl rfl))) (fun _ _ _ _ _ => pts_nil) (fun _ _ _ _ _ => (pe_op op_cat (pe_lst (pa_cons (pv 3) pa_nil)) (pv 1)))) (nomark _)) (pw_or1 (pt_cmpR (op_neD hr.units) (pe_lc (own := [("_law_pair", 3)]) (by rfl) scRi.nd (OwR.pi_own (pv 0) FIt hr1 pass0) (blkOk_by (own := [("_law_pair", 3)]) (N := nRi) (sc := defScope sRight) (by decide +kernel)) (fun _ _ _ _ _ => (pg_name (i := 3) scRi.nd rfl (Or.inl rfl))) (fun _ _ _ _ _ => pts_nil) (fun _ _ _ _ _ => (pv 3))) (pv 1) (nomark _))))) (pss_one (ps_ret pe_bl)) pss_nil)
    (pss_cons (ps_for PassesOwn.never rfl (pi_list (pe_op op_cat (pv 2) (pe_lst (pa_cons pe_str (pa_cons pe_str (pa_cons pe_non (pa_cons pe_int (pa_cons pe_bl (pa_cons (pe_tup (pa_cons pe_str (pa_cons pe_int pa_nil))) (pa_cons (pe_lst (pa_cons pe_str pa_nil)) (pa_cons pe_dnewK (pa_cons (pv 0) pa_nil)))))))))))) (pg_name (i := 6) scRi.nd rfl (Or.inr rfl)) (pss_cons (ps_setLc (i := 7) (own := [("_law_pair", 3)]) (by rfl) scRi.nd rfl rfl (sw_true rfl rfl rfl (by decide +kernel)) (pi_list (pv 1)) (blkOk_by (own := [("_law_pair", 3)]) (N := nRi) (sc := defScope sRight) (by decide +kernel)) (fun _ _ _ _ _ => (pg_name (i := 3) scRi.nd rfl (Or.inl rfl))) (fun _ _ _ _ _ => pts_one (pt_cmpR (OwR.op_strAny (K := K) rfl hr.units GE hr1 pass0) (pe_ix (r := rIxT K) ix_tup (pv 3) pe_int (fun _ _ => rfl)) (pv 6) (nomark _))) (fun _ _ _ _ _ => (pe_ix (r := rIxT K) ix_tup (pv 3) pe_int (fun _ _ => rfl))))
    (pss_cons (ps_if (pt_cmpR op_ne (pe_cmpR (OwR.op_inO GN hr1 pass0) (pv 6) (pv 0) (by rfl)) (pe_cmpR (op_neD hr.units) (pv 7) (pe_lst pa_nil) (nomark _)) (nomark _)) (pss_one (ps_ret pe_bl)) pss_nil)
    (pss_one (ps_if (pt_cmpR op_ne (pe_callB OwR.cr_reprI (by rfl) n_repr (by decide +kernel) (pa_cons (pe_meth (pv 0) k.rc.cls mKe GKe hr bKe .nil pass0 (pa_cons (pv 6) pa_nil)) pa_nil)) (pe_callB OwR.cr_reprI (by rfl) n_repr (by decide +kernel) (pa_cons (pe_ifExp (pt_cmpR (op_neD hr.units) (pv 7) (pe_lst pa_nil) (nomark _)) (pe_callB (cr_max rfl) (by rfl) n_max (by decide +kernel) (pa_cons (pe_lc (own := [("_law_keep", 8)]) (by rfl) scRi.nd (pi_list (pv 7)) (blkOk_by (own := [("_law_keep", 8)]) (N := nRi) (sc := defScope sRight) (by decide +kernel)) (fun _ _ _ _ _ => (pg_name (i := 8) scRi.nd rfl (Or.inl rfl))) (fun _ _ _ _ _ => pts_nil) (fun _ _ _ _ _ => (pe_callTy call_int1 (by rfl) T.n_int (by decide +kernel) (pa_cons (pv 8) pa_nil)))) pa_nil)) pe_non) pa_nil)) (nomark _)) (pss_one (ps_ret pe_bl)) pss_nil)))))
    (pss_one (ps_ret pe_bl)))))))), ?_⟩
    have sz := sizeLine_eq
    obtain ⟨dx, fs, p, ks, ea, lkp, ep, pk, D, bb, rr, zs, M⟩ := id hR
    have sp1 := show_picks hok (by omega)
    refine ⟨_, rfl, .ref m, .ref CF, _, _, true, rfl, .own _, k.ty ea, k.own, true, rfl, ?_⟩
    refine iteF ?_
    refine ⟨_, rfl, .ref m, .ref CR, _, _, true, rfl, .own _, k.ty ea, k.sub, true, rfl, ?_⟩
    refine iteF ?_
    refine ⟨_, rfl, m, dx, fs, rfl, ea, m, dx, fs, .ref p, rfl, ea, lkp, ?_⟩
    refine ⟨p, _, rfl, .tup (SqT.of ep) pk.dp, sp1.1, sp1.2.1, sp1.2.2.1, sp1.2.2.2, ?_⟩
    refine ⟨_, rfl, d, _, rfl, .inl ⟨hd, fun l1 hl1 => ?_⟩⟩
    have s1 := Same.of_new (o := .tup (ds.map V.ref)) hl1
    refine ⟨l1, _, rfl, .tup (SqT.of upd_same) (pd.same s1).dp, sp1.1, sp1.2.1, sp1.2.2.1, sp1.2.2.2, ?_⟩
    refine ⟨rfl, _, rfl, ?_⟩
    rw [decide_eq_true rfl]
    refine iteF ?_
    generalize upd H l1 (.tup (ds.map V.ref)) = H1 at s1 ⊢
    have ea1 := s1 m _ ea
    have eb1 := s1 bb _ M.eb
    have hd1 := SqL.mono hd s1
    have pd1 := pd.same s1
    have zl : zs.length ≤ 20 := by
      have h1 : zs.Perm (TSet.ded (ps.map (·.1))) := (List.perm_ext_iff_of_nodup M.nd (TSet.ded_nodup _)).mpr fun z => (M.mem z).trans (TSet.ded_mem _ z).symm
      have h2 := TSet.ded_len (ps.map (·.1))
      rw [← h1.length_eq, List.length_map] at h2
      omega
    have sp2 := show_bays (zs := zs) (fun z hz => by
      obtain ⟨q, hq, rfl⟩ := List.mem_map.mp ((M.mem z).mp hz)
      exact ⟨(hok q hq).1, (hok q hq).2.1, (hok q hq).2.2.1⟩) zl
    refine ⟨_, rfl, m, dx, fs, rfl, ea1, m, dx, fs, .ref bb, rfl, ea1, M.lb, ?_⟩
    refine ⟨bb, _, rfl, .tup (SqT.of eb1) (OwD.dp_strs zs), sp2.1, sp2.2.1, sp2.2.2.1, sp2.2.2.2, ?_⟩
    refine ⟨_, rfl, d, rfl, ⟨_, hd1⟩, fun L hL => ?_⟩
    refine lc_it (walk_list (xs := ds.map V.ref)) (fun i Hx => Same H1 Hx ∧ Hx L = some (.lst ((ps.take i).map fun q => V.str q.1))) ⟨Same.of_new hL, upd_same⟩ (fun i Hx _ q => SqL.mono hd1 q.1) (fun i x Hx Hy hi q0 y => ?_) (fun Hx q0 => ?_)
    · obtain ⟨s2, eL⟩ := q0
      obtain ⟨rfl, hx⟩ := y
      obtain ⟨k2, p2, rfl, hk2, hp2, tk2⟩ := (pd1.same s2).get hx
      have et : ps.take (i + 1) = ps.take i ++ [p2] := by
        rw [List.take_add_one, hp2]
        rfl
      refine ⟨rfl, ?_⟩
      refine ⟨_, rfl, k2, _, 0, _, rfl, rfl, SqT.of tk2, rfl, _, rfl, ?_⟩
      refine ⟨_, eL, by rw [List.length_map, List.length_take]; omega, fun b o e => ?_, ?_⟩
      · rw [upd_ne (ne_of_none e hL)]
        exact s2 b o e
      · rw [et, List.map_append]
        exact upd_same
    obtain ⟨s2, eL⟩ := q0
    rw [List.length_map, pd.len, List.take_length] at eL
    have eL : Hx L = some (.lst ((ps.map (·.1)).map V.str)) := by rw [eL, List.map_map]; rfl
    refine ⟨L, ps.map (·.1), rfl, SqL.of eL, by rw [List.length_map]; exact Nat.lt_of_le_of_lt hn (by decide), fun a2 h2 => ?_⟩
    refine ⟨a2, _, rfl, upd_same, Nat.lt_of_le_of_lt (TSet.ded_len _) (by rw [List.length_map]; omega), fun ys pz pm srt h3 => ?_⟩
    obtain rfl : ys = zs := asc_eq srt M.srt (pm.nodup_iff.mpr (TSet.ded_nodup _)) M.nd fun z => by rw [pm.mem_iff, TSet.ded_mem, M.mem]
    refine ⟨pz, _, rfl, .inl ⟨SqL.of upd_same, fun l2 hl2 => ?_⟩⟩
    refine ⟨l2, _, rfl, .tup (SqT.of upd_same) (OwD.dp_strs ys), sp2.1, sp2.2.1, sp2.2.2.1, sp2.2.2.2, ?_⟩
    refine ⟨rfl, _, rfl, ?_⟩
    rw [decide_eq_true rfl]
    refine iteF ?_
    have s3 : Same H1 (upd (upd (upd Hx a2 (TSet.TSO w a2 (TSet.ded (ps.map (·.1))))) pz (.lst (ys.map V.str))) l2 (.tup (ys.map V.str))) := ((s2.trans (Same.of_new h2)).trans (Same.of_new h3)).trans (Same.of_new hl2)
    have s4 := s1.trans s3
    rw [show (cxOf CX0 P w K mg base nRi "_law_right" (defScope sRight) f cdv A outer s H E).nox.w = w from rfl]
    generalize upd (upd (upd Hx a2 (TSet.TSO w a2 (TSet.ded (ps.map (·.1))))) pz (.lst (ys.map V.str))) l2 (.tup (ys.map V.str)) = H2 at s3 s4 ⊢
    have ea2 := s4 m _ ea
    have ep2 := s4 p _ ep
    have hd2 := SqL.mono hd s4
    have pd2 := pd.same s4
    have pk2 := pk.same s4
    have hb2 := s4 b _ hb
    have hdx := s4 d _ hd0
    have hR2 := hR.same s4
    refine ⟨_, rfl, m, CF, dx, fs, rfl, ea2, k.ln, m, dx, p, fs, _, rfl, ea2, lkp, SqT.of ep2, _, rfl, by omega, by rw [List.length_map, pk.len]; omega, ?_⟩
    have hlk : (ks.map V.ref).length = (ds.map V.ref).length := by rw [List.length_map, List.length_map, pk.len, pd.len]
    refine ⟨some _, rfl, fun i e => by cases e; exact log_small (by rw [List.length_map, pk.len]; omega), ?_⟩
    refine ⟨_, rfl, d, _, rfl, .inl hd2, some _, rfl, fun i e => by cases e; exact log_small (by rw [List.length_map, pd.len]; omega), rfl, _, rfl, ?_⟩
    rw [hlk, decide_eq_true rfl]
    refine iteF ?_
    refine ⟨Nat.zero_le _, fun W hW => ?_⟩
    have s5 := Same.of_new (o := .lst []) hW
    refine ⟨_, rfl, m, CF, dx, p, fs, _, rfl, s5 m _ ea2, k.it, lkp, SqT.of (s5 p _ ep2), ?_⟩
    refine for_it (walk_tup (xs := ks.map V.ref)) (fun i σ H' => Same H2 H' ∧ (∃ x3, σ = [some (.ref m), some (.ref d), some (.ref b), x3, some (.ref W), none, none, none, none]) ∧ ∃ ws : List Addr, H' W = some (.lst (ws.map V.ref)) ∧ WalkedAt H' ws ks i ∧ W ∉ ws) ⟨s5, ⟨none, rfl⟩, [], upd_same, ⟨rfl, fun j v e => by cases e⟩, fun h => by cases h⟩ (fun i σ H' _ q => SqT.of (q.1 p _ ep2)) (fun i x σ H' H3 hi q0 y => ?_) (fun σ H' q0 => ?_)
    · obtain ⟨s6, ⟨x3, rfl⟩, ws, eW, wa, nW⟩ := q0
      obtain ⟨rfl, hx⟩ := y
      obtain ⟨k2, p2, rfl, hk2, hp2, tk2⟩ := (pk2.same s6).get hx
      have lks : ks.length ≤ 12 := by rw [pk.len]; exact hn
      rw [List.length_map] at hi
      refine ⟨_, rfl, .inl ⟨rfl, _, SqL.of eW⟩, ?_⟩
      refine ⟨_, rfl, by show (1 : Nat) ≤ sizeLine; omega, fun y1 h1 => ?_⟩
      have t1 := Same.of_new (o := .lst [.ref k2]) h1
      refine ⟨_, rfl, m, CF, dx, p, fs, _, rfl, t1 m _ (s6 m _ ea2), k.it, lkp, SqT.of (t1 p _ (s6 p _ ep2)), fun D2 hD2 => ?_⟩
      refine lc_it (walk_tup (xs := ks.map V.ref)) (fun j Hx => Same (upd H3 y1 (.lst [.ref k2])) Hx ∧ Hx D2 = some (.lst ((ks.take j).map V.ref))) ⟨Same.of_new hD2, upd_same⟩ (fun j Hx _ q => SqT.of (q.1 p _ (t1 p _ (s6 p _ ep2)))) (fun j x Hx Hy hj q1 y => ?_) (fun Hx q1 => ?_)
      · obtain ⟨t2, eD⟩ := q1
        obtain ⟨rfl, hx2⟩ := y
        rw [List.getElem?_map] at hx2
        obtain ⟨k3, hk3, rfl⟩ := Option.map_eq_some_iff.mp hx2
        have et : ks.take (j + 1) = ks.take j ++ [k3] := by
          rw [List.take_add_one, hk3]
          rfl
        refine ⟨rfl, ?_⟩
        refine ⟨_, rfl, _, eD, by rw [List.length_map, List.length_take]; omega, fun b o e => ?_, ?_⟩
        · rw [upd_ne (ne_of_none e hD2)]
          exact t2 b o e
        · rw [et, List.map_append]
          exact upd_same
      obtain ⟨t2, eD⟩ := q1
      rw [List.length_map, List.take_length] at eD
      refine ⟨y1, D2, _, _, rfl, rfl, t2 y1 _ upd_same, eD, by rw [List.length_map]; show 1 + ks.length ≤ sizeLine; omega, fun y3 h3 => ?_⟩
      have t3 : Same H3 (upd Hx y3 (.lst ([.ref k2] ++ ks.map V.ref))) := (t1.trans t2).trans (Same.of_new h3)
      have eW3 := t3 W _ eW
      refine ⟨W, _, _, rfl, rfl, eW3, by rw [List.length_map, wa.len]; omega, ?_⟩
      have nWy : W ≠ y3 := ne_of_none ((t1.trans t2) W _ eW) h3
      refine ⟨fun b o e => ?_, ⟨_, rfl⟩, ws ++ [y3], ?_, ⟨?_, fun j v e => ?_⟩, fun h => (List.mem_append.mp h).elim nW fun h => nWy (List.mem_singleton.mp h)⟩
      · rw [upd_ne (ne_of_none e hW)]
        exact t3 b o (s6 b o e)
      · rw [List.map_append]
        exact upd_same
      · rw [List.length_append, wa.len]
        rfl
      · by_cases c : j < ws.length
        · rw [List.getElem?_append_left c] at e
          obtain ⟨k0, e1, e2⟩ := wa.at_ j v e
          refine ⟨k0, e1, ?_⟩
          have e3 := t3 v _ e2
          rw [upd_ne (fun z => ?_)]
          · exact e3
          · exact nW (z ▸ List.mem_of_getElem? e)
        · rw [List.getElem?_append_right (by omega)] at e
          have hj : j - ws.length = 0 := by
            rcases Nat.eq_zero_or_pos (j - ws.length) with h | h
            · exact h
            · rw [List.getElem?_eq_none (by show 1 ≤ _; omega)] at e
              cases e
          rw [hj] at e
          cases e
          have ej : j = i := by have := wa.len; omega
          subst ej
          refine ⟨k2, hk2, ?_⟩
          rw [upd_ne (Ne.symm nWy)]
          exact upd_same
    obtain ⟨s6, ⟨x3, rfl⟩, ws, eW, wa, nW⟩ := q0
    rw [List.length_map] at wa
    have pk6 := pk2.same s6
    have pd6 := pd2.same s6
    have hd6 := s6 d _ hdx
    have hso : ∀ p ∈ ps, PyData.strOk p.1 = true := fun p h => (hok p h).1
    have lds : ds.length ≤ 12 := by rw [pd.len]; exact hn
    refine ⟨_, rfl, _, rfl, d, rfl, ⟨_, SqL.of hd6⟩, fun L3 hL3 => ?_⟩
    refine lc_it (walk_list (xs := ds.map V.ref)) (fun i Hx => Same H' Hx ∧ ∃ vs : List Addr, Hx L3 = some (.lst (vs.map V.ref)) ∧ WalkedAt Hx vs ds i ∧ L3 ∉ vs) ⟨Same.of_new hL3, [], upd_same, ⟨rfl, fun j v e => by cases e⟩, fun h => by cases h⟩ (fun i Hx _ q => SqL.of (q.1 d _ hd6)) (fun i x Hx Hy hi q0 y => ?_) (fun Hx q0 => ?_)
    · obtain ⟨s7, vs, eL3, va, nL3⟩ := q0
      obtain ⟨rfl, hx⟩ := y
      obtain ⟨k2, p2, rfl, hk2, hp2, tk2⟩ := (pd6.same s7).get hx
      rw [List.length_map] at hi
      refine ⟨rfl, ?_⟩
      refine ⟨_, rfl, by show (1 : Nat) ≤ sizeLine; omega, fun y1 h1 => ?_⟩
      have t1 := Same.of_new (o := .lst [.ref k2]) h1
      refine ⟨_, rfl, y1, d, _, _, rfl, rfl, upd_same, t1 d _ (s7 d _ hd6), by rw [List.length_map]; show 1 + ds.length ≤ sizeLine; omega, fun y3 h3 => ?_⟩
      have t3 : Same Hy (upd (upd Hy y1 (.lst [.ref k2])) y3 (.lst ([.ref k2] ++ ds.map V.ref))) := t1.trans (Same.of_new h3)
      have eL := t3 L3 _ eL3
      have nLy : L3 ≠ y3 := ne_of_none (t1 L3 _ eL3) h3
      refine ⟨_, eL, by rw [List.length_map, va.len]; omega, fun b o e => ?_, vs ++ [y3], ?_, ⟨?_, fun j v e => ?_⟩, fun h => (List.mem_append.mp h).elim nL3 fun h => nLy (List.mem_singleton.mp h)⟩
      · rw [upd_ne (ne_of_none e hL3)]
        exact t3 b o (s7 b o e)
      · rw [List.map_append]
        exact upd_same
      · rw [List.length_append, va.len]
        rfl
      · by_cases c : j < vs.length
        · rw [List.getElem?_append_left c] at e
          obtain ⟨k0, e1, e2⟩ := va.at_ j v e
          refine ⟨k0, e1, ?_⟩
          rw [upd_ne (fun z => nL3 (by rw [← z]; exact List.mem_of_getElem? e))]
          exact t3 v _ e2
        · rw [List.getElem?_append_right (by omega)] at e
          have hj : j - vs.length = 0 := by
            rcases Nat.eq_zero_or_pos (j - vs.length) with h | h
            · exact h
            · rw [List.getElem?_eq_none (by show 1 ≤ _; omega)] at e
              cases e
          rw [hj] at e
          cases e
          have ej : j = i := by have := va.len; omega
          subst ej
          refine ⟨k2, hk2, ?_⟩
          rw [upd_ne (Ne.symm nLy)]
          exact upd_same
    obtain ⟨s7, vs, eL3, va, nL3⟩ := q0
    rw [List.length_map] at va
    have pk7 := pk6.same s7
    have pd7 := pd6.same s7
    refine ⟨_, _, .lst (SqL.of (s7 W _ eW)) ((wa.same s7).dp rfl pk7), .lst (SqL.of eL3) (va.dp rfl pd7), rows_shaped hso, rows_shaped hso, _, rfl, ?_⟩
    rw [rows_eqv hso]
    refine iteF ?_
    have s8 := s6.trans s7
    refine ⟨_, rfl, m, CF, dx, p, fs, _, rfl, s8 m _ ea2, k.it, lkp, SqT.of (s8 p _ ep2), fun L4 hL4 => ?_⟩
    refine lc_it (walk_tup (xs := ks.map V.ref)) (fun j Hx2 => Same Hx Hx2 ∧ Hx2 L4 = some (.lst ((ks.take j).map V.ref))) ⟨Same.of_new hL4, upd_same⟩ (fun j Hx2 _ q => SqT.of (q.1 p _ (s8 p _ ep2))) (fun j x Hx2 Hy hj q1 y => ?_) (fun Hx2 q1 => ?_)
    · obtain ⟨t2, eD⟩ := q1
      obtain ⟨rfl, hx2⟩ := y
      rw [List.getElem?_map] at hx2
      obtain ⟨k3, hk3, rfl⟩ := Option.map_eq_some_iff.mp hx2
      have et : ks.take (j + 1) = ks.take j ++ [k3] := by
        rw [List.take_add_one, hk3]
        rfl
      have lks : ks.length ≤ 12 := by rw [pk.len]; exact hn
      refine ⟨rfl, ?_⟩
      refine ⟨_, rfl, _, eD, by rw [List.length_map, List.length_take]; omega, fun b o e => ?_, ?_⟩
      · rw [upd_ne (ne_of_none e hL4)]
        exact t2 b o e
      · rw [et, List.map_append]
        exact upd_same
    obtain ⟨t2, eD⟩ := q1
    rw [List.length_map, List.take_length] at eD
    refine ⟨_, rfl, _, _, .lst (SqL.of eD) (pk7.same t2).dp, .lst (SqL.of (t2 d _ (s7 d _ hd6))) (pd7.same t2).dp, pks_shaped hso, pks_shaped hso, _, rfl, ?_⟩
    rw [pks_eqv hso]
    refine iteF ?_
    have s9 := s8.trans t2
    have eb9 := s9 b _ hb2
    have ep9 := s9 p _ ep2
    have ea9 := s9 m _ ea2
    have hd9 := s9 d _ hdx
    have pd9 := pd2.same s9
    have hR9 := hR2.same s9
    have q9 : ∀ Hz, Same Hx2 Hz → Q (.bl true) Hz := fun Hz sz2 => q Hz ((s4.trans s9).trans sz2)
    clear t2 eD s8 s7 eL3 va nL3 pk7 pd7 s6 eW wa nW pk6 pd6 hd6 s5 s4 s3 s1 s2 eL hL4
    -- what is asked
    refine ⟨_, rfl, by show (2 : Nat) ≤ sizeLine; omega, fun a1 h1 => ⟨by show (1 : Nat) ≤ sizeLine; omega, fun a2 h2 a3 h3 => ?_⟩⟩
    have u1 := Same.of_new (o := .tup [.str "s", .int 0]) h1
    have u2 := Same.of_new (o := .lst [.str "s"]) h2
    have u3 := Same.of_new (o := .dK []) h3
    refine ⟨_, rfl, by show (9 : Nat) ≤ sizeLine; omega, fun a4 h4 => ?_⟩
    have u4 := Same.of_new (o := .lst [.str "x", .str "", .non, .int 0, .bl true, .ref a1, .ref a2, .ref a3, .ref m]) h4
    have uu := ((u1.trans u2).trans u3).trans u4
    refine ⟨b, a4, _, _, rfl, rfl, uu b _ eb9, upd_same, by rw [List.length_map]; show bs.length + 9 ≤ sizeLine; omega, fun a5 h5 => ?_⟩
    have u5 := uu.trans (Same.of_new (o := .lst (bs.map V.str ++ [.str "x", .str "", .non, .int 0, .bl true, .ref a1, .ref a2, .ref a3, .ref m])) h5)
    have e1 := ((u2.trans u3).trans u4).trans (Same.of_new (o := .lst (bs.map V.str ++ [.str "x", .str "", .non, .int 0, .bl true, .ref a1, .ref a2, .ref a3, .ref m])) h5) a1 _ upd_same
    have e2 := (u3.trans u4).trans (Same.of_new (o := .lst (bs.map V.str ++ [.str "x", .str "", .non, .int 0, .bl true, .ref a1, .ref a2, .ref a3, .ref m])) h5) a2 _ upd_same
    have e3 := u4.trans (Same.of_new (o := .lst (bs.map V.str ++ [.str "x", .str "", .non, .int 0, .bl true, .ref a1, .ref a2, .ref a3, .ref m])) h5) a3 _ upd_same
    refine ⟨a5, rfl, ⟨_, SqL.of upd_same⟩, ?_⟩
    have e5 : upd (upd (upd (upd (upd Hx2 a1 (.tup [.str "s", .int 0])) a2 (.lst [.str "s"])) a3 (.dK [])) a4 (.lst [.str "x", .str "", .non, .int 0, .bl true, .ref a1, .ref a2, .ref a3, .ref m])) a5 (.lst (bs.map V.str ++ [.str "x", .str "", .non, .int 0, .bl true, .ref a1, .ref a2, .ref a3, .ref m])) a5 = some (.lst (bs.map V.str ++ [.str "x", .str "", .non, .int 0, .bl true, .ref a1, .ref a2, .ref a3, .ref m])) := upd_same
    generalize upd (upd (upd (upd (upd Hx2 a1 (.tup [.str "s", .int 0])) a2 (.lst [.str "s"])) a3 (.dK [])) a4 (.lst [.str "x", .str "", .non, .int 0, .bl true, .ref a1, .ref a2, .ref a3, .ref m])) a5 (.lst (bs.map V.str ++ [.str "x", .str "", .non, .int 0, .bl true, .ref a1, .ref a2, .ref a3, .ref m])) = H5 at u5 e1 e2 e3 e5 ⊢
    have ea5 := u5 m _ ea9
    have items : ∀ Hz, Same H5 Hz → ∀ (i : Nat) (x : V), (bs.map V.str ++ [.str "x", .str "", .non, .int 0, .bl true, .ref a1, .ref a2, .ref a3, .ref m])[i]? = some x → ∃ o, strO x = o ∧ ItemAt K CF Hz x o := fun Hz sz5 i x hx => by
      by_cases c : i < (bs.map V.str).length
      · rw [List.getElem?_append_left c, List.getElem?_map] at hx
        obtain ⟨z, hz, rfl⟩ := Option.map_eq_some_iff.mp hx
        exact ⟨some z, rfl, rfl, hbo z (List.mem_of_getElem? hz)⟩
      · rw [List.getElem?_append_right (by omega)] at hx
        have nostr : ∀ T : String, kitB T "str" = some false → PySem.W.kitOne K (.type T) (.type "str") = some false := fun T h => kit_ty h
        match i - (bs.map V.str).length, hx with
        | 0, hx => cases hx; exact ⟨some "x", rfl, rfl, by decide +kernel⟩
        | 1, hx => cases hx; exact ⟨some "", rfl, rfl, by decide +kernel⟩
        | 2, hx => cases hx; exact ⟨none, rfl, ⟨_, .base .non, nostr _ (by decide +kernel)⟩, .inl ⟨.none, .non, by decide +kernel, fun z => by simp [PyData.eqv]⟩⟩
        | 3, hx => cases hx; exact ⟨none, rfl, ⟨_, .base (.int 0), nostr _ (by decide +kernel)⟩, .inl ⟨.int 0, .int 0, by decide +kernel, fun z => by simp [PyData.eqv]⟩⟩
        | 4, hx => cases hx; exact ⟨none, rfl, ⟨_, .base (.bl true), nostr _ (by decide +kernel)⟩, .inl ⟨.bool true, .bl true, by decide +kernel, fun z => by simp [PyData.eqv]⟩⟩
        | 5, hx => cases hx; exact ⟨none, rfl, ⟨_, .base (.tup (sz5 a1 _ e1)), nostr _ (by decide +kernel)⟩, .inl ⟨.tuple [.str "s", .int 0], .tup (SqT.of (sz5 a1 _ e1)) (.cons (.str "s") (.cons (.int 0) .nil)), by decide +kernel, fun z => by simp [PyData.eqv]⟩⟩
        | 6, hx => cases hx; exact ⟨none, rfl, ⟨_, .base (.lst (sz5 a2 _ e2)), nostr _ (by decide +kernel)⟩, .inl ⟨.list [.str "s"], .lst (SqL.of (sz5 a2 _ e2)) (.cons (.str "s") .nil), by decide +kernel, fun z => by simp [PyData.eqv]⟩⟩
        | 7, hx => cases hx; exact ⟨none, rfl, ⟨_, .base (.dK (sz5 a3 _ e3)), nostr _ (by decide +kernel)⟩, .inr (.inl ⟨a3, _, rfl, sz5 a3 _ e3⟩)⟩
        | 8, hx => cases hx; exact ⟨none, rfl, ⟨_, k.ty (sz5 m _ ea5), k.nostr⟩, .inr (.inr ⟨m, dx, fs, rfl, sz5 m _ ea5⟩)⟩
        | n + 9, hx => cases hx
    have hd5 := u5 d _ hd9
    have pd5 := pd9.same u5
    have hR5 := hR9.same u5
    refine for_it (walk_list (xs := bs.map V.str ++ [.str "x", .str "", .non, .int 0, .bl true, .ref a1, .ref a2, .ref a3, .ref m])) (fun i σ H' => Same H5 H' ∧ ∃ x6 x7, σ = [some (.ref m), some (.ref d), some (.ref b), x3, some (.ref W), none, x6, x7, none]) ⟨Same.refl _, none, none, rfl⟩ (fun i σ H' _ q => SqL.of (q.1 a5 _ e5)) (fun i x σ H' H3 hi q0 y => ?_) (fun σ H' q0 => ?_)
    · obtain ⟨v1, x6, x7, rfl⟩ := q0
      obtain ⟨rfl, hx⟩ := y
      refine ⟨_, rfl, d, rfl, ⟨_, SqL.of (v1 d _ hd5)⟩, fun L hL => ?_⟩
      refine lc_it (walk_list (xs := ds.map V.ref)) (fun j Hx => Same H3 Hx ∧ ∃ ns : List Int, Hx L = some (.lst (ns.map V.int)) ∧ ns.length ≤ j ∧ ns = keepsO (strO x) (ps.take j)) ⟨Same.of_new hL, [], upd_same, Nat.le_refl 0, rfl⟩ (fun j Hx _ q => SqL.of (q.1 d _ (v1 d _ hd5))) (fun j x2 Hx Hy hj q1 y => ?_) (fun Hx q1 => ?_)
      · obtain ⟨v2, ns, eL, ll, hh⟩ := q1
        obtain ⟨rfl, hx2⟩ := y
        obtain ⟨k2, p2, rfl, hk2, hp2, tk2⟩ := ((pd5.same v1).same v2).get hx2
        have et : ps.take (j + 1) = ps.take j ++ [p2] := by
          rw [List.take_add_one, hp2]
          rfl
        obtain ⟨o, eo, ho⟩ := items Hy (v1.trans v2) i x hx
        have hp3 := List.mem_of_getElem? hp2
        rw [List.length_map] at hj
        have ek : ∀ b, decide (o = some p2.1) = b → keepsO (strO x) (ps.take (j + 1)) = ns ++ (if b = true then [p2.2] else []) := fun b e => by
          rw [et, hh, eo]
          unfold keepsO
          rw [List.filter_append, List.map_append, List.filter_cons, e]
          cases b <;> rfl
        refine ⟨rfl, ?_⟩
        refine ⟨_, rfl, k2, _, 0, _, rfl, rfl, SqT.of tk2, rfl, ?_⟩
        refine ⟨_, rfl, ho.eq k.eq (hso p2 hp3) ⟨_, rfl, ?_⟩⟩
        by_cases c : o = some p2.1
        · have e6 := ek true (decide_eq_true c)
          rw [decide_eq_true c]
          refine iteT ?_
          refine ⟨_, rfl, k2, _, 1, _, rfl, rfl, SqT.of tk2, rfl, ?_⟩
          refine ⟨_, eL, by rw [List.length_map]; omega, fun b o e => ?_, ns ++ [p2.2], ?_, ?_, e6.symm⟩
          · rw [upd_ne (ne_of_none e hL)]
            exact v2 b o e
          · rw [List.map_append]
            exact upd_same
          · rw [List.length_append]
            show ns.length + 1 ≤ j + 1
            omega
        · have e6 := ek false (decide_eq_false c)
          rw [decide_eq_false c]
          refine iteF ?_
          exact ⟨v2, ns, eL, by omega, by rw [e6]; exact (List.append_nil ns).symm⟩
      · obtain ⟨v2, ns, eL, ll, hns⟩ := q1
        rw [List.length_map, pd.len, List.take_length] at hns
        rw [List.length_map, pd.len] at ll
        have v3 := v1.trans v2
        obtain ⟨o, eo, ho⟩ := items Hx v3 i x hx
        rw [eo] at hns
        obtain ⟨ki, km⟩ := keepsO_is hde o
        refine ⟨_, rfl, _, rfl, m, CF, dx, fs, rfl, v3 m _ ea5, k.in_, m, ps, x, o, rfl, hR5.same v3, ho.ask, _, rfl, ?_⟩
        refine ⟨_, rfl, Nat.zero_le _, fun N1 hN1 => ?_⟩
        have v4 := Same.of_new (o := .lst []) hN1
        refine ⟨_, _, .lst (SqL.of (v4 L _ eL)) (OwD.dp_ints ns), .lst (SqL.of upd_same) .nil, OwD.shaped_ints ns, OwD.shaped_nil, ?_⟩
        have en : PyData.eqv (.list (ns.map PyData.int)) (.list []) = ns.isEmpty := OwD.eqv_nil ns
        rw [en]
        refine ⟨rfl, _, rfl, ?_⟩
        rw [ki, ← hns, decide_eq_true rfl]
        refine iteF ?_
        have v5 := v3.trans v4
        obtain ⟨o2, eo2, ho2⟩ := items _ v5 i x hx
        obtain rfl : o = o2 := eo.symm.trans eo2
        refine ⟨_, rfl, m, dx, fs, rfl, v5 m _ ea5, M.lm, _, rfl, m, ps, x, o, rfl, hR5.same v5, ho2.ask, ?_⟩
        have small : ∀ v, keepAt ps o = some v → v.natAbs.log2 < 1920 := fun v e => by
          have h1 := (km v e).1
          unfold keepsO at h1
          obtain ⟨q2, hq2, rfl⟩ := List.mem_map.mp h1
          have h2 := hok q2 (List.mem_filter.mp hq2).1
          exact log_small (by have := h2.2.2.2; omega)
        refine ⟨keepAt ps o, by cases keepAt ps o <;> rfl, small, ?_⟩
        refine ⟨_, rfl, Nat.zero_le _, fun N2 hN2 => ?_⟩
        have v6 := Same.of_new (o := .lst []) hN2
        refine ⟨_, _, .lst (SqL.of (v6 L _ (v4 L _ eL))) (OwD.dp_ints ns), .lst (SqL.of upd_same) .nil, OwD.shaped_ints ns, OwD.shaped_nil, ?_⟩
        rw [en]
        refine ⟨_, rfl, ?_⟩
        have eL6 := v6 L _ (v4 L _ eL)
        have v7 := v5.trans v6
        cases ek : keepAt ps o with
        | none =>
          rw [ek] at ki
          have e7 : (!ns.isEmpty) = false := by rw [hns]; exact ki.symm
          rw [e7]
          refine iteF ?_
          refine ⟨none, rfl, fun i e => (by cases e), rfl, _, rfl, ?_⟩
          rw [decide_eq_true rfl]
          exact iteF ⟨v7, _, _, rfl⟩
        | some v =>
          rw [ek] at ki
          have e7 : (!ns.isEmpty) = true := by rw [hns]; exact ki.symm
          rw [e7]
          refine iteT ?_
          obtain ⟨m1, m2⟩ := km v ek
          rw [← hns] at m1 m2
          refine ⟨_, rfl, L, rfl, ⟨_, SqL.of eL6⟩, fun L2 hL2 => ?_⟩
          refine lc_it (walk_list (xs := ns.map V.int)) (fun j Hz => Same (upd (upd Hx N1 (.lst [])) N2 (.lst [])) Hz ∧ Hz L2 = some (.lst ((ns.take j).map V.int))) ⟨Same.of_new hL2, upd_same⟩ (fun j Hz _ q => SqL.of (q.1 L _ eL6)) (fun j x2 Hz Hy hj q2 y => ?_) (fun Hz q2 => ?_)
          · obtain ⟨v8, eL2⟩ := q2
            obtain ⟨rfl, hx2⟩ := y
            rw [List.getElem?_map] at hx2
            obtain ⟨n3, hn3, rfl⟩ := Option.map_eq_some_iff.mp hx2
            have et : ns.take (j + 1) = ns.take j ++ [n3] := by
              rw [List.take_add_one, hn3]
              rfl
            refine ⟨rfl, ?_⟩
            refine ⟨_, rfl, .inl ⟨n3, rfl, ?_⟩⟩
            refine ⟨_, eL2, by rw [List.length_map, List.length_take]; omega, fun b o e => ?_, ?_⟩
            · rw [upd_ne (ne_of_none e hL2)]
              exact v8 b o e
            · rw [et, List.map_append]
              exact upd_same
          · obtain ⟨v8, eL2⟩ := q2
            rw [List.length_map, List.take_length] at eL2
            refine ⟨L2, ns, rfl, SqL.of eL2, List.length_pos_of_mem m1, fun mx h8 h9 => ?_⟩
            obtain rfl : mx = v := Int.le_antisymm (m2 mx h8) (h9 v m1)
            refine ⟨some mx, rfl, fun i e => by cases e; exact small mx ek, rfl, _, rfl, ?_⟩
            rw [decide_eq_true rfl]
            exact iteF ⟨v7.trans v8, _, _, rfl⟩
    · obtain ⟨v1, x6, x7, rfl⟩ := q0
      exact q9 H' (u5.trans v1)
end
end K10
end
section
namespace K10
open PySem PySem.Spec PyProof.Rows L2
abbrev sLaw : Stmt := top 35
/-- a def of the text behind a name of the module -/
def At (K : PySem.W.Frag) (mg : Str → Option Value) (x : Str) (st : Stmt) : Prop := ∃ f fd, mg x = some (.ref f) ∧ Fun K x x st f fd
def menu : List Str := ["s", "b", "n", "or", "keep", "zzzzzzzz", "go", "abcdefgh"]
theorem menu_ok : ∀ b ∈ menu, (nameB b = true ∧ b.length ≤ 1000) ∧ PyData.strOk b = true ∧ PyData.leavesShort 13 (.str b) = true ∧ b.cps.size ≤ 8 := by decide +kernel
/-- all that the law wants of what stands behind the top -/
structure Facts (P : Program) (w : World) (K : PySem.W.Frag) (mg : Str → Option Value) (base : Heap) (CF CR fI fL fN fE : Addr) (mF mR : Value) : Prop where
  chk : Chk P w K mg base
  nm : Nm mg
  n_range : mg "range" = none
  n_zip : mg "zip" = none
  n_enumerate : mg "enumerate" = none
  n_iter : mg "iter" = none
  n_repr : mg "repr" = none
  n_max : mg "max" = none
  pen : At K mg "_law_pen" sPen
  draw : At K mg "_law_draw" sDraw
  pick : At K mg "_law_pick" sPick
  row : At K mg "_law_row" sRow
  lform : At K mg "_law_form" sLForm
  vals : At K mg "_law_values" sVals
  called : At K mg "_law_called" sCalled
  right : At K mg "_law_right" sRight
  form : At K mg "one_form" sForm
  isp : At K mg "is_pick" sIsPick
  gFirst : mg "First" = some (.ref CF)
  gRule : mg "Rule" = some (.ref CR)
  rF : ClX.CRead K CF mF
  rR : ClX.CRead K CR mR
  first0 : ∃ f fd, Mk K CF f ∧ Fun K "__init__" "First.__init__" sFirst0 f fd
  rule0 : ∃ f fd, OwR.CFun K CR mR "__init__" f ∧ Fun K "__init__" "Rule.__init__" sRule0 f fd
  fof : ∃ p g fd, ClX.CMet K CF mF "of" p g ∧ Fun K "of" "First.of" sFirstOf g fd
  picks : ∃ p g fd, PropOf K CF "picks" p g ∧ Fun K "picks" "Rule.picks" sPicks g fd
  bays : ∃ p g fd, PropOf K CF "bays" p g ∧ Fun K "bays" "Rule.bays" sBays g fd
  keep : ∃ g fd, Meth K CF "keep" g ∧ Fun K "keep" "Rule.keep" sKeep g fd
  kind : FirstC K CR fI fL fN fE CF
  iter : ∃ fd, Fun K "__iter__" "Rule.__iter__" sRIter fI fd
  len : ∃ fd, Fun K "__len__" "Rule.__len__" sRLen fL fd
  has : ∃ fd, Fun K "__contains__" "Rule.__contains__" sIn fN fd
  eq : ∃ fd, Fun K "__eq__" "Rule.__eq__" sREq fE fd
def spLaw (K : PySem.W.Frag) : Sp := fun vs H Q _ => ∃ (a : Addr) (ns : List Int), vs = [.ref a] ∧ SqL K H a (ns.map V.int) ∧ ns.length ≤ 63 ∧ ∀ H', Q (.bl true) H'
def spFirstT (K : PySem.W.Frag) (C : Addr) : Sp := fun vs H Q _ => ∃ (l : Addr) (xs : List V) (ps : List Pk), vs = [.ref C, .ref l] ∧ (SqT K H l xs ∨ SqL K H l xs) ∧ ValsAt H xs ps ∧ ps.length ≤ 12 ∧ (∀ p ∈ ps, Good p) ∧
  ∀ a H', H a = none → Same H H' → RuleAt C H' a (oneForm ps) → Q (.ref a) H'
theorem RuleAt.lput {C : Addr} {H : Hp} {a : Addr} {ps : List Pk} (h : RuleAt C H a ps) {r : Addr} {xs : List V} {o : HO} (e : H r = some (.lst xs)) : RuleAt C (upd H r o) a ps := by
  obtain ⟨dx, fs, p, ks, h1, h2, h3, h4, D, b, rr, zs, m⟩ := h
  have ne : ∀ {b : Addr} {u : HO}, H b = some u → u ≠ .lst xs → upd H r o b = some u := fun {b u} e2 n => by
    rw [upd_ne (fun z => n (by rw [z, e] at e2; exact (Option.some.inj e2).symm))]
    exact e2
  exact ⟨dx, fs, p, ks, ne h1 (by simp), h2, ne h3 (by simp), h4.mono fun k ys e2 => ne e2 (by simp), D, b, rr, zs, m.lm, m.lk, m.lb, ne m.eD (by simp), m.tb, ne m.eb (by simp), m.nd, m.mem, m.srt⟩
theorem RuleAt.pbut {C p c : Addr} {H H' : Hp} {a : Addr} {ps : List Pk} {ns : List Int} {n : Nat} {z : Int} (h : RuleAt C H a ps) (P : PenAt H p c ns n z) (s : But p H H') : RuleAt C H' a ps := by
  obtain ⟨dx, fs, q, ks, h1, h2, h3, h4, D, b, rr, zs, m⟩ := h
  have ne : ∀ {b : Addr} {u : HO}, H b = some u → u ≠ .lst [.ref c, .int n, .int z] → H' b = some u := fun {b u} e2 nn => s b u (fun w => nn (by rw [w, P.pen] at e2; exact (Option.some.inj e2).symm)) e2
  exact ⟨dx, fs, q, ks, ne h1 (by simp), h2, ne h3 (by simp), h4.mono fun k ys e2 => ne e2 (by simp), D, b, rr, zs, m.lm, m.lk, m.lb, ne m.eD (by simp), m.tb, ne m.eb (by simp), m.nd, m.mem, m.srt⟩
theorem PicksAt.take {H : Hp} {ks : List Addr} {ps : List Pk} (h : PicksAt H ks ps) (j : Nat) : PicksAt H (ks.take j) (ps.take j) := ⟨by rw [List.length_take, List.length_take, h.len], fun i k p e1 e2 => by
  rw [List.getElem?_take] at e1 e2
  split at e1
  · rename_i c
    rw [if_pos c] at e2
    exact h.at_ i k p e1 e2
  · cases e1⟩
theorem ValsAt.take {H : Hp} {xs : List V} {ps : List Pk} (h : ValsAt H xs ps) (j : Nat) : ValsAt H (xs.take j) (ps.take j) := ⟨by rw [List.length_take, List.length_take, h.len], fun i k p e1 e2 => by
  rw [List.getElem?_take] at e1 e2
  split at e1
  · rename_i c
    rw [if_pos c] at e2
    exact h.at_ i k p e1 e2
  · cases e1⟩
theorem cut_3 (xs : List V) : cutV xs none (some 3) = xs.take 3 := by
  have e : (some 3 : Option Int) = some ((3 : Nat) : Int) := rfl
  unfold cutV
  rw [HT.sIx_none, e, HT.sIx_nat, List.drop_zero, Nat.sub_zero]
  by_cases c : 3 ≤ xs.length
  · rw [Nat.min_eq_left c]
  · rw [Nat.min_eq_right (by omega), List.take_length, List.take_of_length_le (by omega)]
instance goodDec (p : Pk) : Decidable (Good p) := by
  unfold Good
  infer_instance
theorem ix_zero {n : Nat} (h : 0 < n) : ixN n 0 = some 0 := by
  unfold ixN
  simp [h]
section
variable {P : Program} {w : World} {K : PySem.W.Frag} {mg : Str → Option Value} {base : Heap}
theorem ok_FOT {C f fI : Addr} {fd : FuncData} (F : Fun K "of" "First.of" sFirstOf f fd) (MF : Mk K C fI) (GI : FnR P w K mg base CX0 3 fI (spFirst C)) : FnR P w K mg base CX0 5 f (spFirstT K C) := by
  refine OwR.raw0 (F.ok (k := 4) (ps := ["cls", "picks"]) scFO (fun vs H Q E h => ?_) (fun cdv A outer s H vs Q E hr h => ?_)) (F.binds fun _ _ _ _ _ _ us hl => match us, hl with | [_, _], _ => rfl)
  · obtain ⟨l, ks, ps, rfl, _⟩ := h
    rfl
  · obtain ⟨l, ks, ps, rfl, hl, hp, hn, hg, q⟩ := h
    refine ⟨_, (pss_one (ps_ret (OwR.pe_makeLS (i := 0) MF GI hr (by rfl) (by first | exact Or.inl rfl | exact Or.inr (Or.inl rfl)) pass0 (pv 1)))), ?_⟩
    refine ⟨rfl, _, rfl, l, _, rfl, hl, fun z dz h1 h2 nd => ⟨z, dz, ks, ps, rfl, upd_same, ?_, hn, hg, fun H' s1 hR => ⟨rfl, q z H' h1 (made_same h1 h2 s1) hR⟩⟩⟩
    exact hp.same fun b o e => by
      rw [upd_ne (ne_of_none e h1), upd_ne (ne_of_none e h2)]
      exact e
abbrev nRT : List Str := ["self", "bay", "keep"]
abbrev nLaw : List Str := ["_law_script", "_law_pen_here", "_law_menu", "_law_turn", "_law_bays", "_law_k", "_law_keeps", "_law_picks_so", "_law_values_here", "_law_due", "_law_made", "_law_told", "_law_later"]
theorem scLaw : FnScope nLaw ["_law_script"] (defScope sLaw) := ⟨rfl, rfl, rfl, by decide +kernel, rfl, by decide +kernel, by decide +kernel⟩
theorem ok_law {CF CR fI fL fN fE f : Addr} {mF mR : Value} {fd : FuncData} (F : Fun K "law" "law" sLaw f fd) (Fa : Facts P w K mg base CF CR fI fL fN fE mF mR) : OwR.FnG P w K mg base CX0 8 f fd ["_law_script"] (spLaw K) := by
  obtain ⟨oc, od, kV, doc, pm, an, cdv, ct, osl, rfl, lk, hcd⟩ := F.ex
  obtain ⟨f_pen, d_pen, g_pen, F_pen⟩ := Fa.pen
  have k_pen := F_pen.kp
  obtain ⟨f_draw, d_draw, g_draw, F_draw⟩ := Fa.draw
  have k_draw := F_draw.kp
  obtain ⟨f_pick, d_pick, g_pick, F_pick⟩ := Fa.pick
  have k_pick := F_pick.kp
  obtain ⟨f_row, d_row, g_row, F_row⟩ := Fa.row
  have k_row := F_row.kp
  obtain ⟨f_lf, d_lf, g_lf, F_lf⟩ := Fa.lform
  have k_lf := F_lf.kp
  obtain ⟨f_va, d_va, g_va, F_va⟩ := Fa.vals
  have k_va := F_va.kp
  obtain ⟨f_cd, d_cd, g_cd, F_cd⟩ := Fa.called
  have k_cd := F_cd.kp
  obtain ⟨f_ri, d_ri, g_ri, F_ri⟩ := Fa.right
  have k_ri := F_ri.kp
  obtain ⟨fF, fdF, gF, FF⟩ := Fa.form
  obtain ⟨fP, fdP, gP, FP⟩ := Fa.isp
  obtain ⟨fF0, fdF0, MF, FF0⟩ := Fa.first0
  obtain ⟨fR0, fdR0, cR0, FR0⟩ := Fa.rule0
  obtain ⟨pFO, fFO, fdFO, cFO, FFO⟩ := Fa.fof
  obtain ⟨pPk, fPk, fdPk, cPk, FPk⟩ := Fa.picks
  obtain ⟨pBa, fBa, fdBa, cBa, FBa⟩ := Fa.bays
  obtain ⟨fKe, fdKe, mKe, FKe⟩ := Fa.keep
  obtain ⟨fdIt, FIt⟩ := Fa.iter
  obtain ⟨fdLn, FLn⟩ := Fa.len
  obtain ⟨fdIn, FIn⟩ := Fa.has
  obtain ⟨fdEq, FEq⟩ := Fa.eq
  have gFirst := Fa.gFirst
  have rF := Fa.rF
  have n_range := Fa.n_range
  have n_len := Fa.nm.n_len
  have rcF := Fa.kind.rc
  have n_tuple := Fa.chk.T4.n_tuple
  have G_pen : FnOk P w K mg base CX0 1 f_pen d_pen ["_law_script"] (spPen K) := ok_pen F_pen Fa.nm
  have b_pen : Binds K d_pen ["_law_script"] [] := F_pen.binds fun _ _ _ _ _ _ us hl => match us, hl with | [_], _ => rfl
  have G_draw : FnOk P w K mg base CX0 1 f_draw d_draw ["_law_pen_here", "_law_many"] spDraw := ok_draw F_draw Fa.nm
  have b_draw : Binds K d_draw ["_law_pen_here", "_law_many"] [] := F_draw.binds fun _ _ _ _ _ _ us hl => match us, hl with | [_, _], _ => rfl
  have G_pick : FnOk P w K mg base CX0 2 f_pick d_pick ["_law_pen_here", "_law_some"] (spPick K) := ok_pick F_pick Fa.nm F_draw g_draw
  have b_pick : Binds K d_pick ["_law_pen_here", "_law_some"] [] := F_pick.binds fun _ _ _ _ _ _ us hl => match us, hl with | [_, _], _ => rfl
  have G_row : FnOk P w K mg base CX0 3 f_row d_row ["_law_pen_here", "_law_bays", "_law_keeps", "_law_top"] (spRow K) := ok_row F_row Fa.nm Fa.n_range F_draw g_draw F_pick g_pick
  have b_row : Binds K d_row ["_law_pen_here", "_law_bays", "_law_keeps", "_law_top"] [] := F_row.binds fun _ _ _ _ _ _ us hl => match us, hl with | [_, _, _, _], _ => rfl
  have G_lf : FnOk P w K mg base CX0 1 f_lf d_lf ["_law_picks_so"] (spLForm K) := ok_lform F_lf n_len n_range
  have b_lf : Binds K d_lf ["_law_picks_so"] [] := F_lf.binds fun _ _ _ _ _ _ us hl => match us, hl with | [_], _ => rfl
  have G_va : FnOk P w K mg base CX0 2 f_va d_va ["_law_pen_here", "_law_picks_so"] (spVals K) := ok_vals F_va Fa.nm F_draw g_draw
  have b_va : Binds K d_va ["_law_pen_here", "_law_picks_so"] [] := F_va.binds fun _ _ _ _ _ _ us hl => match us, hl with | [_, _], _ => rfl
  have GF0 : FnR P w K mg base CX0 3 fF0 (spFirst CF) := ok_F0 rcF FF0 Fa.chk FR0 FF gF Fa.n_zip Fa.n_enumerate FP gP Fa.gRule Fa.rR cR0
  have GFO : FnR P w K mg base CX0 5 fFO (spFirstT K CF) := ok_FOT FFO MF GF0
  have G_cd : FnOk P w K mg base CX0 5 f_cd d_cd ["_law_values_here"] (spCalled K CF) := ok_called F_cd n_len MF GF0 gFirst
  have b_cd : Binds K d_cd ["_law_values_here"] [] := F_cd.binds fun _ _ _ _ _ _ us hl => match us, hl with | [_], _ => rfl
  have G_ri : OwR.FnG P w K mg base CX0 3 f_ri d_ri ["_law_made", "_law_due", "_law_bays"] (spRight K CF) := ok_right Fa.kind F_ri Fa.chk.T Fa.chk.T3 Fa.chk.T4 Fa.n_repr Fa.n_max Fa.n_iter gFirst Fa.gRule FIt FLn FIn FEq cPk FPk cBa FBa mKe FKe
  have b_ri : Binds K d_ri ["_law_made", "_law_due", "_law_bays"] [] := F_ri.binds fun _ _ _ _ _ _ us hl => match us, hl with | [_, _, _], _ => rfl
  have L_ri := spRight_len (K := K) (C := CF)
  have GPk : FnOk P w K mg base CX0 1 fPk fdPk ["self"] (getSp CF "_picks") := ok_picks rcF FPk
  have bPk : Binds K fdPk ["self"] [] := FPk.binds fun _ _ _ _ _ _ us hl => match us, hl with | [_], _ => rfl
  refine OwR.fn_ofG (k := 7) lk hcd scLaw (fun vs H Q E h => ?_) fun A outer s H vs Q E hgd0 hr h => ?_
  · obtain ⟨a, ns, rfl, _⟩ := h
    rfl
  · obtain ⟨a, ns, rfl, ha, hl, q⟩ := h
    have hgd : (A.deeper (envOfC "law" (defScope sLaw) s.heap.objs.size f cdv)).guards = some [] := hgd0
    have hr1 : Room 1 (A.deeper (envOfC "law" (defScope sLaw) s.heap.objs.size f cdv)) := hr.mono (by decide)
    have hr2 : Room 2 (A.deeper (envOfC "law" (defScope sLaw) s.heap.objs.size f cdv)) := hr.mono (by decide)
    have hr3 : Room 3 (A.deeper (envOfC "law" (defScope sLaw) s.heap.objs.size f cdv)) := hr.mono (by decide)
    have hr4 : Room 4 (A.deeper (envOfC "law" (defScope sLaw) s.heap.objs.size f cdv)) := hr.mono (by decide)
    have hr5 : Room 5 (A.deeper (envOfC "law" (defScope sLaw) s.heap.objs.size f cdv)) := hr.mono (by decide)
    refine ⟨_, PSs.nox (pss_cons (ps_set (i := 1) scLaw.nd rfl (Or.inr rfl) (pe_call G_pen hr1 (by rfl) g_pen k_pen b_pen .nil pass0 (pa_cons (pv 0) pa_nil)))
    (pss_cons (ps_set (i := 2) scLaw.nd rfl (Or.inr rfl) (pe_lst (pa_cons pe_str (pa_cons pe_str (pa_cons pe_str (pa_cons pe_str (pa_cons pe_str (pa_cons pe_str (pa_cons pe_str (pa_cons pe_str pa_nil))))))))))
    (pss_cons (ps_for PassesOwn.never rfl (pi_range1 rfl n_range (pa_cons pe_int pa_nil)) (pg_name (i := 3) scLaw.nd rfl (Or.inl rfl)) (pss_cons (ps_setLc (i := 4) (own := [("_law_k", 5)]) (by rfl) scLaw.nd rfl rfl (sw_true rfl rfl rfl (by decide +kernel)) (pi_range1 rfl n_range (pa_cons (pe_op op_add pe_int (pe_call G_draw hr1 (by rfl) g_draw k_draw b_draw .nil pass0 (pa_cons (pv 1) (pa_cons pe_int pa_nil)))) pa_nil)) (blkOk_by (own := [("_law_k", 5)]) (N := nLaw) (sc := defScope sLaw) (by decide +kernel)) (fun _ _ _ _ _ => (pg_name (i := 5) scLaw.nd rfl (Or.inl rfl))) (fun _ _ _ _ _ => pts_nil) (fun _ _ _ _ _ => (pe_call G_pick hr2 (by rfl) g_pick k_pick b_pick .nil pass0 (pa_cons (pv 1) (pa_cons (pv 2) pa_nil)))))
    (pss_cons (ps_set (i := 6) scLaw.nd rfl (Or.inl rfl) (pe_call G_pick hr2 (by rfl) g_pick k_pick b_pick .nil pass0 (pa_cons (pv 1) (pa_cons (pe_lst (pa_cons (pe_lst (pa_cons pe_int pa_nil)) (pa_cons (pe_lst (pa_cons pe_int (pa_cons pe_int pa_nil))) (pa_cons (pe_lst (pa_cons pe_int (pa_cons pe_int (pa_cons pe_int (pa_cons pe_int pa_nil))))) (pa_cons (pe_lst (pa_cons pe_int (pa_cons pe_int (pa_cons pe_int pa_nil)))) (pa_cons (pe_lst (pa_cons pe_int (pa_cons pe_int (pa_cons pe_int (pa_cons pe_int (pa_cons pe_int pa_nil)))))) pa_nil)))))) pa_nil))))
    (pss_cons (ps_set (i := 7) scLaw.nd rfl (Or.inl rfl) (pe_call G_row hr3 (by rfl) g_row k_row b_row .nil pass0 (pa_cons (pv 1) (pa_cons (pv 4) (pa_cons (pv 6) (pa_cons pe_int pa_nil))))))
    (pss_cons (ps_par (i := 8) (j := 9) (by rfl) scLaw.nd rfl rfl (by decide) rfl rfl (pa_cons (pe_call G_va hr2 (by rfl) g_va k_va b_va .nil pass0 (pa_cons (pv 1) (pa_cons (pv 7) pa_nil))) (pa_cons (pe_call G_lf hr1 (by rfl) g_lf k_lf b_lf .nil pass0 (pa_cons (pv 7) pa_nil)) pa_nil)) (by rfl))
    (pss_cons (ps_set (i := 10) scLaw.nd rfl (Or.inl rfl) (ClX.pe_cmeth (pe_glob (v := .ref CF) rfl gFirst rfl) rF cFO GFO hr5 pass0 (pa_cons (pv 8) pa_nil)))
    (pss_cons (ps_if (PW.pt (pw_or (pt_not (pt_val (OwR.pe_callG G_ri L_ri hgd hr3 (by rfl) g_ri k_ri b_ri pass0 (pa_cons (pv 10) (pa_cons (pv 9) (pa_cons (pv 4) pa_nil)))))) (pw_or1 (pt_not (pt_val (OwR.pe_callG G_ri L_ri hgd hr3 (by rfl) g_ri k_ri b_ri pass0 (pa_cons (ClX.pe_cmeth (pe_glob (v := .ref CF) rfl gFirst rfl) rF cFO GFO hr5 pass0 (pa_cons (pe_callTy call_tuple_of (by rfl) n_tuple (by decide +kernel) (pa_cons (pv 8) pa_nil)) pa_nil)) (pa_cons (pv 9) (pa_cons (pv 4) pa_nil))))))))) (pss_one (ps_ret pe_bl)) pss_nil)
    (pss_cons (ps_if (pt_not (pt_val (OwR.pe_callG G_ri L_ri hgd hr3 (by rfl) g_ri k_ri b_ri pass0 (pa_cons (pe_call G_cd hr5 (by rfl) g_cd k_cd b_cd .nil pass0 (pa_cons (pe_slice sl_list (pv 8) po_none (po_some pe_int)) pa_nil)) (pa_cons (pe_call G_lf hr1 (by rfl) g_lf k_lf b_lf .nil pass0 (pa_cons (pe_slice sl_list (pv 7) po_none (po_some pe_int)) pa_nil)) (pa_cons (pv 4) pa_nil)))))) (pss_one (ps_ret pe_bl)) pss_nil)
    (pss_cons (ps_expr (pe_bm PySem.F.plainAttrs_list PySem.F.slot_list_append PySem.F.type_list_append mt_append (pv 8) (pa_cons pe_str pa_nil)))
    (pss_cons (ps_asg (pe_tup (pa_cons pe_str (pa_cons pe_int pa_nil))) (pg_sub (pv 8) pe_int set_list (fun _ => rfl)))
    (pss_one (ps_if (pt_not (pt_val (OwR.pe_callG G_ri L_ri hgd hr3 (by rfl) g_ri k_ri b_ri pass0 (pa_cons (pv 10) (pa_cons (pv 9) (pa_cons (pv 4) pa_nil)))))) (pss_one (ps_ret pe_bl)) pss_nil))))))))))))
    (pss_cons (ps_par (i := 11) (j := 12) (by rfl) scLaw.nd rfl rfl (by decide) rfl rfl (pa_cons (StX.pe_makeR MF GF0 hr4 (by rfl) gFirst pass0 (pa_cons pe_str (pa_cons (pe_tup (pa_cons pe_str (pa_cons pe_int pa_nil))) (pa_cons (pe_tup (pa_cons pe_str (pa_cons pe_int pa_nil))) (pa_cons (pe_tup (pa_cons pe_str (pa_cons pe_int pa_nil))) pa_nil))))) (pa_cons (StX.pe_makeR MF GF0 hr4 (by rfl) gFirst pass0 (pa_cons (pe_tup (pa_cons pe_str (pa_cons pe_int pa_nil))) (pa_cons (pe_tup (pa_cons pe_str (pa_cons pe_int pa_nil))) (pa_cons (pe_tup (pa_cons pe_str (pa_cons pe_int pa_nil))) (pa_cons (pe_tup (pa_cons pe_str (pa_cons pe_int pa_nil))) pa_nil))))) pa_nil)) (by rfl))
    (pss_one (ps_ret (pe_and (pe_cmpR (op_eqD hr.units) (pe_prop (pv 11) rcF.cls cPk GPk hr2 bPk .nil pass0 rfl) (pe_tup (pa_cons (pe_tup (pa_cons pe_str (pa_cons pe_int pa_nil))) (pa_cons (pe_tup (pa_cons pe_str (pa_cons pe_int pa_nil))) pa_nil))) (nomark _)) (pe_one (pe_cmpR (op_eqD hr.units) (pe_prop (pv 12) rcF.cls cPk GPk hr2 bPk .nil pass0 rfl) (pe_tup (pa_cons (pe_tup (pa_cons pe_str (pa_cons pe_int pa_nil))) (pa_cons (pe_tup (pa_cons pe_str (pa_cons pe_int pa_nil))) pa_nil))) (nomark _)))))))))), ?_⟩
    have sz := sizeLine_eq
    refine ⟨_, rfl, a, ns, rfl, ha, hl, fun p c H1 hp1 s1 pn1 => ?_⟩
    refine ⟨by show (8 : Nat) ≤ sizeLine; omega, fun M1 hM1 => ?_⟩
    have nM : M1 ≠ p := fun e => pn1.some (e ▸ hM1)
    have pn2 := pn1.same (Same.of_new (o := .lst (menu.map V.str)) hM1)
    have eM2 : upd H1 M1 (.lst (menu.map V.str)) M1 = some (.lst (menu.map V.str)) := upd_same
    refine ⟨10, rfl, by decide, by decide, ?_⟩
    refine for_it walk_range (fun i σ Hx => (∃ x3 x4 x6 x7 x8 x9 x10, σ = [some (.ref a), some (.ref p), some (.ref M1), x3, x4, none, x6, x7, x8, x9, x10, none, none]) ∧ Hx M1 = some (.lst (menu.map V.str)) ∧ ∃ (n : Nat) (z : Int), PenAt Hx p c ns n z ∧ n ≤ 100 * i)
      ⟨⟨_, _, _, _, _, _, _, rfl⟩, eM2, 0, 0, pn2, Nat.le_refl 0⟩ (fun _ _ _ _ _ => True.intro) (fun i x σ Hx Hy hi q0 y => ?_) (fun σ Hx q0 => ?_)
    rotate_left
    · obtain ⟨⟨x3, x4, x6, x7, x8, x9, x10, rfl⟩, _⟩ := q0
      refine ⟨by show (2 : Nat) ≤ sizeLine; omega, fun T1 h1 => ⟨by show (2 : Nat) ≤ sizeLine; omega, fun T2 h2 => ⟨by show (2 : Nat) ≤ sizeLine; omega, fun T3 h3 y dy h4 h5 nd => ?_⟩⟩⟩
      have t1 := Same.of_new (o := .tup [.str "n", .int 3]) h1
      have t2 := Same.of_new (o := .tup [.str "s", .int 2]) h2
      have t3 := Same.of_new (o := .tup [.str "n", .int 1]) h3
      have v1 := (t2.trans t3) T1 _ upd_same
      have v2 := t3 T2 _ upd_same
      have v3 : upd (upd (upd Hx T1 (.tup [.str "n", .int 3])) T2 (.tup [.str "s", .int 2])) T3 (.tup [.str "n", .int 1]) T3 = some (.tup [.str "n", .int 1]) := upd_same
      generalize upd (upd (upd Hx T1 (.tup [.str "n", .int 3])) T2 (.tup [.str "s", .int 2])) T3 (.tup [.str "n", .int 1]) = Hy at v1 v2 v3 h4 h5 ⊢
      have s4 : Same Hy (upd (upd Hy dy (.own y)) y (.ins CF dy [])) := fun b o e => by
        rw [upd_ne (ne_of_none e h4), upd_ne (ne_of_none e h5)]
        exact e
      refine ⟨y, dy, [.str "s", .ref T1, .ref T2, .ref T3], [("s", 0), ("n", 3), ("s", 2), ("n", 1)], rfl, upd_same, ⟨rfl, fun i x p e1 e2 => ?_⟩, by decide, by decide +kernel, fun H4 sb hR => ⟨rfl, ?_⟩⟩
      · match i, e1, e2 with
        | 0, e1, e2 => cases e1; cases e2; exact .inr ⟨rfl, rfl⟩
        | 1, e1, e2 => cases e1; cases e2; exact .inl ⟨T1, rfl, s4 T1 _ v1⟩
        | 2, e1, e2 => cases e1; cases e2; exact .inl ⟨T2, rfl, s4 T2 _ v2⟩
        | 3, e1, e2 => cases e1; cases e2; exact .inl ⟨T3, rfl, s4 T3 _ v3⟩
        | n + 4, e1, e2 => cases e1
      rw [show oneForm [("s", 0), ("n", 3), ("s", 2), ("n", 1)] = ([("s", 0), ("n", 1)] : List Pk) by decide +kernel] at hR
      refine ⟨by show (2 : Nat) ≤ sizeLine; omega, fun T4 g1 => ⟨by show (2 : Nat) ≤ sizeLine; omega, fun T5 g2 => ⟨by show (2 : Nat) ≤ sizeLine; omega, fun T6 g3 => ⟨by show (2 : Nat) ≤ sizeLine; omega, fun T7 g4 y2 dy2 g5 g6 nd2 => ?_⟩⟩⟩⟩
      have r1 := Same.of_new (o := .tup [.str "s", .int 1]) g1
      have r2 := Same.of_new (o := .tup [.str "n", .int 3]) g2
      have r3 := Same.of_new (o := .tup [.str "s", .int 2]) g3
      have r4 := Same.of_new (o := .tup [.str "n", .int 1]) g4
      have w1 := ((r2.trans r3).trans r4) T4 _ upd_same
      have w2 := (r3.trans r4) T5 _ upd_same
      have w3 := r4 T6 _ upd_same
      have hR4 := hR.same (((r1.trans r2).trans r3).trans r4)
      have w4 : upd (upd (upd (upd H4 T4 (.tup [.str "s", .int 1])) T5 (.tup [.str "n", .int 3])) T6 (.tup [.str "s", .int 2])) T7 (.tup [.str "n", .int 1]) T7 = some (.tup [.str "n", .int 1]) := upd_same
      generalize upd (upd (upd (upd H4 T4 (.tup [.str "s", .int 1])) T5 (.tup [.str "n", .int 3])) T6 (.tup [.str "s", .int 2])) T7 (.tup [.str "n", .int 1]) = H5 at w1 w2 w3 w4 hR4 g5 g6 ⊢
      have s5 : Same H5 (upd (upd H5 dy2 (.own y2)) y2 (.ins CF dy2 [])) := fun b o e => by
        rw [upd_ne (ne_of_none e g5), upd_ne (ne_of_none e g6)]
        exact e
      refine ⟨y2, dy2, [.ref T4, .ref T5, .ref T6, .ref T7], [("s", 1), ("n", 3), ("s", 2), ("n", 1)], rfl, upd_same, ⟨rfl, fun i x p e1 e2 => ?_⟩, by decide, by decide +kernel, fun H6 sb2 hR6 => ⟨rfl, ?_⟩⟩
      · match i, e1, e2 with
        | 0, e1, e2 => cases e1; cases e2; exact .inl ⟨T4, rfl, s5 T4 _ w1⟩
        | 1, e1, e2 => cases e1; cases e2; exact .inl ⟨T5, rfl, s5 T5 _ w2⟩
        | 2, e1, e2 => cases e1; cases e2; exact .inl ⟨T6, rfl, s5 T6 _ w3⟩
        | 3, e1, e2 => cases e1; cases e2; exact .inl ⟨T7, rfl, s5 T7 _ w4⟩
        | n + 4, e1, e2 => cases e1
      rw [show oneForm [("s", 1), ("n", 3), ("s", 2), ("n", 1)] = ([("s", 1), ("n", 1)] : List Pk) by decide +kernel] at hR6
      have hRy := hR4.same (made_same g5 g6 sb2)
      refine ⟨_, _, rfl, ?_⟩
      obtain ⟨dx1, fs1, p1, ks1, ea1, lk1, ep1, pk1, _⟩ := hRy
      refine ⟨_, rfl, y, dx1, fs1, rfl, ea1, y, dx1, fs1, .ref p1, rfl, ea1, lk1, ?_⟩
      refine ⟨by show (2 : Nat) ≤ sizeLine; omega, fun A1 a1 => ⟨by show (2 : Nat) ≤ sizeLine; omega, fun A2 a2 => ⟨by show (2 : Nat) ≤ sizeLine; omega, fun A3 a3 => ?_⟩⟩⟩
      have b1 := Same.of_new (o := .tup [.str "s", .int 0]) a1
      have b2 := Same.of_new (o := .tup [.str "n", .int 1]) a2
      have b3 := Same.of_new (o := .tup [.ref A1, .ref A2]) a3
      have bb := (b1.trans b2).trans b3
      refine ⟨.tuple [.tuple [.str "s", .int 0], .tuple [.str "n", .int 1]], .tuple [.tuple [.str "s", .int 0], .tuple [.str "n", .int 1]], .tup (SqT.of (bb p1 _ ep1)) (pk1.same bb).dp, .tup (SqT.of upd_same) (.cons (.tup (SqT.of ((b2.trans b3) A1 _ upd_same)) (.cons (.str _) (.cons (.int _) .nil))) (.cons (.tup (SqT.of (b3 A2 _ upd_same)) (.cons (.str _) (.cons (.int _) .nil))) .nil)), by decide +kernel, by decide +kernel, ?_⟩
      rw [show PyData.eqv (.tuple [.tuple [.str "s", .int 0], .tuple [.str "n", .int 1]]) (.tuple [.tuple [.str "s", .int 0], .tuple [.str "n", .int 1]]) = true by decide +kernel]
      refine ⟨true, rfl, iteT ?_⟩
      have hR7 := hR6.same bb
      obtain ⟨dx2, fs2, p2, ks2, ea2, lk2, ep2, pk2, _⟩ := hR7
      refine ⟨_, rfl, y2, dx2, fs2, rfl, ea2, y2, dx2, fs2, .ref p2, rfl, ea2, lk2, ?_⟩
      refine ⟨by show (2 : Nat) ≤ sizeLine; omega, fun A4 a4 => ⟨by show (2 : Nat) ≤ sizeLine; omega, fun A5 a5 => ⟨by show (2 : Nat) ≤ sizeLine; omega, fun A6 a6 => ?_⟩⟩⟩
      have b4 := Same.of_new (o := .tup [.str "s", .int 1]) a4
      have b5 := Same.of_new (o := .tup [.str "n", .int 1]) a5
      have b6 := Same.of_new (o := .tup [.ref A4, .ref A5]) a6
      have bc := (b4.trans b5).trans b6
      refine ⟨.tuple [.tuple [.str "s", .int 1], .tuple [.str "n", .int 1]], .tuple [.tuple [.str "s", .int 1], .tuple [.str "n", .int 1]], .tup (SqT.of (bc p2 _ ep2)) (pk2.same bc).dp, .tup (SqT.of upd_same) (.cons (.tup (SqT.of ((b5.trans b6) A4 _ upd_same)) (.cons (.str _) (.cons (.int _) .nil))) (.cons (.tup (SqT.of (b6 A5 _ upd_same)) (.cons (.str _) (.cons (.int _) .nil))) .nil)), by decide +kernel, by decide +kernel, ?_⟩
      rw [show PyData.eqv (.tuple [.tuple [.str "s", .int 1], .tuple [.str "n", .int 1]]) (.tuple [.tuple [.str "s", .int 1], .tuple [.str "n", .int 1]]) = true by decide +kernel]
      exact q _
    obtain ⟨⟨x3, x4, x6, x7, x8, x9, x10, rfl⟩, eM, n0, z0, pn0, ln0⟩ := q0
    obtain ⟨rfl, rfl⟩ := y
    have hi5 : i < 10 := hi
    -- the bays
    refine ⟨_, rfl, p, c, ns, n0, z0, 5, rfl, pn0, by omega, by decide, by decide +kernel, fun d n1 z1 H2 d0 d1 hn1 pn3 s2 => ?_⟩
    have eM3 := s2 M1 _ nM eM
    refine ⟨1, d, rfl, rfl, _, rfl, by omega, by omega, fun L hL => ?_⟩
    have nL : L ≠ p := fun e => pn3.some (e ▸ hL)
    have nLc : c ≠ L := ne_of_none pn3.cells hL
    refine lc_it walk_range (fun j Hx => But p H2 Hx ∧ ∃ (n' : Nat) (z' : Int) (bs : List Str), PenAt Hx p c ns n' z' ∧ n' ≤ n1 + j ∧ Hx L = some (.lst (bs.map V.str)) ∧ bs.length = j ∧ ∀ b ∈ bs, b ∈ menu)
      ⟨But.new hL, n1, z1, [], pn3.same (Same.of_new hL), by omega, upd_same, rfl, fun b h => by cases h⟩ (fun _ _ _ _ => True.intro) (fun j x Hx Hz hj q1 y => ?_) (fun H3 q1 => ?_)
    · obtain ⟨sB, n', z', bs, pn, ln, eL, lb, mem⟩ := q1
      obtain ⟨rfl, rfl⟩ := y
      have hj5 : j < 5 := by omega
      refine ⟨rfl, ?_⟩
      refine ⟨_, rfl, _, rfl, p, c, M1, ns, n', z', _, rfl, pn, by omega, nM, SqL.of (sB M1 _ nM eM3), by decide, by decide, fun x1 n2 z2 H4 hx1 hn2 pn4 s4 => ?_⟩
      obtain ⟨bq, hbq, rfl⟩ := List.mem_map.mp hx1
      have eL4 := s4 L _ nL eL
      refine ⟨_, eL4, by rw [List.length_map]; omega, fun b o nb e => ?_, n2, z2, bs ++ [bq], pn4.put (Ne.symm nL) nLc, by omega, ?_, ?_, fun b hb => ?_⟩
      · rw [upd_ne (ne_of_none e hL)]
        exact s4 b o nb (sB b o nb e)
      · rw [List.map_append]
        exact upd_same
      · rw [List.length_append, lb]
        rfl
      · rcases List.mem_append.mp hb with h | h
        · exact mem b h
        · cases List.mem_singleton.mp h
          exact hbq
    obtain ⟨sB, n2, z2, bs, pn4, ln2, eL, lb, bsm⟩ := q1
    have b0 : 0 < bs.length := by omega
    have b5 : bs.length ≤ 5 := by omega
    have eM4 := sB M1 _ nM eM3
    -- the keeps
    refine ⟨_, rfl, by show (1 : Nat) ≤ sizeLine; omega, fun k1 h1 => ⟨by show (2 : Nat) ≤ sizeLine; omega, fun k2 h2 => ⟨by show (4 : Nat) ≤ sizeLine; omega, fun k3 h3 => ⟨by show (3 : Nat) ≤ sizeLine; omega, fun k4 h4 => ⟨by show (5 : Nat) ≤ sizeLine; omega, fun k5 h5 => ⟨by show (5 : Nat) ≤ sizeLine; omega, fun k6 h6 => ?_⟩⟩⟩⟩⟩⟩
    have t1 := Same.of_new (o := .lst [.int 0]) h1
    have t2 := Same.of_new (o := .lst [.int 0, .int 1]) h2
    have t3 := Same.of_new (o := .lst [.int 0, .int 1, .int 2, .int 3]) h3
    have t4 := Same.of_new (o := .lst [.int 9, .int 8, .int 0]) h4
    have t5 := Same.of_new (o := .lst [.int 0, .int 2, .int 5, .int 7, .int 9]) h5
    have t6 := Same.of_new (o := .lst [.ref k1, .ref k2, .ref k3, .ref k4, .ref k5]) h6
    have tt := ((((t1.trans t2).trans t3).trans t4).trans t5).trans t6
    have w1 := ((((t2.trans t3).trans t4).trans t5).trans t6) k1 _ upd_same
    have w2 := (((t3.trans t4).trans t5).trans t6) k2 _ upd_same
    have w3 := ((t4.trans t5).trans t6) k3 _ upd_same
    have w4 := (t5.trans t6) k4 _ upd_same
    have w5 := t6 k5 _ upd_same
    have pn5 := pn4.same tt
    have np : ∀ {Hq : Hp} {k : Addr}, PenAt Hq p c ns n2 z2 → Hq k = none → k ≠ p := fun P h e => P.some (e ▸ h)
    have nk1 := np pn4 h1
    have nk2 := np (pn4.same t1) h2
    have nk3 := np (pn4.same (t1.trans t2)) h3
    have nk4 := np (pn4.same ((t1.trans t2).trans t3)) h4
    have nk5 := np (pn4.same (((t1.trans t2).trans t3).trans t4)) h5
    have nk6 := np (pn4.same ((((t1.trans t2).trans t3).trans t4).trans t5)) h6
    refine ⟨p, c, k6, ns, n2, z2, _, rfl, pn5, by omega, nk6, SqL.of upd_same, by show (0 : Nat) < 5; decide, by show (5 : Nat) < 1000; decide, fun x n3 z3 H5 hx hn3 pn6 s6 => ?_⟩
    obtain ⟨l, ms, rfl, el, m0, m1, mb, nl⟩ : ∃ (l : Addr) (ms : List Int), x = .ref l ∧ H5 l = some (.lst (ms.map V.int)) ∧ 0 < ms.length ∧ ms.length < 1000 ∧ (∀ v ∈ ms, 0 ≤ v ∧ v ≤ 9) ∧ l ≠ p := by
      simp only [List.mem_cons, List.not_mem_nil, or_false] at hx
      rcases hx with rfl | rfl | rfl | rfl | rfl
      · exact ⟨k1, [0], rfl, s6 _ _ nk1 w1, by decide, by decide, by decide, nk1⟩
      · exact ⟨k2, [0, 1], rfl, s6 _ _ nk2 w2, by decide, by decide, by decide, nk2⟩
      · exact ⟨k3, [0, 1, 2, 3], rfl, s6 _ _ nk3 w3, by decide, by decide, by decide, nk3⟩
      · exact ⟨k4, [9, 8, 0], rfl, s6 _ _ nk4 w4, by decide, by decide, by decide, nk4⟩
      · exact ⟨k5, [0, 2, 5, 7, 9], rfl, s6 _ _ nk5 w5, by decide, by decide, by decide, nk5⟩
    have eM5 := s6 M1 _ nM (tt M1 _ eM4)
    have eL5 := s6 L _ nL (tt L _ eL)
    clear w1 w2 w3 w4 w5 nk1 nk2 nk3 nk4 nk5 nk6 t1 t2 t3 t4 t5 t6 h1 h2 h3 h4 h5 h6 pn5
    -- the picks
    refine ⟨_, rfl, _, rfl, _, rfl, p, c, L, l, ns, n3, z3, bs, ms, 12, rfl, by decide, pn6, by omega, nL, nl, SqL.of eL5, b0, by omega, SqL.of el, m0, m1, fun r1 ks ps n4 z4 H6 nr er pk lp mem hn4 pn7 s7 => ?_⟩
    have hmem : ∀ q ∈ ps, q.1 ∈ menu ∧ 0 ≤ q.2 ∧ q.2 ≤ 9 := fun q hq => ⟨bsm _ (mem q hq).1, mb _ (mem q hq).2⟩
    have good : ∀ q ∈ ps, Good q := fun q hq => by
      have h1 := menu_ok q.1 (hmem q hq).1
      exact ⟨h1.1.1, h1.1.2, (hmem q hq).2⟩
    have small : ∀ q ∈ ps, PkS q := fun q hq => by
      have h1 := menu_ok q.1 (hmem q hq).1
      exact ⟨h1.2.1, h1.2.2.1, h1.2.2.2, (hmem q hq).2⟩
    have okB : ∀ z ∈ bs, PyData.strOk z = true := fun z hz => (menu_ok z (bsm z hz)).2.1
    have eM6 := s7 M1 _ nM eM5
    have eL6 := s7 L _ nL eL5
    refine ⟨_, rfl, _, rfl, p, c, r1, ns, n4, z4, ks, ps, rfl, pn7, by omega, nr, SqL.of er, pk, lp, fun r2 xs n5 z5 H7 nr2 hr2 e2 vx hn5 pn8 s8 => ?_⟩
    have eM7 := s8 M1 _ nM eM6
    have eL7 := s8 L _ nL eL6
    have er7 := s8 r1 _ nr er
    have pk7 := pk.but pn7 s8
    have nL2 : L ≠ r2 := ne_of_none eL6 hr2
    have nM2 : M1 ≠ r2 := ne_of_none eM6 hr2
    have n12 : r1 ≠ r2 := ne_of_none er hr2
    refine ⟨_, rfl, r1, ks, ps, rfl, SqL.of er7, pk7, by omega, fun r3 H8 ks' hq3 s9 e3 pk8 => ?_⟩
    have n32 : r3 ≠ r2 := fun e => by
      rw [e, e2] at hq3
      cases hq3
    have n3p : r3 ≠ p := fun e => pn8.some (e ▸ hq3)
    refine ⟨_, _, rfl, ?_⟩
    have e8 := s9 r2 _ e2
    have vx8 := vx.same s9
    refine ⟨rfl, _, rfl, r2, xs, ps, rfl, .inr (SqL.of e8), vx8, lp, good, fun m H9 hm s10 hR => ?_⟩
    have s79 := s9.trans s10
    have okF : ∀ q ∈ oneForm ps, PkS q := fun q hq => small q (mem_form hq)
    have lF : (oneForm ps).length ≤ 12 := Nat.le_trans (form_len ps) lp
    refine ⟨_, rfl, _, rfl, _, rfl, m, r3, L, ks', oneForm ps, bs, rfl, hR, s10 r3 _ e3, pk8.same s10, lF, form_desc ps, okF, s79 L _ eL7, by omega, okB, fun H10 s11 => ?_⟩
    refine ⟨_, rfl, iteF ?_⟩
    have s710 := s79.trans s11
    have vx10 := vx.same s710
    have e10 := s710 r2 _ e2
    have eL10 := s710 L _ eL7
    have e310 := (s10.trans s11) r3 _ e3
    have pk10 := pk8.same (s10.trans s11)
    have er10 := s710 r1 _ er7
    have pkk10 := pk7.same s710
    have hR10 := hR.same s11
    -- off a tuple
    refine ⟨rfl, _, rfl, r2, _, rfl, .inl ⟨SqL.of e10, fun T hT => ?_⟩⟩
    have u1 := Same.of_new (o := .tup xs) hT
    refine ⟨T, xs, ps, rfl, .inl (SqT.of upd_same), vx10.same u1, lp, good, fun m2 H11 hm2 s12 hR2 => ?_⟩
    have s13 := u1.trans s12
    refine ⟨_, rfl, _, rfl, m2, r3, L, ks', oneForm ps, bs, rfl, hR2, s13 r3 _ e310, pk10.same s13, lF, form_desc ps, okF, s13 L _ eL10, by omega, okB, fun H12 s14 => ?_⟩
    refine ⟨_, rfl, iteF ?_⟩
    have s15 := s13.trans s14
    -- by written arguments
    refine ⟨_, rfl, 3, rfl, r2, xs, rfl, SqL.of (s15 r2 _ e10), ?_⟩
    rw [cut_3]
    intro c1 hc1
    have u2 := Same.of_new (o := .lst (xs.take 3)) hc1
    have l3 : (ps.take 3).length ≤ 3 := by rw [List.length_take]; omega
    have good3 : ∀ q ∈ ps.take 3, Good q := fun q hq => good q (List.mem_of_mem_take hq)
    have okF3 : ∀ q ∈ oneForm (ps.take 3), PkS q := fun q hq => small q (List.mem_of_mem_take (mem_form hq))
    refine ⟨c1, xs.take 3, ps.take 3, rfl, SqL.of upd_same, ((vx10.same s15).same u2).take 3, l3, good3, fun m3 H13 hm3 s16 hR3 => ?_⟩
    have s17 := (s15.trans u2).trans s16
    refine ⟨_, rfl, 3, rfl, r1, _, rfl, SqL.of (s17 r1 _ er10), ?_⟩
    rw [cut_3, ← List.map_take]
    intro c2 hc2
    have u3 := Same.of_new (o := .lst ((ks.take 3).map V.ref)) hc2
    refine ⟨c2, ks.take 3, ps.take 3, rfl, SqL.of upd_same, ((pkk10.same s17).same u3).take 3, by omega, fun r4 H14 kt hr4 s18 e4 pkt => ?_⟩
    have s19 := (s17.trans u3).trans s18
    refine ⟨_, rfl, m3, r4, L, kt, oneForm (ps.take 3), bs, rfl, hR3.same (u3.trans s18), e4, pkt, Nat.le_trans (form_len _) (by omega), form_desc _, okF3, s19 L _ eL10, by omega, okB, fun H15 s20 => ?_⟩
    refine ⟨_, rfl, ?_⟩
    have s21 := s19.trans s20
    -- the list is changed later
    have e15 := s21 r2 _ e10
    have lxs : xs.length ≤ 12 := by rw [vx.len]; exact lp
    refine ⟨_, rfl, .inl ⟨rfl, _, SqL.of e15⟩, ?_⟩
    refine ⟨r2, xs, _, rfl, rfl, e15, by omega, ?_⟩
    have e16 : upd H15 r2 (.lst (xs ++ [V.str "x"])) r2 = some (.lst (xs ++ [V.str "x"])) := upd_same
    have hR16 : RuleAt CF (upd H15 r2 (.lst (xs ++ [V.str "x"]))) m (oneForm ps) := (hR10.same s21).lput e15
    have e316 : upd H15 r2 (.lst (xs ++ [V.str "x"])) r3 = some (.lst (ks'.map V.ref)) := by
      rw [upd_ne n32]
      exact s21 r3 _ e310
    have eL16 : upd H15 r2 (.lst (xs ++ [V.str "x"])) L = some (.lst (bs.map V.str)) := by
      rw [upd_ne nL2]
      exact s21 L _ eL10
    have eM16 : upd H15 r2 (.lst (xs ++ [V.str "x"])) M1 = some (.lst (menu.map V.str)) := by
      rw [upd_ne nM2]
      exact (s710.trans s21) M1 _ eM7
    have pk16 : PicksAt (upd H15 r2 (.lst (xs ++ [V.str "x"]))) ks' (oneForm ps) := (pk10.same s21).upd fun ys e => by
      rw [e15] at e
      cases e
    have np2 : p ≠ r2 := Ne.symm nr2
    have nc2 : c ≠ r2 := ne_of_none pn7.cells hr2
    have pn16 : PenAt (upd H15 r2 (.lst (xs ++ [V.str "x"]))) p c ns n5 z5 := ((pn8.same s710).same s21).put np2 nc2
    generalize upd H15 r2 (.lst (xs ++ [V.str "x"])) = H16 at e16 hR16 e316 eL16 eM16 pk16 pn16 ⊢
    refine ⟨by show (2 : Nat) ≤ sizeLine; omega, fun T2 hT2 => ?_⟩
    have u4 := Same.of_new (o := .tup [.str "y", .int 3]) hT2
    have e17 := u4 r2 _ e16
    refine ⟨_, rfl, r2, _, 0, 0, rfl, rfl, e17, ix_zero (by rw [List.length_append]; show 0 < xs.length + 1; omega), ?_⟩
    have hR17 := (hR16.same u4).lput (o := .lst ((xs ++ [V.str "x"]).set 0 (V.ref T2))) e17
    have pk17 : PicksAt (upd (upd H16 T2 (.tup [.str "y", .int 3])) r2 (.lst ((xs ++ [V.str "x"]).set 0 (V.ref T2)))) ks' (oneForm ps) := (pk16.same u4).upd fun ys e => by
      rw [e17] at e
      cases e
    have e317 : upd (upd H16 T2 (.tup [.str "y", .int 3])) r2 (.lst ((xs ++ [V.str "x"]).set 0 (V.ref T2))) r3 = some (.lst (ks'.map V.ref)) := by
      rw [upd_ne n32]
      exact u4 r3 _ e316
    have eL17 : upd (upd H16 T2 (.tup [.str "y", .int 3])) r2 (.lst ((xs ++ [V.str "x"]).set 0 (V.ref T2))) L = some (.lst (bs.map V.str)) := by
      rw [upd_ne nL2]
      exact u4 L _ eL16
    have eM17 : upd (upd H16 T2 (.tup [.str "y", .int 3])) r2 (.lst ((xs ++ [V.str "x"]).set 0 (V.ref T2))) M1 = some (.lst (menu.map V.str)) := by
      rw [upd_ne nM2]
      exact u4 M1 _ eM16
    have pn17 : PenAt (upd (upd H16 T2 (.tup [.str "y", .int 3])) r2 (.lst ((xs ++ [V.str "x"]).set 0 (V.ref T2)))) p c ns n5 z5 := (pn16.same u4).put np2 nc2
    refine ⟨_, rfl, _, rfl, _, rfl, m, r3, L, ks', oneForm ps, bs, rfl, hR17, e317, pk17, lF, form_desc ps, okF, eL17, by omega, okB, fun H18 s22 => ?_⟩
    refine ⟨_, rfl, ?_⟩
    exact ⟨⟨_, _, _, _, _, _, _, rfl⟩, s22 M1 _ eM17, n5, z5, pn17.same s22, by omega⟩
end
end K10
end
section
/-! What the end of the top says of named classes, of the records in them and of their defs. Own. -/
namespace OwH
open PySem PySem.Spec PyProof.Rows L2
/-- the def within a record (a class method, a static one, a property) -/
def inRec (K : PySem.W.Frag) (p : Addr) (kind : String) : Addr := match PySem.W.recIn K p kind with
  | some (.ref g :: _) => g
  | _ => 0
def recOk (K : PySem.W.Frag) (p : Addr) (kind : String) : Bool := match PySem.W.recIn K p kind with
  | some (.ref _ :: _) => true
  | _ => false
theorem recOk_ok {K : PySem.W.Frag} {p : Addr} {kind : String} (h : recOk K p kind = true) : ∃ rest, PySem.W.recIn K p kind = some (.ref (inRec K p kind) :: rest) := by
  unfold recOk at h
  unfold inRec
  cases e : PySem.W.recIn K p kind with
  | none =>
    rw [e] at h
    cases h
  | some l =>
    rw [e] at h
    match l, h with
    | .ref g :: r, _ => exact ⟨r, rfl⟩
def getB (x : Option PySem.W.CFound) (id : String) (p C : Addr) : Bool := match x with
  | some (.get (.builtin i) (.ref q) .none (.ref D)) => decide (i = id) && (decide (q = p) && decide (D = C))
  | _ => false
theorem getB_ok {x : Option PySem.W.CFound} {id : String} {p C : Addr} (h : getB x id p C = true) : x = some (.get (.builtin id) (.ref p) .none (.ref C)) := by
  unfold getB at h
  split at h
  · obtain ⟨h1, h2⟩ := Bool.and_eq_true_iff.mp h
    obtain ⟨h3, h4⟩ := Bool.and_eq_true_iff.mp h2
    rw [of_decide_eq_true h1, of_decide_eq_true h3, of_decide_eq_true h4]
  · cases h
def valB (x : Option PySem.W.CFound) (g : Addr) : Bool := match x with
  | some (.val (.ref q)) => decide (q = g)
  | _ => false
theorem valB_ok {x : Option PySem.W.CFound} {g : Addr} (h : valB x g = true) : x = some (.val (.ref g)) := by
  unfold valB at h
  split at h
  · rw [of_decide_eq_true h]
  · cases h
abbrev ga := He.ga
/-- what the class named x holds under m -/
def mo (K : PySem.W.Frag) (x m : Str) : Addr := He.ma K (ga K x) m
def fRead (x : Str) (K : PySem.W.Frag) : Bool := PySem.W.readsIn K (ga K x) (.type "type") && He.eqO (PySem.W.specialIn K (.ref (ga K x)) "__getattribute__") (some (some (.builtin "type.__getattribute__")))
def fCMet (x m : Str) (K : PySem.W.Frag) : Bool := getB (PySem.W.findCls K (.ref (ga K x)) (.type "type") m) "classmethod.__get__" (mo K x m) (ga K x) && (recOk K (mo K x m) "classmethod" && PySem.W.fnIn K (inRec K (mo K x m) "classmethod"))
def fCSta (x m : Str) (K : PySem.W.Frag) : Bool := getB (PySem.W.findCls K (.ref (ga K x)) (.type "type") m) "staticmethod.__get__" (mo K x m) (ga K x) && (recOk K (mo K x m) "staticmethod" && PySem.W.keepIn K (.ref (inRec K (mo K x m) "staticmethod")))
def fCFun (x m : Str) (K : PySem.W.Frag) : Bool := valB (PySem.W.findCls K (.ref (ga K x)) (.type "type") m) (mo K x m) && PySem.W.keepIn K (.ref (mo K x m))
def fSpc (x m : Str) (K : PySem.W.Frag) : Bool := He.eqO (PySem.W.findIn K (.ref (ga K x)) m) (some (some (.ref (mo K x m)))) && (PySem.W.isFn K (.ref (mo K x m)) && PySem.W.fnIn K (mo K x m))
def fProp (x m : Str) (K : PySem.W.Frag) : Bool := He.eqO (PySem.W.findIn K (.ref (ga K x)) m) (some (some (.ref (mo K x m)))) && (He.eqO (PySem.W.specialIn K (.ref (mo K x m)) "__get__") (some (some (.builtin "property.__get__"))) && (decide (PySem.W.takesIn K (.ref (mo K x m)) = some true) && recOk K (mo K x m) "property"))
section
variable {K : PySem.W.Frag} {x m : Str}
theorem two {a b : Bool} (h : (a && b) = true) : a = true ∧ b = true := Bool.and_eq_true_iff.mp h
theorem read_ok (h : fRead x K = true) : ClX.CRead K (ga K x) (.type "type") := ⟨(two h).1, He.eqO_ok (two h).2⟩
theorem cmet_ok (h : fCMet x m K = true) : ClX.CMet K (ga K x) (.type "type") m (mo K x m) (inRec K (mo K x m) "classmethod") := ⟨getB_ok (two h).1, recOk_ok (two (two h).2).1, (two (two h).2).2⟩
theorem csta_ok (h : fCSta x m K = true) : OwR.CSta K (ga K x) (.type "type") m (mo K x m) (inRec K (mo K x m) "staticmethod") := ⟨getB_ok (two h).1, recOk_ok (two (two h).2).1, (two (two h).2).2⟩
theorem cfun_ok (h : fCFun x m K = true) : OwR.CFun K (ga K x) (.type "type") m (mo K x m) := ⟨valB_ok (two h).1, (two h).2⟩
theorem spc_ok (h : fSpc x m K = true) : OwR.Spc K (ga K x) (mo K x m) m := ⟨He.eqO_ok (two h).1, (two (two h).2).1, (two (two h).2).2⟩
theorem callo_ok (h : fSpc x "__call__" K = true) : StX.CallO K (ga K x) (mo K x "__call__") := ⟨He.eqO_ok (two h).1, (two (two h).2).1, (two (two h).2).2⟩
theorem prop_ok (h : fProp x m K = true) : PropOf K (ga K x) m (mo K x m) (inRec K (mo K x m) "property") := ⟨He.eqO_ok (two h).1, He.eqO_ok (two (two h).2).1, of_decide_eq_true (two (two (two h).2).2).1, recOk_ok (two (two (two h).2).2).2⟩
end
/-! ### defs -/
structure DX where
  adr : PySem.W.Frag → Addr
  name : Str
  qual : Str
  st : Stmt
abbrev FX : Type := Option (Str × Str × Arguments × FuncBody × Scope × Addr × List (Str × Addr) × Value × Addr)
def seeF (K : PySem.W.Frag) (a : Addr) : FX := match K.lookup a with
  | some ⟨_, _, .func fd, _⟩ => some (fd.name, fd.qualname, fd.params, fd.body, fd.scope, fd.globals, fd.closure, fd.defaults, fd.builtins)
  | _ => none
def codB (K : PySem.W.Frag) (a : Addr) (qual : Str) : Bool := PySem.W.keepIn K (.ref a) && (match K.lookup a with
  | some ⟨_, _, .func fd, _⟩ => PySem.W.codeIn K fd.code qual
  | _ => false)
def DX.val (d : DX) : FX := some (d.name, d.qual, defArgs d.st, .stmts (defBody d.st), defScope d.st, mainGlobals, [], .none, builtinsNs)
theorem DX.fun_ {K : PySem.W.Frag} {d : DX} (h1 : seeF K (d.adr K) = d.val) (h2 : codB K (d.adr K) d.qual = true) : ∃ fd, Fun K d.name d.qual d.st (d.adr K) fd := by
  obtain ⟨kp, cd⟩ := two h2
  unfold seeF at h1
  cases l : K.lookup (d.adr K) with
  | none =>
    rw [l] at cd
    cases cd
  | some ob =>
    obtain ⟨oc, od, dt, osl⟩ := ob
    rw [l] at h1 cd
    match dt, h1, cd with
    | .func f, h1, cd =>
      obtain ⟨a1, a2, a3, a4, a5, a6, a7, a8, a9, a10, a11, a12, a13, a14, a15⟩ := f
      have e : (some (a1, a2, a3, a4, a5, a6, a7, a8, a15) : FX) = some (d.name, d.qual, defArgs d.st, .stmts (defBody d.st), defScope d.st, mainGlobals, [], .none, builtinsNs) := h1
      injection e with e
      injection e with e1 e
      injection e with e2 e
      injection e with e3 e
      injection e with e4 e
      injection e with e5 e
      injection e with e6 e
      injection e with e7 e
      injection e with e8 e9
      subst e1 e2 e3 e4 e5 e6 e7 e8 e9
      exact ⟨_, ⟨⟨oc, od, a9, a10, a11, a12, a13, a14, osl, rfl, l, cd⟩, kp⟩⟩
/-! ### the hook -/
abbrev AX : Type := Bool × List FX
def seeX (fa : List (PySem.W.Frag → Bool)) (fn : List DX) (K : PySem.W.Frag) : AX := ((fa.all fun f => f K) && fn.all fun d => codB K (d.adr K) d.qual, fn.map fun d => seeF K (d.adr K))
def wantX (fn : List DX) : AX := (true, fn.map DX.val)
def placesX (xs : List Str) (g : Addr → Option Obj) : Nat → List Addr
  | 0 => (xs.map (ga (He.frG g [mainGlobals])))
  | n + 1 => He.growD g (placesX xs g n)
def partX (xs : List Str) (g : Addr → Option Obj) : PySem.W.Frag := He.frG g (mainGlobals :: PySem.cStatics :: placesX xs g 4)
def hookX (xs : List Str) (fa : List (PySem.W.Frag → Bool)) (fn : List DX) : PySem.W.Hook where
  α := AX
  obs := fun s => seeX fa fn (partX xs s.heap.get?)
  val := fun _ => wantX fn
  says := fun _ h => ∃ K : PySem.W.Frag, K.In h ∧ seeX fa fn K = wantX fn
  of := fun _ _ e => ⟨partX xs _, He.frG_in, e⟩
  keeps := fun _ _ _ p k => match p with
    | ⟨K, hK, c⟩ => ⟨K, PySem.W.Frag.In.keeps hK k, c⟩
theorem seeX_eq {xs : List Str} {fa : List (PySem.W.Frag → Bool)} {fn : List DX} {g : Addr → Option Obj} {s : Shared} (h : ∀ a, g a = s.heap.get? a) : seeX fa fn (partX xs g) = (hookX xs fa fn).obs s := by
  have e : g = s.heap.get? := funext h
  subst e
  rfl
section
variable {fa : List (PySem.W.Frag → Bool)} {fn : List DX} {K : PySem.W.Frag}
theorem fact (c : seeX fa fn K = wantX fn) (i : Nat) {f : PySem.W.Frag → Bool} (h : fa[i]? = some f := by rfl) : f K = true :=
  List.all_eq_true.mp (two (congrArg Prod.fst c)).1 f (List.mem_of_getElem? h)
theorem def_ (c : seeX fa fn K = wantX fn) (i : Nat) {d : DX} (h : fn[i]? = some d := by rfl) : ∃ fd, Fun K d.name d.qual d.st (d.adr K) fd := by
  have h2 : codB K (d.adr K) d.qual = true := List.all_eq_true.mp (two (congrArg Prod.fst c)).2 d (List.mem_of_getElem? h)
  have h3 : (fn.map fun d => seeF K (d.adr K))[i]? = (fn.map DX.val)[i]? := congrArg (fun z : AX => z.2[i]?) c
  rw [List.getElem?_map, List.getElem?_map, h] at h3
  exact DX.fun_ (Option.some.inj h3) h2
end
end OwH
end
section
namespace OwR
open PySem PySem.Spec PyProof.Rows L2
/-- the script's own place: followed where the written part does not hold it -/
def scrH (K : PySem.W.Frag) (a : Addr) (ob : Obj) (xs : List V) : Hp := fun b => if b = a ∧ K.lookup a = none then some (.frz ob (.lst xs)) else none
theorem scrH_cases (K : PySem.W.Frag) (a : Addr) (ob : Obj) (xs : List V) (b : Addr) : scrH K a ob xs b = none ∨ (b = a ∧ K.lookup a = none ∧ scrH K a ob xs b = some (.frz ob (.lst xs))) := by
  unfold scrH
  by_cases c : b = a ∧ K.lookup a = none
  · exact .inr ⟨c.1, c.2, if_pos c⟩
  · exact .inl (if_neg c)
/-- a law by a promise that wants no guard about it -/
theorem law_callG {P : Program} {w : World} {K : PySem.W.Frag} {mg mb : Str → Option Value} {k : Nat} {fn a : Addr} {fd : FuncData} {x : Str} {sp : Sp} {t : Shared} {us : List Value} {zs : List Int} (hK : K.In t.heap) (hG : t.heap.Ns mainGlobals mg)
    (hB : t.heap.Ns builtinsNs mb) (hBB : ∀ y : Str, y ≠ "__name__" → mb y = bootBuiltins y) (hL : t.heap.NoLimit) (hN : t.gens = #[]) (hO : t.heap.get? a = some ({ cls := .type "list", data := .seq us.toArray } : Obj)) (hI : IntsAre us zs)
    (hz : zs.length ≤ sizeLine) (hr : Room k callerA) (F : ∀ base : Heap, K.In base → base.Ns mainGlobals mg → FnG P w K mg base CX0 k fn fd [x] sp) (hb : ∀ (s : Shared) (u : Value), BindsTo s fd ⟨[u], []⟩ [(x, u)])
    (hS : ∀ G : Hp, SqL K G a (zs.map V.int) → sp [.ref a] G (fun v _ => v = .bl true) fun _ _ _ => False) :
    codeAny (model P w) callerA (.call (.ref fn) ⟨[.ref a], []⟩) (fun r s' => r = .ok (.ret (.bool true)) ∧ OldK t.heap s'.heap ∧ s'.os = t.os ∧ AllBare s'.gens) t := by
  have rel := vals_ints hI
  have le := hI.length
  obtain ⟨G, eG⟩ : ∃ G, G = scrH K a ({ cls := .type "list", data := .seq us.toArray } : Obj) (zs.map V.int) := ⟨_, rfl⟩
  have cs : ∀ b, G b = none ∨ (b = a ∧ K.lookup a = none ∧ G b = some (.frz { cls := .type "list", data := .seq us.toArray } (.lst (zs.map V.int)))) := fun b => by
    rw [eG]
    exact scrH_cases K a _ _ b
  have sq : SqL K G a (zs.map V.int) := by
    cases l : K.lookup a with
    | some ob =>
      have e := (hK a ob l).symm.trans hO
      cases e
      exact .inr ⟨_, us.toArray, _, l, rfl, rfl, rfl, by rw [List.size_toArray, le]; exact hz, by simpa using rel⟩
    | none =>
      refine .inl (.inr ⟨({ cls := .type "list", data := .seq us.toArray } : Obj), ?_⟩)
      rw [eG]
      exact if_pos ⟨rfl, l⟩
  have gone : ∀ {b : Addr} {ob : Obj}, t.heap.get? b = some ob → (∀ vs n, ob.data ≠ .seq vs n) → G b = none := fun {b ob} e nd => by
    rcases cs b with c | ⟨rfl, _, _⟩
    · exact c
    · rw [hO] at e
      cases e
      exact absurd rfl (nd us.toArray 0)
  have nsp : ∀ {b : Addr} {m : Str → Option Value}, t.heap.Ns b m → (hidT t.heap G).Ns b m := fun {b m} h => by
    obtain ⟨ob, es, ep, e1, e2, e3⟩ := h
    exact ⟨ob, es, ep, hidT_get e1 (gone e1 fun vs n q => by rw [e2] at q; cases q), e2, e3⟩
  have kin : K.In (hidT t.heap G) := fun b ob l => hidT_get (hK b ob l) (by
    rcases cs b with c | ⟨rfl, c, _⟩
    · exact c
    · rw [c] at l
      cases l)
  have lim : (hidT t.heap G).NoLimit := by
    obtain ⟨mc, h1, h2⟩ := hL
    exact ⟨mc, nsp h1, h2⟩
  have ok : HOk P w G t.heap := fun b u e => by
    rcases cs b with c | ⟨rfl, _, c⟩
    · rw [c] at e
      cases e
    · rw [c] at e
      cases e
      exact ⟨hO, by rw [List.length_map]; exact hz, us, _, rel, hO⟩
  have env : Env0 P w K mg (hidT t.heap G) callerA [] t G := { frames := rfl, mod := ⟨kin, nsp hG, ⟨mb, nsp hB, hBB⟩, lim⟩, bs := fun _ _ e => of_hidT e, bsz := Nat.le_of_eq (hidT_size _ _), funs := True.intro, frf := fun _ h => absurd h List.not_mem_nil, hok := ok, bare := .of_eq hN }
  have run := F (hidT t.heap G) kin (nsp hG) callerA [] t G ⟨[.ref a], []⟩ [.ref a] [.ref a] _ _ rfl hr env (hb t (.ref a)) (.cons rfl .nil) (hS G sq)
  refine codeAny_mono run fun r s' h => ?_
  match r, h with
  | .error _, h => exact h.elim
  | .ok (.ret u), h =>
    obtain ⟨v, G', os, br, un, ok', rv, qv⟩ := h
    have ev : v = .bl true := qv
    subst ev
    obtain rfl : u = Value.bool true := rv
    refine ⟨rfl, .of_keep fun b ob e => ?_, os, br⟩
    rcases cs b with c | ⟨rfl, _, c⟩
    · exact un.keep b ob e c List.not_mem_nil List.not_mem_nil
    · have e2 := (ok' b _ (un.frzs b _ _ c)).1
      rw [hO] at e
      cases e
      exact e2
/-- .. as the end of a law over a head by facts -/
theorem walk_ofG {l : PySem.W.OpenLaw} {n k : Nat} {q : Program} {loose : List Str} {XP : (Str → Option Value) → Heap → Prop} {YP : World → Heap → Prop} {d : DefRec} {x : Str} (most : l.most = some n) (small : n ≤ sizeLine) (nodf : d.params.defaults = []) (room : Room k callerA)
    (F : ∀ (w : World) (mg : Str → Option Value) (fn : Addr) (h : Heap), YP w h → h.Ns mainGlobals mg → mg d.name = some (.ref fn) → ∃ (K : PySem.W.Frag) (fd : FuncData) (sp : Sp), K.In h ∧ (∀ (s : Shared) (u : Value), BindsTo s fd ⟨[u], []⟩ [(x, u)]) ∧
      (∀ (G : Hp) (a : Addr) (zs : List Int), zs.length ≤ n → SqL K G a (zs.map V.int) → sp [.ref a] G (fun v _ => v = .bl true) fun _ _ _ => False) ∧ ∀ base : Heap, K.In base → base.Ns mainGlobals mg → FnG l.prog w K mg base CX0 k fn fd [x] sp) :
    PySem.W.WalkO q loose XP YP l.row.toRowW d [] (fun f vs => PySem.call f vs) := by
  refine Att.attach_call most nodf fun w s0 t mg mb fn o pm cd doc a us zs G Y _ _ _ hmg hO hI hz hN => ?_
  obtain ⟨K, fd, sp, hK, hb, hS, hF⟩ := F w mg fn _ Y G.T.g hmg
  exact law_callG hK G.T.g G.T.b G.T.builtins G.T.nolimit hN hO hI (Nat.le_trans hz small) room hF hb fun G' sq => hS G' a zs hz sq
end OwR
end
section
namespace K10
open PySem PySem.Spec PyProof.Rows L2
def hasF (K : PySem.W.Frag) (C : Value) (m : Str) (f : Addr) : Bool := He.eqO (PySem.W.findIn K C m) (some (some (.ref f))) && PySem.W.isFn K (.ref f)
theorem hasF_ok {K : PySem.W.Frag} {C : Value} {m : Str} {f : Addr} (h : hasF K C m f = true) : PySem.W.findIn K C m = some (some (.ref f)) ∧ PySem.W.isFn K (.ref f) = true := ⟨He.eqO_ok (OwH.two h).1, (OwH.two h).2⟩
def fRc (x : Str) (K : PySem.W.Frag) : Bool := (He.Fa.cls x).ok K && ((He.Fa.noat x "_picks").ok K && ((He.Fa.noat x "_keeps").ok K && (He.Fa.noat x "_bays").ok K))
def fObj (K : PySem.W.Frag) (C R : Addr) : Bool := He.eqO (PySem.W.findIn K (.ref C) "__class__") (some (some (.builtin "object.__class__"))) && (He.eqO (PySem.W.specialIn K (.builtin "object.__class__") "__get__") (some (some (.builtin "getset_descriptor.__get__"))) &&
  (decide (PySem.W.takesIn K (.builtin "object.__class__") = some true) && (decide (PySem.W.mroIn K C (.type "object") = some true) && decide (PySem.W.kitOne K (.ref C) (.ref R) = some true))))
def fFirst (K : PySem.W.Frag) : Bool := fRc "First" K && (fObj K (OwH.ga K "First") (OwH.ga K "Rule") && (decide (PySem.W.kitOne K (.ref (OwH.ga K "First")) (.ref (OwH.ga K "First")) = some true) && (decide (PySem.W.kitOne K (.ref (OwH.ga K "First")) (.type "str") = some false) &&
  (decide (PySem.W.kitOne K (.type "str") (.ref (OwH.ga K "Rule")) = some false) && (hasF K (.ref (OwH.ga K "First")) "__iter__" (OwH.mo K "First" "__iter__") && (hasF K (.ref (OwH.ga K "First")) "__len__" (OwH.mo K "First" "__len__") &&
  (hasF K (.ref (OwH.ga K "First")) "__contains__" (OwH.mo K "First" "__contains__") && (hasF K (.ref (OwH.ga K "First")) "__eq__" (OwH.mo K "First" "__eq__") && decide (PySem.W.subIn K (.ref (OwH.ga K "First")) (.type "str") = some false)))))))))
theorem fFirst_ok {K : PySem.W.Frag} (h : fFirst K = true) : FirstC K (OwH.ga K "Rule") (OwH.mo K "First" "__iter__") (OwH.mo K "First" "__len__") (OwH.mo K "First" "__contains__") (OwH.mo K "First" "__eq__") (OwH.ga K "First") := by
  obtain ⟨a1, h⟩ := OwH.two h
  obtain ⟨a2, h⟩ := OwH.two h
  obtain ⟨a3, h⟩ := OwH.two h
  obtain ⟨a4, h⟩ := OwH.two h
  obtain ⟨a5, h⟩ := OwH.two h
  obtain ⟨a6, h⟩ := OwH.two h
  obtain ⟨a7, h⟩ := OwH.two h
  obtain ⟨a8, h⟩ := OwH.two h
  obtain ⟨a9, b1⟩ := OwH.two h
  obtain ⟨c1, c2⟩ := OwH.two a1
  obtain ⟨c2, c3⟩ := OwH.two c2
  obtain ⟨c3, c4⟩ := OwH.two c3
  obtain ⟨d1, d2⟩ := OwH.two a2
  obtain ⟨d2, d3⟩ := OwH.two d2
  obtain ⟨d3, d4⟩ := OwH.two d3
  obtain ⟨d4, d5⟩ := OwH.two d4
  have rc : RuleC K (OwH.ga K "First") := ⟨He.cls_ok c1, He.noat_ok c2, He.noat_ok c3, He.noat_ok c4⟩
  exact ⟨rc, He.eqO_ok d1, He.eqO_ok d2, of_decide_eq_true d3, of_decide_eq_true d4, of_decide_eq_true d5, of_decide_eq_true a3, of_decide_eq_true a4, of_decide_eq_true a5,
    ⟨rc.cls, rc.n1, (hasF_ok a6).1, (hasF_ok a6).2⟩, ⟨(hasF_ok a7).1, (hasF_ok a7).2⟩, ⟨(hasF_ok a8).1, (hasF_ok a8).2⟩, ⟨of_decide_eq_true b1, (hasF_ok a9).1, (hasF_ok a9).2⟩⟩
def theDefs : List OwH.DX :=
  [⟨fun K => OwH.ga K "is_name", "is_name", "is_name", sName⟩,
   ⟨fun K => OwH.ga K "is_within", "is_within", "is_within", sWithin⟩,
   ⟨fun K => OwH.ga K "ascending", "ascending", "ascending", sAsc⟩,
   ⟨fun K => OwH.ga K "is_pick", "is_pick", "is_pick", sIsPick⟩,
   ⟨fun K => OwH.ga K "one_form", "one_form", "one_form", sForm⟩,
   ⟨fun K => OwH.ga K "_law_pen", "_law_pen", "_law_pen", sPen⟩,
   ⟨fun K => OwH.ga K "_law_draw", "_law_draw", "_law_draw", sDraw⟩,
   ⟨fun K => OwH.ga K "_law_pick", "_law_pick", "_law_pick", sPick⟩,
   ⟨fun K => OwH.ga K "_law_row", "_law_row", "_law_row", sRow⟩,
   ⟨fun K => OwH.ga K "_law_form", "_law_form", "_law_form", sLForm⟩,
   ⟨fun K => OwH.ga K "_law_values", "_law_values", "_law_values", sVals⟩,
   ⟨fun K => OwH.ga K "_law_called", "_law_called", "_law_called", sCalled⟩,
   ⟨fun K => OwH.ga K "_law_right", "_law_right", "_law_right", sRight⟩,
   ⟨fun K => OwH.ga K "law", "law", "law", sLaw⟩,
   ⟨fun K => OwH.mo K "Rule" "__init__", "__init__", "Rule.__init__", sRule0⟩,
   ⟨fun K => OwH.mo K "First" "__init__", "__init__", "First.__init__", sFirst0⟩,
   ⟨fun K => OwH.inRec K (OwH.mo K "First" "of") "classmethod", "of", "First.of", sFirstOf⟩,
   ⟨fun K => OwH.mo K "First" "__iter__", "__iter__", "Rule.__iter__", sRIter⟩,
   ⟨fun K => OwH.mo K "First" "__len__", "__len__", "Rule.__len__", sRLen⟩,
   ⟨fun K => OwH.mo K "First" "__contains__", "__contains__", "Rule.__contains__", sIn⟩,
   ⟨fun K => OwH.mo K "First" "__eq__", "__eq__", "Rule.__eq__", sREq⟩,
   ⟨fun K => OwH.mo K "First" "keep", "keep", "Rule.keep", sKeep⟩,
   ⟨fun K => OwH.inRec K (OwH.mo K "First" "picks") "property", "picks", "Rule.picks", sPicks⟩,
   ⟨fun K => OwH.inRec K (OwH.mo K "First" "bays") "property", "bays", "Rule.bays", sBays⟩]
def theFacts : List (PySem.W.Frag → Bool) :=
  [(He.Fa.glo "is_name").ok,
   (He.Fa.glo "is_within").ok,
   (He.Fa.glo "ascending").ok,
   (He.Fa.glo "is_pick").ok,
   (He.Fa.glo "one_form").ok,
   (He.Fa.glo "_law_pen").ok,
   (He.Fa.glo "_law_draw").ok,
   (He.Fa.glo "_law_pick").ok,
   (He.Fa.glo "_law_row").ok,
   (He.Fa.glo "_law_form").ok,
   (He.Fa.glo "_law_values").ok,
   (He.Fa.glo "_law_called").ok,
   (He.Fa.glo "_law_right").ok,
   (He.Fa.glo "law").ok,
   (He.Fa.glo "First").ok,
   (He.Fa.glo "Rule").ok,
   (He.Fa.free "int").ok,
   (He.Fa.free "bool").ok,
   (He.Fa.free "str").ok,
   (He.Fa.free "len").ok,
   (He.Fa.free "all").ok,
   (He.Fa.free "isinstance").ok,
   (He.Fa.free "sorted").ok,
   (He.Fa.free "set").ok,
   (He.Fa.free "list").ok,
   (He.Fa.free "tuple").ok,
   (He.Fa.free "abs").ok,
   (He.Fa.free "range").ok,
   (He.Fa.free "zip").ok,
   (He.Fa.free "enumerate").ok,
   (He.Fa.free "iter").ok,
   (He.Fa.free "repr").ok,
   (He.Fa.free "max").ok,
   (He.Fa.mkr "First").ok,
   OwH.fRead "First",
   OwH.fRead "Rule",
   OwH.fCFun "Rule" "__init__",
   OwH.fCMet "First" "of",
   OwH.fProp "First" "picks",
   OwH.fProp "First" "bays",
   (He.Fa.meth "First" "keep").ok,
   fFirst]
def roots : List Str := ([("is_name" : Str), ("is_within" : Str), ("ascending" : Str), ("is_pick" : Str), ("one_form" : Str), ("_law_pen" : Str), ("_law_draw" : Str), ("_law_pick" : Str)] : List Str) ++ ([("_law_row" : Str), ("_law_form" : Str), ("_law_values" : Str), ("_law_called" : Str), ("_law_right" : Str), ("law" : Str), ("First" : Str), ("Rule" : Str)] : List Str)
def names : List Str := ([("NextError" : Str), ("BadName" : Str), ("BadNumber" : Str), ("BadPick" : Str), ("BadRule" : Str), ("TooMany" : Str), ("BadText" : Str), ("is_name" : Str)] : List Str) ++ ([("is_within" : Str), ("ascending" : Str), ("number_of" : Str), ("Words" : Str), ("Pair" : Str), ("Rule" : Str), ("First" : Str), ("Else" : Str)] : List Str) ++ ([("is_pick" : Str), ("one_form" : Str), ("rule_of_text" : Str), ("picks_from" : Str), ("pick_from" : Str), ("_law_pen" : Str), ("_law_draw" : Str), ("_law_pick" : Str)] : List Str) ++ ([("_law_row" : Str), ("_law_form" : Str), ("_law_values" : Str), ("_law_called" : Str), ("_law_right" : Str)] : List Str)
abbrev Rw : PySem.W.OpenRow := PySem.W.OpenLaw.row PySem.Challenge.rw_nextkind_k08_rules_made
abbrev hk : PySem.W.Hook := OwH.hookX roots theFacts theDefs
def ob (s : PySem.W.SharedT) : OwH.AX := OwH.seeX theFacts theDefs (OwH.partX roots (HandSHeadRun.getT s))
theorem ob_eq (s : PySem.W.SharedT) : ob s = hk.obs s.abs := OwH.seeX_eq (HandSHeadRun.getT_eq s)
theorem run (w : World) : HandSHeadRun.RunEq Rw (PySem.W.view Rw.prog [35]) hk ob 12000 names w := by
  intro os
  kernel_rfl
theorem facts {P : Program} {w : World} {K : PySem.W.Frag} {h base : Heap} {mg : Str → Option Value} (X : K.In h) (G : h.Ns mainGlobals mg) (c : OwH.seeX theFacts theDefs K = OwH.wantX theDefs) : ∃ mF mR, Facts P w K mg base (OwH.ga K "First") (OwH.ga K "Rule") (OwH.mo K "First" "__iter__") (OwH.mo K "First" "__len__") (OwH.mo K "First" "__contains__") (OwH.mo K "First" "__eq__") mF mR := by
  obtain ⟨fd_is_name, F_is_name⟩ := OwH.def_ c 0 rfl
  obtain ⟨fd_is_within, F_is_within⟩ := OwH.def_ c 1 rfl
  obtain ⟨fd_ascending, F_ascending⟩ := OwH.def_ c 2 rfl
  obtain ⟨fd_is_pick, F_is_pick⟩ := OwH.def_ c 3 rfl
  obtain ⟨fd_one_form, F_one_form⟩ := OwH.def_ c 4 rfl
  obtain ⟨fd__law_pen, F__law_pen⟩ := OwH.def_ c 5 rfl
  obtain ⟨fd__law_draw, F__law_draw⟩ := OwH.def_ c 6 rfl
  obtain ⟨fd__law_pick, F__law_pick⟩ := OwH.def_ c 7 rfl
  obtain ⟨fd__law_row, F__law_row⟩ := OwH.def_ c 8 rfl
  obtain ⟨fd__law_form, F__law_form⟩ := OwH.def_ c 9 rfl
  obtain ⟨fd__law_values, F__law_values⟩ := OwH.def_ c 10 rfl
  obtain ⟨fd__law_called, F__law_called⟩ := OwH.def_ c 11 rfl
  obtain ⟨fd__law_right, F__law_right⟩ := OwH.def_ c 12 rfl
  obtain ⟨fd_r0, F_r0⟩ := OwH.def_ c 14 rfl
  obtain ⟨fd_f0, F_f0⟩ := OwH.def_ c 15 rfl
  obtain ⟨fd_fof, F_fof⟩ := OwH.def_ c 16 rfl
  obtain ⟨fd_iter, F_iter⟩ := OwH.def_ c 17 rfl
  obtain ⟨fd_len, F_len⟩ := OwH.def_ c 18 rfl
  obtain ⟨fd_has, F_has⟩ := OwH.def_ c 19 rfl
  obtain ⟨fd_eq, F_eq⟩ := OwH.def_ c 20 rfl
  obtain ⟨fd_keep, F_keep⟩ := OwH.def_ c 21 rfl
  obtain ⟨fd_pk, F_pk⟩ := OwH.def_ c 22 rfl
  obtain ⟨fd_ba, F_ba⟩ := OwH.def_ c 23 rfl
  have chk : Chk P w K mg base := ⟨⟨_, _, (He.glo_ok X G (OwH.fact c 0 rfl)), F_is_name⟩, ⟨_, _, (He.glo_ok X G (OwH.fact c 1 rfl)), F_is_within⟩, ⟨_, _, (He.glo_ok X G (OwH.fact c 2 rfl)), F_ascending⟩, ⟨(He.free_ok X G (OwH.fact c 16 rfl)), (He.free_ok X G (OwH.fact c 17 rfl)), (He.free_ok X G (OwH.fact c 18 rfl)), (He.free_ok X G (OwH.fact c 19 rfl)), (He.free_ok X G (OwH.fact c 20 rfl)), (He.free_ok X G (OwH.fact c 21 rfl))⟩, ⟨(He.free_ok X G (OwH.fact c 22 rfl)), (He.free_ok X G (OwH.fact c 23 rfl)), (He.free_ok X G (OwH.fact c 24 rfl))⟩, ⟨(He.free_ok X G (OwH.fact c 25 rfl))⟩⟩
  exact ⟨_, _, chk,
    ⟨(He.free_ok X G (OwH.fact c 16 rfl)), (He.free_ok X G (OwH.fact c 19 rfl)), (He.free_ok X G (OwH.fact c 26 rfl)), (He.free_ok X G (OwH.fact c 24 rfl))⟩,
    (He.free_ok X G (OwH.fact c 27 rfl)),
    (He.free_ok X G (OwH.fact c 28 rfl)),
    (He.free_ok X G (OwH.fact c 29 rfl)),
    (He.free_ok X G (OwH.fact c 30 rfl)),
    (He.free_ok X G (OwH.fact c 31 rfl)),
    (He.free_ok X G (OwH.fact c 32 rfl)),
    ⟨_, _, (He.glo_ok X G (OwH.fact c 5 rfl)), F__law_pen⟩,
    ⟨_, _, (He.glo_ok X G (OwH.fact c 6 rfl)), F__law_draw⟩,
    ⟨_, _, (He.glo_ok X G (OwH.fact c 7 rfl)), F__law_pick⟩,
    ⟨_, _, (He.glo_ok X G (OwH.fact c 8 rfl)), F__law_row⟩,
    ⟨_, _, (He.glo_ok X G (OwH.fact c 9 rfl)), F__law_form⟩,
    ⟨_, _, (He.glo_ok X G (OwH.fact c 10 rfl)), F__law_values⟩,
    ⟨_, _, (He.glo_ok X G (OwH.fact c 11 rfl)), F__law_called⟩,
    ⟨_, _, (He.glo_ok X G (OwH.fact c 12 rfl)), F__law_right⟩,
    ⟨_, _, (He.glo_ok X G (OwH.fact c 4 rfl)), F_one_form⟩,
    ⟨_, _, (He.glo_ok X G (OwH.fact c 3 rfl)), F_is_pick⟩,
    (He.glo_ok X G (OwH.fact c 14 rfl)),
    (He.glo_ok X G (OwH.fact c 15 rfl)),
    OwH.read_ok (OwH.fact c 34 rfl),
    OwH.read_ok (OwH.fact c 35 rfl),
    ⟨_, _, He.mkr_ok (OwH.fact c 33 rfl), F_f0⟩,
    ⟨_, _, OwH.cfun_ok (OwH.fact c 36 rfl), F_r0⟩,
    ⟨_, _, _, OwH.cmet_ok (OwH.fact c 37 rfl), F_fof⟩,
    ⟨_, _, _, OwH.prop_ok (OwH.fact c 38 rfl), F_pk⟩,
    ⟨_, _, _, OwH.prop_ok (OwH.fact c 39 rfl), F_ba⟩,
    ⟨_, _, He.meth_ok (OwH.fact c 40 rfl), F_keep⟩,
    fFirst_ok (OwH.fact c 41 rfl),
    ⟨_, F_iter⟩,
    ⟨_, F_len⟩,
    ⟨_, F_has⟩,
    ⟨_, F_eq⟩⟩
theorem ends {P : Program} {w : World} {K : PySem.W.Frag} {h : Heap} {mg : Str → Option Value} {f : Addr} (X : K.In h) (G : h.Ns mainGlobals mg) (hf : mg ("law" : Str) = some (.ref f)) (c : OwH.seeX theFacts theDefs K = OwH.wantX theDefs) :
    ∃ fd : FuncData, (∀ (s : Shared) (v : Value), BindsTo s fd ⟨[v], []⟩ [("_law_script", v)]) ∧ ∀ base : Heap, K.In base → base.Ns mainGlobals mg → OwR.FnG P w K mg base CX0 8 f fd ["_law_script"] (spLaw K) := by
  obtain ⟨fd, F⟩ := OwH.def_ c 13 rfl
  have e := hf.symm.trans (He.glo_ok X G (OwH.fact c 13 rfl))
  cases e
  refine ⟨fd, fun s v => ?_, fun base _ _ => ?_⟩
  · obtain ⟨oc, od, kV, doc, pm, an, cdv, ct, osl, rfl, lk, hcd⟩ := F.ex
    exact .of_eq rfl
  · obtain ⟨mF, mR, Fa⟩ := facts (P := P) (w := w) (base := base) X G c
    exact ok_law F Fa
end K10
open PySem PySem.W PySem.Calls PyProof.Rows
theorem PySem.Challenge.cw_nextkind_k08_rules_made_holds : PySem.Challenge.rw_nextkind_k08_rules_made.Holds := by
  w_on; o_law
  refine HandSHeadRun.head_any (r := K10.Rw) (q := view K10.Rw.prog [35]) (H := K10.hk) (ob := K10.ob) (M := 12000) (loose := K10.names) (d := HandSHeadRun.topDef K10.Rw.prog 35) (kwd := []) K10.ob_eq
    (by kernel_rfl) (fun s => by kernel_rfl) K10.run (by kernel_rfl) (by kernel_rfl) (by kernel_rfl) (by rfl) (by first | assumption | decide +kernel) (by decide +kernel) ⟨rfl, rfl, rfl, rfl, rfl, by decide +kernel⟩ ?hw ?hc
  case hw => w_witness2
  case hc =>
    refine OwR.walk_ofG (l := PySem.Challenge.rw_nextkind_k08_rules_made) (n := 63) (k := 8) (x := "_law_script") rfl (by decide) (by kernel_rfl) ⟨rfl, by decide, by decide⟩ ?_
    intro w mg fn h Y G hmg
    obtain ⟨K, X, c⟩ := Y
    have en : (HandSHeadRun.topDef K10.Rw.prog 35).name = ("law" : PySem.Str) := by kernel_rfl
    rw [en] at hmg
    obtain ⟨fd, hb, hF⟩ := K10.ends (P := PySem.Challenge.rw_nextkind_k08_rules_made.prog) (w := w) X G hmg c
    exact ⟨K, fd, K10.spLaw K, X, hb, fun G' a zs hz sq => ⟨a, zs, rfl, sq, hz, fun _ => rfl⟩, hF⟩
end
