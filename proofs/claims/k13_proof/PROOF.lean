import PyProof.Rows.All
import Wide.All
import OpenK.AllK
import Wide.FinOn
import HandS.ForMost
import HandS.Set
import HandS.SetFor
import HandS.Strs
import HandS.More
import HandS.Exc
import HandS.Star
import HandS.ClsMeth
import HandS.MakeKwOnly
import HandS.Style
import HandS.TupAny
import KE.GoesMore
import KE.GoesEnum
import KE.KDictList
import HandS.Wide
import HandS.Codes
import PySem.Challenge.RW_nextkind_k13_whole_rules_alike
import HandS.IsInst
import HandS.Walk
import HandS.NoneIn
import HandS.DictComp
import HandS.Iter
import HandS.Property
import KE.KOpsOwn
import KE.KOwnIter
import PyProof.TupleIter
import HandS.IterVal
import PyProof.WalksMore
import HandS.OwnIter
import KE.KCallOwn
import PyProof.SliceList
import PyProof.P3Eq
import HandS.FStr
import PyProof.EqAt
import HandS.ListItems
import HandS.RaiseMore
import PyProof.CallFns
import PyProof.FString2
import KE.KStateDown
import Lean
import HandS.Base
import HandS.Call
import HandS.Ends
import HandS.Words
import HandS.Head0
import HandS.Head1
import HandS.Head2
import HandS.HeadEnd
import HandS.HeadHook1
import HandS.HeadHook2
set_option Elab.async false
set_option linter.all false
set_option maxRecDepth 100000
set_option maxHeartbeats 0
section
namespace TSet
open PySem PySem.Spec PyProof.Rows L2
/-- an entry of a set of texts -/
def TE (w : World) (e : Int × Value) : Prop := ∃ z tk, e = (hashStr w z, Value.str z tk)
def tk1 (e : Int × Value) : Str := strOf e.2
/-- the set object at a holds just the texts L, each once -/
def TS (w : World) (h : Heap) (a : Addr) (L : List Str) : Prop :=
  ∃ ob ents ep tab, h.get? a = some ob ∧ ob.ExactSet ∧ ob.data = .set ents ep tab ∧ (∀ e ∈ ents.toList, TE w e) ∧ (ents.toList.map tk1).Perm L ∧
    L.Nodup ∧ L.length < scanBound ∧ tab.fits ents.size = true ∧ Ris tab.place.toList ∧ (w.params.followText "set-order" = true ∨ tab.led = true)
section
variable {P : Program} {w : World} {h h' : Heap} {a : Addr} {L : List Str}
theorem TS.keep (R : TS w h a L) (k : ∀ o, h.get? a = some o → h'.get? a = some o) : TS w h' a L := by
  obtain ⟨ob, ents, ep, tab, h1, rest⟩ := R
  exact ⟨ob, ents, ep, tab, k ob h1, rest⟩
theorem te_is {e : Int × Value} (g : TE w e) (z : Str) : (strKind P w).is z e.2 = true ↔ tk1 e = z := by
  obtain ⟨y, tk, rfl⟩ := g
  show ((y == z) = true) ↔ y = z
  exact beq_iff_eq
theorem te_elems {l : List (Int × Value)} (g : ∀ e ∈ l, TE w e) : ElemsOf (strKind P w) l := fun e he => by
  obtain ⟨z, tk, rfl⟩ := g e he
  exact ⟨⟨z, strKind_is P w z tk, rfl⟩, rfl⟩
theorem te_mem {l : List (Int × Value)} (g : ∀ e ∈ l, TE w e) (z : Str) : z ∈ l.map tk1 ↔ ∃ e ∈ l, (strKind P w).is z e.2 = true := by
  constructor
  · intro m
    obtain ⟨e, he, q⟩ := List.mem_map.mp m
    exact ⟨e, he, (te_is (g e he) z).2 q⟩
  · rintro ⟨e, he, q⟩
    exact List.mem_map.mpr ⟨e, he, (te_is (g e he) z).1 q⟩
theorem TS.fresh {ob : Obj} (ho : h.get? a = some ob) (e : ob = { cls := .type "set", dict := none, data := .set #[] 0 (.fresh 0 0 (!w.params.followText "set-order")) }) : TS w h a [] := by
  subst e
  refine ⟨_, #[], 0, _, ho, ⟨rfl, rfl, rfl⟩, rfl, fun e he => by simp at he, List.Perm.refl _, List.nodup_nil, by decide, rfl, List.Pairwise.nil, ?_⟩
  show w.params.followText "set-order" = true ∨ (!w.params.followText "set-order") = true
  cases w.params.followText "set-order" <;> simp
end
/-- one more text -/
def put1 (L : List Str) (z : Str) : List Str := if z ∈ L then L else z :: L
theorem put1_len (L : List Str) (z : Str) : (put1 L z).length ≤ L.length + 1 := by
  unfold put1
  split
  · exact Nat.le_succ _
  · exact Nat.le_refl _
section
variable {P : Program} {w : World} {A : Around} {E : Value → Shared → Prop} {s : Shared} {a : Addr} {L : List Str}
theorem ts_add_end {g : Bool → Sem Unit} (hg : ∀ (b : Bool) (s₁ : Shared) (Q' : Unit → Shared → Prop), Q' () s₁ → wpAny (model P w) A (g b) Q' E s₁)
    {ob : Obj} {ents : Array (Int × Value)} {ep : Nat} {tab : SetTable} (ho : s.heap.get? a = some ob) (hex : ob.ExactSet) (hd : ob.data = .set ents ep tab)
    {en1 : Array (Int × Value)} {tb : SetTable} {M : List Str} (g1 : ∀ e ∈ en1.toList, TE w e) (pm1 : (en1.toList.map tk1).Perm M) (nd1 : M.Nodup)
    (hb : M.length < scanBound) (hf : tb.fits en1.size = true) (hr : Ris tb.place.toList) (hl : w.params.followText "set-order" = true ∨ tb.led = true) {dm : Bool} {R : Option Bool → Shared → Prop}
    (hR : ∀ h', Heap.SameBut a s.heap h' → TS w h' a M → R (some true) { s with heap := h' }) :
    wpAny (model P w) A (do
        storeSet a en1 tb
        if (!dm && tb.tooFull) = true then do
            g (relayAll tb en1 (SetTable.grown en1.size)).2.2
            storeSet a (relayAll tb en1 (SetTable.grown en1.size)).1 (relayAll tb en1 (SetTable.grown en1.size)).2.1
            pure (some true)
          else pure (some true)) R E s := by
  have hn1 : en1.size = M.length := by
    have q := pm1.length_eq
    rw [List.length_map, Array.length_toList] at q
    exact q
  refine wpAny_bind (wpAny_storeSet_of ho hd ?_ (fits_of_scanBound (by rw [hn1]; exact hb)))
  have ho1 := store_at (es' := en1) (t' := tb) ho hd
  have sb1 := Heap.SameBut.update s.heap a (Obj.putSet en1 tb)
  split
  · have pm := relayAll_perm tb en1 (SetTable.grown en1.size)
    have hf3 := relayAll_fits tb en1 (SetTable.grown en1.size)
    have hr3 := relayAll_ris tb en1 (SetTable.grown en1.size)
    have hl3 := relayAll_led tb en1 (SetTable.grown en1.size)
    generalize relayAll tb en1 (SetTable.grown en1.size) = Z at pm hf3 hr3 hl3 ⊢
    obtain ⟨en2, tb3, gave⟩ := Z
    dsimp only at pm hf3 hr3 hl3 ⊢
    have hn2 : en2.size = M.length := by rw [← hn1, ← Array.length_toList, pm.length_eq, Array.length_toList]
    refine wpAny_bind (hg _ _ _ ?_)
    refine wpAny_bind (wpAny_storeSet_of ho1 rfl ?_ (fits_of_scanBound (by rw [hn2]; exact hb)))
    have ho2 := store_at (es' := en2) (t' := tb3) ho1 rfl
    exact wpAny_pure (hR _ (sb1.trans (Heap.SameBut.update _ a _)) ⟨_, en2, _, tb3, ho2, hex, rfl, fun e he => g1 e (pm.mem_iff.mp he), (pm.map tk1).trans pm1, nd1, hb, hf3, hr3, by rw [hl3]; exact hl⟩)
  · exact wpAny_pure (hR _ sb1 ⟨_, en1, _, tb, ho1, hex, rfl, g1, pm1, nd1, hb, hf, hr, hl⟩)
theorem ts_add {z : Str} {tk : Tok} {Q : Bool → Shared → Prop} (R : TS w s.heap a L) (room : L.length + 1 < scanBound)
    (hQ : ∀ b h', Heap.SameBut a s.heap h' → TS w h' a (put1 L z) → Q b { s with heap := h' }) :
    wpAny (model P w) A (setAddHashed a (.str z tk) ((strKind P w).hash z)) Q E s := by
  obtain ⟨ob, ents, ep, tab, ho, hex, hd, g, pm0, nd, hb, hf, hr, hl⟩ := R
  have hkey : (strKind P w).is z (.str z tk) = true := strKind_is P w z tk
  have hsc : (Value.str z tk).scannable = true := rfl
  have hel : ElemsOf (strKind P w) ents.toList := te_elems g
  have hn : ents.size = L.length := by
    have q := pm0.length_eq
    rw [List.length_map, Array.length_toList] at q
    exact q
  unfold setAddHashed setAddHashedIn
  refine wpAny_holding (wpAny_bind (wpAny_setState_of ho hd hf ?_))
  dsimp only
  rw [byScan_of hsc (by rw [hn]; exact hb) hel]
  simp only [↓reduceIte]
  unfold setAddByScan
  refine wpAny_bind (wpAny_bind (wpAny_rule (wpAny_bind (wpAny_setScan_of hkey ho hd hf hel ?_))))
  cases hfi : List.findIdx? (fun e => (strKind P w).is z e.2) ents.toList with
  | some j =>
    dsimp only
    obtain ⟨hj, pj, _⟩ := List.findIdx?_eq_some_iff_getElem.mp hfi
    have hz : z ∈ L := pm0.mem_iff.mp ((te_mem (P := P) (w := w) g z).2 ⟨ents.toList[j], List.getElem_mem hj, pj⟩)
    refine wpAny_pure (wpAny_pure ?_)
    refine hQ _ s.heap (Heap.SameBut.refl a s.heap) ?_
    unfold put1
    rw [if_pos hz]
    exact ⟨ob, ents, ep, tab, ho, hex, hd, g, pm0, nd, hb, hf, hr, hl⟩
  | none =>
    dsimp only
    have hz : z ∉ L := fun q => by
      obtain ⟨e, he, c⟩ := (te_mem (P := P) (w := w) g z).1 (pm0.mem_iff.mpr q)
      have d := List.findIdx?_eq_none_iff.mp hfi e he
      rw [c] at d
      cases d
    have hgw : ∀ (b : Bool) {s₁ : Shared} {Q' : Unit → Shared → Prop}, Q' () s₁ → wpAny (model P w) A (match b with | true => rule "set.scan.the-table-gave-way" | false => pure ()) Q' E s₁ :=
      fun b _ _ q => by cases b <;> first | exact wpAny_pure q | exact wpAny_rule q
    have pm := layNew_perm tab ents ((strKind P w).hash z) (.str z tk)
    have hf1 := layNew_fits tab ents ((strKind P w).hash z) (.str z tk)
    have hr1 := layNew_ris tab ents ((strKind P w).hash z) (.str z tk) hr
    have hl1 := layNew_led tab ents ((strKind P w).hash z) (.str z tk)
    generalize layNew tab ents ((strKind P w).hash z) (.str z tk) = Z at pm hf1 hr1 hl1 ⊢
    obtain ⟨en1, tb1, dmy, gave⟩ := Z
    dsimp only at pm hf1 hr1 hl1 ⊢
    rw [Array.toList_push] at pm
    have pc : en1.toList.Perm (((strKind P w).hash z, Value.str z tk) :: ents.toList) := pm.trans (List.perm_append_singleton _ _)
    have pk : (en1.toList.map tk1).Perm (z :: L) := (pc.map tk1).trans (List.Perm.cons z pm0)
    have g1 : ∀ e ∈ en1.toList, TE w e := fun e he => by
      rcases List.mem_cons.mp (pc.mem_iff.mp he) with q | q
      · exact ⟨z, tk, q⟩
      · exact g e q
    have nd1 : (z :: L).Nodup := List.nodup_cons.mpr ⟨hz, nd⟩
    have hled : w.params.followText "set-order" = true ∨ tb1.led = true := by rw [hl1]; exact hl
    have e1 : put1 L z = z :: L := if_neg hz
    rw [e1] at hQ
    refine wpAny_bind (hgw _ ?_)
    split
    · refine wpAny_bind ?_
      rw [hashByValue_scannable 8 hsc]
      refine wpAny_pure ?_
      refine ts_add_end (dm := dmy) ?_ ho hex hd g1 pk nd1 room ?_ ?_ ?_ ?_
      · intro b _ _ q; cases b <;> first | exact wpAny_pure q | exact wpAny_rule q
      · first | (split <;> first | exact hf1 | exact SetTable.fits_plain_off hf1) | exact hf1
      · first | (split <;> exact hr1) | exact hr1
      · first | (split <;> exact hled) | exact hled
      · intro h' sb r; dsimp only; exact wpAny_pure (hQ _ h' sb r)
    · refine wpAny_bind (wpAny_pure ?_)
      simp only [↓reduceIte]
      refine ts_add_end (dm := dmy) ?_ ho hex hd g1 pk nd1 room hf1 hr1 hled ?_
      · intro b _ _ q; cases b <;> first | exact wpAny_pure q | exact wpAny_rule q
      · intro h' sb r; dsimp only; exact wpAny_pure (hQ _ h' sb r)
end
end TSet
end
section
namespace TSet
open PySem PySem.Spec PyProof.Rows L2
/-- the texts of a list, each once -/
def ded (xs : List Str) : List Str := xs.foldl put1 []
theorem put1_mem (L : List Str) (z y : Str) : y ∈ put1 L z ↔ y = z ∨ y ∈ L := by
  unfold put1
  split
  · rename_i h
    exact ⟨.inr, fun q => q.elim (fun e => e ▸ h) id⟩
  · exact List.mem_cons
theorem fold_mem : ∀ (xs L : List Str) (y : Str), y ∈ xs.foldl put1 L ↔ y ∈ L ∨ y ∈ xs
  | [], L, y => by simp
  | x :: xs, L, y => by
    rw [List.foldl_cons, fold_mem xs, put1_mem, List.mem_cons]
    constructor
    · rintro ((q | q) | q)
      · exact .inr (.inl q)
      · exact .inl q
      · exact .inr (.inr q)
    · rintro (q | q | q)
      · exact .inl (.inr q)
      · exact .inl (.inl q)
      · exact .inr q
theorem ded_mem (xs : List Str) (y : Str) : y ∈ ded xs ↔ y ∈ xs := by
  unfold ded
  rw [fold_mem]
  simp
theorem fold_len : ∀ (xs L : List Str), (xs.foldl put1 L).length ≤ L.length + xs.length
  | [], L => Nat.le_refl _
  | x :: xs, L => by
    have q := fold_len xs (put1 L x)
    have r := put1_len L x
    rw [List.foldl_cons, List.length_cons]
    omega
theorem ded_len (xs : List Str) : (ded xs).length ≤ xs.length := by
  have q := fold_len xs []
  unfold ded
  simpa using q
theorem ded_snoc (xs : List Str) (x : Str) : ded (xs ++ [x]) = put1 (ded xs) x := by
  unfold ded
  rw [List.foldl_append]
  rfl
theorem take_snoc {α : Type} {l : List α} {i : Nat} {x : α} (h : l[i]? = some x) : l.take (i + 1) = l.take i ++ [x] := by
  rw [List.take_add_one, h]
  rfl
section
variable {P : Program} {w : World} {A : Around} {E : Value → Shared → Prop} {s : Shared}
theorem upd_loop {I : Addr} {fp wr : List Addr} {G : Array GenState → Array GenState → Prop} {n : Nat} {Pv : Nat → Value → Prop} {St : Nat → Shared → Prop} {R : Result → Shared → Prop}
    (W : WalksS P w A.in1 I fp wr G n Pv St) (S : Addr) (out : S ∉ fp) (xs : List Str) (hn : n = xs.length) (few : xs.length < scanBound) (hval : ∀ i v, Pv i v → ∃ z t, xs[i]? = some z ∧ v = .str z t) :
    ∀ (k i : Nat) (s : Shared), n - i = k → i ≤ n → St i s → TS w s.heap S (ded (xs.take i)) →
      (∀ s', Moved (S :: wr) G s s' → TS w s'.heap S (ded xs) → R (.ok (.ret .none)) s') →
      codeAny (model P w) A (.builtin "set.update.loop" ⟨[.ref S, .ref I], []⟩) R s := by
  have hSw : S ∉ wr := fun h => out (W.sub _ h)
  have hsub : ∀ b ∈ wr, b ∈ S :: wr := fun b hb => List.mem_cons_of_mem _ hb
  intro k
  induction k with
  | zero =>
    intro i s hk hi hst hS hR
    obtain rfl : i = n := by omega
    refine codeAny_builtin F.entry_set_update_loop ?_
    rw [Around.under_plainId F.plain_set_update_loop _]
    refine wpAny_bind (m := pyNext (.ref I)) (W.done s _ _ hst fun s' hm => ?_)
    rw [hn, List.take_length] at hS
    exact wpAny_pure (hR s' (hm.mono hsub) (hS.keep fun o e => hm.heap S o hSw e))
  | succ k ih =>
    intro i s hk hi hst hS hR
    have hlt : i < n := by omega
    refine codeAny_builtin F.entry_set_update_loop ?_
    rw [Around.under_plainId F.plain_set_update_loop _]
    refine wpAny_bind (m := pyNext (.ref I)) (W.item i s _ _ hlt hst fun v s' hP hst' hm => ?_)
    obtain ⟨z, t, hz, rfl⟩ := hval i v hP
    have hS1 : TS w s'.heap S (ded (xs.take i)) := hS.keep fun o e => hm.heap S o hSw e
    have hl : (ded (xs.take i)).length + 1 < scanBound ∨ (ded (xs.take i)).length + 1 ≤ xs.length := by
      have q := ded_len (xs.take i)
      rw [List.length_take] at q
      right
      omega
    have hroom : (ded (xs.take i)).length + 1 < scanBound := hl.elim id fun q => Nat.lt_of_le_of_lt q few
    refine wpAny_bind (m := holding [Value.str z t] (setAdd S (.str z t))) (wpAny_holding ?_)
    unfold setAdd
    refine wpAny_holding (wpAny_bind ((strKind P w).pyHash (k := z) (strKind_is _ _ _ _) ?_))
    refine ts_add (s := { s' with toks := s'.toks + 1 }) hS1 hroom fun b h' sb hS2 => ?_
    rw [← ded_snoc, ← take_snoc hz] at hS2
    refine wpAny_pure ⟨plainId_quiet F.plain_set_update_loop _, ih (i + 1) _ (by omega) hlt (W.frame _ s' _ _ hst' (Nat.le_succ _) fun c hc o e => ?_) hS2 fun s2 hm2 hS3 => ?_⟩
    · rw [sb.2 c fun q => out (q ▸ hc)]; exact e
    · refine hR s2 (Moved.trans W.gtrans ((hm.mono hsub).then_heap (Nat.le_succ _) fun c o hc e => ?_) hm2) hS3
      rw [sb.2 c fun q => hc (by rw [q]; exact List.mem_cons_self)]; exact e
theorem strs_ix : ∀ {us : List Value} {xs : List Str}, StrsAre us xs → ∀ (i : Nat) (v : Value), us[i]? = some v → ∃ z t, xs[i]? = some z ∧ v = .str z t
  | _, _, .nil, i, v, h => by simp at h
  | _, _, .cons z t _, 0, v, h => ⟨z, t, rfl, (Option.some.inj h).symm⟩
  | _, _, .cons _ _ r, i + 1, v, h => by
    rw [List.getElem?_cons_succ] at h
    rw [List.getElem?_cons_succ]
    exact strs_ix r i v h
abbrev nob (w : World) : Obj := { cls := .type "set", dict := none, data := .set #[] 0 (.fresh 0 0 (!w.params.followText "set-order")) }
/-- set(xs), xs a list of texts -/
theorem call_set_texts {l : Addr} {items : Array Value} {xs : List Str} {Q : Value → Shared → Prop} (hh : A.handled = none) (hl : s.heap.IsList l items) (hi : StrsAre items.toList xs) (few : xs.length < scanBound)
    (hq : ∀ (h' : Heap) (tk : Nat), TS w h' s.heap.objs.size (ded xs) → (∀ b o, s.heap.get? b = some o → h'.get? b = some o) → Q (.ref s.heap.objs.size) { s with heap := h', toks := tk }) :
    wpAny (model P w) A (call (.type "set") [.ref l]) Q E s := by
  have hisz : items.size = xs.length := by rw [← Array.length_toList]; exact StrsAre.len_eq hi
  obtain ⟨c, tl, hmro⟩ := F.called_set.mro
  have hmade := F.called_set.made
  have hsub := F.called_set.sub
  refine wpAny_call (codeAny_of_tree ?_)
  show wpAny _ _ (callAny (.type "set") _) _ _ _
  refine wpAny_pure ⟨Code.quiet_builtin _ (by decide +kernel), codeAny_builtin F.entry_type_call ?_⟩
  rw [Around.under_plain (weight_type_call_type "set" [.ref l] []) rfl]
  have h1 := F.called_set.notType
  have h2 := F.called_set.canCreate
  have hct := F.typeCall_set_1 (.ref l)
  repeat (any_goals (first | assumption | wp_step))
  refine codeAny_mono (code_set_led1 (.ref l) (E := E) (Q₁ := fun ov s₁ => ov = .ref s.heap.objs.size ∧ s₁ = { s with heap := s.heap.push { cls := .type "set", dict := none, data := .set #[] 0 (.fresh 0 0 (!w.params.followText "set-order")) } }) ⟨rfl, rfl⟩) fun r s₁ hr => ?_
  cases r with
  | error e => exact hr
  | ok fl =>
    cases fl with
    | ret ov =>
      obtain ⟨rfl, rfl⟩ := hr
      have hS : (s.heap.push (nob w)).get? s.heap.objs.size = some (nob w) := Heap.get?_push_size _ rfl
      have hT : Shared.TypeIs { s with heap := s.heap.push (nob w) } (.ref s.heap.objs.size) "set" := ⟨_, hS, rfl⟩
      have hli := F.called_set.init.lookup
      have hbi := F.called_set.init.bind (.ref s.heap.objs.size)
      repeat (any_goals (first | assumption | wp_step))
      refine codeAny_mono (codeAny_call_builtin (R := wants (fun r s₂ => r = .none ∧ ∃ h' tk, s₂ = { s with heap := h', toks := tk } ∧ TS w h' s.heap.objs.size (ded xs) ∧
          (∀ b o, s.heap.get? b = some o → h'.get? b = some o)) E) F.called_set.init.plain F.entry_set_init (check_set_init_1 hT ?_)) fun r₂ s₂ hr₂ => ?_
      · obtain ⟨ol, hol, hcl, nl, hdl⟩ := hl
        obtain ⟨ocls, odict, odata, oslots⟩ := ol
        simp only at hcl hdl
        subst hcl; subst hdl
        have hol' : (s.heap.push (nob w)).get? l = some { cls := .type "list", dict := odict, data := .seq items nl, slots := oslots } := Heap.get?_push_of_some _ hol
        have hsls := F.sub_list_set
        have hslf := F.sub_list_frozenset
        have hne : (Value.type "list" == Value.type "dict") = false := by decide
        have hl1 : (s.heap.push (nob w)).IsList l items := ⟨_, hol', rfl, nl, rfl⟩
        unfold Builtin.«set.__init__» noKeywords Builtin.Frozenset.updateFrom
        generalize hPI : pyIter = PI
        wp_walk
        subst hPI
        refine wpAny_pyIter_list hl1 ?_
        refine wpAny_bind (wpAny_runValue ?_)
        have hlS : l < s.heap.objs.size := Heap.lt_size hol
        have hz1 : (s.heap.push (nob w)).objs.size = s.heap.objs.size + 1 := Heap.size_push ..
        have hneI : l ≠ (s.heap.push (nob w)).objs.size := by rw [hz1]; exact Nat.ne_of_lt (Nat.lt_succ_of_lt hlS)
        have hSf : s.heap.objs.size ∉ [(s.heap.push (nob w)).objs.size, l] := by
          rw [hz1]
          intro m
          rcases List.mem_cons.mp m with q | q
          · exact absurd q (Nat.ne_of_lt (Nat.lt_succ_self _))
          · exact absurd (List.mem_singleton.mp q) (Nat.ne_of_gt hlS)
        refine upd_loop (A := A.in1.in1) ((Walks.list (by simp [hh]) _ l hneI items).toS) s.heap.objs.size hSf xs hisz few
          (fun i v hv => strs_ix hi i v (by rw [Array.getElem?_toList]; exact hv)) (items.size - 0) 0 _ rfl (Nat.zero_le _)
          ⟨⟨_, Heap.get?_push_size _ rfl, rfl, rfl⟩, (hl1.push _)⟩ ?hS0 ?hR
        case hS0 => exact TS.fresh (Heap.get?_push_of_some _ hS) rfl
        case hR =>
          intro s' hm hS'
          obtain ⟨h', g2, d', tk', os'⟩ := s'
          have eg : g2 = s.gens := hm.gens
          have ed : d' = s.drawn := hm.drawn
          have eo : os' = s.os := hm.os
          subst eg; subst ed; subst eo
          show wpAny _ _ _ _ _ _
          refine wpAny_pure ?_
          show wpAny _ _ (ret Value.none) _ _ _
          refine wpAny_pure ⟨rfl, h', tk', rfl, hS', fun b o e => ?_⟩
          have hlt := Heap.lt_size e
          refine hm.heap b o (fun m => ?_) (Heap.get?_push_of_some _ (Heap.get?_push_of_some _ e))
          rcases List.mem_cons.mp m with q | q
          · exact absurd q (Nat.ne_of_lt hlt)
          · have q := List.mem_singleton.mp q
            rw [hz1] at q
            exact absurd q (Nat.ne_of_lt (Nat.lt_succ_of_lt hlt))
      · cases r₂ with
        | error e => exact hr₂
        | ok fl₂ =>
          cases fl₂ with
          | ret r =>
            obtain ⟨rfl, h', tk, rfl, hS', hk'⟩ := hr₂
            repeat (any_goals (first | assumption | wp_step))
            exact hq _ _ hS' hk'
          | _ => exact hr₂.elim
    | _ => exact hr.elim
end
end TSet
end
section
namespace TSet
open PySem PySem.Spec PyProof.Rows L2
section
variable {P : Program} {w : World} {A : Around} {E : Value → Shared → Prop} {s : Shared} {a : Addr} {L : List Str}
theorem sorted_texts {Q : Value → Shared → Prop} (R : TS w s.heap a L) (hh : A.handled = none) (few : L.length < 64)
    (hQ : ∀ s' p (out : Array Value) (c : Nat) (ys : List Str), (∀ b o, s.heap.get? b = some o → s'.heap.get? b = some o) → s'.gens = s.gens → s'.os = s.os → s.heap.objs.size ≤ p →
      s'.heap.get? p = some (seqObj "list" out c) → StrsAre out.toList ys → ys.Perm L → sortedS ys = true → Q (.ref p) s') :
    wpAny (model P w) A (call (.builtin "sorted") [.ref a]) Q E s := by
  obtain ⟨ob, ents, ep, tab, ho, hex, hd, g, pm0, nd, hb, hf, hr, hl⟩ := R
  have hn : ents.size = L.length := by
    have q := pm0.length_eq
    rw [List.length_map, Array.length_toList] at q
    exact q
  refine Calls.call_function_entry kind_sorted plain_sorted entry_sorted (args_sorted1 _) ?_
  unfold Builtin.«sorted»
  refine wpAny_bind (m := checkCount "sorted" 1 1 _) (wpAny_pure ?_)
  refine wpAny_bind (collect_set (A := A.in1) hh ⟨ob, ho, hex.1, hd⟩ hf (by rw [hn]; exact hb) hr hl fun s1 vs k1 hz g1 o1 pm => ?_)
  have pv : (vs.map strOf).Perm L := by
    have q := pm.map strOf
    rw [List.map_map] at q
    exact q.trans pm0
  have hvl : vs.length = L.length := by
    have q := pv.length_eq
    rw [List.length_map] at q
    exact q
  have hS : StrsAre vs (vs.map strOf) := strsAre_map vs fun v hv => by
    obtain ⟨e, he, q⟩ := List.mem_map.mp (pm.mem_iff.mp hv)
    obtain ⟨z, tk, rfl⟩ := g e he
    exact ⟨z, tk, q.symm⟩
  refine wpAny_bind (wpAny_newList ?_ (by rw [hvl, sizeLine_eq]; omega))
  have hoL : (s1.heap.push (seqObj "list" vs.toArray 0)).get? s1.heap.objs.size = some (seqObj "list" vs.toArray 0) := Heap.get?_push_size _ rfl
  refine wpAny_bind (wpAny_holding (wpAny_call_entry slot_list_sort ⟨_, hoL, rfl⟩ entry_list_sort
    (list_sort_treeK strKind_oneLt hoL hS.keysOf (fun v₁ v₂ rest e => keyKind_strs (by rw [← e]; exact hS)) (by rw [hvl]; exact few) fun st' hp hs => ⟨_, rfl, ?_⟩) (args_list_sort _)))
  obtain ⟨ys, y1, y2, y3⟩ := sorted_out_str hS hp hs
  obtain ⟨c, hc⟩ := sortedHeap_at (vs := vs) (out := (arrOf st').map (·.2)) hoL
  refine wpAny_pure ⟨_, rfl, hQ _ s1.heap.objs.size _ c ys (fun b u e => ?_) g1 o1 hz hc y1 (y2.trans pv) y3⟩
  have q := k1 b u e
  have hlt := Heap.lt_size q
  show (sortedHeap (s1.heap.push (seqObj "list" vs.toArray 0)) s1.heap.objs.size vs ((arrOf st').map (·.2))).get? b = some u
  rw [sortedHeap_old (Nat.ne_of_lt hlt) (by rw [size_push']; exact Nat.lt_succ_of_lt hlt)]
  exact Heap.get?_push_of_some _ q
end
/-! ### over the layer -/
def TSO (w : World) (a : Addr) (L : List Str) : HO := .ext fun h => TS w h a L
theorem tso_new {P : Program} {w : World} {H : Hp} {h : Heap} {a : Addr} {L : List Str} (R : TS w h a L) : ObjOk P w H h a (TSO w a L) := by
  have ⟨ob, _, _, _, ho, _⟩ := R
  exact ⟨R, ⟨ob, ho⟩, fun _ _ p k => p.keep k⟩
section
variable {X : Cx}
/-- set(xs), xs a list of texts, and sorted of it -/
def rSetS (K : PySem.W.Frag) (w : World) : List V → Hp → VK → Prop := fun vs H Q => ∃ (l : Addr) (xs : List Str), vs = [V.ref l] ∧ SqL K H l (xs.map V.str) ∧ xs.length < scanBound ∧
  ∀ a, H a = none → Q (.ref a) (upd H a (TSO w a (ded xs)))
theorem cr_setS (hc : X.calm = true) : CallR X (.type "set") (rSetS X.K X.w) := by
  intro pins s σ H vs us Q I r h
  obtain ⟨l, xs, rfl, hl, few, q⟩ := h
  rw [Vals.ref1 r]
  obtain ⟨its, rv, pl, _⟩ := I.list hl
  have hn : H s.heap.objs.size = none := I.hok.fresh (Nat.le_refl _)
  refine call_set_texts (P := X.prog) (I.ok.hd hc) pl.isList (by simpa using Vals.strs rv) few fun h' tk R k => ?_
  exact ⟨.ref s.heap.objs.size, upd H s.heap.objs.size (TSO X.w s.heap.objs.size (ded xs)), I.laid (t' := tk) k (Nat.le_refl _) (tso_new R), rfl, q _ hn⟩
def rSortedTexts (w : World) : List V → Hp → VK → Prop := fun vs H Q => ∃ (a : Addr) (L : List Str), vs = [V.ref a] ∧ H a = some (TSO w a L) ∧ L.length < 64 ∧
  ∀ (ys : List Str) (p : Addr), ys.Perm L → sortedS ys = true → H p = none → Q (.ref p) (upd H p (.lst (ys.map V.str)))
theorem cr_sortedTexts (hc : X.calm = true) : CallR X (.builtin "sorted") (rSortedTexts X.w) := by
  intro pins s σ H vs us Q I r h
  obtain ⟨a, L, rfl, ha, few, q⟩ := h
  have R : TS X.w s.heap a L := (I.hok a _ ha).1
  rw [Vals.ref1 r]
  refine sorted_texts (P := X.prog) R (I.ok.hd hc) few fun s' p out c ys k g o hp hg hS pm srt => ?_
  have hlen : (ys.map V.str).length ≤ sizeLine := by
    rw [List.length_map, pm.length_eq, sizeLine_eq]
    omega
  have hn : H p = none := I.hok.fresh hp
  have J : Inv X pins σ (upd H p (.lst (ys.map V.str))) { s with heap := s'.heap, gens := s'.gens, drawn := s'.drawn, toks := s'.toks } :=
    I.call (ch := []) (Un.laid k hp hn) (I.hok.laid k hp ⟨hlen, out.toList, c, vals_of_strs hS, hg⟩) (by rw [g]; exact I.bare) (fun _ z => nomatch z)
  have e : s' = { s with heap := s'.heap, gens := s'.gens, drawn := s'.drawn, toks := s'.toks } := by
    cases s'
    cases s
    cases o
    rfl
  rw [e]
  exact ⟨.ref p, _, J, rfl, q ys p pm srt hn⟩
end
end TSet
end
section
/-! Rules for what an own class defines: o[i] by its __getitem__, a def of a class called off the class, a static method, cls(*xs), an object called by a keyword. -/
namespace OwR
open PySem PySem.Spec PyProof.Rows L2
/-- the class at C has the def at g as its special method nm -/
structure Spc (K : PySem.W.Frag) (C g : Addr) (nm : Str) : Prop where
  at_ : PySem.W.findIn K (.ref C) nm = some (some (.ref g))
  fn : PySem.W.isFn K (.ref g) = true
  fi : PySem.W.fnIn K g = true
section
variable {X : Cx} {CX : CXT} {k i : Nat} {C f g p : Addr} {mc : Value} {sp : Sp} {E : XK} {a b o e : Expr} {es : List Expr} {m x : Str} {ta tb te : TE} {t tk : TA} {pos apos q1 q2 : Pos} {pins : List (Addr × Obj)} {σ : L2.St} {H : Hp} {s : Shared}
/-- a promise kept one step further in -/
theorem run_in {Q : VK} {us : List Value} {vs : List V} (F : FnR X.prog X.w X.K X.mg X.base CX k g sp) (hr : Room (k + 1) X.A) (hx : Passes CX X E) (I : Inv X pins σ H s) (r : Vals vs us) (h : sp vs H Q E) :
    wpAny (model X.prog X.w) X.A.in1 (call (.ref g) us) (EP X pins σ Q) X.xe s := by
  refine wpAny_call (codeAny_mono (F X.A.in1 X.stack s H us vs Q E hr.in1 I.env0.in1 r h) fun r s' hq => ?_)
  cases r with
  | error er => exact hx pins σ H s er s' I hq
  | ok fl =>
    cases fl with
    | ret u => exact I.after hq
    | next => exact False.elim hq
    | brk => exact False.elim hq
    | cont => exact False.elim hq
/-! ### o[i] -/
def tItem (C : Addr) (sp : Sp) (E : XK) (ta tb : TE) : TE := fun σ H Q => ta σ H fun x H1 => tb σ H1 fun y H2 => ∃ p dx fs, x = .ref p ∧ H2 p = some (.ins C dx fs) ∧ sp [.ref p, y] H2 Q E
theorem pe_item (c : Spc X.K C g "__getitem__") (F : FnR X.prog X.w X.K X.mg X.base CX k g sp) (hr : Room (k + 1) X.A) (hx : Passes CX X E) (ha : PE X a ta) (hb : PE X b tb)
    (hsl : ∀ (z : Addr) (v : Value), subscripted b true (.ref z) v = runValue (.builtin "lifetime.subscript" ⟨[.ref z, v], []⟩) := by intros; rfl) : PE X (.Subscript a b pos) (tItem C sp E ta tb) := by
  refine ⟨fun pins s σ H Q I h => ?_⟩
  refine Subscript_ (binT ha hb I h fun v u s2 x y H2 I2 rx ry q => ?_)
  obtain ⟨p, dx, fs, ex, ep, hq⟩ := q
  subst ex
  obtain rfl : v = Value.ref p := rx
  obtain ⟨ox, od, J, _⟩ := StX.insC_at I2 (.inr ⟨dx, fs, ep⟩)
  have KI := I2.kIn
  have hfi := c.fi
  unfold PySem.W.fnIn at hfi
  split at hfi
  · rename_i hg
    unfold subscriptTail getitemInPython
    refine wpAny_bind (wpAny_bind (wpAny_bind (J.type.here ((PySem.W.looks_findIn KI c.at_).here ?_))))
    dsimp only
    refine wpAny_bind (wpAny_load (KI _ _ hg) (wpAny_pure ?_))
    dsimp only
    rw [hsl]
    refine wpAny_bind (wpAny_runValue (codeAny_builtin PySem.W.entry_sub ?_))
    unfold Builtin.«lifetime.subscript»
    refine wpAny_bind (PySem.W.special_fn KI J c.at_ (beq_iff_eq.mp c.fn) (wpAny_mono (run_in (us := [Value.ref p, u]) (vs := [V.ref p, y]) F hr hx I2 (.cons rfl (.cons ry .nil)) hq) (fun v' s' z => ?_) fun _ _ z => z))
    refine wpAny_pure ?_
    show wpAny _ X.A (letTemporaryGo a (.ref p) v' >>= fun _ => pure v') _ _ s'
    exact wpAny_bind (wpAny_letTemporaryGo (wpAny_pure z))
  · cases hfi
/-! ### C.m(e, ..), m a plain def of the class -/
structure CFun (K : PySem.W.Frag) (C : Addr) (mc : Value) (m : Str) (g : Addr) : Prop where
  at_ : PySem.W.findCls K (.ref C) mc m = some (.val (.ref g))
  kp : PySem.W.keepIn K (.ref g) = true
def tCFun (C : Addr) (sp : Sp) (E : XK) (ta : TE) (t : TA) : TE := fun σ H Q => ta σ H fun x H1 => x = .ref C ∧ t σ H1 fun vs H2 => sp vs H2 Q E
theorem pe_cfun {pl : Sem Bool} (he : PE X o ta) (r : ClX.CRead X.K C mc) (c : CFun X.K C mc m g) (F : FnR X.prog X.w X.K X.mg X.base CX k g sp) (hr : Room k X.A) (hx : Passes CX X E) (ha : PA X (e :: es) t)
    (hst : starEach (e :: es) X.env = (false, eval e X.env) :: starEach es X.env := by rfl) (hpl : (backTo pos (starEach es X.env)).any (·.1) = false := by rfl)
    (ht : eval (.Call (.Attribute o m apos) (e :: es) [] pos) X.env = (do
      let ov ← eval o X.env
      standAt apos.atName
      let (f, first) ← holding [ov] (getMethod ov m pl)
      callWith pos f first (backTo pos (starEach (e :: es) X.env)) (backToKw pos (keywordEach [] X.env))) := by rfl) :
    PE X (.Call (.Attribute o m apos) (e :: es) [] pos) (tCFun C sp E ta t) := by
  refine ⟨fun pins s σ H Q I h => ?_⟩
  refine PySem.W.methodCall_KW (pl := pl) (thn (he.run pins s σ H _ I h) fun u s1 ⟨x, H1, I1, rx, ex, q⟩ => ?_) ht
  subst ex
  obtain rfl : u = Value.ref C := rx
  refine PySem.W.method_cls I1.kIn r.ga (PySem.W.cls_value I1.kIn r.rd c.at_ rfl ?_)
  refine PySem.W.callWith_K (first := []) (h₀ := X.base) I1.ok.mod.kin c.kp (thn (ha.run pos pins _ σ H1 _ (I1.tok _) q) fun us s2 ⟨vs, H2, I2, rv, q2⟩ => ⟨I2.kIn, ?_⟩) hst hpl
  exact wpAny_call (run_fnR F hr hx I2 rv q2)
/-! ### C.m(), m a static method -/
structure CSta (K : PySem.W.Frag) (C : Addr) (mc : Value) (m : Str) (p g : Addr) : Prop where
  at_ : PySem.W.findCls K (.ref C) mc m = some (.get (.builtin "staticmethod.__get__") (.ref p) .none (.ref C))
  rc : ∃ rest, PySem.W.recIn K p "staticmethod" = some (.ref g :: rest)
  kp : PySem.W.keepIn K (.ref g) = true
theorem pe_csta0 {pl : Sem Bool} (he : PE X o ta) (r : ClX.CRead X.K C mc) (c : CSta X.K C mc m p g) (F : FnR X.prog X.w X.K X.mg X.base CX k g sp) (hr : Room k X.A) (hx : Passes CX X E)
    (ht : eval (.Call (.Attribute o m apos) [] [] pos) X.env = (do
      let ov ← eval o X.env
      standAt apos.atName
      let (f, first) ← holding [ov] (getMethod ov m pl)
      callWith pos f first (backTo pos (starEach [] X.env)) (backToKw pos (keywordEach [] X.env))) := by rfl) :
    PE X (.Call (.Attribute o m apos) [] [] pos) (tCFun C sp E ta tNil) := by
  refine ⟨fun pins s σ H Q I h => ?_⟩
  refine PySem.W.methodCall_KW (pl := pl) (thn (he.run pins s σ H _ I h) fun u s1 ⟨x, H1, I1, rx, ex, q⟩ => ?_) ht
  subst ex
  obtain rfl : u = Value.ref C := rx
  obtain ⟨rest, hrec⟩ := c.rc
  refine PySem.W.method_cls I1.kIn r.ga (PySem.W.cls_bind I1.kIn r.rd c.at_ ?_)
  refine wpAny_call (PySem.W.sm_get (s := { s1 with toks := s1.toks + 1 }) I1.kIn hrec (PySem.W.handed_on rfl ?_))
  have I2 := I1.tok (s1.toks + 1)
  exact PySem.W.callWith_K0 (first := []) I2.kIn c.kp (wpAny_call (run_fnR (us := []) F hr hx I2 .nil q))
/-! ### cls(*xs), cls a slot that holds the class -/
def tMakeLS (K : PySem.W.Frag) (i : Nat) (C : Addr) (sp : Sp) (E : XK) (te : TE) : TE := fun σ H Q => σ[i]? = some (some (.ref C)) ∧ te σ H fun y H1 => ∃ a xs, y = V.ref a ∧ (SqT K H1 a xs ∨ SqL K H1 a xs) ∧
  ∀ z dz, H1 z = none → H1 dz = none → dz ≠ z → sp (V.ref z :: xs) (upd (upd H1 dz (.own z)) z (.ins C dz [])) (fun v H2 => v = .non ∧ Q (.ref z) H2) E
theorem pe_makeLS (M : Mk X.K C f) (F : FnR X.prog X.w X.K X.mg X.base CX k f sp) (hr : Room (k + 1) X.A) (hN : X.N[i]? = some x) (hv : Vis X.env.scope x) (hx : Passes CX X E) (he : PE X e te)
    (hdb : (x == ("__debug__" : Str)) = false := by decide) (hcd : (x == ("__classdict__" : Str)) = false := by decide) (hst : starEach [.Starred e q1] X.env = [(true, eval e X.env)] := by rfl) :
    PE X (.Call (.Name x q2) [.Starred e q1] [] pos) (tMakeLS X.K i C sp E te) := by
  refine ⟨fun pins s σ H Q I h => ?_⟩
  obtain ⟨hs, ht⟩ := h
  refine wpAny_Call_Name_kw (thn ((pe_var (pos := q2) hN hv hdb hcd).run pins s σ H (fun v H1 => v = .ref C ∧ H1 = H) I ⟨.ref C, hs, rfl, rfl⟩) fun u s1 ⟨v, H1, I1, r1, e1⟩ => ?_)
  obtain ⟨rfl, rfl⟩ := e1
  cases r1
  refine PySem.W.callWith_S (h₀ := X.base) (first := []) I1.ok.mod.kin M.kp (thn (he.run pins s1 σ _ _ I1 ht) fun v s2 ⟨y, H2, I2, ry, a, xs, ey, hxs, q⟩ => ?_) hst
  subst ey
  obtain rfl : v = Value.ref a := ry
  exact StX.star_any I2 hxs fun us s3 I3 rv => ⟨I3.kIn, StX.run_makeR M F hr hx I3 rv q⟩
end
end OwR
end
section
namespace OwR
open PySem PySem.Spec PyProof.Rows L2
open AutoSeq1 (wpAny_loadPart')
/-! ### enumerate(t), t a tuple -/
theorem meets_enumT {v : Value} {o : Obj} {G : Heap → Prop} (B : Begins v o G) :
    Meets (Builtin.«enumerate.__new__» ⟨[.type "enumerate", v], []⟩) (fun _ R s => G s.heap ∧
      R (.ok (.ret (.ref (s.heap.push o).objs.size))) { s with heap := (s.heap.push o).push { cls := .type "enumerate", data := .fields #[.none, .bool false, .ref s.heap.objs.size, rawInt 0, .none, .none] } }) :=
  .of_wp fun prog w A R s h => by
    obtain ⟨hp, g, d, tk, os⟩ := s; obtain ⟨h1, h⟩ := h
    have hsub := sub_enumerate
    have start : ∀ {A' : Around} {E : Value → Shared → Prop} {Q : Value → Shared → Prop}, Q (.ref hp.objs.size) ⟨hp.push o, g, d, tk, os⟩ → wpAny (model prog w) A' (pyIter v) Q E ⟨hp, g, d, tk, os⟩ :=
      fun q => B.iter prog w _ _ ⟨hp, g, d, tk, os⟩ _ h1 q
    wp_walk using start
    refine wpAny_stack_any fun st => wpAny_pure ?_
    split
    · rename_i c _ _ _ _ _
      cases (c == Value.type "enumerate")
      all_goals (wp_walk using start; exact ⟨_, rfl, h⟩)
    · wp_walk using start
      exact ⟨_, rfl, h⟩
section
variable {prog : Program} {w : World} {A : Around} {E : Value → Shared → Prop} {s : Shared}
theorem call_enumT {v : Value} {o : Obj} {G : Heap → Prop} {Q : Value → Shared → Prop} (B : Begins v o G) (h1 : G s.heap)
    (h : ∀ h', IsEnum h' (s.heap.objs.size + 1) s.heap.objs.size 0 .none → h'.get? s.heap.objs.size = some o → (∀ b x, s.heap.get? b = some x → h'.get? b = some x) → Q (.ref (s.heap.objs.size + 1)) { s with heap := h' }) :
    wpAny (model prog w) A (call (.type "enumerate") [v]) Q E s := by
  refine callType_new F.called_enumerate (by decide) (F.typeCall_enumerate_1 _) (F.newCall_enumerate_1 _) (fun obj => F.args_object_init_2 obj _) F.entry_enumerate_new (meets_enumT B) ⟨h1, ?_⟩
  have hz : (s.heap.push o).objs.size = s.heap.objs.size + 1 := Heap.size_push ..
  have he := Heap.get?_push_size (s.heap.push o) (o := { cls := .type "enumerate", data := .fields #[.none, .bool false, .ref s.heap.objs.size, rawInt 0, .none, .none] }) rfl
  rw [hz] at he
  show _ ∧ _
  rw [hz]
  exact ⟨⟨_, he, rfl⟩, h _ he (Heap.get?_push_of_some _ (Heap.get?_push_size _ B.free)) fun b x q => Heap.get?_push_of_some _ (Heap.get?_push_of_some _ q)⟩
end
/-- the tuple at a at each turn: its item in a new pair -/
def IteT (K : PySem.W.Frag) (a : Addr) : It :=
  ⟨fun i H => ∃ (xs : List V) (x : V), SqT K H a xs ∧ xs[i]? = some x, fun i H v H' => ∃ T x, v = .ref T ∧ H T = none ∧ H' = upd H T (.tup [.int (i : Nat), x]) ∧ ∀ xs, SqT K H a xs → xs[i]? = some x, fun i H => ∃ xs : List V, SqT K H a xs ∧ xs.length ≤ i⟩
theorem tup_one {X : Cx} {pins : List (Addr × Obj)} {σ : L2.St} {H : Hp} {s : Shared} {a : Addr} {xs ys : List V} (I : Inv X pins σ H s) (h : SqT X.K H a xs) (h' : SqT X.K H a ys) : xs = ys := by
  first | exact I.tup_inj h h' | exact I.tuple_inj h h'
theorem turn_enumT {P : Program} {w : World} {K : PySem.W.Frag} {elts : List Expr} {kk : Nat} {tpos : Pos} (a e it : Addr) (hane : a ≠ it) :
    Turn P w K (.Tuple elts kk tpos) (IteT K a) [e, it] e (fun i h => (∃ old, IsEnum h e it ((i : Nat) : Int) old) ∧ h.IsTupleIter it a i ∧ e ≠ it ∧ a ≠ e) where
  mem := by simp
  obj := fun i h st b hb => by
    obtain ⟨⟨old, he⟩, ⟨o, ho, hc, hd⟩, _⟩ := st
    rcases List.mem_cons.mp hb with z | z
    · rw [z]; exact ⟨_, he, fun v q => nomatch q⟩
    · rw [List.mem_singleton.mp z]; exact ⟨o, ho, fun v q => by rw [hd] at q; cases q⟩
  keep := fun i h h' st k => let ⟨⟨old, he⟩, hi, hne⟩ := st; ⟨⟨old, k e (by simp) _ he⟩, hi.at fun o q => k it (by simp) o q, hne⟩
  item := by
    intro X hP hw hK hc i pins s σ H E I hf st hg
    subst hP hw hK
    obtain ⟨⟨old, he⟩, hit, hne, hae⟩ := st
    obtain ⟨xs, x, hq, hx⟩ := hg
    obtain ⟨its, rv, p, hz⟩ := I.tuple hq
    obtain ⟨u, hu, ru⟩ := rv.get hx
    have hel : e < s.heap.objs.size := Heap.lt_size he
    have hil : it < s.heap.objs.size := by obtain ⟨_, q, _⟩ := hit; exact Heap.lt_size q
    have hlt : i < its.toArray.size := by
      rw [List.size_toArray]
      exact (List.getElem?_eq_some_iff.mp hu).1
    have D : Draws X.prog X.w X.A.in1 it [it, a] its.toArray.size _ _ := Draws.tuple (A := X.A.in1) (show X.A.in1.handled = none from I.ok.hd hc) it a hane its.toArray
    refine wpAny_pyNext_enum_itemD D he ⟨hit, p⟩ hlt hne (by simp [hne, Ne.symm hae]) fun y h' tk hy ho hst hT hsz hk => ?_
    have ey : y = u := by
      have q : its.toArray[i]? = some u := by simpa using hu
      exact Option.some.inj (hy.symm.trans q)
    subst ey
    refine ⟨_, rfl, wpAny_letOwnedTupleGo_enum (s := { s with heap := h', toks := tk + 1 }) ho fun h'' he' sb => ?_⟩
    have hT2 : h''.get? s.heap.objs.size = some { cls := .type "tuple", data := .seq #[.int i tk, y] } := (sb.2 _ (Nat.ne_of_gt hel)).trans hT
    have new : ObjOk X.prog X.w (upd H s.heap.objs.size (.tup [.int (i : Nat), x])) h'' s.heap.objs.size (.tup [.int (i : Nat), x]) :=
      ⟨by show 2 ≤ sizeLine; decide, [.int i tk, y], .cons ⟨_, rfl⟩ (.cons ru .nil), ⟨_, hT2, rfl, _, rfl⟩⟩
    have I1 : Inv X pins σ (upd H s.heap.objs.size (.tup [.int (i : Nat), x])) { s with heap := h'', toks := tk + 1 } :=
      I.turnedNew (ch := [e, it]) (fun b ob hb q => (sb.2 b (fun z => hb (by simp [z]))).trans (hk b ob (fun z => hb (by simp [z])) (fun z => hb (by simp [z])) q)) hf (Nat.le_refl _) new
    refine ⟨.ref s.heap.objs.size, _, I1, rfl, ⟨_, x, rfl, I.hok.fresh (Nat.le_refl _), rfl, fun ys hy' => by rw [tup_one I hy' hq]; exact hx⟩, ⟨⟨y, ?_⟩, hst.1.at fun o q => (sb.2 it (Ne.symm hne)).trans q, hne, hae⟩, fun b hb => ?_⟩
    · have e1 : ((i + 1 : Nat) : Int) = (i : Int) + 1 := by omega
      rw [e1]; exact he'
    · have hb' : b < s.heap.objs.size := by
        rcases List.mem_cons.mp hb with z | z
        · rw [z]; exact hel
        · rw [List.mem_singleton.mp z]; exact hil
      rw [upd_ne (Nat.ne_of_lt hb')]
      exact (hf b hb).1
  done := by
    intro X hP hw hK hc i pins s σ H E I hf st hg
    subst hP hw hK
    obtain ⟨⟨old, he⟩, hit, hne, hae⟩ := st
    obtain ⟨xs, hq, hx⟩ := hg
    obtain ⟨its, rv, p, hz⟩ := I.tuple hq
    obtain ⟨f0, f1, f2, f3, f4, f5⟩ := hf it (by simp)
    have hl := rv.length
    have hgt : its.toArray[i]? = none := by simp; omega
    unfold pyNext
    refine wpAny_bind (wpAny_attempt (wpAny_callSpecial?_slot (name := Str.ofString "__next__") ⟨_, he, rfl⟩ F.slot_enumerate_next
      (wpAny_call_entry F.slot_enumerate_next ⟨_, he, rfl⟩ F.entry_enumerate_next ?_ (F.args_enumerate_next_1 _))))
    show wpAny _ _ (field (.ref e) 2 >>= _) _ _ _
    refine wpAny_bind (wpAny_field he rfl (x := .ref it) rfl ?_)
    refine wpAny_bind (wpAny_nextOf_tuple_end (I.ok.hd hc) hit p hgt fun h' z he' hz' => ?_)
    obtain ⟨o, ho, hcl⟩ := hz'
    refine wpAny_bind (wpAny_isInstance (T := "StopIteration") (b := true) ⟨o, ho, hcl⟩ isSubtype_stop ?_)
    exact wpAny_pure ⟨rfl, I.turned (t' := s.toks) (fun b o hb q => he' b o hb q) f0 f1 f3 f4 f5⟩
  self := fun A i s Q E st h => let ⟨⟨_, he⟩, _⟩ := st; wpAny_pyIter_enum he h
def iEnumT (K : PySem.W.Frag) (ta : TA) : TI := fun σ H R => ta σ H fun vs H1 => ∃ a xs, vs = [.ref a] ∧ SqT K H1 a xs ∧ R (IteT K a) H1
theorem pi_enumT {X : Cx} {e : Expr} {ta : TA} {p pos tpos : Pos} {elts : List Expr} {kk : Nat} (hg : Gl X "enumerate") (hm : X.mg "enumerate" = none) (ha : PA X [e] ta) (hs : starEach [e] X.env = [(false, eval e X.env)] := by rfl) :
    PI X (.Tuple elts kk tpos) (.Call (.Name "enumerate" p) [e] [] pos) (iEnumT X.K ta) := by
  refine ⟨fun pins s σ H R I h => ?_⟩
  refine Call_ (ld_blt I hg hm boot_enumerate (PyProof.Rows.callWith_type1 (thn (ha.run pos pins s σ H _ I h) fun us s1 ⟨vs, H1, I1, r1, q1⟩ => ?_) hs rfl))
  obtain ⟨a, xs, ex, hq, q⟩ := q1
  subst ex
  cases r1 with
  | cons r rr =>
    cases rr
    cases r
    obtain ⟨its, rv, p', hz⟩ := I1.tuple hq
    have hal : a < s1.heap.objs.size := p'.lt
    refine call_enumT (begins_tuple a its.toArray) p' fun h' he hit hk => wpAny_pyIter_enum he ?_
    have I2 : Inv X pins σ H1 { s1 with heap := h' } := I1.kept (t' := s1.toks) hk
    refine ⟨s1.heap.objs.size + 1, [s1.heap.objs.size + 1, s1.heap.objs.size], _, _, H1, rfl, I2, turn_enumT a (s1.heap.objs.size + 1) s1.heap.objs.size (Nat.ne_of_lt hal),
      ⟨⟨.none, he⟩, ⟨_, hit, rfl, rfl⟩, Nat.succ_ne_self _, Nat.ne_of_lt (Nat.lt_succ_of_lt hal)⟩, fun b hb => ?_, q⟩
    have hle : s1.heap.objs.size ≤ b := by
      rcases List.mem_cons.mp hb with z | z
      · rw [z]; exact Nat.le_add_right _ _
      · rw [List.mem_singleton.mp z]; exact Nat.le_refl _
    exact I1.fpOk hle (I1.hok.fresh hle)
end OwR
end
section
namespace OwR
open PySem PySem.Spec PyProof.Rows L2
/-! ### t[::-1], t a tuple -/
theorem places_back (n : Nat) : Builtin.Slice.slicePlaces ((n : Int) - 1) (-1) (-1) = n := by
  unfold Builtin.Slice.slicePlaces
  rw [if_neg (by decide)]
  split
  · have e : ((n : Int) - 1 - -1 - 1) / (- -1) + 1 = (n : Int) := by
      rw [show (- -1 : Int) = 1 by decide, Int.ediv_one]
      omega
    rw [e]
    exact Int.toNat_natCast n
  · rename_i h
    have : n = 0 := by omega
    subst this
    rfl
theorem fm_same {α β : Type} {f g : α → Option β} : ∀ l : List α, (∀ x ∈ l, f x = g x) → l.filterMap f = l.filterMap g
  | [], _ => rfl
  | x :: l, h => by
    rw [List.filterMap_cons, List.filterMap_cons, h x List.mem_cons_self, fm_same l fun y hy => h y (List.mem_cons_of_mem _ hy)]
theorem pick_back (xs : Array Value) : ((List.range xs.size).filterMap fun (m : Nat) => xs[(((xs.size : Int) - 1) + (m : Int) * (-1)).toNat]?) = xs.toList.reverse := by
  rw [← PySem.W.krv_all xs, ← List.filterMap_reverse, ← PySem.W.krv_range, List.filterMap_map]
  refine fm_same _ fun m hm => ?_
  have hlt := List.mem_range.mp hm
  have e : (((xs.size : Int) - 1) + (m : Int) * (-1)).toNat = xs.size - 1 - m := by omega
  rw [e]
  rfl
section
variable {prog : Program} {w : World} {A : Around} {E : Value → Shared → Prop} {s : Shared}
theorem applied_back {sl : Addr} {vl vu vs : Value} {n : Nat} {Q : Int × Int × Nat → Shared → Prop} (hs : s.heap.IsSliceOf sl vl vu vs) (pl : IsPart vl none) (pu : IsPart vu none) (ps : IsPart vs (some (-1)))
    (h : Q ((n : Int) - 1, -1, n) s) : wpAny (model prog w) A (Builtin.Slice.sliceApplied (.ref sl) (pure (n : Int))) Q E s := by
  obtain ⟨os, hos, hcs, hds⟩ := id hs
  unfold Builtin.Slice.sliceApplied Builtin.Slice.sliceFields
  refine wpAny_bind (wpAny_bind (wpAny_field hos hds (x := vl) rfl (wpAny_bind (wpAny_field hos hds (x := vu) rfl (wpAny_bind (wpAny_field hos hds (x := vs) rfl (wpAny_pure ?_)))))))
  refine wpAny_bind (HT.slicePart_ ps ?_)
  show wpAny _ _ (if ((-1 : Int) == 0) = true then _ else _) _ _ s
  rw [if_neg (by decide)]
  refine wpAny_bind (HT.slicePart_ pl (wpAny_bind (HT.slicePart_ pu (wpAny_bind (wpAny_pure ?_)))))
  show wpAny _ _ (pure ((n : Int) - 1, (-1 : Int), Builtin.Slice.slicePlaces ((n : Int) - 1) (-1) (-1))) _ _ s
  rw [places_back]
  exact wpAny_pure h
theorem getTup_back {t sl : Addr} {items : Array Value} {vl vu vs : Value} {Q : Value → Shared → Prop} (ht : IsTup s.heap t items) (hs : s.heap.IsSliceOf sl vl vu vs) (pl : IsPart vl none) (pu : IsPart vu none) (ps : IsPart vs (some (-1)))
    (hsz : items.size ≤ sizeLine) (h : Q (.ref s.heap.objs.size) { s with heap := s.heap.push { cls := .type "tuple", data := .seq items.toList.reverse.toArray } }) : wpAny (model prog w) A (getItem (.ref t) (.ref sl)) Q E s := by
  obtain ⟨os, hos, hcs, hds⟩ := id hs
  have hTs : s.TypeIs (.ref sl) "slice" := ⟨os, hos, hcs⟩
  have hok : sizeOk (.seq items.toList.reverse.toArray) := by
    show items.toList.reverse.toArray.size ≤ sizeLine
    rw [List.size_toArray, List.length_reverse, Array.length_toList]
    exact hsz
  unfold getItem
  try with_reducible refine wpAny_holding ?_
  first | refine wpAny_bind (wpAny_pure ?_) | skip
  refine wpAny_bind (wpAny_sequenceKey ht.typeIs (by decide) ?_)
  refine wpAny_bind (wpAny_callSpecial?_slot (name := Str.ofString "__getitem__") ht.typeIs PyProof.Rows.slot_tuple_getitem
    (wpAny_call_entry PyProof.Rows.slot_tuple_getitem ht.typeIs entry_tuple_getitem ?_ (args_tuple_getitem _ _)))
  show wpAny _ _ (Builtin.Tuple.tupleItemsOf (.ref t) >>= _) _ _ s
  refine wpAny_bind (tupleItemsOf_ ht (wpAny_bind (wpAny_typeOf hTs ?_)))
  rw [if_pos (by decide)]
  refine wpAny_bind (applied_back hs pl pu ps ?_)
  have hno : ¬ ((((items.size : Int) - 1) == 0 && (-1 : Int) == 1 && items.size == items.size) = true) := by
    intro q
    rw [Bool.and_eq_true, Bool.and_eq_true] at q
    exact absurd q.1.2 (by decide)
  show wpAny _ _ (if ((((items.size : Int) - 1) == 0 && (-1 : Int) == 1 && items.size == items.size) = true) then _ else _) _ _ s
  rw [if_neg hno]
  have e := pick_back items
  first
    | (rw [e]; exact wpAny_bind (m := Builtin.Tuple.tupleExact _) (wpAny_newObj_type (wpAny_pure ⟨_, rfl, wpAny_pure h⟩) hok))
    | (rw [e]; exact wpAny_bind (m := Builtin.Tuple.tupleExact _) (wpAny_newObj_type (wpAny_bind (wpAny_pure (wpAny_pure ⟨_, rfl, wpAny_pure h⟩))) hok))
    | (rw [e]; exact wpAny_bind (wpAny_bind (m := Builtin.Tuple.tupleExact _) (wpAny_newObj_type (wpAny_pure (wpAny_pure ⟨_, rfl, wpAny_pure h⟩)) hok)))
    | (rw [e]; exact wpAny_bind (wpAny_bind (m := Builtin.Tuple.tupleExact _) (wpAny_newObj_type (wpAny_pure ⟨_, rfl, wpAny_pure h⟩) hok)))
end
def tRevT (K : PySem.W.Frag) (te : TE) : TE := fun σ H Q => te σ H fun x H1 => ∃ a xs, x = .ref a ∧ SqT K H1 a xs ∧ ∀ p, H1 p = none → Q (.ref p) (upd H1 p (.tup xs.reverse))
theorem pe_revT {X : Cx} {e : Expr} {te : TE} {k : Nat} {p1 p2 p3 pos : Pos} (he : PE X e te) : PE X (.Subscript e (.Slice none none (some (.UnaryOp .USub (.Constant (.int 1) k p1) p2)) p3) pos) (tRevT X.K te) := by
  refine ⟨fun pins s σ H Q I h => ?_⟩
  refine Subscript_ (thn (he.run pins s σ H _ I h) fun v s1 ⟨x, H1, I1, r1, a, xs, ex, hx, q⟩ => ?_)
  subst ex
  cases r1
  have hst : PO X (some (.UnaryOp .USub (.Constant (.int 1) k p1) p2)) (tPart (tUn (rU fun i => .int (-i)) (tC (.int 1)))) := po_some (pe_un un_neg pe_int)
  refine wpAny_Slice (thn (po_none.run pins s1 σ H1 (fun o H2 => o = none ∧ H2 = H1) I1 ⟨rfl, rfl⟩) fun vl s2 ⟨l, H2, I2, pl, el, e2⟩ => ?_)
  subst el e2
  refine thn (po_none.run pins s2 σ H2 (fun o H3 => o = none ∧ H3 = H2) I2 ⟨rfl, rfl⟩) fun vu s3 ⟨u, H3, I3, pu, eu, e3⟩ => ?_
  subst eu e3
  refine thn (hst.run pins s3 σ H3 (fun o H4 => o = some (-1) ∧ H4 = H3) I3 ⟨1, rfl, -1, rfl, rfl, rfl⟩) fun vs s4 ⟨o, H4, I4, ps, eo, e4⟩ => ?_
  subst eo e4
  have I5 : Inv X pins σ H4 { s4 with heap := s4.heap.push { cls := .type "slice", data := .fields #[vl, vu, vs] } } := I4.kept (t' := s4.toks) fun b ob q => Heap.get?_push_of_some _ q
  obtain ⟨its, r, ht, hz⟩ := I5.tuple hx
  have hlen := r.length
  show wpAny (model X.prog X.w) X.A (subscriptTail e (.Slice none none (some (.UnaryOp .USub (.Constant (.int 1) k p1) p2)) p3) (.ref a) (.ref s4.heap.objs.size)) (EP X pins σ Q) X.xe { s4 with heap := s4.heap.push { cls := .type "slice", data := .fields #[vl, vu, vs] } }
  refine tail_any (ops := [.ref a, .ref s4.heap.objs.size]) ht.typeIs (PyProof.Rows.slot_tuple_getitem.lookup) ?_ (by with_unfolding_all rfl)
  refine getTup_back ht (Heap.IsSliceOf.new _ vl vu vs) pl pu ps (by rw [List.size_toArray]; omega) ?_
  refine ⟨.ref _, _, I5.laid (t' := s4.toks) (o := .tup xs.reverse) (fun b ob q => Heap.get?_push_of_some _ q) (Nat.le_refl _) ?_, rfl, q _ (I5.hok.fresh (Nat.le_refl _))⟩
  exact ⟨by rw [List.length_reverse]; exact hz, its.toArray.toList.reverse, r.reverse, ⟨_, Heap.get?_push_size _ rfl, rfl, 0, rfl⟩⟩
end OwR
end
section
namespace OwR
open PySem PySem.Spec PyProof.Rows L2
/-! ### def f(a, .., **d), called without keywords: an empty dict beside -/
section
variable {CX : CXT} {P : Program} {w : World} {K : PySem.W.Frag} {mg : Str → Option Value} {base : Heap} {k : Nat} {f : Addr} {name qual : Str} {params : Arguments} {body : List Stmt} {scope : Scope} {dV kV doc pm cdv ct oc : Value} {an od : Option Addr}
  {osl : Array (Option Value)} {N ps : List Str} {sp : Sp}
theorem fn_kw {pd : Str} (lk : K.lookup f = some ⟨oc, od, .func (PySem.W.fnOf name qual params body scope dV kV doc pm an cdv ct), osl⟩) (hcd : PySem.W.codeIn K cdv qual = true) (S : FnScope N (ps ++ [pd]) scope) (hCX : StX.CXUp CX)
    (hb : ∀ us : List Value, us.length = ps.length → bindArgs (PySem.W.fnOf name qual params body scope dV kV doc pm an cdv ct) ⟨us, []⟩ = ((alloc ({ cls := .type "dict", data := .dict #[] } : Obj) : Sem Addr) >>= fun d => pure (ps.zip us ++ [(pd, Value.ref d)])))
    (hbody : ∀ (A : Around) (outer : List Env) (s : Shared) (H : Hp) (vs : List V) (Q : VK) (E : XK), Room k (A.deeper (envOfC qual scope s.heap.objs.size f cdv)) → sp vs H Q E →
      ∃ t, PSs (cxOf CX P w K mg base N qual scope f cdv A outer s H E) body t ∧ t { nx := fun _ H' => Q .non H', rt := Q } (start N vs) H) :
    FnR P w K mg base CX (k + 1) f (fun vs H Q E => vs.length = ps.length ∧ ∀ d, H d = Option.none → sp (vs ++ [V.ref d]) (upd H d (.dK [])) Q E) := by
  intro A outer s H us vs Q E hr e0 r hsp
  obtain ⟨hl, hq⟩ := hsp
  have hn : H s.heap.objs.size = Option.none := e0.hok.fresh (Nat.le_refl _)
  have hl1 : us.length = ps.length := by rw [← r.length]; exact hl
  refine StX.run_bnd lk hcd S hr e0 (G := fun xs H2 => ∃ d, H d = Option.none ∧ xs = vs ++ [V.ref d] ∧ H2 = upd H d (.dK [])) (fun A' Ex Q' h => ?_) fun s2 H2 xs ⟨d, hd, ex, eH⟩ hr' => ?_
  · rw [hb us hl1]
    refine wpAny_bind (wpAny_alloc (wpAny_pure ?_))
    have e1 := StX.env0_laid (u := .dK []) (o := ({ cls := .type "dict", data := .dict #[] } : Obj)) e0 (dk_empty _ (StX.env0_big e0))
    have un := StX.un_laid (fs := frs outer) (s := s) (o := ({ cls := .type "dict", data := .dict #[] } : Obj)) (u := .dK []) hn
    have z := h _ _ (vs ++ [V.ref s.heap.objs.size]) (us ++ [Value.ref s.heap.objs.size]) e1 un rfl (fun e s' => hCX outer s H _ _ E e s' un (fun b o q => Heap.get?_push_of_some _ q) rfl) (r.append (.cons rfl .nil))
      (by rw [List.length_append, List.length_append, hl] <;> rfl) ⟨_, hn, rfl, rfl⟩
    rw [List.zip_append hl1.symm] at z
    exact z
  · subst ex eH
    exact hbody A outer s2 _ _ Q E hr' (hq d hd)
/-! ### a def called where no guard stands (repr of lists wants that) -/
def FnG (P : Program) (w : World) (K : PySem.W.Frag) (mg : Str → Option Value) (base : Heap) (CX : CXT) (k : Nat) (f : Addr) (fd : FuncData) (ps : List Str) (sp : Sp) : Prop :=
  ∀ (A : Around) (outer : List Env) (s : Shared) (H : Hp) (args : Args) (us : List Value) (vs : List V) (Q : VK) (E : XK), A.guards = some [] → Room k A → Env0 P w K mg base A outer s H → BindsTo s fd args (ps.zip us) → Vals vs us → sp vs H Q E →
    codeAny (model P w) A (.call (.ref f) args) (CR CX outer P w H s Q E) s
theorem fn_ofG (lk : K.lookup f = some ⟨oc, od, .func (PySem.W.fnOf name qual params body scope dV kV doc pm an cdv ct), osl⟩) (hcd : PySem.W.codeIn K cdv qual = true) (S : FnScope N ps scope)
    (len : ∀ vs H Q E, sp vs H Q E → vs.length = ps.length)
    (hbody : ∀ (A : Around) (outer : List Env) (s : Shared) (H : Hp) (vs : List V) (Q : VK) (E : XK), A.guards = some [] → Room k (A.deeper (envOfC qual scope s.heap.objs.size f cdv)) → sp vs H Q E →
      ∃ t, PSs (cxOf CX P w K mg base N qual scope f cdv A outer s H E) body t ∧ t { nx := fun _ H' => Q .non H', rt := Q } (start N vs) H) :
    FnG P w K mg base CX (k + 1) f (PySem.W.fnOf name qual params body scope dV kV doc pm an cdv ct) ps sp := by
  intro A outer s H args us vs Q E hgd hr e0 hb r hsp
  have hl := len _ _ _ _ hsp
  have KS : K.In s.heap := e0.mod.kin.keeps fun b o e => (e0.bs b o e).1
  have lims : s.heap.NoLimit := e0.mod.nolimit.keeps fun b o e => (e0.bs b o e).1
  have kinds : ∀ y ∈ ps.zip us, scope.names.lookup y.1 = some .local ∨ (scope.names.lookup y.1 = some .cell ∧ ((cellsFrom (s.heap.objs.size + 1) scope.names []).lookup y.1).isSome = true) := fun y hy =>
    (S.par y.1 (List.of_mem_zip hy).1).imp id fun q => ⟨q, PySem.W.cellsFrom_some _ _ _ (.inl q)⟩
  refine codeAny_call_function hr.depth (KS _ _ lk) rfl S.co S.gen rfl (PySem.W.codeRec_of KS hcd) (hb _ _ _ _ ?_)
  refine wpAny_newFunctionEnv_cells S.kind kinds fun env he s1 x => ?_
  subst he
  refine ⟨lims.keeps x.toInCall.keep, codeAny_func ?_⟩
  obtain ⟨t, ht, hq⟩ := hbody A outer s H vs Q E hgd (hr.deeper _) hsp
  have I : Inv (cxOf CX P w K mg base N qual scope f cdv A outer s H E) [] (start N vs) H s1 := inv_start S hr.hd e0 hl r x
  refine wpAny_mono (ht.run [] s1 (start N vs) H _ I hq) (fun fl s' hs => ?_) fun _ _ z => z
  have done : ∀ {σ' : L2.St} {H' : Hp} {v : V} {u : Value}, Inv (cxOf CX P w K mg base N qual scope f cdv A outer s H E) [] σ' H' s' → RelV v u → Q v H' → CE outer P w H s Q u s' :=
    fun {σ' H' v u} J rv q => ⟨v, H', J.os, J.bare, J.base, J.hok, rv, q⟩
  cases fl with
  | ret u =>
    obtain ⟨v, σ', H', J, rv, q⟩ := hs
    exact done J rv q
  | next =>
    obtain ⟨σ', H', J, q⟩ := hs
    exact done (v := V.non) (u := Value.none) J rfl q
  | brk => exact (hs.elim fun _ z => z.elim fun _ z => z.2.elim)
  | cont => exact (hs.elim fun _ z => z.elim fun _ z => z.2.elim)
end
/-! ### repr of data -/
def rReprD (K : PySem.W.Frag) : List V → Hp → VK → Prop := fun vs H Q => ∃ a d, vs = [V.ref a] ∧ Dp K H (.ref a) d ∧ d.showable = true ∧ d.hasDict = false ∧ d.depth ≤ 64 ∧ d.shown.length ≤ sizeLine ∧ Q (.str d.shown) H
theorem cr_reprD {X : Cx} (hg : X.A.guards = some []) (hu : X.A.units + 70 < cLine) : CallR X (.builtin "repr") (rReprD X.K) := by
  intro pins s σ H vs us Q I r h
  obtain ⟨a, d, rfl, hd, hs, hnd, hdp, hsz, q⟩ := h
  rw [Vals.ref1 r]
  obtain ⟨as, R⟩ := Dp.reads I d _ (.ref a) hd rfl
  refine repr_of_reads' R hs (fun z => by rw [hnd] at z; cases z) hg (by omega) (fun _ _ e => e) (fun h' u tk k => ?_) hsz
  exact ⟨.str d.shown, H, I.kept (t' := tk) k, ⟨u, rfl⟩, q⟩
/-! ### an object called with keywords alone -/
theorem callOK_of {M : Model} {A : Around} {E : Value → Shared → Prop} {s : Shared} {a : Addr} {pos : Pos} {Q : Value → Shared → Prop} {args : List (Bool × Sem Value)} {kws : List (Option Str × Sem Value)} (hpl : (args.any (·.1) || kws.any (·.1.isNone)) = false)
    (h : wpAny M A (evalArgs (.ref a) true args kws) (fun z s₁ => (∃ C ox od, PySem.W.InstAt s₁.heap a ox C od ∧ ox.data = .plain) ∧ wpAny M A (call (.ref a) ([] ++ z.pos) z.kw) Q E s₁) E s) : wpAny M A (callWith pos (.ref a) [] args kws) Q E s := by
  unfold callWith
  refine wpAny_bind (wpAny_holding (wpAny_mono h (fun z s₂ h₁ => wpAny_bind (wpAny_standAt ?_)) fun _ _ y => y))
  obtain ⟨⟨C, ox, od, J, hd⟩, h₂⟩ := h₁
  have L := PySem.W.kco_keeper (M := M) J hd
  simp only [hpl]
  refine wpAny_bind (L.here ?_)
  have rest : ∀ {t : Sem Value}, wpAny M A t Q E s₂ → wpAny M A (t >>= fun r => holding [r] point >>= fun _ => pure r) Q E s₂ :=
    fun ht => wpAny_bind (wpAny_mono ht (fun _ _ hr => wpAny_bind (wpAny_holding (wpAny_point (wpAny_pure hr)))) fun _ _ y => y)
  exact rest (wpAny_operateT h₂)
section
variable {X : Cx} {CX : CXT} {k : Nat} {C g : Addr} {fd : FuncData} {ps ks : List Str} {sp : Sp} {E : XK} {fe : Expr} {kws : List Keyword} {tf : TE} {tk : TA} {pos : Pos} {gg : List Value → List Value → List Value} {gV : List V → List V → List V}
def tCallOK (X : Cx) (C : Addr) (sp : Sp) (gV : List V → List V → List V) (E : XK) (tf : TE) (tk : TA) : TE := fun σ H Q => tf σ H fun y H1 => ∃ a, y = V.ref a ∧ tk σ H1 fun zs H2 => StX.InsC X H2 a C ∧ sp (gV [V.ref a] zs) H2 Q E
theorem pe_callOK (hf : PE X fe tf) (c : StX.CallO X.K C g) (F : FnOk X.prog X.w X.K X.mg X.base CX k g fd ps sp) (hr : Room k X.A) (hb : KBinds X.K fd ps ks gg gV) (hx : Passes CX X E) (hkw : PK X kws tk)
    (ht : eval (.Call fe [] kws pos) X.env = (do callWith pos (← eval fe X.env) [] (backTo pos (starEach [] X.env)) (backToKw pos (keywordEach kws X.env))) := by rfl)
    (hall : (backToKw pos (keywordEach kws X.env)).all (·.1.isSome) = true := by rfl) (hks : (backToKw pos (keywordEach kws X.env)).filterMap (·.1) = ks := by rfl)
    (hpl : ((backTo pos (starEach [] X.env)).any (·.1) || (backToKw pos (keywordEach kws X.env)).any (·.1.isNone)) = false := by rfl) : PE X (.Call fe [] kws pos) (tCallOK X C sp gV E tf tk) := by
  refine ⟨fun pins s σ H Q I h => ?_⟩
  rw [ht]
  refine wpAny_bind (thn (hf.run pins s σ H _ I h) fun u s1 ⟨y, H1, I1, ry, a, ey, q⟩ => ?_)
  subst ey
  obtain rfl : u = Value.ref a := ry
  refine callOK_of hpl (evalArgs_kw2_nil hall (thn (hkw.run pos pins s1 σ H1 _ I1 q) fun ws s2 ⟨zs, H2, I2, rz, hi, q2⟩ => ?_))
  obtain ⟨ox, od, J, hd⟩ := StX.insC_at I2 hi
  refine ⟨⟨C, ox, od, J, hd⟩, ?_⟩
  rw [hks]
  have r1 : Vals [V.ref a] [Value.ref a] := .cons rfl .nil
  have r2 := hb.rel r1 rz
  have hl : (gg [Value.ref a] ws).length = ps.length := by rw [← r2.length]; exact F.len _ _ _ _ q2
  refine wpAny_call (PySem.W.kco_code I2.kIn J hd c.at_ c.fn c.fi (codeAny_mono (F.run X.A X.stack s2 H2 ⟨[.ref a], ks.zip ws⟩ (gg [.ref a] ws) (gV [.ref a] zs) Q E hr I2.env0 (hb.to s2 [.ref a] ws I2.kIn hl) r2 q2) fun r s' hq => ?_))
  cases r with
  | error e => exact hx pins σ H2 s2 e s' I2 hq
  | ok fl =>
    cases fl with
    | ret u => exact I2.after hq
    | next => exact False.elim hq
    | brk => exact False.elim hq
    | cont => exact False.elim hq
end
end OwR
end
section
namespace OwR
open PySem PySem.Spec PyProof.Rows L2
/-! ### tuple(d), d a dict: its keys -/
section
variable {prog : Program} {w : World} {A : Around} {E : Value → Shared → Prop} {s : Shared} {T : String} {r d : Addr} {n : Nat} {P : Nat → Value → Prop} {OK : Heap → Prop}
theorem collect_src {Q : List Value → Shared → Prop} (K : PySem.W.KdlSrc prog w T r d n P OK) (hh : A.handled = none) (hok : OK s.heap) (hn : n ≤ sizeLine)
    (hQ : ∀ h' tk (out : List Value), (∀ b o, s.heap.get? b = some o → h'.get? b = some o) → out.length = n → (∀ j v, out[j]? = some v → P j v) → Q out { s with heap := h', toks := tk }) :
    wpAny (model prog w) A (collect (.ref r)) Q E s := by
  unfold collect
  refine wpAny_bind (wpAny_runValue (codeAny_builtin F.entry_proto_collect ?_))
  rw [Around.under_plainId F.plain_proto_collect _]
  show wpAny _ A.in1 (newList [] >>= fun l => again (.builtin "list.__iadd__" ⟨[l, .ref r], []⟩)) _ _ s
  refine wpAny_bind (wpAny_newObj_type ?_)
  refine wpAny_pure ⟨plainId_quiet F.plain_list_iadd _, codeAny_builtin F.entry_list_iadd ?_⟩
  rw [Around.under_plainId F.plain_list_iadd _]
  have there := K.there _ hok
  have hS : (s.heap.push { cls := .type "list", data := .seq ([] : List Value).toArray }).get? s.heap.objs.size = some { cls := .type "list", data := .seq #[] 0 } := Heap.get?_push_size _ rfl
  have fin : ∀ h' tk (acc : Array Value) (c : Nat), (∀ b o, b ≠ s.heap.objs.size → (s.heap.push { cls := .type "list", data := .seq ([] : List Value).toArray }).get? b = some o → h'.get? b = some o) →
      h'.get? s.heap.objs.size = some { cls := .type "list", dict := none, data := .seq acc c, slots := #[] } → ItemsOf P acc n →
      wpAny (model prog w) A (load s.heap.objs.size >>= fun ob => match ob.data with
        | .seq vs _ => pure vs.toList
        | _ => unsupported "internal:collect") Q E { s with heap := h', toks := tk } := fun h' tk acc c k hS' hacc =>
    wpAny_bind (wpAny_load hS' (wpAny_pure (hQ h' tk acc.toList (fun b o e => k b o (Nat.ne_of_lt (Heap.lt_size e)) (Heap.get?_push_of_some _ e)) (by rw [Array.length_toList]; exact hacc.1) fun j v e => hacc.2 j v (by rw [← Array.getElem?_toList]; exact e))))
  refine wpAny_mono (PySem.W.kdl_extend (A := A) (R := fun r s' => r = .ok (.ret (.ref s.heap.objs.size)) ∧ wpAny (model prog w) A (load s.heap.objs.size >>= fun ob => match ob.data with
        | .seq vs _ => pure vs.toList
        | _ => unsupported "internal:collect") Q E s') (s := { s with heap := s.heap.push { cls := .type "list", data := .seq ([] : List Value).toArray } }) K hh (K.keep _ _ hok fun b _ o e => Heap.get?_push_of_some _ e) s.heap.objs.size
    (Nat.ne_of_gt there.1) (Nat.ne_of_gt there.2) (.ref s.heap.objs.size) 0 hS (fun h' tk acc c k hS' hacc => ⟨rfl, fin h' tk acc c k hS' hacc⟩) hn) (fun f s' h => ?_) fun e s' h => ?_
  · cases f with
    | done f =>
      obtain ⟨e, z⟩ := h
      cases e
      exact z
    | again c' => exact ⟨h.1, codeAny_mono h.2 fun r s2 hr => by obtain ⟨rfl, z⟩ := hr; exact z⟩
  · cases h.1
theorem call_tuple_src {Q : Value → Shared → Prop} (K : PySem.W.KdlSrc prog w T r d n P OK) (hok : OK s.heap) (hn : n ≤ sizeLine) (hh : A.handled = none)
    (hQ : ∀ (h' : Heap) (tk : Nat) (out : List Value), (∀ b o, s.heap.get? b = some o → h'.get? b = some o) → out.length = n → (∀ j v, out[j]? = some v → P j v) →
      Q (.ref h'.objs.size) { s with heap := h'.push { cls := .type "tuple", data := .seq out.toArray }, toks := tk }) :
    wpAny (model prog w) A (call (.type "tuple") [.ref r]) Q E s := by
  have M : MeetsIn prog w (Builtin.«tuple.__new__» ⟨[.type "tuple", .ref r], []⟩) (fun (A' : Around) (R : Result → Shared → Prop) (s : Shared) => A'.handled = none ∧ OK s.heap ∧ ∀ (h' : Heap) (tk : Nat) (out : List Value), (∀ b o, s.heap.get? b = some o → h'.get? b = some o) → out.length = n → (∀ j v, out[j]? = some v → P j v) →
      R (.ok (.ret (.ref h'.objs.size))) { s with heap := h'.push { cls := .type "tuple", data := .seq out.toArray }, toks := tk }) := .of_wp fun A R s h => by
    obtain ⟨hp, g, dr, tk, os⟩ := s
    obtain ⟨hh', ht, h⟩ := h
    have hsub := sub_tuple_self
    have hinit := init_tuple_lookup
    have hmh := madeHere_tuple
    have hT : Shared.TypeIs ⟨hp, g, dr, tk, os⟩ (.ref r) T := K.type _ ht
    have col : ∀ {Q : List Value → Shared → Prop} {E : Value → Shared → Prop}, (∀ (h' : Heap) (tk' : Nat) (out : List Value), (∀ b o, hp.get? b = some o → h'.get? b = some o) → out.length = n → (∀ j v, out[j]? = some v → P j v) → Q out ⟨h', g, dr, tk', os⟩) →
        wpAny (model prog w) A.in1 (collect (.ref r)) Q E ⟨hp, g, dr, tk, os⟩ := fun hq => collect_src (s := ⟨hp, g, dr, tk, os⟩) K hh' ht hn hq
    have hnt : (Value.type T == Value.type "tuple") = false := K.notTuple
    wp_walk using wpAny_typeOf hT, col
    intro h' tk' out k l1 l2
    refine wpAny_bind (wpAny_pure ?_)
    show wpAny _ _ (Builtin.Tuple.tupleExact out.toArray >>= fun v => ret v) _ _ _
    unfold Builtin.Tuple.tupleExact
    refine wpAny_bind (wpAny_newObj_type ?_ (by show out.toArray.size ≤ sizeLine; rw [List.size_toArray, l1]; exact hn))
    exact wpAny_pure ⟨_, rfl, h h' tk' out k l1 l2⟩
  exact callType_newIn F.called_tuple (by decide) (F.typeCall_tuple_1 _) (F.newCall_tuple_1 _) (fun obj => F.args_object_init_2 obj _) F.entry_tuple_new M
    ⟨hh, hok, fun h' tk out k l1 l2 => ⟨⟨_, Heap.get?_push_size _ rfl, rfl⟩, hQ h' tk out k l1 l2⟩⟩
end
theorem call_tupleD {X : Cx} (hcalm : X.calm = true) : CallR X (.type "tuple") (fun xs H Q => ∃ (a : Addr) (kvs : List (Key × V)), xs = [.ref a] ∧ Rd H a (.dK kvs) ∧ ∀ p, H p = none → Q (.ref p) (upd H p (.tup (kvs.map fun kv => kV kv.1)))) := by
  intro pins s σ H xs us Q I r q
  obtain ⟨a, kvs, ex, hd, q⟩ := q
  subst ex
  obtain ⟨u, eu, rx⟩ := vals1 r
  subst eu
  cases rx
  obtain ⟨z, lo, vs, rel, dd⟩ := dk_rd I.hok hd
  obtain ⟨ep, hat⟩ := dd.dictAt
  have ek : (kvs.map fun kv => kV kv.1) = vs.map fun p => kV p.1 := by
    have e := congrArg (List.map kV) rel.keys
    rw [List.map_map, List.map_map] at e
    exact e
  refine call_tuple_src (PySem.W.kdl_dict (knd := mixKind X.prog X.w) (kvs := vs) (ep := ep) lo) hat (by rw [← rel.length]; exact z) (I.ok.hd hcalm) fun h' tk out k l1 l2 => ?_
  have hv : Vals (vs.map fun p => kV p.1) out := keys_at l1 fun j v e => l2 j v e
  have I1 : Inv X pins σ H { s with heap := h', toks := tk } := I.kept (t' := tk) k
  exact ⟨.ref h'.objs.size, _, I1.laid (t' := tk) (o := .tup (kvs.map fun kv => kV kv.1)) (fun b o e => Heap.get?_push_of_some _ e) (Nat.le_refl _) ⟨by rw [List.length_map]; exact z, out, by rw [ek]; exact hv, ⟨_, Heap.get?_push_size _ rfl, rfl, 0, rfl⟩⟩, rfl, q _ (I1.hok.fresh (Nat.le_refl _))⟩
end OwR
end
section
namespace OwD
open PySem PySem.Spec PyProof.Rows L2
theorem lays {α : Type} {f : α → PyData} : ∀ l : List α, (∀ x ∈ l, (f x).canLay0 = true) → PyData.canLayAll0 (l.map f) = true
  | [], _ => by simp [PyData.canLayAll0]
  | x :: l, h => by
    rw [List.map_cons, PyData.canLayAll0, h x List.mem_cons_self, lays l fun y hy => h y (List.mem_cons_of_mem _ hy)]
    rfl
theorem deps {α : Type} {f : α → PyData} {k : Nat} : ∀ l : List α, (∀ x ∈ l, (f x).depth ≤ k) → PyData.depthAll (l.map f) ≤ k
  | [], _ => by simp [PyData.depthAll]
  | x :: l, h => by
    have h1 := h x List.mem_cons_self
    have h2 := deps l fun y hy => h y (List.mem_cons_of_mem _ hy)
    rw [List.map_cons, PyData.depthAll]
    exact Nat.max_le.mpr ⟨h1, h2⟩
theorem shaped_of {d : PyData} (h1 : d.canLay0 = true) (h2 : d.depth ≤ 64) : SeqAt.shaped d = true := by
  show (d.canLay0 && decide (d.depth ≤ 64)) = true
  rw [h1, decide_eq_true h2]
  rfl
theorem shaped_lst {α : Type} {f : α → PyData} {l : List α} {k : Nat} (hk : k ≤ 60) (h1 : ∀ x ∈ l, (f x).canLay0 = true) (h2 : ∀ x ∈ l, (f x).depth ≤ k) : SeqAt.shaped (.list (l.map f)) = true := by
  refine shaped_of (by rw [PyData.canLay0]; exact lays l h1) ?_
  have := deps l h2
  rw [PyData.depth]
  omega
theorem shaped_tup {α : Type} {f : α → PyData} {l : List α} {k : Nat} (hk : k ≤ 60) (h1 : ∀ x ∈ l, (f x).canLay0 = true) (h2 : ∀ x ∈ l, (f x).depth ≤ k) : SeqAt.shaped (.tuple (l.map f)) = true := by
  refine shaped_of (by rw [PyData.canLay0]; exact lays l h1) ?_
  have := deps l h2
  rw [PyData.depth]
  omega
theorem dp_ints {K : PySem.W.Frag} {H : Hp} : ∀ ns : List Int, DpAll K H (ns.map V.int) (ns.map PyData.int)
  | [] => .nil
  | n :: r => .cons (.int n) (dp_ints r)
theorem dp_strs {K : PySem.W.Frag} {H : Hp} : ∀ ns : List Str, DpAll K H (ns.map V.str) (ns.map PyData.str)
  | [] => .nil
  | n :: r => .cons (.str n) (dp_strs r)
theorem shaped_ints (ns : List Int) : SeqAt.shaped (.list (ns.map PyData.int)) = true := shaped_lst (k := 0) (by decide) (fun _ _ => by simp [PyData.canLay0]) fun _ _ => by simp [PyData.depth]
theorem eqv_nil {α : Type} {f : α → PyData} (l : List α) : PyData.eqv (.list (l.map f)) (.list []) = l.isEmpty := by
  cases l <;> simp [PyData.eqv, PyData.eqvAll]
theorem shaped_nil : SeqAt.shaped (.list []) = true := shaped_of (by simp [PyData.canLay0, PyData.canLayAll0]) (by simp [PyData.depth, PyData.depthAll])
end OwD
end
section
namespace K10
open PySem PySem.Spec PyProof.Rows L2
def top (i : Nat) : Stmt := PySem.Challenge.pw_nextkind_k13_whole_rules_alike.main.body.getD i (.Pass ⟨0, 0, 0, 0⟩)
abbrev sPen : Stmt := top 39
abbrev sDraw : Stmt := top 40
abbrev sPick : Stmt := top 41
/-- what stands behind the module's names -/
structure Nm (mg : Str → Option Value) : Prop where
  n_int : mg "int" = none
  n_len : mg "len" = none
  n_abs : mg "abs" = none
  n_list : mg "list" = none
/-- the state of the draws at p: the cells at c, how many were taken, what is left of a great one -/
structure PenAt (H : Hp) (p c : Addr) (ns : List Int) (n : Nat) (z : Int) : Prop where
  pen : H p = some (.lst [.ref c, .int n, .int z])
  cells : H c = some (.lst (ns.map V.int))
  few : ns.length ≤ 63
  rest : 0 ≤ z
theorem PenAt.ne {H : Hp} {p c : Addr} {ns : List Int} {n : Nat} {z : Int} (P : PenAt H p c ns n z) : c ≠ p := fun e => by
  have h1 := P.pen
  have h2 := P.cells
  rw [e, h1] at h2
  have h3 := congrArg (fun o : Option HO => match o with | some (.lst xs) => xs | _ => []) h2
  have h4 : ([V.ref c, V.int n, V.int z] : List V) = ns.map V.int := h3
  cases ns with
  | nil => cases h4
  | cons a l => cases h4
/-- all but the pen stands -/
def But (p : Addr) (H H' : Hp) : Prop := ∀ b o, b ≠ p → H b = some o → H' b = some o
theorem But.refl (p : Addr) (H : Hp) : But p H H := fun _ _ _ h => h
theorem But.trans {p : Addr} {H H1 H2 : Hp} (a : But p H H1) (b : But p H1 H2) : But p H H2 := fun c o n h => b c o n (a c o n h)
theorem But.new {p l : Addr} {H : Hp} {o : HO} (h : H l = none) : But p H (upd H l o) := fun b u _ e => by
  rw [upd_ne (ne_of_none e h)]
  exact e
theorem But.at {p : Addr} {H : Hp} {o : HO} : But p H (upd H p o) := fun b u n e => by
  rw [upd_ne n]
  exact e
theorem But.same {p : Addr} {H H' : Hp} (a : But p H H') (s : Same H' H') : But p H H' := a
theorem at_mod (ns : List Int) (n : Int) (h : 0 < ns.length) : ∃ x : Int, atI (ns.map V.int) (n % ((ns.map V.int).length : Int)) = some (V.int x) := by
  have hl : (ns.map V.int).length = ns.length := List.length_map _
  have h1 : 0 ≤ n % ((ns.map V.int).length : Int) := Int.emod_nonneg _ (by omega)
  have h2 : n % ((ns.map V.int).length : Int) < ((ns.map V.int).length : Int) := Int.emod_lt_of_pos _ (by omega)
  generalize n % ((ns.map V.int).length : Int) = j at h1 h2
  obtain ⟨i, rfl⟩ : ∃ i : Nat, j = (i : Int) := ⟨j.toNat, by omega⟩
  have hi : i < ns.length := by omega
  refine ⟨ns[i], atI_nat ?_⟩
  rw [List.getElem?_map, List.getElem?_eq_getElem hi]
  rfl
theorem mix_lt {x n a b c : Int} (x0 : 0 ≤ x) (x1 : x < 2147483648) (n0 : 0 ≤ n) (n1 : n < 100000) (a0 : 0 ≤ a) (a1 : a < 1000000) (b0 : 0 ≤ b) (b1 : b < 1000000) (c0 : 0 ≤ c) (c1 : c < 1000000) :
    (x * (2 * n + a) + b * n * n + c).natAbs < 2 ^ 64 := by
  have h1 : 0 ≤ x * (2 * n + a) := Int.mul_nonneg x0 (by omega)
  have h2 : x * (2 * n + a) ≤ 2147483648 * 1200000 := Int.mul_le_mul (by omega) (by omega) (by omega) (by decide)
  have h3 : 0 ≤ b * n * n := Int.mul_nonneg (Int.mul_nonneg b0 n0) n0
  have h4 : b * n ≤ 1000000 * 100000 := Int.mul_le_mul (by omega) (by omega) n0 (by decide)
  have h5 : b * n * n ≤ 1000000 * 100000 * 100000 := Int.mul_le_mul h4 (by omega) n0 (by decide)
  omega
def spDraw : Sp := fun vs H Q _ => ∃ (p c : Addr) (ns : List Int) (n : Nat) (z m : Int), vs = [.ref p, .int m] ∧ PenAt H p c ns n z ∧ n < 100000 ∧ 0 < m ∧ m.natAbs < 2 ^ 1000 ∧
  ∀ (d : Int) (n' : Nat) (z' : Int) (H' : Hp), 0 ≤ d → d < m → n' ≤ n + 1 → PenAt H' p c ns n' z' → But p H H' → Q (.int d) H'
section
variable {P : Program} {w : World} {K : PySem.W.Frag} {mg : Str → Option Value} {base : Heap}
theorem scD : FnScope ["_law_pen_here", "_law_many", "_law_digit", "_law_at", "_law_cell", "_law_great", "_law_mixed"] ["_law_pen_here", "_law_many"] (defScope sDraw) := ⟨rfl, rfl, rfl, by decide +kernel, rfl, by decide +kernel, by decide +kernel⟩
theorem ok_draw {f : Addr} {fd : FuncData} (F : Fun K "_law_draw" "_law_draw" sDraw f fd) (T : Nm mg) : FnOk P w K mg base CX0 1 f fd ["_law_pen_here", "_law_many"] spDraw := by
  refine F.ok scD (fun vs H Q E h => ?_) (fun cdv A outer s H vs Q E hr h => ?_)
  · obtain ⟨p, c, ns, n, z, m, rfl, _⟩ := h
    rfl
  · obtain ⟨p, c, ns, n, z, m, rfl, D, hn, hm, hb, k⟩ := h
    have hu := hu_of hr
    obtain ⟨h1, h2, hl, h0⟩ := id D
    refine ⟨_, (pss_cons (ps_if (pt_cmpR op_gt (pe_ix ix_list (pv 0) pe_int (fun _ _ => rfl)) pe_int (nomark _)) (pss_cons (ps_set (i := 2) scD.nd rfl (Or.inl rfl) (pe_op op_mod (pe_callTy call_int1 (by rfl) T.n_int (by decide +kernel) (pa_cons (pe_ix ix_list (pv 0) pe_int (fun _ _ => rfl)) pa_nil)) (pv 1)))
    (pss_cons (ps_asg (pe_op op_fdivW (pe_callTy call_int1 (by rfl) T.n_int (by decide +kernel) (pa_cons (pe_ix ix_list (pv 0) pe_int (fun _ _ => rfl)) pa_nil)) (pv 1)) (pg_sub (pv 0) pe_int set_list))
    (pss_one (ps_ret (pv 2))))) pss_nil)
    (pss_cons (ps_set (i := 3) scD.nd rfl (Or.inl rfl) (pe_ix ix_list (pv 0) pe_int (fun _ _ => rfl)))
    (pss_cons (ps_asg (pe_op op_add (pv 3) pe_int) (pg_sub (pv 0) pe_int set_list))
    (pss_cons (ps_set (i := 4) scD.nd rfl (Or.inl rfl) (pe_op op_add (pe_op op_mul pe_int (pv 3)) pe_int))
    (C8.pss_cut (ps_if (pt_cmpR (op_neD hr.units) (pe_ix ix_list (pv 0) pe_int (fun _ _ => rfl)) (pe_lst pa_nil) (nomark _)) (pss_one (ps_set (i := 4) scD.nd rfl (Or.inl rfl) (pe_ix ix_list (pe_ix ix_list (pv 0) pe_int (fun _ _ => rfl)) (pe_op op_mod (pe_callTy call_int1 (by rfl) T.n_int (by decide +kernel) (pa_cons (pv 3) pa_nil)) (pe_callB call_len_seq (by rfl) T.n_len boot_len (pa_cons (pe_ix ix_list (pv 0) pe_int (fun _ _ => rfl)) pa_nil))) (fun _ _ => rfl)))) pss_nil)
    (C8.pss_cut (ps_if (PW.pt (pw_and (pt_cmpR op_lt (pv 3) (pe_callB call_len_seq (by rfl) T.n_len boot_len (pa_cons (pe_ix ix_list (pv 0) pe_int (fun _ _ => rfl)) pa_nil)) (nomark _)) (pw_and1 (pt_cmpR op_ge (pe_callB call_abs (by rfl) T.n_abs (by decide +kernel) (pa_cons (pv 4) pa_nil)) (pe_op op_pow pe_int pe_int) (nomark _))))) (pss_cons (ps_set (i := 5) scD.nd rfl (Or.inl rfl) (pe_op op_add (pe_op op_mul pe_int (pe_op op_sub (pe_callB call_abs (by rfl) T.n_abs (by decide +kernel) (pa_cons (pv 4) pa_nil)) (pe_op op_pow pe_int pe_int))) (pe_callTy call_int1 (by rfl) T.n_int (by decide +kernel) (pa_cons (pe_cmpR op_lt (pv 4) pe_int (nomark _)) pa_nil))))
    (pss_cons (ps_asg (pe_op op_fdivW (pe_callTy call_int1 (by rfl) T.n_int (by decide +kernel) (pa_cons (pv 5) pa_nil)) (pv 1)) (pg_sub (pv 0) pe_int set_list))
    (pss_one (ps_ret (pe_op op_mod (pe_callTy call_int1 (by rfl) T.n_int (by decide +kernel) (pa_cons (pv 5) pa_nil)) (pv 1)))))) pss_nil)
    (pss_cons (ps_set (i := 6) scD.nd rfl (Or.inl rfl) (pe_op op_mod (pe_callTy call_int1 (by rfl) T.n_int (by decide +kernel) (pa_cons (pe_op op_pow (pe_op op_add (pe_op op_add (pe_op op_mod (pe_callTy call_int1 (by rfl) T.n_int (by decide +kernel) (pa_cons (pv 4) pa_nil)) pe_int) (pe_op op_mul pe_int (pv 3))) pe_int) pe_int) pa_nil)) pe_int))
    (pss_cons (ps_set (i := 6) scD.nd rfl (Or.inl rfl) (pe_op op_mod (pe_callTy call_int1 (by rfl) T.n_int (by decide +kernel) (pa_cons (pe_op op_pow (pe_op op_add (pe_op op_add (pe_op op_mul (pv 6) (pe_op op_add (pe_op op_mul pe_int (pv 3)) pe_int)) (pe_op op_mul (pe_op op_mul pe_int (pv 3)) (pv 3))) pe_int) pe_int) pa_nil)) pe_int))
    (pss_one (ps_ret (pe_op op_mod (pe_callTy call_int1 (by rfl) T.n_int (by decide +kernel) (pa_cons (pe_op op_fdivW (pv 6) pe_int) pa_nil)) (pv 1))))))))))))
, ?_⟩
    refine ⟨_, rfl, p, _, _, _, rfl, rfl, SqL.of h1, rfl, _, _, rfl, rfl, _, rfl, ?_⟩
    refine ite2 (fun c1 => ?_) (fun c1 => ?_)
    · refine ⟨_, rfl, p, _, _, _, rfl, rfl, SqL.of h1, rfl, .inl ⟨_, rfl, _, rfl, _, _, rfl, rfl, hm, ?_⟩⟩
      refine ⟨_, rfl, p, _, _, _, rfl, rfl, SqL.of h1, rfl, .inl ⟨_, rfl, _, rfl, _, _, rfl, rfl, wide_div hm hb (by decide) (by decide), ?_⟩⟩
      refine ⟨_, rfl, p, _, _, 2, rfl, rfl, h1, rfl, _, rfl, ?_⟩
      refine k _ n (z / m) _ (Int.emod_nonneg _ (by omega)) (Int.emod_lt_of_pos _ hm) (Nat.le_succ _) ⟨upd_same, ?_, hl, Int.ediv_nonneg h0 (by omega)⟩ But.at
      rw [upd_ne D.ne]
      exact h2
    · refine ⟨_, rfl, p, _, _, _, rfl, rfl, SqL.of h1, rfl, ?_⟩
      refine ⟨_, rfl, _, _, rfl, rfl, _, rfl, p, _, _, 1, rfl, rfl, h1, rfl, ?_⟩
      -- the cell
      refine ⟨_, rfl, _, _, rfl, rfl, .inl ⟨by decide, by decide⟩, _, _, rfl, rfl, ?_⟩
      have D1 : PenAt (upd H p (.lst [.ref c, .int ((n : Int) + 1), .int z])) p c ns (n + 1) z := ⟨upd_same, by rw [upd_ne D.ne]; exact h2, hl, h0⟩
      have B1 : But p H (upd H p (.lst [.ref c, .int ((n : Int) + 1), .int z])) := But.at
      -- a cell of the script, if there is one
      refine ⟨fun σ' H' => ∃ cell : Int, σ' = [some (.ref p), some (.int m), none, some (.int n), some (.int cell), none, none] ∧ PenAt H' p c ns (n + 1) z ∧ But p H H', ?_, ?_⟩
      · refine ⟨_, rfl, p, _, _, _, rfl, rfl, SqL.of D1.pen, rfl, by show 0 ≤ sizeLine; decide, fun l hl0 => ?_⟩
        have D2 : PenAt (upd (upd H p (.lst [.ref c, .int ((n : Int) + 1), .int z])) l (.lst [])) p c ns (n + 1) z :=
          ⟨by rw [upd_ne (ne_of_none D1.pen hl0)]; exact D1.pen, by rw [upd_ne (ne_of_none D1.cells hl0)]; exact D1.cells, hl, h0⟩
        refine ⟨.list (ns.map PyData.int), .list [], .lst (SqL.of D2.cells) (OwD.dp_ints ns), .lst (SqL.of upd_same) .nil, OwD.shaped_ints ns, OwD.shaped_nil, _, rfl, ?_⟩
        rw [OwD.eqv_nil]
        have B2 := B1.trans (But.new (p := p) (o := .lst []) hl0)
        cases ns with
        | nil =>
          refine iteF ?_
          exact ⟨_, rfl, D2, B2⟩
        | cons a0 rest =>
          refine iteT ?_
          have hpos : 0 < ((a0 :: rest).map V.int).length := by rw [List.length_map]; exact Nat.succ_pos _
          refine ⟨_, rfl, p, _, _, _, rfl, rfl, SqL.of D2.pen, rfl, _, rfl, .inl ⟨_, rfl, _, rfl, p, _, _, _, rfl, rfl, SqL.of D2.pen, rfl, c, _, rfl, .inl (SqL.of D2.cells), _, _, rfl, rfl, by omega, ?_⟩⟩
          obtain ⟨x, hx⟩ := at_mod (a0 :: rest) n (Nat.succ_pos _)
          refine ⟨c, _, _, _, rfl, rfl, SqL.of D2.cells, hx, ?_⟩
          exact ⟨x, rfl, D2, B2⟩
      · rintro σ' H' ⟨cell, rfl, D3, B3⟩
        have C3 := D3.cells
        -- a great cell
        have ret : ∀ (d : Int) (H4 : Hp), 0 ≤ d → d < m → PenAt H4 p c ns (n + 1) z → But p H H4 → Q (.int d) H4 := fun d H4 a1 a2 D4 B4 => k d (n + 1) z H4 a1 a2 (Nat.le_refl _) D4 B4
        refine ⟨fun σ' H' => σ' = [some (.ref p), some (.int m), none, some (.int n), some (.int cell), none, none] ∧ PenAt H' p c ns (n + 1) z ∧ But p H H', ?_, ?_⟩
        · refine ⟨_, rfl, _, rfl, p, _, _, _, rfl, rfl, SqL.of D3.pen, rfl, c, _, rfl, .inl (SqL.of C3), _, _, rfl, rfl, _, rfl, ?_⟩
          refine ite2 (fun c2 => ?_) (fun c2 => ?_)
          · refine ⟨_, rfl, _, rfl, _, _, rfl, rfl, ⟨by decide, by decide, by decide⟩, _, _, rfl, rfl, _, rfl, ?_⟩
            refine ite2 (fun c3 => ?_) (fun c3 => ?_)
            · refine ⟨_, rfl, _, rfl, _, _, rfl, rfl, ⟨by decide, by decide, by decide⟩, _, _, rfl, rfl, _, _, rfl, rfl, .inl ⟨by decide, by decide⟩, ?_⟩
              refine ⟨_, rfl, _, _, rfl, rfl, .inr ⟨_, rfl, _, _, rfl, rfl, ?_⟩⟩
              have gpos : 0 ≤ 2 * ((if cell < 0 then -cell else cell) - (10 : Int) ^ (18 : Int).toNat) + (if decide (cell < 0) = true then 1 else 0) := by
                have h3 : (10 : Int) ^ (18 : Int).toNat ≤ (if cell < 0 then -cell else cell) := of_decide_eq_true c3
                split <;> omega
              refine ⟨_, rfl, .inl ⟨_, rfl, _, rfl, _, _, rfl, rfl, wide_div hm hb (by decide) (by decide), _, rfl, p, _, _, 2, rfl, rfl, D3.pen, rfl, ?_⟩⟩
              refine ⟨_, rfl, .inl ⟨_, rfl, _, rfl, _, _, rfl, rfl, hm, ?_⟩⟩
              refine k _ (n + 1) _ _ (Int.emod_nonneg _ (by omega)) (Int.emod_lt_of_pos _ hm) (Nat.le_refl _) ⟨upd_same, ?_, hl, Int.ediv_nonneg gpos (by omega)⟩ (B3.trans But.at)
              rw [upd_ne D.ne]
              exact C3
            · exact ⟨rfl, D3, B3⟩
          · exact ⟨rfl, D3, B3⟩
        · rintro σ' H4 ⟨rfl, D4, B4⟩
          have a1 := Int.emod_nonneg cell (show (2147483549 : Int) ≠ 0 by decide)
          have a2 := Int.emod_lt_of_pos cell (show (0 : Int) < 2147483549 by decide)
          -- one mixed from the cell
          refine ⟨_, rfl, .inl ⟨_, rfl, _, _, rfl, rfl, (by show (0 : Int) < _; decide), _, rfl, _, _, rfl, rfl, .inl ⟨by decide, by decide⟩, _, _, rfl, rfl, _, _, rfl, rfl, _, _, rfl, rfl, ⟨by decide, by decide, ?_⟩, .inl ⟨_, rfl, _, _, rfl, rfl, (by show (0 : Int) < _; decide), ?_⟩⟩⟩
          · show Int.natAbs _ < 2 ^ 64
            omega
          have b1 := fun x : Int => Int.emod_nonneg x (show (2147483629 : Int) ≠ 0 by decide)
          have b2 := fun x : Int => Int.emod_lt_of_pos x (show (0 : Int) < 2147483629 by decide)
          refine ⟨_, rfl, _, rfl, _, _, rfl, rfl, .inl ⟨by decide, by decide⟩, _, _, rfl, rfl, _, _, rfl, rfl, .inl ⟨Int.lt_of_lt_of_le (by decide) (b1 _), Int.lt_trans (b2 _) (by decide)⟩, ?_⟩
          refine ⟨_, rfl, _, _, rfl, rfl, .inl ⟨by decide, by decide⟩, _, rfl, _, _, rfl, rfl, .inl ⟨by omega, by omega⟩, _, _, rfl, rfl, _, _, rfl, rfl, ?_⟩
          refine ⟨_, _, rfl, rfl, ⟨by decide, by decide, mix_lt (b1 _) (Int.lt_trans (b2 _) (by decide)) (by omega) (by omega) (by decide) (by decide) (by decide) (by decide) (by decide) (by decide)⟩, .inl ⟨_, rfl, _, _, rfl, rfl, (by show (0 : Int) < _; decide), ?_⟩⟩
          refine ⟨_, rfl, _, _, rfl, rfl, wide_div (b := 6) (by decide) (by decide) (by decide) (by decide), .inl ⟨_, rfl, _, rfl, _, _, rfl, rfl, hm, ?_⟩⟩
          exact ret _ _ (Int.emod_nonneg _ (by omega)) (Int.emod_lt_of_pos _ hm) D4 B4
end
end K10
end
section
namespace K10
open PySem PySem.Spec PyProof.Rows L2
abbrev sName : Stmt := top 12
abbrev sWithin : Stmt := top 13
abbrev sNumber : Stmt := top 14
structure Nm2 (mg : Str → Option Value) : Prop where
  n_int : mg "int" = none
  n_bool : mg "bool" = none
  n_str : mg "str" = none
  n_len : mg "len" = none
  n_all : mg "all" = none
  n_isinstance : mg "isinstance" = none
/-- a name: 1 to 8 letters -/
def letter (c : Nat) : Bool := decide (97 ≤ c) && decide (c ≤ 122)
def nameB (z : Str) : Bool := (decide (1 ≤ z.length) && decide (z.length ≤ 8)) && z.cps.toList.all letter
theorem one_le (a c : Nat) : (!decide (([c] : List Nat) < [a])) = decide (a ≤ c) := by
  by_cases h : a ≤ c
  · rw [decide_eq_true h, decide_eq_false]
    · rfl
    · intro q
      rcases List.cons_lt_cons_iff.mp q with q | ⟨_, q⟩
      · omega
      · exact absurd q (by simp)
  · rw [decide_eq_false h, decide_eq_true]
    · rfl
    · exact List.cons_lt_cons_iff.mpr (.inl (by omega))
def spName : Sp := fun vs H Q _ => ∃ z : Str, vs = [.str z] ∧ z.length ≤ 1000 ∧ ∀ H', Same H H' → Q (.bl (nameB z)) H'
def spWithin : Sp := fun vs H Q _ => ∃ v a b : Int, vs = [.int v, .int a, .int b] ∧ Q (.bl (decide (a ≤ v) && decide (v ≤ b))) H
def spNumber : Sp := fun vs H Q _ => ∃ v : Int, vs = [.int v] ∧ Q (.bl (decide (0 ≤ v) && decide (v ≤ 10 ^ 60 - 1))) H
section
variable {P : Program} {w : World} {K : PySem.W.Frag} {mg : Str → Option Value} {base : Heap}
abbrev nName : List Str := ["value", "sign"]
theorem scN : FnScope nName ["value"] (defScope sName) := ⟨rfl, rfl, rfl, by decide +kernel, rfl, by decide +kernel, by decide +kernel⟩
theorem ok_name {f : Addr} {fd : FuncData} (F : Fun K "is_name" "is_name" sName f fd) (T : Nm2 mg) : FnOk P w K mg base CX0 1 f fd ["value"] spName := by
  refine F.ok scN (fun vs H Q E h => ?_) (fun cdv A outer s H vs Q E hr h => ?_)
  · obtain ⟨z, rfl, _⟩ := h
    rfl
  · obtain ⟨z, rfl, hz, k⟩ := h
    refine ⟨_, (pss_cons (ps_if (PW.pt (pw_or (pt_not (pt_val (pe_callB call_isi (by rfl) T.n_isinstance (by decide +kernel) (pa_cons (pv 0) (pa_cons (pe_bltn (v := .ty "str") (by rfl) T.n_str (by decide +kernel) rfl) pa_nil))))) (pw_or1 (pt_not (pt_chain op_le op_le pe_int (pe_callB call_len (by rfl) T.n_len boot_len (pa_cons (pv 0) pa_nil)) pe_int))))) (pss_one (ps_ret pe_bl)) pss_nil)
    (pss_one (ps_ret (pe_callB (cr_all rfl) (by rfl) T.n_all (by decide +kernel) (pa_cons (pe_lc (own := [("sign", 1)]) (by rfl) scN.nd (pi_str (pv 0)) (blkOk_by (own := [("sign", 1)]) (N := nName) (sc := defScope sName) (by decide +kernel)) (fun _ _ _ _ _ => (pg_name (i := 1) scN.nd rfl (Or.inl rfl))) (fun _ _ _ _ _ => pts_nil) (fun _ _ _ _ _ => (pe_chain op_le_str op_le_str pe_str (pv 1) pe_str))) pa_nil))))), ?_⟩
    have hz2 : z.length ≤ sizeLine := Nat.le_trans hz (by decide)
    refine ⟨_, rfl, .str z, .ty "str", _, _, true, rfl, .ty _, .base (by constructor), kit_ty (by decide +kernel), true, rfl, ?_⟩
    refine iteF ?_
    refine ⟨_, rfl, .str z, z.length, rfl, ⟨hz2, rfl⟩, _, _, rfl, rfl, _, rfl, ?_⟩
    refine ite2 (fun c1 => ?_) (fun c1 => ?_)
    · have d1 : 1 ≤ z.length := by
        have := of_decide_eq_true c1
        omega
      refine ⟨_, _, rfl, rfl, _, rfl, ?_⟩
      by_cases d2 : z.length ≤ 8
      · have e2 : decide ((z.length : Int) ≤ 8) = true := decide_eq_true (by omega)
        rw [e2]
        refine iteF ?_
        have rest : ∀ b H', Same H H' → b = z.cps.toList.all letter → Q (.bl b) H' := fun b H' s e => by
          have e' : nameB z = b := by
            unfold nameB
            rw [decide_eq_true d1, decide_eq_true d2, e]
            rfl
          rw [← e']
          exact k H' s
        refine ⟨_, rfl, z, rfl, fun D hD => lc_it (walk_str (z := z)) (fun i H' => H' D = some (.lst (((z.cps.toList.take i).map letter).map V.bl)) ∧ Same H H')
          ⟨upd_same, fun b o e => by rw [upd_ne (ne_of_none e hD)]; exact e⟩ (fun _ _ _ _ => trivial) ?_ ?_⟩
        · rintro i x H1 H2 hi ⟨hl, hs⟩ ⟨rfl, c, hc, rfl⟩
          have step : ∀ b : Bool, b = letter c → ∃ acc : List V, H2 D = some (.lst acc) ∧ acc.length < sizeLine ∧
              (upd H2 D (.lst (acc ++ [V.bl b])) D = some (.lst (((z.cps.toList.take (i + 1)).map letter).map V.bl)) ∧ Same H (upd H2 D (.lst (acc ++ [V.bl b])))) := fun b hb => by
            refine ⟨_, hl, ?_, ?_, fun a o e => ?_⟩
            · rw [List.length_map, List.length_map, List.length_take]
              have h9 : z.cps.toList.length = z.length := by first | rfl | simp [Str.length]
              exact Nat.lt_of_le_of_lt (Nat.min_le_right _ _) (by rw [h9, sizeLine_eq]; omega)
            · rw [upd_same, hb, List.take_add_one, show z.cps.toList[i]? = some c by rw [Array.getElem?_toList]; exact hc]
              simp
            · rw [upd_ne (ne_of_none e hD)]
              exact hs a o e
          refine ⟨rfl, ?_⟩
          refine ⟨_, rfl, _, _, rfl, rfl, _, rfl, ?_⟩
          have l1 : (!decide ((⟨#[c]⟩ : Str).cps.toList < ("a" : Str).cps.toList)) = decide (97 ≤ c) := one_le 97 c
          have l2 : (!decide (("z" : Str).cps.toList < (⟨#[c]⟩ : Str).cps.toList)) = decide (c ≤ 122) := one_le c 122
          by_cases c1 : 97 ≤ c
          · rw [l1, decide_eq_true c1]
            refine iteT ?_
            refine ⟨_, _, rfl, rfl, step _ ?_⟩
            rw [l2]
            unfold letter
            rw [decide_eq_true c1, Bool.true_and]
          · rw [l1, decide_eq_false c1]
            refine iteF ?_
            refine step _ ?_
            unfold letter
            rw [decide_eq_false c1, Bool.false_and]
        · rintro H1 ⟨hl, hs⟩
          refine ⟨D, _, rfl, SqL.of hl, rest _ H1 hs ?_⟩
          rw [show z.cps.size = z.cps.toList.length from rfl, List.take_length, List.all_map]
          rfl
      · have e2 : decide ((z.length : Int) ≤ 8) = false := decide_eq_false (by omega)
        rw [e2]
        refine iteT ?_
        have e : nameB z = false := by
          unfold nameB
          rw [decide_eq_false d2, Bool.and_false, Bool.false_and]
        rw [← e]
        exact k H (Same.refl H)
    · have d1 : ¬ 1 ≤ z.length := fun q => c1 (decide_eq_true (by omega))
      refine ⟨_, rfl, ?_⟩
      have e : nameB z = false := by
        unfold nameB
        rw [decide_eq_false d1, Bool.false_and, Bool.false_and]
      refine iteT ?_
      rw [← e]
      exact k H (Same.refl H)
end
end K10
end
section
namespace OwR
open PySem PySem.Spec PyProof.Rows L2
theorem dc_it {J : It} {n : Nat} {G : Hp → Prop} {Y : Nat → Hp → V → Hp → Prop} (w : Walk J n G Y) {g : TG} {tt : TT} {tk tv : TE} {vs : List Nat} {σ : L2.St} {H1 : Hp} {D : Addr} {Qd : Hp → Prop} (Pv : Nat → Hp → Prop)
    (h0 : Pv 0 (upd H1 D (.dK []))) (hG : ∀ i H, i ≤ n → Pv i H → G H)
    (turn : ∀ i x H H', i < n → Pv i H → Y i H x H' → g x (wipe σ vs) H' fun σ2 H2 => wipe σ2 vs = wipe σ vs ∧ tt σ2 H2 fun b H3 =>
      if b = true then tk σ2 H3 fun y H4 => tv σ2 H4 fun z H5 => ∃ kvs k, y = kV k ∧ H5 D = some (.dK kvs) ∧ kvs.length < sizeLine ∧ Pv (i + 1) (upd H5 D (.dK (putK kvs k z))) else Pv (i + 1) H3)
    (fin : ∀ H, Pv n H → Qd H) :
    ∃ W : Nat → Nat → Hp → Prop, (∃ m, W 0 m (upd H1 D (.dK []))) ∧ ∀ i m H, W i m H →
      (J.stop i H ∧ Qd H) ∨ (J.go i H ∧ ∃ Nx : Hp → Prop, (∀ H', Nx H' → ∃ m', m' < m ∧ W (i + 1) m' H') ∧ ∀ x H', J.yld i H x H' → g x (wipe σ vs) H' fun σ2 H2 => wipe σ2 vs = wipe σ vs ∧ tt σ2 H2 fun b H3 =>
        if b = true then tk σ2 H3 fun y H4 => tv σ2 H4 fun z H5 => ∃ kvs k, y = kV k ∧ H5 D = some (.dK kvs) ∧ kvs.length < sizeLine ∧ Nx (upd H5 D (.dK (putK kvs k z))) else Nx H3) := by
  refine ⟨fun i m H => m = n - i ∧ i ≤ n ∧ Pv i H, ⟨n, by simp, Nat.zero_le _, h0⟩, fun i m H ⟨em, hi, p⟩ => ?_⟩
  subst em
  have q := hG i H hi p
  rcases Nat.lt_or_ge i n with hlt | hge
  · exact .inr ⟨w.goes i H hlt q, Pv (i + 1), fun H' p' => ⟨n - (i + 1), by omega, rfl, hlt, p'⟩, fun x H' y => turn i x H H' hlt p (w.yields i H x H' hlt q y)⟩
  · obtain rfl : i = n := by omega
    exact .inl ⟨w.stops H q, fin H p⟩
theorem list_any {X : Cx} (hc : X.calm = true) : CallR X (.type "list") (fun xs H Q => (∃ p ys, xs = [.ref p] ∧ (SqL X.K H p ys ∨ SqT X.K H p ys) ∧ ∀ l, H l = none → Q (.ref l) (upd H l (.lst ys))) ∨
    (∃ (a : Addr) (kvs : List (Key × V)), xs = [.ref a] ∧ Rd H a (.dK kvs) ∧ ∀ p, H p = none → Q (.ref p) (upd H p (.lst (kvs.map fun kv => kV kv.1))))) := by
  intro pins s σ H xs us Q I r h
  rcases h with h | h
  · exact call_list_of pins s σ H xs us Q I r h
  · exact call_listD hc pins s σ H xs us Q I r h
end OwR
namespace TSet
open PySem
theorem put1_nodup {L : List Str} (h : L.Nodup) (z : Str) : (put1 L z).Nodup := by
  unfold put1
  split
  · exact h
  · rename_i q
    exact List.nodup_cons.mpr ⟨q, h⟩
theorem fold_nodup : ∀ (xs L : List Str), L.Nodup → (xs.foldl put1 L).Nodup
  | [], _, h => h
  | x :: xs, L, h => fold_nodup xs (put1 L x) (put1_nodup h x)
theorem ded_nodup (xs : List Str) : (ded xs).Nodup := fold_nodup xs [] List.nodup_nil
theorem ded_perm {xs : List Str} (h : xs.Nodup) : (ded xs).Perm xs := (List.perm_ext_iff_of_nodup (ded_nodup xs) h).mpr fun y => ded_mem xs y
end TSet
namespace K10
open PySem PySem.Spec PyProof.Rows L2
abbrev sAsc : Stmt := top 15
abbrev sTold : Stmt := top 16
structure Nm3 (mg : Str → Option Value) : Prop where
  n_sorted : mg "sorted" = none
  n_set : mg "set" = none
  n_list : mg "list" = none
theorem Same.of_new {H : Hp} {p : Addr} {o : HO} (h : H p = none) : Same H (upd H p o) := fun b u e => by
  rw [upd_ne (ne_of_none e h)]
  exact e
/-- the texts that a list, or a dict's keys, hold -/
def TextsAt (K : PySem.W.Frag) (H : Hp) (a : Addr) (xs : List Str) : Prop := SqL K H a (xs.map V.str) ∨ SqT K H a (xs.map V.str) ∨ ∃ kvs, Rd H a (.dK kvs) ∧ kvs.map (·.1) = xs.map Sum.inr
def spAsc (K : PySem.W.Frag) : Sp := fun vs H Q _ => ∃ (a : Addr) (xs : List Str), vs = [.ref a] ∧ TextsAt K H a xs ∧ xs.length < 64 ∧
  ∀ (ys : List Str) (p : Addr) (H' : Hp), ys.Perm (TSet.ded xs) → sortedS ys = true → H p = none → Same H H' → H' p = some (.lst (ys.map V.str)) → Q (.ref p) H'
section
variable {P : Program} {w : World} {K : PySem.W.Frag} {mg : Str → Option Value} {base : Heap}
theorem scW : FnScope ["value", "least", "most"] ["value", "least", "most"] (defScope sWithin) := ⟨rfl, rfl, rfl, by decide +kernel, rfl, by decide +kernel, by decide +kernel⟩
theorem ok_within {f : Addr} {fd : FuncData} (F : Fun K "is_within" "is_within" sWithin f fd) (T : Nm2 mg) : FnOk P w K mg base CX0 1 f fd ["value", "least", "most"] spWithin := by
  refine F.ok scW (fun vs H Q E h => ?_) (fun cdv A outer s H vs Q E hr h => ?_)
  · obtain ⟨v, a, b, rfl, _⟩ := h
    rfl
  · obtain ⟨v, a, b, rfl, k⟩ := h
    refine ⟨_, (pss_cons (ps_if (PW.pt (pw_or (pt_not (pt_val (pe_callB call_isi (by rfl) T.n_isinstance (by decide +kernel) (pa_cons (pv 0) (pa_cons (pe_bltn (v := .ty "int") (by rfl) T.n_int (by decide +kernel) rfl) pa_nil))))) (pw_or1 (pt_val (pe_callB call_isi (by rfl) T.n_isinstance (by decide +kernel) (pa_cons (pv 0) (pa_cons (pe_bltn (v := .ty "bool") (by rfl) T.n_bool (by decide +kernel) rfl) pa_nil))))))) (pss_one (ps_ret pe_bl)) pss_nil)
    (pss_one (ps_ret (pe_chain op_le op_le (pv 1) (pv 0) (pv 2))))), ?_⟩
    refine ⟨_, rfl, .int v, .ty "int", _, _, true, rfl, .ty _, .base (.int v), kit_ty (by decide +kernel), true, rfl, ?_⟩
    refine iteF ?_
    refine ⟨_, rfl, .int v, .ty "bool", _, _, false, rfl, .ty _, .base (.int v), kit_ty (by decide +kernel), false, rfl, ?_⟩
    refine iteF ?_
    refine ⟨_, rfl, _, rfl, _, _, rfl, rfl, _, rfl, ?_⟩
    by_cases c : a ≤ v
    · rw [decide_eq_true c] at k ⊢
      refine iteT ?_
      exact ⟨_, rfl, _, _, rfl, rfl, k⟩
    · rw [decide_eq_false c] at k ⊢
      refine iteF ?_
      exact k
theorem scNu : FnScope ["value"] ["value"] (defScope sNumber) := ⟨rfl, rfl, rfl, by decide +kernel, rfl, by decide +kernel, by decide +kernel⟩
theorem ok_number {f fW : Addr} {fd fdW : FuncData} (F : Fun K "is_number" "is_number" sNumber f fd) (T : Nm2 mg) (FW : Fun K "is_within" "is_within" sWithin fW fdW) (gW : mg "is_within" = some (.ref fW)) : FnOk P w K mg base CX0 2 f fd ["value"] spNumber := by
  have GW : FnOk P w K mg base CX0 1 fW fdW ["value", "least", "most"] spWithin := ok_within FW T
  have bW : Binds K fdW ["value", "least", "most"] [] := FW.binds fun _ _ _ _ _ _ us hl => match us, hl with | [_, _, _], _ => rfl
  refine F.ok scNu (fun vs H Q E h => ?_) (fun cdv A outer s H vs Q E hr h => ?_)
  · obtain ⟨v, rfl, _⟩ := h
    rfl
  · obtain ⟨v, rfl, k⟩ := h
    refine ⟨_, (pss_one (ps_ret (pe_call GW hr (by rfl) gW FW.kp bW .nil pass0 (pa_cons (pv 0) (pa_cons pe_int (pa_cons (pe_op op_sub (pe_op op_pow pe_int pe_int) pe_int) pa_nil)))))), ?_⟩
    exact ⟨_, rfl, _, _, rfl, rfl, ⟨by decide, by decide, by decide⟩, _, _, rfl, rfl, v, 0, _, rfl, k⟩
theorem scA : FnScope ["things"] ["things"] (defScope sAsc) := ⟨rfl, rfl, rfl, by decide +kernel, rfl, by decide +kernel, by decide +kernel⟩
theorem ok_asc {f : Addr} {fd : FuncData} (F : Fun K "ascending" "ascending" sAsc f fd) (T : Nm3 mg) : FnOk P w K mg base CX0 1 f fd ["things"] (spAsc K) := by
  refine F.ok scA (fun vs H Q E h => ?_) (fun cdv A outer s H vs Q E hr h => ?_)
  · obtain ⟨a, xs, rfl, _⟩ := h
    rfl
  · obtain ⟨a, xs, rfl, ha, hl, k⟩ := h
    refine ⟨_, (pss_one (ps_ret (pe_callB (TSet.cr_sortedTexts rfl) (by rfl) T.n_sorted (by decide +kernel) (pa_cons (pe_callTy (TSet.cr_setS rfl) (by rfl) T.n_set (by decide +kernel) (pa_cons (pe_callTy (OwR.list_any rfl) (by rfl) T.n_list (by decide +kernel) (pa_cons (pv 0) pa_nil)) pa_nil)) pa_nil)))), ?_⟩
    have fin : ∀ l, H l = none → ∀ a2, (upd H l (.lst (xs.map V.str))) a2 = none → ∀ (ys : List Str) (p : Addr), ys.Perm (TSet.ded xs) → sortedS ys = true → (upd (upd H l (.lst (xs.map V.str))) a2 (TSet.TSO w a2 (TSet.ded xs))) p = none →
        Q (.ref p) (upd (upd (upd H l (.lst (xs.map V.str))) a2 (TSet.TSO w a2 (TSet.ded xs))) p (.lst (ys.map V.str))) := fun l h1 a2 h2 ys p pm srt h3 => by
      have s1 := Same.of_new (o := .lst (xs.map V.str)) h1
      have s2 := s1.trans (Same.of_new (o := TSet.TSO w a2 (TSet.ded xs)) h2)
      have s3 := s2.trans (Same.of_new (o := .lst (ys.map V.str)) h3)
      exact k ys p _ pm srt (s2.free h3) s3 upd_same
    have hb : xs.length < scanBound := Nat.lt_trans hl (by decide)
    have hd : (TSet.ded xs).length < 64 := Nat.lt_of_le_of_lt (TSet.ded_len xs) hl
    have rest : ∀ l, H l = none → ∃ (l0 : Addr) (zs : List Str), ([V.ref l] : List V) = [V.ref l0] ∧ SqL K (upd H l (.lst (xs.map V.str))) l0 (zs.map V.str) ∧ zs.length < scanBound ∧
        ∀ a2, (upd H l (.lst (xs.map V.str))) a2 = none → ∃ (a3 : Addr) (L : List Str), ([V.ref a2] : List V) = [V.ref a3] ∧ (upd (upd H l (.lst (xs.map V.str))) a2 (TSet.TSO w a2 (TSet.ded zs))) a3 = some (TSet.TSO w a3 L) ∧ L.length < 64 ∧
          ∀ (ys : List Str) (p : Addr), ys.Perm L → sortedS ys = true → (upd (upd H l (.lst (xs.map V.str))) a2 (TSet.TSO w a2 (TSet.ded zs))) p = none →
            Q (.ref p) (upd (upd (upd H l (.lst (xs.map V.str))) a2 (TSet.TSO w a2 (TSet.ded zs))) p (.lst (ys.map V.str))) := fun l h1 =>
      ⟨l, xs, rfl, SqL.of upd_same, hb, fun a2 h2 => ⟨a2, _, rfl, upd_same, hd, fun ys p pm srt h3 => fin l h1 a2 h2 ys p pm srt h3⟩⟩
    refine ⟨_, rfl, ?_⟩
    rcases ha with h | h | ⟨kvs, h, e⟩
    · exact .inl ⟨a, _, rfl, .inl h, rest⟩
    · exact .inl ⟨a, _, rfl, .inr h, rest⟩
    · refine .inr ⟨a, kvs, rfl, h, ?_⟩
      have ek : (kvs.map fun kv => kV kv.1) = xs.map V.str := by
        have q := congrArg (List.map kV) e
        rw [List.map_map, List.map_map] at q
        exact q
      rw [ek]
      exact rest
end
end K10
end
section
namespace K10
open PySem PySem.Spec PyProof.Rows L2
/-- a table's numbers by its names, and no other key -/
def TabOf (kvs : List (Key × V)) (N : Str → Option Int) : Prop := (∀ z, valV kvs (Sum.inr z) = (N z).map V.int) ∧ ∀ i, valV kvs (Sum.inl i) = none
theorem TabOf.nil : TabOf [] fun _ => none := ⟨fun _ => rfl, fun _ => rfl⟩
theorem TabOf.put {kvs : List (Key × V)} {N : Str → Option Int} (t : TabOf kvs N) (z : Str) (v : Int) : TabOf (putK kvs (Sum.inr z) (.int v)) fun y => if y = z then some v else N y := by
  refine ⟨fun y => ?_, fun i => ?_⟩
  · rw [valV_put, t.1 y]
    by_cases e : y = z
    · dsimp only
      rw [if_pos (congrArg Sum.inr e), if_pos e]
      rfl
    · dsimp only
      rw [if_neg (fun q => e (Sum.inr.inj q)), if_neg e]
  · rw [valV_put, t.2 i, if_neg (fun q => by cases q)]
theorem TabOf.cast {kvs : List (Key × V)} {N M : Str → Option Int} (t : TabOf kvs N) (h : ∀ z, N z = M z) : TabOf kvs M := by
  rw [← funext h]
  exact t
theorem TabOf.get {kvs : List (Key × V)} {N : Str → Option Int} (t : TabOf kvs N) {H : Hp} {a : Addr} (h : Rd H a (.dK kvs)) (z : Str) : DGet H a (.str z) ((N z).map V.int) := .inl ⟨kvs, Sum.inr z, h, rfl, (t.1 z).symm⟩
theorem TabOf.mem {kvs : List (Key × V)} {N : Str → Option Int} (t : TabOf kvs N) {xs : List Str} (e : kvs.map (·.1) = xs.map Sum.inr) (z : Str) : z ∈ xs ↔ (N z).isSome = true := by
  have h1 : (kvs.any fun kv => decide (kv.1 = Sum.inr z)) = (valV kvs (Sum.inr z)).isSome := valV_any _ kvs
  rw [t.1 z, Option.isSome_map] at h1
  rw [← h1, List.any_eq_true]
  refine ⟨fun h => ?_, fun ⟨kv, h, e2⟩ => ?_⟩
  · have h2 : (Sum.inr z : Key) ∈ kvs.map (·.1) := by
      rw [e]
      exact List.mem_map.mpr ⟨z, h, rfl⟩
    obtain ⟨kv, h3, h4⟩ := List.mem_map.mp h2
    exact ⟨kv, h3, decide_eq_true h4⟩
  · have h2 : (Sum.inr z : Key) ∈ kvs.map (·.1) := List.mem_map.mpr ⟨kv, h, of_decide_eq_true e2⟩
    rw [e] at h2
    obtain ⟨y, h3, h4⟩ := List.mem_map.mp h2
    exact Sum.inr.inj h4 ▸ h3
structure Nm4 (mg : Str → Option Value) : Prop where
  n_tuple : mg "tuple" = none
def told (N : Str → Option Int) : Str → Option Int := fun z => if 0 < (N z).getD 0 then N z else none
def spTold : Sp := fun vs H Q _ => ∃ (a : Addr) (kvs : List (Key × V)) (xs : List Str) (N : Str → Option Int), vs = [.ref a] ∧ Rd H a (.dK kvs) ∧ kvs.map (·.1) = xs.map Sum.inr ∧ xs.length < 64 ∧ TabOf kvs N ∧
  (∀ z v, N z = some v → 0 ≤ v ∧ v ≤ 10 ^ 60 - 1) ∧ ∀ (kvs' : List (Key × V)) (p : Addr) (H' : Hp), TabOf kvs' (told N) → kvs'.length < 64 → H p = none → Same H H' → H' p = some (.dK kvs') → Q (.ref p) H'
section
variable {P : Program} {w : World} {K : PySem.W.Frag} {mg : Str → Option Value} {base : Heap}
abbrev nTold : List Str := ["table", "keys", "key"]
theorem scT : FnScope nTold ["table"] (defScope sTold) := ⟨rfl, rfl, rfl, by decide +kernel, rfl, by decide +kernel, by decide +kernel⟩
theorem ok_told {f fN fA fW : Addr} {fd fdN fdA fdW : FuncData} (F : Fun K "numbers_told" "numbers_told" sTold f fd) (T : Nm2 mg) (T3 : Nm3 mg) (FA : Fun K "ascending" "ascending" sAsc fA fdA) (FN : Fun K "is_number" "is_number" sNumber fN fdN) (FW : Fun K "is_within" "is_within" sWithin fW fdW)
    (gW : mg "is_within" = some (.ref fW)) (gA : mg "ascending" = some (.ref fA)) (gN : mg "is_number" = some (.ref fN)) : FnOk P w K mg base CX0 3 f fd ["table"] spTold := by
  have GN : FnOk P w K mg base CX0 2 fN fdN ["value"] spNumber := ok_number FN T FW gW
  have bN : Binds K fdN ["value"] [] := FN.binds fun _ _ _ _ _ _ us hl => match us, hl with | [_], _ => rfl
  have GA : FnOk P w K mg base CX0 1 fA fdA ["things"] (spAsc K) := ok_asc FA T3
  have bA : Binds K fdA ["things"] [] := FA.binds fun _ _ _ _ _ _ us hl => match us, hl with | [_], _ => rfl
  refine F.ok scT (fun vs H Q E h => ?_) (fun cdv A outer s H vs Q E hr h => ?_)
  · obtain ⟨a, kvs, xs, N, rfl, _⟩ := h
    rfl
  · obtain ⟨a, kvs, xs, N, rfl, ha, ek, hl, tb, hn, k⟩ := h
    have hu : (A.deeper (envOfC "numbers_told" (defScope sTold) s.heap.objs.size f cdv)).units + 1 < cLine := (by have := hr.units; omega)
    have hr1 : Room 1 _ := hr.mono (by decide)
    refine ⟨_, (pss_cons (ps_set (i := 1) scT.nd rfl (Or.inl rfl) (pe_call GA hr1 (by rfl) gA FA.kp bA .nil pass0 (pa_cons (pv 0) pa_nil)))
    (pss_cons (ps_for PassesOwn.never rfl (pi_list (pv 1)) (pg_name (i := 2) scT.nd rfl (Or.inl rfl)) (pss_one (ps_if (pt_not (pt_val (pe_call GN hr (by rfl) gN FN.kp bN .nil pass0 (pa_cons (pe_dget hu (pv 0) (pv 2) (fun _ _ => rfl)) pa_nil)))) (pss_one ps_never) pss_nil)))
    (pss_one (ps_ret (pe_dc (own := [("key", 2)]) rfl scT.nd (pi_list (pv 1)) (blkOk_by (own := [("key", 2)]) (N := nTold) (sc := defScope sTold) (by decide +kernel)) (fun _ _ _ _ _ => (pg_name (i := 2) scT.nd rfl (Or.inl rfl))) (fun _ _ _ _ _ => pts_one (pt_cmpR op_gt (pe_dget hu (pv 0) (pv 2) (fun _ _ => rfl)) pe_int (nomark _))) (fun _ _ _ _ _ => (pv 2)) (fun _ _ _ _ _ => (pe_dget hu (pv 0) (pv 2) (fun _ _ => rfl)))))))), ?_⟩
    refine ⟨_, rfl, a, xs, rfl, ?_, hl, fun ys p H1 pm srt hp s1 e1 => ?_⟩
    · exact .inr (.inr ⟨kvs, ha, ek⟩)
    have hlen : ys.length < 64 := Nat.lt_of_le_of_lt (Nat.le_of_eq pm.length_eq) (Nat.lt_of_le_of_lt (TSet.ded_len xs) hl)
    have hys : ∀ z, z ∈ ys ↔ (N z).isSome = true := fun z => (pm.mem_iff.trans (TSet.ded_mem xs z)).trans (tb.mem ek z)
    have hnd : ys.Nodup := pm.nodup_iff.mpr (TSet.ded_nodup xs)
    have hat : ∀ i z, ys[i]? = some z → ∃ v, N z = some v ∧ 0 ≤ v ∧ v ≤ 10 ^ 60 - 1 := fun i z hz => by
      obtain ⟨v, hv⟩ := Option.isSome_iff_exists.mp ((hys z).mp (List.mem_of_getElem? hz))
      exact ⟨v, hv, hn z v hv⟩
    have ha1 : Rd H1 a (.dK kvs) := ha.elim (fun e => .inl (s1 a _ e)) fun ⟨o, e⟩ => .inr ⟨o, s1 a _ e⟩
    refine ⟨_, rfl, p, rfl, ⟨_, SqL.of e1⟩, ?_⟩
    refine for_it (walk_list (xs := ys.map V.str)) (fun i σ H' => H1 = H' ∧ ∃ x, σ = [some (.ref a), some (.ref p), x]) ⟨rfl, _, rfl⟩ (fun i σ H' _ q => q.1 ▸ SqL.of e1) (fun i x σ H' H2 hi q y => ?_) (fun σ H' q => ?_)
    · obtain ⟨rfl, x0, rfl⟩ := q
      obtain ⟨rfl, hx⟩ := y
      rw [List.getElem?_map] at hx
      obtain ⟨z, hz, rfl⟩ := Option.map_eq_some_iff.mp hx
      obtain ⟨v, hv, v0, v1⟩ := hat i z hz
      refine ⟨_, rfl, _, rfl, a, .int v, rfl, ?_, v, rfl, _, rfl, ?_⟩
      · have g := tb.get ha1 z
        rw [hv] at g
        exact g
      rw [decide_eq_true v0, decide_eq_true v1]
      exact ⟨rfl, _, rfl⟩
    · obtain ⟨rfl, x0, rfl⟩ := q
      refine ⟨_, rfl, p, rfl, ⟨_, SqL.of e1⟩, fun D hD => ?_⟩
      have nD : p ≠ D := ne_of_none e1 hD
      refine OwR.dc_it (walk_list (xs := ys.map V.str)) (fun i H2 => Same H1 H2 ∧ ∃ r, H2 D = some (.dK r) ∧ r.length ≤ i ∧ TabOf r fun z => if z ∈ ys.take i then told N z else none) ⟨Same.of_new hD, [], upd_same, Nat.le_refl 0, ?_⟩ (fun i H2 _ q => SqL.of (q.1 p _ e1)) (fun i x H2 H3 hi q y => ?_) (fun H2 q => ?_)
      · exact TabOf.nil.cast fun z => (if_neg (by simp)).symm
      · obtain ⟨s2, r, er, lr, tr⟩ := q
        obtain ⟨rfl, hx⟩ := y
        rw [List.getElem?_map] at hx
        obtain ⟨z, hz, rfl⟩ := Option.map_eq_some_iff.mp hx
        obtain ⟨v, hv, v0, v1⟩ := hat i z hz
        have ha2 : Rd H3 a (.dK kvs) := ha1.elim (fun e => .inl (s2 a _ e)) fun ⟨o, e⟩ => .inr ⟨o, s2 a _ e⟩
        have g := tb.get ha2 z
        rw [hv] at g
        have hi2 : i < ys.length := by rw [List.length_map] at hi; exact hi
        have hmem : ∀ y : Str, y ∈ ys.take (i + 1) ↔ y ∈ ys.take i ∨ y = z := fun y => by
          rw [List.take_add_one, hz]
          simp
        have hz0 : z ∉ ys.take i := fun q => by
          have e3 := List.take_add_one (l := ys) (i := i)
          rw [hz] at e3
          have h5 : (ys.take (i + 1)).Nodup := hnd.sublist (List.take_sublist _ _)
          rw [e3] at h5
          have h6 := (List.nodup_append.mp h5).2.2 z q z (by simp)
          exact h6 rfl
        refine ⟨rfl, ?_⟩
        refine ⟨_, rfl, _, rfl, a, .int v, rfl, g, v, 0, rfl, rfl, _, rfl, ?_⟩
        have tl : told N z = if 0 < v then some v else none := by
          unfold told
          rw [hv]
          rfl
        by_cases c : 0 < v
        · rw [decide_eq_true c]
          refine iteT ?_
          refine ⟨_, rfl, _, rfl, _, rfl, a, .int v, rfl, g, ?_⟩
          refine ⟨r, Sum.inr z, rfl, er, Nat.lt_of_le_of_lt lr (by have := sizeLine_eq; omega), ?_⟩
          refine ⟨fun b o e => ?_, _, upd_same, ?_, (tr.put z v).cast fun y => ?_⟩
          · rw [upd_ne (ne_of_none e hD)]
            exact s2 b o e
          · have := length_putK r (Sum.inr z) (.int v)
            omega
          · by_cases e : y = z
            · subst e
              rw [if_pos rfl, if_pos ((hmem y).mpr (.inr rfl)), tl, if_pos c]
            · rw [if_neg e]
              by_cases m : y ∈ ys.take i
              · rw [if_pos m, if_pos ((hmem y).mpr (.inl m))]
              · rw [if_neg m, if_neg fun q => ((hmem y).mp q).elim m e]
        · rw [decide_eq_false c]
          refine iteF ?_
          refine ⟨s2, r, er, by omega, tr.cast fun y => ?_⟩
          by_cases e : y = z
          · subst e
            rw [if_neg hz0, if_pos ((hmem y).mpr (.inr rfl)), tl, if_neg c]
          · by_cases m : y ∈ ys.take i
            · rw [if_pos m, if_pos ((hmem y).mpr (.inl m))]
            · rw [if_neg m, if_neg fun q => ((hmem y).mp q).elim m e]
      · obtain ⟨s2, r, er, lr, tr⟩ := q
        rw [List.length_map, List.take_length] at tr
        refine k r D H2 (tr.cast fun z => ?_) (Nat.lt_of_le_of_lt (by rw [List.length_map] at lr; exact lr) hlen) (s1.free hD) (s1.trans s2) er
        by_cases c : z ∈ ys
        · exact if_pos c
        · have h7 : N z = none := by
            cases h8 : N z with
            | none => rfl
            | some u => exact absurd ((hys z).mpr (by rw [h8]; rfl)) c
          rw [if_neg c]
          unfold told
          rw [h7]
          rfl

end
end K10
end
section
namespace OwR
open PySem PySem.Spec PyProof.Rows L2
section
variable {X : Cx} {CX : CXT} {k : Nat} {f C : Addr} {sp : Sp} {E : XK} {x : Str} {p pos : Pos}
/-- C(), __init__ by a positional promise -/
theorem pe_makeR0 (M : Mk X.K C f) (F : FnR X.prog X.w X.K X.mg X.base CX k f sp) (hr : Room (k + 1) X.A) (hg : Gl X x) (hm : X.mg x = some (.ref C)) (hx : Passes CX X E) (hdb : (x == ("__debug__" : Str)) = false := by decide) :
    PE X (.Call (.Name x p) [] [] pos) (StX.tMakeR C sp E tNil) := by
  refine ⟨fun pins s σ H Q I h => ?_⟩
  refine wpAny_Call_Name_kw (ld_glob I hg hm ?_ hdb)
  exact PySem.W.callWith_K0 I.kIn M.kp (StX.run_makeR (us := []) M F hr hx I .nil h)
end
end OwR
namespace K10
open PySem PySem.Spec PyProof.Rows L2
/-- the j-th statement of the class that is the c-th of the text -/
def mth (c j : Nat) : Stmt := match top c with
  | .ClassDef _ _ _ body _ _ _ _ _ _ _ => body.getD j (.Pass ⟨0, 0, 0, 0⟩)
  | _ => .Pass ⟨0, 0, 0, 0⟩
abbrev sHouse0 : Stmt := mth 21 1
abbrev sHouseOf : Stmt := mth 21 2
abbrev sHouseNone : Stmt := mth 21 3
abbrev sHouseAt : Stmt := mth 21 9
abbrev sWith : Stmt := top 22
theorem But.rd {p : Addr} {H H' : Hp} (s : But p H H') {a : Addr} {o : HO} (n : a ≠ p) (h : Rd H a o) : Rd H' a o := h.elim (fun e => .inl (s a _ n e)) fun ⟨q, e⟩ => .inr ⟨q, s a _ n e⟩
theorem Same.but {H H' : Hp} (p : Addr) (s : Same H H') : But p H H' := fun b o _ e => s b o e
theorem Same.rd {H H' : Hp} (s : Same H H') {a : Addr} {o : HO} (h : Rd H a o) : Rd H' a o := h.elim (fun e => .inl (s a _ e)) fun ⟨q, e⟩ => .inr ⟨q, s a _ e⟩
/-- the class of houses -/
structure HouseC (K : PySem.W.Frag) (C : Addr) : Prop where
  cls : Cls K C
  n1 : NoAttr K C "_numbers"
  n2 : NoAttr K C "_bays"
/-- at a stands a house with these numbers -/
def HouseAt (C : Addr) (H : Hp) (a : Addr) (N : Str → Option Int) : Prop := ∃ (dx : Addr) (fs : List (Str × V)) (d : Addr) (kvs : List (Key × V)), H a = some (.ins C dx fs) ∧ fs.lookup ("_numbers" : Str) = some (.ref d) ∧ Rd H d (.dK kvs) ∧ TabOf kvs N
theorem HouseAt.same {C : Addr} {H H' : Hp} {a : Addr} {N : Str → Option Int} (h : HouseAt C H a N) (s : Same H H') : HouseAt C H' a N := by
  obtain ⟨dx, fs, d, kvs, h1, h2, h3, h4⟩ := h
  exact ⟨dx, fs, d, kvs, s _ _ h1, h2, Same.rd s h3, h4⟩
theorem HouseAt.cast {C : Addr} {H : Hp} {a : Addr} {N M : Str → Option Int} (h : HouseAt C H a N) (e : ∀ z, N z = M z) : HouseAt C H a M := by
  rw [← funext e]
  exact h
theorem made_same {H H' : Hp} {x dx : Addr} {o o' : HO} (hx : H x = none) (hd : H dx = none) (s : But x (upd (upd H dx o) x o') H') : Same H H' := fun b u e => by
  refine s b u (ne_of_none e hx) ?_
  rw [upd_ne (ne_of_none e hx), upd_ne (ne_of_none e hd)]
  exact e
def spH0 (C : Addr) : Sp := fun vs H Q _ => ∃ a d dx : Addr, vs = [.ref a, .ref d] ∧ H a = some (.ins C dx []) ∧ H d = some (.dK []) ∧ ∀ H' fs, But a H H' → H' a = some (.ins C dx fs) → fs.length ≤ 2 → HouseAt C H' a (fun _ => none) → Q .non H'
def spH0' (C : Addr) : Sp := fun vs H Q _ => ∃ a dx : Addr, vs = [.ref a] ∧ H a = some (.ins C dx []) ∧ ∀ H' fs, But a H H' → H' a = some (.ins C dx fs) → fs.length ≤ 2 → HouseAt C H' a (fun _ => none) → Q .non H'
def spWith (C : Addr) : Sp := fun vs H Q _ => ∃ (t : Addr) (kvs : List (Key × V)) (xs : List Str) (N : Str → Option Int), vs = [.ref t] ∧ Rd H t (.dK kvs) ∧ kvs.map (·.1) = xs.map Sum.inr ∧ xs.length < 64 ∧ TabOf kvs N ∧
  (∀ z v, N z = some v → 0 ≤ v ∧ v ≤ 10 ^ 60 - 1) ∧ ∀ a H', H a = none → Same H H' → HouseAt C H' a (told N) → Q (.ref a) H'
def spOf (C : Addr) : Sp := fun vs H Q _ => ∃ (c : V) (t : Addr) (kvs : List (Key × V)) (xs : List Str) (N : Str → Option Int), vs = [c, .ref t] ∧ H t = some (.dK kvs) ∧ kvs.map (·.1) = xs.map Sum.inr ∧ xs.length < 64 ∧ (∀ z ∈ xs, nameB z = true ∧ z.length ≤ 1000) ∧ TabOf kvs N ∧
  (∀ z v, N z = some v → 0 ≤ v ∧ v ≤ 10 ^ 60 - 1) ∧ ∀ a H', H a = none → Same H H' → HouseAt C H' a (told N) → Q (.ref a) H'
def spNone (C : Addr) : Sp := fun vs H Q _ => vs = [] ∧ ∀ a H', H a = none → Same H H' → HouseAt C H' a (fun _ => none) → Q (.ref a) H'
def spItem (C : Addr) : Sp := fun vs H Q _ => ∃ (a : Addr) (z : Str) (N : Str → Option Int), vs = [.ref a, .str z] ∧ HouseAt C H a N ∧ nameB z = true ∧ z.length ≤ 1000 ∧ ∀ H', Same H H' → Q (.int ((N z).getD 0)) H'
/-- the checks, where they stand -/
structure Chk (P : Program) (w : World) (K : PySem.W.Frag) (mg : Str → Option Value) (base : Heap) : Prop where
  nm : ∃ f fd, mg "is_name" = some (.ref f) ∧ Fun K "is_name" "is_name" sName f fd
  wi : ∃ f fd, mg "is_within" = some (.ref f) ∧ Fun K "is_within" "is_within" sWithin f fd
  nu : ∃ f fd, mg "is_number" = some (.ref f) ∧ Fun K "is_number" "is_number" sNumber f fd
  as : ∃ f fd, mg "ascending" = some (.ref f) ∧ Fun K "ascending" "ascending" sAsc f fd
  to : ∃ f fd, mg "numbers_told" = some (.ref f) ∧ Fun K "numbers_told" "numbers_told" sTold f fd
  T : Nm2 mg
  T3 : Nm3 mg
  T4 : Nm4 mg
section
variable {P : Program} {w : World} {K : PySem.W.Frag} {mg : Str → Option Value} {base : Heap}
theorem Chk.told (c : Chk P w K mg base) : ∃ f fd, mg "numbers_told" = some (.ref f) ∧ PySem.W.keepIn K (.ref f) = true ∧ Binds K fd ["table"] [] ∧ FnOk P w K mg base CX0 3 f fd ["table"] spTold := by
  obtain ⟨f, fd, g, F⟩ := c.to
  obtain ⟨f1, fd1, g1, F1⟩ := c.as
  obtain ⟨f2, fd2, g2, F2⟩ := c.nu
  obtain ⟨f3, fd3, g3, F3⟩ := c.wi
  exact ⟨f, fd, g, F.kp, F.binds fun _ _ _ _ _ _ us hl => match us, hl with | [_], _ => rfl, ok_told F c.T c.T3 F1 F2 F3 g3 g1 g2⟩
theorem Chk.name (c : Chk P w K mg base) : ∃ f fd, mg "is_name" = some (.ref f) ∧ PySem.W.keepIn K (.ref f) = true ∧ Binds K fd ["value"] [] ∧ FnOk P w K mg base CX0 1 f fd ["value"] spName := by
  obtain ⟨f, fd, g, F⟩ := c.nm
  exact ⟨f, fd, g, F.kp, F.binds fun _ _ _ _ _ _ us hl => match us, hl with | [_], _ => rfl, ok_name F c.T⟩
theorem Chk.within (c : Chk P w K mg base) : ∃ f fd, mg "is_within" = some (.ref f) ∧ PySem.W.keepIn K (.ref f) = true ∧ Binds K fd ["value", "least", "most"] [] ∧ FnOk P w K mg base CX0 1 f fd ["value", "least", "most"] spWithin := by
  obtain ⟨f, fd, g, F⟩ := c.wi
  exact ⟨f, fd, g, F.kp, F.binds fun _ _ _ _ _ _ us hl => match us, hl with | [_, _, _], _ => rfl, ok_within F c.T⟩
theorem Chk.asc (c : Chk P w K mg base) : ∃ f fd, mg "ascending" = some (.ref f) ∧ PySem.W.keepIn K (.ref f) = true ∧ Binds K fd ["things"] [] ∧ FnOk P w K mg base CX0 1 f fd ["things"] (spAsc K) := by
  obtain ⟨f, fd, g, F⟩ := c.as
  exact ⟨f, fd, g, F.kp, F.binds fun _ _ _ _ _ _ us hl => match us, hl with | [_], _ => rfl, ok_asc F c.T3⟩
abbrev nH0 : List Str := ["self", "places", "name"]
theorem scH0 : FnScope nH0 ([("self" : Str)] ++ [("places" : Str)]) (defScope sHouse0) := ⟨rfl, rfl, rfl, by decide +kernel, rfl, by decide +kernel, by decide +kernel⟩
theorem ok_H0 {C f : Addr} {fd : FuncData} (hc : HouseC K C) (F : Fun K "__init__" "House.__init__" sHouse0 f fd) (c : Chk P w K mg base) : FnR P w K mg base CX0 4 f (spH0' C) := by
  obtain ⟨oc, od, kV, doc, pm, an, cdv, ct, osl, rfl, lk, hcd⟩ := F.ex
  obtain ⟨fA, fdA, gA, kA, bA, GA⟩ := c.asc
  obtain ⟨fT, fdT, gT, kT, bT, GT⟩ := c.told
  obtain ⟨fM, fdM, gM, kM, bM, GM⟩ := c.name
  refine FnR.imp (OwR.fn_kw (k := 3) (ps := ["self"]) (pd := "places") (sp := spH0 C) lk hcd scH0 StX.cxUp_none (fun us hl => match us, hl with | [_], _ => rfl) fun A outer s H vs Q E hr h => ?_) fun vs H Q E h => ?_
  · obtain ⟨a, d, dx, rfl, ha, hd, k⟩ := h
    have hr2 : Room 1 _ := hr.mono (by decide)
    refine ⟨_, PSs.nox (pss_cons (ps_for PassesOwn.never rfl (pi_list (pe_call GA hr2 (by rfl) gA kA bA .nil pass0 (pa_cons (pv 1) pa_nil))) (pg_name (i := 2) scH0.nd rfl (Or.inl rfl)) (pss_one (ps_if (pt_not (pt_val (pe_call GM hr2 (by rfl) gM kM bM .nil pass0 (pa_cons (pv 2) pa_nil)))) (pss_one ps_never) pss_nil)))
    (pss_cons (ps_fld (pv 0) (pe_call GT hr (by rfl) gT kT bT .nil pass0 (pa_cons (pv 1) pa_nil)) rfl)
    (pss_one (ps_fld (pv 0) (pe_callTy (OwR.call_tupleD rfl) (by rfl) c.T4.n_tuple (by decide +kernel) (pa_cons (pe_fld (pv 0) rfl) pa_nil)) rfl)))), ?_⟩
    refine ⟨_, rfl, d, [], rfl, .inr (.inr ⟨[], .inl hd, rfl⟩), by decide, fun ys p H1 pm srt hp s1 e1 => ?_⟩
    have ey : ys = [] := List.Perm.eq_nil pm
    subst ey
    refine ⟨p, rfl, ⟨_, SqL.of e1⟩, ?_⟩
    refine for_it (walk_list (xs := [])) (fun i σ H' => H1 = H' ∧ ∃ x, σ = [some (.ref a), some (.ref d), x]) ⟨rfl, _, rfl⟩ (fun i σ H' _ q => q.1 ▸ SqL.of e1) (fun i x σ H' H2 hi q y => absurd hi (Nat.not_lt_zero i)) (fun σ H' q => ?_)
    obtain ⟨rfl, x0, rfl⟩ := q
    refine ⟨_, rfl, d, [], [], fun _ => none, rfl, .inl (s1 d _ hd), rfl, by decide, TabOf.nil, (fun z v e => by cases e), fun kvs' q H2 t2 l2 hq s2 e2 => ?_⟩
    have ea2 := s2 a _ (s1 a _ ha)
    refine ⟨_, rfl, a, C, dx, [], rfl, ea2, hc.cls, hc.n1, by decide, ?_⟩
    have nq : q ≠ a := fun e => by
      rw [e, s1 a _ ha] at hq
      cases hq
    refine ⟨_, rfl, a, C, dx, _, .ref q, rfl, upd_same, hc.cls, hc.n1, rfl, ?_⟩
    refine ⟨q, kvs', rfl, .inl (by rw [upd_ne nq]; exact e2), fun r hr0 => ?_⟩
    have nr : a ≠ r := fun e => by
      rw [← e, upd_same] at hr0
      cases hr0
    refine ⟨_, rfl, a, C, dx, _, rfl, by rw [upd_ne nr]; exact upd_same, hc.cls, hc.n2, (by show (1:Nat) < 1000; decide), ?_⟩
    have nqr : q ≠ r := fun z => by
      rw [← z, upd_ne nq, e2] at hr0
      cases hr0
    refine k _ _ (fun b o n e => ?_) upd_same (by show (2:Nat) ≤ 2; decide) ⟨dx, _, q, kvs', upd_same, rfl, ?_, t2.cast fun z => rfl⟩
    rotate_left
    · refine .inl ?_
      rw [upd_ne nq, upd_ne nqr, upd_ne nq]
      exact e2
    rw [upd_ne n]
    have hb2 := s2 b _ (s1 b _ e)
    have nb : b ≠ r := fun z => by
      rw [← z, upd_ne n, hb2] at hr0
      cases hr0
    rw [upd_ne nb, upd_ne n]
    exact hb2
  · obtain ⟨a, dx, rfl, ha, k⟩ := h
    refine ⟨rfl, fun d hd => ⟨a, d, dx, rfl, ?_, upd_same, fun H' fs s1 e1 l hA => k H' fs (fun b o n e => s1 b o n (Same.of_new hd b o e)) e1 l hA⟩⟩
    rw [upd_ne (ne_of_none ha hd)]
    exact ha
abbrev nWi : List Str := ["table", "house"]
theorem scWi : FnScope nWi ["table"] (defScope sWith) := ⟨rfl, rfl, rfl, by decide +kernel, rfl, by decide +kernel, by decide +kernel⟩
theorem ok_with {C f fH : Addr} {fd fdH : FuncData} (hc : HouseC K C) (FH : Fun K "__init__" "House.__init__" sHouse0 fH fdH) (MH : Mk K C fH) (gH : mg "House" = some (.ref C)) (F : Fun K "house_with" "house_with" sWith f fd) (c : Chk P w K mg base) : FnOk P w K mg base CX0 6 f fd ["table"] (spWith C) := by
  obtain ⟨fT, fdT, gT, kT, bT, GT⟩ := c.told
  have GH := ok_H0 (P := P) (w := w) (mg := mg) (base := base) hc FH c
  refine F.ok scWi (fun vs H Q E h => ?_) (fun cdv A outer s H vs Q E hr h => ?_)
  · obtain ⟨a, kvs, xs, N, rfl, _⟩ := h
    rfl
  · obtain ⟨a, kvs, xs, N, rfl, ha, ek, hl, tb, hn, k⟩ := h
    have hr3 : Room 3 _ := hr.mono (by decide)
    refine ⟨_, (pss_cons (ps_set (i := 1) scWi.nd rfl (Or.inl rfl) (OwR.pe_makeR0 MH GH hr (by rfl) gH pass0))
    (pss_cons (ps_fld (pv 1) (pe_call GT hr3 (by rfl) gT kT bT .nil pass0 (pa_cons (pv 0) pa_nil)) rfl)
    (pss_cons (ps_fld (pv 1) (pe_callTy (OwR.call_tupleD rfl) (by rfl) c.T4.n_tuple (by decide +kernel) (pa_cons (pe_fld (pv 1) rfl) pa_nil)) rfl)
    (pss_one (ps_ret (pv 1)))))), ?_⟩
    refine fun x dx h1 h2 nd => ⟨x, dx, rfl, upd_same, fun H1 fs s1 e1 l1 _ => ⟨rfl, ?_⟩⟩
    have sm := made_same h1 h2 s1
    refine ⟨_, rfl, a, kvs, xs, N, rfl, Same.rd sm ha, ek, hl, tb, hn, fun kvs' q H2 t2 l2 hq s2 e2 => ?_⟩
    have ex2 := s2 x _ e1
    have nq : q ≠ x := fun e => by
      rw [e, e1] at hq
      cases hq
    refine ⟨_, rfl, x, C, dx, fs, rfl, ex2, hc.cls, hc.n1, by omega, ?_⟩
    have lk1 : (putF ("_numbers" : Str) (V.ref q) fs).lookup ("_numbers" : Str) = some (.ref q) := by
      rw [lookup_putF, if_pos rfl]
    refine ⟨_, rfl, x, C, dx, _, .ref q, rfl, upd_same, hc.cls, hc.n1, lk1, ?_⟩
    refine ⟨q, kvs', rfl, .inl (by rw [upd_ne nq]; exact e2), fun r hr0 => ?_⟩
    have nr : x ≠ r := fun e => by
      rw [← e, upd_same] at hr0
      cases hr0
    refine ⟨_, rfl, x, C, dx, _, rfl, by rw [upd_ne nr]; exact upd_same, hc.cls, hc.n2, by have := length_putF ("_numbers" : Str) (V.ref q) fs; omega, ?_⟩
    refine ⟨_, rfl, ?_⟩
    have nqr : q ≠ r := fun z => by
      rw [← z, upd_ne nq, e2] at hr0
      cases hr0
    refine k x _ h1 (fun b o e => ?_) ⟨dx, _, q, kvs', upd_same, ?_, ?_, t2⟩
    · have n := ne_of_none e h1
      have hb2 := s2 b _ (sm b _ e)
      have nb : b ≠ r := fun z => by
        rw [← z, upd_ne n, hb2] at hr0
        cases hr0
      rw [upd_ne n, upd_ne nb, upd_ne n]
      exact hb2
    · rw [lookup_putF, if_neg (by decide)]
      exact lk1
    · refine .inl ?_
      rw [upd_ne nq, upd_ne nqr, upd_ne nq]
      exact e2
theorem scHN : FnScope [] [] (defScope sHouseNone) := ⟨rfl, rfl, rfl, by decide +kernel, rfl, by decide +kernel, by decide +kernel⟩
theorem ok_none {C f fH : Addr} {fd fdH : FuncData} (hc : HouseC K C) (FH : Fun K "__init__" "House.__init__" sHouse0 fH fdH) (MH : Mk K C fH) (gH : mg "House" = some (.ref C)) (F : Fun K "none" "House.none" sHouseNone f fd) (c : Chk P w K mg base) : FnOk P w K mg base CX0 6 f fd [] (spNone C) := by
  have GH := ok_H0 (P := P) (w := w) (mg := mg) (base := base) hc FH c
  refine F.ok scHN (fun vs H Q E h => ?_) (fun cdv A outer s H vs Q E hr h => ?_)
  · obtain ⟨rfl, _⟩ := h
    rfl
  · obtain ⟨rfl, k⟩ := h
    refine ⟨_, (pss_one (ps_ret (OwR.pe_makeR0 MH GH hr (by rfl) gH pass0))), ?_⟩
    refine fun a dx h1 h2 nd => ⟨a, dx, rfl, upd_same, fun H' fs s1 e1 l hA => ⟨rfl, k a H' h1 (made_same h1 h2 s1) hA⟩⟩
abbrev nHO : List Str := ["cls", "table", "key"]
theorem scHO : FnScope nHO ["cls", "table"] (defScope sHouseOf) := ⟨rfl, rfl, rfl, by decide +kernel, rfl, by decide +kernel, by decide +kernel⟩
theorem ok_Of {C f fH fW : Addr} {fd fdH fdW : FuncData} (hc : HouseC K C) (FH : Fun K "__init__" "House.__init__" sHouse0 fH fdH) (MH : Mk K C fH) (gH : mg "House" = some (.ref C)) (FW : Fun K "house_with" "house_with" sWith fW fdW) (gW : mg "house_with" = some (.ref fW)) (F : Fun K "of" "House.of" sHouseOf f fd) (c : Chk P w K mg base) (n_dict : mg "dict" = none) : FnOk P w K mg base CX0 7 f fd ["cls", "table"] (spOf C) := by
  have GW : FnOk P w K mg base CX0 6 fW fdW ["table"] (spWith C) := ok_with hc FH MH gH FW c
  have bW : Binds K fdW ["table"] [] := FW.binds fun _ _ _ _ _ _ us hl => match us, hl with | [_], _ => rfl
  obtain ⟨fM, fdM, gM, kM, bM, GM⟩ := c.name
  refine F.ok scHO (fun vs H Q E h => ?_) (fun cdv A outer s H vs Q E hr h => ?_)
  · obtain ⟨c, t, kvs, xs, N, rfl, _⟩ := h
    rfl
  · obtain ⟨c0, t, kvs, xs, N, rfl, ht, ek, hl, hg, tb, hn, k⟩ := h
    have hr2 : Room 1 _ := hr.mono (by decide)
    refine ⟨_, (pss_cons (ps_if (pt_not (pt_val (pe_callB call_isi (by rfl) c.T.n_isinstance (by decide +kernel) (pa_cons (pv 1) (pa_cons (pe_bltn (v := .ty "dict") (by rfl) n_dict (by decide +kernel) rfl) pa_nil))))) (pss_one ps_never) pss_nil)
    (pss_cons (ps_lock (ps_for PassesOwn.never rfl (pi_keys (pv 1)) (pg_name (i := 2) scHO.nd rfl (Or.inl rfl)) (pss_one (ps_if (pt_not (pt_val (pe_call GM hr2 (by rfl) gM kM bM .nil pass0 (pa_cons (pv 2) pa_nil)))) (pss_one ps_never) pss_nil))))
    (pss_one (ps_ret (pe_call GW hr (by rfl) gW FW.kp bW .nil pass0 (pa_cons (pv 1) pa_nil)))))), ?_⟩
    refine ⟨_, rfl, .ref t, .ty "dict", _, _, true, rfl, .ty _, .base (.dK ht), kit_ty (by decide +kernel), true, rfl, ?_⟩
    refine iteF ?_
    refine ⟨t, _, ht, True.intro, fun od => ?_⟩
    have hkl : kvs.length = xs.length := by
      have := congrArg List.length ek
      rw [List.length_map, List.length_map] at this
      exact this
    refine ⟨_, rfl, t, od, rfl, .inl ⟨kvs, upd_same, ?_⟩⟩
    refine for_it (walk_keys (kvs := kvs)) (fun i σ H' => Same (upd H t (.frz od (.dK kvs))) H' ∧ ∃ x, σ = [some c0, some (.ref t), x]) ⟨Same.refl _, _, rfl⟩ (fun i σ H' _ q => q.1 t _ upd_same) (fun i x σ H' H2 hi q y => ?_) (fun σ H' q => ?_)
    · obtain ⟨s1, x0, rfl⟩ := q
      obtain ⟨rfl, ky, v, hk, rfl⟩ := y
      have e1 : xs[i]?.map Sum.inr = some ky := by
        have e2 : (kvs.map (·.1))[i]? = some ky := by rw [List.getElem?_map, hk]; rfl
        rw [ek, List.getElem?_map] at e2
        exact e2
      obtain ⟨z, hz, rfl⟩ := Option.map_eq_some_iff.mp e1
      have g := hg z (List.mem_of_getElem? hz)
      refine ⟨_, rfl, z, rfl, g.2, fun H3 s3 => ⟨_, rfl, ?_⟩⟩
      rw [g.1]
      exact ⟨s1.trans s3, _, rfl⟩
    · obtain ⟨s1, x0, rfl⟩ := q
      refine ⟨s1 t _ upd_same, ?_⟩
      refine ⟨_, rfl, t, kvs, xs, N, rfl, .inl upd_same, ek, hl, tb, hn, fun a H2 ha s2 hA => ?_⟩
      have s3 : Same H (upd H' t (.dK kvs)) := fun b o e => by
        by_cases n : b = t
        · subst n
          rw [upd_same, ← e, ht]
        · rw [upd_ne n]
          exact s1 b o (by rw [upd_ne n]; exact e)
      exact k a H2 (s3.free ha) (s3.trans s2) hA
abbrev nHI : List Str := ["self", "at"]
theorem scHI : FnScope nHI ["self", "at"] (defScope sHouseAt) := ⟨rfl, rfl, rfl, by decide +kernel, rfl, by decide +kernel, by decide +kernel⟩
theorem ok_Item {C f : Addr} {fd : FuncData} (hc : HouseC K C) (F : Fun K "__getitem__" "House.__getitem__" sHouseAt f fd) (c : Chk P w K mg base) : FnOk P w K mg base CX0 2 f fd ["self", "at"] (spItem C) := by
  obtain ⟨fM, fdM, gM, kM, bM, GM⟩ := c.name
  refine F.ok scHI (fun vs H Q E h => ?_) (fun cdv A outer s H vs Q E hr h => ?_)
  · obtain ⟨a, z, N, rfl, _⟩ := h
    rfl
  · obtain ⟨a, z, N, rfl, hA, hz, hz2, k⟩ := h
    have hr2 : Room 1 _ := hr.mono (by decide)
    have hu : (A.deeper (envOfC "House.__getitem__" (defScope sHouseAt) s.heap.objs.size f cdv)).units + 1 < cLine := (by have := hr.units; omega)
    refine ⟨_, (pss_cons (ps_if (pt_not (pt_val (pe_call GM hr2 (by rfl) gM kM bM .nil pass0 (pa_cons (pv 1) pa_nil)))) (pss_one ps_never) pss_nil)
    (pss_one (ps_ret (pe_dget2 hu (pe_fld (pv 0) rfl) (pv 1) pe_int ⟨rfl, rfl, rfl, rfl⟩)))), ?_⟩
    refine ⟨_, rfl, z, rfl, hz2, fun H1 s1 => ⟨_, rfl, ?_⟩⟩
    rw [hz]
    refine iteF ?_
    obtain ⟨dx, fs, d, kvs, h1, h2, h3, h4⟩ := hA.same s1
    refine ⟨_, rfl, a, C, dx, fs, .ref d, rfl, h1, hc.cls, hc.n1, h2, d, rfl, .inl ⟨kvs, h3⟩, _, rfl, _, h4.get h3 z, ?_⟩
    have e : ((N z).map V.int).getD (.int 0) = .int ((N z).getD 0) := by cases N z <;> rfl
    rw [e]
    exact k H1 s1
end
end K10
end
section
namespace K10
open PySem
abbrev Pk := Str × Int
/-- the bay of the first pick that is open at f -/
def choose (f : Str → Int) : List Pk → Option Str
  | [] => none
  | p :: r => if p.2 < f p.1 then some p.1 else choose f r
def setM (m : Str → Option Int) (b : Str) (k : Int) : Str → Option Int := fun y => if y = b then some k else m y
/-- is it kept behind what was passed? -/
def keeps (m : Str → Option Int) (p : Pk) : Bool := match m p.1 with
  | none => true
  | some k => decide (p.2 < k)
def mAfter (m : Str → Option Int) (p : Pk) : Str → Option Int := if keeps m p = true then setM m p.1 p.2 else m
def kept (m : Str → Option Int) : List Pk → List Pk
  | [] => []
  | p :: r => if keeps m p = true then p :: kept (setM m p.1 p.2) r else kept m r
def mEnd (m : Str → Option Int) : List Pk → (Str → Option Int)
  | [] => m
  | p :: r => mEnd (mAfter m p) r
theorem kept_app (x : Pk) : ∀ (l : List Pk) (m : Str → Option Int), kept m (l ++ [x]) = kept m l ++ (if keeps (mEnd m l) x = true then [x] else [])
  | [], m => by
    show (if keeps m x = true then x :: kept (setM m x.1 x.2) [] else kept m []) = [] ++ (if keeps m x = true then [x] else [])
    split <;> rfl
  | p :: r, m => by
    show (if keeps m p = true then p :: kept (setM m p.1 p.2) (r ++ [x]) else kept m (r ++ [x])) = (if keeps m p = true then p :: kept (setM m p.1 p.2) r else kept m r) ++ (if keeps (mEnd (mAfter m p) r) x = true then [x] else [])
    by_cases h : keeps m p = true
    · rw [if_pos h, if_pos h, kept_app x r, List.cons_append]
      unfold mAfter
      rw [if_pos h]
    · rw [if_neg h, if_neg h, kept_app x r]
      unfold mAfter
      rw [if_neg h]
theorem mEnd_app (x : Pk) : ∀ (l : List Pk) (m : Str → Option Int), mEnd m (l ++ [x]) = mAfter (mEnd m l) x
  | [], _ => rfl
  | p :: r, m => mEnd_app x r (mAfter m p)
theorem kept_len : ∀ (l : List Pk) (m : Str → Option Int), (kept m l).length ≤ l.length
  | [], _ => Nat.le_refl 0
  | p :: r, m => by
    show (if keeps m p = true then p :: kept (setM m p.1 p.2) r else kept m r).length ≤ r.length + 1
    split
    · exact Nat.succ_le_succ (kept_len r _)
    · exact Nat.le_succ_of_le (kept_len r _)
theorem kept_below : ∀ (l : List Pk) (m : Str → Option Int) (p : Pk), p ∈ kept m l → ∀ k, m p.1 = some k → p.2 < k
  | [], _, p, h, _, _ => by cases h
  | q :: r, m, p, h, k, e => by
    have h' : p ∈ (if keeps m q = true then q :: kept (setM m q.1 q.2) r else kept m r) := h
    by_cases c : keeps m q = true
    · rw [if_pos c] at h'
      have c2 := c
      unfold keeps at c2
      rcases List.mem_cons.mp h' with rfl | h2
      · rw [e] at c2
        exact of_decide_eq_true c2
      · by_cases e2 : p.1 = q.1
        · have h3 := kept_below r _ p h2 q.2 (by unfold setM; rw [if_pos e2])
          rw [← e2, e] at c2
          have h4 : q.2 < k := of_decide_eq_true c2
          omega
        · exact kept_below r _ p h2 k (by unfold setM; rw [if_neg e2]; exact e)
    · rw [if_neg c] at h'
      exact kept_below r _ p h' k e
/-- neighbours of one bay have falling keeps -/
def Falls : List Pk → Prop
  | [] => True
  | [_] => True
  | p :: q :: r => (p.1 = q.1 → q.2 < p.2) ∧ Falls (q :: r)
theorem falls_kept : ∀ (l : List Pk) (m : Str → Option Int), Falls (kept m l)
  | [], _ => True.intro
  | p :: r, m => by
    show Falls (if keeps m p = true then p :: kept (setM m p.1 p.2) r else kept m r)
    split
    · have ih := falls_kept r (setM m p.1 p.2)
      have hb := kept_below r (setM m p.1 p.2)
      cases h : kept (setM m p.1 p.2) r with
      | nil => exact True.intro
      | cons q t =>
        rw [h] at ih hb
        exact ⟨fun e => hb q List.mem_cons_self p.2 (by unfold setM; rw [if_pos e.symm]), ih⟩
    · exact falls_kept r m
theorem choose_kept (f : Str → Int) : ∀ (l : List Pk) (m : Str → Option Int), (∀ b k, m b = some k → f b ≤ k) → choose f (kept m l) = choose f l
  | [], _, _ => rfl
  | p :: r, m, h => by
    show choose f (if keeps m p = true then p :: kept (setM m p.1 p.2) r else kept m r) = (if p.2 < f p.1 then some p.1 else choose f r)
    by_cases c : keeps m p = true
    · rw [if_pos c]
      show (if p.2 < f p.1 then some p.1 else choose f (kept (setM m p.1 p.2) r)) = _
      by_cases o : p.2 < f p.1
      · rw [if_pos o, if_pos o]
      · rw [if_neg o, if_neg o]
        refine choose_kept f r _ fun b k e => ?_
        unfold setM at e
        by_cases e2 : b = p.1
        · rw [if_pos e2] at e
          cases e
          rw [e2]
          omega
        · rw [if_neg e2] at e
          exact h b k e
    · rw [if_neg c, choose_kept f r m h, if_neg]
      intro o
      unfold keeps at c
      cases e : m p.1 with
      | none => rw [e] at c; exact c rfl
      | some k =>
        rw [e] at c
        have h1 := h _ _ e
        exact c (decide_eq_true (by omega))
/-- without those behind which the same bay stands -/
def step2 : List Pk → List Pk
  | [] => []
  | [p] => [p]
  | p :: q :: r => if p.1 = q.1 then step2 (q :: r) else p :: step2 (q :: r)
theorem choose_step2 (f : Str → Int) : ∀ l : List Pk, Falls l → choose f (step2 l) = choose f l
  | [], _ => rfl
  | [_], _ => rfl
  | p :: q :: r, h => by
    show choose f (if p.1 = q.1 then step2 (q :: r) else p :: step2 (q :: r)) = (if p.2 < f p.1 then some p.1 else choose f (q :: r))
    have ih := choose_step2 f (q :: r) h.2
    by_cases e : p.1 = q.1
    · rw [if_pos e, ih]
      by_cases o : p.2 < f p.1
      · rw [if_pos o]
        show (if q.2 < f q.1 then some q.1 else choose f r) = some p.1
        have := h.1 e
        rw [if_pos (by rw [← e]; omega), e]
      · rw [if_neg o]
    · rw [if_neg e]
      show (if p.2 < f p.1 then some p.1 else choose f (step2 (q :: r))) = _
      rw [ih]
def oneForm (l : List Pk) : List Pk := step2 (kept (fun _ => none) l)
theorem choose_form (f : Str → Int) (l : List Pk) : choose f (oneForm l) = choose f l :=
  (choose_step2 f _ (falls_kept l _)).trans (choose_kept f l _ fun _ _ e => by cases e)
theorem step2_len : ∀ l : List Pk, (step2 l).length ≤ l.length
  | [] => Nat.le_refl 0
  | [_] => Nat.le_refl 1
  | p :: q :: r => by
    have ih := step2_len (q :: r)
    show (if p.1 = q.1 then step2 (q :: r) else p :: step2 (q :: r)).length ≤ (q :: r).length + 1
    split
    · omega
    · exact Nat.succ_le_succ ih
theorem form_len (l : List Pk) : (oneForm l).length ≤ l.length := Nat.le_trans (step2_len _) (kept_len l _)
/-- the filter by the bays behind -/
def behind (l : List Pk) : List (Option Str) := (l.drop 1).map (fun p => some p.1) ++ [none]
theorem step2_zip : ∀ l : List Pk, step2 l = ((l.zip (behind l)).filter fun e => decide (some e.1.1 ≠ e.2)).map (·.1)
  | [] => rfl
  | [p] => by
    show [p] = (([(p, none)] : List (Pk × Option Str)).filter _).map _
    rfl
  | p :: q :: r => by
    have ih := step2_zip (q :: r)
    have e1 : (p :: q :: r).zip (behind (p :: q :: r)) = (p, some q.1) :: (q :: r).zip (behind (q :: r)) := rfl
    rw [e1, List.filter_cons]
    show (if p.1 = q.1 then step2 (q :: r) else p :: step2 (q :: r)) = _
    by_cases e : p.1 = q.1
    · rw [if_pos e, ih, if_neg (by simp [e])]
    · rw [if_neg e, ih, if_pos (by simp [e]), List.map_cons]
end K10
end
section
namespace K10
open PySem PySem.Spec PyProof.Rows L2
abbrev sIsPick : Stmt := top 33
abbrev sForm : Stmt := top 34
def TupAt (H : Hp) (k : Addr) (p : Pk) : Prop := H k = some (.tup [.str p.1, .int p.2])
/-- picks as tuples of a text and a number -/
structure PicksAt (H : Hp) (ks : List Addr) (ps : List Pk) : Prop where
  len : ks.length = ps.length
  at_ : ∀ (i : Nat) (k : Addr) (p : Pk), ks[i]? = some k → ps[i]? = some p → TupAt H k p
theorem PicksAt.nil {H : Hp} : PicksAt H [] [] := ⟨rfl, fun i k p h => by cases h⟩
theorem PicksAt.get {H : Hp} {ks : List Addr} {ps : List Pk} (h : PicksAt H ks ps) {i : Nat} {v : V} (e : (ks.map V.ref)[i]? = some v) : ∃ k p, v = .ref k ∧ ks[i]? = some k ∧ ps[i]? = some p ∧ TupAt H k p := by
  rw [List.getElem?_map] at e
  obtain ⟨k, hk, rfl⟩ := Option.map_eq_some_iff.mp e
  have hi : i < ps.length := by
    rw [← h.len]
    exact (List.getElem?_eq_some_iff.mp hk).1
  exact ⟨k, ps[i], rfl, hk, List.getElem?_eq_getElem hi, h.at_ i k _ hk (List.getElem?_eq_getElem hi)⟩
theorem PicksAt.mono {H H' : Hp} {ks : List Addr} {ps : List Pk} (h : PicksAt H ks ps) (s : ∀ k xs, H k = some (.tup xs) → H' k = some (.tup xs)) : PicksAt H' ks ps := ⟨h.len, fun i k p e1 e2 => s _ _ (h.at_ i k p e1 e2)⟩
theorem PicksAt.same {H H' : Hp} {ks : List Addr} {ps : List Pk} (h : PicksAt H ks ps) (s : Same H H') : PicksAt H' ks ps := h.mono fun k xs e => s k _ e
theorem PicksAt.upd {H : Hp} {ks : List Addr} {ps : List Pk} (h : PicksAt H ks ps) {D : Addr} {o : HO} (n : ∀ xs, H D ≠ some (.tup xs)) : PicksAt (upd H D o) ks ps := h.mono fun k xs e => by
  have : k ≠ D := fun z => n xs (z ▸ e)
  rw [upd_ne this]
  exact e
theorem PicksAt.snoc {H : Hp} {ks : List Addr} {ps : List Pk} (h : PicksAt H ks ps) {k : Addr} {p : Pk} (e : TupAt H k p) : PicksAt H (ks ++ [k]) (ps ++ [p]) := by
  refine ⟨by rw [List.length_append, List.length_append, h.len]; rfl, fun i k' p' e1 e2 => ?_⟩
  rcases Nat.lt_trichotomy i ks.length with c | c | c
  · rw [List.getElem?_append_left c] at e1
    rw [List.getElem?_append_left (by rw [← h.len]; exact c)] at e2
    exact h.at_ i k' p' e1 e2
  · subst c
    rw [List.getElem?_append_right (Nat.le_refl _), Nat.sub_self] at e1
    rw [h.len, List.getElem?_append_right (Nat.le_refl _), Nat.sub_self] at e2
    cases e1
    cases e2
    exact e
  · rw [List.getElem?_eq_none (by rw [List.length_append]; simp; omega)] at e1
    cases e1
theorem upd_keep {H : Hp} {D b : Addr} {o u w : HO} (hD : H D = some w) (h : H b = some u) (n : u ≠ w) : upd H D o b = some u := by
  have : b ≠ D := fun z => by
    rw [z, hD] at h
    exact n (Option.some.inj h).symm
  rw [upd_ne this]
  exact h
theorem upd_keep2 {H : Hp} {D b : Addr} {o u : HO} (h : H b = some u) (hD : H D = none) : upd H D o b = some u := by
  rw [upd_ne (ne_of_none h hD)]
  exact h
theorem free_of {H : Hp} {D b : Addr} {o : HO} (h : upd H D o b = none) : H b = none := by
  unfold upd at h
  split at h
  · cases h
  · exact h
theorem SqL.mono {K : PySem.W.Frag} {H H' : Hp} {a : Addr} {xs : List V} (h : SqL K H a xs) (s : Same H H') : SqL K H' a xs := h.elim (fun r => .inl (Same.rd s r)) .inr
theorem PicksAt.drop {H : Hp} {ks : List Addr} {ps : List Pk} (h : PicksAt H ks ps) : PicksAt H (ks.drop 1) (ps.drop 1) := by
  refine ⟨by rw [List.length_drop, List.length_drop, h.len], fun i k p e1 e2 => ?_⟩
  rw [List.getElem?_drop] at e1 e2
  exact h.at_ _ k p e1 e2
theorem cut_one (kk : List Addr) : cutV (kk.map V.ref) (some 1) none = (kk.drop 1).map V.ref := by
  have e : (some 1 : Option Int) = some ((1 : Nat) : Int) := rfl
  unfold cutV
  rw [HT.sIx_none, e, HT.sIx_nat]
  cases kk with
  | nil => rfl
  | cons x r =>
    have e2 : min 1 ((x :: r).map V.ref).length = 1 := by
      rw [List.length_map]
      show min 1 (r.length + 1) = 1
      omega
    rw [e2]
    show ((r.map V.ref).take (((x :: r).map V.ref).length - 1)) = r.map V.ref
    exact List.take_of_length_le (by rw [List.length_map, List.length_map]; show r.length ≤ r.length + 1 - 1; omega)
def optV : Option Str → V
  | none => .non
  | some z => .str z
theorem behind_vals (kp : List Pk) : ((kp.drop 1).map fun p => V.str p.1) ++ [V.non] = (behind kp).map optV := by
  unfold behind
  rw [List.map_append, List.map_map]
  rfl
/-- a pick as it is passed: a tuple, or a name alone for a keep of 0 -/
def ValAt (H : Hp) (x : V) (p : Pk) : Prop := (∃ k, x = .ref k ∧ TupAt H k p) ∨ (x = .str p.1 ∧ p.2 = 0)
theorem ValAt.same {H H' : Hp} {x : V} {p : Pk} (h : ValAt H x p) (s : Same H H') : ValAt H' x p := h.elim (fun ⟨k, e, t⟩ => .inl ⟨k, e, s _ _ t⟩) .inr
structure ValsAt (H : Hp) (xs : List V) (ps : List Pk) : Prop where
  len : xs.length = ps.length
  at_ : ∀ (i : Nat) (x : V) (p : Pk), xs[i]? = some x → ps[i]? = some p → ValAt H x p
theorem ValsAt.same {H H' : Hp} {xs : List V} {ps : List Pk} (h : ValsAt H xs ps) (s : Same H H') : ValsAt H' xs ps := ⟨h.len, fun i x p e1 e2 => (h.at_ i x p e1 e2).same s⟩
theorem ValsAt.get {H : Hp} {xs : List V} {ps : List Pk} (h : ValsAt H xs ps) {i : Nat} {x : V} (e : xs[i]? = some x) : ∃ p, ps[i]? = some p ∧ ValAt H x p := by
  have hi : i < ps.length := by
    rw [← h.len]
    exact (List.getElem?_eq_some_iff.mp e).1
  exact ⟨ps[i], List.getElem?_eq_getElem hi, h.at_ i x _ e (List.getElem?_eq_getElem hi)⟩
theorem PicksAt.vals {H : Hp} {ks : List Addr} {ps : List Pk} (h : PicksAt H ks ps) : ValsAt H (ks.map V.ref) ps := by
  refine ⟨by rw [List.length_map, h.len], fun i x p e1 e2 => ?_⟩
  rw [List.getElem?_map] at e1
  obtain ⟨k, hk, rfl⟩ := Option.map_eq_some_iff.mp e1
  exact .inl ⟨k, rfl, h.at_ i k p hk e2⟩
def spIsPick : Sp := fun vs H Q _ => ∃ (x : V) (p : Pk), vs = [x] ∧ ValAt H x p ∧ nameB p.1 = true ∧ p.1.length ≤ 1000 ∧ 0 ≤ p.2 ∧ p.2 ≤ 9 ∧ ∀ H', Same H H' → Q (.bl true) H'
def spForm (K : PySem.W.Frag) : Sp := fun vs H Q _ => ∃ (a : Addr) (ks : List Addr) (ps : List Pk), vs = [.ref a] ∧ SqL K H a (ks.map V.ref) ∧ PicksAt H ks ps ∧ ps.length ≤ 20 ∧
  ∀ (p : Addr) (H' : Hp) (ks' : List Addr), H p = none → Same H H' → H' p = some (.tup (ks'.map V.ref)) → PicksAt H' ks' (oneForm ps) → Q (.ref p) H'
section
variable {P : Program} {w : World} {K : PySem.W.Frag} {mg : Str → Option Value} {base : Heap}
abbrev nIP : List Str := ["value"]
theorem scIP : FnScope nIP ["value"] (defScope sIsPick) := ⟨rfl, rfl, rfl, by decide +kernel, rfl, by decide +kernel, by decide +kernel⟩
theorem ok_IsPick {f : Addr} {fd : FuncData} (F : Fun K "is_pick" "is_pick" sIsPick f fd) (c : Chk P w K mg base) : FnOk P w K mg base CX0 2 f fd ["value"] spIsPick := by
  obtain ⟨fM, fdM, gM, kM, bM, GM⟩ := c.name
  obtain ⟨fI, fdI, gI, kI, bI, GI⟩ := c.within
  refine F.ok scIP (fun vs H Q E h => ?_) (fun cdv A outer s H vs Q E hr h => ?_)
  · obtain ⟨k, p, rfl, _⟩ := h
    rfl
  · obtain ⟨k, p, rfl, hk, hn, hl, h0, h9, q⟩ := h
    have hr0 : Room 1 _ := hr.mono (by decide)
    refine ⟨_, (pss_cons (ps_if (PW.pt (pw_and (pt_val (pe_callB call_isi (by rfl) c.T.n_isinstance (by decide +kernel) (pa_cons (pv 0) (pa_cons (pe_bltn (v := .ty "tuple") (by rfl) c.T4.n_tuple (by decide +kernel) rfl) pa_nil)))) (pw_and1 (pt_cmpR op_eq (pe_callB call_len_seq (by rfl) c.T.n_len boot_len (pa_cons (pv 0) pa_nil)) pe_int (nomark _))))) (pss_one (ps_ret (pe_and (pe_call GM hr0 (by rfl) gM kM bM .nil pass0 (pa_cons (pe_ix ix_tup (pv 0) pe_int (fun _ _ => rfl)) pa_nil)) (pe_one (pe_call GI hr0 (by rfl) gI kI bI .nil pass0 (pa_cons (pe_ix ix_tup (pv 0) pe_int (fun _ _ => rfl)) (pa_cons pe_int (pa_cons pe_int pa_nil)))))))) pss_nil)
    (pss_one (ps_ret (pe_call GM hr0 (by rfl) gM kM bM .nil pass0 (pa_cons (pv 0) pa_nil))))), ?_⟩
    rcases hk with ⟨k, rfl, hk⟩ | ⟨rfl, _⟩
    · refine ⟨_, rfl, .ref k, .ty "tuple", _, _, true, rfl, .ty _, .base (.tup hk), kit_ty (by decide +kernel), true, rfl, ?_⟩
      refine iteT ?_
      refine ⟨_, rfl, k, _, rfl, .inr (.inl (.inl hk)), ?_⟩
      refine ⟨rfl, _, rfl, ?_⟩
      refine iteT ?_
      have st : SqT K H k [.str p.1, .int p.2] := .inl (.inl hk)
      refine ⟨_, rfl, k, _, 0, _, rfl, rfl, st, rfl, p.1, rfl, hl, fun H1 s1 => ?_⟩
      rw [hn]
      refine ⟨_, rfl, ?_⟩
      refine iteT ?_
      refine ⟨_, rfl, k, _, 1, _, rfl, rfl, .inl (.inl (s1 k _ hk)), rfl, p.2, 0, 9, rfl, ?_⟩
      rw [decide_eq_true h0, decide_eq_true h9]
      exact q H1 s1
    · refine ⟨_, rfl, .str p.1, .ty "tuple", _, _, false, rfl, .ty _, .base (.str _), kit_ty (by decide +kernel), false, rfl, ?_⟩
      refine iteF ?_
      refine ⟨_, rfl, p.1, rfl, hl, fun H1 s1 => ?_⟩
      rw [hn]
      exact q H1 s1
abbrev nFo : List Str := ["picks", "least", "kept", "bay", "keep", "behind", "pick"]
theorem scFo : FnScope nFo ["picks"] (defScope sForm) := ⟨rfl, rfl, rfl, by decide +kernel, rfl, by decide +kernel, by decide +kernel⟩
theorem ok_form {f : Addr} {fd : FuncData} (F : Fun K "one_form" "one_form" sForm f fd) (c : Chk P w K mg base) (n_zip : mg "zip" = none) : FnOk P w K mg base CX0 1 f fd ["picks"] (spForm K) := by
  refine F.ok scFo (fun vs H Q E h => ?_) (fun cdv A outer s H vs Q E hr h => ?_)
  · obtain ⟨a, ks, ps, rfl, _⟩ := h
    rfl
  · obtain ⟨a, ks, ps, rfl, ha, hp, hl, q⟩ := h
    have hu64 : (A.deeper (envOfC "one_form" (defScope sForm) s.heap.objs.size f cdv)).units + 64 < cLine := hr.units
    have hu : (A.deeper (envOfC "one_form" (defScope sForm) s.heap.objs.size f cdv)).units + 1 < cLine := by omega
    refine ⟨_, (pss_cons (ps_set (i := 1) scFo.nd rfl (Or.inl rfl) pe_dnewK)
    (pss_cons (ps_set (i := 2) scFo.nd rfl (Or.inl rfl) (pe_lst pa_nil))
    (pss_cons (ps_for PassesOwn.never rfl (pi_list (pv 0)) (pg_tup rfl (pgs_cons (pg_name (i := 3) scFo.nd rfl (Or.inl rfl)) (pgs_cons (pg_name (i := 4) scFo.nd rfl (Or.inl rfl)) pgs_nil))) (pss_one (ps_if (PW.pt (pw_or (pt_cmp (pc_dnotin hu (pv 3) (pv 1))) (pw_or1 (pt_cmpR op_lt (pv 4) (pe_dget hu (pv 1) (pv 3) (fun _ _ => rfl)) (nomark _))))) (pss_cons (ps_dput hu (pv 1) (pv 3) (pv 4) rfl)
    (pss_one (ps_expr (pe_bm PySem.F.plainAttrs_list PySem.F.slot_list_append PySem.F.type_list_append mt_append (pv 2) (pa_cons (pe_tup (pa_cons (pv 3) (pa_cons (pv 4) pa_nil))) pa_nil))))) pss_nil)))
    (pss_cons (ps_set (i := 5) scFo.nd rfl (Or.inl rfl) (pe_op op_cat (pe_lc (own := [("bay", 3), ("keep", 4)]) (g := (gTup K 2 (gCons (gName 3) (gCons (gName 4) gNil)))) (by rfl) scFo.nd (pi_list (pe_slice sl_list (pv 2) (po_some pe_int) po_none)) (blkOk_by (own := [("bay", 3), ("keep", 4)]) (N := nFo) (sc := defScope sForm) (by decide +kernel)) (fun _ _ _ _ _ => (pg_tup rfl (pgs_cons (pg_name (i := 3) scFo.nd rfl (Or.inl rfl)) (pgs_cons (pg_name (i := 4) scFo.nd rfl (Or.inl rfl)) pgs_nil)))) (fun _ _ _ _ _ => pts_nil) (fun _ _ _ _ _ => (pv 3))) (pe_lst (pa_cons pe_non pa_nil))))
    (pss_one (ps_ret (pe_callTy call_tuple_of (by rfl) c.T4.n_tuple (by decide +kernel) (pa_cons (pe_lc (own := [("pick", 6), ("bay", 3)]) (g := (gTup K 2 (gCons (gName 6) (gCons (gName 3) gNil)))) (by rfl) scFo.nd (pi_zip (by rfl) n_zip (pa_cons (pv 2) (pa_cons (pv 5) pa_nil))) (blkOk_by (own := [("pick", 6), ("bay", 3)]) (N := nFo) (sc := defScope sForm) (by decide +kernel)) (fun _ _ _ _ _ => (pg_tup rfl (pgs_cons (pg_name (i := 6) scFo.nd rfl (Or.inl rfl)) (pgs_cons (pg_name (i := 3) scFo.nd rfl (Or.inl rfl)) pgs_nil)))) (fun _ _ _ _ _ => pts_one (pt_cmpR op_ne (pe_ix (r := rIxT K) ix_tup (pv 6) pe_int (fun _ _ => rfl)) (pv 3) (nomark _))) (fun _ _ _ _ _ => (pv 6))) pa_nil)))))))), ?_⟩
    refine fun D hD => ⟨Nat.zero_le _, fun L hL => ?_⟩
    have sb : Same H (upd (upd H D (.dK [])) L (.lst [])) := (Same.of_new hD).trans (Same.of_new hL)
    refine ⟨_, rfl, a, rfl, ⟨_, SqL.mono ha sb⟩, ?_⟩
    refine for_it (walk_list (xs := ks.map V.ref)) (fun i σ H' => Same H H' ∧ (∃ x3 x4, σ = [some (.ref a), some (.ref D), some (.ref L), x3, x4, none, none]) ∧ ∃ (lk : List (Key × V)) (kk : List Addr), H' D = some (.dK lk) ∧ lk.length ≤ i ∧ TabOf lk (mEnd (fun _ => none) (ps.take i)) ∧ H' L = some (.lst (kk.map V.ref)) ∧ kk.length ≤ i ∧ PicksAt H' kk (kept (fun _ => none) (ps.take i)))
      ⟨sb, ⟨none, none, rfl⟩, [], [], by rw [upd_ne (ne_of_none upd_same hL)]; exact upd_same, Nat.le_refl 0, TabOf.nil, upd_same, Nat.le_refl 0, PicksAt.nil⟩ (fun i σ H' _ q => SqL.mono ha q.1) (fun i x σ H' H2 hi q0 y => ?_) (fun σ H' q0 => ?_)
    · obtain ⟨s1, ⟨x3, x4, rfl⟩, lk, kk, eD, ll, tb, eL, kl, pk⟩ := q0
      obtain ⟨rfl, hx⟩ := y
      obtain ⟨k, p, rfl, hk, hpi, tk⟩ := (hp.same s1).get hx
      have hi2 : i < ps.length := (List.getElem?_eq_some_iff.mp hpi).1
      have etake : ps.take (i + 1) = ps.take i ++ [p] := by
        rw [List.take_add_one, hpi]
        rfl
      refine ⟨k, _, rfl, .inl (.inl tk), rfl, _, _, rfl, _, _, rfl, rfl, ?_⟩
      refine ⟨_, rfl, _, rfl, D, _, rfl, tb.get (.inl eD) p.1, _, rfl, ?_⟩
      cases em : mEnd (fun _ => none) (ps.take i) p.1 with
      | none =>
        have ck : keeps (mEnd (fun _ => none) (ps.take i)) p = true := by
          unfold keeps
          rw [em]
        refine iteT ?_
        refine iteT ?_
        refine ⟨_, rfl, _, rfl, _, rfl, D, _, rfl, DPut.k (k := Sum.inr p.1) eD (by have := sizeLine_eq; omega), ?_⟩
        have nLD : L ≠ D := fun z => by
          rw [z, eD] at eL
          cases eL
        have eL2 : upd H2 D (.dK (putK lk (Sum.inr p.1) (.int p.2))) L = some (.lst (kk.map V.ref)) := by
          rw [upd_ne nLD]
          exact eL
        refine ⟨_, rfl, .inl ⟨rfl, _, SqL.of eL2⟩, ?_⟩
        refine ⟨_, rfl, _, rfl, by show (2:Nat) ≤ sizeLine; have := sizeLine_eq; omega, fun T hT => ?_⟩
        refine ⟨L, _, _, rfl, rfl, upd_keep2 eL2 hT, by rw [List.length_map]; have := sizeLine_eq; omega, ?_⟩
        have nDT : D ≠ T := fun z => by
          rw [← z, upd_same] at hT
          cases hT
        have nLT : L ≠ T := ne_of_none eL2 hT
        refine ⟨fun b o e => ?_, ⟨_, _, rfl⟩, putK lk (Sum.inr p.1) (.int p.2), kk ++ [T], ?_, ?_, ?_, ?_, ?_, ?_⟩
        · have n1 : b ≠ D := ne_of_none e hD
          have n2 : b ≠ L := ne_of_none e (free_of hL)
          have e3 : upd H2 D (.dK (putK lk (Sum.inr p.1) (.int p.2))) b = some o := by
            rw [upd_ne n1]
            exact s1 b o e
          rw [upd_ne n2, upd_ne (ne_of_none e3 hT)]
          exact e3
        · rw [upd_ne (Ne.symm nLD), upd_ne nDT]
          exact upd_same
        · have := length_putK lk (Sum.inr p.1) (.int p.2)
          omega
        · rw [etake, mEnd_app]
          unfold mAfter
          rw [if_pos ck]
          exact (tb.put p.1 p.2).cast fun y => rfl
        · rw [List.map_append]
          exact upd_same
        · rw [List.length_append]
          show kk.length + 1 ≤ i + 1
          omega
        · rw [etake, kept_app, if_pos ck]
          refine PicksAt.snoc ?_ ?_
          · have pk1 : PicksAt (upd H2 D (.dK (putK lk (Sum.inr p.1) (.int p.2)))) kk (kept (fun _ => none) (ps.take i)) := pk.upd fun xs e => by
              rw [eD] at e
              cases e
            have pk2 : PicksAt (upd (upd H2 D (.dK (putK lk (Sum.inr p.1) (.int p.2)))) T (.tup [.str p.1, .int p.2])) kk (kept (fun _ => none) (ps.take i)) := pk1.mono fun k xs e => upd_keep2 e hT
            exact pk2.upd fun xs e => by
              rw [upd_ne nLT, eL2] at e
              cases e
          · show upd _ _ _ _ = _
            rw [upd_ne (Ne.symm nLT)]
            exact upd_same
      | some k0 =>
        refine iteF ?_
        have g := tb.get (.inl eD) p.1
        rw [em] at g
        refine ⟨_, rfl, _, rfl, _, rfl, D, .int k0, rfl, g, p.2, k0, rfl, rfl, _, rfl, ?_⟩
        by_cases c : p.2 < k0
        · have ck : keeps (mEnd (fun _ => none) (ps.take i)) p = true := by
            unfold keeps
            rw [em]
            exact decide_eq_true c
          rw [decide_eq_true c]
          refine iteT ?_
          refine ⟨_, rfl, _, rfl, _, rfl, D, _, rfl, DPut.k (k := Sum.inr p.1) eD (by have := sizeLine_eq; omega), ?_⟩
          have nLD : L ≠ D := fun z => by
            rw [z, eD] at eL
            cases eL
          have eL2 : upd H2 D (.dK (putK lk (Sum.inr p.1) (.int p.2))) L = some (.lst (kk.map V.ref)) := by
            rw [upd_ne nLD]
            exact eL
          refine ⟨_, rfl, .inl ⟨rfl, _, SqL.of eL2⟩, ?_⟩
          refine ⟨_, rfl, _, rfl, by show (2:Nat) ≤ sizeLine; have := sizeLine_eq; omega, fun T hT => ?_⟩
          refine ⟨L, _, _, rfl, rfl, upd_keep2 eL2 hT, by rw [List.length_map]; have := sizeLine_eq; omega, ?_⟩
          have nDT : D ≠ T := fun z => by
            rw [← z, upd_same] at hT
            cases hT
          have nLT : L ≠ T := ne_of_none eL2 hT
          refine ⟨fun b o e => ?_, ⟨_, _, rfl⟩, putK lk (Sum.inr p.1) (.int p.2), kk ++ [T], ?_, ?_, ?_, ?_, ?_, ?_⟩
          · have n1 : b ≠ D := ne_of_none e hD
            have n2 : b ≠ L := ne_of_none e (free_of hL)
            have e3 : upd H2 D (.dK (putK lk (Sum.inr p.1) (.int p.2))) b = some o := by
              rw [upd_ne n1]
              exact s1 b o e
            rw [upd_ne n2, upd_ne (ne_of_none e3 hT)]
            exact e3
          · rw [upd_ne (Ne.symm nLD), upd_ne nDT]
            exact upd_same
          · have := length_putK lk (Sum.inr p.1) (.int p.2)
            omega
          · rw [etake, mEnd_app]
            unfold mAfter
            rw [if_pos ck]
            exact (tb.put p.1 p.2).cast fun y => rfl
          · rw [List.map_append]
            exact upd_same
          · rw [List.length_append]
            show kk.length + 1 ≤ i + 1
            omega
          · rw [etake, kept_app, if_pos ck]
            refine PicksAt.snoc ?_ ?_
            · have pk1 : PicksAt (upd H2 D (.dK (putK lk (Sum.inr p.1) (.int p.2)))) kk (kept (fun _ => none) (ps.take i)) := pk.upd fun xs e => by
                rw [eD] at e
                cases e
              have pk2 : PicksAt (upd (upd H2 D (.dK (putK lk (Sum.inr p.1) (.int p.2)))) T (.tup [.str p.1, .int p.2])) kk (kept (fun _ => none) (ps.take i)) := pk1.mono fun k xs e => upd_keep2 e hT
              exact pk2.upd fun xs e => by
                rw [upd_ne nLT, eL2] at e
                cases e
            · show upd _ _ _ _ = _
              rw [upd_ne (Ne.symm nLT)]
              exact upd_same
        · have ck : ¬ keeps (mEnd (fun _ => none) (ps.take i)) p = true := by
            unfold keeps
            rw [em]
            exact fun z => c (of_decide_eq_true z)
          rw [decide_eq_false c]
          refine iteF ?_
          refine ⟨s1, ⟨_, _, rfl⟩, lk, kk, eD, by omega, ?_, eL, by omega, ?_⟩
          · rw [etake, mEnd_app]
            unfold mAfter
            rw [if_neg ck]
            exact tb
          · rw [etake, kept_app, if_neg ck, List.append_nil]
            exact pk
    · obtain ⟨s1, ⟨x3, x4, rfl⟩, lk, kk, eD, ll, tb, eL, kl, pk⟩ := q0
      have e0 : ps.take (ks.map V.ref).length = ps := by
        rw [List.length_map, hp.len, List.take_length]
      rw [e0] at pk
      have kl20 : kk.length ≤ 20 := by
        rw [List.length_map, hp.len] at kl
        omega
      have sz := sizeLine_eq
      generalize ekp : kept (fun _ => none) ps = kp at pk
      refine ⟨_, rfl, 1, rfl, L, _, rfl, SqL.of eL, ?_⟩
      rw [cut_one]
      intro B hB
      refine ⟨B, rfl, ⟨_, SqL.of upd_same⟩, fun C hC => ?_⟩
      have pd := pk.drop
      have lkp : kk.length = kp.length := pk.len
      refine lc_it (walk_list (xs := (kk.drop 1).map V.ref)) (fun i Hx => Same (upd H' B (.lst ((kk.drop 1).map V.ref))) Hx ∧ Hx C = some (.lst (((kp.drop 1).take i).map fun p => V.str p.1))) ⟨Same.of_new hC, upd_same⟩ (fun i Hx _ q => SqL.of (q.1 B _ upd_same)) (fun i x Hx Hy hi q0 y => ?_) (fun Hx q0 => ?_)
      · obtain ⟨s2, eC⟩ := q0
        obtain ⟨rfl, hx⟩ := y
        obtain ⟨k, p, rfl, hk, hpi, tk⟩ := (pd.same ((Same.of_new hB).trans s2)).get hx
        refine ⟨k, _, rfl, .inl (.inl tk), rfl, _, _, rfl, _, _, rfl, rfl, rfl, ?_⟩
        refine ⟨_, rfl, _, eC, ?_, fun b o e => ?_, ?_⟩
        · rw [List.length_map, List.length_take]
          have := (List.getElem?_eq_some_iff.mp hpi).1
          rw [List.length_drop] at *
          omega
        · rw [upd_ne (ne_of_none e hC)]
          exact s2 b o e
        · rw [upd_same, List.take_add_one, hpi, List.map_append]
          rfl
      obtain ⟨s2, eC⟩ := q0
      have e1 : (kp.drop 1).take ((kk.drop 1).map V.ref).length = kp.drop 1 := by
        rw [List.length_map, pd.len, List.take_length]
      rw [e1] at eC
      refine ⟨by show (1:Nat) ≤ sizeLine; omega, fun N hN => ?_⟩
      refine ⟨C, N, _, _, rfl, rfl, upd_keep2 eC hN, upd_same, by rw [List.length_map, List.length_drop]; show _ + 1 ≤ sizeLine; omega, ?_⟩
      rw [behind_vals]
      intro Z hZ
      have s3 : Same H' Hx := (Same.of_new hB).trans s2
      have s4 : Same H' (upd (upd Hx N (.lst [V.non])) Z (.lst ((behind kp).map optV))) := (s3.trans (Same.of_new hN)).trans (Same.of_new hZ)
      have eL4 := s4 L _ eL
      refine ⟨_, rfl, _, rfl, L, Z, _, _, rfl, SqL.of eL4, SqL.of upd_same, fun R hR => ?_⟩
      have pk4 := pk.same s4
      generalize eHz : upd (upd Hx N (.lst [V.non])) Z (.lst ((behind kp).map optV)) = Hz at s4 eL4 hR pk4 ⊢
      have eZ : Hz Z = some (.lst ((behind kp).map optV)) := by
        rw [← eHz]
        exact upd_same
      have hn : kp.length = min (kk.map V.ref).length ((behind kp).map optV).length := by
        unfold behind
        rw [List.length_map, List.length_map, List.length_append, List.length_map, List.length_drop, lkp]
        show kp.length = min kp.length (kp.length - 1 + 1)
        omega
      refine lc_it (walk_zip (xs := kk.map V.ref) (ys := (behind kp).map optV) hn) (fun i Hx => Same Hz Hx ∧ ∃ kr : List Addr, Hx R = some (.lst (kr.map V.ref)) ∧ kr.length ≤ i ∧ PicksAt Hx kr ((((kp.zip (behind kp)).take i).filter fun e => decide (some e.1.1 ≠ e.2)).map (·.1)))
        ⟨Same.of_new hR, [], upd_same, Nat.le_refl 0, PicksAt.nil⟩ (fun i Hx _ q => ⟨SqL.of (q.1 L _ eL4), SqL.of (q.1 Z _ eZ)⟩) (fun i x Hx Hy hi q0 y => ?_) (fun Hx q0 => ?_)
      · obtain ⟨s5, kr, eR, lr, pr⟩ := q0
        obtain ⟨T, x, z, rfl, hT, rfl, hx, hz⟩ := y
        obtain ⟨k, p, rfl, hk, hpi, tk⟩ := (pk4.same s5).get hx
        have hz : ((behind kp).map optV)[i]? = some z := hz
        rw [List.getElem?_map] at hz
        obtain ⟨o, ho, rfl⟩ := Option.map_eq_some_iff.mp hz
        have ez : (kp.zip (behind kp))[i]? = some (p, o) := by
          rw [List.getElem?_zip_eq_some]
          exact ⟨hpi, ho⟩
        have e5 : (((kp.zip (behind kp)).take (i + 1)).filter fun e => decide (some e.1.1 ≠ e.2)).map (·.1) = (((kp.zip (behind kp)).take i).filter fun e => decide (some e.1.1 ≠ e.2)).map (·.1) ++ (if some p.1 ≠ o then [p] else []) := by
          rw [List.take_add_one, ez, List.filter_append, List.map_append]
          congr 1
          show (([(p, o)] : List (Pk × Option Str)).filter _).map _ = _
          by_cases c : some p.1 = o
          · rw [if_neg (fun q => q c)]
            simp [c]
          · rw [if_pos c]
            simp [c]
        refine ⟨T, _, rfl, .inl (.inl upd_same), rfl, _, _, rfl, _, _, rfl, rfl, rfl, ?_⟩
        have tk2 : upd Hx T (.tup [.ref k, optV o]) k = some (.tup [.str p.1, .int p.2]) := upd_keep2 tk hT
        have hsc : scal (.str p.1) (optV o) = true := by cases o <;> rfl
        have hne : (!decide (V.str p.1 = optV o)) = decide (some p.1 ≠ o) := by
          cases o with
          | none => rfl
          | some y =>
            by_cases c : p.1 = y
            · subst c
              simp [optV]
            · have c2 : ¬ V.str p.1 = V.str y := fun q => c (V.str.inj q)
              simp [optV, c, c2]
        refine ⟨_, rfl, k, _, 0, _, rfl, rfl, .inl (.inl tk2), rfl, _, rfl, hsc, _, rfl, ?_⟩
        rw [hne]
        by_cases c : some p.1 ≠ o
        · rw [decide_eq_true c]
          refine iteT ?_
          refine ⟨_, rfl, _, upd_keep2 eR hT, by rw [List.length_map]; have := (List.getElem?_eq_some_iff.mp hpi).1; omega, fun b o2 e => ?_, kr ++ [k], ?_, ?_, ?_⟩
          · have e6 := upd_keep2 (o := .tup [.ref k, optV o]) (s5 b _ e) hT
            rw [upd_ne (ne_of_none e hR)]
            exact e6
          · rw [List.map_append]
            exact upd_same
          · rw [List.length_append]
            show kr.length + 1 ≤ i + 1
            omega
          · rw [e5, if_pos c]
            have p1 : PicksAt (upd Hx T (.tup [.ref k, optV o])) kr _ := pr.mono fun k xs e => upd_keep2 e hT
            have p2 := p1.snoc tk2
            exact p2.upd fun xs e => by
              rw [upd_keep2 eR hT] at e
              cases e
        · rw [decide_eq_false c]
          refine iteF ?_
          refine ⟨s5.trans (Same.of_new hT), kr, upd_keep2 eR hT, by omega, ?_⟩
          rw [e5, if_neg c, List.append_nil]
          exact pr.mono fun k xs e => upd_keep2 e hT
      obtain ⟨s5, kr, eR, lr, pr⟩ := q0
      have e6 : (kp.zip (behind kp)).take kp.length = kp.zip (behind kp) := List.take_of_length_le (by rw [List.length_zip]; omega)
      rw [e6, ← step2_zip, ← ekp] at pr
      have sH : Same H Hx := (s1.trans s4).trans s5
      refine ⟨R, _, rfl, .inl ⟨SqL.of eR, fun l hl2 => ?_⟩⟩
      exact q l _ kr (sH.free hl2) (sH.trans (Same.of_new hl2)) upd_same (pr.mono fun k xs e => upd_keep2 e hl2)
end
end K10
end
section
namespace OwR
open PySem PySem.Spec PyProof.Rows L2
theorem walk_enumT {K : PySem.W.Frag} {a : Addr} {xs : List V} : Walk (IteT K a) xs.length (fun H => SqT K H a xs) (YPair (fun i => some (.int (i : Nat))) (fun i => xs[i]?)) := by
  refine ⟨fun i _ hi q => ⟨xs, xs[i], q, by simp [hi]⟩, fun _ q => ⟨xs, q, Nat.le_refl _⟩, fun i H v H' _ q y => ?_⟩
  obtain ⟨T, x, h1, h2, h3, h4⟩ := y
  exact ⟨T, .int (i : Nat), x, h1, h2, h3, rfl, h4 xs q⟩
theorem raw0 {P : Program} {w : World} {K : PySem.W.Frag} {mg : Str → Option Value} {base : Heap} {CX : CXT} {k : Nat} {f : Addr} {fd : FuncData} {ps : List Str} {sp : Sp} (F : FnOk P w K mg base CX k f fd ps sp) (hb : Binds K fd ps []) : FnR P w K mg base CX k f sp :=
  (F.raw hb .nil).imp fun vs H Q E h => by rw [List.append_nil]; exact h
end OwR
namespace K10
open PySem PySem.Spec PyProof.Rows L2
abbrev sRule0 : Stmt := mth 29 0
abbrev sPicks : Stmt := mth 29 2
abbrev sCall : Stmt := mth 29 5
abbrev sFirst0 : Stmt := mth 30 0
abbrev sFirstOf : Stmt := mth 30 1
theorem putK_keys {kvs : List (Key × V)} {xs : List Str} (e : kvs.map (·.1) = xs.map Sum.inr) (z : Str) (v : V) : ∃ ys : List Str, (putK kvs (Sum.inr z) v).map (·.1) = ys.map Sum.inr ∧ ys.length ≤ xs.length + 1 := by
  unfold putK
  split
  · refine ⟨xs, ?_, Nat.le_succ _⟩
    rw [← e, List.map_map]
    refine List.map_congr_left fun kv _ => ?_
    show (if kv.1 = Sum.inr z then (kv.1, v) else kv).1 = kv.1
    split <;> rfl
  · refine ⟨xs ++ [z], ?_, by rw [List.length_append]; exact Nat.le_refl _⟩
    rw [List.map_append, List.map_append, e]
    rfl
theorem SqT.mono {K : PySem.W.Frag} {H H' : Hp} {a : Addr} {xs : List V} (h : SqT K H a xs) (s : Same H H') : SqT K H' a xs := h.elim (fun r => .inl (Same.rd s r)) .inr
structure RuleC (K : PySem.W.Frag) (C : Addr) : Prop where
  cls : Cls K C
  n1 : NoAttr K C "_picks"
  n2 : NoAttr K C "_keeps"
  n3 : NoAttr K C "_bays"
def Good (p : Pk) : Prop := nameB p.1 = true ∧ p.1.length ≤ 1000 ∧ 0 ≤ p.2 ∧ p.2 ≤ 9
theorem mem_kept : ∀ (l : List Pk) (m : Str → Option Int) (p : Pk), p ∈ kept m l → p ∈ l
  | [], _, _, h => h
  | q :: r, m, p, h => by
    have h' : p ∈ (if keeps m q = true then q :: kept (setM m q.1 q.2) r else kept m r) := h
    split at h'
    · rcases List.mem_cons.mp h' with e | h2
      · exact List.mem_cons.mpr (.inl e)
      · exact List.mem_cons_of_mem _ (mem_kept r _ p h2)
    · exact List.mem_cons_of_mem _ (mem_kept r _ p h')
theorem mem_step2 : ∀ (l : List Pk) (p : Pk), p ∈ step2 l → p ∈ l
  | [], _, h => h
  | [_], _, h => h
  | a :: b :: r, p, h => by
    have h' : p ∈ (if a.1 = b.1 then step2 (b :: r) else a :: step2 (b :: r)) := h
    split at h'
    · exact List.mem_cons_of_mem _ (mem_step2 (b :: r) p h')
    · rcases List.mem_cons.mp h' with e | h2
      · exact List.mem_cons.mpr (.inl e)
      · exact List.mem_cons_of_mem _ (mem_step2 (b :: r) p h2)
theorem mem_form {l : List Pk} {p : Pk} (h : p ∈ oneForm l) : p ∈ l := mem_kept l _ p (mem_step2 _ p h)
/-- at a stands a rule with these picks -/
def RuleAt (C : Addr) (H : Hp) (a : Addr) (ps : List Pk) : Prop := ∃ (dx : Addr) (fs : List (Str × V)) (p : Addr) (ks : List Addr), H a = some (.ins C dx fs) ∧ fs.lookup ("_picks" : Str) = some (.ref p) ∧ H p = some (.tup (ks.map V.ref)) ∧ PicksAt H ks ps
theorem RuleAt.same {C : Addr} {H H' : Hp} {a : Addr} {ps : List Pk} (h : RuleAt C H a ps) (s : Same H H') : RuleAt C H' a ps := by
  obtain ⟨dx, fs, p, ks, h1, h2, h3, h4⟩ := h
  exact ⟨dx, fs, p, ks, s _ _ h1, h2, s _ _ h3, h4.same s⟩
def spRule0 (K : PySem.W.Frag) (C : Addr) : Sp := fun vs H Q _ => ∃ (a l dx : Addr) (fs0 : List (Str × V)) (ks : List Addr) (ps : List Pk), vs = [.ref a, .ref l] ∧ H a = some (.ins C dx fs0) ∧ fs0.length ≤ 10 ∧ SqL K H l (ks.map V.ref) ∧ PicksAt H ks ps ∧ ps.length ≤ 12 ∧
  ∀ H', But a H H' → RuleAt C H' a (oneForm ps) → Q .non H'
def spFirst0 (K : PySem.W.Frag) (C : Addr) : Sp := fun vs H Q _ => ∃ (a l dx : Addr) (xs : List V) (ps : List Pk), vs = [.ref a, .ref l] ∧ H a = some (.ins C dx []) ∧ SqT K H l xs ∧ ValsAt H xs ps ∧ ps.length ≤ 12 ∧ (∀ p ∈ ps, Good p) ∧
  ∀ H', But a H H' → RuleAt C H' a (oneForm ps) → Q .non H'
def spFirst (C : Addr) : Sp := fun vs H Q _ => ∃ (a dx : Addr) (xs : List V) (ps : List Pk), vs = .ref a :: xs ∧ H a = some (.ins C dx []) ∧ ValsAt H xs ps ∧ ps.length ≤ 12 ∧ (∀ p ∈ ps, Good p) ∧
  ∀ H', But a H H' → RuleAt C H' a (oneForm ps) → Q .non H'
def spFirstOf (K : PySem.W.Frag) (C : Addr) : Sp := fun vs H Q _ => ∃ (l : Addr) (xs : List V) (ps : List Pk), vs = [.ref C, .ref l] ∧ SqL K H l xs ∧ ValsAt H xs ps ∧ ps.length ≤ 12 ∧ (∀ p ∈ ps, Good p) ∧
  ∀ a H', H a = none → Same H H' → RuleAt C H' a (oneForm ps) → Q (.ref a) H'
def spCall (C CH : Addr) : Sp := fun vs H Q _ => ∃ (a h : Addr) (ps : List Pk) (N : Str → Option Int), vs = [.ref a, .ref h] ∧ RuleAt C H a ps ∧ (∀ p ∈ ps, Good p) ∧ HouseAt CH H h N ∧ ∀ H', Same H H' → Q (optV (choose (fun z => (N z).getD 0) ps)) H'
section
variable {P : Program} {w : World} {K : PySem.W.Frag} {mg : Str → Option Value} {base : Heap}
abbrev nR0 : List Str := ["self", "picks", "bay", "keep"]
theorem scR0 : FnScope nR0 ["self", "picks"] (defScope sRule0) := ⟨rfl, rfl, rfl, by decide +kernel, rfl, by decide +kernel, by decide +kernel⟩
theorem ok_R0 {C f fF : Addr} {fd fdF : FuncData} (hc : RuleC K C) (F : Fun K "__init__" "Rule.__init__" sRule0 f fd) (c : Chk P w K mg base) (FF : Fun K "one_form" "one_form" sForm fF fdF) (gF : mg "one_form" = some (.ref fF)) (n_zip : mg "zip" = none) : FnOk P w K mg base CX0 2 f fd ["self", "picks"] (spRule0 K C) := by
  obtain ⟨fA, fdA, gA, kA, bA, GA⟩ := c.asc
  have GF : FnOk P w K mg base CX0 1 fF fdF ["picks"] (spForm K) := ok_form FF c n_zip
  have bF : Binds K fdF ["picks"] [] := FF.binds fun _ _ _ _ _ _ us hl => match us, hl with | [_], _ => rfl
  refine F.ok scR0 (fun vs H Q E h => ?_) (fun cdv A outer s H vs Q E hr h => ?_)
  · obtain ⟨a, l, dx, fs0, ks, ps, rfl, _⟩ := h
    rfl
  · obtain ⟨a, l, dx, fs0, ks, ps, rfl, ha, hf0, hl, hp, hn, q⟩ := h
    have hr3 : Room 1 _ := hr.mono (by decide)
    refine ⟨_, (pss_cons (ps_fld (pv 0) (pe_call GF hr3 (by rfl) gF FF.kp bF .nil pass0 (pa_cons (pv 1) pa_nil)) rfl)
    (pss_cons (ps_if (pt_cmpR op_gt (pe_callB call_len_seq (by rfl) c.T.n_len boot_len (pa_cons (pe_fld (pv 0) rfl) pa_nil)) pe_int (nomark _)) (pss_one ps_never) pss_nil)
    (pss_cons (ps_fld (pv 0) (pe_dc (own := [("bay", 2), ("keep", 3)]) (g := (gTup K 2 (gCons (gName 2) (gCons (gName 3) gNil)))) rfl scR0.nd (pi_tup (OwR.pe_revT (pe_fld (pv 0) rfl))) (blkOk_by (own := [("bay", 2), ("keep", 3)]) (N := nR0) (sc := defScope sRule0) (by decide +kernel)) (fun _ _ _ _ _ => (pg_tup rfl (pgs_cons (pg_name (i := 2) scR0.nd rfl (Or.inl rfl)) (pgs_cons (pg_name (i := 3) scR0.nd rfl (Or.inl rfl)) pgs_nil)))) (fun _ _ _ _ _ => pts_nil) (fun _ _ _ _ _ => (pv 2)) (fun _ _ _ _ _ => (pv 3))) rfl)
    (pss_one (ps_fld (pv 0) (pe_callTy call_tuple_of (by rfl) c.T4.n_tuple (by decide +kernel) (pa_cons (pe_call GA hr (by rfl) gA kA bA .nil pass0 (pa_cons (pe_fld (pv 0) rfl) pa_nil)) pa_nil)) rfl))))), ?_⟩
    refine ⟨_, rfl, l, ks, ps, rfl, hl, hp, by omega, fun p H1 ks' h1 s1 e1 pk1 => ?_⟩
    have np : p ≠ a := fun z => by
      rw [z, ha] at h1
      cases h1
    have ea := s1 a _ ha
    refine ⟨_, rfl, a, C, dx, fs0, rfl, ea, hc.cls, hc.n1, by omega, ?_⟩
    have st2 : But a H (upd H1 a (.ins C dx (putF ("_picks" : Str) (.ref p) fs0))) := (Same.but a s1).trans But.at
    have ea2 : upd H1 a (.ins C dx (putF ("_picks" : Str) (.ref p) fs0)) a = some (.ins C dx (putF ("_picks" : Str) (.ref p) fs0)) := upd_same
    have ep2 : upd H1 a (.ins C dx (putF ("_picks" : Str) (.ref p) fs0)) p = some (.tup (ks'.map V.ref)) := by
      rw [upd_ne np]
      exact e1
    have pk2 : PicksAt (upd H1 a (.ins C dx (putF ("_picks" : Str) (.ref p) fs0))) ks' (oneForm ps) := pk1.upd fun xs e => by
      rw [ea] at e
      cases e
    generalize upd H1 a (.ins C dx (putF ("_picks" : Str) (.ref p) fs0)) = H2 at st2 ea2 ep2 pk2 ⊢
    have lk2 : (putF ("_picks" : Str) (V.ref p) fs0).lookup ("_picks" : Str) = some (.ref p) := by
      rw [lookup_putF, if_pos rfl]
    have ln2 : (putF ("_picks" : Str) (V.ref p) fs0).length ≤ 11 := Nat.le_trans (length_putF _ _ _) (by omega)
    generalize putF ("_picks" : Str) (V.ref p) fs0 = fs2 at ea2 lk2 ln2 ⊢
    have lf : ks'.length ≤ 12 := by
      rw [pk2.len]
      exact Nat.le_trans (form_len ps) hn
    refine ⟨_, rfl, a, C, dx, fs2, .ref p, rfl, ea2, hc.cls, hc.n1, lk2, p, _, rfl, .inr (SqT.of ep2), _, 15, rfl, rfl, _, rfl, ?_⟩
    rw [decide_eq_false (by rw [List.length_map]; omega)]
    refine iteF ?_
    refine ⟨_, rfl, a, C, dx, fs2, .ref p, rfl, ea2, hc.cls, hc.n1, lk2, p, _, rfl, SqT.of ep2, fun v hv => ?_⟩
    refine ⟨v, rfl, ⟨_, SqT.of upd_same⟩, fun D hD => ?_⟩
    have sz := sizeLine_eq
    refine OwR.dc_it (walk_tup (xs := (ks'.map V.ref).reverse)) (fun i Hx => Same (upd H2 v (.tup (ks'.map V.ref).reverse)) Hx ∧ ∃ (r : List (Key × V)) (xs : List Str), Hx D = some (.dK r) ∧ r.map (·.1) = xs.map Sum.inr ∧ xs.length ≤ i) ⟨Same.of_new hD, [], [], upd_same, rfl, Nat.le_refl 0⟩ (fun i Hx _ q => SqT.of (q.1 v _ upd_same)) (fun i x Hx Hy hi q0 y => ?_) (fun Hx q0 => ?_)
    · obtain ⟨s3, r, xs, er, ek, lx⟩ := q0
      obtain ⟨rfl, hx⟩ := y
      obtain ⟨j, hj⟩ := List.getElem?_of_mem (List.mem_reverse.mp (List.mem_of_getElem? hx))
      obtain ⟨k, pq, rfl, hk, hpi, tk⟩ := (pk2.same ((Same.of_new hv).trans s3)).get hj
      rw [List.length_reverse, List.length_map] at hi
      have lr : r.length = xs.length := by
        have := congrArg List.length ek
        rw [List.length_map, List.length_map] at this
        exact this
      refine ⟨k, _, rfl, .inl (.inl tk), rfl, _, _, rfl, _, _, rfl, rfl, rfl, ?_⟩
      refine ⟨_, rfl, _, rfl, r, Sum.inr pq.1, rfl, er, by omega, fun b o e => ?_, ?_⟩
      · rw [upd_ne (ne_of_none e hD)]
        exact s3 b o e
      · obtain ⟨ys, e5, l5⟩ := putK_keys ek pq.1 (.int pq.2)
        exact ⟨_, ys, upd_same, e5, by omega⟩
    obtain ⟨s3, r, xs, er, ek, lx⟩ := q0
    rw [List.length_reverse, List.length_map] at lx
    have st4 : Same H2 Hx := (Same.of_new hv).trans s3
    have ea4 := st4 a _ ea2
    have nD : D ≠ a := fun z => by
      rw [z] at er
      rw [ea4] at er
      cases er
    refine ⟨_, rfl, a, C, dx, fs2, rfl, ea4, hc.cls, hc.n2, by omega, ?_⟩
    have st5 : But a H (upd Hx a (.ins C dx (putF ("_keeps" : Str) (.ref D) fs2))) := (st2.trans (Same.but a st4)).trans But.at
    have ea5 : upd Hx a (.ins C dx (putF ("_keeps" : Str) (.ref D) fs2)) a = some (.ins C dx (putF ("_keeps" : Str) (.ref D) fs2)) := upd_same
    have ep5 : upd Hx a (.ins C dx (putF ("_keeps" : Str) (.ref D) fs2)) p = some (.tup (ks'.map V.ref)) := by
      rw [upd_ne np]
      exact st4 p _ ep2
    have pk5 : PicksAt (upd Hx a (.ins C dx (putF ("_keeps" : Str) (.ref D) fs2))) ks' (oneForm ps) := (pk2.same st4).upd fun xs e => by
      rw [ea4] at e
      cases e
    have er5 : upd Hx a (.ins C dx (putF ("_keeps" : Str) (.ref D) fs2)) D = some (.dK r) := by
      rw [upd_ne nD]
      exact er
    generalize upd Hx a (.ins C dx (putF ("_keeps" : Str) (.ref D) fs2)) = H5 at st5 ea5 ep5 pk5 er5 ⊢
    have lk5 : (putF ("_keeps" : Str) (V.ref D) fs2).lookup ("_picks" : Str) = some (.ref p) := by
      rw [lookup_putF, if_neg (by decide)]
      exact lk2
    have lk6 : (putF ("_keeps" : Str) (V.ref D) fs2).lookup ("_keeps" : Str) = some (.ref D) := by
      rw [lookup_putF, if_pos rfl]
    have ln5 : (putF ("_keeps" : Str) (V.ref D) fs2).length ≤ 12 := Nat.le_trans (length_putF _ _ _) (by omega)
    generalize putF ("_keeps" : Str) (V.ref D) fs2 = fs5 at ea5 lk5 lk6 ln5 ⊢
    refine ⟨_, rfl, a, C, dx, fs5, .ref D, rfl, ea5, hc.cls, hc.n2, lk6, D, xs, rfl, .inr (.inr ⟨r, .inl er5, ek⟩), by omega, fun ys g H6 pm srt hg s6 e6 => ?_⟩
    refine ⟨g, _, rfl, .inl ⟨SqL.of e6, fun z hz => ?_⟩⟩
    have ea6 := s6 a _ ea5
    have nz : a ≠ z := ne_of_none ea6 hz
    refine ⟨_, rfl, a, C, dx, fs5, rfl, by rw [upd_ne nz]; exact ea6, hc.cls, hc.n3, by omega, ?_⟩
    have s7 : Same H5 (upd H6 z (.tup (ys.map V.str))) := s6.trans (Same.of_new hz)
    refine q _ ((st5.trans (Same.but a s7)).trans But.at) ⟨dx, _, p, ks', upd_same, ?_, ?_, ?_⟩
    · rw [lookup_putF, if_neg (by decide)]
      exact lk5
    · rw [upd_ne np]
      exact s7 p _ ep5
    · exact (pk5.same s7).upd fun xs e => by
        rw [s7 a _ ea5] at e
        cases e
abbrev nF0 : List Str := ["self", "picks", "at", "value"]
theorem scF0 : FnScope nF0 ([("self" : Str)] ++ [("picks" : Str)]) (defScope sFirst0) := ⟨rfl, rfl, rfl, by decide +kernel, rfl, by decide +kernel, by decide +kernel⟩
theorem ok_F0 {C CR f fR fF fP : Addr} {mc : Value} {fd fdR fdF fdP : FuncData} (hc : RuleC K C) (F : Fun K "__init__" "First.__init__" sFirst0 f fd) (c : Chk P w K mg base) (FR : Fun K "__init__" "Rule.__init__" sRule0 fR fdR) (FF : Fun K "one_form" "one_form" sForm fF fdF) (gF : mg "one_form" = some (.ref fF)) (n_zip : mg "zip" = none)
    (n_enumerate : mg "enumerate" = none) (FP : Fun K "is_pick" "is_pick" sIsPick fP fdP) (gP : mg "is_pick" = some (.ref fP)) (gR : mg "Rule" = some (.ref CR)) (rR : ClX.CRead K CR mc) (cR : OwR.CFun K CR mc "__init__" fR) : FnR P w K mg base CX0 3 f (spFirst C) := by
  obtain ⟨oc, od, kV, doc, pm, an, cdv, ct, osl, rfl, lk, hcd⟩ := F.ex
  have GP : FnOk P w K mg base CX0 2 fP fdP ["value"] spIsPick := ok_IsPick FP c
  have bP : Binds K fdP ["value"] [] := FP.binds fun _ _ _ _ _ _ us hl => match us, hl with | [_], _ => rfl
  have GR : FnR P w K mg base CX0 2 fR (spRule0 K C) := OwR.raw0 (ok_R0 hc FR c FF gF n_zip) (FR.binds fun _ _ _ _ _ _ us hl => match us, hl with | [_, _], _ => rfl)
  refine FnR.imp (StX.fn_star (k := 2) (ps := ["self"]) (pv := "picks") (sp := spFirst0 K C) lk hcd scF0 StX.cxUp_none (fun us rest hl => match us, hl, rest with | [_], _, [] => rfl | [_], _, _ :: _ => rfl) fun A outer s H vs Q E hr h => ?_) fun vs H Q E h => ?_
  · obtain ⟨a, l, dx, ks, ps, rfl, ha, hl, hp, hn, hg, q⟩ := h
    refine ⟨_, PSs.nox (pss_cons (ps_for PassesOwn.never rfl (OwR.pi_enumT (by rfl) n_enumerate (pa_cons (pv 1) pa_nil)) (pg_tup rfl (pgs_cons (pg_name (i := 2) scF0.nd rfl (Or.inl rfl)) (pgs_cons (pg_name (i := 3) scF0.nd rfl (Or.inl rfl)) pgs_nil))) (pss_one (ps_if (pt_not (pt_val (pe_call GP hr (by rfl) gP FP.kp bP .nil pass0 (pa_cons (pv 3) pa_nil)))) (pss_one ps_never) pss_nil)))
    (pss_one (ps_expr (OwR.pe_cfun (pe_glob (v := .ref CR) rfl gR rfl) rR cR GR hr pass0 (pa_cons (pv 0) (pa_cons (pe_lc (own := [("value", 3)]) (by rfl) scF0.nd (pi_tup (pv 1)) (blkOk_by (own := [("value", 3)]) (N := nF0) (sc := defScope sFirst0) (by decide +kernel)) (fun _ _ _ _ _ => (pg_name (i := 3) scF0.nd rfl (Or.inl rfl))) (fun _ _ _ _ _ => pts_nil) (fun _ _ _ _ _ => (pe_ifExp (pt_val (pe_callB (r := rIsi K) call_isi (by rfl) c.T.n_isinstance (by decide +kernel) (pa_cons (pv 3) (pa_cons (pe_bltn (v := .ty "str") (by rfl) c.T.n_str (by decide +kernel) rfl) pa_nil)))) (pe_tup (pa_cons (pv 3) (pa_cons pe_int pa_nil))) (pv 3)))) pa_nil)))))), ?_⟩
    refine ⟨_, rfl, l, _, rfl, hl, ?_⟩
    have sz := sizeLine_eq
    refine for_it (OwR.walk_enumT (xs := ks)) (fun i σ H' => Same H H' ∧ ∃ x y, σ = [some (.ref a), some (.ref l), x, y]) ⟨Same.refl _, none, none, rfl⟩ (fun i σ H' _ q => SqT.mono hl q.1) (fun i x σ H' H2 hi q0 y => ?_) (fun σ H' q0 => ?_)
    · obtain ⟨s1, x0, y0, rfl⟩ := q0
      obtain ⟨T, x, z, rfl, hT, rfl, hx, hz⟩ := y
      have hz : ks[i]? = some z := hz
      obtain ⟨p, hpi, tk⟩ := (hp.same s1).get hz
      have g := hg p (List.mem_of_getElem? hpi)
      refine ⟨T, _, rfl, .inl (.inl upd_same), rfl, _, _, rfl, _, _, rfl, rfl, ?_⟩
      refine ⟨_, rfl, z, p, rfl, tk.same (Same.of_new hT), g.1, g.2.1, g.2.2.1, g.2.2.2, fun H3 s3 => ⟨_, rfl, ?_⟩⟩
      exact ⟨(s1.trans (Same.of_new hT)).trans s3, _, _, rfl⟩
    · obtain ⟨s1, x0, y0, rfl⟩ := q0
      refine ⟨rfl, _, rfl, _, rfl, l, rfl, ⟨_, SqT.mono hl s1⟩, fun D hD => ?_⟩
      refine lc_it (walk_tup (xs := ks)) (fun i Hx => Same H' Hx ∧ ∃ kk : List Addr, Hx D = some (.lst (kk.map V.ref)) ∧ kk.length ≤ i ∧ PicksAt Hx kk (ps.take i)) ⟨Same.of_new hD, [], upd_same, Nat.le_refl 0, PicksAt.nil⟩ (fun i Hx _ q => SqT.mono hl (s1.trans q.1)) (fun i x Hx Hy hi q0 y => ?_) (fun Hx q0 => ?_)
      · obtain ⟨s2, kk, eD, lk, pk⟩ := q0
        obtain ⟨rfl, hx⟩ := y
        obtain ⟨p, hpi, tv⟩ := (hp.same (s1.trans s2)).get hx
        have hi2 : i < ps.length := (List.getElem?_eq_some_iff.mp hpi).1
        have et : ps.take (i + 1) = ps.take i ++ [p] := by
          rw [List.take_add_one, hpi]
          rfl
        rw [et]
        refine ⟨rfl, ?_⟩
        rcases tv with ⟨k, rfl, tk⟩ | ⟨rfl, p0⟩
        · refine ⟨_, rfl, .ref k, .ty "str", _, _, false, rfl, .ty _, .base (.tup tk), kit_ty (by decide +kernel), false, rfl, ?_⟩
          refine iteF ?_
          refine ⟨_, rfl, _, eD, by rw [List.length_map]; omega, fun b o e => ?_, kk ++ [k], ?_, ?_, ?_⟩
          · rw [upd_ne (ne_of_none e hD)]
            exact s2 b o e
          · rw [List.map_append]
            exact upd_same
          · rw [List.length_append]
            show kk.length + 1 ≤ i + 1
            omega
          · exact (pk.snoc tk).upd fun xs e => by
              rw [eD] at e
              cases e
        · refine ⟨_, rfl, .str p.1, .ty "str", _, _, true, rfl, .ty _, .base (.str _), kit_ty (by decide +kernel), true, rfl, ?_⟩
          refine iteT ?_
          refine ⟨_, rfl, by show (2 : Nat) ≤ sizeLine; omega, fun T hT => ?_⟩
          have eD2 := upd_keep2 (o := .tup [.str p.1, .int 0]) eD hT
          refine ⟨_, eD2, by rw [List.length_map]; omega, fun b o e => ?_, kk ++ [T], ?_, ?_, ?_⟩
          · rw [upd_ne (ne_of_none e hD)]
            exact upd_keep2 (s2 b o e) hT
          · rw [List.map_append]
            exact upd_same
          · rw [List.length_append]
            show kk.length + 1 ≤ i + 1
            omega
          · have g1 : PicksAt (L2.upd Hy T (.tup [.str p.1, .int 0])) kk (ps.take i) := pk.same (Same.of_new hT)
            have g2 := g1.snoc (k := T) (p := p) (by show L2.upd _ _ _ _ = _; rw [upd_same, p0])
            exact g2.upd fun xs e => by
              rw [eD2] at e
              cases e
      obtain ⟨s2, kk, eD, lk, pk⟩ := q0
      rw [List.take_of_length_le (by rw [hp.len]; exact Nat.le_refl _)] at pk
      have s3 : Same H Hx := s1.trans s2
      exact ⟨a, D, dx, [], kk, ps, rfl, s3 a _ ha, by decide, SqL.of eD, pk, hn, fun H3 s4 hR => q H3 ((Same.but a s3).trans s4) hR⟩
  · obtain ⟨a, dx, ks, ps, rfl, ha, hp, hn, hg, q⟩ := h
    have sz := sizeLine_eq
    refine ⟨[.ref a], ks, rfl, rfl, by rw [hp.len]; omega, fun t ht => ⟨a, t, dx, ks, ps, rfl, upd_keep2 ha ht, SqT.of upd_same, hp.same (Same.of_new ht), hn, hg, fun H' s1 hR => q H' (fun b o n e => s1 b o n (upd_keep2 e ht)) hR⟩⟩
end
end K10
end
section
namespace K10
open PySem PySem.Spec PyProof.Rows L2
section
variable {P : Program} {w : World} {K : PySem.W.Frag} {mg : Str → Option Value} {base : Heap}
abbrev nFO : List Str := ["cls", "picks"]
theorem scFO : FnScope nFO ["cls", "picks"] (defScope sFirstOf) := ⟨rfl, rfl, rfl, by decide +kernel, rfl, by decide +kernel, by decide +kernel⟩
theorem ok_FO {C f fI : Addr} {fd : FuncData} (F : Fun K "of" "First.of" sFirstOf f fd) (MF : Mk K C fI) (GI : FnR P w K mg base CX0 3 fI (spFirst C)) : FnOk P w K mg base CX0 5 f fd ["cls", "picks"] (spFirstOf K C) := by
  refine F.ok scFO (fun vs H Q E h => ?_) (fun cdv A outer s H vs Q E hr h => ?_)
  · obtain ⟨l, ks, ps, rfl, _⟩ := h
    rfl
  · obtain ⟨l, ks, ps, rfl, hl, hp, hn, hg, q⟩ := h
    refine ⟨_, (pss_one (ps_ret (OwR.pe_makeLS (i := 0) MF GI hr (by rfl) (by first | exact Or.inl rfl | exact Or.inr (Or.inl rfl)) pass0 (pv 1)))), ?_⟩
    refine ⟨rfl, _, rfl, l, _, rfl, .inr hl, fun z dz h1 h2 nd => ⟨z, dz, ks, ps, rfl, upd_same, ?_, hn, hg, fun H' s1 hR => ⟨rfl, q z H' h1 (made_same h1 h2 s1) hR⟩⟩⟩
    exact hp.same fun b o e => by
      rw [upd_ne (ne_of_none e h1), upd_ne (ne_of_none e h2)]
      exact e
theorem scPk : FnScope ["self"] ["self"] (defScope sPicks) := ⟨rfl, rfl, rfl, by decide +kernel, rfl, by decide +kernel, by decide +kernel⟩
theorem ok_picks {C f : Addr} {fd : FuncData} (hc : RuleC K C) (F : Fun K "picks" "Rule.picks" sPicks f fd) : FnOk P w K mg base CX0 1 f fd ["self"] (getSp C "_picks") := by
  refine F.ok scPk (fun vs H Q E h => ?_) (fun cdv A outer s H vs Q E hr h => ?_)
  · obtain ⟨a, dx, fs, v, rfl, _⟩ := h
    rfl
  · obtain ⟨a, dx, fs, v, rfl, ha, hl, q⟩ := h
    refine ⟨_, (pss_one (ps_ret (pe_fld (pv 0) rfl))), ?_⟩
    exact ⟨_, rfl, a, C, dx, fs, v, rfl, ha, hc.cls, hc.n1, hl, q⟩
abbrev nCa : List Str := ["self", "free", "bay", "keep"]
theorem scCa : FnScope nCa ["self", "free"] (defScope sCall) := ⟨rfl, rfl, rfl, by decide +kernel, rfl, by decide +kernel, by decide +kernel⟩
theorem ok_Call {C CH f fI : Addr} {fd : FuncData} (hc : RuleC K C) (F : Fun K "__call__" "Rule.__call__" sCall f fd) (cI : OwR.Spc K CH fI "__getitem__") (GI : FnR P w K mg base CX0 2 fI (spItem CH)) : FnOk P w K mg base CX0 4 f fd ["self", "free"] (spCall C CH) := by
  refine F.ok scCa (fun vs H Q E h => ?_) (fun cdv A outer s H vs Q E hr h => ?_)
  · obtain ⟨a, h, ps, N, rfl, _⟩ := h
    rfl
  · obtain ⟨a, h, ps, N, rfl, hR, hg, hH, q⟩ := h
    obtain ⟨dx, fs, p, ks, ha, lk, hp, pk⟩ := hR
    refine ⟨_, (pss_cons (ps_for PassesOwn.never rfl (pi_tup (pe_fld (pv 0) rfl)) (pg_tup rfl (pgs_cons (pg_name (i := 2) scCa.nd rfl (Or.inl rfl)) (pgs_cons (pg_name (i := 3) scCa.nd rfl (Or.inl rfl)) pgs_nil))) (pss_one (ps_if (pt_cmpR op_gt (OwR.pe_item cI GI hr pass0 (pv 1) (pv 2)) (pv 3) (nomark _)) (pss_one (ps_ret (pv 2))) pss_nil)))
    (pss_one (ps_ret pe_non))), ?_⟩
    refine ⟨_, rfl, a, C, dx, fs, .ref p, rfl, ha, hc.cls, hc.n1, lk, p, rfl, ⟨_, SqT.of hp⟩, ?_⟩
    refine for_it (walk_tup (xs := ks.map V.ref)) (fun i σ H' => Same H H' ∧ (∃ x y, σ = [some (.ref a), some (.ref h), x, y]) ∧ choose (fun z => (N z).getD 0) ps = choose (fun z => (N z).getD 0) (ps.drop i)) ⟨Same.refl _, ⟨none, none, rfl⟩, rfl⟩ (fun i σ H' _ q => SqT.of (q.1 p _ hp)) (fun i x σ H' H2 hi q0 y => ?_) (fun σ H' q0 => ?_)
    · obtain ⟨s1, ⟨x0, y0, rfl⟩, ec⟩ := q0
      obtain ⟨rfl, hx⟩ := y
      obtain ⟨k, pp, rfl, hk, hpi, tk⟩ := (pk.same s1).get hx
      obtain ⟨hi2, epi⟩ := List.getElem?_eq_some_iff.mp hpi
      have g := hg pp (List.mem_of_getElem? hpi)
      obtain ⟨dh, fh, d, kv, h1, h2, h3, h4⟩ := hH.same s1
      have ed : ps.drop i = pp :: ps.drop (i + 1) := by
        rw [← epi]
        exact List.drop_eq_getElem_cons hi2
      refine ⟨k, _, rfl, .inl (.inl tk), rfl, _, _, rfl, _, _, rfl, rfl, ?_⟩
      refine ⟨_, rfl, _, rfl, h, dh, fh, rfl, h1, h, pp.1, N, rfl, ⟨dh, fh, d, kv, h1, h2, h3, h4⟩, g.1, g.2.1, fun H3 s3 => ?_⟩
      refine ⟨_, rfl, _, _, rfl, rfl, _, rfl, ?_⟩
      rw [ed] at ec
      have ec2 : choose (fun z => (N z).getD 0) ps = if pp.2 < (N pp.1).getD 0 then some pp.1 else choose (fun z => (N z).getD 0) (ps.drop (i + 1)) := ec
      by_cases c : pp.2 < (N pp.1).getD 0
      · rw [decide_eq_true c]
        refine iteT ?_
        rw [if_pos c] at ec2
        refine ⟨_, rfl, ?_⟩
        have q2 := q H3 (s1.trans s3)
        rw [ec2] at q2
        exact q2
      · rw [decide_eq_false c]
        refine iteF ?_
        rw [if_neg c] at ec2
        exact ⟨s1.trans s3, ⟨_, _, rfl⟩, ec2⟩
    · obtain ⟨s1, ⟨x0, y0, rfl⟩, ec⟩ := q0
      rw [List.length_map, pk.len, List.drop_length] at ec
      have q2 := q H' s1
      rw [ec] at q2
      exact q2
end
end K10
end
section
/-! Operators and comparisons that an own class defines. -/
namespace OwR
open PySem PySem.Spec PyProof.Rows L2
/-- an own operator between instances of two own classes, neither below the other -/
theorem bin_two {prog : Program} {w : World} {A : Around} {E : Value → Shared → Prop} {s : Shared} {K : PySem.W.Frag} {x C D f f2 : Addr} {ox : Obj} {od : Option Obj} {op : Operator} {b : Value} {rc rd : Option Value} {Q : Value → Shared → Prop} (X : K.In s.heap) (I : PySem.W.InstAt s.heap x ox C od)
    (hb : PySem.W.Looks (model prog w) s.heap (typeOf b) (.ref D)) (ne : (Value.ref C == Value.ref D) = false) (cC : PySem.W.selfFirst K C = true) (cD : PySem.W.selfFirst K D = true) (sC : PySem.W.findIn K (.ref C) (PySem.dunder op.info.2) = some (some (.ref f))) (sD : PySem.W.findIn K (.ref D) (PySem.dunder op.info.2) = some (some (.ref f2)))
    (rC : PySem.W.findIn K (.ref C) (dunderR op.info.2) = some rc) (pC : rc = none ∨ ∃ g : Addr, rc = some (.ref g)) (rD : PySem.W.findIn K (.ref D) (dunderR op.info.2) = some rd) (pD : rd = none ∨ ∃ g : Addr, rd = some (.ref g))
    (sub : PySem.W.subIn K (.ref D) (.ref C) = some false) (hf : PySem.W.isFn K (.ref f) = true) (h : wpAny (model prog w) A (call (.ref f) [.ref x, b]) (PySem.W.CmpBack Q) E s) : wpAny (model prog w) A (binaryOp op (.ref x) b) Q E s := by
  obtain ⟨c1, r1, k1, m1⟩ := PySem.W.ksp_first cC
  obtain ⟨c2, r2, k2, m2⟩ := PySem.W.ksp_first cD
  rcases hi : op.info with ⟨sym, nm⟩
  rw [hi] at sC sD rC rD
  dsimp only at sC sD rC rD
  have one := PySem.W.ksp_try X I sC hf h
  obtain ⟨hp, gs, dr, tk, os⟩ := s
  have L1 : PySem.W.Looks (model prog w) hp (typeOf (.ref x)) (.ref C) := I.type
  have L2 : PySem.W.Looks (model prog w) hp (typeOf b) (.ref D) := hb
  have L3 : PySem.W.Looks (model prog w) hp (fillsNumberSlot (.ref C) nm) true := PySem.W.fills_K X k1 m1 sC
  have L4 : PySem.W.Looks (model prog w) hp (fillsNumberSlot (.ref D) nm) true := PySem.W.fills_K X k2 m2 sD
  have L5 : PySem.W.Looks (model prog w) hp (isSubtype (.ref D) (.ref C)) false := PySem.W.looks_subIn X sub
  have L6 : PySem.W.Looks (model prog w) hp (numberSlotInPython (.ref C) nm) true := PySem.W.ksp_inPy X sC rC pC
  have L7 : PySem.W.Looks (model prog w) hp (numberSlotInPython (.ref D) nm) true := PySem.W.ksp_inPy X sD rD pD
  simp only [binaryOp, hi]
  refine wpAny_holding (wpAny_bind ?_)
  unfold binaryOp1
  refine wpAny_bind (L1.at (wpAny_bind (L2.at (wpAny_bind (L3.at ?_)))))
  simp only [ne, Bool.false_eq_true, if_false]
  ksp_lk
  refine wpAny_mono one (fun r s' q => ?_) fun _ _ e => e
  obtain ⟨v, rfl, hq⟩ := q
  ksp_lk
  exact hq
/-- what a class must have for an operator of its own -/
structure Bin1 (K : PySem.W.Frag) (op : Operator) (C g : Addr) : Prop where
  self : PySem.W.selfFirst K C = true
  at_ : PySem.W.findIn K (.ref C) (PySem.dunder op.info.2) = some (some (.ref g))
  fn : PySem.W.isFn K (.ref g) = true
  refl : ∃ rc, PySem.W.findIn K (.ref C) (dunderR op.info.2) = some rc ∧ (rc = none ∨ ∃ h : Addr, rc = some (.ref h))
/-- .. between two classes: one, or neither above the other -/
def BinP (K : PySem.W.Frag) (op : Operator) (C D g : Addr) : Prop := Bin1 K op C g ∧ (C = D ∨ ((∃ g', Bin1 K op D g') ∧ C ≠ D ∧ PySem.W.subIn K (.ref D) (.ref C) = some false))
structure BinT (K : PySem.W.Frag) (op : Operator) (C : Addr) (T : String) : Prop where
  f : ∃ fo, PySem.W.findIn K (.type T) (PySem.dunder op.info.2) = some fo
  r : ∃ ro, PySem.W.findIn K (.type T) (dunderR op.info.2) = some ro
  sub : PySem.W.subIn K (.type T) (.ref C) = some false
def tyS : V → Option String
  | .non => some "NoneType" | .bl _ => some "bool" | .int _ => some "int" | .str _ => some "str" | _ => none
theorem tyS_of {y : V} {u : Value} {T : String} (r : RelV y u) (h : tyS y = some T) : typeOf u = pure (.type T) := by
  cases y with
  | non => cases (show u = Value.none from r); cases h; rfl
  | bl b => cases (show u = Value.bool b from r); cases h; rfl
  | int i => obtain ⟨t, rfl⟩ := r; cases h; rfl
  | str z => obtain ⟨t, rfl⟩ := r; cases h; rfl
  | _ => cases h
def rOwn2 (K : PySem.W.Frag) (op : Operator) (g : Addr) (sp : Sp) (E : XK) : R2 := fun x y H Q => ∃ (p q C D dx dy : Addr) (fs gs : List (Str × V)), x = .ref p ∧ y = .ref q ∧ H p = some (.ins C dx fs) ∧ H q = some (.ins D dy gs) ∧ BinP K op C D g ∧ sp [.ref p, .ref q] H Q E
def rOwnT (K : PySem.W.Frag) (op : Operator) (g : Addr) (sp : Sp) (E : XK) : R2 := fun x y H Q => ∃ (p C dx : Addr) (fs : List (Str × V)) (T : String), x = .ref p ∧ H p = some (.ins C dx fs) ∧ tyS y = some T ∧ Bin1 K op C g ∧ BinT K op C T ∧ sp [.ref p, y] H Q E
section
variable {X : Cx} {CX : CXT} {k : Nat} {g : Addr} {sp : Sp} {E : XK} {op : Operator}
theorem ep_back {pins : List (Addr × Obj)} {σ : L2.St} {Q : VK} {u : Value} {s : Shared} (h : EP X pins σ Q u s) : PySem.W.CmpBack (EP X pins σ Q) u s := by
  obtain ⟨v, H, I, r, q⟩ := h
  unfold PySem.W.CmpBack
  split
  · cases v with
    | int i => obtain ⟨_, z⟩ := r; cases z
    | str i => obtain ⟨_, z⟩ := r; cases z
    | byt i => obtain ⟨_, z⟩ := r; cases z
    | flt i => obtain ⟨_, z⟩ := r; cases z
    | _ => cases r
  · exact ⟨v, H, I, r, q⟩
theorem run_own {pins : List (Addr × Obj)} {σ : L2.St} {H : Hp} {s : Shared} {Q : VK} {us : List Value} {vs : List V} (F : FnR X.prog X.w X.K X.mg X.base CX k g sp) (hr : Room k X.A) (hx : Passes CX X E) (I : Inv X pins σ H s) (r : Vals vs us) (h : sp vs H Q E) :
    wpAny (model X.prog X.w) X.A (call (.ref g) us) (PySem.W.CmpBack (EP X pins σ Q)) X.xe s := wpAny_mono (wpAny_call (run_fnR F hr hx I r h)) (fun _ _ q => ep_back q) fun _ _ q => q
theorem op_own2 (F : FnR X.prog X.w X.K X.mg X.base CX k g sp) (hr : Room k X.A) (hx : Passes CX X E) : OpR X (binaryOp op) (rOwn2 X.K op g sp E) := by
  intro pins s σ H x y v u Q I rx ry h
  obtain ⟨p, q, C, D, dx, dy, fs, gs, rfl, rfl, ep, eq, ⟨b1, b2⟩, hq⟩ := h
  obtain rfl : v = Value.ref p := rx
  obtain rfl : u = Value.ref q := ry
  obtain ⟨ox, od, J, _⟩ := StX.insC_at I (.inr ⟨dx, fs, ep⟩)
  obtain ⟨oy, oe, J2, _⟩ := StX.insC_at I (.inr ⟨dy, gs, eq⟩)
  have go := run_own F hr hx I (us := [.ref p, .ref q]) (vs := [.ref p, .ref q]) (.cons rfl (.cons rfl .nil)) hq
  obtain ⟨mm, fr⟩ := I.fr
  rcases b2 with rfl | ⟨⟨g', b2⟩, ne, sub⟩
  · exact PySem.W.binop_K fr I.ok.mod.kin J J2.type b1.self b1.at_ b1.fn go
  · obtain ⟨rc, e1, e2⟩ := b1.refl
    obtain ⟨rd, e3, e4⟩ := b2.refl
    exact bin_two I.kIn J J2.type (Bool.eq_false_iff.mpr fun z => ne (by cases beq_iff_eq.mp z; rfl)) b1.self b2.self b1.at_ b2.at_ e1 e2 e3 e4 sub b1.fn go
theorem op_ownT (F : FnR X.prog X.w X.K X.mg X.base CX k g sp) (hr : Room k X.A) (hx : Passes CX X E) : OpR X (binaryOp op) (rOwnT X.K op g sp E) := by
  intro pins s σ H x y v u Q I rx ry h
  obtain ⟨p, C, dx, fs, T, rfl, ep, ty, b1, bT, hq⟩ := h
  obtain rfl : v = Value.ref p := rx
  obtain ⟨ox, od, J, _⟩ := StX.insC_at I (.inr ⟨dx, fs, ep⟩)
  obtain ⟨mm, fr⟩ := I.fr
  obtain ⟨rc, e1, e2⟩ := b1.refl
  obtain ⟨fo, e3⟩ := bT.f
  obtain ⟨ro, e4⟩ := bT.r
  exact PySem.W.ksp_binT fr I.ok.mod.kin J (tyS_of ry ty) b1.self b1.at_ b1.fn e1 e2 e3 e4 bT.sub (run_own F hr hx I (us := [.ref p, u]) (vs := [.ref p, y]) (.cons rfl (.cons ry .nil)) hq)
/-! ### comparisons -/
structure Cmp1 (K : PySem.W.Frag) (op : CmpOp) (C g : Addr) : Prop where
  at_ : PySem.W.findIn K (.ref C) (cmpInfo op).2.1 = some (some (.ref g))
  fn : PySem.W.isFn K (.ref g) = true
def rCmp2 (K : PySem.W.Frag) (op : CmpOp) (g : Addr) (sp : Sp) (E : XK) : R2 := fun x y H Q => ∃ (p q C D dx dy : Addr) (fs gs : List (Str × V)), x = .ref p ∧ y = .ref q ∧ H p = some (.ins C dx fs) ∧ H q = some (.ins D dy gs) ∧ Cmp1 K op C g ∧ PySem.W.notFirst K C (.ref D) = true ∧ sp [.ref p, .ref q] H Q E
theorem rc_own2 {o : CmpOp} (hu : X.A.units < cLine) (F : FnR X.prog X.w X.K X.mg X.base CX k g sp) (hr : Room k X.A) (hx : Passes CX X E) : OpR X (richCompare o) (rCmp2 X.K o g sp E) := by
  intro pins s σ H x y v u Q I rx ry h
  obtain ⟨p, q, C, D, dx, dy, fs, gs, rfl, rfl, ep, eq, c1, nf, hq⟩ := h
  obtain rfl : v = Value.ref p := rx
  obtain rfl : u = Value.ref q := ry
  obtain ⟨ox, od, J, _⟩ := StX.insC_at I (.inr ⟨dx, fs, ep⟩)
  obtain ⟨oy, oe, J2, _⟩ := StX.insC_at I (.inr ⟨dy, gs, eq⟩)
  obtain ⟨mm, fr⟩ := I.fr
  exact PySem.W.cmp_K hu fr I.ok.mod.kin J J2.type nf c1.at_ c1.fn (run_own F hr hx I (us := [.ref p, .ref q]) (vs := [.ref p, .ref q]) (.cons rfl (.cons rfl .nil)) hq)
theorem op_ownEq (hu : X.A.units < cLine) (F : FnR X.prog X.w X.K X.mg X.base CX k g sp) (hr : Room k X.A) (hx : Passes CX X E) : OpR X (compareOp .Eq) (rCmp2 X.K .Eq g sp E) := fun pins s σ H x y v u Q I rx ry h => PySem.W.cmp_ofEq (rc_own2 hu F hr hx pins s σ H x y v u Q I rx ry h)
theorem op_ownLe (hu : X.A.units < cLine) (F : FnR X.prog X.w X.K X.mg X.base CX k g sp) (hr : Room k X.A) (hx : Passes CX X E) : OpR X (compareOp .LtE) (rCmp2 X.K .LtE g sp E) := fun pins s σ H x y v u Q I rx ry h => PySem.W.cmp_ofLtE (rc_own2 hu F hr hx pins s σ H x y v u Q I rx ry h)
theorem op_ownLt (hu : X.A.units < cLine) (F : FnR X.prog X.w X.K X.mg X.base CX k g sp) (hr : Room k X.A) (hx : Passes CX X E) : OpR X (compareOp .Lt) (rCmp2 X.K .Lt g sp E) := fun pins s σ H x y v u Q I rx ry h => PySem.W.cmp_ofLt (rc_own2 hu F hr hx pins s σ H x y v u Q I rx ry h)
theorem op_ownGe (hu : X.A.units < cLine) (F : FnR X.prog X.w X.K X.mg X.base CX k g sp) (hr : Room k X.A) (hx : Passes CX X E) : OpR X (compareOp .GtE) (rCmp2 X.K .GtE g sp E) := fun pins s σ H x y v u Q I rx ry h => PySem.W.cmp_ofGtE (rc_own2 hu F hr hx pins s σ H x y v u Q I rx ry h)
theorem op_ownGt (hu : X.A.units < cLine) (F : FnR X.prog X.w X.K X.mg X.base CX k g sp) (hr : Room k X.A) (hx : Passes CX X E) : OpR X (compareOp .Gt) (rCmp2 X.K .Gt g sp E) := fun pins s σ H x y v u Q I rx ry h => PySem.W.cmp_ofGt (rc_own2 hu F hr hx pins s σ H x y v u Q I rx ry h)
end
end OwR
end
section
/-! a != b of own classes that define == alone. -/
namespace OwR
open PySem PySem.Spec PyProof.Rows L2
theorem slot_ne : Slot "object" "__ne__" "object.__ne__" := Slot.of (T := "object") (name := "__ne__") (owner := "object") (n := "__ne__") (by rw [typeLookup_type, builtinLookup_eq_fast]; kernel_rfl) (by decide +kernel) (by decide +kernel) (by decide +kernel)
  (.inl (by decide +kernel)) (by rw [isSubtype_type]; kernel_rfl)
theorem entry_ne : entryFor table "object.__ne__" = some Builtin.«object.__ne__» := entryFor_of_tree (by kernel_rfl)
theorem args_ne (a b : Value) : argsOk "object.__ne__" ⟨[a, b], []⟩ := by unfold argsOk; kernel_rfl
section
variable {prog : Program} {w : World} {A : Around} {E : Value → Shared → Prop} {s : Shared} {K : PySem.W.Frag} {x C f : Addr} {ox : Obj} {od : Option Obj} {b : Value}
theorem bound_ne {M : Model} {args : List Value} {Q : Option Value → Shared → Prop} (sp : PySem.W.Looks M s.heap (specialOf (.ref x) "__ne__") (some (.builtin "object.__ne__"))) (h : wpAny M A (call (.builtin "object.__ne__") (.ref x :: args)) (fun v => Q (some v)) E s) :
    wpAny M A (callSpecialIfBound? (.ref x) "__ne__" args) Q E s := by
  have fin : wpAny M A (call (.builtin "object.__ne__") ([.ref x] ++ args) >>= fun v => pure (some v)) Q E s := wpAny_bind (wpAny_mono h (fun v s' q => wpAny_pure q) fun _ _ q => q)
  have hb : bindSpecial (.builtin "object.__ne__") (.ref x) = pure (.builtin "object.__ne__", [.ref x]) := slot_ne.bind _
  simp only [callSpecialIfBound?, bindSpecialIfBound?]
  refine wpAny_holding (wpAny_bind (wpAny_bind (sp.here ?_)))
  simp only [hb]
  refine wpAny_bind (wpAny_askSetting (wpAny_ite ?_))
  split
  · exact wpAny_bind (wpAny_pure (wpAny_pure fin))
  · exact wpAny_tryCatch (wpAny_bind (wpAny_pure (wpAny_pure fin)))
theorem ne_K {tb : Value} {Q : Value → Shared → Prop} (hu : A.units + 1 < cLine) (X : K.In s.heap) (I : PySem.W.InstAt s.heap x ox C od) (hb : PySem.W.Looks (model prog w) s.heap (typeOf b) tb) (nf : PySem.W.notFirst K C tb = true) (obj : PySem.W.mroIn K C (.type "object") = some true)
    (ne : PySem.W.findIn K (.ref C) "__ne__" = some (some (.builtin "object.__ne__"))) (eq : PySem.W.findIn K (.ref C) "__eq__" = some (some (.ref f))) (fn : PySem.W.isFn K (.ref f) = true)
    (h : wpAny (model prog w) A.in1 (call (.ref f) [.ref x, b]) (fun v s' => ∃ c, v = .bool c ∧ Q (.bool (!c)) s') E s) : wpAny (model prog w) A (richCompare .NotEq (.ref x) b) Q E s := by
  have sp : PySem.W.Looks (model prog w) s.heap (specialOf (.ref x) "__ne__") (some (.builtin "object.__ne__")) := I.type.andThen (PySem.W.looks_findIn X ne)
  have inst : PySem.W.Looks (model prog w) s.heap (isInstance (.ref x) (.type "object")) true := I.type.andThen (PySem.W.looks_mroIn X obj)
  have hu0 : A.units < cLine := by omega
  have body : wpAny (model prog w) A (call (.builtin "object.__ne__") [.ref x, b]) (fun v s' => ∃ c, v = .bool c ∧ Q (.bool c) s') E s := by
    refine wpAny_call (codeAny_call_builtin slot_ne.plain entry_ne (@PySem.W.check_slot (model prog w) _ _ _ "object.__ne__" "object" "__ne__" (.ref x) [b] [] _ (by decide +kernel) (by decide +kernel) inst (args_ne _ _) ?_))
    show wpAny _ _ (do
      cRoomFor "comparison" [.ref x, b]
      match ← callSpecialIfBound? (.ref x) "__eq__" [b] with
      | some .notImplemented | none => ret .notImplemented
      | some r => ret (.bool (!(← truthy r)))) _ _ s
    refine wpAny_bind (wpAny_cRoomFor hu ?_)
    refine wpAny_bind (PySem.W.ifBound_K X I eq fn (wpAny_mono h (fun v s' q => ?_) fun _ _ q => q))
    obtain ⟨c, rfl, q⟩ := q
    show wpAny _ _ (truthy (.bool c) >>= fun t => ret (.bool (!t))) _ _ s'
    exact wpAny_bind (wpAny_pure (wpAny_pure ⟨!c, rfl, q⟩))
  have one : wpAny (model prog w) A (tryCompare (.ref x) "__ne__" b) (fun r s' => ∃ c, r = some (.bool c) ∧ Q (.bool c) s') E s := by
    unfold tryCompare
    refine wpAny_bind (bound_ne sp (wpAny_mono body (fun v s' q => ?_) fun _ _ q => q))
    obtain ⟨c, rfl, q⟩ := q
    exact wpAny_pure ⟨c, rfl, q⟩
  unfold richCompare
  simp only [oneThing_ref]
  refine wpAny_holding (wpAny_bind (wpAny_cRoomFor hu0 ?_))
  refine wpAny_bind (I.type.here (wpAny_bind (hb.here ?_)))
  have fin : ∀ r s', (∃ c, r = some (Value.bool c) ∧ Q (.bool c) s') → ∃ v, r = some v ∧ Q v s' := fun r s' ⟨c, e, q⟩ => ⟨_, e, q⟩
  split
  · rename_i q
    have e : PySem.W.subIn K tb (.ref C) = some false := by
      rcases Bool.or_eq_true_iff.mp nf with e | e
      · rw [beq_iff_eq.mp e] at q
        simp at q
      · exact beq_iff_eq.mp e
    refine wpAny_bind ((PySem.W.looks_subIn X e).here ?_)
    simp only [if_false, Bool.false_eq_true]
    refine wpAny_bind (wpAny_mono one (fun r s' z => ?_) fun _ _ e => e)
    obtain ⟨c, rfl, hq⟩ := z
    exact wpAny_pure hq
  · refine wpAny_bind (m := pure false) (wpAny_pure ?_)
    simp only [if_false, Bool.false_eq_true]
    refine wpAny_bind (wpAny_mono one (fun r s' z => ?_) fun _ _ e => e)
    obtain ⟨c, rfl, hq⟩ := z
    exact wpAny_pure hq
end
/-- the class has == of its own and object's != -/
structure Ne1 (K : PySem.W.Frag) (C g : Addr) : Prop where
  eq : PySem.W.findIn K (.ref C) "__eq__" = some (some (.ref g))
  fn : PySem.W.isFn K (.ref g) = true
  ne : PySem.W.findIn K (.ref C) "__ne__" = some (some (.builtin "object.__ne__"))
  obj : PySem.W.mroIn K C (.type "object") = some true
/-- a != b: the promise of == with the answer turned -/
def rNe2 (K : PySem.W.Frag) (g : Addr) (sp : Sp) (E : XK) : R2 := fun x y H Q => ∃ (p q C D dx dy : Addr) (fs gs : List (Str × V)), x = .ref p ∧ y = .ref q ∧ H p = some (.ins C dx fs) ∧ H q = some (.ins D dy gs) ∧ Ne1 K C g ∧ PySem.W.notFirst K C (.ref D) = true ∧ sp [.ref p, .ref q] H (fun v H' => ∃ c, v = .bl c ∧ Q (.bl (!c)) H') E
theorem op_ownNe {X : Cx} {CX : CXT} {k : Nat} {g : Addr} {sp : Sp} {E : XK} (hu : X.A.units + 1 < cLine) (F : FnR X.prog X.w X.K X.mg X.base CX k g sp) (hr : Room (k + 1) X.A) (hx : Passes CX X E) : OpR X (compareOp .NotEq) (rNe2 X.K g sp E) := by
  intro pins s σ H x y v u Q I rx ry h
  obtain ⟨p, q, C, D, dx, dy, fs, gs, rfl, rfl, ep, eq, c1, nf, hq⟩ := h
  obtain rfl : v = Value.ref p := rx
  obtain rfl : u = Value.ref q := ry
  obtain ⟨ox, od, J, _⟩ := StX.insC_at I (.inr ⟨dx, fs, ep⟩)
  obtain ⟨oy, oe, J2, _⟩ := StX.insC_at I (.inr ⟨dy, gs, eq⟩)
  refine PySem.W.cmp_ofNotEq (ne_K hu I.kIn J J2.type nf c1.obj c1.ne c1.eq c1.fn ?_)
  refine wpAny_mono (run_in (us := [.ref p, .ref q]) (vs := [.ref p, .ref q]) F hr hx I (.cons rfl (.cons rfl .nil)) hq) (fun v s' z => ?_) fun _ _ z => z
  obtain ⟨x2, H2, I2, r2, c, rfl, z⟩ := z
  exact ⟨c, r2, .bl (!c), H2, I2, rfl, z⟩
/-! ### len(o), o of an own class -/
structure Len1 (K : PySem.W.Frag) (C g : Addr) : Prop where
  at_ : PySem.W.findIn K (.ref C) "__len__" = some (some (.ref g))
  fn : PySem.W.isFn K (.ref g) = true
def rLenO (K : PySem.W.Frag) (g : Addr) (sp : Sp) (E : XK) : List V → Hp → VK → Prop := fun xs H Q => ∃ (a C dx : Addr) (fs : List (Str × V)), xs = [.ref a] ∧ H a = some (.ins C dx fs) ∧ Len1 K C g ∧ sp [.ref a] H (fun v H' => ∃ n : Int, v = .int n ∧ 0 ≤ n ∧ n < 2 ^ 63 ∧ Q (.int n) H') E
theorem call_lenO {X : Cx} {CX : CXT} {k : Nat} {g : Addr} {sp : Sp} {E : XK} (F : FnR X.prog X.w X.K X.mg X.base CX k g sp) (hr : Room (k + 1) X.A) (hx : Passes CX X E) : CallR X (.builtin "len") (rLenO X.K g sp E) := by
  intro pins s σ H xs us Q I r h
  obtain ⟨a, C, dx, fs, rfl, ea, c, hq⟩ := h
  obtain rfl := Vals.ref1 r
  obtain ⟨ox, od, J, _⟩ := StX.insC_at I (.inr ⟨dx, fs, ea⟩)
  obtain ⟨mm, fr⟩ := I.fr
  refine PySem.W.len_K fr I.ok.mod.kin J c.at_ c.fn (wpAny_mono (run_in (us := [.ref a]) (vs := [.ref a]) F hr hx I (.cons rfl .nil) hq) (fun v s' z => ?_) fun _ _ z => z)
  obtain ⟨y, H2, I2, ry, n, rfl, n0, n1, z⟩ := z
  obtain ⟨t, rfl⟩ := ry
  exact ⟨⟨n0, n1⟩, .int n, H2, I2.tok _, ⟨_, rfl⟩, z⟩
end OwR
end
section
/-! Walks over objects of own classes whose __iter__ gives a tuple's iterator. -/
namespace OwR
open PySem PySem.Spec PyProof.Rows L2
abbrev itTup (l : Addr) (i : Nat) : Obj := { cls := .type "tuple_iterator", data := .fields #[.ref l, .int i 0] }
/-- at it the iterator of the tuple at l, just made -/
def ItT (l it : Addr) : HO := .ext fun h => h.get? it = some (itTup l 0)
theorem itT_ok {P : Program} {w : World} {H : Hp} {h : Heap} {l it : Addr} (e : h.get? it = some (itTup l 0)) : ObjOk P w H h it (ItT l it) := ⟨e, ⟨_, e⟩, fun h1 h2 q k => k _ q⟩
theorem itT_get {X : Cx} {pins : List (Addr × Obj)} {σ : L2.St} {H : Hp} {s : Shared} {l it : Addr} (I : Inv X pins σ H s) (e : H it = some (ItT l it)) : s.heap.get? it = some (itTup l 0) := (I.hok it _ e).1
/-- iter(t), t a tuple -/
def rIterT (K : PySem.W.Frag) : List V → Hp → VK → Prop := fun xs H Q => ∃ (l : Addr) (zs : List V), xs = [.ref l] ∧ SqT K H l zs ∧ ∀ it, H it = none → Q (.ref it) (upd H it (ItT l it))
theorem call_iterT {X : Cx} : CallR X (.builtin "iter") (rIterT X.K) := by
  intro pins s σ H xs us Q I r h
  obtain ⟨l, zs, rfl, hq, q⟩ := h
  obtain rfl := Vals.ref1 r
  obtain ⟨its, rv, pl, hz⟩ := I.tuple hq
  refine Calls.call_function_entry (by decide +kernel) (by decide +kernel) PySem.W.kdk_entry_iter (PySem.W.kdk_args_iter _) ?_
  unfold Builtin.«iter»
  refine wpAny_bind (m := someArgs "iter" 1 2 _) (wpAny_of_eq (a := [Value.ref l]) (by first | rfl | kernel_rfl!) ?_)
  show wpAny _ _ (pyIter (.ref l) >>= fun v => ret v) _ _ _
  refine wpAny_bind (wpAny_pyIter_tuple (show s.heap.IsTuple l its.toArray from pl) ?_)
  exact wpAny_pure ⟨_, rfl, .ref s.heap.objs.size, _, I.laid (t' := s.toks) (fun b u e => Heap.get?_push_of_some _ e) (Nat.le_refl _) (itT_ok (Heap.get?_push_size _ rfl)), rfl, q _ (I.hok.fresh (Nat.le_refl _))⟩
/-- .. as young as the call -/
def rIterTN (K : PySem.W.Frag) (n : Nat) : List V → Hp → VK → Prop := fun xs H Q => ∃ (l : Addr) (zs : List V), xs = [.ref l] ∧ SqT K H l zs ∧ ∀ it, H it = none → n ≤ it → Q (.ref it) (upd H it (ItT l it))
theorem call_iterTN {X : Cx} : CallR X (.builtin "iter") (rIterTN X.K X.s_0.heap.objs.size) := by
  intro pins s σ H xs us Q I r h
  obtain ⟨l, zs, rfl, hq, q⟩ := h
  obtain rfl := Vals.ref1 r
  obtain ⟨its, rv, pl, hz⟩ := I.tuple hq
  refine Calls.call_function_entry (by decide +kernel) (by decide +kernel) PySem.W.kdk_entry_iter (PySem.W.kdk_args_iter _) ?_
  unfold Builtin.«iter»
  refine wpAny_bind (m := someArgs "iter" 1 2 _) (wpAny_of_eq (a := [Value.ref l]) (by first | rfl | kernel_rfl!) ?_)
  show wpAny _ _ (pyIter (.ref l) >>= fun v => ret v) _ _ _
  refine wpAny_bind (wpAny_pyIter_tuple (show s.heap.IsTuple l its.toArray from pl) ?_)
  exact wpAny_pure ⟨_, rfl, .ref s.heap.objs.size, _, I.laid (t' := s.toks) (fun b u e => Heap.get?_push_of_some _ e) (Nat.le_refl _) (itT_ok (Heap.get?_push_size _ rfl)), rfl, q _ (I.hok.fresh (Nat.le_refl _)) I.sz⟩
/-! ### a def whose promise may speak of where the call stands -/
def FnS (P : Program) (w : World) (K : PySem.W.Frag) (mg : Str → Option Value) (base : Heap) (CX : CXT) (k : Nat) (f : Addr) (fd : FuncData) (ps : List Str) (sp : Shared → Sp) : Prop :=
  ∀ (A : Around) (outer : List Env) (s : Shared) (H : Hp) (args : Args) (us : List Value) (vs : List V) (Q : VK) (E : XK), Room k A → Env0 P w K mg base A outer s H → BindsTo s fd args (ps.zip us) → Vals vs us → sp s vs H Q E →
    codeAny (model P w) A (.call (.ref f) args) (CR CX outer P w H s Q E) s
section
variable {CX : CXT} {P : Program} {w : World} {K : PySem.W.Frag} {mg : Str → Option Value} {base : Heap} {k : Nat} {f : Addr} {name qual : Str} {params : Arguments} {body : List Stmt} {scope : Scope} {dV kV doc pm cdv ct oc : Value} {an od : Option Addr}
  {osl : Array (Option Value)} {N ps : List Str} {sp : Shared → Sp}
theorem fn_ofS (lk : K.lookup f = some ⟨oc, od, .func (PySem.W.fnOf name qual params body scope dV kV doc pm an cdv ct), osl⟩) (hcd : PySem.W.codeIn K cdv qual = true) (S : FnScope N ps scope)
    (len : ∀ s vs H Q E, sp s vs H Q E → vs.length = ps.length)
    (hbody : ∀ (A : Around) (outer : List Env) (s : Shared) (H : Hp) (vs : List V) (Q : VK) (E : XK), Room k (A.deeper (envOfC qual scope s.heap.objs.size f cdv)) → sp s vs H Q E →
      ∃ t, PSs (cxOf CX P w K mg base N qual scope f cdv A outer s H E) body t ∧ t { nx := fun _ H' => Q .non H', rt := Q } (start N vs) H) :
    FnS P w K mg base CX (k + 1) f (PySem.W.fnOf name qual params body scope dV kV doc pm an cdv ct) ps sp := by
  intro A outer s H args us vs Q E hr e0 hb r hsp
  have hl := len _ _ _ _ _ hsp
  have KS : K.In s.heap := e0.mod.kin.keeps fun b o e => (e0.bs b o e).1
  have lims : s.heap.NoLimit := e0.mod.nolimit.keeps fun b o e => (e0.bs b o e).1
  have kinds : ∀ y ∈ ps.zip us, scope.names.lookup y.1 = some .local ∨ (scope.names.lookup y.1 = some .cell ∧ ((cellsFrom (s.heap.objs.size + 1) scope.names []).lookup y.1).isSome = true) := fun y hy =>
    (S.par y.1 (List.of_mem_zip hy).1).imp id fun q => ⟨q, PySem.W.cellsFrom_some _ _ _ (.inl q)⟩
  refine codeAny_call_function hr.depth (KS _ _ lk) rfl S.co S.gen rfl (PySem.W.codeRec_of KS hcd) (hb _ _ _ _ ?_)
  refine wpAny_newFunctionEnv_cells S.kind kinds fun env he s1 x => ?_
  subst he
  refine ⟨lims.keeps x.toInCall.keep, codeAny_func ?_⟩
  obtain ⟨t, ht, hq⟩ := hbody A outer s H vs Q E (hr.deeper _) hsp
  have I : Inv (cxOf CX P w K mg base N qual scope f cdv A outer s H E) [] (start N vs) H s1 := inv_start S hr.hd e0 hl r x
  refine wpAny_mono (ht.run [] s1 (start N vs) H _ I hq) (fun fl s' hs => ?_) fun _ _ z => z
  have done : ∀ {σ' : L2.St} {H' : Hp} {v : V} {u : Value}, Inv (cxOf CX P w K mg base N qual scope f cdv A outer s H E) [] σ' H' s' → RelV v u → Q v H' → CE outer P w H s Q u s' :=
    fun {σ' H' v u} J rv q => ⟨v, H', J.os, J.bare, J.base, J.hok, rv, q⟩
  cases fl with
  | ret u =>
    obtain ⟨v, σ', H', J, rv, q⟩ := hs
    exact done J rv q
  | next =>
    obtain ⟨σ', H', J, q⟩ := hs
    exact done (v := V.non) (u := Value.none) J rfl q
  | brk => exact (hs.elim fun _ z => z.elim fun _ z => z.2.elim)
  | cont => exact (hs.elim fun _ z => z.elim fun _ z => z.2.elim)
end
/-- def __iter__(self): return iter(self.fld) -/
def spIt (C : Addr) (K : PySem.W.Frag) (fld : Str) : Shared → Sp := fun s vs H Q _ => ∃ (a dx l : Addr) (fs : List (Str × V)) (zs : List V), vs = [.ref a] ∧ H a = some (.ins C dx fs) ∧ fs.lookup fld = some (.ref l) ∧ SqT K H l zs ∧ ∀ it, H it = none → s.heap.objs.size ≤ it → Q (.ref it) (upd H it (ItT l it))
/-- .. at a call with its arguments by place -/
def FnSR (P : Program) (w : World) (K : PySem.W.Frag) (mg : Str → Option Value) (base : Heap) (CX : CXT) (k : Nat) (f : Addr) (sp : Shared → Sp) : Prop :=
  ∀ (A : Around) (outer : List Env) (s : Shared) (H : Hp) (us : List Value) (vs : List V) (Q : VK) (E : XK), Room k A → Env0 P w K mg base A outer s H → Vals vs us → sp s vs H Q E →
    codeAny (model P w) A (.call (.ref f) ⟨us, []⟩) (CR CX outer P w H s Q E) s
theorem FnS.raw {P : Program} {w : World} {K : PySem.W.Frag} {mg : Str → Option Value} {base : Heap} {CX : CXT} {k : Nat} {f : Addr} {fd : FuncData} {ps : List Str} {sp : Shared → Sp} (F : FnS P w K mg base CX k f fd ps sp) (len : ∀ s vs H Q E, sp s vs H Q E → vs.length = ps.length)
    (hb : Binds K fd ps []) : FnSR P w K mg base CX k f sp := fun A outer s H us vs Q E hr e0 r hs => by
  have hl : (us ++ []).length = ps.length := by
    rw [List.append_nil, ← r.length]
    exact len _ _ _ _ _ hs
  have b := hb s us (e0.mod.kin.keeps fun b o e => (e0.bs b o e).1) hl
  rw [List.append_nil] at b
  exact F A outer s H ⟨us, []⟩ us vs Q E hr e0 b r hs
structure OwnIt (K : PySem.W.Frag) (C f : Addr) (fld : Str) : Prop where
  cls : Cls K C
  na : NoAttr K C fld
  at_ : PySem.W.findIn K (.ref C) "__iter__" = some (some (.ref f))
  fn : PySem.W.isFn K (.ref f) = true
/-- over an object whose __iter__ gives the iterator of the tuple at l -/
def iOwn (K : PySem.W.Frag) (f : Addr) (fld : Str) (te : TE) : TI := fun σ H R => te σ H fun x H1 => ∃ (a C dx l : Addr) (fs : List (Str × V)) (zs : List V), x = .ref a ∧ H1 a = some (.ins C dx fs) ∧ OwnIt K C f fld ∧ fs.lookup fld = some (.ref l) ∧ SqT K H1 l zs ∧ R (Itt K l) H1
theorem tup_next {M : Model} {A : Around} {E : Value → Shared → Prop} {s : Shared} {it l : Addr} {Q : Value → Shared → Prop} (h : s.heap.get? it = some (itTup l 0)) (q : Q (.ref it) s) : PySem.W.OwitIt M A Q E (.ref it) s := by
  unfold PySem.W.OwitIt
  exact wpAny_specialOf (name := Str.ofString "__next__") (⟨_, h, rfl⟩ : s.TypeIs (.ref it) "tuple_iterator") PySem.F.slot_tuple_iterator_next.lookup q
theorem pi_own {X : Cx} {CX : CXT} {k : Nat} {f : Addr} {fld : Str} {E : XK} {tg e : Expr} {te : TE} (he : PE X e te) (F : ∀ C, OwnIt X.K C f fld → FnSR X.prog X.w X.K X.mg X.base CX k f (spIt C X.K fld)) (hr : Room k X.A) (hx : Passes CX X E) : PI X tg e (iOwn X.K f fld te) := by
  refine ⟨fun pins s σ H R I h => ?_⟩
  refine thn (he.run pins s σ H _ I h) fun u s1 ⟨x, H1, I1, rx, a, C, dx, l, fs, zs, ex, ea, c, lk, sq, hq⟩ => ?_
  subst ex
  obtain rfl : u = Value.ref a := rx
  obtain ⟨ox, od, J, _⟩ := StX.insC_at I1 (.inr ⟨dx, fs, ea⟩)
  obtain ⟨mm, fr⟩ := I1.fr
  have sp0 : spIt C X.K fld s1 [.ref a] H1 (fun v H2 => ∃ it, v = .ref it ∧ H1 it = none ∧ s1.heap.objs.size ≤ it ∧ H2 = upd H1 it (ItT l it)) E := ⟨a, dx, l, fs, zs, rfl, ea, lk, sq, fun it e n => ⟨it, rfl, e, n, rfl⟩⟩
  refine PySem.W.owit_iter fr I1.ok.mod.kin J c.at_ c.fn (wpAny_call (codeAny_mono (F C c X.A X.stack s1 H1 [.ref a] [.ref a] _ E hr I1.env0 (.cons rfl .nil) sp0) fun r s' z => ?_))
  match r, z with
  | .error er, z => exact hx pins σ H1 s1 er s' I1 z
  | .ok (.ret v), z =>
    obtain ⟨y, H2, os, br, un, ok, ry, it, ey, e1, hn, eH⟩ := z
    subst ey
    subst eH
    obtain rfl : v = Value.ref it := ry
    have I2 : Inv X pins σ (upd H1 it (ItT l it)) s' := I1.call' os un ok br fun b m => by cases m
    have eo := itT_get I2 upd_same
    refine tup_next eo ?_
    have e2 : upd H1 it (ItT l it) it = some (.ext fun h => h.get? it = some (itTup l 0)) := upd_same
    have I3 := ItX.inv_drop I2 e2
    rw [ItX.dropH_upd e1] at I3
    have fp := ItX.inv_fp I2 e2 (Nat.le_trans I1.sz hn)
    rw [ItX.dropH_upd e1] at fp
    refine ⟨it, [it], _, _, H1, rfl, I3, turn_tuple l it, ⟨_, eo, rfl, rfl⟩, fun b hb => ?_, hq⟩
    obtain rfl : b = it := by simpa using hb
    exact fp
end OwR
end
section
/-! list(o), o an object whose __iter__ gives a tuple's iterator and whose __len__ its length. -/
namespace OwR
open PySem PySem.Spec PyProof.Rows L2
section
variable {X : Cx} {pins : List (Addr × Obj)} {σ : L2.St} {H : Hp} {s : Shared}
/-- a list has been filled, an iterator has turned -/
theorem listed {S it : Addr} {xs ys : List V} {acc : Array Value} {c : Nat} {h' : Heap} {t' : Nat} (I : Inv X pins σ H s) (fp : FpOk X pins H it) (hS : H S = some (.lst ys)) (k : ∀ b o, b ≠ S → b ≠ it → s.heap.get? b = some o → h'.get? b = some o)
    (eS : h'.get? S = some ({ cls := .type "list", dict := none, data := .seq acc c, slots := #[] } : Obj)) (rv : Vals xs acc.toList) (hz : xs.length ≤ sizeLine) : Inv X pins σ (upd H S (.lst xs)) { s with heap := h', toks := t' } := by
  have nS : ∀ {b : Addr} {u : HO}, H b = some u → (∀ zs, u ≠ .lst zs) → b ≠ S := fun {b u} e n z => by
    rw [z, hS] at e
    exact n ys (Option.some.inj e).symm
  have nN : ∀ {b : Addr}, H b = none → b ≠ S := fun {b} e z => by
    rw [z, hS] at e
    cases e
  have nI : ∀ {b : Addr} {u : HO}, H b = some u → b ≠ it := fun {b u} e z => by
    rw [z, fp.1] at e
    cases e
  have ni : ∀ {b : Addr}, b ∉ [it] → b ≠ it := fun {b} m z => m (List.mem_singleton.mpr z)
  refine I.step (g' := s.gens) (d' := s.drawn) (ch := [it]) (fun b m => ?_) (fun b o _ _ m e n => k b o (nN n) (ni m) e) (fun b o _ _ m e n => ⟨o.slots, k b o (nN n) (ni m) e⟩) (fun b o m e n => by rw [upd_ne (nN n)]; exact n) (fun b o m e => ?_)
    (fun b zs e => by rw [upd_ne (nS e fun _ z => by cases z)]; exact e) (fun b o u e => by rw [upd_ne (nS e fun _ z => by cases z)]; exact e) (fun b ps e => ⟨#[], by rw [upd_ne (nS e fun _ z => by cases z), e]; simp⟩) (fun m hm => ?_) (fun b u e => ?_) I.bare
  · obtain rfl : b = it := by simpa using m
    exact ⟨fp.2.2.2.1, fp.2.1, fp.2.2.2.2.1, fp.2.2.2.2.2⟩
  · by_cases c : b = S
    · subst c
      exact ⟨_, eS⟩
    · exact ⟨o, k b o c (ni m) e⟩
  · obtain ⟨o, es, ep, ho, r⟩ := hm
    exact ⟨o, es, ep, k _ o (nN I.free) (Ne.symm fp.2.1) ho, r⟩
  · by_cases c : b = S
    · subst c
      rw [upd_same] at e
      cases e
      exact ⟨hz, acc.toList, _, rv, eS⟩
    · rw [upd_ne c] at e
      refine (I.hok b u e).stay (fun d v hd q => k d v ?_ ?_ q) (fun d z => ?_) fun d zs z => ?_
      · rcases hd with z | z
        · rw [z]
          exact c
        · exact nS z fun _ w => by cases w
      · rcases hd with z | z
        · rw [z]
          exact nI e
        · exact nI z
      · rw [upd_ne (nS z fun _ w => by cases w)]
        exact z
      · rw [upd_ne (nS z fun _ w => by cases w)]
        exact z
end
theorem items_all {its : List Value} {acc : Array Value} (h : ItemsOf (fun i v => its.toArray[i]? = some v) acc its.toArray.size) : acc.toList = its := by
  refine List.ext_getElem? fun i => ?_
  obtain ⟨h1, h2⟩ := h
  have h1' : acc.size = its.length := by simpa using h1
  cases e : acc.toList[i]? with
  | some v =>
    have e2 : acc[i]? = some v := by rw [← Array.getElem?_toList]; exact e
    have e3 : its.toArray[i]? = some v := h2 i v e2
    rw [List.getElem?_toArray] at e3
    exact e3.symm
  | none =>
    have : acc.toList.length ≤ i := List.getElem?_eq_none_iff.mp e
    rw [Array.length_toList, h1'] at this
    exact (List.getElem?_eq_none this).symm
/-- len(self) is len(self.fld) -/
def spLn (C : Addr) (K : PySem.W.Frag) (fld : Str) : Sp := fun vs H Q _ => ∃ (a dx l : Addr) (fs : List (Str × V)) (zs : List V), vs = [.ref a] ∧ H a = some (.ins C dx fs) ∧ fs.lookup fld = some (.ref l) ∧ SqT K H l zs ∧ Q (.int (zs.length : Nat)) H
def rListO (K : PySem.W.Frag) (f g : Addr) (fld : Str) : List V → Hp → VK → Prop := fun xs H Q => ∃ (a C dx l : Addr) (fs : List (Str × V)) (zs : List V), xs = [.ref a] ∧ H a = some (.ins C dx fs) ∧ OwnIt K C f fld ∧ Len1 K C g ∧ fs.lookup fld = some (.ref l) ∧ SqT K H l zs ∧ ∀ q, H q = none → Q (.ref q) (upd H q (.lst zs))
theorem asInt_of (n : Int) (t : Tok) : asInt? (.int n t) = pure (some n) := rfl
/-- the hint of how many there are -/
theorem hint_own {prog : Program} {w : World} {A : Around} {E : Value → Shared → Prop} {s : Shared} {K : PySem.W.Frag} {a C g : Addr} {ox : Obj} {od : Option Obj} {Q : Bool → Shared → Prop} (X : K.In s.heap) (J : PySem.W.InstAt s.heap a ox C od) (c : Len1 K C g)
    (h : ∀ E' : Value → Shared → Prop, wpAny (model prog w) A (call (.builtin "len") [.ref a]) (fun v s' => ∃ (n : Int) (t : Tok), v = .int n t ∧ n.toNat ≤ sizeLine ∧ Q (n != 0) s') E' s) : wpAny (model prog w) A (Builtin.List.listLengthHint (.ref a)) Q E s := by
  unfold Builtin.List.listLengthHint
  refine wpAny_bind (wpAny_bind (J.type.here ((PySem.W.looks_findIn X c.at_).here ?_)))
  refine PySem.W.KFB.if_not rfl ?_
  refine wpAny_ite_split (fun _ => ?_) (fun z => absurd rfl z)
  refine wpAny_bind (wpAny_rule ?_)
  refine wpAny_bind (wpAny_attempt (wpAny_mono (h _) (fun v s' q => ?_) fun _ _ z => z))
  obtain ⟨n, t, rfl, hn, q⟩ := q
  refine wpAny_bind (m := asInt? (.int n t)) (wpAny_pure ?_)
  exact PySem.W.KFB.if_not (notLongL hn) (wpAny_pure q)
theorem call_listO {X : Cx} {k : Nat} {f g : Addr} {fld : Str} (F : ∀ C, OwnIt X.K C f fld → FnSR X.prog X.w X.K X.mg X.base CX0 k f (spIt C X.K fld)) (G : ∀ C, Len1 X.K C g → OwnIt X.K C f fld → FnR X.prog X.w X.K X.mg X.base CX0 k g (spLn C X.K fld)) (hc : X.calm = true) (hr : Room (k + 3) X.A) : CallR X (.type "list") (rListO X.K f g fld) := by
  intro pins s σ H xs us Q I rv h
  obtain ⟨a, C, dx, l, fs, zs, rfl, ha, cI, cL, lk, sq, q⟩ := h
  obtain rfl := Vals.ref1 rv
  have fr0 : H s.heap.objs.size = none := I.hok.fresh (Nat.le_refl _)
  refine callType_codes (Q₁ := fun obj t => obj = .ref s.heap.objs.size ∧ t = { s with heap := s.heap.push { cls := .type "list", data := .seq #[] } }) PySem.F.called_list (PySem.F.typeCall_list_1 _) PySem.F.entry_list_init (code_list_new _ ⟨rfl, rfl⟩) fun obj t ht => ?_
  obtain ⟨rfl, rfl⟩ := ht
  have hS : (s.heap.push { cls := .type "list", data := .seq #[] }).get? s.heap.objs.size = some { cls := .type "list", data := .seq #[] } := Heap.get?_push_size _ rfl
  refine ⟨⟨_, hS, rfl⟩, PySem.F.args_list_init_2 _ _, ?_⟩
  have I1 : Inv X pins σ (upd H s.heap.objs.size (.lst [])) { s with heap := s.heap.push { cls := .type "list", data := .seq #[] } } := I.lnew (its := []) (t' := s.toks) .nil (Nat.zero_le _)
  generalize eSz : s.heap.objs.size = S at *
  show wpAny _ _ (do let old ← Builtin.List.listItems (.ref S); Builtin.List.listUpdate (.ref S) (fun _ => #[]); letGo old.toList.reverse; Builtin.List.listExtendWith (.ref S) (.ref a) .none) _ _ _
  refine wpAny_bind ?_
  unfold Builtin.List.listItems
  refine wpAny_bind (wpAny_seqItems hS rfl (wpAny_pure ?_))
  show wpAny _ _ (updateSeq S (fun _ => #[]) >>= fun _ => letGo (#[] : Array Value).toList.reverse >>= fun _ => Builtin.List.listExtendWith (.ref S) (.ref a) .none) _ _ _
  refine wpAny_bind (wpAny_updateSeq hS rfl ?_)
  have I2 := I1.lset (f := fun _ => #[]) (its := []) (its' := []) (ys := []) (t' := s.toks) upd_same hS rfl .nil (Nat.zero_le _)
  rw [upd_upd] at I2
  refine wpAny_bind (wpAny_letGo ?_)
  have ha2 : upd H S (.lst []) a = some (.ins C dx fs) := by
    rw [upd_ne (ne_of_none ha fr0)]
    exact ha
  have sq2 : SqT X.K (upd H S (.lst [])) l zs := sq.elim (fun r => .inl (r.elim (fun e => .inl (by rw [upd_ne (ne_of_none e fr0)]; exact e)) fun ⟨o, e⟩ => .inr ⟨o, by rw [upd_ne (ne_of_none e fr0)]; exact e⟩)) .inr
  have eS2 : upd H S (.lst []) S = some (.lst []) := upd_same
  have done : ∀ s', Inv X pins σ (upd (upd H S (.lst [])) S (.lst zs)) s' → EP X pins σ Q (.ref S) s' := fun s' J => by
    rw [upd_upd] at J
    exact ⟨.ref S, _, J, rfl, q S fr0⟩
  generalize upd H S (.lst []) = H2 at I2 ha2 sq2 eS2 done
  generalize ({ s with heap := ((s.heap.push { cls := .type "list", data := .seq #[] }).update S (Obj.mapSeq fun _ => #[])), toks := s.toks } : Shared) = s2 at I2 ⊢
  have sz := sizeLine_eq
  have nSa : S ≠ a := fun z => by
    rw [z, ha2] at eS2
    cases eS2
  obtain ⟨ox, od, J, _⟩ := StX.insC_at I2 (.inr ⟨dx, fs, ha2⟩)
  obtain ⟨mm, fr⟩ := I2.fr
  obtain ⟨itz, rvz, plz, hz⟩ := I2.tuple sq2
  unfold Builtin.List.listExtendWith
  refine wpAny_bind (J.type.here ?_)
  have t1 : Builtin.List.listSameRef (.ref S) (.ref a) = false := by simp [Builtin.List.listSameRef, nSa]
  have t2 : (Value.ref C == Value.type "list") = false := rfl
  have t3 : (Value.ref C == Value.type "tuple") = false := rfl
  simp only [t3, t2, t1, Bool.false_eq_true, Bool.or_false, if_false]
  have sp0 : spIt C X.K fld s2 [.ref a] H2 (fun v G2 => ∃ it, v = .ref it ∧ H2 it = none ∧ s2.heap.objs.size ≤ it ∧ G2 = upd H2 it (ItT l it)) E0 := ⟨a, dx, l, fs, zs, rfl, ha2, lk, sq2, fun it e n => ⟨it, rfl, e, n, rfl⟩⟩
  refine wpAny_bind (PySem.W.owit_iter fr I2.ok.mod.kin J cI.at_ cI.fn (wpAny_call (codeAny_mono (F C cI X.A.in1.in1 X.stack s2 H2 [.ref a] [.ref a] _ E0 (hr.in1.in1.mono (Nat.le_succ k)) I2.env0.in1.in1 (.cons rfl .nil) sp0) fun r s' z => ?_)))
  match r, z with
  | .error er, z => exact z.elim
  | .ok (.ret v), z =>
    obtain ⟨y, G3, os, br, un, ok, ry, it, ey, e1, hn, eH⟩ := z
    subst ey
    subst eH
    obtain rfl : v = Value.ref it := ry
    have I3 : Inv X pins σ (upd H2 it (ItT l it)) s' := I2.call' os un ok br fun b m => by cases m
    have nlit : l ≠ it := fun e => by
      obtain ⟨o, eo, _⟩ := plz
      exact absurd (Nat.lt_of_lt_of_le (Heap.lt_size eo) (e ▸ hn)) (Nat.lt_irrefl _)
    have mono : ∀ {b : Addr} {u : HO}, H2 b = some u → upd H2 it (ItT l it) b = some u := fun {b u} e => by
      rw [upd_ne (ne_of_none e e1)]
      exact e
    have ha3 := mono ha2
    have eS3 := mono eS2
    have sq3 : SqT X.K (upd H2 it (ItT l it)) l zs := sq2.elim (fun r => .inl (r.elim (fun e => .inl (mono e)) fun ⟨o, e⟩ => .inr ⟨o, mono e⟩)) .inr
    have e2 : upd H2 it (ItT l it) it = some (.ext fun h => h.get? it = some (itTup l 0)) := upd_same
    have fp0 := ItX.inv_fp I3 e2 (Nat.le_trans I2.sz hn)
    rw [ItX.dropH_upd e1] at fp0
    have loop : ∀ s4, Inv X pins σ (upd H2 it (ItT l it)) s4 → codeAny (model X.prog X.w) X.A.in1 (.builtin "list.extend.loop" ⟨[.ref S, .ref it, .none], []⟩) (wants (fun r t => r = .none ∧ EP X pins σ Q (.ref S) t) X.xe) s4 := fun s4 I4 => by
      have eo := itT_get I4 upd_same
      obtain ⟨iz, rz, pz, lz⟩ := I4.tuple sq3
      obtain ⟨z1, l1, c1, r1, _, f1⟩ := I4.lstM eS3
      cases r1
      have W := Walks.tuple (prog := X.prog) (w := X.w) (A := X.A.in1.in1) (I.ok.hd hc) it l nlit iz.toArray
      have I5 := ItX.inv_drop I4 e2
      rw [ItX.dropH_upd e1] at I5
      have nSf : S ∉ [it, l] := fun m => by
        rcases List.mem_cons.mp m with z | m
        · rw [z, e1] at eS2
          cases eS2
        · obtain ⟨o, e3, c3, d3⟩ := pz
          rw [← List.mem_singleton.mp m, f1] at e3
          cases e3
          exact absurd (show Value.type "list" = Value.type "tuple" from c3) (by decide)
      refine codeAny_extend_loopS W.toS (by rw [List.size_toArray, ← rz.length]; exact lz) S nSf .none iz.toArray.size 0 s4 #[] c1 rfl (Nat.zero_le _) ⟨⟨_, eo, rfl, rfl⟩, pz⟩ f1 (ItemsOf.nil _) fun t acc c2 mv f2 ic => ?_
      refine ⟨rfl, done t ?_⟩
      have J5 := listed (xs := zs) (acc := acc) (c := c2) (h' := t.heap) (t' := t.toks) I5 fp0 eS2 (fun b o n1 n2 e => mv.heap b o (fun m => (List.mem_cons.mp m).elim n1 fun m => n2 (List.mem_singleton.mp m)) e) f2 (by rw [items_all ic]; exact rz) lz
      rw [Moved.eq_with mv]
      exact J5
    refine tup_next (itT_get I3 upd_same) ?_
    obtain ⟨ox3, od3, J3, _⟩ := StX.insC_at I3 (.inr ⟨dx, fs, ha3⟩)
    obtain ⟨m3, fr3⟩ := I3.fr
    refine wpAny_bind (wpAny_holding (hint_own I3.kIn J3 cL fun E' => ?_))
    refine PySem.W.len_K fr3 I3.ok.mod.kin J3 cL.at_ cL.fn (wpAny_call (codeAny_mono (G C cL cI X.A.in1.in1.in1 X.stack s' _ [.ref a] [.ref a] (fun v G4 => v = .int (zs.length : Nat) ∧ G4 = upd H2 it (ItT l it)) E0 hr.in1.in1.in1 I3.env0.in1.in1.in1 (.cons rfl .nil) ⟨a, dx, l, fs, zs, rfl, ha3, lk, sq3, rfl, rfl⟩) fun r2 s5 z2 => ?_))
    match r2, z2 with
    | .error er, z2 => exact z2.elim
    | .ok (.ret v2), z2 =>
      obtain ⟨y2, G5, os2, br2, un2, ok2, ry2, ey2, eG⟩ := z2
      subst ey2
      subst eG
      obtain ⟨tk, rfl⟩ := ry2
      have I5 : Inv X pins σ (upd H2 it (ItT l it)) { s5 with toks := s5.toks + 1 } := (I3.call' os2 un2 ok2 br2 fun b m => by cases m).tok _
      refine ⟨⟨Int.natCast_nonneg _, by have : zs.length ≤ 16777216 := by rw [← sz]; exact hz
                                        omega⟩, _, _, rfl, by rw [Int.toNat_natCast]; exact hz, ?_⟩
      refine wpAny_ite_split (fun _ => ?_) (fun _ => wpAny_pure ⟨plainId_quiet PySem.F.plain_extend_loop _, loop _ I5⟩)
      refine wpAny_bind (wpAny_rule ?_)
      refine wpAny_bind ?_
      show wpAny _ _ (updateSeq S (·.push .none) >>= fun _ => updateSeq S (·.pop)) _ _ _
      obtain ⟨z6, l6, c6, r6, _, f6⟩ := I5.lstM eS3
      cases r6
      refine wpAny_bind (wpAny_updateSeq f6 rfl ?_)
      have I6 := I5.lset (f := (·.push Value.none)) (its := []) (its' := [Value.none]) (ys := [.non]) (t' := s5.toks + 1) eS3 f6 (by simp) (.cons rfl .nil) (by rw [List.length_singleton, sz]; decide)
      obtain ⟨z7, l7, c7, r7, _, f7⟩ := I6.lstM upd_same
      obtain ⟨u7, rfl, ru7⟩ := r7.one
      refine wpAny_updateSeq f7 rfl ?_ (by show 1 ≤ sizeLine; rw [sz]; decide) (by show 0 ≤ sizeLine + 1; exact Nat.zero_le _)
      have I7 := I6.lset (f := (·.pop)) (its := [u7]) (its' := []) (ys := []) (t' := s5.toks + 1) upd_same f7 (by rfl) .nil (Nat.zero_le _)
      rw [upd_upd] at I7
      have back : upd (upd H2 it (ItT l it)) S (.lst []) = upd H2 it (ItT l it) := funext fun b => by
        by_cases e : b = S
        · rw [e, upd_same, eS3]
        · rw [upd_ne e]
      rw [back] at I7
      exact wpAny_pure ⟨plainId_quiet PySem.F.plain_extend_loop _, loop _ I7⟩
end OwR
end
section
/-! def f(a, .., *v, k): called with the keyword; instances made so. -/
namespace OwR
open PySem PySem.Spec PyProof.Rows L2
/-- a promise by places and by the values of given keywords -/
def FnRK (P : Program) (w : World) (K : PySem.W.Frag) (mg : Str → Option Value) (base : Heap) (CX : CXT) (k : Nat) (f : Addr) (ks : List Str) (sp : List V → Sp) : Prop :=
  ∀ (A : Around) (outer : List Env) (s : Shared) (H : Hp) (us ws : List Value) (vs zs : List V) (Q : VK) (E : XK), Room k A → Env0 P w K mg base A outer s H → Vals vs us → Vals zs ws → sp zs vs H Q E →
    codeAny (model P w) A (.call (.ref f) ⟨us, ks.zip ws⟩) (CR CX outer P w H s Q E) s
section
variable {CX : CXT} {P : Program} {w : World} {K : PySem.W.Frag} {mg : Str → Option Value} {base : Heap} {k : Nat} {f : Addr} {name qual : Str} {params : Arguments} {body : List Stmt} {scope : Scope} {dV kV doc pm cdv ct oc : Value} {an od : Option Addr}
  {osl : Array (Option Value)} {N ps : List Str} {sp : Sp}
theorem fn_starko {pv kn : Str} (lk : K.lookup f = some ⟨oc, od, .func (PySem.W.fnOf name qual params body scope dV kV doc pm an cdv ct), osl⟩) (hcd : PySem.W.codeIn K cdv qual = true) (S : FnScope N (ps ++ [kn, pv]) scope) (hCX : StX.CXUp CX)
    (hb : ∀ (us rest : List Value) (y : Value), us.length = ps.length → bindArgs (PySem.W.fnOf name qual params body scope dV kV doc pm an cdv ct) ⟨us ++ rest, [(kn, y)]⟩ = (newTuple rest >>= fun t => pure (ps.zip us ++ [(kn, y), (pv, t)])))
    (hbody : ∀ (A : Around) (outer : List Env) (s : Shared) (H : Hp) (vs : List V) (Q : VK) (E : XK), Room k (A.deeper (envOfC qual scope s.heap.objs.size f cdv)) → sp vs H Q E →
      ∃ t, PSs (cxOf CX P w K mg base N qual scope f cdv A outer s H E) body t ∧ t { nx := fun _ H' => Q .non H', rt := Q } (start N vs) H) :
    FnRK P w K mg base CX (k + 1) f [kn] (fun zs vs H Q E => ∃ as rest y, zs = [y] ∧ vs = as ++ rest ∧ as.length = ps.length ∧ rest.length ≤ sizeLine ∧ ∀ p, H p = none → sp (as ++ [y, V.ref p]) (upd H p (.tup rest)) Q E) := by
  intro A outer s H us ws vs zs Q E hr e0 r rz hsp
  obtain ⟨as, rest, y, rfl, rfl, hl, hz, hq⟩ := hsp
  obtain ⟨u1, u2, rfl, r1, r2⟩ := StX.vals_split r
  obtain ⟨yv, rfl, ry⟩ := rz.one
  have fresh : H s.heap.objs.size = none := e0.hok.fresh (Nat.le_refl _)
  have l1 : u1.length = ps.length := r1.length.symm.trans hl
  have l2 : u2.length ≤ sizeLine := r2.length ▸ hz
  refine StX.run_bnd (args := ⟨u1 ++ u2, [kn].zip [yv]⟩) lk hcd S hr e0 (G := fun xs G2 => ∃ p, H p = none ∧ xs = as ++ [y, V.ref p] ∧ G2 = upd H p (.tup rest)) (fun A' Ex Q' h => ?_) fun s2 G2 xs g hr' => ?_
  · show wpAny _ _ (bindArgs _ ⟨u1 ++ u2, [(kn, yv)]⟩) _ _ _
    rw [hb u1 u2 yv l1]
    refine wpAny_bind (wpAny_newTuple (wpAny_pure ?_) l2)
    have laid : ObjOk P w (upd H s.heap.objs.size (.tup rest)) (s.heap.push ({ cls := .type "tuple", data := .seq u2.toArray } : Obj)) s.heap.objs.size (.tup rest) := ⟨hz, u2, r2, ⟨_, Heap.get?_push_size _ rfl, rfl, _, rfl⟩⟩
    have un := StX.un_laid (fs := frs outer) (s := s) (o := ({ cls := .type "tuple", data := .seq u2.toArray } : Obj)) (u := .tup rest) fresh
    have z := h _ _ (as ++ [y, V.ref s.heap.objs.size]) (u1 ++ [yv, Value.ref s.heap.objs.size]) (StX.env0_laid e0 laid) un rfl (fun e s' => hCX outer s H _ _ E e s' un (fun b o q => Heap.get?_push_of_some _ q) rfl) (r1.append (.cons ry (.cons rfl .nil)))
      (by rw [List.length_append, List.length_append, hl] <;> rfl) ⟨_, fresh, rfl, rfl⟩
    rw [List.zip_append l1.symm] at z
    exact z
  · obtain ⟨p, hp, rfl, rfl⟩ := g
    exact hbody A outer s2 _ _ Q E hr' (hq p hp)
end
section
variable {X : Cx} {CX : CXT} {k : Nat} {f C : Addr} {ks : List Str} {sp : List V → Sp} {E : XK} {x : Str} {p pos : Pos} {e : Expr} {es : List Expr} {kws : List Keyword} {t tk : TA}
theorem run_makeRK {pins : List (Addr × Obj)} {σ : L2.St} {H : Hp} {s : Shared} {Q : VK} {us ws : List Value} {vs zs : List V} (M : Mk X.K C f) (F : FnRK X.prog X.w X.K X.mg X.base CX k f ks sp) (hr : Room (k + 1) X.A) (hx : Passes CX X E) (I : Inv X pins σ H s) (r : Vals vs us) (rz : Vals zs ws)
    (h : ∀ y dy, H y = none → H dy = none → dy ≠ y → sp zs (.ref y :: vs) (upd (upd H dy (.own y)) y (.ins C dy [])) (fun v G => v = .non ∧ Q (.ref y) G) E) : wpAny (model X.prog X.w) X.A (call (.ref C) us (ks.zip ws)) (EP X pins σ Q) X.xe s := by
  have hq := h (s.heap.objs.size + 1) s.heap.objs.size (I.hok.fresh (Nat.le_succ _)) (I.hok.fresh (Nat.le_refl _)) (Nat.ne_of_lt (Nat.lt_succ_self _))
  have J := Inv.made (C := C) I
  have rr : Vals (V.ref (s.heap.objs.size + 1) :: vs) (Value.ref (s.heap.objs.size + 1) :: us) := .cons rfl r
  refine wpAny_call (make_map (f := f) I.kIn M.makes M.init (beq_iff_eq.mp M.fn) (codeAny_mono (F _ X.stack _ _ (Value.ref (s.heap.objs.size + 1) :: us) ws _ zs _ E (hr.make C us (ks.zip ws)) (J.env0.make C us (ks.zip ws)) rr rz hq) fun r s' z => ?_))
  match r, z with
  | .error er, z => exact hx pins σ _ _ er s' J z
  | .ok (.ret u), z =>
    obtain ⟨v, G, I3, rv, ev, q3⟩ := J.after z
    subst ev
    exact ⟨rv, ⟨V.ref (s.heap.objs.size + 1), G, I3, rfl, q3⟩⟩
def tMakeRK (C : Addr) (sp : List V → Sp) (E : XK) (t tk : TA) : TE := fun σ H Q => t σ H fun vs H1 => tk σ H1 fun zs H2 => ∀ y dy, H2 y = none → H2 dy = none → dy ≠ y → sp zs (.ref y :: vs) (upd (upd H2 dy (.own y)) y (.ins C dy [])) (fun v G => v = .non ∧ Q (.ref y) G) E
/-- C(e, .., k = v), __init__ with a starred parameter -/
theorem pe_makeRK (M : Mk X.K C f) (F : FnRK X.prog X.w X.K X.mg X.base CX k f ks sp) (hr : Room (k + 1) X.A) (hg : Gl X x) (hm : X.mg x = some (.ref C)) (hx : Passes CX X E) (ha : PA X (e :: es) t) (hkw : PK X kws tk)
    (hall : (backToKw pos (keywordEach kws X.env)).all (·.1.isSome) = true := by rfl) (hks : (backToKw pos (keywordEach kws X.env)).filterMap (·.1) = ks := by rfl) (hdb : (x == ("__debug__" : Str)) = false := by decide)
    (he : starEach (e :: es) X.env = (false, eval e X.env) :: starEach es X.env := by rfl) (hpl : ((backTo pos (starEach (e :: es) X.env)).any (·.1) || (backToKw pos (keywordEach kws X.env)).any (·.1.isNone)) = false := by rfl) :
    PE X (.Call (.Name x p) (e :: es) kws pos) (tMakeRK C sp E t tk) := by
  refine ⟨fun pins s σ H Q I h => ?_⟩
  refine wpAny_Call_Name_kw (ld_glob I hg hm ?_ hdb)
  refine PySem.W.callWith_KW (h₀ := X.base) I.ok.mod.kin M.kp hall (thn (ha.run pos pins s σ H _ I h) fun us s1 ⟨vs, H1, I1, r, q⟩ => ?_) hpl he
  refine thn (hkw.run pos pins s1 σ H1 _ I1 q) fun ws s2 ⟨zs, H2, I2, rz, q2⟩ => ⟨I2.kIn, ?_⟩
  rw [hks]
  exact run_makeRK M F hr hx I2 r rz q2
end
end OwR
end
section
/-! xs[::k]; an own == asked of any value; str(o) by an own __str__. -/
namespace OwR
open PySem PySem.Spec PyProof.Rows L2
/-! ### xs[::k] -/
theorem vals_pick {xs : List V} {us : List Value} (r : Vals xs us) : ∀ idx : List Nat, Vals (idx.filterMap (xs[·]?)) (idx.filterMap (us[·]?))
  | [] => .nil
  | i :: l => by
    have ih := vals_pick r l
    rw [List.filterMap_cons, List.filterMap_cons]
    cases hx : xs[i]? with
    | none =>
      have e : us[i]? = none := by
        rw [List.getElem?_eq_none_iff] at hx ⊢
        rw [← r.length]
        exact hx
      rw [e]
      exact ih
    | some x =>
      obtain ⟨u, hu, ru⟩ := r.get hx
      rw [hu]
      exact .cons ru ih
theorem pick_mem {α : Type} {xs : List α} : ∀ {idx : List Nat} {y : α}, y ∈ idx.filterMap (xs[·]?) → y ∈ xs := fun {idx y} h => by
  obtain ⟨i, _, e⟩ := List.mem_filterMap.mp h
  exact List.mem_of_getElem? e
def tStepL (K : PySem.W.Frag) (te : TE) : TE := fun σ H Q => te σ H fun x H1 => ∃ a xs, x = .ref a ∧ SqL K H1 a xs ∧ ∀ p ys, H1 p = none → (∀ y ∈ ys, y ∈ xs) → Q (.ref p) (upd H1 p (.lst ys))
theorem pe_stepL {X : Cx} {e : Expr} {te : TE} {n : Nat} {k : Nat} {p1 p3 pos : Pos} (h0 : (n : Int) ≠ 0) (he : PE X e te) : PE X (.Subscript e (.Slice none none (some (.Constant (.int (n : Int)) k p1)) p3) pos) (tStepL X.K te) := by
  refine ⟨fun pins s σ H Q I h => ?_⟩
  refine Subscript_ (thn (he.run pins s σ H _ I h) fun v s1 w => ?_)
  obtain ⟨x, H1, I1, r1, a, xs, rfl, hx, q⟩ := w
  cases r1
  have hst : PO X (some (.Constant (.int (n : Int)) k p1)) (tPart (tC (.int (n : Int)))) := po_some pe_int
  refine wpAny_Slice (thn (po_none.run pins s1 σ H1 (fun o H2 => o = none ∧ H2 = H1) I1 ⟨rfl, rfl⟩) fun vl s2 w2 => ?_)
  obtain ⟨l, H2, I2, pl, rfl, rfl⟩ := w2
  refine thn (po_none.run pins s2 σ H2 (fun o H3 => o = none ∧ H3 = H2) I2 ⟨rfl, rfl⟩) fun vu s3 w3 => ?_
  obtain ⟨u, H3, I3, pu, rfl, rfl⟩ := w3
  refine thn (hst.run pins s3 σ H3 (fun o H4 => o = some (n : Int) ∧ H4 = H3) I3 ⟨(n : Int), rfl, rfl, rfl⟩) fun vs s4 w4 => ?_
  obtain ⟨o, H4, I4, ps, rfl, rfl⟩ := w4
  have I5 : Inv X pins σ H4 { s4 with heap := s4.heap.push { cls := .type "slice", data := .fields #[vl, vu, vs] } } := I4.kept (t' := s4.toks) fun b ob q => Heap.get?_push_of_some _ q
  obtain ⟨its, r, ht, hz⟩ := I5.list hx
  have hlen := r.length
  show wpAny (model X.prog X.w) X.A (subscriptTail e (.Slice none none (some (.Constant (.int (n : Int)) k p1)) p3) (.ref a) (.ref s4.heap.objs.size)) (EP X pins σ Q) X.xe { s4 with heap := s4.heap.push { cls := .type "slice", data := .fields #[vl, vu, vs] } }
  refine tail_any (ops := [.ref a, .ref s4.heap.objs.size]) ht.isList.typeIs (PySem.slot_list_getitem.lookup) ?_ (by with_unfolding_all rfl)
  refine wpAny_getItem_list_slice ht.isList (Heap.IsSliceOf.new _ vl vu vs) pl pu ps (fun z => h0 (Option.some.inj z)) ?_ (by rw [List.size_toArray]; omega)
  have hz2 := slicePick_size_le its.toArray none none (some (n : Int))
  have ep : slicePick its.toArray none none (some (n : Int)) = ((sliceRange (sliceBounds none none (some (n : Int)) its.toArray.size).1 (sliceBounds none none (some (n : Int)) its.toArray.size).2.1 (sliceBounds none none (some (n : Int)) its.toArray.size).2.2).filterMap (its[·]?)).toArray := by
    unfold slicePick
    simp
  rw [ep] at hz2 ⊢
  generalize sliceRange (sliceBounds none none (some (n : Int)) its.toArray.size).1 (sliceBounds none none (some (n : Int)) its.toArray.size).2.1 (sliceBounds none none (some (n : Int)) its.toArray.size).2.2 = idx at hz2 ⊢
  have rv := vals_pick r idx
  rw [List.size_toArray, List.size_toArray] at hz2
  refine ⟨.ref _, _, I5.laid (t' := s4.toks) (o := .lst (idx.filterMap (xs[·]?))) (fun b ob q => Heap.get?_push_of_some _ q) (Nat.le_refl _) ?_, rfl, q _ _ (I5.hok.fresh (Nat.le_refl _)) fun y hy => pick_mem hy⟩
  exact ⟨by rw [rv.length]; omega, _, 0, rv, Heap.get?_push_size _ rfl⟩
/-! ### an own comparison asked of any value -/
def rCmpX (K : PySem.W.Frag) (op : CmpOp) (g : Addr) (sp : Sp) (E : XK) : R2 := fun x y H Q => ∃ (p C dx : Addr) (fs : List (Str × V)) (t : Value), x = .ref p ∧ H p = some (.ins C dx fs) ∧ TyX K H y t ∧ Cmp1 K op C g ∧ PySem.W.notFirst K C t = true ∧ sp [.ref p, y] H Q E
section
variable {X : Cx} {CX : CXT} {k : Nat} {g : Addr} {sp : Sp} {E : XK}
theorem rc_ownX {o : CmpOp} (hu : X.A.units < cLine) (F : FnR X.prog X.w X.K X.mg X.base CX k g sp) (hr : Room k X.A) (hx : Passes CX X E) : OpR X (richCompare o) (rCmpX X.K o g sp E) := by
  intro pins s σ H x y v u Q I rx ry h
  obtain ⟨p, C, dx, fs, t, rfl, ep, ty, c1, nf, hq⟩ := h
  obtain rfl : v = Value.ref p := rx
  obtain ⟨ox, od, J, _⟩ := StX.insC_at I (.inr ⟨dx, fs, ep⟩)
  obtain ⟨P, kx, pS, _⟩ := kit_of I ry ty
  obtain ⟨mm, fr⟩ := I.fr
  exact PySem.W.cmp_K hu fr I.ok.mod.kin J (kx.ty (model X.prog X.w) s.heap I.kIn pS) nf c1.at_ c1.fn (run_own F hr hx I (us := [.ref p, u]) (vs := [.ref p, y]) (.cons rfl (.cons ry .nil)) hq)
theorem op_ownEqX (hu : X.A.units < cLine) (F : FnR X.prog X.w X.K X.mg X.base CX k g sp) (hr : Room k X.A) (hx : Passes CX X E) : OpR X (compareOp .Eq) (rCmpX X.K .Eq g sp E) := fun pins s σ H x y v u Q I rx ry h => PySem.W.cmp_ofEq (rc_ownX hu F hr hx pins s σ H x y v u Q I rx ry h)
theorem op_ownEqXK {K : PySem.W.Frag} (hK : X.K = K) (hu : X.A.units < cLine) (F : FnR X.prog X.w X.K X.mg X.base CX k g sp) (hr : Room k X.A) (hx : Passes CX X E) : OpR X (compareOp .Eq) (rCmpX K .Eq g sp E) := by
  subst hK
  exact op_ownEqX hu F hr hx
/-! ### str(o) -/
structure Str1 (K : PySem.W.Frag) (C g : Addr) : Prop where
  at_ : PySem.W.findIn K (.ref C) "__str__" = some (some (.ref g))
  fn : PySem.W.isFn K (.ref g) = true
def rStrO (K : PySem.W.Frag) (g : Addr) (sp : Sp) (E : XK) : List V → Hp → VK → Prop := fun xs H Q => ∃ (a C dx : Addr) (fs : List (Str × V)), xs = [.ref a] ∧ H a = some (.ins C dx fs) ∧ Str1 K C g ∧ sp [.ref a] H (fun v H' => ∃ z : Str, v = .str z ∧ Q (.str z) H') E
theorem call_strO (hu : X.A.units + 2 < cLine) (F : FnR X.prog X.w X.K X.mg X.base CX k g sp) (hr : Room (k + 2) X.A) (hx : Passes CX X E) : CallR X (.type "str") (rStrO X.K g sp E) := by
  intro pins s σ H xs us Q I r h
  obtain ⟨a, C, dx, fs, rfl, ea, c, hq⟩ := h
  obtain rfl := Vals.ref1 r
  obtain ⟨ox, od, J, _⟩ := StX.insC_at I (.inr ⟨dx, fs, ea⟩)
  refine PySem.W.kso_call (by simpa using hu) I.kIn J c.at_ c.fn ?_
  refine wpAny_call (codeAny_mono (F X.A.in1.in1 X.stack s H [.ref a] [.ref a] _ E hr.in1.in1 I.env0.in1.in1 (.cons rfl .nil) hq) fun r s' hq => ?_)
  cases r with
  | error er => exact hx pins σ H s er s' I hq
  | ok fl =>
    cases fl with
    | ret u =>
      obtain ⟨v, H', I', rv, z, rfl, q2⟩ := I.after hq
      obtain ⟨t, rfl⟩ := rv
      exact ⟨.str z, H', I', ⟨t, rfl⟩, q2⟩
    | next => exact False.elim hq
    | brk => exact False.elim hq
    | cont => exact False.elim hq
end
end OwR
end
section
namespace K10
open PySem
/-- one form: the keeps of a bay fall, neighbours are unlike, no keep is below 0 -/
def Norm : List Pk → Prop
  | [] => True
  | p :: r => (∀ q ∈ r, q.1 = p.1 → q.2 < p.2) ∧ (∀ q, r.head? = some q → q.1 ≠ p.1) ∧ 0 ≤ p.2 ∧ Norm r
theorem choose_congr {f g : Str → Int} : ∀ {l : List Pk}, (∀ p ∈ l, (p.2 < f p.1 ↔ p.2 < g p.1)) → choose f l = choose g l
  | [], _ => rfl
  | p :: r, h => by
    have h1 := h p List.mem_cons_self
    have ih := choose_congr (l := r) fun q hq => h q (List.mem_cons_of_mem _ hq)
    show (if p.2 < f p.1 then some p.1 else choose f r) = (if p.2 < g p.1 then some p.1 else choose g r)
    rw [ih]
    by_cases c : p.2 < f p.1
    · rw [if_pos c, if_pos (h1.mp c)]
    · rw [if_neg c, if_neg fun q => c (h1.mpr q)]
theorem choose_head {f : Str → Int} {p : Pk} {r : List Pk} (h : p.2 < f p.1) : choose f (p :: r) = some p.1 := if_pos h
theorem choose_tail {f : Str → Int} {p : Pk} {r : List Pk} (h : ¬ p.2 < f p.1) : choose f (p :: r) = choose f r := if_neg h
/-- the first one of a bay has the smaller keep: the other list chooses otherwise -/
theorem no_less {x : Str} {k m : Int} {a b : List Pk} (ha : Norm ((x, k) :: a)) (h : ∀ f, choose f ((x, k) :: a) = choose f ((x, m) :: b)) (lt : m < k) : False := by
  obtain ⟨h1, h2, h3, h4⟩ := ha
  cases a with
  | nil =>
    have e := h fun z => m + 1
    rw [choose_tail (p := (x, k)) (by show ¬ k < m + 1; omega), choose_head (p := (x, m)) (by show m < m + 1; omega)] at e
    cases e
  | cons q r =>
    have ne : q.1 ≠ x := h2 q rfl
    have e := h fun z => if z = x then m + 1 else q.2 + 1
    rw [choose_tail (p := (x, k)) (by show ¬ k < (if x = x then m + 1 else q.2 + 1); rw [if_pos rfl]; omega), choose_head (p := q) (by rw [if_neg ne]; omega), choose_head (p := (x, m)) (by show m < (if x = x then m + 1 else q.2 + 1); rw [if_pos rfl]; omega)] at e
    exact ne (Option.some.inj e)
theorem uniq : ∀ (a b : List Pk), Norm a → Norm b → (∀ f, choose f a = choose f b) → a = b
  | [], [], _, _, _ => rfl
  | [], (y, m) :: b, _, _, h => by
    have e := h fun _ => m + 1
    rw [choose_head (p := (y, m)) (by show m < m + 1; omega)] at e
    cases e
  | (x, k) :: a, [], _, _, h => by
    have e := h fun _ => k + 1
    rw [choose_head (p := (x, k)) (by show k < k + 1; omega)] at e
    cases e
  | (x, k) :: a, (y, m) :: b, ha, hb, h => by
    have exy : x = y := by
      by_cases c : x = y
      · exact c
      · have e := h fun z => if z = x then k + 1 else m + 1
        rw [choose_head (p := (x, k)) (by show k < (if x = x then k + 1 else m + 1); rw [if_pos rfl]; omega), choose_head (p := (y, m)) (by show m < (if y = x then k + 1 else m + 1); rw [if_neg fun q => c q.symm]; omega)] at e
        exact Option.some.inj e
    subst exy
    have ekm : k = m := by
      rcases Int.lt_trichotomy k m with c | c | c
      · exact (no_less hb (fun f => (h f).symm) c).elim
      · exact c
      · exact (no_less ha h c).elim
    subst ekm
    have cut : ∀ (l : List Pk), (∀ q ∈ l, q.1 = x → q.2 < k) → ∀ f : Str → Int, choose f l = choose (fun z => if z = x then min (f x) k else f z) ((x, k) :: l) := fun l hl f => by
      rw [choose_tail (p := (x, k)) (by show ¬ k < (if x = x then min (f x) k else f x); rw [if_pos rfl]; omega)]
      refine choose_congr fun p hp => ?_
      by_cases c : p.1 = x
      · have := hl p hp c
        rw [if_pos c, c]
        omega
      · rw [if_neg c]
    rw [uniq a b ha.2.2.2 hb.2.2.2 fun f => by rw [cut a ha.1 f, cut b hb.1 f, h]]
def FA : List Pk → Prop
  | [] => True
  | p :: r => (∀ q ∈ r, q.1 = p.1 → q.2 < p.2) ∧ FA r
theorem fa_kept : ∀ (l : List Pk) (m : Str → Option Int), FA (kept m l)
  | [], _ => True.intro
  | p :: r, m => by
    show FA (if keeps m p = true then p :: kept (setM m p.1 p.2) r else kept m r)
    split
    · exact ⟨fun q hq e => kept_below r (setM m p.1 p.2) q hq p.2 (by unfold setM; rw [if_pos e]), fa_kept r _⟩
    · exact fa_kept r m
theorem norm_step2 : ∀ (l : List Pk), FA l → (∀ p ∈ l, 0 ≤ p.2) → Norm (step2 l) ∧ (step2 l).head?.map (·.1) = l.head?.map (·.1)
  | [], _, _ => ⟨True.intro, rfl⟩
  | [p], _, h => ⟨⟨(fun q hq => by cases hq), (fun q hq => by cases hq), h p List.mem_cons_self, True.intro⟩, rfl⟩
  | p :: q :: r, fa, h => by
    have ih := norm_step2 (q :: r) fa.2 fun z hz => h z (List.mem_cons_of_mem _ hz)
    show Norm (if p.1 = q.1 then step2 (q :: r) else p :: step2 (q :: r)) ∧ (if p.1 = q.1 then step2 (q :: r) else p :: step2 (q :: r)).head?.map (·.1) = some p.1
    by_cases c : p.1 = q.1
    · rw [if_pos c, c]
      exact ih
    · rw [if_neg c]
      refine ⟨⟨fun z hz e => fa.1 z (mem_step2 _ z hz) e, fun z hz e => ?_, h p List.mem_cons_self, ih.1⟩, rfl⟩
      have e2 := ih.2
      rw [hz] at e2
      have e3 : z.1 = q.1 := Option.some.inj e2
      exact c (e.symm.trans e3)
theorem norm_form {l : List Pk} (h : ∀ p ∈ l, 0 ≤ p.2) : Norm (oneForm l) := (norm_step2 _ (fa_kept l _) fun p hp => h p (mem_kept l _ p hp)).1
/-- what chooses alike has one form -/
theorem form_eq {a b : List Pk} (ha : ∀ p ∈ a, 0 ≤ p.2) (hb : ∀ p ∈ b, 0 ≤ p.2) (h : ∀ f, choose f a = choose f b) : oneForm a = oneForm b :=
  uniq _ _ (norm_form ha) (norm_form hb) fun f => by rw [choose_form, choose_form, h]
theorem choose_app (f : Str → Int) : ∀ (a b : List Pk), choose f (a ++ b) = (choose f a).or (choose f b)
  | [], b => rfl
  | p :: r, b => by
    show (if p.2 < f p.1 then some p.1 else choose f (r ++ b)) = (if p.2 < f p.1 then some p.1 else choose f r).or (choose f b)
    by_cases c : p.2 < f p.1
    · rw [if_pos c, if_pos c]
      rfl
    · rw [if_neg c, if_neg c]
      exact choose_app f r b
end K10
end
section
namespace K10
open PySem PySem.Spec PyProof.Rows L2
abbrev sRIter : Stmt := mth 29 8
abbrev sRLen : Stmt := mth 29 7
abbrev sREq : Stmt := mth 29 12
abbrev sROr : Stmt := mth 29 9
abbrev sElse0 : Stmt := mth 32 0
abbrev sPair0 : Stmt := mth 27 0
/-- a class of rules: Rule is at CR, its __iter__ at fI, its __len__ at fL -/
structure RKind (K : PySem.W.Frag) (CR fI fL C : Addr) : Prop where
  rc : RuleC K C
  cl : PySem.W.findIn K (.ref C) "__class__" = some (some (.builtin "object.__class__"))
  cg : PySem.W.specialIn K (.builtin "object.__class__") "__get__" = some (some (.builtin "getset_descriptor.__get__"))
  ct : PySem.W.takesIn K (.builtin "object.__class__") = some true
  ob : PySem.W.mroIn K C (.type "object") = some true
  sub : PySem.W.kitOne K (.ref C) (.ref CR) = some true
  it : OwR.OwnIt K C fI "_picks"
  ln : OwR.Len1 K C fL
theorem RKind.ty {K : PySem.W.Frag} {CR fI fL C : Addr} (k : RKind K CR fI fL C) {H : Hp} {a dx : Addr} {fs : List (Str × V)} (e : H a = some (.ins C dx fs)) : TyX K H (.ref a) (.ref C) := .base (.ins e k.rc.cls k.cl k.cg k.ct k.ob)
def AnyRule (K : PySem.W.Frag) (CR fI fL : Addr) (H : Hp) (a : Addr) (ps : List Pk) : Prop := ∃ C, RKind K CR fI fL C ∧ RuleAt C H a ps
theorem AnyRule.same {K : PySem.W.Frag} {CR fI fL : Addr} {H H' : Hp} {a : Addr} {ps : List Pk} (h : AnyRule K CR fI fL H a ps) (s : Same H H') : AnyRule K CR fI fL H' a ps := by
  obtain ⟨C, k, r⟩ := h
  exact ⟨C, k, r.same s⟩
def pkD (p : Pk) : PyData := .tuple [.str p.1, .int p.2]
theorem pkD_lay {p : Pk} (h : PyData.strOk p.1 = true) : (pkD p).canLay0 = true := by simp [pkD, PyData.canLay0, PyData.canLayAll0, h]
theorem pkD_dep (p : Pk) : (pkD p).depth ≤ 1 := by simp [pkD, PyData.depth, PyData.depthAll]
theorem pk_shaped {ps : List Pk} (h : ∀ p ∈ ps, PyData.strOk p.1 = true) : SeqAt.shaped (.tuple (ps.map pkD)) = true := OwD.shaped_tup (k := 1) (by decide) (fun p q => pkD_lay (h p q)) fun p _ => pkD_dep p
theorem pk_eqv {ps : List Pk} (h : ∀ p ∈ ps, PyData.strOk p.1 = true) : PyData.eqv (.tuple (ps.map pkD)) (.tuple (ps.map pkD)) = true := by
  refine PySem.SeqAt.eqv_refl _ ?_
  rw [PyData.canLay0]
  exact OwD.lays ps fun p q => pkD_lay (h p q)
theorem PicksAt.dp {K : PySem.W.Frag} {H : Hp} : ∀ {ks : List Addr} {ps : List Pk}, PicksAt H ks ps → DpAll K H (ks.map V.ref) (ps.map pkD)
  | [], [], _ => .nil
  | [], _ :: _, h => by cases h.len
  | _ :: _, [], h => by cases h.len
  | k :: ks, p :: ps, h => .cons (.tup (SqT.of (h.at_ 0 k p rfl rfl)) (.cons (.str p.1) (.cons (.int p.2) .nil))) (PicksAt.dp ⟨Nat.succ.inj h.len, fun i k' p' e1 e2 => h.at_ (i + 1) k' p' e1 e2⟩)
theorem PicksAt.append {H : Hp} {ks ls : List Addr} {ps qs : List Pk} (h : PicksAt H ks ps) (g : PicksAt H ls qs) : PicksAt H (ks ++ ls) (ps ++ qs) := by
  refine ⟨by rw [List.length_append, List.length_append, h.len, g.len], fun i k p e1 e2 => ?_⟩
  by_cases c : i < ks.length
  · rw [List.getElem?_append_left c] at e1
    rw [List.getElem?_append_left (by rw [← h.len]; exact c)] at e2
    exact h.at_ i k p e1 e2
  · rw [List.getElem?_append_right (by omega)] at e1
    rw [List.getElem?_append_right (by rw [← h.len]; omega), ← h.len] at e2
    exact g.at_ _ k p e1 e2
def spEqR (K : PySem.W.Frag) (CR fI fL : Addr) : Sp := fun vs H Q _ => ∃ (a b : Addr) (ps : List Pk), vs = [.ref a, .ref b] ∧ AnyRule K CR fI fL H a ps ∧ AnyRule K CR fI fL H b ps ∧ (∀ p ∈ ps, PyData.strOk p.1 = true) ∧ Q (.bl true) H
def spPair0 (K : PySem.W.Frag) : Sp := fun vs H Q _ => ∃ (a C dx : Addr) (x y : V), vs = [.ref a, x, y] ∧ H a = some (.ins C dx []) ∧ Cls K C ∧ NoAttr K C "_first" ∧ NoAttr K C "_second" ∧ ∀ fs, fs.length ≤ 2 → Q .non (upd H a (.ins C dx fs))
def spElse0 (K : PySem.W.Frag) (CR fI fL C : Addr) : Sp := fun vs H Q _ => ∃ (z a b dx : Addr) (ps qs : List Pk), vs = [.ref z, .ref a, .ref b] ∧ H z = some (.ins C dx []) ∧ z ≠ a ∧ z ≠ b ∧ AnyRule K CR fI fL H a ps ∧ AnyRule K CR fI fL H b qs ∧ ps.length + qs.length ≤ 12 ∧
  ∀ H', But z H H' → RuleAt C H' z (oneForm (ps ++ qs)) → Q .non H'
def spOr (K : PySem.W.Frag) (CR fI fL C : Addr) : Sp := fun vs H Q _ => ∃ (a b : Addr) (ps qs : List Pk), vs = [.ref a, .ref b] ∧ AnyRule K CR fI fL H a ps ∧ AnyRule K CR fI fL H b qs ∧ ps.length + qs.length ≤ 12 ∧
  ∀ z H', H z = none → Same H H' → RuleAt C H' z (oneForm (ps ++ qs)) → Q (.ref z) H'
section
variable {P : Program} {w : World} {K : PySem.W.Frag} {mg : Str → Option Value} {base : Heap}
theorem scRI : FnScope ["self"] ["self"] (defScope sRIter) := ⟨rfl, rfl, rfl, by decide +kernel, rfl, by decide +kernel, by decide +kernel⟩
theorem ok_riter {f : Addr} {fd : FuncData} (F : Fun K "__iter__" "Rule.__iter__" sRIter f fd) (n_iter : mg "iter" = none) (C : Addr) (c : OwR.OwnIt K C f "_picks") : OwR.FnSR P w K mg base CX0 1 f (OwR.spIt C K "_picks") := by
  have b : Binds K fd ["self"] [] := F.binds fun _ _ _ _ _ _ us hl => match us, hl with | [_], _ => rfl
  obtain ⟨oc, od, kV, doc, pm, an, cdv, ct, osl, rfl, lk, hcd⟩ := F.ex
  have len : ∀ (s : Shared) (vs : List V) (H : Hp) (Q : VK) (E : XK), OwR.spIt C K "_picks" s vs H Q E → vs.length = ([("self" : Str)]).length := fun s vs H Q E h => by
    obtain ⟨a, dx, l, fs, zs, rfl, _⟩ := h
    rfl
  refine OwR.FnS.raw (OwR.fn_ofS (k := 0) (sp := OwR.spIt C K "_picks") lk hcd scRI len fun A outer s H vs Q E hr h => ?_) len b
  obtain ⟨a, dx, l, fs, zs, rfl, ha, hf, sq, q⟩ := h
  refine ⟨_, (pss_one (ps_ret (pe_callB OwR.call_iterTN (by rfl) n_iter (by decide +kernel) (pa_cons (pe_fld (pv 0) rfl) pa_nil)))), ?_⟩
  exact ⟨_, rfl, a, C, dx, fs, .ref l, rfl, ha, c.cls, c.na, hf, l, zs, rfl, sq, q⟩
theorem scRL : FnScope ["self"] ["self"] (defScope sRLen) := ⟨rfl, rfl, rfl, by decide +kernel, rfl, by decide +kernel, by decide +kernel⟩
theorem ok_rlen {f fI : Addr} {fd : FuncData} (F : Fun K "__len__" "Rule.__len__" sRLen f fd) (T : Nm2 mg) (C : Addr) (c : OwR.OwnIt K C fI "_picks") : FnR P w K mg base CX0 1 f (OwR.spLn C K "_picks") := by
  refine OwR.raw0 (F.ok (k := 0) (ps := ["self"]) scRL (fun vs H Q E h => ?_) (fun cdv A outer s H vs Q E hr h => ?_)) (F.binds fun _ _ _ _ _ _ us hl => match us, hl with | [_], _ => rfl)
  · obtain ⟨a, dx, l, fs, zs, rfl, _⟩ := h
    rfl
  · obtain ⟨a, dx, l, fs, zs, rfl, ha, hf, sq, q⟩ := h
    refine ⟨_, (pss_one (ps_ret (pe_callB call_len_seq (by rfl) T.n_len boot_len (pa_cons (pe_fld (pv 0) rfl) pa_nil)))), ?_⟩
    exact ⟨_, rfl, a, C, dx, fs, .ref l, rfl, ha, c.cls, c.na, hf, l, zs, rfl, .inr sq, q⟩
theorem scRE : FnScope ["self", "other"] ["self", "other"] (defScope sREq) := ⟨rfl, rfl, rfl, by decide +kernel, rfl, by decide +kernel, by decide +kernel⟩
theorem ok_req {CR f fI fL : Addr} {fd : FuncData} (F : Fun K "__eq__" "Rule.__eq__" sREq f fd) (T : Nm2 mg) (gR : mg "Rule" = some (.ref CR)) : FnR P w K mg base CX0 1 f (spEqR K CR fI fL) := by
  refine OwR.raw0 (F.ok (k := 0) (ps := ["self", "other"]) scRE (fun vs H Q E h => ?_) (fun cdv A outer s H vs Q E hr h => ?_)) (F.binds fun _ _ _ _ _ _ us hl => match us, hl with | [_, _], _ => rfl)
  · obtain ⟨a, b, ps, rfl, _⟩ := h
    rfl
  · obtain ⟨a, b, ps, rfl, ⟨C, k1, dx, fs, p, ks, ea, lk, ep, pk⟩, ⟨D, k2, dy, gs, p2, ks2, eb, lk2, ep2, pk2⟩, ok, q⟩ := h
    refine ⟨_, (pss_one (ps_ret (pe_and (pe_callB call_isi (by rfl) T.n_isinstance (by decide +kernel) (pa_cons (pv 1) (pa_cons (pe_glob (v := .ref CR) rfl gR rfl) pa_nil))) (pe_one (pe_cmpR (op_eqD hr.units) (pe_fld (pv 0) rfl) (pe_fld (pv 1) rfl) (nomark _)))))), ?_⟩
    refine ⟨_, rfl, .ref b, .ref CR, _, _, true, rfl, .own _, k2.ty eb, k2.sub, true, rfl, ?_⟩
    refine iteT ?_
    refine ⟨_, rfl, a, C, dx, fs, .ref p, rfl, ea, k1.rc.cls, k1.rc.n1, lk, _, rfl, b, D, dy, gs, .ref p2, rfl, eb, k2.rc.cls, k2.rc.n1, lk2, ?_⟩
    refine ⟨_, _, .tup (SqT.of ep) pk.dp, .tup (SqT.of ep2) pk2.dp, pk_shaped ok, pk_shaped ok, ?_⟩
    rw [pk_eqv ok]
    exact q
theorem scP0 : FnScope ["self", "first", "second"] ["self", "first", "second"] (defScope sPair0) := ⟨rfl, rfl, rfl, by decide +kernel, rfl, by decide +kernel, by decide +kernel⟩
theorem ok_pair0 {f : Addr} {fd : FuncData} (F : Fun K "__init__" "Pair.__init__" sPair0 f fd) : FnR P w K mg base CX0 1 f (spPair0 K) := by
  refine OwR.raw0 (F.ok (k := 0) (ps := ["self", "first", "second"]) scP0 (fun vs H Q E h => ?_) (fun cdv A outer s H vs Q E hr h => ?_)) (F.binds fun _ _ _ _ _ _ us hl => match us, hl with | [_, _, _], _ => rfl)
  · obtain ⟨a, C, dx, x, y, rfl, _⟩ := h
    rfl
  · obtain ⟨a, C, dx, x, y, rfl, ha, c, n1, n2, q⟩ := h
    refine ⟨_, (pss_cons (ps_fld (pv 0) (pv 1) rfl)
    (pss_one (ps_fld (pv 0) (pv 2) rfl))), ?_⟩
    refine ⟨_, rfl, _, rfl, a, C, dx, [], rfl, ha, c, n1, by decide, ?_⟩
    refine ⟨_, rfl, _, rfl, a, C, dx, _, rfl, upd_same, c, n2, by show (1:Nat) < 1000; decide, ?_⟩
    rw [upd_upd]
    exact q _ (by show (2:Nat) ≤ 2; decide)
theorem scE0 : FnScope ["self", "one", "other"] ["self", "one", "other"] (defScope sElse0) := ⟨rfl, rfl, rfl, by decide +kernel, rfl, by decide +kernel, by decide +kernel⟩
theorem ok_else0 {CE CR CP f fR fF fP fI fL : Addr} {mR mP : Value} {fd fdR fdF fdP fdI fdL : FuncData} (hc : RuleC K CE) (n1 : NoAttr K CE "_first") (n2 : NoAttr K CE "_second") (F : Fun K "__init__" "Else.__init__" sElse0 f fd) (c : Chk P w K mg base) (n_list : mg "list" = none) (n_iter : mg "iter" = none) (n_zip : mg "zip" = none)
    (FR : Fun K "__init__" "Rule.__init__" sRule0 fR fdR) (FF : Fun K "one_form" "one_form" sForm fF fdF) (gF : mg "one_form" = some (.ref fF)) (FP : Fun K "__init__" "Pair.__init__" sPair0 fP fdP) (FI : Fun K "__iter__" "Rule.__iter__" sRIter fI fdI) (FL : Fun K "__len__" "Rule.__len__" sRLen fL fdL)
    (gR : mg "Rule" = some (.ref CR)) (rR : ClX.CRead K CR mR) (cR : OwR.CFun K CR mR "__init__" fR) (gP : mg "Pair" = some (.ref CP)) (rP : ClX.CRead K CP mP) (cP : OwR.CFun K CP mP "__init__" fP) : FnOk P w K mg base CX0 5 f fd ["self", "one", "other"] (spElse0 K CR fI fL CE) := by
  have GP : FnR P w K mg base CX0 1 fP (spPair0 K) := ok_pair0 FP
  have GR : FnR P w K mg base CX0 2 fR (spRule0 K CE) := OwR.raw0 (ok_R0 hc FR c FF gF n_zip) (FR.binds fun _ _ _ _ _ _ us hl => match us, hl with | [_, _], _ => rfl)
  have FIt : ∀ C, OwR.OwnIt K C fI "_picks" → OwR.FnSR P w K mg base CX0 1 fI (OwR.spIt C K "_picks") := fun C o => ok_riter FI n_iter C o
  have FLn : ∀ C, OwR.Len1 K C fL → OwR.OwnIt K C fI "_picks" → FnR P w K mg base CX0 1 fL (OwR.spLn C K "_picks") := fun C _ o => ok_rlen FL c.T C o
  refine F.ok scE0 (fun vs H Q E h => ?_) (fun cdv A outer s H vs Q E hr h => ?_)
  · obtain ⟨z, a, b, dx, ps, qs, rfl, _⟩ := h
    rfl
  · obtain ⟨z, a, b, dx, ps, qs, rfl, hz, na, nb, hA, hB, hl, q⟩ := h
    have hr1 : Room 1 _ := hr.mono (by decide)
    have hr2 : Room 2 _ := hr.mono (by decide)
    have hr4 : Room (1 + 3) _ := hr
    refine ⟨_, (pss_cons (ps_if (PW.pt (pw_or (pt_not (pt_val (pe_callB call_isi (by rfl) c.T.n_isinstance (by decide +kernel) (pa_cons (pv 1) (pa_cons (pe_glob (v := .ref CR) rfl gR rfl) pa_nil))))) (pw_or1 (pt_not (pt_val (pe_callB call_isi (by rfl) c.T.n_isinstance (by decide +kernel) (pa_cons (pv 2) (pa_cons (pe_glob (v := .ref CR) rfl gR rfl) pa_nil)))))))) (pss_one ps_never) pss_nil)
    (pss_cons (ps_expr (OwR.pe_cfun (pe_glob (v := .ref CP) rfl gP rfl) rP cP GP hr1 pass0 (pa_cons (pv 0) (pa_cons (pv 1) (pa_cons (pv 2) pa_nil)))))
    (pss_one (ps_expr (OwR.pe_cfun (pe_glob (v := .ref CR) rfl gR rfl) rR cR GR hr2 pass0 (pa_cons (pv 0) (pa_cons (pe_op op_cat (pe_callTy (OwR.call_listO FIt FLn rfl hr4) (by rfl) n_list (by decide +kernel) (pa_cons (pv 1) pa_nil)) (pe_callTy (OwR.call_listO FIt FLn rfl hr4) (by rfl) n_list (by decide +kernel) (pa_cons (pv 2) pa_nil))) pa_nil))))))), ?_⟩
    obtain ⟨C, k1, dxa, fsa, pa, ksa, ea, lka, epa, pka⟩ := hA
    obtain ⟨D, k2, dxb, fsb, pb, ksb, eb, lkb, epb, pkb⟩ := hB
    refine ⟨_, rfl, .ref a, .ref CR, _, _, true, rfl, .own _, k1.ty ea, k1.sub, true, rfl, ?_⟩
    refine iteF ?_
    refine ⟨_, rfl, .ref b, .ref CR, _, _, true, rfl, .own _, k2.ty eb, k2.sub, true, rfl, ?_⟩
    refine iteF ?_
    refine ⟨rfl, _, rfl, _, rfl, _, rfl, z, CE, dx, .ref a, .ref b, rfl, hz, hc.cls, n1, n2, fun fs2 l2 => ?_⟩
    have b1 : But z H (upd H z (.ins CE dx fs2)) := But.at
    have notz : ∀ {y : Addr} {xs : List V}, H y = some (.tup xs) → y ≠ z := fun {y xs} e w => by
      rw [w, hz] at e
      cases e
    have ea1 := b1 a _ (Ne.symm na) ea
    have eb1 := b1 b _ (Ne.symm nb) eb
    have epa1 := b1 pa _ (notz epa) epa
    have epb1 := b1 pb _ (notz epb) epb
    have ez1 : upd H z (.ins CE dx fs2) z = some (.ins CE dx fs2) := upd_same
    have pka1 : PicksAt (upd H z (.ins CE dx fs2)) ksa ps := pka.mono fun k xs e => b1 k _ (notz e) e
    have pkb1 : PicksAt (upd H z (.ins CE dx fs2)) ksb qs := pkb.mono fun k xs e => b1 k _ (notz e) e
    generalize upd H z (.ins CE dx fs2) = H1 at *
    have sz := sizeLine_eq
    refine ⟨rfl, _, rfl, _, rfl, a, C, dxa, pa, fsa, ksa.map V.ref, rfl, ea1, k1.it, k1.ln, lka, SqT.of epa1, fun y1 h1 => ?_⟩
    have s1 := Same.of_new (o := .lst (ksa.map V.ref)) h1
    refine ⟨_, rfl, b, D, dxb, pb, fsb, ksb.map V.ref, rfl, s1 b _ eb1, k2.it, k2.ln, lkb, SqT.of (s1 pb _ epb1), fun y2 h2 => ?_⟩
    have s2 := Same.of_new (o := .lst (ksb.map V.ref)) h2
    refine ⟨y1, y2, _, _, rfl, rfl, s2 y1 _ upd_same, upd_same, by rw [List.length_map, List.length_map, pka.len, pkb.len]; omega, fun y3 h3 => ?_⟩
    have s3 := Same.of_new (o := .lst (ksa.map V.ref ++ ksb.map V.ref)) h3
    have s4 := (s1.trans s2).trans s3
    refine ⟨z, y3, dx, fs2, ksa ++ ksb, ps ++ qs, rfl, s4 z _ ez1, by omega, by rw [List.map_append]; exact SqL.of upd_same, (pka1.same s4).append (pkb1.same s4), by rw [List.length_append]; exact hl, fun H' sb r => ?_⟩
    exact q H' ((b1.trans (Same.but z s4)).trans sb) r
theorem scOr : FnScope ["self", "other"] ["self", "other"] (defScope sROr) := ⟨rfl, rfl, rfl, by decide +kernel, rfl, by decide +kernel, by decide +kernel⟩
theorem ok_or {CE CR f fE fI fL : Addr} {fd : FuncData} (F : Fun K "__or__" "Rule.__or__" sROr f fd) (ME : Mk K CE fE) (gE : mg "Else" = some (.ref CE)) (GE : FnR P w K mg base CX0 5 fE (spElse0 K CR fI fL CE)) : FnR P w K mg base CX0 7 f (spOr K CR fI fL CE) := by
  refine OwR.raw0 (F.ok (k := 6) (ps := ["self", "other"]) scOr (fun vs H Q E h => ?_) (fun cdv A outer s H vs Q E hr h => ?_)) (F.binds fun _ _ _ _ _ _ us hl => match us, hl with | [_, _], _ => rfl)
  · obtain ⟨a, b, ps, qs, rfl, _⟩ := h
    rfl
  · obtain ⟨a, b, ps, qs, rfl, hA, hB, hl, q⟩ := h
    refine ⟨_, (pss_one (ps_ret (StX.pe_makeR ME GE hr (by rfl) gE pass0 (pa_cons (pv 0) (pa_cons (pv 1) pa_nil))))), ?_⟩
    refine ⟨_, rfl, _, rfl, fun z dz h1 h2 nd => ?_⟩
    have s0 : Same H (upd (upd H dz (.own z)) z (.ins CE dz [])) := fun b o e => by
      rw [upd_ne (ne_of_none e h1), upd_ne (ne_of_none e h2)]
      exact e
    refine ⟨z, a, b, dz, ps, qs, rfl, upd_same, fun e => ?_, fun e => ?_, hA.same s0, hB.same s0, hl, fun H' sb r => ⟨rfl, q z H' h1 (made_same h1 h2 sb) r⟩⟩
    · obtain ⟨C, _, dx, fs, p, ks, ea, _⟩ := hA
      rw [← e, h1] at ea
      cases ea
    · obtain ⟨C, _, dx, fs, p, ks, ea, _⟩ := hB
      rw [← e, h1] at ea
      cases ea
end
end K10
end
section
namespace OwR
open PySem PySem.Spec PyProof.Rows L2
section
variable {X : Cx} {CX : CXT} {k : Nat} {C f : Addr} {sp : Sp} {E : XK} {x : Str} {e : Expr} {te : TE} {pos q1 q2 : Pos}
/-- C(*xs), C by the module's name -/
def tMakeGS (K : PySem.W.Frag) (C : Addr) (sp : Sp) (E : XK) (te : TE) : TE := fun σ H Q => te σ H fun y H1 => ∃ a xs, y = V.ref a ∧ (SqT K H1 a xs ∨ SqL K H1 a xs) ∧
  ∀ z dz, H1 z = none → H1 dz = none → dz ≠ z → sp (V.ref z :: xs) (upd (upd H1 dz (.own z)) z (.ins C dz [])) (fun v H2 => v = .non ∧ Q (.ref z) H2) E
theorem pe_makeGS (M : Mk X.K C f) (F : FnR X.prog X.w X.K X.mg X.base CX k f sp) (hr : Room (k + 1) X.A) (hg : Gl X x) (hm : X.mg x = some (.ref C)) (hx : Passes CX X E) (he : PE X e te) (hdb : (x == ("__debug__" : Str)) = false := by decide)
    (hst : starEach [.Starred e q1] X.env = [(true, eval e X.env)] := by rfl) : PE X (.Call (.Name x q2) [.Starred e q1] [] pos) (tMakeGS X.K C sp E te) := by
  refine ⟨fun pins s σ H Q I h => ?_⟩
  refine wpAny_Call_Name_kw (ld_glob I hg hm ?_ hdb)
  refine PySem.W.callWith_S (h₀ := X.base) (first := []) I.ok.mod.kin M.kp (thn (he.run pins s σ _ _ I h) fun v s2 ⟨y, H2, I2, ry, a, xs, ey, hxs, q⟩ => ?_) hst
  subst ey
  obtain rfl : v = Value.ref a := ry
  exact StX.star_any I2 hxs fun us s3 I3 rv => ⟨I3.kIn, StX.run_makeR M F hr hx I3 rv q⟩
end
end OwR
namespace K10
open PySem PySem.Spec PyProof.Rows L2
abbrev sRAdd : Stmt := mth 29 10
abbrev sRSub : Stmt := mth 29 11
def plus (k : Int) (ps : List Pk) : List Pk := ps.map fun p => (p.1, p.2 + k)
def spAdd (K : PySem.W.Frag) (CR fI fL C : Addr) : Sp := fun vs H Q _ => ∃ (a : Addr) (k : Int) (ps : List Pk), vs = [.ref a, .int k] ∧ 0 ≤ k ∧ k ≤ 9 ∧ AnyRule K CR fI fL H a ps ∧ (∀ p ∈ plus k ps, Good p) ∧ ps.length ≤ 12 ∧
  ∀ z H', H z = none → Same H H' → RuleAt C H' z (oneForm (plus k ps)) → Q (.ref z) H'
def spSub (K : PySem.W.Frag) (CR fI fL C : Addr) : Sp := fun vs H Q _ => ∃ (a : Addr) (b : Str) (ps : List Pk), vs = [.ref a, .str b] ∧ nameB b = true ∧ b.length ≤ 1000 ∧ AnyRule K CR fI fL H a ps ∧ (∀ p ∈ ps, Good p) ∧ ps.length ≤ 12 ∧
  ∀ z H', H z = none → Same H H' → RuleAt C H' z (oneForm (ps.filter fun p => !decide (p.1 = b))) → Q (.ref z) H'
theorem plus_get {k : Int} {ps : List Pk} {i : Nat} {p : Pk} (h : ps[i]? = some p) : (plus k ps).take (i + 1) = (plus k ps).take i ++ [(p.1, p.2 + k)] := by
  unfold plus
  rw [List.take_add_one, List.getElem?_map, h]
  rfl
section
variable {P : Program} {w : World} {K : PySem.W.Frag} {mg : Str → Option Value} {base : Heap}
abbrev nRA : List Str := ["self", "other", "picks", "bay", "keep"]
theorem scRA : FnScope nRA ["self", "other"] (defScope sRAdd) := ⟨rfl, rfl, rfl, by decide +kernel, rfl, by decide +kernel, by decide +kernel⟩
theorem ok_radd {CF CR f fF fI fL : Addr} {fd : FuncData} (F : Fun K "__add__" "Rule.__add__" sRAdd f fd) (c : Chk P w K mg base) (n_any : mg "any" = none) (MF : Mk K CF fF) (gF : mg "First" = some (.ref CF)) (GF : FnR P w K mg base CX0 3 fF (spFirst CF)) : FnR P w K mg base CX0 5 f (spAdd K CR fI fL CF) := by
  obtain ⟨fI2, fdI, gI, kI, bI, GI⟩ := c.within
  refine OwR.raw0 (F.ok (k := 4) (ps := ["self", "other"]) scRA (fun vs H Q E h => ?_) (fun cdv A outer s H vs Q E hr h => ?_)) (F.binds fun _ _ _ _ _ _ us hl => match us, hl with | [_, _], _ => rfl)
  · obtain ⟨a, k, ps, rfl, _⟩ := h
    rfl
  · obtain ⟨a, k, ps, rfl, k0, k9, ⟨C, kd, dx, fs, p, ks, ea, lk, ep, pk⟩, good, hl, q⟩ := h
    have hr1 : Room 1 _ := hr.mono (by decide)
    refine ⟨_, (pss_cons (ps_if (pt_not (pt_val (pe_call GI hr1 (by rfl) gI kI bI .nil pass0 (pa_cons (pv 1) (pa_cons pe_int (pa_cons pe_int pa_nil)))))) (pss_one ps_never) pss_nil)
    (pss_cons (ps_setLc (i := 2) (own := [("bay", 3), ("keep", 4)]) (g := (gTup K 2 (gCons (gName 3) (gCons (gName 4) gNil)))) (by rfl) scRA.nd rfl rfl (sw_true rfl rfl rfl (by decide +kernel)) (pi_tup (pe_fld (pv 0) rfl)) (blkOk_by (own := [("bay", 3), ("keep", 4)]) (N := nRA) (sc := defScope sRAdd) (by decide +kernel)) (fun _ _ _ _ _ => (pg_tup rfl (pgs_cons (pg_name (i := 3) scRA.nd rfl (Or.inl rfl)) (pgs_cons (pg_name (i := 4) scRA.nd rfl (Or.inl rfl)) pgs_nil)))) (fun _ _ _ _ _ => pts_nil) (fun _ _ _ _ _ => (pe_tup (pa_cons (pv 3) (pa_cons (pe_op op_add (pv 4) (pv 1)) pa_nil)))))
    (pss_cons (ps_if (pt_val (pe_callB (cr_any rfl) (by rfl) n_any (by decide +kernel) (pa_cons (pe_lc (own := [("bay", 3), ("keep", 4)]) (g := (gTup K 2 (gCons (gName 3) (gCons (gName 4) gNil)))) (by rfl) scRA.nd (pi_list (pv 2)) (blkOk_by (own := [("bay", 3), ("keep", 4)]) (N := nRA) (sc := defScope sRAdd) (by decide +kernel)) (fun _ _ _ _ _ => (pg_tup rfl (pgs_cons (pg_name (i := 3) scRA.nd rfl (Or.inl rfl)) (pgs_cons (pg_name (i := 4) scRA.nd rfl (Or.inl rfl)) pgs_nil)))) (fun _ _ _ _ _ => pts_nil) (fun _ _ _ _ _ => (pe_cmpR op_gt (pv 4) pe_int (nomark _)))) pa_nil))) (pss_one ps_never) pss_nil)
    (pss_one (ps_ret (OwR.pe_makeGS MF GF hr (by rfl) gF pass0 (pv 2))))))), ?_⟩
    refine ⟨_, rfl, k, 0, 9, rfl, _, rfl, ?_⟩
    rw [decide_eq_true k0, decide_eq_true k9]
    refine iteF ?_
    have sz := sizeLine_eq
    refine ⟨_, rfl, a, C, dx, fs, .ref p, rfl, ea, kd.rc.cls, kd.rc.n1, lk, p, rfl, ⟨_, SqT.of ep⟩, fun D hD => ?_⟩
    refine lc_it (walk_tup (xs := ks.map V.ref)) (fun i Hx => Same H Hx ∧ ∃ kk : List Addr, Hx D = some (.lst (kk.map V.ref)) ∧ kk.length ≤ i ∧ PicksAt Hx kk ((plus k ps).take i)) ⟨Same.of_new hD, [], upd_same, Nat.le_refl 0, PicksAt.nil⟩ (fun i Hx _ q => SqT.of (q.1 p _ ep)) (fun i x Hx Hy hi q0 y => ?_) (fun Hx q0 => ?_)
    · obtain ⟨s1, kk, eD, lkk, pkk⟩ := q0
      obtain ⟨rfl, hx⟩ := y
      obtain ⟨k1, p1, rfl, hk, hpi, tk⟩ := (pk.same s1).get hx
      have hi2 : i < ps.length := (List.getElem?_eq_some_iff.mp hpi).1
      refine ⟨k1, _, rfl, .inl (.inl tk), rfl, _, _, rfl, _, _, rfl, rfl, rfl, ?_⟩
      refine ⟨_, rfl, _, rfl, _, rfl, _, _, rfl, rfl, by show (2 : Nat) ≤ sizeLine; omega, fun T hT => ?_⟩
      have eD2 := upd_keep2 (o := .tup [.str p1.1, .int (p1.2 + k)]) eD hT
      refine ⟨_, eD2, by rw [List.length_map]; omega, fun b o e => ?_, kk ++ [T], ?_, ?_, ?_⟩
      · rw [upd_ne (ne_of_none e hD)]
        exact upd_keep2 (s1 b o e) hT
      · rw [List.map_append]
        exact upd_same
      · rw [List.length_append]
        show kk.length + 1 ≤ i + 1
        omega
      · rw [plus_get hpi]
        have g1 : PicksAt (upd Hy T (.tup [.str p1.1, .int (p1.2 + k)])) kk ((plus k ps).take i) := pkk.same (Same.of_new hT)
        have g2 := g1.snoc (k := T) (p := (p1.1, p1.2 + k)) upd_same
        exact g2.upd fun xs e => by
          rw [eD2] at e
          cases e
    obtain ⟨s1, kk, eD, lkk, pkk⟩ := q0
    have lp : (plus k ps).length = ps.length := List.length_map _
    rw [List.take_of_length_le (by rw [List.length_map, pk.len, lp]; exact Nat.le_refl _)] at pkk
    rw [List.length_map, pk.len] at lkk
    refine ⟨_, rfl, D, rfl, ⟨_, SqL.of eD⟩, fun B hB => ?_⟩
    refine lc_it (walk_list (xs := kk.map V.ref)) (fun i Hx => Same Hx Hx ∧ Same H Hx ∧ Hx D = some (.lst (kk.map V.ref)) ∧ PicksAt Hx kk (plus k ps) ∧ ∃ bs : List Bool, Hx B = some (.lst (bs.map V.bl)) ∧ bs.length ≤ i ∧ ∀ b ∈ bs, b = false) ⟨Same.refl _, s1.trans (Same.of_new hB), upd_keep2 eD hB, pkk.same (Same.of_new hB), [], upd_same, Nat.le_refl 0, fun b h => by cases h⟩ (fun i Hx _ q => SqL.of q.2.2.1) (fun i x Hx2 Hy hi q0 y => ?_) (fun Hx2 q0 => ?_)
    · obtain ⟨_, s2, eD2, pk2, bs, eB, lb, hb⟩ := q0
      obtain ⟨rfl, hx⟩ := y
      obtain ⟨k1, p1, rfl, hk, hpi, tk⟩ := pk2.get hx
      have g := good p1 (List.mem_of_getElem? hpi)
      have nBD : D ≠ B := fun z => by
        rw [z] at eD2
        rw [z] at eD
        rw [eD] at hB
        cases hB
      refine ⟨k1, _, rfl, .inl (.inl tk), rfl, _, _, rfl, _, _, rfl, rfl, rfl, ?_⟩
      refine ⟨_, rfl, _, _, rfl, rfl, _, eB, by rw [List.length_map] at *; omega, Same.refl _, fun b o e => ?_, by rw [upd_ne nBD]; exact eD2, pk2.upd (fun xs e => by rw [eB] at e; cases e), bs ++ [decide (9 < p1.2)], ?_, ?_, fun b m => ?_⟩
      · have : b ≠ B := fun z => by
          have e2 := s1 b o e
          rw [z, hB] at e2
          cases e2
        rw [upd_ne this]
        exact s2 b o e
      · rw [List.map_append]
        exact upd_same
      · rw [List.length_append]
        show bs.length + 1 ≤ i + 1
        omega
      · rcases List.mem_append.mp m with m | m
        · exact hb b m
        · rw [List.mem_singleton.mp m]
          exact decide_eq_false (by have := g.2.2.2; omega)
    obtain ⟨_, s2, eD2, pk2, bs, eB, lb, hb⟩ := q0
    refine ⟨B, bs, rfl, SqL.of eB, _, rfl, ?_⟩
    rw [show bs.any id = false from List.any_eq_false.mpr fun b m => by rw [hb b m]; exact Bool.false_ne_true]
    refine iteF ?_
    refine ⟨_, rfl, D, kk.map V.ref, rfl, .inr (SqL.of eD2), fun z dz h1 h2 nd => ⟨z, dz, kk.map V.ref, plus k ps, rfl, upd_same, ?_, by rw [lp]; exact hl, good, fun H' sb r => ⟨rfl, q z H' (s2.free h1) (s2.trans (made_same h1 h2 sb)) r⟩⟩⟩
    refine PicksAt.vals (pk2.mono fun k xs e => ?_)
    · rw [upd_ne (ne_of_none e h1), upd_ne (ne_of_none e h2)]
      exact e
abbrev nRS : List Str := ["self", "other", "picks", "bay", "keep"]
theorem scRS : FnScope nRS ["self", "other"] (defScope sRSub) := ⟨rfl, rfl, rfl, by decide +kernel, rfl, by decide +kernel, by decide +kernel⟩
theorem ok_rsub {CF CR f fF fI fL : Addr} {fd : FuncData} (F : Fun K "__sub__" "Rule.__sub__" sRSub f fd) (c : Chk P w K mg base) (MF : Mk K CF fF) (gF : mg "First" = some (.ref CF)) (GF : FnR P w K mg base CX0 3 fF (spFirst CF)) : FnR P w K mg base CX0 5 f (spSub K CR fI fL CF) := by
  obtain ⟨fM, fdM, gM, kM, bM, GM⟩ := c.name
  refine OwR.raw0 (F.ok (k := 4) (ps := ["self", "other"]) scRS (fun vs H Q E h => ?_) (fun cdv A outer s H vs Q E hr h => ?_)) (F.binds fun _ _ _ _ _ _ us hl => match us, hl with | [_, _], _ => rfl)
  · obtain ⟨a, b, ps, rfl, _⟩ := h
    rfl
  · obtain ⟨a, b, ps, rfl, hb1, hb2, ⟨C, kd, dx, fs, p, ks, ea, lk, ep, pk⟩, good, hl, q⟩ := h
    have hr1 : Room 1 _ := hr.mono (by decide)
    refine ⟨_, (pss_cons (ps_if (pt_not (pt_val (pe_call GM hr1 (by rfl) gM kM bM .nil pass0 (pa_cons (pv 1) pa_nil)))) (pss_one ps_never) pss_nil)
    (pss_cons (ps_setLc (i := 2) (own := [("bay", 3), ("keep", 4)]) (g := (gTup K 2 (gCons (gName 3) (gCons (gName 4) gNil)))) (by rfl) scRS.nd rfl rfl (sw_true rfl rfl rfl (by decide +kernel)) (pi_tup (pe_fld (pv 0) rfl)) (blkOk_by (own := [("bay", 3), ("keep", 4)]) (N := nRS) (sc := defScope sRSub) (by decide +kernel)) (fun _ _ _ _ _ => (pg_tup rfl (pgs_cons (pg_name (i := 3) scRS.nd rfl (Or.inl rfl)) (pgs_cons (pg_name (i := 4) scRS.nd rfl (Or.inl rfl)) pgs_nil)))) (fun _ _ _ _ _ => pts_one (pt_cmpR op_ne (pv 3) (pv 1) (nomark _))) (fun _ _ _ _ _ => (pe_tup (pa_cons (pv 3) (pa_cons (pv 4) pa_nil)))))
    (pss_one (ps_ret (OwR.pe_makeGS MF GF hr (by rfl) gF pass0 (pv 2)))))), ?_⟩
    refine ⟨_, rfl, b, rfl, hb2, fun H1 s1 => ⟨_, rfl, ?_⟩⟩
    rw [hb1]
    refine iteF ?_
    have sz := sizeLine_eq
    have pk1 := pk.same s1
    refine ⟨_, rfl, a, C, dx, fs, .ref p, rfl, s1 a _ ea, kd.rc.cls, kd.rc.n1, lk, p, rfl, ⟨_, SqT.of (s1 p _ ep)⟩, fun D hD => ?_⟩
    refine lc_it (walk_tup (xs := ks.map V.ref)) (fun i Hx => Same H1 Hx ∧ ∃ kk : List Addr, Hx D = some (.lst (kk.map V.ref)) ∧ kk.length ≤ i ∧ PicksAt Hx kk ((ps.take i).filter fun p => !decide (p.1 = b))) ⟨Same.of_new hD, [], upd_same, Nat.le_refl 0, PicksAt.nil⟩ (fun i Hx _ q => SqT.of (q.1 p _ (s1 p _ ep))) (fun i x Hx Hy hi q0 y => ?_) (fun Hx q0 => ?_)
    · obtain ⟨s2, kk, eD, lkk, pkk⟩ := q0
      obtain ⟨rfl, hx⟩ := y
      obtain ⟨k1, p1, rfl, hk, hpi, tk⟩ := (pk1.same s2).get hx
      have hi2 : i < ps.length := (List.getElem?_eq_some_iff.mp hpi).1
      have e5 : (ps.take (i + 1)).filter (fun p => !decide (p.1 = b)) = (ps.take i).filter (fun p => !decide (p.1 = b)) ++ (if p1.1 = b then [] else [p1]) := by
        rw [List.take_add_one, hpi, List.filter_append]
        congr 1
        show [p1].filter _ = _
        by_cases c : p1.1 = b
        · rw [if_pos c]
          simp [c]
        · rw [if_neg c]
          simp [c]
      refine ⟨k1, _, rfl, .inl (.inl tk), rfl, _, _, rfl, _, _, rfl, rfl, rfl, ?_⟩
      refine ⟨_, rfl, _, rfl, rfl, _, rfl, ?_⟩
      have ed : decide (V.str p1.1 = V.str b) = decide (p1.1 = b) := by
        by_cases c : p1.1 = b
        · rw [c, decide_eq_true rfl, decide_eq_true rfl]
        · rw [decide_eq_false c, decide_eq_false fun q => c (V.str.inj q)]
      rw [ed]
      by_cases c : p1.1 = b
      · rw [decide_eq_true c]
        refine iteF ?_
        refine ⟨s2, kk, eD, by omega, ?_⟩
        rw [e5, if_pos c, List.append_nil]
        exact pkk
      · rw [decide_eq_false c]
        refine iteT ?_
        refine ⟨_, rfl, _, rfl, by show (2 : Nat) ≤ sizeLine; omega, fun T hT => ?_⟩
        have eD2 := upd_keep2 (o := .tup [.str p1.1, .int p1.2]) eD hT
        refine ⟨_, eD2, by rw [List.length_map]; omega, fun y o e => ?_, kk ++ [T], ?_, ?_, ?_⟩
        · rw [upd_ne (ne_of_none e hD)]
          exact upd_keep2 (s2 y o e) hT
        · rw [List.map_append]
          exact upd_same
        · rw [List.length_append]
          show kk.length + 1 ≤ i + 1
          omega
        · rw [e5, if_neg c]
          have g1 : PicksAt (upd Hy T (.tup [.str p1.1, .int p1.2])) kk ((ps.take i).filter fun p => !decide (p.1 = b)) := pkk.same (Same.of_new hT)
          have g2 := g1.snoc (k := T) (p := p1) upd_same
          exact g2.upd fun xs e => by
            rw [eD2] at e
            cases e
    obtain ⟨s2, kk, eD, lkk, pkk⟩ := q0
    rw [List.take_of_length_le (by rw [List.length_map, pk.len]; exact Nat.le_refl _)] at pkk
    have lf : (ps.filter fun p => !decide (p.1 = b)).length ≤ 12 := Nat.le_trans (List.length_filter_le _ _) hl
    refine ⟨_, rfl, D, kk.map V.ref, rfl, .inr (SqL.of eD), fun z dz h1 h2 nd => ⟨z, dz, kk.map V.ref, _, rfl, upd_same, ?_, lf, fun y m => good y (List.mem_filter.mp m).1, fun H' sb r => ⟨rfl, q z H' ((s1.trans s2).free h1) ((s1.trans s2).trans (made_same h1 h2 sb)) r⟩⟩⟩
    refine PicksAt.vals (pkk.mono fun k xs e => ?_)
    · rw [upd_ne (ne_of_none e h1), upd_ne (ne_of_none e h2)]
      exact e
end
end K10
end
section
namespace OwR
open PySem PySem.Spec PyProof.Rows L2
/-- a walk, whatever is done at a turn -/
theorem any_it {J : It} {n : Nat} {G : Hp → Prop} {Y : Nat → Hp → V → Hp → Prop} (w : Walk J n G Y) {B : (Hp → Prop) → V → Hp → Prop} {H0 : Hp} {Qd : Hp → Prop} (Pv : Nat → Hp → Prop) (h0 : Pv 0 H0) (hG : ∀ i H, i ≤ n → Pv i H → G H)
    (turn : ∀ i x H H', i < n → Pv i H → Y i H x H' → B (Pv (i + 1)) x H') (fin : ∀ H, Pv n H → Qd H) :
    ∃ W : Nat → Nat → Hp → Prop, (∃ m, W 0 m H0) ∧ ∀ i m H, W i m H → (J.stop i H ∧ Qd H) ∨ (J.go i H ∧ ∃ Nx : Hp → Prop, (∀ H', Nx H' → ∃ m', m' < m ∧ W (i + 1) m' H') ∧ ∀ x H', J.yld i H x H' → B Nx x H') := by
  refine ⟨fun i m H => m = n - i ∧ i ≤ n ∧ Pv i H, ⟨n, by simp, Nat.zero_le _, h0⟩, fun i m H ⟨em, hi, p⟩ => ?_⟩
  subst em
  have q := hG i H hi p
  rcases Nat.lt_or_ge i n with lt | ge
  · exact .inr ⟨w.goes i H lt q, Pv (i + 1), fun H' p' => ⟨n - (i + 1), by omega, rfl, lt, p'⟩, fun x H' y => turn i x H H' lt p (w.yields i H x H' lt q y)⟩
  · obtain rfl : i = n := by omega
    exact .inl ⟨w.stops H q, fin H p⟩
end OwR
namespace K10
open PySem PySem.Spec PyProof.Rows L2
abbrev sEven0 : Stmt := mth 31 0
/-- the first i rounds of keeps, from the greatest on -/
def rounds (m : Int) (bs : List Str) (i : Nat) : List Pk := (List.range i).flatMap fun (j : Nat) => bs.map fun b => (b, m - 1 - (j : Int))
theorem rounds_succ (m : Int) (bs : List Str) (i : Nat) : rounds m bs (i + 1) = rounds m bs i ++ bs.map fun b => (b, m - 1 - (i : Int)) := by
  unfold rounds
  rw [List.range_succ, List.flatMap_append]
  simp
theorem rounds_len (m : Int) (bs : List Str) : ∀ i, (rounds m bs i).length = i * bs.length
  | 0 => by rw [Nat.zero_mul]; rfl
  | i + 1 => by rw [rounds_succ, List.length_append, rounds_len m bs i, List.length_map, Nat.succ_mul]
def spEven0 (K : PySem.W.Frag) (C : Addr) : Sp := fun vs H Q _ => ∃ (a t dx : Addr) (bs : List Str) (m : Int), vs = [.ref a, .int m, .ref t] ∧ H a = some (.ins C dx []) ∧ SqT K H t (bs.map V.str) ∧ bs.Nodup ∧ (∀ b ∈ bs, nameB b = true ∧ b.length ≤ 1000) ∧ 1 ≤ m ∧ m ≤ 9 ∧ bs.length ≤ 20 ∧ (rounds m bs m.toNat).length ≤ 12 ∧
  ∀ H', But a H H' → RuleAt C H' a (oneForm (rounds m bs m.toNat)) → Q .non H'
section
variable {P : Program} {w : World} {K : PySem.W.Frag} {mg : Str → Option Value} {base : Heap}
abbrev nEv : List Str := ["self", "most", "bays", "seen", "at", "bay", "keep"]
theorem scEv : FnScope nEv ([("self" : Str)] ++ [("most" : Str), ("bays" : Str)]) (defScope sEven0) := ⟨rfl, rfl, rfl, by decide +kernel, rfl, by decide +kernel, by decide +kernel⟩
theorem even_body {CE CR f fR fF : Addr} {cdv mR : Value} {fdR fdF : FuncData} (hc : RuleC K CE) (c : Chk P w K mg base) (n_range : mg "range" = none) (n_zip : mg "zip" = none) (n_enumerate : mg "enumerate" = none)
    (FR : Fun K "__init__" "Rule.__init__" sRule0 fR fdR) (FF : Fun K "one_form" "one_form" sForm fF fdF) (gF : mg "one_form" = some (.ref fF)) (gR : mg "Rule" = some (.ref CR)) (rR : ClX.CRead K CR mR) (cR : OwR.CFun K CR mR "__init__" fR)
    (A : Around) (outer : List Env) (s : Shared) (H : Hp) (vs : List V) (Q : VK) (E : XK) (hr : Room 2 (A.deeper (envOfC "Even.__init__" (defScope sEven0) s.heap.objs.size f cdv))) (h : spEven0 K CE vs H Q E) :
    ∃ t, PSs (cxOf CX0 P w K mg base nEv "Even.__init__" (defScope sEven0) f cdv A outer s H E) (defBody sEven0) t ∧ t { nx := fun _ H' => Q .non H', rt := Q } (L2.start nEv vs) H := by
  obtain ⟨fM, fdM, gM, kM, bM, GM⟩ := c.name
  obtain ⟨fI, fdI, gI, kI, bI, GI⟩ := c.within
  have GR : FnR P w K mg base CX0 2 fR (spRule0 K CE) := OwR.raw0 (ok_R0 hc FR c FF gF n_zip) (FR.binds fun _ _ _ _ _ _ us hl => match us, hl with | [_, _], _ => rfl)
  obtain ⟨a, t, dx, bs, m, rfl, ha, hq, nd, gd, m1, m9, bl, hl, q⟩ := h
  have hr1 : Room 1 _ := hr.mono (by decide)
  have hu : (A.deeper (envOfC "Even.__init__" (defScope sEven0) s.heap.objs.size f cdv)).units + 1 < cLine := by have := hr.units; omega
  refine ⟨_, PSs.nox (pss_cons (ps_set (i := 3) scEv.nd rfl (Or.inl rfl) pe_dnewK)
    (pss_cons (ps_for PassesOwn.never rfl (OwR.pi_enumT (by rfl) n_enumerate (pa_cons (pv 2) pa_nil)) (pg_tup rfl (pgs_cons (pg_name (i := 4) scEv.nd rfl (Or.inl rfl)) (pgs_cons (pg_name (i := 5) scEv.nd rfl (Or.inl rfl)) pgs_nil))) (pss_cons (ps_if (PW.pt (pw_or (pt_not (pt_val (pe_call GM hr1 (by rfl) gM kM bM .nil pass0 (pa_cons (pv 5) pa_nil)))) (pw_or1 (pt_cmp (pc_din hu (pv 5) (pv 3)))))) (pss_one ps_never) pss_nil)
    (pss_one (ps_dput hu (pv 3) (pv 5) pe_bl rfl))))
    (pss_cons (ps_if (pt_not (pt_val (pe_call GI hr1 (by rfl) gI kI bI .nil pass0 (pa_cons (pv 1) (pa_cons pe_int (pa_cons pe_int pa_nil)))))) (pss_one ps_never) pss_nil)
    (pss_one (ps_expr (OwR.pe_cfun (pe_glob (v := .ref CR) rfl gR rfl) rR cR GR hr pass0 (pa_cons (pv 0) (pa_cons (pe_lc2 (own := [("keep", 6), ("bay", 5)]) (vs1 := [5]) (wi1 := iTup K (tVar 2)) (by rfl) scEv.nd (pi_range3 rfl n_range (pa_cons (pe_op op_sub (pv 1) pe_int) (pa_cons (pe_un un_neg pe_int) (pa_cons (pe_un un_neg pe_int) pa_nil)))) (blkOk_by (own := [("keep", 6), ("bay", 5)]) (N := nEv) (sc := defScope sEven0) (by decide +kernel)) (by decide) (fun _ _ _ _ _ => (pg_name (i := 6) scEv.nd rfl (Or.inl rfl))) (fun _ _ _ _ _ => pts_nil) (fun _ _ _ _ _ => (pi_tup (pv 2))) (fun _ _ _ _ _ => (pg_name (i := 5) scEv.nd rfl (Or.inl rfl))) (fun _ _ _ _ _ => pts_nil) (fun _ _ _ _ _ => (pe_tup (pa_cons (pv 5) (pa_cons (pv 6) pa_nil))))) pa_nil)))))))), ?_⟩
  have sz := sizeLine_eq
  refine fun S hS => ?_
  have nSa : S ≠ a := fun e => by
    rw [e, ha] at hS
    cases hS
  have h1 : Same H (upd H S (.dK [])) := Same.of_new hS
  refine ⟨_, rfl, t, _, rfl, SqT.mono hq h1, ?_⟩
  refine for_it (OwR.walk_enumT (xs := bs.map V.str)) (fun i σ Hx => Same H Hx ∧ (∃ x y z, σ = [some (.ref a), some (.int m), some (.ref t), some (.ref S), x, y, z]) ∧ ∃ (kvs : List (Key × V)) (N : Str → Option Int), Hx S = some (.dK kvs) ∧ kvs.length ≤ i ∧ ∀ z, valV kvs (Sum.inr z) = if z ∈ bs.take i then some (.bl true) else none)
    ⟨h1, ⟨none, none, none, rfl⟩, [], fun _ => none, upd_same, Nat.le_refl 0, fun z => by rw [if_neg (by simp)]; rfl⟩ (fun i σ Hx _ q => SqT.mono hq q.1) (fun i x σ Hx Hy hi q0 y => ?_) (fun σ Hx q0 => ?_)
  · obtain ⟨s1, ⟨x0, y0, z0, rfl⟩, kvs, N, eS, lk, tv⟩ := q0
    obtain ⟨T, x1, z1, rfl, hT, rfl, hx, hz⟩ := y
    have hz : (bs.map V.str)[i]? = some z1 := hz
    rw [List.getElem?_map] at hz
    obtain ⟨b, hb, rfl⟩ := Option.map_eq_some_iff.mp hz
    have g := gd b (List.mem_of_getElem? hb)
    rw [List.length_map] at hi
    refine ⟨T, _, rfl, .inl (.inl upd_same), rfl, _, _, rfl, _, _, rfl, rfl, ?_⟩
    refine ⟨_, rfl, b, rfl, g.2, fun H3 s3 => ⟨_, rfl, ?_⟩⟩
    rw [g.1]
    refine iteF ?_
    have eS3 := s3 S _ (upd_keep2 (o := .tup [x1, .str b]) eS hT)
    have nb : b ∉ bs.take i := fun m => by
      have e3 : bs.take (i + 1) = bs.take i ++ [b] := by
        rw [List.take_add_one, hb]
        rfl
      have h5 : (bs.take (i + 1)).Nodup := nd.sublist (List.take_sublist _ _)
      rw [e3] at h5
      exact (List.nodup_append.mp h5).2.2 b m b (by simp) rfl
    have gv := tv b
    rw [if_neg nb] at gv
    refine ⟨_, rfl, _, rfl, S, none, rfl, .inl ⟨kvs, Sum.inr b, .inl eS3, rfl, gv.symm⟩, _, rfl, ?_⟩
    refine iteF ?_
    refine ⟨_, rfl, _, rfl, S, _, rfl, DPut.k (k := Sum.inr b) eS3 (by omega), ?_⟩
    refine ⟨fun y o e => ?_, ⟨_, _, _, rfl⟩, putK kvs (Sum.inr b) (.bl true), N, upd_same, ?_, fun z => ?_⟩
    · have : y ≠ S := ne_of_none e hS
      rw [upd_ne this]
      exact s3 y o (upd_keep2 (s1 y o e) hT)
    · have := length_putK kvs (Sum.inr b) (V.bl true)
      omega
    · rw [valV_put, tv z, List.take_add_one, hb]
      by_cases e : z = b
      · subst e
        rw [if_pos rfl, if_pos (by simp)]
      · rw [if_neg (fun q => e (Sum.inr.inj q))]
        by_cases c : z ∈ bs.take i
        · rw [if_pos c, if_pos (List.mem_append_left _ c)]
        · rw [if_neg c, if_neg fun q => (List.mem_append.mp q).elim c fun q => e (by simpa using q)]
  obtain ⟨s1, ⟨x0, y0, z0, rfl⟩, kvs, N, eS, lk, tv⟩ := q0
  refine ⟨_, rfl, m, 1, 9, rfl, _, rfl, ?_⟩
  rw [decide_eq_true m1, decide_eq_true m9]
  refine iteF ?_
  have hq1 := SqT.mono hq s1
  refine ⟨rfl, _, rfl, _, rfl, m, 1, rfl, rfl, 1, rfl, 1, rfl, m - 1, -1, -1, _, rfl, RgC.neg (i := m - 1) (j := -1) (by omega) (by omega) (by decide) (by decide), fun D hD => ?_⟩
  have em : (m - 1 - -1).toNat = m.toNat := by omega
  rw [em]
  have small : ∀ i, i ≤ m.toNat → (rounds m bs i).length ≤ 200 := fun i hi => by
    rw [rounds_len]
    have h9 : i ≤ 9 := by omega
    exact Nat.le_trans (Nat.mul_le_mul h9 bl) (by decide)
  refine OwR.any_it walk_rangeC (fun i Hy => Same Hx Hy ∧ ∃ kk : List Addr, Hy D = some (.lst (kk.map V.ref)) ∧ PicksAt Hy kk (rounds m bs i)) ⟨Same.of_new hD, [], upd_same, PicksAt.nil⟩ (fun _ _ _ _ => True.intro) (fun i x Hy Hz hi q0 y => ?_) (fun Hy q0 => ?_)
  · obtain ⟨s2, kk, eD, pkk⟩ := q0
    obtain ⟨rfl, ex⟩ := y
    have ei : m - 1 + (i : Nat) * (-1) = m - 1 - (i : Int) := by omega
    have ex : x = V.int (m - 1 - (i : Int)) := by
      rw [show x = V.int (m - 1 + (i : Nat) * (-1)) from ex, ei]
    subst ex
    refine ⟨rfl, ?_⟩
    refine ⟨_, rfl, t, rfl, ⟨_, SqT.mono hq1 s2⟩, ?_⟩
    refine OwR.any_it (walk_tup (xs := bs.map V.str)) (fun j Hw => Same Hx Hw ∧ ∃ kk : List Addr, Hw D = some (.lst (kk.map V.ref)) ∧ PicksAt Hw kk (rounds m bs i ++ (bs.take j).map fun b => (b, m - 1 - (i : Int)))) ⟨s2, kk, eD, by rw [List.take_zero, List.map_nil, List.append_nil]; exact pkk⟩ (fun j Hw _ q => SqT.mono hq1 q.1) (fun j x Hw Hv hj q1 y => ?_) (fun Hw q1 => ?_)
    · obtain ⟨s3, kk3, eD3, pk3⟩ := q1
      obtain ⟨rfl, hx⟩ := y
      rw [List.getElem?_map] at hx
      obtain ⟨b, hb, rfl⟩ := Option.map_eq_some_iff.mp hx
      refine ⟨rfl, ?_⟩
      refine ⟨_, rfl, _, rfl, by show (2 : Nat) ≤ sizeLine; omega, fun T hT => ?_⟩
      have eD4 := upd_keep2 (o := .tup [.str b, .int (m - 1 - (i : Int))]) eD3 hT
      refine ⟨_, eD4, ?_, fun z o e => ?_, kk3 ++ [T], ?_, ?_⟩
      · rw [List.length_map, pk3.len, List.length_append, List.length_map, List.length_take]
        have := small i (Nat.le_of_lt hi)
        omega
      · rw [upd_ne (ne_of_none e hD)]
        exact upd_keep2 (s3 z o e) hT
      · rw [List.map_append]
        exact upd_same
      · have e6 : rounds m bs i ++ (bs.take (j + 1)).map (fun b => (b, m - 1 - (i : Int))) = rounds m bs i ++ (bs.take j).map (fun b => (b, m - 1 - (i : Int))) ++ [(b, m - 1 - (i : Int))] := by
          rw [List.take_add_one, hb, List.map_append, List.append_assoc]
          rfl
        rw [e6]
        have g1 : PicksAt (upd Hv T (.tup [.str b, .int (m - 1 - (i : Int))])) kk3 (rounds m bs i ++ (bs.take j).map fun b => (b, m - 1 - (i : Int))) := pk3.same (Same.of_new hT)
        have g2 := g1.snoc (k := T) (p := (b, m - 1 - (i : Int))) upd_same
        exact g2.upd fun xs e => by
          rw [eD4] at e
          cases e
    · obtain ⟨s3, kk3, eD3, pk3⟩ := q1
      rw [List.length_map, List.take_length, ← rounds_succ] at pk3
      exact ⟨s3, kk3, eD3, pk3⟩
  obtain ⟨s2, kk, eD, pkk⟩ := q0
  have s3 := s1.trans s2
  exact ⟨a, D, dx, [], kk, _, rfl, s3 a _ ha, by decide, SqL.of eD, pkk, hl, fun H' sb r => q H' ((Same.but a s3).trans sb) r⟩
end
end K10
end
section
namespace OwR
open PySem PySem.Spec PyProof.Rows L2
section
variable {X : Cx} {CX : CXT} {k : Nat} {g : Addr} {sp : Sp} {E : XK} {e fe : Expr} {es : List Expr} {tf : TE} {t : TA} {pos : Pos}
/-- f(e, ..), f an instance of some class whose __call__ is at g -/
def tCallA (K : PySem.W.Frag) (g : Addr) (sp : Sp) (E : XK) (tf : TE) (t : TA) : TE := fun σ H Q => tf σ H fun y H1 => ∃ a, y = V.ref a ∧ t σ H1 fun vs H2 => (∃ C dx fs, H2 a = some (.ins C dx fs) ∧ StX.CallO K C g) ∧ sp (V.ref a :: vs) H2 Q E
theorem pe_callA (hf : PE X fe tf) (F : FnR X.prog X.w X.K X.mg X.base CX k g sp) (hr : Room k X.A) (hx : Passes CX X E) (ha : PA X (e :: es) t)
    (hev : eval (.Call fe (e :: es) [] pos) X.env = (do callWith pos (← eval fe X.env) [] (backTo pos (starEach (e :: es) X.env)) (backToKw pos (keywordEach [] X.env))) := by rfl)
    (hst : starEach (e :: es) X.env = (false, eval e X.env) :: starEach es X.env := by rfl) (hno : (backTo pos (starEach es X.env)).any (·.1) = false := by rfl) : PE X (.Call fe (e :: es) [] pos) (tCallA X.K g sp E tf t) := by
  constructor
  intro pins s σ H Q I h
  refine Call_ (thn (hf.run pins s σ H _ I h) fun u s1 w => ?_) hev
  obtain ⟨y, H1, I1, ry, a, rfl, q⟩ := w
  cases (show u = Value.ref a from ry)
  refine StX.callO_with (thn (ha.run pos pins s1 σ H1 _ I1 q) fun us s2 w => ?_) hst hno
  obtain ⟨vs, H2, I2, r, ⟨C, dx, fs, ea, c⟩, q2⟩ := w
  have i2 : StX.InsC X H2 a C := .inr ⟨dx, fs, ea⟩
  obtain ⟨ox, od, J, hd⟩ := StX.insC_at I2 i2
  exact ⟨⟨C, ox, od, J, hd⟩, StX.run_callO c F hr hx I2 i2 r q2⟩
end
end OwR
namespace K10
open PySem PySem.Spec PyProof.Rows L2
/-- where the parts of rules stand: Rule, its __iter__, __len__, __call__, __eq__, __or__, __add__, __sub__, and the classes below it -/
structure RA where
  CR : Addr
  fI : Addr
  fL : Addr
  fC : Addr
  fE : Addr
  fO : Addr
  fA : Addr
  fS : Addr
  S : List Addr
/-- all that is asked of a class of rules -/
structure RK2 (K : PySem.W.Frag) (r : RA) (C : Addr) : Prop where
  kd : RKind K r.CR r.fI r.fL C
  call : StX.CallO K C r.fC
  bor : OwR.Bin1 K .BitOr C r.fO
  add : OwR.Bin1 K .Add C r.fA
  sub : OwR.Bin1 K .Sub C r.fS
  addI : OwR.BinT K .Add C "int"
  subS : OwR.BinT K .Sub C "str"
  ne : OwR.Ne1 K C r.fE
structure RKs (K : PySem.W.Frag) (r : RA) : Prop where
  one : ∀ C, C ∈ r.S → RK2 K r C
  two : ∀ C, C ∈ r.S → ∀ D, D ∈ r.S → (C = D ∨ (C ≠ D ∧ PySem.W.subIn K (.ref D) (.ref C) = some false)) ∧ PySem.W.notFirst K C (.ref D) = true
/-- a rule of one of the classes with these picks -/
def OneOf (r : RA) (H : Hp) (a : Addr) (ps : List Pk) : Prop := ∃ C, C ∈ r.S ∧ RuleAt C H a ps
theorem OneOf.same {r : RA} {H H' : Hp} {a : Addr} {ps : List Pk} (h : OneOf r H a ps) (s : Same H H') : OneOf r H' a ps := by
  obtain ⟨C, m, q⟩ := h
  exact ⟨C, m, q.same s⟩
theorem RuleAt.but {C a p c : Addr} {H H' : Hp} {ns : List Int} {n : Nat} {z : Int} {ps : List Pk} (h : RuleAt C H a ps) (P : PenAt H p c ns n z) (s : But p H H') (kb : ∀ {ks : List Addr}, PicksAt H ks ps → PicksAt H' ks ps) : RuleAt C H' a ps := by
  obtain ⟨dx, fs, q, ks, h1, h2, h3, h4⟩ := h
  have pn := P.pen
  refine ⟨dx, fs, q, ks, s _ _ (fun e => ?_) h1, h2, s _ _ (fun e => ?_) h3, kb h4⟩
  · subst e
    rw [pn] at h1
    cases h1
  · subst e
    rw [pn] at h3
    cases h3
theorem OneOf.but {r : RA} {a p c : Addr} {H H' : Hp} {ns : List Int} {n : Nat} {z : Int} {ps : List Pk} (h : OneOf r H a ps) (P : PenAt H p c ns n z) (s : But p H H') : OneOf r H' a ps := by
  obtain ⟨C, m, q⟩ := h
  refine ⟨C, m, q.but P s fun pk => pk.mono fun k xs e => s k _ (fun z => ?_) e⟩
  have pn := P.pen
  subst z
  rw [pn] at e
  cases e
section
variable {K : PySem.W.Frag} {r : RA} {H : Hp} {a b : Addr} {ps qs : List Pk} {Q : VK} {E : XK}
theorem do_or {CX : Addr} (R : RKs K r) (hX : CX ∈ r.S) (hA : OneOf r H a ps) (hB : OneOf r H b qs) (hl : ps.length + qs.length ≤ 12) (q : ∀ z H', Same H H' → OneOf r H' z (oneForm (ps ++ qs)) → Q (.ref z) H') :
    OwR.rOwn2 K .BitOr r.fO (spOr K r.CR r.fI r.fL CX) E (.ref a) (.ref b) H Q := by
  obtain ⟨C, hC, r1⟩ := hA
  obtain ⟨D, hD, r2⟩ := hB
  obtain ⟨dx, fs, p1, k1, e1, _⟩ := id r1
  obtain ⟨dy, gs, p2, k2, e2, _⟩ := id r2
  refine ⟨a, b, C, D, dx, dy, fs, gs, rfl, rfl, e1, e2, ⟨(R.one C hC).bor, (R.two C hC D hD).1.imp id fun h => ⟨⟨_, (R.one D hD).bor⟩, h.1, h.2⟩⟩, a, b, ps, qs, rfl, ⟨C, (R.one C hC).kd, r1⟩, ⟨D, (R.one D hD).kd, r2⟩, hl, fun z H' _ s1 hz => q z H' s1 ⟨CX, hX, hz⟩⟩
theorem do_add {CX : Addr} {k : Int} (R : RKs K r) (hX : CX ∈ r.S) (hA : OneOf r H a ps) (k0 : 0 ≤ k) (k9 : k ≤ 9) (gd : ∀ p ∈ plus k ps, Good p) (hl : ps.length ≤ 12) (q : ∀ z H', Same H H' → OneOf r H' z (oneForm (plus k ps)) → Q (.ref z) H') :
    OwR.rOwnT K .Add r.fA (spAdd K r.CR r.fI r.fL CX) E (.ref a) (.int k) H Q := by
  obtain ⟨C, hC, r1⟩ := hA
  obtain ⟨dx, fs, p1, k1, e1, _⟩ := id r1
  exact ⟨a, C, dx, fs, "int", rfl, e1, rfl, (R.one C hC).add, (R.one C hC).addI, a, k, ps, rfl, k0, k9, ⟨C, (R.one C hC).kd, r1⟩, gd, hl, fun z H' _ s1 hz => q z H' s1 ⟨CX, hX, hz⟩⟩
theorem do_sub {CX : Addr} {w : Str} (R : RKs K r) (hX : CX ∈ r.S) (hA : OneOf r H a ps) (nw : nameB w = true) (lw : w.length ≤ 1000) (gd : ∀ p ∈ ps, Good p) (hl : ps.length ≤ 12) (q : ∀ z H', Same H H' → OneOf r H' z (oneForm (ps.filter fun p => !decide (p.1 = w))) → Q (.ref z) H') :
    OwR.rOwnT K .Sub r.fS (spSub K r.CR r.fI r.fL CX) E (.ref a) (.str w) H Q := by
  obtain ⟨C, hC, r1⟩ := hA
  obtain ⟨dx, fs, p1, k1, e1, _⟩ := id r1
  exact ⟨a, C, dx, fs, "str", rfl, e1, rfl, (R.one C hC).sub, (R.one C hC).subS, a, w, ps, rfl, nw, lw, ⟨C, (R.one C hC).kd, r1⟩, gd, hl, fun z H' _ s1 hz => q z H' s1 ⟨CX, hX, hz⟩⟩
theorem do_ne (R : RKs K r) (hA : OneOf r H a ps) (hB : OneOf r H b qs) (e : ps = qs) (ok : ∀ p ∈ ps, PyData.strOk p.1 = true) (q : Q (.bl false) H) : OwR.rNe2 K r.fE (spEqR K r.CR r.fI r.fL) E (.ref a) (.ref b) H Q := by
  subst e
  obtain ⟨C, hC, r1⟩ := hA
  obtain ⟨D, hD, r2⟩ := hB
  obtain ⟨dx, fs, p1, k1, e1, _⟩ := id r1
  obtain ⟨dy, gs, p2, k2, e2, _⟩ := id r2
  exact ⟨a, b, C, D, dx, dy, fs, gs, rfl, rfl, e1, e2, (R.one C hC).ne, (R.two C hC D hD).2, a, b, ps, rfl, ⟨C, (R.one C hC).kd, r1⟩, ⟨D, (R.one D hD).kd, r2⟩, ok, true, rfl, q⟩
/-- rule(house), of one of the classes -/
def spCallA (r : RA) (CH : Addr) : Sp := fun vs H Q E => ∃ C, C ∈ r.S ∧ spCall C CH vs H Q E
theorem do_call {CH h : Addr} {N : Str → Option Int} (R : RKs K r) (hA : OneOf r H a ps) (gd : ∀ p ∈ ps, Good p) (hH : HouseAt CH H h N) (q : ∀ H', Same H H' → Q (optV (choose (fun z => (N z).getD 0) ps)) H') :
    (∃ C dx fs, H a = some (.ins C dx fs) ∧ StX.CallO K C r.fC) ∧ spCallA r CH (V.ref a :: [V.ref h]) H Q E := by
  obtain ⟨C, hC, r1⟩ := hA
  obtain ⟨dx, fs, p1, k1, e1, _⟩ := id r1
  exact ⟨⟨C, dx, fs, e1, (R.one C hC).call⟩, C, hC, a, h, ps, N, rfl, r1, gd, hH, q⟩
theorem callA_ok {P : Program} {w : World} {mg : Str → Option Value} {base : Heap} {CH fH : Addr} {fd : FuncData} (R : RKs K r) (F : Fun K "__call__" "Rule.__call__" sCall r.fC fd) (cI : OwR.Spc K CH fH "__getitem__") (GI : FnR P w K mg base CX0 2 fH (spItem CH)) : FnR P w K mg base CX0 4 r.fC (spCallA r CH) := by
  intro A outer s H us vs Q E hr e0 rv h
  obtain ⟨C, hC, h⟩ := h
  have G : FnR P w K mg base CX0 4 r.fC (spCall C CH) := OwR.raw0 (ok_Call (R.one C hC).kd.rc F cI GI) (F.binds fun _ _ _ _ _ _ us hl => match us, hl with | [_, _], _ => rfl)
  exact G A outer s H us vs Q E hr e0 rv h
end
/-! ### what is chosen -/
def three : List Str := ["s", "b", "n"]
/-- at most m picks of the three bays, no keep above h -/
def Lim (m : Nat) (h : Int) (ps : List Pk) : Prop := ps.length ≤ m ∧ ∀ q ∈ ps, q.1 ∈ three ∧ 0 ≤ q.2 ∧ q.2 ≤ h
theorem three_good : ∀ b ∈ three, nameB b = true ∧ b.length ≤ 1000 := by decide +kernel
theorem three_str : ∀ b ∈ three, PyData.strOk b = true := by decide +kernel
section
variable {m n : Nat} {h : Int} {ps qs : List Pk} {f : Str → Int}
theorem Lim.form (l : Lim m h ps) : Lim m h (oneForm ps) := ⟨Nat.le_trans (form_len ps) l.1, fun q hq => l.2 q (mem_form hq)⟩
theorem Lim.app (l : Lim m h ps) (l2 : Lim n h qs) : Lim (m + n) h (ps ++ qs) := ⟨by rw [List.length_append]; exact Nat.add_le_add l.1 l2.1, fun q hq => (List.mem_append.mp hq).elim (l.2 q) (l2.2 q)⟩
theorem Lim.plus {k : Int} (l : Lim m h ps) (k0 : 0 ≤ k) : Lim m (h + k) (plus k ps) := by
  refine ⟨by unfold K10.plus; rw [List.length_map]; exact l.1, fun q hq => ?_⟩
  obtain ⟨p, hp, rfl⟩ := List.mem_map.mp hq
  have e := l.2 p hp
  exact ⟨e.1, by show 0 ≤ p.2 + k; omega, by show p.2 + k ≤ h + k; omega⟩
theorem Lim.filter {g : Pk → Bool} (l : Lim m h ps) : Lim m h (ps.filter g) := ⟨Nat.le_trans (List.length_filter_le _ _) l.1, fun q hq => l.2 q (List.mem_filter.mp hq).1⟩
theorem Lim.wide {n : Nat} {h2 : Int} (l : Lim m h ps) (a : m ≤ n) (b : h ≤ h2) : Lim n h2 ps := ⟨Nat.le_trans l.1 a, fun q hq => ⟨(l.2 q hq).1, (l.2 q hq).2.1, by have := (l.2 q hq).2.2; omega⟩⟩
theorem Lim.good (l : Lim m h ps) (b : h ≤ 9) : ∀ p ∈ ps, Good p := fun p hp => by
  have e := l.2 p hp
  have t := three_good p.1 e.1
  exact ⟨t.1, t.2, e.2.1, by omega⟩
theorem Lim.str (l : Lim m h ps) : ∀ p ∈ ps, PyData.strOk p.1 = true := fun p hp => three_str p.1 (l.2 p hp).1
theorem Lim.pos (l : Lim m h ps) : ∀ p ∈ ps, 0 ≤ p.2 := fun p hp => (l.2 p hp).2.1
theorem Lim.nil : Lim 0 h ([] : List Pk) := ⟨Nat.le_refl 0, fun q hq => by cases hq⟩
end
theorem choose_plus (f : Str → Int) (k : Int) : ∀ ps : List Pk, choose f (plus k ps) = choose (fun z => f z - k) ps
  | [] => rfl
  | p :: r => by
    show (if p.2 + k < f p.1 then some p.1 else choose f (plus k r)) = (if p.2 < f p.1 - k then some p.1 else choose (fun z => f z - k) r)
    rw [choose_plus f k r]
    by_cases c : p.2 + k < f p.1
    · rw [if_pos c, if_pos (by omega)]
    · rw [if_neg c, if_neg (by omega)]
/-- nothing free at b -/
def bare (b : Str) (f : Str → Int) : Str → Int := fun z => if z = b then 0 else f z
theorem choose_filter (f : Str → Int) (b : Str) : ∀ ps : List Pk, (∀ p ∈ ps, 0 ≤ p.2) → choose f (ps.filter fun p => !decide (p.1 = b)) = choose (bare b f) ps
  | [], _ => rfl
  | p :: r, h => by
    have ih := choose_filter f b r fun q hq => h q (List.mem_cons_of_mem _ hq)
    have h0 := h p List.mem_cons_self
    rw [List.filter_cons]
    show _ = (if p.2 < bare b f p.1 then some p.1 else choose (bare b f) r)
    by_cases c : p.1 = b
    · rw [if_neg (by simp [c]), ih, if_neg (by unfold bare; rw [if_pos c]; omega)]
    · rw [if_pos (by simp [c])]
      show (if p.2 < f p.1 then some p.1 else choose f _) = _
      rw [ih]
      have e : bare b f p.1 = f p.1 := if_neg c
      rw [e]
theorem chosen_in {f : Str → Int} {b : Str} : ∀ {ps : List Pk}, choose f ps = some b → ∃ p ∈ ps, p.1 = b
  | p :: r, h => by
    by_cases c : p.2 < f p.1
    · rw [choose_head c] at h
      exact ⟨p, List.mem_cons_self, Option.some.inj h⟩
    · rw [choose_tail c] at h
      obtain ⟨q, hq, e⟩ := chosen_in h
      exact ⟨q, List.mem_cons_of_mem _ hq, e⟩
theorem filter_not {f : Str → Int} {b : Str} {ps : List Pk} : choose f (ps.filter fun p => !decide (p.1 = b)) ≠ some b := fun h => by
  obtain ⟨p, hp, e⟩ := chosen_in h
  have := (List.mem_filter.mp hp).2
  rw [decide_eq_true e] at this
  cases this
theorem form_same {a b : List Pk} (ha : ∀ p ∈ a, 0 ≤ p.2) (nb : Norm b) (h : ∀ f, choose f a = choose f b) : oneForm a = b := uniq _ _ (norm_form ha) nb fun f => by rw [choose_form, h]
theorem or_same (o : Option Str) : o.or o = o := by cases o <;> rfl
theorem or_none (o : Option Str) : o.or none = o := by cases o <;> rfl
theorem or_more (o p q : Option Str) : (o.or p).or q = o.or (p.or q) := by cases o <;> rfl
end K10
end
section
namespace OwR
open PySem PySem.Spec PyProof.Rows L2
/-! ### xs == [], the items of xs of any kind -/
def rEqNil (K : PySem.W.Frag) : R2 := fun x y H Q => ∃ (a b : Addr) (xs : List V), x = .ref a ∧ y = .ref b ∧ SqL K H a xs ∧ SqL K H b [] ∧ Q (.bl xs.isEmpty) H
theorem op_eqNil {X : Cx} (hu : X.A.units + 64 < cLine) : OpR X (compareOp .Eq) (rEqNil X.K) := by
  intro pins s σ H x y v u Q I rx ry h
  obtain ⟨a, b, xs, rfl, rfl, ha, hb, q⟩ := h
  cases xs with
  | nil =>
    refine op_eqD hu pins s σ H _ _ v u Q I rx ry ⟨.list [], .list [], .lst ha .nil, .lst hb .nil, OwD.shaped_nil, OwD.shaped_nil, ?_⟩
    have e : PyData.eqv (.list []) (.list []) = true := by simp [PyData.eqv, PyData.eqvAll]
    rw [e]
    exact q
  | cons z zs =>
    obtain rfl : v = Value.ref a := rx
    obtain rfl : u = Value.ref b := ry
    obtain ⟨i1, r1, h1, _⟩ := I.list ha
    obtain ⟨i2, r2, h2, _⟩ := I.list hb
    cases r2
    refine SeqAt.eq_list_lengthsAt h1.isList h2.isList ?_ (by omega) ⟨.bl false, H, I, rfl, q⟩
    have l1 := r1.length
    cases i1 with
    | nil => cases r1
    | cons _ _ => rfl
end OwR
namespace K10
open PySem PySem.Spec PyProof.Rows L2
abbrev sRStr : Stmt := mth 29 13
theorem pkD_eqv (p q : Pk) : PyData.eqv (pkD p) (pkD q) = decide (p = q) := by
  obtain ⟨a, i⟩ := p
  obtain ⟨b, j⟩ := q
  simp only [pkD, PyData.eqv, PyData.eqvAll, Bool.and_true]
  by_cases c : a = b
  · by_cases d : i = j
    · subst c d
      simp
    · simp [d]
  · simp [c]
theorem pk_same : ∀ ps qs : List Pk, PyData.eqvAll (ps.map pkD) (qs.map pkD) = decide (ps = qs)
  | [], [] => by simp [PyData.eqvAll]
  | [], _ :: _ => by simp [PyData.eqvAll]
  | _ :: _, [] => by simp [PyData.eqvAll]
  | p :: ps, q :: qs => by
    rw [List.map_cons, List.map_cons, PyData.eqvAll, pkD_eqv, pk_same ps qs]
    by_cases c : p = q
    · by_cases d : ps = qs
      · simp [c, d]
      · simp [d]
    · simp [c]
/-- the promise of == between rules, alike or not -/
def spEqQ (K : PySem.W.Frag) (CR fI fL : Addr) : Sp := fun vs H Q _ => ∃ (a b : Addr) (ps qs : List Pk), vs = [.ref a, .ref b] ∧ AnyRule K CR fI fL H a ps ∧ AnyRule K CR fI fL H b qs ∧ (∀ p ∈ ps, PyData.strOk p.1 = true) ∧ (∀ p ∈ qs, PyData.strOk p.1 = true) ∧ Q (.bl (decide (ps = qs))) H
/-- .. and with what is no rule -/
def spEqO (K : PySem.W.Frag) (CR : Addr) : Sp := fun vs H Q _ => ∃ (a : Addr) (y : V) (t : Value), vs = [.ref a, y] ∧ TyX K H y t ∧ PySem.W.kitOne K t (.ref CR) = some false ∧ Q (.bl false) H
def spStrR (K : PySem.W.Frag) (CR fI fL : Addr) : Sp := fun vs H Q _ => ∃ (a : Addr) (ps : List Pk), vs = [.ref a] ∧ AnyRule K CR fI fL H a ps ∧ (∀ p ∈ ps, Good p) ∧ ps.length ≤ 12 ∧ ∀ z H', Same H H' → Q (.str z) H'
def spFirstT (K : PySem.W.Frag) (C : Addr) : Sp := fun vs H Q _ => ∃ (l : Addr) (xs : List V) (ps : List Pk), vs = [.ref C, .ref l] ∧ (SqT K H l xs ∨ SqL K H l xs) ∧ ValsAt H xs ps ∧ ps.length ≤ 12 ∧ (∀ p ∈ ps, Good p) ∧
  ∀ a H', H a = none → Same H H' → RuleAt C H' a (oneForm ps) → Q (.ref a) H'
theorem keep_text {k : Int} (h0 : 0 ≤ k) (h9 : k ≤ 9) : (toString k : Str).length ≤ 1 ∧ k.natAbs.log2 < 1920 := by
  have h : k = 0 ∨ k = 1 ∨ k = 2 ∨ k = 3 ∨ k = 4 ∨ k = 5 ∨ k = 6 ∨ k = 7 ∨ k = 8 ∨ k = 9 := by omega
  rcases h with rfl | rfl | rfl | rfl | rfl | rfl | rfl | rfl | rfl | rfl <;> exact by decide +kernel
section
variable {P : Program} {w : World} {K : PySem.W.Frag} {mg : Str → Option Value} {base : Heap}
theorem ok_reqQ {CR f fI fL : Addr} {fd : FuncData} (F : Fun K "__eq__" "Rule.__eq__" sREq f fd) (T : Nm2 mg) (gR : mg "Rule" = some (.ref CR)) : FnR P w K mg base CX0 1 f (spEqQ K CR fI fL) := by
  refine OwR.raw0 (F.ok (k := 0) (ps := ["self", "other"]) scRE (fun vs H Q E h => ?_) (fun cdv A outer s H vs Q E hr h => ?_)) (F.binds fun _ _ _ _ _ _ us hl => match us, hl with | [_, _], _ => rfl)
  · obtain ⟨a, b, ps, qs, rfl, _⟩ := h
    rfl
  · obtain ⟨a, b, ps, qs, rfl, ⟨C, k1, dx, fs, p, ks, ea, lk, ep, pk⟩, ⟨D, k2, dy, gs, p2, ks2, eb, lk2, ep2, pk2⟩, ok, ok2, q⟩ := h
    refine ⟨_, (pss_one (ps_ret (pe_and (pe_callB call_isi (by rfl) T.n_isinstance (by decide +kernel) (pa_cons (pv 1) (pa_cons (pe_glob (v := .ref CR) rfl gR rfl) pa_nil))) (pe_one (pe_cmpR (op_eqD hr.units) (pe_fld (pv 0) rfl) (pe_fld (pv 1) rfl) (nomark _)))))), ?_⟩
    refine ⟨_, rfl, .ref b, .ref CR, _, _, true, rfl, .own _, k2.ty eb, k2.sub, true, rfl, ?_⟩
    refine iteT ?_
    refine ⟨_, rfl, a, C, dx, fs, .ref p, rfl, ea, k1.rc.cls, k1.rc.n1, lk, _, rfl, b, D, dy, gs, .ref p2, rfl, eb, k2.rc.cls, k2.rc.n1, lk2, ?_⟩
    refine ⟨_, _, .tup (SqT.of ep) pk.dp, .tup (SqT.of ep2) pk2.dp, pk_shaped ok, pk_shaped ok2, ?_⟩
    rw [PyData.eqv, pk_same]
    exact q
theorem ok_reqO {CR f : Addr} {fd : FuncData} (F : Fun K "__eq__" "Rule.__eq__" sREq f fd) (T : Nm2 mg) (gR : mg "Rule" = some (.ref CR)) : FnR P w K mg base CX0 1 f (spEqO K CR) := by
  refine OwR.raw0 (F.ok (k := 0) (ps := ["self", "other"]) scRE (fun vs H Q E h => ?_) (fun cdv A outer s H vs Q E hr h => ?_)) (F.binds fun _ _ _ _ _ _ us hl => match us, hl with | [_, _], _ => rfl)
  · obtain ⟨a, y, t, rfl, _⟩ := h
    rfl
  · obtain ⟨a, y, t, rfl, ty, kt, q⟩ := h
    refine ⟨_, (pss_one (ps_ret (pe_and (pe_callB call_isi (by rfl) T.n_isinstance (by decide +kernel) (pa_cons (pv 1) (pa_cons (pe_glob (v := .ref CR) rfl gR rfl) pa_nil))) (pe_one (pe_cmpR (op_eqD hr.units) (pe_fld (pv 0) rfl) (pe_fld (pv 1) rfl) (nomark _)))))), ?_⟩
    refine ⟨_, rfl, y, .ref CR, t, _, false, rfl, .own _, ty, kt, false, rfl, ?_⟩
    exact iteF q
theorem ok_FOT {C f fI : Addr} {fd : FuncData} (F : Fun K "of" "First.of" sFirstOf f fd) (MF : Mk K C fI) (GI : FnR P w K mg base CX0 3 fI (spFirst C)) : FnR P w K mg base CX0 5 f (spFirstT K C) := by
  refine OwR.raw0 (F.ok (k := 4) (ps := ["cls", "picks"]) scFO (fun vs H Q E h => ?_) (fun cdv A outer s H vs Q E hr h => ?_)) (F.binds fun _ _ _ _ _ _ us hl => match us, hl with | [_, _], _ => rfl)
  · obtain ⟨l, ks, ps, rfl, _⟩ := h
    rfl
  · obtain ⟨l, ks, ps, rfl, hl, hp, hn, hg, q⟩ := h
    refine ⟨_, (pss_one (ps_ret (OwR.pe_makeLS (i := 0) MF GI hr (by rfl) (by first | exact Or.inl rfl | exact Or.inr (Or.inl rfl)) pass0 (pv 1)))), ?_⟩
    refine ⟨rfl, _, rfl, l, _, rfl, hl, fun z dz h1 h2 nd => ⟨z, dz, ks, ps, rfl, upd_same, ?_, hn, hg, fun H' s1 hR => ⟨rfl, q z H' h1 (made_same h1 h2 s1) hR⟩⟩⟩
    exact hp.same fun b o e => by
      rw [upd_ne (ne_of_none e h1), upd_ne (ne_of_none e h2)]
      exact e
abbrev nRT : List Str := ["self", "bay", "keep"]
theorem scRT : FnScope nRT ["self"] (defScope sRStr) := ⟨rfl, rfl, rfl, by decide +kernel, rfl, by decide +kernel, by decide +kernel⟩
theorem ok_rstr {CR f fI fL : Addr} {fd : FuncData} (F : Fun K "__str__" "Rule.__str__" sRStr f fd) : FnR P w K mg base CX0 1 f (spStrR K CR fI fL) := by
  refine OwR.raw0 (F.ok (k := 0) (ps := ["self"]) scRT (fun vs H Q E h => ?_) (fun cdv A outer s H vs Q E hr h => ?_)) (F.binds fun _ _ _ _ _ _ us hl => match us, hl with | [_], _ => rfl)
  · obtain ⟨a, ps, rfl, _⟩ := h
    rfl
  · obtain ⟨a, ps, rfl, ⟨C, kd, dx, fs, p, ks, ea, lk, ep, pk⟩, good, hl, q⟩ := h
    refine ⟨_, (pss_cons (ps_if (pt_not (pt_truth (pe_fld (pv 0) rfl) (by intro _; rfl))) (pss_one (ps_ret pe_str)) pss_nil)
    (pss_one (ps_ret (pe_join pe_str (pe_lc (own := [("bay", 1), ("keep", 2)]) (g := (gTup K 2 (gCons (gName 1) (gCons (gName 2) gNil)))) (by rfl) scRT.nd (pi_tup (pe_fld (pv 0) rfl)) (blkOk_by (own := [("bay", 1), ("keep", 2)]) (N := nRT) (sc := defScope sRStr) (by decide +kernel)) (fun _ _ _ _ _ => (pg_tup rfl (pgs_cons (pg_name (i := 1) scRT.nd rfl (Or.inl rfl)) (pgs_cons (pg_name (i := 2) scRT.nd rfl (Or.inl rfl)) pgs_nil)))) (fun _ _ _ _ _ => pts_nil) (fun _ _ _ _ _ => (pe_ifExp (pt_cmpR op_gt (pv 2) pe_int (nomark _)) (pe_joined (PJ.cons (pe_fmt (pv 1)) (PJ.cons pe_str (PJ.cons (pe_fmt (pv 2)) PJ.nil)))) (pv 1)))))))), ?_⟩
    have sz := sizeLine_eq
    refine ⟨_, rfl, a, C, dx, fs, .ref p, rfl, ea, kd.rc.cls, kd.rc.n1, lk, ?_⟩
    refine ⟨!(ks.map V.ref).isEmpty, .inr (.inl ⟨_, SqT.of ep, rfl⟩), ?_⟩
    cases hks : (ks.map V.ref).isEmpty with
    | true =>
      refine iteT ?_
      exact q _ _ (Same.refl H)
    | false =>
      refine iteF ?_
      refine ⟨⟨_, rfl⟩, _, rfl, a, C, dx, fs, .ref p, rfl, ea, kd.rc.cls, kd.rc.n1, lk, p, rfl, ⟨_, SqT.of ep⟩, fun D hD => ?_⟩
      refine lc_it (walk_tup (xs := ks.map V.ref)) (fun i Hx => Same H Hx ∧ ∃ ys : List Str, Hx D = some (.lst (ys.map V.str)) ∧ ys.length ≤ i ∧ ∀ y ∈ ys, y.length ≤ 1007) ⟨Same.of_new hD, [], upd_same, Nat.le_refl 0, (fun y h => by cases h)⟩ (fun i Hx _ q => SqT.of (q.1 p _ ep)) (fun i x Hx Hy hi q0 y => ?_) (fun Hx q0 => ?_)
      · obtain ⟨s1, ys, eD, ly, hy⟩ := q0
        obtain ⟨rfl, hx⟩ := y
        obtain ⟨k1, p1, rfl, hk, hpi, tk⟩ := (pk.same s1).get hx
        have hi2 : i < ps.length := (List.getElem?_eq_some_iff.mp hpi).1
        have g := good p1 (List.mem_of_getElem? hpi)
        have kt := keep_text g.2.2.1 g.2.2.2
        have done : ∀ z : Str, z.length ≤ 1007 → ∃ acc, Hy D = some (.lst acc) ∧ acc.length < sizeLine ∧ Same H (upd Hy D (.lst (acc ++ [V.str z]))) ∧ ∃ ys : List Str, upd Hy D (.lst (acc ++ [V.str z])) D = some (.lst (ys.map V.str)) ∧ ys.length ≤ i + 1 ∧ ∀ y ∈ ys, y.length ≤ 1007 := fun z hz => by
          refine ⟨_, eD, by rw [List.length_map]; omega, fun b o e => ?_, ys ++ [z], ?_, ?_, fun y hy2 => ?_⟩
          · rw [upd_ne (ne_of_none e hD)]
            exact s1 b o e
          · rw [List.map_append]
            exact upd_same
          · rw [List.length_append]
            show ys.length + 1 ≤ i + 1
            omega
          · rcases List.mem_append.mp hy2 with h | h
            · exact hy y h
            · cases List.mem_singleton.mp h
              exact hz
        refine ⟨k1, _, rfl, .inl (.inl tk), rfl, _, _, rfl, _, _, rfl, rfl, rfl, ?_⟩
        refine ⟨_, rfl, _, _, rfl, rfl, _, rfl, ?_⟩
        have l0 : (Str.empty ++ p1.1).length ≤ 1000 := by rw [Str.length_append]; exact (show 0 + p1.1.length ≤ 1000 by have := g.2.1; omega)
        have l1 : (Str.empty ++ p1.1 ++ (" keep " : Str)).length ≤ 1006 := by rw [Str.length_append]; exact Nat.add_le_add l0 (show ((" keep " : Str)).length ≤ 6 by decide +kernel)
        have l2 : (Str.empty ++ p1.1 ++ (" keep " : Str) ++ (toString p1.2 : Str)).length ≤ 1007 := by rw [Str.length_append]; exact Nat.add_le_add l1 kt.1
        refine ite2 (fun c1 => ?_) (fun c1 => ?_)
        · refine ⟨_, rfl, .inl ⟨_, rfl, by have := g.2.1; omega, _, rfl, by omega, _, rfl, by omega, _, rfl, .inr ⟨_, rfl, kt.2, _, rfl, by omega, ?_⟩⟩⟩
          exact done _ l2
        · exact ⟨_, rfl, done _ (by have := g.2.1; omega)⟩
      obtain ⟨s1, ys, eD, ly, hy⟩ := q0
      rw [List.length_map, pk.len] at ly
      refine ⟨_, D, ys, rfl, rfl, .inl (SqL.of eD), ?_, q _ _ s1⟩
      have sm : ∀ ys : List Str, (∀ y ∈ ys, y.length ≤ 1007) → (ys.map (·.length)).sum ≤ ys.length * 1007 := fun ys => by
        induction ys with
        | nil => intro _; exact Nat.le_refl 0
        | cons y r ih =>
          intro h
          rw [List.map_cons, List.sum_cons, List.length_cons, Nat.succ_mul]
          have := ih fun z hz => h z (List.mem_cons_of_mem _ hz)
          have := h y List.mem_cons_self
          omega
      have s2 := sm ys hy
      have e4 : ((" or " : Str)).length = 4 := by decide +kernel
      rw [e4]
      have : ys.length * 1007 ≤ 12 * 1007 := Nat.mul_le_mul_right _ (by omega)
      omega
end
end K10
end
section
namespace K10
open PySem PySem.Spec PyProof.Rows L2
abbrev sRow : Stmt := top 42
theorem But.free {p l : Addr} {H H' : Hp} (s : But p H H') (hp : H' p ≠ none) (h : H' l = none) : H l = none := by
  cases e : H l with
  | none => rfl
  | some o =>
    by_cases n : l = p
    · rw [n] at h
      exact (hp h).elim
    · rw [s l o n e] at h
      cases h
theorem PenAt.some {H : Hp} {p c : Addr} {ns : List Int} {n : Nat} {z : Int} (P : PenAt H p c ns n z) : H p ≠ none := by
  rw [P.pen]
  exact fun h => by cases h
theorem PenAt.same {H H' : Hp} {p c : Addr} {ns : List Int} {n : Nat} {z : Int} (P : PenAt H p c ns n z) (s : Same H H') : PenAt H' p c ns n z := ⟨s _ _ P.pen, s _ _ P.cells, P.few, P.rest⟩
theorem SqL.but {K : PySem.W.Frag} {p : Addr} {H H' : Hp} {a : Addr} {xs : List V} (h : SqL K H a xs) (n : a ≠ p) (s : But p H H') : SqL K H' a xs := h.elim (fun r => .inl (But.rd s n r)) .inr
theorem nth {α : Type} {xs : List α} {d : Int} (h0 : 0 ≤ d) (h1 : d < xs.length) : ∃ x, x ∈ xs ∧ atI xs d = some x := by
  obtain ⟨j, rfl⟩ : ∃ j : Nat, d = (j : Int) := ⟨d.toNat, by omega⟩
  have hj : j < xs.length := by omega
  exact ⟨xs[j], List.getElem_mem hj, atI_nat (List.getElem?_eq_getElem hj)⟩
theorem cut_63 {ns : List Int} (h : ns.length ≤ 63) : cutV (ns.map V.int) none (some 63) = ns.map V.int := by
  have e : (some 63 : Option Int) = some ((63 : Nat) : Int) := rfl
  unfold cutV
  rw [HT.sIx_none, e, HT.sIx_nat, List.drop_zero]
  exact List.take_of_length_le (by rw [List.length_map]; omega)
theorem PenAt.put {H : Hp} {p c D : Addr} {ns : List Int} {n : Nat} {z : Int} {o : HO} (P : PenAt H p c ns n z) (n1 : p ≠ D) (n2 : c ≠ D) : PenAt (upd H D o) p c ns n z := ⟨by rw [upd_ne n1]; exact P.pen, by rw [upd_ne n2]; exact P.cells, P.few, P.rest⟩
theorem PicksAt.but {H H' : Hp} {p c : Addr} {ns : List Int} {n : Nat} {z : Int} {ks : List Addr} {ps : List Pk} (h : PicksAt H ks ps) (P : PenAt H p c ns n z) (s : But p H H') : PicksAt H' ks ps := h.mono fun k xs e => by
  refine s k _ (fun q => ?_) e
  rw [q, P.pen] at e
  cases e
def tabL (ps : List Pk) : List (Key × V) := ps.map fun q => (Sum.inr q.1, V.int q.2)
def lookL (ps : List Pk) : Str → Option Int := fun z => (ps.find? fun q => decide (q.1 = z)).map (·.2)
theorem lookL_cons (q : Pk) (r : List Pk) (z : Str) : lookL (q :: r) z = if q.1 = z then some q.2 else lookL r z := by
  unfold lookL
  rw [List.find?_cons]
  by_cases e : q.1 = z
  · rw [if_pos e, decide_eq_true e]
    rfl
  · rw [if_neg e, decide_eq_false e]
theorem tabOf_list : ∀ ps : List Pk, TabOf (tabL ps) (lookL ps)
  | [] => TabOf.nil
  | q :: r => by
    have ih := tabOf_list r
    refine ⟨fun z => ?_, fun i => ?_⟩
    · by_cases e : q.1 = z
      · have h1 : valV (tabL (q :: r)) (Sum.inr z) = some (.int q.2) := valV_pos (p := (Sum.inr q.1, V.int q.2)) (congrArg Sum.inr e)
        rw [h1, lookL_cons, if_pos e]
        rfl
      · have h1 : valV (tabL (q :: r)) (Sum.inr z) = valV (tabL r) (Sum.inr z) := valV_neg (p := (Sum.inr q.1, V.int q.2)) fun h => e (Sum.inr.inj h)
        rw [h1, ih.1 z, lookL_cons, if_neg e]
    · have h1 : valV (tabL (q :: r)) (Sum.inl i) = valV (tabL r) (Sum.inl i) := valV_neg (p := (Sum.inr q.1, V.int q.2)) fun h => by cases h
      rw [h1, ih.2 i]
theorem val_none {kvs : List (Key × V)} {k : Key} (h : k ∉ kvs.map (·.1)) : valV kvs k = none := by
  cases e : valV kvs k with
  | none => rfl
  | some v =>
    have h1 := valV_any k kvs
    rw [e] at h1
    obtain ⟨kv, h2, h3⟩ := List.any_eq_true.mp h1
    exact (h (List.mem_map.mpr ⟨kv, h2, of_decide_eq_true h3⟩)).elim
theorem merge_app : ∀ (more acc : List (Key × V)), ((acc ++ more).map (·.1)).Nodup → mergeK acc more = acc ++ more
  | [], acc, _ => (List.append_nil acc).symm
  | x :: r, acc, h => by
    have h2 : x.1 ∉ acc.map (·.1) := fun m => by
      rw [List.map_append] at h
      exact (List.nodup_append.mp h).2.2 x.1 m x.1 (by simp) rfl
    have h1 : putK acc x.1 x.2 = acc ++ [x] := putK_new x.2 (val_none h2)
    have e : acc ++ [x] ++ r = acc ++ x :: r := by simp
    have ih := merge_app r (acc ++ [x]) (by rw [e]; exact h)
    show mergeK (putK acc x.1 x.2) r = _
    rw [h1, ih, e]
theorem merge_tab {ps : List Pk} (h : (ps.map (·.1)).Nodup) : mergeK [] (tabL ps) = tabL ps := by
  refine merge_app (tabL ps) [] ?_
  have e : (tabL ps).map (·.1) = (ps.map (·.1)).map Sum.inr := by
    unfold tabL
    rw [List.map_map, List.map_map]
    rfl
  rw [List.nil_append, e]
  exact List.Pairwise.map Sum.inr (fun a b n q => n (Sum.inr.inj q)) h
theorem PicksAt.paired {K : PySem.W.Frag} {H : Hp} : ∀ {ks : List Addr} {ps : List Pk}, PicksAt H ks ps → Paired (fun p kv => SqT K H p [kV kv.1, kv.2]) ks (tabL ps)
  | [], [], _ => .nil
  | [], _ :: _, h => by cases h.len
  | _ :: _, [], h => by cases h.len
  | k :: ks, p :: ps, h => .cons (SqT.of (h.at_ 0 k p rfl rfl)) (PicksAt.paired ⟨Nat.succ.inj h.len, fun i k' p' e1 e2 => h.at_ (i + 1) k' p' e1 e2⟩)
def spPen (K : PySem.W.Frag) : Sp := fun vs H Q _ => ∃ (a : Addr) (ns : List Int), vs = [.ref a] ∧ SqL K H a (ns.map V.int) ∧ ns.length ≤ 63 ∧ ∀ p c H', H p = none → Same H H' → PenAt H' p c ns 0 0 → Q (.ref p) H'
def spPick (K : PySem.W.Frag) : Sp := fun vs H Q _ => ∃ (p c l : Addr) (ns : List Int) (n : Nat) (z : Int) (xs : List V), vs = [.ref p, .ref l] ∧ PenAt H p c ns n z ∧ n < 100000 ∧ l ≠ p ∧ SqL K H l xs ∧ 0 < xs.length ∧ xs.length < 1000 ∧
  ∀ (x : V) (n' : Nat) (z' : Int) (H' : Hp), x ∈ xs → n' ≤ n + 1 → PenAt H' p c ns n' z' → But p H H' → Q x H'
theorem small_int {i : Int} (h0 : 0 ≤ i) (h1 : i < 1000) : i.natAbs < 2 ^ 1000 := Nat.lt_of_lt_of_le (show i.natAbs < 1000 by omega) (by decide +kernel)
def spRow (K : PySem.W.Frag) : Sp := fun vs H Q _ => ∃ (p c b l : Addr) (ns : List Int) (n : Nat) (z : Int) (bs : List Str) (ms : List Int) (m : Nat), vs = [.ref p, .ref b, .ref l, .int m] ∧ m ≤ 10 ∧ PenAt H p c ns n z ∧ n + 30 < 100000 ∧ b ≠ p ∧ l ≠ p ∧
  SqL K H b (bs.map V.str) ∧ 0 < bs.length ∧ bs.length < 1000 ∧ SqL K H l (ms.map V.int) ∧ 0 < ms.length ∧ ms.length < 1000 ∧
  ∀ (r : Addr) (ks : List Addr) (ps : List Pk) (n' : Nat) (z' : Int) (H' : Hp), r ≠ p → H' r = some (.lst (ks.map V.ref)) → PicksAt H' ks ps → ps.length ≤ m → (∀ q ∈ ps, q.1 ∈ bs ∧ q.2 ∈ ms) → n' ≤ n + 30 → PenAt H' p c ns n' z' → But p H H' → Q (.ref r) H'
section
variable {P : Program} {w : World} {K : PySem.W.Frag} {mg : Str → Option Value} {base : Heap}
theorem scPe : FnScope ["_law_script"] ["_law_script"] (defScope sPen) := ⟨rfl, rfl, rfl, by decide +kernel, rfl, by decide +kernel, by decide +kernel⟩
theorem ok_pen {f : Addr} {fd : FuncData} (F : Fun K "_law_pen" "_law_pen" sPen f fd) (T : Nm mg) : FnOk P w K mg base CX0 1 f fd ["_law_script"] (spPen K) := by
  refine F.ok scPe (fun vs H Q E h => ?_) (fun cdv A outer s H vs Q E hr h => ?_)
  · obtain ⟨a, ns, rfl, _⟩ := h
    rfl
  · obtain ⟨a, ns, rfl, ha, hl, q⟩ := h
    refine ⟨_, (pss_one (ps_ret (pe_lst (pa_cons (pe_callTy call_list_of (by rfl) T.n_list (by decide +kernel) (pa_cons (pe_slice sl_list (pv 0) po_none (po_some pe_int)) pa_nil)) (pa_cons pe_int (pa_cons pe_int pa_nil)))))), ?_⟩
    have sz := sizeLine_eq
    refine ⟨_, rfl, 63, rfl, a, _, rfl, ha, ?_⟩
    rw [cut_63 hl]
    intro b hb
    refine ⟨b, _, rfl, .inl (SqL.of upd_same), fun c hc => ⟨by show (3 : Nat) ≤ sizeLine; omega, fun p hp => ?_⟩⟩
    have s3 := ((Same.of_new hb).trans (Same.of_new hc)).trans (Same.of_new (o := .lst [.ref c, .int 0, .int 0]) hp)
    exact q p c _ (((Same.of_new hb).trans (Same.of_new hc)).free hp) s3 ⟨upd_same, upd_keep2 upd_same hp, hl, by decide⟩
theorem scPi : FnScope ["_law_pen_here", "_law_some"] ["_law_pen_here", "_law_some"] (defScope sPick) := ⟨rfl, rfl, rfl, by decide +kernel, rfl, by decide +kernel, by decide +kernel⟩
theorem ok_pick {f fD : Addr} {fd fdD : FuncData} (F : Fun K "_law_pick" "_law_pick" sPick f fd) (T : Nm mg) (FD : Fun K "_law_draw" "_law_draw" sDraw fD fdD) (gD : mg "_law_draw" = some (.ref fD)) : FnOk P w K mg base CX0 2 f fd ["_law_pen_here", "_law_some"] (spPick K) := by
  have GD : FnOk P w K mg base CX0 1 fD fdD ["_law_pen_here", "_law_many"] spDraw := ok_draw FD T
  have bD : Binds K fdD ["_law_pen_here", "_law_many"] [] := FD.binds fun _ _ _ _ _ _ us hl => match us, hl with | [_, _], _ => rfl
  refine F.ok scPi (fun vs H Q E h => ?_) (fun cdv A outer s H vs Q E hr h => ?_)
  · obtain ⟨p, c, l, ns, n, z, xs, rfl, _⟩ := h
    rfl
  · obtain ⟨p, c, l, ns, n, z, xs, rfl, hp, hn, nl, hl, h0, h1, q⟩ := h
    refine ⟨_, (pss_one (ps_ret (pe_ix ix_list (pv 1) (pe_call GD hr (by rfl) gD FD.kp bD .nil pass0 (pa_cons (pv 0) (pa_cons (pe_callB call_len_seq (by rfl) T.n_len boot_len (pa_cons (pv 1) pa_nil)) pa_nil))) (fun _ _ => rfl)))), ?_⟩
    refine ⟨_, rfl, _, rfl, _, rfl, l, xs, rfl, .inl hl, p, c, ns, n, z, _, rfl, hp, hn, by omega, ?_, fun d n' z' H' d0 d1 hn' hp' s' => ?_⟩
    · have : (xs.length : Int).natAbs < 1000 := by omega
      exact Nat.lt_of_lt_of_le this (by decide +kernel)
    · obtain ⟨x, hx, ex⟩ := nth d0 d1
      exact ⟨l, xs, d, x, rfl, rfl, SqL.but hl nl s', ex, q x n' z' H' hx hn' hp' s'⟩
abbrev nRo : List Str := ["_law_pen_here", "_law_bays", "_law_keeps", "_law_top", "_law_k"]
theorem scRo : FnScope nRo ["_law_pen_here", "_law_bays", "_law_keeps", "_law_top"] (defScope sRow) := ⟨rfl, rfl, rfl, by decide +kernel, rfl, by decide +kernel, by decide +kernel⟩
theorem ok_row {f fD fP : Addr} {fd fdD fdP : FuncData} (F : Fun K "_law_row" "_law_row" sRow f fd) (T : Nm mg) (n_range : mg "range" = none) (FD : Fun K "_law_draw" "_law_draw" sDraw fD fdD) (gD : mg "_law_draw" = some (.ref fD)) (FP : Fun K "_law_pick" "_law_pick" sPick fP fdP) (gP : mg "_law_pick" = some (.ref fP)) : FnOk P w K mg base CX0 3 f fd ["_law_pen_here", "_law_bays", "_law_keeps", "_law_top"] (spRow K) := by
  have GD : FnOk P w K mg base CX0 2 fD fdD ["_law_pen_here", "_law_many"] spDraw := (ok_draw FD T).mono (by decide)
  have bD : Binds K fdD ["_law_pen_here", "_law_many"] [] := FD.binds fun _ _ _ _ _ _ us hl => match us, hl with | [_, _], _ => rfl
  have GP : FnOk P w K mg base CX0 2 fP fdP ["_law_pen_here", "_law_some"] (spPick K) := ok_pick FP T FD gD
  have bP : Binds K fdP ["_law_pen_here", "_law_some"] [] := FP.binds fun _ _ _ _ _ _ us hl => match us, hl with | [_, _], _ => rfl
  refine F.ok scRo (fun vs H Q E h => ?_) (fun cdv A outer s H vs Q E hr h => ?_)
  · obtain ⟨p, c, b, l, ns, n, z, bs, ms, m, rfl, _⟩ := h
    rfl
  · obtain ⟨p, c, b, l, ns, n, z, bs, ms, m, rfl, hm10, hp, hn, nb, nl, hb, b0, b1, hm, m0, m1, q⟩ := h
    refine ⟨_, (pss_one (ps_ret (pe_lc (own := [("_law_k", 4)]) (by rfl) scRo.nd (pi_range1 rfl n_range (pa_cons (pe_call GD hr (by rfl) gD FD.kp bD .nil pass0 (pa_cons (pv 0) (pa_cons (pe_op op_add (pv 3) pe_int) pa_nil))) pa_nil)) (blkOk_by (own := [("_law_k", 4)]) (N := nRo) (sc := defScope sRow) (by decide +kernel)) (fun _ _ _ _ _ => (pg_name (i := 4) scRo.nd rfl (Or.inl rfl))) (fun _ _ _ _ _ => pts_nil) (fun _ _ _ _ _ => (pe_tup (pa_cons (pe_call GP hr (by rfl) gP FP.kp bP .nil pass0 (pa_cons (pv 0) (pa_cons (pv 1) pa_nil))) (pa_cons (pe_call GP hr (by rfl) gP FP.kp bP .nil pass0 (pa_cons (pv 0) (pa_cons (pv 2) pa_nil))) pa_nil))))))), ?_⟩
    have sz := sizeLine_eq
    refine ⟨_, rfl, _, rfl, m, 1, rfl, rfl, p, c, ns, n, z, _, rfl, hp, by omega, by omega, small_int (by omega) (by omega), fun d n1 z1 H1 d0 d1 hn1 hp1 s1 => ⟨d, rfl, by omega, by omega, fun R hR => ?_⟩⟩
    have nR : R ≠ p := fun e => hp1.some (e ▸ hR)
    have nRc : c ≠ R := ne_of_none hp1.cells hR
    refine lc_it walk_range (fun i Hx => But p H1 Hx ∧ ∃ (n' : Nat) (z' : Int) (ks : List Addr) (ps : List Pk), PenAt Hx p c ns n' z' ∧ n' ≤ n + 1 + 2 * i ∧ Hx R = some (.lst (ks.map V.ref)) ∧ ks.length ≤ i ∧ PicksAt Hx ks ps ∧ ∀ q ∈ ps, q.1 ∈ bs ∧ q.2 ∈ ms)
      ⟨But.new hR, n1, z1, [], [], hp1.same (Same.of_new hR), by omega, upd_same, Nat.le_refl 0, PicksAt.nil, fun q h => by cases h⟩ (fun _ _ _ _ => True.intro) (fun i x Hx Hy hi q0 y => ?_) (fun Hx q0 => ?_)
    · obtain ⟨sB, n', z', ks, ps, pn, ln, eR, lk, pk, mem⟩ := q0
      obtain ⟨rfl, rfl⟩ := y
      refine ⟨rfl, ?_⟩
      have s2 : But p H Hy := s1.trans sB
      refine ⟨_, rfl, _, rfl, p, c, b, ns, n', z', _, rfl, pn, by omega, nb, SqL.but hb nb s2, by rw [List.length_map]; exact b0, by rw [List.length_map]; exact b1, fun x1 n2 z2 H2 hx1 hn2 hp2 s3 => ?_⟩
      obtain ⟨bq, hbq, rfl⟩ := List.mem_map.mp hx1
      have s4 : But p H H2 := s2.trans s3
      refine ⟨_, rfl, _, rfl, p, c, l, ns, n2, z2, _, rfl, hp2, by omega, nl, SqL.but hm nl s4, by rw [List.length_map]; exact m0, by rw [List.length_map]; exact m1, fun x2 n3 z3 H3 hx2 hn3 hp3 s5 => ?_⟩
      obtain ⟨mq, hmq, rfl⟩ := List.mem_map.mp hx2
      refine ⟨by show (2 : Nat) ≤ sizeLine; omega, fun T hT => ?_⟩
      have s6 : But p Hy H3 := s3.trans s5
      have eR3 := s6 R _ nR eR
      have nRT : R ≠ T := ne_of_none eR3 hT
      refine ⟨_, upd_keep2 eR3 hT, by rw [List.length_map]; omega, ?_, n3, z3, ks ++ [T], ps ++ [(bq, mq)], ?_, by omega, ?_, ?_, ?_, ?_⟩
      · intro a o na e
        rw [upd_ne (ne_of_none e hR)]
        exact upd_keep2 (s6 a o na (sB a o na e)) hT
      · exact (hp3.same (Same.of_new hT)).put (Ne.symm nR) nRc
      · rw [List.map_append]
        exact upd_same
      · rw [List.length_append]
        show ks.length + 1 ≤ i + 1
        omega
      · have p1 : PicksAt (upd H3 T (.tup [.str bq, .int mq])) ks ps := (pk.but pn s6).same (Same.of_new hT)
        have p2 := p1.snoc (k := T) (p := (bq, mq)) upd_same
        exact p2.upd fun xs e => by
          rw [upd_keep2 eR3 hT] at e
          cases e
      · intro q hq
        rcases List.mem_append.mp hq with h | h
        · exact mem q h
        · cases List.mem_singleton.mp h
          exact ⟨hbq, hmq⟩
    · obtain ⟨sB, n', z', ks, ps, pn, ln, eR, lk, pk, mem⟩ := q0
      have hd : d.toNat ≤ m := by omega
      exact q R ks ps n' z' Hx nR eR pk (by rw [← pk.len]; omega) mem (by omega) pn (s1.trans sB)
end
end K10
end
section
namespace K10
open PySem PySem.Spec PyProof.Rows L2
abbrev sChosen : Stmt := top 43
abbrev sAll : Stmt := top 44
abbrev sTolds : Stmt := top 45
abbrev sNear : Stmt := top 46
abbrev sSame : Stmt := top 47
/-! ### lists of picks, whatever their order -/
def PkOk (bs : List Str) (p : Pk) : Prop := p.1 ∈ bs ∧ 0 ≤ p.2 ∧ p.2 ≤ 3
def Els (bs : List Str) (H : Hp) (xs : List V) : Prop := ∀ x ∈ xs, ∃ (k : Addr) (p : Pk), x = .ref k ∧ H k = some (.tup [.str p.1, .int p.2]) ∧ PkOk bs p
theorem Els.same {bs : List Str} {H H' : Hp} {xs : List V} (h : Els bs H xs) (s : Same H H') : Els bs H' xs := fun x hx => by
  obtain ⟨k, p, e, t, o⟩ := h x hx
  exact ⟨k, p, e, s _ _ t, o⟩
theorem Els.but {bs : List Str} {H H' : Hp} {xs : List V} {p c : Addr} {ns : List Int} {n : Nat} {z : Int} (h : Els bs H xs) (P : PenAt H p c ns n z) (s : But p H H') : Els bs H' xs := fun x hx => by
  obtain ⟨k, q, e, t, o⟩ := h x hx
  refine ⟨k, q, e, s _ _ (fun w => ?_) t, o⟩
  rw [w, P.pen] at t
  cases t
theorem Els.sub {bs : List Str} {H : Hp} {xs ys : List V} (h : Els bs H xs) (s : ∀ y ∈ ys, y ∈ xs) : Els bs H ys := fun y hy => h y (s y hy)
theorem Els.app {bs : List Str} {H : Hp} {xs ys : List V} (h : Els bs H xs) (g : Els bs H ys) : Els bs H (xs ++ ys) := fun x hx => (List.mem_append.mp hx).elim (h x) (g x)
theorem Els.one {bs : List Str} {H : Hp} {k : Addr} {p : Pk} (t : H k = some (.tup [.str p.1, .int p.2])) (o : PkOk bs p) : Els bs H [.ref k] := fun x hx => by
  cases List.mem_singleton.mp hx
  exact ⟨k, p, rfl, t, o⟩
theorem Els.of {bs : List Str} {H : Hp} {ks : List Addr} {ps : List Pk} (h : PicksAt H ks ps) (o : ∀ p ∈ ps, PkOk bs p) : Els bs H (ks.map V.ref) := fun x hx => by
  obtain ⟨i, hi⟩ := List.getElem?_of_mem hx
  obtain ⟨k, p, rfl, hk, hp, tk⟩ := h.get hi
  exact ⟨k, p, rfl, tk, o p (List.mem_of_getElem? hp)⟩
theorem Els.picks {bs : List Str} {H : Hp} : ∀ {xs : List V}, Els bs H xs → ∃ (ks : List Addr) (ps : List Pk), xs = ks.map V.ref ∧ PicksAt H ks ps ∧ ∀ p ∈ ps, PkOk bs p
  | [], _ => ⟨[], [], rfl, PicksAt.nil, fun p h => by cases h⟩
  | x :: r, h => by
    obtain ⟨k, p, rfl, t, o⟩ := h x List.mem_cons_self
    obtain ⟨ks, ps, e, pk, g⟩ := Els.picks (fun y hy => h y (List.mem_cons_of_mem _ hy) : Els bs H r)
    refine ⟨k :: ks, p :: ps, by rw [e, List.map_cons], ⟨by rw [List.length_cons, List.length_cons, pk.len], fun i k2 p2 e1 e2 => ?_⟩, fun q hq => ?_⟩
    · cases i with
      | zero =>
        cases e1
        cases e2
        exact t
      | succ i => exact pk.at_ i k2 p2 e1 e2
    · rcases List.mem_cons.mp hq with rfl | hq
      · exact o
      · exact g q hq
theorem cut_mem {xs : List V} {lo hi : Option Int} {x : V} (h : x ∈ cutV xs lo hi) : x ∈ xs := List.mem_of_mem_drop (List.mem_of_mem_take h)
theorem cut_two {xs : List V} {j j' : Int} (h0 : 0 ≤ j) (h1 : j ≤ j') : (cutV xs none (some j)).length + (cutV xs (some j') none).length ≤ xs.length := by
  obtain ⟨a, rfl⟩ : ∃ a : Nat, j = (a : Int) := ⟨j.toNat, by omega⟩
  obtain ⟨b, rfl⟩ : ∃ b : Nat, j' = (b : Int) := ⟨j'.toNat, by omega⟩
  unfold cutV
  rw [HT.sIx_none, HT.sIx_none, HT.sIx_nat, HT.sIx_nat, List.length_take, List.length_take, List.length_drop, List.length_drop]
  omega
def spChosen (K : PySem.W.Frag) : Sp := fun vs H Q _ => ∃ (a d : Addr) (ks : List Addr) (ps : List Pk) (kvs : List (Key × V)) (N : Str → Option Int), vs = [.ref a, .ref d] ∧ SqL K H a (ks.map V.ref) ∧ PicksAt H ks ps ∧ Rd H d (.dK kvs) ∧ TabOf kvs N ∧ (∀ q ∈ ps, (N q.1).isSome = true) ∧ Q (optV (choose (fun z => (N z).getD 0) ps)) H
def spTolds (K : PySem.W.Frag) : Sp := fun vs H Q _ => ∃ (p c l : Addr) (ns : List Int) (n : Nat) (z : Int) (xs : List V) (bs : List Str), vs = [.ref p, .ref l] ∧ PenAt H p c ns n z ∧ n + 60 < 100000 ∧ l ≠ p ∧ H l = some (.lst xs) ∧ Els bs H xs ∧ xs.length ≤ 7 ∧
  ∀ (l' : Addr) (xs' : List V) (n' : Nat) (z' : Int) (H' : Hp), l' ≠ p → H' l' = some (.lst xs') → Els bs H' xs' → xs'.length ≤ 10 → n' ≤ n + 20 → PenAt H' p c ns n' z' → But p H H' → Q (.ref l') H'
def spNear (K : PySem.W.Frag) : Sp := fun vs H Q _ => ∃ (p c l b : Addr) (ns : List Int) (n : Nat) (z : Int) (xs : List V) (bs : List Str), vs = [.ref p, .ref l, .ref b] ∧ PenAt H p c ns n z ∧ n + 60 < 100000 ∧ l ≠ p ∧ b ≠ p ∧ H l = some (.lst xs) ∧ H b = some (.lst (bs.map V.str)) ∧ 0 < bs.length ∧ bs.length < 100 ∧ Els bs H xs ∧ xs.length ≤ 10 ∧
  ∀ (l' : Addr) (xs' : List V) (n' : Nat) (z' : Int) (H' : Hp), l' ≠ p → H' l' = some (.lst xs') → Els bs H' xs' → xs'.length ≤ 11 → n' ≤ n + 20 → PenAt H' p c ns n' z' → But p H H' → Q (.ref l') H'
section
variable {P : Program} {w : World} {K : PySem.W.Frag} {mg : Str → Option Value} {base : Heap}
abbrev nCh : List Str := ["_law_picks_so", "_law_open_so", "_law_bay", "_law_keep"]
theorem scCh : FnScope nCh ["_law_picks_so", "_law_open_so"] (defScope sChosen) := ⟨rfl, rfl, rfl, by decide +kernel, rfl, by decide +kernel, by decide +kernel⟩
theorem ok_chosen {f : Addr} {fd : FuncData} (F : Fun K "_law_chosen" "_law_chosen" sChosen f fd) : FnOk P w K mg base CX0 1 f fd ["_law_picks_so", "_law_open_so"] (spChosen K) := by
  refine F.ok scCh (fun vs H Q E h => ?_) (fun cdv A outer s H vs Q E hr h => ?_)
  · obtain ⟨a, d, ks, ps, kvs, N, rfl, _⟩ := h
    rfl
  · obtain ⟨a, d, ks, ps, kvs, N, rfl, ha, pk, hd, tb, has, q⟩ := h
    have hu : (A.deeper (envOfC "_law_chosen" (defScope sChosen) s.heap.objs.size f cdv)).units + 1 < cLine := (by have := hr.units; omega)
    refine ⟨_, (pss_cons (ps_for PassesOwn.never rfl (pi_list (pv 0)) (pg_tup rfl (pgs_cons (pg_name (i := 2) scCh.nd rfl (Or.inl rfl)) (pgs_cons (pg_name (i := 3) scCh.nd rfl (Or.inl rfl)) pgs_nil))) (pss_one (ps_if (pt_cmpR op_gt (pe_dget hu (pv 1) (pv 2) (fun _ _ => rfl)) (pv 3) (nomark _)) (pss_one (ps_ret (pv 2))) pss_nil)))
    (pss_one (ps_ret pe_non))), ?_⟩
    refine ⟨_, rfl, a, rfl, ⟨_, ha⟩, ?_⟩
    refine for_it (walk_list (xs := ks.map V.ref)) (fun i σ H' => H = H' ∧ (∃ x y, σ = [some (.ref a), some (.ref d), x, y]) ∧ choose (fun z => (N z).getD 0) ps = choose (fun z => (N z).getD 0) (ps.drop i)) ⟨rfl, ⟨none, none, rfl⟩, rfl⟩ (fun i σ H' _ q => q.1 ▸ ha) (fun i x σ H' H2 hi q0 y => ?_) (fun σ H' q0 => ?_)
    · obtain ⟨rfl, ⟨x0, y0, rfl⟩, ec⟩ := q0
      obtain ⟨rfl, hx⟩ := y
      obtain ⟨k, pp, rfl, hk, hpi, tk⟩ := pk.get hx
      obtain ⟨hi2, epi⟩ := List.getElem?_eq_some_iff.mp hpi
      have ed : ps.drop i = pp :: ps.drop (i + 1) := by
        rw [← epi]
        exact List.drop_eq_getElem_cons hi2
      obtain ⟨v, hv⟩ := Option.isSome_iff_exists.mp (has pp (List.mem_of_getElem? hpi))
      have g := tb.get hd pp.1
      rw [hv] at g
      refine ⟨k, _, rfl, .inl (.inl tk), rfl, _, _, rfl, _, _, rfl, rfl, ?_⟩
      refine ⟨_, rfl, _, rfl, d, .int v, rfl, g, _, rfl, _, _, rfl, rfl, _, rfl, ?_⟩
      rw [ed] at ec
      have ec2 : choose (fun z => (N z).getD 0) ps = if pp.2 < (N pp.1).getD 0 then some pp.1 else choose (fun z => (N z).getD 0) (ps.drop (i + 1)) := ec
      rw [hv] at ec2
      have ec2 : choose (fun z => (N z).getD 0) ps = if pp.2 < v then some pp.1 else choose (fun z => (N z).getD 0) (ps.drop (i + 1)) := ec2
      by_cases c : pp.2 < v
      · rw [decide_eq_true c]
        refine iteT ?_
        rw [if_pos c] at ec2
        refine ⟨_, rfl, ?_⟩
        rw [ec2] at q
        exact q
      · rw [decide_eq_false c]
        refine iteF ?_
        rw [if_neg c] at ec2
        exact ⟨rfl, ⟨_, _, rfl⟩, ec2⟩
    · obtain ⟨rfl, ⟨x0, y0, rfl⟩, ec⟩ := q0
      rw [List.length_map, pk.len, List.drop_length] at ec
      rw [ec] at q
      exact q
abbrev nTo : List Str := ["_law_pen_here", "_law_picks_so", "_law_found", "_law_turn", "_law_spot", "_law_bay", "_law_keep", "_law_later", "_law_pair"]
theorem scTo : FnScope nTo ["_law_pen_here", "_law_picks_so"] (defScope sTolds) := ⟨rfl, rfl, rfl, by decide +kernel, rfl, by decide +kernel, by decide +kernel⟩
theorem ok_tolds {f f_draw : Addr} {fd d_draw : FuncData} (F : Fun K "_law_told_otherwise" "_law_told_otherwise" sTolds f fd) (n_list : mg "list" = none) (n_len : mg "len" = none) (n_range : mg "range" = none)
    (g_draw : mg "_law_draw" = some (.ref f_draw)) (k_draw : PySem.W.keepIn K (.ref f_draw) = true) (b_draw : Binds K d_draw ["_law_pen_here", "_law_many"] []) (G_draw : FnOk P w K mg base CX0 1 f_draw d_draw ["_law_pen_here", "_law_many"] spDraw) : FnOk P w K mg base CX0 2 f fd ["_law_pen_here", "_law_picks_so"] (spTolds K) := by
  refine F.ok scTo (fun vs H Q E h => ?_) (fun cdv A outer s H vs Q E hr h => ?_)
  · obtain ⟨p, c, l, ns, n, z, xs, bs, rfl, _⟩ := h
    rfl
  · obtain ⟨p, c, l, ns, n, z, xs, bs, rfl, hp, hn, nl, el, els, lx, q⟩ := h
    have hr1 : Room 1 _ := hr
    refine ⟨_, (pss_cons (ps_set (i := 2) scTo.nd rfl (Or.inl rfl) (pe_callTy call_list_of (by rfl) n_list (by decide +kernel) (pa_cons (pv 1) pa_nil)))
    (pss_cons (ps_for PassesOwn.never rfl (pi_range1 rfl n_range (pa_cons (pe_call G_draw hr1 (by rfl) g_draw k_draw b_draw .nil pass0 (pa_cons (pv 0) (pa_cons pe_int pa_nil))) pa_nil)) (pg_name (i := 3) scTo.nd rfl (Or.inl rfl)) (pss_cons (ps_if (pt_cmpR (OwR.op_eqNil hr.units) (pv 2) (pe_lst pa_nil) (nomark _)) (pss_one (ps_ret (pv 2))) pss_nil)
    (pss_cons (ps_set (i := 4) scTo.nd rfl (Or.inl rfl) (pe_call G_draw hr1 (by rfl) g_draw k_draw b_draw .nil pass0 (pa_cons (pv 0) (pa_cons (pe_callB call_len_seq (by rfl) n_len boot_len (pa_cons (pv 2) pa_nil)) pa_nil))))
    (pss_cons (ps_asg (pe_ix ix_list (pv 2) (pv 4) (fun _ _ => rfl)) (pg_tup rfl (pgs_cons (pg_name (i := 5) scTo.nd rfl (Or.inl rfl)) (pgs_cons (pg_name (i := 6) scTo.nd rfl (Or.inl rfl)) pgs_nil))))
    (pss_one (ps_if (pt_cmpR op_eq (pe_call G_draw hr1 (by rfl) g_draw k_draw b_draw .nil pass0 (pa_cons (pv 0) (pa_cons pe_int pa_nil))) pe_int (nomark _)) (pss_cons (ps_set (i := 7) scTo.nd rfl (Or.inl rfl) (pe_op op_add (pe_op op_add (pv 4) pe_int) (pe_call G_draw hr1 (by rfl) g_draw k_draw b_draw .nil pass0 (pa_cons (pv 0) (pa_cons (pe_op op_sub (pe_callB call_len_seq (by rfl) n_len boot_len (pa_cons (pv 2) pa_nil)) (pv 4)) pa_nil)))))
    (pss_cons (ps_set (i := 8) scTo.nd rfl (Or.inl rfl) (pe_tup (pa_cons (pv 5) (pa_cons (pe_op op_add (pv 6) (pe_call G_draw hr1 (by rfl) g_draw k_draw b_draw .nil pass0 (pa_cons (pv 0) (pa_cons (pe_op op_sub pe_int (pv 6)) pa_nil)))) pa_nil))))
    (pss_one (ps_set (i := 2) scTo.nd rfl (Or.inl rfl) (pe_op op_cat (pe_op op_cat (pe_slice sl_list (pv 2) po_none (po_some (pv 7))) (pe_lst (pa_cons (pv 8) pa_nil))) (pe_slice sl_list (pv 2) (po_some (pv 7)) po_none)))))) (pss_one (ps_if (pt_cmpR op_lt (pv 6) pe_int (nomark _)) (pss_one (ps_set (i := 2) scTo.nd rfl (Or.inl rfl) (pe_op op_cat (pe_op op_cat (pe_slice sl_list (pv 2) po_none (po_some (pv 4))) (pe_lst (pa_cons (pe_tup (pa_cons (pv 5) (pa_cons (pe_op op_add (pe_op op_add (pv 6) pe_int) (pe_call G_draw hr1 (by rfl) g_draw k_draw b_draw .nil pass0 (pa_cons (pv 0) (pa_cons (pe_op op_sub pe_int (pv 6)) pa_nil)))) pa_nil))) pa_nil))) (pe_slice sl_list (pv 2) (po_some (pv 4)) po_none)))) pss_nil))))))))
    (pss_one (ps_ret (pv 2))))), ?_⟩
    have sz := sizeLine_eq
    refine ⟨_, rfl, l, _, rfl, .inl (SqL.of el), fun lf hlf => ?_⟩
    have s0 := Same.of_new (o := .lst xs) hlf
    have nlf : lf ≠ p := fun e => hp.some (e ▸ hlf)
    have elf : upd H lf (.lst xs) lf = some (.lst xs) := upd_same
    have pn0 := hp.same s0
    have els0 := els.same s0
    generalize upd H lf (.lst xs) = H0 at s0 elf pn0 els0 ⊢
    refine ⟨_, rfl, p, c, ns, n, z, 4, rfl, pn0, by omega, by decide, by decide +kernel, fun d n1 z1 H1 d0 d1 hn1 pn1 s1 => ?_⟩
    refine ⟨d, rfl, by omega, by omega, ?_⟩
    refine for_it walk_range (fun i σ Hx => (∃ lg x3 x4 x5 x6 x7 x8, σ = [some (.ref p), some (.ref l), some (.ref lg), x3, x4, x5, x6, x7, x8] ∧ lg ≠ p ∧ ∃ ys, Hx lg = some (.lst ys) ∧ Els bs Hx ys ∧ ys.length ≤ 7 + i) ∧ But p H Hx ∧ ∃ (n' : Nat) (z' : Int), PenAt Hx p c ns n' z' ∧ n' ≤ n + 1 + 4 * i)
      ⟨⟨lf, _, _, _, _, _, _, rfl, nlf, xs, s1 lf _ nlf elf, els0.but pn0 s1, by omega⟩, (Same.but p s0).trans s1, n1, z1, pn1, by omega⟩ (fun _ _ _ _ _ => True.intro) (fun i x σ Hx Hy hi q0 y => ?_) (fun σ Hx q0 => ?_)
    rotate_left
    · obtain ⟨⟨lg, x3, x4, x5, x6, x7, x8, rfl, nlg, ys, elg, ely, ly⟩, sB, n2, z2, pn2, ln2⟩ := q0
      have hd : d.toNat ≤ 3 := by omega
      exact ⟨_, rfl, q lg ys n2 z2 Hx nlg elg ely (by omega) (by omega) pn2 sB⟩
    obtain ⟨⟨lg, x3, x4, x5, x6, x7, x8, rfl, nlg, ys, elg, ely, ly⟩, sB, n2, z2, pn2, ln2⟩ := q0
    obtain ⟨rfl, rfl⟩ := y
    have hi3 : i < 3 := by omega
    refine ⟨_, rfl, Nat.zero_le _, fun e he => ?_⟩
    have s2 := Same.of_new (o := .lst []) he
    have elg2 := s2 lg _ elg
    refine ⟨lg, e, ys, rfl, rfl, SqL.of elg2, SqL.of upd_same, _, rfl, ?_⟩
    have pn3 := pn2.same s2
    have ely2 := ely.same s2
    have sB2 := sB.trans (Same.but p s2)
    generalize upd Hy e (.lst []) = H3 at s2 elg2 pn3 ely2 sB2 ⊢
    cases hys : ys.isEmpty with
    | true =>
      refine iteT ?_
      exact ⟨_, rfl, q lg ys n2 z2 H3 nlg elg2 ely2 (by omega) (by omega) pn3 sB2⟩
    | false =>
      refine iteF ?_
      have y0 : 0 < ys.length := by
        cases ys with
        | nil => cases hys
        | cons _ _ => exact Nat.succ_pos _
      -- the spot
      refine ⟨_, rfl, _, rfl, lg, ys, rfl, .inl (SqL.of elg2), p, c, ns, n2, z2, _, rfl, pn3, by omega, by omega, small_int (by omega) (by omega), fun t n3 z3 H4 t0 t1 hn3 pn4 s3 => ?_⟩
      have elg3 := s3 lg _ nlg elg2
      have ely3 := ely2.but pn3 s3
      obtain ⟨x, hx, ex⟩ := nth t0 t1
      obtain ⟨k, pq, rfl, tk, ok⟩ := ely3 x hx
      refine ⟨_, rfl, _, rfl, lg, ys, t, _, rfl, rfl, SqL.of elg3, ex, ?_⟩
      refine ⟨k, _, rfl, .inl (.inl tk), rfl, _, _, rfl, _, _, rfl, rfl, ?_⟩
      have ok1 := ok.2.1
      have ok2 := ok.2.2
      refine ⟨_, rfl, p, c, ns, n3, z3, 2, rfl, pn4, by omega, by decide, by decide +kernel, fun w1 n4 z4 H5 w0 w2 hn4 pn5 s4 => ?_⟩
      have elg4 := s4 lg _ nlg elg3
      have ely4 := ely3.but pn4 s4
      have sB4 := (sB2.trans s3).trans s4
      refine ⟨rfl, _, rfl, ?_⟩
      -- one pick more at a place
      have more : ∀ (H6 H7 H8 H9 H10 : Hp) (T a1 a2 a3 a4 a5 : Addr) (j : Int) (pr : Pk), True := fun _ _ _ _ _ _ _ _ _ _ _ _ _ => True.intro
      refine ite2 (fun c1 => ?_) (fun c1 => ?_)
      · refine ⟨_, rfl, _, _, rfl, rfl, _, rfl, _, rfl, lg, ys, rfl, .inl (SqL.of elg4), _, rfl, _, _, rfl, rfl, p, c, ns, n4, z4, _, rfl, pn5, by omega, by omega, small_int (by omega) (by omega), fun v n5 z5 H6 v0 v1 hn5 pn6 s5 => ?_⟩
        refine ⟨_, _, rfl, rfl, ?_⟩
        have elg5 := s5 lg _ nlg elg4
        have ely5 := ely4.but pn5 s5
        refine ⟨_, rfl, _, rfl, _, rfl, _, rfl, _, _, rfl, rfl, p, c, ns, n5, z5, _, rfl, pn6, by omega, by omega, small_int (by omega) (by omega), fun u n6 z6 H7 u0 u1 hn6 pn7 s6 => ?_⟩
        refine ⟨_, _, rfl, rfl, by show (2 : Nat) ≤ sizeLine; omega, fun T hT => ?_⟩
        have elg6 := s6 lg _ nlg elg5
        have ely6 := ely5.but pn6 s6
        have s7 := Same.of_new (o := .tup [.str pq.1, .int (pq.2 + u)]) hT
        have eT : upd H7 T (.tup [.str pq.1, .int (pq.2 + u)]) T = some (.tup [.str pq.1, .int (pq.2 + u)]) := upd_same
        have elg7 := s7 lg _ elg6
        have ely7 := ely6.same s7
        have pn8 := pn7.same s7
        have sB7 := ((sB4.trans s5).trans s6).trans (Same.but p s7)
        generalize upd H7 T (.tup [.str pq.1, .int (pq.2 + u)]) = H8 at s7 eT elg7 ely7 pn8 sB7 ⊢
        refine ⟨_, rfl, _, rfl, _, rfl, lg, ys, rfl, SqL.of elg7, fun a1 h1 => ?_⟩
        have s8 := Same.of_new (o := .lst (cutV ys none (some (t + 1 + v)))) h1
        refine ⟨_, rfl, by show (1 : Nat) ≤ sizeLine; omega, fun a2 h2 => ?_⟩
        have s9 := Same.of_new (o := .lst [.ref T]) h2
        have cl := cut_two (xs := ys) (j := t + 1 + v) (j' := t + 1 + v) (by omega) (Int.le_refl _)
        refine ⟨a1, a2, _, _, rfl, rfl, s9 a1 _ upd_same, upd_same, by show _ + 1 ≤ sizeLine; omega, fun a3 h3 => ?_⟩
        have s10 := Same.of_new (o := .lst (cutV ys none (some (t + 1 + v)) ++ [.ref T])) h3
        have sx := (s8.trans s9).trans s10
        refine ⟨_, rfl, _, rfl, _, rfl, lg, ys, rfl, SqL.of (sx lg _ elg7), fun a4 h4 => ?_⟩
        have s11 := Same.of_new (o := .lst (cutV ys (some (t + 1 + v)) none)) h4
        refine ⟨a3, a4, _, _, rfl, rfl, s11 a3 _ upd_same, upd_same, by rw [List.length_append]; show _ + 1 + _ ≤ sizeLine; omega, fun a5 h5 => ?_⟩
        have s12 := Same.of_new (o := .lst (cutV ys none (some (t + 1 + v)) ++ [.ref T] ++ cutV ys (some (t + 1 + v)) none)) h5
        have sy := (sx.trans s11).trans s12
        have pny := pn8.same sy
        refine ⟨⟨a5, _, _, _, _, _, _, rfl, fun e => ((pn8.same (sx.trans s11)).some (e ▸ h5)), _, upd_same, ?_, ?_⟩, sB7.trans (Same.but p sy), n6, z6, pny, by omega⟩
        · refine Els.app (Els.app ((ely7.same sy).sub fun y hy => cut_mem hy) (Els.one (p := (pq.1, pq.2 + u)) (sy T _ eT) ⟨ok.1, ?_, ?_⟩)) ((ely7.same sy).sub fun y hy => cut_mem hy)
          · show 0 ≤ pq.2 + u
            omega
          · show pq.2 + u ≤ 3
            omega
        · rw [List.length_append, List.length_append]
          show _ + 1 + _ ≤ 7 + (i + 1)
          omega
      · refine ⟨_, rfl, _, _, rfl, rfl, _, rfl, ?_⟩
        refine ite2 (fun c2 => ?_) (fun c2 => ?_)
        · have c2 : pq.2 < 3 := of_decide_eq_true c2
          refine ⟨_, rfl, _, rfl, _, rfl, lg, ys, rfl, SqL.of elg4, fun a1 h1 => ?_⟩
          have s8 := Same.of_new (o := .lst (cutV ys none (some t))) h1
          have ea1 : upd H5 a1 (.lst (cutV ys none (some t))) a1 = some (.lst (cutV ys none (some t))) := upd_same
          have pn6 := pn5.same s8
          have elg5 := s8 lg _ elg4
          have ely5 := ely4.same s8
          have na1 : a1 ≠ p := fun e => pn5.some (e ▸ h1)
          have sB5 := sB4.trans (Same.but p s8)
          generalize upd H5 a1 (.lst (cutV ys none (some t))) = H6 at s8 ea1 pn6 elg5 ely5 sB5 ⊢
          refine ⟨_, rfl, _, rfl, _, _, rfl, rfl, _, rfl, _, rfl, _, _, rfl, rfl, p, c, ns, n4, z4, _, rfl, pn6, by omega, by omega, small_int (by omega) (by omega), fun u n6 z6 H7 u0 u1 hn6 pn7 s6 => ?_⟩
          refine ⟨_, _, rfl, rfl, by show (2 : Nat) ≤ sizeLine; omega, fun T hT => ?_⟩
          have elg6 := s6 lg _ nlg elg5
          have ea6 := s6 a1 _ na1 ea1
          have ely6 := ely5.but pn6 s6
          have s7 := Same.of_new (o := .tup [.str pq.1, .int (pq.2 + 1 + u)]) hT
          have eT : upd H7 T (.tup [.str pq.1, .int (pq.2 + 1 + u)]) T = some (.tup [.str pq.1, .int (pq.2 + 1 + u)]) := upd_same
          have elg7 := s7 lg _ elg6
          have ea7 := s7 a1 _ ea6
          have ely7 := ely6.same s7
          have pn8 := pn7.same s7
          have sB7 := (sB5.trans s6).trans (Same.but p s7)
          generalize upd H7 T (.tup [.str pq.1, .int (pq.2 + 1 + u)]) = H8 at s7 eT elg7 ea7 ely7 pn8 sB7 ⊢
          refine ⟨by show (1 : Nat) ≤ sizeLine; omega, fun a2 h2 => ?_⟩
          have s9 := Same.of_new (o := .lst [.ref T]) h2
          have cl := cut_two (xs := ys) (j := t) (j' := t) (by omega) (Int.le_refl _)
          refine ⟨a1, a2, _, _, rfl, rfl, s9 a1 _ ea7, upd_same, by show _ + 1 ≤ sizeLine; omega, fun a3 h3 => ?_⟩
          have s10 := Same.of_new (o := .lst (cutV ys none (some t) ++ [.ref T])) h3
          have sx := s9.trans s10
          refine ⟨_, rfl, _, rfl, _, rfl, lg, ys, rfl, SqL.of (sx lg _ elg7), fun a4 h4 => ?_⟩
          have s11 := Same.of_new (o := .lst (cutV ys (some t) none)) h4
          refine ⟨a3, a4, _, _, rfl, rfl, s11 a3 _ upd_same, upd_same, by rw [List.length_append]; show _ + 1 + _ ≤ sizeLine; omega, fun a5 h5 => ?_⟩
          have s12 := Same.of_new (o := .lst (cutV ys none (some t) ++ [.ref T] ++ cutV ys (some t) none)) h5
          have sy := (sx.trans s11).trans s12
          have pny := pn8.same sy
          refine ⟨⟨a5, _, _, _, _, _, _, rfl, fun e => ((pn8.same (sx.trans s11)).some (e ▸ h5)), _, upd_same, ?_, ?_⟩, sB7.trans (Same.but p sy), n6, z6, pny, by omega⟩
          · refine Els.app (Els.app ((ely7.same sy).sub fun y hy => cut_mem hy) (Els.one (p := (pq.1, pq.2 + 1 + u)) (sy T _ eT) ⟨ok.1, ?_, ?_⟩)) ((ely7.same sy).sub fun y hy => cut_mem hy)
            · show 0 ≤ pq.2 + 1 + u
              omega
            · show pq.2 + 1 + u ≤ 3
              omega
          · rw [List.length_append, List.length_append]
            show _ + 1 + _ ≤ 7 + (i + 1)
            omega
        · exact ⟨⟨lg, _, _, _, _, _, _, rfl, nlg, ys, elg4, ely4, by omega⟩, sB4, n4, z4, pn5, by omega⟩
abbrev nNe : List Str := ["_law_pen_here", "_law_picks_so", "_law_bays", "_law_found", "_law_pair", "_law_way", "_law_spot", "_law_moved"]
theorem scNe : FnScope nNe ["_law_pen_here", "_law_picks_so", "_law_bays"] (defScope sNear) := ⟨rfl, rfl, rfl, by decide +kernel, rfl, by decide +kernel, by decide +kernel⟩
theorem ok_near {f f_draw f_pick : Addr} {fd d_draw d_pick : FuncData} (F : Fun K "_law_near" "_law_near" sNear f fd) (n_list : mg "list" = none) (n_len : mg "len" = none)
    (g_draw : mg "_law_draw" = some (.ref f_draw)) (k_draw : PySem.W.keepIn K (.ref f_draw) = true) (b_draw : Binds K d_draw ["_law_pen_here", "_law_many"] []) (G_draw : FnOk P w K mg base CX0 1 f_draw d_draw ["_law_pen_here", "_law_many"] spDraw)
    (g_pick : mg "_law_pick" = some (.ref f_pick)) (k_pick : PySem.W.keepIn K (.ref f_pick) = true) (b_pick : Binds K d_pick ["_law_pen_here", "_law_some"] []) (G_pick : FnOk P w K mg base CX0 2 f_pick d_pick ["_law_pen_here", "_law_some"] (spPick K)) : FnOk P w K mg base CX0 3 f fd ["_law_pen_here", "_law_picks_so", "_law_bays"] (spNear K) := by
  refine F.ok scNe (fun vs H Q E h => ?_) (fun cdv A outer s H vs Q E hr h => ?_)
  · obtain ⟨p, c, l, b, ns, n, z, xs, bs, rfl, _⟩ := h
    rfl
  · obtain ⟨p, c, l, b, ns, n, z, xs, bs, rfl, hp, hn, nl, nb, el, eb, b0, b1, els, lx, q⟩ := h
    have hr2 : Room 2 _ := hr
    have hr1 : Room 1 _ := hr.mono (by decide)
    refine ⟨_, (pss_cons (ps_set (i := 3) scNe.nd rfl (Or.inl rfl) (pe_callTy call_list_of (by rfl) n_list (by decide +kernel) (pa_cons (pv 1) pa_nil)))
    (pss_cons (ps_par (i := 4) (j := 5) (by rfl) scNe.nd rfl rfl (by decide) rfl rfl (pa_cons (pe_tup (pa_cons (pe_call G_pick hr2 (by rfl) g_pick k_pick b_pick .nil pass0 (pa_cons (pv 0) (pa_cons (pv 2) pa_nil))) (pa_cons (pe_call G_draw hr1 (by rfl) g_draw k_draw b_draw .nil pass0 (pa_cons (pv 0) (pa_cons pe_int pa_nil))) pa_nil))) (pa_cons (pe_call G_draw hr1 (by rfl) g_draw k_draw b_draw .nil pass0 (pa_cons (pv 0) (pa_cons pe_int pa_nil))) pa_nil)) (by rfl))
    (pss_cons (ps_if (PW.pt (pw_or (pt_cmpR (OwR.op_eqNil hr.units) (pv 3) (pe_lst pa_nil) (nomark _)) (pw_or1 (pt_cmpR op_eq (pv 5) pe_int (nomark _))))) (pss_cons (ps_set (i := 6) scNe.nd rfl (Or.inl rfl) (pe_call G_draw hr1 (by rfl) g_draw k_draw b_draw .nil pass0 (pa_cons (pv 0) (pa_cons (pe_op op_add (pe_callB call_len_seq (by rfl) n_len boot_len (pa_cons (pv 3) pa_nil)) pe_int) pa_nil))))
    (pss_one (ps_ret (pe_op op_cat (pe_op op_cat (pe_slice sl_list (pv 3) po_none (po_some (pv 6))) (pe_lst (pa_cons (pv 4) pa_nil))) (pe_slice sl_list (pv 3) (po_some (pv 6)) po_none))))) pss_nil)
    (pss_cons (ps_set (i := 6) scNe.nd rfl (Or.inl rfl) (pe_call G_draw hr1 (by rfl) g_draw k_draw b_draw .nil pass0 (pa_cons (pv 0) (pa_cons (pe_callB call_len_seq (by rfl) n_len boot_len (pa_cons (pv 3) pa_nil)) pa_nil))))
    (pss_cons (ps_if (pt_cmpR op_eq (pv 5) pe_int (nomark _)) (pss_one (ps_ret (pe_op op_cat (pe_slice sl_list (pv 3) po_none (po_some (pv 6))) (pe_slice sl_list (pv 3) (po_some (pe_op op_add (pv 6) pe_int)) po_none)))) pss_nil)
    (pss_cons (ps_if (pt_cmpR op_eq (pv 5) pe_int (nomark _)) (pss_one (ps_ret (pe_op op_cat (pe_op op_cat (pe_slice sl_list (pv 3) po_none (po_some (pv 6))) (pe_lst (pa_cons (pv 4) pa_nil))) (pe_slice sl_list (pv 3) (po_some (pe_op op_add (pv 6) pe_int)) po_none)))) pss_nil)
    (pss_cons (ps_set (i := 7) scNe.nd rfl (Or.inl rfl) (pe_bm PySem.F.plainAttrs_list PySem.F.slot_list_pop PySem.F.type_list_pop mt_popAt (pv 3) (pa_cons (pv 6) pa_nil)))
    (pss_cons (ps_set (i := 6) scNe.nd rfl (Or.inl rfl) (pe_call G_draw hr1 (by rfl) g_draw k_draw b_draw .nil pass0 (pa_cons (pv 0) (pa_cons (pe_op op_add (pe_callB call_len_seq (by rfl) n_len boot_len (pa_cons (pv 3) pa_nil)) pe_int) pa_nil))))
    (pss_one (ps_ret (pe_op op_cat (pe_op op_cat (pe_slice sl_list (pv 3) po_none (po_some (pv 6))) (pe_lst (pa_cons (pv 7) pa_nil))) (pe_slice sl_list (pv 3) (po_some (pv 6)) po_none)))))))))))), ?_⟩
    have sz := sizeLine_eq
    refine ⟨_, rfl, l, _, rfl, .inl (SqL.of el), fun lf hlf => ?_⟩
    have s0 := Same.of_new (o := .lst xs) hlf
    have nlf : lf ≠ p := fun e => hp.some (e ▸ hlf)
    have nlc : c ≠ lf := ne_of_none hp.cells hlf
    have elf : upd H lf (.lst xs) lf = some (.lst xs) := upd_same
    have pn0 := hp.same s0
    have els0 := els.same s0
    have eb0 := s0 b _ eb
    generalize upd H lf (.lst xs) = H0 at s0 elf pn0 els0 eb0 ⊢
    refine ⟨_, rfl, _, rfl, p, c, b, ns, n, z, bs.map V.str, rfl, pn0, by omega, nb, SqL.of eb0, by rw [List.length_map]; exact b0, by rw [List.length_map]; omega, fun x n1 z1 H1 hx hn1 pn1 s1 => ?_⟩
    obtain ⟨bq, hbq, rfl⟩ := List.mem_map.mp hx
    refine ⟨_, rfl, p, c, ns, n1, z1, 4, rfl, pn1, by omega, by decide, by decide +kernel, fun k n2 z2 H2 k0 k4 hn2 pn2 s2 => ?_⟩
    refine ⟨by show (2 : Nat) ≤ sizeLine; omega, fun T hT => ?_⟩
    have s3 := Same.of_new (o := .tup [.str bq, .int k]) hT
    have eT3 : upd H2 T (.tup [.str bq, .int k]) T = some (.tup [.str bq, .int k]) := upd_same
    have nT : T ≠ p := fun e => pn2.some (e ▸ hT)
    have pn3 := pn2.same s3
    have el3 := s3 lf _ (s2 lf _ nlf (s1 lf _ nlf elf))
    have ely3 := ((els0.but pn0 s1).but pn1 s2).same s3
    have sB3 := (((Same.but p s0).trans s1).trans s2).trans (Same.but p s3)
    generalize upd H2 T (.tup [.str bq, .int k]) = H3 at s3 eT3 pn3 el3 ely3 sB3 ⊢
    refine ⟨_, rfl, p, c, ns, n2, z2, 4, rfl, pn3, by omega, by decide, by decide +kernel, fun way n3 z3 H4 w0 w4 hn3 pn4 s4 => ?_⟩
    refine ⟨_, _, rfl, ?_⟩
    have eT4 := s4 T _ nT eT3
    have el4 := s4 lf _ nlf el3
    have ely4 := ely3.but pn3 s4
    have sB4 := sB3.trans s4
    have okP : PkOk bs (bq, k) := ⟨hbq, k0, by show k ≤ 3; omega⟩
    refine ⟨_, rfl, Nat.zero_le _, fun e he => ?_⟩
    have s5 := Same.of_new (o := .lst []) he
    refine ⟨lf, e, xs, rfl, rfl, SqL.of (s5 lf _ el4), SqL.of upd_same, _, rfl, ?_⟩
    have el6 := s5 lf _ el4
    have eT6 := s5 T _ eT4
    have ely6 := ely4.same s5
    have pn6 := pn4.same s5
    have sB6 := sB4.trans (Same.but p s5)
    generalize upd H4 e (.lst []) = H6 at s5 el6 eT6 ely6 pn6 sB6 ⊢
    generalize xs = ys at *
    cases hys : ys.isEmpty with
    | true =>
      refine iteT ?_
      refine ⟨_, rfl, _, rfl, lf, ys, rfl, .inl (SqL.of el6), _, _, rfl, rfl, p, c, ns, n3, z3, _, rfl, pn6, by omega, by omega, small_int (by omega) (by omega), fun t n4 z4 H7 t0 t1 hn4 pn7 s7 => ?_⟩
      have el7 := s7 lf _ nlf el6
      have eT7 := s7 T _ nT eT6
      have ely7 := ely6.but pn6 s7
      have sB7 := sB6.trans s7
      refine ⟨_, rfl, _, rfl, _, rfl, lf, ys, rfl, SqL.of el7, fun a1 h1 => ?_⟩
      have s8 := Same.of_new (o := .lst (cutV ys none (some (t)))) h1
      refine ⟨_, rfl, by show (1 : Nat) ≤ sizeLine; omega, fun a2 h2 => ?_⟩
      have s9 := Same.of_new (o := .lst [.ref T]) h2
      have cl := cut_two (xs := ys) (j := t) (j' := t) (by omega) (by omega)
      refine ⟨a1, a2, _, _, rfl, rfl, s9 a1 _ upd_same, upd_same, by show _ + 1 ≤ sizeLine; omega, fun a3 h3 => ?_⟩
      have s10 := Same.of_new (o := .lst (cutV ys none (some (t)) ++ [.ref T])) h3
      have sx := (s8.trans s9).trans s10
      refine ⟨_, rfl, _, rfl, _, rfl, lf, ys, rfl, SqL.of (sx lf _ el7), fun a4 h4 => ?_⟩
      have s11 := Same.of_new (o := .lst (cutV ys (some (t)) none)) h4
      refine ⟨a3, a4, _, _, rfl, rfl, s11 a3 _ upd_same, upd_same, by rw [List.length_append]; show _ + 1 + _ ≤ sizeLine; omega, fun a5 h5 => ?_⟩
      have s12 := Same.of_new (o := .lst (cutV ys none (some (t)) ++ [.ref T] ++ cutV ys (some (t)) none)) h5
      have sy := (sx.trans s11).trans s12
      refine q a5 _ n4 z4 _ (fun e => ((pn7.same (sx.trans s11)).some (e ▸ h5))) upd_same ?_ ?_ (by omega) (pn7.same sy) (sB7.trans (Same.but p sy))
      · exact Els.app (Els.app ((ely7.same sy).sub fun y hy => cut_mem hy) (Els.one (p := (bq, k)) (sy T _ eT7) okP)) ((ely7.same sy).sub fun y hy => cut_mem hy)
      · rw [List.length_append, List.length_append]
        show _ + 1 + _ ≤ 11
        omega
    | false =>
      have y0 : 0 < ys.length := by
        cases ys with
        | nil => cases hys
        | cons _ _ => exact Nat.succ_pos _
      refine iteF ?_
      refine ⟨_, rfl, rfl, _, rfl, ?_⟩
      refine ite2 (fun c1 => ?_) (fun c1 => ?_)
      · refine ⟨_, rfl, _, rfl, lf, ys, rfl, .inl (SqL.of el6), _, _, rfl, rfl, p, c, ns, n3, z3, _, rfl, pn6, by omega, by omega, small_int (by omega) (by omega), fun t n4 z4 H7 t0 t1 hn4 pn7 s7 => ?_⟩
        have el7 := s7 lf _ nlf el6
        have eT7 := s7 T _ nT eT6
        have ely7 := ely6.but pn6 s7
        have sB7 := sB6.trans s7
        refine ⟨_, rfl, _, rfl, _, rfl, lf, ys, rfl, SqL.of el7, fun a1 h1 => ?_⟩
        have s8 := Same.of_new (o := .lst (cutV ys none (some (t)))) h1
        refine ⟨_, rfl, by show (1 : Nat) ≤ sizeLine; omega, fun a2 h2 => ?_⟩
        have s9 := Same.of_new (o := .lst [.ref T]) h2
        have cl := cut_two (xs := ys) (j := t) (j' := t) (by omega) (by omega)
        refine ⟨a1, a2, _, _, rfl, rfl, s9 a1 _ upd_same, upd_same, by show _ + 1 ≤ sizeLine; omega, fun a3 h3 => ?_⟩
        have s10 := Same.of_new (o := .lst (cutV ys none (some (t)) ++ [.ref T])) h3
        have sx := (s8.trans s9).trans s10
        refine ⟨_, rfl, _, rfl, _, rfl, lf, ys, rfl, SqL.of (sx lf _ el7), fun a4 h4 => ?_⟩
        have s11 := Same.of_new (o := .lst (cutV ys (some (t)) none)) h4
        refine ⟨a3, a4, _, _, rfl, rfl, s11 a3 _ upd_same, upd_same, by rw [List.length_append]; show _ + 1 + _ ≤ sizeLine; omega, fun a5 h5 => ?_⟩
        have s12 := Same.of_new (o := .lst (cutV ys none (some (t)) ++ [.ref T] ++ cutV ys (some (t)) none)) h5
        have sy := (sx.trans s11).trans s12
        refine q a5 _ n4 z4 _ (fun e => ((pn7.same (sx.trans s11)).some (e ▸ h5))) upd_same ?_ ?_ (by omega) (pn7.same sy) (sB7.trans (Same.but p sy))
        · exact Els.app (Els.app ((ely7.same sy).sub fun y hy => cut_mem hy) (Els.one (p := (bq, k)) (sy T _ eT7) okP)) ((ely7.same sy).sub fun y hy => cut_mem hy)
        · rw [List.length_append, List.length_append]
          show _ + 1 + _ ≤ 11
          omega
      · refine ⟨_, rfl, _, rfl, lf, ys, rfl, .inl (SqL.of el6), p, c, ns, n3, z3, _, rfl, pn6, by omega, by omega, small_int (by omega) (by omega), fun t n4 z4 H7 t0 t1 hn4 pn7 s7 => ?_⟩
        have el7 := s7 lf _ nlf el6
        have eT7 := s7 T _ nT eT6
        have ely7 := ely6.but pn6 s7
        have sB7 := sB6.trans s7
        refine ⟨_, rfl, rfl, _, rfl, ?_⟩
        refine ite2 (fun c2 => ?_) (fun c2 => ?_)
        · refine ⟨_, rfl, _, rfl, _, rfl, lf, ys, rfl, SqL.of el7, fun a1 h1 => ?_⟩
          have s8 := Same.of_new (o := .lst (cutV ys none (some t))) h1
          refine ⟨_, rfl, _, rfl, _, _, rfl, rfl, _, rfl, lf, ys, rfl, SqL.of (s8 lf _ el7), fun a4 h4 => ?_⟩
          have s11 := Same.of_new (o := .lst (cutV ys (some (t + 1)) none)) h4
          have cl := cut_two (xs := ys) (j := t) (j' := t + 1) (by omega) (by omega)
          refine ⟨a1, a4, _, _, rfl, rfl, s11 a1 _ upd_same, upd_same, by omega, fun a5 h5 => ?_⟩
          have s12 := Same.of_new (o := .lst (cutV ys none (some t) ++ cutV ys (some (t + 1)) none)) h5
          have sy := (s8.trans s11).trans s12
          refine q a5 _ n4 z4 _ (fun e => ((pn7.same (s8.trans s11)).some (e ▸ h5))) upd_same ?_ ?_ (by omega) (pn7.same sy) (sB7.trans (Same.but p sy))
          · exact Els.app ((ely7.same sy).sub fun y hy => cut_mem hy) ((ely7.same sy).sub fun y hy => cut_mem hy)
          · rw [List.length_append]
            omega
        · refine ⟨_, rfl, rfl, _, rfl, ?_⟩
          refine ite2 (fun c3 => ?_) (fun c3 => ?_)
          · refine ⟨_, rfl, _, rfl, _, rfl, lf, ys, rfl, SqL.of el7, fun a1 h1 => ?_⟩
            have s8 := Same.of_new (o := .lst (cutV ys none (some (t)))) h1
            refine ⟨_, rfl, by show (1 : Nat) ≤ sizeLine; omega, fun a2 h2 => ?_⟩
            have s9 := Same.of_new (o := .lst [.ref T]) h2
            have cl := cut_two (xs := ys) (j := t) (j' := t + 1) (by omega) (by omega)
            refine ⟨a1, a2, _, _, rfl, rfl, s9 a1 _ upd_same, upd_same, by show _ + 1 ≤ sizeLine; omega, fun a3 h3 => ?_⟩
            have s10 := Same.of_new (o := .lst (cutV ys none (some (t)) ++ [.ref T])) h3
            have sx := (s8.trans s9).trans s10
            refine ⟨_, rfl, _, rfl, _, _, rfl, rfl, _, rfl, lf, ys, rfl, SqL.of (sx lf _ el7), fun a4 h4 => ?_⟩
            have s11 := Same.of_new (o := .lst (cutV ys (some (t + 1)) none)) h4
            refine ⟨a3, a4, _, _, rfl, rfl, s11 a3 _ upd_same, upd_same, by rw [List.length_append]; show _ + 1 + _ ≤ sizeLine; omega, fun a5 h5 => ?_⟩
            have s12 := Same.of_new (o := .lst (cutV ys none (some (t)) ++ [.ref T] ++ cutV ys (some (t + 1)) none)) h5
            have sy := (sx.trans s11).trans s12
            refine q a5 _ n4 z4 _ (fun e => ((pn7.same (sx.trans s11)).some (e ▸ h5))) upd_same ?_ ?_ (by omega) (pn7.same sy) (sB7.trans (Same.but p sy))
            · exact Els.app (Els.app ((ely7.same sy).sub fun y hy => cut_mem hy) (Els.one (p := (bq, k)) (sy T _ eT7) okP)) ((ely7.same sy).sub fun y hy => cut_mem hy)
            · rw [List.length_append, List.length_append]
              show _ + 1 + _ ≤ 11
              omega
          · obtain ⟨j, rfl⟩ : ∃ j : Nat, t = (j : Int) := ⟨t.toNat, by omega⟩
            have hj : j < ys.length := by omega
            obtain ⟨km, pm, em, tm, om⟩ := ely7 ys[j] (List.getElem_mem hj)
            refine ⟨_, rfl, .inl ⟨rfl, _, SqL.of el7⟩, _, rfl, lf, ys, (j : Int), j, ys[j], rfl, rfl, el7, by omega, by omega, by simp [seqIndex?]; omega, List.getElem?_eq_getElem hj, ?_⟩
            rw [em]
            have pn8 : PenAt (upd H7 lf (.lst (ys.eraseIdx j))) p c ns n4 z4 := pn7.put (Ne.symm nlf) nlc
            have el8 : upd H7 lf (.lst (ys.eraseIdx j)) lf = some (.lst (ys.eraseIdx j)) := upd_same
            have off : ∀ {k : Addr} {zs : List V}, H7 k = some (.tup zs) → upd H7 lf (.lst (ys.eraseIdx j)) k = some (.tup zs) := fun {k zs} e => by
              rw [upd_ne (fun w => by rw [w, el7] at e; cases e)]
              exact e
            have tm8 := off tm
            have ely8 : Els bs (upd H7 lf (.lst (ys.eraseIdx j))) (ys.eraseIdx j) := fun x hx => by
              obtain ⟨k2, p2, e2, t2, o2⟩ := ely7 x (List.mem_of_mem_eraseIdx hx)
              exact ⟨k2, p2, e2, off t2, o2⟩
            have le := List.length_eraseIdx_of_lt hj
            have sB8 : But p H (upd H7 lf (.lst (ys.eraseIdx j))) := fun b2 o nb2 e => by
              have : b2 ≠ lf := ne_of_none e hlf
              rw [upd_ne this]
              exact sB7 b2 o nb2 e
            have nkm : km ≠ p := fun e => by
              rw [e, pn7.pen] at tm
              cases tm
            generalize upd H7 lf (.lst (ys.eraseIdx j)) = H8 at pn8 el8 tm8 ely8 sB8 ⊢
            generalize ys.eraseIdx j = zs at *
            refine ⟨_, rfl, _, rfl, lf, zs, rfl, .inl (SqL.of el8), _, _, rfl, rfl, p, c, ns, n4, z4, _, rfl, pn8, by omega, by omega, small_int (by omega) (by omega), fun t n5 z5 H9 t0 t1 hn5 pn9 s9 => ?_⟩
            have el9 := s9 lf _ nlf el8
            have tm9 := s9 km _ nkm tm8
            have ely9 := ely8.but pn8 s9
            have sB9 := sB8.trans s9
            refine ⟨_, rfl, _, rfl, _, rfl, lf, zs, rfl, SqL.of el9, fun a1 h1 => ?_⟩
            have s8 := Same.of_new (o := .lst (cutV zs none (some (t)))) h1
            refine ⟨_, rfl, by show (1 : Nat) ≤ sizeLine; omega, fun a2 h2 => ?_⟩
            have s9 := Same.of_new (o := .lst [.ref km]) h2
            have cl := cut_two (xs := zs) (j := t) (j' := t) (by omega) (by omega)
            refine ⟨a1, a2, _, _, rfl, rfl, s9 a1 _ upd_same, upd_same, by show _ + 1 ≤ sizeLine; omega, fun a3 h3 => ?_⟩
            have s10 := Same.of_new (o := .lst (cutV zs none (some (t)) ++ [.ref km])) h3
            have sx := (s8.trans s9).trans s10
            refine ⟨_, rfl, _, rfl, _, rfl, lf, zs, rfl, SqL.of (sx lf _ el9), fun a4 h4 => ?_⟩
            have s11 := Same.of_new (o := .lst (cutV zs (some (t)) none)) h4
            refine ⟨a3, a4, _, _, rfl, rfl, s11 a3 _ upd_same, upd_same, by rw [List.length_append]; show _ + 1 + _ ≤ sizeLine; omega, fun a5 h5 => ?_⟩
            have s12 := Same.of_new (o := .lst (cutV zs none (some (t)) ++ [.ref km] ++ cutV zs (some (t)) none)) h5
            have sy := (sx.trans s11).trans s12
            refine q a5 _ n5 z5 _ (fun e => ((pn9.same (sx.trans s11)).some (e ▸ h5))) upd_same ?_ ?_ (by omega) (pn9.same sy) (sB9.trans (Same.but p sy))
            · exact Els.app (Els.app ((ely9.same sy).sub fun y hy => cut_mem hy) (Els.one (p := pm) (sy km _ tm9) om)) ((ely9.same sy).sub fun y hy => cut_mem hy)
            · rw [List.length_append, List.length_append]
              show _ + 1 + _ ≤ 11
              omega
end
end K10
end
section
namespace K10
open PySem
/-! ### free places from 0 to 4 tell rules with keeps to 3 apart -/
def In4 (f : Str → Int) : Prop := ∀ z, 0 ≤ f z ∧ f z ≤ 4
def To3 (l : List Pk) : Prop := ∀ p ∈ l, 0 ≤ p.2 ∧ p.2 ≤ 3
theorem no_less4 {x : Str} {k m : Int} {a b : List Pk} (ha : Norm ((x, k) :: a)) (ta : To3 ((x, k) :: a)) (m0 : 0 ≤ m) (h : ∀ f, In4 f → choose f ((x, k) :: a) = choose f ((x, m) :: b)) (lt : m < k) : False := by
  obtain ⟨h1, h2, h3, h4⟩ := ha
  have tk : k ≤ 3 := (ta (x, k) List.mem_cons_self).2
  cases a with
  | nil =>
    have e := h (fun z => m + 1) fun z => ⟨by show 0 ≤ m + 1; omega, by show m + 1 ≤ 4; omega⟩
    rw [choose_tail (p := (x, k)) (by show ¬ k < m + 1; omega), choose_head (p := (x, m)) (by show m < m + 1; omega)] at e
    cases e
  | cons q r =>
    have ne : q.1 ≠ x := h2 q rfl
    have tq := ta q (List.mem_cons_of_mem _ List.mem_cons_self)
    have e := h (fun z => if z = x then m + 1 else q.2 + 1) fun z => by
      show 0 ≤ (if z = x then m + 1 else q.2 + 1) ∧ (if z = x then m + 1 else q.2 + 1) ≤ 4
      split <;> exact ⟨by omega, by omega⟩
    rw [choose_tail (p := (x, k)) (by show ¬ k < (if x = x then m + 1 else q.2 + 1); rw [if_pos rfl]; omega), choose_head (p := q) (by rw [if_neg ne]; omega), choose_head (p := (x, m)) (by show m < (if x = x then m + 1 else q.2 + 1); rw [if_pos rfl]; omega)] at e
    exact ne (Option.some.inj e)
theorem uniq4 : ∀ (a b : List Pk), Norm a → Norm b → To3 a → To3 b → (∀ f, In4 f → choose f a = choose f b) → a = b
  | [], [], _, _, _, _, _ => rfl
  | [], (y, m) :: b, _, _, _, tb, h => by
    have t := tb (y, m) List.mem_cons_self
    have e := h (fun _ => m + 1) fun z => ⟨by have := t.1; show 0 ≤ m + 1; have h0 : 0 ≤ m := this; omega, by have h3 : m ≤ 3 := t.2; show m + 1 ≤ 4; omega⟩
    rw [choose_head (p := (y, m)) (by show m < m + 1; omega)] at e
    cases e
  | (x, k) :: a, [], _, _, ta, _, h => by
    have t := ta (x, k) List.mem_cons_self
    have e := h (fun _ => k + 1) fun z => ⟨by have h0 : 0 ≤ k := t.1; show 0 ≤ k + 1; omega, by have h3 : k ≤ 3 := t.2; show k + 1 ≤ 4; omega⟩
    rw [choose_head (p := (x, k)) (by show k < k + 1; omega)] at e
    cases e
  | (x, k) :: a, (y, m) :: b, ha, hb, ta, tb, h => by
    have k0 : 0 ≤ k := (ta (x, k) List.mem_cons_self).1
    have k3 : k ≤ 3 := (ta (x, k) List.mem_cons_self).2
    have m0 : 0 ≤ m := (tb (y, m) List.mem_cons_self).1
    have m3 : m ≤ 3 := (tb (y, m) List.mem_cons_self).2
    have exy : x = y := by
      by_cases c : x = y
      · exact c
      · have e := h (fun z => if z = x then k + 1 else m + 1) fun z => by
          show 0 ≤ (if z = x then k + 1 else m + 1) ∧ (if z = x then k + 1 else m + 1) ≤ 4
          split <;> exact ⟨by omega, by omega⟩
        rw [choose_head (p := (x, k)) (by show k < (if x = x then k + 1 else m + 1); rw [if_pos rfl]; omega), choose_head (p := (y, m)) (by show m < (if y = x then k + 1 else m + 1); rw [if_neg fun q => c q.symm]; omega)] at e
        exact Option.some.inj e
    subst exy
    have ekm : k = m := by
      rcases Int.lt_trichotomy k m with c | c | c
      · exact (no_less4 hb tb k0 (fun f i => (h f i).symm) c).elim
      · exact c
      · exact (no_less4 ha ta m0 h c).elim
    subst ekm
    have cut : ∀ (l : List Pk), (∀ q ∈ l, q.1 = x → q.2 < k) → ∀ f : Str → Int, choose f l = choose (fun z => if z = x then min (f x) k else f z) ((x, k) :: l) := fun l hl f => by
      rw [choose_tail (p := (x, k)) (by show ¬ k < (if x = x then min (f x) k else f x); rw [if_pos rfl]; omega)]
      refine choose_congr fun p hp => ?_
      by_cases c : p.1 = x
      · have := hl p hp c
        rw [if_pos c, c]
        omega
      · rw [if_neg c]
    rw [uniq4 a b ha.2.2.2 hb.2.2.2 (fun p hp => ta p (List.mem_cons_of_mem _ hp)) (fun p hp => tb p (List.mem_cons_of_mem _ hp)) fun f i => by
      rw [cut a ha.1 f, cut b hb.1 f, h _ fun z => ?_]
      show 0 ≤ (if z = x then min (f x) k else f z) ∧ (if z = x then min (f x) k else f z) ≤ 4
      have i1 := i x
      have i2 := i z
      split
      · exact ⟨by omega, by omega⟩
      · exact i2]
/-! ### all tables of numbers from 0 to 4 -/
def fives (t : List Pk) (b : Str) (m : Nat) : List (List Pk) := (List.range m).map fun (j : Nat) => t ++ [(b, 0 + (j : Int))]
def stepS (acc : List (List Pk)) (b : Str) : List (List Pk) := acc.flatMap fun t => fives t b 5
def spaces (bs : List Str) : List (List Pk) := bs.foldl stepS [[]]
theorem spaces_succ (bs : List Str) (i : Nat) (b : Str) (h : bs[i]? = some b) : spaces (bs.take (i + 1)) = stepS (spaces (bs.take i)) b := by
  unfold spaces
  rw [List.take_add_one, h, List.foldl_append]
  rfl
theorem fives_succ (t : List Pk) (b : Str) (m : Nat) : fives t b (m + 1) = fives t b m ++ [t ++ [(b, 0 + (m : Int))]] := by
  unfold fives
  rw [List.range_succ, List.map_append]
  rfl
theorem fives_len (t : List Pk) (b : Str) (m : Nat) : (fives t b m).length = m := by
  unfold fives
  rw [List.length_map, List.length_range]
theorem stepS_len (b : Str) : ∀ acc : List (List Pk), (stepS acc b).length = 5 * acc.length
  | [] => rfl
  | t :: r => by
    have ih := stepS_len b r
    unfold stepS at ih ⊢
    rw [List.flatMap_cons, List.length_append, ih, fives_len, List.length_cons]
    omega
theorem foldS_keys : ∀ (bs : List Str) (acc : List (List Pk)) (pre : List Str), (∀ t ∈ acc, t.map (·.1) = pre) → ∀ t ∈ bs.foldl stepS acc, t.map (·.1) = pre ++ bs
  | [], acc, pre, h, t, ht => by rw [List.append_nil]; exact h t ht
  | b :: r, acc, pre, h, t, ht => by
    have := foldS_keys r (stepS acc b) (pre ++ [b]) (fun s hs => by
      obtain ⟨u, hu, hs2⟩ := List.mem_flatMap.mp hs
      obtain ⟨j, _, rfl⟩ := List.mem_map.mp hs2
      rw [List.map_append, h u hu]
      rfl) t ht
    rw [this, List.append_assoc]
    rfl
theorem spaces_keys {bs : List Str} {t : List Pk} (h : t ∈ spaces bs) : t.map (·.1) = bs := by
  have := foldS_keys bs [[]] [] (fun t h => by cases List.mem_singleton.mp h; rfl) t h
  rwa [List.nil_append] at this
theorem foldS_mem (f : Str → Int) (hf : In4 f) : ∀ (bs : List Str) (acc : List (List Pk)) (pre : List Pk), pre ∈ acc → pre ++ bs.map (fun b => (b, f b)) ∈ bs.foldl stepS acc
  | [], acc, pre, h => by
    rw [List.map_nil, List.append_nil]
    exact h
  | b :: r, acc, pre, h => by
    have h1 : pre ++ [(b, f b)] ∈ stepS acc b := by
      refine List.mem_flatMap.mpr ⟨pre, h, ?_⟩
      unfold fives
      have := hf b
      refine List.mem_map.mpr ⟨(f b).toNat, List.mem_range.mpr (by omega), ?_⟩
      have e : 0 + (((f b).toNat : Nat) : Int) = f b := by omega
      rw [e]
    have h2 := foldS_mem f hf r (stepS acc b) (pre ++ [(b, f b)]) h1
    rw [List.append_assoc] at h2
    exact h2
theorem spaces_mem {f : Str → Int} (hf : In4 f) (bs : List Str) : bs.map (fun b => (b, f b)) ∈ spaces bs := by
  have := foldS_mem f hf bs [[]] [] (List.mem_singleton.mpr rfl)
  rwa [List.nil_append] at this
theorem spaces_len {bs : List Str} (h : bs.length ≤ 3) : (spaces bs).length ≤ 125 := by
  have e : ∀ (bs : List Str) (acc : List (List Pk)), (bs.foldl stepS acc).length = 5 ^ bs.length * acc.length := fun bs => by
    induction bs with
    | nil => intro acc; simp
    | cons b r ih =>
      intro acc
      show ((r.foldl stepS (stepS acc b))).length = _
      rw [ih, stepS_len, List.length_cons, Nat.pow_succ, Nat.mul_assoc]
  unfold spaces
  rw [e]
  have : 5 ^ bs.length ≤ 5 ^ 3 := Nat.pow_le_pow_right (by decide) h
  show 5 ^ bs.length * 1 ≤ 125
  omega
def valT (t : List Pk) : Str → Int := fun z => (lookL t z).getD 0
def agree (ps qs : List Pk) (t : List Pk) : Bool := decide (choose (valT t) ps = choose (valT t) qs)
theorem look_map {g : Str → Int} {z : Str} : ∀ {xs : List Str}, z ∈ xs → lookL (xs.map fun b => (b, g b)) z = some (g z)
  | x :: r, h => by
    rw [List.map_cons, lookL_cons]
    by_cases e : x = z
    · rw [if_pos e, e]
    · rw [if_neg e]
      exact look_map ((List.mem_cons.mp h).resolve_left fun q => e q.symm)
theorem to3_form {l : List Pk} (h : To3 l) : To3 (oneForm l) := fun p hp => h p (mem_form hp)
theorem alike_iff {bs : List Str} {ps qs : List Pk} (hp : ∀ p ∈ ps, PkOk bs p) (hq : ∀ p ∈ qs, PkOk bs p) : (spaces bs).all (agree ps qs) = decide (oneForm ps = oneForm qs) := by
  have tp : To3 ps := fun p h => (hp p h).2
  have tq : To3 qs := fun p h => (hq p h).2
  by_cases c : oneForm ps = oneForm qs
  · rw [decide_eq_true c]
    refine List.all_eq_true.mpr fun t _ => decide_eq_true ?_
    rw [← choose_form (valT t) ps, ← choose_form (valT t) qs, c]
  · rw [decide_eq_false c]
    refine Bool.eq_false_iff.mpr fun h => c ?_
    refine uniq4 _ _ (norm_form fun p h => (tp p h).1) (norm_form fun p h => (tq p h).1) (to3_form tp) (to3_form tq) fun f hf => ?_
    have h1 : choose (valT (bs.map fun b => (b, f b))) ps = choose (valT (bs.map fun b => (b, f b))) qs := of_decide_eq_true (List.all_eq_true.mp h _ (spaces_mem hf bs))
    have e : ∀ {b : Str}, b ∈ bs → valT (bs.map fun b => (b, f b)) b = f b := fun {b} hb => by
      unfold valT
      rw [look_map hb]
      rfl
    rw [choose_form, choose_form]
    rw [choose_congr (f := f) (g := valT (bs.map fun b => (b, f b))) (l := ps) (fun p h => by rw [e (hp p h).1]), choose_congr (f := f) (g := valT (bs.map fun b => (b, f b))) (l := qs) (fun p h => by rw [e (hq p h).1])]
    exact h1
end K10
end
section
namespace K10
open PySem PySem.Spec PyProof.Rows L2
/-- at ds stand these tables -/
structure Spaces (H : Hp) (ds : List Addr) (ts : List (List Pk)) : Prop where
  len : ds.length = ts.length
  at_ : ∀ (i : Nat) (d : Addr) (t : List Pk), ds[i]? = some d → ts[i]? = some t → H d = some (.dK (tabL t))
theorem Spaces.nil {H : Hp} : Spaces H [] [] := ⟨rfl, fun i d t h => by cases h⟩
theorem Spaces.same {H H' : Hp} {ds : List Addr} {ts : List (List Pk)} (h : Spaces H ds ts) (s : Same H H') : Spaces H' ds ts := ⟨h.len, fun i d t e1 e2 => s _ _ (h.at_ i d t e1 e2)⟩
theorem Spaces.but {H H' : Hp} {ds : List Addr} {ts : List (List Pk)} {p c : Addr} {ns : List Int} {n : Nat} {z : Int} (h : Spaces H ds ts) (P : PenAt H p c ns n z) (s : But p H H') : Spaces H' ds ts := ⟨h.len, fun i d t e1 e2 => s _ _ (fun w => by
  have e3 := h.at_ i d t e1 e2
  rw [w, P.pen] at e3
  cases e3) (h.at_ i d t e1 e2)⟩
theorem Spaces.upd {H : Hp} {ds : List Addr} {ts : List (List Pk)} {D : Addr} {o : HO} (h : Spaces H ds ts) (n : ∀ kvs, H D ≠ some (.dK kvs)) : Spaces (upd H D o) ds ts := ⟨h.len, fun i d t e1 e2 => by
  have e3 := h.at_ i d t e1 e2
  rw [upd_ne fun w => n _ (w ▸ e3)]
  exact e3⟩
theorem Spaces.app {H : Hp} {ds es : List Addr} {ts us : List (List Pk)} (h : Spaces H ds ts) (g : Spaces H es us) : Spaces H (ds ++ es) (ts ++ us) := by
  refine ⟨by rw [List.length_append, List.length_append, h.len, g.len], fun i d t e1 e2 => ?_⟩
  by_cases c : i < ds.length
  · rw [List.getElem?_append_left c] at e1
    rw [List.getElem?_append_left (by rw [← h.len]; exact c)] at e2
    exact h.at_ i d t e1 e2
  · rw [List.getElem?_append_right (by omega)] at e1
    rw [List.getElem?_append_right (by rw [← h.len]; omega), ← h.len] at e2
    exact g.at_ _ d t e1 e2
theorem Spaces.one {H : Hp} {d : Addr} {t : List Pk} (e : H d = some (.dK (tabL t))) : Spaces H [d] [t] := ⟨rfl, fun i d2 t2 e1 e2 => by
  cases i with
  | zero =>
    cases e1
    cases e2
    exact e
  | succ i => cases e1⟩
theorem Spaces.get {H : Hp} {ds : List Addr} {ts : List (List Pk)} (h : Spaces H ds ts) {i : Nat} {x : V} (hx : (ds.map V.ref)[i]? = some x) : ∃ d t, x = .ref d ∧ ds[i]? = some d ∧ ts[i]? = some t ∧ H d = some (.dK (tabL t)) := by
  rw [List.getElem?_map] at hx
  obtain ⟨d, hd, rfl⟩ := Option.map_eq_some_iff.mp hx
  have hi : i < ts.length := by
    rw [← h.len]
    exact (List.getElem?_eq_some_iff.mp hd).1
  exact ⟨d, ts[i], rfl, hd, List.getElem?_eq_getElem hi, h.at_ i d _ hd (List.getElem?_eq_getElem hi)⟩
theorem tabL_app (t : List Pk) (p : Pk) : tabL (t ++ [p]) = tabL t ++ [(Sum.inr p.1, .int p.2)] := by
  unfold tabL
  rw [List.map_append]
  rfl
theorem pairedSnoc {α β : Type} {F : α → β → Prop} : ∀ {xs : List α} {ys : List β} {x : α} {y : β}, Paired F xs ys → F x y → Paired F (xs ++ [x]) (ys ++ [y])
  | _, _, _, _, .nil, h => .cons h .nil
  | _, _, _, _, .cons a b, h => .cons a (pairedSnoc b h)
theorem pairedMap {α β : Type} {F G : α → β → Prop} : ∀ {xs : List α} {ys : List β}, Paired F xs ys → (∀ x y, F x y → G x y) → Paired G xs ys
  | _, _, .nil, _ => .nil
  | _, _, .cons a b, h => .cons (h _ _ a) (pairedMap b h)
theorem pairedLen {α β : Type} {F : α → β → Prop} : ∀ {xs : List α} {ys : List β}, Paired F xs ys → xs.length = ys.length
  | _, _, .nil => rfl
  | _, _, .cons _ b => by rw [List.length_cons, List.length_cons, pairedLen b]
def rDict (K : PySem.W.Frag) : List V → Hp → VK → Prop := fun xs H Q => ∃ (a : Addr) (ps : List Addr) (kvs : List (Key × V)), xs = [.ref a] ∧ SqL K H a (ps.map V.ref) ∧ Paired (fun p kv => SqT K H p [kV kv.1, kv.2]) ps kvs ∧ ∀ p, H p = none → Q (.ref p) (upd H p (.dK (mergeK [] kvs)))
theorem call_dictK {X : Cx} (hc : X.calm = true) : CallR X (.type "dict") (rDict X.K) := call_dictP hc
def spAll : Sp := fun vs H Q _ => ∃ (b : Addr) (bs : List Str), vs = [.ref b] ∧ H b = some (.lst (bs.map V.str)) ∧ bs.Nodup ∧ bs.length ≤ 3 ∧ ∀ l ds H', Same H H' → H l = none → H' l = some (.lst (ds.map V.ref)) → Spaces H' ds (spaces bs) → Q (.ref l) H'
def spSame (K : PySem.W.Frag) : Sp := fun vs H Q _ => ∃ (l1 l2 l3 : Addr) (k1 k2 ds : List Addr) (p1 p2 : List Pk) (ts : List (List Pk)), vs = [.ref l1, .ref l2, .ref l3] ∧ SqL K H l1 (k1.map V.ref) ∧ PicksAt H k1 p1 ∧ SqL K H l2 (k2.map V.ref) ∧ PicksAt H k2 p2 ∧ SqL K H l3 (ds.map V.ref) ∧ Spaces H ds ts ∧
  (∀ t ∈ ts, ∀ q ∈ p1 ++ p2, q.1 ∈ t.map (·.1)) ∧ ts.length ≤ 125 ∧ ∀ H', Same H H' → Q (.bl (ts.all (agree p1 p2))) H'
theorem look_some {t : List Pk} {z : Str} (h : z ∈ t.map (·.1)) : (lookL t z).isSome = true := by
  unfold lookL
  rw [Option.isSome_map, List.find?_isSome]
  obtain ⟨p, hp, e⟩ := List.mem_map.mp h
  exact ⟨p, hp, decide_eq_true e⟩
section
variable {P : Program} {w : World} {K : PySem.W.Frag} {mg : Str → Option Value} {base : Heap}
abbrev nAl : List Str := ["_law_bays", "_law_found", "_law_bay", "_law_wide", "_law_one", "_law_number"]
theorem scAl : FnScope nAl ["_law_bays"] (defScope sAll) := ⟨rfl, rfl, rfl, by decide +kernel, rfl, by decide +kernel, by decide +kernel⟩
theorem ok_all {f : Addr} {fd : FuncData} (F : Fun K "_law_all" "_law_all" sAll f fd) (n_list : mg "list" = none) (n_dict : mg "dict" = none) (n_range : mg "range" = none) : FnOk P w K mg base CX0 1 f fd ["_law_bays"] spAll := by
  refine F.ok scAl (fun vs H Q E h => ?_) (fun cdv A outer s H vs Q E hr h => ?_)
  · obtain ⟨b, bs, rfl, _⟩ := h
    rfl
  · obtain ⟨b, bs, rfl, eb, nd, lb, q⟩ := h
    refine ⟨_, (pss_cons (ps_set (i := 1) scAl.nd rfl (Or.inl rfl) (pe_lst (pa_cons pe_dnewK pa_nil)))
    (pss_cons (ps_for PassesOwn.never rfl (pi_list (pv 0)) (pg_name (i := 2) scAl.nd rfl (Or.inr rfl)) (pss_cons (ps_set (i := 3) scAl.nd rfl (Or.inl rfl) (pe_lst pa_nil))
    (pss_cons (ps_for PassesOwn.never rfl (pi_list (pv 1)) (pg_name (i := 4) scAl.nd rfl (Or.inr rfl)) (pss_one (ps_set (i := 3) scAl.nd rfl (Or.inl rfl) (pe_op op_cat (pv 3) (pe_lc (own := [("_law_number", 5)]) (by rfl) scAl.nd (pi_range1 rfl n_range (pa_cons pe_int pa_nil)) (blkOk_by (own := [("_law_number", 5)]) (N := nAl) (sc := defScope sAll) (by decide +kernel)) (fun _ _ _ _ _ => (pg_name (i := 5) scAl.nd rfl (Or.inl rfl))) (fun _ _ _ _ _ => pts_nil) (fun _ _ _ _ _ => (pe_callTy (r := rDict K) (call_dictK rfl) (by rfl) n_dict (by decide +kernel) (pa_cons (pe_op op_cat (LiI.pe_listItems rfl (pv 4) (by rfl) n_list (by decide +kernel)) (pe_lst (pa_cons (pe_tup (pa_cons (pv 2) (pa_cons (pv 5) pa_nil))) pa_nil))) pa_nil))))))))
    (pss_one (ps_set (i := 1) scAl.nd rfl (Or.inl rfl) (pv 3))))))
    (pss_one (ps_ret (pv 1))))), ?_⟩
    have sz := sizeLine_eq
    refine fun d0 h0 => ⟨by show (1 : Nat) ≤ sizeLine; omega, fun l0 hl0 => ?_⟩
    have s0 := Same.of_new (o := .dK []) h0
    have s1 := Same.of_new (o := .lst [.ref d0]) hl0
    have el : upd (upd H d0 (.dK [])) l0 (.lst [.ref d0]) l0 = some (.lst (([d0] : List Addr).map V.ref)) := upd_same
    have sp0 : Spaces (upd (upd H d0 (.dK [])) l0 (.lst [.ref d0])) [d0] (spaces (bs.take 0)) := Spaces.one (t := []) (s1 d0 _ upd_same)
    have nl0 : H l0 = none := (s0.free hl0)
    have s01 := s0.trans s1
    generalize upd (upd H d0 (.dK [])) l0 (.lst [.ref d0]) = H0 at el sp0 s01 ⊢
    clear s0 s1 h0 hl0
    refine ⟨_, rfl, b, rfl, ⟨_, SqL.of (s01 b _ eb)⟩, ?_⟩
    refine for_it (walk_list (xs := bs.map V.str)) (fun i σ Hx => Same H Hx ∧ (∃ lf x2 x3 x4 x5, σ = [some (.ref b), some (.ref lf), x2, x3, x4, x5] ∧ H lf = none ∧ ∃ ds, Hx lf = some (.lst (ds.map V.ref)) ∧ Spaces Hx ds (spaces (bs.take i))))
      ⟨s01, l0, _, _, _, _, rfl, nl0, [d0], el, sp0⟩ (fun i σ Hx _ q => SqL.of (q.1 b _ eb)) (fun i x σ Hx Hy hi q0 y => ?_) (fun σ Hx q0 => ?_)
    rotate_left
    · obtain ⟨sx, lf, x2, x3, x4, x5, rfl, nlf, ds, elf, sp⟩ := q0
      rw [List.length_map, List.take_length] at sp
      exact ⟨_, rfl, q lf ds Hx sx nlf elf sp⟩
    obtain ⟨sx, lf, x2, x3, x4, x5, rfl, nlf, ds, elf, sp⟩ := q0
    obtain ⟨rfl, hx⟩ := y
    rw [List.getElem?_map] at hx
    obtain ⟨bi, hbi, rfl⟩ := Option.map_eq_some_iff.mp hx
    rw [List.length_map] at hi
    have keys : ∀ t ∈ spaces (bs.take i), t.map (·.1) = bs.take i := fun t h => spaces_keys h
    have nd2 : (bs.take i ++ [bi]).Nodup := by
      have e : bs.take (i + 1) = bs.take i ++ [bi] := by rw [List.take_add_one, hbi]; rfl
      rw [← e]
      exact nd.sublist (List.take_sublist _ _)
    have lts : (spaces (bs.take i)).length ≤ 125 := spaces_len (by rw [List.length_take]; omega)
    have esucc := spaces_succ bs i bi hbi
    rw [esucc]
    generalize spaces (bs.take i) = ts at sp keys lts ⊢
    refine ⟨Nat.zero_le _, fun w0 hw0 => ?_⟩
    have s2 := Same.of_new (o := .lst []) hw0
    have ew0 : upd Hy w0 (.lst []) w0 = some (.lst (([] : List Addr).map V.ref)) := upd_same
    have nw0 : H w0 = none := sx.free hw0
    have sx2 := sx.trans s2
    have elf2 := s2 lf _ elf
    have sp2 := sp.same s2
    generalize upd Hy w0 (.lst []) = H2 at ew0 sx2 elf2 sp2 ⊢
    refine ⟨_, rfl, lf, rfl, ⟨_, SqL.of elf2⟩, ?_⟩
    refine for_it (walk_list (xs := ds.map V.ref)) (fun j σ Hx => Same H2 Hx ∧ ∃ lw x4 x5, σ = [some (.ref b), some (.ref lf), some (.str bi), some (.ref lw), x4, x5] ∧ H lw = none ∧ ∃ es, Hx lw = some (.lst (es.map V.ref)) ∧ Spaces Hx es (stepS (ts.take j) bi))
      ⟨Same.refl _, w0, _, _, rfl, nw0, [], ew0, Spaces.nil⟩ (fun j σ Hx _ q => SqL.of (q.1 lf _ elf2)) (fun j x σ Hx Hz hj q0 y => ?_) (fun σ Hx q0 => ?_)
    rotate_left
    · obtain ⟨sy, lw, x4, x5, rfl, nlw, es, elw, spw⟩ := q0
      rw [List.length_map, sp2.len, List.take_length] at spw
      exact ⟨_, rfl, sx2.trans sy, lw, _, _, _, _, rfl, nlw, es, elw, spw⟩
    obtain ⟨sy, lw, x4, x5, rfl, nlw, es, elw, spw⟩ := q0
    obtain ⟨rfl, hx⟩ := y
    obtain ⟨d, t, rfl, hd, ht, ed⟩ := (sp2.same sy).get hx
    have kt := keys t (List.mem_of_getElem? ht)
    have ej : ts.take (j + 1) = ts.take j ++ [t] := by rw [List.take_add_one, ht]; rfl
    have estep : stepS (ts.take (j + 1)) bi = stepS (ts.take j) bi ++ fives t bi 5 := by
      rw [ej]
      unfold stepS
      rw [List.flatMap_append, List.flatMap_cons, List.flatMap_nil, List.append_nil]
    have lw5 : es.length ≤ 625 := by
      rw [spw.len, stepS_len, List.length_take]
      omega
    have ltt : (tabL t).length ≤ 3 := by
      unfold tabL
      have e1 := congrArg List.length kt
      rw [List.length_map, List.length_take] at e1
      rw [List.length_map]
      omega
    refine ⟨_, rfl, 5, rfl, by decide, by decide, fun R hR => ?_⟩
    refine lc_it walk_range (fun m Hw => Same Hz Hw ∧ ∃ gs : List Addr, Hw R = some (.lst (gs.map V.ref)) ∧ Spaces Hw gs (fives t bi m)) ⟨Same.of_new hR, [], upd_same, Spaces.nil⟩ (fun _ _ _ _ => True.intro) (fun m x Hw Hv hm q1 y => ?_) (fun Hw q1 => ?_)
    · obtain ⟨sw, gs, eR, spg⟩ := q1
      obtain ⟨rfl, rfl⟩ := y
      have hm5 : m < 5 := hm
      refine ⟨rfl, ?_⟩
      refine ⟨_, rfl, d, tabL t, rfl, sw d _ ed, fun H6 b0 vs s6 hb0 hts nb0 eb0 pr => ?_⟩
      have s6 : Same Hv H6 := s6
      refine ⟨_, rfl, _, rfl, by show (2 : Nat) ≤ sizeLine; omega, fun T hT => ?_⟩
      have s7 := Same.of_new (o := .tup [.str bi, .int (0 + (m : Nat))]) hT
      refine ⟨by show (1 : Nat) ≤ sizeLine; omega, fun l2 hl2 => ?_⟩
      have s8 := Same.of_new (o := .lst [.ref T]) hl2
      have lv : vs.length = (tabL t).length := pairedLen pr
      refine ⟨b0, l2, _, _, rfl, rfl, s8 b0 _ (s7 b0 _ eb0), upd_same, by rw [List.length_map, lv]; show _ + 1 ≤ sizeLine; omega, fun l3 hl3 => ?_⟩
      have s9 := Same.of_new (o := .lst (vs.map V.ref ++ [.ref T])) hl3
      have sA := (s7.trans s8).trans s9
      refine ⟨l3, vs ++ [T], tabL t ++ [(Sum.inr bi, .int (0 + (m : Nat)))], rfl, ?_, pairedSnoc (x := T) (y := ((Sum.inr bi : Key), V.int (0 + (m : Nat)))) (pairedMap pr fun x y e => SqT.of (sA x _ e)) (SqT.of (s9 T _ (s8 T _ upd_same))), fun d2 hd2 => ?_⟩
      · rw [List.map_append]
        exact SqL.of upd_same
      have em : mergeK [] (tabL t ++ [(Sum.inr bi, .int (0 + (m : Nat)))]) = tabL (t ++ [(bi, 0 + (m : Int))]) := by
        rw [← tabL_app t (bi, 0 + (m : Int))]
        refine merge_tab ?_
        rw [List.map_append, kt]
        exact nd2
      rw [em]
      have sB := (s6.trans sA).trans (Same.of_new (o := .dK (tabL (t ++ [(bi, 0 + (m : Int))]))) hd2)
      have eRB := sB R _ eR
      refine ⟨_, eRB, ?_, ?_, gs ++ [d2], ?_, ?_⟩
      · rw [List.length_map, spg.len, fives_len]
        omega
      · intro a o e
        rw [upd_ne (ne_of_none e hR)]
        exact sB a o (sw a o e)
      · rw [List.map_append]
        exact upd_same
      · rw [fives_succ]
        have g1 := (spg.same sB).app (Spaces.one (t := t ++ [(bi, 0 + (m : Int))]) (upd_same (o := .dK (tabL (t ++ [(bi, 0 + (m : Int))])))))
        exact g1.upd fun kvs e => by
          rw [eRB] at e
          cases e
    obtain ⟨sw, gs, eR, spg⟩ := q1
    have spg : Spaces Hw gs (fives t bi 5) := spg
    have elw2 := sw lw _ elw
    refine ⟨lw, R, _, _, rfl, rfl, elw2, eR, ?_, fun l5 hl5 => ?_⟩
    · rw [List.length_map, List.length_map, spg.len, fives_len]
      omega
    have s10 := Same.of_new (o := .lst (es.map V.ref ++ gs.map V.ref)) hl5
    refine ⟨sy.trans (sw.trans s10), l5, _, _, rfl, (sx2.trans (sy.trans sw)).free hl5, es ++ gs, ?_, ?_⟩
    · rw [List.map_append]
      exact upd_same
    · rw [estep]
      exact ((spw.same sw).app spg).same s10
abbrev nSa : List Str := ["_law_one", "_law_two", "_law_spaces", "_law_open_so"]
theorem scSa : FnScope nSa ["_law_one", "_law_two", "_law_spaces"] (defScope sSame) := ⟨rfl, rfl, rfl, by decide +kernel, rfl, by decide +kernel, by decide +kernel⟩
theorem ok_same {f f_chosen : Addr} {fd d_chosen : FuncData} (F : Fun K "_law_same" "_law_same" sSame f fd) (g_chosen : mg "_law_chosen" = some (.ref f_chosen)) (k_chosen : PySem.W.keepIn K (.ref f_chosen) = true) (b_chosen : Binds K d_chosen ["_law_picks_so", "_law_open_so"] []) (G_chosen : FnOk P w K mg base CX0 1 f_chosen d_chosen ["_law_picks_so", "_law_open_so"] (spChosen K)) : FnOk P w K mg base CX0 2 f fd ["_law_one", "_law_two", "_law_spaces"] (spSame K) := by
  refine F.ok scSa (fun vs H Q E h => ?_) (fun cdv A outer s H vs Q E hr h => ?_)
  · obtain ⟨l1, l2, l3, k1, k2, ds, p1, p2, ts, rfl, _⟩ := h
    rfl
  · obtain ⟨l1, l2, l3, k1, k2, ds, p1, p2, ts, rfl, e1, pk1, e2, pk2, e3, sp, has, lt, q⟩ := h
    have hr1 : Room 1 _ := hr
    refine ⟨_, (pss_one (ps_ret (pe_cmpR (OwR.op_eqNil hr.units) (pe_lc (own := [("_law_open_so", 3)]) (by rfl) scSa.nd (pi_list (pv 2)) (blkOk_by (own := [("_law_open_so", 3)]) (N := nSa) (sc := defScope sSame) (by decide +kernel)) (fun _ _ _ _ _ => (pg_name (i := 3) scSa.nd rfl (Or.inl rfl))) (fun _ _ _ _ _ => pts_one (pt_cmpR op_ne (pe_call G_chosen hr1 (by rfl) g_chosen k_chosen b_chosen .nil pass0 (pa_cons (pv 0) (pa_cons (pv 3) pa_nil))) (pe_call G_chosen hr1 (by rfl) g_chosen k_chosen b_chosen .nil pass0 (pa_cons (pv 1) (pa_cons (pv 3) pa_nil))) (nomark _))) (fun _ _ _ _ _ => (pv 3))) (pe_lst pa_nil) (nomark _)))), ?_⟩
    have sz := sizeLine_eq
    refine ⟨_, rfl, l3, rfl, ⟨_, e3⟩, fun R hR => ?_⟩
    refine lc_it (walk_list (xs := ds.map V.ref)) (fun i Hx => Same H Hx ∧ ∃ acc : List V, Hx R = some (.lst acc) ∧ acc.length ≤ i ∧ acc.isEmpty = (ts.take i).all (agree p1 p2)) ⟨Same.of_new hR, [], upd_same, Nat.le_refl 0, rfl⟩ (fun i Hx _ q => SqL.mono e3 q.1) (fun i x Hx Hy hi q0 y => ?_) (fun Hx q0 => ?_)
    · obtain ⟨s1, acc, eR, la, ea⟩ := q0
      obtain ⟨rfl, hx⟩ := y
      obtain ⟨d, t, rfl, hd, ht, ed⟩ := (sp.same s1).get hx
      have hh := has t (List.mem_of_getElem? ht)
      have hi2 : i < ts.length := (List.getElem?_eq_some_iff.mp ht).1
      have et : (ts.take (i + 1)).all (agree p1 p2) = ((ts.take i).all (agree p1 p2) && agree p1 p2 t) := by
        rw [List.take_add_one, ht, List.all_append]
        simp
      refine ⟨rfl, ?_⟩
      refine ⟨_, rfl, _, rfl, l1, d, k1, p1, tabL t, lookL t, rfl, SqL.mono e1 s1, pk1.same s1, .inl ed, tabOf_list t, fun q hq => look_some (hh q (List.mem_append_left _ hq)), ?_⟩
      refine ⟨_, rfl, _, rfl, l2, d, k2, p2, tabL t, lookL t, rfl, SqL.mono e2 s1, pk2.same s1, .inl ed, tabOf_list t, fun q hq => look_some (hh q (List.mem_append_right _ hq)), ?_⟩
      refine ⟨?_, _, rfl, ?_⟩
      · generalize choose (fun z => (lookL t z).getD 0) p1 = x
        generalize choose (fun z => (lookL t z).getD 0) p2 = y
        cases x <;> cases y <;> rfl
      have ed2 : decide (optV (choose (fun z => (lookL t z).getD 0) p1) = optV (choose (fun z => (lookL t z).getD 0) p2)) = agree p1 p2 t := by
        unfold agree valT
        generalize choose (fun z => (lookL t z).getD 0) p1 = x
        generalize choose (fun z => (lookL t z).getD 0) p2 = y
        by_cases c : x = y
        · rw [c, decide_eq_true rfl, decide_eq_true rfl]
        · rw [decide_eq_false c, decide_eq_false fun h => c ?_]
          cases x <;> cases y <;> first | rfl | (cases h; done) | (cases h; rfl)
      rw [ed2]
      cases ag : agree p1 p2 t with
      | true =>
        refine iteF ?_
        exact ⟨s1, acc, eR, by omega, by rw [et, ag, Bool.and_true]; exact ea⟩
      | false =>
        refine iteT ?_
        refine ⟨_, rfl, acc, eR, by omega, fun b o e => ?_, acc ++ [.ref d], upd_same, ?_, ?_⟩
        · rw [upd_ne (ne_of_none e hR)]
          exact s1 b o e
        · rw [List.length_append]
          show acc.length + 1 ≤ i + 1
          omega
        · rw [et, ag, Bool.and_false]
          cases acc <;> rfl
    obtain ⟨s1, acc, eR, la, ea⟩ := q0
    rw [List.length_map, sp.len, List.take_length] at ea
    refine ⟨Nat.zero_le _, fun e he => ?_⟩
    refine ⟨R, e, acc, rfl, rfl, SqL.of (upd_keep2 eR he), SqL.of upd_same, ?_⟩
    rw [ea]
    exact q _ (s1.trans (Same.of_new he))
end
end K10
end
section
namespace K10
open PySem PySem.Spec PyProof.Rows L2
abbrev sLaw : Stmt := top 48
/-- a def of the text behind a name of the module -/
def At (K : PySem.W.Frag) (mg : Str → Option Value) (x : Str) (st : Stmt) : Prop := ∃ f fd, mg x = some (.ref f) ∧ Fun K x x st f fd
def sixT : List String := ["NoneType", "tuple", "list", "str", "int", "dict"]
/-- all that the law wants of what stands behind the top -/
structure Facts (P : Program) (w : World) (K : PySem.W.Frag) (mg : Str → Option Value) (base : Heap) (r : RA) (CH CF CE CX CP : Addr) (mH mF mR mP : Value) : Prop where
  chk : Chk P w K mg base
  nm : Nm mg
  n_range : mg "range" = none
  n_dict : mg "dict" = none
  n_zip : mg "zip" = none
  n_enumerate : mg "enumerate" = none
  n_iter : mg "iter" = none
  n_repr : mg "repr" = none
  pen : At K mg "_law_pen" sPen
  draw : At K mg "_law_draw" sDraw
  pick : At K mg "_law_pick" sPick
  row : At K mg "_law_row" sRow
  chosen : At K mg "_law_chosen" sChosen
  all : At K mg "_law_all" sAll
  tolds : At K mg "_law_told_otherwise" sTolds
  near : At K mg "_law_near" sNear
  same : At K mg "_law_same" sSame
  form : At K mg "one_form" sForm
  isp : At K mg "is_pick" sIsPick
  wit : At K mg "house_with" sWith
  gHouse : mg "House" = some (.ref CH)
  gFirst : mg "First" = some (.ref CF)
  gRule : mg "Rule" = some (.ref r.CR)
  gEven : mg "Even" = some (.ref CE)
  gElse : mg "Else" = some (.ref CX)
  gPair : mg "Pair" = some (.ref CP)
  hc : HouseC K CH
  rH : ClX.CRead K CH mH
  rF : ClX.CRead K CF mF
  rR : ClX.CRead K r.CR mR
  rP : ClX.CRead K CP mP
  house0 : ∃ f fd, Mk K CH f ∧ Fun K "__init__" "House.__init__" sHouse0 f fd
  hof : ∃ p g fd, ClX.CMet K CH mH "of" p g ∧ Fun K "of" "House.of" sHouseOf g fd
  hitem : ∃ g fd, OwR.Spc K CH g "__getitem__" ∧ Fun K "__getitem__" "House.__getitem__" sHouseAt g fd
  first0 : ∃ f fd, Mk K CF f ∧ Fun K "__init__" "First.__init__" sFirst0 f fd
  even0 : ∃ f fd, Mk K CE f ∧ Fun K "__init__" "Even.__init__" sEven0 f fd
  else0 : ∃ f fd, Mk K CX f ∧ Fun K "__init__" "Else.__init__" sElse0 f fd
  rule0 : ∃ f fd, OwR.CFun K r.CR mR "__init__" f ∧ Fun K "__init__" "Rule.__init__" sRule0 f fd
  pair0 : ∃ f fd, OwR.CFun K CP mP "__init__" f ∧ Fun K "__init__" "Pair.__init__" sPair0 f fd
  fof : ∃ p g fd, ClX.CMet K CF mF "of" p g ∧ Fun K "of" "First.of" sFirstOf g fd
  picks : ∃ p g fd, PropOf K CF "picks" p g ∧ Fun K "picks" "Rule.picks" sPicks g fd
  R : RKs K r
  hF : CF ∈ r.S
  hE : CE ∈ r.S
  hX : CX ∈ r.S
  x1 : NoAttr K CX "_first"
  x2 : NoAttr K CX "_second"
  iter : ∃ fd, Fun K "__iter__" "Rule.__iter__" sRIter r.fI fd
  len : ∃ fd, Fun K "__len__" "Rule.__len__" sRLen r.fL fd
  call : ∃ fd, Fun K "__call__" "Rule.__call__" sCall r.fC fd
  eq : ∃ fd, Fun K "__eq__" "Rule.__eq__" sREq r.fE fd
  str : ∃ g fd, OwR.Str1 K CF g ∧ Fun K "__str__" "Rule.__str__" sRStr g fd
  odd : ∀ T ∈ sixT, PySem.W.kitOne K (.type T) (.ref r.CR) = some false ∧ PySem.W.notFirst K CF (.type T) = true
def spLaw (K : PySem.W.Frag) : Sp := fun vs H Q _ => ∃ (a : Addr) (ns : List Int), vs = [.ref a] ∧ SqL K H a (ns.map V.int) ∧ ns.length ≤ 63 ∧ ∀ H', Q (.bl true) H'
theorem told_at {N : Str → Option Int} (h : ∀ z v, N z = some v → 0 ≤ v ∧ v ≤ 10 ^ 60 - 1) (z : Str) : (told N z).getD 0 = (N z).getD 0 := by
  unfold told
  split
  · rfl
  · rename_i c
    cases e : N z with
    | none => rfl
    | some v =>
      have := (h z v e).1
      rw [e] at c
      have c : ¬ 0 < v := c
      show (0 : Int) = v
      omega
theorem foldS_vals : ∀ (bs : List Str) (acc : List (List Pk)), (∀ t ∈ acc, ∀ p ∈ t, 0 ≤ p.2 ∧ p.2 ≤ 4) → ∀ t ∈ bs.foldl stepS acc, ∀ p ∈ t, 0 ≤ p.2 ∧ p.2 ≤ 4
  | [], acc, h => h
  | b :: r, acc, h => foldS_vals r (stepS acc b) fun s hs p hp => by
    obtain ⟨u, hu, hs2⟩ := List.mem_flatMap.mp hs
    obtain ⟨j, hj, rfl⟩ := List.mem_map.mp hs2
    have hj := List.mem_range.mp hj
    rcases List.mem_append.mp hp with h1 | h1
    · exact h u hu p h1
    · cases List.mem_singleton.mp h1
      exact ⟨by show 0 ≤ 0 + (j : Int); omega, by show 0 + (j : Int) ≤ 4; omega⟩
theorem spaces_vals {bs : List Str} {t : List Pk} (h : t ∈ spaces bs) {z : Str} {v : Int} (e : lookL t z = some v) : 0 ≤ v ∧ v ≤ 10 ^ 60 - 1 := by
  unfold lookL at e
  obtain ⟨p, hp, rfl⟩ := Option.map_eq_some_iff.mp e
  have h4 := foldS_vals bs [[]] (fun t ht p hp => by cases List.mem_singleton.mp ht; cases hp) t h p (List.mem_of_find?_eq_some hp)
  exact ⟨h4.1, Int.le_trans h4.2 (by decide +kernel)⟩
/-- the bays of a turn -/
theorem cut3 {d : Int} (h0 : 0 ≤ d) (h1 : d < 2) : ∃ bs : List Str, cutV (three.map V.str) none (some (2 + d)) = bs.map V.str ∧ 0 < bs.length ∧ bs.length ≤ 3 ∧ bs.Nodup ∧ ∀ b ∈ bs, b ∈ three := by
  have h : d = 0 ∨ d = 1 := by omega
  rcases h with rfl | rfl
  · exact ⟨["s", "b"], rfl, by decide, by decide, by decide +kernel, by decide +kernel⟩
  · exact ⟨["s", "b", "n"], rfl, by decide, by decide, by decide +kernel, by decide +kernel⟩
section
variable {K : PySem.W.Frag} {r : RA} {H : Hp} {a b : Addr} {ps qs : List Pk} {Q : VK} {E : XK}
theorem do_eq (R : RKs K r) (hA : OneOf r H a ps) (hB : OneOf r H b qs) (ok : ∀ p ∈ ps, PyData.strOk p.1 = true) (ok2 : ∀ p ∈ qs, PyData.strOk p.1 = true) (q : Q (.bl (decide (ps = qs))) H) : OwR.rCmp2 K .Eq r.fE (spEqQ K r.CR r.fI r.fL) E (.ref a) (.ref b) H Q := by
  obtain ⟨C, hC, r1⟩ := hA
  obtain ⟨D, hD, r2⟩ := hB
  obtain ⟨dx, fs, p1, k1, e1, _⟩ := id r1
  obtain ⟨dy, gs, p2, k2, e2, _⟩ := id r2
  exact ⟨a, b, C, D, dx, dy, fs, gs, rfl, rfl, e1, e2, ⟨(R.one C hC).ne.eq, (R.one C hC).ne.fn⟩, (R.two C hC D hD).2, a, b, ps, qs, rfl, ⟨C, (R.one C hC).kd, r1⟩, ⟨D, (R.one D hD).kd, r2⟩, ok, ok2, q⟩
theorem do_neq (R : RKs K r) (hA : OneOf r H a ps) (hB : OneOf r H b qs) (ok : ∀ p ∈ ps, PyData.strOk p.1 = true) (ok2 : ∀ p ∈ qs, PyData.strOk p.1 = true) (q : Q (.bl (!decide (ps = qs))) H) : OwR.rNe2 K r.fE (spEqQ K r.CR r.fI r.fL) E (.ref a) (.ref b) H Q := by
  obtain ⟨C, hC, r1⟩ := hA
  obtain ⟨D, hD, r2⟩ := hB
  obtain ⟨dx, fs, p1, k1, e1, _⟩ := id r1
  obtain ⟨dy, gs, p2, k2, e2, _⟩ := id r2
  exact ⟨a, b, C, D, dx, dy, fs, gs, rfl, rfl, e1, e2, (R.one C hC).ne, (R.two C hC D hD).2, a, b, ps, qs, rfl, ⟨C, (R.one C hC).kd, r1⟩, ⟨D, (R.one D hD).kd, r2⟩, ok, ok2, decide (ps = qs), rfl, q⟩
end
theorem bools_ok (x y z : Bool) : (PyData.list [.bool x, .bool y, .bool z]).showable = true ∧ (PyData.list [.bool x, .bool y, .bool z]).hasDict = false ∧ (PyData.list [.bool x, .bool y, .bool z]).depth ≤ 64 ∧ (PyData.list [.bool x, .bool y, .bool z]).shown.length ≤ sizeLine := by
  revert x y z
  decide +kernel
def reprO : Option Str → Str
  | none => "None"
  | some z => reprText z
/-- repr of a name or of None -/
theorem cr_reprO {X : Cx} : CallR X (.builtin "repr") (fun xs H Q => ∃ o : Option Str, xs = [optV o] ∧ (∀ b, o = some b → b ∈ three) ∧ Q (.str (reprO o)) H) := by
  intro pins s σ H xs us Q I r h
  obtain ⟨o, rfl, hz, q⟩ := h
  obtain ⟨u, rfl, rx⟩ := vals1 r
  cases o with
  | none =>
    cases (show u = Value.none from rx)
    exact call_repr_gives (typeIs_none s) F.slot_NoneType_repr F.entry_NoneType_repr (F.args_NoneType_repr_1 _) gives_none_repr ⟨.str _, H, I.tok _, ⟨_, rfl⟩, q⟩
  | some b =>
    obtain ⟨t, rfl⟩ := (show ∃ t, u = Value.str b t from rx)
    have key : ∀ b ∈ three, (reprText b).length ≤ sizeLine := by decide +kernel
    exact PySem.P.repr_of_str ⟨.str _, H, I.tok _, ⟨_, rfl⟩, q⟩ (key b (hz b rfl))
theorem form_join (a b : List Pk) (ha : ∀ p ∈ a, 0 ≤ p.2) (hb : ∀ p ∈ b, 0 ≤ p.2) : oneForm (oneForm a ++ oneForm b) = oneForm (a ++ b) :=
  form_eq (fun p hp => (List.mem_append.mp hp).elim (fun h => ha p (mem_form h)) fun h => hb p (mem_form h)) (fun p hp => (List.mem_append.mp hp).elim (ha p) (hb p)) fun f => by rw [choose_app, choose_form, choose_form, choose_app]
theorem cut_refs {ks : List Addr} {j : Nat} (h : j ≤ ks.length) : cutV (ks.map V.ref) none (some (j : Int)) = (ks.take j).map V.ref ∧ cutV (ks.map V.ref) (some (j : Int)) none = (ks.drop j).map V.ref := by
  unfold cutV
  refine ⟨?_, ?_⟩
  · rw [HT.sIx_none, HT.sIx_nat, List.length_map, List.drop_zero, List.map_take, show min j ks.length - 0 = j by omega]
  · rw [HT.sIx_none, HT.sIx_nat, List.length_map, List.map_drop, show min j ks.length = j by omega]
    exact List.take_of_length_le (by rw [List.length_drop, List.length_map]; exact Nat.le_refl _)
theorem picksTake {H : Hp} {ks : List Addr} {ps : List Pk} (h : PicksAt H ks ps) (j : Nat) : PicksAt H (ks.take j) (ps.take j) := ⟨by rw [List.length_take, List.length_take, h.len], fun i k p e1 e2 => by
  rw [List.getElem?_take] at e1 e2
  split at e1
  · rename_i c
    rw [if_pos c] at e2
    exact h.at_ i k p e1 e2
  · cases e1⟩
theorem picksDrop {H : Hp} {ks : List Addr} {ps : List Pk} (h : PicksAt H ks ps) (j : Nat) : PicksAt H (ks.drop j) (ps.drop j) := ⟨by rw [List.length_drop, List.length_drop, h.len], fun i k p e1 e2 => by
  rw [List.getElem?_drop] at e1 e2
  exact h.at_ (j + i) k p e1 e2⟩
section
variable {P : Program} {w : World} {K : PySem.W.Frag} {mg : Str → Option Value} {base : Heap}
theorem ok_even {CE CR f fR fF : Addr} {mR : Value} {fd fdR fdF : FuncData} (hc : RuleC K CE) (F : Fun K "__init__" "Even.__init__" sEven0 f fd) (c : Chk P w K mg base) (n_range : mg "range" = none) (n_zip : mg "zip" = none) (n_enumerate : mg "enumerate" = none)
    (FR : Fun K "__init__" "Rule.__init__" sRule0 fR fdR) (FF : Fun K "one_form" "one_form" sForm fF fdF) (gF : mg "one_form" = some (.ref fF)) (gR : mg "Rule" = some (.ref CR)) (rR : ClX.CRead K CR mR) (cR : OwR.CFun K CR mR "__init__" fR) :
    OwR.FnRK P w K mg base CX0 3 f [("most" : Str)] (fun zs vs H Q E => ∃ as rest y, zs = [y] ∧ vs = as ++ rest ∧ as.length = ([("self" : Str)]).length ∧ rest.length ≤ sizeLine ∧ ∀ p, H p = none → spEven0 K CE (as ++ [y, V.ref p]) (upd H p (.tup rest)) Q E) := by
  obtain ⟨oc, od, kV, doc, pm, an, cdv, ct, osl, rfl, lk, hcd⟩ := F.ex
  exact OwR.fn_starko (k := 2) (ps := [("self" : Str)]) (pv := "bays") (kn := "most") (sp := spEven0 K CE) lk hcd scEv StX.cxUp_none (fun us rest y hl => match us, hl, rest with | [_], _, [] => rfl | [_], _, _ :: _ => rfl)
    fun A outer s H vs Q E hr h => even_body hc c n_range n_zip n_enumerate FR FF gF gR rR cR A outer s H vs Q E hr h
abbrev nLaw : List Str := ["_law_script", "_law_pen_here", "_law_turn", "_law_bays", "_law_spaces", "_law_first", "_law_made", "_law_again", "_law_second", "_law_cut", "_law_told", "_law_alike", "_law_open_so", "_law_odd"]
theorem scLaw : FnScope nLaw ["_law_script"] (defScope sLaw) := ⟨rfl, rfl, rfl, by decide +kernel, rfl, by decide +kernel, by decide +kernel⟩
theorem ok_law {r : RA} {CH CF CE CX CP f : Addr} {mH mF mR mP : Value} {fd : FuncData} (F : Fun K "law" "law" sLaw f fd) (Fa : Facts P w K mg base r CH CF CE CX CP mH mF mR mP) : OwR.FnG P w K mg base CX0 8 f fd ["_law_script"] (spLaw K) := by
  obtain ⟨oc, od, kV, doc, pm, an, cdv, ct, osl, rfl, lk, hcd⟩ := F.ex
  obtain ⟨f_pen, d_pen, g_pen, F_pen⟩ := Fa.pen
  have k_pen := F_pen.kp
  obtain ⟨f_draw, d_draw, g_draw, F_draw⟩ := Fa.draw
  have k_draw := F_draw.kp
  obtain ⟨f_pick, d_pick, g_pick, F_pick⟩ := Fa.pick
  have k_pick := F_pick.kp
  obtain ⟨f_row, d_row, g_row, F_row⟩ := Fa.row
  have k_row := F_row.kp
  obtain ⟨f_chosen, d_chosen, g_chosen, F_chosen⟩ := Fa.chosen
  have k_chosen := F_chosen.kp
  obtain ⟨f_all, d_all, g_all, F_all⟩ := Fa.all
  have k_all := F_all.kp
  obtain ⟨f_tolds, d_tolds, g_tolds, F_tolds⟩ := Fa.tolds
  have k_tolds := F_tolds.kp
  obtain ⟨f_near, d_near, g_near, F_near⟩ := Fa.near
  have k_near := F_near.kp
  obtain ⟨f_same, d_same, g_same, F_same⟩ := Fa.same
  have k_same := F_same.kp
  obtain ⟨fF, fdF, gF, FF⟩ := Fa.form
  obtain ⟨fI, fdI, gI, FI⟩ := Fa.isp
  obtain ⟨fW, fdW, gW, FW⟩ := Fa.wit
  obtain ⟨fH0, fdH0, mkH, FH0⟩ := Fa.house0
  obtain ⟨pHO, fHO, fdHO, cHO, FHO⟩ := Fa.hof
  obtain ⟨fHI, fdHI, cHI, FHI⟩ := Fa.hitem
  obtain ⟨fF0, fdF0, MF, FF0⟩ := Fa.first0
  obtain ⟨fE0, fdE0, ME, FE0⟩ := Fa.even0
  obtain ⟨fX0, fdX0, MX, FX0⟩ := Fa.else0
  obtain ⟨fR0, fdR0, cR0, FR0⟩ := Fa.rule0
  obtain ⟨fP0, fdP0, cP0, FP0⟩ := Fa.pair0
  obtain ⟨pFO, fFO, fdFO, cFO, FFO⟩ := Fa.fof
  obtain ⟨pPk, fPk, fdPk, cPk, FPk⟩ := Fa.picks
  obtain ⟨fdIt, FIt⟩ := Fa.iter
  obtain ⟨fdLn, FLn⟩ := Fa.len
  obtain ⟨fdCa, FCa⟩ := Fa.call
  obtain ⟨fdEq, FEq⟩ := Fa.eq
  obtain ⟨fSt, fdSt, cSt, FSt⟩ := Fa.str
  have R := Fa.R
  have hF := Fa.hF
  have hE := Fa.hE
  have hX := Fa.hX
  have gFirst := Fa.gFirst
  have gHouse := Fa.gHouse
  have gElse := Fa.gElse
  have gEven := Fa.gEven
  have rH := Fa.rH
  have rF := Fa.rF
  have n_range := Fa.n_range
  have n_repr := Fa.n_repr
  have n_len := Fa.nm.n_len
  have n_list := Fa.nm.n_list
  have n_str := Fa.chk.T.n_str
  have kdF := (R.one CF hF).kd
  have rcF := (R.one CF hF).kd.rc
  have rcE := (R.one CE hE).kd.rc
  have rcX := (R.one CX hX).kd.rc
  have G_pen : FnOk P w K mg base CX0 1 f_pen d_pen ["_law_script"] (spPen K) := ok_pen F_pen Fa.nm
  have b_pen : Binds K d_pen ["_law_script"] [] := F_pen.binds fun _ _ _ _ _ _ us hl => match us, hl with | [_], _ => rfl
  have G_draw : FnOk P w K mg base CX0 1 f_draw d_draw ["_law_pen_here", "_law_many"] spDraw := ok_draw F_draw Fa.nm
  have b_draw : Binds K d_draw ["_law_pen_here", "_law_many"] [] := F_draw.binds fun _ _ _ _ _ _ us hl => match us, hl with | [_, _], _ => rfl
  have G_pick : FnOk P w K mg base CX0 2 f_pick d_pick ["_law_pen_here", "_law_some"] (spPick K) := ok_pick F_pick Fa.nm F_draw g_draw
  have b_pick : Binds K d_pick ["_law_pen_here", "_law_some"] [] := F_pick.binds fun _ _ _ _ _ _ us hl => match us, hl with | [_, _], _ => rfl
  have G_row : FnOk P w K mg base CX0 3 f_row d_row ["_law_pen_here", "_law_bays", "_law_keeps", "_law_top"] (spRow K) := ok_row F_row Fa.nm Fa.n_range F_draw g_draw F_pick g_pick
  have b_row : Binds K d_row ["_law_pen_here", "_law_bays", "_law_keeps", "_law_top"] [] := F_row.binds fun _ _ _ _ _ _ us hl => match us, hl with | [_, _, _, _], _ => rfl
  have G_chosen : FnOk P w K mg base CX0 1 f_chosen d_chosen ["_law_picks_so", "_law_open_so"] (spChosen K) := ok_chosen F_chosen
  have b_chosen : Binds K d_chosen ["_law_picks_so", "_law_open_so"] [] := F_chosen.binds fun _ _ _ _ _ _ us hl => match us, hl with | [_, _], _ => rfl
  have G_all : FnOk P w K mg base CX0 1 f_all d_all ["_law_bays"] spAll := ok_all (K := K) F_all n_list Fa.n_dict n_range
  have b_all : Binds K d_all ["_law_bays"] [] := F_all.binds fun _ _ _ _ _ _ us hl => match us, hl with | [_], _ => rfl
  have G_tolds : FnOk P w K mg base CX0 2 f_tolds d_tolds ["_law_pen_here", "_law_picks_so"] (spTolds K) := ok_tolds F_tolds n_list n_len n_range g_draw k_draw b_draw G_draw
  have b_tolds : Binds K d_tolds ["_law_pen_here", "_law_picks_so"] [] := F_tolds.binds fun _ _ _ _ _ _ us hl => match us, hl with | [_, _], _ => rfl
  have G_near : FnOk P w K mg base CX0 3 f_near d_near ["_law_pen_here", "_law_picks_so", "_law_bays"] (spNear K) := ok_near F_near n_list n_len g_draw k_draw b_draw G_draw g_pick k_pick b_pick G_pick
  have b_near : Binds K d_near ["_law_pen_here", "_law_picks_so", "_law_bays"] [] := F_near.binds fun _ _ _ _ _ _ us hl => match us, hl with | [_, _, _], _ => rfl
  have G_same : FnOk P w K mg base CX0 2 f_same d_same ["_law_one", "_law_two", "_law_spaces"] (spSame K) := ok_same F_same g_chosen k_chosen b_chosen G_chosen
  have b_same : Binds K d_same ["_law_one", "_law_two", "_law_spaces"] [] := F_same.binds fun _ _ _ _ _ _ us hl => match us, hl with | [_, _, _], _ => rfl
  have GF0 : FnR P w K mg base CX0 3 fF0 (spFirst CF) := ok_F0 rcF FF0 Fa.chk FR0 FF gF Fa.n_zip Fa.n_enumerate FI gI Fa.gRule Fa.rR cR0
  have GFO : FnR P w K mg base CX0 5 fFO (spFirstT K CF) := ok_FOT FFO MF GF0
  have GE := ok_even (P := P) (w := w) (base := base) rcE FE0 Fa.chk Fa.n_range Fa.n_zip Fa.n_enumerate FR0 FF gF Fa.gRule Fa.rR cR0
  have GX : FnR P w K mg base CX0 5 fX0 (spElse0 K r.CR r.fI r.fL CX) := OwR.raw0 (ok_else0 rcX Fa.x1 Fa.x2 FX0 Fa.chk Fa.nm.n_list Fa.n_iter Fa.n_zip FR0 FF gF FP0 FIt FLn Fa.gRule Fa.rR cR0 Fa.gPair Fa.rP cP0) (FX0.binds fun _ _ _ _ _ _ us hl => match us, hl with | [_, _, _], _ => rfl)
  have GEqQ : FnR P w K mg base CX0 1 r.fE (spEqQ K r.CR r.fI r.fL) := ok_reqQ FEq Fa.chk.T Fa.gRule
  have GEqO : FnR P w K mg base CX0 1 r.fE (spEqO K r.CR) := ok_reqO FEq Fa.chk.T Fa.gRule
  have GStr : FnR P w K mg base CX0 1 fSt (spStrR K r.CR r.fI r.fL) := ok_rstr FSt
  have GPk : FnOk P w K mg base CX0 1 fPk fdPk ["self"] (getSp CF "_picks") := ok_picks rcF FPk
  have bPk : Binds K fdPk ["self"] [] := FPk.binds fun _ _ _ _ _ _ us hl => match us, hl with | [_], _ => rfl
  have GHO : FnR P w K mg base CX0 7 fHO (spOf CH) := OwR.raw0 (ok_Of Fa.hc FH0 mkH Fa.gHouse FW gW FHO Fa.chk Fa.n_dict) (FHO.binds fun _ _ _ _ _ _ us hl => match us, hl with | [_, _], _ => rfl)
  have GHI : FnR P w K mg base CX0 2 fHI (spItem CH) := OwR.raw0 (ok_Item Fa.hc FHI Fa.chk) (FHI.binds fun _ _ _ _ _ _ us hl => match us, hl with | [_, _], _ => rfl)
  have GCa : FnR P w K mg base CX0 4 r.fC (spCallA r CH) := callA_ok R FCa cHI GHI
  refine OwR.fn_ofG (k := 7) lk hcd scLaw (fun vs H Q E h => ?_) fun A outer s H vs Q E hgd hr h => ?_
  · obtain ⟨a, ns, rfl, _⟩ := h
    rfl
  · obtain ⟨a, ns, rfl, ha, hl, q⟩ := h
    have hr1 : Room 1 (A.deeper (envOfC "law" (defScope sLaw) s.heap.objs.size f cdv)) := hr.mono (by decide)
    have hr2 : Room 2 (A.deeper (envOfC "law" (defScope sLaw) s.heap.objs.size f cdv)) := hr.mono (by decide)
    have hr3 : Room 3 (A.deeper (envOfC "law" (defScope sLaw) s.heap.objs.size f cdv)) := hr.mono (by decide)
    have hr4 : Room 4 (A.deeper (envOfC "law" (defScope sLaw) s.heap.objs.size f cdv)) := hr.mono (by decide)
    have hr5 : Room 5 (A.deeper (envOfC "law" (defScope sLaw) s.heap.objs.size f cdv)) := hr.mono (by decide)
    have hr6 : Room 6 (A.deeper (envOfC "law" (defScope sLaw) s.heap.objs.size f cdv)) := hr.mono (by decide)
    have hr7 : Room 7 (A.deeper (envOfC "law" (defScope sLaw) s.heap.objs.size f cdv)) := hr
    have hrep : (A.deeper (envOfC "law" (defScope sLaw) s.heap.objs.size f cdv)).units + 70 < cLine := by have := hr.un; omega
    have hu : (A.deeper (envOfC "law" (defScope sLaw) s.heap.objs.size f cdv)).units + 1 < cLine := by have := hr.un; omega
    have hu2 : (A.deeper (envOfC "law" (defScope sLaw) s.heap.objs.size f cdv)).units + 2 < cLine := by have := hr.un; omega
    have hu0 : (A.deeper (envOfC "law" (defScope sLaw) s.heap.objs.size f cdv)).units < cLine := by have := hr.un; omega
    refine ⟨_, PSs.nox (pss_cons (ps_set (i := 1) scLaw.nd rfl (Or.inl rfl) (pe_call G_pen hr1 (by rfl) g_pen k_pen b_pen .nil pass0 (pa_cons (pv 0) pa_nil)))
    (pss_cons (ps_for PassesOwn.never rfl (pi_range1 rfl n_range (pa_cons pe_int pa_nil)) (pg_name (i := 2) scLaw.nd rfl (Or.inl rfl)) (pss_cons (ps_set (i := 3) scLaw.nd rfl (Or.inl rfl) (pe_slice sl_list (pe_lst (pa_cons pe_str (pa_cons pe_str (pa_cons pe_str pa_nil)))) po_none (po_some (pe_op op_add pe_int (pe_call G_draw hr1 (by rfl) g_draw k_draw b_draw .nil pass0 (pa_cons (pv 1) (pa_cons pe_int pa_nil)))))))
    (pss_cons (ps_par (i := 4) (j := 5) (by rfl) scLaw.nd rfl rfl (by decide) rfl rfl (pa_cons (pe_call G_all hr1 (by rfl) g_all k_all b_all .nil pass0 (pa_cons (pv 3) pa_nil)) (pa_cons (pe_call G_row hr3 (by rfl) g_row k_row b_row .nil pass0 (pa_cons (pv 1) (pa_cons (pv 3) (pa_cons (pe_lst (pa_cons pe_int (pa_cons pe_int (pa_cons pe_int (pa_cons pe_int (pa_cons pe_int pa_nil)))))) (pa_cons pe_int pa_nil))))) pa_nil)) (by rfl))
    (pss_cons (ps_set (i := 6) scLaw.nd rfl (Or.inr rfl) (ClX.pe_cmeth (pe_glob (v := .ref CF) rfl gFirst rfl) rF cFO GFO hr5 pass0 (pa_cons (pv 5) pa_nil)))
    (pss_cons (ps_for PassesOwn.never rfl (pi_range1 rfl n_range (pa_cons pe_int pa_nil)) (pg_name (i := 7) scLaw.nd rfl (Or.inl rfl)) (pss_cons (ps_set (i := 8) scLaw.nd rfl (Or.inl rfl) (pe_call G_tolds hr2 (by rfl) g_tolds k_tolds b_tolds .nil pass0 (pa_cons (pv 1) (pa_cons (pv 5) pa_nil))))
    (C8.pss_cut (ps_if (pt_cmpR op_eq (pe_call G_draw hr1 (by rfl) g_draw k_draw b_draw .nil pass0 (pa_cons (pv 1) (pa_cons pe_int pa_nil))) pe_int (nomark _)) (pss_one (ps_set (i := 8) scLaw.nd rfl (Or.inl rfl) (pe_call G_near hr3 (by rfl) g_near k_near b_near .nil pass0 (pa_cons (pv 1) (pa_cons (pv 8) (pa_cons (pv 3) pa_nil)))))) pss_nil)
    (pss_cons (ps_set (i := 9) scLaw.nd rfl (Or.inl rfl) (pe_call G_draw hr1 (by rfl) g_draw k_draw b_draw .nil pass0 (pa_cons (pv 1) (pa_cons (pe_op op_add (pe_callB call_len_seq (by rfl) n_len boot_len (pa_cons (pv 8) pa_nil)) pe_int) pa_nil))))
    (pss_cons (ps_par (i := 10) (j := 11) (by rfl) scLaw.nd rfl rfl (by decide) rfl rfl (pa_cons (StX.pe_makeR MX GX hr6 (by rfl) gElse pass0 (pa_cons (ClX.pe_cmeth (pe_glob (v := .ref CF) rfl gFirst rfl) rF cFO GFO hr5 pass0 (pa_cons (pe_slice sl_list (pv 8) po_none (po_some (pv 9))) pa_nil)) (pa_cons (ClX.pe_cmeth (pe_glob (v := .ref CF) rfl gFirst rfl) rF cFO GFO hr5 pass0 (pa_cons (pe_slice sl_list (pv 8) (po_some (pv 9)) po_none) pa_nil)) pa_nil))) (pa_cons (pe_call G_same hr2 (by rfl) g_same k_same b_same .nil pass0 (pa_cons (pv 5) (pa_cons (pv 8) (pa_cons (pv 4) pa_nil)))) pa_nil)) (by rfl))
    (pss_cons (ps_if (pt_cmpR op_ne (pe_callB (OwR.cr_reprD hgd hrep) (by rfl) n_repr (by decide +kernel) (pa_cons (pe_lst (pa_cons (pe_cmpR (OwR.op_ownEq hu0 GEqQ hr1 pass0) (pv 6) (pv 10) (nomark _)) (pa_cons (pe_cmpR (OwR.op_ownEq hu0 GEqQ hr1 pass0) (pv 10) (pv 6) (nomark _)) (pa_cons (pe_cmpR (OwR.op_ownNe hu GEqQ hr2 pass0) (pv 6) (pv 10) (nomark _)) pa_nil)))) pa_nil)) (pe_callB (OwR.cr_reprD hgd hrep) (by rfl) n_repr (by decide +kernel) (pa_cons (pe_lst (pa_cons (pv 11) (pa_cons (pv 11) (pa_cons (pe_not (pv 11)) pa_nil)))) pa_nil)) (nomark _)) (pss_one (ps_ret pe_bl)) pss_nil)
    (pss_one (ps_if (PW.pt (pw_or (pt_cmpR op_ne (pe_cmpR (OwR.op_ownEq hu0 GEqQ hr1 pass0) (ClX.pe_cmeth (pe_glob (v := .ref CF) rfl gFirst rfl) rF cFO GFO hr5 pass0 (pa_cons (pv 8) pa_nil)) (pv 6) (nomark _)) (pv 11) (nomark _)) (pw_or1 (pt_cmpR (OwR.op_ownNe hu GEqQ hr2 pass0) (ClX.pe_cmeth (pe_glob (v := .ref CF) rfl gFirst rfl) rF cFO GFO hr5 pass0 (pa_cons (pe_prop (pv 6) rcF.cls cPk GPk hr2 bPk .nil pass0 rfl) pa_nil)) (pv 6) (nomark _))))) (pss_one (ps_ret pe_bl)) pss_nil))))))))
    (pss_cons (ps_for PassesOwn.never rfl (pi_list (OwR.pe_stepL (n := 7) (by decide) (pv 4))) (pg_name (i := 12) scLaw.nd rfl (Or.inl rfl)) (pss_one (ps_if (pt_cmpR op_ne (pe_callB cr_reprO (by rfl) n_repr (by decide +kernel) (pa_cons (OwR.pe_callA (pv 6) GCa hr4 pass0 (pa_cons (ClX.pe_cmeth (pe_glob (v := .ref CH) rfl gHouse rfl) rH cHO GHO hr7 pass0 (pa_cons (pv 12) pa_nil)) pa_nil)) pa_nil)) (pe_callB cr_reprO (by rfl) n_repr (by decide +kernel) (pa_cons (pe_call G_chosen hr1 (by rfl) g_chosen k_chosen b_chosen .nil pass0 (pa_cons (pv 5) (pa_cons (pv 12) pa_nil))) pa_nil)) (nomark _)) (pss_one (ps_ret pe_bl)) pss_nil)))
    (pss_one (ps_if (pt_cmpR (op_neD hr.units) (pe_lc (own := [("_law_odd", 13)]) (by rfl) scLaw.nd (pi_list (pe_lst (pa_cons pe_non (pa_cons (pe_prop (pv 6) rcF.cls cPk GPk hr2 bPk .nil pass0 rfl) (pa_cons (pe_callTy call_list_of (by rfl) n_list (by decide +kernel) (pa_cons (pe_prop (pv 6) rcF.cls cPk GPk hr2 bPk .nil pass0 rfl) pa_nil)) (pa_cons (pe_callTy (OwR.call_strO hu2 GStr hr3 pass0) (by rfl) n_str (by decide +kernel) (pa_cons (pv 6) pa_nil)) (pa_cons pe_int (pa_cons pe_dnewK pa_nil)))))))) (blkOk_by (own := [("_law_odd", 13)]) (N := nLaw) (sc := defScope sLaw) (by decide +kernel)) (fun _ _ _ _ _ => (pg_name (i := 13) scLaw.nd rfl (Or.inl rfl))) (fun _ _ _ _ _ => pts_one (pt_cmpR (OwR.op_ownEqXK (K := K) rfl hu0 GEqO hr1 pass0) (pv 6) (pv 13) (nomark _))) (fun _ _ _ _ _ => (pv 13))) (pe_lst pa_nil) (nomark _)) (pss_one (ps_ret pe_bl)) pss_nil))))))))
    (pss_one (ps_ret (pe_and (pe_cmpR (OwR.op_ownEq hu0 GEqQ hr1 pass0) (OwR.pe_makeRK ME GE hr4 (by rfl) gEven pass0 (pa_cons pe_str (pa_cons pe_str pa_nil)) (pk_cons pe_int pk_nil)) (StX.pe_makeR MF GF0 hr4 (by rfl) gFirst pass0 (pa_cons (pe_tup (pa_cons pe_str (pa_cons pe_int pa_nil))) (pa_cons (pe_tup (pa_cons pe_str (pa_cons pe_int pa_nil))) (pa_cons pe_str (pa_cons pe_str pa_nil))))) (nomark _)) (pe_one (pe_cmpR (OwR.op_ownEq hu0 GEqQ hr1 pass0) (OwR.pe_makeR0 MF GF0 hr4 (by rfl) gFirst pass0) (StX.pe_makeR MX GX hr6 (by rfl) gElse pass0 (pa_cons (OwR.pe_makeR0 MF GF0 hr4 (by rfl) gFirst pass0) (pa_cons (OwR.pe_makeR0 MF GF0 hr4 (by rfl) gFirst pass0) pa_nil))) (nomark _)))))))), ?_⟩
    have sz := sizeLine_eq
    refine ⟨_, rfl, a, ns, rfl, ha, hl, fun p c H1 hp1 s1 pn1 => ?_⟩
    refine ⟨5, rfl, by decide, by decide, ?_⟩
    refine for_it walk_range (fun i σ Hx => (∃ x2 x3 x4 x5 x6 x7 x8 x9 x10 x11 x12 x13, σ = [some (.ref a), some (.ref p), x2, x3, x4, x5, x6, x7, x8, x9, x10, x11, x12, x13]) ∧ ∃ (n : Nat) (z : Int), PenAt Hx p c ns n z ∧ n ≤ 500 * i)
      ⟨⟨_, _, _, _, _, _, _, _, _, _, _, _, rfl⟩, 0, 0, pn1, Nat.le_refl 0⟩ (fun _ _ _ _ _ => True.intro) (fun i x σ Hx Hy hi q0 y => ?_) (fun σ Hx q0 => ?_)
    rotate_left
    · obtain ⟨⟨x2, x3, x4, x5, x6, x7, x8, x9, x10, x11, x12, x13, rfl⟩, _⟩ := q0
      -- Even and First
      refine fun y dy h1 h2 nd => ⟨[.ref y], [.str "s", .str "b"], .int 2, rfl, rfl, rfl, by show (2 : Nat) ≤ sizeLine; omega, fun t ht => ?_⟩
      refine ⟨y, t, dy, ["s", "b"], 2, rfl, upd_keep2 upd_same ht, SqT.of upd_same, by decide +kernel, by decide +kernel, by decide, by decide, by decide, by decide +kernel, fun H2 sb hR => ⟨rfl, ?_⟩⟩
      refine ⟨by show (2 : Nat) ≤ sizeLine; omega, fun T1 hT1 => ?_⟩
      have s2 := Same.of_new (o := .tup [.str "s", .int 1]) hT1
      refine ⟨by show (2 : Nat) ≤ sizeLine; omega, fun T2 hT2 => ?_⟩
      have s3 := Same.of_new (o := .tup [.str "b", .int 1]) hT2
      have eT1 := s3 T1 _ upd_same
      have eT2 : upd (upd H2 T1 (.tup [.str "s", .int 1])) T2 (.tup [.str "b", .int 1]) T2 = some (.tup [.str "b", .int 1]) := upd_same
      have oE : OneOf r (upd (upd H2 T1 (.tup [.str "s", .int 1])) T2 (.tup [.str "b", .int 1])) y (oneForm (rounds 2 ["s", "b"] (2 : Int).toNat)) := ⟨CE, hE, (hR.same s2).same s3⟩
      generalize upd (upd H2 T1 (.tup [.str "s", .int 1])) T2 (.tup [.str "b", .int 1]) = H3 at eT1 eT2 oE ⊢
      refine fun y2 dy2 h3 h4 nd2 => ?_
      have s4 : Same H3 (upd (upd H3 dy2 (.own y2)) y2 (.ins CF dy2 [])) := fun b o e => by
        rw [upd_ne (ne_of_none e h3), upd_ne (ne_of_none e h4)]
        exact e
      refine ⟨y2, dy2, [.ref T1, .ref T2, .str "s", .str "b"], [("s", 1), ("b", 1), ("s", 0), ("b", 0)], rfl, upd_same, ⟨rfl, fun i x p e1 e2 => ?_⟩, by decide, Lim.good (m := 4) (h := 1) ⟨by decide +kernel, by decide +kernel⟩ (by decide), fun H4 sb4 hR4 => ⟨rfl, ?_⟩⟩
      · match i, e1, e2 with
        | 0, e1, e2 => cases e1; cases e2; exact .inl ⟨T1, rfl, s4 T1 _ eT1⟩
        | 1, e1, e2 => cases e1; cases e2; exact .inl ⟨T2, rfl, s4 T2 _ eT2⟩
        | 2, e1, e2 => cases e1; cases e2; exact .inr ⟨rfl, rfl⟩
        | 3, e1, e2 => cases e1; cases e2; exact .inr ⟨rfl, rfl⟩
      have s5 : Same H3 H4 := made_same h3 h4 sb4
      refine do_eq R (oE.same s5) ⟨CF, hF, hR4⟩ (by decide +kernel) (by decide +kernel) ?_
      rw [decide_eq_true (show oneForm (rounds 2 ["s", "b"] (2 : Int).toNat) = oneForm [("s", 1), ("b", 1), ("s", 0), ("b", 0)] by decide +kernel)]
      refine ⟨true, rfl, iteT ?_⟩
      -- no picks
      refine fun z1 dz1 g1 g2 nd3 => ⟨z1, dz1, [], [], rfl, upd_same, ⟨rfl, fun i x p h => by cases h⟩, by decide, (fun p h => by cases h), fun H5 sb5 hR5 => ⟨rfl, ?_⟩⟩
      refine fun z2 dz2 g3 g4 nd4 => ⟨z2, dz2, [], [], rfl, upd_same, ⟨rfl, fun i x p h => by cases h⟩, by decide, (fun p h => by cases h), fun H6 sb6 hR6 => ⟨rfl, ?_⟩⟩
      refine fun z3 dz3 g5 g6 nd5 => ⟨z3, dz3, [], [], rfl, upd_same, ⟨rfl, fun i x p h => by cases h⟩, by decide, (fun p h => by cases h), fun H7 sb7 hR7 => ⟨rfl, ?_⟩⟩
      have s6 : Same H5 H6 := made_same g3 g4 sb6
      have s7 : Same H6 H7 := made_same g5 g6 sb7
      have w1 : OneOf r H7 z1 (oneForm []) := ⟨CF, hF, (hR5.same s6).same s7⟩
      have w2 : OneOf r H7 z2 (oneForm []) := ⟨CF, hF, hR6.same s7⟩
      have w3 : OneOf r H7 z3 (oneForm []) := ⟨CF, hF, hR7⟩
      refine fun z4 dz4 g7 g8 nd6 => ?_
      have s8 : Same H7 (upd (upd H7 dz4 (.own z4)) z4 (.ins CX dz4 [])) := fun b o e => by
        rw [upd_ne (ne_of_none e g7), upd_ne (ne_of_none e g8)]
        exact e
      have any : ∀ {b : Addr}, OneOf r H7 b (oneForm []) → AnyRule K r.CR r.fI r.fL (upd (upd H7 dz4 (.own z4)) z4 (.ins CX dz4 [])) b (oneForm []) ∧ z4 ≠ b := fun {b} ⟨C, hC, rC⟩ => by
        refine ⟨⟨C, (R.one C hC).kd, rC.same s8⟩, fun e => ?_⟩
        obtain ⟨dx, fs, q1, k1, e1, _⟩ := rC
        rw [← e, g7] at e1
        cases e1
      refine ⟨z4, z2, z3, dz4, oneForm [], oneForm [], rfl, upd_same, (any w2).2, (any w3).2, (any w2).1, (any w3).1, by decide, fun H8 sb8 hR8 => ⟨rfl, ?_⟩⟩
      refine do_eq R (w1.same (made_same g7 g8 sb8)) ⟨CX, hX, hR8⟩ (by decide +kernel) (by decide +kernel) ?_
      rw [decide_eq_true (show oneForm [] = oneForm (oneForm [] ++ oneForm []) from rfl)]
      exact q H8
    obtain ⟨⟨x2, x3, x4, x5, x6, x7, x8, x9, x10, x11, x12, x13, rfl⟩, n0, z0, pn0, ln0⟩ := q0
    obtain ⟨rfl, rfl⟩ := y
    have hi5 : i < 5 := hi
    -- the bays
    refine ⟨by show (3 : Nat) ≤ sizeLine; omega, fun l0 hl0 => ?_⟩
    have nl0 : l0 ≠ p := fun e => pn0.some (e ▸ hl0)
    refine ⟨_, rfl, p, c, ns, n0, z0, 2, rfl, pn0.same (Same.of_new hl0), by omega, by decide, by decide +kernel, fun d n1 z1 H2 d0 d1 hn1 pn2 s2 => ?_⟩
    obtain ⟨bs, ecut, b0, b3, bnd, bsm⟩ := cut3 d0 d1
    refine ⟨2, d, rfl, rfl, _, rfl, l0, three.map V.str, rfl, SqL.of (s2 l0 _ nl0 upd_same), ?_⟩
    rw [ecut]
    intro b hb
    have nb : b ≠ p := fun e => pn2.some (e ▸ hb)
    have pn3 := pn2.same (Same.of_new (o := .lst (bs.map V.str)) hb)
    have eb3 : upd H2 b (.lst (bs.map V.str)) b = some (.lst (bs.map V.str)) := upd_same
    generalize upd H2 b (.lst (bs.map V.str)) = H3 at pn3 eb3 ⊢
    -- all free places, and the picks
    refine ⟨_, rfl, b, bs, rfl, eb3, bnd, b3, fun ls ds H4 s4 hls els sp => ?_⟩
    have pn4 := pn3.same s4
    have nls : ls ≠ p := fun e => pn3.some (e ▸ hls)
    refine ⟨_, rfl, _, rfl, by show (5 : Nat) ≤ sizeLine; omega, fun lk hlk => ?_⟩
    have s5 := Same.of_new (o := .lst [.int 0, .int 0, .int 1, .int 2, .int 3]) hlk
    have nlk : lk ≠ p := fun e => pn4.some (e ▸ hlk)
    refine ⟨p, c, b, lk, ns, n1, z1, bs, [0, 0, 1, 2, 3], 7, rfl, by decide, pn4.same s5, by omega, nb, nlk, SqL.of (s5 b _ (s4 b _ eb3)), b0, by omega, SqL.of upd_same, by decide, by decide, fun r1 ks ps n2 z2 H5 nr er pk lp mem hn2 pn5 s6 => ?_⟩
    refine ⟨_, _, rfl, ?_⟩
    have okP : ∀ q ∈ ps, PkOk bs q := fun q hq => by
      refine ⟨(mem q hq).1, ?_⟩
      have := (mem q hq).2
      revert this
      generalize q.2 = v
      intro h
      simp only [List.mem_cons, List.not_mem_nil, or_false] at h
      omega
    have goodOf : ∀ {l : List Pk}, (∀ q ∈ l, PkOk bs q) → ∀ q ∈ l, Good q := fun {l} h q hq => by
      have h1 := three_good q.1 (bsm _ (h q hq).1)
      have h2 := (h q hq).2
      exact ⟨h1.1, h1.2, h2.1, by omega⟩
    have strOf : ∀ {l : List Pk}, (∀ q ∈ l, PkOk bs q) → ∀ q ∈ l, PyData.strOk q.1 = true := fun {l} h q hq => three_str q.1 (bsm _ (h q hq).1)
    have formOk : ∀ {l : List Pk}, (∀ q ∈ l, PkOk bs q) → ∀ q ∈ oneForm l, PkOk bs q := fun {l} h q hq => h q (mem_form hq)
    have posOf : ∀ {l : List Pk}, (∀ q ∈ l, PkOk bs q) → ∀ q ∈ l, 0 ≤ q.2 := fun {l} h q hq => (h q hq).2.1
    -- the rule
    refine ⟨rfl, _, rfl, r1, ks.map V.ref, ps, rfl, .inr (SqL.of er), pk.vals, by omega, goodOf okP, fun m H6 hm s7 hR => ?_⟩
    have eb6 := s7 b _ (s6 b _ nb (s5 b _ (s4 b _ eb3)))
    have els6 := s7 ls _ (s6 ls _ nls (s5 ls _ els))
    have sp6 := (((sp.same s5).but (pn4.same s5) s6).same s7)
    have er6 := s7 r1 _ er
    have pk6 := pk.same s7
    have pn6 := pn5.same s7
    have om : OneOf r H6 m (oneForm ps) := ⟨CF, hF, hR⟩
    have ln6 : n2 ≤ 500 * i + 35 := by omega
    clear s4 s5 s6 s7 els sp er pk pn5 pn4 pn3 pn2 eb3 hls hlk hb s2 hl0 hn1 hn2
    refine ⟨4, rfl, by decide, by decide, ?_⟩
    refine for_it walk_range (fun j σ Hx => (∃ x7 x8 x9 x10 x11 x12 x13, σ = [some (.ref a), some (.ref p), some (.int (0 + (i : Nat))), some (.ref b), some (.ref ls), some (.ref r1), some (.ref m), x7, x8, x9, x10, x11, x12, x13]) ∧ But p H6 Hx ∧ ∃ (n : Nat) (z : Int), PenAt Hx p c ns n z ∧ n ≤ n2 + 60 * j)
      ⟨⟨_, _, _, _, _, _, _, rfl⟩, But.refl p H6, n2, z2, pn6, by omega⟩ (fun _ _ _ _ _ => True.intro) (fun j x σ Hx Hz hj q0 y => ?_) (fun σ Hx q0 => ?_)
    · obtain ⟨⟨x7, x8, x9, x10, x11, x12, x13, rfl⟩, sB, n3, z3, pn7, ln7⟩ := q0
      obtain ⟨rfl, rfl⟩ := y
      have hj4 : j < 4 := hj
      have er7 := sB r1 _ nr er6
      have pk7 := pk6.but pn6 sB
      -- told otherwise, or near
      refine ⟨_, rfl, _, rfl, p, c, r1, ns, n3, z3, ks.map V.ref, bs, rfl, pn7, by omega, nr, er7, Els.of pk7 okP, by rw [List.length_map, pk7.len]; exact lp, fun l2 xs2 n4 z4 H8 nl2 el2 els2 lx2 hn4 pn8 s8 => ?_⟩
      refine ⟨fun σ' H' => ∃ (l3 : Addr) (xs3 : List V) (n5 : Nat) (z5 : Int), σ' = [some (.ref a), some (.ref p), some (.int (0 + (i : Nat))), some (.ref b), some (.ref ls), some (.ref r1), some (.ref m), some (.int (0 + (j : Nat))), some (.ref l3), x9, x10, x11, x12, x13] ∧ But p H6 H' ∧ l3 ≠ p ∧ H' l3 = some (.lst xs3) ∧ Els bs H' xs3 ∧ xs3.length ≤ 11 ∧ PenAt H' p c ns n5 z5 ∧ n5 ≤ n3 + 45, ?_, ?_⟩
      · refine ⟨_, rfl, p, c, ns, n4, z4, 2, rfl, pn8, by omega, by decide, by decide +kernel, fun d2 n5 z5 H9 e0 e1 hn5 pn9 s9 => ⟨rfl, _, rfl, ?_⟩⟩
        refine ite2 (fun c1 => ?_) (fun c1 => ?_)
        · refine ⟨_, rfl, _, rfl, _, rfl, p, c, l2, b, ns, n5, z5, xs2, bs, rfl, pn9, by omega, nl2, nb, s9 l2 _ nl2 el2, s9 b _ nb (s8 b _ nb (sB b _ nb eb6)), b0, by omega, els2.but pn8 s9, lx2, fun l3 xs3 n6 z6 H10 nl3 el3 els3 lx3 hn6 pn10 s10 => ?_⟩
          exact ⟨l3, xs3, n6, z6, rfl, ((sB.trans s8).trans s9).trans s10, nl3, el3, els3, lx3, pn10, by omega⟩
        · exact ⟨l2, xs2, n5, z5, rfl, (sB.trans s8).trans s9, nl2, s9 l2 _ nl2 el2, els2.but pn8 s9, by omega, pn9, by omega⟩
      rintro σ' H10 ⟨l3, xs3, n5, z5, rfl, sC, nl3, el3, els3, lx3, pn10, ln10⟩
      obtain ⟨k3, p3, rfl, pk3, ok3⟩ := els3.picks
      rw [List.length_map] at lx3
      have lp3 : p3.length ≤ 11 := by rw [← pk3.len]; exact lx3
      -- where it is cut
      refine ⟨_, rfl, _, rfl, l3, _, rfl, .inl (SqL.of el3), _, _, rfl, rfl, p, c, ns, n5, z5, _, rfl, pn10, by omega, by rw [List.length_map]; omega, small_int (by omega) (by rw [List.length_map]; omega), fun t n6 z6 H11 t0 t1 hn6 pn11 s11 => ?_⟩
      rw [List.length_map] at t1
      obtain ⟨ct', rfl⟩ : ∃ ct' : Nat, t = (ct' : Int) := ⟨t.toNat, by omega⟩
      have hct : ct' ≤ k3.length := by omega
      have el11 := s11 l3 _ nl3 el3
      have pk11 := pk3.but pn10 s11
      have sD := sC.trans s11
      refine ⟨rfl, _, rfl, _, rfl, _, rfl, l3, _, rfl, SqL.of el11, fun a1 h1 => ?_⟩
      rw [(cut_refs hct).1]
      have s12 := Same.of_new (o := .lst ((k3.take ct').map V.ref)) h1
      have okA : ∀ q ∈ p3.take ct', PkOk bs q := fun q hq => ok3 q (List.mem_of_mem_take hq)
      have okB : ∀ q ∈ p3.drop ct', PkOk bs q := fun q hq => ok3 q (List.mem_of_mem_drop hq)
      have lA : (p3.take ct').length ≤ 11 := by rw [List.length_take]; omega
      have lAB : (p3.take ct').length + (p3.drop ct').length ≤ 11 := by
        rw [← List.length_append, List.take_append_drop]
        exact lp3
      refine ⟨a1, _, p3.take ct', rfl, .inr (SqL.of upd_same), (picksTake (pk11.same s12) ct').vals, by omega, goodOf okA, fun mA H12 hA sA rA => ?_⟩
      have sE := s12.trans sA
      refine ⟨rfl, _, rfl, _, rfl, _, rfl, l3, _, rfl, SqL.of (sE l3 _ el11), fun a2 h2 => ?_⟩
      rw [(cut_refs hct).2]
      have s13 := Same.of_new (o := .lst ((k3.drop ct').map V.ref)) h2
      refine ⟨a2, _, p3.drop ct', rfl, .inr (SqL.of upd_same), (picksDrop ((pk11.same sE).same s13) ct').vals, by omega, goodOf okB, fun mB H13 hB sF rB => ?_⟩
      have sG := (sE.trans s13).trans sF
      refine fun z dz g1 g2 nd => ?_
      have s14 : Same H13 (upd (upd H13 dz (.own z)) z (.ins CX dz [])) := fun b o e => by
        rw [upd_ne (ne_of_none e g1), upd_ne (ne_of_none e g2)]
        exact e
      have rA13 := (rA.same s13).same sF
      have any : ∀ {b : Addr} {l : List Pk}, RuleAt CF H13 b l → AnyRule K r.CR r.fI r.fL (upd (upd H13 dz (.own z)) z (.ins CX dz [])) b l ∧ z ≠ b := fun {b l} rC => by
        refine ⟨⟨CF, kdF, rC.same s14⟩, fun e => ?_⟩
        obtain ⟨dx, fs, q1, k1, e1, _⟩ := rC
        rw [← e, g1] at e1
        cases e1
      have fA := form_len (p3.take ct')
      have fB := form_len (p3.drop ct')
      refine ⟨z, mA, mB, dz, oneForm (p3.take ct'), oneForm (p3.drop ct'), rfl, upd_same, (any rA13).2, (any rB).2, (any rA13).1, (any rB).1, by omega, fun H14 sb rE => ⟨rfl, ?_⟩⟩
      rw [form_join _ _ (posOf okA) (posOf okB), List.take_append_drop] at rE
      have sH : Same H11 H14 := sG.trans (made_same g1 g2 sb)
      have sI : But p H6 H14 := sD.trans (Same.but p sH)
      have pn14 := pn11.same sH
      have el14 := sH l3 _ el11
      have pk14 := pk11.same sH
      have spI := sp6.but pn6 sI
      -- alike?
      refine ⟨_, rfl, _, rfl, _, rfl, r1, l3, ls, ks, k3, ds, ps, p3, spaces bs, rfl, SqL.of (sI r1 _ nr er6), pk6.but pn6 sI, SqL.of el14, pk14, SqL.of (sI ls _ nls els6), spI, ?_, spaces_len b3, fun H15 s15 => ⟨_, _, rfl, ?_⟩⟩
      · intro t ht q hq
        rw [spaces_keys ht]
        rcases List.mem_append.mp hq with h | h
        · exact (okP q h).1
        · exact (ok3 q h).1
      rw [alike_iff okP ok3]
      have sJ := sI.trans (Same.but p s15)
      have pn15 := pn14.same s15
      have om15 := om.but pn6 sJ
      have oz15 : OneOf r H15 z (oneForm p3) := ⟨CX, hX, rE.same s15⟩
      have strF := strOf (formOk okP)
      have strG := strOf (formOk ok3)
      have esym : decide (oneForm p3 = oneForm ps) = decide (oneForm ps = oneForm p3) := decide_eq_decide.mpr eq_comm
      have el15 := s15 l3 _ el14
      have pk15 := pk14.same s15
      clear sA sE sF sG sH sI s12 s13 s14 sb rE rA rB rA13 any hA hB h1 h2 g1 g2 s15 el14 pk14 spI sD el11 pk11 pn11 pn14
      refine ⟨_, rfl, _, rfl, do_eq R om15 oz15 strF strG ?_⟩
      refine ⟨_, rfl, _, rfl, do_eq R oz15 om15 strG strF ?_⟩
      refine ⟨_, rfl, _, rfl, do_neq R om15 oz15 strF strG ?_⟩
      rw [esym]
      generalize hal : decide (oneForm ps = oneForm p3) = al at esym ⊢
      have t3 := bools_ok al al (!al)
      refine ⟨by show (3 : Nat) ≤ sizeLine; omega, fun L1 hL1 => ?_⟩
      refine ⟨L1, .list [.bool al, .bool al, .bool (!al)], rfl, .lst (SqL.of upd_same) (.cons (.bl _) (.cons (.bl _) (.cons (.bl _) .nil))), t3.1, t3.2.1, t3.2.2.1, t3.2.2.2, ?_⟩
      refine ⟨_, rfl, _, rfl, _, rfl, _, rfl, by show (3 : Nat) ≤ sizeLine; omega, fun L2 hL2 => ?_⟩
      refine ⟨L2, .list [.bool al, .bool al, .bool (!al)], rfl, .lst (SqL.of upd_same) (.cons (.bl _) (.cons (.bl _) (.cons (.bl _) .nil))), t3.1, t3.2.1, t3.2.2.1, t3.2.2.2, ?_⟩
      refine ⟨rfl, _, rfl, ?_⟩
      rw [decide_eq_true rfl]
      refine iteF ?_
      have sL := (Same.of_new (o := .lst [.bl al, .bl al, .bl (!al)]) hL1).trans (Same.of_new (o := .lst [.bl al, .bl al, .bl (!al)]) hL2)
      have om16 := om15.same sL
      have el16 := sL l3 _ el15
      have pk16 := pk15.same sL
      have pn16 := pn15.same sL
      have sK := sJ.trans (Same.but p sL)
      generalize upd (upd H15 L1 (.lst [.bl al, .bl al, .bl (!al)])) L2 (.lst [.bl al, .bl al, .bl (!al)]) = H16 at sL om16 el16 pk16 pn16 sK ⊢
      -- made anew
      refine ⟨rfl, _, rfl, l3, k3.map V.ref, p3, rfl, .inr (SqL.of el16), pk16.vals, by omega, goodOf ok3, fun mC H17 hC s17 rC => ?_⟩
      refine ⟨_, rfl, do_eq R ⟨CF, hF, rC⟩ (om16.same s17) strG strF ?_⟩
      rw [esym]
      refine ⟨_, rfl, rfl, _, rfl, ?_⟩
      rw [decide_eq_true rfl]
      refine iteF ?_
      obtain ⟨dxm, fsm, pp, kp, eM, lkM, ePP, pkP⟩ := id hR
      have nm : m ≠ p := fun e => by
        rw [e, pn6.pen] at eM
        cases eM
      have npp : pp ≠ p := fun e => by
        rw [e, pn6.pen] at ePP
        cases ePP
      have sM := sK.trans (Same.but p s17)
      have eM17 := sM m _ nm eM
      refine ⟨rfl, _, rfl, m, dxm, fsm, rfl, eM17, m, dxm, fsm, .ref pp, rfl, eM17, lkM, ?_⟩
      refine ⟨pp, kp.map V.ref, oneForm ps, rfl, .inl (SqT.of (sM pp _ npp ePP)), (pkP.but pn6 sM).vals, Nat.le_trans (form_len ps) (by omega), goodOf (formOk okP), fun mD H18 hD s18 rD => ?_⟩
      have ee : oneForm (oneForm ps) = oneForm ps := form_eq (posOf (formOk okP)) (posOf okP) fun f => choose_form f ps
      rw [ee] at rD
      refine ⟨_, rfl, do_neq R ⟨CF, hF, rD⟩ ((om16.same s17).same s18) strF strF ?_⟩
      rw [decide_eq_true rfl]
      refine ⟨_, rfl, iteF ?_⟩
      exact ⟨⟨_, _, _, _, _, _, _, rfl⟩, sM.trans (Same.but p s18), n6, z6, (pn16.same s17).same s18, by omega⟩
    obtain ⟨⟨x7, x8, x9, x10, x11, x12, x13, rfl⟩, sB, n3, z3, pn7, ln7⟩ := q0
    obtain ⟨dxm, fsm, pp, kp, eM, lkM, ePP, pkP⟩ := id hR
    have nm : m ≠ p := fun e => by
      rw [e, pn6.pen] at eM
      cases eM
    have npp : pp ≠ p := fun e => by
      rw [e, pn6.pen] at ePP
      cases ePP
    have els7 := sB ls _ nls els6
    have sp7 := sp6.but pn6 sB
    have er7 := sB r1 _ nr er6
    have pk7 := pk6.but pn6 sB
    have om7 := om.but pn6 sB
    have eM7 := sB m _ nm eM
    have ePP7 := sB pp _ npp ePP
    have hR7 : RuleAt CF Hx m (oneForm ps) := ⟨dxm, fsm, pp, kp, eM7, lkM, ePP7, pkP.but pn6 sB⟩
    have ln9 : n3 ≤ 500 * i + 300 := by
      have : n3 ≤ n2 + 60 * 4 := ln7
      omega
    clear sB pn6 hR om
    -- some of the free places
    refine ⟨_, rfl, ls, ds.map V.ref, rfl, SqL.of els7, fun a7 ys h7 hy => ?_⟩
    have s7 := Same.of_new (o := .lst ys) h7
    have e7 : upd Hx a7 (.lst ys) a7 = some (.lst ys) := upd_same
    have pn8 := pn7.same s7
    have sp8 := sp7.same s7
    have er8 := s7 r1 _ er7
    have pk8 := pk7.same s7
    have om8 := om7.same s7
    have eM8 := s7 m _ eM7
    have ePP8 := s7 pp _ ePP7
    have hR8 := hR7.same s7
    generalize upd Hx a7 (.lst ys) = H8 at s7 e7 pn8 sp8 er8 pk8 om8 eM8 ePP8 hR8 ⊢
    refine ⟨a7, rfl, ⟨_, SqL.of e7⟩, ?_⟩
    refine for_it (walk_list (xs := ys)) (fun j σ Hz => (∃ x12, σ = [some (.ref a), some (.ref p), some (.int (0 + (i : Nat))), some (.ref b), some (.ref ls), some (.ref r1), some (.ref m), x7, x8, x9, x10, x11, x12, x13]) ∧ Same H8 Hz)
      ⟨⟨_, rfl⟩, Same.refl _⟩ (fun j σ Hz _ q => SqL.of (q.2 a7 _ e7)) (fun j x σ Hz Hw hj q0 y => ?_) (fun σ Hz q0 => ?_)
    · obtain ⟨⟨x12', rfl⟩, s8⟩ := q0
      obtain ⟨rfl, hx⟩ := y
      obtain ⟨i2, hi2⟩ := List.getElem?_of_mem (hy x (List.mem_of_getElem? hx))
      obtain ⟨d, t, rfl, hd, ht, ed⟩ := (sp8.same s8).get hi2
      have tm := List.mem_of_getElem? ht
      have keys : (tabL t).map (·.1) = bs.map Sum.inr := by
        have e := spaces_keys tm
        unfold tabL
        rw [List.map_map, ← e, List.map_map]
        rfl
      refine ⟨_, rfl, m, rfl, rfl, _, rfl, .ref CH, d, tabL t, bs, lookL t, rfl, ed, keys, by omega, fun w hw => three_good w (bsm w hw), tabOf_list t, fun z v e => spaces_vals tm e, fun hh H9 hh0 s9 hA => ?_⟩
      refine do_call R ((om8.same s8).same s9) (goodOf (formOk okP)) hA fun H10 s10 => ?_
      have ec : choose (fun z => (told (lookL t) z).getD 0) (oneForm ps) = choose (fun z => (lookL t z).getD 0) ps := by
        rw [choose_form]
        exact choose_congr fun p hp => by rw [told_at fun z v e => spaces_vals tm e]
      rw [ec]
      have c3 : ∀ w, choose (fun z => (lookL t z).getD 0) ps = some w → w ∈ three := fun w hw => by
        obtain ⟨q, hq, e⟩ := chosen_in hw
        exact e ▸ bsm _ (okP q hq).1
      have sX := (s8.trans s9).trans s10
      refine ⟨_, rfl, c3, ?_⟩
      refine ⟨_, rfl, _, rfl, r1, d, ks, ps, tabL t, lookL t, rfl, SqL.of (sX r1 _ er8), pk8.same sX, .inl (s10 d _ (s9 d _ ed)), tabOf_list t, fun q hq => look_some (by rw [spaces_keys tm]; exact (okP q hq).1), ?_⟩
      refine ⟨_, rfl, c3, ?_⟩
      refine ⟨rfl, _, rfl, ?_⟩
      rw [decide_eq_true rfl]
      refine iteF ?_
      exact ⟨⟨_, rfl⟩, sX⟩
    obtain ⟨⟨x12', rfl⟩, s8⟩ := q0
    have pn9 := pn8.same s8
    have eM9 := s8 m _ eM8
    have ePP9 := s8 pp _ ePP8
    have hR9 := hR8.same s8
    -- what is no rule
    refine ⟨_, rfl, m, dxm, fsm, rfl, eM9, m, dxm, fsm, .ref pp, rfl, eM9, lkM, ?_⟩
    refine ⟨_, rfl, m, dxm, fsm, rfl, eM9, m, dxm, fsm, .ref pp, rfl, eM9, lkM, pp, _, rfl, .inr (SqT.of ePP9), fun lq hlq => ?_⟩
    have s9 := Same.of_new (o := .lst (kp.map V.ref)) hlq
    have elq : upd Hz lq (.lst (kp.map V.ref)) lq = some (.lst (kp.map V.ref)) := upd_same
    generalize upd Hz lq (.lst (kp.map V.ref)) = H9 at s9 elq ⊢
    refine ⟨_, rfl, m, CF, dxm, fsm, rfl, s9 m _ eM9, cSt, m, oneForm ps, rfl, ⟨CF, kdF, hR9.same s9⟩, goodOf (formOk okP), Nat.le_trans (form_len ps) (by omega), fun zs H10 s10 => ⟨zs, rfl, ?_⟩⟩
    refine fun dd hdd => ?_
    have s11 := Same.of_new (o := .dK []) hdd
    have edd : upd H10 dd (.dK []) dd = some (.dK []) := upd_same
    generalize upd H10 dd (.dK []) = H11 at s11 edd ⊢
    refine ⟨by show (6 : Nat) ≤ sizeLine; omega, fun LL hLL => ?_⟩
    have s12 := Same.of_new (o := .lst [.non, .ref pp, .ref lq, .str zs, .int 0, .ref dd]) hLL
    have eLL : upd H11 LL (.lst [.non, .ref pp, .ref lq, .str zs, .int 0, .ref dd]) LL = some (.lst [.non, .ref pp, .ref lq, .str zs, .int 0, .ref dd]) := upd_same
    have edd12 := s12 dd _ edd
    have s910 := (s9.trans s10).trans (s11.trans s12)
    have elq12 := s12 lq _ (s11 lq _ (s10 lq _ elq))
    generalize upd H11 LL (.lst [.non, .ref pp, .ref lq, .str zs, .int 0, .ref dd]) = H12 at s12 eLL edd12 s910 elq12 ⊢
    refine ⟨LL, rfl, ⟨_, SqL.of eLL⟩, fun RR hRR => ?_⟩
    have nF := (R.one CF hF).ne
    refine lc_it (walk_list (xs := [V.non, .ref pp, .ref lq, .str zs, .int 0, .ref dd])) (fun i Hx => Same H12 Hx ∧ Hx RR = some (.lst [])) ⟨Same.of_new hRR, upd_same⟩ (fun i Hx _ q => SqL.of (q.1 LL _ eLL)) (fun i x Hx Hy hi q1 y => ?_) (fun Hx q1 => ?_)
    · obtain ⟨sw, eR⟩ := q1
      obtain ⟨rfl, hx⟩ := y
      have ty : ∃ T ∈ sixT, TyX K Hy x (.type T) := by
        have hm := List.mem_of_getElem? hx
        simp only [List.mem_cons, List.not_mem_nil, or_false] at hm
        rcases hm with rfl | rfl | rfl | rfl | rfl | rfl
        · exact ⟨"NoneType", by decide, .base .non⟩
        · exact ⟨"tuple", by decide, .base (.tup (sw pp _ (s910 pp _ ePP9)))⟩
        · exact ⟨"list", by decide, .base (.lst (sw lq _ elq12))⟩
        · exact ⟨"str", by decide, .base (.str _)⟩
        · exact ⟨"int", by decide, .base (.int _)⟩
        · exact ⟨"dict", by decide, .base (.dK (sw dd _ edd12))⟩
      obtain ⟨T, hT, ty⟩ := ty
      have od := Fa.odd T hT
      refine ⟨rfl, ?_⟩
      refine ⟨_, rfl, _, rfl, m, CF, dxm, fsm, .type T, rfl, sw m _ (s910 m _ eM9), ty, ⟨nF.eq, nF.fn⟩, od.2, m, x, .type T, rfl, ty, od.1, _, rfl, iteF ?_⟩
      exact ⟨sw, eR⟩
    obtain ⟨sw, eR⟩ := q1
    refine ⟨Nat.zero_le _, fun e he => ?_⟩
    refine ⟨.list [], .list [], .lst (SqL.of (upd_keep2 eR he)) .nil, .lst (SqL.of upd_same) .nil, OwD.shaped_nil, OwD.shaped_nil, _, rfl, ?_⟩
    have e0 : PyData.eqv (.list []) (.list []) = true := by simp [PyData.eqv, PyData.eqvAll]
    rw [e0]
    refine iteF ?_
    exact ⟨⟨_, _, _, _, _, _, _, _, _, _, _, _, rfl⟩, n3, z3, ((pn9.same s910).same sw).same (Same.of_new he), by omega⟩
end
end K10
end
section
/-! What the end of the top says of named classes, of the records in them and of their defs. Own. -/
namespace OwH
open PySem PySem.Spec PyProof.Rows L2
/-- the def within a record (a class method, a static one, a property) -/
def inRec (K : PySem.W.Frag) (p : Addr) (kind : String) : Addr := match PySem.W.recIn K p kind with
  | some (.ref g :: _) => g
  | _ => 0
def recOk (K : PySem.W.Frag) (p : Addr) (kind : String) : Bool := match PySem.W.recIn K p kind with
  | some (.ref _ :: _) => true
  | _ => false
theorem recOk_ok {K : PySem.W.Frag} {p : Addr} {kind : String} (h : recOk K p kind = true) : ∃ rest, PySem.W.recIn K p kind = some (.ref (inRec K p kind) :: rest) := by
  unfold recOk at h
  unfold inRec
  cases e : PySem.W.recIn K p kind with
  | none =>
    rw [e] at h
    cases h
  | some l =>
    rw [e] at h
    match l, h with
    | .ref g :: r, _ => exact ⟨r, rfl⟩
def getB (x : Option PySem.W.CFound) (id : String) (p C : Addr) : Bool := match x with
  | some (.get (.builtin i) (.ref q) .none (.ref D)) => decide (i = id) && (decide (q = p) && decide (D = C))
  | _ => false
theorem getB_ok {x : Option PySem.W.CFound} {id : String} {p C : Addr} (h : getB x id p C = true) : x = some (.get (.builtin id) (.ref p) .none (.ref C)) := by
  unfold getB at h
  split at h
  · obtain ⟨h1, h2⟩ := Bool.and_eq_true_iff.mp h
    obtain ⟨h3, h4⟩ := Bool.and_eq_true_iff.mp h2
    rw [of_decide_eq_true h1, of_decide_eq_true h3, of_decide_eq_true h4]
  · cases h
def valB (x : Option PySem.W.CFound) (g : Addr) : Bool := match x with
  | some (.val (.ref q)) => decide (q = g)
  | _ => false
theorem valB_ok {x : Option PySem.W.CFound} {g : Addr} (h : valB x g = true) : x = some (.val (.ref g)) := by
  unfold valB at h
  split at h
  · rw [of_decide_eq_true h]
  · cases h
abbrev ga := He.ga
/-- what the class named x holds under m -/
def mo (K : PySem.W.Frag) (x m : Str) : Addr := He.ma K (ga K x) m
def fRead (x : Str) (K : PySem.W.Frag) : Bool := PySem.W.readsIn K (ga K x) (.type "type") && He.eqO (PySem.W.specialIn K (.ref (ga K x)) "__getattribute__") (some (some (.builtin "type.__getattribute__")))
def fCMet (x m : Str) (K : PySem.W.Frag) : Bool := getB (PySem.W.findCls K (.ref (ga K x)) (.type "type") m) "classmethod.__get__" (mo K x m) (ga K x) && (recOk K (mo K x m) "classmethod" && PySem.W.fnIn K (inRec K (mo K x m) "classmethod"))
def fCSta (x m : Str) (K : PySem.W.Frag) : Bool := getB (PySem.W.findCls K (.ref (ga K x)) (.type "type") m) "staticmethod.__get__" (mo K x m) (ga K x) && (recOk K (mo K x m) "staticmethod" && PySem.W.keepIn K (.ref (inRec K (mo K x m) "staticmethod")))
def fCFun (x m : Str) (K : PySem.W.Frag) : Bool := valB (PySem.W.findCls K (.ref (ga K x)) (.type "type") m) (mo K x m) && PySem.W.keepIn K (.ref (mo K x m))
def fSpc (x m : Str) (K : PySem.W.Frag) : Bool := He.eqO (PySem.W.findIn K (.ref (ga K x)) m) (some (some (.ref (mo K x m)))) && (PySem.W.isFn K (.ref (mo K x m)) && PySem.W.fnIn K (mo K x m))
def fProp (x m : Str) (K : PySem.W.Frag) : Bool := He.eqO (PySem.W.findIn K (.ref (ga K x)) m) (some (some (.ref (mo K x m)))) && (He.eqO (PySem.W.specialIn K (.ref (mo K x m)) "__get__") (some (some (.builtin "property.__get__"))) && (decide (PySem.W.takesIn K (.ref (mo K x m)) = some true) && recOk K (mo K x m) "property"))
section
variable {K : PySem.W.Frag} {x m : Str}
theorem two {a b : Bool} (h : (a && b) = true) : a = true ∧ b = true := Bool.and_eq_true_iff.mp h
theorem read_ok (h : fRead x K = true) : ClX.CRead K (ga K x) (.type "type") := ⟨(two h).1, He.eqO_ok (two h).2⟩
theorem cmet_ok (h : fCMet x m K = true) : ClX.CMet K (ga K x) (.type "type") m (mo K x m) (inRec K (mo K x m) "classmethod") := ⟨getB_ok (two h).1, recOk_ok (two (two h).2).1, (two (two h).2).2⟩
theorem csta_ok (h : fCSta x m K = true) : OwR.CSta K (ga K x) (.type "type") m (mo K x m) (inRec K (mo K x m) "staticmethod") := ⟨getB_ok (two h).1, recOk_ok (two (two h).2).1, (two (two h).2).2⟩
theorem cfun_ok (h : fCFun x m K = true) : OwR.CFun K (ga K x) (.type "type") m (mo K x m) := ⟨valB_ok (two h).1, (two h).2⟩
theorem spc_ok (h : fSpc x m K = true) : OwR.Spc K (ga K x) (mo K x m) m := ⟨He.eqO_ok (two h).1, (two (two h).2).1, (two (two h).2).2⟩
theorem callo_ok (h : fSpc x "__call__" K = true) : StX.CallO K (ga K x) (mo K x "__call__") := ⟨He.eqO_ok (two h).1, (two (two h).2).1, (two (two h).2).2⟩
theorem prop_ok (h : fProp x m K = true) : PropOf K (ga K x) m (mo K x m) (inRec K (mo K x m) "property") := ⟨He.eqO_ok (two h).1, He.eqO_ok (two (two h).2).1, of_decide_eq_true (two (two (two h).2).2).1, recOk_ok (two (two (two h).2).2).2⟩
end
/-! ### defs -/
structure DX where
  adr : PySem.W.Frag → Addr
  name : Str
  qual : Str
  st : Stmt
abbrev FX : Type := Option (Str × Str × Arguments × FuncBody × Scope × Addr × List (Str × Addr) × Value × Addr)
def seeF (K : PySem.W.Frag) (a : Addr) : FX := match K.lookup a with
  | some ⟨_, _, .func fd, _⟩ => some (fd.name, fd.qualname, fd.params, fd.body, fd.scope, fd.globals, fd.closure, fd.defaults, fd.builtins)
  | _ => none
def codB (K : PySem.W.Frag) (a : Addr) (qual : Str) : Bool := PySem.W.keepIn K (.ref a) && (match K.lookup a with
  | some ⟨_, _, .func fd, _⟩ => PySem.W.codeIn K fd.code qual
  | _ => false)
def DX.val (d : DX) : FX := some (d.name, d.qual, defArgs d.st, .stmts (defBody d.st), defScope d.st, mainGlobals, [], .none, builtinsNs)
theorem DX.fun_ {K : PySem.W.Frag} {d : DX} (h1 : seeF K (d.adr K) = d.val) (h2 : codB K (d.adr K) d.qual = true) : ∃ fd, Fun K d.name d.qual d.st (d.adr K) fd := by
  obtain ⟨kp, cd⟩ := two h2
  unfold seeF at h1
  cases l : K.lookup (d.adr K) with
  | none =>
    rw [l] at cd
    cases cd
  | some ob =>
    obtain ⟨oc, od, dt, osl⟩ := ob
    rw [l] at h1 cd
    match dt, h1, cd with
    | .func f, h1, cd =>
      obtain ⟨a1, a2, a3, a4, a5, a6, a7, a8, a9, a10, a11, a12, a13, a14, a15⟩ := f
      have e : (some (a1, a2, a3, a4, a5, a6, a7, a8, a15) : FX) = some (d.name, d.qual, defArgs d.st, .stmts (defBody d.st), defScope d.st, mainGlobals, [], .none, builtinsNs) := h1
      injection e with e
      injection e with e1 e
      injection e with e2 e
      injection e with e3 e
      injection e with e4 e
      injection e with e5 e
      injection e with e6 e
      injection e with e7 e
      injection e with e8 e9
      subst e1 e2 e3 e4 e5 e6 e7 e8 e9
      exact ⟨_, ⟨⟨oc, od, a9, a10, a11, a12, a13, a14, osl, rfl, l, cd⟩, kp⟩⟩
/-! ### the hook -/
abbrev AX : Type := Bool × List FX
def seeX (fa : List (PySem.W.Frag → Bool)) (fn : List DX) (K : PySem.W.Frag) : AX := ((fa.all fun f => f K) && fn.all fun d => codB K (d.adr K) d.qual, fn.map fun d => seeF K (d.adr K))
def wantX (fn : List DX) : AX := (true, fn.map DX.val)
def placesX (xs : List Str) (g : Addr → Option Obj) : Nat → List Addr
  | 0 => (xs.map (ga (He.frG g [mainGlobals])))
  | n + 1 => He.growD g (placesX xs g n)
def partX (xs : List Str) (g : Addr → Option Obj) : PySem.W.Frag := He.frG g (mainGlobals :: PySem.cStatics :: placesX xs g 4)
def hookX (xs : List Str) (fa : List (PySem.W.Frag → Bool)) (fn : List DX) : PySem.W.Hook where
  α := AX
  obs := fun s => seeX fa fn (partX xs s.heap.get?)
  val := fun _ => wantX fn
  says := fun _ h => ∃ K : PySem.W.Frag, K.In h ∧ seeX fa fn K = wantX fn
  of := fun _ _ e => ⟨partX xs _, He.frG_in, e⟩
  keeps := fun _ _ _ p k => match p with
    | ⟨K, hK, c⟩ => ⟨K, PySem.W.Frag.In.keeps hK k, c⟩
theorem seeX_eq {xs : List Str} {fa : List (PySem.W.Frag → Bool)} {fn : List DX} {g : Addr → Option Obj} {s : Shared} (h : ∀ a, g a = s.heap.get? a) : seeX fa fn (partX xs g) = (hookX xs fa fn).obs s := by
  have e : g = s.heap.get? := funext h
  subst e
  rfl
section
variable {fa : List (PySem.W.Frag → Bool)} {fn : List DX} {K : PySem.W.Frag}
theorem fact (c : seeX fa fn K = wantX fn) (i : Nat) {f : PySem.W.Frag → Bool} (h : fa[i]? = some f := by rfl) : f K = true :=
  List.all_eq_true.mp (two (congrArg Prod.fst c)).1 f (List.mem_of_getElem? h)
theorem def_ (c : seeX fa fn K = wantX fn) (i : Nat) {d : DX} (h : fn[i]? = some d := by rfl) : ∃ fd, Fun K d.name d.qual d.st (d.adr K) fd := by
  have h2 : codB K (d.adr K) d.qual = true := List.all_eq_true.mp (two (congrArg Prod.fst c)).2 d (List.mem_of_getElem? h)
  have h3 : (fn.map fun d => seeF K (d.adr K))[i]? = (fn.map DX.val)[i]? := congrArg (fun z : AX => z.2[i]?) c
  rw [List.getElem?_map, List.getElem?_map, h] at h3
  exact DX.fun_ (Option.some.inj h3) h2
end
end OwH
end
section
namespace OwR
open PySem PySem.Spec PyProof.Rows L2
/-- the script's own place: followed where the written part does not hold it -/
def scrH (K : PySem.W.Frag) (a : Addr) (ob : Obj) (xs : List V) : Hp := fun b => if b = a ∧ K.lookup a = none then some (.frz ob (.lst xs)) else none
theorem scrH_cases (K : PySem.W.Frag) (a : Addr) (ob : Obj) (xs : List V) (b : Addr) : scrH K a ob xs b = none ∨ (b = a ∧ K.lookup a = none ∧ scrH K a ob xs b = some (.frz ob (.lst xs))) := by
  unfold scrH
  by_cases c : b = a ∧ K.lookup a = none
  · exact .inr ⟨c.1, c.2, if_pos c⟩
  · exact .inl (if_neg c)
/-- a law by a promise that wants no guard about it -/
theorem law_callG {P : Program} {w : World} {K : PySem.W.Frag} {mg mb : Str → Option Value} {k : Nat} {fn a : Addr} {fd : FuncData} {x : Str} {sp : Sp} {t : Shared} {us : List Value} {zs : List Int} (hK : K.In t.heap) (hG : t.heap.Ns mainGlobals mg)
    (hB : t.heap.Ns builtinsNs mb) (hBB : ∀ y : Str, y ≠ "__name__" → mb y = bootBuiltins y) (hL : t.heap.NoLimit) (hN : t.gens = #[]) (hO : t.heap.get? a = some ({ cls := .type "list", data := .seq us.toArray } : Obj)) (hI : IntsAre us zs)
    (hz : zs.length ≤ sizeLine) (hr : Room k callerA) (F : ∀ base : Heap, K.In base → base.Ns mainGlobals mg → FnG P w K mg base CX0 k fn fd [x] sp) (hb : ∀ (s : Shared) (u : Value), BindsTo s fd ⟨[u], []⟩ [(x, u)])
    (hS : ∀ G : Hp, SqL K G a (zs.map V.int) → sp [.ref a] G (fun v _ => v = .bl true) fun _ _ _ => False) :
    codeAny (model P w) callerA (.call (.ref fn) ⟨[.ref a], []⟩) (fun r s' => r = .ok (.ret (.bool true)) ∧ OldK t.heap s'.heap ∧ s'.os = t.os ∧ AllBare s'.gens) t := by
  have rel := vals_ints hI
  have le := hI.length
  obtain ⟨G, eG⟩ : ∃ G, G = scrH K a ({ cls := .type "list", data := .seq us.toArray } : Obj) (zs.map V.int) := ⟨_, rfl⟩
  have cs : ∀ b, G b = none ∨ (b = a ∧ K.lookup a = none ∧ G b = some (.frz { cls := .type "list", data := .seq us.toArray } (.lst (zs.map V.int)))) := fun b => by
    rw [eG]
    exact scrH_cases K a _ _ b
  have sq : SqL K G a (zs.map V.int) := by
    cases l : K.lookup a with
    | some ob =>
      have e := (hK a ob l).symm.trans hO
      cases e
      exact .inr ⟨_, us.toArray, _, l, rfl, rfl, rfl, by rw [List.size_toArray, le]; exact hz, by simpa using rel⟩
    | none =>
      refine .inl (.inr ⟨({ cls := .type "list", data := .seq us.toArray } : Obj), ?_⟩)
      rw [eG]
      exact if_pos ⟨rfl, l⟩
  have gone : ∀ {b : Addr} {ob : Obj}, t.heap.get? b = some ob → (∀ vs n, ob.data ≠ .seq vs n) → G b = none := fun {b ob} e nd => by
    rcases cs b with c | ⟨rfl, _, _⟩
    · exact c
    · rw [hO] at e
      cases e
      exact absurd rfl (nd us.toArray 0)
  have nsp : ∀ {b : Addr} {m : Str → Option Value}, t.heap.Ns b m → (hidT t.heap G).Ns b m := fun {b m} h => by
    obtain ⟨ob, es, ep, e1, e2, e3⟩ := h
    exact ⟨ob, es, ep, hidT_get e1 (gone e1 fun vs n q => by rw [e2] at q; cases q), e2, e3⟩
  have kin : K.In (hidT t.heap G) := fun b ob l => hidT_get (hK b ob l) (by
    rcases cs b with c | ⟨rfl, c, _⟩
    · exact c
    · rw [c] at l
      cases l)
  have lim : (hidT t.heap G).NoLimit := by
    obtain ⟨mc, h1, h2⟩ := hL
    exact ⟨mc, nsp h1, h2⟩
  have ok : HOk P w G t.heap := fun b u e => by
    rcases cs b with c | ⟨rfl, _, c⟩
    · rw [c] at e
      cases e
    · rw [c] at e
      cases e
      exact ⟨hO, by rw [List.length_map]; exact hz, us, _, rel, hO⟩
  have env : Env0 P w K mg (hidT t.heap G) callerA [] t G := { frames := rfl, mod := ⟨kin, nsp hG, ⟨mb, nsp hB, hBB⟩, lim⟩, bs := fun _ _ e => of_hidT e, bsz := Nat.le_of_eq (hidT_size _ _), funs := True.intro, frf := fun _ h => absurd h List.not_mem_nil, hok := ok, bare := .of_eq hN }
  have run := F (hidT t.heap G) kin (nsp hG) callerA [] t G ⟨[.ref a], []⟩ [.ref a] [.ref a] _ _ rfl hr env (hb t (.ref a)) (.cons rfl .nil) (hS G sq)
  refine codeAny_mono run fun r s' h => ?_
  match r, h with
  | .error _, h => exact h.elim
  | .ok (.ret u), h =>
    obtain ⟨v, G', os, br, un, ok', rv, qv⟩ := h
    have ev : v = .bl true := qv
    subst ev
    obtain rfl : u = Value.bool true := rv
    refine ⟨rfl, .of_keep fun b ob e => ?_, os, br⟩
    rcases cs b with c | ⟨rfl, _, c⟩
    · exact un.keep b ob e c List.not_mem_nil List.not_mem_nil
    · have e2 := (ok' b _ (un.frzs b _ _ c)).1
      rw [hO] at e
      cases e
      exact e2
/-- .. as the end of a law over a head by facts -/
theorem walk_ofG {l : PySem.W.OpenLaw} {n k : Nat} {q : Program} {loose : List Str} {XP : (Str → Option Value) → Heap → Prop} {YP : World → Heap → Prop} {d : DefRec} {x : Str} (most : l.most = some n) (small : n ≤ sizeLine) (nodf : d.params.defaults = []) (room : Room k callerA)
    (F : ∀ (w : World) (mg : Str → Option Value) (fn : Addr) (h : Heap), YP w h → h.Ns mainGlobals mg → mg d.name = some (.ref fn) → ∃ (K : PySem.W.Frag) (fd : FuncData) (sp : Sp), K.In h ∧ (∀ (s : Shared) (u : Value), BindsTo s fd ⟨[u], []⟩ [(x, u)]) ∧
      (∀ (G : Hp) (a : Addr) (zs : List Int), zs.length ≤ n → SqL K G a (zs.map V.int) → sp [.ref a] G (fun v _ => v = .bl true) fun _ _ _ => False) ∧ ∀ base : Heap, K.In base → base.Ns mainGlobals mg → FnG l.prog w K mg base CX0 k fn fd [x] sp) :
    PySem.W.WalkO q loose XP YP l.row.toRowW d [] (fun f vs => PySem.call f vs) := by
  refine Att.attach_call most nodf fun w s0 t mg mb fn o pm cd doc a us zs G Y _ _ _ hmg hO hI hz hN => ?_
  obtain ⟨K, fd, sp, hK, hb, hS, hF⟩ := F w mg fn _ Y G.T.g hmg
  exact law_callG hK G.T.g G.T.b G.T.builtins G.T.nolimit hN hO hI (Nat.le_trans hz small) room hF hb fun G' sq => hS G' a zs hz sq
end OwR
end
section
namespace K10
open PySem PySem.Spec PyProof.Rows L2
/-- where the parts of rules stand, read off the class First -/
def ra (K : PySem.W.Frag) : RA := ⟨OwH.ga K "Rule", OwH.mo K "First" "__iter__", OwH.mo K "First" "__len__", OwH.mo K "First" "__call__", OwH.mo K "First" "__eq__", OwH.mo K "First" "__or__", OwH.mo K "First" "__add__", OwH.mo K "First" "__sub__", [OwH.ga K "First", OwH.ga K "Even", OwH.ga K "Else"]⟩
def hasF (K : PySem.W.Frag) (C : Value) (m : Str) (f : Addr) : Bool := He.eqO (PySem.W.findIn K C m) (some (some (.ref f))) && PySem.W.isFn K (.ref f)
theorem hasF_ok {K : PySem.W.Frag} {C : Value} {m : Str} {f : Addr} (h : hasF K C m f = true) : PySem.W.findIn K C m = some (some (.ref f)) ∧ PySem.W.isFn K (.ref f) = true := ⟨He.eqO_ok (OwH.two h).1, (OwH.two h).2⟩
def noneOrRef : Option (Option Value) → Bool
  | some none => true
  | some (some (.ref _)) => true
  | _ => false
theorem noneOrRef_ok {x : Option (Option Value)} (h : noneOrRef x = true) : ∃ rc, x = some rc ∧ (rc = none ∨ ∃ g : Addr, rc = some (.ref g)) := by
  match x, h with
  | some none, _ => exact ⟨none, rfl, .inl rfl⟩
  | some (some (.ref g)), _ => exact ⟨_, rfl, .inr ⟨g, rfl⟩⟩
def fBin (op : Operator) (K : PySem.W.Frag) (C f : Addr) : Bool := PySem.W.selfFirst K C && (hasF K (.ref C) (PySem.dunder op.info.2) f && noneOrRef (PySem.W.findIn K (.ref C) (dunderR op.info.2)))
theorem fBin_ok {op : Operator} {K : PySem.W.Frag} {C f : Addr} (h : fBin op K C f = true) : OwR.Bin1 K op C f :=
  ⟨(OwH.two h).1, (hasF_ok (OwH.two (OwH.two h).2).1).1, (hasF_ok (OwH.two (OwH.two h).2).1).2, noneOrRef_ok (OwH.two (OwH.two h).2).2⟩
def fBinT (op : Operator) (K : PySem.W.Frag) (C : Addr) (T : String) : Bool := (PySem.W.findIn K (.type T) (PySem.dunder op.info.2)).isSome && ((PySem.W.findIn K (.type T) (dunderR op.info.2)).isSome && decide (PySem.W.subIn K (.type T) (.ref C) = some false))
theorem fBinT_ok {op : Operator} {K : PySem.W.Frag} {C : Addr} {T : String} (h : fBinT op K C T = true) : OwR.BinT K op C T :=
  ⟨Option.isSome_iff_exists.mp (OwH.two h).1, Option.isSome_iff_exists.mp (OwH.two (OwH.two h).2).1, of_decide_eq_true (OwH.two (OwH.two h).2).2⟩
def fRc (x : Str) (K : PySem.W.Frag) : Bool := (He.Fa.cls x).ok K && ((He.Fa.noat x "_picks").ok K && ((He.Fa.noat x "_keeps").ok K && (He.Fa.noat x "_bays").ok K))
def fObj (K : PySem.W.Frag) (C R : Addr) : Bool := He.eqO (PySem.W.findIn K (.ref C) "__class__") (some (some (.builtin "object.__class__"))) && (He.eqO (PySem.W.specialIn K (.builtin "object.__class__") "__get__") (some (some (.builtin "getset_descriptor.__get__"))) &&
  (decide (PySem.W.takesIn K (.builtin "object.__class__") = some true) && (decide (PySem.W.mroIn K C (.type "object") = some true) && decide (PySem.W.kitOne K (.ref C) (.ref R) = some true))))
def fKind (x : Str) (K : PySem.W.Frag) : Bool := fRc x K && (fObj K (OwH.ga K x) (ra K).CR && (hasF K (.ref (OwH.ga K x)) "__iter__" (ra K).fI && (hasF K (.ref (OwH.ga K x)) "__len__" (ra K).fL && (hasF K (.ref (OwH.ga K x)) "__call__" (ra K).fC && (PySem.W.fnIn K (ra K).fC &&
  (fBin .BitOr K (OwH.ga K x) (ra K).fO && (fBin .Add K (OwH.ga K x) (ra K).fA && (fBin .Sub K (OwH.ga K x) (ra K).fS && (fBinT .Add K (OwH.ga K x) "int" && (fBinT .Sub K (OwH.ga K x) "str" &&
  (hasF K (.ref (OwH.ga K x)) "__eq__" (ra K).fE && He.eqO (PySem.W.findIn K (.ref (OwH.ga K x)) "__ne__") (some (some (.builtin "object.__ne__"))))))))))))))
theorem fKind_ok {x : Str} {K : PySem.W.Frag} (h : fKind x K = true) : RK2 K (ra K) (OwH.ga K x) := by
  obtain ⟨a1, h⟩ := OwH.two h
  obtain ⟨a2, h⟩ := OwH.two h
  obtain ⟨a3, h⟩ := OwH.two h
  obtain ⟨a4, h⟩ := OwH.two h
  obtain ⟨a5, h⟩ := OwH.two h
  obtain ⟨a6, h⟩ := OwH.two h
  obtain ⟨a7, h⟩ := OwH.two h
  obtain ⟨a8, h⟩ := OwH.two h
  obtain ⟨a9, h⟩ := OwH.two h
  obtain ⟨b1, h⟩ := OwH.two h
  obtain ⟨b2, h⟩ := OwH.two h
  obtain ⟨b3, b4⟩ := OwH.two h
  obtain ⟨c1, c2⟩ := OwH.two a1
  obtain ⟨c2, c3⟩ := OwH.two c2
  obtain ⟨c3, c4⟩ := OwH.two c3
  obtain ⟨d1, d2⟩ := OwH.two a2
  obtain ⟨d2, d3⟩ := OwH.two d2
  obtain ⟨d3, d4⟩ := OwH.two d3
  obtain ⟨d4, d5⟩ := OwH.two d4
  have rc : RuleC K (OwH.ga K x) := ⟨He.cls_ok c1, He.noat_ok c2, He.noat_ok c3, He.noat_ok c4⟩
  exact ⟨⟨rc, He.eqO_ok d1, He.eqO_ok d2, of_decide_eq_true d3, of_decide_eq_true d4, of_decide_eq_true d5, ⟨rc.cls, rc.n1, (hasF_ok a3).1, (hasF_ok a3).2⟩, ⟨(hasF_ok a4).1, (hasF_ok a4).2⟩⟩,
    ⟨(hasF_ok a5).1, (hasF_ok a5).2, a6⟩, fBin_ok a7, fBin_ok a8, fBin_ok a9, fBinT_ok b1, fBinT_ok b2, ⟨(hasF_ok b3).1, (hasF_ok b3).2, He.eqO_ok b4, of_decide_eq_true d4⟩⟩
def fStr (x : Str) (K : PySem.W.Frag) : Bool := hasF K (.ref (OwH.ga K x)) "__str__" (OwH.mo K x "__str__")
def fOdd (T : String) (K : PySem.W.Frag) : Bool := decide (PySem.W.kitOne K (.type T) (.ref (ra K).CR) = some false) && PySem.W.notFirst K (OwH.ga K "First") (.type T)
theorem fOdd_ok {T : String} {K : PySem.W.Frag} (h : fOdd T K = true) : PySem.W.kitOne K (.type T) (.ref (ra K).CR) = some false ∧ PySem.W.notFirst K (OwH.ga K "First") (.type T) = true := ⟨of_decide_eq_true (OwH.two h).1, (OwH.two h).2⟩
def fTwo (x y : Str) (K : PySem.W.Frag) : Bool := (decide (OwH.ga K x = OwH.ga K y) || (!decide (OwH.ga K x = OwH.ga K y) && decide (PySem.W.subIn K (.ref (OwH.ga K y)) (.ref (OwH.ga K x)) = some false))) && PySem.W.notFirst K (OwH.ga K x) (.ref (OwH.ga K y))
theorem fTwo_ok {x y : Str} {K : PySem.W.Frag} (h : fTwo x y K = true) : (OwH.ga K x = OwH.ga K y ∨ (OwH.ga K x ≠ OwH.ga K y ∧ PySem.W.subIn K (.ref (OwH.ga K y)) (.ref (OwH.ga K x)) = some false)) ∧ PySem.W.notFirst K (OwH.ga K x) (.ref (OwH.ga K y)) = true := by
  obtain ⟨h1, h2⟩ := OwH.two h
  refine ⟨?_, h2⟩
  rcases Bool.or_eq_true_iff.mp h1 with h1 | h1
  · exact .inl (of_decide_eq_true h1)
  · obtain ⟨h1, h3⟩ := OwH.two h1
    exact .inr ⟨(fun e => by rw [decide_eq_true e] at h1; cases h1), of_decide_eq_true h3⟩
def theDefs : List OwH.DX :=
  [⟨fun K => OwH.ga K "is_name", "is_name", "is_name", sName⟩,
   ⟨fun K => OwH.ga K "is_within", "is_within", "is_within", sWithin⟩,
   ⟨fun K => OwH.ga K "is_number", "is_number", "is_number", sNumber⟩,
   ⟨fun K => OwH.ga K "ascending", "ascending", "ascending", sAsc⟩,
   ⟨fun K => OwH.ga K "numbers_told", "numbers_told", "numbers_told", sTold⟩,
   ⟨fun K => OwH.ga K "house_with", "house_with", "house_with", sWith⟩,
   ⟨fun K => OwH.ga K "is_pick", "is_pick", "is_pick", sIsPick⟩,
   ⟨fun K => OwH.ga K "one_form", "one_form", "one_form", sForm⟩,
   ⟨fun K => OwH.ga K "_law_pen", "_law_pen", "_law_pen", sPen⟩,
   ⟨fun K => OwH.ga K "_law_draw", "_law_draw", "_law_draw", sDraw⟩,
   ⟨fun K => OwH.ga K "_law_pick", "_law_pick", "_law_pick", sPick⟩,
   ⟨fun K => OwH.ga K "_law_row", "_law_row", "_law_row", sRow⟩,
   ⟨fun K => OwH.ga K "_law_chosen", "_law_chosen", "_law_chosen", sChosen⟩,
   ⟨fun K => OwH.ga K "_law_all", "_law_all", "_law_all", sAll⟩,
   ⟨fun K => OwH.ga K "_law_told_otherwise", "_law_told_otherwise", "_law_told_otherwise", sTolds⟩,
   ⟨fun K => OwH.ga K "_law_near", "_law_near", "_law_near", sNear⟩,
   ⟨fun K => OwH.ga K "_law_same", "_law_same", "_law_same", sSame⟩,
   ⟨fun K => OwH.ga K "law", "law", "law", sLaw⟩,
   ⟨fun K => OwH.mo K "House" "__init__", "__init__", "House.__init__", sHouse0⟩,
   ⟨fun K => OwH.inRec K (OwH.mo K "House" "of") "classmethod", "of", "House.of", sHouseOf⟩,
   ⟨fun K => OwH.mo K "House" "__getitem__", "__getitem__", "House.__getitem__", sHouseAt⟩,
   ⟨fun K => OwH.mo K "Rule" "__init__", "__init__", "Rule.__init__", sRule0⟩,
   ⟨fun K => OwH.mo K "Pair" "__init__", "__init__", "Pair.__init__", sPair0⟩,
   ⟨fun K => OwH.mo K "First" "__init__", "__init__", "First.__init__", sFirst0⟩,
   ⟨fun K => OwH.mo K "Even" "__init__", "__init__", "Even.__init__", sEven0⟩,
   ⟨fun K => OwH.mo K "Else" "__init__", "__init__", "Else.__init__", sElse0⟩,
   ⟨fun K => OwH.inRec K (OwH.mo K "First" "of") "classmethod", "of", "First.of", sFirstOf⟩,
   ⟨fun K => OwH.mo K "First" "__call__", "__call__", "Rule.__call__", sCall⟩,
   ⟨fun K => OwH.mo K "First" "__iter__", "__iter__", "Rule.__iter__", sRIter⟩,
   ⟨fun K => OwH.mo K "First" "__len__", "__len__", "Rule.__len__", sRLen⟩,
   ⟨fun K => OwH.mo K "First" "__eq__", "__eq__", "Rule.__eq__", sREq⟩,
   ⟨fun K => OwH.mo K "First" "__str__", "__str__", "Rule.__str__", sRStr⟩,
   ⟨fun K => OwH.inRec K (OwH.mo K "First" "picks") "property", "picks", "Rule.picks", sPicks⟩]
def theFacts : List (PySem.W.Frag → Bool) :=
  [(He.Fa.glo "is_name").ok,
   (He.Fa.glo "is_within").ok,
   (He.Fa.glo "is_number").ok,
   (He.Fa.glo "ascending").ok,
   (He.Fa.glo "numbers_told").ok,
   (He.Fa.glo "house_with").ok,
   (He.Fa.glo "is_pick").ok,
   (He.Fa.glo "one_form").ok,
   (He.Fa.glo "_law_pen").ok,
   (He.Fa.glo "_law_draw").ok,
   (He.Fa.glo "_law_pick").ok,
   (He.Fa.glo "_law_row").ok,
   (He.Fa.glo "_law_chosen").ok,
   (He.Fa.glo "_law_all").ok,
   (He.Fa.glo "_law_told_otherwise").ok,
   (He.Fa.glo "_law_near").ok,
   (He.Fa.glo "_law_same").ok,
   (He.Fa.glo "law").ok,
   (He.Fa.glo "House").ok,
   (He.Fa.glo "First").ok,
   (He.Fa.glo "Rule").ok,
   (He.Fa.glo "Even").ok,
   (He.Fa.glo "Else").ok,
   (He.Fa.glo "Pair").ok,
   (He.Fa.free "int").ok,
   (He.Fa.free "bool").ok,
   (He.Fa.free "str").ok,
   (He.Fa.free "len").ok,
   (He.Fa.free "all").ok,
   (He.Fa.free "isinstance").ok,
   (He.Fa.free "sorted").ok,
   (He.Fa.free "set").ok,
   (He.Fa.free "list").ok,
   (He.Fa.free "tuple").ok,
   (He.Fa.free "abs").ok,
   (He.Fa.free "range").ok,
   (He.Fa.free "dict").ok,
   (He.Fa.free "zip").ok,
   (He.Fa.free "enumerate").ok,
   (He.Fa.free "iter").ok,
   (He.Fa.free "repr").ok,
   (He.Fa.cls "House").ok,
   (He.Fa.noat "House" "_numbers").ok,
   (He.Fa.noat "House" "_bays").ok,
   (He.Fa.noat "Else" "_first").ok,
   (He.Fa.noat "Else" "_second").ok,
   (He.Fa.mkr "House").ok,
   (He.Fa.mkr "First").ok,
   (He.Fa.mkr "Even").ok,
   (He.Fa.mkr "Else").ok,
   OwH.fRead "House",
   OwH.fRead "First",
   OwH.fRead "Rule",
   OwH.fRead "Pair",
   OwH.fCMet "House" "of",
   OwH.fSpc "House" "__getitem__",
   OwH.fCFun "Rule" "__init__",
   OwH.fCFun "Pair" "__init__",
   OwH.fCMet "First" "of",
   OwH.fProp "First" "picks",
   fStr "First",
   fOdd "NoneType",
   fOdd "tuple",
   fOdd "list",
   fOdd "str",
   fOdd "int",
   fOdd "dict",
   fKind "First",
   fKind "Even",
   fKind "Else",
   fTwo "First" "First",
   fTwo "First" "Even",
   fTwo "First" "Else",
   fTwo "Even" "First",
   fTwo "Even" "Even",
   fTwo "Even" "Else",
   fTwo "Else" "First",
   fTwo "Else" "Even",
   fTwo "Else" "Else"]
def roots : List Str := ([("is_name" : Str), ("is_within" : Str), ("is_number" : Str), ("ascending" : Str), ("numbers_told" : Str), ("house_with" : Str), ("is_pick" : Str), ("one_form" : Str)] : List Str) ++ ([("_law_pen" : Str), ("_law_draw" : Str), ("_law_pick" : Str), ("_law_row" : Str), ("_law_chosen" : Str), ("_law_all" : Str), ("_law_told_otherwise" : Str), ("_law_near" : Str)] : List Str) ++ ([("_law_same" : Str), ("law" : Str), ("House" : Str), ("First" : Str), ("Rule" : Str), ("Even" : Str), ("Else" : Str), ("Pair" : Str)] : List Str)
def names : List Str := ([("_wall" : Str), ("NextError" : Str), ("BadName" : Str), ("BadNumber" : Str), ("BadTable" : Str), ("BadPick" : Str), ("BadRule" : Str), ("Lacking" : Str)] : List Str) ++ ([("TooMany" : Str), ("BadText" : Str), ("is_name" : Str), ("is_within" : Str), ("is_number" : Str), ("ascending" : Str), ("numbers_told" : Str), ("number_of" : Str)] : List Str) ++ ([("Words" : Str), ("House" : Str), ("house_with" : Str), ("bays_of" : Str), ("check_share" : Str), ("places_from" : Str), ("Pair" : Str), ("Rule" : Str)] : List Str) ++ ([("First" : Str), ("Even" : Str), ("Else" : Str), ("is_pick" : Str), ("one_form" : Str), ("rule_of_text" : Str), ("picks_from" : Str), ("pick_from" : Str)] : List Str) ++ ([("_law_pen" : Str), ("_law_draw" : Str), ("_law_pick" : Str), ("_law_row" : Str), ("_law_chosen" : Str), ("_law_all" : Str), ("_law_told_otherwise" : Str), ("_law_near" : Str)] : List Str) ++ ([("_law_same" : Str)] : List Str)
abbrev Rw : PySem.W.OpenRow := PySem.W.OpenLaw.row PySem.Challenge.rw_nextkind_k13_whole_rules_alike
abbrev hk : PySem.W.Hook := OwH.hookX roots theFacts theDefs
def ob (s : PySem.W.SharedT) : OwH.AX := OwH.seeX theFacts theDefs (OwH.partX roots (HandSHeadRun.getT s))
theorem ob_eq (s : PySem.W.SharedT) : ob s = hk.obs s.abs := OwH.seeX_eq (HandSHeadRun.getT_eq s)
theorem run (w : World) : HandSHeadRun.RunEq Rw (PySem.W.view Rw.prog [48]) hk ob 12000 names w := by
  intro os
  kernel_rfl
theorem kinds {K : PySem.W.Frag} (c : OwH.seeX theFacts theDefs K = OwH.wantX theDefs) : RKs K (ra K) := by
  refine ⟨fun C h => ?_, fun C h D h2 => ?_⟩
  · have h : C ∈ [OwH.ga K "First", OwH.ga K "Even", OwH.ga K "Else"] := h
    simp only [List.mem_cons, List.not_mem_nil, or_false] at h
    rcases h with rfl | rfl | rfl
    · exact fKind_ok (OwH.fact c 67 rfl)
    · exact fKind_ok (OwH.fact c 68 rfl)
    · exact fKind_ok (OwH.fact c 69 rfl)
  · have h : C ∈ [OwH.ga K "First", OwH.ga K "Even", OwH.ga K "Else"] := h
    have h2 : D ∈ [OwH.ga K "First", OwH.ga K "Even", OwH.ga K "Else"] := h2
    simp only [List.mem_cons, List.not_mem_nil, or_false] at h h2
    rcases h with rfl | rfl | rfl <;> rcases h2 with rfl | rfl | rfl
    · exact fTwo_ok (OwH.fact c 70 rfl)
    · exact fTwo_ok (OwH.fact c 71 rfl)
    · exact fTwo_ok (OwH.fact c 72 rfl)
    · exact fTwo_ok (OwH.fact c 73 rfl)
    · exact fTwo_ok (OwH.fact c 74 rfl)
    · exact fTwo_ok (OwH.fact c 75 rfl)
    · exact fTwo_ok (OwH.fact c 76 rfl)
    · exact fTwo_ok (OwH.fact c 77 rfl)
    · exact fTwo_ok (OwH.fact c 78 rfl)
theorem odds {K : PySem.W.Frag} (c : OwH.seeX theFacts theDefs K = OwH.wantX theDefs) : ∀ T ∈ sixT, PySem.W.kitOne K (.type T) (.ref (ra K).CR) = some false ∧ PySem.W.notFirst K (OwH.ga K "First") (.type T) = true := fun T h => by
  simp only [sixT, List.mem_cons, List.not_mem_nil, or_false] at h
  rcases h with rfl | rfl | rfl | rfl | rfl | rfl
  · exact fOdd_ok (OwH.fact c 61 rfl)
  · exact fOdd_ok (OwH.fact c 62 rfl)
  · exact fOdd_ok (OwH.fact c 63 rfl)
  · exact fOdd_ok (OwH.fact c 64 rfl)
  · exact fOdd_ok (OwH.fact c 65 rfl)
  · exact fOdd_ok (OwH.fact c 66 rfl)
theorem facts {P : Program} {w : World} {K : PySem.W.Frag} {h base : Heap} {mg : Str → Option Value} (X : K.In h) (G : h.Ns mainGlobals mg) (c : OwH.seeX theFacts theDefs K = OwH.wantX theDefs) : Facts P w K mg base (ra K) (OwH.ga K "House") (OwH.ga K "First") (OwH.ga K "Even") (OwH.ga K "Else") (OwH.ga K "Pair") (.type "type") (.type "type") (.type "type") (.type "type") := by
  obtain ⟨fd_is_name, F_is_name⟩ := OwH.def_ c 0 rfl
  obtain ⟨fd_is_within, F_is_within⟩ := OwH.def_ c 1 rfl
  obtain ⟨fd_is_number, F_is_number⟩ := OwH.def_ c 2 rfl
  obtain ⟨fd_ascending, F_ascending⟩ := OwH.def_ c 3 rfl
  obtain ⟨fd_numbers_told, F_numbers_told⟩ := OwH.def_ c 4 rfl
  obtain ⟨fd_house_with, F_house_with⟩ := OwH.def_ c 5 rfl
  obtain ⟨fd_is_pick, F_is_pick⟩ := OwH.def_ c 6 rfl
  obtain ⟨fd_one_form, F_one_form⟩ := OwH.def_ c 7 rfl
  obtain ⟨fd__law_pen, F__law_pen⟩ := OwH.def_ c 8 rfl
  obtain ⟨fd__law_draw, F__law_draw⟩ := OwH.def_ c 9 rfl
  obtain ⟨fd__law_pick, F__law_pick⟩ := OwH.def_ c 10 rfl
  obtain ⟨fd__law_row, F__law_row⟩ := OwH.def_ c 11 rfl
  obtain ⟨fd__law_chosen, F__law_chosen⟩ := OwH.def_ c 12 rfl
  obtain ⟨fd__law_all, F__law_all⟩ := OwH.def_ c 13 rfl
  obtain ⟨fd__law_told_otherwise, F__law_told_otherwise⟩ := OwH.def_ c 14 rfl
  obtain ⟨fd__law_near, F__law_near⟩ := OwH.def_ c 15 rfl
  obtain ⟨fd__law_same, F__law_same⟩ := OwH.def_ c 16 rfl
  obtain ⟨fd_h0, F_h0⟩ := OwH.def_ c 18 rfl
  obtain ⟨fd_hof, F_hof⟩ := OwH.def_ c 19 rfl
  obtain ⟨fd_hitem, F_hitem⟩ := OwH.def_ c 20 rfl
  obtain ⟨fd_r0, F_r0⟩ := OwH.def_ c 21 rfl
  obtain ⟨fd_p0, F_p0⟩ := OwH.def_ c 22 rfl
  obtain ⟨fd_f0, F_f0⟩ := OwH.def_ c 23 rfl
  obtain ⟨fd_e0, F_e0⟩ := OwH.def_ c 24 rfl
  obtain ⟨fd_x0, F_x0⟩ := OwH.def_ c 25 rfl
  obtain ⟨fd_fof, F_fof⟩ := OwH.def_ c 26 rfl
  obtain ⟨fd_call, F_call⟩ := OwH.def_ c 27 rfl
  obtain ⟨fd_iter, F_iter⟩ := OwH.def_ c 28 rfl
  obtain ⟨fd_len, F_len⟩ := OwH.def_ c 29 rfl
  obtain ⟨fd_eq, F_eq⟩ := OwH.def_ c 30 rfl
  obtain ⟨fd_str, F_str⟩ := OwH.def_ c 31 rfl
  obtain ⟨fd_pk, F_pk⟩ := OwH.def_ c 32 rfl
  have chk : Chk P w K mg base := ⟨⟨_, _, (He.glo_ok X G (OwH.fact c 0 rfl)), F_is_name⟩, ⟨_, _, (He.glo_ok X G (OwH.fact c 1 rfl)), F_is_within⟩, ⟨_, _, (He.glo_ok X G (OwH.fact c 2 rfl)), F_is_number⟩, ⟨_, _, (He.glo_ok X G (OwH.fact c 3 rfl)), F_ascending⟩, ⟨_, _, (He.glo_ok X G (OwH.fact c 4 rfl)), F_numbers_told⟩, ⟨(He.free_ok X G (OwH.fact c 24 rfl)), (He.free_ok X G (OwH.fact c 25 rfl)), (He.free_ok X G (OwH.fact c 26 rfl)), (He.free_ok X G (OwH.fact c 27 rfl)), (He.free_ok X G (OwH.fact c 28 rfl)), (He.free_ok X G (OwH.fact c 29 rfl))⟩, ⟨(He.free_ok X G (OwH.fact c 30 rfl)), (He.free_ok X G (OwH.fact c 31 rfl)), (He.free_ok X G (OwH.fact c 32 rfl))⟩, ⟨(He.free_ok X G (OwH.fact c 33 rfl))⟩⟩
  exact ⟨chk,
    ⟨(He.free_ok X G (OwH.fact c 24 rfl)), (He.free_ok X G (OwH.fact c 27 rfl)), (He.free_ok X G (OwH.fact c 34 rfl)), (He.free_ok X G (OwH.fact c 32 rfl))⟩,
    (He.free_ok X G (OwH.fact c 35 rfl)),
    (He.free_ok X G (OwH.fact c 36 rfl)),
    (He.free_ok X G (OwH.fact c 37 rfl)),
    (He.free_ok X G (OwH.fact c 38 rfl)),
    (He.free_ok X G (OwH.fact c 39 rfl)),
    (He.free_ok X G (OwH.fact c 40 rfl)),
    ⟨_, _, (He.glo_ok X G (OwH.fact c 8 rfl)), F__law_pen⟩,
    ⟨_, _, (He.glo_ok X G (OwH.fact c 9 rfl)), F__law_draw⟩,
    ⟨_, _, (He.glo_ok X G (OwH.fact c 10 rfl)), F__law_pick⟩,
    ⟨_, _, (He.glo_ok X G (OwH.fact c 11 rfl)), F__law_row⟩,
    ⟨_, _, (He.glo_ok X G (OwH.fact c 12 rfl)), F__law_chosen⟩,
    ⟨_, _, (He.glo_ok X G (OwH.fact c 13 rfl)), F__law_all⟩,
    ⟨_, _, (He.glo_ok X G (OwH.fact c 14 rfl)), F__law_told_otherwise⟩,
    ⟨_, _, (He.glo_ok X G (OwH.fact c 15 rfl)), F__law_near⟩,
    ⟨_, _, (He.glo_ok X G (OwH.fact c 16 rfl)), F__law_same⟩,
    ⟨_, _, (He.glo_ok X G (OwH.fact c 7 rfl)), F_one_form⟩,
    ⟨_, _, (He.glo_ok X G (OwH.fact c 6 rfl)), F_is_pick⟩,
    ⟨_, _, (He.glo_ok X G (OwH.fact c 5 rfl)), F_house_with⟩,
    (He.glo_ok X G (OwH.fact c 18 rfl)),
    (He.glo_ok X G (OwH.fact c 19 rfl)),
    (He.glo_ok X G (OwH.fact c 20 rfl)),
    (He.glo_ok X G (OwH.fact c 21 rfl)),
    (He.glo_ok X G (OwH.fact c 22 rfl)),
    (He.glo_ok X G (OwH.fact c 23 rfl)),
    ⟨He.cls_ok (OwH.fact c 41 rfl), He.noat_ok (OwH.fact c 42 rfl), He.noat_ok (OwH.fact c 43 rfl)⟩,
    OwH.read_ok (OwH.fact c 50 rfl),
    OwH.read_ok (OwH.fact c 51 rfl),
    OwH.read_ok (OwH.fact c 52 rfl),
    OwH.read_ok (OwH.fact c 53 rfl),
    ⟨_, _, He.mkr_ok (OwH.fact c 46 rfl), F_h0⟩,
    ⟨_, _, _, OwH.cmet_ok (OwH.fact c 54 rfl), F_hof⟩,
    ⟨_, _, OwH.spc_ok (OwH.fact c 55 rfl), F_hitem⟩,
    ⟨_, _, He.mkr_ok (OwH.fact c 47 rfl), F_f0⟩,
    ⟨_, _, He.mkr_ok (OwH.fact c 48 rfl), F_e0⟩,
    ⟨_, _, He.mkr_ok (OwH.fact c 49 rfl), F_x0⟩,
    ⟨_, _, OwH.cfun_ok (OwH.fact c 56 rfl), F_r0⟩,
    ⟨_, _, OwH.cfun_ok (OwH.fact c 57 rfl), F_p0⟩,
    ⟨_, _, _, OwH.cmet_ok (OwH.fact c 58 rfl), F_fof⟩,
    ⟨_, _, _, OwH.prop_ok (OwH.fact c 59 rfl), F_pk⟩,
    kinds c,
    List.mem_cons_self,
    List.mem_cons_of_mem _ List.mem_cons_self,
    List.mem_cons_of_mem _ (List.mem_cons_of_mem _ List.mem_cons_self),
    He.noat_ok (OwH.fact c 44 rfl),
    He.noat_ok (OwH.fact c 45 rfl),
    ⟨_, F_iter⟩,
    ⟨_, F_len⟩,
    ⟨_, F_call⟩,
    ⟨_, F_eq⟩,
    ⟨_, _, ⟨(hasF_ok (OwH.fact c 60 rfl)).1, (hasF_ok (OwH.fact c 60 rfl)).2⟩, F_str⟩,
    odds c⟩
theorem ends {P : Program} {w : World} {K : PySem.W.Frag} {h : Heap} {mg : Str → Option Value} {f : Addr} (X : K.In h) (G : h.Ns mainGlobals mg) (hf : mg ("law" : Str) = some (.ref f)) (c : OwH.seeX theFacts theDefs K = OwH.wantX theDefs) :
    ∃ fd : FuncData, (∀ (s : Shared) (v : Value), BindsTo s fd ⟨[v], []⟩ [("_law_script", v)]) ∧ ∀ base : Heap, K.In base → base.Ns mainGlobals mg → OwR.FnG P w K mg base CX0 8 f fd ["_law_script"] (spLaw K) := by
  obtain ⟨fd, F⟩ := OwH.def_ c 17 rfl
  have e := hf.symm.trans (He.glo_ok X G (OwH.fact c 17 rfl))
  cases e
  refine ⟨fd, fun s v => ?_, fun base _ _ => ok_law F (facts X G c)⟩
  obtain ⟨oc, od, kV, doc, pm, an, cdv, ct, osl, rfl, lk, hcd⟩ := F.ex
  exact .of_eq rfl
end K10
open PySem PySem.W PySem.Calls PyProof.Rows
theorem PySem.Challenge.cw_nextkind_k13_whole_rules_alike_holds : PySem.Challenge.rw_nextkind_k13_whole_rules_alike.Holds := by
  w_on; o_law
  refine HandSHeadRun.head_any (r := K10.Rw) (q := view K10.Rw.prog [48]) (H := K10.hk) (ob := K10.ob) (M := 12000) (loose := K10.names) (d := HandSHeadRun.topDef K10.Rw.prog 48) (kwd := []) K10.ob_eq
    (by kernel_rfl) (fun s => by kernel_rfl) K10.run (by kernel_rfl) (by kernel_rfl) (by kernel_rfl) (by rfl) (by first | assumption | decide +kernel) (by decide +kernel) ⟨rfl, rfl, rfl, rfl, rfl, by decide +kernel⟩ ?hw ?hc
  case hw => w_witness2
  case hc =>
    refine OwR.walk_ofG (l := PySem.Challenge.rw_nextkind_k13_whole_rules_alike) (n := 63) (k := 8) (x := "_law_script") rfl (by decide) (by kernel_rfl) ⟨rfl, by decide, by decide⟩ ?_
    intro w mg fn h Y G hmg
    obtain ⟨K, X, c⟩ := Y
    have en : (HandSHeadRun.topDef K10.Rw.prog 48).name = ("law" : PySem.Str) := by kernel_rfl
    rw [en] at hmg
    obtain ⟨fd, hb, hF⟩ := K10.ends (P := PySem.Challenge.rw_nextkind_k13_whole_rules_alike.prog) (w := w) X G hmg c
    exact ⟨K, fd, K10.spLaw K, X, hb, fun G' a zs hz sq => ⟨a, zs, rfl, sq, hz, fun _ => rfl⟩, hF⟩
end
