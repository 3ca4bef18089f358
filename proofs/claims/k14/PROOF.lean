import PyProof.Rows.All
import Wide.All
import OpenK.AllK
import Wide.FinOn
import HandS.ForMost
import HandS.Set
import HandS.Strs
import HandS.SetFor
import HandS.SlotsOwn
import HandS.Conv
import HandS.Walk
import KE.GoesEnumKw
import KE.GoesMore
import HandS.Evl
import HandS.IsInst
import HandS.Star
import HandS.Defaults
import HandS.Steps
import HandS.Wide
import HandS.Zip
import HandS.Iter
import PyProof.ListStr
import HandS.NoneIn
import HandS.Style
import HandS.SortInts
import KE.SortData
import HandS.TupSets
import HandS.New
import HandS.FStr
import HandS.Dict
import HandS.ListItems
import KE.KDictZip
import KE.KTupSum
import HandS.Flt
import HandS.Ends
import HandS.Words
import PyProof.CallFns
import PyProof.ReprRoads
import PyProof.ReprBulk
import PyProof.FitsInt
import PyProof.DictUpdate
import PyProof.DictTable
import PyProof.MaxThree
import PySem.Challenge.RW_threeroadcars_k14_whole_four_roads_three
set_option Elab.async false
set_option linter.all false
set_option maxRecDepth 100000
set_option maxHeartbeats 8000000
namespace Ys
open PySem PySem.Spec PyProof.Rows L2
/-! sets of texts whose order is the world's: set(list of texts), then sorted -/
def wordOf (e : Int × Value) : Str := match e.2 with | .str x _ => x | _ => Str.empty
def WordE (w : World) (e : Int × Value) : Prop := ∃ x tk, e.2 = Value.str x tk ∧ e.1 = hashStr w x
/-- what is told of a set of texts: ks its members in the table's own row -/
structure Told (w : World) (es : Array (Int × Value)) (t : SetTable) (ks : List Str) : Prop where
  each : ∀ e ∈ es.toList, WordE w e
  keys : (es.toList.map wordOf).Perm ks
  once : ks.Nodup
  few : es.size < scanBound
  fit : t.fits es.size = true
  ris : Ris t.place.toList
  led : w.params.followText "set-order" = true ∨ t.led = true
def SetW (w : World) (h : Heap) (a : Addr) (ks : List Str) : Prop := ∃ o es ep t, h.get? a = some o ∧ o.ExactSet ∧ o.data = .set es ep t ∧ Told w es t ks
section
variable {P : Program} {w : World} {h h' : Heap} {a : Addr} {ks : List Str}
theorem SetW.keep (R : SetW w h a ks) (k : ∀ o, h.get? a = some o → h'.get? a = some o) : SetW w h' a ks := by
  rcases R with ⟨o, es, ep, t, q, rest⟩
  exact ⟨o, es, ep, t, k o q, rest⟩
theorem elems_words {l : List (Int × Value)} (g : ∀ e ∈ l, WordE w e) : ElemsOf (PySem.strKind P w) l := fun e he => by
  rcases g e he with ⟨x, tk, h1, h2⟩
  refine ⟨⟨x, ?_, h2⟩, ?_⟩
  · rw [h1]; exact keyIs_str x tk
  · rw [h1]; rfl
theorem is_word {e : Int × Value} (g : WordE w e) (x : Str) : (PySem.strKind P w).is x e.2 = true ↔ wordOf e = x := by
  rcases g with ⟨y, tk, h1, _⟩
  unfold wordOf
  rw [h1]
  show Value.isStrOf x (Value.str y tk) = true ↔ y = x
  constructor
  · intro q
    rcases Value.isStrOf_shape q with ⟨t', e⟩
    injection e
  · rintro rfl
    exact keyIs_str y tk
end
/-- the members behind x has come: in the row they first came -/
def put1 (ks : List Str) (x : Str) : List Str := if x ∈ ks then ks else x :: ks
section
variable {P : Program} {w : World} {A : Around} {E : Value → Shared → Prop} {s : Shared} {a : Addr} {ks : List Str}
theorem stored {h : Heap} {o : Obj} {es es2 : Array (Int × Value)} {ep : Nat} {t t2 : SetTable} (ho : h.get? a = some o) (hd : o.data = .set es ep t) :
    (h.update a (Obj.putSet es2 t2)).get? a = some { o with data := .set es2 (ep + 1) t2 } := by
  have z := Heap.get?_update_self (Obj.putSet es2 t2) ho (by rw [putSet_of es2 t2 hd]; rfl)
  rwa [putSet_of es2 t2 hd] at z
/-- the table stored, and laid anew if it is too full -/
theorem word_tail {g : Bool → Sem Unit} (hg : ∀ (b : Bool) (s1 : Shared) (Q : Unit → Shared → Prop), Q () s1 → wpAny (model P w) A (g b) Q E s1) {o : Obj} {es es1 : Array (Int × Value)} {ep : Nat} {t t1 : SetTable}
    (ho : s.heap.get? a = some o) (hx : o.ExactSet) (hd : o.data = .set es ep t) (T : Told w es1 t1 ks) {dummy : Bool} {R : Option Bool → Shared → Prop} (hR : ∀ h', Heap.SameBut a s.heap h' → SetW w h' a ks → R (some true) { s with heap := h' }) :
    wpAny (model P w) A (do
      storeSet a es1 t1
      if (!dummy && t1.tooFull) = true then do
        g (relayAll t1 es1 (SetTable.grown es1.size)).2.2
        storeSet a (relayAll t1 es1 (SetTable.grown es1.size)).1 (relayAll t1 es1 (SetTable.grown es1.size)).2.1
        pure (some true)
      else pure (some true)) R E s := by
  have q1 := stored (es2 := es1) (t2 := t1) ho hd
  have b1 := Heap.SameBut.update s.heap a (Obj.putSet es1 t1)
  refine wpAny_bind (wpAny_storeSet_of ho hd ?_ (fits_of_scanBound T.few))
  split
  · have e1 := relayAll_perm t1 es1 (SetTable.grown es1.size)
    have e2 := relayAll_fits t1 es1 (SetTable.grown es1.size)
    have e3 := relayAll_ris t1 es1 (SetTable.grown es1.size)
    have e4 := relayAll_led t1 es1 (SetTable.grown es1.size)
    generalize relayAll t1 es1 (SetTable.grown es1.size) = Y at e1 e2 e3 e4 ⊢
    rcases Y with ⟨es2, t2, gave⟩
    dsimp only at e1 e2 e3 e4 ⊢
    have zz : es2.size = es1.size := by simpa using e1.length_eq
    have fw : es2.size < scanBound := zz ▸ T.few
    refine wpAny_bind (hg _ _ _ (wpAny_bind (wpAny_storeSet_of q1 rfl ?_ (fits_of_scanBound fw))))
    have q2 := stored (es2 := es2) (t2 := t2) q1 rfl
    exact wpAny_pure (hR _ (b1.trans (Heap.SameBut.update _ a _)) ⟨_, es2, _, t2, q2, hx, rfl, fun e he => T.each e (e1.mem_iff.mp he), (e1.map wordOf).trans T.keys, T.once, fw, e2, e3, T.led.imp id fun z => e4.trans z⟩)
  · exact wpAny_pure (hR _ b1 ⟨_, es1, _, t1, q1, hx, rfl, T⟩)
theorem word_add {x : Str} {tk : Tok} {Q : Bool → Shared → Prop} (R : SetW w s.heap a ks) (room : ks.length + 1 < scanBound) (hQ : ∀ h' b, Heap.SameBut a s.heap h' → SetW w h' a (put1 ks x) → Q b { s with heap := h' }) :
    wpAny (model P w) A (setAddHashed a (.str x tk) ((PySem.strKind P w).hash x)) Q E s := by
  rcases R with ⟨o, es, ep, t, ho, hx, hd, T⟩
  have hk : (PySem.strKind P w).is x (.str x tk) = true := keyIs_str x tk
  have hv : (Value.str x tk).scannable = true := rfl
  have he := elems_words (P := P) T.each
  unfold setAddHashed setAddHashedIn
  refine wpAny_holding (wpAny_bind (wpAny_setState_of ho hd T.fit ?_))
  dsimp only
  rw [byScan_of hv T.few he, if_pos rfl]
  unfold setAddByScan
  refine wpAny_bind (wpAny_bind (wpAny_rule (wpAny_bind (wpAny_setScan_of hk ho hd T.fit he ?_))))
  cases hfi : List.findIdx? (fun e => (PySem.strKind P w).is x e.2) es.toList with
  | some j =>
    dsimp only
    rcases List.findIdx?_eq_some_iff_getElem.mp hfi with ⟨hj, pj, _⟩
    have hin : x ∈ ks := T.keys.mem_iff.mp (List.mem_map.mpr ⟨_, List.getElem_mem hj, (is_word (P := P) (T.each _ (List.getElem_mem hj)) x).mp pj⟩)
    refine wpAny_pure (wpAny_pure ?_)
    have q := hQ s.heap (!true) (Heap.SameBut.refl a s.heap) ⟨o, es, ep, t, ho, hx, hd, by unfold put1; rw [if_pos hin]; exact T⟩
    exact q
  | none =>
    dsimp only
    have hin : x ∉ ks := fun z => by
      rcases List.mem_map.mp (T.keys.mem_iff.mpr z) with ⟨e, m, q⟩
      have c := List.findIdx?_eq_none_iff.mp hfi e m
      rw [(is_word (P := P) (T.each e m) x).mpr q] at c
      cases c
    have gw : ∀ (b : Bool) {s1 : Shared} {Q1 : Unit → Shared → Prop}, Q1 () s1 → wpAny (model P w) A (match b with | true => rule "set.scan.the-table-gave-way" | false => pure ()) Q1 E s1 := fun b s1 Q1 q => by
      cases b
      · exact wpAny_pure q
      · exact wpAny_rule q
    have p1 := layNew_perm t es ((PySem.strKind P w).hash x) (.str x tk)
    have p2 := layNew_fits t es ((PySem.strKind P w).hash x) (.str x tk)
    have p3 := layNew_ris t es ((PySem.strKind P w).hash x) (.str x tk) T.ris
    have p4 := layNew_led t es ((PySem.strKind P w).hash x) (.str x tk)
    generalize layNew t es ((PySem.strKind P w).hash x) (.str x tk) = Y at p1 p2 p3 p4 ⊢
    rcases Y with ⟨es1, t1, dummy, gave⟩
    dsimp only at p1 p2 p3 p4 ⊢
    rw [Array.toList_push] at p1
    have p5 := p1.trans (List.perm_append_singleton _ _)
    have nk : (es1.toList.map wordOf).Perm (x :: ks) := (p5.map wordOf).trans (List.Perm.cons x T.keys)
    have sz : es1.size = ks.length + 1 := by simpa using nk.length_eq
    have T1 : ∀ t2 : SetTable, t2.fits es1.size = true → Ris t2.place.toList → t2.led = t1.led → Told w es1 t2 (put1 ks x) := fun t2 f2 r2 l2 => by
      unfold put1
      rw [if_neg hin]
      refine ⟨fun e m => ?_, nk, List.nodup_cons.mpr ⟨hin, T.once⟩, by omega, f2, r2, T.led.imp id fun z => by rw [l2, p4]; exact z⟩
      rcases List.mem_cons.mp (p5.mem_iff.mp m) with z | z
      · exact ⟨x, tk, by rw [z], by rw [z]; rfl⟩
      · exact T.each e z
    refine wpAny_bind (gw _ ?_)
    split
    · rw [hashByValue_scannable 8 hv]
      refine wpAny_bind (wpAny_pure (word_tail (ks := put1 ks x) (fun b s1 Q1 q => gw b q) ho hx hd ?_ fun h' sb r => wpAny_pure (hQ h' _ sb r)))
      first | exact T1 _ p2 p3 rfl | (split <;> first | exact T1 _ p2 p3 rfl | exact T1 _ (SetTable.fits_plain_off p2) p3 rfl)
    · refine wpAny_bind (wpAny_pure ?_)
      rw [if_pos rfl]
      exact word_tail (ks := put1 ks x) (fun b s1 Q1 q => gw b q) ho hx hd (T1 _ p2 p3 rfl) fun h' sb r => wpAny_pure (hQ h' _ sb r)
end
/-! ### the loop of set(xs) -/
def putAll (xs : List Str) : List Str := xs.foldl put1 []
theorem mem_put1 {ks : List Str} {x y : Str} : y ∈ put1 ks x ↔ y = x ∨ y ∈ ks := by
  unfold put1
  split
  · constructor
    · exact .inr
    · rintro (rfl | h)
      · assumption
      · exact h
  · exact List.mem_cons
theorem len_put1 (ks : List Str) (x : Str) : (put1 ks x).length ≤ ks.length + 1 := by
  unfold put1
  split
  · exact Nat.le_succ _
  · exact Nat.le_refl _
theorem putAll_snoc (xs : List Str) (x : Str) : putAll (xs ++ [x]) = put1 (putAll xs) x := by
  unfold putAll
  rw [List.foldl_append] <;> rfl
theorem mem_fold1 (y : Str) : ∀ (xs ks : List Str), y ∈ xs.foldl put1 ks ↔ y ∈ xs ∨ y ∈ ks
  | [], ks => by simp
  | x :: xs, ks => by
    show y ∈ xs.foldl put1 (put1 ks x) ↔ _
    rw [mem_fold1 y xs, mem_put1, List.mem_cons]
    constructor
    · rintro (h | h | h)
      · exact .inl (.inr h)
      · exact .inl (.inl h)
      · exact .inr h
    · rintro ((h | h) | h)
      · exact .inr (.inl h)
      · exact .inl h
      · exact .inr (.inr h)
theorem mem_putAll {xs : List Str} {y : Str} : y ∈ putAll xs ↔ y ∈ xs := by
  unfold putAll
  rw [mem_fold1]
  simp
theorem len_fold1 : ∀ (xs ks : List Str), (xs.foldl put1 ks).length ≤ xs.length + ks.length
  | [], ks => by simp
  | x :: xs, ks => by
    have h := len_fold1 xs (put1 ks x)
    have h2 := len_put1 ks x
    simp only [List.foldl_cons, List.length_cons]
    omega
theorem len_putAll (xs : List Str) : (putAll xs).length ≤ xs.length := by
  have h := len_fold1 xs []
  unfold putAll
  simpa using h
section
variable {P : Program} {w : World} {A : Around} {R : Result → Shared → Prop} {I : Addr} {fp wr : List Addr} {G : Array GenState → Array GenState → Prop} {n : Nat} {Pv : Nat → Value → Prop} {St : Nat → Shared → Prop}
theorem word_loop (W : WalksS P w A.in1 I fp wr G n Pv St) (a : Addr) (out : a ∉ fp) (xs : List Str) (hn : xs.length = n) (val : ∀ i v, Pv i v → ∃ x t, xs[i]? = some x ∧ v = .str x t) (few : n + 1 < scanBound) :
    ∀ (k i : Nat) (s : Shared), i + k = n → St i s → SetW w s.heap a (putAll (xs.take i)) → (∀ s', Moved (a :: wr) G s s' → SetW w s'.heap a (putAll xs) → R (.ok (.ret .none)) s') →
      codeAny (model P w) A (.builtin "set.update.loop" ⟨[.ref a, .ref I], []⟩) R s
  | 0, i, s, hk, st, hs, hR => by
    refine codeAny_builtin PyProof.Rows.F.entry_set_update_loop ?_
    rw [Around.under_plainId PyProof.Rows.F.plain_set_update_loop _]
    obtain rfl : i = n := by omega
    show wpAny _ A.in1 (pyNext (.ref I) >>= _) _ _ s
    refine wpAny_bind (W.done s _ _ st fun s1 mv => ?_)
    show wpAny _ A.in1 (ret Value.none) _ _ s1
    refine wpAny_pure (hR s1 (mv.mono fun b m => List.mem_cons_of_mem _ m) ?_)
    rw [← hn, List.take_length] at hs
    exact hs.keep fun o e => mv.heap a o (fun z => out (W.sub _ z)) e
  | k + 1, i, s, hk, st, hs, hR => by
    refine codeAny_builtin PyProof.Rows.F.entry_set_update_loop ?_
    rw [Around.under_plainId PyProof.Rows.F.plain_set_update_loop _]
    show wpAny _ A.in1 (pyNext (.ref I) >>= _) _ _ s
    refine wpAny_bind (W.item i s _ _ (by omega) st fun v s1 hv st1 mv => ?_)
    rcases val i v hv with ⟨x, t, hx, rfl⟩
    have hs1 : SetW w s1.heap a (putAll (xs.take i)) := hs.keep fun o e => mv.heap a o (fun z => out (W.sub _ z)) e
    show wpAny _ A.in1 (holding [Value.str x t] (setAdd a (.str x t)) >>= _) _ _ s1
    unfold setAdd
    refine wpAny_bind (wpAny_holding (wpAny_holding (wpAny_bind ((PySem.strKind P w).pyHash (k := x) (keyIs_str x t) ?_))))
    have room : (putAll (xs.take i)).length + 1 < scanBound := by
      have q := len_putAll (xs.take i)
      have q2 : (xs.take i).length ≤ n := by rw [← hn]; exact List.length_take_le' ..
      omega
    refine word_add (s := { s1 with toks := s1.toks + 1 }) hs1 room fun h1 b sb hs2 => ?_
    have e : putAll (xs.take (i + 1)) = put1 (putAll (xs.take i)) x := by
      rw [List.take_add_one, hx]
      exact putAll_snoc _ _
    rw [← e] at hs2
    refine wpAny_pure ⟨plainId_quiet PyProof.Rows.F.plain_set_update_loop _, word_loop W a out xs hn val few k (i + 1) _ (by omega) (W.frame _ s1 _ _ st1 (Nat.le_succ _) fun b m o q => ?_) hs2 fun s2 mv2 hs3 => ?_⟩
    · exact (sb.2 b fun z : b = a => out (z ▸ m)).trans q
    · refine hR s2 (Moved.trans W.gtrans ((mv.mono fun b m => List.mem_cons_of_mem _ m).then_heap (Nat.le_succ _) fun b o m q => ?_) mv2) hs3
      exact (sb.2 b fun z : b = a => m (z ▸ List.mem_cons_self)).trans q
end
section
variable {P : Program} {w : World} {A : Around} {E : Value → Shared → Prop} {s : Shared}
/-- a new set of nothing -/
abbrev nul (w : World) : Obj := { cls := .type "set", dict := none, data := .set #[] 0 (.fresh 0 0 (!w.params.followText "set-order")) }
theorem nul_told {h : Heap} {a : Addr} (ho : h.get? a = some (nul w)) : SetW w h a [] := by
  refine ⟨_, #[], 0, _, ho, ⟨rfl, rfl, rfl⟩, rfl, (fun e m => by simp at m), List.Perm.nil, List.nodup_nil, by decide, by rfl, List.Pairwise.nil, ?_⟩
  cases q : w.params.followText "set-order" with
  | true => exact .inl rfl
  | false => exact .inr rfl
theorem setOf_list {l : Addr} {items : Array Value} (xs : List Str) {Q : Value → Shared → Prop} (hh : A.handled = none) (hl : s.heap.IsList l items) (hi : PyProof.Rows.StrsAre items.toList xs) (few : xs.length + 1 < scanBound)
    (k : ∀ (h1 : Heap) (tk : Nat), SetW w h1 s.heap.objs.size (putAll xs) → (∀ b o, s.heap.get? b = some o → h1.get? b = some o) → Q (.ref s.heap.objs.size) { s with heap := h1, toks := tk }) :
    wpAny (model P w) A (call (.type "set") [.ref l]) Q E s := by
  have sz : items.size = xs.length := by simpa using hi.length
  obtain ⟨c, tl, hmro⟩ := F.called_set.mro
  have q1 := F.called_set.made; have q2 := F.called_set.sub
  refine wpAny_call (codeAny_of_tree (show wpAny _ _ (callAny (.type "set") _) _ _ _ from wpAny_pure ⟨Code.quiet_builtin _ (by decide +kernel), codeAny_builtin F.entry_type_call ?_⟩))
  rw [Around.under_plain (weight_type_call_type "set" [.ref l] []) rfl]
  have q3 := F.called_set.notType; have q4 := F.called_set.canCreate; have q5 := F.typeCall_set_1 (.ref l)
  repeat (any_goals (first | assumption | wp_step))
  refine codeAny_mono (code_set_led1 (.ref l) (E := E) (Q₁ := fun r s1 => r = .ref s.heap.objs.size ∧ s1 = { s with heap := s.heap.push (nul w) }) ⟨rfl, rfl⟩) fun r s1 hr => ?_
  cases r with
  | error e => exact hr
  | ok fl =>
    cases fl with
    | ret v =>
      rcases hr with ⟨rfl, rfl⟩
      have hn : (s.heap.push (nul w)).get? s.heap.objs.size = some (nul w) := Heap.get?_push_size _ rfl
      have ty : Shared.TypeIs { s with heap := s.heap.push (nul w) } (.ref s.heap.objs.size) "set" := ⟨_, hn, rfl⟩
      have q6 := F.called_set.init.lookup; have q7 := F.called_set.init.bind (.ref s.heap.objs.size)
      repeat (any_goals (first | assumption | wp_step))
      refine codeAny_mono (codeAny_call_builtin (R := wants (fun r s2 => r = .none ∧ ∃ h1 tk, s2 = { s with heap := h1, toks := tk } ∧ SetW w h1 s.heap.objs.size (putAll xs) ∧ ∀ b o, s.heap.get? b = some o → h1.get? b = some o) E)
        F.called_set.init.plain F.entry_set_init (check_set_init_1 ty ?_)) fun r2 s2 hr2 => ?_
      · rcases hl with ⟨⟨_, dd, _, sl⟩, ho, hc, nn, hd⟩
        simp only at hc hd
        subst hc; subst hd
        have lt : l < s.heap.objs.size := Heap.lt_size ho
        have ho1 : (s.heap.push (nul w)).get? l = some { cls := .type "list", dict := dd, data := .seq items nn, slots := sl } := Heap.get?_push_of_some _ ho
        have hl1 : (s.heap.push (nul w)).IsList l items := ⟨_, ho1, rfl, nn, rfl⟩
        have q8 := F.sub_list_set; have q9 := F.sub_list_frozenset
        have q10 : (Value.type "list" == Value.type "dict") = false := by decide
        have big : (s.heap.push (nul w)).objs.size = s.heap.objs.size + 1 := Heap.size_push ..
        unfold Builtin.«set.__init__» noKeywords Builtin.Frozenset.updateFrom
        generalize hit : pyIter = itr
        wp_walk
        subst hit
        refine wpAny_pyIter_list hl1 (wpAny_bind (wpAny_runValue ?_))
        have h3 : A.in1.in1.in1.handled = none := hh
        have nI : l ≠ (s.heap.push (nul w)).objs.size := fun z => by rw [big] at z; exact absurd lt (by rw [z]; exact Nat.not_lt_of_le (Nat.le_succ _))
        have nS : s.heap.objs.size ∉ [(s.heap.push (nul w)).objs.size, l] := fun m => by
          rw [big] at m
          rcases List.mem_cons.mp m with z | z
          · exact absurd z (Nat.ne_of_lt (Nat.lt_succ_self _))
          · rw [← List.mem_singleton.mp z] at lt
            exact Nat.lt_irrefl _ lt
        refine word_loop ((Walks.list h3 _ l nI items).toS) s.heap.objs.size nS xs sz.symm (fun i v hv => ?_) (by rw [sz]; exact few) items.size 0 _ (Nat.zero_add _)
          ⟨⟨_, Heap.get?_push_size _ rfl, rfl, rfl⟩, hl1.push _⟩ (nul_told (Heap.get?_push_of_some _ hn)) fun s3 mv hs => ?_
        · have lx : i < xs.length := by rw [← sz]; exact (Array.getElem?_eq_some_iff.mp hv).1
          rcases SS.strs_at hi i v (by rw [Array.getElem?_toList]; exact hv) with ⟨t, e⟩
          refine ⟨xs[i], t, List.getElem?_eq_getElem lx, ?_⟩
          rw [e, List.getD_eq_getElem?_getD, List.getElem?_eq_getElem lx] <;> rfl
        · rcases s3 with ⟨h1, g1, d1, tk1, o1⟩
          have e1 : g1 = s.gens := mv.gens
          have e2 : d1 = s.drawn := mv.drawn
          have e3 : o1 = s.os := mv.os
          subst e1 e2 e3
          show wpAny _ _ _ _ _ _
          refine wpAny_pure (show wpAny _ _ (ret Value.none) _ _ _ from wpAny_pure ⟨rfl, h1, tk1, rfl, hs, fun b o q => ?_⟩)
          have lb := Heap.lt_size q
          refine mv.heap b o (fun m => ?_) (Heap.get?_push_of_some _ (Heap.get?_push_of_some _ q))
          rcases List.mem_cons.mp m with z | z
          · exact absurd lb (by rw [z]; exact Nat.lt_irrefl _)
          · rw [List.mem_singleton.mp z, big] at lb
            exact absurd lb (Nat.not_lt_of_le (Nat.le_succ _))
      · cases r2 with
        | error e => exact hr2
        | ok f2 =>
          cases f2 with
          | ret v =>
            rcases hr2 with ⟨rfl, h1, tk, rfl, hs, kk⟩
            repeat (any_goals (first | assumption | wp_step))
            exact k _ _ hs kk
          | _ => exact hr2.elim
    | _ => exact hr.elim
theorem setOf_tuple {l : Addr} {items : Array Value} (xs : List Str) {Q : Value → Shared → Prop} (hh : A.handled = none) (hl : s.heap.IsTuple l items) (hi : PyProof.Rows.StrsAre items.toList xs) (few : xs.length + 1 < scanBound)
    (k : ∀ (h1 : Heap) (tk : Nat), SetW w h1 s.heap.objs.size (putAll xs) → (∀ b o, s.heap.get? b = some o → h1.get? b = some o) → Q (.ref s.heap.objs.size) { s with heap := h1, toks := tk }) :
    wpAny (model P w) A (call (.type "set") [.ref l]) Q E s := by
  have sz : items.size = xs.length := by simpa using hi.length
  obtain ⟨c, tl, hmro⟩ := F.called_set.mro
  have q1 := F.called_set.made; have q2 := F.called_set.sub
  refine wpAny_call (codeAny_of_tree (show wpAny _ _ (callAny (.type "set") _) _ _ _ from wpAny_pure ⟨Code.quiet_builtin _ (by decide +kernel), codeAny_builtin F.entry_type_call ?_⟩))
  rw [Around.under_plain (weight_type_call_type "set" [.ref l] []) rfl]
  have q3 := F.called_set.notType; have q4 := F.called_set.canCreate; have q5 := F.typeCall_set_1 (.ref l)
  repeat (any_goals (first | assumption | wp_step))
  refine codeAny_mono (code_set_led1 (.ref l) (E := E) (Q₁ := fun r s1 => r = .ref s.heap.objs.size ∧ s1 = { s with heap := s.heap.push (nul w) }) ⟨rfl, rfl⟩) fun r s1 hr => ?_
  cases r with
  | error e => exact hr
  | ok fl =>
    cases fl with
    | ret v =>
      rcases hr with ⟨rfl, rfl⟩
      have hn : (s.heap.push (nul w)).get? s.heap.objs.size = some (nul w) := Heap.get?_push_size _ rfl
      have ty : Shared.TypeIs { s with heap := s.heap.push (nul w) } (.ref s.heap.objs.size) "set" := ⟨_, hn, rfl⟩
      have q6 := F.called_set.init.lookup; have q7 := F.called_set.init.bind (.ref s.heap.objs.size)
      repeat (any_goals (first | assumption | wp_step))
      refine codeAny_mono (codeAny_call_builtin (R := wants (fun r s2 => r = .none ∧ ∃ h1 tk, s2 = { s with heap := h1, toks := tk } ∧ SetW w h1 s.heap.objs.size (putAll xs) ∧ ∀ b o, s.heap.get? b = some o → h1.get? b = some o) E)
        F.called_set.init.plain F.entry_set_init (check_set_init_1 ty ?_)) fun r2 s2 hr2 => ?_
      · rcases hl with ⟨⟨_, dd, _, sl⟩, ho, hc, nn, hd⟩
        simp only at hc hd
        subst hc; subst hd
        have lt : l < s.heap.objs.size := Heap.lt_size ho
        have ho1 : (s.heap.push (nul w)).get? l = some { cls := .type "tuple", dict := dd, data := .seq items nn, slots := sl } := Heap.get?_push_of_some _ ho
        have hl1 : (s.heap.push (nul w)).IsTuple l items := ⟨_, ho1, rfl, nn, rfl⟩
        have q8 := F.sub_tuple_set; have q9 := F.sub_tuple_frozenset
        have q10 : (Value.type "tuple" == Value.type "dict") = false := by decide
        have big : (s.heap.push (nul w)).objs.size = s.heap.objs.size + 1 := Heap.size_push ..
        unfold Builtin.«set.__init__» noKeywords Builtin.Frozenset.updateFrom
        generalize hit : pyIter = itr
        wp_walk
        subst hit
        refine wpAny_pyIter_tuple hl1 (wpAny_bind (wpAny_runValue ?_))
        have h3 : A.in1.in1.in1.handled = none := hh
        have nI : l ≠ (s.heap.push (nul w)).objs.size := fun z => by rw [big] at z; exact absurd lt (by rw [z]; exact Nat.not_lt_of_le (Nat.le_succ _))
        have nS : s.heap.objs.size ∉ [(s.heap.push (nul w)).objs.size, l] := fun m => by
          rw [big] at m
          rcases List.mem_cons.mp m with z | z
          · exact absurd z (Nat.ne_of_lt (Nat.lt_succ_self _))
          · rw [← List.mem_singleton.mp z] at lt
            exact Nat.lt_irrefl _ lt
        refine word_loop ((Walks.tuple h3 _ l nI items).toS) s.heap.objs.size nS xs sz.symm (fun i v hv => ?_) (by rw [sz]; exact few) items.size 0 _ (Nat.zero_add _)
          ⟨⟨_, Heap.get?_push_size _ rfl, rfl, rfl⟩, hl1.push _⟩ (nul_told (Heap.get?_push_of_some _ hn)) fun s3 mv hs => ?_
        · have lx : i < xs.length := by rw [← sz]; exact (Array.getElem?_eq_some_iff.mp hv).1
          rcases SS.strs_at hi i v (by rw [Array.getElem?_toList]; exact hv) with ⟨t, e⟩
          refine ⟨xs[i], t, List.getElem?_eq_getElem lx, ?_⟩
          rw [e, List.getD_eq_getElem?_getD, List.getElem?_eq_getElem lx] <;> rfl
        · rcases s3 with ⟨h1, g1, d1, tk1, o1⟩
          have e1 : g1 = s.gens := mv.gens
          have e2 : d1 = s.drawn := mv.drawn
          have e3 : o1 = s.os := mv.os
          subst e1 e2 e3
          show wpAny _ _ _ _ _ _
          refine wpAny_pure (show wpAny _ _ (ret Value.none) _ _ _ from wpAny_pure ⟨rfl, h1, tk1, rfl, hs, fun b o q => ?_⟩)
          have lb := Heap.lt_size q
          refine mv.heap b o (fun m => ?_) (Heap.get?_push_of_some _ (Heap.get?_push_of_some _ q))
          rcases List.mem_cons.mp m with z | z
          · exact absurd lb (by rw [z]; exact Nat.lt_irrefl _)
          · rw [List.mem_singleton.mp z, big] at lb
            exact absurd lb (Nat.not_lt_of_le (Nat.le_succ _))
      · cases r2 with
        | error e => exact hr2
        | ok f2 =>
          cases f2 with
          | ret v =>
            rcases hr2 with ⟨rfl, h1, tk, rfl, hs, kk⟩
            repeat (any_goals (first | assumption | wp_step))
            exact k _ _ hs kk
          | _ => exact hr2.elim
    | _ => exact hr.elim
end
end Ys
namespace Ys
open PySem PySem.Spec PyProof.Rows L2
section
variable {P : Program} {w : World} {A : Around} {E : Value → Shared → Prop} {s : Shared} {a : Addr} {ks : List Str}
theorem words_strs : ∀ (l : List (Int × Value)), (∀ e ∈ l, WordE w e) → StrsAre (l.map (·.2)) (l.map wordOf)
  | [], _ => .nil
  | e :: l, h => by
    rcases h e List.mem_cons_self with ⟨x, tk, h1, _⟩
    have hw : wordOf e = x := by unfold wordOf; rw [h1]
    show StrsAre (e.2 :: l.map (·.2)) (wordOf e :: l.map wordOf)
    rw [h1, hw]
    exact .cons x tk (words_strs l fun u m => h u (List.mem_cons_of_mem _ m))
theorem strs_perm : ∀ {us vs : List Value}, us.Perm vs → ∀ {xs : List Str}, StrsAre vs xs → ∃ ys, StrsAre us ys ∧ ys.Perm xs
  | _, _, .nil, xs, h => ⟨xs, h, .refl _⟩
  | _, _, .cons v p, xs, h => by
    cases h with
    | cons x t h =>
      rcases strs_perm p h with ⟨ys, h1, h2⟩
      exact ⟨x :: ys, .cons x t h1, h2.cons x⟩
  | _, _, .swap u v l, xs, h => by
    cases h with
    | cons x t h =>
      cases h with
      | cons y t2 h => exact ⟨y :: x :: _, .cons y t2 (.cons x t h), .swap x y _⟩
  | _, _, .trans p q, xs, h => by
    rcases strs_perm q h with ⟨ys, h1, h2⟩
    rcases strs_perm p h1 with ⟨zs, h3, h4⟩
    exact ⟨zs, h3, h4.trans h2⟩
/-- list.sort of a list of texts -/
theorem sort_words {l : Addr} {vs : List Value} {xs : List Str} {n : Nat} {Pf : PySem.Fin → Shared → Prop} (ho : s.heap.get? l = some (seqObj "list" vs.toArray n)) (hS : StrsAre vs xs) (few : vs.length < 64)
    (k : ∀ (out : Array Value) (ys : List Str), StrsAre out.toList ys → ys.Perm xs → sortedS ys = true → Pf (.done (.ret .none)) { s with heap := sortedHeap s.heap l vs out }) : wpAny (model P w) A (Builtin.«list.sort» ⟨[.ref l], []⟩) Pf E s := by
  refine list_sort_treeK strKind_oneLt ho hS.keysOf (fun v1 v2 r e => keyKind_strs (by rw [← e]; exact hS)) few fun st hp hs => ?_
  rcases sorted_out_str hS hp hs with ⟨ys, h1, h2, h3⟩
  exact k _ ys h1 h2 h3
/-- sorted(set of texts) -/
theorem sorted_words {Q : Value → Shared → Prop} (R : SetW w s.heap a ks) (hh : A.handled = none) (few : ks.length < 64)
    (k : ∀ s1 p (out : Array Value) (c : Nat) (ys : List Str), (∀ b o, s.heap.get? b = some o → s1.heap.get? b = some o) → s1.gens = s.gens → s1.os = s.os → s.heap.objs.size ≤ p → s1.heap.get? p = some (seqObj "list" out c) →
      StrsAre out.toList ys → ys.Perm ks → sortedS ys = true → Q (.ref p) s1) : wpAny (model P w) A (call (.builtin "sorted") [.ref a]) Q E s := by
  rcases R with ⟨o, es, ep, t, ho, hx, hd, T⟩
  refine Calls.call_function_entry kind_sorted plain_sorted entry_sorted (args_sorted1 _) ?_
  unfold Builtin.«sorted»
  refine wpAny_bind (m := checkCount "sorted" 1 1 _) (wpAny_pure (wpAny_bind (collect_set (A := A.in1) hh ⟨o, ho, hx.1, hd⟩ T.fit T.few T.ris T.led fun s1 vs k1 z1 g1 o1 pm => ?_)))
  rcases strs_perm pm (words_strs es.toList T.each) with ⟨xs, hS, px⟩
  have pk : xs.Perm ks := px.trans T.keys
  have ln : vs.length = ks.length := by rw [hS.length, pk.length_eq]
  have few2 : vs.length < 64 := by omega
  have hl : (s1.heap.push (seqObj "list" vs.toArray 0)).get? s1.heap.objs.size = some (seqObj "list" vs.toArray 0) := Heap.get?_push_size _ rfl
  refine wpAny_bind (wpAny_newList (wpAny_bind (wpAny_holding (wpAny_call_entry slot_list_sort ⟨_, hl, rfl⟩ entry_list_sort (sort_words hl hS few2 fun out ys h1 h2 h3 => ⟨_, rfl, ?_⟩) (args_list_sort _)))) (by rw [sizeLine_eq]; omega))
  rcases sortedHeap_at (vs := vs) (out := out) hl with ⟨c, hc⟩
  refine wpAny_pure ⟨_, rfl, k _ s1.heap.objs.size out c ys (fun b u e => ?_) g1 o1 z1 hc h1 (h2.trans pk) h3⟩
  have lt := Heap.lt_size (k1 b u e)
  exact (sortedHeap_old (Nat.ne_of_lt lt) (by rw [size_push']; exact Nat.lt_succ_of_lt lt)).trans (Heap.get?_push_of_some _ (k1 b u e))
end
/-! ### the rules: set(xs) of texts, sorted of it, its len -/
/-- the set of texts ks, as it stands at p -/
def WSet (w : World) (p : Addr) (ks : List Str) : HO := .ext fun h => SetW w h p ks
theorem SetW.once {w : World} {h : Heap} {a : Addr} {ks : List Str} (R : SetW w h a ks) : ks.Nodup := by
  rcases R with ⟨_, _, _, _, _, _, _, T⟩
  exact T.once
def rSetW (K : PySem.W.Frag) (w : World) : List V → Hp → VK → Prop := fun vs H Q => ∃ (l : Addr) (xs : List Str), vs = [V.ref l] ∧ (SqL K H l (xs.map V.str) ∨ SqT K H l (xs.map V.str)) ∧ xs.length < 1000 ∧
  ∀ (p : Addr) (ks : List Str), H p = none → ks.Nodup → (∀ y, y ∈ ks ↔ y ∈ xs) → ks.length ≤ xs.length → Q (.ref p) (upd H p (WSet w p ks))
def rSortedW (w : World) : List V → Hp → VK → Prop := fun vs H Q => ∃ (a : Addr) (ks : List Str), vs = [V.ref a] ∧ H a = some (WSet w a ks) ∧ ks.length < 64 ∧
  ∀ (ys : List Str) (p : Addr), ys.Perm ks → sortedS ys = true → H p = none → Q (.ref p) (upd H p (.lst (ys.map V.str)))
def rLenW (w : World) : List V → Hp → VK → Prop := fun vs H Q => ∃ (a : Addr) (ks : List Str), vs = [V.ref a] ∧ H a = some (WSet w a ks) ∧ Q (.int ks.length) H
section
variable {X : Cx}
theorem cr_setW (hc : X.calm = true) : CallR X (.type "set") (rSetW X.K X.w) := by
  intro pins s σ H vs us Q I r h
  rcases h with ⟨l, xs, rfl, hq, few, k⟩
  rw [Vals.ref1 r]
  have fin : ∀ (h1 : Heap) (tk : Nat), SetW X.w h1 s.heap.objs.size (putAll xs) → (∀ b o, s.heap.get? b = some o → h1.get? b = some o) → EP X pins σ Q (.ref s.heap.objs.size) { s with heap := h1, toks := tk } := fun h1 tk R kk =>
    ⟨.ref s.heap.objs.size, upd H s.heap.objs.size (WSet X.w s.heap.objs.size (putAll xs)), I.laid (t' := tk) kk (Nat.le_refl _) ⟨R, let ⟨o, _, _, _, q, _⟩ := R; ⟨o, q⟩, fun g1 g2 q z => q.keep z⟩, rfl,
      k _ _ (I.hok.fresh (Nat.le_refl _)) R.once (fun y => mem_putAll) (len_putAll xs)⟩
  rcases hq with hq | hq
  · rcases I.list hq with ⟨its, rv, pl, _⟩
    exact setOf_list xs (I.ok.hd hc) pl.isList (by simpa using rv.strs) (by unfold scanBound; omega) fin
  · rcases I.tuple hq with ⟨its, rv, pl, _⟩
    exact setOf_tuple xs (I.ok.hd hc) pl (by simpa using rv.strs) (by unfold scanBound; omega) fin
theorem cr_sortedW (hc : X.calm = true) : CallR X (.builtin "sorted") (rSortedW X.w) := by
  intro pins s σ H vs us Q I r h
  rcases h with ⟨a, ks, rfl, ha, few, k⟩
  rw [Vals.ref1 r]
  have R : SetW X.w s.heap a ks := (I.hok a _ ha).1
  refine sorted_words R (I.ok.hd hc) few fun s1 p out c ys kk g o hp hg hS pm so => ?_
  have fr : H p = none := I.hok.fresh hp
  have ln : (ys.map V.str).length ≤ sizeLine := by rw [List.length_map, pm.length_eq]; exact small64 few
  have ok : ObjOk X.prog X.w (upd H p (.lst (ys.map V.str))) s1.heap p (.lst (ys.map V.str)) := ⟨ln, out.toList, c, vals_of_strs hS, hg⟩
  have J : Inv X pins σ (upd H p (.lst (ys.map V.str))) { s with heap := s1.heap, gens := s1.gens, drawn := s1.drawn, toks := s1.toks } :=
    I.call (ch := []) (Un.laid kk hp fr) (I.hok.laid kk hp ok) (by rw [g]; exact I.bare) (fun _ z => nomatch z)
  have e : s1 = { s with heap := s1.heap, gens := s1.gens, drawn := s1.drawn, toks := s1.toks } := by
    cases s1; cases s; cases o; rfl
  rw [e]
  exact ⟨.ref p, _, J, rfl, k ys p pm so fr⟩
end
end Ys
namespace Yr
open PySem PySem.Spec PyProof.Rows L2
section
variable {X : Cx}
/-! ### a power of a great number -/
def CPowB (i j : Int) : Prop := 0 ≤ j ∧ (Builtin.Int.intBits i : Int) * j ≤ 2 ^ 27
theorem op_powB : OpR X (binaryOp .Pow) (rI CPowB fun i j => .int (i ^ j.toNat)) := opI fun _ _ _ _ _ _ _ hc q => pow_int hc.1 hc.2 q
/-! ### for over what is a list or a tuple -/
def iSeq (K : PySem.W.Frag) (tl : TE) : TI := fun σ H R => tl σ H fun x H1 => ∃ a, x = .ref a ∧ (((∃ xs, SqL K H1 a xs) ∧ R (Itl K a) H1) ∨ ((∃ xs, SqT K H1 a xs) ∧ R (Itt K a) H1))
theorem pi_seq {tg l : Expr} {tl : TE} (hl : PE X l tl) : PI X tg l (iSeq X.K tl) := by
  refine ⟨fun pins s σ H R I h => ?_⟩
  refine thn (hl.run pins s σ H _ I h) fun v s1 ⟨x, H1, I1, r1, a, e, q⟩ => ?_
  subst e
  cases r1
  have own : ∀ b ∈ [s1.heap.objs.size], FpOk X pins H1 b := fun b hb => by
    rw [List.mem_singleton.mp hb]
    exact I1.fpOk (Nat.le_refl _) (I1.hok.fresh (Nat.le_refl _))
  rcases q with ⟨⟨xs, hq⟩, q⟩ | ⟨⟨xs, hq⟩, q⟩
  · rcases I1.list hq with ⟨its, rv, p, hz⟩
    exact wpAny_pyIter_list p.isList ⟨s1.heap.objs.size, [s1.heap.objs.size], _, _, H1, rfl, I1.kept (t' := s1.toks) fun b o e => Heap.get?_push_of_some _ e, turn_list a _, ⟨_, Heap.get?_push_size _ rfl, rfl, rfl⟩, own, q⟩
  · rcases I1.tuple hq with ⟨its, rv, p, hz⟩
    exact wpAny_pyIter_tuple (show s1.heap.IsTuple a its.toArray from p) ⟨s1.heap.objs.size, [s1.heap.objs.size], _, _, H1, rfl, I1.kept (t' := s1.toks) fun b o e => Heap.get?_push_of_some _ e, turn_tuple a _, ⟨_, Heap.get?_push_size _ rfl, rfl, rfl⟩, own, q⟩
/-! ### list.count of texts -/
def rCntS (K : PySem.W.Frag) : V → List V → Hp → VK → Prop := fun x xs H Q => ∃ (p : Addr) (ys : List Str) (z : Str), x = .ref p ∧ xs = [.str z] ∧ SqL K H p (ys.map V.str) ∧ Q (.int (ys.count z : Nat)) H
theorem eqU_word (z : Str) {y : Str} {u : Value} (r : RelV (.str y) u) : eqU (.str z) u = (y == z) := by
  obtain ⟨t, rfl⟩ := r
  rfl
theorem count_words (z : Str) : ∀ {ys : List Str} {us : List Value}, Vals (ys.map V.str) us → us.countP (eqU (.str z)) = ys.count z
  | [], _, .nil => rfl
  | y :: ys, _, .cons r t => by
    rw [List.countP_cons, List.count_cons, eqU_word z r, count_words z t]
theorem mt_lcountS : MtR X "list.count" (rCntS X.K) := by
  intro pins s σ H x xs v us Q I rx rxs h
  rcases h with ⟨p, ys, z, rfl, rfl, hs, q⟩
  cases rx
  obtain ⟨u, rfl, t, rfl⟩ := vals1 rxs
  rcases I.list hs with ⟨its, rv, ⟨⟨_, dd, _, sl⟩, n, ho, hc, hdn, hd⟩, hz⟩
  simp only at hc hd
  subst hc hd
  refine call_meets PySem.F.slot_list_count ⟨_, ho, rfl⟩ PySem.F.entry_list_count (PySem.F.args_list_count_2 _ _) (SeqAt.list_countAt p its.toArray n dd sl (.str z t) (eqU (.str z)))
    ⟨ho, fun y hy => mem_eqAt (x := .str z) ⟨t, rfl⟩ rfl rv (by rw [List.all_map]; exact List.all_eq_true.mpr fun _ _ => rfl) y (by simpa using hy), .int (ys.count z : Nat), H, I.tok _, ⟨s.toks, ?_⟩, q⟩
  have e : its.toArray.toList.countP (eqU (.str z)) = ys.count z := count_words z rv
  rw [e]
/-! ### len of an instance with its own __len__ -/
def rLenOwn (C : Addr) (sp : Sp) (E : XK) : List V → Hp → VK → Prop := fun xs H Q => ∃ a dx fs, xs = [V.ref a] ∧ H a = some (.ins C dx fs) ∧ sp [.ref a] H (fun z H' => ∃ i, z = .int i ∧ 0 ≤ i ∧ i < 2 ^ 63 ∧ Q z H') E
theorem call_lenOwn {C g : Addr} {n : Nat} {sp : Sp} {E : XK} {CX : CXT} (hs : PySem.W.findIn X.K (.ref C) "__len__" = some (some (.ref g))) (hf : PySem.W.isFn X.K (.ref g) = true) (F : FnR X.prog X.w X.K X.mg X.base CX n g sp) (hr : Room (n + 1) X.A) (hx : Passes CX X E) :
    CallR X (.builtin "len") (rLenOwn C sp E) := by
  intro pins s σ H xs us Q I r h
  rcases h with ⟨a, dx, fs, rfl, ha, q⟩
  obtain ⟨u, rfl, ru⟩ := r.one
  cases (show u = Value.ref a from ru)
  rcases ins_get I.hok ha with ⟨mA, O, _⟩
  rcases O.look with ⟨od, J, _⟩
  refine Calls.call_function_entry kind_len plain_len entry_len (args_len1 _) ?_
  unfold Builtin.«len»
  refine wpAny_bind (m := oneArg "len" _) (wpAny_pure (wpAny_bind (m := callSpecial? (.ref a) (Str.ofString "__len__")) (PySem.W.special_fn I.kIn J hs (beq_iff_eq.mp hf) ?_)))
  refine wpAny_mono (wpAny_call (SlX.run_at (us := [.ref a]) (ws := [.ref a]) F hr.in1 I.env0.in1 hx I (.cons rfl .nil) q)) (fun w s1 z => ?_) fun _ _ x => x
  rcases z with ⟨_, H1, I1, rz, i, rfl, h0, h1, q1⟩
  obtain ⟨t, rfl⟩ := rz
  refine wpAny_bind (wpAny_holding (wpAny_pure (wpAny_bind (wpAny_letGo ?_))))
  show wpAny _ _ (if i < 0 then _ else _) _ _ _
  rw [if_neg (by omega)]
  show wpAny _ _ (if i ≥ 2 ^ 63 then _ else _) _ _ _
  rw [if_neg (by omega)]
  exact wpAny_bind (wpAny_mkInt (wpAny_pure ⟨_, rfl, .int i, H1, I1.tok _, ⟨_, rfl⟩, q1⟩))
end
/-! ### enumerate over a tuple, and from a start -/
/-- what stands at a (told by Sq) as it stands at each turn, each item in a new pair, counted from k -/
def Itn (Sq : Hp → List V → Prop) (k : Int) : It :=
  ⟨fun i H => ∃ (xs : List V) (x : V), Sq H xs ∧ xs[i]? = some x, fun i H v H' => ∃ T x, v = .ref T ∧ H T = none ∧ H' = upd H T (.tup [.int (k + (i : Nat)), x]) ∧ ∀ xs, Sq H xs → xs[i]? = some x, fun i H => ∃ xs : List V, Sq H xs ∧ xs.length = i⟩
theorem walk_num {Sq : Hp → List V → Prop} {k : Int} {xs : List V} : Walk (Itn Sq k) xs.length (fun H => Sq H xs) (YPair (fun i => some (.int (k + (i : Nat)))) (fun i => xs[i]?)) :=
  ⟨fun i _ hi q => ⟨xs, xs[i], q, by simp [hi]⟩, fun _ q => ⟨xs, q, rfl⟩, fun i H v H' _ q ⟨T, x, h1, h2, h3, h4⟩ => ⟨T, .int (k + (i : Nat)), x, h1, h2, h3, rfl, h4 xs q⟩⟩
theorem turn_num {P : Program} {w : World} {K : PySem.W.Frag} {elts : List Expr} {kk : Nat} {tpos : Pos} (Sq : Hp → List V → Prop) (k : Int) (a e it : Addr) (At : Heap → Nat → Prop) (Src : Heap → Array Value → Prop)
    (hat : ∀ h i, At h i → ∃ o, h.get? it = some o ∧ ∀ v, o.data ≠ .cell v) (hkeep : ∀ h h' i, At h i → (∀ o, h.get? it = some o → h'.get? it = some o) → At h' i)
    (hD : ∀ (A : Around) (its : Array Value), A.handled = none → a ≠ it → Draws P w A it [it, a] its.size (fun i v => its[i]? = some v) (fun i h => At h i ∧ Src h its))
    (hI : ∀ (X : Cx), X.prog = P → X.w = w → X.K = K → ∀ pins σ H s xs, Inv X pins σ H s → Sq H xs → ∃ its : List Value, Vals xs its ∧ Src s.heap its.toArray)
    (hU : ∀ (X : Cx), X.prog = P → X.w = w → X.K = K → ∀ pins σ H s xs ys, Inv X pins σ H s → Sq H xs → Sq H ys → xs = ys) :
    Turn P w K (.Tuple elts kk tpos) (Itn Sq k) [e, it] e (fun i h => (∃ old, IsEnum h e it (k + (i : Nat)) old) ∧ At h i ∧ e ≠ it ∧ e ≠ a ∧ a ≠ it) where
  mem := List.mem_cons_self
  obj := fun i h st b hb => by
    rcases st with ⟨⟨old, he⟩, hit, _⟩
    rcases List.mem_cons.mp hb with z | z
    · rw [z]; exact ⟨_, he, fun v q => nomatch q⟩
    · rw [List.mem_singleton.mp z]; exact hat h i hit
  keep := fun i h h' ⟨⟨old, he⟩, hit, n⟩ kp => ⟨⟨old, kp e List.mem_cons_self _ he⟩, hkeep h h' i hit fun o q => kp it (List.mem_cons_of_mem _ List.mem_cons_self) o q, n⟩
  item := by
    intro X hP hw hK hc i pins s σ H E I hf st hg
    rcases st with ⟨⟨old, he⟩, hit, n1, n2, n3⟩
    rcases hg with ⟨xs, x, hq, hx⟩
    rcases hI X hP hw hK pins σ H s xs I hq with ⟨its, rv, hs⟩
    rcases rv.get hx with ⟨u, hu, ru⟩
    have hd1 : X.A.in1.handled = none := I.ok.hd hc
    have le : e < s.heap.objs.size := Heap.lt_size he
    have li : it < s.heap.objs.size := by
      rcases hat _ _ hit with ⟨_, q, _⟩
      exact Heap.lt_size q
    have hlt : i < its.toArray.size := by simpa using (List.getElem?_eq_some_iff.mp hu).1
    refine wpAny_pyNext_enum_itemC (hD X.A.in1 its.toArray hd1 n3) he ⟨hit, hs⟩ hlt n1 (by simp [n1, n2]) fun y h1 tk hy ho hst hT hz kk => ?_
    have ey : y = u := by
      have e1 : its.toArray[i]? = some u := by simpa using hu
      exact Option.some.inj (hy.symm.trans e1)
    subst ey
    refine ⟨_, rfl, wpAny_letOwnedTupleGo_enum (s := { s with heap := h1, toks := tk + 1 }) ho fun h2 he2 sb => ?_⟩
    have hT2 : h2.get? s.heap.objs.size = some { cls := .type "tuple", data := .seq #[.int (k + (i : Nat)) tk, y] } := (sb.2 _ (Nat.ne_of_gt le)).trans hT
    have new : ObjOk X.prog X.w (upd H s.heap.objs.size (.tup [.int (k + (i : Nat)), x])) h2 s.heap.objs.size (.tup [.int (k + (i : Nat)), x]) :=
      ⟨by show 2 ≤ sizeLine; decide, [.int (k + (i : Nat)) tk, y], .cons ⟨_, rfl⟩ (.cons ru .nil), ⟨_, hT2, rfl, _, rfl⟩⟩
    have J : Inv X pins σ (upd H s.heap.objs.size (.tup [.int (k + (i : Nat)), x])) { s with heap := h2, toks := tk + 1 } :=
      I.turnedNew (ch := [e, it]) (fun b ob hb q => (sb.2 b (fun z => hb (by simp [z]))).trans (kk b ob (fun z => hb (by simp [z])) (fun z => hb (by simp [z])) q)) hf (Nat.le_refl _) new
    refine ⟨.ref s.heap.objs.size, _, J, rfl, ⟨_, x, rfl, I.hok.fresh (Nat.le_refl _), rfl, fun ys hys => by rw [hU X hP hw hK pins σ H s ys xs I hys hq]; exact hx⟩, ⟨⟨y, ?_⟩, hkeep h1 h2 (i + 1) hst.1 fun o q => (sb.2 it (Ne.symm n1)).trans q, n1, n2, n3⟩, fun b hb => ?_⟩
    · have e1 : k + ((i + 1 : Nat) : Int) = k + (i : Nat) + 1 := by omega
      rw [e1]; exact he2
    · rw [upd_ne (Nat.ne_of_lt ?_)]
      · exact (hf b hb).1
      · rcases List.mem_cons.mp hb with z | z
        · rw [z]; exact le
        · rw [List.mem_singleton.mp z]; exact li
  done := by
    intro X hP hw hK hc i pins s σ H E I hf st hg
    rcases st with ⟨⟨old, he⟩, hit, n1, n2, n3⟩
    rcases hg with ⟨xs, hq, hx⟩
    rcases hI X hP hw hK pins σ H s xs I hq with ⟨its, rv, hs⟩
    rcases hf it (by simp) with ⟨f0, f1, f2, f3, f4, f5⟩
    have hl := rv.length
    have hd1 : X.A.in1.handled = none := I.ok.hd hc
    have en : i = its.toArray.size := by simp; omega
    rw [en] at he hit
    exact wpAny_pyNext_enum_endD (hD X.A.in1 its.toArray hd1 n3) he ⟨hit, hs⟩ fun h' eb => ⟨rfl, I.turned (t' := s.toks) (fun b o hb q => eb b o hb q) f0 f1 f3 f4 f5⟩
  self := fun A i s Q E ⟨⟨_, he⟩, _⟩ h => wpAny_pyIter_enum he h
def iNumT (K : PySem.W.Frag) (k : Int) (ta : TA) : TI := fun σ H R => ta σ H fun vs H1 => ∃ a xs, vs = [.ref a] ∧ SqT K H1 a xs ∧ R (Itn (fun H' ys => SqT K H' a ys) k) H1
def iNumL (K : PySem.W.Frag) (k : Int) (ta : TA) : TI := fun σ H R => ta σ H fun vs H1 => ∃ a xs, vs = [.ref a] ∧ SqL K H1 a xs ∧ R (Itn (fun H' ys => SqL K H' a ys) k) H1
section
variable {X : Cx} {elts : List Expr} {kk : Nat} {p pos tpos : Pos} {e : Expr} {ta : TA}
theorem turnT {P : Program} {w : World} {K : PySem.W.Frag} (k : Int) (a q it : Addr) : Turn P w K (.Tuple elts kk tpos) (Itn (fun H ys => SqT K H a ys) k) [q, it] q (fun i h => (∃ old, IsEnum h q it (k + (i : Nat)) old) ∧ h.IsTupleIter it a i ∧ q ≠ it ∧ q ≠ a ∧ a ≠ it) :=
  turn_num (fun H ys => SqT K H a ys) k a q it (fun h i => h.IsTupleIter it a i) (fun h its => h.IsTuple a its) (fun h i ⟨o, ho, _, hd⟩ => ⟨o, ho, fun v q => by rw [hd] at q; cases q⟩) (fun _ _ _ x kp => x.at kp)
    (fun A its hh n => Draws.tuple hh it a n its) (fun X _ _ hK pins σ H s xs I hq => by
      subst hK
      rcases I.tuple hq with ⟨its, rv, pl, _⟩
      exact ⟨its, rv, pl⟩) (fun X _ _ hK pins σ H s xs ys I h1 h2 => by
      subst hK
      exact I.tuple_inj h1 h2)
theorem turnL {P : Program} {w : World} {K : PySem.W.Frag} (k : Int) (a q it : Addr) : Turn P w K (.Tuple elts kk tpos) (Itn (fun H ys => SqL K H a ys) k) [q, it] q (fun i h => (∃ old, IsEnum h q it (k + (i : Nat)) old) ∧ h.IsListIter it a i ∧ q ≠ it ∧ q ≠ a ∧ a ≠ it) :=
  turn_num (fun H ys => SqL K H a ys) k a q it (fun h i => h.IsListIter it a i) (fun h its => h.IsList a its) (fun h i ⟨o, ho, _, hd⟩ => ⟨o, ho, fun v q => by rw [hd] at q; cases q⟩) (fun _ _ _ x kp => x.at kp)
    (fun A its hh n => Draws.list hh it a n its) (fun X _ _ hK pins σ H s xs I hq => by
      subst hK
      rcases I.list hq with ⟨its, rv, pl, _⟩
      exact ⟨its, rv, pl.isList⟩) (fun X _ _ hK pins σ H s xs ys I h1 h2 => by
      subst hK
      exact I.list_inj h1 h2)
theorem num_new {v : Value} {o : Obj} {Z : Heap → Prop} (B : Begins v o Z) : Meets (Builtin.«enumerate.__new__» ⟨[.type "enumerate", v], []⟩) (fun _ R s => Z s.heap ∧
    R (.ok (.ret (.ref (s.heap.push o).objs.size))) { s with heap := (s.heap.push o).push { cls := .type "enumerate", data := .fields #[.none, .bool false, .ref s.heap.objs.size, rawInt 0, .none, .none] } }) :=
  .of_wp fun P w A R s h => by
    rcases s with ⟨hp, g, d, tk, os⟩
    rcases h with ⟨h1, h2⟩
    have sub := sub_enumerate
    have it : ∀ {A1 : Around} {E : Value → Shared → Prop} {Q : Value → Shared → Prop}, Q (.ref hp.objs.size) ⟨hp.push o, g, d, tk, os⟩ → wpAny (model P w) A1 (pyIter v) Q E ⟨hp, g, d, tk, os⟩ :=
      fun q => B.iter P w _ _ ⟨hp, g, d, tk, os⟩ _ h1 q
    wp_walk using it
    refine wpAny_stack_any fun st => wpAny_pure ?_
    split
    · rename_i c _ _ _ _ _
      cases (c == Value.type "enumerate") <;> (wp_walk using it; exact ⟨_, rfl, h2⟩)
    · wp_walk using it
      exact ⟨_, rfl, h2⟩
theorem num_begins {prog : Program} {w : World} {A : Around} {E : Value → Shared → Prop} {s : Shared} {v : Value} {o : Obj} {Z : Heap → Prop} {Q : Value → Shared → Prop} (B : Begins v o Z) (h1 : Z s.heap)
    (h : ∀ h', IsEnum h' (s.heap.objs.size + 1) s.heap.objs.size 0 .none → h'.get? s.heap.objs.size = some o → (∀ b u, s.heap.get? b = some u → h'.get? b = some u) → Q (.ref (s.heap.objs.size + 1)) { s with heap := h' }) :
    wpAny (model prog w) A (call (.type "enumerate") [v]) Q E s := by
  refine callType_new F.called_enumerate (by decide) (F.typeCall_enumerate_1 _) (F.newCall_enumerate_1 _) (fun obj => F.args_object_init_2 obj _) F.entry_enumerate_new (num_new B) ⟨h1, ?_⟩
  have z1 : (s.heap.push o).objs.size = s.heap.objs.size + 1 := Heap.size_push ..
  show _ ∧ _
  rw [z1]
  have e : IsEnum ((s.heap.push o).push { cls := .type "enumerate", data := .fields #[.none, .bool false, .ref s.heap.objs.size, rawInt 0, .none, .none] }) (s.heap.objs.size + 1) s.heap.objs.size 0 .none := by
    have q := Heap.get?_push_size (s.heap.push o) (o := { cls := .type "enumerate", data := .fields #[.none, .bool false, .ref s.heap.objs.size, rawInt 0, .none, .none] }) rfl
    rwa [z1] at q
  exact ⟨⟨_, e, rfl⟩, h _ e (Heap.get?_push_of_some _ (Heap.get?_push_size _ B.free)) fun b u q => Heap.get?_push_of_some _ (Heap.get?_push_of_some _ q)⟩
/-- the two new cells of an enumerate: nothing that H tells stands there -/
theorem num_pie {pins : List (Addr × Obj)} {σ : L2.St} {H : Hp} {s : Shared} {R : It → Hp → Prop} {E : Value → Shared → Prop} {J : It} {a : Addr} {k : Int} {h' : Heap} {At : Heap → Nat → Prop} (I : Inv X pins σ H s) (la : a < s.heap.objs.size)
    (he : IsEnum h' (s.heap.objs.size + 1) s.heap.objs.size k .none) (hk : ∀ b u, s.heap.get? b = some u → h'.get? b = some u) (hat : At h' 0)
    (T : Turn X.prog X.w X.K (.Tuple elts kk tpos) J [s.heap.objs.size + 1, s.heap.objs.size] (s.heap.objs.size + 1) (fun i h => (∃ old, IsEnum h (s.heap.objs.size + 1) s.heap.objs.size (k + (i : Nat)) old) ∧ At h i ∧ s.heap.objs.size + 1 ≠ s.heap.objs.size ∧ s.heap.objs.size + 1 ≠ a ∧ a ≠ s.heap.objs.size)) (q : R J H) :
    wpAny (model X.prog X.w) X.A (pyIter (.ref (s.heap.objs.size + 1))) (PIE X pins σ (.Tuple elts kk tpos) R) E { s with heap := h' } := by
  refine wpAny_pyIter_enum he ⟨s.heap.objs.size + 1, [s.heap.objs.size + 1, s.heap.objs.size], _, _, H, rfl, I.kept (t' := s.toks) hk, T, ⟨⟨.none, ?_⟩, hat, Nat.succ_ne_self _, Nat.ne_of_gt (Nat.lt_succ_of_lt la), Nat.ne_of_lt la⟩, fun b hb => ?_, q⟩
  · have e : k + ((0 : Nat) : Int) = k := by simp
    rw [e]; exact he
  · have le : s.heap.objs.size ≤ b := by
      rcases List.mem_cons.mp hb with z | z
      · rw [z]; exact Nat.le_succ _
      · rw [List.mem_singleton.mp z]; exact Nat.le_refl _
    exact I.fpOk le (I.hok.fresh le)
theorem pi_enumT (hg : Gl X "enumerate") (hm : X.mg "enumerate" = none) (ha : PA X [e] ta) (hs : starEach [e] X.env = [(false, eval e X.env)] := by rfl) : PI X (.Tuple elts kk tpos) (.Call (.Name "enumerate" p) [e] [] pos) (iNumT X.K 0 ta) := by
  refine ⟨fun pins s σ H R I h => ?_⟩
  refine Call_ (ld_blt I hg hm boot_enumerate (PyProof.Rows.callWith_type1 (thn (ha.run pos pins s σ H _ I h) fun us s1 ⟨vs, H1, I1, r1, a, xs, ex, hq, q⟩ => ?_) hs rfl))
  subst ex
  rw [Vals.ref1 r1]
  rcases I1.tuple hq with ⟨its, rv, pl, _⟩
  have la : a < s1.heap.objs.size := pl.lt
  exact num_begins (begins_tuple a its.toArray) pl fun h' he ho hk => num_pie I1 la he hk (At := fun h i => h.IsTupleIter s1.heap.objs.size a i) ⟨_, ho, rfl, rfl⟩ (turnT 0 a _ _) q
theorem pi_enumS {c : Int} {j : Nat} {kp cp : Pos} (h0 : 0 ≤ c) (h1 : c < 1000) (hg : Gl X "enumerate") (hm : X.mg "enumerate" = none) (ha : PA X [e] ta) (hs : starEach [e] X.env = (false, eval e X.env) :: starEach [] X.env := by rfl)
    (hall : (backToKw pos (keywordEach [⟨some "start", .Constant (.int c) j cp, kp⟩] X.env)).all (·.1.isSome) = true := by rfl) (hks : (backToKw pos (keywordEach [⟨some "start", .Constant (.int c) j cp, kp⟩] X.env)).filterMap (·.1) = [("start" : Str)] := by rfl)
    (hpl : ((backTo pos (starEach [e] X.env)).any (·.1) || (backToKw pos (keywordEach [⟨some "start", .Constant (.int c) j cp, kp⟩] X.env)).any (·.1.isNone)) = false := by rfl) :
    PI X (.Tuple elts kk tpos) (.Call (.Name "enumerate" p) [e] [⟨some "start", .Constant (.int c) j cp, kp⟩] pos) (iNumL X.K c ta) := by
  refine ⟨fun pins s σ H R I h => ?_⟩
  refine wpAny_Call_Name_kw (ld_blt I hg hm boot_enumerate ?_)
  refine PySem.W.callWith_of (P := fun _ => True) hpl (fun _ _ => ⟨_, .inr (.inl rfl), PySem.W.Looks.of_pure rfl⟩) (evalArgs_kw2 hall (thn (ha.run pos pins s σ H _ I h) fun us s1 ⟨vs, H1, I1, r1, a, xs, ex, hq, q⟩ => ?_) hs)
  refine thn ((pk_cons (X := X) (nm := some "start") (kpos := kp) (pe_int (i := c) (j := j) (pos := cp)) pk_nil).run pos pins s1 σ H1 (fun zs H2 => zs = [.int c] ∧ H2 = H1) I1 ⟨rfl, rfl⟩) fun ws s2 ⟨zs, H2, I2, rz, ez, eh⟩ => ⟨trivial, ?_⟩
  subst ex ez eh
  rw [hks, Vals.ref1 r1]
  obtain ⟨w1, rfl, t1, rfl⟩ := vals1 rz
  rcases I2.list hq with ⟨its, rv, pl, _⟩
  have la : a < s2.heap.objs.size := by
    rcases pl with ⟨o, n, ho, _⟩
    exact Heap.lt_size ho
  exact enum_begins_start (begins_list a its.toArray) pl.isList (by omega) (by omega) fun h' he ho _ hk => num_pie I2 la he hk (At := fun h i => h.IsListIter s2.heap.objs.size a i) ⟨_, ho, rfl, rfl⟩ (turnL c a _ _) q
end
end Yr
/-! the frame of my readings: G what is data, H the heap; L what a call may change -/
namespace Fw
open PySem PySem.Spec PyProof.Rows L2
structure Go (L : List Addr) (G H G1 H1 : Hp) : Prop where
  g : Same G G1
  h : Same G1 H1
  k : ∀ a o, a ∉ L → H a = some o → H1 a = some o
  n : ∀ a, H a ≠ none → G a = none → G1 a = none
  l : ∀ a, H a ≠ none → H1 a ≠ none
section
variable {L : List Addr} {G H G1 H1 G2 H2 : Hp} {p : Addr} {o : HO}
theorem ne_some {H : Hp} {p : Addr} {o : HO} (h : H p = some o) : H p ≠ none := by
  rw [h]
  exact fun z => nomatch z
theorem Go.refl (h : Same G H) : Go L G H G H := ⟨Same.refl G, h, fun _ _ _ e => e, fun _ _ e => e, fun _ e => e⟩
theorem Go.trans (a : Go L G H G1 H1) (b : Go L G1 H1 G2 H2) : Go L G H G2 H2 :=
  ⟨a.g.trans b.g, b.h, fun x o m e => b.k x o m (a.k x o m e), fun x e z => b.n x (a.l x e) (a.n x e z), fun x e => b.l x (a.l x e)⟩
theorem Go.wide (a : Go [] G H G1 H1) : Go L G H G1 H1 := ⟨a.g, a.h, fun x o _ e => a.k x o (by simp) e, a.n, a.l⟩
theorem Go.all (a : Go [] G H G1 H1) : Same H H1 := fun x o e => a.k x o (by simp) e
theorem Go.fresh (a : Go L G H G1 H1) (hp : H1 p = none) : H p = none := by
  cases q : H p with
  | none => rfl
  | some o => exact absurd hp (a.l p (ne_some q))
theorem Go.gnone (a : Go L G H G1 H1) (hp : H1 p = none) : G1 p = none := a.h.free hp
/-- a new object that is data -/
theorem Go.new (a : Go L G H G1 H1) (hp : H1 p = none) : Go L G H (upd G1 p o) (upd H1 p o) := by
  have gp := a.gnone hp
  refine ⟨fun x u e => ?_, fun x u e => ?_, fun x u m e => ?_, fun x e z => ?_, fun x e => ?_⟩
  · have q := a.g x u e
    rw [upd_ne (ne_of_none q gp)]; exact q
  · by_cases hx : x = p
    · subst hx; rw [upd_same] at e ⊢; exact e
    · rw [upd_ne hx] at e ⊢; exact a.h x u e
  · have q := a.k x u m e
    rw [upd_ne (ne_of_none q hp)]; exact q
  · have hx : x ≠ p := fun z2 => a.l x e (by rw [z2]; exact hp)
    rw [upd_ne hx]; exact a.n x e z
  · by_cases hx : x = p
    · subst hx; rw [upd_same]; exact fun z => nomatch z
    · rw [upd_ne hx]; exact a.l x e
/-- a new object of the call's own -/
theorem Go.tmp (a : Go L G H G1 H1) (hp : H1 p = none) : Go L G H G1 (upd H1 p o) := by
  have gp := a.gnone hp
  refine ⟨a.g, fun x u e => ?_, fun x u m e => ?_, a.n, fun x e => ?_⟩
  · rw [upd_ne (ne_of_none e gp)]; exact a.h x u e
  · have q := a.k x u m e
    rw [upd_ne (ne_of_none q hp)]; exact q
  · by_cases hx : x = p
    · subst hx; rw [upd_same]; exact fun z => nomatch z
    · rw [upd_ne hx]; exact a.l x e
/-- an object changes that is no data, and not what stood (or is let change) -/
theorem Go.mut (a : Go L G H G1 H1) (gp : G1 p = none) (hp : H p = none ∨ p ∈ L) : Go L G H G1 (upd H1 p o) := by
  refine ⟨a.g, fun x u e => ?_, fun x u m e => ?_, a.n, fun x e => ?_⟩
  · rw [upd_ne (ne_of_none e gp)]; exact a.h x u e
  · have hx : x ≠ p := fun z => by
      rcases hp with q | q
      · rw [z, q] at e; cases e
      · exact m (z ▸ q)
    rw [upd_ne hx]; exact a.k x u m e
  · by_cases hx : x = p
    · subst hx; rw [upd_same]; exact fun z => nomatch z
    · rw [upd_ne hx]; exact a.l x e
/-- an object of the call's own becomes data -/
theorem Go.frz (a : Go L G H G1 H1) (hp : H p = none) (e1 : H1 p = some o) (gp : G1 p = none) : Go L G H (upd G1 p o) H1 := by
  refine ⟨fun x u e => ?_, fun x u e => ?_, a.k, fun x e z => ?_, a.l⟩
  · have q := a.g x u e
    rw [upd_ne (ne_of_none q gp)]; exact q
  · by_cases hx : x = p
    · subst hx; rw [upd_same] at e; rw [← e]; exact e1
    · rw [upd_ne hx] at e; exact a.h x u e
  · have hx : x ≠ p := fun z2 => e (by rw [z2]; exact hp)
    rw [upd_ne hx]; exact a.n x e z
/-- a call from (G1, H1), told from there -/
theorem Go.call (a : Go L G H G1 H1) (b : Go [] G1 H1 G2 H2) : Go L G H G2 H2 := a.trans b.wide
theorem Go.to (a : Go [] G1 H1 G2 H2) {q : Addr} {u : HO} (e : H1 q = some u) : H2 q = some u := a.k q u (by simp) e
theorem Go.none (a : Go L G1 H1 G2 H2) {q : Addr} {u : HO} (e : H1 q = some u) (z : G1 q = none) : G2 q = none := a.n q (ne_some e) z
end
/-! ### data and what stands for it -/
abbrev R (α : Type) := Hp → V → α → Prop
class Mo {α : Type} (r : R α) : Prop where
  up : ∀ {H H1 v x}, Same H H1 → r H v x → r H1 v x
def rS : R Str := fun _ v x => v = .str x
def rI : R Int := fun _ v x => v = .int x
def rB : R Bool := fun _ v x => v = .bl x
def rT (K : PySem.W.Frag) {α : Type} (r : R α) : R (List α) := fun H v xs => ∃ a ts, v = .ref a ∧ SqT K H a ts ∧ Paired (r H) ts xs
def rL (K : PySem.W.Frag) {α : Type} (r : R α) : R (List α) := fun H v xs => ∃ a ts, v = .ref a ∧ SqL K H a ts ∧ Paired (r H) ts xs
def rQ (K : PySem.W.Frag) {α : Type} (r : R α) : R (List α) := fun H v xs => rL K r H v xs ∨ rT K r H v xs
instance : Mo rS := ⟨fun _ h => h⟩
instance : Mo rI := ⟨fun _ h => h⟩
instance : Mo rB := ⟨fun _ h => h⟩
theorem seqT {K : PySem.W.Frag} {H H1 : Hp} {a : Addr} {xs : List V} (e : Same H H1) (h : SqT K H a xs) : SqT K H1 a xs := by
  rcases h with (h | ⟨o, h⟩) | h
  · exact .inl (.inl (e _ _ h))
  · exact .inl (.inr ⟨o, e _ _ h⟩)
  · exact .inr h
instance {K : PySem.W.Frag} {α : Type} {r : R α} [Mo r] : Mo (rT K r) := ⟨fun e ⟨a, ts, h1, h2, h3⟩ => ⟨a, ts, h1, seqT e h2, L2.Paired.mapP h3 fun _ _ z => Mo.up e z⟩⟩
instance {K : PySem.W.Frag} {α : Type} {r : R α} [Mo r] : Mo (rL K r) := ⟨fun e ⟨a, ts, h1, h2, h3⟩ => ⟨a, ts, h1, e.seq h2, L2.Paired.mapP h3 fun _ _ z => Mo.up e z⟩⟩
instance {K : PySem.W.Frag} {α : Type} {r : R α} [Mo r] : Mo (rQ K r) := ⟨fun e h => h.imp (Mo.up e) (Mo.up e)⟩
section
variable {α : Type} {F : V → α → Prop}
theorem pLen {ts : List V} {xs : List α} (h : Paired F ts xs) : ts.length = xs.length := Paired.length h
theorem pAt : ∀ {ts : List V} {xs : List α} {i : Nat} {t : V}, Paired F ts xs → ts[i]? = some t → ∃ x, xs[i]? = some x ∧ F t x
  | _, _, _, _, .nil, e => by simp at e
  | _, _, 0, _, .cons r _, e => ⟨_, rfl, by simp at e; rw [← e]; exact r⟩
  | _, _, i + 1, t, .cons _ q, e => by
    rcases pAt (i := i) (t := t) q (by simpa using e) with ⟨x, h1, h2⟩
    exact ⟨x, by simpa using h1, h2⟩
theorem pGet : ∀ {ts : List V} {xs : List α} {i : Nat} {x : α}, Paired F ts xs → xs[i]? = some x → ∃ t, ts[i]? = some t ∧ F t x
  | _, _, _, _, .nil, e => by simp at e
  | _, _, 0, _, .cons r _, e => ⟨_, rfl, by simp at e; rw [← e]; exact r⟩
  | _, _, i + 1, t, .cons _ q, e => by
    rcases pGet (i := i) (x := t) q (by simpa using e) with ⟨x, h1, h2⟩
    exact ⟨x, by simpa using h1, h2⟩
theorem pSnoc : ∀ {ts : List V} {xs : List α} {t : V} {x : α}, Paired F ts xs → F t x → Paired F (ts ++ [t]) (xs ++ [x])
  | _, _, _, _, .nil, h => .cons h .nil
  | _, _, _, _, .cons r q, h => .cons r (pSnoc q h)
theorem pApp : ∀ {ts us : List V} {xs ys : List α}, Paired F ts xs → Paired F us ys → Paired F (ts ++ us) (xs ++ ys)
  | _, _, _, _, .nil, h => h
  | _, _, _, _, .cons r q, h => .cons r (pApp q h)
end
theorem pS {H : Hp} : ∀ {ts : List V} {xs : List Str}, Paired (rS H) ts xs → ts = xs.map V.str
  | _, _, .nil => rfl
  | _, _, .cons r q => by
    have e : _ = V.str _ := r
    rw [e, pS q]; rfl
theorem sP {H : Hp} : ∀ (xs : List Str), Paired (rS H) (xs.map V.str) xs
  | [] => .nil
  | x :: xs => .cons rfl (sP xs)
theorem pI {H : Hp} : ∀ {ts : List V} {xs : List Int}, Paired (rI H) ts xs → ts = xs.map V.int
  | _, _, .nil => rfl
  | _, _, .cons r q => by
    have e : _ = V.int _ := r
    rw [e, pI q]; rfl
theorem iP {H : Hp} : ∀ (xs : List Int), Paired (rI H) (xs.map V.int) xs
  | [] => .nil
  | x :: xs => .cons rfl (iP xs)
theorem rTs {K : PySem.W.Frag} {H : Hp} {v : V} {xs : List Str} : rT K rS H v xs ↔ ∃ a, v = .ref a ∧ SqT K H a (xs.map V.str) :=
  ⟨fun ⟨a, ts, h1, h2, h3⟩ => ⟨a, h1, pS h3 ▸ h2⟩, fun ⟨a, h1, h2⟩ => ⟨a, _, h1, h2, sP xs⟩⟩
theorem rLs {K : PySem.W.Frag} {H : Hp} {v : V} {xs : List Str} : rL K rS H v xs ↔ ∃ a, v = .ref a ∧ SqL K H a (xs.map V.str) :=
  ⟨fun ⟨a, ts, h1, h2, h3⟩ => ⟨a, h1, pS h3 ▸ h2⟩, fun ⟨a, h1, h2⟩ => ⟨a, _, h1, h2, sP xs⟩⟩
/-! ### promises -/
def Ret {α : Type} (G H : Hp) (Q : VK) (r : R α) (x : α) : Prop := ∀ v G1 H1, Go [] G H G1 H1 → r G1 v x → Q v H1
abbrev Sp1 (p : V → Hp → VK → XK → Prop) : Sp := fun vs H Q E => ∃ x, vs = [x] ∧ p x H Q E
abbrev Sp2 (p : V → V → Hp → VK → XK → Prop) : Sp := fun vs H Q E => ∃ x y, vs = [x, y] ∧ p x y H Q E
abbrev Sp3 (p : V → V → V → Hp → VK → XK → Prop) : Sp := fun vs H Q E => ∃ x y z, vs = [x, y, z] ∧ p x y z H Q E
abbrev Sp4 (p : V → V → V → V → Hp → VK → XK → Prop) : Sp := fun vs H Q E => ∃ x y z t, vs = [x, y, z, t] ∧ p x y z t H Q E
abbrev Sp5 (p : V → V → V → V → V → Hp → VK → XK → Prop) : Sp := fun vs H Q E => ∃ x y z t u, vs = [x, y, z, t, u] ∧ p x y z t u H Q E
/-- a def of the text, where its name leads, how its arguments bind -/
def FunAt (K : PySem.W.Frag) (mg : Str → Option Value) (x : Str) (st : Stmt) (ps : List Str) : Prop := ∃ f fd, Fun K x x st f fd ∧ mg x = some (.ref f) ∧ Binds K fd ps []
/-- a def that keeps its promise, as its callers want it -/
def Cal (P : Program) (w : World) (K : PySem.W.Frag) (mg : Str → Option Value) (base : Heap) (CX : CXT) (x : Str) (k : Nat) (ps : List Str) (dvs : List V) (sp : Sp) : Prop :=
  ∃ f fd ds, FnOk P w K mg base CX k f fd ps sp ∧ mg x = some (.ref f) ∧ PySem.W.keepIn K (.ref f) = true ∧ Binds K fd ps ds ∧ Vals dvs ds
end Fw
/-! webs as rows of names: what is read, what is told -/
namespace Mw
open PySem PySem.Spec PyProof.Rows L2 TL
abbrev Row := List Str
abbrev Rows := List Row
def letters : Str := "abcdefghijklmnopqrstuvwxyz"
def isName (z : Str) : Bool := decide (1 ≤ z.length) && decide (z.length ≤ 6) && (tl z).all fun c => decide (c ∈ tl letters)
theorem letter_no {z : Str} (h : isName z = true) {c : Nat} (hc : c ∉ tl letters) : c ∉ tl z := fun m => by
  simp only [isName, Bool.and_eq_true, List.all_eq_true, decide_eq_true_eq] at h
  exact hc (h.2 c m)
theorem name_len {z : Str} (h : isName z = true) : 1 ≤ z.length ∧ z.length ≤ 6 := by
  simp only [isName, Bool.and_eq_true, decide_eq_true_eq] at h
  exact h.1
def sp1 : Str := " "
def nl1 : Str := "\n"
def rowText (r : Row) : Str := ("meet " : Str) ++ Txt.join sp1 r
def webText (js : Rows) : Str := Txt.join nl1 (("web" : Str) :: js.map rowText)
theorem row_join (r : Row) (h : r ≠ []) : rowText r = Txt.join sp1 (("meet" : Str) :: r) := by
  cases r with
  | nil => exact absurd rfl h
  | cons x r =>
    unfold rowText
    rw [join_eq, join_eq]
    show ("meet " : Str) ++ Str.join sp1 (x :: r) = ("meet" : Str) ++ sp1 ++ Str.join sp1 (x :: r)
    have e : ("meet " : Str) = ("meet" : Str) ++ sp1 := by decide +kernel
    rw [← e]
structure RowOk (r : Row) : Prop where
  len : r.length = 3
  names : ∀ x ∈ r, isName x = true
theorem row_split {r : Row} (h : RowOk r) : Txt.split (rowText r) sp1 = ("meet" : Str) :: r := by
  have hn : r ≠ [] := fun z => by
    have := h.len
    rw [z] at this; cases this
  rw [row_join r hn]
  refine split_join (s := 32) (S := []) (by decide +kernel) (by decide +kernel) (by simp) fun p hp => ?_
  rcases List.mem_cons.mp hp with rfl | hp
  · decide +kernel
  · exact letter_no (h.names p hp) (by decide +kernel)
theorem tl_row {r : Row} (h : RowOk r) : 10 ∉ tl (rowText r) := by
  have hn : r ≠ [] := fun z => by
    have := h.len
    rw [z] at this; cases this
  rw [row_join r hn, join_eq, tl_join]
  have main : ∀ (l : List Str), (∀ x ∈ l, (10 : Nat) ∉ tl x) → (10 : Nat) ∉ joinL (tl sp1) (l.map tl) := by
    intro l
    induction l with
    | nil => intro _ m; cases m
    | cons x l ih =>
      intro hl
      have hx := hl x List.mem_cons_self
      have hr := ih fun y hy => hl y (List.mem_cons_of_mem _ hy)
      cases l with
      | nil => simpa [joinL] using hx
      | cons y l =>
        show (10 : Nat) ∉ tl x ++ (tl sp1 ++ joinL (tl sp1) ((y :: l).map tl))
        intro m
        rcases List.mem_append.mp m with m | m
        · exact hx m
        · rcases List.mem_append.mp m with m | m
          · revert m; decide +kernel
          · exact hr m
  refine main _ fun x hx => ?_
  rcases List.mem_cons.mp hx with rfl | hx
  · decide +kernel
  · exact letter_no (h.names x hx) (by decide +kernel)
theorem web_split {js : Rows} (h : ∀ r ∈ js, RowOk r) : Txt.split (webText js) nl1 = ("web" : Str) :: js.map rowText := by
  refine split_join (s := 10) (S := []) (by decide +kernel) (by decide +kernel) (by simp) fun p hp => ?_
  rcases List.mem_cons.mp hp with rfl | hp
  · decide +kernel
  · rcases List.mem_map.mp hp with ⟨r, hr, rfl⟩
    exact tl_row (h r hr)
theorem len_app (x y : Str) : (x ++ y).length = x.length + y.length := by
  rw [len_tl, len_tl, len_tl, tl_append, List.length_append]
theorem sum_le (m : Nat) : ∀ (l : List Nat), (∀ x ∈ l, x ≤ m) → l.sum ≤ l.length * m
  | [], _ => by simp
  | x :: l, h => by
    have h1 := h x List.mem_cons_self
    have h2 := sum_le m l fun y hy => h y (List.mem_cons_of_mem _ hy)
    rw [List.sum_cons, List.length_cons, Nat.succ_mul]
    omega
theorem join_len (y : Str) (parts : List Str) (m : Nat) (h : ∀ p ∈ parts, p.length ≤ m) : (Txt.join y parts).length ≤ parts.length * (m + y.length) := by
  rw [join_eq]
  have h1 := StrLaws.join_length_le y parts
  have h2 := sum_le m (parts.map (·.length)) fun x hx => by
    rcases List.mem_map.mp hx with ⟨p, hp, rfl⟩
    exact h p hp
  rw [List.length_map] at h2
  rw [Nat.mul_add]
  omega
theorem row_len {r : Row} (h : RowOk r) : (rowText r).length ≤ 28 := by
  unfold rowText
  rw [len_app]
  have h1 := join_len sp1 r 6 fun p hp => (name_len (h.names p hp)).2
  have h2 : ("meet " : Str).length = 5 := by decide +kernel
  have h3 : sp1.length = 1 := by decide +kernel
  rw [h.len, h3] at h1
  omega
theorem web_len {js : Rows} (h : ∀ r ∈ js, RowOk r) : (webText js).length ≤ (js.length + 1) * 29 := by
  have h1 := join_len nl1 (("web" : Str) :: js.map rowText) 28 fun p hp => by
    rcases List.mem_cons.mp hp with rfl | hp
    · decide +kernel
    · rcases List.mem_map.mp hp with ⟨r, hr, rfl⟩
      exact row_len (h r hr)
  have h3 : nl1.length = 1 := by decide +kernel
  rw [h3, List.length_cons, List.length_map] at h1
  exact h1
/-- rows that stand as a web's, but for hanging together -/
structure Good (js : Rows) : Prop where
  rows : ∀ r ∈ js, RowOk r
  some : js ≠ []
  most : js.length ≤ 12
  twice : ∀ x, js.flatten.count x ≤ 2
/-- two junctions with a road in common that is not c -/
def Adj (js : Rows) (c : Str) (i j : Nat) : Prop := ∃ r q x, js[i]? = some r ∧ js[j]? = some q ∧ x ∈ r ∧ x ∈ q ∧ x ≠ c
inductive Reach (js : Rows) (c : Str) (i : Nat) : Nat → Prop
  | here : Reach js c i i
  | step {j k : Nat} : Reach js c i j → Adj js c j k → Reach js c i k
def Whole (js : Rows) : Prop := ∀ i, i < js.length → Reach js "" 0 i
def words (js : Rows) : List Str := js.flatten
/-- the order of texts -/
def leS (a b : Str) : Bool := !(ltCps (tl b) (tl a))
def roadsOf (js : Rows) : List Str := (Ys.putAll (words js)).mergeSort leS
def innerOf (js : Rows) : List Str := (roadsOf js).filter fun x => decide ((words js).count x = 2)
def endsOf (js : Rows) : List Str := (roadsOf js).filter fun x => decide ((words js).count x = 1)
def roundsOf (js : Rows) : Int := ((innerOf js).length : Int) - (js.length : Int) + 1
end Mw
/-! reaching; found numbers as a dict -/
namespace Mw
open PySem PySem.Spec PyProof.Rows L2 TL
theorem nodup_len {fs : List Nat} {k : Nat} (h : fs.Nodup) (hk : ∀ n ∈ fs, n < k) : fs.length ≤ k := by
  have e := List.Nodup.length_le_of_subset h (l₂ := List.range k) fun n hn => List.mem_range.mpr (hk n hn)
  rw [List.length_range] at e
  exact e
abbrev numK (fs : List Nat) : List (Key × V) := fs.map fun (n : Nat) => ((Sum.inl (n : Int) : Key), V.bl true)
theorem valV_fs {fs : List Nat} {m : Nat} : (valV (numK fs) (Sum.inl (m : Int))).isSome ↔ m ∈ fs := by
  induction fs with
  | nil => simp [numK, valV_nil]
  | cons n fs ih =>
    show (valV ((((Sum.inl (n : Int)) : Key), V.bl true) :: numK fs) (Sum.inl (m : Int))).isSome ↔ m ∈ n :: fs
    by_cases e : n = m
    · subst e
      rw [valV_pos rfl]
      simp
    · rw [valV_neg (by intro z; exact e (by have := Sum.inl.inj z; omega)), ih, List.mem_cons]
      exact ⟨.inr, fun h => h.resolve_left fun z => e z.symm⟩
theorem valV_no {fs : List Nat} {m : Nat} (h : m ∉ fs) : valV (numK fs) (Sum.inl (m : Int)) = none := by
  cases z : valV (numK fs) (Sum.inl (m : Int)) with
  | none => rfl
  | some x => exact absurd (valV_fs.mp (by rw [z]; rfl)) h
theorem numK_put {fs : List Nat} {m : Nat} (h : m ∉ fs) : putK (numK fs) (Sum.inl (m : Int)) (.bl true) = numK (fs ++ [m]) := by
  rw [putK_new _ (valV_no h)]
  simp [numK]
theorem reach_closed {js : Rows} {c : Str} {i : Nat} {fs : List Nat} (hi : i ∈ fs) (h : ∀ n ∈ fs, ∀ m, Adj js c n m → m ∈ fs) {n : Nat} (r : Reach js c i n) : n ∈ fs := by
  induction r with
  | here => exact hi
  | step _ a ih => exact h _ ih _ a
theorem Adj.lt {js : Rows} {c : Str} {n m : Nat} (h : Adj js c n m) : m < js.length := by
  obtain ⟨r, q, x, _, h2, _⟩ := h
  exact (List.getElem?_eq_some_iff.mp h2).1
def opens (r : Row) (c : Str) : List Str := r.filter fun x => !decide (x = c)
theorem adj_iff {js : Rows} {c : Str} {n m : Nat} {r q : Row} (hn : js[n]? = some r) (hm : js[m]? = some q) : (q.map fun z => decide (z ∈ opens r c)).any id = true ↔ Adj js c n m := by
  rw [List.any_map, List.any_eq_true]
  constructor
  · rintro ⟨x, h1, h2⟩
    have h3 := of_decide_eq_true h2
    simp only [opens, List.mem_filter] at h3
    exact ⟨r, q, x, hn, hm, h3.1, h1, by simpa using h3.2⟩
  · rintro ⟨r', q', x, e1, e2, h1, h2, h3⟩
    obtain rfl := Option.some.inj (hn.symm.trans e1)
    obtain rfl := Option.some.inj (hm.symm.trans e2)
    refine ⟨x, h2, decide_eq_true ?_⟩
    simp only [opens, List.mem_filter]
    exact ⟨h1, by simpa using h3⟩
theorem inV_str (x : Str) (xs : List Str) : inV (.str x) (xs.map V.str) = decide (x ∈ xs) := by
  induction xs with
  | nil => rfl
  | cons y xs ih =>
    unfold inV at ih ⊢
    rw [List.map_cons, List.any_cons, ih]
    by_cases e : y = x
    · subst e; simp [eqV]
    · have e2 : ¬ x = y := fun z => e z.symm
      simp [eqV, e, e2]
/-- found numbers and waiting ones: fs at d, ws at l; no gap but at what ex says -/
structure Rv (dd : List Nat → HO) (G H : Hp) (js : Rows) (c : Str) (i : Nat) (d l : Addr) (ex : Nat → Nat → Prop) (fs ws : List Nat) (G1 H1 : Hp) : Prop where
  go : Fw.Go [] G H G1 H1
  hd : H1 d = some (dd fs)
  gd : G1 d = none
  hl : H1 l = some (.lst (ws.map fun (n : Nat) => V.int n))
  gl : G1 l = none
  nd : fs.Nodup
  ok : ∀ n ∈ fs, n < js.length ∧ Reach js c i n
  st : i ∈ fs
  sub : ∀ n ∈ ws, n ∈ fs
  bd : ws.length ≤ fs.length
  cl : ∀ n ∈ fs, n ∉ ws → ∀ m, Adj js c n m → m ∈ fs ∨ ex n m
theorem Rv.len {dd : List Nat → HO} {G H : Hp} {js : Rows} {c : Str} {i : Nat} {d l : Addr} {ex : Nat → Nat → Prop} {fs ws : List Nat} {G1 H1 : Hp} (h : Rv dd G H js c i d l ex fs ws G1 H1) : fs.length ≤ js.length :=
  nodup_len h.nd fun n hn => (h.ok n hn).1
theorem Rv.less {dd : List Nat → HO} {G H : Hp} {js : Rows} {c : Str} {i : Nat} {d l : Addr} {ex : Nat → Nat → Prop} {fs ws : List Nat} {G1 H1 : Hp} (h : Rv dd G H js c i d l ex fs ws G1 H1) {m : Nat} (hm : m < js.length) (hn : m ∉ fs) : fs.length < js.length := by
  have e := nodup_len (fs := m :: fs) (k := js.length) (List.nodup_cons.mpr ⟨hn, h.nd⟩) fun n hn => by
    rcases List.mem_cons.mp hn with rfl | hn
    · exact hm
    · exact (h.ok n hn).1
  rw [List.length_cons] at e
  omega
/-- one more is found -/
theorem Rv.find {dd : List Nat → HO} {G H : Hp} {js : Rows} {c : Str} {i n : Nat} {d l : Addr} {fs ws : List Nat} {G1 H1 : Hp} {m : Nat} (h : Rv dd G H js c i d l (fun a b => a = n ∧ m ≤ b) fs ws G1 H1) (hdl : d ≠ l) (hd0 : H d = none) (hl0 : H l = none) (nf : n ∈ fs) (hm : m < js.length) (hn : m ∉ fs) (a : Adj js c n m) :
    Rv dd G H js c i d l (fun a b => a = n ∧ m + 1 ≤ b) (fs ++ [m]) (ws ++ [m]) G1 (upd (upd H1 d (dd (fs ++ [m]))) l (.lst ((ws.map fun (n : Nat) => V.int n) ++ [.int (m : Int)]))) := by
  refine ⟨(h.go.mut h.gd (.inl hd0)).mut h.gl (.inl hl0), (upd_ne hdl).trans upd_same, h.gd, by rw [List.map_append]; exact upd_same, h.gl, ?_, ?_, List.mem_append_left _ h.st, ?_, (by have := h.bd; rw [List.length_append, List.length_append]; exact Nat.add_le_add_right this 1), ?_⟩
  · rw [List.nodup_append]
    exact ⟨h.nd, by simp, fun x hx y hy z => hn (by rw [List.mem_singleton] at hy; rw [← hy, ← z]; exact hx)⟩
  · intro k hk
    rcases List.mem_append.mp hk with hk | hk
    · exact h.ok k hk
    · rw [List.mem_singleton] at hk
      subst hk
      exact ⟨hm, .step (h.ok n nf).2 a⟩
  · intro k hk
    rcases List.mem_append.mp hk with hk | hk
    · exact List.mem_append_left _ (h.sub k hk)
    · exact List.mem_append_right _ hk
  · intro k hk hw b hb
    rcases List.mem_append.mp hk with hk | hk
    · rcases h.cl k hk (fun z => hw (List.mem_append_left _ z)) b hb with z | ⟨z1, z2⟩
      · exact .inl (List.mem_append_left _ z)
      · by_cases e : b = m
        · subst e
          exact .inl (List.mem_append_right _ (List.mem_singleton.mpr rfl))
        · exact .inr ⟨z1, by omega⟩
    · exact absurd (List.mem_append_right _ hk) hw
theorem Rv.skip {dd : List Nat → HO} {G H : Hp} {js : Rows} {c : Str} {i n : Nat} {d l : Addr} {fs ws : List Nat} {G1 H1 : Hp} {m : Nat} (h : Rv dd G H js c i d l (fun a b => a = n ∧ m ≤ b) fs ws G1 H1) (hn : m ∈ fs ∨ ¬ Adj js c n m) : Rv dd G H js c i d l (fun a b => a = n ∧ m + 1 ≤ b) fs ws G1 H1 :=
  ⟨h.go, h.hd, h.gd, h.hl, h.gl, h.nd, h.ok, h.st, h.sub, h.bd, fun k hk hw b hb => by
    rcases h.cl k hk hw b hb with z | ⟨z1, z2⟩
    · exact .inl z
    · by_cases e : b = m
      · subst e z1
        rcases hn with q | q
        · exact .inl q
        · exact absurd hb q
      · exact .inr ⟨z1, by omega⟩⟩
theorem Rv.grow {dd : List Nat → HO} {G H : Hp} {js : Rows} {c : Str} {i : Nat} {d l : Addr} {ex : Nat → Nat → Prop} {fs ws : List Nat} {G1 H1 H2 : Hp} (h : Rv dd G H js c i d l ex fs ws G1 H1) (e : Same H1 H2) : Rv dd G H js c i d l ex fs ws G1 H2 :=
  ⟨⟨h.go.g, h.go.h.trans e, fun x o m z => e _ _ (h.go.k x o m z), h.go.n, fun x z => by
    have q := h.go.l x z
    cases z2 : H1 x with
    | none => exact absurd z2 q
    | some o => rw [e _ _ z2]; exact fun z => nomatch z⟩, e _ _ h.hd, h.gd, e _ _ h.hl, h.gl, h.nd, h.ok, h.st, h.sub, h.bd, h.cl⟩
theorem Rv.pop {dd : List Nat → HO} {G H : Hp} {js : Rows} {c : Str} {i n : Nat} {d l : Addr} {fs ws : List Nat} {G1 H1 : Hp} (h : Rv dd G H js c i d l (fun _ _ => False) fs (ws ++ [n]) G1 H1) (hdl : d ≠ l) (hl0 : H l = none) :
    Rv dd G H js c i d l (fun a b => a = n ∧ 0 ≤ b) fs ws G1 (upd H1 l (.lst (ws.map fun (n : Nat) => V.int n))) :=
  ⟨h.go.mut h.gl (.inl hl0), (upd_ne hdl).trans h.hd, h.gd, upd_same, h.gl, h.nd, h.ok, h.st, fun k hk => h.sub k (List.mem_append_left _ hk), (by have := h.bd; rw [List.length_append] at this; omega), fun k hk hw b hb => by
    by_cases e : k = n
    · exact .inr ⟨e, Nat.zero_le _⟩
    · rcases h.cl k hk (fun z => by
        rcases List.mem_append.mp z with z | z
        · exact hw z
        · exact e (List.mem_singleton.mp z)) b hb with z | z
      · exact .inl z
      · exact z.elim⟩
theorem Rv.end {dd : List Nat → HO} {G H : Hp} {js : Rows} {c : Str} {i n : Nat} {d l : Addr} {fs ws : List Nat} {G1 H1 : Hp} (h : Rv dd G H js c i d l (fun a b => a = n ∧ js.length ≤ b) fs ws G1 H1) : Rv dd G H js c i d l (fun _ _ => False) fs ws G1 H1 :=
  ⟨h.go, h.hd, h.gd, h.hl, h.gl, h.nd, h.ok, h.st, h.sub, h.bd, fun k hk hw b hb => by
    rcases h.cl k hk hw b hb with z | ⟨_, z⟩
    · exact .inl z
    · have := hb.lt
      omega⟩
abbrev dkN : List Nat → HO := fun fs => .dK (numK fs)
def Ww (ac : Addr) (G H : Hp) (js : Rows) (c : Str) (i : Nat) (d l a : Addr) : Nat → L2.St → Hp → Prop := fun m σ H1 => ∃ fs ws G1, m = 2 * (js.length - fs.length) + ws.length ∧
  (∃ x5 x6 x7 x8, σ = [some (.ref a), some (.int (i : Nat)), some (.ref ac), some (.ref d), some (.ref l), x5, x6, x7, x8, none]) ∧ Rv dkN G H js c i d l (fun _ _ => False) fs ws G1 H1
def Wf (ac : Addr) (G H : Hp) (js : Rows) (c : Str) (i : Nat) (d l a D : Addr) (n : Nat) (r : Row) (m : Nat) : Nat → L2.St → Hp → Prop := fun j σ H1 =>
  (∃ x7 x8, σ = [some (.ref a), some (.int (i : Nat)), some (.ref ac), some (.ref d), some (.ref l), some (.int (n : Nat)), some (.ref D), x7, x8, none]) ∧
  ∃ fs ws G1, Rv dkN G H js c i d l (fun a b => a = n ∧ j ≤ b) fs ws G1 H1 ∧ H1 D = some (.lst ((opens r c).map V.str)) ∧ n ∈ fs ∧ 2 * (js.length - fs.length) + ws.length < m
end Mw
/-! readings of comprehensions and calls, once for all -/
namespace Fw
open PySem PySem.Spec PyProof.Rows L2 Evl
theorem ex_same {H H1 : Hp} (h : Ex H H1) : Same H H1 := h
section
variable {K : PySem.W.Frag} {H : Hp} {Q : VK}
theorem isi_ty {x : V} {t : String} {u : String} {b : Bool} (ty : TyX K H x (.type t)) (e : kitB t u = some b) (q : Q (.bl b) H) : rIsi K [x, .ty u] H Q :=
  ⟨x, .ty u, .type t, .type u, b, rfl, .ty u, ty, kit_ty e, q⟩
theorem isi_str {z : Str} (q : Q (.bl true) H) : rIsi K [.str z, .ty "str"] H Q := isi_ty (t := "str") (.base (.str z)) (by decide +kernel) q
end
/-! ### comprehensions over what is walked without new objects; and over pairs -/
section
variable {σ : L2.St} {H0 : Hp} {te : TE} {tt : TT} {vs : List Nat} {J : It} {n : Nat} {Gd : Hp → Prop} {Qd : Hp → Prop} {D : Addr} {f : Nat → Bool} {v : Nat → V}
theorem cw_up {i : Nat} {H H' : Hp} (p : Cw H0 f v D i H) (e : Ex H H') : Cw H0 f v D i H' := ⟨p.1, p.2.1.trans e, e D _ p.2.2⟩
theorem lc_flat {j : Nat} {item : Nat → V → Prop} (wk : Walk J n Gd (fun i H x H' => H' = H ∧ item i x)) (hG : ∀ H', Same H0 H' → Gd H') (hD : H0 D = none) (f : Nat → Bool) (v : Nat → V) (hn : n ≤ 40000)
    (hw : ∀ x, wipe ((wipe σ vs).set j (some x)) vs = wipe σ vs) (turn : ∀ i x, i < n → item i x → EvT tt ((wipe σ vs).set j (some x)) H0 (f i) ∧ (f i = true → Ev te ((wipe σ vs).set j (some x)) H0 (v i)))
    (done : ∀ H', Same H0 H' → H' D = some (.lst (given n f v)) → Qd H') :
    ∃ W : Nat → Nat → Hp → Prop, (∃ m, W 0 m (upd H0 D (.lst []))) ∧ ∀ i m H, W i m H →
      (J.stop i H ∧ Qd H) ∨ (J.go i H ∧ ∃ Nx : Hp → Prop, (∀ H', Nx H' → ∃ m', m' < m ∧ W (i + 1) m' H') ∧ ∀ x H', J.yld i H x H' → gName j x (wipe σ vs) H' fun σ2 H2 => wipe σ2 vs = wipe σ vs ∧ tt σ2 H2 fun b H3 =>
        if b = true then te σ2 H3 fun y H4 => ∃ acc, H4 D = some (.lst acc) ∧ acc.length < sizeLine ∧ Nx (upd H4 D (.lst (acc ++ [y]))) else Nx H3) :=
  lc_it wk (Cw H0 f v D) ⟨hD, Ex.new hD, upd_same⟩ (fun i H' _ p => hG H' p.2.1) (fun i x H H' hi p y => by
    rcases y with ⟨rfl, hy⟩
    have t := turn i x hi hy
    exact ⟨hw x, cw_turn p (by omega) t.1 t.2⟩) (fun H' p => done H' p.2.1 p.2.2)
theorem lc_pair {K : PySem.W.Frag} {j1 j2 : Nat} {xs ys : Nat → Option V} (wk : Walk J n Gd (YPair xs ys)) (hG : ∀ H', Same H0 H' → Gd H') (hD : H0 D = none) (f : Nat → Bool) (v : Nat → V) (hn : n ≤ 40000)
    (hw : ∀ x y, wipe (((wipe σ vs).set j1 (some x)).set j2 (some y)) vs = wipe σ vs) (turn : ∀ i x y, i < n → xs i = some x → ys i = some y → EvT tt (((wipe σ vs).set j1 (some x)).set j2 (some y)) H0 (f i) ∧ (f i = true → Ev te (((wipe σ vs).set j1 (some x)).set j2 (some y)) H0 (v i)))
    (done : ∀ H', Same H0 H' → H' D = some (.lst (given n f v)) → Qd H') :
    ∃ W : Nat → Nat → Hp → Prop, (∃ m, W 0 m (upd H0 D (.lst []))) ∧ ∀ i m H, W i m H →
      (J.stop i H ∧ Qd H) ∨ (J.go i H ∧ ∃ Nx : Hp → Prop, (∀ H', Nx H' → ∃ m', m' < m ∧ W (i + 1) m' H') ∧ ∀ x H', J.yld i H x H' → gTup K 2 (gCons (gName j1) (gCons (gName j2) gNil)) x (wipe σ vs) H' fun σ2 H2 => wipe σ2 vs = wipe σ vs ∧ tt σ2 H2 fun b H3 =>
        if b = true then te σ2 H3 fun y H4 => ∃ acc, H4 D = some (.lst acc) ∧ acc.length < sizeLine ∧ Nx (upd H4 D (.lst (acc ++ [y]))) else Nx H3) :=
  lc_it wk (Cw H0 f v D) ⟨hD, Ex.new hD, upd_same⟩ (fun i H' _ p => hG H' p.2.1) (fun i x H H' hi p y => by
    rcases y with ⟨T, a, b, rfl, hT, rfl, h1, h2⟩
    have t := turn i a b hi h1 h2
    exact ⟨T, [a, b], rfl, .inl (.inl upd_same), rfl, a, [b], rfl, b, [], rfl, rfl, hw a b, cw_turn (cw_up p (Ex.new hT)) (by omega) t.1 t.2⟩) (fun H' p => done H' p.2.1 p.2.2)
end
/-! ### what is given, as lists -/
theorem given_map {α : Type} (xs : List α) (d : α) (p : α → Bool) (g : α → V) : given xs.length (fun i => p (xs.getD i d)) (fun i => g (xs.getD i d)) = (xs.filter p).map g := by
  unfold given
  have e : (List.range xs.length).map (fun i => xs.getD i d) = xs := by
    apply List.ext_getElem
    · simp
    · intro i h1 h2
      simp [List.getD_eq_getElem?_getD, List.getElem?_eq_getElem h2]
  conv => rhs; rw [← e]
  rw [List.filter_map, List.map_map]
  rfl
theorem given_all {α : Type} (xs : List α) (d : α) (g : α → V) : given xs.length (fun _ => true) (fun i => g (xs.getD i d)) = xs.map g := by
  have h := given_map xs d (fun _ => true) g
  rw [List.filter_eq_self.mpr (fun _ _ => rfl)] at h
  exact h
theorem getD_of {α : Type} {xs : List α} {d : α} {i : Nat} {x : α} (h : xs[i]? = some x) : xs.getD i d = x := by
  rw [List.getD_eq_getElem?_getD, h]; rfl
theorem at_of {α : Type} {xs : List α} {d : α} {i : Nat} (h : i < xs.length) : xs[i]? = some (xs.getD i d) := by
  rw [List.getD_eq_getElem?_getD, List.getElem?_eq_getElem h]; rfl
theorem map_at {α β : Type} {xs : List α} {f : α → β} {i : Nat} {y : β} (h : (xs.map f)[i]? = some y) : ∃ x, xs[i]? = some x ∧ f x = y := by
  rw [List.getElem?_map] at h
  cases e : xs[i]? with
  | none => rw [e] at h; cases h
  | some x => rw [e] at h; exact ⟨x, rfl, Option.some.inj h⟩
end Fw
/-! the order of texts; what is sorted is one -/
namespace Mw
open PySem PySem.Spec PyProof.Rows L2 TL
theorem leS_iff {a b : Str} : leS a b = true ↔ tl a ≤ tl b := by
  unfold leS
  rw [ltCps_eq, Bool.not_eq_true', decide_eq_false_iff_not, List.not_lt]
theorem tl_inj {a b : Str} (h : tl a = tl b) : a = b := by
  cases a with
  | mk a =>
    cases b with
    | mk b =>
      have e : a.toList = b.toList := h
      rw [Array.toList_inj] at e
      rw [e]
theorem leS_trans (a b c : Str) (h1 : leS a b = true) (h2 : leS b c = true) : leS a c = true :=
  leS_iff.mpr (List.le_trans (leS_iff.mp h1) (leS_iff.mp h2))
theorem leS_total (a b : Str) : (leS a b || leS b a) = true := by
  rw [Bool.or_eq_true, leS_iff, leS_iff]
  exact List.le_total _ _
theorem leS_anti {a b : Str} (h1 : leS a b = true) (h2 : leS b a = true) : a = b :=
  tl_inj (List.le_antisymm (leS_iff.mp h1) (leS_iff.mp h2))
theorem pair_of_rising : ∀ (l : List Str) (p : Str), risingS p l = true → (p :: l).Pairwise (fun a b => leS a b = true)
  | [], p, _ => by simp
  | x :: l, p, h => by
    have h' : (!ltCps x.cps.toList p.cps.toList && risingS x l) = true := h
    rw [Bool.and_eq_true] at h'
    have ih := pair_of_rising l x h'.2
    refine List.pairwise_cons.mpr ⟨fun y hy => ?_, ih⟩
    have hpx : leS p x = true := h'.1
    rcases List.mem_cons.mp hy with rfl | hy
    · exact hpx
    · exact leS_trans _ _ _ hpx ((List.pairwise_cons.mp ih).1 y hy)
theorem pair_of_sorted {l : List Str} (h : sortedS l = true) : l.Pairwise (fun a b => leS a b = true) := by
  cases l with
  | nil => exact .nil
  | cons x l => exact pair_of_rising l x h
theorem sort_pair (l : List Str) : (l.mergeSort leS).Pairwise (fun a b => leS a b = true) := List.pairwise_mergeSort leS_trans leS_total l
theorem sort_uniq {xs ys : List Str} (hx : xs.Pairwise (fun a b => leS a b = true)) (hy : ys.Pairwise (fun a b => leS a b = true)) (h : xs.Perm ys) : xs = ys :=
  List.Perm.eq_of_pairwise (fun a b _ _ h1 h2 => leS_anti h1 h2) hx hy h
theorem nodup_putAll (xs : List Str) : (Ys.putAll xs).Nodup := by
  unfold Ys.putAll
  have main : ∀ (l acc : List Str), acc.Nodup → (l.foldl Ys.put1 acc).Nodup := by
    intro l
    induction l with
    | nil => exact fun _ h => h
    | cons x l ih =>
      intro acc h
      refine ih _ ?_
      unfold Ys.put1
      split
      · exact h
      · rename_i hx
        exact List.nodup_cons.mpr ⟨hx, h⟩
  exact main xs [] .nil
theorem mem_roads {js : Rows} {x : Str} : x ∈ roadsOf js ↔ x ∈ words js := by
  unfold roadsOf
  rw [(List.mergeSort_perm _ _).mem_iff]
  exact Ys.mem_putAll
theorem nodup_roads (js : Rows) : (roadsOf js).Nodup := (List.mergeSort_perm _ _).nodup_iff.mpr (nodup_putAll _)
/-- what is sorted, without doubles, with the words' members -/
theorem roads_uniq {js : Rows} {ks ys : List Str} (hk : ks.Nodup) (hm : ∀ y, y ∈ ks ↔ y ∈ words js) (hp : ys.Perm ks) (hs : sortedS ys = true) : ys = roadsOf js := by
  refine sort_uniq (pair_of_sorted hs) (sort_pair _) (hp.trans (List.Perm.trans ?_ (List.mergeSort_perm _ _).symm))
  exact (List.perm_ext_iff_of_nodup hk (nodup_putAll _)).mpr fun y => (hm y).trans Ys.mem_putAll.symm
/-- is the inner road x a bridge -/
def Bridge (js : Rows) (x : Str) : Prop := ∃ i j r q, js[i]? = some r ∧ js[j]? = some q ∧ x ∈ r ∧ x ∈ q ∧ (∀ k s, js[k]? = some s → x ∈ s → i ≤ k ∧ k ≤ j) ∧ ¬ Reach js x i j
def sidesOf (js : Rows) (z : Str) : List Nat := (List.range js.length).filter fun j => decide (z ∈ js.getD j [])
theorem mem_sides {js : Rows} {z : Str} {j : Nat} : j ∈ sidesOf js z ↔ ∃ r, js[j]? = some r ∧ z ∈ r := by
  unfold sidesOf
  rw [List.mem_filter, List.mem_range]
  constructor
  · rintro ⟨h1, h2⟩
    exact ⟨js.getD j [], Fw.at_of h1, of_decide_eq_true h2⟩
  · rintro ⟨r, h1, h2⟩
    exact ⟨(List.getElem?_eq_some_iff.mp h1).1, by rw [Fw.getD_of h1]; exact decide_eq_true h2⟩
theorem sides_lt (js : Rows) (z : Str) : (sidesOf js z).Pairwise (· < ·) := List.Pairwise.filter _ List.pairwise_lt_range
theorem sides_some {js : Rows} {z : Str} (h : z ∈ words js) : sidesOf js z ≠ [] := by
  obtain ⟨r, hr, hz⟩ := List.mem_flatten.mp h
  obtain ⟨j, hj⟩ := List.getElem?_of_mem hr
  exact List.ne_nil_of_mem (mem_sides.mpr ⟨r, hj, hz⟩)
theorem ends_of {ss : List Nat} (h : ss ≠ []) (lt : ss.Pairwise (· < ·)) : ∃ i j, i ∈ ss ∧ j ∈ ss ∧ (∀ k ∈ ss, i ≤ k ∧ k ≤ j) ∧ atI (ss.map fun (n : Nat) => V.int n) 0 = some (.int i) ∧ atI (ss.map fun (n : Nat) => V.int n) (-1) = some (.int j) := by
  obtain ⟨j, init, rfl⟩ : ∃ j init, ss = init ++ [j] := by
    rcases List.eq_nil_or_concat ss with e | ⟨l, b, e⟩
    · exact absurd e h
    · exact ⟨b, l, by rw [e, List.concat_eq_append]⟩
  have hj : ∀ k ∈ init ++ [j], k ≤ j := fun k hk => by
    rcases List.mem_append.mp hk with hk | hk
    · exact Nat.le_of_lt ((List.pairwise_append.mp lt).2.2 k hk j (by simp))
    · rw [List.mem_singleton] at hk
      omega
  have e2 : atI ((init ++ [j]).map fun (n : Nat) => V.int n) (-1) = some (.int j) := by
    rw [List.map_append]
    exact atI_last _ _
  generalize hs : init ++ [j] = ss at hj e2 lt
  cases ss with
  | nil => simp at hs
  | cons i r =>
    refine ⟨i, j, List.mem_cons_self, by rw [← hs]; simp, fun k hk => ⟨?_, hj k hk⟩, atI_nat (j := 0) rfl, e2⟩
    rcases List.mem_cons.mp hk with rfl | hk
    · exact Nat.le_refl _
    · exact Nat.le_of_lt ((List.pairwise_cons.mp lt).1 k hk)
theorem bridge_iff {js : Rows} {z : Str} {i j : Nat} (hi : i ∈ sidesOf js z) (hj : j ∈ sidesOf js z) (h : ∀ k ∈ sidesOf js z, i ≤ k ∧ k ≤ j) : Bridge js z ↔ ¬ Reach js z i j := by
  obtain ⟨r, hr, zr⟩ := mem_sides.mp hi
  obtain ⟨q, hq, zq⟩ := mem_sides.mp hj
  constructor
  · rintro ⟨i', j', r', q', h1, h2, h3, h4, h5, h6⟩
    have a1 := h5 i r hr zr
    have a2 := h5 j q hq zq
    have b1 := h i' (mem_sides.mpr ⟨r', h1, h3⟩)
    have b2 := h j' (mem_sides.mpr ⟨q', h2, h4⟩)
    have e1 : i' = i := by omega
    have e2 : j' = j := by omega
    rw [← e1, ← e2]
    exact h6
  · exact fun n => ⟨i, j, r, q, hr, hq, zr, zq, fun k s hk hz => h k (mem_sides.mpr ⟨s, hk, hz⟩), n⟩
theorem flat_len : ∀ l : Rows, (∀ x ∈ l, x.length = 3) → l.flatten.length = 3 * l.length := by
  intro l
  induction l with
  | nil => intro _; rfl
  | cons x l ih =>
    intro h
    rw [List.flatten_cons, List.length_append, List.length_cons, ih fun y hy => h y (List.mem_cons_of_mem _ hy), h x List.mem_cons_self]
    omega
end Mw
/-! the rules with the written part named, so that a comprehension's parts do not lean on its own frame -/
namespace Fw
open PySem PySem.Spec PyProof.Rows L2
section
variable {X : Cx} {tg l e o a b value : Expr} {es elts : List Expr} {tl te ta tb to tv : TE} {t : TA} {p pos pos' apos cpos tpos p2 : Pos} {kk : Nat} (K : PySem.W.Frag) (hK : X.K = K)
include hK
theorem pi_listK (hl : PE X l tl) : PI X tg l (iList K tl) := by subst hK; exact pi_list hl
theorem pi_tupK (hl : PE X l tl) : PI X tg l (iTup K tl) := by subst hK; exact pi_tup hl
theorem pi_seqK (hl : PE X l tl) : PI X tg l (Yr.iSeq K tl) := by subst hK; exact Yr.pi_seq hl
theorem pi_enumK (hg : Gl X "enumerate") (hm : X.mg "enumerate" = none) (ha : PA X [e] t) (hs : starEach [e] X.env = [(false, eval e X.env)] := by rfl) : PI X (.Tuple elts kk tpos) (.Call (.Name "enumerate" p) [e] [] pos) (iEnum K t) := by subst hK; exact pi_enum hg hm ha hs
theorem pi_enumTK (hg : Gl X "enumerate") (hm : X.mg "enumerate" = none) (ha : PA X [e] t) (hs : starEach [e] X.env = [(false, eval e X.env)] := by rfl) : PI X (.Tuple elts kk tpos) (.Call (.Name "enumerate" p) [e] [] pos) (Yr.iNumT K 0 t) := by subst hK; exact Yr.pi_enumT hg hm ha hs
theorem pi_enumSK {c : Int} {j : Nat} {kp cp : Pos} (h0 : 0 ≤ c) (h1 : c < 1000) (hg : Gl X "enumerate") (hm : X.mg "enumerate" = none) (ha : PA X [e] t) (hs : starEach [e] X.env = (false, eval e X.env) :: starEach [] X.env := by rfl)
    (hall : (backToKw pos (keywordEach [⟨some "start", .Constant (.int c) j cp, kp⟩] X.env)).all (·.1.isSome) = true := by rfl) (hks : (backToKw pos (keywordEach [⟨some "start", .Constant (.int c) j cp, kp⟩] X.env)).filterMap (·.1) = [("start" : Str)] := by rfl)
    (hpl : ((backTo pos (starEach [e] X.env)).any (·.1) || (backToKw pos (keywordEach [⟨some "start", .Constant (.int c) j cp, kp⟩] X.env)).any (·.1.isNone)) = false := by rfl) :
    PI X (.Tuple elts kk tpos) (.Call (.Name "enumerate" p) [e] [⟨some "start", .Constant (.int c) j cp, kp⟩] pos) (Yr.iNumL K c t) := by subst hK; exact Yr.pi_enumS h0 h1 hg hm ha hs hall hks hpl
theorem op_in_seqK : OpR X (compareOp .In) (rIn K false) := by subst hK; exact op_in_seq
theorem op_notIn_seqK : OpR X (compareOp .NotIn) (rIn K true) := by subst hK; exact op_notIn_seq
theorem op_catTK : OpR X (binaryOp .Add) (rCatT K) := by subst hK; exact op_catT
theorem op_eqDK (hu : X.A.units + 64 < cLine) : OpR X (compareOp .Eq) (rEqD K) := by subst hK; exact op_eqD hu
theorem op_neDK (hu : X.A.units + 64 < cLine) : OpR X (compareOp .NotEq) (rNeD K) := by subst hK; exact op_neD hu
theorem ix_listK : IxR X (rIxL K) := by subst hK; exact ix_list
theorem ix_tupK : IxR X (rIxT K) := by subst hK; exact ix_tup
theorem sl_listK : SlR X (rSlL K) := by subst hK; exact sl_list
theorem sl_tupK : SlR X (rSlT K) := by subst hK; exact sl_tup
theorem call_len_seqK : CallR X (.builtin "len") (Evl.rLenS K) := by subst hK; exact call_len_seq
theorem call_list_ofK : CallR X (.type "list") (Evl.rListS K) := by subst hK; exact call_list_of
/-- tuple(x) of a list, of a tuple -/
def rTupS (K : PySem.W.Frag) : List V → Hp → VK → Prop := fun xs H Q => ∃ p ys, xs = [.ref p] ∧ ((SqL K H p ys ∧ ∀ l, H l = none → Q (.ref l) (upd H l (.tup ys))) ∨ (SqT K H p ys ∧ Q (.ref p) H))
theorem call_tuple_ofK : CallR X (.type "tuple") (rTupS K) := by subst hK; exact call_tuple_of
theorem cr_sumK (hc : X.calm = true) : CallR X (.builtin "sum") (rSum K) := by subst hK; exact cr_sum hc
theorem cr_maxK (hc : X.calm = true) : CallR X (.builtin "max") (rMax K) := by subst hK; exact cr_max hc
theorem cr_minK (hc : X.calm = true) : CallR X (.builtin "min") (rMin K) := by subst hK; exact cr_min hc
theorem cr_allK (hc : X.calm = true) : CallR X (.builtin "all") (rAll K) := by subst hK; exact cr_all hc
theorem cr_anyK (hc : X.calm = true) : CallR X (.builtin "any") (rAny K) := by subst hK; exact cr_any hc
theorem cr_sortedSK : CallR X (.builtin "sorted") (rSortedS K) := by subst hK; exact cr_sortedS
theorem cr_sortedK : CallR X (.builtin "sorted") (rSorted K) := by subst hK; exact cr_sorted
theorem call_isiK' : CallR X (.builtin "isinstance") (rIsi K) := by subst hK; exact call_isi
theorem cr_setWK (w : World) (hw : X.w = w) (hc : X.calm = true) : CallR X (.type "set") (Ys.rSetW K w) := by subst hK hw; exact Ys.cr_setW hc
theorem pe_fldK {f : Str} (he : PE X e ta) (hb : attributeBase e f X.env (eval e X.env) = eval e X.env := by rfl) : PE X (.Attribute e f pos) (tFld K ta f) := by subst hK; exact pe_fld he hb
theorem ps_fldK {f : Str} (ha : PE X o ta) (hv : PE X value tv) (hs : swapsWith value (some (.Attribute o f pos')) pos.line X.env = pure false := by rfl) : PS X (.Assign [.Attribute o f pos'] value pos) (sFld K ta tv f) := by subst hK; exact ps_fld ha hv hs
theorem pg_tupK {k n : Nat} {ts : TGs} (hc : X.calm = true) (h : PGs X es ts) (hn : (assignEach es X.env).length = n := by rfl) (hst : (assignEach es X.env).findIdx? (·.1) = none := by rfl) : PG X (.Tuple es k pos) (gTup K n ts) := by subst hK; exact pg_tup hc h hn hst
theorem mt_lcountSK : MtR X "list.count" (Yr.rCntS K) := by subst hK; exact Yr.mt_lcountS
/-- sep.join(xs) -/
def rJoin (K : PySem.W.Frag) : V → List V → Hp → VK → Prop := fun x xs H Q => ∃ a p, ∃ ys : List Str, x = .str a ∧ xs = [.ref p] ∧ (SqL K H p (ys.map V.str) ∨ SqT K H p (ys.map V.str)) ∧ (ys.map (·.length)).sum + ys.length * a.length ≤ 16777216 ∧ Q (.str (Txt.join a ys)) H
theorem pe_joinK (ho : PE X o to) (he : PE X e te) (hs : starEach [e] X.env = [(false, eval e X.env)] := by rfl) (hbase : attributeBase o "join" X.env (eval o X.env) = eval o X.env := by rfl) (hline : (apos.endLine == pos.line) = true := by rfl) :
    PE X (.Call (.Attribute o "join" apos) [e] [] pos) (tM1 (rJoin K) to te) := by subst hK; exact pe_join ho he hs hbase hline
theorem pe_bm0K {T name id : String} {r : V → List V → Hp → VK → Prop} (pa : PlainAttrs T) (slot : Slot T name id) (hty : typeOf (.builtin id) = pure (.type "method_descriptor")) (hm : MtR X id r) (ho : PE X o to)
    (hbase : attributeBase o name X.env (eval o X.env) = eval o X.env := by rfl) (hline : (apos.endLine == cpos.line) = true := by rfl) : PE X (.Call (.Attribute o name apos) [] [] cpos) (tBM0 K T r to) := by subst hK; exact pe_bm0 pa slot hty hm ho hbase hline
theorem pe_bmK {T name id : String} {r : V → List V → Hp → VK → Prop} (pa : PlainAttrs T) (slot : Slot T name id) (hty : typeOf (.builtin id) = pure (.type "method_descriptor")) (hm : MtR X id r) (ho : PE X o to) (ha : PA X (e :: es) t)
    (hbase : attributeBase o name X.env (eval o X.env) = eval o X.env := by rfl)
    (hfew : ((backTo cpos (starEach (e :: es) X.env)).all (fun x => !x.1) && (backToKw cpos (keywordEach [] X.env)).all (fun x => x.1.isSome)
      && decide ((e :: es).length + ([] : List Keyword).length + (if ([] : List Keyword).isEmpty then 0 else 1) < 30)) = true := by rfl)
    (hline : (apos.endLine == cpos.line) = true := by rfl) (hs : starEach (e :: es) X.env = (false, eval e X.env) :: starEach es X.env := by rfl) (hplain : (backTo cpos (starEach es X.env)).any (·.1) = false := by rfl) :
    PE X (.Call (.Attribute o name apos) (e :: es) [] cpos) (tBM K T r to t) := by subst hK; exact pe_bm pa slot hty hm ho ha hbase hfew hline hs hplain
theorem pa_starK (he : PE X e te) (hr : PA X es t) (hs : starEach (.Starred e p :: es) X.env = (true, eval e X.env) :: starEach es X.env := by rfl) : PA X (.Starred e p :: es) (StX.tStar K te t) := by subst hK; exact StX.pa_star he hr hs
theorem pt_truthK (ha : PE X a ta) (he : ∀ whole, isTrue a X.env whole = (do let v ← whole; standAt a.pos; holding [v] (truthy v))) : PT X a (tTru K ta) := by subst hK; exact pt_truth ha he
theorem pi_zipK {e2 : Expr} (hg : Gl X "zip") (hm : X.mg "zip" = none) (ha : PA X [e, e2] t)
    (hs : starEach [e, e2] X.env = (false, eval e X.env) :: starEach [e2] X.env := by rfl) (hpl : (backTo pos (starEach [e2] X.env)).any (·.1) = false := by rfl) :
    PI X (.Tuple elts kk tpos) (.Call (.Name "zip" p) [e, e2] [] pos) (iZip K t) := by subst hK; exact pi_zip hg hm ha hs hpl
end
/-! ### comprehensions of two clauses -/
section
variable {J : It} {n : Nat} {Gd : Hp → Prop} {Y : Nat → Hp → V → Hp → Prop} {g : TG} {te : TE} {tt : TT} {vs : List Nat} {σ : L2.St} {D : Addr} {Qd : Hp → Prop}
theorem lc2_in (wk : Walk J n Gd Y) {H0 : Hp} (Pv : Nat → Hp → Prop) (h0 : Pv 0 H0) (hG : ∀ i H, i ≤ n → Pv i H → Gd H)
    (hs : ∀ i x H H', i < n → Pv i H → Y i H x H' → g x (wipe σ vs) H' fun σ3 H5 => wipe σ3 vs = wipe σ vs ∧ tt σ3 H5 fun b H6 => if b = true then te σ3 H6 fun y H7 => ∃ acc, H7 D = some (.lst acc) ∧ acc.length < sizeLine ∧ Pv (i + 1) (upd H7 D (.lst (acc ++ [y]))) else Pv (i + 1) H6)
    (hd : ∀ H, Pv n H → Qd H) :
    ∃ W1 : Nat → Nat → Hp → Prop, (∃ m, W1 0 m H0) ∧ ∀ j k H, W1 j k H → (J.stop j H ∧ Qd H) ∨ (J.go j H ∧ ∃ Nx1 : Hp → Prop, (∀ H', Nx1 H' → ∃ k', k' < k ∧ W1 (j + 1) k' H') ∧ ∀ x H', J.yld j H x H' →
      g x (wipe σ vs) H' fun σ3 H5 => wipe σ3 vs = wipe σ vs ∧ tt σ3 H5 fun b H6 => if b = true then te σ3 H6 fun y H7 => ∃ acc, H7 D = some (.lst acc) ∧ acc.length < sizeLine ∧ Nx1 (upd H7 D (.lst (acc ++ [y]))) else Nx1 H6) := by
  refine ⟨fun i m H => m = n - i ∧ i ≤ n ∧ Pv i H, ⟨n, by simp, Nat.zero_le _, h0⟩, ?_⟩
  rintro i m H ⟨rfl, hi, p⟩
  have q := hG i H hi p
  by_cases lt : i < n
  · exact .inr ⟨wk.goes i H lt q, Pv (i + 1), fun H' p' => ⟨n - (i + 1), by omega, rfl, lt, p'⟩, fun x H' y => hs i x H H' lt p (wk.yields i H x H' lt q y)⟩
  · obtain rfl : i = n := by omega
    exact .inl ⟨wk.stops H q, hd H p⟩
theorem lc2_out (wk : Walk J n Gd Y) {H1 : Hp} (Pv : Nat → Hp → Prop) (body : (Hp → Prop) → L2.St → Hp → Prop) (h0 : Pv 0 (upd H1 D (.lst []))) (hG : ∀ i H, i ≤ n → Pv i H → Gd H)
    (hs : ∀ i x H H', i < n → Pv i H → Y i H x H' → g x (wipe σ vs) H' fun σ2 H2 => wipe σ2 vs = wipe σ vs ∧ tt σ2 H2 fun b H3 => if b = true then body (Pv (i + 1)) σ2 H3 else Pv (i + 1) H3) (hd : ∀ H, Pv n H → Qd H) :
    ∃ W : Nat → Nat → Hp → Prop, (∃ m, W 0 m (upd H1 D (.lst []))) ∧ ∀ i m H, W i m H →
      (J.stop i H ∧ Qd H) ∨ (J.go i H ∧ ∃ Nx : Hp → Prop, (∀ H', Nx H' → ∃ m', m' < m ∧ W (i + 1) m' H') ∧ ∀ x H', J.yld i H x H' → g x (wipe σ vs) H' fun σ2 H2 => wipe σ2 vs = wipe σ vs ∧ tt σ2 H2 fun b H3 => if b = true then body Nx σ2 H3 else Nx H3) := by
  refine ⟨fun i m H => m = n - i ∧ i ≤ n ∧ Pv i H, ⟨n, by simp, Nat.zero_le _, h0⟩, ?_⟩
  rintro i m H ⟨rfl, hi, p⟩
  have q := hG i H hi p
  by_cases lt : i < n
  · exact .inr ⟨wk.goes i H lt q, Pv (i + 1), fun H' p' => ⟨n - (i + 1), by omega, rfl, lt, p'⟩, fun x H' y => hs i x H H' lt p (wk.yields i H x H' lt q y)⟩
  · obtain rfl : i = n := by omega
    exact .inl ⟨wk.stops H q, hd H p⟩
end
theorem same_upd {H : Hp} {p : Addr} {o : HO} (h : H p = none) : Same H (upd H p o) := fun b x e => by rw [upd_ne (ne_of_none e h)]; exact e
theorem same_some {H H1 : Hp} (e : Same H H1) {p : Addr} (h : H p ≠ none) : H1 p ≠ none := by
  cases z : H p with
  | none => exact absurd z h
  | some o => rw [e _ _ z]; exact fun z => nomatch z
theorem Go.grow {L : List Addr} {G H G1 H1 H2 : Hp} (a : Go L G H G1 H1) (e : Same H1 H2) : Go L G H G1 H2 :=
  ⟨a.g, a.h.trans e, fun x o m z => e _ _ (a.k x o m z), a.n, fun x z => same_some e (a.l x z)⟩
theorem Go.ref0 {G H : Hp} (h : Same G H) : Go [] G H G H := Go.refl h
theorem cut_from1 (x : V) (xs : List V) : cutV (x :: xs) (some 1) none = xs := by
  unfold cutV
  have e : HT.sIx (x :: xs).length 0 (some 1) = 1 := by
    have h := HT.sIx_nat (x :: xs).length 0 1
    rw [List.length_cons] at h ⊢
    exact h.trans (by omega)
  rw [e, HT.sIx_none]
  simp
theorem upd_none {H : Hp} {p q : Addr} {o : HO} : upd H p o q = none ↔ q ≠ p ∧ H q = none :=
  ⟨fun h => by
    by_cases e : q = p
    · subst e; rw [upd_same] at h; cases h
    · exact ⟨e, by rw [upd_ne e] at h; exact h⟩, fun h => by rw [upd_ne h.1]; exact h.2⟩
theorem take_flat {α : Type} (js : List (List α)) (i : Nat) (r : List α) (h : js[i]? = some r) : (js.take (i + 1)).flatten = (js.take i).flatten ++ r := by
  rw [List.take_add_one, h]
  simp
theorem take_snoc {α : Type} {xs : List α} {i : Nat} {x : α} (h : xs[i]? = some x) : xs.take (i + 1) = xs.take i ++ [x] := by
  rw [List.take_add_one, h]
  rfl
theorem small1000' {n : Nat} (h : n < 10000) : n < sizeLine := Nat.lt_of_lt_of_le h (by decide)
/-- behind a list or a tuple stands a walk -/
theorem seq_walk {K : PySem.W.Frag} {H : Hp} {a : Addr} {ts : List V} {R : It → Hp → Prop} (h : SqL K H a ts ∨ SqT K H a ts) (hR : ∀ J, Walk J ts.length (fun H' => Same H H') (YAt ts) → R J H) :
    ∃ b, V.ref a = .ref b ∧ (((∃ xs, SqL K H b xs) ∧ R (Itl K b) H) ∨ ((∃ xs, SqT K H b xs) ∧ R (Itt K b) H)) := by
  refine ⟨a, rfl, ?_⟩
  rcases h with h | h
  · exact .inl ⟨⟨ts, h⟩, hR _ (walk_list.mono (fun H' e => e.seq h) fun _ _ _ _ _ _ y => y)⟩
  · exact .inr ⟨⟨ts, h⟩, hR _ (walk_tup.mono (fun H' e => seqT e h) fun _ _ _ _ _ _ y => y)⟩
end Fw
/-! the promises of the program's defs -/
namespace Tc
open PySem PySem.Spec PyProof.Rows L2 Fw Mw TL
section

def sp_is_name (K : PySem.W.Frag) (CW : Addr) : Sp := Sp1 fun x H Q _ => ∃ z : Str, x = .str z ∧ z.length ≤ 1000 ∧ ∀ H1, Same H H1 → Q (.bl (isName z)) H1
def sp_all_words (K : PySem.W.Frag) (CW : Addr) : Sp := Sp1 fun x H Q _ => ∃ G js, Same G H ∧ rQ K (rT K rS) G x js ∧ js.flatten.length ≤ 1000 ∧ Ret G H Q (rL K rS) js.flatten
def sp_meeting_roads (K : PySem.W.Frag) (CW : Addr) : Sp := Sp1 fun x H Q _ => ∃ G r, Same G H ∧ x = .str (rowText r) ∧ RowOk r ∧ Ret G H Q (rT K rS) r
def sp_read_junctions (K : PySem.W.Frag) (CW : Addr) : Sp := Sp1 fun x H Q _ => ∃ G js, Same G H ∧ x = .str (webText js) ∧ Good js ∧ Ret G H Q (rT K (rT K rS)) js
/-- a dict whose keys are the numbers of S -/
def rNums : R (Nat → Prop) := fun H v S => ∃ d kvs, v = .ref d ∧ H d = some (.dK kvs) ∧ ∀ i : Nat, (valV kvs (Sum.inl (i : Int))).isSome ↔ S i
instance : Mo rNums := ⟨fun e ⟨d, kvs, h1, h2, h3⟩ => ⟨d, kvs, h1, e _ _ h2, h3⟩⟩
/-- closed: what a way does not go along; on these rows it is the road c, or none -/
def Shuts (js : Rows) (cs : List Str) (c : Str) : Prop := ∀ r ∈ js, ∀ x ∈ r, x ∈ cs ↔ x = c
def sp_reached (K : PySem.W.Frag) (CW : Addr) : Sp := Sp3 fun x y z H Q _ => ∃ G js i cs c, Same G H ∧ rT K (rT K rS) G x js ∧ y = .int (i : Nat) ∧ rT K rS G z cs ∧ Shuts js cs c ∧ i < js.length ∧ js.length ≤ 1000 ∧ (∀ r ∈ js, r.length = 3) ∧ Ret G H Q rNums (Reach js c i)
def sp_places_of (K : PySem.W.Frag) (CW : Addr) : Sp := Sp2 fun x y H Q _ => ∃ G js z, Same G H ∧ rT K (rT K rS) G x js ∧ y = .str z ∧ js.length ≤ 1000 ∧ Ret G H Q (rL K rI) ((sidesOf js z).map fun (n : Nat) => (n : Int))
def sp_check_hanging_together (K : PySem.W.Frag) (CW : Addr) : Sp := Sp1 fun x H Q _ => ∃ G js, Same G H ∧ rT K (rT K rS) G x js ∧ Good js ∧ Whole js ∧ ∀ H1, Same H H1 → Q .non H1
/-- the attributes of a web of these rows -/
structure WebIs (K : PySem.W.Frag) (G : Hp) (js : Rows) (vt vj vr vi ve : V) (g : Int) : Prop where
  text : vt = .str (webText js)
  junctions : rT K (rT K rS) G vj js
  roads : rT K rS G vr (roadsOf js)
  inner : rT K rS G vi (innerOf js)
  ends : rT K rS G ve (endsOf js)
  rounds : g = roundsOf js
theorem WebIs.up {K : PySem.W.Frag} {G G1 : Hp} {js : Rows} {vt vj vr vi ve : V} {g : Int} (e : Same G G1) (h : WebIs K G js vt vj vr vi ve g) : WebIs K G1 js vt vj vr vi ve g :=
  ⟨h.text, Mo.up e h.junctions, Mo.up e h.roads, Mo.up e h.inner, Mo.up e h.ends, h.rounds⟩
def webF (vt vj vr vi ve : V) (g : Int) : List (Str × V) := [("text", vt), ("junctions", vj), ("roads", vr), ("inner", vi), ("ends", ve), ("rounds", .int g)]
theorem lk_text {vt vj vr vi ve : V} {g : Int} : (webF vt vj vr vi ve g).lookup ("text" : Str) = some vt := rfl
theorem lk_junctions {vt vj vr vi ve : V} {g : Int} : (webF vt vj vr vi ve g).lookup ("junctions" : Str) = some vj := rfl
theorem lk_roads {vt vj vr vi ve : V} {g : Int} : (webF vt vj vr vi ve g).lookup ("roads" : Str) = some vr := rfl
theorem lk_inner {vt vj vr vi ve : V} {g : Int} : (webF vt vj vr vi ve g).lookup ("inner" : Str) = some vi := rfl
theorem lk_ends {vt vj vr vi ve : V} {g : Int} : (webF vt vj vr vi ve g).lookup ("ends" : Str) = some ve := rfl
theorem lk_rounds {vt vj vr vi ve : V} {g : Int} : (webF vt vj vr vi ve g).lookup ("rounds" : Str) = some (V.int g) := rfl
def wf1 (vt : V) : List (Str × V) := [("text", vt)]
def wf2 (vt vj : V) : List (Str × V) := [("text", vt), ("junctions", vj)]
def wf3 (vt vj vr : V) : List (Str × V) := [("text", vt), ("junctions", vj), ("roads", vr)]
def wf4 (vt vj vr vi : V) : List (Str × V) := [("text", vt), ("junctions", vj), ("roads", vr), ("inner", vi)]
def wf5 (vt vj vr vi ve : V) : List (Str × V) := [("text", vt), ("junctions", vj), ("roads", vr), ("inner", vi), ("ends", ve)]
theorem pf_text {vt : V} : putF "text" vt [] = wf1 vt := rfl
theorem pf_junctions {vt vj : V} : putF "junctions" vj (wf1 vt) = wf2 vt vj := rfl
theorem pf_roads {vt vj vr : V} : putF "roads" vr (wf2 vt vj) = wf3 vt vj vr := rfl
theorem pf_inner {vt vj vr vi : V} : putF "inner" vi (wf3 vt vj vr) = wf4 vt vj vr vi := rfl
theorem pf_ends {vt vj vr vi ve : V} : putF "ends" ve (wf4 vt vj vr vi) = wf5 vt vj vr vi ve := rfl
theorem pf_rounds {vt vj vr vi ve : V} {g : Int} : putF "rounds" (.int g) (wf5 vt vj vr vi ve) = webF vt vj vr vi ve g := rfl
theorem lk3 {vt vj vr : V} : (wf3 vt vj vr).lookup ("roads" : Str) = some vr := rfl
theorem lk4 {vt vj vr vi : V} : (wf4 vt vj vr vi).lookup ("roads" : Str) = some vr := rfl
theorem lk5 {vt vj vr vi ve : V} : (wf5 vt vj vr vi ve).lookup ("inner" : Str) = some vi := rfl
theorem dec_nat (k : Nat) {n : Nat} : decide (V.int (n : Nat) = V.int (k : Nat)) = decide (n = k) := by
  by_cases e : n = k
  · subst e; simp
  · rw [decide_eq_false e, decide_eq_false]
    exact fun h => e (by have := V.int.inj h; omega)
def rWeb (K : PySem.W.Frag) (CW : Addr) : R Rows := fun H v js => ∃ a dx vt vj vr vi ve g, v = .ref a ∧ H a = some (.ins CW dx (webF vt vj vr vi ve g)) ∧ WebIs K H js vt vj vr vi ve g
instance {K : PySem.W.Frag} {CW : Addr} : Mo (rWeb K CW) := ⟨fun e ⟨a, dx, vt, vj, vr, vi, ve, g, h1, h2, h3⟩ => ⟨a, dx, vt, vj, vr, vi, ve, g, h1, e _ _ h2, h3.up e⟩⟩
/-- __init__ at a new instance at a: what comes behind it finds a web there -/
def sp_Web_init__ (K : PySem.W.Frag) (CW : Addr) : Sp := Sp2 fun x y H Q _ => ∃ G js a dx, Same G H ∧ G a = none ∧ x = .ref a ∧ y = .str (webText js) ∧ H a = some (.ins CW dx []) ∧ Good js ∧ Whole js ∧
  ∀ G1 H1, Go [a] G H G1 H1 → (∃ vt vj vr vi ve g, H1 a = some (.ins CW dx (webF vt vj vr vi ve g)) ∧ WebIs K G1 js vt vj vr vi ve g) → Q .non H1
def sp_Web_len__ (K : PySem.W.Frag) (CW : Addr) : Sp := Sp1 fun x H Q _ => ∃ js, rWeb K CW H x js ∧ js.length ≤ 1000 ∧ Q (.int js.length) H
def sp_is_bridge (K : PySem.W.Frag) (CW : Addr) : Sp := Sp2 fun x y H Q _ => ∃ G js z, Same G H ∧ rWeb K CW G x js ∧ y = .str z ∧ z ∈ words js ∧ Good js ∧ ∀ H1 (b : Bool), Same H H1 → (b = true ↔ Bridge js z) → Q (.bl b) H1
def sp_bridges (K : PySem.W.Frag) (CW : Addr) : Sp := Sp1 fun x H Q _ => ∃ G js, Same G H ∧ rWeb K CW G x js ∧ Good js ∧ ∀ xs : List Str, (∃ p : Str → Bool, (∀ z, z ∈ words js → (p z = true ↔ Bridge js z)) ∧ xs = (innerOf js).filter p) → Ret G H Q (rT K rS) xs
end
section
variable (P : Program) (w : World) (K : PySem.W.Frag) (mg : Str → Option Value) (base : Heap) (CW : Addr)
def InitAt (k : Nat) : Prop := ∃ f fd ds, FnOk P w K mg base CX0 k f fd ["self", "text"] (sp_Web_init__ K CW) ∧ Mk K CW f ∧ Binds K fd ["self", "text"] ds ∧ Vals [] ds
def LenAt (k : Nat) : Prop := ∃ g, FnR P w K mg base CX0 k g (sp_Web_len__ K CW) ∧ PySem.W.findIn K (.ref CW) "__len__" = some (some (.ref g)) ∧ PySem.W.isFn K (.ref g) = true
def ReachedAt (k : Nat) : Prop := ∃ f fd, FnOk P w K mg base CX0 k f fd ["junctions", "start", "closed"] (sp_reached K CW) ∧ mg "reached" = some (.ref f) ∧ PySem.W.keepIn K (.ref f) = true ∧ Binds K fd ["junctions", "start", "closed"] [] ∧
  ∃ Te ds, Binds K fd ["junctions", "start", "closed"] ds ∧ Vals [V.ref Te] ds ∧ ∀ H, SqT K H Te []
end
theorem LenAt.raw {P : Program} {w : World} {K : PySem.W.Frag} {mg : Str → Option Value} {base : Heap} {CX : CXT} {k : Nat} {f : Addr} {fd : FuncData} {ps : List Str} {sp : Sp} (F : FnOk P w K mg base CX k f fd ps sp) (hb : Binds K fd ps []) : FnR P w K mg base CX k f sp :=
  (F.raw hb .nil).imp fun vs H Q E h => by
    rw [List.append_nil]
    exact h
end Tc
/-! a comprehension whose items are new data -/
namespace Fw
open PySem PySem.Spec PyProof.Rows L2
theorem Go.in {L : List Addr} {G H G1 H1 : Hp} (a : Go L G H G1 H1) {q : Addr} {u : HO} (e : H q = some u) (m : q ∉ L) : H1 q = some u := a.k q u m e
section
variable {J : It} {Gd : Hp → Prop} {te : TE} {vs : List Nat} {σ : L2.St} {D : Addr} {Qd : Hp → Prop}
theorem lc_data {α : Type} {r : R α} [Mo r] {j : Nat} {item : Nat → V → Prop} {ys : List α} {L : List Addr} {G H0 : Hp} {Inv : Nat → Hp → Prop}
    (wk : Walk J ys.length Gd (fun i H x H' => H' = H ∧ item i x)) (hG0 : Same G H0) (hG : ∀ H', Same G H' → Gd H') (hD : H0 D = none) (hDL : D ∉ L) (hn : ys.length ≤ 40000)
    (hw : ∀ x, wipe ((wipe σ vs).set j (some x)) vs = wipe σ vs) (i0 : Inv 0 H0) (iD : ∀ i H' o, Inv i H' → Inv i (upd H' D o))
    (turn : ∀ i x y G' H', ys[i]? = some y → item i x → Go L G H0 G' H' → Inv i H' → ∀ Q : VK, (∀ v G2 H2, Go L G' H' G2 H2 → Inv (i + 1) H2 → r G2 v y → Q v H2) → te ((wipe σ vs).set j (some x)) H' Q)
    (done : ∀ ts G' H', Go L G H0 G' H' → Inv ys.length H' → H' D = some (.lst ts) → G' D = some (.lst ts) → Paired (r G') ts ys → Qd H') :
    ∃ W : Nat → Nat → Hp → Prop, (∃ m, W 0 m (upd H0 D (.lst []))) ∧ ∀ i m H, W i m H →
      (J.stop i H ∧ Qd H) ∨ (J.go i H ∧ ∃ Nx : Hp → Prop, (∀ H', Nx H' → ∃ m', m' < m ∧ W (i + 1) m' H') ∧ ∀ x H', J.yld i H x H' → gName j x (wipe σ vs) H' fun σ2 H2 => wipe σ2 vs = wipe σ vs ∧ tYes σ2 H2 fun b H3 =>
        if b = true then te σ2 H3 fun y H4 => ∃ acc, H4 D = some (.lst acc) ∧ acc.length < sizeLine ∧ Nx (upd H4 D (.lst (acc ++ [y]))) else Nx H3) := by
  have gD : G D = none := hG0.free hD
  refine lc_it wk (fun i H' => ∃ G' ts, Go L G H0 G' H' ∧ Inv i H' ∧ G' D = none ∧ H' D = some (.lst ts) ∧ Paired (r G') ts (ys.take i)) ⟨G, [], (Go.refl hG0).tmp hD, iD 0 H0 _ i0, gD, upd_same, .nil⟩ (fun i H' _ ⟨G', ts, go, _⟩ => hG H' (go.g.trans go.h)) (fun i x H H' hi ⟨G', ts, go, iv, g', h', pr⟩ y => ?_) (fun H' ⟨G', ts, go, iv, g', h', pr⟩ => ?_)
  · obtain ⟨rfl, hx⟩ := y
    obtain ⟨y, hy⟩ : ∃ y, ys[i]? = some y := ⟨ys[i], List.getElem?_eq_getElem hi⟩
    refine ⟨hw x, ?_⟩
    have lts : ts.length = i := by rw [pLen pr, List.length_take]; omega
    refine turn i x y G' H' hy hx go iv _ fun v G2 H2 go2 iv2 hv => ?_
    have h2 := go2.in h' hDL
    have g2 := go2.none h' g'
    refine ⟨ts, h2, Nat.lt_of_le_of_lt (m := 40000) (by omega) (by decide), G2, ts ++ [v], (go.trans go2).mut g2 (.inl hD), iD _ _ _ iv2, g2, upd_same, ?_⟩
    rw [take_snoc hy]
    exact pSnoc (L2.Paired.mapP pr fun _ _ z => Mo.up go2.g z) hv
  · rw [List.take_length] at pr
    have sm : Same G' (upd G' D (.lst ts)) := same_upd g'
    exact done ts _ _ (go.frz hD h' g') iv h' upd_same (L2.Paired.mapP pr fun _ _ z => Mo.up sm z)
end
/-- a list of the heap itself -/
def rH {α : Type} (r : R α) : R (List α) := fun H v xs => ∃ a ts, v = .ref a ∧ H a = some (.lst ts) ∧ Paired (r H) ts xs
instance {α : Type} {r : R α} [Mo r] : Mo (rH r) := ⟨fun e ⟨a, ts, h1, h2, h3⟩ => ⟨a, ts, h1, e _ _ h2, L2.Paired.mapP h3 fun _ _ z => Mo.up e z⟩⟩
theorem rH.l {K : PySem.W.Frag} {α : Type} {r : R α} {H : Hp} {v : V} {xs : List α} (h : rH r H v xs) : rL K r H v xs := by
  obtain ⟨a, ts, h1, h2, h3⟩ := h
  exact ⟨a, ts, h1, SqL.of h2, h3⟩
theorem paired_perm {α β : Type} {F : α → β → Prop} {ys us : List α} (h : ys.Perm us) : ∀ {xs : List β}, Paired F us xs → ∃ js, Paired F ys js ∧ js.Perm xs := by
  induction h with
  | nil => intro xs p; exact ⟨xs, p, .refl _⟩
  | cons x _ ih =>
    intro xs p
    cases p with
    | cons a b =>
      obtain ⟨js, h1, h2⟩ := ih b
      exact ⟨_ :: js, .cons a h1, h2.cons _⟩
  | swap x y l =>
    intro xs p
    cases p with
    | cons a b =>
      cases b with
      | cons b c => exact ⟨_, .cons b (.cons a c), .swap _ _ _⟩
  | trans _ _ ih1 ih2 =>
    intro xs p
    obtain ⟨js, h1, h2⟩ := ih2 p
    obtain ⟨ks, h3, h4⟩ := ih1 h1
    exact ⟨ks, h3, h4.trans h2⟩
theorem paired_two {α β γ : Type} {F : α → β → Prop} {S : β → γ → Prop} : ∀ {us : List α} {xs : List γ}, Paired (fun u x => ∃ y, F u y ∧ S y x) us xs → ∃ ys, Paired F us ys ∧ Paired S ys xs
  | _, _, .nil => ⟨[], .nil, .nil⟩
  | _, _, .cons ⟨y, h1, h2⟩ r => by
    obtain ⟨ys, h3, h4⟩ := paired_two r
    exact ⟨y :: ys, .cons h1 h3, .cons h2 h4⟩
theorem map_paired {α β : Type} (f : α → β) : ∀ xs : List α, Paired (fun y x => y = f x) (xs.map f) xs
  | [] => .nil
  | _ :: xs => .cons rfl (map_paired f xs)
theorem paired_map {α β : Type} {f : α → β} : ∀ {ys : List β} {xs : List α}, Paired (fun y x => y = f x) ys xs → ys = xs.map f
  | _, _, .nil => rfl
  | _, _, .cons a r => by rw [a, paired_map r]; rfl
theorem perm_map {α β : Type} {f : α → β} {ys : List β} {xs : List α} (h : ys.Perm (xs.map f)) : ∃ js : List α, ys = js.map f ∧ js.Perm xs := by
  obtain ⟨js, h1, h2⟩ := paired_perm h (map_paired f xs)
  exact ⟨js, paired_map h1, h2⟩
theorem perm_full {α : Type} {ys zs xs : List α} (h : (ys ++ zs).Perm xs) (l : ys.length = xs.length) : ys.Perm xs := by
  have e := h.length_eq
  rw [List.length_append] at e
  have z : zs = [] := List.length_eq_zero_iff.mp (by omega)
  rw [z, List.append_nil] at h
  exact h
theorem pi_zipAK {X : Cx} {e e2 : Expr} {ta : TA} {p pos tpos : Pos} {elts : List Expr} {kk : Nat} (K : PySem.W.Frag) (hK : X.K = K) (hg : Gl X "zip") (hm : X.mg "zip" = none) (ha : PA X [e, e2] ta)
    (hs : starEach [e, e2] X.env = (false, eval e X.env) :: starEach [e2] X.env := by rfl) (hpl : (backTo pos (starEach [e2] X.env)).any (·.1) = false := by rfl) :
    PI X (.Tuple elts kk tpos) (.Call (.Name "zip" p) [e, e2] [] pos) (RZ.iZipA K ta) := by subst hK; exact RZ.pi_zipA hg hm ha hs hpl
theorem walk_zipTT {K : PySem.W.Frag} {a b : Addr} {xs ys : List V} {n : Nat} (hn : n = min xs.length ys.length) : Walk (RZ.ItzT K a b) n (fun H => SqT K H a xs ∧ SqT K H b ys) (YPair (fun i => xs[i]?) (fun i => ys[i]?)) := by
  subst hn
  refine ⟨fun i _ hi q => ?_, fun _ q => ⟨xs, ys, q.1, q.2, by omega⟩, fun i H v H' _ q y => ?_⟩
  · have h1 : i < xs.length := by omega
    have h2 : i < ys.length := by omega
    exact ⟨xs, ys, xs[i], ys[i], q.1, q.2, by simp [h1], by simp [h2]⟩
  · obtain ⟨T, x, y', h1, h2, h3, h4, h5⟩ := y
    exact ⟨T, x, y', h1, h2, h3, h4 xs q.1, h5 ys q.2⟩
theorem ty_tup {K : PySem.W.Frag} {H : Hp} {a : Addr} {xs : List V} (h : SqT K H a xs) : TyX K H (.ref a) (.type "tuple") := by
  rcases h with (h | ⟨o, h⟩) | ⟨o, its, n, hk, hc, _⟩
  · exact .base (.tup h)
  · exact .fTuple h
  · exact .kTuple hk hc
theorem isi_int {K : PySem.W.Frag} {H : Hp} {Q : VK} {i : Int} {u : String} {b : Bool} (e : kitB "int" u = some b) (q : Q (.bl b) H) : rIsi K [.int i, .ty u] H Q := isi_ty (t := "int") (.base (.int i)) e q
theorem isi_st {K : PySem.W.Frag} {H : Hp} {Q : VK} {s : Str} {u : String} {b : Bool} (e : kitB "str" u = some b) (q : Q (.bl b) H) : rIsi K [.str s, .ty u] H Q := isi_ty (t := "str") (.base (.str s)) e q
theorem isi_bo {K : PySem.W.Frag} {H : Hp} {Q : VK} {k : Bool} {u : String} {b : Bool} (e : kitB "bool" u = some b) (q : Q (.bl b) H) : rIsi K [.bl k, .ty u] H Q := isi_ty (t := "bool") (.base (.bl k)) e q
theorem isi_tup {K : PySem.W.Frag} {H : Hp} {Q : VK} {a : Addr} {xs : List V} (h : SqT K H a xs) (q : Q (.bl true) H) : rIsi K [.ref a, .ty "tuple"] H Q := isi_ty (t := "tuple") (ty_tup h) (by decide +kernel) q
/-- what changes only what is new -/
theorem Go.own {L : List Addr} {G H G1 H1 G2 H2 : Hp} {x : Addr} (a : Go L G H G1 H1) (b : Go [x] G1 H1 G2 H2) (hx : H x = Option.none) : Go L G H G2 H2 :=
  ⟨a.g.trans b.g, b.h, fun c o m e => b.k c o (fun z => by rw [List.mem_singleton] at z; rw [z, hx] at e; cases e) (a.k c o m e), fun c e z => b.n c (a.l c e) (a.n c e z), fun c e => b.l c (a.l c e)⟩
/-- what an expression tells, a new dict, stands still from there on -/
def tFrz (t : TE) : TE := fun σ H Q => t σ H fun x H1 => ∃ d u, x = .ref d ∧ H1 d = some u ∧ Mut (some u) ∧ ∀ od, Q x (upd H1 d (.frz od u))
theorem pe_frz {X : Cx} {e : Expr} {t : TE} (h : PE X e t) : PE X e (tFrz t) := by
  refine ⟨fun pins s σ H Q I hw => ?_⟩
  refine thn (h.run pins s σ H _ I hw) fun v s1 ⟨x, H1, I1, r, d, u, ex, hd, mu, q⟩ => ?_
  obtain ⟨od, I2⟩ := I1.lock hd mu
  exact ⟨x, _, I2, r, q od⟩
end Fw
/-! the promises of the law's own defs: the pot and what is drawn from it; texts; webs by hand -/
namespace Tc
open PySem PySem.Spec PyProof.Rows L2 Fw Mw TL
/-- n more takes are left -/
def Pot (n : Nat) (p : Addr) (H : Hp) : Prop := ∃ a b c : Int, H p = some (.lst [.int a, .int b, .int c]) ∧ 0 ≤ a ∧ 0 ≤ b ∧ b < 2 ^ 61 ∧ 0 ≤ c ∧ c + n ≤ 1000000
def But (p : Addr) (H H' : Hp) : Prop := ∀ a o, a ≠ p → H a = some o → H' a = some o
theorem Pot.le {n m : Nat} {p : Addr} {H : Hp} (h : Pot n p H) (e : m ≤ n) : Pot m p H := by
  obtain ⟨a, b, c, h1, h2, h3, h4, h5, h6⟩ := h
  exact ⟨a, b, c, h1, h2, h3, h4, h5, by omega⟩
theorem Pot.up {n : Nat} {p : Addr} {H H1 : Hp} (h : Pot n p H) (e : Same H H1) : Pot n p H1 := by
  obtain ⟨a, b, c, h1, h2⟩ := h
  exact ⟨a, b, c, e _ _ h1, h2⟩
theorem Pot.some {n : Nat} {p : Addr} {H : Hp} (h : Pot n p H) : H p ≠ none := by
  obtain ⟨a, b, c, h1, h2⟩ := h
  rw [h1]
  exact fun z => nomatch z
theorem But.go {n : Nat} {p : Addr} {G H H1 : Hp} (hG : Same G H) (gp : G p = none) (b : But p H H1) (h : Pot n p H1) : Go [p] G H G H1 := by
  refine ⟨Same.refl G, fun a o e => b a o (fun z => by rw [z, gp] at e; cases e) (hG a o e), fun a o m e => b a o (fun z => m (by simp [z])) e, fun _ _ e => e, fun a e => ?_⟩
  by_cases z : a = p
  · rw [z]; exact h.some
  · cases q : H a with
    | none => exact absurd q e
    | some o => rw [b a o z q]; exact fun z => nomatch z
theorem Pot.go {n : Nat} {p : Addr} {L : List Addr} {G H G1 H1 : Hp} (h : Pot n p H) (g : Go L G H G1 H1) (m : p ∉ L) : Pot n p H1 := by
  obtain ⟨a, b, c, h1, h2⟩ := h
  exact ⟨a, b, c, g.k _ _ m h1, h2⟩
theorem cpow_of {b k c d : Int} (h1 : 0 ≤ b) (h2 : b < 2 ^ 61) (h3 : 0 ≤ k) (h4 : k ≤ 1000000) (h5 : 0 ≤ c) (h6 : c ≤ 1000001) (h7 : 0 ≤ d) (h8 : d ≤ 1000000) : CPow (b + k * c * c + d) 3 := by
  have e1 : 0 ≤ k * c * c := Int.mul_nonneg (Int.mul_nonneg h3 h5) h5
  have e2 : k * c ≤ 1000000 * 1000001 := Int.mul_le_mul h4 h6 h5 (by decide)
  have e3 : k * c * c ≤ 1000000 * 1000001 * 1000001 := Int.mul_le_mul e2 h6 h5 (by decide)
  refine ⟨by decide, by decide, ?_⟩
  omega
/-- what a call leaves that takes from a pot -/
def RetP {α : Type} (p : Addr) (n : Nat) (G H : Hp) (Q : VK) (r : R α) (x : α) : Prop := ∀ v G1 H1, Go [p] G H G1 H1 → Pot n p H1 → r G1 v x → Q v H1
section
variable (K : PySem.W.Frag) (CW : Addr)
def sp_law_pot (K : PySem.W.Frag) (CW : Addr) : Sp := Sp2 fun x y H Q _ => ∃ (a : Addr) (ns : List Int) (i : Nat), x = .ref a ∧ y = .int i ∧ SqL K H a (ns.map V.int) ∧ i ≤ 100 ∧ ∀ p H1, H p = none → Same H H1 → Pot 1000000 p H1 → Q (.ref p) H1
def sp_law_take (K : PySem.W.Frag) (CW : Addr) : Sp := Sp2 fun x y H Q _ => ∃ (p : Addr) (n : Nat) (u : Int), x = .ref p ∧ y = .int u ∧ 0 < u ∧ u < 10000000000000 ∧ Pot (n + 1) p H ∧
  ∀ d H', 0 ≤ d → d < u → Pot n p H' → But p H H' → Q (.int d) H'
def sp_law_some (K : PySem.W.Frag) (CW : Addr) : Sp := Sp3 fun x y z H Q _ => ∃ (p : Addr) (n : Nat) (a : Addr) (xs : List V) (many : Nat) (G : Hp), Same G H ∧ G p = none ∧ x = .ref p ∧ y = .ref a ∧ z = .int many ∧ (SqL K G a xs ∨ SqT K G a xs) ∧ many ≤ xs.length ∧ xs.length ≤ 1000 ∧ Pot (n + many) p H ∧
  ∀ ys l G1 H1, Go [p] G H G1 H1 → Pot n p H1 → G1 l = some (.lst ys) → ys.length = many → (∃ zs, (ys ++ zs).Perm xs) → Q (.ref l) H1
def sp_law_cells (K : PySem.W.Frag) (CW : Addr) : Sp := Sp2 fun x y H Q _ => ∃ (a : Addr) (ns : List Int), x = .ref a ∧ (∃ m : Int, y = .int m ∧ 1 ≤ m ∧ m ≤ 50) ∧ SqL K H a (ns.map V.int) ∧ ∀ (l : Addr) (k : Nat) H1, k ≤ 50 → Same H H1 → SqL K H1 l ((List.range k).map fun (n : Nat) => V.int n) → Q (.ref l) H1
def sp_law_web_text (K : PySem.W.Frag) (CW : Addr) : Sp := Sp1 fun x H Q _ => ∃ G js, Same G H ∧ rL K (rT K rS) G x js ∧ (∀ r ∈ js, RowOk r) ∧ js.length ≤ 100 ∧ ∀ H1, Same H H1 → Q (.str (webText js)) H1
/-- a row whose names stand in some sequence -/
def rP (K : PySem.W.Frag) : R (List Str) := fun H v r => ∃ r', rT K rS H v r' ∧ r'.Perm r
instance {K : PySem.W.Frag} : Mo (rP K) := ⟨fun e ⟨r', h1, h2⟩ => ⟨r', Mo.up e h1, h2⟩⟩
/-- the rows in a sequence of their own, each with its names so -/
def Turned (js own : Rows) : Prop := ∃ js1, Paired List.Perm js1 own ∧ js.Perm js1
theorem Turned.length {js own : Rows} (h : Turned js own) : js.length = own.length := by
  obtain ⟨js1, h1, h2⟩ := h
  exact h2.length_eq.trans (Paired.length h1)
def sp_law_web_turned (K : PySem.W.Frag) (CW : Addr) : Sp := Sp2 fun x y H Q _ => ∃ (p : Addr) (n : Nat) (G : Hp) (own : Rows), Same G H ∧ G p = none ∧ x = .ref p ∧ rL K (rT K rS) G y own ∧ (∀ r ∈ own, r.length = 3) ∧ own.length ≤ 100 ∧ Pot (n + 4 * own.length) p H ∧
  ∀ js, Turned js own → RetP p n G H Q (rL K (rT K rS)) js
theorem paired_at0 {α β : Type} {F : α → β → Prop} : ∀ {xs : List α} {ys : List β} {i : Nat} {x : α}, Paired F xs ys → xs[i]? = some x → ∃ y, ys[i]? = some y ∧ F x y
  | _, _, _, _, .nil, e => by simp at e
  | _, _, 0, _, .cons r _, e => ⟨_, rfl, by simp at e; rw [← e]; exact r⟩
  | _, _, i + 1, x, .cons _ q, e => by
    rcases paired_at0 (i := i) (x := x) q (by simpa using e) with ⟨y, h1, h2⟩
    exact ⟨y, by simpa using h1, h2⟩
/-- a number, a text, a truth -/
def flatT (x : V) : Prop := (∃ i : Int, x = .int i) ∨ (∃ s : Str, x = .str s) ∨ ∃ b : Bool, x = .bl b
/-- told as it is due: flat values, or tuples of such, n deep -/
def EqT (K : PySem.W.Frag) (H : Hp) : Nat → V → V → Prop
  | 0, x, y => x = y ∧ flatT x
  | n + 1, x, y => (x = y ∧ flatT x) ∨ ∃ a b ts us, x = .ref a ∧ y = .ref b ∧ SqT K H a ts ∧ SqT K H b us ∧ ts.length ≤ 1000 ∧ Paired (EqT K H n) ts us
theorem EqT.up {K : PySem.W.Frag} {H H1 : Hp} (e : Same H H1) : ∀ {n : Nat} {x y : V}, EqT K H n x y → EqT K H1 n x y
  | 0, _, _, h => h
  | n + 1, _, _, h => by
    rcases h with h | ⟨a, b, ts, us, h1, h2, h3, h4, h5, h6⟩
    · exact .inl h
    · exact .inr ⟨a, b, ts, us, h1, h2, seqT e h3, seqT e h4, h5, L2.Paired.mapP h6 fun _ _ z => EqT.up e z⟩
theorem EqT.flat {K : PySem.W.Frag} {H : Hp} {n : Nat} {x : V} (h : flatT x) : EqT K H n x x := by
  cases n with
  | zero => exact ⟨rfl, h⟩
  | succ n => exact .inl ⟨rfl, h⟩
theorem EqT.same {K : PySem.W.Frag} {H : Hp} {n : Nat} : ∀ {ts : List V}, (∀ t ∈ ts, flatT t) → Paired (EqT K H n) ts ts
  | [], _ => .nil
  | t :: ts, h => .cons (EqT.flat (h t List.mem_cons_self)) (EqT.same fun u hu => h u (List.mem_cons_of_mem _ hu))
theorem EqT.tup {K : PySem.W.Frag} {H : Hp} {n : Nat} {a b : Addr} {ts : List V} (h1 : SqT K H a ts) (h2 : SqT K H b ts) (hl : ts.length ≤ 1000) (h : ∀ t ∈ ts, flatT t) : EqT K H (n + 1) (.ref a) (.ref b) :=
  .inr ⟨a, b, ts, ts, rfl, rfl, h1, h2, hl, EqT.same h⟩
def sp_law_is_at (n : Nat) (K : PySem.W.Frag) (CW : Addr) : Sp := Sp2 fun x y H Q _ => EqT K H n x y ∧ ∀ H1, Same H H1 → Q (.bl true) H1
def sp_law_is (K : PySem.W.Frag) (CW : Addr) : Sp := sp_law_is_at 3 K CW
theorem flat_ints (l : List Int) : ∀ t ∈ l.map V.int, flatT t := fun t h => by
  obtain ⟨i, _, rfl⟩ := List.mem_map.mp h
  exact .inl ⟨i, rfl⟩
theorem flat_strs (l : List Str) : ∀ t ∈ l.map V.str, flatT t := fun t h => by
  obtain ⟨i, _, rfl⟩ := List.mem_map.mp h
  exact .inr (.inl ⟨i, rfl⟩)
/-- a letter and a letter by its number -/
def lw (l : Str) (n : Nat) : Str := l ++ ⟨#[97 + n]⟩
def sp_law_word (K : PySem.W.Frag) (CW : Addr) : Sp := Sp2 fun x y H Q _ => ∃ (l : Str) (n : Nat), x = .str l ∧ y = .int n ∧ n < 26 ∧ l.length ≤ 10 ∧ Q (.str (lw l n)) H
def combMid (j : Nat) : List Str := [lw "i" j, lw "e" (j + 2), lw "i" (j + 1)]
def combRows (j : Nat) : Rows := [lw "e" 0, lw "e" 1, lw "i" 0] :: (List.range j).map combMid
def combLast (ends : Nat) : List Str := [lw "i" (ends - 4), lw "e" (ends - 2), lw "e" (ends - 1)]
def combOf (ends : Nat) : Rows := if ends = 3 then [[lw "e" 0, lw "e" 1, lw "e" 2]] else combRows (ends - 4) ++ [combLast ends]
theorem combRows_succ (j : Nat) : combRows (j + 1) = combRows j ++ [combMid j] := by
  unfold combRows
  rw [List.range_succ, List.map_append]
  rfl
def ringOf (many : Nat) : Rows := (List.range many).map fun at' => [lw "r" at', lw "e" at', lw "r" ((at' + 1) % many)]
def drumOf (e : Str)   : Mw.Row := [e, ("d" : Str) ++ e, ("d" : Str) ++ e]
def sp_law_comb (K : PySem.W.Frag) (CW : Addr) : Sp := Sp1 fun x H Q _ => ∃ (G : Hp) (e : Nat), Same G H ∧ x = .int e ∧ 3 ≤ e ∧ e ≤ 14 ∧ Ret G H Q (rH (rT K rS)) (combOf e)
def sp_law_ring (K : PySem.W.Frag) (CW : Addr) : Sp := Sp1 fun x H Q _ => ∃ (G : Hp) (e : Nat), Same G H ∧ x = .int e ∧ 1 ≤ e ∧ e ≤ 12 ∧ Ret G H Q (rH (rT K rS)) (ringOf e)
def sp_law_drummed (K : PySem.W.Frag) (CW : Addr) : Sp := Sp2 fun x y H Q _ => ∃ (G : Hp) (own : Rows) (ds : List Str), Same G H ∧ rH (rT K rS) G x own ∧ rL K rS G y ds ∧ own.length ≤ 100 ∧ ds.length ≤ 100 ∧ (∀ d ∈ ds, d.length ≤ 10) ∧ Ret G H Q (rH (rT K rS)) (own ++ ds.map drumOf)
/-- a web that has so many ends, so many rounds, and these bridges -/
structure Fits (js : Rows) (ends rounds : Int) (spans : List Str) : Prop where
  good : Good js
  whole : Whole js
  hends : ((endsOf js).length : Int) = ends
  hrounds : roundsOf js = rounds
  hroads : ((roadsOf js).length : Int) = 2 * ends + 3 * rounds - 3
  hinner : ((innerOf js).length : Int) = ends + 3 * rounds - 3
  bridges : ∀ p : Str → Bool, (∀ z, z ∈ words js → (p z = true ↔ Bridge js z)) → (innerOf js).filter p = spans.mergeSort leS
def sp_law_is_so (K : PySem.W.Frag) (CW : Addr) : Sp := Sp5 fun x y z t u H Q _ => ∃ (p : Addr) (n : Nat) (G : Hp) (own : Rows) (ends rounds : Int) (spans : List Str), Same G H ∧ G p = none ∧ x = .ref p ∧ rL K (rT K rS) G y own ∧ z = .int ends ∧ t = .int rounds ∧ rL K rS G u spans ∧
  -100 ≤ ends ∧ ends ≤ 100 ∧ -100 ≤ rounds ∧ rounds ≤ 100 ∧ spans.length ≤ 50 ∧ Fits own ends rounds spans ∧ Pot (n + 4 * own.length) p H ∧ ∀ G1 H1, Go [p] G H G1 H1 → Pot n p H1 → Q (.bl true) H1
def sp_law_right (K : PySem.W.Frag) (CW : Addr) : Sp := Sp1 fun x H Q _ => ∃ (p : Addr), x = .ref p ∧ Pot 10000 p H ∧ ∀ H1, But p H H1 → Q (.bl true) H1
def sp_law (K : PySem.W.Frag) (CW : Addr) : Sp := Sp1 fun x H Q _ => ∃ (a : Addr) (ns : List Int), x = .ref a ∧ SqL K H a (ns.map V.int) ∧ ∀ H1, Same H H1 → Q (.bl true) H1
end
/-- words with numbers from 0 on, in a comprehension -/
theorem lc_words {K : PySem.W.Frag} {CW : Addr} {σ : L2.St} {vs : List Nat} {j n : Nat} {l : Str} {L : List Addr} {G H0 : Hp} {D : Addr} {Qd : Hp → Prop} (hl : l.length ≤ 10) (hn : n ≤ 26) (hG0 : Same G H0) (hD : H0 D = none) (hDL : D ∉ L)
    (hw : ∀ x, wipe ((wipe σ vs).set j (some x)) vs = wipe σ vs) (hv : ∀ x H Q, Q x H → tVar j ((wipe σ vs).set j (some x)) H Q)
    (done : ∀ ts G' H', Go L G H0 G' H' → H' D = some (.lst (((List.range n).map (lw l)).map V.str)) → G' D = some (.lst (((List.range n).map (lw l)).map V.str)) → ts = ((List.range n).map (lw l)).map V.str → Qd H') :
    ∃ W : Nat → Nat → Hp → Prop, (∃ m, W 0 m (upd H0 D (.lst []))) ∧ ∀ i m H, W i m H →
      ((Itr 0 n).stop i H ∧ Qd H) ∨ ((Itr 0 n).go i H ∧ ∃ Nx : Hp → Prop, (∀ H', Nx H' → ∃ m', m' < m ∧ W (i + 1) m' H') ∧ ∀ x H', (Itr 0 n).yld i H x H' → gName j x (wipe σ vs) H' fun σ2 H2 => wipe σ2 vs = wipe σ vs ∧ tYes σ2 H2 fun b H3 =>
        if b = true then tCall (sp_law_word K CW) [] E0 (tCons (tC (.str l)) (tCons (tVar j) tNil)) σ2 H3 fun y H4 => ∃ acc, H4 D = some (.lst acc) ∧ acc.length < sizeLine ∧ Nx (upd H4 D (.lst (acc ++ [y]))) else Nx H3) := by
  have hlen : ((List.range n).map (lw l)).length = n := by rw [List.length_map, List.length_range]
  refine lc_data (r := rS) (item := fun i x => x = .int (0 + (i : Int))) (ys := (List.range n).map (lw l)) (L := L) (G := G) (Inv := fun _ _ => True) (by rw [hlen]; exact walk_range) hG0 (fun _ _ => trivial) hD hDL (by omega) hw trivial (fun _ _ _ _ => trivial) (fun i x y G' H' hy hx go _ Q q => ?_) (fun ts G' H' go _ hD' gD' pr => ?_)
  · have hi : i < n := by
      rw [← hlen]
      exact (List.getElem?_eq_some_iff.mp hy).1
    obtain rfl : y = lw l i := by
      rw [List.getElem?_map, List.getElem?_range hi] at hy
      exact (Option.some.inj hy).symm
    rw [Int.zero_add] at hx
    subst hx
    refine hv _ _ _ ?_
    exact ⟨_, _, rfl, l, i, rfl, rfl, by omega, hl, q _ _ _ (Go.refl go.h) trivial rfl⟩
  · have e := pS pr
    rw [e] at hD' gD'
    exact done ts _ _ go hD' gD' e
end Tc
/-! webs in another sequence -/
namespace Tc
open PySem PySem.Spec PyProof.Rows L2 Fw Mw TL
theorem Adj.symm {js : Rows} {c : Str} {i k : Nat} (h : Adj js c i k) : Adj js c k i := by
  obtain ⟨r, q, x, h1, h2, h3, h4, h5⟩ := h
  exact ⟨q, r, x, h2, h1, h4, h3, h5⟩
theorem Reach.trans {js : Rows} {c : Str} {i j k : Nat} (a : Reach js c i j) (b : Reach js c j k) : Reach js c i k := by
  induction b with
  | here => exact a
  | step _ e ih => exact .step ih e
theorem Reach.symm {js : Rows} {c : Str} {i j : Nat} (a : Reach js c i j) : Reach js c j i := by
  induction a with
  | here => exact .here
  | step _ e ih => exact Reach.trans (.step .here (Adj.symm e)) ih
/-- the same rows at other places, their names in other sequences -/
structure Iso (js own : Rows) (f g : Nat → Nat) : Prop where
  to : ∀ i r, js[i]? = some r → ∃ q, own[f i]? = some q ∧ r.Perm q ∧ g (f i) = i
  fro : ∀ i q, own[i]? = some q → ∃ r, js[g i]? = some r ∧ r.Perm q ∧ f (g i) = i
theorem Iso.swap {js own : Rows} {f g : Nat → Nat} (h : Iso js own f g) : Iso own js g f :=
  ⟨fun i q e => by
    obtain ⟨r, h1, h2, h3⟩ := h.fro i q e
    exact ⟨r, h1, h2.symm, h3⟩, fun i r e => by
    obtain ⟨q, h1, h2, h3⟩ := h.to i r e
    exact ⟨q, h1, h2.symm, h3⟩⟩
theorem Iso.adj {js own : Rows} {f g : Nat → Nat} (h : Iso js own f g) {c : Str} {i k : Nat} (a : Adj js c i k) : Adj own c (f i) (f k) := by
  obtain ⟨r, q, x, h1, h2, h3, h4, h5⟩ := a
  obtain ⟨r', e1, p1, _⟩ := h.to i r h1
  obtain ⟨q', e2, p2, _⟩ := h.to k q h2
  exact ⟨r', q', x, e1, e2, p1.mem_iff.mp h3, p2.mem_iff.mp h4, h5⟩
theorem Iso.reach {js own : Rows} {f g : Nat → Nat} (h : Iso js own f g) {c : Str} {i k : Nat} (a : Reach js c i k) : Reach own c (f i) (f k) := by
  induction a with
  | here => exact .here
  | step _ e ih => exact .step ih (h.adj e)
theorem perm_idx {α : Type} {l l' : List α} (h : l.Perm l') : ∃ f g : Nat → Nat, (∀ i, i < l.length → f i < l'.length ∧ l'[f i]? = l[i]? ∧ g (f i) = i) ∧ (∀ j, j < l'.length → g j < l.length ∧ l[g j]? = l'[j]? ∧ f (g j) = j) := by
  induction h with
  | nil => exact ⟨id, id, fun i h => by simp at h, fun i h => by simp at h⟩
  | cons x _ ih =>
    obtain ⟨f, g, h1, h2⟩ := ih
    refine ⟨fun i => match i with | 0 => 0 | i + 1 => f i + 1, fun i => match i with | 0 => 0 | i + 1 => g i + 1, fun i hi => ?_, fun i hi => ?_⟩
    · cases i with
      | zero => simp
      | succ i =>
        have q := h1 i (by simpa using hi)
        simp only [List.length_cons, List.getElem?_cons_succ]
        exact ⟨by omega, q.2.1, by omega⟩
    · cases i with
      | zero => simp
      | succ i =>
        have q := h2 i (by simpa using hi)
        simp only [List.length_cons, List.getElem?_cons_succ]
        exact ⟨by omega, q.2.1, by omega⟩
  | swap x y l =>
    refine ⟨fun i => match i with | 0 => 1 | 1 => 0 | i + 2 => i + 2, fun i => match i with | 0 => 1 | 1 => 0 | i + 2 => i + 2, fun i hi => ?_, fun i hi => ?_⟩
    · match i with
      | 0 => simp
      | 1 => simp
      | i + 2 => simpa using hi
    · match i with
      | 0 => simp
      | 1 => simp
      | i + 2 => simpa using hi
  | trans _ _ ih1 ih2 =>
    obtain ⟨f1, g1, a1, a2⟩ := ih1
    obtain ⟨f2, g2, b1, b2⟩ := ih2
    refine ⟨fun i => f2 (f1 i), fun i => g1 (g2 i), fun i hi => ?_, fun i hi => ?_⟩
    · have p := a1 i hi
      have q := b1 _ p.1
      exact ⟨q.1, q.2.1.trans p.2.1, by show g1 (g2 (f2 (f1 i))) = i; rw [q.2.2, p.2.2]⟩
    · have p := b2 i hi
      have q := a2 _ p.1
      exact ⟨q.1, q.2.1.trans p.2.1, by show f2 (f1 (g1 (g2 i))) = i; rw [q.2.2, p.2.2]⟩
theorem paired_at {α β : Type} {F : α → β → Prop} : ∀ {xs : List α} {ys : List β} {i : Nat} {x : α}, Paired F xs ys → xs[i]? = some x → ∃ y, ys[i]? = some y ∧ F x y
  | _, _, _, _, .nil, e => by simp at e
  | _, _, 0, _, .cons r _, e => ⟨_, rfl, by simp at e; rw [← e]; exact r⟩
  | _, _, i + 1, x, .cons _ q, e => by
    rcases paired_at (i := i) (x := x) q (by simpa using e) with ⟨y, h1, h2⟩
    exact ⟨y, by simpa using h1, h2⟩
theorem paired_back {α β : Type} {F : α → β → Prop} : ∀ {xs : List α} {ys : List β} {i : Nat} {y : β}, Paired F xs ys → ys[i]? = some y → ∃ x, xs[i]? = some x ∧ F x y
  | _, _, _, _, .nil, e => by simp at e
  | _, _, 0, _, .cons r _, e => ⟨_, rfl, by simp at e; rw [← e]; exact r⟩
  | _, _, i + 1, x, .cons _ q, e => by
    rcases paired_back (i := i) (y := x) q (by simpa using e) with ⟨y, h1, h2⟩
    exact ⟨y, by simpa using h1, h2⟩
theorem turned_iso {js own : Rows} (t : Turned js own) : ∃ f g, Iso js own f g := by
  obtain ⟨js1, h1, h2⟩ := t
  obtain ⟨f, g, a, b⟩ := perm_idx h2
  refine ⟨f, g, fun i r e => ?_, fun i q e => ?_⟩
  · have hi := (List.getElem?_eq_some_iff.mp e).1
    have q := a i hi
    obtain ⟨y, h3, h4⟩ := paired_at h1 (q.2.1.trans e)
    exact ⟨y, h3, h4, q.2.2⟩
  · obtain ⟨x, h3, h4⟩ := paired_back h1 e
    have hi := (List.getElem?_eq_some_iff.mp h3).1
    have q := b i hi
    exact ⟨x, q.2.1.trans h3, h4, q.2.2⟩
theorem turned_words {js own : Rows} (t : Turned js own) : (words js).Perm (words own) := by
  obtain ⟨js1, h1, h2⟩ := t
  refine List.Perm.trans (List.Perm.flatten h2) ?_
  clear h2
  unfold words
  induction h1 with
  | nil => exact .refl _
  | cons a _ ih =>
    rw [List.flatten_cons, List.flatten_cons]
    exact a.append ih
theorem roads_perm {js own : Rows} (h : (words js).Perm (words own)) : roadsOf js = roadsOf own := by
  refine sort_uniq (sort_pair _) (sort_pair _) ?_
  exact (List.perm_ext_iff_of_nodup (nodup_roads js) (nodup_roads own)).mpr fun x => mem_roads.trans (h.mem_iff.trans mem_roads.symm)
theorem inner_perm {js own : Rows} (h : (words js).Perm (words own)) : innerOf js = innerOf own := by
  unfold innerOf
  rw [roads_perm h]
  exact List.filter_congr fun x _ => by rw [h.count_eq]
theorem ends_perm {js own : Rows} (h : (words js).Perm (words own)) : endsOf js = endsOf own := by
  unfold endsOf
  rw [roads_perm h]
  exact List.filter_congr fun x _ => by rw [h.count_eq]
/-- three junctions at one road: it stands three times -/
theorem three {js : Rows} {x : Str} {a b c : Nat} {ra rb rc : List Str} (hab : a < b) (hbc : b < c) (h1 : js[a]? = some ra) (h2 : js[b]? = some rb) (h3 : js[c]? = some rc) (m1 : x ∈ ra) (m2 : x ∈ rb) (m3 : x ∈ rc) : 3 ≤ js.flatten.count x := by
  have e1 := congrArg List.flatten (List.take_append_drop b js)
  have hb := (List.getElem?_eq_some_iff.mp h2)
  rw [List.flatten_append, List.drop_eq_getElem_cons hb.1, hb.2, List.flatten_cons] at e1
  rw [← e1, List.count_append, List.count_append]
  have p1 : 0 < ((js.take b).flatten).count x := List.count_pos_iff.mpr (List.mem_flatten.mpr ⟨ra, List.mem_of_getElem? (i := a) (by rw [List.getElem?_take_of_lt hab]; exact h1), m1⟩)
  have p2 : 0 < rb.count x := List.count_pos_iff.mpr m2
  have p3 : 0 < ((js.drop (b + 1)).flatten).count x := List.count_pos_iff.mpr (List.mem_flatten.mpr ⟨rc, List.mem_of_getElem? (i := c - (b + 1)) (by rw [List.getElem?_drop, show b + 1 + (c - (b + 1)) = c by omega]; exact h3), m3⟩)
  omega
/-- a bridge is a road two of whose junctions do not reach one another -/
theorem bridge_two {js : Rows} (h2 : ∀ x, js.flatten.count x ≤ 2) {z : Str} : Bridge js z ↔ ∃ i j r q, js[i]? = some r ∧ js[j]? = some q ∧ z ∈ r ∧ z ∈ q ∧ ¬ Reach js z i j := by
  constructor
  · rintro ⟨i, j, r, q, h1, h2, h3, h4, _, h6⟩
    exact ⟨i, j, r, q, h1, h2, h3, h4, h6⟩
  · have main : ∀ i j r q, i < j → js[i]? = some r → js[j]? = some q → z ∈ r → z ∈ q → ¬ Reach js z i j → Bridge js z := by
      intro i j r q lt e1 e2 m1 m2 nr
      refine ⟨i, j, r, q, e1, e2, m1, m2, fun k s ek mk => ?_, nr⟩
      have hz := h2 z
      constructor
      · rcases Nat.lt_or_ge k i with hk | hk
        · have := three hk lt ek e1 e2 mk m1 m2
          omega
        · exact hk
      · rcases Nat.lt_or_ge j k with hk | hk
        · have := three lt hk e1 e2 ek m1 m2 mk
          omega
        · exact hk
    rintro ⟨i, j, r, q, e1, e2, m1, m2, nr⟩
    rcases Nat.lt_trichotomy i j with lt | rfl | lt
    · exact main i j r q lt e1 e2 m1 m2 nr
    · exact absurd .here nr
    · exact main j i q r lt e2 e1 m2 m1 fun h => nr (Reach.symm h)
theorem iso_bridge {js own : Rows} {f g : Nat → Nat} (h : Iso js own f g) (h1 : ∀ x, js.flatten.count x ≤ 2) (h2 : ∀ x, own.flatten.count x ≤ 2) {z : Str} (b : Bridge js z) : Bridge own z := by
  obtain ⟨i, j, r, q, e1, e2, m1, m2, nr⟩ := (bridge_two h1).mp b
  obtain ⟨r', a1, p1, g1⟩ := h.to i r e1
  obtain ⟨q', a2, p2, g2⟩ := h.to j q e2
  refine (bridge_two h2).mpr ⟨f i, f j, r', q', a1, a2, p1.mem_iff.mp m1, p2.mem_iff.mp m2, fun c => nr ?_⟩
  have d := h.swap.reach c
  rw [g1, g2] at d
  exact d
theorem fits_turn {js own : Rows} {e r : Int} {s : List Str} (t : Turned js own) (h : Fits own e r s) : Fits js e r s := by
  obtain ⟨f, g, iso⟩ := turned_iso t
  have pw := turned_words t
  have len := t.length
  have tw : ∀ x, js.flatten.count x ≤ 2 := fun x => by
    have := h.good.twice x
    rw [show js.flatten.count x = own.flatten.count x from pw.count_eq x]
    exact this
  have good : Mw.Good js := by
    refine ⟨fun r hr => ?_, fun z => ?_, by rw [len]; exact h.good.most, tw⟩
    · obtain ⟨i, hi⟩ := List.getElem?_of_mem hr
      obtain ⟨q, e1, p1, _⟩ := iso.to i r hi
      have ok := h.good.rows q (List.mem_of_getElem? e1)
      exact ⟨p1.length_eq.trans ok.len, fun x hx => ok.names x (p1.mem_iff.mp hx)⟩
    · rw [z] at len
      exact h.good.some (List.length_eq_zero_iff.mp len.symm)
  have ei := inner_perm pw
  refine ⟨good, fun i hi => ?_, by rw [ends_perm pw]; exact h.hends, ?_, by rw [roads_perm pw]; exact h.hroads, by rw [ei]; exact h.hinner, fun p hp => ?_⟩
  · have h0 : 0 < js.length := by omega
    obtain ⟨q0, a0, _, b0⟩ := iso.to 0 js[0] (List.getElem?_eq_getElem h0)
    obtain ⟨qi, ai, _, bi⟩ := iso.to i js[i] (List.getElem?_eq_getElem hi)
    have l0 := (List.getElem?_eq_some_iff.mp a0).1
    have li := (List.getElem?_eq_some_iff.mp ai).1
    have rr := iso.swap.reach (Reach.trans (Reach.symm (h.whole _ l0)) (h.whole _ li))
    rw [b0, bi] at rr
    exact rr
  · have := h.hrounds
    unfold roundsOf at this ⊢
    rw [ei, len]
    exact this
  · rw [ei]
    refine h.bridges p fun z hz => ?_
    rw [hp z (pw.mem_iff.mpr hz)]
    exact ⟨iso_bridge iso tw h.good.twice, iso_bridge iso.swap h.good.twice tw⟩
theorem fits_spans {js : Rows} {e r : Int} {s s' : List Str} (h : Fits js e r s) (p : s.Perm s') : Fits js e r s' :=
  ⟨h.good, h.whole, h.hends, h.hrounds, h.hroads, h.hinner, fun f hf => (h.bridges f hf).trans (sort_uniq (sort_pair _) (sort_pair _) ((List.mergeSort_perm _ _).trans (p.trans (List.mergeSort_perm _ _).symm)))⟩
/-! ### a check of a web by its own rows -/
def eqS (a b : Str) : Bool := tl a == tl b
theorem eqS_iff {a b : Str} : eqS a b = true ↔ a = b := by
  unfold eqS
  rw [beq_iff_eq]
  exact ⟨tl_inj, fun h => by rw [h]⟩
def shareB (c : Str) (r q : List Str) : Bool := r.any fun x => !eqS x c && q.any fun y => eqS y x
theorem shareB_iff {c : Str} {r q : List Str} : shareB c r q = true ↔ ∃ x, x ∈ r ∧ x ∈ q ∧ x ≠ c := by
  unfold shareB
  rw [List.any_eq_true]
  constructor
  · rintro ⟨x, h1, h2⟩
    rw [Bool.and_eq_true, List.any_eq_true] at h2
    obtain ⟨h3, y, h4, h5⟩ := h2
    obtain rfl := eqS_iff.mp h5
    exact ⟨y, h1, h4, fun e => by rw [eqS_iff.mpr e] at h3; cases h3⟩
  · rintro ⟨x, h1, h2, h3⟩
    refine ⟨x, h1, ?_⟩
    rw [Bool.and_eq_true, List.any_eq_true]
    refine ⟨?_, x, h2, eqS_iff.mpr rfl⟩
    cases e : eqS x c with
    | false => rfl
    | true => exact absurd (eqS_iff.mp e) h3
def shareAt (js : Rows) (c : Str) (i k : Nat) : Bool := shareB c (js.getD i []) (js.getD k [])
theorem shareAt_iff {js : Rows} {c : Str} {i k : Nat} : shareAt js c i k = true ↔ Adj js c i k := by
  unfold shareAt
  rw [shareB_iff]
  constructor
  · rintro ⟨x, h1, h2, h3⟩
    have in1 : ∀ n, x ∈ js.getD n [] → js[n]? = some (js.getD n []) := fun n hx => by
      rcases Nat.lt_or_ge n js.length with h | h
      · exact at_of h
      · rw [List.getD_eq_getElem?_getD, List.getElem?_eq_none h] at hx
        cases hx
    exact ⟨_, _, x, in1 i h1, in1 k h2, h1, h2, h3⟩
  · rintro ⟨r, q, x, h1, h2, h3, h4, h5⟩
    rw [getD_of h1, getD_of h2]
    exact ⟨x, h3, h4, h5⟩
/-- each is next to one that was seen -/
def spanB (js : Rows) (c : Str) : List Nat → List Nat → Bool
  | _, [] => true
  | seen, k :: rest => (seen.any fun s => shareAt js c s k) && spanB js c (k :: seen) rest
theorem spanB_sound {js : Rows} {c : Str} {i : Nat} : ∀ {rest seen : List Nat}, spanB js c seen rest = true → (∀ s ∈ seen, Reach js c i s) → ∀ k, k ∈ seen ∨ k ∈ rest → Reach js c i k
  | [], seen, _, h, k, hk => h k (hk.resolve_right (by simp))
  | m :: rest, seen, e, h, k, hk => by
    unfold spanB at e
    rw [Bool.and_eq_true, List.any_eq_true] at e
    obtain ⟨⟨s, hs, a⟩, e2⟩ := e
    have hm : Reach js c i m := .step (h s hs) (shareAt_iff.mp a)
    refine spanB_sound e2 (fun t ht => ?_) k ?_
    · rcases List.mem_cons.mp ht with rfl | ht
      · exact hm
      · exact h t ht
    · rcases hk with hk | hk
      · exact .inl (List.mem_cons_of_mem _ hk)
      · rcases List.mem_cons.mp hk with rfl | hk
        · exact .inl List.mem_cons_self
        · exact .inr hk
/-- a number's side of the cut: that of one ahead of it that is next to it, else the other one -/
def colB (c : Str) : List (List Str × Bool) → Rows → List Bool
  | _, [] => []
  | done, r :: rest =>
    let b := match done.find? (fun d => shareB c d.1 r) with
      | some d => d.2
      | none => done.isEmpty
    b :: colB c (done ++ [(r, b)]) rest
def cutB (js : Rows) (c : Str) (i j : Nat) : Bool :=
  let bs := colB c [] js
  ((List.range js.length).all fun a => (List.range js.length).all fun b => (bs.getD a false == bs.getD b false) || !shareAt js c a b) && (bs.getD i false != bs.getD j false)
theorem cutB_sound {js : Rows} {c : Str} {i j : Nat} (h : cutB js c i j = true) : ¬ Reach js c i j := by
  unfold cutB at h
  simp only [Bool.and_eq_true, List.all_eq_true, List.mem_range] at h
  obtain ⟨h1, h2⟩ := h
  intro r
  have main : ∀ k, Reach js c i k → (colB c [] js).getD i false = (colB c [] js).getD k false := by
    intro k rk
    induction rk with
    | here => rfl
    | step _ a ih =>
      have l1 := Adj.lt a
      have l2 := Adj.lt (Adj.symm a)
      have q := h1 _ l2 _ l1
      rw [shareAt_iff.mpr a, Bool.not_true, Bool.or_false, beq_iff_eq] at q
      exact ih.trans q
  rw [main j r] at h2
  simp at h2
/-- without doubles -/
def ddB : List Str → List Str
  | [] => []
  | x :: l => if l.any (eqS x) then ddB l else x :: ddB l
theorem mem_dd {y : Str} : ∀ {l : List Str}, y ∈ ddB l ↔ y ∈ l
  | [] => Iff.rfl
  | x :: l => by
    unfold ddB
    split
    · rename_i h
      rw [mem_dd, List.mem_cons]
      refine ⟨.inr, fun e => ?_⟩
      rcases e with rfl | e
      · obtain ⟨z, hz, ez⟩ := List.any_eq_true.mp h
        rw [eqS_iff.mp ez]
        exact hz
      · exact e
    · rw [List.mem_cons, List.mem_cons, mem_dd]
theorem nodup_dd : ∀ {l : List Str}, (ddB l).Nodup
  | [] => .nil
  | x :: l => by
    unfold ddB
    split
    · exact nodup_dd
    · rename_i h
      refine List.nodup_cons.mpr ⟨fun m => h (List.any_eq_true.mpr ⟨x, mem_dd.mp m, eqS_iff.mpr rfl⟩), nodup_dd⟩
def cntB (l : List Str) (x : Str) : Nat := (l.filter (eqS x)).length
theorem cntB_eq (l : List Str) (x : Str) : cntB l x = l.count x := by
  unfold cntB
  rw [List.count, List.countP_eq_length_filter]
  congr 1
  refine List.filter_congr fun y _ => ?_
  rw [Bool.eq_iff_iff, eqS_iff, beq_iff_eq]
  exact eq_comm
theorem roads_dd (js : Rows) : (roadsOf js).Perm (ddB (words js)) :=
  (List.perm_ext_iff_of_nodup (nodup_roads js) nodup_dd).mpr fun x => mem_roads.trans mem_dd.symm
def sideB (js : Rows) (z : Str) : List Nat := (List.range js.length).filter fun j => (js.getD j []).any (eqS z)
theorem mem_sideB {js : Rows} {z : Str} {j : Nat} : j ∈ sideB js z ↔ ∃ r, js[j]? = some r ∧ z ∈ r := by
  unfold sideB
  rw [List.mem_filter, List.mem_range, List.any_eq_true]
  constructor
  · rintro ⟨h1, y, h2, h3⟩
    exact ⟨js.getD j [], at_of h1, by rw [eqS_iff.mp h3]; exact h2⟩
  · rintro ⟨r, h1, h2⟩
    exact ⟨(List.getElem?_eq_some_iff.mp h1).1, z, by rw [getD_of h1]; exact h2, eqS_iff.mpr rfl⟩
def brB (js : Rows) (z : Str) : Bool :=
  match sideB js z with
  | i :: j :: _ => cutB js z i j
  | _ => false
theorem brB_sound {js : Rows} (h2 : ∀ x, js.flatten.count x ≤ 2) {z : Str} (h : brB js z = true) : Bridge js z := by
  unfold brB at h
  split at h
  · rename_i i j l e
    have hi : i ∈ sideB js z := by rw [e]; simp
    have hj : j ∈ sideB js z := by rw [e]; simp
    obtain ⟨r, e1, m1⟩ := mem_sideB.mp hi
    obtain ⟨q, e2, m2⟩ := mem_sideB.mp hj
    exact (bridge_two h2).mpr ⟨i, j, r, q, e1, e2, m1, m2, cutB_sound h⟩
  · cases h
def rotB (n a : Nat) : List Nat := (List.range n).map fun t => if a + t < n then a + t else a + t - n
theorem mem_rot {n a k : Nat} (ha : a < n) (hk : k < n) : k ∈ rotB n a := by
  unfold rotB
  rw [List.mem_map]
  rcases Nat.lt_or_ge k a with h | h
  · exact ⟨n - a + k, by rw [List.mem_range]; omega, by rw [if_neg (by omega)]; omega⟩
  · exact ⟨k - a, by rw [List.mem_range]; omega, by rw [if_pos (by omega)]; omega⟩
def rollB (js : Rows) (z : Str) (a : Nat) : Bool := decide (a < js.length) && spanB js z [a] ((rotB js.length a).drop 1)
def nbB (js : Rows) (z : Str) : Bool :=
  match sideB js z with
  | [_] => true
  | [i, j] => rollB js z i || rollB js z j
  | _ => false
theorem roll_sound {js : Rows} {z : Str} {a i j : Nat} (h : rollB js z a = true) (hi : i < js.length) (hj : j < js.length) : Reach js z i j := by
  unfold rollB at h
  rw [Bool.and_eq_true, decide_eq_true_eq] at h
  have all : ∀ k, k < js.length → Reach js z a k := fun k hk => by
    refine spanB_sound (i := a) h.2 (fun s hs => by rw [List.mem_singleton] at hs; rw [hs]; exact .here) k ?_
    have m := mem_rot h.1 hk
    cases e : rotB js.length a with
    | nil => rw [e] at m; cases m
    | cons x l =>
      rw [e] at m
      have hx : x = a := by
        have h0 : js.length ≠ 0 := by omega
        unfold rotB at e
        obtain ⟨n, hn⟩ := Nat.exists_eq_succ_of_ne_zero h0
        rw [hn, List.range_succ_eq_map, List.map_cons] at e
        have := (List.cons.inj e).1
        rw [if_pos (by omega)] at this
        omega
      rcases List.mem_cons.mp m with e2 | m
      · exact .inl (by rw [e2, hx]; simp)
      · exact .inr m
  exact Reach.trans (Reach.symm (all i hi)) (all j hj)
theorem nbB_sound {js : Rows} (h2 : ∀ x, js.flatten.count x ≤ 2) {z : Str} (h : nbB js z = true) : ¬ Bridge js z := by
  rw [bridge_two h2]
  rintro ⟨i, j, r, q, e1, e2, m1, m2, nr⟩
  have si : i ∈ sideB js z := mem_sideB.mpr ⟨r, e1, m1⟩
  have sj : j ∈ sideB js z := mem_sideB.mpr ⟨q, e2, m2⟩
  have li := (List.getElem?_eq_some_iff.mp e1).1
  have lj := (List.getElem?_eq_some_iff.mp e2).1
  unfold nbB at h
  split at h
  · rename_i a e
    rw [e, List.mem_singleton] at si sj
    rw [si, sj] at nr
    exact nr .here
  · rename_i a b e
    rw [Bool.or_eq_true] at h
    rcases h with h | h
    · exact nr (roll_sound h li lj)
    · exact nr (roll_sound h li lj)
  · cases h
def nodB : List Str → Bool
  | [] => true
  | x :: l => !l.any (eqS x) && nodB l
theorem nodB_sound : ∀ {l : List Str}, nodB l = true → l.Nodup
  | [], _ => .nil
  | x :: l, h => by
    unfold nodB at h
    rw [Bool.and_eq_true] at h
    refine List.nodup_cons.mpr ⟨fun m => ?_, nodB_sound h.2⟩
    have := List.any_eq_true.mpr ⟨x, m, eqS_iff.mpr rfl⟩
    rw [this] at h
    exact absurd h.1 (by decide)
def fitsB2 (js : Rows) (e r : Int) (spans dd inner : List Str) : Bool :=
  decide (((dd.filter fun x => decide (cntB (words js) x = 1)).length : Int) = e) && decide ((inner.length : Int) - (js.length : Int) + 1 = r) && decide ((dd.length : Int) = 2 * e + 3 * r - 3) && decide ((inner.length : Int) = e + 3 * r - 3) &&
  spans.all (fun s => inner.any (eqS s)) && nodB spans && inner.all fun z => if spans.any (eqS z) then brB js z else nbB js z
def goodB (js : Rows) : Bool := js.all (fun r => decide (r.length = 3) && r.all isName) && !js.isEmpty && decide (js.length ≤ 12) && ((words js).all fun x => decide (cntB (words js) x ≤ 2)) && spanB js "" [0] ((List.range js.length).drop 1)
def fitsB (js : Rows) (e r : Int) (spans : List Str) : Bool :=
  goodB js && fitsB2 js e r spans (ddB (words js)) ((ddB (words js)).filter fun x => decide (cntB (words js) x = 2))
theorem good_sound {js : Rows} (h : goodB js = true) : Mw.Good js ∧ Whole js := by
  unfold goodB at h
  simp only [Bool.and_eq_true, List.all_eq_true, decide_eq_true_eq] at h
  obtain ⟨⟨⟨⟨h1, h2⟩, h3⟩, h4⟩, h5⟩ := h
  refine ⟨⟨fun r hr => ⟨(h1 r hr).1, (h1 r hr).2⟩, fun e => ?_, h3, fun x => ?_⟩, fun i hi => ?_⟩
  · rw [e] at h2
    cases h2
  · rcases Decidable.em (x ∈ js.flatten) with m | m
    · have := h4 x m
      rw [cntB_eq] at this
      exact this
    · rw [List.count_eq_zero_of_not_mem m]
      exact Nat.zero_le _
  · refine spanB_sound (i := 0) h5 (fun s hs => by rw [List.mem_singleton] at hs; rw [hs]; exact .here) i ?_
    have m : i ∈ List.range js.length := List.mem_range.mpr hi
    obtain ⟨n, hn⟩ := Nat.exists_eq_succ_of_ne_zero (show js.length ≠ 0 by omega)
    rw [hn, List.range_succ_eq_map] at m ⊢
    rcases List.mem_cons.mp m with e | m
    · exact .inl (by rw [e]; simp)
    · exact .inr m
theorem fits_sound {js : Rows} {e r : Int} {spans : List Str} (h : fitsB js e r spans = true) : Fits js e r spans := by
  unfold fitsB at h
  rw [Bool.and_eq_true] at h
  obtain ⟨hg, h⟩ := h
  obtain ⟨good, whole⟩ := good_sound hg
  unfold fitsB2 at h
  simp only [Bool.and_eq_true, decide_eq_true_eq, List.all_eq_true] at h
  obtain ⟨⟨⟨⟨⟨⟨h1, h2⟩, h3⟩, h4⟩, h5⟩, h6⟩, h7⟩ := h
  have rd := roads_dd js
  have pin : (innerOf js).Perm ((ddB (words js)).filter fun x => decide (cntB (words js) x = 2)) := by
    unfold innerOf
    refine (rd.filter _).trans ?_
    simp only [cntB_eq]
    exact List.Perm.refl _
  have pen : (endsOf js).Perm ((ddB (words js)).filter fun x => decide (cntB (words js) x = 1)) := by
    unfold endsOf
    refine (rd.filter _).trans ?_
    simp only [cntB_eq]
    exact List.Perm.refl _
  refine ⟨good, whole, by rw [pen.length_eq]; exact h1, ?_, by rw [rd.length_eq]; exact h3, by rw [pin.length_eq]; exact h4, fun p hp => ?_⟩
  · unfold roundsOf
    rw [pin.length_eq]
    exact h2
  have key : ∀ z ∈ innerOf js, (p z = true ↔ z ∈ spans) := fun z hz => by
    have q := h7 z (pin.mem_iff.mp hz)
    have hw : z ∈ words js := mem_roads.mp (List.mem_filter.mp hz).1
    rw [hp z hw]
    by_cases m : z ∈ spans
    · rw [if_pos (List.any_eq_true.mpr ⟨z, m, eqS_iff.mpr rfl⟩)] at q
      exact ⟨fun _ => m, fun _ => brB_sound good.twice q⟩
    · rw [if_neg (fun a => m (by
        obtain ⟨y, h8, h9⟩ := List.any_eq_true.mp a
        rw [eqS_iff.mp h9]
        exact h8))] at q
      exact ⟨fun b => absurd b (nbB_sound good.twice q), fun a => absurd a m⟩
  refine sort_uniq ?_ (sort_pair _) (List.Perm.trans ?_ (List.mergeSort_perm _ _).symm)
  · unfold innerOf
    exact ((sort_pair _).filter _).filter _
  · refine (List.perm_ext_iff_of_nodup (((nodup_roads js).filter _).filter _) (nodB_sound h6)).mpr fun x => ?_
    rw [List.mem_filter]
    constructor
    · rintro ⟨a, b⟩
      exact (key x a).mp b
    · intro a
      obtain ⟨y, h8, h9⟩ := List.any_eq_true.mp (h5 x a)
      obtain rfl := eqS_iff.mp h9
      have m := pin.mem_iff.mpr h8
      exact ⟨m, (key _ m).mpr a⟩
abbrev ins (n : Nat) : List Str := (List.range n).map (lw "i")
abbrev ens (n : Nat) : List Str := (List.range n).map (lw "e")
theorem fits_two : Fits [["a", "b", "c"], ["b", "c", "a"]] 0 2 [] := fits_sound (by decide +kernel)
theorem fits_comb {e : Nat} (h1 : 3 ≤ e) (h2 : e ≤ 14) : Fits (combOf e) e 0 (ins (e - 3)) := by
  have all : ∀ k : Fin 12, fitsB (combOf (k.1 + 3)) ((k.1 + 3 : Nat) : Int) 0 (ins k.1) = true := by decide +kernel
  have q := fits_sound (all ⟨e - 3, by omega⟩)
  rw [show e - 3 + 3 = e by omega] at q
  exact q
theorem fits_ring {m : Nat} (h1 : 1 ≤ m) (h2 : m ≤ 12) : Fits (ringOf m) m 1 [] := by
  have all : ∀ k : Fin 12, fitsB (ringOf (k.1 + 1)) ((k.1 + 1 : Nat) : Int) 1 [] = true := by decide +kernel
  have q := fits_sound (all ⟨m - 1, by omega⟩)
  rw [show m - 1 + 1 = m by omega] at q
  exact q
theorem paired_refl : ∀ l : Rows, Paired List.Perm l l
  | [] => .nil
  | _ :: l => .cons (.refl _) (paired_refl l)
def subs : List Str → List (List Str)
  | [] => [[]]
  | x :: l => subs l ++ (subs l).map (x :: ·)
theorem filter_subs (p : Str → Bool) : ∀ l : List Str, l.filter p ∈ subs l
  | [] => by simp [subs]
  | x :: l => by
    unfold subs
    rw [List.filter_cons]
    split
    · exact List.mem_append_right _ (List.mem_map.mpr ⟨_, filter_subs p l, rfl⟩)
    · exact List.mem_append_left _ (filter_subs p l)
theorem fits_drum {few : Nat} (h1 : 3 ≤ few) (h2 : few ≤ 6) {ys zs : List Str} (hp : (ys ++ zs).Perm (ens few)) (hy : 1 ≤ ys.length) : Fits (combOf few ++ ys.map drumOf) ((few : Int) - ys.length) ys.length (ins (few - 3) ++ ys) := by
  have all : ∀ k : Fin 4, ((subs (ens (k.1 + 3))).all fun s => s.isEmpty || fitsB (combOf (k.1 + 3) ++ s.map drumOf) (((k.1 + 3 : Nat) : Int) - s.length) s.length (ins k.1 ++ s)) = true ∧ nodB (ens (k.1 + 3)) = true := by decide +kernel
  have q := all ⟨few - 3, by omega⟩
  simp only [show few - 3 + 3 = few by omega] at q
  have nd := nodB_sound q.2
  have ndy : ys.Nodup := (List.nodup_append.mp (hp.nodup_iff.mpr nd)).1
  have hp2 : ys.Perm ((ens few).filter fun x => decide (x ∈ ys)) := (List.perm_ext_iff_of_nodup ndy (nd.filter _)).mpr fun x => by
    rw [List.mem_filter, decide_eq_true_eq]
    exact ⟨fun m => ⟨hp.mem_iff.mp (List.mem_append_left _ m), m⟩, fun m => m.2⟩
  have q2 := List.all_eq_true.mp q.1 _ (filter_subs (fun x => decide (x ∈ ys)) (ens few))
  generalize (ens few).filter (fun x => decide (x ∈ ys)) = y0 at hp2 q2
  have l0 := hp2.length_eq
  rw [Bool.or_eq_true] at q2
  have q3 : fitsB (combOf few ++ y0.map drumOf) ((few : Int) - y0.length) y0.length (ins (few - 3) ++ y0) = true := by
    rcases q2 with q2 | q2
    · rw [List.isEmpty_iff] at q2
      rw [q2, List.length_nil] at l0
      omega
    · exact q2
  have F := fits_spans (fits_sound q3) (List.Perm.append_left (ins (few - 3)) hp2.symm)
  rw [← l0] at F
  exact fits_turn ⟨combOf few ++ y0.map drumOf, paired_refl _, List.Perm.append_left _ (hp2.map _)⟩ F
end Tc
/-! list of a text; a, b = a list -/
namespace Fw
open PySem PySem.Spec PyProof.Rows L2 TL
def rChars : List V → Hp → VK → Prop := fun xs H Q => ∃ z : Str, xs = [.str z] ∧ z.length ≤ sizeLine ∧ ∀ l, H l = none → Q (.ref l) (upd H l (.lst ((tl z).map fun c => V.str ⟨#[c]⟩)))
theorem call_chars {X : Cx} (hc : X.calm = true) : CallR X (.type "list") rChars := by
  intro pins s σ H xs us Q I r h
  obtain ⟨z, rfl, hz, q⟩ := h
  obtain ⟨u, rfl, t, rfl⟩ := vals1 r
  refine call_list_str (I.ok.hd hc) z t (fun h' tk acc' c' kp e it => ?_) hz
  have e0 : acc'.toList.length = z.cps.size := by rw [Array.length_toList]; exact it.1
  have rv : Vals ((tl z).map fun c => V.str ⟨#[c]⟩) acc'.toList := by
    refine vals_of_idx _ _ (by rw [e0, List.length_map]; simp) fun j v hj => ?_
    have hj' : acc'[j]? = some v := by rw [← Array.getElem?_toList]; exact hj
    have hlt : j < z.cps.size := by
      rw [← e0]
      exact (List.getElem?_eq_some_iff.mp hj).1
    obtain ⟨c, w, h1, h2⟩ := it.2 j v hj'
    refine ⟨.str ⟨#[c]⟩, ?_, h2 ▸ ⟨w, rfl⟩⟩
    rw [List.getElem?_map, Array.getElem?_toList, h1]
    rfl
  exact ⟨.ref s.heap.objs.size, _, I.laid (t' := tk) kp (Nat.le_refl _) (show ObjOk X.prog X.w _ h' _ (.lst ((tl z).map fun c => V.str ⟨#[c]⟩)) from ⟨by
    rw [List.length_map, Array.length_toList]
    exact hz, acc'.toList, c', rv, by simpa using e⟩), rfl, q _ (I.hok.fresh (Nat.le_refl _))⟩
theorem pg_unlK {X : Cx} {es : List Expr} {k n : Nat} {ts : TGs} {pos : Pos} (K : PySem.W.Frag) (hK : X.K = K) (hc : X.calm = true) (h : PGs X es ts) (hn : (assignEach es X.env).length = n := by rfl) (hst : (assignEach es X.env).findIdx? (·.1) = none := by rfl) : PG X (.Tuple es k pos) (gUnl K n ts) := by subst hK; exact pg_unl hc h hn hst
end Fw
/-! promises: webs drawn, and what the law itself tells of them -/
namespace Tc
open PySem PySem.Spec PyProof.Rows L2 Fw Mw TL
def pool : List Str := (tl ("abcdefghijklmnopqrstuvwxyz" : Str)).map (fun c => (⟨#[c]⟩ : Str)) ++ (["meet", "web", "road", "ab", "zz", "round"] : List Str)
theorem pool_nodup : pool.Nodup := nodB_sound (by decide +kernel)
theorem pool_names : ∀ x ∈ pool, isName x = true := List.all_eq_true.mp (show pool.all isName = true by decide +kernel)
theorem pool_len : pool.length = 32 := by decide +kernel
/-- how often each word stands, as a dict -/
def cntK (ks ws : List Str) : List (Key × V) := ks.map fun x => ((Sum.inr x : Key), V.int (ws.count x : Nat))
theorem val_cnt (ws : List Str) (x : Str) : ∀ ks : List Str, valV (cntK ks ws) (Sum.inr x) = if x ∈ ks then some (V.int (ws.count x : Nat)) else none
  | [] => rfl
  | y :: ks => by
    show valV (((Sum.inr y : Key), V.int (ws.count y : Nat)) :: cntK ks ws) (Sum.inr x) = _
    by_cases e : y = x
    · subst e
      rw [valV_pos rfl, if_pos List.mem_cons_self]
    · rw [valV_neg (fun z => e (Sum.inr.inj z)), val_cnt ws x ks]
      by_cases m : x ∈ ks
      · rw [if_pos m, if_pos (List.mem_cons_of_mem _ m)]
      · rw [if_neg m, if_neg fun z => (List.mem_cons.mp z).elim (fun z => e z.symm) m]
theorem get_cnt {ks ws : List Str} (h : ∀ x, x ∈ ks ↔ x ∈ ws) (x : Str) : (valV (cntK ks ws) (Sum.inr x)).getD (.int 0) = .int (ws.count x : Nat) := by
  rw [val_cnt]
  by_cases m : x ∈ ks
  · rw [if_pos m]
    rfl
  · rw [if_neg m, List.count_eq_zero_of_not_mem fun z => m ((h x).mpr z)]
    rfl
theorem count_snoc (ws : List Str) (x y : Str) : (ws ++ [x]).count y = ws.count y + if x = y then 1 else 0 := by
  rw [List.count_append, List.count_singleton]
  by_cases e : x = y
  · subst e; simp
  · simp [e]
theorem put_cnt {ks ws : List Str} (nd : ks.Nodup) (h : ∀ x, x ∈ ks ↔ x ∈ ws) (x : Str) : ∃ ks', putK (cntK ks ws) (Sum.inr x) (.int ((ws.count x : Nat) + 1)) = cntK ks' (ws ++ [x]) ∧ ks'.Nodup ∧ (∀ y, y ∈ ks' ↔ y ∈ ws ++ [x]) ∧ ks'.length ≤ ks.length + 1 := by
  by_cases m : x ∈ ks
  · refine ⟨ks, ?_, nd, fun y => ?_, by omega⟩
    · unfold putK
      rw [valV_any, val_cnt, if_pos m]
      show List.map _ (cntK ks ws) = _
      unfold cntK
      rw [List.map_map]
      refine List.map_congr_left fun y _ => ?_
      show (if (Sum.inr y : Key) = Sum.inr x then _ else _) = _
      rw [count_snoc]
      by_cases e : y = x
      · subst e
        rw [if_pos rfl, if_pos rfl]
        rfl
      · rw [if_neg (fun z => e (Sum.inr.inj z)), if_neg (fun z => e z.symm)]
        rfl
    · rw [List.mem_append, List.mem_singleton, ← h y]
      exact ⟨.inl, fun z => z.elim id fun e => e ▸ m⟩
  · have m2 : x ∉ ws := fun z => m ((h x).mpr z)
    refine ⟨ks ++ [x], ?_, ?_, fun y => ?_, by simp⟩
    · rw [putK_new _ (by rw [val_cnt, if_neg m])]
      unfold cntK
      rw [List.map_append]
      congr 1
      · refine List.map_congr_left fun y hy => ?_
        rw [count_snoc, if_neg fun (z : x = y) => m (z ▸ hy)]
        rfl
      · show [((Sum.inr x : Key), V.int (((ws.count x : Nat) : Int) + 1))] = [((Sum.inr x : Key), V.int (((ws ++ [x]).count x : Nat) : Int))]
        rw [count_snoc, if_pos rfl]
        rfl
    · rw [List.nodup_append]
      exact ⟨nd, by simp, fun a ha b hb z => m (by rw [List.mem_singleton] at hb; rw [← hb, ← z]; exact ha)⟩
    · rw [List.mem_append, List.mem_append, h y]
/-- each name called otherwise, times times at most -/
def putRow (old new : Str) : Int → List Str → List Str
  | _, [] => []
  | t, x :: r => (if x = old ∧ 0 < t then new else x) :: putRow old new (if x = old then t - 1 else t) r
def putRows (old new : Str) : Int → Rows → Rows
  | _, [] => []
  | t, r :: l => putRow old new t r :: putRows old new (t - (r.count old : Nat)) l
theorem putRow_snoc (old new : Str) (x : Str) : ∀ (l : List Str) (t : Int), putRow old new t (l ++ [x]) = putRow old new t l ++ [if x = old ∧ 0 < t - (l.count old : Nat) then new else x]
  | [], t => by simp [putRow]
  | y :: l, t => by
    show (if y = old ∧ 0 < t then new else y) :: putRow old new (if y = old then t - 1 else t) (l ++ [x]) = (if y = old ∧ 0 < t then new else y) :: putRow old new (if y = old then t - 1 else t) l ++ _
    rw [putRow_snoc old new x l]
    have e : (if y = old then t - 1 else t) - (l.count old : Nat) = t - ((y :: l).count old : Nat) := by
      rw [List.count_cons]
      by_cases e : y = old
      · simp only [e, if_true, beq_self_eq_true]
        omega
      · rw [if_neg e, if_neg (by simpa using e)]
        omega
    rw [e]
    rfl
theorem putRows_snoc (old new : Str) (r : List Str) : ∀ (l : Rows) (t : Int), putRows old new t (l ++ [r]) = putRows old new t l ++ [putRow old new (t - (l.flatten.count old : Nat)) r]
  | [], t => by simp [putRows]
  | y :: l, t => by
    show putRow old new t y :: putRows old new (t - (y.count old : Nat)) (l ++ [r]) = putRow old new t y :: putRows old new (t - (y.count old : Nat)) l ++ _
    rw [putRows_snoc old new r l]
    have e : t - (y.count old : Nat) - (l.flatten.count old : Nat) = t - ((y :: l).flatten.count old : Nat) := by
      rw [List.flatten_cons, List.count_append]
      omega
    rw [e]
    rfl
theorem putRow_len (old new : Str) : ∀ (l : List Str) (t : Int), (putRow old new t l).length = l.length
  | [], _ => rfl
  | _ :: l, t => congrArg Nat.succ (putRow_len old new l _)
theorem putRows_len (old new : Str) : ∀ (l : Rows) (t : Int), (putRows old new t l).length = l.length
  | [], _ => rfl
  | _ :: l, t => congrArg Nat.succ (putRows_len old new l _)
theorem len_counts : ∀ (ks ws : List Str), ks.Nodup → (∀ x ∈ ws, x ∈ ks) → ws.length = (ks.map fun x => ws.count x).sum
  | [], ws, _, h => by
    cases ws with
    | nil => rfl
    | cons x l => exact absurd (h x List.mem_cons_self) (by simp)
  | k :: ks, ws, nd, h => by
    obtain ⟨n1, n2⟩ := List.nodup_cons.mp nd
    have ih := len_counts ks (ws.filter fun x => !(x == k)) n2 fun x hx => by
      obtain ⟨h1, h2⟩ := List.mem_filter.mp hx
      rcases List.mem_cons.mp (h x h1) with e | m
      · rw [e] at h2
        simp at h2
      · exact m
    have e1 : ws.length = ws.count k + (ws.filter fun x => !(x == k)).length := by
      have := List.length_eq_countP_add_countP (p := fun x => x == k) (l := ws)
      rw [List.countP_eq_length_filter, List.countP_eq_length_filter] at this
      rw [List.count, List.countP_eq_length_filter, show (ws.filter fun x => !(x == k)) = ws.filter fun a => !decide (a = k) from List.filter_congr fun a _ => by by_cases e : a = k <;> simp [e]]
      simpa using this
    have e2 : (ks.map fun x => (ws.filter fun x => !(x == k)).count x) = ks.map fun x => ws.count x := by
      refine List.map_congr_left fun x hx => ?_
      refine List.count_filter ?_
      have : x ≠ k := fun e => n1 (e ▸ hx)
      simpa using this
    rw [List.map_cons, List.sum_cons, e1, ih, e2]
theorem sum_two {c : Str → Nat} : ∀ ks : List Str, (∀ x ∈ ks, c x = 1 ∨ c x = 2) → (ks.map c).sum = (ks.filter fun x => decide (c x = 1)).length + 2 * (ks.filter fun x => decide (c x = 2)).length
  | [], _ => rfl
  | k :: ks, h => by
    have ih := sum_two ks fun x hx => h x (List.mem_cons_of_mem _ hx)
    rw [List.map_cons, List.sum_cons, ih, List.filter_cons, List.filter_cons]
    rcases h k List.mem_cons_self with e | e
    · rw [e]
      simp
      omega
    · rw [e]
      simp
      omega
theorem counted {own : Rows} (h3 : ∀ r ∈ own, r.length = 3) (h2 : ∀ x, own.flatten.count x ≤ 2) : 3 * own.length = (endsOf own).length + 2 * (innerOf own).length := by
  have e1 := flat_len own h3
  have e2 := len_counts (roadsOf own) (words own) (nodup_roads own) fun x hx => mem_roads.mpr hx
  have e3 := sum_two (c := fun x => (words own).count x) (roadsOf own) fun x hx => by
    have p := List.count_pos_iff.mpr (mem_roads.mp hx)
    have q := h2 x
    have q' : (words own).count x ≤ 2 := q
    omega
  have e4 : (words own).length = own.flatten.length := rfl
  unfold endsOf innerOf
  omega
/-- without a bridge the web falls apart, without another road it doesn't -/
theorem bridge_apart {own : Rows} (good : Mw.Good own) (whole : Whole own) {z : Str} (hz : z ∈ innerOf own) : Bridge own z ↔ ∃ k, k < own.length ∧ ¬ Reach own z 0 k := by
  have hw : z ∈ words own := mem_roads.mp (List.mem_filter.mp hz).1
  rw [bridge_two good.twice]
  constructor
  · rintro ⟨i, j, r, q, e1, e2, m1, m2, nr⟩
    by_cases h : Reach own z 0 i
    · exact ⟨j, (List.getElem?_eq_some_iff.mp e2).1, fun h2 => nr (Reach.trans (Reach.symm h) h2)⟩
    · exact ⟨i, (List.getElem?_eq_some_iff.mp e1).1, h⟩
  · rintro ⟨k, hk, nk⟩
    apply Classical.byContradiction
    intro no
    have all : ∀ i j r q, own[i]? = some r → own[j]? = some q → z ∈ r → z ∈ q → Reach own z i j := fun i j r q e1 e2 m1 m2 => by
      apply Classical.byContradiction
      exact fun n => no ⟨i, j, r, q, e1, e2, m1, m2, n⟩
    have lift : ∀ m, Reach own "" 0 m → Reach own z 0 m := by
      intro m h
      induction h with
      | here => exact .here
      | step _ a ih =>
        obtain ⟨r, q, x, e1, e2, m1, m2, _⟩ := a
        by_cases e : x = z
        · subst e
          exact Reach.trans ih (all _ _ _ _ e1 e2 m1 m2)
        · exact .step ih ⟨r, q, x, e1, e2, m1, m2, e⟩
    exact nk (lift k (whole k hk))
/-- a web of e ends -/
structure Wb (own : Rows) (e : Nat) : Prop where
  rows : ∀ r ∈ own, RowOk r
  some : own ≠ []
  twice : ∀ x, own.flatten.count x ≤ 2
  whole : Whole own
  ends : (endsOf own).length = e
abbrev lkN : List Nat → HO := fun fs => .lst (fs.map fun (n : Nat) => V.int n)
theorem inV_nat (x : Nat) (xs : List Nat) : inV (.int (x : Int)) (xs.map fun (n : Nat) => V.int n) = decide (x ∈ xs) := by
  induction xs with
  | nil => rfl
  | cons y xs ih =>
    unfold inV at ih ⊢
    rw [List.map_cons, List.any_cons, ih]
    by_cases e : y = x
    · subst e; simp [eqV]
    · have e2 : ¬ x = y := fun z => e z.symm
      have e3 : ¬ (y : Int) = (x : Int) := by omega
      simp [eqV, e2, e3]
theorem inV_int (x : Int) (xs : List Int) : inV (.int x) (xs.map V.int) = decide (x ∈ xs) := by
  induction xs with
  | nil => rfl
  | cons y xs ih =>
    unfold inV at ih ⊢
    rw [List.map_cons, List.any_cons, ih]
    by_cases e : y = x
    · subst e; simp [eqV]
    · have e2 : ¬ x = y := fun z => e z.symm
      simp [eqV, e, e2]
theorem dp_ints {K : PySem.W.Frag} {H : Hp} : ∀ l : List Int, DpAll K H (l.map V.int) (l.map PyData.int)
  | [] => .nil
  | n :: l => .cons (.int n) (dp_ints l)
theorem nat_ints (l : List Nat) : (l.map fun (n : Nat) => V.int n) = (l.map fun (n : Nat) => (n : Int)).map V.int := by
  rw [List.map_map]
  rfl
theorem adj_any {js : Rows} {c : Str} {n m : Nat} {r q : List Str} (hn : js[n]? = some r) (hm : js[m]? = some q) : (r.map fun z => decide (z ∈ q) && !decide (z = c)).any id = true ↔ Adj js c n m := by
  rw [List.any_map, List.any_eq_true]
  constructor
  · rintro ⟨x, h1, h2⟩
    have h3 : (decide (x ∈ q) && !decide (x = c)) = true := h2
    rw [Bool.and_eq_true, decide_eq_true_eq] at h3
    exact ⟨r, q, x, hn, hm, h1, h3.1, by simpa using h3.2⟩
  · rintro ⟨r', q', x, e1, e2, h1, h2, h3⟩
    obtain rfl := Option.some.inj (hn.symm.trans e1)
    obtain rfl := Option.some.inj (hm.symm.trans e2)
    exact ⟨x, h1, by show (decide (x ∈ q) && !decide (x = c)) = true; simp [h2, h3]⟩
/-- lots of what hangs together: all numbers below i are in one -/
structure Lots (own : Rows) (c : Str) (i : Nat) (Ls : List (List Int)) : Prop where
  cov : ∀ k : Nat, k < i → ∃ L ∈ Ls, (k : Int) ∈ L
  shape : (i = 0 ∧ Ls = []) ∨ ∃ L0 rest, Ls = L0 :: rest ∧ (∀ k : Nat, (k : Int) ∈ L0 ↔ Reach own c 0 k) ∧ ∀ L ∈ rest, ∃ s : Nat, s < own.length ∧ ¬ Reach own c 0 s
  len : Ls.length ≤ i
theorem Lots.skip {own : Rows} {c : Str} {i : Nat} {Ls : List (List Int)} (h : Lots own c i Ls) (e : ∃ L ∈ Ls, (i : Int) ∈ L) : Lots own c (i + 1) Ls := by
  refine ⟨fun k hk => ?_, ?_, by have := h.len; omega⟩
  · rcases Nat.lt_or_eq_of_le (Nat.le_of_lt_succ hk) with l | rfl
    · exact h.cov k l
    · exact e
  · rcases h.shape with ⟨_, z⟩ | z
    · obtain ⟨L, hL, _⟩ := e
      rw [z] at hL
      cases hL
    · exact .inr z
theorem Lots.add {own : Rows} {c : Str} {i : Nat} {Ls : List (List Int)} {L : List Int} (h : Lots own c i Ls) (hi : i < own.length) (no : ∀ M ∈ Ls, (i : Int) ∉ M) (hL : ∀ k : Nat, (k : Int) ∈ L ↔ Reach own c i k) : Lots own c (i + 1) (Ls ++ [L]) := by
  refine ⟨fun k hk => ?_, .inr ?_, by have := h.len; rw [List.length_append, List.length_singleton]; omega⟩
  · rcases Nat.lt_or_eq_of_le (Nat.le_of_lt_succ hk) with l | rfl
    · obtain ⟨M, h1, h2⟩ := h.cov k l
      exact ⟨M, List.mem_append_left _ h1, h2⟩
    · exact ⟨L, by simp, (hL k).mpr .here⟩
  · rcases h.shape with ⟨rfl, rfl⟩ | ⟨L0, rest, rfl, h0, hr⟩
    · exact ⟨L, [], rfl, hL, by simp⟩
    · refine ⟨L0, rest ++ [L], rfl, h0, fun M hM => ?_⟩
      rcases List.mem_append.mp hM with m | m
      · exact hr M m
      · exact ⟨i, hi, fun r => no L0 (by simp) ((h0 i).mpr r)⟩
theorem Lots.fin {own : Rows} {c : Str} {Ls : List (List Int)} (h : Lots own c own.length Ls) (hne : own ≠ []) : 1 < Ls.length ↔ ∃ k, k < own.length ∧ ¬ Reach own c 0 k := by
  have hp := List.length_pos_iff.mpr hne
  rcases h.shape with ⟨z, _⟩ | ⟨L0, rest, rfl, h0, hr⟩
  · omega
  · constructor
    · intro l
      cases rest with
      | nil => simp at l
      | cons M rest => exact hr M (by simp)
    · rintro ⟨k, hk, nk⟩
      obtain ⟨L, hL, m⟩ := h.cov k hk
      rcases List.mem_cons.mp hL with rfl | hL
      · exact absurd ((h0 k).mp m) nk
      · cases rest with
        | nil => cases hL
        | cons _ _ => simp
def Wp (G H : Hp) (own : Rows) (c : Str) (i : Nat) (d l a bb l2 : Addr) : Nat → L2.St → Hp → Prop := fun m σ H3 => ∃ fs ws G2, m = 2 * (own.length - fs.length) + ws.length ∧
  (∃ x6 x7 x8, σ = [some (.ref a), some (.ref bb), some (.ref l2), some (.int i), some (.ref d), some (.ref l), x6, x7, x8, none]) ∧ Rv lkN G H own c i d l (fun _ _ => False) fs ws G2 H3
def Wq (G H : Hp) (own : Rows) (c : Str) (i : Nat) (d l a bb l2 rb : Addr) (n m : Nat) : Nat → L2.St → Hp → Prop := fun j σ H3 =>
  (∃ x7 x8, σ = [some (.ref a), some (.ref bb), some (.ref l2), some (.int i), some (.ref d), some (.ref l), some (.ref rb), x7, x8, none]) ∧
  ∃ fs ws G2, Rv lkN G H own c i d l (fun x y => x = n ∧ j ≤ y) fs ws G2 H3 ∧ n ∈ fs ∧ 2 * (own.length - fs.length) + ws.length < m
section
variable (K : PySem.W.Frag) (CW : Addr)
def sp_law_of (K : PySem.W.Frag) (CW : Addr) : Sp := Sp2 fun x y H Q _ => ∃ (p : Addr) (n : Nat) (a : Addr) (xs : List V) (G : Hp), Same G H ∧ G p = none ∧ x = .ref p ∧ y = .ref a ∧ SqL K G a xs ∧ xs ≠ [] ∧ xs.length ≤ 1000 ∧ Pot (n + 1) p H ∧
  ∀ (i : Nat) (v : V) H', xs[i]? = some v → Pot n p H' → But p H H' → Q v H'
def sp_law_web_times (K : PySem.W.Frag) (CW : Addr) : Sp := Sp1 fun x H Q _ => ∃ G own, Same G H ∧ rL K (rT K rS) G x own ∧ (words own).length ≤ 1000 ∧
  ∀ d ks H1, H d = none → Same H H1 → H1 d = some (.dK (cntK ks (words own))) → ks.Nodup → (∀ x, x ∈ ks ↔ x ∈ words own) → Q (.ref d) H1
def sp_law_web_roads (K : PySem.W.Frag) (CW : Addr) : Sp := Sp1 fun x H Q _ => ∃ G own, Same G H ∧ rL K (rT K rS) G x own ∧ (words own).length ≤ 60 ∧ Ret G H Q (rH rS) (roadsOf own)
def sp_law_web_inner (K : PySem.W.Frag) (CW : Addr) : Sp := Sp1 fun x H Q _ => ∃ G own, Same G H ∧ rL K (rT K rS) G x own ∧ (words own).length ≤ 60 ∧ Ret G H Q (rH rS) (innerOf own)
def sp_law_web_ends (K : PySem.W.Frag) (CW : Addr) : Sp := Sp1 fun x H Q _ => ∃ G own, Same G H ∧ rL K (rT K rS) G x own ∧ (words own).length ≤ 60 ∧ Ret G H Q (rH rS) (endsOf own)
def sp_law_web_rounds (K : PySem.W.Frag) (CW : Addr) : Sp := Sp1 fun x H Q _ => ∃ G own, Same G H ∧ rL K (rT K rS) G x own ∧ (words own).length ≤ 60 ∧ ∀ H1, Same H H1 → Q (.int (roundsOf own)) H1
def sp_law_web_pieces (K : PySem.W.Frag) (CW : Addr) : Sp := Sp2 fun x y H Q _ => ∃ G own c, Same G H ∧ rL K (rT K rS) G x own ∧ rL K rS G y [c] ∧ own ≠ [] ∧ own.length ≤ 60 ∧ (∀ r ∈ own, r.length = 3) ∧
  ∀ l ts G1 H1, Go [] G H G1 H1 → G1 l = some (.lst ts) → (1 < ts.length ↔ ∃ k, k < own.length ∧ ¬ Reach own c 0 k) → Q (.ref l) H1
def sp_law_web_bridges (K : PySem.W.Frag) (CW : Addr) : Sp := Sp1 fun x H Q _ => ∃ G own, Same G H ∧ rL K (rT K rS) G x own ∧ Mw.Good own ∧ Whole own ∧ ∀ xs : List Str, (∃ p : Str → Bool, (∀ z, z ∈ words own → (p z = true ↔ Bridge own z)) ∧ xs = (innerOf own).filter p) → Ret G H Q (rH rS) xs
def sp_law_web_names (K : PySem.W.Frag) (CW : Addr) : Sp := Sp2 fun x y H Q _ => ∃ (p : Addr) (n : Nat) (G : Hp) (many : Nat), Same G H ∧ G p = none ∧ x = .ref p ∧ y = .int many ∧ many ≤ 32 ∧ Pot (n + many) p H ∧
  ∀ nm : List Str, nm.Nodup → nm.length = many → (∀ x ∈ nm, isName x = true) → RetP p n G H Q (rH rS) nm
def sp_law_web_put (K : PySem.W.Frag) (CW : Addr) : Sp := Sp4 fun x y z t H Q _ => ∃ (G : Hp) (own : Rows) (old new : Str) (k : Int), Same G H ∧ rL K (rT K rS) G x own ∧ y = .str old ∧ z = .str new ∧ t = .int k ∧ own.length ≤ 100 ∧ (∀ r ∈ own, r.length = 3) ∧ Ret G H Q (rH (rT K rS)) (putRows old new k own)
def sp_law_web_tree (K : PySem.W.Frag) (CW : Addr) : Sp := Sp3 fun x y z H Q _ => ∃ (p : Addr) (n : Nat) (G : Hp) (nm : List Str) (m : Nat), Same G H ∧ G p = none ∧ x = .ref p ∧ rH rS G y nm ∧ z = .int m ∧ 3 ≤ m ∧ m ≤ 14 ∧ nm.length = 2 * m - 3 ∧ nm.Nodup ∧ (∀ x ∈ nm, isName x = true) ∧ Pot (n + m) p H ∧
  ∀ own, Wb own m → own.length + 2 = m → RetP p n G H Q (rH (rT K rS)) own
def sp_law_web_drawn (K : PySem.W.Frag) (CW : Addr) : Sp := Sp3 fun x y z H Q _ => ∃ (p : Addr) (n : Nat) (G : Hp) (e r : Nat), Same G H ∧ G p = none ∧ x = .ref p ∧ y = .int e ∧ z = .int r ∧ 3 ≤ e + 2 * r ∧ e + 2 * r ≤ 14 ∧ Pot (n + 200) p H ∧
  ∀ own, Wb own e → own.length + 2 = e + 2 * r → RetP p n G H Q (rL K (rT K rS)) own
def sp_law_any_web (K : PySem.W.Frag) (CW : Addr) : Sp := Sp1 fun x H Q _ => ∃ (p : Addr) (n : Nat) (G : Hp), Same G H ∧ G p = none ∧ x = .ref p ∧ Pot (n + 300) p H ∧ ∀ own, Mw.Good own → Whole own → RetP p n G H Q (rL K (rT K rS)) own
def sp_law_great_web (K : PySem.W.Frag) (CW : Addr) : Sp := sp_law_any_web K CW
def sp_law_is_told_right (K : PySem.W.Frag) (CW : Addr) : Sp := Sp1 fun x H Q _ => ∃ G own, Same G H ∧ rL K (rT K rS) G x own ∧ Mw.Good own ∧ Whole own ∧ ∀ G1 H1, Go [] G H G1 H1 → Q (.bl true) H1
end
end Tc
/-! how a drawn web stays one -/
namespace Tc
open PySem PySem.Spec PyProof.Rows L2 Fw Mw TL
def nameAs (old new : Str) (x : Str) : Str := if x = old then new else x
theorem putRow_all (old new : Str) : ∀ (l : List Str) (t : Int), (l.count old : Int) ≤ t → putRow old new t l = l.map (nameAs old new)
  | [], _, _ => rfl
  | x :: l, t, h => by
    rw [List.count_cons] at h
    show (if x = old ∧ 0 < t then new else x) :: putRow old new (if x = old then t - 1 else t) l = nameAs old new x :: l.map (nameAs old new)
    by_cases e : x = old
    · subst e
      simp only [beq_self_eq_true, if_true] at h
      rw [if_pos ⟨rfl, by omega⟩, if_pos rfl, putRow_all x new l (t - 1) (by omega)]
      unfold nameAs
      rw [if_pos rfl]
    · rw [if_neg (by simpa using e)] at h
      rw [if_neg (fun z => e z.1), if_neg e, putRow_all old new l t (by omega)]
      unfold nameAs
      rw [if_neg e]
theorem putRows_all (old new : Str) : ∀ (l : Rows) (t : Int), (l.flatten.count old : Int) ≤ t → putRows old new t l = l.map fun r => r.map (nameAs old new)
  | [], _, _ => rfl
  | r :: l, t, h => by
    rw [List.flatten_cons, List.count_append] at h
    show putRow old new t r :: putRows old new (t - (r.count old : Nat)) l = _
    rw [putRow_all old new r t (by omega), putRows_all old new l _ (by omega)]
    rfl
theorem count_as {old new : Str} (hne : new ≠ old) (l : List Str) (y : Str) : (l.map (nameAs old new)).count y = if y = new then l.count new + l.count old else if y = old then 0 else l.count y := by
  induction l with
  | nil => simp
  | cons x l ih =>
    rw [List.map_cons, List.count_cons, ih, List.count_cons, List.count_cons, List.count_cons]
    unfold nameAs
    by_cases e1 : x = old
    · subst e1
      have n2 : ¬ x = new := fun z => hne z.symm
      by_cases e2 : y = new
      · subst e2
        simp [n2]
        omega
      · by_cases e3 : y = x
        · subst e3
          simp [e2]
          exact fun z => e2 z.symm
        · have e4 : ¬ new = y := fun z => e2 z.symm
          have e5 : ¬ x = y := fun z => e3 z.symm
          simp [e2, e3, e4, e5]
    · by_cases e2 : y = new
      · subst e2
        by_cases e3 : x = y
        · subst e3
          simp [e1]
          omega
        · simp [e1, e3]
      · by_cases e3 : y = old
        · subst e3
          simp [e1, e2]
        · simp [e1, e2, e3]
theorem mem_ends {own : Rows} {x : Str} : x ∈ endsOf own ↔ (words own).count x = 1 := by
  unfold endsOf
  rw [List.mem_filter, decide_eq_true_eq, mem_roads]
  exact ⟨fun h => h.2, fun h => ⟨List.count_pos_iff.mp (by omega), h⟩⟩
theorem name_some {x : Str} (h : isName x = true) : x ≠ "" := fun z => by
  have := (name_len h).1
  rw [z] at this
  revert this
  decide +kernel
theorem wb_join {own : Rows} {e : Nat} (h : Wb own (e + 2)) {one other : Str} (h1 : one ∈ endsOf own) (h2 : other ∈ endsOf own) (hne : one ≠ other) : Wb (putRows other one 1 own) e := by
  have c1 : own.flatten.count one = 1 := mem_ends.mp h1
  have c2 : own.flatten.count other = 1 := mem_ends.mp h2
  rw [putRows_all other one own 1 (by omega)]
  have fl : (own.map fun r => r.map (nameAs other one)).flatten = own.flatten.map (nameAs other one) := by rw [List.map_flatten]
  have cnt : ∀ y, (own.map fun r => r.map (nameAs other one)).flatten.count y = if y = one then 2 else if y = other then 0 else own.flatten.count y := fun y => by
    rw [fl, count_as hne, c1, c2]
  have nm : ∀ r ∈ own, ∀ x ∈ r, isName (nameAs other one x) = true := fun r hr x hx => by
    unfold nameAs
    by_cases z : x = other
    · rw [if_pos z]
      obtain ⟨r1, k1, k2⟩ := List.mem_flatten.mp (List.count_pos_iff.mp (show 0 < own.flatten.count one by omega))
      exact (h.rows r1 k1).names one k2
    · rw [if_neg z]
      exact (h.rows r hr).names x hx
  refine ⟨fun r hr => ?_, fun z => h.some (List.map_eq_nil_iff.mp z), fun y => ?_, fun i hi => ?_, ?_⟩
  · obtain ⟨q, hq, rfl⟩ := List.mem_map.mp hr
    refine ⟨by rw [List.length_map]; exact (h.rows q hq).len, fun x hx => ?_⟩
    obtain ⟨x', hx', rfl⟩ := List.mem_map.mp hx
    exact nm q hq x' hx'
  · rw [cnt]
    have := h.twice y
    split
    · exact Nat.le_refl _
    · split
      · exact Nat.zero_le _
      · exact this
  · rw [List.length_map] at hi
    have r := h.whole i hi
    induction r with
    | here => exact .here
    | step _ a ih =>
      have a2 := Adj.lt (Adj.symm a)
      refine .step (ih a2) ?_
      obtain ⟨r, q, x, k1, k2, k3, k4, k5⟩ := a
      refine ⟨r.map (nameAs other one), q.map (nameAs other one), nameAs other one x, by rw [List.getElem?_map, k1]; rfl, by rw [List.getElem?_map, k2]; rfl, List.mem_map.mpr ⟨x, k3, rfl⟩, List.mem_map.mpr ⟨x, k4, rfl⟩, name_some (nm r (List.mem_of_getElem? k1) x k3)⟩
  · have nde : (endsOf own).Nodup := (nodup_roads own).filter _
    have nd2 : (endsOf (own.map fun r => r.map (nameAs other one))).Nodup := (nodup_roads _).filter _
    have p : (endsOf (own.map fun r => r.map (nameAs other one))).Perm (((endsOf own).erase one).erase other) := by
      refine (List.perm_ext_iff_of_nodup nd2 ((nde.erase _).erase _)).mpr fun x => ?_
      rw [(nde.erase _).mem_erase_iff, nde.mem_erase_iff, mem_ends, mem_ends]
      have cx := cnt x
      have cx' : (words (own.map fun r => r.map (nameAs other one))).count x = _ := cx
      rw [cx']
      by_cases e1 : x = one
      · simp [e1]
      · by_cases e2 : x = other
        · rw [if_neg e1, if_pos e2]
          exact ⟨fun z => absurd z (by decide), fun z => absurd e2 z.1⟩
        · rw [if_neg e1, if_neg e2]
          exact ⟨fun z => ⟨e2, e1, z⟩, fun z => z.2.2⟩
    rw [p.length_eq, List.length_erase_of_mem (nde.mem_erase_iff.mpr ⟨hne.symm, h2⟩), List.length_erase_of_mem h1, h.ends]
    rfl
theorem wb_turn {js own : Rows} {e : Nat} (t : Turned js own) (h : Wb own e) : Wb js e := by
  obtain ⟨f, g, iso⟩ := turned_iso t
  have pw := turned_words t
  have len := t.length
  have tw : ∀ x, js.flatten.count x ≤ 2 := fun x => by
    have := h.twice x
    rw [show js.flatten.count x = own.flatten.count x from pw.count_eq x]
    exact this
  refine ⟨fun r hr => ?_, fun z => ?_, tw, fun i hi => ?_, by rw [ends_perm pw]; exact h.ends⟩
  · obtain ⟨i, hi⟩ := List.getElem?_of_mem hr
    obtain ⟨q, e1, p1, _⟩ := iso.to i r hi
    have ok := h.rows q (List.mem_of_getElem? e1)
    exact ⟨p1.length_eq.trans ok.len, fun x hx => ok.names x (p1.mem_iff.mp hx)⟩
  · rw [z] at len
    exact h.some (List.length_eq_zero_iff.mp len.symm)
  · have h0 : 0 < js.length := by omega
    obtain ⟨q0, a0, _, b0⟩ := iso.to 0 js[0] (List.getElem?_eq_getElem h0)
    obtain ⟨qi, ai, _, bi⟩ := iso.to i js[i] (List.getElem?_eq_getElem hi)
    have l0 := (List.getElem?_eq_some_iff.mp a0).1
    have li := (List.getElem?_eq_some_iff.mp ai).1
    have rr := iso.swap.reach (Reach.trans (Reach.symm (h.whole _ l0)) (h.whole _ li))
    rw [b0, bi] at rr
    exact rr
/-- a road gets a junction: its second stand is called half, a row of it, half and a new end comes behind -/
theorem wb_add {own S : Rows} {m : Nat} (h : Wb own m) {road half last : Str} (hl : S.length = own.length) (hr : ∀ r ∈ S, RowOk r)
    (hk : ∀ (i : Nat) (r : List Str), own[i]? = some r → ∃ q : List Str, S[i]? = some q ∧ (∀ x ∈ r, x ≠ road → x ∈ q) ∧ (road ∈ r → road ∈ q ∨ half ∈ q))
    (n1 : isName road = true) (n2 : isName half = true) (n3 : isName last = true) (d1 : half ≠ road) (d2 : last ≠ road) (d3 : last ≠ half)
    (c : ∀ y, S.flatten.count y = if y = road then 1 else if y = half then own.flatten.count road - 1 else own.flatten.count y)
    (hroad : road ∈ words own) (hh : half ∉ words own) (hla : last ∉ words own) : Wb (S ++ [[road, half, last]]) (m + 1) := by
  have ch : own.flatten.count half = 0 := List.count_eq_zero_of_not_mem hh
  have cl : own.flatten.count last = 0 := List.count_eq_zero_of_not_mem hla
  have cr : 0 < own.flatten.count road := List.count_pos_iff.mpr hroad
  have cr2 := h.twice road
  have c' : ∀ y, (S ++ [[road, half, last]]).flatten.count y = if y = road then 2 else if y = half then own.flatten.count road else if y = last then 1 else own.flatten.count y := fun y => by
    rw [List.flatten_append, List.count_append, c]
    have e : ([[road, half, last]] : Rows).flatten = [road, half, last] := by simp
    rw [e, List.count_cons, List.count_cons, List.count_cons, List.count_nil]
    by_cases e1 : y = road
    · subst e1
      have a1 : ¬ half = y := d1
      have a2 : ¬ last = y := d2
      simp [a1, a2]
    · have b1 : ¬ road = y := fun z => e1 z.symm
      by_cases e2 : y = half
      · subst e2
        have a2 : ¬ last = y := d3
        simp [e1, b1, a2]
        omega
      · have b2 : ¬ half = y := fun z => e2 z.symm
        by_cases e3 : y = last
        · subst e3
          simp [e1, e2, b1, b2, cl]
        · have b3 : ¬ last = y := fun z => e3 z.symm
          simp [e1, e2, e3, b1, b2, b3]
  have lJ : (S ++ [[road, half, last]])[own.length]? = some [road, half, last] := by
    rw [List.getElem?_append_right (by omega), hl, Nat.sub_self]
    rfl
  have lS : ∀ {i : Nat} {q : List Str}, S[i]? = some q → (S ++ [[road, half, last]])[i]? = some q := fun {i q} e => by
    rw [List.getElem?_append_left (List.getElem?_eq_some_iff.mp e).1]
    exact e
  have nr := name_some n1
  have nh := name_some n2
  have toJ : ∀ {i : Nat} {q : List Str}, S[i]? = some q → (road ∈ q ∨ half ∈ q) → Adj (S ++ [[road, half, last]]) "" i own.length := fun {i q} e z => by
    rcases z with z | z
    · exact ⟨q, _, road, lS e, lJ, z, by simp, nr⟩
    · exact ⟨q, _, half, lS e, lJ, z, by simp, nh⟩
  have lift : ∀ i, Reach own "" 0 i → Reach (S ++ [[road, half, last]]) "" 0 i := by
    intro i r
    induction r with
    | here => exact .here
    | step _ a ih =>
      obtain ⟨r, q, x, k1, k2, k3, k4, k5⟩ := a
      obtain ⟨r', e1, f1, g1⟩ := hk _ r k1
      obtain ⟨q', e2, f2, g2⟩ := hk _ q k2
      by_cases z : x = road
      · subst z
        exact .step (.step ih (toJ e1 (g1 k3))) (Adj.symm (toJ e2 (g2 k4)))
      · exact .step ih ⟨r', q', x, lS e1, lS e2, f1 x k3 z, f2 x k4 z, k5⟩
  refine ⟨fun r hr' => ?_, by simp, fun y => ?_, fun i hi => ?_, ?_⟩
  · rcases List.mem_append.mp hr' with k | k
    · exact hr r k
    · rw [List.mem_singleton] at k
      subst k
      refine ⟨rfl, fun x hx => ?_⟩
      simp only [List.mem_cons, List.not_mem_nil, or_false] at hx
      rcases hx with rfl | rfl | rfl
      · exact n1
      · exact n2
      · exact n3
  · rw [c']
    have := h.twice y
    split
    · omega
    · split
      · omega
      · split
        · omega
        · omega
  · rw [List.length_append, List.length_singleton, hl] at hi
    rcases Nat.lt_or_eq_of_le (Nat.le_of_lt_succ hi) with l | rfl
    · exact lift i (h.whole i l)
    · obtain ⟨r, k1, k2⟩ := List.mem_flatten.mp hroad
      obtain ⟨i0, e0⟩ := List.getElem?_of_mem k1
      obtain ⟨q, e1, _, g1⟩ := hk i0 r e0
      exact .step (lift i0 (h.whole i0 (List.getElem?_eq_some_iff.mp e0).1)) (toJ e1 (g1 k2))
  · have nde : (endsOf own).Nodup := (nodup_roads own).filter _
    have nd2 : (endsOf (S ++ [[road, half, last]])).Nodup := (nodup_roads _).filter _
    have cw : ∀ y, (words (S ++ [[road, half, last]])).count y = _ := c'
    have hle : last ∉ endsOf own := fun z => by
      have := mem_ends.mp z
      have : own.flatten.count last = 1 := this
      omega
    by_cases k : own.flatten.count road = 2
    · have p : (endsOf (S ++ [[road, half, last]])).Perm (last :: endsOf own) := by
        refine (List.perm_ext_iff_of_nodup nd2 (List.nodup_cons.mpr ⟨hle, nde⟩)).mpr fun x => ?_
        rw [List.mem_cons, mem_ends, mem_ends, cw]
        have cx : (words own).count x = own.flatten.count x := rfl
        rw [cx]
        by_cases e1 : x = road
        · subst e1
          rw [if_pos rfl, k]
          exact ⟨fun z => absurd z (by decide), fun z => z.elim (fun y => absurd y.symm d2) (fun y => absurd y (by decide))⟩
        · rw [if_neg e1]
          by_cases e2 : x = half
          · subst e2
            rw [if_pos rfl, k, ch]
            exact ⟨fun z => absurd z (by decide), fun z => z.elim (fun y => absurd y.symm d3) (fun y => absurd y (by decide))⟩
          · rw [if_neg e2]
            by_cases e3 : x = last
            · rw [if_pos e3]
              exact ⟨fun _ => .inl e3, fun _ => rfl⟩
            · rw [if_neg e3]
              exact ⟨.inr, fun z => z.resolve_left e3⟩
      rw [p.length_eq, List.length_cons, h.ends]
    · have k1 : own.flatten.count road = 1 := by omega
      have hre : road ∈ endsOf own := mem_ends.mpr k1
      have hhe : half ∉ endsOf own := fun z => by
        have : own.flatten.count half = 1 := mem_ends.mp z
        omega
      have p : (endsOf (S ++ [[road, half, last]])).Perm (half :: last :: (endsOf own).erase road) := by
        refine (List.perm_ext_iff_of_nodup nd2 (List.nodup_cons.mpr ⟨fun z => ?_, List.nodup_cons.mpr ⟨fun z => hle (List.mem_of_mem_erase z), nde.erase _⟩⟩)).mpr fun x => ?_
        · rcases List.mem_cons.mp z with z | z
          · exact d3 z.symm
          · exact hhe (List.mem_of_mem_erase z)
        · rw [List.mem_cons, List.mem_cons, nde.mem_erase_iff, mem_ends, mem_ends, cw]
          have cx : (words own).count x = own.flatten.count x := rfl
          rw [cx]
          by_cases e1 : x = road
          · subst e1
            rw [if_pos rfl]
            exact ⟨fun z => absurd z (by decide), fun z => z.elim (fun y => absurd y.symm d1) (fun y => y.elim (fun y => absurd y.symm d2) (fun y => absurd rfl y.1))⟩
          · rw [if_neg e1]
            by_cases e2 : x = half
            · rw [if_pos e2, k1]
              exact ⟨fun _ => .inl e2, fun _ => rfl⟩
            · rw [if_neg e2]
              by_cases e3 : x = last
              · rw [if_pos e3]
                exact ⟨fun _ => .inr (.inl e3), fun _ => rfl⟩
              · rw [if_neg e3]
                exact ⟨fun z => .inr (.inr ⟨e1, z⟩), fun z => ((z.resolve_left e2).resolve_left e3).2⟩
      have l2 := List.length_erase_of_mem hre
      have lp : 0 < (endsOf own).length := List.length_pos_of_mem hre
      rw [p.length_eq, List.length_cons, List.length_cons, l2, h.ends]
      rw [h.ends] at lp
      omega
theorem put_keep {old new x : Str} : ∀ {l : List Str} {t : Int}, x ∈ l → x ≠ old → x ∈ putRow old new t l
  | y :: l, t, h, n => by
    show x ∈ (if y = old ∧ 0 < t then new else y) :: putRow old new (if y = old then t - 1 else t) l
    rcases List.mem_cons.mp h with rfl | h
    · rw [if_neg (fun z => n z.1)]
      exact List.mem_cons_self
    · exact List.mem_cons_of_mem _ (put_keep h n)
theorem put_old {old new : Str} : ∀ {l : List Str} {t : Int}, old ∈ l → old ∈ putRow old new t l ∨ new ∈ putRow old new t l
  | y :: l, t, h => by
    show old ∈ (if y = old ∧ 0 < t then new else y) :: putRow old new (if y = old then t - 1 else t) l ∨ new ∈ (if y = old ∧ 0 < t then new else y) :: putRow old new (if y = old then t - 1 else t) l
    rcases List.mem_cons.mp h with e | h
    · subst e
      by_cases p : 0 < t
      · exact .inr (by rw [if_pos ⟨rfl, p⟩]; exact List.mem_cons_self)
      · exact .inl (by rw [if_neg (fun z => p z.2)]; exact List.mem_cons_self)
    · rcases put_old (new := new) (t := if y = old then t - 1 else t) h with z | z
      · exact .inl (List.mem_cons_of_mem _ z)
      · exact .inr (List.mem_cons_of_mem _ z)
theorem put_in {old new x : Str} : ∀ {l : List Str} {t : Int}, x ∈ putRow old new t l → x ∈ l ∨ x = new
  | y :: l, t, h => by
    have h' : x ∈ (if y = old ∧ 0 < t then new else y) :: putRow old new (if y = old then t - 1 else t) l := h
    rcases List.mem_cons.mp h' with e | h'
    · by_cases p : y = old ∧ 0 < t
      · rw [if_pos p] at e
        exact .inr e
      · rw [if_neg p] at e
        exact .inl (by rw [e]; exact List.mem_cons_self)
    · exact (put_in h').imp (List.mem_cons_of_mem _) id
theorem puts_at {old new : Str} : ∀ {l : Rows} {t : Int} {i : Nat} {r : List Str}, l[i]? = some r → ∃ t', (putRows old new t l)[i]? = some (putRow old new t' r)
  | _ :: _, t, 0, _, h => ⟨t, by simp at h; rw [← h]; rfl⟩
  | q :: l, t, i + 1, r, h => by
    obtain ⟨t', e⟩ := puts_at (old := old) (new := new) (t := t - (q.count old : Nat)) (i := i) (by simpa using h)
    exact ⟨t', e⟩
theorem puts_back {old new : Str} : ∀ {l : Rows} {t : Int} {q : List Str}, q ∈ putRows old new t l → ∃ r ∈ l, ∃ t', q = putRow old new t' r
  | r :: l, t, q, h => by
    have h' : q ∈ putRow old new t r :: putRows old new (t - (r.count old : Nat)) l := h
    rcases List.mem_cons.mp h' with rfl | h'
    · exact ⟨r, List.mem_cons_self, t, rfl⟩
    · obtain ⟨r', h1, t', h2⟩ := puts_back h'
      exact ⟨r', List.mem_cons_of_mem _ h1, t', h2⟩
theorem count_put {old new : Str} (hne : new ≠ old) (y : Str) : ∀ (l : List Str) (t : Int), (putRow old new t l).count y = if y = old then l.count old - min t.toNat (l.count old) else if y = new then l.count new + min t.toNat (l.count old) else l.count y
  | [], t => by simp [putRow]
  | x :: l, t => by
    show ((if x = old ∧ 0 < t then new else x) :: putRow old new (if x = old then t - 1 else t) l).count y = _
    rw [List.count_cons, count_put hne y l, List.count_cons, List.count_cons, List.count_cons]
    by_cases e1 : x = old
    · subst e1
      have n2 : ¬ x = new := fun z => hne z.symm
      simp only [true_and, if_true, beq_self_eq_true]
      by_cases p : 0 < t
      · rw [if_pos p]
        by_cases e2 : y = x
        · subst e2
          simp [hne]
          omega
        · by_cases e3 : y = new
          · subst e3
            simp [e2, n2]
            omega
          · have e4 : ¬ new = y := fun z => e3 z.symm
            have e5 : ¬ x = y := fun z => e2 z.symm
            simp [e2, e3, e4, e5]
      · rw [if_neg p]
        by_cases e2 : y = x
        · subst e2
          simp
          omega
        · by_cases e3 : y = new
          · subst e3
            simp [e2, n2]
            omega
          · have e5 : ¬ x = y := fun z => e2 z.symm
            simp [e2, e3, e5]
    · simp only [e1, false_and, if_false]
      by_cases e2 : y = old
      · subst e2
        have e3 : ¬ x = y := e1
        simp [e3]
      · by_cases e3 : y = new
        · subst e3
          simp [e1, e2]
          omega
        · simp [e1, e2, e3]
theorem counts_put {old new : Str} (hne : new ≠ old) (y : Str) : ∀ (l : Rows) (t : Int), (putRows old new t l).flatten.count y = if y = old then l.flatten.count old - min t.toNat (l.flatten.count old) else if y = new then l.flatten.count new + min t.toNat (l.flatten.count old) else l.flatten.count y
  | [], t => by simp [putRows]
  | r :: l, t => by
    show (putRow old new t r :: putRows old new (t - (r.count old : Nat)) l).flatten.count y = _
    rw [List.flatten_cons, List.count_append, count_put hne y r t, counts_put hne y l, List.flatten_cons, List.count_append, List.count_append, List.count_append]
    split
    · omega
    · split
      · omega
      · rfl
theorem wb_split {own : Rows} {m : Nat} (h : Wb own m) {road half last : Str} (c2 : own.flatten.count road = 2)
    (n1 : isName road = true) (n2 : isName half = true) (n3 : isName last = true) (d1 : half ≠ road) (d2 : last ≠ road) (d3 : last ≠ half)
    (hh : half ∉ words own) (hla : last ∉ words own) : Wb (putRows "?" road 1 (putRows road half 1 (putRows road "?" 1 own)) ++ [[road, half, last]]) (m + 1) := by
  have nq : isName "?" = false := by decide +kernel
  have qr : ("?" : Str) ≠ road := fun z => by rw [← z, nq] at n1; cases n1
  have qh : ("?" : Str) ≠ half := fun z => by rw [← z, nq] at n2; cases n2
  have q0 : own.flatten.count ("?" : Str) = 0 := List.count_eq_zero_of_not_mem fun z => by
    obtain ⟨r, k1, k2⟩ := List.mem_flatten.mp z
    have := (h.rows r k1).names _ k2
    rw [nq] at this
    cases this
  have h0 : own.flatten.count half = 0 := List.count_eq_zero_of_not_mem hh
  have cA := fun y => counts_put (old := road) (new := "?") qr y own 1
  have cB := fun y => counts_put (old := road) (new := half) d1 y (putRows road "?" 1 own) 1
  have cS := fun y => counts_put (old := "?") (new := road) qr.symm y (putRows road half 1 (putRows road "?" 1 own)) 1
  have e1 : (putRows road "?" 1 own).flatten.count road = 1 := by rw [cA, if_pos rfl, c2]; rfl
  have e2 : (putRows road "?" 1 own).flatten.count ("?" : Str) = 1 := by rw [cA, if_neg qr, if_pos rfl, c2, q0]; rfl
  have e3 : (putRows road "?" 1 own).flatten.count half = 0 := by rw [cA, if_neg d1, if_neg qh.symm, h0]
  have f1 : (putRows road half 1 (putRows road "?" 1 own)).flatten.count road = 0 := by rw [cB, if_pos rfl, e1]; rfl
  have f2 : (putRows road half 1 (putRows road "?" 1 own)).flatten.count ("?" : Str) = 1 := by rw [cB, if_neg qr, if_neg qh, e2]
  have f3 : (putRows road half 1 (putRows road "?" 1 own)).flatten.count half = 1 := by rw [cB, if_neg d1, if_pos rfl, e1, e3]; rfl
  have s0 : (putRows "?" road 1 (putRows road half 1 (putRows road "?" 1 own))).flatten.count ("?" : Str) = 0 := by rw [cS, if_pos rfl, f2]; rfl
  refine wb_add h (by rw [putRows_len, putRows_len, putRows_len]) (fun q hq => ?_) (fun i r hi => ?_) n1 n2 n3 d1 d2 d3 (fun y => ?_) (List.count_pos_iff.mp (by have : (words own).count road = 2 := c2; omega)) hh hla
  · obtain ⟨b, hb, t1, rfl⟩ := puts_back hq
    obtain ⟨a, ha, t2, rfl⟩ := puts_back hb
    obtain ⟨r, hr, t3, rfl⟩ := puts_back ha
    refine ⟨by rw [putRow_len, putRow_len, putRow_len]; exact (h.rows r hr).len, fun x hx => ?_⟩
    have hxq : x ≠ "?" := fun z => by
      subst z
      have := List.count_pos_iff.mpr (List.mem_flatten.mpr ⟨_, hq, hx⟩)
      omega
    rcases put_in hx with k | k
    · rcases put_in k with k | k
      · rcases put_in k with k | k
        · exact (h.rows r hr).names x k
        · exact absurd k hxq
      · rw [k]; exact n2
    · rw [k]; exact n1
  · obtain ⟨t1, g1⟩ := puts_at (old := road) (new := "?") (t := 1) hi
    obtain ⟨t2, g2⟩ := puts_at (old := road) (new := half) (t := 1) g1
    obtain ⟨t3, g3⟩ := puts_at (old := "?") (new := road) (t := 1) g2
    have noq : ("?" : Str) ∉ putRow "?" road t3 (putRow road half t2 (putRow road "?" t1 r)) := fun z => by
      have := List.count_pos_iff.mpr (List.mem_flatten.mpr ⟨_, List.mem_of_getElem? g3, z⟩)
      omega
    refine ⟨_, g3, fun x hx n => ?_, fun hx => ?_⟩
    · refine put_keep (put_keep (put_keep hx n) n) fun z => ?_
      have := (h.rows r (List.mem_of_getElem? hi)).names x hx
      rw [z, nq] at this
      cases this
    · rcases put_old (new := "?") (t := t1) hx with k | k
      · rcases put_old (new := half) (t := t2) k with k | k
        · exact .inl (put_keep k qr.symm)
        · exact .inr (put_keep k qh.symm)
      · have k2 := put_keep (new := half) (t := t2) k qr
        rcases put_old (new := road) (t := t3) k2 with k | k
        · exact absurd k noq
        · exact .inl k
  · rw [cS]
    by_cases y1 : y = "?"
    · subst y1
      rw [if_pos rfl, if_neg qr, if_neg qh, f2, q0]
      rfl
    · rw [if_neg y1]
      by_cases y2 : y = road
      · rw [if_pos y2, if_pos y2, f1, f2]
        rfl
      · rw [if_neg y2, if_neg y2]
        by_cases y3 : y = half
        · rw [if_pos y3, y3, f3, c2]
        · rw [if_neg y3, cB, if_neg y2, if_neg y3, cA, if_neg y2, if_neg y1]
theorem wb_end {own : Rows} {m : Nat} (h : Wb own m) {road half last : Str} (c1 : own.flatten.count road = 1)
    (n1 : isName road = true) (n2 : isName half = true) (n3 : isName last = true) (d1 : half ≠ road) (d2 : last ≠ road) (d3 : last ≠ half)
    (hh : half ∉ words own) (hla : last ∉ words own) : Wb (own ++ [[road, half, last]]) (m + 1) := by
  have h0 : own.flatten.count half = 0 := List.count_eq_zero_of_not_mem hh
  refine wb_add h rfl h.rows (fun i r hi => ⟨r, hi, fun x hx _ => hx, .inl⟩) n1 n2 n3 d1 d2 d3 (fun y => ?_) (List.count_pos_iff.mp (by have : (words own).count road = 1 := c1; omega)) hh hla
  by_cases y1 : y = road
  · rw [if_pos y1, y1, c1]
  · rw [if_neg y1]
    by_cases y2 : y = half
    · rw [if_pos y2, y2, c1, h0]
    · rw [if_neg y2]
theorem cut_to (xs : List V) (k : Nat) : cutV xs none (some (k : Int)) = xs.take k := by
  unfold cutV
  rw [HT.sIx_none, HT.sIx_nat, List.drop_zero, Nat.sub_zero]
  rcases Nat.le_total k xs.length with h | h
  · rw [Nat.min_eq_left h]
  · rw [Nat.min_eq_right h, List.take_length, List.take_of_length_le h]
theorem cut_from (xs : List V) (k : Nat) : cutV xs (some (k : Int)) none = xs.drop k := by
  unfold cutV
  rw [HT.sIx_none, HT.sIx_nat]
  rcases Nat.le_total k xs.length with h | h
  · rw [Nat.min_eq_left h, List.take_of_length_le]
    rw [List.length_drop]
    exact Nat.le_refl _
  · rw [Nat.min_eq_right h, Nat.sub_self, List.take_zero, List.drop_of_length_le h]
/-- the web of one junction -/
theorem wb_one {a b c : Str} (n1 : isName a = true) (n2 : isName b = true) (n3 : isName c = true) (nd : [a, b, c].Nodup) : Wb [[a, b, c]] 3 := by
  have ct : ∀ x, ([[a, b, c]] : Rows).flatten.count x ≤ 1 := fun x => by
    have e : ([[a, b, c]] : Rows).flatten = [a, b, c] := by simp
    rw [e]
    exact List.nodup_iff_count.mp nd x
  refine ⟨fun r hr => ?_, by simp, fun x => Nat.le_trans (ct x) (by decide), fun i hi => ?_, ?_⟩
  · rw [List.mem_singleton] at hr
    subst hr
    refine ⟨rfl, fun x hx => ?_⟩
    simp only [List.mem_cons, List.not_mem_nil, or_false] at hx
    rcases hx with rfl | rfl | rfl
    · exact n1
    · exact n2
    · exact n3
  · have : i = 0 := by
      have : i < 1 := hi
      omega
    subst this
    exact .here
  · have nde : (endsOf [[a, b, c]]).Nodup := (nodup_roads _).filter _
    have p : (endsOf [[a, b, c]]).Perm [a, b, c] := by
      refine (List.perm_ext_iff_of_nodup nde nd).mpr fun x => ?_
      rw [mem_ends]
      have e : (words [[a, b, c]]) = [a, b, c] := by simp [words]
      rw [e]
      constructor
      · intro h
        exact List.count_pos_iff.mp (by omega)
      · intro h
        have h1 := List.count_pos_iff.mpr h
        have h2 := List.nodup_iff_count.mp nd x
        omega
    rw [p.length_eq]
    rfl
theorem nodup_idx : ∀ {l : List Str} {i j : Nat} {x : Str}, l.Nodup → l[i]? = some x → l[j]? = some x → i = j
  | [], _, _, _, _, h, _ => by simp at h
  | _ :: _, 0, 0, _, _, _, _ => rfl
  | y :: l, 0, j + 1, x, nd, h1, h2 => by
    have e : y = x := by simpa using h1
    have m : x ∈ l := List.mem_of_getElem? (i := j) (by simpa using h2)
    exact absurd (e ▸ m) (List.nodup_cons.mp nd).1
  | y :: l, i + 1, 0, x, nd, h1, h2 => by
    have e : y = x := by simpa using h2
    have m : x ∈ l := List.mem_of_getElem? (i := i) (by simpa using h1)
    exact absurd (e ▸ m) (List.nodup_cons.mp nd).1
  | y :: l, i + 1, j + 1, x, nd, h1, h2 => congrArg Nat.succ (nodup_idx (List.nodup_cons.mp nd).2 (by simpa using h1) (by simpa using h2))
end Tc
/-! flips: four roads round one road, joined the other way -/
namespace Tc
open PySem PySem.Spec PyProof.Rows L2 Fw Mw
def noZ (z : Str) (r : List Str) : List Str := r.filter fun t => !decide (t = z)
structure Four (js : Rows) (z : Str) (i j : Nat) (x y u v : Str) : Prop where
  lt : i < j
  hi : ∃ r, js[i]? = some r ∧ z ∈ r ∧ noZ z r = [x, y]
  hj : ∃ r, js[j]? = some r ∧ z ∈ r ∧ noZ z r = [u, v]
  sides : sidesOf js z = [i, j]
def flipI (k : Int) (z x y u v : Str) : List Str := if k = 1 then [x, u, z] else [x, v, z]
def flipJ (k : Int) (z x y u v : Str) : List Str := if k = 1 then [y, v, z] else [u, y, z]
def flipRows (js : Rows) (i j : Nat) (k : Int) (z x y u v : Str) : Rows := (js.set i (flipI k z x y u v)).set j (flipJ k z x y u v)
theorem noZ_perm {z : Str} {r : List Str} {x y : Str} (hl : r.length = 3) (hz : z ∈ r) (h : noZ z r = [x, y]) : r.Perm [x, y, z] := by
  have h1 := List.filter_append_perm (fun t => !decide (t = z)) r
  have h2 : r.filter (fun t => !(!decide (t = z))) = [z] := by
    have hl2 := h1.length_eq
    rw [List.length_append, show r.filter (fun t => !decide (t = z)) = [x, y] from h] at hl2
    have hm : ∀ t ∈ r.filter (fun t => !(!decide (t = z))), t = z := fun t ht => by
      have := (List.mem_filter.mp ht).2
      simpa using this
    generalize r.filter (fun t => !(!decide (t = z))) = l at hl2 hm
    match l, hl2 with
    | [a], _ => rw [hm a (by simp)]
    | [], e => simp at e; omega
    | a :: b :: c, e => simp at e; omega
  rw [show r.filter (fun t => !decide (t = z)) = [x, y] from h, h2] at h1
  exact h1.symm
theorem count_set {l : Rows} {i : Nat} {r r' : List Str} (h : l[i]? = some r) (t : Str) : (l.set i r').flatten.count t + r.count t = l.flatten.count t + r'.count t := by
  induction l generalizing i with
  | nil => simp at h
  | cons a l ih =>
    cases i with
    | zero =>
      simp at h
      subst h
      simp [List.count_append]
      omega
    | succ i =>
      simp at h
      have := ih h
      simp [List.count_append]
      omega
section
variable {js : Rows} {z x y u v : Str} {i j : Nat} {k : Int}
theorem Four.of (h3 : ∀ r ∈ js, r.length = 3) (h2 : ∀ x, js.flatten.count x ≤ 2) (h : sidesOf js z = [i, j]) : ∃ x y u v, Four js z i j x y u v := by
  have lt : i < j := by
    have := sides_lt js z
    rw [h] at this
    simpa using this
  obtain ⟨ri, e1, m1⟩ := mem_sides.mp (show i ∈ sidesOf js z by rw [h]; simp)
  obtain ⟨rj, e2, m2⟩ := mem_sides.mp (show j ∈ sidesOf js z by rw [h]; simp)
  have c1 := List.count_pos_iff.mpr m1
  have c2 := List.count_pos_iff.mpr m2
  have cs : ri.count z + rj.count z ≤ 2 := by
    have a1 := count_set (r' := []) e1 z
    have e2' : (js.set i [])[j]? = some rj := by rw [List.getElem?_set_ne (by omega)]; exact e2
    have a2 := count_set (r' := []) e2' z
    have := h2 z
    simp at a1 a2
    omega
  have two : ∀ r : List Str, r.length = 3 → r.count z = 1 → ∃ a b, noZ z r = [a, b] := fun r hl hc => by
    have e := List.length_eq_countP_add_countP (fun t => decide (t = z)) (l := r)
    have e1 : r.countP (fun t => decide (t = z)) = r.count z := by
      unfold List.count
      refine List.countP_congr fun t _ => by simp
    have e2 : (noZ z r).length = 2 := by
      unfold noZ
      rw [← List.countP_eq_length_filter]
      have e3 : r.countP (fun t => !decide (t = z)) = r.countP (fun t => decide ¬decide (t = z) = true) := List.countP_congr fun t _ => by simp
      omega
    match noZ z r, e2 with
    | [a, b], _ => exact ⟨a, b, rfl⟩
  obtain ⟨x, y, f1⟩ := two ri (h3 ri (List.mem_of_getElem? e1)) (by omega)
  obtain ⟨u, v, f2⟩ := two rj (h3 rj (List.mem_of_getElem? e2)) (by omega)
  exact ⟨x, y, u, v, lt, ⟨ri, e1, m1, f1⟩, ⟨rj, e2, m2, f2⟩, h⟩
theorem Four.il (F : Four js z i j x y u v) : i < js.length := by
  obtain ⟨r, e, _⟩ := F.hi
  exact (List.getElem?_eq_some_iff.mp e).1
theorem Four.jl (F : Four js z i j x y u v) : j < js.length := by
  obtain ⟨r, e, _⟩ := F.hj
  exact (List.getElem?_eq_some_iff.mp e).1
theorem Four.ne (F : Four js z i j x y u v) : x ≠ z ∧ y ≠ z ∧ u ≠ z ∧ v ≠ z := by
  obtain ⟨r, _, _, e⟩ := F.hi
  obtain ⟨q, _, _, e2⟩ := F.hj
  have m : ∀ {r : List Str} {t : Str}, t ∈ noZ z r → t ≠ z := fun h => by
    have := (List.mem_filter.mp h).2
    simpa using this
  exact ⟨m (r := r) (by rw [e]; simp), m (r := r) (by rw [e]; simp), m (r := q) (by rw [e2]; simp), m (r := q) (by rw [e2]; simp)⟩
theorem flip_i (F : Four js z i j x y u v) : (flipRows js i j k z x y u v)[i]? = some (flipI k z x y u v) := by
  unfold flipRows
  rw [List.getElem?_set_ne (by have := F.lt; omega), List.getElem?_set_self F.il]
theorem flip_j (F : Four js z i j x y u v) : (flipRows js i j k z x y u v)[j]? = some (flipJ k z x y u v) := by
  unfold flipRows
  rw [List.getElem?_set_self (by rw [List.length_set]; exact F.jl)]
theorem flip_o {n : Nat} (hi : n ≠ i) (hj : n ≠ j) : (flipRows js i j k z x y u v)[n]? = js[n]? := by
  unfold flipRows
  rw [List.getElem?_set_ne (Ne.symm hj), List.getElem?_set_ne (Ne.symm hi)]
theorem flip_len : (flipRows js i j k z x y u v).length = js.length := by
  unfold flipRows
  rw [List.length_set, List.length_set]
theorem flipI_len : (flipI k z x y u v).length = 3 := by unfold flipI; split <;> rfl
theorem flipJ_len : (flipJ k z x y u v).length = 3 := by unfold flipJ; split <;> rfl
theorem flip_words (h3 : ∀ r ∈ js, r.length = 3) (F : Four js z i j x y u v) : (words (flipRows js i j k z x y u v)).Perm (words js) := by
  obtain ⟨r, e, m, f⟩ := F.hi
  obtain ⟨q, e2, m2, f2⟩ := F.hj
  have p1 := noZ_perm (h3 r (List.mem_of_getElem? e)) m f
  have p2 := noZ_perm (h3 q (List.mem_of_getElem? e2)) m2 f2
  refine List.perm_iff_count.mpr fun t => ?_
  have a1 := count_set (r' := flipI k z x y u v) e t
  have e2' : (js.set i (flipI k z x y u v))[j]? = some q := by rw [List.getElem?_set_ne (by have := F.lt; omega)]; exact e2
  have a2 := count_set (r' := flipJ k z x y u v) e2' t
  rw [p1.count_eq t] at a1
  rw [p2.count_eq t] at a2
  show ((js.set i (flipI k z x y u v)).set j (flipJ k z x y u v)).flatten.count t = js.flatten.count t
  unfold flipI flipJ at *
  split at a1
  · rename_i hk
    simp only [if_pos hk, List.count_cons, List.count_nil] at a1 a2 ⊢
    omega
  · rename_i hk
    simp only [if_neg hk, List.count_cons, List.count_nil] at a1 a2 ⊢
    omega
theorem flip_good (g : Mw.Good js) (F : Four js z i j x y u v) : Mw.Good (flipRows js i j k z x y u v) := by
  have h3 : ∀ r ∈ js, r.length = 3 := fun r hr => (g.rows r hr).len
  have pw := flip_words (k := k) h3 F
  have nm : ∀ t ∈ words js, isName t = true := fun t ht => by
    obtain ⟨r, hr, h⟩ := List.mem_flatten.mp ht
    exact (g.rows r hr).names t h
  refine ⟨fun r hr => ⟨?_, fun t ht => nm t (pw.mem_iff.mp (List.mem_flatten.mpr ⟨r, hr, ht⟩))⟩, fun e => ?_, by rw [flip_len]; exact g.most, fun t => by
    have := pw.count_eq t
    have h := g.twice t
    show (words (flipRows js i j k z x y u v)).count t ≤ 2
    rw [this]
    exact h⟩
  · obtain ⟨n, hn⟩ := List.mem_iff_getElem?.mp hr
    by_cases e1 : n = i
    · rw [e1, flip_i F] at hn
      rw [← Option.some.inj hn]; exact flipI_len
    · by_cases e2 : n = j
      · rw [e2, flip_j F] at hn
        rw [← Option.some.inj hn]; exact flipJ_len
      · rw [flip_o e1 e2] at hn
        exact h3 r (List.mem_of_getElem? hn)
  · have := congrArg List.length e
    rw [flip_len] at this
    have h := F.il
    simp at this
    rw [this] at h
    simp at h
theorem flip_whole (g : Mw.Good js) (w : Whole js) (F : Four js z i j x y u v) : Whole (flipRows js i j k z x y u v) := by
  have h3 : ∀ r ∈ js, r.length = 3 := fun r hr => (g.rows r hr).len
  obtain ⟨r, e, m, f⟩ := F.hi
  obtain ⟨q, e2, m2, f2⟩ := F.hj
  have p1 := noZ_perm (h3 r (List.mem_of_getElem? e)) m f
  have p2 := noZ_perm (h3 q (List.mem_of_getElem? e2)) m2 f2
  have zn : z ≠ "" := fun h => by
    have := (g.rows r (List.mem_of_getElem? e)).names z m
    rw [h] at this
    revert this
    decide
  have zI : z ∈ flipI k z x y u v := by unfold flipI; split <;> simp
  have zJ : z ∈ flipJ k z x y u v := by unfold flipJ; split <;> simp
  have ij : Adj (flipRows js i j k z x y u v) "" i j := ⟨_, _, z, flip_i F, flip_j F, zI, zJ, zn⟩
  -- a word of either line stands in one of both lines behind the flip
  have wd : ∀ t, t ∈ r ∨ t ∈ q → t ∈ flipI k z x y u v ∨ t ∈ flipJ k z x y u v := fun t ht => by
    rw [p1.mem_iff, p2.mem_iff] at ht
    unfold flipI flipJ
    split <;> simp at ht ⊢ <;> grind
  have one : ∀ {a b : Nat}, Adj js "" a b → Reach (flipRows js i j k z x y u v) "" a b := by
    rintro a b ⟨ra, rb, t, ea, eb, ta, tb, tn⟩
    by_cases ha : a = i ∨ a = j
    · by_cases hb : b = i ∨ b = j
      · rcases ha with rfl | rfl <;> rcases hb with rfl | rfl
        · exact .here
        · exact .step .here ij
        · exact .step .here (Adj.symm ij)
        · exact .here
      · have tw : t ∈ r ∨ t ∈ q := by
          rcases ha with rfl | rfl
          · exact .inl (by rw [Option.some.inj (e.symm.trans ea)]; exact ta)
          · exact .inr (by rw [Option.some.inj (e2.symm.trans ea)]; exact ta)
        have eb' : (flipRows js i j k z x y u v)[b]? = some rb := by rw [flip_o (fun h => hb (.inl h)) (fun h => hb (.inr h))]; exact eb
        rcases wd t tw with h | h
        · have s : Adj (flipRows js i j k z x y u v) "" i b := ⟨_, _, t, flip_i F, eb', h, tb, tn⟩
          rcases ha with rfl | rfl
          · exact .step .here s
          · exact .step (.step .here (Adj.symm ij)) s
        · have s : Adj (flipRows js i j k z x y u v) "" j b := ⟨_, _, t, flip_j F, eb', h, tb, tn⟩
          rcases ha with rfl | rfl
          · exact .step (.step .here ij) s
          · exact .step .here s
    · have ea' : (flipRows js i j k z x y u v)[a]? = some ra := by rw [flip_o (fun h => ha (.inl h)) (fun h => ha (.inr h))]; exact ea
      by_cases hb : b = i ∨ b = j
      · have tw : t ∈ r ∨ t ∈ q := by
          rcases hb with rfl | rfl
          · exact .inl (by rw [Option.some.inj (e.symm.trans eb)]; exact tb)
          · exact .inr (by rw [Option.some.inj (e2.symm.trans eb)]; exact tb)
        rcases wd t tw with h | h
        · have s : Adj (flipRows js i j k z x y u v) "" a i := ⟨_, _, t, ea', flip_i F, ta, h, tn⟩
          rcases hb with rfl | rfl
          · exact .step .here s
          · exact .step (.step .here s) ij
        · have s : Adj (flipRows js i j k z x y u v) "" a j := ⟨_, _, t, ea', flip_j F, ta, h, tn⟩
          rcases hb with rfl | rfl
          · exact .step (.step .here s) (Adj.symm ij)
          · exact .step .here s
      · have eb' : (flipRows js i j k z x y u v)[b]? = some rb := by rw [flip_o (fun h => hb (.inl h)) (fun h => hb (.inr h))]; exact eb
        exact .step .here ⟨_, _, t, ea', eb', ta, tb, tn⟩
  intro n hn
  rw [flip_len] at hn
  have h := w n hn
  clear hn
  induction h with
  | here => exact .here
  | step _ a ih => exact Reach.trans ih (one a)
theorem noZ_I (F : Four js z i j x y u v) : noZ z (flipI k z x y u v) = if k = 1 then [x, u] else [x, v] := by
  obtain ⟨h1, h2, h3, h4⟩ := F.ne
  unfold flipI noZ
  split <;> simp [h1, h2, h3, h4]
theorem noZ_J (F : Four js z i j x y u v) : noZ z (flipJ k z x y u v) = if k = 1 then [y, v] else [u, y] := by
  obtain ⟨h1, h2, h3, h4⟩ := F.ne
  unfold flipJ noZ
  split <;> simp [h1, h2, h3, h4]
theorem flip_sides (F : Four js z i j x y u v) : sidesOf (flipRows js i j k z x y u v) z = [i, j] := by
  rw [← F.sides]
  unfold sidesOf
  rw [flip_len]
  refine List.filter_congr fun n hn => decide_eq_decide.mpr ?_
  obtain ⟨r, e, m, f⟩ := F.hi
  obtain ⟨q, e2, m2, f2⟩ := F.hj
  by_cases h1 : n = i
  · rw [h1, getD_of (flip_i F), getD_of e]
    have zI : z ∈ flipI k z x y u v := by unfold flipI; split <;> simp
    exact ⟨fun _ => m, fun _ => zI⟩
  · by_cases h2 : n = j
    · rw [h2, getD_of (flip_j F), getD_of e2]
      have zJ : z ∈ flipJ k z x y u v := by unfold flipJ; split <;> simp
      exact ⟨fun _ => m2, fun _ => zJ⟩
    · rw [List.getD_eq_getElem?_getD, List.getD_eq_getElem?_getD, flip_o h1 h2]
/-- the four behind a flip -/
theorem flip_four (F : Four js z i j x y u v) : Four (flipRows js i j k z x y u v) z i j x (if k = 1 then u else v) (if k = 1 then y else u) (if k = 1 then v else y) := by
  have zI : z ∈ flipI k z x y u v := by unfold flipI; split <;> simp
  have zJ : z ∈ flipJ k z x y u v := by unfold flipJ; split <;> simp
  refine ⟨F.lt, ⟨_, flip_i F, zI, ?_⟩, ⟨_, flip_j F, zJ, ?_⟩, flip_sides F⟩
  · rw [noZ_I F]; split <;> rfl
  · rw [noZ_J F]; split <;> rfl
/-- the same way again: the first web, but for the sequence of words -/
theorem paired_idx {α β : Type} {F : α → β → Prop} : ∀ {xs : List α} {ys : List β}, xs.length = ys.length → (∀ (n : Nat) (a : α) (b : β), xs[n]? = some a → ys[n]? = some b → F a b) → Paired F xs ys
  | [], [], _, _ => .nil
  | a :: xs, b :: ys, h, f => .cons (f 0 a b rfl rfl) (paired_idx (by simpa using h) fun n a b e1 e2 => f (n + 1) a b (by simpa using e1) (by simpa using e2))
theorem flip_back (h3 : ∀ r ∈ js, r.length = 3) (F : Four js z i j x y u v) (hk : k = 1 ∨ k = 2) : Paired List.Perm (flipRows (flipRows js i j k z x y u v) i j k z x (if k = 1 then u else v) (if k = 1 then y else u) (if k = 1 then v else y)) js := by
  have F' := flip_four (k := k) F
  obtain ⟨r, e, m, f⟩ := F.hi
  obtain ⟨q, e2, m2, f2⟩ := F.hj
  have p1 := noZ_perm (h3 r (List.mem_of_getElem? e)) m f
  have p2 := noZ_perm (h3 q (List.mem_of_getElem? e2)) m2 f2
  refine paired_idx (by rw [flip_len, flip_len]) fun n a b e3 e4 => ?_
  by_cases h1 : n = i
  · rw [h1, flip_i F'] at e3
    rw [h1, e] at e4
    obtain rfl := Option.some.inj e3
    obtain rfl := Option.some.inj e4
    refine List.Perm.trans ?_ p1.symm
    unfold flipI
    rcases hk with rfl | rfl <;> simp
  · by_cases h2 : n = j
    · rw [h2, flip_j F'] at e3
      rw [h2, e2] at e4
      obtain rfl := Option.some.inj e3
      obtain rfl := Option.some.inj e4
      refine List.Perm.trans ?_ p2.symm
      unfold flipJ
      rcases hk with rfl | rfl <;> simp
    · rw [flip_o h1 h2, flip_o h1 h2, e4] at e3
      rw [Option.some.inj e3]
theorem flip_other (F : Four js z i j x y u v) (hk : k = 1 ∨ k = 2) : Paired List.Perm (flipRows (flipRows js i j k z x y u v) i j (3 - k) z x (if k = 1 then u else v) (if k = 1 then y else u) (if k = 1 then v else y)) (flipRows js i j (3 - k) z x y u v) := by
  have F' := flip_four (k := k) F
  refine paired_idx (by rw [flip_len, flip_len, flip_len]) fun n a b e3 e4 => ?_
  by_cases h1 : n = i
  · rw [h1, flip_i F'] at e3
    rw [h1, flip_i F] at e4
    obtain rfl := Option.some.inj e3
    obtain rfl := Option.some.inj e4
    unfold flipI
    rcases hk with rfl | rfl <;> simp
  · by_cases h2 : n = j
    · rw [h2, flip_j F'] at e3
      rw [h2, flip_j F] at e4
      obtain rfl := Option.some.inj e3
      obtain rfl := Option.some.inj e4
      unfold flipJ
      rcases hk with rfl | rfl <;> simp <;> exact List.Perm.swap _ _ _
    · rw [flip_o h1 h2, flip_o h1 h2] at e3
      rw [flip_o h1 h2, e3] at e4
      rw [Option.some.inj e4]
/-- rows with their names sorted do not tell a row's sequence -/
theorem sorted_rows {js ks : Rows} (h : Paired List.Perm js ks) : js.map (·.mergeSort leS) = ks.map (·.mergeSort leS) := by
  induction h with
  | nil => rfl
  | cons p _ ih =>
    rw [List.map_cons, List.map_cons, ih, sort_uniq (sort_pair _) (sort_pair _) (((List.mergeSort_perm _ _).trans p).trans (List.mergeSort_perm _ _).symm)]
end
end Tc
/-! own rules: sorted() of a list of lists of texts -/
namespace Yo
open PySem PySem.Spec PyProof.Rows L2 PySem.W PySem.Calls
def encR (r : List Str) : PyData := .list (r.map .str)
theorem dp_strs {K : PySem.W.Frag} {H : Hp} : ∀ l : List Str, DpAll K H (l.map V.str) (l.map PyData.str)
  | [] => .nil
  | n :: l => .cons (.str n) (dp_strs l)
theorem alike_strs : ∀ xs ys : List Str, alikeAll (xs.map .str) (ys.map .str) = true
  | [], _ => by simp [alikeAll]
  | _ :: _, [] => by simp [alikeAll]
  | x :: xs, y :: ys => by
    show alikeAll (.str x :: xs.map .str) (.str y :: ys.map .str) = true
    rw [alikeAll, alike_strs xs ys]
    simp [alike]
theorem depth_strs : ∀ xs : List Str, PyData.depthAll (xs.map .str) = 0
  | [] => by simp [PyData.depthAll]
  | x :: xs => by
    show PyData.depthAll (.str x :: xs.map .str) = 0
    rw [PyData.depthAll, depth_strs xs]
    simp [PyData.depth]
theorem each_of {X : Cx} {pins : List (Addr × Obj)} {σ : L2.St} {H : Hp} {s : Shared} (I : Inv X pins σ H s) : ∀ {ps : List V} {us : List Value} {rs : List (List Str)}, Vals ps us → Paired (fun p r => ∃ q, p = .ref q ∧ SqL X.K H q (r.map V.str)) ps rs →
    EachIs (fun v (b : V × List Str) => RelV b.1 v) us (ps.zip rs) ∧ EachIs (fun v (b : V × List Str) => ∃ as, Reads s.heap v (encR b.2) as) us (ps.zip rs) ∧ (ps.zip rs).map (·.2) = rs
  | _, _, _, .nil, .nil => ⟨.nil, .nil, rfl⟩
  | _, _, _, .cons r rv, .cons ⟨q, e, hq⟩ t => by
    obtain ⟨a1, a2, a3⟩ := each_of I rv t
    exact ⟨.cons r a1, .cons (Dp.reads I (encR _) _ _ (e ▸ .lst hq (dp_strs _)) r) a2, by rw [List.zip_cons_cons, List.map_cons, a3]⟩
theorem each_vals {out : List Value} : ∀ {vs : List Value} {bs : List (V × List Str)}, EachIs (fun v (b : V × List Str) => RelV b.1 v) vs bs → Vals (bs.map (·.1)) vs
  | _, _, .nil => .nil
  | _, _, .cons r t => .cons r (each_vals (out := out) t)
/-- sorted(xs), a list of lists of texts -/
def rSortedR (K : PySem.W.Frag) : List V → Hp → VK → Prop := fun vs H Q => ∃ (a : Addr) (ps : List V) (rs : List (List Str)) (F : V → List Str → Prop), vs = [V.ref a] ∧ SqL K H a ps ∧ Paired F ps rs ∧ (∀ p r, F p r → ∃ q, p = .ref q ∧ SqL K H q (r.map V.str)) ∧
  ∀ (qs : List V) (p : Addr), H p = none → Paired F qs (rs.mergeSort (dataLe false encR)) → Q (.ref p) (upd H p (.lst qs))
theorem paired_of {α β : Type} {F : α → β → Prop} : ∀ {zs : List (α × β)}, (∀ z ∈ zs, F z.1 z.2) → Paired F (zs.map (·.1)) (zs.map (·.2))
  | [], _ => .nil
  | z :: zs, h => .cons (h z List.mem_cons_self) (paired_of fun y hy => h y (List.mem_cons_of_mem _ hy))
theorem paired_zip {α β : Type} {F : α → β → Prop} : ∀ {xs : List α} {ys : List β}, Paired F xs ys → ∀ z ∈ xs.zip ys, F z.1 z.2
  | _, _, .nil => fun z h => by cases h
  | _, _, .cons r t => fun z h => by
    rcases List.mem_cons.mp h with rfl | h
    · exact r
    · exact paired_zip t z h
theorem cr_sortedR {X : Cx} (hu : X.A.units + 64 < cLine) : CallR X (.builtin "sorted") (rSortedR X.K) := by
  intro pins s σ H vs us Q I r h
  obtain ⟨a, ps, rs, F, rfl, hs, hp, hF, q⟩ := h
  obtain ⟨its, rv, hl, hz⟩ := I.list hs
  rw [Vals.ref1 r]
  obtain ⟨e1, e2, e3⟩ := each_of I rv (L2.Paired.mapP hp hF)
  have hlen : (ps.zip rs).length = ps.length := by rw [List.length_zip, Paired.length hp, Nat.min_self]
  have ce : ((fun (b : V × List Str) => encR b.2) : V × List Str → PyData) = encR ∘ (·.2) := rfl
  refine sorted_data (enc := fun (b : V × List Str) => encR b.2) hl.isList e1 e2 (AllAlike.of fun b b' => ?_) (Sortable.others fun b => ⟨fun z => (nomatch z), fun xs z => (nomatch z)⟩) (by rw [hlen]; exact hz) (fun b _ => ?_) fun out h1 h2 => ?_
  · show alike (.list (b.2.map .str)) (.list (b'.2.map .str)) = true
    simp only [alike]
    exact alike_strs _ _
  · show X.A.units + 2 + PyData.depth (.list (b.2.map .str)) < cLine
    simp only [PyData.depth]
    rw [depth_strs]
    omega
  · obtain ⟨ep, he'⟩ := PyProof.Rows.sortedAll_at s.heap its out.toArray
    have hv := each_vals (out := out) h2
    have hq : Paired F (((ps.zip rs).mergeSort (dataLe false fun (b : V × List Str) => encR b.2)).map (·.1)) (rs.mergeSort (dataLe false encR)) := by
      have e4 : (((ps.zip rs).mergeSort (dataLe false fun (b : V × List Str) => encR b.2)).map (·.2)) = rs.mergeSort (dataLe false encR) := by
        conv => rhs; rw [← e3]
        exact List.map_mergeSort fun _ _ _ _ => rfl
      rw [← e4]
      exact paired_of fun z hz => paired_zip hp z ((List.mergeSort_perm _ _).mem_iff.mp hz)
    generalize ((ps.zip rs).mergeSort (dataLe false fun (b : V × List Str) => encR b.2)).map (·.1) = qs at hv hq
    have hl2 : qs.length ≤ sizeLine := by
      rw [Paired.length hq, List.length_mergeSort, ← Paired.length hp]
      exact hz
    exact ⟨.ref _, upd H (s.heap.objs.size + 1) (.lst qs), I.laid (t' := s.toks) (fun _ _ => PyProof.Rows.sortedAll_old) (Nat.le_succ _) ⟨hl2, out, ep, hv, he'⟩, rfl, q _ _ (I.hok.fresh (Nat.le_succ _)) hq⟩

/-! ### f(k = v, ..), nothing by position -/
section
variable {X : Cx} {CX : CXT} {k : Nat} {f : Addr} {fd : FuncData} {ps ks : List Str} {sp : Sp} {E : XK} {x : Str} {p pos : Pos} {kws : List Keyword} {tk : TA} {g : List Value → List Value → List Value} {gV : List V → List V → List V}
def tCallK0 (sp : Sp) (gV : List V → List V → List V) (E : XK) (tk : TA) : TE := fun σ H Q => tk σ H fun zs H2 => sp (gV [] zs) H2 Q E
theorem pe_callK0 (F : FnOk X.prog X.w X.K X.mg X.base CX k f fd ps sp) (hr : Room k X.A) (hg : Gl X x) (hm : X.mg x = some (.ref f)) (hk : PySem.W.keepIn X.K (.ref f) = true) (hb : KBinds X.K fd ps ks g gV) (hx : Passes CX X E)
    (hkw : PK X kws tk) (hall : (backToKw pos (keywordEach kws X.env)).all (·.1.isSome) = true := by rfl) (hks : (backToKw pos (keywordEach kws X.env)).filterMap (·.1) = ks := by rfl)
    (hdb : (x == ("__debug__" : Str)) = false := by decide)
    (hpl : ((backTo pos (starEach [] X.env)).any (·.1) || (backToKw pos (keywordEach kws X.env)).any (·.1.isNone)) = false := by rfl) :
    PE X (.Call (.Name x p) [] kws pos) (tCallK0 sp gV E tk) := by
  refine ⟨fun pins s σ H Q I h => ?_⟩
  refine wpAny_Call_Name_kw (ld_glob I hg hm ?_ hdb)
  refine PySem.W.callWith_KW0 (h₀ := X.base) I.ok.mod.kin hk hall (thn (hkw.run pos pins s σ H _ I h) fun ws s2 ⟨zs, H2, I2, rz, q2⟩ => ⟨I2.kIn, ?_⟩) hpl
  rw [hks]
  exact run_fnk (us := []) (vs := []) F hr hb hx I2 .nil rz q2
end
/-! ### len(set(xs)), ints -/
section
variable {X : Cx}
def tLenSetA (K : PySem.W.Frag) (ta : TE) : TE := fun σ H Q => ta σ H fun x H1 => ∃ (l : Addr) (ns : List Int), x = V.ref l ∧ SqL K H1 l (ns.map V.int) ∧ ns.length < 64 ∧ Q (.int (firstMet (fun i => ns.getD i 0) ns.length).length) H1
theorem pe_lenSetA {a : Expr} {ta : TE} {p p2 q pos : Pos} (K : PySem.W.Frag) (hK : X.K = K) (hc : X.calm = true) (hg : Gl X "len") (hm : X.mg "len" = none) (hg2 : Gl X "set") (hm2 : X.mg "set" = none) (ha : PE X a ta)
    (na : starEach [a] X.env = (false, eval a X.env) :: starEach [] X.env := by rfl) : PE X (.Call (.Name "len" p) [.Call (.Name "set" p2) [a] [] q] [] pos) (tLenSetA K ta) := by
  subst hK
  refine ⟨fun pins s σ H Q I h => ?_⟩
  refine Call_ (ld_blt I hg hm PySem.boot_len ?_)
  refine PyProof.Rows.callWith_builtin1 (PyProof.Rows.args_cons ?_ rfl) rfl rfl
  refine Call_ (ld_blt I hg2 hm2 PyProof.Rows.boot_set ?_)
  refine PyProof.Rows.callWith_type1 (PyProof.Rows.args_cons (thn (ha.run pins s σ H _ I h) fun v s1 ⟨x, H1, I1, r1, q1⟩ => PyProof.Rows.args_nil ?_) na) na rfl
  obtain ⟨l, ns, rfl, hq, h1, q1⟩ := q1
  cases r1
  obtain ⟨its, r, pl, hz⟩ := I1.list hq
  have hl : its.toArray.size = ns.length := by rw [List.size_toArray, ← r.length, List.length_map]
  refine call_set_list (I1.ok.hd hc) pl.isList (ns := ns) (by simpa using r.ints) (by unfold scanBound; omega) fun h' tk hS hk => ?_
  rw [hl] at hS
  refine PyProof.Rows.args_nil ?_
  obtain ⟨o, es, ep, t, ho, hex, hd, _, _, _, hf, hn⟩ := hS
  have I2 : Inv X pins σ H1 { s1 with heap := h', toks := tk } := I1.kept fun b o e => hk b o (Heap.lt_size e) e
  have hle : (firstMet (fun i => ns.getD i 0) ns.length).length ≤ ns.length := by
    generalize ns.length = m
    induction m with
    | zero => exact Nat.le_refl _
    | succ m ih =>
      rw [firstMet_succ]
      unfold step_dedup
      split
      · omega
      · rw [List.length_append, List.length_singleton]; omega
  refine call_len_set ho hex hd hf (by rw [hn] <;> omega) ⟨.int _, H1, I2.tok _, ⟨_, by rw [hn]⟩, q1⟩
theorem met_two (i j : Int) : (firstMet (fun k => ([i, j] : List Int).getD k 0) 2).length = if i = j then 1 else 2 := by
  rw [firstMet_succ, firstMet_succ]
  unfold step_dedup firstMet
  by_cases e : i = j
  · subst e; simp
  · rw [if_neg e]; simp [e]
end
end Yo
/-! own rules: sorted() of a tuple of texts -/
namespace Yo
open PySem PySem.Spec PyProof.Rows L2
section
variable {prog : Program} {w : World} {A : Around} {E : Value → Shared → Prop} {s : Shared}
theorem collect_tuple {l : Addr} {vs : List Value} {Q : List Value → Shared → Prop} (hl : s.heap.IsTuple l vs.toArray)
    (h : Q vs { s with heap := (s.heap.push (seqObj "list" #[] 0)).update s.heap.objs.size (Obj.mapSeq (· ++ vs.toArray)) }) (hsz : vs.length ≤ sizeLine) :
    wpAny (model prog w) A (collect (.ref l)) Q E s := by
  obtain ⟨o, ho, hc, n, hd⟩ := id hl
  unfold collect
  refine wpAny_bind (wpAny_runValue (codeAny_builtin entry_proto_collect' ?_))
  show wpAny _ _ (do again (.builtin "list.__iadd__" ⟨[← newList [], .ref l], []⟩)) _ _ s
  refine wpAny_bind (wpAny_newList (wpAny_pure ⟨Code.quiet_builtin _ (by decide +kernel), codeAny_builtin entry_list_iadd' ?_⟩))
  show wpAny _ _ (Builtin.List.listExtendWith (.ref s.heap.objs.size) (.ref l) (.ref s.heap.objs.size)) _ _ { s with heap := s.heap.push (seqObj "list" #[] 0) }
  unfold Builtin.List.listExtendWith
  have ho' : (s.heap.push (seqObj "list" #[] 0)).get? l = some o := Heap.get?_push_of_some _ ho
  refine wpAny_bind (wpAny_typeOf (T := "tuple") ⟨o, ho', hc⟩ ?_)
  have ht : (Value.type "tuple" == Value.type "tuple") = true := by rfl
  rw [if_pos (by rw [ht]; simp)]
  refine wpAny_bind (listItems_at ho' hd ?_)
  refine wpAny_bind (listItems_at (xs := #[]) (n := 0) (Heap.get?_push_size _ rfl) rfl ?_)
  rw [if_neg (by simp)]
  refine wpAny_bind (listUpdate_at (xs := #[]) (n := 0) (Heap.get?_push_size _ rfl) rfl ?_ (Nat.zero_le _) (by show (#[] ++ vs.toArray).size ≤ sizeLine + 1; simp only [Array.size_append, List.size_toArray, List.length_nil]; omega))
  refine wpAny_pure ?_
  show wpAny (model prog w) A (do
      let o ← load s.heap.objs.size
      match o.data with
      | .seq xs _ => pure xs.toList
      | _ => unsupported "internal:collect") Q E { s with heap := (s.heap.push (seqObj "list" #[] 0)).update s.heap.objs.size (Obj.mapSeq (· ++ vs.toArray)) }
  refine wpAny_bind (wpAny_load (get?_update_seq (Heap.get?_push_size _ rfl) _) ?_)
  show wpAny _ _ (pure ((#[] : Array Value) ++ vs.toArray).toList) Q E _
  rw [show ((#[] : Array Value) ++ vs.toArray).toList = vs by simp]
  exact wpAny_pure h
theorem sorted_tuple {l : Addr} {vs : List Value} {xs : List Str} {Q : Value → Shared → Prop} (hl : s.heap.IsTuple l vs.toArray) (hS : StrsAre vs xs) (few : vs.length < 64)
    (k : ∀ (out : Array Value) (ys : List Str), StrsAre out.toList ys → ys.Perm xs → sortedS ys = true → Q (.ref (s.heap.objs.size + 1)) { s with heap := sortedAll s.heap vs out }) : wpAny (model prog w) A (call (.builtin "sorted") [.ref l]) Q E s := by
  have hz : vs.length ≤ sizeLine := by rw [sizeLine_eq]; omega
  refine Calls.call_function_entry kind_sorted plain_sorted entry_sorted (args_sorted1 _) ?_
  unfold Builtin.«sorted»
  refine wpAny_bind (m := checkCount "sorted" 1 1 _) (wpAny_pure (wpAny_bind (collect_tuple (A := A.in1) hl ?_ hz)))
  have hsz : ((s.heap.push (seqObj "list" #[] 0)).update s.heap.objs.size (Obj.mapSeq (· ++ vs.toArray))).objs.size = s.heap.objs.size + 1 := by rw [Heap.size_update, size_push']
  generalize hgen : (s.heap.push (seqObj "list" #[] 0)).update s.heap.objs.size (Obj.mapSeq (· ++ vs.toArray)) = h1 at hsz
  have hl2 : (h1.push (seqObj "list" vs.toArray 0)).get? h1.objs.size = some (seqObj "list" vs.toArray 0) := Heap.get?_push_size _ rfl
  refine wpAny_bind (wpAny_newList (wpAny_bind (wpAny_holding (wpAny_call_entry slot_list_sort ⟨_, hl2, rfl⟩ entry_list_sort (Ys.sort_words hl2 hS few fun out ys e1 e2 e3 => ⟨_, rfl, ?_⟩) (args_list_sort _)))) hz)
  refine wpAny_pure ⟨_, rfl, ?_⟩
  have q := k out ys e1 e2 e3
  unfold sortedAll at q
  rw [hgen] at q
  rw [hsz]
  exact q
end
def rSortedTS (K : PySem.W.Frag) : List V → Hp → VK → Prop := fun vs H Q => ∃ (a : Addr) (xs : List Str), vs = [V.ref a] ∧ SqT K H a (xs.map V.str) ∧ xs.length < 64 ∧
  ∀ (ys : List Str) (p : Addr), ys.Perm xs → sortedS ys = true → H p = none → Q (.ref p) (upd H p (.lst (ys.map V.str)))
theorem cr_sortedTS {X : Cx} (K : PySem.W.Frag) (hK : X.K = K) : CallR X (.builtin "sorted") (rSortedTS K) := by
  subst hK
  intro pins s σ H vs us Q I r h
  obtain ⟨a, xs, rfl, hs, few, q⟩ := h
  obtain ⟨its, rv, hl, hz⟩ := I.tuple hs
  rw [Vals.ref1 r]
  have hS : StrsAre its xs := by simpa using rv.strs
  refine sorted_tuple hl hS (by rw [← rv.length, List.length_map]; exact few) fun out ys e1 e2 e3 => ?_
  obtain ⟨ep, he'⟩ := PyProof.Rows.sortedAll_at s.heap its out
  have hlen : (ys.map V.str).length ≤ sizeLine := by rw [List.length_map, e2.length_eq]; exact small64 few
  exact ⟨.ref _, upd H (s.heap.objs.size + 1) (.lst (ys.map V.str)), I.laid (t' := s.toks) (fun _ _ => PyProof.Rows.sortedAll_old) (Nat.le_succ _) ⟨hlen, out.toList, ep, vals_of_strs e1, he'⟩, rfl, q _ _ e2 e3 (I.hok.fresh (Nat.le_succ _))⟩
end Yo
/-! further readings of comprehensions -/
namespace Fw
open PySem PySem.Spec PyProof.Rows L2 Evl
def tJn (ts : List TE) : TE := fun σ H Q => tJs ts Str.empty σ H fun out H1 => Q (.str out) H1
theorem pe_joinedN {X : Cx} {v1 v2 : Expr} {rest : List Expr} {ts : List TE} {pos : Pos} (h : PJ X (v1 :: v2 :: rest) ts) : PE X (.JoinedStr (v1 :: v2 :: rest) pos) (tJn ts) := pe_joined h
section
variable {σ : L2.St} {H0 : Hp} {te : TE} {tt : TT} {vs : List Nat} {J : It} {n : Nat} {Gd : Hp → Prop} {Qd : Hp → Prop} {D : Addr} {f : Nat → Bool} {v : Nat → V}
/-- over rows of three, to three names -/
theorem lc_row3 {K : PySem.W.Frag} {j1 j2 j3 : Nat} {item : Nat → V → Prop} (wk : Walk J n Gd (fun i H x H' => H' = H ∧ item i x)) (hG : ∀ H', Same H0 H' → Gd H') (hD : H0 D = none) (f : Nat → Bool) (v : Nat → V) (hn : n ≤ 40000)
    (hw : ∀ x y z, wipe ((((wipe σ vs).set j1 (some x)).set j2 (some y)).set j3 (some z)) vs = wipe σ vs)
    (turn : ∀ i x, i < n → item i x → ∃ a b c d, x = .ref a ∧ SqT K H0 a [b, c, d] ∧ EvT tt ((((wipe σ vs).set j1 (some b)).set j2 (some c)).set j3 (some d)) H0 (f i) ∧ (f i = true → Ev te ((((wipe σ vs).set j1 (some b)).set j2 (some c)).set j3 (some d)) H0 (v i)))
    (done : ∀ H', Same H0 H' → H' D = some (.lst (given n f v)) → Qd H') :
    ∃ W : Nat → Nat → Hp → Prop, (∃ m, W 0 m (upd H0 D (.lst []))) ∧ ∀ i m H, W i m H →
      (J.stop i H ∧ Qd H) ∨ (J.go i H ∧ ∃ Nx : Hp → Prop, (∀ H', Nx H' → ∃ m', m' < m ∧ W (i + 1) m' H') ∧ ∀ x H', J.yld i H x H' → gTup K 3 (gCons (gName j1) (gCons (gName j2) (gCons (gName j3) gNil))) x (wipe σ vs) H' fun σ2 H2 => wipe σ2 vs = wipe σ vs ∧ tt σ2 H2 fun b H3 =>
        if b = true then te σ2 H3 fun y H4 => ∃ acc, H4 D = some (.lst acc) ∧ acc.length < sizeLine ∧ Nx (upd H4 D (.lst (acc ++ [y]))) else Nx H3) :=
  lc_it wk (Cw H0 f v D) ⟨hD, Ex.new hD, upd_same⟩ (fun i H' _ p => hG H' p.2.1) (fun i x H H' hi p y => by
    rcases y with ⟨rfl, hy⟩
    obtain ⟨a, b, c, d, rfl, hs, t1, t2⟩ := turn i x hi hy
    exact ⟨a, [b, c, d], rfl, seqT p.2.1 hs, rfl, b, [c, d], rfl, c, [d], rfl, d, [], rfl, rfl, hw b c d, cw_turn p (by omega) t1 t2⟩) (fun H' p => done H' p.2.1 p.2.2)
end
end Fw
/-! promises: flips, texts of rows, webs that are the same but for sequence -/
namespace Yo
open PySem PySem.Spec PyProof.Rows L2
theorem cr_sortedRK {X : Cx} (K : PySem.W.Frag) (hK : X.K = K) (hu : X.A.units + 64 < cLine) : CallR X (.builtin "sorted") (rSortedR K) := by subst hK; exact cr_sortedR hu
end Yo
namespace Tc
open PySem PySem.Spec PyProof.Rows L2 Fw Mw TL
/-- the same with calls by names: g puts the keywords' values in the parameters' order -/
def FunAtK (K : PySem.W.Frag) (mg : Str → Option Value) (x : Str) (st : Stmt) (ps ks : List Str) (g : List Value → List Value → List Value) (gV : List V → List V → List V) : Prop := ∃ f fd, Fun K x x st f fd ∧ mg x = some (.ref f) ∧ Binds K fd ps [] ∧ KBinds K fd ps ks g gV
def CalK (P : Program) (w : World) (K : PySem.W.Frag) (mg : Str → Option Value) (base : Heap) (CX : CXT) (x : Str) (k : Nat) (ps : List Str) (dvs : List V) (sp : Sp) (ks : List Str) (g : List Value → List Value → List Value) (gV : List V → List V → List V) : Prop :=
  ∃ f fd ds, FnOk P w K mg base CX k f fd ps sp ∧ mg x = some (.ref f) ∧ PySem.W.keepIn K (.ref f) = true ∧ Binds K fd ps ds ∧ Vals dvs ds ∧ KBinds K fd ps ks g gV
theorem eqvAll_strs : ∀ xs ys : List Str, PyData.eqvAll (xs.map .str) (ys.map .str) = decide (xs = ys)
  | [], [] => by simp [PyData.eqvAll]
  | [], _ :: _ => by simp [PyData.eqvAll]
  | _ :: _, [] => by simp [PyData.eqvAll]
  | x :: xs, y :: ys => by
    rw [List.map_cons, List.map_cons, PyData.eqvAll, eqvAll_strs xs ys]
    simp only [PyData.eqv]
    by_cases e : x = y <;> by_cases e2 : xs = ys <;> simp [e, e2]
theorem eqv_strs (xs ys : List Str) : PyData.eqv (.list (xs.map .str)) (.list (ys.map .str)) = decide (xs = ys) := by
  rw [PyData.eqv, eqvAll_strs]
theorem eqv_strsT (xs ys : List Str) : PyData.eqv (.tuple (xs.map .str)) (.tuple (ys.map .str)) = decide (xs = ys) := by
  rw [PyData.eqv, eqvAll_strs]
theorem eqvAll_rows : ∀ xs ys : Rows, PyData.eqvAll (xs.map Yo.encR) (ys.map Yo.encR) = decide (xs = ys)
  | [], [] => by simp [PyData.eqvAll]
  | [], _ :: _ => by simp [PyData.eqvAll]
  | _ :: _, [] => by simp [PyData.eqvAll]
  | x :: xs, y :: ys => by
    rw [List.map_cons, List.map_cons, PyData.eqvAll, eqvAll_rows xs ys]
    unfold Yo.encR
    rw [eqv_strs]
    by_cases e : x = y <;> by_cases e2 : xs = ys <;> simp [e, e2]
theorem eqv_rows (xs ys : Rows) : PyData.eqv (.list (xs.map Yo.encR)) (.list (ys.map Yo.encR)) = decide (xs = ys) := by
  rw [PyData.eqv, eqvAll_rows]
theorem eqv_self {d : PyData} (h : SeqAt.shaped d = true) : PyData.eqv d d = true := SeqAt.eqv_refl d (SeqAt.canLay_of_shaped h)
theorem name_str {z : Str} (h : isName z = true) : PyData.strOk z = true := by
  unfold PyData.strOk
  rw [← Array.all_toList, List.all_eq_true]
  intro c hc
  have hl : c ∈ tl letters := Decidable.byContradiction fun n => letter_no h n hc
  have : ∀ c ∈ tl letters, decide (c < 0x110000) = true := List.all_eq_true.mp (show (tl letters).all (fun c => decide (c < 0x110000)) = true by decide +kernel)
  exact this c hl
theorem lay_strs : ∀ ns : List Str, (∀ x ∈ ns, isName x = true) → PyData.canLayAll0 (ns.map PyData.str) = true
  | [], _ => by simp [PyData.canLayAll0]
  | n :: r, h => by
    rw [List.map_cons, PyData.canLayAll0, lay_strs r fun x hx => h x (List.mem_cons_of_mem _ hx)]
    simp [PyData.canLay0, name_str (h n List.mem_cons_self)]
theorem dep_strs (ns : List Str) : PyData.depthAll (ns.map PyData.str) = 0 := Yo.depth_strs ns
theorem shaped_of {d : PyData} (h1 : d.canLay0 = true) (h2 : d.depth ≤ 64) : SeqAt.shaped d = true := by
  show (d.canLay0 && decide (d.depth ≤ 64)) = true
  rw [h1, decide_eq_true h2]; rfl
theorem lay_rows : ∀ rs : Rows, (∀ r ∈ rs, ∀ x ∈ r, isName x = true) → PyData.canLayAll0 (rs.map Yo.encR) = true
  | [], _ => by simp [PyData.canLayAll0]
  | r :: rs, h => by
    rw [List.map_cons, PyData.canLayAll0, lay_rows rs fun q hq => h q (List.mem_cons_of_mem _ hq)]
    simp [Yo.encR, PyData.canLay0, lay_strs r (h r List.mem_cons_self)]
theorem dep_rows : ∀ rs : Rows, PyData.depthAll (rs.map Yo.encR) ≤ 1
  | [] => by simp [PyData.depthAll]
  | r :: rs => by
    have := dep_rows rs
    rw [List.map_cons, PyData.depthAll]
    simp only [Yo.encR, PyData.depth, dep_strs] at this ⊢
    omega
theorem shaped_strsT (ns : List Str) (h : ∀ x ∈ ns, isName x = true) : SeqAt.shaped (.tuple (ns.map PyData.str)) = true :=
  shaped_of (by simp only [PyData.canLay0]; exact lay_strs ns h) (by simp only [PyData.depth]; rw [dep_strs]; omega)
theorem shaped_rows (rs : Rows) (h : ∀ r ∈ rs, ∀ x ∈ r, isName x = true) : SeqAt.shaped (.list (rs.map Yo.encR)) = true :=
  shaped_of (by simp only [PyData.canLay0]; exact lay_rows rs h) (by have := dep_rows rs; simp only [PyData.depth]; omega)
theorem dp_rows {K : PySem.W.Frag} {H : Hp} : ∀ {ts : List V} {rs : Rows}, Paired (rL K rS H) ts rs → DpAll K H ts (rs.map Yo.encR)
  | _, _, .nil => .nil
  | _, _, .cons h t => by
    obtain ⟨a, rfl, hs⟩ := rLs.mp h
    exact .cons (.lst hs (Yo.dp_strs _)) (dp_rows t)
def encT (r : List Str) : PyData := .tuple (r.map .str)
theorem lay_rowsT : ∀ rs : Rows, (∀ r ∈ rs, ∀ x ∈ r, isName x = true) → PyData.canLayAll0 (rs.map encT) = true
  | [], _ => by simp [PyData.canLayAll0]
  | r :: rs, h => by
    rw [List.map_cons, PyData.canLayAll0, lay_rowsT rs fun q hq => h q (List.mem_cons_of_mem _ hq)]
    simp [encT, PyData.canLay0, lay_strs r (h r List.mem_cons_self)]
theorem dep_rowsT : ∀ rs : Rows, PyData.depthAll (rs.map encT) ≤ 1
  | [] => by simp [PyData.depthAll]
  | r :: rs => by
    have := dep_rowsT rs
    rw [List.map_cons, PyData.depthAll]
    simp only [encT, PyData.depth, dep_strs] at this ⊢
    omega
theorem shaped_rowsT (rs : Rows) (h : ∀ r ∈ rs, ∀ x ∈ r, isName x = true) : SeqAt.shaped (.tuple (rs.map encT)) = true :=
  shaped_of (by simp only [PyData.canLay0]; exact lay_rowsT rs h) (by have := dep_rowsT rs; simp only [PyData.depth]; omega)
theorem dp_rowsT {K : PySem.W.Frag} {H : Hp} : ∀ {ts : List V} {rs : Rows}, Paired (rT K rS H) ts rs → DpAll K H ts (rs.map encT)
  | _, _, .nil => .nil
  | _, _, .cons h t => by
    obtain ⟨a, rfl, hs⟩ := rTs.mp h
    exact .cons (.tup hs (Yo.dp_strs _)) (dp_rowsT t)
/-- a number at each place at which a road stands -/
def smeets (js : Rows) : Rows := (js.map (·.mergeSort leS)).mergeSort (PySem.W.dataLe false Yo.encR)
def atsOf (own : Rows) (z : Str) : List Int := (List.range own.length).flatMap fun n => ((own.getD n []).filter fun t => decide (t = z)).map fun _ => (n : Int)
def flipRoads (own : Rows) : List Str := (innerOf own).filter fun z => decide ((sidesOf own z).length = 2)
section
variable (K : PySem.W.Frag) (CW : Addr)
def sp_is_whole (K : PySem.W.Frag) (CW : Addr) : Sp := Sp1 fun x H Q _ => ∃ i : Int, x = .int i ∧ Q (.bl true) H
def sp_is_way (K : PySem.W.Frag) (CW : Addr) : Sp := Sp1 fun x H Q _ => ∃ k : Int, x = .int k ∧ (k = 1 ∨ k = 2) ∧ Q (.bl true) H
def sp_check_way (K : PySem.W.Frag) (CW : Addr) : Sp := Sp1 fun x H Q _ => ∃ k : Int, x = .int k ∧ (k = 1 ∨ k = 2) ∧ Q .non H
def sp_text_of (K : PySem.W.Frag) (CW : Addr) : Sp := Sp1 fun x H Q _ => ∃ G js, Same G H ∧ rT K (rT K rS) G x js ∧ (∀ r ∈ js, RowOk r) ∧ js.length ≤ 100 ∧ ∀ H1, Same H H1 → Q (.str (webText js)) H1
def sp_sorted_meets (K : PySem.W.Frag) (CW : Addr) : Sp := Sp1 fun x H Q _ => ∃ G js, Same G H ∧ rT K (rT K rS) G x js ∧ (∀ r ∈ js, r.length = 3) ∧ js.length ≤ 60 ∧ Ret G H Q (rL K (rL K rS)) (smeets js)
def sp_same_meets (K : PySem.W.Frag) (CW : Addr) : Sp := Sp2 fun x y H Q _ => ∃ G js ks, Same G H ∧ rWeb K CW G x js ∧ rWeb K CW G y ks ∧ Mw.Good js ∧ Mw.Good ks ∧ ∀ H1, Same H H1 → Q (.bl (decide (smeets js = smeets ks))) H1
def sp_can_flip (K : PySem.W.Frag) (CW : Addr) : Sp := Sp2 fun x y H Q _ => ∃ G js z, Same G H ∧ rT K (rT K rS) G x js ∧ y = .str z ∧ js.length ≤ 1000 ∧ ∀ H1, Same H H1 → Q (.bl (decide ((sidesOf js z).length = 2))) H1
def sp_check_road (K : PySem.W.Frag) (CW : Addr) : Sp := Sp2 fun x y H Q _ => ∃ G js z, Same G H ∧ rWeb K CW G x js ∧ y = .str z ∧ js.length ≤ 1000 ∧ (sidesOf js z).length = 2 ∧ ∀ H1, Same H H1 → Q .non H1
def sp_words_beside (K : PySem.W.Frag) (CW : Addr) : Sp := Sp2 fun x y H Q _ => ∃ G js z i j a b c d, Same G H ∧ rT K (rT K rS) G x js ∧ y = .str z ∧ js.length ≤ 1000 ∧ (∀ r ∈ js, r.length = 3) ∧ Four js z i j a b c d ∧ Ret G H Q (rL K rS) [a, b, c, d]
def sp_flipped_junctions (K : PySem.W.Frag) (CW : Addr) : Sp := Sp3 fun x y t H Q _ => ∃ G js z k i j a b c d, Same G H ∧ rT K (rT K rS) G x js ∧ y = .str z ∧ t = .int k ∧ js.length ≤ 1000 ∧ (∀ r ∈ js, r.length = 3) ∧ Four js z i j a b c d ∧ Ret G H Q (rT K (rT K rS)) (flipRows js i j k z a b c d)
def sp_flipped (K : PySem.W.Frag) (CW : Addr) : Sp := Sp3 fun x y t H Q _ => ∃ G js z k i j a b c d, Same G H ∧ rWeb K CW G x js ∧ y = .str z ∧ t = .int k ∧ (k = 1 ∨ k = 2) ∧ Mw.Good js ∧ Whole js ∧ Four js z i j a b c d ∧ Ret G H Q (rWeb K CW) (flipRows js i j k z a b c d)
def sp_law_web_at (K : PySem.W.Frag) (CW : Addr) : Sp := Sp2 fun x y H Q _ => ∃ G own z, Same G H ∧ rL K (rT K rS) G x own ∧ y = .str z ∧ own.length ≤ 60 ∧ (∀ r ∈ own, r.length = 3) ∧ Ret G H Q (rH rI) (atsOf own z)
def sp_law_flip_roads (K : PySem.W.Frag) (CW : Addr) : Sp := Sp1 fun x H Q _ => ∃ G own, Same G H ∧ rL K (rT K rS) G x own ∧ Mw.Good own ∧ Ret G H Q (rH rS) (flipRoads own)
def sp_law_flip_four (K : PySem.W.Frag) (CW : Addr) : Sp := Sp2 fun x y H Q _ => ∃ G own z i j a b c d, Same G H ∧ rL K (rT K rS) G x own ∧ y = .str z ∧ own.length ≤ 60 ∧ (∀ r ∈ own, r.length = 3) ∧ Four own z i j a b c d ∧ Ret G H Q (rT K rS) [a, b, c, d]
def sp_law_flip_web (K : PySem.W.Frag) (CW : Addr) : Sp := Sp3 fun x y t H Q _ => ∃ G own z k i j a b c d, Same G H ∧ rL K (rT K rS) G x own ∧ y = .str z ∧ t = .int k ∧ own.length ≤ 60 ∧ (∀ r ∈ own, r.length = 3) ∧ Four own z i j a b c d ∧ Ret G H Q (rH (rT K rS)) (flipRows own i j k z a b c d)
def sp_law_scene_web (K : PySem.W.Frag) (CW : Addr) : Sp := Sp2 fun x y H Q _ => ∃ (p : Addr) (n : Nat) (G : Hp), Same G H ∧ G p = none ∧ x = .ref p ∧ y = .int 8 ∧ Pot (n + 300) p H ∧ ∀ own, Mw.Good own → Whole own → RetP p n G H Q (rL K (rT K rS)) own
def sp_law_is_flip_right (K : PySem.W.Frag) (CW : Addr) : Sp := fun vs H Q _ => ∃ x y s t, vs = [x, y, s, t] ∧ ∃ G own z k i j a b c d, Same G H ∧ rWeb K CW G x own ∧ rL K (rT K rS) G y own ∧ s = .str z ∧ t = .int k ∧ (k = 1 ∨ k = 2) ∧ Mw.Good own ∧ Whole own ∧ Four own z i j a b c d ∧ ∀ G1 H1, Go [] G H G1 H1 → Q (.bl true) H1
end
end Tc
namespace Tc
open PySem PySem.Spec PyProof.Rows L2 Fw Mw TL
theorem row_parts (u v t : Str) : Str.empty ++ ("meet" : Str) ++ (" " : Str) ++ u ++ (" " : Str) ++ v ++ (" " : Str) ++ t = rowText [u, v, t] := by
  refine tl_inj ?_
  rw [row_join _ (by simp), join_eq, tl_join]
  simp only [tl_append, List.map, joinL]
  rw [show tl Str.empty = [] from rfl, show tl sp1 = tl (" " : Str) from rfl]
  simp only [List.nil_append, List.append_assoc]
end Tc
namespace Tc
open PySem PySem.Spec PyProof.Rows L2 Fw Mw TL
theorem paired_set {α β : Type} {F : α → β → Prop} {a : α} {b : β} (h : F a b) : ∀ {xs : List α} {ys : List β} {i : Nat}, Paired F xs ys → Paired F (xs.set i a) (ys.set i b)
  | _, _, _, .nil => .nil
  | _, _, 0, .cons _ t => .cons h t
  | _, _, i + 1, .cons r t => .cons r (paired_set h t)
end Tc
namespace Tc
open PySem PySem.Spec PyProof.Rows L2 Fw Mw TL
def atsUp (own : Rows) (z : Str) (m : Nat) : List Int := (List.range m).flatMap fun n => ((own.getD n []).filter fun t => decide (t = z)).map fun _ => (n : Int)
theorem atsUp_succ {own : Rows} {z : Str} {m : Nat} {r : List Str} (h : own[m]? = some r) : atsUp own z (m + 1) = atsUp own z m ++ (r.filter fun t => decide (t = z)).map fun _ => (m : Int) := by
  unfold atsUp
  rw [List.range_succ, List.flatMap_append, List.flatMap_singleton, getD_of h]
theorem atsUp_len {own : Rows} {z : Str} (h3 : ∀ r ∈ own, r.length = 3) : ∀ m, m ≤ own.length → (atsUp own z m).length ≤ 3 * m
  | 0, _ => by simp [atsUp]
  | m + 1, hm => by
    have e : own[m]? = some own[m] := List.getElem?_eq_getElem hm
    rw [atsUp_succ e, List.length_append, List.length_map]
    have h1 := atsUp_len h3 (z := z) m (by omega)
    have h2 : (own[m].filter fun t => decide (t = z)).length ≤ own[m].length := List.length_filter_le _ _
    have h4 := h3 _ (List.getElem_mem (l := own) hm)
    omega
theorem mem_atsUp {own : Rows} {z : Str} {m : Nat} {v : Int} : v ∈ atsUp own z m ↔ ∃ n : Nat, v = n ∧ n < m ∧ z ∈ own.getD n [] := by
  unfold atsUp
  rw [List.mem_flatMap]
  constructor
  · rintro ⟨n, hn, h⟩
    obtain ⟨t, ht, rfl⟩ := List.mem_map.mp h
    obtain ⟨h1, h2⟩ := List.mem_filter.mp ht
    exact ⟨n, rfl, List.mem_range.mp hn, by rw [← of_decide_eq_true h2]; exact h1⟩
  · rintro ⟨n, rfl, hn, h⟩
    exact ⟨n, List.mem_range.mpr hn, List.mem_map.mpr ⟨z, List.mem_filter.mpr ⟨h, by simp⟩, rfl⟩⟩
theorem ats_len_eq (own : Rows) (z : Str) : (atsOf own z).length = own.flatten.count z := by
  have h : ∀ m, m ≤ own.length → (atsUp own z m).length = (own.take m).flatten.count z := by
    intro m
    induction m with
    | zero => intro _; simp [atsUp]
    | succ m ih =>
      intro hm
      have e : own[m]? = some own[m] := List.getElem?_eq_getElem hm
      rw [atsUp_succ e, List.length_append, List.length_map, ih (by omega), take_flat own m _ e, List.count_append]
      congr 1
      rw [← List.countP_eq_length_filter]
      unfold List.count
      exact List.countP_congr fun t _ => by simp
  have := h own.length (Nat.le_refl _)
  rw [List.take_length] at this
  exact this
/-- how many lines have a road that stands twice -/
theorem ats_two {own : Rows} {z : Str} (h : own.flatten.count z = 2) : ((firstMet (fun i => (atsOf own z).getD i 0) (atsOf own z).length).length = 2 ↔ (sidesOf own z).length = 2) := by
  have hl := ats_len_eq own z
  rw [h] at hl
  have mem : ∀ v : Int, v ∈ atsOf own z ↔ ∃ n : Nat, v = n ∧ n ∈ sidesOf own z := fun v => by
    have := mem_atsUp (own := own) (z := z) (m := own.length) (v := v)
    refine this.trans ⟨fun ⟨n, e, h1, h2⟩ => ⟨n, e, ?_⟩, fun ⟨n, e, hn⟩ => ⟨n, e, ?_⟩⟩
    · unfold sidesOf
      exact List.mem_filter.mpr ⟨List.mem_range.mpr h1, by simpa using h2⟩
    · unfold sidesOf at hn
      obtain ⟨h1, h2⟩ := List.mem_filter.mp hn
      exact ⟨List.mem_range.mp h1, by simpa using h2⟩
  have lt := sides_lt own z
  match hA : atsOf own z, hl with
  | [a, b], _ =>
    rw [hA] at mem
    rw [show ([a, b] : List Int).length = 2 from rfl, Yo.met_two]
    obtain ⟨i, ei, mi⟩ := (mem a).mp (by simp)
    obtain ⟨j, ej, mj⟩ := (mem b).mp (by simp)
    have sub : ∀ n ∈ sidesOf own z, n = i ∨ n = j := fun n hn => by
      have := (mem n).mpr ⟨n, rfl, hn⟩
      simp at this
      omega
    have nd : (sidesOf own z).Nodup := lt.imp fun h => Nat.ne_of_lt h
    by_cases e : a = b
    · rw [if_pos e]
      have ij : i = j := by omega
      constructor
      · intro h; omega
      · intro h2
        match hS : sidesOf own z, h2 with
        | [p, q], _ =>
          rw [hS] at sub nd
          have h1 := sub p (by simp)
          have h2 := sub q (by simp)
          simp at nd
          omega
    · rw [if_neg e]
      refine ⟨fun _ => ?_, fun _ => rfl⟩
      have ij : i ≠ j := by omega
      have l1 : (sidesOf own z).length ≤ [i, j].length := List.Nodup.length_le_of_subset nd fun n hn => by
        have := sub n hn; simp; exact this
      have l2 : [i, j].length ≤ (sidesOf own z).length := List.Nodup.length_le_of_subset (by simp [ij]) fun n hn => by
        simp at hn
        rcases hn with rfl | rfl <;> assumption
      simp at l1 l2
      omega
end Tc
namespace Tc
open PySem PySem.Spec PyProof.Rows L2 Fw Mw TL
/-- the other words of the lines that have a road, of the first m lines -/
def fourUp (own : Rows) (z : Str) (m : Nat) : List Str := (List.range m).flatMap fun n => if z ∈ own.getD n [] then noZ z (own.getD n []) else []
theorem fourUp_succ {own : Rows} {z : Str} {m : Nat} {r : List Str} (h : own[m]? = some r) : fourUp own z (m + 1) = fourUp own z m ++ if z ∈ r then noZ z r else [] := by
  unfold fourUp
  rw [List.range_succ, List.flatMap_append, List.flatMap_singleton, getD_of h]
theorem fourUp_len {own : Rows} {z : Str} (h3 : ∀ r ∈ own, r.length = 3) : ∀ m, m ≤ own.length → (fourUp own z m).length ≤ 3 * m
  | 0, _ => by simp [fourUp]
  | m + 1, hm => by
    have e : own[m]? = some own[m] := List.getElem?_eq_getElem hm
    rw [fourUp_succ e, List.length_append]
    have h1 := fourUp_len h3 (z := z) m (by omega)
    have h2 : (noZ z own[m]).length ≤ own[m].length := List.length_filter_le _ _
    have h4 := h3 _ (List.getElem_mem (l := own) hm)
    split <;> simp <;> omega
theorem sides_in {own : Rows} {z : Str} {n : Nat} (h : n ∈ sidesOf own z ↔ False) (hn : n < own.length) : z ∉ own.getD n [] := fun m => h.mp (by
  unfold sidesOf
  exact List.mem_filter.mpr ⟨List.mem_range.mpr hn, by simpa using m⟩)
/-- how many of the told lines stand ahead of a number -/
def Four.ahead (i j n : Nat) : Nat := (if i < n then 1 else 0) + (if j < n then 1 else 0)
theorem fourUp_at {own : Rows} {z x y u v : Str} {i j : Nat} (F : Four own z i j x y u v) : ∀ n, n ≤ own.length → fourUp own z n = (if i < n then [x, y] else []) ++ (if j < n then [u, v] else [])
  | 0, _ => by simp [fourUp]
  | n + 1, hn => by
    have e : own[n]? = some own[n] := List.getElem?_eq_getElem hn
    rw [fourUp_succ e, fourUp_at F n (by omega)]
    obtain ⟨r, e1, m1, f1⟩ := F.hi
    obtain ⟨q, e2, m2, f2⟩ := F.hj
    have lt := F.lt
    by_cases h1 : n = i
    · subst h1
      obtain rfl := Option.some.inj (e.symm.trans e1)
      rw [if_pos m1, f1, if_neg (by omega), if_neg (by omega), if_pos (by omega), if_neg (by omega)]
      rfl
    · by_cases h2 : n = j
      · subst h2
        obtain rfl := Option.some.inj (e.symm.trans e2)
        rw [if_pos m2, f2, if_pos (by omega), if_neg (by omega), if_pos (by omega), if_pos (by omega)]
        rfl
      · have no : z ∉ own[n] := fun m => by
          have : n ∈ sidesOf own z := mem_sides.mpr ⟨_, e, m⟩
          rw [F.sides] at this
          simp at this
          omega
        rw [if_neg no, List.append_nil]
        have c1 : (i < n) ↔ (i < n + 1) := by omega
        have c2 : (j < n) ↔ (j < n + 1) := by omega
        simp only [c1, c2]
theorem fourUp_all {own : Rows} {z x y u v : Str} {i j : Nat} (F : Four own z i j x y u v) : fourUp own z own.length = [x, y, u, v] := by
  rw [fourUp_at F _ (Nat.le_refl _), if_pos F.il, if_pos F.jl]
  rfl
end Tc
namespace Tc
open PySem PySem.Spec PyProof.Rows L2 Fw Mw TL
/-- a new pair of numbers -/
theorem tup_step {K : PySem.W.Frag} {L : List Addr} {G H G1 H1 : Hp} {p : Addr} {e r : Int} (go : Go L G H G1 H1) (hp : H1 p = none) : ∃ G2 H2, upd H1 p (.tup [.int e, .int r]) = H2 ∧ Go L G H G2 H2 ∧ Same G1 G2 ∧ Same H1 H2 ∧ SqT K G2 p [.int e, .int r] :=
  ⟨_, _, rfl, go.new hp, same_upd (go.gnone hp), same_upd hp, SqT.of upd_same⟩
def rP2 (K : PySem.W.Frag) : R (Int × Int) := fun H v x => ∃ a, v = .ref a ∧ SqT K H a [.int x.1, .int x.2]
instance {K : PySem.W.Frag} : Mo (rP2 K) := ⟨fun e ⟨a, h1, h2⟩ => ⟨a, h1, seqT e h2⟩⟩
end Tc
namespace Tc
open PySem PySem.Spec PyProof.Rows L2 Fw Mw TL
/-- a new list that is data -/
theorem lst_step {L : List Addr} {G H G1 H1 : Hp} {p : Addr} {xs : List V} (go : Go L G H G1 H1) (hp : H1 p = none) : ∃ G2 H2, upd H1 p (.lst xs) = H2 ∧ Go L G H G2 H2 ∧ Same G1 G2 ∧ Same H1 H2 ∧ G2 p = some (.lst xs) ∧ H2 p = some (.lst xs) :=
  ⟨_, _, rfl, go.new hp, same_upd (go.gnone hp), same_upd hp, upd_same, upd_same⟩
end Tc
namespace Tc
open PySem PySem.Spec PyProof.Rows L2 Fw Mw TL
def encFacts (rs is es : List Str) (g : Int) : PyData := .tuple [.tuple (rs.map .str), .tuple (is.map .str), .tuple (es.map .str), .int g]
theorem shaped_facts {rs is es : List Str} {g : Int} (h1 : ∀ x ∈ rs, isName x = true) (h2 : ∀ x ∈ is, isName x = true) (h3 : ∀ x ∈ es, isName x = true) : SeqAt.shaped (encFacts rs is es g) = true := by
  unfold encFacts
  refine shaped_of ?_ ?_
  · simp [PyData.canLay0, PyData.canLayAll0, lay_strs rs h1, lay_strs is h2, lay_strs es h3]
  · simp only [PyData.depth, PyData.depthAll, dep_strs]
    omega
theorem dp_facts {K : PySem.W.Frag} {H : Hp} {p ar ai ae : Addr} {rs is es : List Str} {g : Int} (hp : SqT K H p [.ref ar, .ref ai, .ref ae, .int g]) (h1 : SqT K H ar (rs.map V.str)) (h2 : SqT K H ai (is.map V.str)) (h3 : SqT K H ae (es.map V.str)) : Dp K H (.ref p) (encFacts rs is es g) :=
  .tup hp (.cons (.tup h1 (Yo.dp_strs _)) (.cons (.tup h2 (Yo.dp_strs _)) (.cons (.tup h3 (Yo.dp_strs _)) (.cons (.int g) .nil))))
theorem smeets_eq {js ks : Rows} (h : Paired List.Perm js ks) : smeets js = smeets ks := by
  unfold smeets
  rw [sorted_rows h]
theorem road_names {js : Rows} (g : Mw.Good js) : (∀ x ∈ roadsOf js, isName x = true) ∧ (∀ x ∈ innerOf js, isName x = true) ∧ ∀ x ∈ endsOf js, isName x = true := by
  have h : ∀ x ∈ roadsOf js, isName x = true := fun x hx => by
    obtain ⟨r, hr, hx⟩ := List.mem_flatten.mp (mem_roads.mp hx)
    exact (g.rows r hr).names x hx
  exact ⟨h, fun x hx => h x (List.mem_filter.mp hx).1, fun x hx => h x (List.mem_filter.mp hx).1⟩
theorem flip_rounds {js : Rows} {z x y u v : Str} {i j : Nat} {k : Int} (h3 : ∀ r ∈ js, r.length = 3) (F : Four js z i j x y u v) : roundsOf (flipRows js i j k z x y u v) = roundsOf js := by
  unfold roundsOf
  rw [inner_perm (flip_words h3 F), flip_len]
end Tc
/-! own rules: zip of a list or a tuple and a list or a tuple; list(zip(..)), dict(zip(..)) -/
namespace Zp
open PySem PySem.Spec PyProof.Rows L2
/-- an iterator at i over the list or tuple at l, k items on -/
def SqIt (h : Heap) (i l : Addr) (k : Nat) (xs : Array Value) : Prop := (h.IsListIter i l k ∧ h.IsList l xs) ∨ (h.IsTupleIter i l k ∧ h.IsTuple l xs)
theorem SqIt.at {h h' : Heap} {i l : Addr} {k : Nat} {xs : Array Value} (x : SqIt h i l k xs) (e1 : ∀ o, h.get? i = some o → h'.get? i = some o) (e2 : ∀ o, h.get? l = some o → h'.get? l = some o) : SqIt h' i l k xs :=
  x.elim (fun y => .inl ⟨y.1.at e1, y.2.at e2⟩) fun y => .inr ⟨y.1.at e1, y.2.at e2⟩
theorem SqIt.ext {h h' : Heap} {e i l : Addr} {k : Nat} {xs : Array Value} (x : SqIt h i l k xs) (hs : Heap.ExtBut e h h') (h1 : i ≠ e) (h2 : l ≠ e) : SqIt h' i l k xs :=
  x.at (fun o q => hs _ _ h1 q) fun o q => hs _ _ h2 q
theorem SqIt.there {h : Heap} {i l : Addr} {k : Nat} {xs : Array Value} (x : SqIt h i l k xs) : ∃ o, h.get? i = some o := by
  rcases x with ⟨⟨o, e, _⟩, _⟩ | ⟨⟨o, e, _⟩, _⟩ <;> exact ⟨o, e⟩
theorem SqIt.thereL {h : Heap} {i l : Addr} {k : Nat} {xs : Array Value} (x : SqIt h i l k xs) : ∃ o, h.get? l = some o := by
  rcases x with ⟨_, ⟨o, e, _⟩⟩ | ⟨_, ⟨o, e, _⟩⟩ <;> exact ⟨o, e⟩
section
variable {prog : Program} {w : World} {A : Around} {E : Value → Shared → Prop} {s : Shared}
theorem nextOf_item {i l : Addr} {k : Nat} {xs : Array Value} {v : Value} {Q : Value → Shared → Prop} (x : SqIt s.heap i l k xs) (hx : xs[k]? = some v) (ne : l ≠ i)
    (hQ : ∀ h', SqIt h' i l (k + 1) xs → Heap.SameBut i s.heap h' → Q v { s with heap := h' }) : wpAny (model prog w) A (Builtin.SmallTypes.nextOf (.ref i)) Q E s := by
  rcases x with ⟨a, b⟩ | ⟨a, b⟩
  · exact wpAny_nextOf_list_item a b hx fun h' a' sb => hQ h' (.inl ⟨a', b.at fun o q => sb.extBut _ _ ne q⟩) sb
  · exact RZ.nextOf_tuple_item a b hx fun h' a' sb => hQ h' (.inr ⟨a', b.at fun o q => sb.extBut _ _ ne q⟩) sb
theorem nextOf_end {i l : Addr} {k : Nat} {xs : Array Value} {Q : Value → Shared → Prop} (hh : A.handled = none) (x : SqIt s.heap i l k xs) (hx : xs[k]? = none)
    (hE : ∀ h' e, Heap.ExtBut i s.heap h' → (∃ o, h'.get? e = some o ∧ o.cls = .type "StopIteration") → E (.ref e) { s with heap := h' }) : wpAny (model prog w) A (Builtin.SmallTypes.nextOf (.ref i)) Q E s := by
  rcases x with ⟨a, b⟩ | ⟨a, b⟩
  · exact wpAny_nextOf_list_end hh a b hx hE
  · exact RZ.nextOf_tuple_end hh a b hx hE

theorem zip_item {z TI TO i1 i2 l1 l2 : Addr} {k1 k2 : Nat} {xs ys : Array Value} {x y a b : Value} {Q : Value → Shared → Prop} (D : ZipApart z TI TO i1 i2 l1 l2)
    (hz : IsZip s.heap z TI TO .none) (hTI : IsPair s.heap TI (.ref i1) (.ref i2)) (hTO : IsPair s.heap TO a b)
    (h1 : SqIt s.heap i1 l1 k1 xs) (h2 : SqIt s.heap i2 l2 k2 ys) (hx : xs[k1]? = some x) (hy : ys[k2]? = some y)
    (hQ : ∀ h', IsZip h' z TI TO (rawInt s.heap.objs.size) → IsPair h' TO x y → SqIt h' i1 l1 (k1 + 1) xs → SqIt h' i2 l2 (k2 + 1) ys → IsPair h' s.heap.objs.size x y → h'.objs.size = s.heap.objs.size + 1 →
      (∀ c o, c ≠ z → c ≠ TO → c ≠ i1 → c ≠ i2 → s.heap.get? c = some o → h'.get? c = some o) → Q (.ref s.heap.objs.size) { s with heap := h' }) :
    wpAny (model prog w) A (Builtin.«zip.__next__» ⟨[.ref z], []⟩) (fun fin s' => ∃ v, fin = .done (.ret v) ∧ Q v s') E s := by
  show wpAny _ _ (field (.ref z) 2 >>= _) _ _ _
  refine wpAny_bind (wpAny_field hz rfl (x := .bool false) rfl ?_)
  show wpAny _ _ (field (.ref z) 3 >>= _) _ _ _
  refine wpAny_bind (wpAny_field hz rfl (x := .ref TI) rfl ?_)
  refine wpAny_bind (wpAny_seqItems hTI rfl ?_)
  show wpAny _ _ (Builtin.SmallTypes.ownedTupleIsFree (.ref z) >>= _) _ _ _
  refine wpAny_bind ?_
  unfold Builtin.SmallTypes.ownedTupleIsFree
  refine wpAny_bind (wpAny_field hz rfl (x := .none) rfl (wpAny_pure ?_))
  simp only [if_true]
  refine wpAny_bind (wpAny_rule ?_)
  refine wpAny_bind (wpAny_field hz rfl (x := .ref TO) rfl ?_)
  refine wpAny_bind (wpAny_setField_rec hz (by simp) fun h₁ hz₁ hs₁ => ?_)
  replace hz₁ : IsZip h₁ z TI TO .ellipsis := hz₁
  refine wpAny_bind ?_
  simp only [List.zipIdx_cons, List.zipIdx_nil, List.forIn_cons, List.forIn_nil]
  refine wpAny_bind (wpAny_bind (wpAny_onRaise ?_))
  show wpAny _ _ (Builtin.SmallTypes.nextOf (.ref i1) >>= _) _ _ _
  refine wpAny_bind (nextOf_item (s := { s with heap := h₁ }) (h1.ext hs₁.extBut D.i1z D.l1z) hx D.l1i1 fun h₂ h1₂ hs₂ => wpAny_pure ?_)
  have hTO₂ : IsPair h₂ TO a b := hs₂.extBut _ _ D.TOi1 (hs₁.extBut _ _ D.TOz hTO)
  refine wpAny_bind (wpAny_seqItems hTO₂ rfl ?_)
  refine wpAny_bind (wpAny_updateSeq_pair hTO₂ fun h₃ hTO₃ hs₃ => ?_)
  replace hTO₃ : IsPair h₃ TO x b := hTO₃
  refine wpAny_bind (wpAny_letGo (wpAny_pure ?_))
  refine wpAny_bind (wpAny_bind (wpAny_onRaise ?_))
  show wpAny _ _ (Builtin.SmallTypes.nextOf (.ref i2) >>= _) _ _ _
  refine wpAny_bind (nextOf_item (s := { s with heap := h₃ }) (((h2.ext hs₁.extBut D.i2z D.l2z).ext hs₂.extBut D.i12.symm D.l2i1).ext hs₃.extBut D.TOi2.symm D.l2TO) hy D.l2i2 fun h₄ h2₄ hs₄ => wpAny_pure ?_)
  have hTO₄ : IsPair h₄ TO x b := hs₄.extBut _ _ D.TOi2 hTO₃
  refine wpAny_bind (wpAny_seqItems hTO₄ rfl ?_)
  refine wpAny_bind (wpAny_updateSeq_pair hTO₄ fun h₅ hTO₅ hs₅ => ?_)
  replace hTO₅ : IsPair h₅ TO x y := hTO₅
  refine wpAny_bind (wpAny_letGo (wpAny_pure (wpAny_pure ?_)))
  refine wpAny_bind (wpAny_seqItems hTO₅ rfl ?_)
  refine wpAny_bind (wpAny_newTuple ?_)
  have hsz : h₅.objs.size = s.heap.objs.size := by rw [hs₅.1, hs₄.1, hs₃.1, hs₂.1, hs₁.1]
  have hz₅ : IsZip h₅ z TI TO .ellipsis := hs₅.extBut _ _ D.TOz.symm (hs₄.extBut _ _ D.i2z.symm (hs₃.extBut _ _ D.TOz.symm (hs₂.extBut _ _ D.i1z.symm hz₁)))
  have hk₅ : ∀ c o, c ≠ z → c ≠ TO → c ≠ i1 → c ≠ i2 → s.heap.get? c = some o → h₅.get? c = some o := fun c o c1 c2 c3 c4 e =>
    hs₅.extBut _ _ c2 (hs₄.extBut _ _ c4 (hs₃.extBut _ _ c2 (hs₂.extBut _ _ c3 (hs₁.extBut _ _ c1 e))))
  have h1₅ : SqIt h₅ i1 l1 (k1 + 1) xs := ((h1₂.ext hs₃.extBut D.TOi1.symm D.l1TO).ext hs₄.extBut D.i12 D.l1i2).ext hs₅.extBut D.TOi1.symm D.l1TO
  have h2₅ : SqIt h₅ i2 l2 (k2 + 1) ys := h2₄.ext hs₅.extBut D.TOi2.symm D.l2TO
  have hzlt : z < h₅.objs.size := Heap.lt_size hz₅
  show wpAny _ _ (Builtin.SmallTypes.ownedTupleHandOut (.ref z) (.ref h₅.objs.size) >>= _) _ _ _
  refine wpAny_bind ?_
  unfold Builtin.SmallTypes.ownedTupleHandOut
  have hz₆ : IsZip (h₅.push { cls := .type "tuple", data := .seq #[x, y] }) z TI TO .ellipsis := Heap.get?_push_of_some _ hz₅
  refine wpAny_bind (wpAny_setField_rec hz₆ (by simp) fun h₇ hz₇ hs₇ => ?_)
  replace hz₇ : IsZip h₇ z TI TO (rawInt h₅.objs.size) := hz₇
  refine wpAny_setField_rec hz₇ (by simp) fun h₈ hz₈ hs₈ => ?_
  replace hz₈ : IsZip h₈ z TI TO (rawInt h₅.objs.size) := hz₈
  have up : ∀ c o, c ≠ z → h₅.get? c = some o → h₈.get? c = some o := fun c o c1 e => hs₈.extBut _ _ c1 (hs₇.extBut _ _ c1 (Heap.get?_push_of_some _ e))
  have hT₈ : IsPair h₈ h₅.objs.size x y := hs₈.extBut _ _ (Nat.ne_of_gt hzlt) (hs₇.extBut _ _ (Nat.ne_of_gt hzlt) (Heap.get?_push_size _ rfl))
  have hz8 : h₈.objs.size = h₅.objs.size + 1 := by rw [hs₈.1, hs₇.1, Heap.size_push]
  rw [hsz] at hz₈ hT₈ hz8
  refine wpAny_pure ⟨_, rfl, ?_⟩
  show Q (.ref h₅.objs.size) _
  rw [hsz]
  exact hQ h₈ hz₈ (up _ _ D.TOz hTO₅) (h1₅.at (fun o e => up _ o D.i1z e) fun o e => up _ o D.l1z e) (h2₅.at (fun o e => up _ o D.i2z e) fun o e => up _ o D.l2z e) hT₈ hz8 fun c o c1 c2 c3 c4 e => up c o c1 (hk₅ c o c1 c2 c3 c4 e)

theorem zip_end {z TI TO i1 i2 l1 l2 : Addr} {k1 k2 : Nat} {xs ys : Array Value} {a b : Value} {Q : Fin → Shared → Prop} (hh : A.handled = none) (D : ZipApart z TI TO i1 i2 l1 l2)
    (hz : IsZip s.heap z TI TO .none) (hTI : IsPair s.heap TI (.ref i1) (.ref i2)) (hTO : IsPair s.heap TO a b)
    (h1 : SqIt s.heap i1 l1 k1 xs) (h2 : SqIt s.heap i2 l2 k2 ys) (hend : xs[k1]? = none ∨ ys[k2]? = none)
    (hE : ∀ h' e, (∀ c o, c ≠ z → c ≠ TO → c ≠ i1 → c ≠ i2 → s.heap.get? c = some o → h'.get? c = some o) → (∃ o, h'.get? e = some o ∧ o.cls = .type "StopIteration") → E (.ref e) { s with heap := h' }) :
    wpAny (model prog w) A (Builtin.«zip.__next__» ⟨[.ref z], []⟩) Q E s := by
  show wpAny _ _ (field (.ref z) 2 >>= _) _ _ _
  refine wpAny_bind (wpAny_field hz rfl (x := .bool false) rfl ?_)
  show wpAny _ _ (field (.ref z) 3 >>= _) _ _ _
  refine wpAny_bind (wpAny_field hz rfl (x := .ref TI) rfl ?_)
  refine wpAny_bind (wpAny_seqItems hTI rfl ?_)
  show wpAny _ _ (Builtin.SmallTypes.ownedTupleIsFree (.ref z) >>= _) _ _ _
  refine wpAny_bind ?_
  unfold Builtin.SmallTypes.ownedTupleIsFree
  refine wpAny_bind (wpAny_field hz rfl (x := .none) rfl (wpAny_pure ?_))
  simp only [if_true]
  refine wpAny_bind (wpAny_rule ?_)
  refine wpAny_bind (wpAny_field hz rfl (x := .ref TO) rfl ?_)
  refine wpAny_bind (wpAny_setField_rec hz (by simp) fun h₁ hz₁ hs₁ => ?_)
  replace hz₁ : IsZip h₁ z TI TO .ellipsis := hz₁
  refine wpAny_bind ?_
  simp only [List.zipIdx_cons, List.zipIdx_nil, List.forIn_cons, List.forIn_nil]
  refine wpAny_bind (wpAny_bind (wpAny_onRaise ?_))
  show wpAny _ _ (Builtin.SmallTypes.nextOf (.ref i1) >>= _) _ _ _
  cases hx : xs[k1]? with
  | none =>
    refine wpAny_bind (nextOf_end (s := { s with heap := h₁ }) hh (h1.ext hs₁.extBut D.i1z D.l1z) hx fun h₂ e hs₂ he => ?_)
    obtain ⟨oe, hoe, hce⟩ := he
    have hz₂ : IsZip h₂ z TI TO .ellipsis := hs₂ _ _ D.i1z.symm hz₁
    have hez : e ≠ z := fun x => by subst x; rw [hz₂] at hoe; cases hoe; simp at hce
    refine wpAny_setField_rec hz₂ (by simp) fun h₃ _ hs₃ => hE h₃ e (fun c o c1 _ c3 _ x => hs₃.extBut _ _ c1 (hs₂ _ _ c3 (hs₁.extBut _ _ c1 x))) ⟨oe, hs₃.extBut _ _ hez hoe, hce⟩
  | some x =>
    have hy : ys[k2]? = none := by rcases hend with h | h; rw [hx] at h; cases h; exact h
    refine wpAny_bind (nextOf_item (s := { s with heap := h₁ }) (h1.ext hs₁.extBut D.i1z D.l1z) hx D.l1i1 fun h₂ h1₂ hs₂ => wpAny_pure ?_)
    have hTO₂ : IsPair h₂ TO a b := hs₂.extBut _ _ D.TOi1 (hs₁.extBut _ _ D.TOz hTO)
    refine wpAny_bind (wpAny_seqItems hTO₂ rfl ?_)
    refine wpAny_bind (wpAny_updateSeq_pair hTO₂ fun h₃ hTO₃ hs₃ => ?_)
    refine wpAny_bind (wpAny_letGo (wpAny_pure ?_))
    refine wpAny_bind (wpAny_bind (wpAny_onRaise ?_))
    show wpAny _ _ (Builtin.SmallTypes.nextOf (.ref i2) >>= _) _ _ _
    refine wpAny_bind (nextOf_end (s := { s with heap := h₃ }) hh (((h2.ext hs₁.extBut D.i2z D.l2z).ext hs₂.extBut D.i12.symm D.l2i1).ext hs₃.extBut D.TOi2.symm D.l2TO) hy fun h₄ e hs₄ he => ?_)
    obtain ⟨oe, hoe, hce⟩ := he
    have hz₄ : IsZip h₄ z TI TO .ellipsis := hs₄ _ _ D.i2z.symm (hs₃.extBut _ _ D.TOz.symm (hs₂.extBut _ _ D.i1z.symm hz₁))
    have hez : e ≠ z := fun x => by subst x; rw [hz₄] at hoe; cases hoe; simp at hce
    refine wpAny_setField_rec hz₄ (by simp) fun h₅ _ hs₅ => hE h₅ e (fun c o c1 c2 c3 c4 x => hs₅.extBut _ _ c1 (hs₄ _ _ c4 (hs₃.extBut _ _ c2 (hs₂.extBut _ _ c3 (hs₁.extBut _ _ c1 x))))) ⟨oe, hs₅.extBut _ _ hez hoe, hce⟩

theorem zip_item_held {z TI TO T i1 i2 l1 l2 : Addr} {f : Bool} {oT : Obj} {k1 k2 : Nat} {xs ys : Array Value} {x y : Value} {Q : Value → Shared → Prop} (D : ZipApart z TI TO i1 i2 l1 l2)
    (hz : IsZipHeld s.heap z TI TO T f) (hT : s.heap.get? T = some oT) (hTI : IsPair s.heap TI (.ref i1) (.ref i2))
    (h1 : SqIt s.heap i1 l1 k1 xs) (h2 : SqIt s.heap i2 l2 k2 ys) (hx : xs[k1]? = some x) (hy : ys[k2]? = some y)
    (hQ : ∀ h', IsZipHeld h' z TI TO T true → SqIt h' i1 l1 (k1 + 1) xs → SqIt h' i2 l2 (k2 + 1) ys → IsPair h' s.heap.objs.size x y → h'.objs.size = s.heap.objs.size + 1 →
      (∀ c o, c ≠ z → c ≠ i1 → c ≠ i2 → s.heap.get? c = some o → h'.get? c = some o) → Q (.ref s.heap.objs.size) { s with heap := h' }) :
    wpAny (model prog w) A (Builtin.«zip.__next__» ⟨[.ref z], []⟩) (fun fin s' => ∃ v, fin = .done (.ret v) ∧ Q v s') E s := by
  show wpAny _ _ (field (.ref z) 2 >>= _) _ _ _
  refine wpAny_bind (wpAny_field hz rfl (x := .bool false) rfl ?_)
  show wpAny _ _ (field (.ref z) 3 >>= _) _ _ _
  refine wpAny_bind (wpAny_field hz rfl (x := .ref TI) rfl ?_)
  refine wpAny_bind (wpAny_seqItems hTI rfl ?_)
  show wpAny _ _ (Builtin.SmallTypes.ownedTupleIsFree (.ref z) >>= _) _ _ _
  refine wpAny_bind (wpAny_tupleHeld_zip hz hT fun h₁ hz₁ hs₁ => ?_)
  simp only [Bool.false_eq_true, if_false]
  refine wpAny_bind ?_
  rw [← Array.forIn_toList]
  simp only [List.forIn_cons, List.forIn_nil]
  refine wpAny_bind (wpAny_bind (wpAny_holding ?_))
  show wpAny _ _ (Builtin.SmallTypes.nextOf (.ref i1) >>= _) _ _ _
  refine wpAny_bind (nextOf_item (s := { s with heap := h₁ }) (h1.ext hs₁.extBut D.i1z D.l1z) hx D.l1i1 fun h₂ h1₂ hs₂ => wpAny_pure ?_)
  refine wpAny_pure ?_
  refine wpAny_bind (wpAny_bind (wpAny_holding ?_))
  show wpAny _ _ (Builtin.SmallTypes.nextOf (.ref i2) >>= _) _ _ _
  refine wpAny_bind (nextOf_item (s := { s with heap := h₂ }) ((h2.ext hs₁.extBut D.i2z D.l2z).ext hs₂.extBut D.i12.symm D.l2i1) hy D.l2i2 fun h₃ h2₃ hs₃ => wpAny_pure ?_)
  refine wpAny_pure (wpAny_pure ?_)
  show wpAny _ _ (newTuple [x, y] >>= _) _ _ _
  refine wpAny_bind (wpAny_newTuple ?_)
  have hsz : h₃.objs.size = s.heap.objs.size := by rw [hs₃.1, hs₂.1, hs₁.1]
  have hz₃ : IsZipHeld h₃ z TI TO T true := hs₃.extBut _ _ D.i2z.symm (hs₂.extBut _ _ D.i1z.symm hz₁)
  have hk : ∀ c o, c ≠ z → c ≠ i1 → c ≠ i2 → s.heap.get? c = some o → h₃.get? c = some o := fun c o c1 c2 c3 e => hs₃.extBut _ _ c3 (hs₂.extBut _ _ c2 (hs₁.extBut _ _ c1 e))
  have h1₃ : SqIt h₃ i1 l1 (k1 + 1) xs := h1₂.ext hs₃.extBut D.i12 D.l1i2
  refine wpAny_pure ⟨_, rfl, ?_⟩
  show Q (.ref h₃.objs.size) _
  have hp : IsPair (h₃.push { cls := .type "tuple", data := .seq #[x, y] }) h₃.objs.size x y := Heap.get?_push_size _ rfl
  have hz4 : (h₃.push { cls := .type "tuple", data := .seq #[x, y] }).objs.size = h₃.objs.size + 1 := Heap.size_push ..
  rw [hsz] at hp hz4 ⊢
  exact hQ _ (Heap.get?_push_of_some _ hz₃) (h1₃.at (fun o e => Heap.get?_push_of_some _ e) fun o e => Heap.get?_push_of_some _ e) (h2₃.at (fun o e => Heap.get?_push_of_some _ e) fun o e => Heap.get?_push_of_some _ e) hp hz4 fun c o c1 c2 c3 e => Heap.get?_push_of_some _ (hk c o c1 c2 c3 e)

theorem zip_end_held {z TI TO T i1 i2 l1 l2 : Addr} {f : Bool} {oT : Obj} {k1 k2 : Nat} {xs ys : Array Value} {Q : Fin → Shared → Prop} (hh : A.handled = none) (D : ZipApart z TI TO i1 i2 l1 l2)
    (hz : IsZipHeld s.heap z TI TO T f) (hT : s.heap.get? T = some oT) (hTI : IsPair s.heap TI (.ref i1) (.ref i2))
    (h1 : SqIt s.heap i1 l1 k1 xs) (h2 : SqIt s.heap i2 l2 k2 ys) (hend : xs[k1]? = none ∨ ys[k2]? = none)
    (hE : ∀ h' e, (∀ c o, c ≠ z → c ≠ i1 → c ≠ i2 → s.heap.get? c = some o → h'.get? c = some o) → (∃ o, h'.get? e = some o ∧ o.cls = .type "StopIteration") → E (.ref e) { s with heap := h' }) :
    wpAny (model prog w) A (Builtin.«zip.__next__» ⟨[.ref z], []⟩) Q E s := by
  show wpAny _ _ (field (.ref z) 2 >>= _) _ _ _
  refine wpAny_bind (wpAny_field hz rfl (x := .bool false) rfl ?_)
  show wpAny _ _ (field (.ref z) 3 >>= _) _ _ _
  refine wpAny_bind (wpAny_field hz rfl (x := .ref TI) rfl ?_)
  refine wpAny_bind (wpAny_seqItems hTI rfl ?_)
  show wpAny _ _ (Builtin.SmallTypes.ownedTupleIsFree (.ref z) >>= _) _ _ _
  refine wpAny_bind (wpAny_tupleHeld_zip hz hT fun h₁ hz₁ hs₁ => ?_)
  simp only [Bool.false_eq_true, if_false]
  refine wpAny_bind ?_
  rw [← Array.forIn_toList]
  simp only [List.forIn_cons, List.forIn_nil]
  refine wpAny_bind (wpAny_bind (wpAny_holding ?_))
  show wpAny _ _ (Builtin.SmallTypes.nextOf (.ref i1) >>= _) _ _ _
  cases hx : xs[k1]? with
  | none =>
    refine wpAny_bind (nextOf_end (s := { s with heap := h₁ }) hh (h1.ext hs₁.extBut D.i1z D.l1z) hx fun h₂ e hs₂ he => ?_)
    exact hE h₂ e (fun c o c1 c2 _ x => hs₂ _ _ c2 (hs₁.extBut _ _ c1 x)) he
  | some x =>
    have hy : ys[k2]? = none := by rcases hend with h | h; rw [hx] at h; cases h; exact h
    refine wpAny_bind (nextOf_item (s := { s with heap := h₁ }) (h1.ext hs₁.extBut D.i1z D.l1z) hx D.l1i1 fun h₂ h1₂ hs₂ => wpAny_pure ?_)
    refine wpAny_pure ?_
    refine wpAny_bind (wpAny_bind (wpAny_holding ?_))
    show wpAny _ _ (Builtin.SmallTypes.nextOf (.ref i2) >>= _) _ _ _
    refine wpAny_bind (nextOf_end (s := { s with heap := h₂ }) hh ((h2.ext hs₁.extBut D.i2z D.l2z).ext hs₂.extBut D.i12.symm D.l2i1) hy fun h₃ e hs₃ he => ?_)
    exact hE h₃ e (fun c o c1 c2 c3 x => hs₃ _ _ c3 (hs₂.extBut _ _ c2 (hs₁.extBut _ _ c1 x))) he
/-! ### as 'next' -/
theorem next_item {z TI TO i1 i2 l1 l2 : Addr} {k1 k2 : Nat} {xs ys : Array Value} {x y a b : Value} {Q : Option Value → Shared → Prop} (D : ZipApart z TI TO i1 i2 l1 l2)
    (hz : IsZip s.heap z TI TO .none) (hTI : IsPair s.heap TI (.ref i1) (.ref i2)) (hTO : IsPair s.heap TO a b)
    (h1 : SqIt s.heap i1 l1 k1 xs) (h2 : SqIt s.heap i2 l2 k2 ys) (hx : xs[k1]? = some x) (hy : ys[k2]? = some y)
    (hQ : ∀ h', IsZip h' z TI TO (rawInt s.heap.objs.size) → IsPair h' TO x y → SqIt h' i1 l1 (k1 + 1) xs → SqIt h' i2 l2 (k2 + 1) ys → IsPair h' s.heap.objs.size x y → h'.objs.size = s.heap.objs.size + 1 →
      (∀ c o, c ≠ z → c ≠ TO → c ≠ i1 → c ≠ i2 → s.heap.get? c = some o → h'.get? c = some o) → Q (some (.ref s.heap.objs.size)) { s with heap := h' }) :
    wpAny (model prog w) A (pyNext (.ref z)) Q E s := by
  have hT : s.TypeIs (.ref z) "zip" := ⟨_, hz, rfl⟩
  unfold pyNext
  exact wpAny_bind (wpAny_attempt (wpAny_callSpecial?_slot (name := Str.ofString "__next__") hT F.slot_zip_next
    (wpAny_call_entry F.slot_zip_next hT F.entry_zip_next
      (zip_item D hz hTI hTO h1 h2 hx hy fun h' a1 a2 a3 a4 a5 a6 a7 => wpAny_pure (hQ h' a1 a2 a3 a4 a5 a6 a7)) (F.args_zip_next_1 _))))
theorem next_end {z TI TO i1 i2 l1 l2 : Addr} {k1 k2 : Nat} {xs ys : Array Value} {a b : Value} {Q : Option Value → Shared → Prop} (hh : A.handled = none) (D : ZipApart z TI TO i1 i2 l1 l2)
    (hz : IsZip s.heap z TI TO .none) (hTI : IsPair s.heap TI (.ref i1) (.ref i2)) (hTO : IsPair s.heap TO a b)
    (h1 : SqIt s.heap i1 l1 k1 xs) (h2 : SqIt s.heap i2 l2 k2 ys) (hend : xs[k1]? = none ∨ ys[k2]? = none)
    (hQ : ∀ h', (∀ c o, c ≠ z → c ≠ TO → c ≠ i1 → c ≠ i2 → s.heap.get? c = some o → h'.get? c = some o) → Q none { s with heap := h' }) : wpAny (model prog w) A (pyNext (.ref z)) Q E s := by
  have hT : s.TypeIs (.ref z) "zip" := ⟨_, hz, rfl⟩
  unfold pyNext
  refine wpAny_bind (wpAny_attempt (wpAny_callSpecial?_slot (name := Str.ofString "__next__") hT F.slot_zip_next
    (wpAny_call_entry F.slot_zip_next hT F.entry_zip_next (zip_end hh D hz hTI hTO h1 h2 hend fun h' e hk he => ?_) (F.args_zip_next_1 _))))
  obtain ⟨o, ho, hc⟩ := he
  refine wpAny_bind (wpAny_isInstance (T := "StopIteration") (b := true) ⟨o, ho, hc⟩ isSubtype_stop ?_)
  exact wpAny_pure (hQ _ hk)
theorem next_item_held {z TI TO T i1 i2 l1 l2 : Addr} {f : Bool} {oT : Obj} {k1 k2 : Nat} {xs ys : Array Value} {x y : Value} {Q : Option Value → Shared → Prop} (D : ZipApart z TI TO i1 i2 l1 l2)
    (hz : IsZipHeld s.heap z TI TO T f) (hT : s.heap.get? T = some oT) (hTI : IsPair s.heap TI (.ref i1) (.ref i2))
    (h1 : SqIt s.heap i1 l1 k1 xs) (h2 : SqIt s.heap i2 l2 k2 ys) (hx : xs[k1]? = some x) (hy : ys[k2]? = some y)
    (hQ : ∀ h', IsZipHeld h' z TI TO T true → SqIt h' i1 l1 (k1 + 1) xs → SqIt h' i2 l2 (k2 + 1) ys → IsPair h' s.heap.objs.size x y → h'.objs.size = s.heap.objs.size + 1 →
      (∀ c o, c ≠ z → c ≠ i1 → c ≠ i2 → s.heap.get? c = some o → h'.get? c = some o) → Q (some (.ref s.heap.objs.size)) { s with heap := h' }) :
    wpAny (model prog w) A (pyNext (.ref z)) Q E s := by
  have hTy : s.TypeIs (.ref z) "zip" := ⟨_, hz, rfl⟩
  unfold pyNext
  exact wpAny_bind (wpAny_attempt (wpAny_callSpecial?_slot (name := Str.ofString "__next__") hTy F.slot_zip_next
    (wpAny_call_entry F.slot_zip_next hTy F.entry_zip_next
      (zip_item_held D hz hT hTI h1 h2 hx hy fun h' a1 a3 a4 a5 a6 a7 => wpAny_pure (hQ h' a1 a3 a4 a5 a6 a7)) (F.args_zip_next_1 _))))
theorem next_end_held {z TI TO T i1 i2 l1 l2 : Addr} {f : Bool} {oT : Obj} {k1 k2 : Nat} {xs ys : Array Value} {Q : Option Value → Shared → Prop} (hh : A.handled = none) (D : ZipApart z TI TO i1 i2 l1 l2)
    (hz : IsZipHeld s.heap z TI TO T f) (hT : s.heap.get? T = some oT) (hTI : IsPair s.heap TI (.ref i1) (.ref i2))
    (h1 : SqIt s.heap i1 l1 k1 xs) (h2 : SqIt s.heap i2 l2 k2 ys) (hend : xs[k1]? = none ∨ ys[k2]? = none)
    (hQ : ∀ h', (∀ c o, c ≠ z → c ≠ i1 → c ≠ i2 → s.heap.get? c = some o → h'.get? c = some o) → Q none { s with heap := h' }) : wpAny (model prog w) A (pyNext (.ref z)) Q E s := by
  have hTy : s.TypeIs (.ref z) "zip" := ⟨_, hz, rfl⟩
  unfold pyNext
  refine wpAny_bind (wpAny_attempt (wpAny_callSpecial?_slot (name := Str.ofString "__next__") hTy F.slot_zip_next
    (wpAny_call_entry F.slot_zip_next hTy F.entry_zip_next (zip_end_held hh D hz hT hTI h1 h2 hend fun h' e hk he => ?_) (F.args_zip_next_1 _))))
  obtain ⟨o, ho, hc⟩ := he
  refine wpAny_bind (wpAny_isInstance (T := "StopIteration") (b := true) ⟨o, ho, hc⟩ isSubtype_stop ?_)
  exact wpAny_pure (hQ _ hk)
end
end Zp
/-! ### the zip made -/
namespace Zp
open PySem PySem.Spec PyProof.Rows L2
section
variable {prog : Program} {w : World} {A : Around} {E : Value → Shared → Prop} {s : Shared}
abbrev mixLT1 (h : Heap) (l1 : Addr) : Heap := h.push { cls := .type "list_iterator", data := .fields #[.ref l1, .int 0 0] }
abbrev mixLT2 (h : Heap) (l1 l2 : Addr) : Heap := (mixLT1 h l1).push { cls := .type "tuple_iterator", data := .fields #[.ref l2, .int 0 0] }
abbrev mixLT3 (h : Heap) (l1 l2 : Addr) : Heap := (mixLT2 h l1 l2).push { cls := .type "tuple", data := .seq #[.ref h.objs.size, .ref (mixLT1 h l1).objs.size] }
abbrev mixLT4 (h : Heap) (l1 l2 : Addr) : Heap := (mixLT3 h l1 l2).push { cls := .type "tuple", data := .seq #[.none, .none] }
abbrev mixLT5 (h : Heap) (l1 l2 : Addr) : Heap := (mixLT4 h l1 l2).push { cls := .type "zip", data := .fields #[.none, .bool false, .bool false, .ref (mixLT2 h l1 l2).objs.size, .ref (mixLT3 h l1 l2).objs.size] }
theorem meets_mixLT_new (l1 l2 : Addr) (xs ys : Array Value) :
    Meets (Builtin.«zip.__new__» ⟨[.type "zip", .ref l1, .ref l2], []⟩) (fun _ R s => s.heap.IsList l1 xs ∧ s.heap.IsTuple l2 ys ∧
      R (.ok (.ret (.ref (mixLT4 s.heap l1 l2).objs.size))) { s with heap := mixLT5 s.heap l1 l2 }) :=
  .of_wp fun prog w A R s h => by
    obtain ⟨hp, g, d, tk, os⟩ := s; obtain ⟨hl1, hl2, h⟩ := h
    have hsub := sub_zip
    have hL1 : Heap.IsList (Shared.heap ⟨hp, g, d, tk, os⟩) l1 xs := hl1
    have hL2 : Heap.IsTuple (Shared.heap ⟨hp.push { cls := .type "list_iterator", data := .fields #[.ref l1, .int 0 0] }, g, d, tk, os⟩) l2 ys := Heap.IsTuple.push hl2 _
    wp_walk using wpAny_pyIter_list hL1, wpAny_pyIter_tuple hL2
    exact ⟨_, rfl, h⟩
theorem call_mixLT {l1 l2 : Addr} {xs ys : Array Value} {Q : Value → Shared → Prop} (hl1 : s.heap.IsList l1 xs) (hl2 : s.heap.IsTuple l2 ys)
    (h : ∀ h', IsZip h' (s.heap.objs.size + 4) (s.heap.objs.size + 2) (s.heap.objs.size + 3) .none → IsPair h' (s.heap.objs.size + 2) (.ref s.heap.objs.size) (.ref (s.heap.objs.size + 1)) →
      IsPair h' (s.heap.objs.size + 3) .none .none → h'.IsListIter s.heap.objs.size l1 0 → h'.IsTupleIter (s.heap.objs.size + 1) l2 0 → h'.objs.size = s.heap.objs.size + 5 →
      (∀ c o, s.heap.get? c = some o → h'.get? c = some o) → Q (.ref (s.heap.objs.size + 4)) { s with heap := h' }) :
    wpAny (model prog w) A (call (.type "zip") [.ref l1, .ref l2]) Q E s := by
  refine callType_new F.called_zip (by decide) (F.typeCall_zip_2 _ _) (F.newCall_zip_2 _ _) (fun obj => F.args_object_init_3 obj _ _) F.entry_zip_new
    (meets_mixLT_new l1 l2 xs ys) ⟨hl1, hl2, ?_⟩
  have z1 : (mixLT1 s.heap l1).objs.size = s.heap.objs.size + 1 := Heap.size_push ..
  have z2 : (mixLT2 s.heap l1 l2).objs.size = s.heap.objs.size + 2 := by rw [Heap.size_push, z1]
  have z3 : (mixLT3 s.heap l1 l2).objs.size = s.heap.objs.size + 3 := by rw [Heap.size_push, z2]
  have z4 : (mixLT4 s.heap l1 l2).objs.size = s.heap.objs.size + 4 := by rw [Heap.size_push, z3]
  have z5 : (mixLT5 s.heap l1 l2).objs.size = s.heap.objs.size + 5 := by rw [Heap.size_push, z4]
  have g5 : (mixLT5 s.heap l1 l2).get? (mixLT4 s.heap l1 l2).objs.size = some _ := Heap.get?_push_size _ rfl
  have g4 : (mixLT5 s.heap l1 l2).get? (mixLT3 s.heap l1 l2).objs.size = some _ := Heap.get?_push_of_some _ (Heap.get?_push_size _ rfl)
  have g3 : (mixLT5 s.heap l1 l2).get? (mixLT2 s.heap l1 l2).objs.size = some _ := Heap.get?_push_of_some _ (Heap.get?_push_of_some _ (Heap.get?_push_size _ rfl))
  have g2 : (mixLT5 s.heap l1 l2).get? (mixLT1 s.heap l1).objs.size = some _ := Heap.get?_push_of_some _ (Heap.get?_push_of_some _ (Heap.get?_push_of_some _ (Heap.get?_push_size _ rfl)))
  have g1 : (mixLT5 s.heap l1 l2).get? s.heap.objs.size = some _ := Heap.get?_push_of_some _ (Heap.get?_push_of_some _ (Heap.get?_push_of_some _ (Heap.get?_push_of_some _ (Heap.get?_push_size _ rfl))))
  show _ ∧ _
  rw [z2, z3, z4] at g5
  rw [z1, z2] at g3
  rw [z3] at g4
  rw [z1] at g2
  rw [z4]
  exact ⟨⟨_, g5, rfl⟩, h _ g5 g3 g4 ⟨_, g1, rfl, rfl⟩ ⟨_, g2, rfl, rfl⟩ z5 fun c o x =>
    Heap.get?_push_of_some _ (Heap.get?_push_of_some _ (Heap.get?_push_of_some _ (Heap.get?_push_of_some _ (Heap.get?_push_of_some _ x))))⟩
abbrev mixTL1 (h : Heap) (l1 : Addr) : Heap := h.push { cls := .type "tuple_iterator", data := .fields #[.ref l1, .int 0 0] }
abbrev mixTL2 (h : Heap) (l1 l2 : Addr) : Heap := (mixTL1 h l1).push { cls := .type "list_iterator", data := .fields #[.ref l2, .int 0 0] }
abbrev mixTL3 (h : Heap) (l1 l2 : Addr) : Heap := (mixTL2 h l1 l2).push { cls := .type "tuple", data := .seq #[.ref h.objs.size, .ref (mixTL1 h l1).objs.size] }
abbrev mixTL4 (h : Heap) (l1 l2 : Addr) : Heap := (mixTL3 h l1 l2).push { cls := .type "tuple", data := .seq #[.none, .none] }
abbrev mixTL5 (h : Heap) (l1 l2 : Addr) : Heap := (mixTL4 h l1 l2).push { cls := .type "zip", data := .fields #[.none, .bool false, .bool false, .ref (mixTL2 h l1 l2).objs.size, .ref (mixTL3 h l1 l2).objs.size] }
theorem meets_mixTL_new (l1 l2 : Addr) (xs ys : Array Value) :
    Meets (Builtin.«zip.__new__» ⟨[.type "zip", .ref l1, .ref l2], []⟩) (fun _ R s => s.heap.IsTuple l1 xs ∧ s.heap.IsList l2 ys ∧
      R (.ok (.ret (.ref (mixTL4 s.heap l1 l2).objs.size))) { s with heap := mixTL5 s.heap l1 l2 }) :=
  .of_wp fun prog w A R s h => by
    obtain ⟨hp, g, d, tk, os⟩ := s; obtain ⟨hl1, hl2, h⟩ := h
    have hsub := sub_zip
    have hL1 : Heap.IsTuple (Shared.heap ⟨hp, g, d, tk, os⟩) l1 xs := hl1
    have hL2 : Heap.IsList (Shared.heap ⟨hp.push { cls := .type "tuple_iterator", data := .fields #[.ref l1, .int 0 0] }, g, d, tk, os⟩) l2 ys := Heap.IsList.push hl2 _
    wp_walk using wpAny_pyIter_tuple hL1, wpAny_pyIter_list hL2
    exact ⟨_, rfl, h⟩
theorem call_mixTL {l1 l2 : Addr} {xs ys : Array Value} {Q : Value → Shared → Prop} (hl1 : s.heap.IsTuple l1 xs) (hl2 : s.heap.IsList l2 ys)
    (h : ∀ h', IsZip h' (s.heap.objs.size + 4) (s.heap.objs.size + 2) (s.heap.objs.size + 3) .none → IsPair h' (s.heap.objs.size + 2) (.ref s.heap.objs.size) (.ref (s.heap.objs.size + 1)) →
      IsPair h' (s.heap.objs.size + 3) .none .none → h'.IsTupleIter s.heap.objs.size l1 0 → h'.IsListIter (s.heap.objs.size + 1) l2 0 → h'.objs.size = s.heap.objs.size + 5 →
      (∀ c o, s.heap.get? c = some o → h'.get? c = some o) → Q (.ref (s.heap.objs.size + 4)) { s with heap := h' }) :
    wpAny (model prog w) A (call (.type "zip") [.ref l1, .ref l2]) Q E s := by
  refine callType_new F.called_zip (by decide) (F.typeCall_zip_2 _ _) (F.newCall_zip_2 _ _) (fun obj => F.args_object_init_3 obj _ _) F.entry_zip_new
    (meets_mixTL_new l1 l2 xs ys) ⟨hl1, hl2, ?_⟩
  have z1 : (mixTL1 s.heap l1).objs.size = s.heap.objs.size + 1 := Heap.size_push ..
  have z2 : (mixTL2 s.heap l1 l2).objs.size = s.heap.objs.size + 2 := by rw [Heap.size_push, z1]
  have z3 : (mixTL3 s.heap l1 l2).objs.size = s.heap.objs.size + 3 := by rw [Heap.size_push, z2]
  have z4 : (mixTL4 s.heap l1 l2).objs.size = s.heap.objs.size + 4 := by rw [Heap.size_push, z3]
  have z5 : (mixTL5 s.heap l1 l2).objs.size = s.heap.objs.size + 5 := by rw [Heap.size_push, z4]
  have g5 : (mixTL5 s.heap l1 l2).get? (mixTL4 s.heap l1 l2).objs.size = some _ := Heap.get?_push_size _ rfl
  have g4 : (mixTL5 s.heap l1 l2).get? (mixTL3 s.heap l1 l2).objs.size = some _ := Heap.get?_push_of_some _ (Heap.get?_push_size _ rfl)
  have g3 : (mixTL5 s.heap l1 l2).get? (mixTL2 s.heap l1 l2).objs.size = some _ := Heap.get?_push_of_some _ (Heap.get?_push_of_some _ (Heap.get?_push_size _ rfl))
  have g2 : (mixTL5 s.heap l1 l2).get? (mixTL1 s.heap l1).objs.size = some _ := Heap.get?_push_of_some _ (Heap.get?_push_of_some _ (Heap.get?_push_of_some _ (Heap.get?_push_size _ rfl)))
  have g1 : (mixTL5 s.heap l1 l2).get? s.heap.objs.size = some _ := Heap.get?_push_of_some _ (Heap.get?_push_of_some _ (Heap.get?_push_of_some _ (Heap.get?_push_of_some _ (Heap.get?_push_size _ rfl))))
  show _ ∧ _
  rw [z2, z3, z4] at g5
  rw [z1, z2] at g3
  rw [z3] at g4
  rw [z1] at g2
  rw [z4]
  exact ⟨⟨_, g5, rfl⟩, h _ g5 g3 g4 ⟨_, g1, rfl, rfl⟩ ⟨_, g2, rfl, rfl⟩ z5 fun c o x =>
    Heap.get?_push_of_some _ (Heap.get?_push_of_some _ (Heap.get?_push_of_some _ (Heap.get?_push_of_some _ (Heap.get?_push_of_some _ x))))⟩
/-- a list or a tuple -/
def Sq (h : Heap) (l : Addr) (xs : Array Value) : Prop := h.IsList l xs ∨ h.IsTuple l xs
theorem Sq.lt {h : Heap} {l : Addr} {xs : Array Value} (x : Sq h l xs) : l < h.objs.size := by
  rcases x with ⟨o, e, _⟩ | ⟨o, e, _⟩ <;> exact Heap.lt_size e
theorem call_zip {l1 l2 : Addr} {xs ys : Array Value} {Q : Value → Shared → Prop} (h1 : Sq s.heap l1 xs) (h2 : Sq s.heap l2 ys)
    (h : ∀ h', IsZip h' (s.heap.objs.size + 4) (s.heap.objs.size + 2) (s.heap.objs.size + 3) .none → IsPair h' (s.heap.objs.size + 2) (.ref s.heap.objs.size) (.ref (s.heap.objs.size + 1)) →
      IsPair h' (s.heap.objs.size + 3) .none .none → SqIt h' s.heap.objs.size l1 0 xs → SqIt h' (s.heap.objs.size + 1) l2 0 ys → h'.objs.size = s.heap.objs.size + 5 →
      (∀ c o, s.heap.get? c = some o → h'.get? c = some o) → Q (.ref (s.heap.objs.size + 4)) { s with heap := h' }) :
    wpAny (model prog w) A (call (.type "zip") [.ref l1, .ref l2]) Q E s := by
  rcases h1 with a | a <;> rcases h2 with b | b
  · exact call_zip_2 a b fun h' z1 z2 z3 z4 z5 z6 k => h h' z1 z2 z3 (.inl ⟨z4, a.at fun o e => k _ o e⟩) (.inl ⟨z5, b.at fun o e => k _ o e⟩) z6 k
  · exact call_mixLT a b fun h' z1 z2 z3 z4 z5 z6 k => h h' z1 z2 z3 (.inl ⟨z4, a.at fun o e => k _ o e⟩) (.inr ⟨z5, b.at fun o e => k _ o e⟩) z6 k
  · exact call_mixTL a b fun h' z1 z2 z3 z4 z5 z6 k => h h' z1 z2 z3 (.inr ⟨z4, a.at fun o e => k _ o e⟩) (.inl ⟨z5, b.at fun o e => k _ o e⟩) z6 k
  · exact RZ.call_zipT a b fun h' z1 z2 z3 z4 z5 z6 k => h h' z1 z2 z3 (.inr ⟨z4, a.at fun o e => k _ o e⟩) (.inr ⟨z5, b.at fun o e => k _ o e⟩) z6 k
end
/-! ### as the argument of dict() -/
/-- what a zip stands on, k pairs on -/
def St (z TI TO i1 i2 l1 l2 : Addr) (xs ys : Array Value) (d : Addr) (i : Nat) (h : Heap) : Prop := IsPair h TI (.ref i1) (.ref i2) ∧ SqIt h i1 l1 i xs ∧ SqIt h i2 l2 i ys ∧
  ((IsZip h z TI TO .none ∧ ∃ a b, IsPair h TO a b) ∨ ∃ T f oT, IsZipHeld h z TI TO T f ∧ h.get? T = some oT ∧ T ≠ z ∧ T ≠ i1 ∧ T ≠ i2 ∧ T ≠ d)
section
variable {prog : Program} {w : World}
theorem arg (z TI TO i1 i2 l1 l2 : Addr) (D : ZipApart z TI TO i1 i2 l1 l2) (xs ys : Array Value) :
    PairArg prog w "zip" z [z, TI, TO, i1, i2, l1, l2] [z, TO, i1, i2] (min xs.size ys.size) (fun i k v => xs[i]? = some k ∧ ys[i]? = some v)
      (fun h => IsZip h z TI TO .none ∧ IsPair h TI (.ref i1) (.ref i2) ∧ (∃ a b, IsPair h TO a b) ∧ SqIt h i1 l1 0 xs ∧ SqIt h i2 l2 0 ys) where
  type := fun s ok => ⟨_, ok.1, rfl⟩
  notDict := by decide
  keep := fun h h' ok hk => by
    obtain ⟨hz, hTI, ⟨a, b, hTO⟩, h1, h2⟩ := ok
    exact ⟨hk _ _ hz, hk _ _ hTI, ⟨a, b, hk _ _ hTO⟩, h1.at (fun o e => hk _ o e) fun o e => hk _ o e, h2.at (fun o e => hk _ o e) fun o e => hk _ o e⟩
  there := fun h ok b hb => by
    obtain ⟨hz, hTI, ⟨a, c, hTO⟩, h1, h2⟩ := ok
    simp only [List.mem_cons, List.not_mem_nil, or_false] at hb
    rcases hb with rfl | rfl | rfl | rfl | rfl | rfl | rfl
    · exact ⟨_, hz⟩
    · exact ⟨_, hTI⟩
    · exact ⟨_, hTO⟩
    · exact h1.there
    · exact h2.there
    · exact h1.thereL
    · exact h2.thereL
  sub := fun b hb => by simp at hb ⊢; rcases hb with rfl | rfl | rfl | rfl <;> simp
  noKeys := fun A s Q E hA ok h => getAttrOr_miss_zip ok.1 rfl rfl rfl zip_no_keys (by decide +kernel) hA h
  iter := fun A s d Q E hA ok hd hdf h => by
    obtain ⟨hz, hTI, ⟨a, b, hTO⟩, h1, h2⟩ := ok
    simp only [List.mem_cons, List.not_mem_nil, or_false, not_or] at hdf
    obtain ⟨dz, dTI, dTO, di1, di2, dl1, dl2⟩ := hdf
    refine wpAny_pyIter_zip hz (h z [z, TO, i1, i2] (St z TI TO i1 i2 l1 l2 xs ys d) s.heap s.toks ?_
      ⟨hTI, h1, h2, .inl ⟨hz, a, b, hTO⟩⟩ (fun _ _ e => e) fun b hb => .inl hb)
    exact {
      off := fun hm => by
        simp only [List.mem_cons, List.not_mem_nil, or_false] at hm
        rcases hm with e | e | e | e
        · exact dz e
        · exact dTO e
        · exact di1 e
        · exact di2 e
      frame := fun i h₁ h₂ st hk => by
        obtain ⟨hTI, h1, h2, hz⟩ := st
        refine ⟨hk _ _ (Ne.symm dTI) hTI, h1.at (fun o e => hk _ o (Ne.symm di1) e) fun o e => hk _ o (Ne.symm dl1) e, h2.at (fun o e => hk _ o (Ne.symm di2) e) fun o e => hk _ o (Ne.symm dl2) e, ?_⟩
        rcases hz with ⟨hz, a, b, hTO⟩ | ⟨T, f, oT, hz, hT, r1, r2, r3, r4⟩
        · exact .inl ⟨hk _ _ (Ne.symm dz) hz, a, b, hk _ _ (Ne.symm dTO) hTO⟩
        · exact .inr ⟨T, f, oT, hk _ _ (Ne.symm dz) hz, hk _ _ r4 hT, r1, r2, r3, r4⟩
      item := fun i s₁ Q₁ E₁ hi st hds hQ => by
        obtain ⟨hTI, h1, h2, hz⟩ := st
        have hix : i < xs.size := Nat.lt_of_lt_of_le hi (Nat.min_le_left ..)
        have hiy : i < ys.size := Nat.lt_of_lt_of_le hi (Nat.min_le_right ..)
        have ex := Array.getElem?_eq_getElem hix
        have ey := Array.getElem?_eq_getElem hiy
        have lt : ∀ {c o}, s₁.heap.get? c = some o → s₁.heap.objs.size ≠ c := fun e => Nat.ne_of_gt (Heap.lt_size e)
        have n1 : s₁.heap.objs.size ≠ i1 := let ⟨_, e⟩ := h1.there; lt e
        have n2 : s₁.heap.objs.size ≠ i2 := let ⟨_, e⟩ := h2.there; lt e
        rcases hz with ⟨hz, a, b, hTO⟩ | ⟨T, f, oT, hz, hT, r1, r2, r3, r4⟩
        · refine next_item D hz hTI hTO h1 h2 ex ey fun h' a1 a2 a3 a4 a5 a6 hk => ?_
          exact hQ s₁.heap.objs.size _ _ h' s₁.toks ⟨ex, ey⟩ (.inl ⟨_, a5, rfl, _, rfl⟩)
            ⟨hk _ _ D.TIz D.TITO D.TIi1 D.TIi2 hTI, a3, a4, .inr ⟨s₁.heap.objs.size, false, _, a1, a5, lt hz, n1, n2, Nat.ne_of_gt hds⟩⟩
            fun c o hc e => hk c o (fun x => hc (by simp [x])) (fun x => hc (by simp [x])) (fun x => hc (by simp [x])) (fun x => hc (by simp [x])) e
        · refine next_item_held D hz hT hTI h1 h2 ex ey fun h' a1 a3 a4 a5 a6 hk => ?_
          exact hQ s₁.heap.objs.size _ _ h' s₁.toks ⟨ex, ey⟩ (.inl ⟨_, a5, rfl, _, rfl⟩)
            ⟨hk _ _ D.TIz D.TIi1 D.TIi2 hTI, a3, a4, .inr ⟨T, true, oT, a1, hk _ _ r1 r2 r3 hT, r1, r2, r3, r4⟩⟩
            fun c o hc e => hk c o (fun x => hc (by simp [x])) (fun x => hc (by simp [x])) (fun x => hc (by simp [x])) e
      done := fun s₁ Q₁ E₁ st hQ => by
        obtain ⟨hTI, h1, h2, hz⟩ := st
        have hend : xs[min xs.size ys.size]? = none ∨ ys[min xs.size ys.size]? = none := by
          rcases Nat.le_total xs.size ys.size with h | h
          · exact .inl (Array.getElem?_eq_none (by rw [Nat.min_eq_left h]; exact Nat.le_refl _))
          · exact .inr (Array.getElem?_eq_none (by rw [Nat.min_eq_right h]; exact Nat.le_refl _))
        rcases hz with ⟨hz, a, b, hTO⟩ | ⟨T, f, oT, hz, hT, r1, r2, r3, r4⟩
        · exact next_end hA D hz hTI hTO h1 h2 hend fun h' hk => hQ h' s₁.toks fun c o hc e => hk c o (fun x => hc (by simp [x])) (fun x => hc (by simp [x])) (fun x => hc (by simp [x])) (fun x => hc (by simp [x])) e
        · exact next_end_held hA D hz hT hTI h1 h2 hend fun h' hk => hQ h' s₁.toks fun c o hc e => hk c o (fun x => hc (by simp [x])) (fun x => hc (by simp [x])) (fun x => hc (by simp [x])) e }
end
end Zp
/-! own rules: list(zip(..)), dict(zip(..)), a walk over zip(..) of a list or a tuple and a list or a tuple -/
namespace Zp
open PySem PySem.Spec PyProof.Rows L2
/-- the tuples made, one behind the other -/
structure Made (xs ys : Array Value) (lo : Addr) (h : Heap) (as : List Addr) : Prop where
  rise : as.Pairwise (· < ·)
  above : ∀ a ∈ as, lo < a
  pairs : ∀ (j : Nat) (a : Addr), as[j]? = some a → ∃ x y, xs[j]? = some x ∧ ys[j]? = some y ∧ IsPair h a x y
theorem Made.there {xs ys : Array Value} {lo : Addr} {h : Heap} {as : List Addr} (g : Made xs ys lo h as) {a : Addr} (ha : a ∈ as) : a < h.objs.size := by
  obtain ⟨j, hj⟩ := List.mem_iff_getElem?.mp ha
  obtain ⟨_, _, _, _, e⟩ := g.pairs j a hj
  exact Heap.lt_size e
theorem Made.low {xs ys : Array Value} {lo lo' : Addr} {h : Heap} {as : List Addr} (g : Made xs ys lo h as) (hl : lo' ≤ lo) : Made xs ys lo' h as := ⟨g.rise, fun a ha => Nat.lt_of_le_of_lt hl (g.above a ha), g.pairs⟩
theorem nolen_zip : typeLookup (.type "zip") "__len__" = pure none := by rw [typeLookup_type, builtinLookup_eq_fast]; kernel_rfl
theorem nohint_zip : typeLookup (.type "zip") "__length_hint__" = pure none := by rw [typeLookup_type, builtinLookup_eq_fast]; kernel_rfl
section
variable {prog : Program} {w : World} {A : Around} {s : Shared} {R : Result → Shared → Prop} {xs ys : Array Value} {z TI TO i1 i2 l1 l2 : Addr}
theorem done_zip {d i : Addr} {E : Value → Shared → Prop} {Q : Option Value → Shared → Prop} (hh : A.handled = none) (D : ZipApart z TI TO i1 i2 l1 l2) (st : St z TI TO i1 i2 l1 l2 xs ys d (min xs.size ys.size) s.heap)
    (hQ : ∀ h', (∀ b o, b ≠ z → b ≠ TO → b ≠ i1 → b ≠ i2 → s.heap.get? b = some o → h'.get? b = some o) → Q none { s with heap := h' }) : wpAny (model prog w) A (pyNext (.ref z)) Q E s := by
  obtain ⟨hTI, h1, h2, hz⟩ := st
  have hend : xs[min xs.size ys.size]? = none ∨ ys[min xs.size ys.size]? = none := by
    rcases Nat.le_total xs.size ys.size with h | h
    · exact .inl (Array.getElem?_eq_none (by rw [Nat.min_eq_left h]; exact Nat.le_refl _))
    · exact .inr (Array.getElem?_eq_none (by rw [Nat.min_eq_right h]; exact Nat.le_refl _))
  rcases hz with ⟨hz, a, b, hTO⟩ | ⟨T, f, oT, hz, hT, r1, r2, r3, r4⟩
  · exact next_end hh D hz hTI hTO h1 h2 hend hQ
  · exact next_end_held hh D hz hT hTI h1 h2 hend fun h' hk => hQ h' fun c o c1 _ c3 c4 e => hk c o c1 c3 c4 e
theorem item_zip {d : Addr} {i : Nat} {E : Value → Shared → Prop} {Q : Option Value → Shared → Prop} (D : ZipApart z TI TO i1 i2 l1 l2) (st : St z TI TO i1 i2 l1 l2 xs ys d i s.heap) (hi : i < min xs.size ys.size) (hd : d < s.heap.objs.size)
    (hQ : ∀ x y h', xs[i]? = some x → ys[i]? = some y → St z TI TO i1 i2 l1 l2 xs ys d (i + 1) h' → IsPair h' s.heap.objs.size x y → h'.objs.size = s.heap.objs.size + 1 →
      (∀ b o, b ≠ z → b ≠ TO → b ≠ i1 → b ≠ i2 → s.heap.get? b = some o → h'.get? b = some o) → Q (some (.ref s.heap.objs.size)) { s with heap := h' }) : wpAny (model prog w) A (pyNext (.ref z)) Q E s := by
  obtain ⟨hTI, h1, h2, hz⟩ := st
  have ex := Array.getElem?_eq_getElem (Nat.lt_of_lt_of_le hi (Nat.min_le_left ..))
  have ey := Array.getElem?_eq_getElem (Nat.lt_of_lt_of_le hi (Nat.min_le_right ..))
  have lt : ∀ {c o}, s.heap.get? c = some o → s.heap.objs.size ≠ c := fun e => Nat.ne_of_gt (Heap.lt_size e)
  have n1 : s.heap.objs.size ≠ i1 := let ⟨_, e⟩ := h1.there; lt e
  have n2 : s.heap.objs.size ≠ i2 := let ⟨_, e⟩ := h2.there; lt e
  rcases hz with ⟨hz, a, b, hTO⟩ | ⟨T, f, oT, hz, hT, r1, r2, r3, r4⟩
  · refine next_item D hz hTI hTO h1 h2 ex ey fun h' a1 a2 a3 a4 a5 a6 hk => ?_
    exact hQ _ _ h' ex ey ⟨hk _ _ D.TIz D.TITO D.TIi1 D.TIi2 hTI, a3, a4, .inr ⟨s.heap.objs.size, false, _, a1, a5, lt hz, n1, n2, Nat.ne_of_gt hd⟩⟩ a5 a6 hk
  · refine next_item_held D hz hT hTI h1 h2 ex ey fun h' a1 a3 a4 a5 a6 hk => ?_
    exact hQ _ _ h' ex ey ⟨hk _ _ D.TIz D.TIi1 D.TIi2 hTI, a3, a4, .inr ⟨T, true, oT, a1, hk _ _ r1 r2 r3 hT, r1, r2, r3, r4⟩⟩ a5 a6 fun c o c1 _ c3 c4 e => hk c o c1 c3 c4 e
theorem St.keep {d i : Addr} {h h' : Heap} (D : ZipApart z TI TO i1 i2 l1 l2) (st : St z TI TO i1 i2 l1 l2 xs ys d i h) (n : d ∉ [z, TI, TO, i1, i2, l1, l2]) (hk : ∀ b o, b ≠ d → h.get? b = some o → h'.get? b = some o) : St z TI TO i1 i2 l1 l2 xs ys d i h' := by
  simp only [List.mem_cons, List.not_mem_nil, or_false, not_or] at n
  obtain ⟨dz, dTI, dTO, di1, di2, dl1, dl2⟩ := n
  obtain ⟨hTI, h1, h2, hz⟩ := st
  refine ⟨hk _ _ (Ne.symm dTI) hTI, h1.at (fun o e => hk _ o (Ne.symm di1) e) fun o e => hk _ o (Ne.symm dl1) e, h2.at (fun o e => hk _ o (Ne.symm di2) e) fun o e => hk _ o (Ne.symm dl2) e, ?_⟩
  rcases hz with ⟨hz, a, b, hTO⟩ | ⟨T, f, oT, hz, hT, r1, r2, r3, r4⟩
  · exact .inl ⟨hk _ _ (Ne.symm dz) hz, a, b, hk _ _ (Ne.symm dTO) hTO⟩
  · exact .inr ⟨T, f, oT, hk _ _ (Ne.symm dz) hz, hk _ _ r4 hT, r1, r2, r3, r4⟩
/-- the loop of list(zip(..)); S is the list; the new tuples lie above lo -/
theorem loop_zip {S lo : Addr} (hh : A.handled = none) (D : ZipApart z TI TO i1 i2 l1 l2) (hn : min xs.size ys.size ≤ sizeLine) (off : S ∉ [z, TI, TO, i1, i2, l1, l2]) (hlS : S ≤ lo) (hlz : z ≤ lo ∧ TO ≤ lo ∧ i1 ≤ lo ∧ i2 ≤ lo) (res : Value) {h₁ : Heap}
    (hR : ∀ h' tk acc c as, (∀ b o, b ≠ S → b ≠ z → b ≠ TO → b ≠ i1 → b ≠ i2 → h₁.get? b = some o → h'.get? b = some o) → h'.get? S = some { cls := .type "list", dict := none, data := .seq acc c, slots := #[] } → as.length = min xs.size ys.size → Made xs ys lo h' as →
      acc.toList = as.map Value.ref → R (.ok (.ret res)) { s with heap := h', toks := tk }) :
    ∀ (k i : Nat) (h : Heap) (tk c : Nat) (acc : Array Value) (as : List Addr), min xs.size ys.size - i = k → i ≤ min xs.size ys.size → St z TI TO i1 i2 l1 l2 xs ys S i h → (∀ b o, b ≠ S → b ≠ z → b ≠ TO → b ≠ i1 → b ≠ i2 → h₁.get? b = some o → h.get? b = some o) →
      h.get? S = some { cls := .type "list", dict := none, data := .seq acc c, slots := #[] } → acc.toList = as.map Value.ref → as.length = i → Made xs ys lo h as → lo < h.objs.size →
      codeAny (model prog w) A (.builtin "list.extend.loop" ⟨[.ref S, .ref z, res], []⟩) R { s with heap := h, toks := tk } := by
  have off' := off
  simp only [List.mem_cons, List.not_mem_nil, or_false, not_or] at off'
  obtain ⟨Sz, STI, STO, Si1, Si2, Sl1, Sl2⟩ := off'
  obtain ⟨lz, lTO, li1, li2⟩ := hlz
  intro k
  induction k with
  | zero =>
    intro i h tk c acc as hk hi hst hkeep hS hacc hal hG hIs
    have hin : i = min xs.size ys.size := by omega
    subst hin
    refine codeAny_builtin PySem.F.entry_extend_loop ?_
    rw [Around.under_plainId PySem.F.plain_extend_loop _]
    show wpAny _ A.in1 (pyNext (.ref z) >>= _) _ _ _
    refine wpAny_bind (done_zip (i := i1) (s := { s with heap := h, toks := tk }) (A := A.in1) hh D hst fun h' he => ?_)
    refine wpAny_pure (hR h' tk acc c as (fun b o h1 h2 h3 h4 h5 e => he b o h2 h3 h4 h5 (hkeep b o h1 h2 h3 h4 h5 e)) (he S _ Sz STO Si1 Si2 hS) hal ⟨hG.rise, hG.above, fun j a hj => ?_⟩ hacc)
    obtain ⟨x, y, e1, e2, e3⟩ := hG.pairs j a hj
    have ab := hG.above a (List.mem_of_getElem? hj)
    exact ⟨x, y, e1, e2, he a _ (Nat.ne_of_gt (Nat.lt_of_le_of_lt lz ab)) (Nat.ne_of_gt (Nat.lt_of_le_of_lt lTO ab)) (Nat.ne_of_gt (Nat.lt_of_le_of_lt li1 ab)) (Nat.ne_of_gt (Nat.lt_of_le_of_lt li2 ab)) e3⟩
  | succ k ih =>
    intro i h tk c acc as hk hi hst hkeep hS hacc hal hG hIs
    have hlt : i < min xs.size ys.size := by omega
    have hsz : acc.size = i := by rw [← Array.length_toList, hacc, List.length_map, hal]
    refine codeAny_builtin PySem.F.entry_extend_loop ?_
    rw [Around.under_plainId PySem.F.plain_extend_loop _]
    show wpAny _ A.in1 (pyNext (.ref z) >>= _) _ _ _
    refine wpAny_bind (item_zip (s := { s with heap := h, toks := tk }) (d := S) D hst hlt (Heap.lt_size hS) fun x y h' hx hy hst' ht hz hkp => ?_)
    dsimp only at ht hz hkp ⊢
    have hS' := hkp S _ Sz STO Si1 Si2 hS
    have up : ∀ b o, b ≠ S → h'.get? b = some o → (h'.update S (Obj.mapSeq (·.push (Value.ref h.objs.size)))).get? b = some o := fun b o hb e => (Heap.get?_update_other _ _ (Ne.symm hb)).trans e
    have hSl : S < h.objs.size := Heap.lt_size hS
    show wpAny _ A.in1 (updateSeq S (·.push (Value.ref h.objs.size)) >>= _) _ _ _
    refine wpAny_bind ?_
    refine wpAny_updateSeq hS' rfl (wpAny_pure ⟨plainId_quiet PySem.F.plain_extend_loop _, ih (i + 1) _ tk _ (acc.push (Value.ref h.objs.size)) (as ++ [h.objs.size]) (by omega) hlt (hst'.keep D off up)
      (fun b o h1 h2 h3 h4 h5 e => up b o h1 (hkp b o h2 h3 h4 h5 (hkeep b o h1 h2 h3 h4 h5 e))) (Heap.get?_update_self _ hS' rfl) (by rw [Array.toList_push, hacc, List.map_append]; rfl) (by rw [List.length_append, hal]; rfl) ⟨?_, ?_, ?_⟩ ?_⟩) (by rw [hsz]; omega) (by show (acc.push (Value.ref h.objs.size)).size ≤ sizeLine + 1; rw [Array.size_push, hsz]; omega)
    · refine List.pairwise_append.mpr ⟨hG.rise, List.pairwise_singleton _ _, fun a ha b hb => ?_⟩
      rw [List.mem_singleton.mp hb]
      exact hG.there ha
    · intro a ha
      rcases List.mem_append.mp ha with ha | ha
      · exact hG.above a ha
      · rw [List.mem_singleton.mp ha]; exact hIs
    · intro j b hj
      rcases Nat.lt_trichotomy j as.length with h1 | h1 | h1
      · rw [List.getElem?_append_left h1] at hj
        obtain ⟨x', y', e1, e2, e3⟩ := hG.pairs j b hj
        have hb := hG.above b (List.mem_of_getElem? hj)
        exact ⟨x', y', e1, e2, up b _ (Nat.ne_of_gt (Nat.lt_of_le_of_lt hlS hb)) (hkp b _ (Nat.ne_of_gt (Nat.lt_of_le_of_lt lz hb)) (Nat.ne_of_gt (Nat.lt_of_le_of_lt lTO hb)) (Nat.ne_of_gt (Nat.lt_of_le_of_lt li1 hb)) (Nat.ne_of_gt (Nat.lt_of_le_of_lt li2 hb)) e3)⟩
      · subst h1
        have hb : h.objs.size = b := by simpa using hj
        subst hb
        exact ⟨x, y, by rw [hal]; exact hx, by rw [hal]; exact hy, up _ _ (Nat.ne_of_gt hSl) ht⟩
      · have hnone : (as ++ [h.objs.size])[j]? = none := List.getElem?_eq_none (by rw [List.length_append, List.length_singleton]; omega)
        rw [hnone] at hj; cases hj
    · have e : (h'.update S (Obj.mapSeq (·.push (Value.ref h.objs.size)))).get? h.objs.size = _ := up _ _ (Nat.ne_of_gt hSl) ht
      exact Nat.lt_trans hIs (Heap.lt_size e)
/-- list(z), z a zip just made; its objects lie below the list -/
theorem call_list_zip {E : Value → Shared → Prop} {Q : Value → Shared → Prop} (hh : A.handled = none) (D : ZipApart z TI TO i1 i2 l1 l2) (hz : IsZip s.heap z TI TO .none) (hTI : IsPair s.heap TI (.ref i1) (.ref i2)) (hTO : ∃ a b, IsPair s.heap TO a b)
    (h1 : SqIt s.heap i1 l1 0 xs) (h2 : SqIt s.heap i2 l2 0 ys) (hn : min xs.size ys.size ≤ sizeLine)
    (hQ : ∀ h' tk acc c as, (∀ b o, b ≠ z → b ≠ TO → b ≠ i1 → b ≠ i2 → s.heap.get? b = some o → h'.get? b = some o) → h'.get? s.heap.objs.size = some { cls := .type "list", dict := none, data := .seq acc c, slots := #[] } → as.length = min xs.size ys.size → Made xs ys s.heap.objs.size h' as →
      acc.toList = as.map Value.ref → Q (.ref s.heap.objs.size) { s with heap := h', toks := tk }) :
    wpAny (model prog w) A (call (.type "list") [.ref z]) Q E s := by
  obtain ⟨a0, b0, hTO⟩ := hTO
  have tz : z < s.heap.objs.size := Heap.lt_size hz
  have tTI : TI < s.heap.objs.size := Heap.lt_size hTI
  have tTO : TO < s.heap.objs.size := Heap.lt_size hTO
  have ti1 : i1 < s.heap.objs.size := let ⟨_, e⟩ := h1.there; Heap.lt_size e
  have ti2 : i2 < s.heap.objs.size := let ⟨_, e⟩ := h2.there; Heap.lt_size e
  have tl1 : l1 < s.heap.objs.size := let ⟨_, e⟩ := h1.thereL; Heap.lt_size e
  have tl2 : l2 < s.heap.objs.size := let ⟨_, e⟩ := h2.thereL; Heap.lt_size e
  have off : s.heap.objs.size ∉ [z, TI, TO, i1, i2, l1, l2] := fun m => by
    simp only [List.mem_cons, List.not_mem_nil, or_false] at m
    rcases m with e | e | e | e | e | e | e
    · exact Nat.ne_of_gt tz e
    · exact Nat.ne_of_gt tTI e
    · exact Nat.ne_of_gt tTO e
    · exact Nat.ne_of_gt ti1 e
    · exact Nat.ne_of_gt ti2 e
    · exact Nat.ne_of_gt tl1 e
    · exact Nat.ne_of_gt tl2 e
  refine callType_codes (Q₁ := fun obj s₁ => obj = .ref s.heap.objs.size ∧ s₁ = { s with heap := s.heap.push { cls := .type "list", data := .seq #[] } }) PySem.F.called_list (PySem.F.typeCall_list_1 _) PySem.F.entry_list_init
    (code_list_new _ ⟨rfl, rfl⟩) fun obj s₁ h₁ => ?_
  obtain ⟨rfl, rfl⟩ := h₁
  have hS : (s.heap.push { cls := .type "list", data := .seq #[] }).get? s.heap.objs.size = some { cls := .type "list", data := .seq #[] } := Heap.get?_push_size _ rfl
  refine ⟨⟨_, hS, rfl⟩, PySem.F.args_list_init_2 _ _, ?_⟩
  show wpAny _ _ (do let old ← Builtin.List.listItems (.ref s.heap.objs.size); Builtin.List.listUpdate (.ref s.heap.objs.size) (fun _ => #[]); letGo old.toList.reverse; Builtin.List.listExtendWith (.ref s.heap.objs.size) (.ref z) .none) _ _ _
  refine wpAny_bind ?_
  unfold Builtin.List.listItems
  refine wpAny_bind (wpAny_seqItems hS rfl (wpAny_pure ?_))
  show wpAny _ _ (updateSeq s.heap.objs.size (fun _ => #[]) >>= fun _ => letGo (#[] : Array Value).toList.reverse >>= fun _ => Builtin.List.listExtendWith (.ref s.heap.objs.size) (.ref z) .none) _ _ _
  refine wpAny_bind (wpAny_updateSeq hS rfl ?_)
  have hS₂ := Heap.get?_update_self (Obj.mapSeq (fun _ => (#[] : Array Value))) hS rfl
  have oth : ∀ b o, s.heap.get? b = some o → ((s.heap.push { cls := .type "list", data := .seq #[] }).update s.heap.objs.size (Obj.mapSeq (fun _ => (#[] : Array Value)))).get? b = some o :=
    fun b o e => (Heap.get?_update_other _ _ (Nat.ne_of_gt (Heap.lt_size e))).trans (Heap.get?_push_of_some _ e)
  refine wpAny_bind (wpAny_letGo ?_)
  generalize (s.heap.push { cls := .type "list", data := .seq #[] }).update s.heap.objs.size (Obj.mapSeq (fun _ => (#[] : Array Value))) = h3 at hS₂ oth
  have st0 : St z TI TO i1 i2 l1 l2 xs ys s.heap.objs.size 0 h3 := ⟨oth _ _ hTI, h1.at (fun o e => oth _ o e) fun o e => oth _ o e, h2.at (fun o e => oth _ o e) fun o e => oth _ o e, .inl ⟨oth _ _ hz, a0, b0, oth _ _ hTO⟩⟩
  have hTz : ∀ h : Heap, (∀ b o, s.heap.get? b = some o → h.get? b = some o) → Shared.TypeIs { s with heap := h } (.ref z) "zip" := fun h k => ⟨_, k _ _ hz, rfl⟩
  unfold Builtin.List.listExtendWith
  refine wpAny_bind (wpAny_typeOf (T := "zip") (hTz h3 oth) ?_)
  have e1 : Builtin.List.listSameRef (.ref s.heap.objs.size) (.ref z) = false := by simp [Builtin.List.listSameRef, Nat.ne_of_gt tz]
  have e2 : (Value.type "zip" == Value.type "list") = false := by decide
  have e3 : (Value.type "zip" == Value.type "tuple") = false := by decide
  simp only [e1, e2, e3, Bool.or_false, Bool.false_eq_true, if_false]
  refine wpAny_bind (wpAny_pyIter_zip (oth _ _ hz) ?_)
  refine wpAny_bind (wpAny_holding ?_)
  unfold Builtin.List.listLengthHint
  refine wpAny_bind (wpAny_specialOf (hTz h3 oth) nolen_zip ?_)
  show wpAny _ _ (specialOf (Value.ref z) (Str.ofString "__length_hint__") >>= _) _ _ _
  refine wpAny_bind (wpAny_specialOf (hTz h3 oth) nohint_zip ?_)
  refine wpAny_pure ?_
  show wpAny _ _ (rule "list.extend.makes-room" >>= fun _ => Builtin.List.listTouch (.ref s.heap.objs.size) >>= fun _ =>
    again (.builtin "list.extend.loop" ⟨[.ref s.heap.objs.size, .ref z, .none], []⟩)) _ _ _
  refine wpAny_bind (wpAny_rule ?_)
  refine wpAny_bind ?_
  show wpAny _ _ (updateSeq s.heap.objs.size (·.push .none) >>= fun _ => updateSeq s.heap.objs.size (·.pop)) _ _ _
  refine wpAny_bind (wpAny_updateSeq hS₂ rfl ?_)
  have hS₃ := Heap.get?_update_self (Obj.mapSeq (·.push Value.none)) hS₂ rfl
  refine wpAny_updateSeq (hz := by seq_fits) hS₃ rfl ?_
  have hS₄ := Heap.get?_update_self (Obj.mapSeq (·.pop)) hS₃ rfl
  have oth2 : ∀ b o, b ≠ s.heap.objs.size → h3.get? b = some o → ((h3.update s.heap.objs.size (Obj.mapSeq (·.push Value.none))).update s.heap.objs.size (Obj.mapSeq (·.pop))).get? b = some o :=
    fun b o hb e => (Heap.get?_update_other _ _ (Ne.symm hb)).trans ((Heap.get?_update_other _ _ (Ne.symm hb)).trans e)
  have st1 := st0.keep D off oth2
  generalize (h3.update s.heap.objs.size (Obj.mapSeq (·.push Value.none))).update s.heap.objs.size (Obj.mapSeq (·.pop)) = h4 at hS₄ oth2 st1
  refine wpAny_pure ⟨plainId_quiet PySem.F.plain_extend_loop _, ?_⟩
  exact loop_zip (s := s) (h₁ := s.heap) (S := s.heap.objs.size) (lo := s.heap.objs.size) (A := A.in1) hh D hn off (Nat.le_refl _) ⟨Nat.le_of_lt tz, Nat.le_of_lt tTO, Nat.le_of_lt ti1, Nat.le_of_lt ti2⟩ .none
    (fun h' tk acc c as hk hS' hl hG hacc => ⟨rfl, hQ h' tk acc c as (fun b o c1 c2 c3 c4 e => hk b o (Nat.ne_of_lt (Heap.lt_size e)) c1 c2 c3 c4 e) hS' hl hG hacc⟩)
    _ 0 h4 s.toks _ #[] [] (Nat.sub_zero _) (Nat.zero_le _) st1 (fun b o c0 _ _ _ _ e => oth2 b o c0 (oth b o e)) hS₄ rfl rfl ⟨List.Pairwise.nil, (fun _ ha => nomatch ha), (fun j a hj => by simp at hj)⟩ (Heap.lt_size hS₄)
end
end Zp
/-! own rules of the hand layer: list(zip(a, b)), dict(zip(a, b)), for .. in zip(a, b), each of a and b a list or a tuple -/
namespace Zp
open PySem PySem.Spec PyProof.Rows L2
def Sqs (K : PySem.W.Frag) (H : Hp) (a : Addr) (xs : List V) : Prop := SqL K H a xs ∨ SqT K H a xs
section
variable {X : Cx} {pins : List (Addr × Obj)} {σ : L2.St} {H : Hp} {s : Shared}
theorem sq_of (I : Inv X pins σ H s) {a : Addr} {xs : List V} (h : Sqs X.K H a xs) : ∃ its : List Value, Vals xs its ∧ Sq s.heap a its.toArray ∧ xs.length ≤ sizeLine := by
  rcases h with h | h
  · obtain ⟨its, rv, pl, hz⟩ := I.list h
    exact ⟨its, rv, .inl pl.isList, hz⟩
  · obtain ⟨its, rv, pl, hz⟩ := I.tuple h
    exact ⟨its, rv, .inr pl, hz⟩
end
/-! ### a walk -/
/-- a list (true), a tuple (false) -/
def Sqk (K : PySem.W.Frag) : Bool → Hp → Addr → List V → Prop
  | true => SqL K
  | false => SqT K
def Itk : Bool → Heap → Addr → Addr → Nat → Prop
  | true => fun h i l k => h.IsListIter i l k
  | false => fun h i l k => h.IsTupleIter i l k
theorem Itk.at {kd : Bool} {h h' : Heap} {i l : Addr} {k : Nat} (x : Itk kd h i l k) (e : ∀ o, h.get? i = some o → h'.get? i = some o) : Itk kd h' i l k := by
  cases kd
  · exact Heap.IsTupleIter.at x e
  · exact Heap.IsListIter.at x e
theorem Itk.obj {kd : Bool} {h : Heap} {i l : Addr} {k : Nat} (x : Itk kd h i l k) : ∃ o, h.get? i = some o ∧ ∀ v, o.data ≠ .cell v := by
  cases kd <;> (obtain ⟨o, e, _, d⟩ := x; exact ⟨o, e, fun v q => by rw [d] at q; cases q⟩)
section
variable {X : Cx} {pins : List (Addr × Obj)} {σ : L2.St} {H : Hp} {s : Shared}
theorem sqk_it (I : Inv X pins σ H s) {kd : Bool} {a i : Addr} {xs : List V} {k : Nat} (h : Sqk X.K kd H a xs) (x : Itk kd s.heap i a k) : ∃ its : List Value, Vals xs its ∧ SqIt s.heap i a k its.toArray := by
  cases kd
  · obtain ⟨its, rv, pl, hz⟩ := I.tuple h
    exact ⟨its, rv, .inr ⟨x, pl⟩⟩
  · obtain ⟨its, rv, pl, hz⟩ := I.list h
    exact ⟨its, rv, .inl ⟨x, pl.isList⟩⟩
end
/-- the other way: an iterator of the kind of what it goes over -/
theorem it_of {kd : Bool} {X : Cx} {pins : List (Addr × Obj)} {σ : L2.St} {H : Hp} {s : Shared} {h' : Heap} (I : Inv X pins σ H s) {a i : Addr} {xs : List V} {us : Array Value} {k : Nat} (h : Sqk X.K kd H a xs) (up : ∀ o, s.heap.get? a = some o → h'.get? a = some o) (x : SqIt h' i a k us) : Itk kd h' i a k := by
  cases kd
  · obtain ⟨its, rv, ⟨o, e, c, _⟩, hz⟩ := I.tuple h
    rcases x with ⟨_, ⟨o2, e2, c2, _⟩⟩ | ⟨x, _⟩
    · rw [up o e] at e2
      obtain rfl := Option.some.inj e2
      rw [c] at c2
      exact absurd c2 (by decide)
    · exact x
  · obtain ⟨its, rv, pl, hz⟩ := I.list h
    obtain ⟨o, e, c, _⟩ := pl.isList
    rcases x with ⟨x, _⟩ | ⟨_, ⟨o2, e2, c2, _⟩⟩
    · exact x
    · rw [up o e] at e2
      obtain rfl := Option.some.inj e2
      rw [c] at c2
      exact absurd c2 (by decide)
def ItzF (K : PySem.W.Frag) (ka kb : Bool) (a b : Addr) (xs ys : List V) : It :=
  ⟨fun i H => Sqk K ka H a xs ∧ Sqk K kb H b ys ∧ i < min xs.length ys.length,
    fun i H v H' => ∃ T x y, v = .ref T ∧ H T = none ∧ H' = upd H T (.tup [x, y]) ∧ xs[i]? = some x ∧ ys[i]? = some y,
    fun i H => Sqk K ka H a xs ∧ Sqk K kb H b ys ∧ i = min xs.length ys.length⟩
theorem walk_zipF {K : PySem.W.Frag} {ka kb : Bool} {a b : Addr} {xs ys : List V} {n : Nat} (hn : n = min xs.length ys.length) : Walk (ItzF K ka kb a b xs ys) n (fun H => Sqk K ka H a xs ∧ Sqk K kb H b ys) (YPair (fun i => xs[i]?) (fun i => ys[i]?)) := by
  subst hn
  exact ⟨fun i _ hi q => ⟨q.1, q.2, hi⟩, fun _ q => ⟨q.1, q.2, rfl⟩, fun i H v H' _ _ y => y⟩
theorem turn_zipF {P : Program} {w : World} {K : PySem.W.Frag} {elts : List Expr} {kk : Nat} {tpos : Pos} {ka kb : Bool} {a b z TI TO i1 i2 : Addr} {xs ys : List V} (D : ZipApart z TI TO i1 i2 a b) :
    Turn P w K (.Tuple elts kk tpos) (ItzF K ka kb a b xs ys) [z, TI, TO, i1, i2] z (fun i h => IsZip h z TI TO .none ∧ IsPair h TI (.ref i1) (.ref i2) ∧ (∃ x y, IsPair h TO x y) ∧ Itk ka h i1 a i ∧ Itk kb h i2 b i) where
  mem := by simp
  obj := fun i h st c hc => by
    obtain ⟨hz, hTI, ⟨x, y, hTO⟩, h1, h2⟩ := st
    have e' : c = z ∨ c = TI ∨ c = TO ∨ c = i1 ∨ c = i2 := by simpa using hc
    rcases e' with q | q | q | q | q
    · rw [q]; exact ⟨_, hz, fun v q => nomatch q⟩
    · rw [q]; exact ⟨_, hTI, fun v q => nomatch q⟩
    · rw [q]; exact ⟨_, hTO, fun v q => nomatch q⟩
    · rw [q]; exact h1.obj
    · rw [q]; exact h2.obj
  keep := fun i h h' st k => by
    obtain ⟨hz, hTI, ⟨x, y, hTO⟩, h1, h2⟩ := st
    exact ⟨k z (by simp) _ hz, k TI (by simp) _ hTI, ⟨x, y, k TO (by simp) _ hTO⟩, h1.at fun o q => k i1 (by simp) o q, h2.at fun o q => k i2 (by simp) o q⟩
  item := by
    intro X hP hw hK hc i pins s σ H E I hf st hg
    subst hP hw hK
    obtain ⟨hz, hTI, ⟨x0, y0, hTO⟩, h1, h2⟩ := st
    obtain ⟨hqx, hqy, hlt⟩ := hg
    obtain ⟨its, rv, p⟩ := sqk_it I hqx h1
    obtain ⟨its2, rv2, p2⟩ := sqk_it I hqy h2
    have hx : xs[i]? = some (xs[i]'(by omega)) := List.getElem?_eq_getElem _
    have hy : ys[i]? = some (ys[i]'(by omega)) := List.getElem?_eq_getElem _
    generalize xs[i]'(by omega) = x at hx
    generalize ys[i]'(by omega) = y at hy
    obtain ⟨u, hu, ru⟩ := rv.get hx
    obtain ⟨u2, hu2, ru2⟩ := rv2.get hy
    have hzl : z < s.heap.objs.size := Heap.lt_size hz
    refine next_item D hz hTI hTO p p2 (x := u) (y := u2) (by simpa using hu) (by simpa using hu2) fun h' z' TO' h1' h2' hT hsz hk => ?_
    refine ⟨_, rfl, wpAny_letOwnedTupleGo_zip (s := { s with heap := h' }) z' fun h'' z'' sb => ?_⟩
    have hT2 : h''.get? s.heap.objs.size = some { cls := .type "tuple", data := .seq #[u, u2] } := (sb.2 _ (Nat.ne_of_gt hzl)).trans hT
    have new : ObjOk X.prog X.w (upd H s.heap.objs.size (.tup [x, y])) h'' s.heap.objs.size (.tup [x, y]) :=
      ⟨by show 2 ≤ sizeLine; decide, [u, u2], .cons ru (.cons ru2 .nil), ⟨_, hT2, rfl, _, rfl⟩⟩
    have I1 : Inv X pins σ (upd H s.heap.objs.size (.tup [x, y])) { s with heap := h'' } :=
      I.turnedNew (t' := s.toks) (ch := [z, TI, TO, i1, i2]) (fun c o hb q => (sb.2 c (fun q' => hb (by simp [q']))).trans (hk c o (fun q' => hb (by simp [q'])) (fun q' => hb (by simp [q'])) (fun q' => hb (by simp [q'])) (fun q' => hb (by simp [q'])) q)) hf (Nat.le_refl _) new
    have ka1 : ∀ o, s.heap.get? a = some o → h'.get? a = some o := fun o q => hk a o D.l1z D.l1TO D.l1i1 D.l1i2 q
    have kb1 : ∀ o, s.heap.get? b = some o → h'.get? b = some o := fun o q => hk b o D.l2z D.l2TO D.l2i1 D.l2i2 q
    refine ⟨.ref s.heap.objs.size, _, I1, rfl, ⟨_, x, y, rfl, I.hok.fresh (Nat.le_refl _), rfl, hx, hy⟩, ⟨z'', ?_, ⟨u, u2, ?_⟩, ?_, ?_⟩, fun c hcm => ?_⟩
    · exact (sb.2 _ D.TIz).trans (hk _ _ D.TIz D.TITO D.TIi1 D.TIi2 hTI)
    · exact (sb.2 _ D.TOz).trans TO'
    · exact (it_of I hqx ka1 h1').at fun o q => (sb.2 _ D.i1z).trans q
    · exact (it_of I hqy kb1 h2').at fun o q => (sb.2 _ D.i2z).trans q
    · have hlt : c < s.heap.objs.size := by
        have e' : c = z ∨ c = TI ∨ c = TO ∨ c = i1 ∨ c = i2 := by simpa using hcm
        rcases e' with q | q | q | q | q
        · rw [q]; exact hzl
        · rw [q]; exact Heap.lt_size hTI
        · rw [q]; exact Heap.lt_size hTO
        · rw [q]; obtain ⟨_, e1, _⟩ := h1.obj; exact Heap.lt_size e1
        · rw [q]; obtain ⟨_, e2, _⟩ := h2.obj; exact Heap.lt_size e2
      rw [upd_ne (Nat.ne_of_lt hlt)]
      exact (hf c hcm).1
  done := by
    intro X hP hw hK hc i pins s σ H E I hf st hg
    subst hP hw hK
    obtain ⟨hz, hTI, ⟨x0, y0, hTO⟩, h1, h2⟩ := st
    obtain ⟨hqx, hqy, hi⟩ := hg
    obtain ⟨its, rv, p⟩ := sqk_it I hqx h1
    obtain ⟨its2, rv2, p2⟩ := sqk_it I hqy h2
    have e1 := rv.length
    have e2 := rv2.length
    have he : its.toArray[i]? = none ∨ its2.toArray[i]? = none := by
      rcases Nat.le_total xs.length ys.length with q | q
      · exact .inl (by simp; omega)
      · exact .inr (by simp; omega)
    exact next_end (I.ok.hd hc) D hz hTI hTO p p2 he fun h' hk => ⟨rfl, I.turnedL (t' := s.toks) (ch := [z, TI, TO, i1, i2]) (fun c o hb q =>
      hk c o (fun q' => hb (by simp [q'])) (fun q' => hb (by simp [q'])) (fun q' => hb (by simp [q'])) (fun q' => hb (by simp [q'])) q) hf⟩
  self := fun A i s Q E st h => wpAny_pyIter_zip st.1 h
def iZipF (K : PySem.W.Frag) (ta : TA) : L2.TI := fun σ H R => ta σ H fun vs H1 => ∃ ka kb a b xs ys, vs = [.ref a, .ref b] ∧ Sqk K ka H1 a xs ∧ Sqk K kb H1 b ys ∧ R (ItzF K ka kb a b xs ys) H1
theorem sqk_sq {X : Cx} {pins : List (Addr × Obj)} {σ : L2.St} {H : Hp} {s : Shared} (I : Inv X pins σ H s) {kd : Bool} {a : Addr} {xs : List V} (h : Sqk X.K kd H a xs) : ∃ its : List Value, Vals xs its ∧ Sq s.heap a its.toArray :=
  let ⟨its, rv, sq, _⟩ := sq_of I (show Sqs X.K H a xs by cases kd; exact .inr h; exact .inl h)
  ⟨its, rv, sq⟩
theorem pi_zipF {X : Cx} {e e2 : Expr} {ta : TA} {p pos tpos : Pos} {elts : List Expr} {kk : Nat} (K : PySem.W.Frag) (hK : X.K = K) (hg : Gl X "zip") (hm : X.mg "zip" = none) (ha : PA X [e, e2] ta)
    (hs : starEach [e, e2] X.env = (false, eval e X.env) :: starEach [e2] X.env := by rfl) (hpl : (backTo pos (starEach [e2] X.env)).any (·.1) = false := by rfl) :
    PI X (.Tuple elts kk tpos) (.Call (.Name "zip" p) [e, e2] [] pos) (iZipF K ta) := by
  subst hK
  refine ⟨fun pins s σ H R I h => ?_⟩
  refine Call_ (ld_blt I hg hm PyProof.Rows.boot_zip (PyProof.Rows.callWith_type1 (thn (ha.run pos pins s σ H _ I h) fun us s1 ⟨vs, H1, I1, r1, q1⟩ => ?_) hs hpl))
  obtain ⟨ka, kb, a, b, xs, ys, rfl, hqx, hqy, q⟩ := q1
  cases r1 with
  | cons r rr =>
    cases rr with
    | cons r' rr =>
      cases rr
      cases r
      cases r'
      have fresh5 : ∀ c, c ∈ [s1.heap.objs.size + 4, s1.heap.objs.size + 2, s1.heap.objs.size + 3, s1.heap.objs.size, s1.heap.objs.size + 1] → FpOk X pins H1 c := fun c hcm => by
        have e' : c = s1.heap.objs.size + 4 ∨ c = s1.heap.objs.size + 2 ∨ c = s1.heap.objs.size + 3 ∨ c = s1.heap.objs.size ∨ c = s1.heap.objs.size + 1 := by simpa using hcm
        have hle : s1.heap.objs.size ≤ c := by
          rcases e' with z | z | z | z | z
          · rw [z]; exact Nat.le_add_right _ _
          · rw [z]; exact Nat.le_add_right _ _
          · rw [z]; exact Nat.le_add_right _ _
          · rw [z]; exact Nat.le_refl _
          · rw [z]; exact Nat.le_add_right _ _
        exact I1.fpOk hle (I1.hok.fresh hle)
      obtain ⟨its, rv, sx⟩ := sqk_sq I1 hqx
      obtain ⟨its2, rv2, sy⟩ := sqk_sq I1 hqy
      refine call_zip sx sy fun h' hz hTI hTO h1 h2 hsz hk => wpAny_pyIter_zip hz ?_
      have I2 : Inv X pins σ H1 { s1 with heap := h' } := I1.kept (t' := s1.toks) hk
      exact ⟨s1.heap.objs.size + 4, [s1.heap.objs.size + 4, s1.heap.objs.size + 2, s1.heap.objs.size + 3, s1.heap.objs.size, s1.heap.objs.size + 1], _, _, H1, rfl, I2, turn_zipF (PySem.W.ktu_apart s1.heap.objs.size a b sx.lt sy.lt), ⟨hz, hTI, ⟨_, _, hTO⟩, it_of I1 hqx (fun o e => hk _ o e) h1, it_of I1 hqy (fun o e => hk _ o e) h2⟩, fresh5, q⟩
/-! ### dict(zip(a, b)), texts -/
def tDictZip (K : PySem.W.Frag) (t : TA) : TE := fun σ H Q => t σ H fun vs H1 => ∃ (a b : Addr) (ks : List Str) (ys : List V), vs = [.ref a, .ref b] ∧ Sqs K H1 a (ks.map V.str) ∧ Sqs K H1 b ys ∧
  ∀ p, H1 p = none → Q (.ref p) (upd H1 p (.dK (mergeK [] ((ks.map (Sum.inr : Str → Key)).zip ys))))
theorem kvs_of : ∀ {ks : List Str} {ys : List V} {us vs : List Value}, Vals (ks.map V.str) us → Vals ys vs → KV ((ks.map (Sum.inr : Str → Key)).zip ys) ((ks.map (Sum.inr : Str → Key)).zip vs) ∧
    (∀ (i : Nat) (key v : Value), us[i]? = some key → vs[i]? = some v → ∃ k : Key, ((ks.map (Sum.inr : Str → Key)).zip vs)[i]? = some (k, v) ∧ RelV (kV k) key)
  | [], _, _, _, rx, _ => by
    have rx' : Vals [] _ := rx
    cases rx'
    exact ⟨.nil, fun i key v h => by simp at h⟩
  | k :: ks, [], _, _, _, ry => by
    cases ry
    exact ⟨.nil, fun i key v _ h => by simp at h⟩
  | k :: ks, y :: ys, _, _, rx, ry => by
    have rx' : Vals (V.str k :: ks.map V.str) _ := rx
    cases rx' with
    | cons r1 t1 =>
      cases ry with
      | cons r2 t2 =>
        obtain ⟨a1, a2⟩ := kvs_of t1 t2
        refine ⟨.cons ⟨rfl, r2⟩ a1, fun i key v h1 h2 => ?_⟩
        cases i with
        | zero =>
          obtain rfl := Option.some.inj h1
          obtain rfl := Option.some.inj h2
          exact ⟨Sum.inr k, rfl, r1⟩
        | succ i =>
          obtain ⟨q, e1, e2⟩ := a2 i key v (by simpa using h1) (by simpa using h2)
          exact ⟨q, by simpa using e1, e2⟩
theorem boot_dict' : bootBuiltins "dict" = some (.type "dict") := by decide +kernel
theorem boot_list' : bootBuiltins "list" = some (.type "list") := by decide +kernel
section
variable {X : Cx} {a b : Expr} {t : TA} {p p2 q pos : Pos}
theorem pe_dictZip (K : PySem.W.Frag) (hK : X.K = K) (hc : X.calm = true) (hg : Gl X "dict") (hm : X.mg "dict" = none) (hg2 : Gl X "zip") (hm2 : X.mg "zip" = none) (ha : PA X [a, b] t)
    (hs : starEach [a, b] X.env = (false, eval a X.env) :: starEach [b] X.env := by rfl) (hpl : (backTo q (starEach [b] X.env)).any (·.1) = false := by rfl) :
    PE X (.Call (.Name "dict" p) [.Call (.Name "zip" p2) [a, b] [] q] [] pos) (tDictZip K t) := by
  subst hK
  refine ⟨fun pins s σ H Q I h => ?_⟩
  refine Call_ (ld_blt I hg hm boot_dict' ?_)
  refine PyProof.Rows.callWith_type1 (PyProof.Rows.args_cons ?_ rfl) rfl rfl
  refine Call_ (ld_blt I hg2 hm2 PyProof.Rows.boot_zip (PyProof.Rows.callWith_type1 (thn (ha.run q pins s σ H _ I h) fun us s1 ⟨vs, H1, I1, r1, q1⟩ => ?_) hs hpl))
  obtain ⟨l1, l2, ks, ys, rfl, hx, hy, q1⟩ := q1
  obtain ⟨u1, u2, rfl, rr1, rr2⟩ : ∃ u1 u2, us = [u1, u2] ∧ RelV (.ref l1) u1 ∧ RelV (.ref l2) u2 := by
    cases r1 with
    | cons r rr => cases rr with
      | cons r' rr => cases rr; exact ⟨_, _, rfl, r, r'⟩
  obtain rfl : u1 = .ref l1 := rr1
  obtain rfl : u2 = .ref l2 := rr2
  obtain ⟨us1, rx, sx, zx⟩ := sq_of I1 hx
  obtain ⟨us2, ry, sy, zy⟩ := sq_of I1 hy
  refine call_zip sx sy fun h' hz hTI hTO h1 h2 hsz k1 => ?_
  refine PyProof.Rows.args_nil ?_
  obtain ⟨kv, hk⟩ := kvs_of rx ry
  have D := PySem.W.ktu_apart s1.heap.objs.size l1 l2 sx.lt sy.lt
  have len : ((ks.map (Sum.inr : Str → Key)).zip us2).length = min us1.toArray.size us2.toArray.size := by
    rw [List.length_zip, List.length_map, List.size_toArray, List.size_toArray, ← rx.length, List.length_map]
  refine call_dict_pairs (s := { s1 with heap := h' }) (knd := mixKind X.prog X.w) (kvs := (ks.map (Sum.inr : Str → Key)).zip us2) (arg _ _ _ _ _ _ _ D us1.toArray us2.toArray) (I1.ok.hd hc) ⟨hz, hTI, ⟨_, _, hTO⟩, h1, h2⟩ ⟨len, fun i key v hr => ?_⟩ ?_ fun h'' tk hd' k2 => ?_
  · obtain ⟨kk, e1, e2⟩ := hk i key v (by simpa using hr.1) (by simpa using hr.2)
    exact ⟨kk, e1, kV_is e2⟩
  · rw [List.size_toArray, List.size_toArray]
    have := rx.length
    omega
  · have hm' : (h'.objs.size == sysModules) = false := beq_eq_false_iff_ne.mpr (Nat.ne_of_gt (Nat.lt_of_lt_of_le I1.big (by rw [hsz]; exact Nat.le_add_right _ _)))
    have le : s1.heap.objs.size ≤ h'.objs.size := by rw [hsz]; exact Nat.le_add_right _ _
    have k3 : ∀ b o, s1.heap.get? b = some o → h''.get? b = some o := fun b o e => k2 b o (fun m => by
      have lt := Heap.lt_size e
      simp only [List.mem_cons, List.not_mem_nil, or_false] at m
      rcases m with rfl | rfl | rfl | rfl
      · exact absurd lt (Nat.not_lt.mpr (Nat.le_add_right _ _))
      · exact absurd lt (Nat.not_lt.mpr (Nat.le_add_right _ _))
      · exact absurd lt (Nat.lt_irrefl _)
      · exact absurd lt (Nat.not_lt.mpr (Nat.le_add_right _ _))) (k1 b o e)
    have hlen : (mergeK [] ((ks.map (Sum.inr : Str → Key)).zip ys)).length ≤ sizeLine := by
      refine Nat.le_trans (length_mergeK _ []) ?_
      rw [List.length_nil, Nat.zero_add, List.length_zip, List.length_map]
      rw [List.length_map] at zx
      omega
    exact ⟨.ref h'.objs.size, upd H1 h'.objs.size (.dK (mergeK [] ((ks.map (Sum.inr : Str → Key)).zip ys))), I1.laid (t' := tk) k3 le (show ObjOk X.prog X.w _ _ _ (.dK (mergeK [] ((ks.map (Sum.inr : Str → Key)).zip ys))) from ⟨hlen, hm', merged [] _, KV.merge kv .nil, hd'⟩), rfl, q1 _ (I1.hok.fresh le)⟩
end
/-! ### list(zip(a, b)) -/
def putZ : Hp → List Addr → List (V × V) → Hp
  | H, a :: as, p :: ps => putZ (upd H a (.tup [p.1, p.2])) as ps
  | H, _, _ => H
theorem putZ_off {b : Addr} : ∀ (as : List Addr) (ps : List (V × V)) (H : Hp), b ∉ as → putZ H as ps b = H b
  | [], _, _, _ => rfl
  | _ :: _, [], _, _ => rfl
  | a :: as, p :: ps, H, h => by
    show putZ (upd H a (.tup [p.1, p.2])) as ps b = H b
    rw [putZ_off as ps _ (fun z => h (List.mem_cons_of_mem _ z)), upd_ne (fun z => h (by rw [z]; exact List.mem_cons_self))]
theorem putZ_at : ∀ (as : List Addr) (ps : List (V × V)) (H : Hp), as.length = ps.length → as.Nodup → Paired (fun (t : Addr) (p : V × V) => putZ H as ps t = some (.tup [p.1, p.2])) as ps
  | [], [], _, _, _ => .nil
  | [], _ :: _, _, h, _ => by cases h
  | _ :: _, [], _, h, _ => by cases h
  | a :: as, p :: ps, H, h, hn => by
    have hn' := List.nodup_cons.mp hn
    refine .cons ?_ (putZ_at as ps (upd H a (.tup [p.1, p.2])) (Nat.succ.inj h) hn'.2)
    show putZ (upd H a (.tup [p.1, p.2])) as ps a = some (.tup [p.1, p.2])
    rw [putZ_off as ps _ hn'.1, upd_same]
def tListZip (K : PySem.W.Frag) (t : TA) : TE := fun σ H Q => t σ H fun vs H1 => ∃ (a b : Addr) (xs ys : List V), vs = [.ref a, .ref b] ∧ Sqs K H1 a xs ∧ Sqs K H1 b ys ∧
  ∀ (H' : Hp) (p : Addr) (ts : List Addr), Same H1 H' → H1 p = none → H' p = some (.lst (ts.map V.ref)) → Paired (fun (t : Addr) (q : V × V) => H' t = some (.tup [q.1, q.2])) ts (xs.zip ys) → Q (.ref p) H'
section
variable {X : Cx} {a b : Expr} {t : TA} {p p2 q pos : Pos}
theorem zip_laid {pins : List (Addr × Obj)} {σ : L2.St} {H : Hp} {s : Shared} {h' : Heap} {tk : Nat} {S : Addr} {xs ys : List V} {us vs : List Value} {acc : Array Value} {c : Nat} {as : List Addr} (I : Inv X pins σ H s) (hS0 : s.heap.objs.size ≤ S) (hz : xs.length ≤ sizeLine) (rx : Vals xs us) (ry : Vals ys vs)
    (hk : ∀ b o, s.heap.get? b = some o → h'.get? b = some o) (hS : h'.get? S = some { cls := .type "list", dict := none, data := .seq acc c, slots := #[] }) (hl : as.length = min us.length vs.length) (hG : Made us.toArray vs.toArray S h' as) (hacc : acc.toList = as.map Value.ref) :
    ∃ H' : Hp, Same H H' ∧ H S = none ∧ H' S = some (.lst (as.map V.ref)) ∧ Paired (fun (t : Addr) (q : V × V) => H' t = some (.tup [q.1, q.2])) as (xs.zip ys) ∧ Inv X pins σ H' { s with heap := h', toks := tk } := by
  have e1 := rx.length
  have e2 := ry.length
  have lz : as.length = (xs.zip ys).length := by rw [List.length_zip]; omega
  have hSn : S ∉ as := fun z => Nat.lt_irrefl _ (hG.above _ z)
  have nd : as.Nodup := List.Pairwise.imp (fun {a b} (h : a < b) => Nat.ne_of_lt h) hG.rise
  have new : ∀ t ∈ as, H t = none := fun t ht => I.hok.fresh (Nat.le_trans hS0 (Nat.le_of_lt (hG.above t ht)))
  have newS : H S = none := I.hok.fresh hS0
  have atP := putZ_at as (xs.zip ys) (upd H S (.lst (as.map V.ref))) lz nd
  have off : ∀ b, b ∉ as → b ≠ S → putZ (upd H S (.lst (as.map V.ref))) as (xs.zip ys) b = H b := fun b h1 h2 => by rw [putZ_off as _ _ h1, upd_ne h2]
  have low : ∀ b o, s.heap.get? b = some o → b ∉ as ∧ b ≠ S := fun b o e => ⟨fun z => absurd (Heap.lt_size e) (Nat.not_lt.mpr (Nat.le_trans hS0 (Nat.le_of_lt (hG.above b z)))), Nat.ne_of_lt (Nat.lt_of_lt_of_le (Heap.lt_size e) hS0)⟩
  have kp : ∀ b u, H b = some u → (putZ (upd H S (.lst (as.map V.ref))) as (xs.zip ys)) b = some u := fun b u e => by
    rw [off b (fun z => by rw [new b z] at e; cases e) (fun z => by rw [z, newS] at e; cases e)]
    exact e
  have eS : putZ (upd H S (.lst (as.map V.ref))) as (xs.zip ys) S = some (.lst (as.map V.ref)) := by rw [putZ_off as _ _ hSn, upd_same]
  refine ⟨putZ (upd H S (.lst (as.map V.ref))) as (xs.zip ys), kp, newS, eS, atP, ?_⟩
  refine I.call' (ch := []) rfl ⟨fun b o q _ _ _ => hk b o q, fun b o q _ _ _ => ⟨o.slots, hk b o q⟩, fun b o q n _ => ?_, fun b o q _ => ⟨o, hk b o q⟩, fun b xs q => kp b _ q, fun b o u q => kp b _ q, fun b ps q => ⟨#[], by rw [kp b _ q]; simp⟩⟩ (fun b u q => ?_) I.bare fun b z => by simp at z
  · obtain ⟨z1, z2⟩ := low b o q
    rw [off b z1 z2]
    exact n
  · by_cases hb : b ∈ as
    · obtain ⟨j, pk, f1, f2, f3⟩ := LiI.paired_ix atP hb
      rw [f3] at q
      cases q
      obtain ⟨x, y, g1, g2, g3⟩ := hG.pairs j b f1
      have m := List.getElem?_zip_eq_some.mp f2
      obtain ⟨u1, h1, r1⟩ := rx.get m.1
      obtain ⟨u2, h2, r2⟩ := ry.get m.2
      have ex : x = u1 := Option.some.inj (g1.symm.trans (by simpa using h1))
      have ey : y = u2 := Option.some.inj (g2.symm.trans (by simpa using h2))
      subst ex ey
      exact ⟨by show 2 ≤ sizeLine; decide, [x, y], .cons r1 (.cons r2 .nil), ⟨_, g3, rfl, _, rfl⟩⟩
    · by_cases hb2 : b = S
      · rw [hb2] at q ⊢
        rw [eS] at q
        cases q
        refine ⟨by rw [List.length_map]; omega, acc.toList, c, by rw [hacc]; exact LiI.vals_refs as, ?_⟩
        rw [Array.toArray_toList]
        exact hS
      · rw [off b hb hb2] at q
        exact (I.hok b u q).stay (fun d v _ y => hk d v y) (fun d y => kp d _ y) fun d xs y => kp d _ y
theorem pe_listZip (K : PySem.W.Frag) (hK : X.K = K) (hc : X.calm = true) (hg : Gl X "list") (hm : X.mg "list" = none) (hg2 : Gl X "zip") (hm2 : X.mg "zip" = none) (ha : PA X [a, b] t)
    (hs : starEach [a, b] X.env = (false, eval a X.env) :: starEach [b] X.env := by rfl) (hpl : (backTo q (starEach [b] X.env)).any (·.1) = false := by rfl) :
    PE X (.Call (.Name "list" p) [.Call (.Name "zip" p2) [a, b] [] q] [] pos) (tListZip K t) := by
  subst hK
  refine ⟨fun pins s σ H Q I h => ?_⟩
  refine Call_ (ld_blt I hg hm boot_list' ?_)
  refine PyProof.Rows.callWith_type1 (PyProof.Rows.args_cons ?_ rfl) rfl rfl
  refine Call_ (ld_blt I hg2 hm2 PyProof.Rows.boot_zip (PyProof.Rows.callWith_type1 (thn (ha.run q pins s σ H _ I h) fun us s1 ⟨vs, H1, I1, r1, q1⟩ => ?_) hs hpl))
  obtain ⟨l1, l2, xs, ys, rfl, hx, hy, q1⟩ := q1
  obtain ⟨u1, u2, rfl, rr1, rr2⟩ : ∃ u1 u2, us = [u1, u2] ∧ RelV (.ref l1) u1 ∧ RelV (.ref l2) u2 := by
    cases r1 with
    | cons r rr => cases rr with
      | cons r' rr => cases rr; exact ⟨_, _, rfl, r, r'⟩
  obtain rfl : u1 = .ref l1 := rr1
  obtain rfl : u2 = .ref l2 := rr2
  obtain ⟨us1, rx, sx, zx⟩ := sq_of I1 hx
  obtain ⟨us2, ry, sy, zy⟩ := sq_of I1 hy
  refine call_zip sx sy fun h' hz hTI hTO h1 h2 hsz k1 => ?_
  refine PyProof.Rows.args_nil ?_
  have D := PySem.W.ktu_apart s1.heap.objs.size l1 l2 sx.lt sy.lt
  have e1 := rx.length
  have le : s1.heap.objs.size ≤ h'.objs.size := by rw [hsz]; exact Nat.le_add_right _ _
  refine call_list_zip (s := { s1 with heap := h' }) (I1.ok.hd hc) D hz hTI ⟨_, _, hTO⟩ h1 h2 (by rw [List.size_toArray, List.size_toArray]; omega) fun h'' tk acc c as k2 hS hl hG hacc => ?_
  have k3 : ∀ b o, s1.heap.get? b = some o → h''.get? b = some o := fun b o e => by
    have lt := Heap.lt_size e
    exact k2 b o (Nat.ne_of_lt (Nat.lt_of_lt_of_le lt (Nat.le_add_right _ _))) (Nat.ne_of_lt (Nat.lt_of_lt_of_le lt (Nat.le_add_right _ _))) (Nat.ne_of_lt lt) (Nat.ne_of_lt (Nat.lt_of_lt_of_le lt (Nat.le_add_right _ _))) (k1 b o e)
  obtain ⟨H', a1, a2, a3, a4, J⟩ := zip_laid (tk := tk) I1 le zx rx ry k3 hS (by rw [List.size_toArray, List.size_toArray] at hl; exact hl) hG hacc
  exact ⟨.ref _, H', J, rfl, q1 H' _ as a1 a2 a3 a4⟩
end
end Zp
/-! own rules: sum, max, min of a tuple of ints; max of three -/
namespace Yo
open PySem PySem.Spec PyProof.Rows L2
section
variable {prog : Program} {w : World} {A : Around} {E : Value → Shared → Prop} {s : Shared} {l : Addr} {xs : Array (Int × Tok)}
theorem max_intTuple {Q : Value → Shared → Prop} (hh : A.handled = none) (ht : s.heap.IsTuple l (intItems xs)) (hne : 0 < xs.size)
    (h : ∀ v h' tk, (intItems xs)[argBest (fun i j => decide (numAt xs i > numAt xs j)) (xs.size - 1)]? = some v → (∀ b o, s.heap.get? b = some o → h'.get? b = some o) → Q v { s with heap := h', toks := tk }) :
    wpAny (model prog w) A (call (.builtin "max") [.ref l]) Q E s := by
  obtain ⟨o, ho, hc, n, hd⟩ := id ht
  have hlI : l ≠ s.heap.objs.size := Nat.ne_of_lt (Heap.lt_size ho)
  refine call_max_walk (wpAny_pyIter_tuple ht ?_)
  refine ⟨_, _, _, _, _, _, _, rfl, Walks.tuple (A := A.in1) hh s.heap.objs.size l hlI (intItems xs), ⟨⟨_, Heap.get?_push_size _ rfl, rfl, rfl⟩, ht.at fun o e => Heap.get?_push_of_some _ e⟩, fun b hb => ?_, by simpa [intItems] using hne, CmpOf.ints_gt (numAt xs) (fun _ _ => intItems_at), fun v h' tk hP hk => ?_⟩
  · rcases List.mem_cons.mp hb with rfl | hb
    · exact Heap.lt_size (Heap.get?_push_size _ rfl)
    · obtain rfl := List.mem_singleton.mp hb
      exact Heap.lt_size (Heap.get?_push_of_some _ ho)
  · exact h v h' tk (by simpa [intItems] using hP) fun b o e => hk b o (fun hb => absurd (Heap.lt_size e) ((List.mem_singleton.mp hb) ▸ Nat.lt_irrefl _)) (Heap.get?_push_of_some _ e)
theorem min_intTuple {Q : Value → Shared → Prop} (hh : A.handled = none) (ht : s.heap.IsTuple l (intItems xs)) (hne : 0 < xs.size)
    (h : ∀ v h' tk, (intItems xs)[argBest (fun i j => decide (numAt xs i < numAt xs j)) (xs.size - 1)]? = some v → (∀ b o, s.heap.get? b = some o → h'.get? b = some o) → Q v { s with heap := h', toks := tk }) :
    wpAny (model prog w) A (call (.builtin "min") [.ref l]) Q E s := by
  obtain ⟨o, ho, hc, n, hd⟩ := id ht
  have hlI : l ≠ s.heap.objs.size := Nat.ne_of_lt (Heap.lt_size ho)
  refine call_min_walk (wpAny_pyIter_tuple ht ?_)
  refine ⟨_, _, _, _, _, _, _, rfl, Walks.tuple (A := A.in1) hh s.heap.objs.size l hlI (intItems xs), ⟨⟨_, Heap.get?_push_size _ rfl, rfl, rfl⟩, ht.at fun o e => Heap.get?_push_of_some _ e⟩, fun b hb => ?_, by simpa [intItems] using hne, CmpOf.ints_lt (numAt xs) (fun _ _ => intItems_at), fun v h' tk hP hk => ?_⟩
  · rcases List.mem_cons.mp hb with rfl | hb
    · exact Heap.lt_size (Heap.get?_push_size _ rfl)
    · obtain rfl := List.mem_singleton.mp hb
      exact Heap.lt_size (Heap.get?_push_of_some _ ho)
  · exact h v h' tk (by simpa [intItems] using hP) fun b o e => hk b o (fun hb => absurd (Heap.lt_size e) ((List.mem_singleton.mp hb) ▸ Nat.lt_irrefl _)) (Heap.get?_push_of_some _ e)
theorem maxT_raw {its : List Value} {ns : List Int} {Q : Value → Shared → Prop} (hh : A.handled = none) (hl : s.heap.IsTuple l its.toArray) (hi : IntsAre its ns) (hne : 0 < ns.length)
    (h : ∀ h' tk M t', (∀ b o, s.heap.get? b = some o → h'.get? b = some o) → M ∈ ns → (∀ a, a ∈ ns → a ≤ M) → Q (.int M t') { s with heap := h', toks := tk }) : wpAny (model prog w) A (call (.builtin "max") [.ref l]) Q E s := by
  obtain ⟨xs, e⟩ := hi.allInts.items
  have hn : numsOf (intItems xs).toList = ns := by rw [← e]; exact hi.numsOf
  rw [nums_intItems] at hn
  subst hn
  rw [e] at hl
  have hsz : 0 < xs.size := by simpa using hne
  refine max_intTuple hh hl hsz fun v h' tk hv hk => ?_
  obtain ⟨t, rfl⟩ := intItems_at hv
  obtain ⟨h1, h2⟩ := argBest_gt (numAt xs) (xs.size - 1)
  refine h h' tk _ t hk ?_ fun a ha => ?_
  · rw [numAt_eq]; exact PySem.getD_mem (by rw [List.length_map, Array.length_toList]; omega)
  · obtain ⟨j, hj, rfl⟩ := mem_getD ha
    rw [List.length_map, Array.length_toList] at hj
    rw [← numAt_eq]; exact h2 j (by omega)
theorem minT_raw {its : List Value} {ns : List Int} {Q : Value → Shared → Prop} (hh : A.handled = none) (hl : s.heap.IsTuple l its.toArray) (hi : IntsAre its ns) (hne : 0 < ns.length)
    (h : ∀ h' tk M t', (∀ b o, s.heap.get? b = some o → h'.get? b = some o) → M ∈ ns → (∀ a, a ∈ ns → M ≤ a) → Q (.int M t') { s with heap := h', toks := tk }) : wpAny (model prog w) A (call (.builtin "min") [.ref l]) Q E s := by
  obtain ⟨xs, e⟩ := hi.allInts.items
  have hn : numsOf (intItems xs).toList = ns := by rw [← e]; exact hi.numsOf
  rw [nums_intItems] at hn
  subst hn
  rw [e] at hl
  have hsz : 0 < xs.size := by simpa using hne
  refine min_intTuple hh hl hsz fun v h' tk hv hk => ?_
  obtain ⟨t, rfl⟩ := intItems_at hv
  obtain ⟨h1, h2⟩ := argBest_lt (numAt xs) (xs.size - 1)
  refine h h' tk _ t hk ?_ fun a ha => ?_
  · rw [numAt_eq]; exact PySem.getD_mem (by rw [List.length_map, Array.length_toList]; omega)
  · obtain ⟨j, hj, rfl⟩ := mem_getD ha
    rw [List.length_map, Array.length_toList] at hj
    rw [← numAt_eq]; exact h2 j (by omega)
theorem sumT_raw {its : List Value} {ns : List Int} {Q : Value → Shared → Prop} (hh : A.handled = none) (hl : s.heap.IsTuple l its.toArray) (hi : IntsAre its ns)
    (h : ∀ h' tk t', (∀ b o, s.heap.get? b = some o → h'.get? b = some o) → Q (.int ns.sum t') { s with heap := h', toks := tk }) : wpAny (model prog w) A (call (.builtin "sum") [.ref l]) Q E s := by
  obtain ⟨xs, e⟩ := hi.allInts.items
  have hn : numsOf (intItems xs).toList = ns := by rw [← e]; exact hi.numsOf
  rw [nums_intItems] at hn
  rw [e] at hl
  refine PySem.W.ktm_sumG hh hl fun h' tk t' hk => ?_
  have := h h' tk t' hk
  rw [preSum_eq, List.take_of_length_le (by simp), hn]; exact this
end
def rSumT (K : PySem.W.Frag) : List V → Hp → VK → Prop := fun vs H Q => ∃ (a : Addr) (ns : List Int), vs = [V.ref a] ∧ SqT K H a (ns.map V.int) ∧ Q (.int ns.sum) H
def rMaxT (K : PySem.W.Frag) : List V → Hp → VK → Prop := fun vs H Q => ∃ (a : Addr) (ns : List Int), vs = [V.ref a] ∧ SqT K H a (ns.map V.int) ∧ 0 < ns.length ∧ ∀ m, m ∈ ns → (∀ y, y ∈ ns → y ≤ m) → Q (.int m) H
def rMinT (K : PySem.W.Frag) : List V → Hp → VK → Prop := fun vs H Q => ∃ (a : Addr) (ns : List Int), vs = [V.ref a] ∧ SqT K H a (ns.map V.int) ∧ 0 < ns.length ∧ ∀ m, m ∈ ns → (∀ y, y ∈ ns → m ≤ y) → Q (.int m) H
section
variable {X : Cx} (K : PySem.W.Frag) (hK : X.K = K) (hc : X.calm = true)
include hK hc
theorem cr_sumT : CallR X (.builtin "sum") (rSumT K) := by
  subst hK
  intro pins s σ H vs us Q I r h
  obtain ⟨a, ns, rfl, hs, q⟩ := h
  obtain ⟨its, rv, hl, _⟩ := I.tuple hs
  rw [Vals.ref1 r]
  exact sumT_raw (I.ok.hd hc) hl rv.ints fun h' tk t' hk => ⟨.int _, H, I.kept hk, ⟨_, rfl⟩, q⟩
theorem cr_maxT : CallR X (.builtin "max") (rMaxT K) := by
  subst hK
  intro pins s σ H vs us Q I r h
  obtain ⟨a, ns, rfl, hs, hne, q⟩ := h
  obtain ⟨its, rv, hl, _⟩ := I.tuple hs
  rw [Vals.ref1 r]
  exact maxT_raw (I.ok.hd hc) hl rv.ints hne fun h' tk m t' hk h1 h2 => ⟨.int _, H, I.kept hk, ⟨_, rfl⟩, q m h1 h2⟩
theorem cr_minT : CallR X (.builtin "min") (rMinT K) := by
  subst hK
  intro pins s σ H vs us Q I r h
  obtain ⟨a, ns, rfl, hs, hne, q⟩ := h
  obtain ⟨its, rv, hl, _⟩ := I.tuple hs
  rw [Vals.ref1 r]
  exact minT_raw (I.ok.hd hc) hl rv.ints hne fun h' tk m t' hk h1 h2 => ⟨.int _, H, I.kept hk, ⟨_, rfl⟩, q m h1 h2⟩
end
end Yo
/-! promises: loads -/
namespace Tc
open PySem PySem.Spec PyProof.Rows L2 Fw Mw TL
/-- what a road bears: the first number beside its name -/
def val : List Str → List Int → Str → Int
  | k :: ks, n :: ns, z => if k = z then n else val ks ns z
  | _, _, _ => 0
def nums (js : Rows) (ld : List Int) : List (List Int) := js.map fun r => r.map fun z => val (roadsOf js) ld z
def Meet (l : List Int) : Prop := (∀ n ∈ l, 0 ≤ n) ∧ l.sum % 2 = 0 ∧ ∀ n ∈ l, 2 * n ≤ l.sum
/-- whether a junction's numbers can meet -/
def meetL (l : List Int) : Bool := l.all (fun n => decide (0 ≤ n)) && decide (l.sum % 2 = 0) && l.all fun n => decide (2 * n ≤ l.sum)
theorem meetL_iff {l : List Int} : meetL l = true ↔ Meet l := by
  unfold meetL Meet
  simp only [Bool.and_eq_true, List.all_eq_true, decide_eq_true_eq, and_assoc]
/-- a load that fits some room -/
structure Fit (js : Rows) (ld : List Int) : Prop where
  len : ld.length = (roadsOf js).length
  meets : ∀ l ∈ nums js ld, Meet l
def fitB (js : Rows) (ld : List Int) : Bool := (nums js ld).all meetL
def fitInB (js : Rows) (room : Int) (ld : List Int) : Bool := fitB js ld && (nums js ld).all fun l => decide (l.sum ≤ 2 * room)
def FitIn (js : Rows) (room : Int) (ld : List Int) : Prop := Fit js ld ∧ ∀ l ∈ nums js ld, l.sum ≤ 2 * room
section
variable (K : PySem.W.Frag) (CW : Addr)
def sp_is_up_to (K : PySem.W.Frag) (CW : Addr) : Sp := Sp2 fun x y H Q _ => ∃ i g : Int, x = .int i ∧ y = .int g ∧ 0 ≤ i ∧ i ≤ g ∧ Q (.bl true) H
def sp_check_room (K : PySem.W.Frag) (CW : Addr) : Sp := Sp2 fun x y H Q _ => ∃ i g : Int, x = .int i ∧ y = .int g ∧ 0 ≤ i ∧ i ≤ g ∧ Q .non H
def sp_numbers_at (K : PySem.W.Frag) (CW : Addr) : Sp := Sp2 fun x y H Q _ => ∃ G js ld, Same G H ∧ rWeb K CW G x js ∧ Mw.Good js ∧ rT K rI G y ld ∧ ld.length = (roadsOf js).length ∧ Ret G H Q (rL K (rT K rI)) (nums js ld)
def sp_can_meet (K : PySem.W.Frag) (CW : Addr) : Sp := Sp1 fun x H Q _ => ∃ G l, Same G H ∧ rT K rI G x l ∧ l ≠ [] ∧ Q (.bl (meetL l)) H
def sp_fits_some_room (K : PySem.W.Frag) (CW : Addr) : Sp := Sp2 fun x y H Q _ => ∃ G js ld, Same G H ∧ rWeb K CW G x js ∧ Mw.Good js ∧ rT K rI G y ld ∧ ld.length = (roadsOf js).length ∧ ∀ H1, Same H H1 → Q (.bl (fitB js ld)) H1
/-- the least room that a load fits -/
def Least (js : Rows) (ld : List Int) (m : Int) : Prop := (∃ l ∈ nums js ld, l.sum / 2 = m) ∧ ∀ l ∈ nums js ld, l.sum / 2 ≤ m
def sp_least_fitting (K : PySem.W.Frag) (CW : Addr) : Sp := Sp2 fun x y H Q _ => ∃ G js ld, Same G H ∧ rWeb K CW G x js ∧ Mw.Good js ∧ rT K rI G y ld ∧ Fit js ld ∧ ∀ m, Least js ld m → ∀ H1, Same H H1 → Q (.int m) H1
def sp_fits (K : PySem.W.Frag) (CW : Addr) : Sp := Sp3 fun x y z H Q _ => ∃ G js room ld, Same G H ∧ rWeb K CW G x js ∧ Mw.Good js ∧ y = .int room ∧ rT K rI G z ld ∧ ld.length = (roadsOf js).length ∧ ∀ H1, Same H H1 → Q (.bl (fitInB js room ld)) H1
def sp_does_fit (K : PySem.W.Frag) (CW : Addr) : Sp := Sp3 fun x y z H Q _ => ∃ G js room ld, Same G H ∧ rWeb K CW G x js ∧ Mw.Good js ∧ y = .int room ∧ 0 ≤ room ∧ room ≤ 1000000000000 ∧ rT K rI G z ld ∧ ld.length = (roadsOf js).length ∧ ∀ H1, Same H H1 → Q (.bl (fitInB js room ld)) H1
def sp_check_load (K : PySem.W.Frag) (CW : Addr) : Sp := Sp3 fun x y z H Q _ => ∃ G js room ld, Same G H ∧ rWeb K CW G x js ∧ Mw.Good js ∧ y = .int room ∧ rT K rI G z ld ∧ FitIn js room ld ∧ ∀ H1, Same H H1 → Q .non H1
def cars (l : List Int) : List Int := match l with | [a, b, c] => [(a + b - c) / 2, (b + c - a) / 2, (c + a - b) / 2] | _ => []
def sp_passing (K : PySem.W.Frag) (CW : Addr) : Sp := Sp3 fun x y z H Q _ => ∃ G js room ld, Same G H ∧ rWeb K CW G x js ∧ Mw.Good js ∧ y = .int room ∧ 0 ≤ room ∧ room ≤ 1000000000000 ∧ rT K rI G z ld ∧ FitIn js room ld ∧ Ret G H Q (rT K (rT K rI)) ((nums js ld).map cars)
def sp_needed_room (K : PySem.W.Frag) (CW : Addr) : Sp := Sp2 fun x y H Q _ => ∃ G js ld, Same G H ∧ rWeb K CW G x js ∧ Mw.Good js ∧ rT K rI G y ld ∧ Fit js ld ∧ ∀ m, Least js ld m → ∀ H1, Same H H1 → Q (.int m) H1
end
end Tc
namespace Tc
open PySem PySem.Spec PyProof.Rows L2 Fw Mw TL
def tabK (ks : List Str) (ns : List Int) : List (Key × V) := (ks.map (Sum.inr : Str → Key)).zip (ns.map V.int)
theorem putK_new {kvs : List (Key × V)} {k : Key} {v : V} (h : k ∉ kvs.map (·.1)) : putK kvs k v = kvs ++ [(k, v)] := by
  unfold putK
  rw [if_neg fun e => ?_]
  obtain ⟨p, hp, e2⟩ := List.any_eq_true.mp e
  exact h (List.mem_map.mpr ⟨p, hp, of_decide_eq_true e2⟩)
theorem mergeK_new : ∀ (more acc : List (Key × V)), (more.map (·.1)).Nodup → (∀ k ∈ more.map (·.1), k ∉ acc.map (·.1)) → mergeK acc more = acc ++ more
  | [], acc, _, _ => by simp [mergeK]
  | p :: more, acc, nd, h => by
    have nd' := List.nodup_cons.mp (show (p.1 :: more.map (·.1)).Nodup from nd)
    show mergeK (putK acc p.1 p.2) more = _
    rw [putK_new (h p.1 (by simp)), mergeK_new more _ nd'.2 (fun k hk m => ?_)]
    · simp
    · rw [List.map_append, List.mem_append] at m
      rcases m with m | m
      · exact h k (by simp at hk ⊢; exact .inr hk) m
      · simp at m
        subst m
        exact nd'.1 hk
theorem tab_keys : ∀ {ks : List Str} {ns : List Int}, ns.length = ks.length → (tabK ks ns).map (·.1) = ks.map Sum.inr
  | [], ns, _ => by simp [tabK]
  | k :: ks, [], h => by simp at h
  | k :: ks, n :: ns, h => by
    have ih := tab_keys (ks := ks) (ns := ns) (by simpa using h)
    unfold tabK at ih ⊢
    simp only [List.map_cons, List.zip_cons_cons]
    rw [ih]
theorem merge_tab {ks : List Str} {ns : List Int} (nd : ks.Nodup) (h : ns.length = ks.length) : mergeK [] (tabK ks ns) = tabK ks ns := by
  rw [mergeK_new _ _ ?_ (by simp)]
  · rfl
  · rw [tab_keys h]
    exact List.Pairwise.map _ (fun a b hab e => hab (Sum.inr.inj e)) nd
theorem val_tab : ∀ {ks : List Str} {ns : List Int} {z : Str}, ns.length = ks.length → z ∈ ks → valV (tabK ks ns) (Sum.inr z) = some (.int (val ks ns z))
  | [], _, _, _, hz => by cases hz
  | k :: ks, [], _, h, _ => by simp at h
  | k :: ks, n :: ns, z, h, hz => by
    unfold tabK val
    simp only [List.map_cons, List.zip_cons_cons]
    by_cases e : k = z
    · rw [if_pos e, valV_pos (by rw [e])]
    · rw [if_neg e, valV_neg (fun q => e (Sum.inr.inj q))]
      exact val_tab (by simpa using h) (by
        rcases List.mem_cons.mp hz with rfl | hz
        · exact absurd rfl e
        · exact hz)
theorem tab_len {ks : List Str} {ns : List Int} (h : ns.length = ks.length) : (tabK ks ns).length = ks.length := by
  have := congrArg List.length (tab_keys h)
  rw [List.length_map, List.length_map] at this
  exact this
theorem roads_len (js : Rows) : (roadsOf js).length ≤ (words js).length := by
  unfold roadsOf
  rw [(List.mergeSort_perm _ _).length_eq]
  exact Ys.len_putAll _
theorem good_roads {js : Rows} (g : Mw.Good js) : (roadsOf js).length ≤ 36 := by
  have h1 := flat_len js fun r hr => (g.rows r hr).len
  have h2 := g.most
  have h3 : (words js).length = 3 * js.length := h1
  have := roads_len js
  omega
theorem nums_ne {js : Rows} (g : Mw.Good js) (ld : List Int) : nums js ld ≠ [] := fun e => g.some (List.map_eq_nil_iff.mp e)
theorem nums_three {js : Rows} (g : Mw.Good js) (ld : List Int) : ∀ l ∈ nums js ld, l.length = 3 := fun l hl => by
  obtain ⟨r, hr, rfl⟩ := List.mem_map.mp hl
  rw [List.length_map]
  exact (g.rows r hr).len
end Tc

namespace Tc
open PySem PySem.Spec PyProof.Rows L2 Fw Mw TL
theorem fitB_iff {js : Rows} {ld : List Int} (h : ld.length = (roadsOf js).length) : fitB js ld = true ↔ Fit js ld := by
  unfold fitB
  rw [List.all_eq_true]
  exact ⟨fun a => ⟨h, fun l hl => meetL_iff.mp (a l hl)⟩, fun a l hl => meetL_iff.mpr (a.meets l hl)⟩
theorem fitInB_iff {js : Rows} {room : Int} {ld : List Int} (h : ld.length = (roadsOf js).length) : fitInB js room ld = true ↔ FitIn js room ld := by
  unfold fitInB FitIn
  rw [Bool.and_eq_true, fitB_iff h, List.all_eq_true]
  simp only [decide_eq_true_eq]
end Tc
/-! a comprehension with any target whose items are new data -/
namespace Fw
open PySem PySem.Spec PyProof.Rows L2
section
variable {J : It} {Gd : Hp → Prop} {te : TE} {vs : List Nat} {σ : L2.St} {D : Addr} {Qd : Hp → Prop}
theorem lc_dataG {α : Type} {r : R α} [Mo r] {g : TG} {item : Nat → V → Prop} {ys : List α} {L : List Addr} {G H0 : Hp} {Inv : Nat → Hp → Prop}
    (wk : Walk J ys.length Gd (fun i H x H' => H' = H ∧ item i x)) (hG0 : Same G H0) (hG : ∀ H', Same G H' → Gd H') (hD : H0 D = none) (hDL : D ∉ L) (hn : ys.length ≤ 40000)
    (i0 : Inv 0 H0) (iD : ∀ i H' o, Inv i H' → Inv i (upd H' D o))
    (turn : ∀ i x y G' H', ys[i]? = some y → item i x → Go L G H0 G' H' → Inv i H' → ∀ Q : VK, (∀ v G2 H2, Go L G' H' G2 H2 → Inv (i + 1) H2 → r G2 v y → Q v H2) → g x (wipe σ vs) H' fun σ2 H2 => wipe σ2 vs = wipe σ vs ∧ te σ2 H2 Q)
    (done : ∀ ts G' H', Go L G H0 G' H' → Inv ys.length H' → H' D = some (.lst ts) → G' D = some (.lst ts) → Paired (r G') ts ys → Qd H') :
    ∃ W : Nat → Nat → Hp → Prop, (∃ m, W 0 m (upd H0 D (.lst []))) ∧ ∀ i m H, W i m H →
      (J.stop i H ∧ Qd H) ∨ (J.go i H ∧ ∃ Nx : Hp → Prop, (∀ H', Nx H' → ∃ m', m' < m ∧ W (i + 1) m' H') ∧ ∀ x H', J.yld i H x H' → g x (wipe σ vs) H' fun σ2 H2 => wipe σ2 vs = wipe σ vs ∧ tYes σ2 H2 fun b H3 =>
        if b = true then te σ2 H3 fun y H4 => ∃ acc, H4 D = some (.lst acc) ∧ acc.length < sizeLine ∧ Nx (upd H4 D (.lst (acc ++ [y]))) else Nx H3) := by
  have gD : G D = none := hG0.free hD
  refine lc_it wk (fun i H' => ∃ G' ts, Go L G H0 G' H' ∧ Inv i H' ∧ G' D = none ∧ H' D = some (.lst ts) ∧ Paired (r G') ts (ys.take i)) ⟨G, [], (Go.refl hG0).tmp hD, iD 0 H0 _ i0, gD, upd_same, .nil⟩ (fun i H' _ ⟨G', ts, go, _⟩ => hG H' (go.g.trans go.h)) (fun i x H H' hi ⟨G', ts, go, iv, g', h', pr⟩ y => ?_) (fun H' ⟨G', ts, go, iv, g', h', pr⟩ => ?_)
  · obtain ⟨rfl, hx⟩ := y
    obtain ⟨y, hy⟩ : ∃ y, ys[i]? = some y := ⟨ys[i], List.getElem?_eq_getElem hi⟩
    have lts : ts.length = i := by rw [pLen pr, List.length_take]; omega
    refine turn i x y G' H' hy hx go iv _ fun v G2 H2 go2 iv2 hv => ?_
    have h2 := go2.in h' hDL
    have g2 := go2.none h' g'
    refine ⟨ts, h2, Nat.lt_of_le_of_lt (m := 40000) (by omega) (by decide), G2, ts ++ [v], (go.trans go2).mut g2 (.inl hD), iD _ _ _ iv2, g2, upd_same, ?_⟩
    rw [take_snoc hy]
    exact pSnoc (L2.Paired.mapP pr fun _ _ z => Mo.up go2.g z) hv
  · rw [List.take_length] at pr
    have sm : Same G' (upd G' D (.lst ts)) := same_upd g'
    exact done ts _ _ (go.frz hD h' g') iv h' upd_same (L2.Paired.mapP pr fun _ _ z => Mo.up sm z)
end
end Fw
namespace Fw
open PySem PySem.Spec PyProof.Rows L2
/-- the same, of a dict that may stand still already -/
def tFrzE (t : TE) : TE := fun σ H Q => t σ H fun x H1 => ∃ d u, x = .ref d ∧ Rd H1 d u ∧ Mut (some u) ∧ ∀ od H2, ((H1 d = some (.frz od u) ∧ H2 = H1) ∨ (H1 d = some u ∧ H2 = upd H1 d (.frz od u))) → Q x H2
theorem pe_frzE {X : Cx} {e : Expr} {t : TE} (h : PE X e t) : PE X e (tFrzE t) := by
  refine ⟨fun pins s σ H Q I hw => ?_⟩
  refine thn (h.run pins s σ H _ I hw) fun v s1 ⟨x, H1, I1, r, d, u, ex, hd, mu, q⟩ => ?_
  rcases hd with hd | ⟨o, hd⟩
  · obtain ⟨od, I2⟩ := I1.lock hd mu
    exact ⟨x, _, I2, r, q od _ (.inr ⟨hd, rfl⟩)⟩
  · exact ⟨x, _, I1, r, q o _ (.inl ⟨hd, rfl⟩)⟩
end Fw
/-! promises: the drawn load and what is asked of it (k06) -/
namespace Tc
open PySem PySem.Spec PyProof.Rows L2 Fw Mw TL
/-- a table of roads' numbers -/
def rD (ks : List Str) : R (List Int) := fun H v ns => ∃ d, v = .ref d ∧ Rd H d (.dK (tabK ks ns)) ∧ ns.length = ks.length
theorem rd_up {H H1 : Hp} {d : Addr} {u : HO} (h : Rd H d u) (e : Same H H1) : Rd H1 d u := h.elim (fun x => .inl (e _ _ x)) fun ⟨o, x⟩ => .inr ⟨o, e _ _ x⟩
theorem dget_rd {H : Hp} {a : Addr} {kvs : List (Key × V)} {k : Key} (h : Rd H a (.dK kvs)) : DGet H a (kV k) (valV kvs k) := .inl ⟨kvs, k, h, rfl, rfl⟩
instance {ks : List Str} : Mo (rD ks) := ⟨fun e ⟨d, h1, h2, h3⟩ => ⟨d, h1, rd_up h2 e, h3⟩⟩
/-- the same, of a dict that no loop holds -/
def rDk (ks : List Str) : R (List Int) := fun H v ns => ∃ d, v = .ref d ∧ H d = some (.dK (tabK ks ns)) ∧ ns.length = ks.length
instance {ks : List Str} : Mo (rDk ks) := ⟨fun e ⟨d, h1, h2, h3⟩ => ⟨d, h1, e _ _ h2, h3⟩⟩
theorem rDk.d {ks : List Str} {H : Hp} {v : V} {ns : List Int} (h : rDk ks H v ns) : rD ks H v ns := by
  obtain ⟨d, h1, h2, h3⟩ := h
  exact ⟨d, h1, .inl h2, h3⟩
/-- a dict that tells each road's number, in whatever order -/
def rDx (own : Rows) : R (List Int) := fun H v ld => ∃ d ks f, v = .ref d ∧ Rd H d (.dK (tabK ks (ks.map f))) ∧ (∀ z ∈ roadsOf own, z ∈ ks) ∧ ld = (roadsOf own).map f
def meetB (room a b c : Int) : Bool := decide ((a + b + c) % 2 = 0) && decide (a + b + c ≤ 2 * room) && decide (2 * max (max a b) c ≤ a + b + c)
def rSc (K : PySem.W.Frag) : R (Rows × Int × List Int) := fun H v x => ∃ t a b, v = .ref t ∧ H t = some (.tup [a, .int x.2.1, b]) ∧ rL K (rT K rS) H a x.1 ∧ rT K rI H b x.2.2
/-- a lot of roads of which each junction has none or two -/
def Lot (own : Rows) (ws : List Str) : Prop := ∀ r ∈ own, (r.filter fun z => decide (z ∈ ws)).length = 0 ∨ (r.filter fun z => decide (z ∈ ws)).length = 2
/-- a lot of roads as it is told: in the roads' own sequence -/
def LotT (own : Rows) (ws : List Str) : Prop := Lot own ws ∧ ∃ p : Str → Bool, ws = (roadsOf own).filter p
theorem lot_of {own : Rows} {ws : List Str} (h : (own.map fun r => inV (.int ((Evl.given r.length (fun i => inV (.str (r.getD i "")) (ws.map V.str)) (fun _ => V.int 1)).length : Nat)) [.int 0, .int 2]).all id = true) : Lot own ws := fun r hr => by
  have h1 := List.all_eq_true.mp h _ (List.mem_map.mpr ⟨r, hr, rfl⟩)
  have e := Fw.given_map r "" (fun z => inV (.str z) (ws.map V.str)) (fun _ => V.int 1)
  have h2 : inV (.int ((Evl.given r.length (fun i => inV (.str (r.getD i "")) (ws.map V.str)) (fun _ => V.int 1)).length : Nat)) ([0, 2].map V.int) = true := h1
  rw [e, List.length_map, inV_int, decide_eq_true_eq] at h2
  have e3 : (fun z => inV (V.str z) (ws.map V.str)) = fun z => decide (z ∈ ws) := funext fun z => inV_str z ws
  rw [e3] at h2
  rcases List.mem_cons.mp h2 with h3 | h3
  · left
    omega
  · right
    have := List.mem_singleton.mp h3
    omega
theorem lot_nil (own : Rows) : Lot own [] := fun r _ => .inl (by simp)
section
variable (K : PySem.W.Frag) (CW : Addr)
def sp_law_is_int (K : PySem.W.Frag) (CW : Addr) : Sp := Sp3 fun x y z H Q _ => ∃ i lo hi : Int, x = .int i ∧ y = .int lo ∧ z = .int hi ∧ lo ≤ i ∧ i ≤ hi ∧ Q (.bl true) H
def sp_law_load_meets (K : PySem.W.Frag) (CW : Addr) : Sp := Sp4 fun x y z t H Q _ => ∃ room a b c : Int, x = .int room ∧ y = .int a ∧ z = .int b ∧ t = .int c ∧ Q (.bl (meetB room a b c)) H
def sp_law_load_table (K : PySem.W.Frag) (CW : Addr) : Sp := Sp2 fun x y H Q _ => ∃ G own ld, Same G H ∧ rL K (rT K rS) G x own ∧ rT K rI G y ld ∧ (words own).length ≤ 60 ∧ ld.length = (roadsOf own).length ∧ Ret G H Q (rDk (roadsOf own)) ld
def sp_law_load_of (K : PySem.W.Frag) (CW : Addr) : Sp := Sp2 fun x y H Q _ => ∃ G own ld, Same G H ∧ rL K (rT K rS) G x own ∧ rDx own G y ld ∧ (words own).length ≤ 60 ∧ Ret G H Q (rT K rI) ld
def sp_law_load_way_drawn (K : PySem.W.Frag) (CW : Addr) : Sp := Sp3 fun x y z H Q _ => ∃ (p : Addr) (n : Nat) (G : Hp) (own : Rows) (s : Str), Same G H ∧ G p = none ∧ x = .ref p ∧ rL K (rT K rS) G y own ∧ z = .str s ∧ Mw.Good own ∧ s ∈ words own ∧ Pot (n + 100) p H ∧
  ∀ way : List Str, way.length ≤ 100 → RetP p n G H Q (rH rS) way
def sp_law_load_layer_drawn (K : PySem.W.Frag) (CW : Addr) : Sp := Sp2 fun x y H Q _ => ∃ (p : Addr) (n : Nat) (G : Hp) (own : Rows), Same G H ∧ G p = none ∧ x = .ref p ∧ rL K (rT K rS) G y own ∧ Mw.Good own ∧ Pot (n + 210) p H ∧
  ∀ ws : List Str, ws.length ≤ 100 → LotT own ws → RetP p n G H Q (rH rS) ws
def sp_law_load_drawn (K : PySem.W.Frag) (CW : Addr) : Sp := Sp3 fun x y z H Q _ => ∃ (p : Addr) (n : Nat) (G : Hp) (own : Rows) (room : Nat), Same G H ∧ G p = none ∧ x = .ref p ∧ rL K (rT K rS) G y own ∧ z = .int room ∧ room ≤ 9 ∧ Mw.Good own ∧ Pot (n + 2200) p H ∧
  ∀ ld, FitIn own room ld → RetP p n G H Q (rT K rI) ld
def sp_law_scene (K : PySem.W.Frag) (CW : Addr) : Sp := Sp1 fun x H Q _ => ∃ (p : Addr) (n : Nat) (G : Hp), Same G H ∧ G p = none ∧ x = .ref p ∧ Pot (n + 3000) p H ∧
  ∀ own e (room : Nat) ld, Wb own e → own.length ≤ 12 → own ≠ [] → room ≤ 8 → FitIn own room ld → RetP p n G H Q (rSc K) (own, (room : Int), ld)
def sp_law_are_cars (K : PySem.W.Frag) (CW : Addr) : Sp := Sp3 fun x y z H Q _ => ∃ G l room, Same G H ∧ rT K rI G x (cars l) ∧ rL K rI G y l ∧ z = .int room ∧ l.length = 3 ∧ Meet l ∧ l.sum ≤ 2 * room ∧ ∀ H1, Same H H1 → Q (.bl true) H1
def sp_law_are_told (K : PySem.W.Frag) (CW : Addr) : Sp := Sp4 fun x y z t H Q _ => ∃ G own room ld, Same G H ∧ rL K (rT K rS) G x own ∧ y = .int room ∧ rT K rI G z ld ∧ rT K (rT K rI) G t ((nums own ld).map cars) ∧ Mw.Good own ∧ FitIn own room ld ∧ ∀ G1 H1, Go [] G H G1 H1 → Q (.bl true) H1
end
end Tc
namespace Tc
open PySem PySem.Spec PyProof.Rows L2 Fw Mw TL
theorem greatest_of : ∀ {l : List Int}, l ≠ [] → ∃ m ∈ l, ∀ n ∈ l, n ≤ m
  | [a], _ => ⟨a, by simp, by simp⟩
  | a :: b :: l, _ => by
    obtain ⟨m, h1, h2⟩ := greatest_of (l := b :: l) (by simp)
    by_cases c : a ≤ m
    · exact ⟨m, List.mem_cons_of_mem _ h1, fun n hn => by
        rcases List.mem_cons.mp hn with rfl | hn
        · exact c
        · exact h2 n hn⟩
    · exact ⟨a, by simp, fun n hn => by
        rcases List.mem_cons.mp hn with rfl | hn
        · exact Int.le_refl _
        · have := h2 n hn
          omega⟩
theorem least_of {js : Rows} (g : Mw.Good js) (ld : List Int) : ∃ m, Least js ld m := by
  obtain ⟨m, h1, h2⟩ := greatest_of (l := (nums js ld).map fun l => l.sum / 2) (fun e => nums_ne g ld (List.map_eq_nil_iff.mp e))
  obtain ⟨l, hl, rfl⟩ := List.mem_map.mp h1
  exact ⟨_, ⟨l, hl, rfl⟩, fun l' hl' => h2 _ (List.mem_map.mpr ⟨l', hl', rfl⟩)⟩
end Tc
namespace Tc
open PySem PySem.Spec PyProof.Rows L2 Fw Mw TL
theorem vals_tab : ∀ {ks : List Str} {ns : List Int}, ks.Nodup → ns.length = ks.length → ks.map (fun z => val ks ns z) = ns
  | [], [], _, _ => rfl
  | k :: ks, n :: ns, nd, h => by
    have nd' := List.nodup_cons.mp nd
    have ih := vals_tab nd'.2 (by simpa using h)
    rw [List.map_cons]
    congr 1
    · simp [val]
    · refine Eq.trans (List.map_congr_left fun z hz => ?_) ih
      have : k ≠ z := fun e => nd'.1 (e ▸ hz)
      simp [val, this]
  | [], _ :: _, _, h => by simp at h
  | _ :: _, [], _, h => by simp at h
end Tc
namespace Tc
open PySem PySem.Spec PyProof.Rows L2 Fw Mw TL
theorem max2_int (a b : Int) : nuMax2 (.int a) (.int b) = some (.int (max a b)) := by
  show some (if decide (a < b) = true then V.int b else V.int a) = _
  by_cases c : a < b
  · rw [if_pos (decide_eq_true c), Int.max_def, if_pos (Int.le_of_lt c)]
  · rw [if_neg (by simpa using c), Int.max_def]
    by_cases d : a ≤ b
    · rw [if_pos d, show a = b by omega]
    · rw [if_neg d]
theorem max3_int (a b c : Int) : nuMax3 (.int a) (.int b) (.int c) = some (.int (max (max a b) c)) := by
  unfold nuMax3
  rw [max2_int, Option.bind_some, max2_int]
end Tc
namespace Tc
open PySem PySem.Spec PyProof.Rows L2 Fw Mw TL
theorem given_true (m : Nat) : Evl.given m (fun _ => true) (fun _ => V.bl true) = (List.replicate m true).map V.bl := by
  unfold Evl.given
  rw [List.filter_eq_self.mpr (fun _ _ => rfl)]
  apply List.ext_getElem
  · simp
  · intro i h1 h2
    simp
theorem all_true (m : Nat) : (List.replicate m true).all id = true := by simp
theorem pairs_tab {K : PySem.W.Frag} {H : Hp} : ∀ {ts : List Addr} {ks : List Str} {ns : List Int}, Paired (fun t (q : V × V) => H t = some (.tup [q.1, q.2])) ts ((ks.map V.str).zip (ns.map V.int)) → Paired (fun p (kv : Key × V) => SqT K H p [kV kv.1, kv.2]) ts (tabK ks ns)
  | _, [], _, h => by
    cases h
    exact .nil
  | _, _ :: _, [], h => by
    cases h
    exact .nil
  | _, k :: ks, n :: ns, h => by
    have h' : Paired (fun t (q : V × V) => H t = some (.tup [q.1, q.2])) _ ((V.str k, V.int n) :: (ks.map V.str).zip (ns.map V.int)) := h
    cases h' with
    | cons r rr => exact .cons (SqT.of r) (pairs_tab rr)
theorem dp_strs {K : PySem.W.Frag} {H : Hp} (l : List Str) : DpAll K H (l.map V.str) (l.map PyData.str) := Yo.dp_strs l
theorem shaped_intsT3 (a b c : Int) : SeqAt.shaped (.tuple ([a, b, c].map PyData.int)) = true := shaped_of (by simp [PyData.canLay0, PyData.canLayAll0]) (by simp [PyData.depth, PyData.depthAll])
end Tc
namespace Tc
open PySem PySem.Spec PyProof.Rows L2 Fw Mw TL
theorem val_map {f : Str → Int} : ∀ {ks : List Str} {z : Str}, z ∈ ks → val ks (ks.map f) z = f z
  | k :: ks, z, h => by
    show (if k = z then f k else val ks (ks.map f) z) = f z
    by_cases e : k = z
    · rw [if_pos e, e]
    · rw [if_neg e]
      exact val_map ((List.mem_cons.mp h).resolve_left fun q => e q.symm)
theorem tab_map {f : Str → Int} : ∀ (ks : List Str), tabK ks (ks.map f) = ks.map fun z => ((Sum.inr z : Key), V.int (f z))
  | [] => rfl
  | k :: ks => by
    have := tab_map (f := f) ks
    unfold tabK at this ⊢
    simp only [List.map_cons, List.zip_cons_cons]
    rw [this]
def rKV (K : PySem.W.Frag) : R (Str × Int) := fun H v kv => ∃ t, v = .ref t ∧ SqT K H t [.str kv.1, .int kv.2]
instance {K : PySem.W.Frag} : Mo (rKV K) := ⟨fun e ⟨t, h1, h2⟩ => ⟨t, h1, seqT e h2⟩⟩
theorem pairs_kv {K : PySem.W.Frag} {H : Hp} : ∀ {ts : List V} {ys : List (Str × Int)}, Paired (rKV K H) ts ys → ∃ ps : List Addr, ts = ps.map V.ref ∧ Paired (fun p (kv : Key × V) => SqT K H p [kV kv.1, kv.2]) ps (ys.map fun kv => ((Sum.inr kv.1 : Key), V.int kv.2))
  | _, _, .nil => ⟨[], rfl, .nil⟩
  | _, _, .cons r rr => by
    obtain ⟨ps, rfl, h⟩ := pairs_kv rr
    obtain ⟨t, rfl, ht⟩ := r
    exact ⟨t :: ps, rfl, .cons ht h⟩
def Fz (H0 G H : Hp) (d : Addr) (u : HO) : Prop := (H0 d = none ∧ H d = some u ∧ G d = none) ∨ ∃ o, G d = some (.frz o u)
theorem frz_step {L : List Addr} {G H G4 H4 H5 : Hp} {d : Addr} {od : Obj} {kvs : List (Key × V)} (go : Go L G H G4 H4) (st : Fz H G4 H4 d (.dK kvs))
    (he : (H4 d = some (.frz od (.dK kvs)) ∧ H5 = H4) ∨ (H4 d = some (.dK kvs) ∧ H5 = upd H4 d (.frz od (.dK kvs)))) :
    ∃ G5, Go L G H G5 H5 ∧ Same G4 G5 ∧ G5 d = some (.frz od (.dK kvs)) ∧ ∀ n p, Pot n p H4 → Pot n p H5 := by
  rcases st with ⟨h0, h4, g4⟩ | ⟨o, g4⟩
  · rcases he with ⟨e, _⟩ | ⟨_, rfl⟩
    · rw [h4] at e
      cases e
    · refine ⟨upd G4 d (.frz od (.dK kvs)), (go.mut g4 (.inl h0)).frz h0 upd_same g4, same_upd g4, upd_same, fun n p ⟨a, b, c, h, r⟩ => ⟨a, b, c, ?_, r⟩⟩
      rw [upd_ne fun z => ?_]
      · exact h
      · rw [z, h4] at h
        cases h
  · have h4 := go.h _ _ g4
    rcases he with ⟨e, rfl⟩ | ⟨e, _⟩
    · rw [h4] at e
      obtain rfl := HO.frz.inj (Option.some.inj e) |>.1
      exact ⟨G4, go, Same.refl _, g4, fun _ _ h => h⟩
    · rw [h4] at e
      cases e
theorem Fz.rd {L : List Addr} {G H G4 H4 : Hp} {d : Addr} {u : HO} (go : Go L G H G4 H4) (st : Fz H G4 H4 d u) : Rd H4 d u := by
  rcases st with ⟨_, h, _⟩ | ⟨o, g⟩
  · exact .inl h
  · exact .inr ⟨o, go.h _ _ g⟩
theorem nums_of_mem {own : Rows} {ld : List Int} {l : List Int} (h : l ∈ nums own ld) : ∃ r ∈ own, l = r.map fun z => val (roadsOf own) ld z := by
  obtain ⟨r, hr, rfl⟩ := List.mem_map.mp h
  exact ⟨r, hr, rfl⟩
theorem fit_zero {own : Rows} (good : Mw.Good own) (room : Nat) : FitIn own room ((roadsOf own).map fun _ => 0) := by
  have key : ∀ l ∈ nums own ((roadsOf own).map fun _ => 0), l = [0, 0, 0] := fun l hl => by
    obtain ⟨r, hr, rfl⟩ := nums_of_mem hl
    have l3 := (good.rows r hr).len
    match r, l3, hr with
    | [x, y, z], _, hr =>
      have m : ∀ w ∈ [x, y, z], w ∈ roadsOf own := fun w hw => mem_roads.mpr (List.mem_flatten.mpr ⟨_, hr, hw⟩)
      simp only [List.map_cons, List.map_nil]
      rw [val_map (m x (by simp)), val_map (m y (by simp)), val_map (m z (by simp))]
  refine ⟨⟨List.length_map _, fun l hl => ?_⟩, fun l hl => ?_⟩
  · rw [key l hl]
    exact ⟨by simp, by simp, by simp⟩
  · rw [key l hl]
    simp
    omega
theorem val_nn {own : Rows} {ld : List Int} (fit : Fit own ld) {z : Str} (h : z ∈ roadsOf own) : 0 ≤ val (roadsOf own) ld z := by
  obtain ⟨r, hr, hz⟩ := List.mem_flatten.mp (mem_roads.mp h)
  exact (fit.meets _ (List.mem_map.mpr ⟨r, hr, rfl⟩)).1 _ (List.mem_map.mpr ⟨z, hz, rfl⟩)
theorem fit_step {own : Rows} {room : Nat} {f : Str → Int} (good : Mw.Good own) (nn : ∀ z ∈ roadsOf own, 0 ≤ f z) (h : (own.map fun r => meetB room (f (r.getD 0 "")) (f (r.getD 1 "")) (f (r.getD 2 ""))).all id = true) : FitIn own room ((roadsOf own).map f) := by
  have key : ∀ l ∈ nums own ((roadsOf own).map f), ∃ a b c : Int, l = [a, b, c] ∧ 0 ≤ a ∧ 0 ≤ b ∧ 0 ≤ c ∧ meetB room a b c = true := fun l hl => by
    obtain ⟨r, hr, rfl⟩ := nums_of_mem hl
    have l3 := (good.rows r hr).len
    have hb := List.all_eq_true.mp h _ (List.mem_map.mpr ⟨r, hr, rfl⟩)
    match r, l3, hr, hb with
    | [x, y, z], _, hr, hb =>
      have m : ∀ w ∈ [x, y, z], w ∈ roadsOf own := fun w hw => mem_roads.mpr (List.mem_flatten.mpr ⟨_, hr, hw⟩)
      refine ⟨f x, f y, f z, ?_, nn x (m x (by simp)), nn y (m y (by simp)), nn z (m z (by simp)), hb⟩
      simp only [List.map_cons, List.map_nil]
      rw [val_map (m x (by simp)), val_map (m y (by simp)), val_map (m z (by simp))]
  refine ⟨⟨List.length_map _, fun l hl => ?_⟩, fun l hl => ?_⟩
  · obtain ⟨a, b, c, rfl, h1, h2, h3, hb⟩ := key l hl
    simp only [meetB, Bool.and_eq_true, decide_eq_true_eq] at hb
    refine ⟨fun n hn => ?_, ?_, fun n hn => ?_⟩
    · simp at hn
      omega
    · simp only [List.sum_cons, List.sum_nil]
      omega
    · simp only [List.sum_cons, List.sum_nil]
      simp at hn
      omega
  · obtain ⟨a, b, c, rfl, h1, h2, h3, hb⟩ := key l hl
    simp only [meetB, Bool.and_eq_true, decide_eq_true_eq] at hb
    simp only [List.sum_cons, List.sum_nil]
    omega
end Tc
namespace Tc
open PySem PySem.Spec PyProof.Rows L2 Fw Mw TL
theorem tab_key {ks : List Str} {ns : List Int} {i : Nat} {k : Key} {v : V} {z : Str} (h : ns.length = ks.length) (hk : (tabK ks ns)[i]? = some (k, v)) (hz : ks[i]? = some z) : k = Sum.inr z := by
  have := congrArg (fun l => l[i]?) (tab_keys h)
  simp only [List.getElem?_map, hk, hz, Option.map_some] at this
  exact Option.some.inj this
end Tc
namespace Tc
open PySem PySem.Spec PyProof.Rows L2 Fw Mw TL
theorem dget_val {H : Hp} {d : Addr} {ks : List Str} {ns : List Int} {z : Str} (h : Rd H d (.dK (tabK ks ns))) (hl : ns.length = ks.length) (hz : z ∈ ks) : DGet H d (.str z) (some (.int (val ks ns z))) := by
  have := dget_rd (k := Sum.inr z) h
  rw [val_tab hl hz] at this
  exact this
end Tc
namespace Tc
open PySem PySem.Spec PyProof.Rows L2 Fw Mw TL
theorem ats_mem {own : Rows} {z : Str} {v : Int} (h : v ∈ atsOf own z) : ∃ k : Nat, k < own.length ∧ v = k := by
  unfold atsOf at h
  obtain ⟨n, hn, h2⟩ := List.mem_flatMap.mp h
  obtain ⟨_, _, rfl⟩ := List.mem_map.mp h2
  exact ⟨n, List.mem_range.mp hn, rfl⟩
theorem ats_cases {own : Rows} {z : Str} (good : Mw.Good own) (h : z ∈ words own) :
    (∃ a : Nat, a < own.length ∧ atsOf own z = [(a : Int)] ∧ (words own).count z = 1) ∨ ∃ a b : Nat, a < own.length ∧ b < own.length ∧ atsOf own z = [(a : Int), (b : Int)] ∧ (words own).count z = 2 := by
  have hl : (atsOf own z).length = (words own).count z := ats_len_eq own z
  have h1 : 0 < (words own).count z := List.count_pos_iff.mpr h
  have h2 : (words own).count z ≤ 2 := good.twice z
  match hA : atsOf own z with
  | [] => rw [hA] at hl; simp at hl; omega
  | [a] =>
    obtain ⟨k, hk, rfl⟩ := ats_mem (own := own) (z := z) (v := a) (by rw [hA]; simp)
    rw [hA] at hl
    exact .inl ⟨k, hk, rfl, hl.symm⟩
  | [a, b] =>
    obtain ⟨k, hk, rfl⟩ := ats_mem (own := own) (z := z) (v := a) (by rw [hA]; simp)
    obtain ⟨k2, hk2, rfl⟩ := ats_mem (own := own) (z := z) (v := b) (by rw [hA]; simp)
    rw [hA] at hl
    exact .inr ⟨k, k2, hk, hk2, rfl, hl.symm⟩
  | a :: b :: c :: l => rw [hA] at hl; simp at hl; omega
theorem shaped_strsL (ns : List Str) (h : ∀ x ∈ ns, isName x = true) : SeqAt.shaped (.list (ns.map PyData.str)) = true :=
  shaped_of (by simp only [PyData.canLay0]; exact lay_strs ns h) (by simp only [PyData.depth]; rw [dep_strs]; omega)
theorem rDx.of {own : Rows} {H : Hp} {v : V} {ld : List Int} (h : rD (roadsOf own) H v ld) : rDx own H v ld := by
  obtain ⟨d, rfl, h2, h3⟩ := h
  have e := vals_tab (nodup_roads own) h3
  exact ⟨d, roadsOf own, fun z => val (roadsOf own) ld z, rfl, by rw [e]; exact h2, fun _ h => h, e.symm⟩
end Tc
/-! loads: times, turned (k06) -/
namespace Tc
open PySem PySem.Spec PyProof.Rows L2 Fw Mw TL
theorem perm_sum {a b : List Int} (h : a.Perm b) : a.sum = b.sum := by
  induction h with
  | nil => rfl
  | cons x _ ih => simp [ih]
  | swap x y l => simp; omega
  | trans _ _ ih1 ih2 => exact ih1.trans ih2
theorem meet_perm {a b : List Int} (h : a.Perm b) (m : Meet b) : Meet a := by
  obtain ⟨m0, m1, m2⟩ := m
  have e := perm_sum h
  refine ⟨fun n hn => m0 n (h.mem_iff.mp hn), by rw [e]; exact m1, fun n hn => ?_⟩
  rw [e]
  exact m2 n (h.mem_iff.mp hn)
theorem nums_turn {js own : Rows} {ld : List Int} (t : Turned js own) : ∀ l ∈ nums js ld, ∃ l2 ∈ nums own ld, l.Perm l2 := fun l hl => by
  obtain ⟨r, hr, rfl⟩ := nums_of_mem hl
  have er := roads_perm (turned_words t)
  obtain ⟨js1, h1, h2⟩ := t
  obtain ⟨i, hi⟩ := List.getElem?_of_mem (h2.mem_iff.mp hr)
  obtain ⟨q, hq, pq⟩ := paired_at h1 hi
  rw [er]
  exact ⟨_, List.mem_map.mpr ⟨q, List.mem_of_getElem? hq, rfl⟩, pq.map _⟩
theorem fit_turn {js own : Rows} {ld : List Int} {room : Int} (t : Turned js own) (h : FitIn own room ld) : FitIn js room ld := by
  refine ⟨⟨by rw [roads_perm (turned_words t)]; exact h.1.len, fun l hl => ?_⟩, fun l hl => ?_⟩
  · obtain ⟨l2, h2, p⟩ := nums_turn t l hl
    exact meet_perm p (h.1.meets _ h2)
  · obtain ⟨l2, h2, p⟩ := nums_turn t l hl
    rw [perm_sum p]
    exact h.2 _ h2
theorem fit_more {own : Rows} {ld : List Int} {room d : Int} (h : FitIn own room ld) (h0 : 0 ≤ d) : FitIn own (room + d) ld :=
  ⟨h.1, fun l hl => by have := h.2 l hl; omega⟩
theorem val_scale (t : Int) : ∀ (ks : List Str) (ns : List Int) (z : Str), val ks (ns.map fun n => t * n) z = t * val ks ns z
  | [], _, _ => by simp [val]
  | _ :: _, [], _ => by simp [val]
  | k :: ks, n :: ns, z => by
    show (if k = z then t * n else val ks (ns.map fun n => t * n) z) = t * (if k = z then n else val ks ns z)
    by_cases e : k = z
    · rw [if_pos e, if_pos e]
    · rw [if_neg e, if_neg e]
      exact val_scale t ks ns z
theorem sum_scale (t : Int) : ∀ l : List Int, (l.map fun n => t * n).sum = t * l.sum
  | [] => by simp
  | n :: l => by
    rw [List.map_cons, List.sum_cons, List.sum_cons, sum_scale t l, Int.mul_add]
theorem fit_scale {own : Rows} {ld : List Int} {room t : Int} (h0 : 0 ≤ t) (h : FitIn own room ld) : FitIn own (t * room) (ld.map fun n => t * n) := by
  have key : ∀ l ∈ nums own (ld.map fun n => t * n), ∃ l2 ∈ nums own ld, l = l2.map fun n => t * n := fun l hl => by
    obtain ⟨r, hr, rfl⟩ := nums_of_mem hl
    refine ⟨_, List.mem_map.mpr ⟨r, hr, rfl⟩, ?_⟩
    rw [List.map_map]
    exact List.map_congr_left fun z _ => val_scale t _ _ z
  refine ⟨⟨by rw [List.length_map]; exact h.1.len, fun l hl => ?_⟩, fun l hl => ?_⟩
  · obtain ⟨l2, h2, rfl⟩ := key l hl
    obtain ⟨m0, m1, m2⟩ := h.1.meets l2 h2
    refine ⟨fun n hn => ?_, ?_, fun n hn => ?_⟩
    · obtain ⟨a, ha, rfl⟩ := List.mem_map.mp hn
      exact Int.mul_nonneg h0 (m0 a ha)
    · rw [sum_scale]
      obtain ⟨u, hu⟩ : ∃ u, l2.sum = 2 * u := ⟨l2.sum / 2, by omega⟩
      rw [hu, Int.mul_left_comm]
      omega
    · obtain ⟨a, ha, rfl⟩ := List.mem_map.mp hn
      rw [sum_scale, Int.mul_left_comm]
      exact Int.mul_le_mul_of_nonneg_left (m2 a ha) h0
  · obtain ⟨l2, h2, rfl⟩ := key l hl
    rw [sum_scale, Int.mul_left_comm]
    exact Int.mul_le_mul_of_nonneg_left (h.2 l2 h2) h0
theorem cars_sum {l : List Int} (h : l.length = 3) (m : Meet l) : (cars l).sum = l.sum / 2 := by
  match l, h, m with
  | [a, b, c], _, ⟨m0, m1, m2⟩ =>
    have h1 := m2 a (by simp)
    have h2 := m2 b (by simp)
    have h3 := m2 c (by simp)
    simp [cars] at h1 h2 h3 m1 ⊢
    omega
/-- a row's names at some places -/
def pickR (o : List Int) (r : List Str) : List Str := o.map fun a => r.getD a.toNat ""
theorem pick_perm {o : List Int} {r : List Str} (h : o.Perm [0, 1, 2]) (l : r.length = 3) : (pickR o r).Perm r := by
  match r, l with
  | [x, y, z], _ => exact h.map fun a : Int => [x, y, z].getD a.toNat ""
theorem turned_pick {o : List Int} {own : Rows} (h : o.Perm [0, 1, 2]) (l : ∀ r ∈ own, r.length = 3) : Turned (own.map (pickR o)).reverse own := by
  refine ⟨own.map (pickR o), ?_, List.reverse_perm _⟩
  induction own with
  | nil => exact .nil
  | cons r own ih => exact .cons (pick_perm h (l r (by simp))) (ih fun q hq => l q (by simp [hq]))
theorem snocP {α β : Type} {F : α → β → Prop} {a : α} {b : β} : ∀ {xs : List α} {ys : List β}, Paired F xs ys → F a b → Paired F (xs ++ [a]) (ys ++ [b])
  | _, _, .nil, r => .cons r .nil
  | _, _, .cons q rr, r => .cons q (snocP rr r)
theorem pReverse {α β : Type} {F : α → β → Prop} : ∀ {xs : List α} {ys : List β}, Paired F xs ys → Paired F xs.reverse ys.reverse
  | _, _, .nil => .nil
  | _, _, .cons (a := a) (b := b) r rr => by
    rw [List.reverse_cons, List.reverse_cons]
    exact snocP (pReverse rr) r
end Tc
/-! defs that want to know that nothing is being shown where they run: for the text (repr) of lists and tuples -/
namespace Gd
open PySem PySem.Spec PyProof.Rows L2 Fw
/-- what a def promises where no text of a list or tuple is under way -/
structure FnG (P : Program) (w : World) (K : PySem.W.Frag) (mg : Str → Option Value) (base : Heap) (n : Nat) (g : Addr) (gd : FuncData) (ps : List Str) (sp : Sp) : Prop where
  len : ∀ vs H Q E, sp vs H Q E → vs.length = ps.length
  run : ∀ (A : Around) (fr : List Env) (t : Shared) (G : Hp) (al : Args) (us : List Value) (vs : List V) (Q : VK) (E : XK), A.guards = some [] → Room n A →
    Env0 P w K mg base A fr t G → BindsTo t gd al (ps.zip us) → Vals vs us → sp vs G Q E →
    codeAny (model P w) A (.call (.ref g) al) (CR CX0 fr P w G t Q E) t
section
variable {P : Program} {w : World} {K : PySem.W.Frag} {mg : Str → Option Value} {base : Heap} {n : Nat} {g : Addr} {gd : FuncData} {ps : List Str} {sp : Sp}
theorem FnG.of (F : FnOk P w K mg base CX0 n g gd ps sp) : FnG P w K mg base n g gd ps sp :=
  ⟨F.len, fun A fr t G al us vs Q E _ rm => F.run A fr t G al us vs Q E rm⟩
/-- a def of the text, by its body -/
theorem fnG {x q : Str} {st : Stmt} {N : List Str} (F : Fun K x q st g gd) (S : FnScope N ps (defScope st)) (len : ∀ vs H Q E, sp vs H Q E → vs.length = ps.length)
    (body : ∀ (cv : Value) (A : Around) (fr : List Env) (t : Shared) (G : Hp) (vs : List V) (Q : VK) (E : XK), A.guards = some [] →
      Room n (A.deeper (envOfC q (defScope st) t.heap.objs.size g cv)) → sp vs G Q E →
      ∃ b, PSs (cxOf CX0 P w K mg base N q (defScope st) g cv A fr t G E).nox (defBody st) b ∧ b { nx := fun _ G' => Q .non G', rt := Q } (start N vs) G) :
    FnG P w K mg base (n + 1) g gd ps sp := by
  obtain ⟨oc, od, kv, dc, pm, an, cv, ct, sl, rfl, look, code⟩ := F.ex
  refine ⟨len, fun A fr t G al us vs Q E gu rm en bi rv want => ?_⟩
  have many := len vs G Q E want
  have held : K.In t.heap := en.mod.kin.keeps fun c u z => (en.bs c u z).1
  have lim : t.heap.NoLimit := en.mod.nolimit.keeps fun c u z => (en.bs c u z).1
  have kinds : ∀ y ∈ ps.zip us, (defScope st).names.lookup y.1 = some .local ∨ ((defScope st).names.lookup y.1 = some .cell ∧ ((cellsFrom (t.heap.objs.size + 1) (defScope st).names []).lookup y.1).isSome = true) := by
    rintro ⟨y, u⟩ hy
    have hy1 := (List.of_mem_zip hy).1
    cases S.par y hy1 with
    | inl a => exact .inl a
    | inr a => exact .inr ⟨a, PySem.W.cellsFrom_some _ _ _ (.inl a)⟩
  refine codeAny_call_function rm.depth (held _ _ look) rfl S.co S.gen rfl (PySem.W.codeRec_of held code) (bi _ _ _ _ (wpAny_newFunctionEnv_cells S.kind kinds ?_))
  intro en2 he t1 z
  subst he
  refine And.intro (lim.keeps z.toInCall.keep) (codeAny_func ?_)
  obtain ⟨b, pb, hb⟩ := body cv A fr t G vs Q E gu (rm.deeper _) want
  have J := inv_start (CX := CX0) (N := N) (qual := q) (cd := cv) (E := E) S rm.hd en many rv z
  refine wpAny_mono (pb.nox.run [] t1 _ G _ J hb) ?_ fun _ _ y => y
  intro fl t2 hs
  have done : ∀ (σ : L2.St) (G' : Hp) (v : V) (u : Value), Inv (cxOf CX0 P w K mg base N q (defScope st) g cv A fr t G E) [] σ G' t2 → RelV v u → Q v G' → CE fr P w G t Q u t2 := by
    intro σ G' v u I r hq
    exact ⟨v, G', I.os, I.bare, I.base, I.hok, r, hq⟩
  match fl, hs with
  | .ret u, ⟨v, σ, G', I, r, hq⟩ => exact done σ G' v u I r hq
  | .next, ⟨σ, G', I, hq⟩ => exact done σ G' V.non Value.none I rfl hq
  | .brk, ⟨_, _, _, hq⟩ => exact hq.elim
  | .cont, ⟨_, _, _, hq⟩ => exact hq.elim
end

def CalG (P : Program) (w : World) (K : PySem.W.Frag) (mg : Str → Option Value) (base : Heap) (x : Str) (k : Nat) (ps : List Str) (dvs : List V) (sp : Sp) : Prop :=
  ∃ f fd ds, FnG P w K mg base k f fd ps sp ∧ mg x = some (.ref f) ∧ PySem.W.keepIn K (.ref f) = true ∧ Binds K fd ps ds ∧ Vals dvs ds
section
variable {X : Cx} {n : Nat} {g : Addr} {gd : FuncData} {ps : List Str} {sp : Sp} {dvs : List V} {ds : List Value} {E : XK} {x : Str} {p pos : Pos} {e : Expr} {es : List Expr} {t : TA}
theorem runG {pins : List (Addr × Obj)} {σ : L2.St} {H : Hp} {s : Shared} {Q : VK} {us : List Value} {vs : List V} (gu : X.A.guards = some []) (F : FnG X.prog X.w X.K X.mg X.base n g gd ps sp) (rm : Room n X.A) (bi : Binds X.K gd ps ds) (dv : Vals dvs ds)
    (ps0 : Passes CX0 X E) (I : Inv X pins σ H s) (rv : Vals vs us) (want : sp (vs ++ dvs) H Q E) : wpAny (model X.prog X.w) X.A (call (.ref g) us) (EP X pins σ Q) X.xe s := by
  have all := rv.append dv
  have many : (us ++ ds).length = ps.length := all.length.symm.trans (F.len _ _ _ _ want)
  have ran := F.run X.A X.stack s H ⟨us, []⟩ (us ++ ds) (vs ++ dvs) Q E gu rm I.env0 (bi s us I.kIn many) all want
  refine wpAny_call (codeAny_mono ran ?_)
  intro r s2 hq
  match r, hq with
  | .error _, hq => exact ps0 pins σ H s _ s2 I hq
  | .ok (.ret _), hq => exact I.after hq
  | .ok .next, hq => exact hq.elim
  | .ok .brk, hq => exact hq.elim
  | .ok .cont, hq => exact hq.elim
theorem pe_callG (gu : X.A.guards = some []) (F : FnG X.prog X.w X.K X.mg X.base n g gd ps sp) (rm : Room n X.A) (hg : Gl X x) (hm : X.mg x = some (.ref g)) (hk : PySem.W.keepIn X.K (.ref g) = true) (bi : Binds X.K gd ps ds) (dv : Vals dvs ds) (ps0 : Passes CX0 X E)
    (ha : PA X (e :: es) t) (hdb : (x == ("__debug__" : Str)) = false := by decide) (st : starEach (e :: es) X.env = (false, eval e X.env) :: starEach es X.env := by rfl) (pl : (backTo pos (starEach es X.env)).any (·.1) = false := by rfl) :
    PE X (.Call (.Name x p) (e :: es) [] pos) (tCall sp dvs E t) := by
  constructor
  intro pins s σ H Q I want
  apply wpAny_Call_Name_kw
  refine ld_glob I hg hm ?_ hdb
  refine PySem.W.callWith_K (h₀ := X.base) I.ok.mod.kin hk ?_ st pl
  exact thn (ha.run pos pins s σ H _ I want) fun us s1 ⟨vs, H1, I1, r, q⟩ => ⟨I1.kIn, runG gu F rm bi dv ps0 I1 r q⟩
/-- repr(x) of data -/
def rRepr (K : PySem.W.Frag) : List V → Hp → VK → Prop := fun xs H Q => ∃ (x : V) (d : PyData), xs = [x] ∧ Dp K H x d ∧ SeqAt.shaped d = true ∧ d.showable = true ∧ d.shown.length ≤ sizeLine ∧ Q (.str d.shown) H
theorem cr_repr (gu : X.A.guards = some []) (hu : X.A.units + 66 < cLine) : CallR X (.builtin "repr") (rRepr X.K) := by
  intro pins s σ H xs us Q I rv want
  obtain ⟨x, d, rfl, dp, sh, so, sz, q⟩ := want
  cases rv with
  | cons r1 r2 =>
    cases r2
    rename_i u
    obtain ⟨as, rd⟩ := Dp.reads I d x u dp r1
    have lay := SeqAt.canLay_of_shaped sh
    have dep : d.depth ≤ 64 := by
      have z : (d.canLay0 && decide (d.depth ≤ 64)) = true := sh
      rw [Bool.and_eq_true] at z
      exact of_decide_eq_true z.2
    have nd := PyData.hasDict_of_canLay d lay
    cases rd with
    | none => exact PySem.P.repr_of_none ⟨.str _, H, I.tok _, ⟨_, rfl⟩, q⟩
    | bool b => exact PySem.P.repr_of_bool ⟨.str _, H, I.tok _, ⟨_, rfl⟩, q⟩
    | int i t => exact PySem.P.repr_of_int (of_decide_eq_true so) ⟨.str _, H, I.tok _, ⟨_, rfl⟩, q⟩
    | str y t => exact PySem.P.repr_of_str ⟨.str _, H, I.tok _, ⟨_, rfl⟩, q⟩ sz
    | list h1 h2 h3 h4 => exact repr_of_reads' (.list h1 h2 h3 h4) so (fun z => by rw [nd] at z; cases z) gu (by omega) (fun _ _ e => e) (fun h2 u2 tk keep => ⟨.str _, H, I.kept keep, ⟨_, rfl⟩, q⟩) sz
    | tuple h1 h2 h3 h4 => exact repr_of_reads' (.tuple h1 h2 h3 h4) so (fun z => by rw [nd] at z; cases z) gu (by omega) (fun _ _ e => e) (fun h2 u2 tk keep => ⟨.str _, H, I.kept keep, ⟨_, rfl⟩, q⟩) sz
    | dict h1 h2 h3 h4 h5 => exact absurd lay (by simp [PyData.canLay0])

theorem cr_reprK (K : PySem.W.Frag) (hK : X.K = K) (gu : X.A.guards = some []) (hu : X.A.units + 66 < cLine) : CallR X (.builtin "repr") (rRepr K) := by
  subst hK
  exact cr_repr gu hu
theorem cr_reprB : CallR X (.builtin "repr") (fun xs H Q => ∃ b : Bool, xs = [.bl b] ∧ Q (.str (if b then "True" else "False")) H) := by
  intro pins s σ H xs us Q I rv want
  obtain ⟨b, rfl, q⟩ := want
  cases rv with
  | cons r1 r2 =>
    cases r2
    cases r1
    exact PySem.P.repr_of_bool ⟨.str _, H, I.tok _, ⟨_, rfl⟩, q⟩
end
theorem un66 {k : Nat} {A : Around} (hr : Room k A) : A.units + 66 < cLine := by
  have z := hr.un
  omega
/-- the heart of the end: from a heap that tracks nothing, or the script alone -/
theorem heart {P : Program} {w : World} {K : PySem.W.Frag} {mg mb : Str → Option Value} {n : Nat} {fa a : Addr} {fd : FuncData} {x : Str} {sp : Sp} {t : Shared} {us : List Value} {H : Hp}
    (held : K.In t.heap) (gl : t.heap.Ns mainGlobals mg) (bl : t.heap.Ns builtinsNs mb) (bb : ∀ y : Str, y ≠ "__name__" → mb y = bootBuiltins y) (lim : t.heap.NoLimit) (gens : t.gens = #[])
    (here : t.heap.get? a = some { cls := .type "list", data := .seq us.toArray }) (rm : Room n callerA)
    (F : ∀ base : Heap, K.In base → base.Ns mainGlobals mg → FnG P w K mg base n fa fd [x] sp) (bind : ∀ (s : Shared) (u : Value), BindsTo s fd ⟨[u], []⟩ [(x, u)])
    (want : sp [.ref a] H (fun v _ => v = .bl true) fun _ _ _ => False) (only : Only H) (ok : HOk P w H t.heap) (alone : ∀ b, H b ≠ none → b = a) (out : H a ≠ none → K.lookup a = none) :
    codeAny (model P w) callerA (.call (.ref fa) ⟨[.ref a], []⟩) (fun r t2 => r = .ok (.ret (.bool true)) ∧ OldK t.heap t2.heap ∧ t2.os = t.os ∧ AllBare t2.gens) t := by
  have keep : ∀ {b : Addr} {o : Obj}, t.heap.get? b = some o → H b = none → (hidT t.heap H).get? b = some o := fun e z => hidT_get e z
  have nodict : ∀ {b : Addr} {o : Obj} {es : Array DictEntry} {ep : Nat}, t.heap.get? b = some o → o.data = .dict es ep → H b = none := by
    intro b o es ep e d
    rcases only b with z | ⟨ob, ys, z⟩
    · exact z
    · have eb := alone b (by rw [z]; exact fun y => nomatch y)
      rw [eb, here] at e
      cases e
      cases d
  have ns : ∀ {b : Addr} {m : Str → Option Value}, t.heap.Ns b m → (hidT t.heap H).Ns b m := by
    rintro b m ⟨o, es, ep, e, d, r⟩
    exact ⟨o, es, ep, keep e (nodict e d), d, r⟩
  have heldB : K.In (hidT t.heap H) := by
    intro b o e
    refine keep (held b o e) ?_
    rcases only b with z | ⟨ob, ys, z⟩
    · exact z
    · have eb := alone b (by rw [z]; exact fun y => nomatch y)
      rw [eb] at z e
      rw [out (by rw [z]; exact fun y => nomatch y)] at e
      cases e
  have mod : Mod K mg (hidT t.heap H) := by
    obtain ⟨mc, l1, l2⟩ := lim
    exact ⟨heldB, ns gl, ⟨mb, ns bl, bb⟩, ⟨mc, ns l1, l2⟩⟩
  have env : Env0 P w K mg (hidT t.heap H) callerA [] t H := by
    refine ⟨rfl, mod, fun b o e => of_hidT e, Nat.le_of_eq (hidT_size _ _), trivial, ?_, ok, AllBare.of_eq gens⟩
    intro b z
    cases z
  have ran := (F _ heldB (ns gl)).run callerA [] t H ⟨[.ref a], []⟩ [.ref a] [.ref a] _ _ rfl rm env (bind t (.ref a)) (.cons rfl .nil) want
  refine codeAny_mono ran ?_
  intro r t2 hr
  match r, hr with
  | .error _, z => exact z.elim
  | .ok .next, z => exact z.elim
  | .ok .brk, z => exact z.elim
  | .ok .cont, z => exact z.elim
  | .ok (.ret u), z =>
    obtain ⟨v, H2, os, bare, un, ok2, rv, q⟩ := z
    have ev : v = .bl true := q
    subst ev
    have eu : u = Value.bool true := rv
    subst eu
    refine ⟨rfl, OldK.of_keep ?_, os, bare⟩
    intro b o e
    rcases only b with z | ⟨ob, ys, z⟩
    · exact un.keep b o e z (fun y => nomatch y) (fun y => nomatch y)
    · have z2 := un.frzs b ob _ z
      have e1 := (ok b _ z).1
      rw [e] at e1
      cases e1
      exact (ok2 b _ z2).1
theorem walkG {l : PySem.W.OpenLaw} {n k : Nat} {q : Program} {loose : List Str} {XP : (Str → Option Value) → Heap → Prop} {YP : World → Heap → Prop} {d : DefRec} {K : Params → PySem.W.Frag} {sp : World → Sp} {x : Str}
    (most : l.most = some n) (small : n ≤ sizeLine) (nod : d.params.defaults = []) (rm : Room k callerA)
    (hY : ∀ (w : World) (h : Heap), YP w h → (K w.params).In h)
    (F : ∀ (w : World) (mg : Str → Option Value) (fa : Addr) (h : Heap), (K w.params).In h → h.Ns mainGlobals mg → mg d.name = some (.ref fa) →
      ∃ fd : FuncData, (∀ (s : Shared) (u : Value), BindsTo s fd ⟨[u], []⟩ [(x, u)]) ∧ ∀ base : Heap, (K w.params).In base → base.Ns mainGlobals mg → FnG l.prog w (K w.params) mg base k fa fd [x] (sp w))
    (want : ∀ (w : World) (H : Hp) (a : Addr) (ns : List Int), ns.length ≤ n → Only H → SqL (K w.params) H a (ns.map V.int) → sp w [.ref a] H (fun v _ => v = .bl true) fun _ _ _ => False) :
    PySem.W.WalkO q loose XP YP l.row.toRowW d [] (fun f vs => PySem.call f vs) := by
  refine Att.attach_call most nod fun w s₀ t mg mb fa o pm cd doc a us ns G Y _ _ _ hmg obj hints len gens => ?_
  have held := hY w _ Y
  obtain ⟨fd, bind, ran⟩ := F w mg fa _ held G.T.g hmg
  have rv := vals_ints hints
  have lv := hints.length
  have ls : ns.length ≤ sizeLine := Nat.le_trans len small
  cases e : K w.params |>.lookup a with
  | some ob =>
    have e2 := held a ob e
    rw [obj] at e2
    cases e2
    have empty : ∀ b : Addr, (fun _ => none : Hp) b = none := fun _ => rfl
    have sq : SqL (K w.params) (fun _ => none : Hp) a (ns.map V.int) := .inr ⟨_, us.toArray, _, e, rfl, rfl, rfl, by rw [List.size_toArray, lv]; exact ls, by simpa using rv⟩
    exact heart held G.T.g G.T.b G.T.builtins G.T.nolimit gens obj rm ran bind (want w _ a ns len (fun b => .inl (empty b)) sq) (fun b => .inl (empty b)) (fun b u z => by have y := (empty b).symm.trans z; cases y) (fun b z => (z (empty b)).elim) (fun z => (z (empty a)).elim)
  | none =>
    obtain ⟨H, hH⟩ : ∃ H : Hp, H = fun b => if b = a then some (.frz { cls := .type "list", data := .seq us.toArray } (.lst (ns.map V.int))) else none := ⟨_, rfl⟩
    have at_ : H a = some (.frz { cls := .type "list", data := .seq us.toArray } (.lst (ns.map V.int))) := by rw [hH]; exact if_pos rfl
    have off : ∀ b, b ≠ a → H b = none := fun b z => by rw [hH]; exact if_neg z
    have only : Only H := fun b => by
      by_cases z : b = a
      · rw [z]; exact .inr ⟨_, _, at_⟩
      · exact .inl (off b z)
    refine heart held G.T.g G.T.b G.T.builtins G.T.nolimit gens obj rm ran bind (want w H a ns len only (.inl (.inr ⟨_, at_⟩))) only ?_ (fun b z => Classical.byContradiction fun y => z (off b y)) fun _ => e
    intro b u z
    by_cases y : b = a
    · subst y
      rw [at_] at z
      cases z
      exact ⟨obj, by rw [List.length_map]; exact ls, us, _, rv, obj⟩
    · rw [off b y] at z
      cases z
end Gd
/-! what is shown: data of any shape, and a comprehension over pairs whose items are new data -/
namespace Fw
open PySem PySem.Spec PyProof.Rows L2
theorem dpAll_of {α : Type} {K : PySem.W.Frag} {H : Hp} {r : R α} {f : α → PyData} (h : ∀ v x, r H v x → Dp K H v (f x)) : ∀ {ts : List V} {xs : List α}, Paired (r H) ts xs → DpAll K H ts (xs.map f)
  | _, _, .nil => .nil
  | _, _, .cons a b => .cons (h _ _ a) (dpAll_of h b)
theorem dpI {K : PySem.W.Frag} {H : Hp} (v : V) (i : Int) (h : rI H v i) : Dp K H v (.int i) := by
  have e : v = .int i := h
  rw [e]
  exact .int i
theorem dpS {K : PySem.W.Frag} {H : Hp} (v : V) (x : Str) (h : rS H v x) : Dp K H v (.str x) := by
  have e : v = .str x := h
  rw [e]
  exact .str x
theorem dpB {K : PySem.W.Frag} {H : Hp} (v : V) (x : Bool) (h : rB H v x) : Dp K H v (.bool x) := by
  have e : v = .bl x := h
  rw [e]
  exact .bl x
theorem dpT {α : Type} {K : PySem.W.Frag} {H : Hp} {r : R α} {f : α → PyData} (h : ∀ v x, r H v x → Dp K H v (f x)) (v : V) (xs : List α) (d : rT K r H v xs) : Dp K H v (.tuple (xs.map f)) := by
  obtain ⟨a, ts, rfl, h1, h2⟩ := d
  exact .tup h1 (dpAll_of h h2)
theorem dpL {α : Type} {K : PySem.W.Frag} {H : Hp} {r : R α} {f : α → PyData} (h : ∀ v x, r H v x → Dp K H v (f x)) (v : V) (xs : List α) (d : rL K r H v xs) : Dp K H v (.list (xs.map f)) := by
  obtain ⟨a, ts, rfl, h1, h2⟩ := d
  exact .lst h1 (dpAll_of h h2)
/-- small enough to be shown -/
structure Small (n k : Nat) (d : PyData) : Prop where
  lay : d.canLay0 = true
  dep : d.depth ≤ n
  sho : d.showable = true
  lea : d.leavesShort 200 = true
  bul : d.bulk ≤ k
theorem Small.mono {n k n' k' : Nat} {d : PyData} (h : Small n k d) (h1 : n ≤ n') (h2 : k ≤ k') : Small n' k' d := ⟨h.lay, Nat.le_trans h.dep h1, h.sho, h.lea, Nat.le_trans h.bul h2⟩
theorem small_int {i : Int} (h : i.natAbs < 2 ^ 190) : Small 0 0 (.int i) := by
  have hl : i.natAbs.log2 < 190 := by
    by_cases z : i.natAbs = 0
    · rw [z]
      decide
    · exact (Nat.log2_lt z).mpr h
  refine ⟨by simp [PyData.canLay0], by simp [PyData.depth], ?_, ?_, by simp [PyData.bulk]⟩
  · simp only [PyData.showable, decide_eq_true_eq]
    exact Nat.lt_trans hl (by decide)
  · have e : (PyData.shown (.int i)).length = (toString i).length := PySem.ofString_length _
    have h2 := int_text_length_le (by decide) hl
    show decide ((PyData.shown (.int i)).length ≤ 200) = true
    exact decide_eq_true (by omega)
theorem small_bool (b : Bool) : Small 0 0 (.bool b) := ⟨by simp [PyData.canLay0], by simp [PyData.depth], by simp [PyData.showable], by simp [PyData.leavesShort], by simp [PyData.bulk]⟩
section
variable {α : Type} {f : α → PyData} {n k : Nat}
theorem small_all : ∀ {xs : List α}, (∀ x ∈ xs, Small n k (f x)) → PyData.canLayAll0 (xs.map f) = true ∧ PyData.depthAll (xs.map f) ≤ n ∧ PyData.showableAll (xs.map f) = true ∧ PyData.leavesShortAll 200 (xs.map f) = true ∧ PyData.bulkAll (xs.map f) ≤ xs.length * (k + 1)
  | [], _ => by simp [PyData.canLayAll0, PyData.depthAll, PyData.showableAll, PyData.leavesShortAll, PyData.bulkAll]
  | x :: xs, h => by
    obtain ⟨h1, h2, h3, h4, h5⟩ := small_all (xs := xs) fun y hy => h y (List.mem_cons_of_mem _ hy)
    have s := h x List.mem_cons_self
    have e : (xs.length + 1) * (k + 1) = xs.length * (k + 1) + (k + 1) := Nat.succ_mul ..
    have := s.bul
    have := s.dep
    simp only [List.map_cons, PyData.canLayAll0, PyData.depthAll, PyData.showableAll, PyData.leavesShortAll, PyData.bulkAll, List.length_cons, s.lay, s.sho, s.lea, h1, h3, h4, Bool.and_self, true_and]
    exact ⟨by omega, by omega⟩
theorem small_tup {xs : List α} (h : ∀ x ∈ xs, Small n k (f x)) : Small (n + 1) (xs.length * (k + 1)) (.tuple (xs.map f)) := by
  obtain ⟨h1, h2, h3, h4, h5⟩ := small_all h
  exact ⟨by simpa only [PyData.canLay0] using h1, by simp only [PyData.depth]; omega, by simpa only [PyData.showable] using h3, by simpa only [PyData.leavesShort] using h4, by simpa only [PyData.bulk] using h5⟩
theorem small_lst {xs : List α} (h : ∀ x ∈ xs, Small n k (f x)) : Small (n + 1) (xs.length * (k + 1)) (.list (xs.map f)) := by
  obtain ⟨h1, h2, h3, h4, h5⟩ := small_all h
  exact ⟨by simpa only [PyData.canLay0] using h1, by simp only [PyData.depth]; omega, by simpa only [PyData.showable] using h3, by simpa only [PyData.leavesShort] using h4, by simpa only [PyData.bulk] using h5⟩
end
theorem Small.parts {d : PyData} {n k : Nat} (s : Small n k d) (hn : n ≤ 64) (hk : k ≤ 80000) : SeqAt.shaped d = true ∧ d.showable = true ∧ d.shown.length ≤ sizeLine := by
  refine ⟨?_, s.sho, ?_⟩
  · show (d.canLay0 && decide (d.depth ≤ 64)) = true
    rw [Bool.and_eq_true]
    exact ⟨s.lay, decide_eq_true (Nat.le_trans s.dep hn)⟩
  · have h1 := PyData.shown_le_bulk 200 (by decide) d s.lea
    have h2 := s.bul
    have h3 : sizeLine = 16777216 := sizeLine_eq
    omega
section
variable {J : It} {Gd : Hp → Prop} {te : TE} {vs : List Nat} {σ : L2.St} {D : Addr} {Qd : Hp → Prop}
theorem lc_dataP {α : Type} {r : R α} [Mo r] {K : PySem.W.Frag} {j1 j2 : Nat} {us ws : Nat → Option V} {ys : List α} {L : List Addr} {G H0 : Hp} {Inv : Nat → Hp → Prop}
    (wk : Walk J ys.length Gd (YPair us ws)) (hG0 : Same G H0) (hG : ∀ H', Same G H' → Gd H') (hD : H0 D = none) (hDL : D ∉ L) (hn : ys.length ≤ 40000)
    (hw : ∀ x y, wipe (((wipe σ vs).set j1 (some x)).set j2 (some y)) vs = wipe σ vs) (i0 : Inv 0 H0) (iD : ∀ i H' o, Inv i H' → Inv i (upd H' D o)) (iT : ∀ i H' T o, H' T = none → Inv i H' → Inv i (upd H' T o))
    (turn : ∀ i a b y G' H', ys[i]? = some y → us i = some a → ws i = some b → Go L G H0 G' H' → Inv i H' → ∀ Q : VK, (∀ v G2 H2, Go L G' H' G2 H2 → Inv (i + 1) H2 → r G2 v y → Q v H2) → te (((wipe σ vs).set j1 (some a)).set j2 (some b)) H' Q)
    (done : ∀ ts G' H', Go L G H0 G' H' → Inv ys.length H' → H' D = some (.lst ts) → G' D = some (.lst ts) → Paired (r G') ts ys → Qd H') :
    ∃ W : Nat → Nat → Hp → Prop, (∃ m, W 0 m (upd H0 D (.lst []))) ∧ ∀ i m H, W i m H →
      (J.stop i H ∧ Qd H) ∨ (J.go i H ∧ ∃ Nx : Hp → Prop, (∀ H', Nx H' → ∃ m', m' < m ∧ W (i + 1) m' H') ∧ ∀ x H', J.yld i H x H' → gTup K 2 (gCons (gName j1) (gCons (gName j2) gNil)) x (wipe σ vs) H' fun σ2 H2 => wipe σ2 vs = wipe σ vs ∧ tYes σ2 H2 fun b H3 =>
        if b = true then te σ2 H3 fun y H4 => ∃ acc, H4 D = some (.lst acc) ∧ acc.length < sizeLine ∧ Nx (upd H4 D (.lst (acc ++ [y]))) else Nx H3) := by
  have gD : G D = none := hG0.free hD
  refine lc_it wk (fun i H' => ∃ G' ts, Go L G H0 G' H' ∧ Inv i H' ∧ G' D = none ∧ H' D = some (.lst ts) ∧ Paired (r G') ts (ys.take i)) ⟨G, [], (Go.refl hG0).tmp hD, iD 0 H0 _ i0, gD, upd_same, .nil⟩ (fun i H' _ ⟨G', ts, go, _⟩ => hG H' (go.g.trans go.h)) (fun i x H H' hi ⟨G', ts, go, iv, g', h', pr⟩ y => ?_) (fun H' ⟨G', ts, go, iv, g', h', pr⟩ => ?_)
  · obtain ⟨T, a, b, rfl, hT, rfl, h1, h2⟩ := y
    obtain ⟨y, hy⟩ : ∃ y, ys[i]? = some y := ⟨ys[i], List.getElem?_eq_getElem hi⟩
    have lts : ts.length = i := by rw [pLen pr, List.length_take]; omega
    have hTD : D ≠ T := fun z => by rw [← z, h'] at hT; cases hT
    have goT := go.tmp (o := .tup [a, b]) hT
    have hDT : upd H T (.tup [a, b]) D = some (.lst ts) := (upd_ne hTD).trans h'
    refine ⟨T, [a, b], rfl, .inl (.inl upd_same), rfl, a, [b], rfl, b, [], rfl, rfl, hw a b, ?_⟩
    refine turn i a b y G' _ hy h1 h2 goT (iT _ _ _ _ hT iv) _ fun v G2 H2 go2 iv2 hv => ?_
    have h3 := go2.in hDT hDL
    have g2 := go2.none hDT g'
    refine ⟨ts, h3, Nat.lt_of_le_of_lt (m := 40000) (by omega) (by decide), G2, ts ++ [v], (goT.trans go2).mut g2 (.inl hD), iD _ _ _ iv2, g2, upd_same, ?_⟩
    rw [take_snoc hy]
    exact pSnoc (L2.Paired.mapP pr fun _ _ z => Mo.up go2.g z) hv
  · rw [List.take_length] at pr
    have sm : Same G' (upd G' D (.lst ts)) := same_upd g'
    exact done ts _ _ (go.frz hD h' g') iv h' upd_same (L2.Paired.mapP pr fun _ _ z => Mo.up sm z)
end
end Fw
/-! what a comprehension's names leave, without a look at the slots -/
namespace Fw
open PySem PySem.Spec PyProof.Rows L2
theorem wipe_set {j : Nat} {x : Option V} : ∀ {vs : List Nat} {σ : L2.St}, j ∈ vs → wipe (σ.set j x) vs = wipe σ vs
  | v :: vs, σ, h => by
    show (wipe (σ.set j x) vs).set v none = (wipe σ vs).set v none
    by_cases e : j ∈ vs
    · rw [wipe_set e]
    · have e2 : j = v := (List.mem_cons.mp h).resolve_right e
      subst e2
      have key : ∀ ws : List Nat, j ∉ ws → wipe (σ.set j x) ws = (wipe σ ws).set j x := by
        intro ws
        induction ws with
        | nil => intro _; rfl
        | cons w ws ih =>
          intro hw
          have h1 : j ≠ w := fun z => hw (by simp [z])
          have h2 : j ∉ ws := fun z => hw (by simp [z])
          show (wipe (σ.set j x) ws).set w none = ((wipe σ ws).set w none).set j x
          rw [ih h2, List.set_comm _ _ h1]
      rw [key vs e, List.set_set]
theorem wipe_wipe : ∀ {vs : List Nat} {σ : L2.St}, wipe (wipe σ vs) vs = wipe σ vs := by
  have key : ∀ (us vs : List Nat) (σ : L2.St), (∀ u ∈ us, u ∈ vs) → wipe (wipe σ us) vs = wipe σ vs := by
    intro us
    induction us with
    | nil => intro vs σ _; rfl
    | cons u us ih =>
      intro vs σ h
      show wipe ((wipe σ us).set u none) vs = _
      rw [wipe_set (h u (by simp)), ih vs σ fun w hw => h w (by simp [hw])]
  exact fun {vs σ} => key vs vs σ fun _ h => h
theorem wipe1 {vs : List Nat} {σ : L2.St} {j : Nat} {x : Option V} (h : j ∈ vs) : wipe ((wipe σ vs).set j x) vs = wipe σ vs := by
  rw [wipe_set h, wipe_wipe]
theorem wipe2 {vs : List Nat} {σ : L2.St} {j k : Nat} {x y : Option V} (h : j ∈ vs) (h2 : k ∈ vs) : wipe (((wipe σ vs).set j x).set k y) vs = wipe σ vs := by
  rw [wipe_set h2, wipe_set h, wipe_wipe]
theorem wipe3 {vs : List Nat} {σ : L2.St} {j k l : Nat} {x y z : Option V} (h : j ∈ vs) (h2 : k ∈ vs) (h3 : l ∈ vs) : wipe ((((wipe σ vs).set j x).set k y).set l z) vs = wipe σ vs := by
  rw [wipe_set h3, wipe_set h2, wipe_set h, wipe_wipe]
theorem start_one {N : List Str} {a : V} : L2.start N [a] = some a :: List.replicate (N.length - 1) none := rfl
theorem start_two {N : List Str} {a b : V} : L2.start N [a, b] = some a :: some b :: List.replicate (N.length - 2) none := rfl
theorem start_three {N : List Str} {a b c : V} : L2.start N [a, b, c] = some a :: some b :: some c :: List.replicate (N.length - 3) none := rfl
theorem start_four {N : List Str} {a b c d : V} : L2.start N [a, b, c, d] = some a :: some b :: some c :: some d :: List.replicate (N.length - 4) none := rfl
theorem start_five {N : List Str} {a b c d e : V} : L2.start N [a, b, c, d, e] = some a :: some b :: some c :: some d :: some e :: List.replicate (N.length - 5) none := rfl
end Fw
/-! loads added, layers laid on them (k08); what is shown of them -/
namespace Tc
open PySem PySem.Spec PyProof.Rows L2 Fw Mw TL
def addL : List Int → List Int → List Int
  | a :: as, b :: bs => (a + b) :: addL as bs
  | _, _ => []
theorem addL_len : ∀ {a b : List Int}, a.length = b.length → (addL a b).length = b.length
  | [], [], _ => rfl
  | a :: as, b :: bs, h => by
    show (addL as bs).length + 1 = bs.length + 1
    rw [addL_len (by simpa using h)]
  | [], _ :: _, h => by simp at h
  | _ :: _, [], h => by simp at h
theorem val_add : ∀ {ks : List Str} {a b : List Int} (z : Str), a.length = ks.length → b.length = ks.length → val ks (addL a b) z = val ks a z + val ks b z
  | [], [], [], z, _, _ => rfl
  | k :: ks, a :: as, b :: bs, z, h1, h2 => by
    show (if k = z then a + b else val ks (addL as bs) z) = (if k = z then a else val ks as z) + (if k = z then b else val ks bs z)
    by_cases e : k = z
    · rw [if_pos e, if_pos e, if_pos e]
    · rw [if_neg e, if_neg e, if_neg e]
      exact val_add z (by simpa using h1) (by simpa using h2)
  | [], _ :: _, _, _, h, _ => by simp at h
  | [], [], _ :: _, _, _, h => by simp at h
  | _ :: _, [], _, _, h, _ => by simp at h
  | _ :: _, _ :: _, [], _, _, h => by simp at h
/-- the junctions' numbers of a sum, side by side -/
theorem nums_add {own : Rows} {a b : List Int} {l : List Int} (h1 : a.length = (roadsOf own).length) (h2 : b.length = (roadsOf own).length) (g : Mw.Good own) (h : l ∈ nums own (addL a b)) :
    ∃ x y z x' y' z' : Int, [x, y, z] ∈ nums own a ∧ [x', y', z'] ∈ nums own b ∧ l = [x + x', y + y', z + z'] := by
  obtain ⟨r, hr, rfl⟩ := nums_of_mem h
  have l3 := (g.rows r hr).len
  match r, l3, hr with
  | [p, q, s], _, hr =>
    refine ⟨_, _, _, _, _, _, List.mem_map.mpr ⟨_, hr, rfl⟩, List.mem_map.mpr ⟨_, hr, rfl⟩, ?_⟩
    simp only [List.map_cons, List.map_nil]
    rw [val_add _ h1 h2, val_add _ h1 h2, val_add _ h1 h2]
theorem sum3 (x y z : Int) : [x, y, z].sum = x + y + z := by simp [Int.add_assoc]
theorem meet3 {x y z : Int} : Meet [x, y, z] ↔ (0 ≤ x ∧ 0 ≤ y ∧ 0 ≤ z) ∧ (x + y + z) % 2 = 0 ∧ 2 * x ≤ x + y + z ∧ 2 * y ≤ x + y + z ∧ 2 * z ≤ x + y + z := by
  unfold Meet
  rw [sum3]
  simp
theorem fit_add {own : Rows} {a b : List Int} {m n : Int} (g : Mw.Good own) (ha : FitIn own m a) (hb : FitIn own n b) : FitIn own (m + n) (addL a b) := by
  have e1 := ha.1.len
  have e2 := hb.1.len
  refine ⟨⟨by rw [addL_len (by omega)]; exact e2, fun l hl => ?_⟩, fun l hl => ?_⟩
  · obtain ⟨x, y, z, x', y', z', h1, h2, rfl⟩ := nums_add e1 e2 g hl
    have m1 := meet3.mp (ha.1.meets _ h1)
    have m2 := meet3.mp (hb.1.meets _ h2)
    exact meet3.mpr (by omega)
  · obtain ⟨x, y, z, x', y', z', h1, h2, rfl⟩ := nums_add e1 e2 g hl
    have s1 := ha.2 _ h1
    have s2 := hb.2 _ h2
    rw [sum3] at s1 s2 ⊢
    omega
theorem least_eq {own : Rows} {ld : List Int} {m n : Int} (h1 : Least own ld m) (h2 : Least own ld n) : m = n := by
  obtain ⟨⟨l, hl, rfl⟩, u⟩ := h1
  obtain ⟨⟨l', hl', rfl⟩, u'⟩ := h2
  have := u _ hl'
  have := u' _ hl
  omega
theorem least_in {own : Rows} {ld : List Int} {m room : Int} (h : Least own ld m) (f : FitIn own room ld) : 0 ≤ m ∧ m ≤ room ∧ FitIn own m ld := by
  obtain ⟨⟨l, hl, rfl⟩, u⟩ := h
  have nn : ∀ l ∈ nums own ld, 0 ≤ l.sum := fun l hl => by
    have := (f.1.meets l hl).1
    clear u hl
    induction l with
    | nil => simp
    | cons x l ih =>
      rw [List.sum_cons]
      have h1 := this x (by simp)
      have h2 := ih (fun n hn => this n (by simp [hn]))
      omega
  have := f.2 l hl
  have := nn l hl
  refine ⟨by omega, by omega, f.1, fun l' hl' => ?_⟩
  have h1 := u l' hl'
  have h2 := (f.1.meets l' hl').2.1
  omega
theorem least_add {own : Rows} {a b : List Int} {m n k p q : Int} (g : Mw.Good own) (ha : FitIn own p a) (hb : FitIn own q b) (h1 : Least own a m) (h2 : Least own b n) (h3 : Least own (addL a b) k) : k ≤ m + n := by
  obtain ⟨⟨l, hl, rfl⟩, _⟩ := h3
  obtain ⟨x, y, z, x', y', z', i1, i2, rfl⟩ := nums_add ha.1.len hb.1.len g hl
  have u1 := h1.2 _ i1
  have u2 := h2.2 _ i2
  have m1 := meet3.mp (ha.1.meets _ i1)
  have m2 := meet3.mp (hb.1.meets _ i2)
  rw [sum3] at u1 u2 ⊢
  omega
theorem least_scale {own : Rows} {ld : List Int} {m t room : Int} (h0 : 0 ≤ t) (f : FitIn own room ld) (h : Least own ld m) : Least own (ld.map fun n => t * n) (t * m) := by
  have key : ∀ l ∈ nums own (ld.map fun n => t * n), ∃ l2 ∈ nums own ld, l = l2.map fun n => t * n := fun l hl => by
    obtain ⟨r, hr, rfl⟩ := nums_of_mem hl
    refine ⟨_, List.mem_map.mpr ⟨r, hr, rfl⟩, ?_⟩
    rw [List.map_map]
    exact List.map_congr_left fun z _ => val_scale t _ _ z
  have half : ∀ l ∈ nums own ld, (l.map fun n => t * n).sum / 2 = t * (l.sum / 2) := fun l hl => by
    have e := (f.1.meets l hl).2.1
    rw [sum_scale]
    obtain ⟨u, hu⟩ : ∃ u, l.sum = 2 * u := ⟨l.sum / 2, by omega⟩
    rw [hu, Int.mul_left_comm, Int.mul_ediv_cancel_left _ (by decide), Int.mul_ediv_cancel_left _ (by decide)]
  obtain ⟨⟨l, hl, rfl⟩, u⟩ := h
  refine ⟨?_, fun l' hl' => ?_⟩
  · obtain ⟨r, hr, rfl⟩ := nums_of_mem hl
    refine ⟨_, List.mem_map.mpr ⟨r, hr, rfl⟩, ?_⟩
    rw [← half _ hl, List.map_map]
    congr 2
    exact List.map_congr_left fun z _ => val_scale t _ _ z
  · obtain ⟨l2, h2, rfl⟩ := key l' hl'
    rw [half _ h2]
    exact Int.mul_le_mul_of_nonneg_left (u _ h2) h0
theorem cars_add {x y z x' y' z' : Int} (h1 : Meet [x, y, z]) (h2 : Meet [x', y', z']) : cars [x + x', y + y', z + z'] = addL (cars [x, y, z]) (cars [x', y', z']) := by
  have m1 := meet3.mp h1
  have m2 := meet3.mp h2
  simp only [cars, addL]
  have a1 : (x + x' + (y + y') - (z + z')) / 2 = (x + y - z) / 2 + (x' + y' - z') / 2 := by omega
  have a2 : (y + y' + (z + z') - (x + x')) / 2 = (y + z - x) / 2 + (y' + z' - x') / 2 := by omega
  have a3 : (z + z' + (x + x') - (y + y')) / 2 = (z + x - y) / 2 + (z' + x' - y') / 2 := by omega
  rw [a1, a2, a3]
/-- cars that pass add up -/
theorem cars_nums {own : Rows} {a b : List Int} {m n : Int} (g : Mw.Good own) (ha : FitIn own m a) (hb : FitIn own n b) :
    ∀ i : Nat, i < own.length → ∃ ca cb, ((nums own a).map cars)[i]? = some ca ∧ ((nums own b).map cars)[i]? = some cb ∧ ((nums own (addL a b)).map cars)[i]? = some (addL ca cb) ∧ ca.length = 3 ∧ cb.length = 3 := by
  intro i hi
  have hr : own[i]? = some own[i] := List.getElem?_eq_getElem hi
  have hm := List.mem_of_getElem? hr
  have l3 := (g.rows _ hm).len
  match er : own[i], l3 with
  | [p, q, s], _ =>
    rw [er] at hr hm
    have n1 : (nums own a)[i]? = some [val (roadsOf own) a p, val (roadsOf own) a q, val (roadsOf own) a s] := by unfold nums; rw [List.getElem?_map, hr]; rfl
    have n2 : (nums own b)[i]? = some [val (roadsOf own) b p, val (roadsOf own) b q, val (roadsOf own) b s] := by unfold nums; rw [List.getElem?_map, hr]; rfl
    have n3 : (nums own (addL a b))[i]? = some [val (roadsOf own) a p + val (roadsOf own) b p, val (roadsOf own) a q + val (roadsOf own) b q, val (roadsOf own) a s + val (roadsOf own) b s] := by
      unfold nums; rw [List.getElem?_map, hr]
      simp only [Option.map_some, List.map_cons, List.map_nil]
      rw [val_add _ ha.1.len hb.1.len, val_add _ ha.1.len hb.1.len, val_add _ ha.1.len hb.1.len]
    refine ⟨_, _, by rw [List.getElem?_map, n1]; rfl, by rw [List.getElem?_map, n2]; rfl, ?_, rfl, rfl⟩
    rw [List.getElem?_map, n3]
    show some (cars _) = _
    rw [cars_add (ha.1.meets _ (List.mem_of_getElem? n1)) (hb.1.meets _ (List.mem_of_getElem? n2))]
/-! ### layers -/
def laid (own : Rows) (ld : List Int) (ws : List Str) : List Int := (roadsOf own).map fun z => val (roadsOf own) ld z + if z ∈ ws then 1 else 0
theorem laid_nums {own : Rows} {ld : List Int} {ws : List Str} {l : List Int} (g : Mw.Good own) (lot : Lot own ws) (h : l ∈ nums own (laid own ld ws)) :
    ∃ x y z d e f : Int, [x, y, z] ∈ nums own ld ∧ l = [x + d, y + e, z + f] ∧ ((d = 0 ∧ e = 0 ∧ f = 0) ∨ (d = 1 ∧ e = 1 ∧ f = 0) ∨ (d = 1 ∧ e = 0 ∧ f = 1) ∨ (d = 0 ∧ e = 1 ∧ f = 1)) := by
  obtain ⟨r, hr, rfl⟩ := nums_of_mem h
  have l3 := (g.rows r hr).len
  have hl := lot r hr
  match r, l3, hr, hl with
  | [p, q, s], _, hr, hl =>
    have m : ∀ w ∈ [p, q, s], w ∈ roadsOf own := fun w hw => mem_roads.mpr (List.mem_flatten.mpr ⟨_, hr, hw⟩)
    refine ⟨_, _, _, if p ∈ ws then 1 else 0, if q ∈ ws then 1 else 0, if s ∈ ws then 1 else 0, List.mem_map.mpr ⟨_, hr, rfl⟩, ?_, ?_⟩
    · unfold laid
      simp only [List.map_cons, List.map_nil]
      rw [val_map (m p (by simp)), val_map (m q (by simp)), val_map (m s (by simp))]
    · by_cases c1 : p ∈ ws <;> by_cases c2 : q ∈ ws <;> by_cases c3 : s ∈ ws <;> simp [c1, c2, c3] at hl ⊢
theorem fit_laid {own : Rows} {ld : List Int} {ws : List Str} {room : Int} (g : Mw.Good own) (lot : Lot own ws) (f : FitIn own room ld) : FitIn own (room + 1) (laid own ld ws) := by
  refine ⟨⟨List.length_map _, fun l hl => ?_⟩, fun l hl => ?_⟩
  · obtain ⟨x, y, z, d, e, k, h1, rfl, h2⟩ := laid_nums g lot hl
    have m1 := meet3.mp (f.1.meets _ h1)
    exact meet3.mpr (by omega)
  · obtain ⟨x, y, z, d, e, k, h1, rfl, h2⟩ := laid_nums g lot hl
    have s1 := f.2 _ h1
    rw [sum3] at s1 ⊢
    omega
theorem laid_up {own : Rows} {ld : List Int} {ws : List Str} {l : List Int} (g : Mw.Good own) (lot : Lot own ws) (h : l ∈ nums own ld) : ∃ l2 ∈ nums own (laid own ld ws), l.sum ≤ l2.sum := by
  obtain ⟨r, hr, rfl⟩ := nums_of_mem h
  have l3 := (g.rows r hr).len
  refine ⟨_, List.mem_map.mpr ⟨r, hr, rfl⟩, ?_⟩
  match r, l3, hr with
  | [p, q, s], _, hr =>
    have m : ∀ w ∈ [p, q, s], w ∈ roadsOf own := fun w hw => mem_roads.mpr (List.mem_flatten.mpr ⟨_, hr, hw⟩)
    unfold laid
    simp only [List.map_cons, List.map_nil]
    rw [val_map (m p (by simp)), val_map (m q (by simp)), val_map (m s (by simp)), sum3, sum3]
    split <;> split <;> split <;> omega
theorem least_laid {own : Rows} {ld : List Int} {ws : List Str} {m k room : Int} (g : Mw.Good own) (lot : Lot own ws) (f : FitIn own room ld) (h1 : Least own ld m) (h2 : Least own (laid own ld ws) k) : m ≤ k ∧ k ≤ m + 1 := by
  have f1 := fit_laid g lot (least_in h1 f).2.2
  refine ⟨?_, (least_in h2 f1).2.1⟩
  obtain ⟨⟨l, hl, rfl⟩, _⟩ := h1
  obtain ⟨l2, hl2, h3⟩ := laid_up g lot hl
  have := h2.2 l2 hl2
  omega
theorem cars_le {x y z R : Int} (m : Meet [x, y, z]) (h : [x, y, z].sum ≤ 2 * R) : ∀ c ∈ cars [x, y, z], 0 ≤ c ∧ c ≤ R := by
  have m := meet3.mp m
  rw [sum3] at h
  intro c hc
  simp only [cars, List.mem_cons, List.not_mem_nil, or_false] at hc
  omega
theorem cars_small {own : Rows} {ld : List Int} {R : Int} (g : Mw.Good own) (f : FitIn own R ld) (hR : R ≤ 1000000000000) : ∀ l ∈ (nums own ld).map cars, Small 1 3 (.tuple (l.map .int)) := fun l hl => by
  obtain ⟨l2, h2, rfl⟩ := List.mem_map.mp hl
  have l3 := nums_three g ld l2 h2
  match l2, l3, h2 with
  | [x, y, z], _, h2 =>
    have b := cars_le (f.1.meets _ h2) (f.2 _ h2)
    exact (small_tup (n := 0) (k := 0) fun c hc => small_int (by have := b c hc; omega)).mono (by decide) (show (3 : Nat) * (0 + 1) ≤ 3 by decide)
theorem addL_getD : ∀ {a b : List Int} (k : Nat), a.length = b.length → (addL a b).getD k 0 = a.getD k 0 + b.getD k 0
  | [], [], k, _ => by simp [addL]
  | a :: as, b :: bs, 0, _ => by simp [addL]
  | a :: as, b :: bs, k + 1, h => by
    have := addL_getD (a := as) (b := bs) k (by simpa using h)
    simpa [addL] using this
  | [], _ :: _, _, h => by simp at h
  | _ :: _, [], _, h => by simp at h
theorem given_add {a b : List Int} (h : a.length = b.length) : Evl.given b.length (fun _ => true) (fun k => V.int (a.getD k 0 + b.getD k 0)) = (addL a b).map V.int := by
  rw [← given_all (addL a b) 0 V.int, addL_len h]
  congr 1
  funext k
  rw [addL_getD k h]
theorem web_made {K : PySem.W.Frag} {CW p : Addr} {n : Nat} {G0 H G6 H6 : Hp} {own : Rows} {Q : Hp → Prop} {E : XK} {x dx : Addr} (go6 : Go [p] G0 H G6 H6) (P6 : Pot n p H6) (hpn : H p ≠ none) (good : Mw.Good own) (whole : Whole own)
    (hx6 : H6 x = none) (hdx : H6 dx = none) (nd : dx ≠ x)
    (k : ∀ G10 H10, Go [p] G0 H G10 H10 → Same G6 G10 → Pot n p H10 → rWeb K CW G10 (.ref x) own → Q H10) :
    sp_Web_init__ K CW [.ref x, .str (webText own)] (upd (upd H6 dx (.own x)) x (.ins CW dx [])) (fun v H2 => v = .non ∧ Q H2) E := by
  have go7 := (go6.tmp (o := .own x) hdx).tmp (p := x) (o := .ins CW dx []) ((upd_ne (Ne.symm nd)).trans hx6)
  have P7 : Pot n p (upd (upd H6 dx (.own x)) x (.ins CW dx [])) := (P6.up (same_upd (o := .own x) hdx)).up (same_upd (o := .ins CW dx []) ((upd_ne (Ne.symm nd)).trans hx6))
  have g6x : G6 x = none := go6.gnone hx6
  have h0x : H x = none := go6.fresh hx6
  refine ⟨_, _, rfl, G6, own, x, dx, go7.h, g6x, rfl, rfl, upd_same, good, whole, fun G8 H8 go8 hW => ⟨rfl, ?_⟩⟩
  obtain ⟨vt, vj, vr, vi, ve, g, hW, W⟩ := hW
  have go9 := go7.own go8 h0x
  have g8x : G8 x = none := go8.n x (by rw [upd_same]; exact fun z => nomatch z) g6x
  have P9 : Pot n p H8 := P7.go go8 (by rw [List.mem_singleton]; exact fun z => by rw [z, h0x] at hpn; exact hpn rfl)
  exact k _ _ (go9.frz h0x hW g8x) (go8.g.trans (same_upd g8x)) P9 ⟨x, dx, vt, vj, vr, vi, ve, g, rfl, upd_same, W.up (same_upd g8x)⟩
theorem laid_getD {own : Rows} {ld : List Int} {ws : List Str} (h : ld.length = (roadsOf own).length) {i : Nat} {z : Str} (hz : (roadsOf own)[i]? = some z) : (laid own ld ws)[i]? = some (ld.getD i 0 + if z ∈ ws then 1 else 0) := by
  have e := vals_tab (nodup_roads own) h
  have e2 : ((roadsOf own).map fun z => val (roadsOf own) ld z)[i]? = ld[i]? := by rw [e]
  rw [List.getElem?_map, hz] at e2
  unfold laid
  rw [List.getElem?_map, hz, List.getD_eq_getElem?_getD, ← e2]
  rfl
def sp_law_added (K : PySem.W.Frag) (CW : Addr) : Sp := Sp2 fun x y H Q _ => ∃ G a b, Same G H ∧ rT K rI G x a ∧ rT K rI G y b ∧ a.length = b.length ∧ b.length ≤ 1000 ∧ Ret G H Q (rT K rI) (addL a b)
end Tc
/-! a displayed dict that begins with another one: {**d, k: v} -/
namespace Ds
open PySem PySem.Spec PyProof.Rows L2
section
variable {prog : Program} {w : World} {A : Around} {E : Value → Shared → Prop} {s : Shared}
theorem put_pair {d : Addr} {kvs : List (Key × Value)} {k : Key} {kx v : Value} {Q : Unit → Shared → Prop} (is : (mixKind prog w).is k kx = true) (D : s.heap.DictOf (mixKind prog w) d kvs)
    (then_ : ∀ h2, h2.DictOf (mixKind prog w) d (stored kvs k v) → Heap.SameBut d s.heap h2 → Q () { s with heap := h2 }) (few : kvs.length ≤ sizeLine) :
    wpAny (model prog w) A (dictPut d ((mixKind prog w).hash k) kx v) Q E s := by
  obtain ⟨ob, es, ep, at_, ex, dat, ks, pr, nd⟩ := D
  have le : es.size ≤ sizeLine := by
    have z := pr.length
    rw [Array.length_toList] at z
    omega
  unfold dictPut
  refine wpAny_bind (wpAny_dictFind_of is at_ dat ks ?_)
  have same : (es.findIdx? fun e => (mixKind prog w).is k e.key) = kvs.findIdx? fun kv => decide (kv.1 = k) := by
    rw [← pr.findIdx k]
    obtain ⟨l⟩ := es
    simp
  cases found : es.findIdx? fun e => (mixKind prog w).is k e.key with
  | some i =>
    refine wpAny_updateDict at_ dat (then_ _ ⟨_, _, ep, Heap.get?_update_self _ at_ (Obj.isFreed_of_dict (Obj.data_mapDict dat _)), ex.mapDict _, Obj.data_mapDict dat _, ks.modify _ _, ?_, ?_⟩ (Heap.SameBut.update ..))
    · rw [stored, if_pos (any_of_findIdx_some (same ▸ found))]
      have there : (es.toList.findIdx? fun e => (mixKind prog w).is k e.key) = some i := by
        rw [← found]
        obtain ⟨l⟩ := es
        simp
      have z := pr.modify nd there v
      obtain ⟨l⟩ := es
      simpa using z
    · rw [stored, if_pos (any_of_findIdx_some (same ▸ found)), keys_map_store]
      exact nd
  | none =>
    have new : k ∉ kvs.map (·.1) := not_mem_of_findIdx_none (same ▸ found)
    have no : ¬ (kvs.any fun kv => decide (kv.1 = k)) = true := fun z => by
      obtain ⟨kv, m, e⟩ := List.any_eq_true.mp z
      exact new (List.mem_map.mpr ⟨kv, m, of_decide_eq_true e⟩)
    refine wpAny_updateDictKeys (hz := le) at_ dat (then_ _ ⟨_, _, ep + 1, Heap.get?_update_self _ at_ (Obj.isFreed_of_dict (Obj.data_mapDictKeys dat _)), ex.mapDictKeys _, Obj.data_mapDictKeys dat _, ks.push is _, ?_, ?_⟩ (Heap.SameBut.update ..))
    · rw [stored, if_neg no]
      have z := pr.append is ((mixKind prog w).hash k) v
      obtain ⟨l⟩ := es
      simpa using z
    · rw [stored, if_neg no, List.map_append, List.nodup_append]
      refine ⟨nd, by simp, fun a ha b hb => ?_⟩
      have e : b = k := by simpa using hb
      rw [e]
      exact fun z => new (z ▸ ha)
theorem merge_map {d o : Addr} {kvs more : List (Key × Value)} {Q : Unit → Shared → Prop} (ne : d ≠ o) (ns : (o == sysModules) = false) (D : s.heap.DictOf (mixKind prog w) d kvs) (O : s.heap.DictOf (mixKind prog w) o more)
    (then_ : ∀ h2, h2.DictOf (mixKind prog w) d (merged kvs more) → Heap.SameBut d s.heap h2 → Q () { s with heap := h2 }) (few : kvs.length + more.length ≤ sizeLine) :
    wpAny (model prog w) A (mergeMapping d (.ref o) false) Q E s := by
  obtain ⟨od, esd, epd, atd, exd, datd, ksd, prd, ndd⟩ := id D
  obtain ⟨oo, eso, epo, ato, exo, dato, kso, pro, ndo⟩ := id O
  unfold mergeMapping
  refine wpAny_bind (wpAny_isInstance O.typeIs isSubtype_dict_dict ?_)
  dsimp only
  rw [if_pos rfl]
  refine wpAny_bind (wpAny_specialOf O.typeIs F.slot_dict_iter.lookup ?_)
  simp only [beq_self_eq_true, pure_bind]
  rw [ns]
  simp only [Bool.false_eq_true, if_false]
  have lm : more.length = eso.size := by
    rw [← pro.length, Array.length_toList]
  have loop : wpAny (model prog w) A (do
      let l ← dictEntries o
      let ep ← dictEpoch o
      forIn (List.range l.size) PUnit.unit fun i (_ : PUnit) => (do
          let l' ← dictEntries o
          match l'[i]? with
            | some e => do
              holding [e.key, e.val] (dictPut d e.hash e.key e.val)
              let ep' ← dictEpoch o
              if (ep' != ep) = true then do
                  (unsupported "dict.changed-during-merge" : Sem PUnit)
                  pure (ForInStep.yield PUnit.unit)
                else pure (ForInStep.yield PUnit.unit)
            | x => do
              (unsupported "dict.changed-during-merge" : Sem PUnit)
              pure (ForInStep.yield PUnit.unit) : Sem (ForInStep PUnit))
      pure ()) Q E s := by
    refine wpAny_bind (wpAny_dictEntries ato dato (wpAny_bind (wpAny_dictEpoch ato dato (wpAny_bind ?_))))
    refine wpAny_forIn_list _
      (fun rest _ s2 => ∃ h2 i, s2 = { s with heap := h2 } ∧ rest = (List.range eso.size).drop i ∧ i ≤ eso.size ∧ h2.DictOf (mixKind prog w) d (merged kvs (more.take i)) ∧ h2.get? o = some oo ∧ Heap.SameBut d s.heap h2)
      _ ?_ ?_ _ _ ⟨s.heap, 0, rfl, rfl, Nat.zero_le _, by simpa [merged] using D, ato, Heap.SameBut.refl _ _⟩
    · rintro x rest b s2 ⟨h2, i, rfl, hr, hi, D2, at2, sb⟩
      have lt : i < eso.size := by
        rcases Nat.lt_or_ge i eso.size with z | z
        · exact z
        · rw [List.drop_eq_nil_of_le (by rw [List.length_range]; exact z)] at hr
          cases hr
      rw [List.drop_eq_getElem_cons (by rw [List.length_range]; exact lt), List.getElem_range] at hr
      obtain ⟨rfl, rfl⟩ := List.cons.inj hr
      refine wpAny_bind (wpAny_dictEntries at2 dato ?_)
      rw [Array.getElem?_eq_getElem lt]
      obtain ⟨⟨k, v⟩, hkv⟩ : ∃ kv, more[x]? = some kv := ⟨more[x]'(by rw [lm]; exact lt), List.getElem?_eq_getElem _⟩
      obtain ⟨hkey, hval⟩ := pro.get? (e := eso[x]) (by simp [lt]) hkv
      obtain ⟨k2, hkey2, hhash⟩ := kso eso[x] (Array.getElem_mem lt)
      obtain rfl : k2 = k := (mixKind prog w).inj _ _ _ hkey2 hkey
      show wpAny _ _ (holding [eso[x].key, eso[x].val] (dictPut d eso[x].hash eso[x].key eso[x].val) >>= _) _ _ _
      rw [hhash, hval]
      have small : (merged kvs (more.take x)).length ≤ sizeLine := by
        have e1 := merged_length_le kvs (more.take x)
        have e2 : (more.take x).length ≤ more.length := by rw [List.length_take]; omega
        omega
      refine wpAny_bind (wpAny_holding (put_pair hkey D2 (fun h3 D3 sb3 => ?_) small))
      have at3 : h3.get? o = some oo := (sb3.2 o (Ne.symm ne)).trans at2
      refine wpAny_bind (wpAny_dictEpoch at3 dato ?_)
      rw [if_neg (by simp)]
      exact wpAny_pure ⟨h3, x + 1, rfl, rfl, lt, by rw [merged_take_succ kvs more x (k2, v) hkv]; exact D3, at3, sb.trans sb3⟩
    · rintro b s2 ⟨h2, i, rfl, hr, hi, D2, at2, sb⟩
      have e : i = eso.size := by
        rcases Nat.lt_or_ge i eso.size with z | z
        · have z2 := congrArg List.length hr
          rw [List.length_drop, List.length_range] at z2
          simp at z2
          omega
        · omega
      refine wpAny_pure (then_ h2 ?_ sb)
      rw [e, ← lm, List.take_length] at D2
      exact D2
  refine wpAny_bind (wpAny_dictEntries atd datd ?_)
  by_cases em : esd.isEmpty = true
  · rw [if_pos em]
    refine wpAny_bind (wpAny_dictEntries ato dato (wpAny_bind ?_))
    rw [← Array.forIn_toList]
    refine wpAny_forIn_list _ (fun rest _ s2 => s2 = s ∧ ∀ e ∈ rest, e ∈ eso.toList) _ ?_ ?_ _ _ ⟨rfl, fun _ z => z⟩
    · rintro e rest b s2 ⟨rfl, hm⟩
      obtain ⟨k, hk, _⟩ := kso e (Array.mem_toList_iff.mp (hm e List.mem_cons_self))
      rcases keyIs_shape hk with ⟨i, tk, _, ek⟩ | ⟨x, tk, _, ek⟩
      · rw [ek]
        exact wpAny_pure ⟨rfl, fun e2 h2 => hm e2 (List.mem_cons_of_mem _ h2)⟩
      · rw [ek]
        exact wpAny_pure ⟨rfl, fun e2 h2 => hm e2 (List.mem_cons_of_mem _ h2)⟩
    · rintro b s2 ⟨rfl, _⟩
      exact loop
  · rw [if_neg em]
    exact loop

end
end Ds
namespace L2
open PySem PySem.Spec PyProof.Rows
/-- {**d, k: v} -/
def tDStar (td tk tv : TE) : TE := fun σ H Q => ∀ p, H p = none → td σ (upd H p (.dK [])) fun x H1 => ∃ (a : Addr) (kvs : List (Key × V)), x = .ref a ∧ p ≠ a ∧ Rd H1 a (.dK kvs) ∧ H1 p = some (.dK []) ∧ kvs.length ≤ 1000 ∧
  ∀ p2, upd H1 p (.dK (mergeK [] kvs)) p2 = none → tPairs [(tk, tv)] σ (upd (upd H1 p (.dK (mergeK [] kvs))) p2 (.dK [])) fun ps H3 => p ≠ p2 ∧ H3 p = some (.dK (mergeK [] kvs)) ∧ H3 p2 = some (.dK []) ∧ ∃ kv : Key × V, ps = [(kV kv.1, kv.2)] ∧
    Q (.ref p) (upd (upd H3 p2 (.dK (mergeK [] [kv]))) p (.dK (mergeK (mergeK [] kvs) (mergeK [] [kv]))))
section
variable {X : Cx} {pos : Pos} {d k v : Expr} {td tk tv : TE}
theorem pe_dstar (hd : PE X d td) (hk : PE X k tk) (hv : PE X v tv) : PE X (.Dict [none, some k] [d, v] pos) (tDStar td tk tv) := by
  refine ⟨fun pins s σ H Q I q => ?_⟩
  rw [arm_eval_Dict]
  refine wpAny_bind (wpAny_standAt ?_)
  show wpAny _ _ (dictDisplay [(none, do let x ← eval d X.env; standAt pos; pure x), (some (eval k X.env), do let x ← eval v X.env; standAt pos; pure x)]) _ _ _
  unfold dictDisplay
  simp only [List.forIn_cons, List.forIn_nil, pure_bind, bind_assoc, List.isEmpty_nil, if_true, List.nil_append, List.length_cons, List.length_nil, Nat.reduceAdd, Nat.reduceBEq, Bool.false_eq_true, if_false, List.isEmpty_cons]
  have hn := I.hok.fresh (Nat.le_refl s.heap.objs.size)
  have I1 := I.laid (a := s.heap.objs.size) (o := .dK []) (h' := s.heap.push { cls := .type "dict", data := .dict #[] }) (t' := s.toks) (fun _ _ e => Heap.get?_push_of_some _ e) (Nat.le_refl _) (dk_empty s.heap I.big)
  obtain ⟨p, hp⟩ : ∃ p, p = s.heap.objs.size := ⟨_, rfl⟩
  refine wpAny_bind (wpAny_alloc ?_)
  show wpAny _ _ _ _ _ _
  rw [← hp] at hn I1 ⊢
  refine wpAny_bind (wpAny_holding (wpAny_bind (thn (hd.run pins _ σ _ _ I1 (q _ hn)) fun m s1 hm => wpAny_bind (wpAny_standAt (wpAny_pure ?_)))))
  obtain ⟨x, H1, I2, rx, a, kvs, rfl, ne, ra, ep, few, q2⟩ := hm
  cases rx
  obtain ⟨_, hs, vs, rel, da⟩ := dk_rd I2.hok ra
  obtain ⟨_, hs0, vs0, rel0, dp⟩ := dk_of I2.hok ep
  cases rel0
  have lv : vs.length ≤ 1000 := by rw [← rel.length]; exact few
  have big : 1000000 ≤ sizeLine := by decide
  refine wpAny_bind (wpAny_onRaise (wpAny_tryCatch (wpAny_onRaise (wpAny_holding (Ds.merge_map ne hs dp da (fun h2 d2 sb => ?_) (by simp; omega))))))
  have I3 := d_write (t' := s1.toks) I2 (by rw [ep]; exact True.intro) sb (let ⟨z, _, _, hz, _⟩ := d2; ⟨z, hz⟩) (dk_new (H' := upd H1 p (.dK (mergeK [] kvs))) (kvs := mergeK [] kvs) (by have := length_mergeK kvs []; simp at this; omega) hs0 (rel.merge .nil) d2)
  have hn2 := I3.hok.fresh (Nat.le_refl h2.objs.size)
  have I4 := I3.laid (a := h2.objs.size) (o := .dK []) (h' := h2.push { cls := .type "dict", data := .dict #[] }) (t' := s1.toks) (fun _ _ e => Heap.get?_push_of_some _ e) (Nat.le_refl _) (dk_empty h2 I3.big)
  refine wpAny_bind (wpAny_holding (wpAny_subDict (knd := mixKind X.prog X.w) (by simp) ?_))
  have run := (pps_cons (pos := pos) hk hv pps_nil).run pins _ σ _ _ I4 (q2 _ hn2)
  refine thn run fun ws s3 ⟨ps, H3, I5, vv, ne2, e1, e2, kv, eps, q3⟩ => ?_
  subst eps
  obtain ⟨rs, ca, rk⟩ := carries_of (P := X.prog) (w := X.w) (kvs := [kv]) vv
  obtain ⟨_, hs2, vs2, rel2, d3⟩ := dk_of I5.hok e2
  cases rel2
  refine ⟨rs, ca, d3, fun h4 d4 sb4 => ?_⟩
  have I6 := d_write (t' := s3.toks + ws.length) I5 (by rw [e2]; exact True.intro) sb4 (let ⟨z, _, _, hz, _⟩ := d4; ⟨z, hz⟩) (dk_new (H' := upd H3 h2.objs.size (.dK (mergeK [] [kv]))) (kvs := mergeK [] [kv]) (by have := length_mergeK [kv] []; simp at this; omega) hs2 (rk.merge .nil) d4)
  have e3 : upd H3 h2.objs.size (.dK (mergeK [] [kv])) p = some (.dK (mergeK [] kvs)) := (upd_ne ne2).trans e1
  have e4 : upd H3 h2.objs.size (.dK (mergeK [] [kv])) h2.objs.size = some (.dK (mergeK [] [kv])) := upd_same
  obtain ⟨_, hs3, vs3, rel3, d5⟩ := dk_of I6.hok e3
  obtain ⟨_, hs4, vs4, rel4, d6⟩ := dk_of I6.hok e4
  have l1 : (mergeK [] kvs).length ≤ 1000 := by have := length_mergeK kvs []; simp at this; omega
  have l2 : (mergeK [] [kv]).length ≤ 1 := by have := length_mergeK [kv] []; simpa using this
  have l3 := rel3.length
  have l4 := rel4.length
  refine wpAny_bind (wpAny_onRaise (wpAny_holding (Ds.merge_map ne2 hs4 d5 d6 (fun h6 d7 sb6 => ?_) (by omega))))
  have I7 := d_write (t' := s3.toks + ws.length) I6 (by rw [e3]; exact True.intro) sb6 (let ⟨z, _, _, hz, _⟩ := d7; ⟨z, hz⟩) (dk_new (H' := upd (upd H3 h2.objs.size (.dK (mergeK [] [kv]))) p (.dK (mergeK (mergeK [] kvs) (mergeK [] [kv])))) (kvs := mergeK (mergeK [] kvs) (mergeK [] [kv])) (by have := length_mergeK (mergeK [] [kv]) (mergeK [] kvs); omega) hs3 (rel4.merge rel3) d7)
  exact wpAny_pure ⟨.ref p, _, I7, rfl, q3⟩
end
end L2
/-! min of four ints -/
namespace Mn
open PySem PySem.Spec PyProof.Rows
theorem args4 (a b c d : Value) : argsOk "min" ⟨[a, b, c, d], []⟩ := by unfold argsOk; kernel_rfl
section
variable {prog : Program} {w : World} {A : Around} {E : Value → Shared → Prop} {s : Shared}
theorem min_four {a b c d : Value} {Q : Value → Shared → Prop}
    (h : wpAny (model prog w) A.in1 (pyIter (.ref s.heap.objs.size)) (fun it z => ∃ I fp wr n P St bt, it = .ref I ∧ Walks prog w A.in1 I fp wr n P St ∧ St 0 z.heap ∧ (∀ b ∈ fp, b < z.heap.objs.size) ∧ 0 < n ∧ CmpOf prog w A.in1 .Lt P bt ∧
      ∀ v h2 tk, P (argBest bt (n - 1)) v → (∀ b o, b ∉ wr → z.heap.get? b = some o → h2.get? b = some o) → Q v { z with heap := h2, toks := tk }) E
      { s with heap := s.heap.push { cls := .type "tuple", data := .seq #[a, b, c, d] } }) :
    wpAny (model prog w) A (call (.builtin "min") [a, b, c, d]) Q E s := by
  have name : (toString "min" ++ toString ".loop" : String) = "min.loop" := by decide
  refine call_function_tree F.kind_min F.plain_min F.entry_min (args4 _ _ _ _) ?_
  show wpAny _ A.in1 (Builtin.Builtins.bindParams "min" ["key", "default"] 0 ⟨[], []⟩ >>= _) _ _ _
  refine wpAny_bind (wpAny_of_eq (show Builtin.Builtins.bindParams "min" ["key", "default"] 0 ⟨[], []⟩ = pure [none, none] from rfl) ?_)
  show wpAny _ A.in1 (newTuple [a, b, c, d] >>= _) _ _ _
  refine wpAny_bind (wpAny_newObj_type (wpAny_bind (wpAny_mono h (fun it z hz => ?_) fun _ _ e => e)))
  obtain ⟨I, fp, wr, n, P, St, bt, rfl, W, st, inF, pos, cmp, q⟩ := hz
  refine wpAny_bind (wpAny_newObj_type ?_)
  have out : z.heap.objs.size ∉ fp := fun m => absurd (inF _ m) (Nat.lt_irrefl _)
  rw [name]
  refine wpAny_pure ⟨plainId_quiet F.plain_min_loop _, codeAny_min_loop_first W bt cmp z.heap.objs.size out pos (W.frame _ _ _ st fun b _ o e => Heap.get?_push_of_some _ e) (Heap.get?_push_size _ rfl) fun v h2 tk hP hk => ?_⟩
  exact q v h2 tk hP fun b o nb e => hk b o nb (Nat.ne_of_lt (Heap.lt_size e)) (Heap.get?_push_of_some _ e)
theorem best4 {a b c d : Int} {t u x y : Tok} {v : Value} (h : (intItems #[(a, t), (b, u), (c, x), (d, y)])[argBest (fun i j => decide (numAt #[(a, t), (b, u), (c, x), (d, y)] i < numAt #[(a, t), (b, u), (c, x), (d, y)] j)) 3]? = some v) :
    ∃ tk, v = .int (min (min (min a b) c) d) tk := by
  have fin : ∀ {m : Int} {tk : Tok}, m = min (min (min a b) c) d → v = .int m tk → ∃ tk, v = .int (min (min (min a b) c) d) tk := fun {m tk} e1 e2 => ⟨tk, by rw [e2, e1]⟩
  by_cases h1 : b < a
  · by_cases h2 : c < b
    · by_cases h3 : d < c
      · simp [argBest, numAt, intItems, h1, h2, h3] at h
        exact fin (by omega) h.symm
      · simp [argBest, numAt, intItems, h1, h2, h3] at h
        exact fin (by omega) h.symm
    · by_cases h3 : d < b
      · simp [argBest, numAt, intItems, h1, h2, h3] at h
        exact fin (by omega) h.symm
      · simp [argBest, numAt, intItems, h1, h2, h3] at h
        exact fin (by omega) h.symm
  · by_cases h2 : c < a
    · by_cases h3 : d < c
      · simp [argBest, numAt, intItems, h1, h2, h3] at h
        exact fin (by omega) h.symm
      · simp [argBest, numAt, intItems, h1, h2, h3] at h
        exact fin (by omega) h.symm
    · by_cases h3 : d < a
      · simp [argBest, numAt, intItems, h1, h2, h3] at h
        exact fin (by omega) h.symm
      · simp [argBest, numAt, intItems, h1, h2, h3] at h
        exact fin (by omega) h.symm
theorem min4 {a b c d : Int} {t u x y : Tok} {Q : Value → Shared → Prop} (hh : A.handled = none)
    (h : ∀ tk2 h2 tk, (∀ d o, s.heap.get? d = some o → h2.get? d = some o) → Q (.int (min (min (min a b) c) d) tk2) { s with heap := h2, toks := tk }) :
    wpAny (model prog w) A (call (.builtin "min") [.int a t, .int b u, .int c x, .int d y]) Q E s := by
  have T : (s.heap.push { cls := .type "tuple", data := .seq #[.int a t, .int b u, .int c x, .int d y] }).IsTuple s.heap.objs.size (intItems #[(a, t), (b, u), (c, x), (d, y)]) := ⟨_, Heap.get?_push_size _ rfl, rfl, 0, by simp [intItems]⟩
  refine min_four (wpAny_pyIter_tuple T ?_)
  have sz : (s.heap.push { cls := .type "tuple", data := .seq #[.int a t, .int b u, .int c x, .int d y] }).objs.size = s.heap.objs.size + 1 := Heap.size_push ..
  refine ⟨_, [_, s.heap.objs.size], [_], _, _, _, _, rfl, Walks.tuple (A := A.in1) hh _ s.heap.objs.size (by rw [sz]; exact Nat.ne_of_lt (Nat.lt_succ_self _)) (intItems #[(a, t), (b, u), (c, x), (d, y)]),
    ⟨⟨_, Heap.get?_push_size _ rfl, rfl, rfl⟩, T.push _⟩, fun e he => ?_, by simp [intItems], CmpOf.ints_lt (numAt #[(a, t), (b, u), (c, x), (d, y)]) (fun _ _ => intItems_at), fun v h2 tk hP hk => ?_⟩
  · show e < ((s.heap.push _).push _).objs.size
    rw [Heap.size_push, sz]
    rcases List.mem_cons.mp he with z | he
    · rw [z, sz]
      exact Nat.lt_succ_self _
    · rw [List.mem_singleton.mp he]
      exact Nat.lt_succ_of_lt (Nat.lt_succ_self _)
  · have old : ∀ e o, s.heap.get? e = some o → h2.get? e = some o := fun e o z => by
      refine hk e o (fun m => ?_) (Heap.get?_push_of_some _ (Heap.get?_push_of_some _ z))
      have m2 := List.mem_singleton.mp m
      have lt := Heap.lt_size z
      rw [m2, sz] at lt
      exact absurd lt (by exact fun q => Nat.lt_irrefl _ (Nat.lt_of_succ_lt q))
    obtain ⟨tk2, rfl⟩ := best4 (v := v) (by
      have z : (intItems #[(a, t), (b, u), (c, x), (d, y)]).size - 1 = 3 := by simp [intItems]
      rw [← z]
      exact hP)
    exact h tk2 h2 tk old
end
end Mn
namespace L2
open PySem PySem.Spec PyProof.Rows
theorem call_min4 {X : Cx} (hc : X.calm = true) : CallR X (.builtin "min") (fun xs H Q => ∃ a b c d : Int, xs = [.int a, .int b, .int c, .int d] ∧ Q (.int (min (min (min a b) c) d)) H) := by
  intro pins s σ H xs us Q I r h
  obtain ⟨a, b, c, d, rfl, q⟩ := h
  cases r with
  | cons r1 r =>
    cases r with
    | cons r2 r =>
      cases r with
      | cons r3 r =>
        cases r with
        | cons r4 r =>
          cases r
          obtain ⟨_, rfl⟩ := r1
          obtain ⟨_, rfl⟩ := r2
          obtain ⟨_, rfl⟩ := r3
          obtain ⟨_, rfl⟩ := r4
          exact Mn.min4 (I.ok.hd hc) fun tk2 h2 tk k => ⟨.int _, H, I.kept k, ⟨_, rfl⟩, q⟩
end L2
/-! loads carried by flips (k12) -/
namespace Tc
open PySem PySem.Spec PyProof.Rows L2 Fw Mw TL
def absI (i : Int) : Int := if i < 0 then -i else i
def lo4 (x y u v : Int) : Int := if absI (u - v) > absI (x - y) then absI (u - v) else absI (x - y)
def hi4 (room x y u v : Int) : Int := min (min (min (x + y) (u + v)) (2 * room - x - y)) (2 * room - u - v)
theorem absI_cases (i : Int) : (0 ≤ i ∧ absI i = i) ∨ (i < 0 ∧ absI i = -i) := by
  unfold absI
  split <;> omega
theorem lo4_max (x y u v : Int) : lo4 x y u v = max (max (x - y) (y - x)) (max (u - v) (v - u)) := by
  unfold lo4
  rcases absI_cases (x - y) with ⟨_, e⟩ | ⟨_, e⟩ <;> rcases absI_cases (u - v) with ⟨_, e2⟩ | ⟨_, e2⟩ <;> rw [e, e2] <;> split <;> omega
theorem lo4_ge (x y u v : Int) : x - y ≤ lo4 x y u v ∧ y - x ≤ lo4 x y u v ∧ u - v ≤ lo4 x y u v ∧ v - u ≤ lo4 x y u v ∧ 0 ≤ lo4 x y u v := by
  rw [lo4_max]
  omega
theorem lo4_or (x y u v : Int) : lo4 x y u v = x - y ∨ lo4 x y u v = y - x ∨ lo4 x y u v = u - v ∨ lo4 x y u v = v - u := by
  rw [lo4_max]
  omega
theorem hi4_le (room x y u v : Int) : hi4 room x y u v ≤ x + y ∧ hi4 room x y u v ≤ u + v ∧ hi4 room x y u v ≤ 2 * room - x - y ∧ hi4 room x y u v ≤ 2 * room - u - v := by
  unfold hi4
  omega
theorem hi4_or (room x y u v : Int) : hi4 room x y u v = x + y ∨ hi4 room x y u v = u + v ∨ hi4 room x y u v = 2 * room - x - y ∨ hi4 room x y u v = 2 * room - u - v := by
  unfold hi4
  omega
theorem span_le (room x y u v : Int) : hi4 room x y u v - lo4 x y u v ≤ hi4 room x u y v - lo4 x u y v := by
  have h1 := hi4_le room x y u v
  have h2 := lo4_ge x y u v
  rcases hi4_or room x u y v with e | e | e | e <;> rcases lo4_or x u y v with e2 | e2 | e2 | e2 <;> rw [e, e2] <;> omega
theorem span_le2 (room x y u v : Int) : hi4 room x y u v - lo4 x y u v ≤ hi4 room x v u y - lo4 x v u y := by
  have h1 := hi4_le room x y u v
  have h2 := lo4_ge x y u v
  rcases hi4_or room x v u y with e | e | e | e <;> rcases lo4_or x v u y with e2 | e2 | e2 | e2 <;> rw [e, e2] <;> omega
/-- the least and the greatest lie as far apart behind a flip -/
theorem span_eq (room x y u v : Int) : hi4 room x y u v - lo4 x y u v = hi4 room x u y v - lo4 x u y v := Int.le_antisymm (span_le _ _ _ _ _) (span_le room x u y v)
theorem span_eq2 (room x y u v : Int) : hi4 room x y u v - lo4 x y u v = hi4 room x v u y - lo4 x v u y := Int.le_antisymm (span_le2 _ _ _ _ _) (span_le2 room x v u y)
/-- where four numbers stand round one that fits -/
structure Around4 (room x y u v r : Int) : Prop where
  m1 : Meet [x, y, r]
  m2 : Meet [u, v, r]
  s1 : x + y + r ≤ 2 * room
  s2 : u + v + r ≤ 2 * room
theorem Around4.swap {room x y u v r : Int} (A : Around4 room x y u v r) : Around4 room x u y v (r - lo4 x y u v + lo4 x u y v) := by
  have h1 := meet3.mp A.m1
  have h2 := meet3.mp A.m2
  have s1 := A.s1
  have s2 := A.s2
  have g := lo4_ge x u y v
  have g2 := lo4_ge x y u v
  obtain ⟨l, hl⟩ : ∃ l, lo4 x y u v = l := ⟨_, rfl⟩
  obtain ⟨m, hm⟩ : ∃ m, lo4 x u y v = m := ⟨_, rfl⟩
  have o := lo4_or x u y v
  have p := lo4_or x y u v
  rw [hl] at p g2
  rw [hm] at o g
  rw [hl, hm]
  have par : (r - l) % 2 = 0 := by rcases p with e | e | e | e <;> omega
  have par2 : (x + u + m) % 2 = 0 ∧ (y + v + m) % 2 = 0 := by rcases o with e | e | e | e <;> omega
  have low : l ≤ r := by rcases p with e | e | e | e <;> omega
  have up : r - l + m ≤ x + u ∧ r - l + m ≤ y + v ∧ r - l + m ≤ 2 * room - x - u ∧ r - l + m ≤ 2 * room - y - v := by rcases o with e | e | e | e <;> omega
  exact ⟨meet3.mpr (by omega), meet3.mpr (by omega), by omega, by omega⟩
theorem Around4.turn {room x y u v r : Int} (A : Around4 room x y u v r) : Around4 room x y v u r :=
  ⟨A.m1, meet_perm (List.Perm.swap _ _ _) A.m2, A.s1, by have := A.s2; omega⟩
theorem lo4_turn (x y u v : Int) : lo4 x y u v = lo4 x y v u := by
  rw [lo4_max, lo4_max, Int.max_comm (u - v)]
theorem Around4.swap2 {room x y u v r : Int} (A : Around4 room x y u v r) : Around4 room x v u y (r - lo4 x y u v + lo4 x v u y) := by
  have B := A.turn.swap.turn
  rw [← lo4_turn x y u v, lo4_turn x v y u] at B
  exact B
/-- a table with another number at one road -/
def putL (ks : List Str) (ld : List Int) (z : Str) (n : Int) : List Int := ks.map fun t => if t = z then n else val ks ld t
theorem putL_len (ks : List Str) (ld : List Int) (z : Str) (n : Int) : (putL ks ld z n).length = ks.length := List.length_map _
theorem val_put {ks : List Str} {ld : List Int} {z t : Str} {n : Int} (h : t ∈ ks) : val ks (putL ks ld z n) t = if t = z then n else val ks ld t := by
  unfold putL
  exact val_map (f := fun t => if t = z then n else val ks ld t) h
theorem put_back {ks : List Str} {ld : List Int} {z : Str} {n : Int} (nd : ks.Nodup) (h : ld.length = ks.length) : putL ks (putL ks ld z n) z (val ks ld z) = ld := by
  refine Eq.trans ?_ (vals_tab nd h)
  unfold putL
  refine List.map_congr_left fun t ht => ?_
  have e := val_put (ld := ld) (z := z) (n := n) ht
  unfold putL at e
  by_cases c : t = z
  · rw [if_pos c, c]
  · rw [if_neg c, e, if_neg c]
section
variable {js : Rows} {z a b c d : Str} {i j : Nat} {k : Int} {ld : List Int} {room : Int}
theorem perm_meet {r : List Str} {ks : List Str} {p q s : Str} (h : r.Perm [p, q, s]) (m : Meet (r.map fun t => val ks ld t)) : Meet [val ks ld p, val ks ld q, val ks ld s] :=
  meet_perm (b := r.map fun t => val ks ld t) ((h.map fun t => val ks ld t).symm) m
theorem perm_sum3 {r : List Str} {ks : List Str} {p q s : Str} (h : r.Perm [p, q, s]) : (r.map fun t => val ks ld t).sum = val ks ld p + val ks ld q + val ks ld s := by
  rw [perm_sum (h.map fun t => val ks ld t)]
  exact sum3 _ _ _
theorem around (g : Mw.Good js) (F : Four js z i j a b c d) (f : FitIn js room ld) :
    Around4 room (val (roadsOf js) ld a) (val (roadsOf js) ld b) (val (roadsOf js) ld c) (val (roadsOf js) ld d) (val (roadsOf js) ld z) := by
  obtain ⟨r, e, m, n⟩ := F.hi
  obtain ⟨q, e2, m2, n2⟩ := F.hj
  have hr := List.mem_of_getElem? e
  have hq := List.mem_of_getElem? e2
  have p1 := noZ_perm (g.rows r hr).len m n
  have p2 := noZ_perm (g.rows q hq).len m2 n2
  have h1 : (r.map fun t => val (roadsOf js) ld t) ∈ nums js ld := List.mem_map.mpr ⟨r, hr, rfl⟩
  have h2 : (q.map fun t => val (roadsOf js) ld t) ∈ nums js ld := List.mem_map.mpr ⟨q, hq, rfl⟩
  have s1 := f.2 _ h1
  have s2 := f.2 _ h2
  refine ⟨perm_meet p1 (f.1.meets _ h1), perm_meet p2 (f.1.meets _ h2), ?_, ?_⟩
  · have e3 := perm_sum3 (ld := ld) (ks := roadsOf js) p1
    exact e3 ▸ s1
  · have e3 := perm_sum3 (ld := ld) (ks := roadsOf js) p2
    exact e3 ▸ s2
/-- the least number that the road can bear ahead of the flip, and behind it -/
def loA (js : Rows) (ld : List Int) (a b c d : Str) : Int := lo4 (val (roadsOf js) ld a) (val (roadsOf js) ld b) (val (roadsOf js) ld c) (val (roadsOf js) ld d)
def loB (js : Rows) (ld : List Int) (k : Int) (a b c d : Str) : Int := if k = 1 then loA js ld a c b d else loA js ld a d c b
def carryL (js : Rows) (ld : List Int) (z : Str) (k : Int) (a b c d : Str) : List Int := putL (roadsOf js) ld z (val (roadsOf js) ld z - loA js ld a b c d + loB js ld k a b c d)
theorem flip_roads (h3 : ∀ r ∈ js, r.length = 3) (F : Four js z i j a b c d) : roadsOf (flipRows js i j k z a b c d) = roadsOf js := roads_perm (flip_words h3 F)
theorem four_mem (g : Mw.Good js) (F : Four js z i j a b c d) : a ∈ roadsOf js ∧ b ∈ roadsOf js ∧ c ∈ roadsOf js ∧ d ∈ roadsOf js ∧ z ∈ roadsOf js := by
  obtain ⟨r, e, m, n⟩ := F.hi
  obtain ⟨q, e2, m2, n2⟩ := F.hj
  have hr := List.mem_of_getElem? e
  have hq := List.mem_of_getElem? e2
  have p1 := noZ_perm (g.rows r hr).len m n
  have p2 := noZ_perm (g.rows q hq).len m2 n2
  have w1 : ∀ t ∈ r, t ∈ roadsOf js := fun t ht => mem_roads.mpr (List.mem_flatten.mpr ⟨r, hr, ht⟩)
  have w2 : ∀ t ∈ q, t ∈ roadsOf js := fun t ht => mem_roads.mpr (List.mem_flatten.mpr ⟨q, hq, ht⟩)
  exact ⟨w1 a (p1.mem_iff.mpr (by simp)), w1 b (p1.mem_iff.mpr (by simp)), w2 c (p2.mem_iff.mpr (by simp)), w2 d (p2.mem_iff.mpr (by simp)), w1 z m⟩
theorem fit_flip (g : Mw.Good js) (F : Four js z i j a b c d) (hk : k = 1 ∨ k = 2) (f : FitIn js room ld) : FitIn (flipRows js i j k z a b c d) room (carryL js ld z k a b c d) := by
  have h3 := fun r hr => (g.rows r hr).len
  have er := flip_roads (k := k) h3 F
  obtain ⟨ma, mb, mc, md, mz⟩ := four_mem g F
  obtain ⟨na, nb, nc, nd⟩ := F.ne
  have A := around g F f
  obtain ⟨n, hn⟩ : ∃ n, val (roadsOf js) ld z - loA js ld a b c d + loB js ld k a b c d = n := ⟨_, rfl⟩
  have ea : val (roadsOf js) (putL (roadsOf js) ld z n) a = val (roadsOf js) ld a := by rw [val_put ma, if_neg na]
  have eb : val (roadsOf js) (putL (roadsOf js) ld z n) b = val (roadsOf js) ld b := by rw [val_put mb, if_neg nb]
  have ec : val (roadsOf js) (putL (roadsOf js) ld z n) c = val (roadsOf js) ld c := by rw [val_put mc, if_neg nc]
  have ed : val (roadsOf js) (putL (roadsOf js) ld z n) d = val (roadsOf js) ld d := by rw [val_put md, if_neg nd]
  have ez : val (roadsOf js) (putL (roadsOf js) ld z n) z = n := by rw [val_put mz, if_pos rfl]
  have key : ∀ r ∈ flipRows js i j k z a b c d, Meet (r.map fun t => val (roadsOf js) (putL (roadsOf js) ld z n) t) ∧ (r.map fun t => val (roadsOf js) (putL (roadsOf js) ld z n) t).sum ≤ 2 * room := fun r hr => by
    obtain ⟨m, hm⟩ := List.getElem?_of_mem hr
    by_cases hi : m = i
    · rw [hi, flip_i F] at hm
      obtain rfl := Option.some.inj hm
      rcases hk with rfl | rfl
      · have B := A.swap
        have e2 : n = val (roadsOf js) ld z - lo4 (val (roadsOf js) ld a) (val (roadsOf js) ld b) (val (roadsOf js) ld c) (val (roadsOf js) ld d) + lo4 (val (roadsOf js) ld a) (val (roadsOf js) ld c) (val (roadsOf js) ld b) (val (roadsOf js) ld d) := by rw [← hn]; rfl
        rw [← e2] at B
        show Meet (([a, c, z] : List Str).map _) ∧ (([a, c, z] : List Str).map _).sum ≤ _
        simp only [List.map_cons, List.map_nil]
        rw [ea, ec, ez, sum3]
        exact ⟨B.m1, B.s1⟩
      · have B := A.swap2
        have e2 : n = val (roadsOf js) ld z - lo4 (val (roadsOf js) ld a) (val (roadsOf js) ld b) (val (roadsOf js) ld c) (val (roadsOf js) ld d) + lo4 (val (roadsOf js) ld a) (val (roadsOf js) ld d) (val (roadsOf js) ld c) (val (roadsOf js) ld b) := by rw [← hn]; rfl
        rw [← e2] at B
        show Meet (([a, d, z] : List Str).map _) ∧ (([a, d, z] : List Str).map _).sum ≤ _
        simp only [List.map_cons, List.map_nil]
        rw [ea, ed, ez, sum3]
        exact ⟨B.m1, B.s1⟩
    · by_cases hj : m = j
      · rw [hj, flip_j F] at hm
        obtain rfl := Option.some.inj hm
        rcases hk with rfl | rfl
        · have B := A.swap
          have e2 : n = val (roadsOf js) ld z - lo4 (val (roadsOf js) ld a) (val (roadsOf js) ld b) (val (roadsOf js) ld c) (val (roadsOf js) ld d) + lo4 (val (roadsOf js) ld a) (val (roadsOf js) ld c) (val (roadsOf js) ld b) (val (roadsOf js) ld d) := by rw [← hn]; rfl
          rw [← e2] at B
          show Meet (([b, d, z] : List Str).map _) ∧ (([b, d, z] : List Str).map _).sum ≤ _
          simp only [List.map_cons, List.map_nil]
          rw [eb, ed, ez, sum3]
          exact ⟨B.m2, B.s2⟩
        · have B := A.swap2
          have e2 : n = val (roadsOf js) ld z - lo4 (val (roadsOf js) ld a) (val (roadsOf js) ld b) (val (roadsOf js) ld c) (val (roadsOf js) ld d) + lo4 (val (roadsOf js) ld a) (val (roadsOf js) ld d) (val (roadsOf js) ld c) (val (roadsOf js) ld b) := by rw [← hn]; rfl
          rw [← e2] at B
          show Meet (([c, b, z] : List Str).map _) ∧ (([c, b, z] : List Str).map _).sum ≤ _
          simp only [List.map_cons, List.map_nil]
          rw [ec, eb, ez, sum3]
          exact ⟨B.m2, B.s2⟩
      · rw [flip_o hi hj] at hm
        have hr := List.mem_of_getElem? hm
        have nz : z ∉ r := fun hz => by
          have := mem_sides.mpr ⟨r, hm, hz⟩
          rw [F.sides] at this
          simp at this
          omega
        have e : (r.map fun t => val (roadsOf js) (putL (roadsOf js) ld z n) t) = r.map fun t => val (roadsOf js) ld t := List.map_congr_left fun t ht => by
          rw [val_put (mem_roads.mpr (List.mem_flatten.mpr ⟨r, hr, ht⟩)), if_neg (show ¬ t = z from fun q => nz (q ▸ ht))]
        rw [e]
        exact ⟨f.1.meets _ (List.mem_map.mpr ⟨r, hr, rfl⟩), f.2 _ (List.mem_map.mpr ⟨r, hr, rfl⟩)⟩
  unfold carryL
  rw [hn]
  refine ⟨⟨by rw [putL_len, er], fun l hl => ?_⟩, fun l hl => ?_⟩
  · obtain ⟨r, hr, rfl⟩ := List.mem_map.mp hl
    rw [er]
    exact (key r hr).1
  · obtain ⟨r, hr, rfl⟩ := List.mem_map.mp hl
    rw [er]
    exact (key r hr).2
/-- the same way again carries back -/
theorem carry_back (g : Mw.Good js) (F : Four js z i j a b c d) (hk : k = 1 ∨ k = 2) (hl : ld.length = (roadsOf js).length) :
    carryL (flipRows js i j k z a b c d) (carryL js ld z k a b c d) z k a (if k = 1 then c else d) (if k = 1 then b else c) (if k = 1 then d else b) = ld := by
  have h3 := fun r hr => (g.rows r hr).len
  have er := flip_roads (k := k) h3 F
  obtain ⟨ma, mb, mc, md, mz⟩ := four_mem g F
  obtain ⟨na, nb, nc, nd⟩ := F.ne
  obtain ⟨n, hn⟩ : ∃ n, val (roadsOf js) ld z - loA js ld a b c d + loB js ld k a b c d = n := ⟨_, rfl⟩
  have ea : val (roadsOf js) (putL (roadsOf js) ld z n) a = val (roadsOf js) ld a := by rw [val_put ma, if_neg na]
  have eb : val (roadsOf js) (putL (roadsOf js) ld z n) b = val (roadsOf js) ld b := by rw [val_put mb, if_neg nb]
  have ec : val (roadsOf js) (putL (roadsOf js) ld z n) c = val (roadsOf js) ld c := by rw [val_put mc, if_neg nc]
  have ed : val (roadsOf js) (putL (roadsOf js) ld z n) d = val (roadsOf js) ld d := by rw [val_put md, if_neg nd]
  have ez : val (roadsOf js) (putL (roadsOf js) ld z n) z = n := by rw [val_put mz, if_pos rfl]
  have e0 : carryL js ld z k a b c d = putL (roadsOf js) ld z n := by unfold carryL; rw [hn]
  rw [e0]
  unfold carryL
  rw [er, ez]
  have e1 : n - loA (flipRows js i j k z a b c d) (putL (roadsOf js) ld z n) a (if k = 1 then c else d) (if k = 1 then b else c) (if k = 1 then d else b) + loB (flipRows js i j k z a b c d) (putL (roadsOf js) ld z n) k a (if k = 1 then c else d) (if k = 1 then b else c) (if k = 1 then d else b) = val (roadsOf js) ld z := by
    rcases hk with rfl | rfl
    · simp only [if_true, loA, loB, er, ea, eb, ec, ed] at hn ⊢
      omega
    · simp only [show ¬ ((2 : Int) = 1) by decide, if_false, loA, loB, er, ea, eb, ec, ed] at hn ⊢
      omega
  rw [e1]
  exact put_back (nodup_roads js) hl
end

/-- what the ends bear -/
def endsL (js : Rows) (ld : List Int) : List Int := ((roadsOf js).filter fun t => decide (t ∈ endsOf js)).map fun t => val (roadsOf js) ld t
theorem ends_flip {js : Rows} {z a b c d : Str} {i j : Nat} {k : Int} {ld : List Int} {n : Int} (h3 : ∀ r ∈ js, r.length = 3) (F : Four js z i j a b c d) (g : Mw.Good js) :
    endsL (flipRows js i j k z a b c d) (putL (roadsOf js) ld z n) = endsL js ld := by
  have er := flip_roads (k := k) h3 F
  have pw := flip_words (k := k) h3 F
  unfold endsL
  have ee : endsOf (flipRows js i j k z a b c d) = endsOf js := by
    unfold endsOf
    rw [er]
    exact List.filter_congr fun t _ => by rw [pw.count_eq t]
  rw [er, ee]
  refine List.map_congr_left fun t ht => ?_
  obtain ⟨h1, h2⟩ := List.mem_filter.mp ht
  have h2 := of_decide_eq_true h2
  rw [val_put h1, if_neg fun e => ?_]
  subst e
  have c1 := mem_ends.mp h2
  obtain ⟨r, e1, m1, _⟩ := F.hi
  obtain ⟨q, e2, m2, _⟩ := F.hj
  have a1 := count_set (r' := []) e1 t
  have e2' : (js.set i [])[j]? = some q := by rw [List.getElem?_set_ne (by have := F.lt; omega)]; exact e2
  have a2 := count_set (r' := []) e2' t
  have b1 := List.count_pos_iff.mpr m1
  have b2 := List.count_pos_iff.mpr m2
  have c2 : js.flatten.count t = 1 := c1
  simp at a1 a2
  omega
section
variable (K : PySem.W.Frag) (CW : Addr)
def sp_load_told (K : PySem.W.Frag) (CW : Addr) : Sp := Sp2 fun x y H Q _ => ∃ G js ld, Same G H ∧ rWeb K CW G x js ∧ Mw.Good js ∧ rD (roadsOf js) G y ld ∧ Ret G H Q (rT K rI) ld
def sp_ends_of (K : PySem.W.Frag) (CW : Addr) : Sp := Sp2 fun x y H Q _ => ∃ G js ld, Same G H ∧ rWeb K CW G x js ∧ Mw.Good js ∧ rT K rI G y ld ∧ ld.length = (roadsOf js).length ∧ Ret G H Q (rT K rI) (endsL js ld)
def sp_rim (K : PySem.W.Frag) (CW : Addr) : Sp := Sp3 fun x y z H Q _ => ∃ G js room ld, Same G H ∧ rWeb K CW G x js ∧ Mw.Good js ∧ y = .int room ∧ 0 ≤ room ∧ room ≤ 1000000000000 ∧ rT K rI G z ld ∧ FitIn js room ld ∧ Ret G H Q (rT K rI) (endsL js ld)
def sp_range_beside (K : PySem.W.Frag) (CW : Addr) : Sp := Sp4 fun x y t u H Q _ => ∃ G js z i j a b c d room ks ld, Same G H ∧ rT K (rT K rS) G x js ∧ y = .int room ∧ rD ks G t ld ∧ u = .str z ∧ js.length ≤ 1000 ∧ (∀ r ∈ js, r.length = 3) ∧ Four js z i j a b c d ∧ a ∈ ks ∧ b ∈ ks ∧ c ∈ ks ∧ d ∈ ks ∧
  Ret G H Q (rT K rI) [lo4 (val ks ld a) (val ks ld b) (val ks ld c) (val ks ld d), hi4 room (val ks ld a) (val ks ld b) (val ks ld c) (val ks ld d)]
def sp_beside (K : PySem.W.Frag) (CW : Addr) : Sp := Sp4 fun x y t u H Q _ => ∃ G js z i j a b c d room ld, Same G H ∧ rWeb K CW G x js ∧ Mw.Good js ∧ y = .int room ∧ 0 ≤ room ∧ room ≤ 1000000000000 ∧ rT K rI G t ld ∧ FitIn js room ld ∧ u = .str z ∧ Four js z i j a b c d ∧
  Ret G H Q (rT K rI) [loA js ld a b c d, hi4 room (val (roadsOf js) ld a) (val (roadsOf js) ld b) (val (roadsOf js) ld c) (val (roadsOf js) ld d)]
def sp_numbers_behind (K : PySem.W.Frag) (CW : Addr) : Sp := Sp5 fun x y t u s H Q _ => ∃ G js z i j a b c d far i2 j2 a2 b2 c2 d2 room ks ld, Same G H ∧ rT K (rT K rS) G x js ∧ rT K (rT K rS) G y far ∧ t = .int room ∧ rD ks G u ld ∧ s = .str z ∧ js.length ≤ 1000 ∧ (∀ r ∈ js, r.length = 3) ∧ far.length ≤ 1000 ∧ (∀ r ∈ far, r.length = 3) ∧ Four js z i j a b c d ∧ Four far z i2 j2 a2 b2 c2 d2 ∧
  (∀ t ∈ [a, b, c, d, a2, b2, c2, d2, z], t ∈ ks) ∧ ks.Nodup ∧ ks.length ≤ 1000 ∧
  Ret G H Q (rD ks) (putL ks ld z (val ks ld z - lo4 (val ks ld a) (val ks ld b) (val ks ld c) (val ks ld d) + lo4 (val ks ld a2) (val ks ld b2) (val ks ld c2) (val ks ld d2)))
def sp_carried (K : PySem.W.Frag) (CW : Addr) : Sp := Sp5 fun x y t u s H Q _ => ∃ G js z i j a b c d k room ld, Same G H ∧ rWeb K CW G x js ∧ Mw.Good js ∧ y = .int room ∧ 0 ≤ room ∧ room ≤ 1000000000000 ∧ rT K rI G t ld ∧ FitIn js room ld ∧ u = .str z ∧ s = .int k ∧ (k = 1 ∨ k = 2) ∧ Four js z i j a b c d ∧ Ret G H Q (rT K rI) (carryL js ld z k a b c d)
def sp_law_scene_drawn (K : PySem.W.Frag) (CW : Addr) : Sp := Sp2 fun x y H Q _ => ∃ (p : Addr) (n : Nat) (G : Hp), Same G H ∧ G p = none ∧ x = .ref p ∧ y = .int 8 ∧ Pot (n + 3000) p H ∧
  ∀ own room ld, Mw.Good own → Whole own → 0 ≤ room → room ≤ 1000000000000 → FitIn own room ld → RetP p n G H Q (rSc K) (own, room, ld)
def sp_law_row (K : PySem.W.Frag) (CW : Addr) : Sp := Sp4 fun x y t u H Q _ => ∃ G own z i j a b c d room ks ld, Same G H ∧ rL K (rT K rS) G x own ∧ rD ks G y ld ∧ t = .int room ∧ u = .str z ∧ own.length ≤ 60 ∧ (∀ r ∈ own, r.length = 3) ∧ Four own z i j a b c d ∧ a ∈ ks ∧ b ∈ ks ∧ c ∈ ks ∧ d ∈ ks ∧
  Ret G H Q (rT K rI) [lo4 (val ks ld a) (val ks ld b) (val ks ld c) (val ks ld d), hi4 room (val ks ld a) (val ks ld b) (val ks ld c) (val ks ld d)]
def rFlip (K : PySem.W.Frag) : R (Str × Int) := rKV K
def sp_law_is_carried_right (K : PySem.W.Frag) (CW : Addr) : Sp := Sp5 fun x y t u s H Q _ => ∃ G own z i j a b c d k room ld, Same G H ∧ rWeb K CW G x own ∧ rL K (rT K rS) G y own ∧ Mw.Good own ∧ Whole own ∧ t = .int room ∧ 0 ≤ room ∧ room ≤ 1000000000000 ∧ rT K rI G u ld ∧ FitIn own room ld ∧ rKV K G s (z, k) ∧ (k = 1 ∨ k = 2) ∧ Four own z i j a b c d ∧ ∀ G1 H1, Go [] G H G1 H1 → Q (.bl true) H1
end
theorem tab_put {ks : List Str} {ld : List Int} {z : Str} {n : Int} (nd : ks.Nodup) (hl : ld.length = ks.length) (hz : z ∈ ks) : putK (tabK ks ld) (Sum.inr z) (.int n) = tabK ks (putL ks ld z n) := by
  have e1 : tabK ks ld = ks.map fun t => ((Sum.inr t : Key), V.int (val ks ld t)) := by
    rw [← tab_map (f := fun t => val ks ld t), vals_tab nd hl]
  rw [show tabK ks (putL ks ld z n) = ks.map fun t => ((Sum.inr t : Key), V.int (if t = z then n else val ks ld t)) from tab_map (f := fun t => if t = z then n else val ks ld t) ks, e1]
  unfold putK
  rw [if_pos (List.any_eq_true.mpr ⟨_, List.mem_map.mpr ⟨z, hz, rfl⟩, by simp⟩), List.map_map]
  refine List.map_congr_left fun t _ => ?_
  show (if (Sum.inr t : Key) = Sum.inr z then ((Sum.inr t : Key), V.int n) else (Sum.inr t, V.int (val ks ld t))) = _
  by_cases c : t = z
  · rw [if_pos (by rw [c]), if_pos c]
  · rw [if_neg (fun e => c (Sum.inr.inj e)), if_neg c]

theorem fit_bounds {own : Rows} {ld : List Int} {room : Int} (f : FitIn own room ld) : ∀ n ∈ ld, 0 ≤ n ∧ n ≤ room := fun n hn => by
  rw [← vals_tab (nodup_roads own) f.1.len] at hn
  obtain ⟨z, hz, rfl⟩ := List.mem_map.mp hn
  obtain ⟨r, hr, hzr⟩ := List.mem_flatten.mp (mem_roads.mp hz)
  have hl : (r.map fun t => val (roadsOf own) ld t) ∈ nums own ld := List.mem_map.mpr ⟨r, hr, rfl⟩
  have hv : val (roadsOf own) ld z ∈ r.map fun t => val (roadsOf own) ld t := List.mem_map.mpr ⟨z, hzr, rfl⟩
  have m := f.1.meets _ hl
  have h1 := m.1 _ hv
  have h2 := m.2.2 _ hv
  have h3 := f.2 _ hl
  omega
theorem small_ints {ld : List Int} {m : Nat} (h : ∀ n ∈ ld, 0 ≤ n ∧ n ≤ 1000000000000000) (hl : ld.length ≤ m) : Small 1 m (.tuple (ld.map .int)) :=
  (small_tup (n := 0) (k := 0) fun c hc => small_int (by have := h c hc; omega)).mono (by decide) (by omega)
theorem small_fit {own : Rows} {ld : List Int} {room : Int} (g : Mw.Good own) (f : FitIn own room ld) (hR : room ≤ 1000000000000) : Small 1 40 (.tuple (ld.map .int)) :=
  small_ints (fun n hn => by have := fit_bounds f n hn; omega) (by have := good_roads g; rw [f.1.len]; omega)
theorem small_span {x y u v r room : Int} (A : Around4 room x y u v r) (hR : room ≤ 1000000000000) : Small 1 2 (.tuple ([lo4 x y u v, hi4 room x y u v].map .int)) :=
  small_ints (fun n hn => by
    have h1 := meet3.mp A.m1
    have h2 := meet3.mp A.m2
    have s1 := A.s1
    have g := lo4_ge x y u v
    have o := lo4_or x y u v
    have p := hi4_le room x y u v
    have hh := hi4_or room x y u v
    have s2 := A.s2
    simp only [List.mem_cons, List.not_mem_nil, or_false] at hn
    rcases hn with rfl | rfl
    · rcases o with e | e | e | e <;> omega
    · rcases hh with e | e | e | e <;> omega) (by simp)

theorem small_ends {own : Rows} {ld : List Int} {room : Int} (g : Mw.Good own) (f : FitIn own room ld) (hR : room ≤ 1000000000000) : Small 1 40 (.tuple ((endsL own ld).map .int)) := by
  refine small_ints (fun n hn => ?_) ?_
  · unfold endsL at hn
    obtain ⟨z, hz, rfl⟩ := List.mem_map.mp hn
    have hz2 := (List.mem_filter.mp hz).1
    have m : val (roadsOf own) ld z ∈ ld := by
      have e := vals_tab (nodup_roads own) f.1.len
      have h2 : val (roadsOf own) ld z ∈ (roadsOf own).map fun z => val (roadsOf own) ld z := List.mem_map.mpr ⟨z, hz2, rfl⟩
      rw [e] at h2
      exact h2
    have := fit_bounds f _ m
    omega
  · unfold endsL
    rw [List.length_map]
    have h1 := List.length_filter_le (fun t => decide (t ∈ endsOf own)) (roadsOf own)
    have h2 := good_roads g
    omega
end Tc
/-! four roads, three ways (k14) -/
namespace Tc
open PySem PySem.Spec PyProof.Rows L2 Fw Mw TL
def rNum (K : PySem.W.Frag) : R (Int × List Int) := fun H v x => ∃ t a, v = .ref t ∧ H t = some (.tup [.int x.1, a]) ∧ rT K rI H a x.2
def sp_law_numbers (K : PySem.W.Frag) (CW : Addr) : Sp := Sp1 fun x H Q _ => ∃ (p : Addr) (n : Nat) (G : Hp), Same G H ∧ G p = none ∧ x = .ref p ∧ Pot (n + 20) p H ∧
  ∀ room a b c d : Int, room ≤ 1000000000000 → (∀ e ∈ [a, b, c, d], 0 ≤ e ∧ e ≤ room) → (a + b + c + d) % 2 = 0 → RetP p n G H Q (rNum K) (room, [a, b, c, d])
def sp_law_span (K : PySem.W.Frag) (CW : Addr) : Sp := Sp5 fun x y t u s H Q _ => ∃ G room a b c d, Same G H ∧ x = .int room ∧ y = .int a ∧ t = .int b ∧ u = .int c ∧ s = .int d ∧ Ret G H Q (rT K rI) [lo4 a b c d, hi4 room a b c d]

theorem span_even {room x y u v r : Int} (A : Around4 room x y u v r) : (hi4 room x y u v - lo4 x y u v) % 2 = 0 := by
  have h1 := meet3.mp A.m1
  have h2 := meet3.mp A.m2
  rcases hi4_or room x y u v with e | e | e | e <;> rcases lo4_or x y u v with e2 | e2 | e2 | e2 <;> rw [e, e2] <;> omega
abbrev F4 := Str × Str × Str × Str
def nextF (k : Int) (f : F4) : F4 := (f.1, if k = 1 then f.2.2.1 else f.2.2.2, if k = 1 then f.2.1 else f.2.2.1, if k = 1 then f.2.2.2 else f.2.1)
def wayAt (k : Int) : Nat → Int
  | 0 => k
  | i + 1 => 3 - wayAt k i
def stF (k : Int) (f : F4) : Nat → F4
  | 0 => f
  | i + 1 => nextF (wayAt k i) (stF k f i)
theorem wayAt_or {k : Int} (h : k = 1 ∨ k = 2) : ∀ i, wayAt k i = 1 ∨ wayAt k i = 2
  | 0 => h
  | i + 1 => by
    have := wayAt_or h i
    show 3 - wayAt k i = 1 ∨ 3 - wayAt k i = 2
    omega
theorem round6 {k : Int} (h : k = 1 ∨ k = 2) (f : F4) : stF k f 6 = f := by
  obtain ⟨a, b, c, d⟩ := f
  rcases h with rfl | rfl <;> simp [stF, nextF, wayAt]
def loF (ks : List Str) (ld : List Int) (f : F4) : Int := lo4 (val ks ld f.1) (val ks ld f.2.1) (val ks ld f.2.2.1) (val ks ld f.2.2.2)
def hiF (room : Int) (ks : List Str) (ld : List Int) (f : F4) : Int := hi4 room (val ks ld f.1) (val ks ld f.2.1) (val ks ld f.2.2.1) (val ks ld f.2.2.2)
theorem wide_next {room : Int} {ks : List Str} {ld : List Int} {k : Int} (h : k = 1 ∨ k = 2) (f : F4) : hiF room ks ld (nextF k f) - loF ks ld (nextF k f) = hiF room ks ld f - loF ks ld f := by
  obtain ⟨a, b, c, d⟩ := f
  rcases h with rfl | rfl
  · exact (span_eq _ _ _ _ _).symm
  · exact (span_eq2 _ _ _ _ _).symm
/-- where six flips stand that go round -/
structure Lap (own : Rows) (ld : List Int) (room : Int) (z : Str) (i j : Nat) (f0 f : F4) (js : Rows) (lds : List Int) : Prop where
  good : Mw.Good js
  whole : Whole js
  roads : roadsOf js = roadsOf own
  four : Four js z i j f.1 f.2.1 f.2.2.1 f.2.2.2
  load : lds = putL (roadsOf own) ld z (val (roadsOf own) ld z - loF (roadsOf own) ld f0 + loF (roadsOf own) ld f)
  fit : FitIn js room lds
  wide : hiF room (roadsOf own) ld f - loF (roadsOf own) ld f = hiF room (roadsOf own) ld f0 - loF (roadsOf own) ld f0
theorem Lap.vals {own : Rows} {ld : List Int} {room : Int} {z : Str} {i j : Nat} {f0 f : F4} {js : Rows} {lds : List Int} (L : Lap own ld room z i j f0 f js lds) :
    val (roadsOf own) lds f.1 = val (roadsOf own) ld f.1 ∧ val (roadsOf own) lds f.2.1 = val (roadsOf own) ld f.2.1 ∧ val (roadsOf own) lds f.2.2.1 = val (roadsOf own) ld f.2.2.1 ∧ val (roadsOf own) lds f.2.2.2 = val (roadsOf own) ld f.2.2.2 ∧
    val (roadsOf own) lds z = val (roadsOf own) ld z - loF (roadsOf own) ld f0 + loF (roadsOf own) ld f := by
  obtain ⟨ma, mb, mc, md, mz⟩ := four_mem L.good L.four
  obtain ⟨na, nb, nc, nd⟩ := L.four.ne
  rw [L.roads] at ma mb mc md mz
  rw [L.load]
  exact ⟨by rw [val_put ma, if_neg na], by rw [val_put mb, if_neg nb], by rw [val_put mc, if_neg nc], by rw [val_put md, if_neg nd], by rw [val_put mz, if_pos rfl]⟩
theorem Lap.los {own : Rows} {ld : List Int} {room : Int} {z : Str} {i j : Nat} {f0 f : F4} {js : Rows} {lds : List Int} (L : Lap own ld room z i j f0 f js lds) :
    loA js lds f.1 f.2.1 f.2.2.1 f.2.2.2 = loF (roadsOf own) ld f ∧ hi4 room (val (roadsOf js) lds f.1) (val (roadsOf js) lds f.2.1) (val (roadsOf js) lds f.2.2.1) (val (roadsOf js) lds f.2.2.2) = hiF room (roadsOf own) ld f := by
  obtain ⟨ea, eb, ec, ed, ez⟩ := L.vals
  unfold loA loF hiF
  rw [L.roads, ea, eb, ec, ed]
  exact ⟨rfl, rfl⟩
theorem Lap.next {own : Rows} {ld : List Int} {room : Int} {z : Str} {i j : Nat} {f0 f : F4} {js : Rows} {lds : List Int} {k : Int} (hk : k = 1 ∨ k = 2) (L : Lap own ld room z i j f0 f js lds) :
    Lap own ld room z i j f0 (nextF k f) (flipRows js i j k z f.1 f.2.1 f.2.2.1 f.2.2.2) (carryL js lds z k f.1 f.2.1 f.2.2.1 f.2.2.2) := by
  have h3 : ∀ r ∈ js, r.length = 3 := fun r hr => (L.good.rows r hr).len
  obtain ⟨ea, eb, ec, ed, ez⟩ := L.vals
  have er := L.roads
  refine ⟨flip_good L.good L.four, flip_whole L.good L.whole L.four, (flip_roads h3 L.four).trans L.roads, flip_four L.four, ?_, fit_flip L.good L.four hk L.fit, (wide_next hk f).trans L.wide⟩
  unfold carryL
  rw [er, ez, L.los.1]
  have eB : loB js lds k f.1 f.2.1 f.2.2.1 f.2.2.2 = loF (roadsOf own) ld (nextF k f) := by
    unfold loB loA loF nextF
    rw [er, ea, eb, ec, ed]
    rcases hk with rfl | rfl
    · rfl
    · rfl
  rw [eB]
  have e : val (roadsOf own) ld z - loF (roadsOf own) ld f0 + loF (roadsOf own) ld f - loF (roadsOf own) ld f + loF (roadsOf own) ld (nextF k f) = val (roadsOf own) ld z - loF (roadsOf own) ld f0 + loF (roadsOf own) ld (nextF k f) := by omega
  rw [e]
  generalize val (roadsOf own) ld z - loF (roadsOf own) ld f0 + loF (roadsOf own) ld (nextF k f) = m
  rw [L.load]
  unfold putL
  refine List.map_congr_left fun t ht => ?_
  by_cases c : t = z
  · rw [if_pos c, if_pos c]
  · rw [if_neg c, if_neg c]
    have e2 := val_put (ld := ld) (z := z) (n := val (roadsOf own) ld z - loF (roadsOf own) ld f0 + loF (roadsOf own) ld f) ht
    unfold putL at e2
    rw [e2, if_neg c]
theorem Lap.start {own : Rows} {ld : List Int} {room : Int} {z a b c d : Str} {i j : Nat} (g : Mw.Good own) (w : Whole own) (F : Four own z i j a b c d) (f : FitIn own room ld) : Lap own ld room z i j (a, b, c, d) (a, b, c, d) own ld := by
  refine ⟨g, w, rfl, F, ?_, f, rfl⟩
  have e : val (roadsOf own) ld z - loF (roadsOf own) ld (a, b, c, d) + loF (roadsOf own) ld (a, b, c, d) = val (roadsOf own) ld z := by omega
  rw [e]
  refine Eq.trans (vals_tab (nodup_roads own) f.1.len).symm ?_
  unfold putL
  refine List.map_congr_left fun t _ => ?_
  by_cases c : t = z
  · rw [if_pos c, c]
  · rw [if_neg c]
theorem Lap.done {own : Rows} {ld : List Int} {room : Int} {z : Str} {i j : Nat} {f0 : F4} {js : Rows} {lds : List Int} (L : Lap own ld room z i j f0 f0 js lds) (hl : ld.length = (roadsOf own).length) : lds = ld := by
  rw [L.load]
  have e : val (roadsOf own) ld z - loF (roadsOf own) ld f0 + loF (roadsOf own) ld f0 = val (roadsOf own) ld z := by omega
  rw [e]
  refine Eq.trans ?_ (vals_tab (nodup_roads own) hl)
  unfold putL
  refine List.map_congr_left fun t _ => ?_
  by_cases c : t = z
  · rw [if_pos c, c]
  · rw [if_neg c]
def sp_law_is_round_right (K : PySem.W.Frag) (CW : Addr) : Sp := Sp4 fun x y t u H Q _ => ∃ G own i j a b c d k room ld, Same G H ∧ rWeb K CW G x own ∧ y = .int room ∧ 0 ≤ room ∧ room ≤ 1000000000000 ∧ rT K rI G t ld ∧ u = .int k ∧ (k = 1 ∨ k = 2) ∧ Mw.Good own ∧ Whole own ∧ FitIn own room ld ∧ Four own "r" i j a b c d ∧ ∀ G1 H1, Go [] G H G1 H1 → Q (.bl true) H1
end Tc
/-! the web of four roads and one between (k14) -/
namespace Tc
open PySem PySem.Spec PyProof.Rows L2 Fw Mw TL
def web4 : Rows := [["a", "b", "r"], ["c", "d", "r"]]
theorem good4 : Mw.Good web4 ∧ Whole web4 := good_sound (by decide +kernel)
theorem text4 : webText web4 = "web\nmeet a b r\nmeet c d r" := by decide +kernel
theorem roads4 : roadsOf web4 = [("a" : Str), "b", "c", "d", "r"] := by
  refine sort_uniq (sort_pair _) (by decide +kernel) ?_
  refine (List.perm_ext_iff_of_nodup (nodup_roads web4) (by decide +kernel)).mpr fun x => mem_roads.trans ?_
  show x ∈ [("a" : Str), "b", "r", "c", "d", "r"] ↔ _
  simp only [List.mem_cons, List.not_mem_nil, or_false]
  constructor <;> intro h <;> rcases h with h | h | h | h | h <;> simp [h]
theorem four4 : Four web4 "r" 0 1 "a" "b" "c" "d" := ⟨by decide, ⟨_, rfl, by decide +kernel, by decide +kernel⟩, ⟨_, rfl, by decide +kernel, by decide +kernel⟩, by decide +kernel⟩
theorem vals4 (a b c d n : Int) : val (roadsOf web4) [a, b, c, d, n] "a" = a ∧ val (roadsOf web4) [a, b, c, d, n] "b" = b ∧ val (roadsOf web4) [a, b, c, d, n] "c" = c ∧ val (roadsOf web4) [a, b, c, d, n] "d" = d ∧ val (roadsOf web4) [a, b, c, d, n] "r" = n := by
  rw [roads4]
  exact ⟨rfl, rfl, rfl, rfl, rfl⟩
theorem nums4 (a b c d n : Int) : nums web4 [a, b, c, d, n] = [[a, b, n], [c, d, n]] := by
  obtain ⟨e1, e2, e3, e4, e5⟩ := vals4 a b c d n
  show [[val (roadsOf web4) [a, b, c, d, n] "a", val (roadsOf web4) [a, b, c, d, n] "b", val (roadsOf web4) [a, b, c, d, n] "r"], [val (roadsOf web4) [a, b, c, d, n] "c", val (roadsOf web4) [a, b, c, d, n] "d", val (roadsOf web4) [a, b, c, d, n] "r"]] = _
  rw [e1, e2, e3, e4, e5]
theorem fit4 {room a b c d n : Int} (h : ∀ e ∈ [a, b, c, d], 0 ≤ e ∧ e ≤ room) (ev : (a + b + c + d) % 2 = 0) (h1 : lo4 a b c d ≤ n) (h2 : n ≤ hi4 room a b c d) (h3 : (n - lo4 a b c d) % 2 = 0) : FitIn web4 room [a, b, c, d, n] := by
  have ha := h a (by simp)
  have hb := h b (by simp)
  have hc := h c (by simp)
  have hd := h d (by simp)
  have l1 := lo4_ge a b c d
  have u1 := hi4_le room a b c d
  have lo := lo4_or a b c d
  generalize lo4 a b c d = lo at h1 h3 l1 lo
  generalize hi4 room a b c d = hi at h2 u1
  refine ⟨⟨by rw [roads4]; rfl, ?_⟩, ?_⟩
  · rw [nums4]
    intro l hl
    rcases List.mem_cons.mp hl with rfl | hl
    · exact meet3.mpr (by omega)
    · obtain rfl := List.mem_singleton.mp hl
      exact meet3.mpr (by omega)
  · rw [nums4]
    intro l hl
    rcases List.mem_cons.mp hl with rfl | hl
    · simp only [List.sum_cons, List.sum_nil]
      omega
    · obtain rfl := List.mem_singleton.mp hl
      simp only [List.sum_cons, List.sum_nil]
      omega
theorem carry4 {a b c d n k : Int} (hk : k = 1 ∨ k = 2) : carryL web4 [a, b, c, d, n] "r" k "a" "b" "c" "d" = [a, b, c, d, (if k = 1 then lo4 a c b d else lo4 a d c b) + n - lo4 a b c d] := by
  unfold carryL loB loA putL
  obtain ⟨e1, e2, e3, e4, e5⟩ := vals4 a b c d n
  rw [e1, e2, e3, e4, e5, roads4]
  have e : n - lo4 a b c d + (if k = 1 then lo4 a c b d else lo4 a d c b) = (if k = 1 then lo4 a c b d else lo4 a d c b) + n - lo4 a b c d := by omega
  rw [e]
  rfl
theorem wide4 (room a b c d : Int) : hi4 room a c b d - lo4 a c b d = hi4 room a b c d - lo4 a b c d ∧ hi4 room a d c b - lo4 a d c b = hi4 room a b c d - lo4 a b c d := ⟨(span_eq _ _ _ _ _).symm, (span_eq2 _ _ _ _ _).symm⟩
theorem met3 (w : Int) : (firstMet (fun i => [w, w, w].getD i 0) 3).length = 1 := by
  unfold firstMet
  show (List.foldl step_dedup [] [w, w, w]).length = 1
  simp [List.foldl, step_dedup]
theorem span_par {room a b c d : Int} (r1 : room ≤ 1000000000000) (h : ∀ e ∈ [a, b, c, d], 0 ≤ e ∧ e ≤ room) (ev : (a + b + c + d) % 2 = 0) : (hi4 room a b c d - lo4 a b c d) % 2 = 0 := by
  have lo := lo4_or a b c d
  have hi := hi4_or room a b c d
  generalize lo4 a b c d = lo at *
  generalize hi4 room a b c d = hi at *
  omega
end Tc
namespace Tc
open PySem PySem.Spec PyProof.Rows L2 Fw Mw TL
def topS (i : Nat) : Stmt := PySem.Challenge.pw_threeroadcars_k14_whole_four_roads_three.main.body.getD i (.Pass ⟨0, 0, 0, 0⟩)
abbrev s_is_whole : Stmt := topS 11
abbrev N_is_whole : List Str := ["value"]
theorem sc_is_whole : FnScope ["value"] ["value"] (defScope s_is_whole) := ⟨rfl, rfl, rfl, by decide +kernel, rfl, by decide +kernel, by decide +kernel⟩
abbrev s_is_up_to : Stmt := topS 12
abbrev N_is_up_to : List Str := ["value", "greatest"]
theorem sc_is_up_to : FnScope ["value", "greatest"] ["value", "greatest"] (defScope s_is_up_to) := ⟨rfl, rfl, rfl, by decide +kernel, rfl, by decide +kernel, by decide +kernel⟩
abbrev s_is_name : Stmt := topS 13
abbrev N_is_name : List Str := ["value", "letter"]
theorem sc_is_name : FnScope ["value", "letter"] ["value"] (defScope s_is_name) := ⟨rfl, rfl, rfl, by decide +kernel, rfl, by decide +kernel, by decide +kernel⟩
abbrev s_check_room : Stmt := topS 14
abbrev N_check_room : List Str := ["room", "greatest"]
theorem sc_check_room : FnScope ["room", "greatest"] ["room", "greatest"] (defScope s_check_room) := ⟨rfl, rfl, rfl, by decide +kernel, rfl, by decide +kernel, by decide +kernel⟩
abbrev s_all_words : Stmt := topS 28
abbrev N_all_words : List Str := ["junctions", "words", "road"]
theorem sc_all_words : FnScope ["junctions", "words", "road"] ["junctions"] (defScope s_all_words) := ⟨rfl, rfl, rfl, by decide +kernel, rfl, by decide +kernel, by decide +kernel⟩
abbrev s_meeting_roads : Stmt := topS 29
abbrev N_meeting_roads : List Str := ["line", "words", "roads", "road"]
theorem sc_meeting_roads : FnScope ["line", "words", "roads", "road"] ["line"] (defScope s_meeting_roads) := ⟨rfl, rfl, rfl, by decide +kernel, rfl, by decide +kernel, by decide +kernel⟩
abbrev s_read_junctions : Stmt := topS 30
abbrev N_read_junctions : List Str := ["text", "lines", "junctions", "number", "line", "roads", "standing", "stands_too_often", "road"]
theorem sc_read_junctions : FnScope ["text", "lines", "junctions", "number", "line", "roads", "standing", "stands_too_often", "road"] ["text"] (defScope s_read_junctions) := ⟨rfl, rfl, rfl, by decide +kernel, rfl, by decide +kernel, by decide +kernel⟩
abbrev s_places_of : Stmt := topS 32
abbrev N_places_of : List Str := ["junctions", "road", "number", "words"]
theorem sc_places_of : FnScope ["junctions", "road", "number", "words"] ["junctions", "road"] (defScope s_places_of) := ⟨rfl, rfl, rfl, by decide +kernel, rfl, by decide +kernel, by decide +kernel⟩
abbrev s_reached : Stmt := topS 33
abbrev N_reached : List Str := ["junctions", "start", "closed", "found", "waiting", "here", "open_roads", "number", "words", "road"]
theorem sc_reached : FnScope ["junctions", "start", "closed", "found", "waiting", "here", "open_roads", "number", "words", "road"] ["junctions", "start", "closed"] (defScope s_reached) := ⟨rfl, rfl, rfl, by decide +kernel, rfl, by decide +kernel, by decide +kernel⟩
abbrev s_check_hanging_together : Stmt := topS 31
abbrev N_check_hanging_together : List Str := ["junctions", "found", "number"]
theorem sc_check_hanging_together : FnScope ["junctions", "found", "number"] ["junctions"] (defScope s_check_hanging_together) := ⟨rfl, rfl, rfl, by decide +kernel, rfl, by decide +kernel, by decide +kernel⟩
abbrev s_Web_init__ : Stmt := inClass (topS 27) 0
abbrev N_Web_init__ : List Str := ["self", "text", "junctions", "standing", "road"]
theorem sc_Web_init__ : FnScope ["self", "text", "junctions", "standing", "road"] ["self", "text"] (defScope s_Web_init__) := ⟨rfl, rfl, rfl, by decide +kernel, rfl, by decide +kernel, by decide +kernel⟩
abbrev s_text_of : Stmt := topS 34
abbrev N_text_of : List Str := ["junctions", "lines", "first", "second", "third"]
theorem sc_text_of : FnScope ["junctions", "lines", "first", "second", "third"] ["junctions"] (defScope s_text_of) := ⟨rfl, rfl, rfl, by decide +kernel, rfl, by decide +kernel, by decide +kernel⟩
abbrev s_numbers_at : Stmt := topS 16
abbrev N_numbers_at : List Str := ["web", "load", "borne", "road", "words"]
theorem sc_numbers_at : FnScope ["web", "load", "borne", "road", "words"] ["web", "load"] (defScope s_numbers_at) := ⟨rfl, rfl, rfl, by decide +kernel, rfl, by decide +kernel, by decide +kernel⟩
abbrev s_can_meet : Stmt := topS 17
abbrev N_can_meet : List Str := ["numbers", "total"]
theorem sc_can_meet : FnScope ["numbers", "total"] ["numbers"] (defScope s_can_meet) := ⟨rfl, rfl, rfl, by decide +kernel, rfl, by decide +kernel, by decide +kernel⟩
abbrev s_fits_some_room : Stmt := topS 18
abbrev N_fits_some_room : List Str := ["web", "load", "number", "numbers"]
theorem sc_fits_some_room : FnScope ["web", "load", "number", "numbers"] ["web", "load"] (defScope s_fits_some_room) := ⟨rfl, rfl, rfl, by decide +kernel, rfl, by decide +kernel, by decide +kernel⟩
abbrev s_least_fitting : Stmt := topS 19
abbrev N_least_fitting : List Str := ["web", "load", "numbers"]
theorem sc_least_fitting : FnScope ["web", "load", "numbers"] ["web", "load"] (defScope s_least_fitting) := ⟨rfl, rfl, rfl, by decide +kernel, rfl, by decide +kernel, by decide +kernel⟩
abbrev s_fits : Stmt := topS 20
abbrev N_fits : List Str := ["web", "room", "load"]
theorem sc_fits : FnScope ["web", "room", "load"] ["web", "room", "load"] (defScope s_fits) := ⟨rfl, rfl, rfl, by decide +kernel, rfl, by decide +kernel, by decide +kernel⟩
abbrev s_check_load : Stmt := topS 21
abbrev N_check_load : List Str := ["web", "room", "load"]
theorem sc_check_load : FnScope ["web", "room", "load"] ["web", "room", "load"] (defScope s_check_load) := ⟨rfl, rfl, rfl, by decide +kernel, rfl, by decide +kernel, by decide +kernel⟩
abbrev s_load_told : Stmt := topS 22
abbrev N_load_told : List Str := ["web", "numbers", "road"]
theorem sc_load_told : FnScope ["web", "numbers", "road"] ["web", "numbers"] (defScope s_load_told) := ⟨rfl, rfl, rfl, by decide +kernel, rfl, by decide +kernel, by decide +kernel⟩
abbrev s_can_flip : Stmt := topS 38
abbrev N_can_flip : List Str := ["junctions", "road"]
theorem sc_can_flip : FnScope ["junctions", "road"] ["junctions", "road"] (defScope s_can_flip) := ⟨rfl, rfl, rfl, by decide +kernel, rfl, by decide +kernel, by decide +kernel⟩
abbrev s_is_way : Stmt := topS 39
abbrev N_is_way : List Str := ["way"]
theorem sc_is_way : FnScope ["way"] ["way"] (defScope s_is_way) := ⟨rfl, rfl, rfl, by decide +kernel, rfl, by decide +kernel, by decide +kernel⟩
abbrev s_check_road : Stmt := topS 40
abbrev N_check_road : List Str := ["web", "road"]
theorem sc_check_road : FnScope ["web", "road"] ["web", "road"] (defScope s_check_road) := ⟨rfl, rfl, rfl, by decide +kernel, rfl, by decide +kernel, by decide +kernel⟩
abbrev s_check_way : Stmt := topS 41
abbrev N_check_way : List Str := ["way"]
theorem sc_check_way : FnScope ["way"] ["way"] (defScope s_check_way) := ⟨rfl, rfl, rfl, by decide +kernel, rfl, by decide +kernel, by decide +kernel⟩
abbrev s_words_beside : Stmt := topS 42
abbrev N_words_beside : List Str := ["junctions", "road", "lines", "number", "words", "word"]
theorem sc_words_beside : FnScope ["junctions", "road", "lines", "number", "words", "word"] ["junctions", "road"] (defScope s_words_beside) := ⟨rfl, rfl, rfl, by decide +kernel, rfl, by decide +kernel, by decide +kernel⟩
abbrev s_flipped_junctions : Stmt := topS 43
abbrev N_flipped_junctions : List Str := ["junctions", "road", "way", "first", "second", "x", "y", "z", "w", "lines"]
theorem sc_flipped_junctions : FnScope ["junctions", "road", "way", "first", "second", "x", "y", "z", "w", "lines"] ["junctions", "road", "way"] (defScope s_flipped_junctions) := ⟨rfl, rfl, rfl, by decide +kernel, rfl, by decide +kernel, by decide +kernel⟩
abbrev s_flipped : Stmt := topS 44
abbrev N_flipped : List Str := ["web", "road", "way"]
theorem sc_flipped : FnScope ["web", "road", "way"] ["web", "road", "way"] (defScope s_flipped) := ⟨rfl, rfl, rfl, by decide +kernel, rfl, by decide +kernel, by decide +kernel⟩
abbrev s_range_beside : Stmt := topS 45
abbrev N_range_beside : List Str := ["junctions", "room", "numbers", "road", "x", "y", "z", "w", "least", "greatest", "word"]
theorem sc_range_beside : FnScope ["junctions", "room", "numbers", "road", "x", "y", "z", "w", "least", "greatest", "word"] ["junctions", "room", "numbers", "road"] (defScope s_range_beside) := ⟨rfl, rfl, rfl, by decide +kernel, rfl, by decide +kernel, by decide +kernel⟩
abbrev s_beside : Stmt := topS 46
abbrev N_beside : List Str := ["web", "room", "load", "road"]
theorem sc_beside : FnScope ["web", "room", "load", "road"] ["web", "room", "load", "road"] (defScope s_beside) := ⟨rfl, rfl, rfl, by decide +kernel, rfl, by decide +kernel, by decide +kernel⟩
abbrev s_numbers_behind : Stmt := topS 47
abbrev N_numbers_behind : List Str := ["ahead", "behind", "room", "numbers", "road", "least_ahead", "least_behind"]
theorem sc_numbers_behind : FnScope ["ahead", "behind", "room", "numbers", "road", "least_ahead", "least_behind"] ["ahead", "behind", "room", "numbers", "road"] (defScope s_numbers_behind) := ⟨rfl, rfl, rfl, by decide +kernel, rfl, by decide +kernel, by decide +kernel⟩
abbrev s_carried : Stmt := topS 48
abbrev N_carried : List Str := ["web", "room", "load", "road", "way", "behind", "numbers"]
theorem sc_carried : FnScope ["web", "room", "load", "road", "way", "behind", "numbers"] ["web", "room", "load", "road", "way"] (defScope s_carried) := ⟨rfl, rfl, rfl, by decide +kernel, rfl, by decide +kernel, by decide +kernel⟩
abbrev s_law_pot : Stmt := topS 50
abbrev N_law_pot : List Str := ["script", "place", "cell", "own", "small"]
theorem sc_law_pot : FnScope ["script", "place", "cell", "own", "small"] ["script", "place"] (defScope s_law_pot) := ⟨rfl, rfl, rfl, by decide +kernel, rfl, by decide +kernel, by decide +kernel⟩
abbrev s_law_take : Stmt := topS 51
abbrev N_law_take : List Str := ["pot", "upto", "digit", "prime", "blend"]
theorem sc_law_take : FnScope ["pot", "upto", "digit", "prime", "blend"] ["pot", "upto"] (defScope s_law_take) := ⟨rfl, rfl, rfl, by decide +kernel, rfl, by decide +kernel, by decide +kernel⟩
abbrev s_law_of : Stmt := topS 52
abbrev N_law_of : List Str := ["pot", "some"]
theorem sc_law_of : FnScope ["pot", "some"] ["pot", "some"] (defScope s_law_of) := ⟨rfl, rfl, rfl, by decide +kernel, rfl, by decide +kernel, by decide +kernel⟩
abbrev s_law_cells : Stmt := topS 53
abbrev N_law_cells : List Str := ["script", "most"]
theorem sc_law_cells : FnScope ["script", "most"] ["script", "most"] (defScope s_law_cells) := ⟨rfl, rfl, rfl, by decide +kernel, rfl, by decide +kernel, by decide +kernel⟩
abbrev s_law_numbers : Stmt := topS 54
abbrev N_law_numbers : List Str := ["pot", "room", "some", "lap", "any_one"]
theorem sc_law_numbers : FnScope ["pot", "room", "some", "lap", "any_one"] ["pot"] (defScope s_law_numbers) := ⟨rfl, rfl, rfl, by decide +kernel, rfl, by decide +kernel, by decide +kernel⟩
abbrev s_law_span : Stmt := topS 55
abbrev N_law_span : List Str := ["room", "one", "other", "third", "last", "low"]
theorem sc_law_span : FnScope ["room", "one", "other", "third", "last", "low"] ["room", "one", "other", "third", "last"] (defScope s_law_span) := ⟨rfl, rfl, rfl, by decide +kernel, rfl, by decide +kernel, by decide +kernel⟩
abbrev s_law_is_round_right : Stmt := topS 56
abbrev N_law_is_round_right : List Str := ["web", "room", "load", "way", "here", "number", "at", "many", "lap", "low", "high"]
theorem sc_law_is_round_right : FnScope ["web", "room", "load", "way", "here", "number", "at", "many", "lap", "low", "high"] ["web", "room", "load", "way"] (defScope s_law_is_round_right) := ⟨rfl, rfl, rfl, by decide +kernel, rfl, by decide +kernel, by decide +kernel⟩
abbrev s_law_right : Stmt := topS 57
abbrev N_law_right : List Str := ["pot", "room", "a", "b", "c", "d", "spans", "web", "low", "high", "number", "load", "way", "due"]
theorem sc_law_right : FnScope ["pot", "room", "a", "b", "c", "d", "spans", "web", "low", "high", "number", "load", "way", "due"] ["pot"] (defScope s_law_right) := ⟨rfl, rfl, rfl, by decide +kernel, rfl, by decide +kernel, by decide +kernel⟩
abbrev s_law : Stmt := topS 58
abbrev N_law : List Str := ["script", "place"]
theorem sc_law : FnScope ["script", "place"] ["script"] (defScope s_law) := ⟨rfl, rfl, rfl, by decide +kernel, rfl, by decide +kernel, by decide +kernel⟩
structure Txt (K : PySem.W.Frag) (mg : Str → Option Value) (CW : Addr) : Prop where
  z_isinstance : mg "isinstance" = none
  z_bool : mg "bool" = none
  z_int : mg "int" = none
  z_all : mg "all" = none
  z_len : mg "len" = none
  z_str : mg "str" = none
  z_tuple : mg "tuple" = none
  z_enumerate : mg "enumerate" = none
  z_any : mg "any" = none
  z_range : mg "range" = none
  z_sorted : mg "sorted" = none
  z_set : mg "set" = none
  z_dict : mg "dict" = none
  z_zip : mg "zip" = none
  z_sum : mg "sum" = none
  z_max : mg "max" = none
  z_min : mg "min" = none
  z_list : mg "list" = none
  z_abs : mg "abs" = none
  z_repr : mg "repr" = none
  c_LETTERS : ∃ t, mg "LETTERS" = some (.str "abcdefghijklmnopqrstuvwxyz" t)
  c_LONGEST_NAME : ∃ t, mg "LONGEST_NAME" = some (.int 6 t)
  c_FIRST_WORD : ∃ t, mg "FIRST_WORD" = some (.str "meet" t)
  c_FIRST_LINE : ∃ t, mg "FIRST_LINE" = some (.str "web" t)
  c_MOST_JUNCTIONS : ∃ t, mg "MOST_JUNCTIONS" = some (.int 12 t)
  c_FIRST_WAY : ∃ t, mg "FIRST_WAY" = some (.int 1 t)
  c_SECOND_WAY : ∃ t, mg "SECOND_WAY" = some (.int 2 t)
  m_Web : mg "Web" = some (.ref CW)
  cl : Cls K CW
  n_text : NoAttr K CW "text"
  n_junctions : NoAttr K CW "junctions"
  n_roads : NoAttr K CW "roads"
  n_inner : NoAttr K CW "inner"
  n_ends : NoAttr K CW "ends"
  n_rounds : NoAttr K CW "rounds"
end Tc
namespace Tc
open PySem PySem.Spec PyProof.Rows L2 Fw Mw TL
local macro_rules | `(tactic| wtm_at "z_ne") => `(tactic| first | assumption | (apply Ne.symm; assumption) | omega)
local macro_rules | `(tactic| wtm_at "z_hp") => `(tactic| first | assumption | exact upd_same | (refine (upd_ne ?_).trans ?_; (focus wtm_at "z_ne"); wtm_at "z_hp"))
local macro_rules | `(tactic| wtm_at "z_sq") => `(tactic| first | assumption | (exact .inl (.inl (by wtm_at "z_hp"))))
local macro_rules | `(tactic| wtm_at "z_side") => `(tactic| first | assumption | omega | (simp only []; omega) | exact ⟨by omega, by omega⟩ | exact ⟨by omega, by omega, by omega⟩ | exact .inl ⟨by omega, by omega⟩ | exact .inr ⟨by omega, by omega⟩ | decide)
local macro_rules | `(tactic| wtm_at "z") => `(tactic| first
  | refine ⟨_, rfl, ?_⟩
  | refine ⟨_, _, rfl, rfl, ?_⟩
  | refine And.intro (by wtm_at "z_side") ?_
  | refine .inl ⟨_, rfl, ?_⟩
  | refine ⟨_, _, _, _, rfl, rfl, (by wtm_at "z_sq"), (by first | rfl | assumption), ?_⟩
  | refine ⟨_, _, _, _, rfl, rfl, (by wtm_at "z_hp"), (by first | rfl | assumption), ?_⟩)
local macro_rules | `(tactic| wtm_at "zb") => `(tactic| dsimp only [L2.tCB, L2.tCons, L2.tNil, L2.tC])
local macro_rules | `(tactic| wtm_at "sl") => `(tactic| dsimp only [start_one, start_two, start_three, start_four, start_five, List.length_cons, List.length_nil, Nat.reduceAdd, Nat.reduceSub, List.reduceReplicate, List.set_cons_succ, List.set_cons_zero])
section
variable {P : Program} {w : World} {K : PySem.W.Frag} {mg : Str → Option Value} {base : Heap} {CW : Addr}
theorem ok_is_whole (F : FunAt K mg "is_whole" s_is_whole ["value"]) (T : Txt K mg CW)  : Cal P w K mg base CX0 "is_whole" 1 ["value"] [] (sp_is_whole K CW) := by
  obtain ⟨f, fd, F, mgf, bf⟩ := F
  refine ⟨f, fd, [], ?_, mgf, F.kp, bf, .nil⟩
  refine F.ok sc_is_whole (fun vs H Q E h => by obtain ⟨_, rfl, _⟩ := h; rfl) (fun cdv A outer s H vs Q E hr h => ?_)
  refine ⟨_, (pss_one (ps_ret (pe_and (pe_callB (call_isiK' K rfl) (by rfl) T.z_isinstance (by decide +kernel) (pa_cons (pv 0) (pa_cons (pe_bltn (v := .ty "int") (u := .type "int") (by rfl) T.z_int (by decide +kernel) rfl) pa_nil))) (pe_one (pe_not (pe_callB (call_isiK' K rfl) (by rfl) T.z_isinstance (by decide +kernel) (pa_cons (pv 0) (pa_cons (pe_bltn (v := .ty "bool") (u := .type "bool") (by rfl) T.z_bool (by decide +kernel) rfl) pa_nil)))))))), ?_⟩
  obtain ⟨x0, rfl, h⟩ := h
  obtain ⟨i, rfl, q⟩ := h
  refine ⟨_, rfl, ?_⟩
  wtm_at "zb"
  refine isi_int (b := true) (by decide +kernel) ?_
  refine ⟨_, rfl, iteT ?_⟩
  refine ⟨_, rfl, ?_⟩
  wtm_at "zb"
  refine isi_int (b := false) (by decide +kernel) ?_
  exact ⟨_, rfl, q⟩
end
end Tc
namespace Tc
open PySem PySem.Spec PyProof.Rows L2 Fw Mw TL
local macro_rules | `(tactic| wtm_at "z_ne") => `(tactic| first | assumption | (apply Ne.symm; assumption) | omega)
local macro_rules | `(tactic| wtm_at "z_hp") => `(tactic| first | assumption | exact upd_same | (refine (upd_ne ?_).trans ?_; (focus wtm_at "z_ne"); wtm_at "z_hp"))
local macro_rules | `(tactic| wtm_at "z_sq") => `(tactic| first | assumption | (exact .inl (.inl (by wtm_at "z_hp"))))
local macro_rules | `(tactic| wtm_at "z_side") => `(tactic| first | assumption | omega | (simp only []; omega) | exact ⟨by omega, by omega⟩ | exact ⟨by omega, by omega, by omega⟩ | exact .inl ⟨by omega, by omega⟩ | exact .inr ⟨by omega, by omega⟩ | decide)
local macro_rules | `(tactic| wtm_at "z") => `(tactic| first
  | refine ⟨_, rfl, ?_⟩
  | refine ⟨_, _, rfl, rfl, ?_⟩
  | refine And.intro (by wtm_at "z_side") ?_
  | refine .inl ⟨_, rfl, ?_⟩
  | refine ⟨_, _, _, _, rfl, rfl, (by wtm_at "z_sq"), (by first | rfl | assumption), ?_⟩
  | refine ⟨_, _, _, _, rfl, rfl, (by wtm_at "z_hp"), (by first | rfl | assumption), ?_⟩)
local macro_rules | `(tactic| wtm_at "zb") => `(tactic| dsimp only [L2.tCB, L2.tCons, L2.tNil, L2.tC])
local macro_rules | `(tactic| wtm_at "sl") => `(tactic| dsimp only [start_one, start_two, start_three, start_four, start_five, List.length_cons, List.length_nil, Nat.reduceAdd, Nat.reduceSub, List.reduceReplicate, List.set_cons_succ, List.set_cons_zero])
section
variable {P : Program} {w : World} {K : PySem.W.Frag} {mg : Str → Option Value} {base : Heap} {CW : Addr}
theorem ok_is_up_to (F : FunAt K mg "is_up_to" s_is_up_to ["value", "greatest"]) (T : Txt K mg CW) (C_is_whole : Cal P w K mg base CX0 "is_whole" 1 ["value"] [] (sp_is_whole K CW)) : Cal P w K mg base CX0 "is_up_to" 2 ["value", "greatest"] [] (sp_is_up_to K CW) := by
  obtain ⟨f, fd, F, mgf, bf⟩ := F
  obtain ⟨f_is_whole, fd_is_whole, ds_is_whole, G_is_whole, m_is_whole, k_is_whole, b_is_whole, d_is_whole⟩ := C_is_whole
  refine ⟨f, fd, [], ?_, mgf, F.kp, bf, .nil⟩
  refine F.ok sc_is_up_to (fun vs H Q E h => by obtain ⟨_, _, rfl, _⟩ := h; rfl) (fun cdv A outer s H vs Q E hr h => ?_)
  refine ⟨_, (pss_one (ps_ret (pe_and (pe_call G_is_whole (hr.mono (by decide)) (by rfl) m_is_whole k_is_whole b_is_whole d_is_whole pass0 (pa_cons (pv 0) pa_nil)) (pe_one (pe_chain op_le op_le pe_int (pv 0) (pv 1)))))), ?_⟩
  obtain ⟨x0, x1, rfl, h⟩ := h
  obtain ⟨i, g, rfl, rfl, h0, h1, q⟩ := h
  refine ⟨_, rfl, _, rfl, i, rfl, _, rfl, iteT (B := True) ?_⟩
  refine ⟨_, rfl, _, _, rfl, rfl, _, rfl, ?_⟩
  rw [decide_eq_true h0]
  refine iteT (B := True) ⟨_, rfl, _, _, rfl, rfl, ?_⟩
  show Q (.bl (decide (i ≤ g))) H
  rw [decide_eq_true h1]
  exact q
end
end Tc
namespace Tc
open PySem PySem.Spec PyProof.Rows L2 Fw Mw TL
local macro_rules | `(tactic| wtm_at "z_ne") => `(tactic| first | assumption | (apply Ne.symm; assumption) | omega)
local macro_rules | `(tactic| wtm_at "z_hp") => `(tactic| first | assumption | exact upd_same | (refine (upd_ne ?_).trans ?_; (focus wtm_at "z_ne"); wtm_at "z_hp"))
local macro_rules | `(tactic| wtm_at "z_sq") => `(tactic| first | assumption | (exact .inl (.inl (by wtm_at "z_hp"))))
local macro_rules | `(tactic| wtm_at "z_side") => `(tactic| first | assumption | omega | (simp only []; omega) | exact ⟨by omega, by omega⟩ | exact ⟨by omega, by omega, by omega⟩ | exact .inl ⟨by omega, by omega⟩ | exact .inr ⟨by omega, by omega⟩ | decide)
local macro_rules | `(tactic| wtm_at "z") => `(tactic| first
  | refine ⟨_, rfl, ?_⟩
  | refine ⟨_, _, rfl, rfl, ?_⟩
  | refine And.intro (by wtm_at "z_side") ?_
  | refine .inl ⟨_, rfl, ?_⟩
  | refine ⟨_, _, _, _, rfl, rfl, (by wtm_at "z_sq"), (by first | rfl | assumption), ?_⟩
  | refine ⟨_, _, _, _, rfl, rfl, (by wtm_at "z_hp"), (by first | rfl | assumption), ?_⟩)
local macro_rules | `(tactic| wtm_at "zb") => `(tactic| dsimp only [L2.tCB, L2.tCons, L2.tNil, L2.tC])
local macro_rules | `(tactic| wtm_at "sl") => `(tactic| dsimp only [start_one, start_two, start_three, start_four, start_five, List.length_cons, List.length_nil, Nat.reduceAdd, Nat.reduceSub, List.reduceReplicate, List.set_cons_succ, List.set_cons_zero])
section
variable {P : Program} {w : World} {K : PySem.W.Frag} {mg : Str → Option Value} {base : Heap} {CW : Addr}
theorem ok_is_name (F : FunAt K mg "is_name" s_is_name ["value"]) (T : Txt K mg CW)  : Cal P w K mg base CX0 "is_name" 1 ["value"] [] (sp_is_name K CW) := by
  obtain ⟨f, fd, F, mgf, bf⟩ := F
  obtain ⟨t_LETTERS, c_LETTERS⟩ := T.c_LETTERS
  obtain ⟨t_LONGEST_NAME, c_LONGEST_NAME⟩ := T.c_LONGEST_NAME
  refine ⟨f, fd, [], ?_, mgf, F.kp, bf, .nil⟩
  refine F.ok sc_is_name (fun vs H Q E h => by obtain ⟨_, rfl, _⟩ := h; rfl) (fun cdv A outer s H vs Q E hr h => ?_)
  refine ⟨_, (pss_one (ps_ret (pe_and (pe_callB (call_isiK' K rfl) (by rfl) T.z_isinstance (by decide +kernel) (pa_cons (pv 0) (pa_cons (pe_bltn (v := .ty "str") (u := .type "str") (by rfl) T.z_str (by decide +kernel) rfl) pa_nil))) (pe_and (pe_chain op_le op_le pe_int (pe_callB call_len_str (by rfl) T.z_len (by decide +kernel) (pa_cons (pv 0) pa_nil)) (pe_glob (v := .int (6)) rfl c_LONGEST_NAME ⟨_, rfl⟩)) (pe_one (pe_callB (cr_allK K rfl rfl) (by rfl) T.z_all (by decide +kernel) (pa_cons (pe_lc (own := [("letter", 1)]) rfl sc_is_name.nd (pi_str (pv 0)) (blkOk_by (own := [("letter", 1)]) (N := N_is_name) (sc := defScope s_is_name) (by decide +kernel)) (fun _ _ _ _ _ => (pg_name (i := 1) sc_is_name.nd rfl (.inl rfl))) (fun _ _ _ _ _ => pts_nil) (fun _ _ _ _ _ => (pe_cmpR op_in_sign (pv 1) (pe_glob (v := .str "abcdefghijklmnopqrstuvwxyz") rfl c_LETTERS ⟨_, rfl⟩) rfl))) pa_nil))))))), ?_⟩
  obtain ⟨x0, rfl, h⟩ := h
  obtain ⟨z, rfl, hz, q⟩ := h
  have hz2 : z.length ≤ sizeLine := Nat.le_trans hz (by decide)
  refine ⟨_, rfl, ?_⟩
  wtm_at "zb"
  refine isi_str ⟨true, rfl, iteT ?_⟩
  refine ⟨_, rfl, z, rfl, hz2, _, _, rfl, rfl, _, rfl, ite2 (fun e => ?_) (fun e => ?_)⟩
  · have e1 : 1 ≤ z.length := by
      have := of_decide_eq_true e
      omega
    refine ⟨_, _, rfl, rfl, _, rfl, ite2 (fun e => ?_) (fun e => ?_)⟩
    · have e2 : z.length ≤ 6 := by
        have := of_decide_eq_true e
        omega
      refine ⟨_, rfl, z, rfl, fun D hD => ?_⟩
      refine lc_flat walk_str (fun _ _ => trivial) hD (fun _ => true) (fun i => .bl (decide ((tl z).getD i 0 ∈ tl letters))) ?_ (fun _ => rfl) (fun i x hi hx => ⟨fun H1 _ Q q => q H1 (Evl.Ex.refl H1), fun _ => ?_⟩) (fun H1 sm e3 => ?_)
      · have : z.cps.size = z.length := rfl
        omega
      · obtain ⟨c, hc, rfl⟩ := hx
        have ec : (tl z).getD i 0 = c := getD_of (by rw [Array.getElem?_toList]; exact hc)
        rw [ec]
        exact Evl.ev_op (Evl.ev_var rfl) Evl.ev_c (Evl.rv_val fun H1 _ Q q => ⟨c, _, rfl, rfl, q⟩)
      · have ez : z.cps.size = (tl z).length := by simp
        rw [ez, given_all (tl z) 0 (fun c => V.bl (decide (c ∈ tl letters)))] at e3
        refine ⟨D, (tl z).map (fun c => decide (c ∈ tl letters)), rfl, .inl (.inl (by rw [List.map_map]; exact e3)), ?_⟩
        have eq : isName z = ((tl z).map (fun c => decide (c ∈ tl letters))).all id := by
          unfold isName
          rw [decide_eq_true e1, decide_eq_true e2, List.all_map] <;> rfl
        rw [← eq]
        exact q _ sm
    · have e2 : ¬ z.length ≤ 6 := fun h => e (decide_eq_true (by omega))
      have eq : isName z = false := by
        unfold isName
        rw [decide_eq_false e2, Bool.and_false, Bool.false_and]
      have := q H (Same.refl H)
      rw [eq] at this
      exact this
  · have e2 : ¬ 1 ≤ z.length := fun h => e (decide_eq_true (by omega))
    have eq : isName z = false := by
      unfold isName
      rw [decide_eq_false e2, Bool.false_and, Bool.false_and]
    refine ⟨false, rfl, iteF ?_⟩
    have := q H (Same.refl H)
    rw [eq] at this
    exact this
end
end Tc
namespace Tc
open PySem PySem.Spec PyProof.Rows L2 Fw Mw TL
local macro_rules | `(tactic| wtm_at "z_ne") => `(tactic| first | assumption | (apply Ne.symm; assumption) | omega)
local macro_rules | `(tactic| wtm_at "z_hp") => `(tactic| first | assumption | exact upd_same | (refine (upd_ne ?_).trans ?_; (focus wtm_at "z_ne"); wtm_at "z_hp"))
local macro_rules | `(tactic| wtm_at "z_sq") => `(tactic| first | assumption | (exact .inl (.inl (by wtm_at "z_hp"))))
local macro_rules | `(tactic| wtm_at "z_side") => `(tactic| first | assumption | omega | (simp only []; omega) | exact ⟨by omega, by omega⟩ | exact ⟨by omega, by omega, by omega⟩ | exact .inl ⟨by omega, by omega⟩ | exact .inr ⟨by omega, by omega⟩ | decide)
local macro_rules | `(tactic| wtm_at "z") => `(tactic| first
  | refine ⟨_, rfl, ?_⟩
  | refine ⟨_, _, rfl, rfl, ?_⟩
  | refine And.intro (by wtm_at "z_side") ?_
  | refine .inl ⟨_, rfl, ?_⟩
  | refine ⟨_, _, _, _, rfl, rfl, (by wtm_at "z_sq"), (by first | rfl | assumption), ?_⟩
  | refine ⟨_, _, _, _, rfl, rfl, (by wtm_at "z_hp"), (by first | rfl | assumption), ?_⟩)
local macro_rules | `(tactic| wtm_at "zb") => `(tactic| dsimp only [L2.tCB, L2.tCons, L2.tNil, L2.tC])
local macro_rules | `(tactic| wtm_at "sl") => `(tactic| dsimp only [start_one, start_two, start_three, start_four, start_five, List.length_cons, List.length_nil, Nat.reduceAdd, Nat.reduceSub, List.reduceReplicate, List.set_cons_succ, List.set_cons_zero])
section
variable {P : Program} {w : World} {K : PySem.W.Frag} {mg : Str → Option Value} {base : Heap} {CW : Addr}
theorem ok_check_room (F : ∃ f fd, FunD K "check_room" "check_room" (defArgs s_check_room) (defBody s_check_room) (defScope s_check_room) [V.int 1000000000000] [] f fd ∧ mg "check_room" = some (.ref f) ∧ ∃ ds, Vals [V.int 1000000000000] ds ∧ Binds K fd ["room", "greatest"] ds) (T : Txt K mg CW) (C_is_up_to : Cal P w K mg base CX0 "is_up_to" 2 ["value", "greatest"] [] (sp_is_up_to K CW)) : Cal P w K mg base CX0 "check_room" 3 ["room", "greatest"] [V.int 1000000000000] (sp_check_room K CW) := by
  obtain ⟨f, fd, F, mgf, ds, rd, bf⟩ := F
  obtain ⟨f_is_up_to, fd_is_up_to, ds_is_up_to, G_is_up_to, m_is_up_to, k_is_up_to, b_is_up_to, d_is_up_to⟩ := C_is_up_to
  refine ⟨f, fd, ds, ?_, mgf, F.kp, bf, rd⟩
  refine F.ok sc_check_room (fun vs H Q E h => by obtain ⟨_, _, rfl, _⟩ := h; rfl) (fun cdv A outer s H vs Q E hr h => ?_)
  refine ⟨_, (pss_one (ps_if (pt_not (pt_val (pe_call G_is_up_to (hr.mono (by decide)) (by rfl) m_is_up_to k_is_up_to b_is_up_to d_is_up_to pass0 (pa_cons (pv 0) (pa_cons (pv 1) pa_nil))))) (pss_one ps_never) pss_nil)), ?_⟩
  obtain ⟨x0, x1, rfl, h⟩ := h
  obtain ⟨i, g, rfl, rfl, h0, h1, q⟩ := h
  refine ⟨_, rfl, _, rfl, _, _, rfl, i, g, rfl, rfl, h0, h1, _, rfl, ?_⟩
  exact iteF (A := True) q
end
end Tc
namespace Tc
open PySem PySem.Spec PyProof.Rows L2 Fw Mw TL
local macro_rules | `(tactic| wtm_at "z_ne") => `(tactic| first | assumption | (apply Ne.symm; assumption) | omega)
local macro_rules | `(tactic| wtm_at "z_hp") => `(tactic| first | assumption | exact upd_same | (refine (upd_ne ?_).trans ?_; (focus wtm_at "z_ne"); wtm_at "z_hp"))
local macro_rules | `(tactic| wtm_at "z_sq") => `(tactic| first | assumption | (exact .inl (.inl (by wtm_at "z_hp"))))
local macro_rules | `(tactic| wtm_at "z_side") => `(tactic| first | assumption | omega | (simp only []; omega) | exact ⟨by omega, by omega⟩ | exact ⟨by omega, by omega, by omega⟩ | exact .inl ⟨by omega, by omega⟩ | exact .inr ⟨by omega, by omega⟩ | decide)
local macro_rules | `(tactic| wtm_at "z") => `(tactic| first
  | refine ⟨_, rfl, ?_⟩
  | refine ⟨_, _, rfl, rfl, ?_⟩
  | refine And.intro (by wtm_at "z_side") ?_
  | refine .inl ⟨_, rfl, ?_⟩
  | refine ⟨_, _, _, _, rfl, rfl, (by wtm_at "z_sq"), (by first | rfl | assumption), ?_⟩
  | refine ⟨_, _, _, _, rfl, rfl, (by wtm_at "z_hp"), (by first | rfl | assumption), ?_⟩)
local macro_rules | `(tactic| wtm_at "zb") => `(tactic| dsimp only [L2.tCB, L2.tCons, L2.tNil, L2.tC])
local macro_rules | `(tactic| wtm_at "sl") => `(tactic| dsimp only [start_one, start_two, start_three, start_four, start_five, List.length_cons, List.length_nil, Nat.reduceAdd, Nat.reduceSub, List.reduceReplicate, List.set_cons_succ, List.set_cons_zero])
section
variable {P : Program} {w : World} {K : PySem.W.Frag} {mg : Str → Option Value} {base : Heap} {CW : Addr}
theorem ok_all_words (F : FunAt K mg "all_words" s_all_words ["junctions"]) (T : Txt K mg CW)  : Cal P w K mg base CX0 "all_words" 1 ["junctions"] [] (sp_all_words K CW) := by
  obtain ⟨f, fd, F, mgf, bf⟩ := F
  refine ⟨f, fd, [], ?_, mgf, F.kp, bf, .nil⟩
  refine F.ok sc_all_words (fun vs H Q E h => by obtain ⟨_, rfl, _⟩ := h; rfl) (fun cdv A outer s H vs Q E hr h => ?_)
  refine ⟨_, (pss_one (ps_ret (pe_lc2 (own := [("words", 1), ("road", 2)]) (vs1 := [2]) rfl sc_all_words.nd (pi_seqK K rfl (pv 0)) (blkOk_by (own := [("words", 1), ("road", 2)]) (N := N_all_words) (sc := defScope s_all_words) (by decide +kernel)) (by decide) (fun _ _ _ _ _ => (pg_name (i := 1) sc_all_words.nd rfl (.inl rfl))) (fun _ _ _ _ _ => pts_nil) (fun _ _ _ _ _ => (pi_tupK K rfl (pv 1))) (fun _ _ _ _ _ => (pg_name (i := 2) sc_all_words.nd rfl (.inl rfl))) (fun _ _ _ _ _ => pts_nil) (fun _ _ _ _ _ => (pv 2))))), ?_⟩
  obtain ⟨x0, rfl, h⟩ := h
  obtain ⟨G, js, hG, hx, hl, q⟩ := h
  obtain ⟨a, ts, rfl, hs, hp⟩ : ∃ a ts, x0 = .ref a ∧ (SqL K H a ts ∨ SqT K H a ts) ∧ Paired (rT K rS G) ts js := by
    rcases hx with ⟨a, ts, h1, h2, h3⟩ | ⟨a, ts, h1, h2, h3⟩
    · exact ⟨a, ts, h1, .inl (hG.seq h2), h3⟩
    · exact ⟨a, ts, h1, .inr (seqT hG h2), h3⟩
  have el := pLen hp
  refine ⟨_, rfl, ?_⟩
  refine ⟨a, rfl, hs.imp (fun h => ⟨⟨_, h⟩, fun D hD => ?_⟩) (fun h => ⟨⟨_, h⟩, fun D hD => ?_⟩)⟩
  all_goals
    refine lc2_out (by first | exact walk_list.mono (fun H' e => Same.seq e h) fun _ _ _ _ _ _ y => y | exact walk_tup.mono (fun H' e => seqT e h) fun _ _ _ _ _ _ y => y) (fun i H' => Same H H' ∧ H' D = some (.lst ((js.take i).flatten.map V.str))) _ ⟨same_upd hD, upd_same⟩ (fun i H' _ p => p.1) (fun i x H2 H3 hi p y => ?_) (fun H2 p => ?_)
    · obtain ⟨rfl, hx⟩ := y
      obtain ⟨r, hr, b, ts2, rfl, h2, h3⟩ := pAt hp hx
      have e2 := pS h3
      subst e2
      refine ⟨rfl, iteT (B := True) ?_⟩
      refine ⟨_, rfl, b, rfl, ⟨_, seqT (hG.trans p.1) h2⟩, ?_⟩
      refine lc2_in walk_tup (fun j H' => Same H H' ∧ H' D = some (.lst (((js.take i).flatten ++ r.take j).map V.str))) ?_ (fun j H' _ p' => seqT (hG.trans p'.1) h2) (fun j x H4 H5 hj p' y' => ?_) (fun H4 p' => ?_)
      · simpa using p
      · obtain ⟨rfl, hx'⟩ := y'
        obtain ⟨z, hz, rfl⟩ := map_at hx'
        have lt := (List.getElem?_eq_some_iff.mp hr).1
        have big : ((js.take i).flatten ++ r.take j).length ≤ 1000 := by
          have h5 := take_flat js i r hr
          have h6 : (js.take (i + 1)).flatten.length ≤ js.flatten.length := by
            have h7 := congrArg List.flatten (List.take_append_drop (i + 1) js)
            rw [List.flatten_append] at h7
            rw [← h7, List.length_append]
            omega
          rw [h5] at h6
          rw [List.length_append] at h6 ⊢
          have h8 : (r.take j).length ≤ r.length := by rw [List.length_take]; omega
          omega
        refine ⟨rfl, iteT (B := True) ⟨_, rfl, _, p'.2, small1000' (by rw [List.length_map]; omega), ?_, ?_⟩⟩
        · exact fun c o e => by
            rw [upd_ne (ne_of_none e hD)]
            exact p'.1 c o e
        · rw [upd_same, take_snoc hz, ← List.append_assoc]; simp only [List.map_append]
          rfl
      · rw [List.length_map, List.take_length, ← take_flat js i r hr] at p'
        exact p'
    · have e3 : js.take ts.length = js := by rw [el]; exact List.take_length
      rw [e3] at p
      have gD : G D = none := hG.free hD
      have g1 : Go [] G H G H2 := ⟨Same.refl G, hG.trans p.1, fun c o _ e => p.1 c o e, fun _ _ e => e, fun c e => by
        cases z : H c with
        | none => exact absurd z e
        | some o => rw [p.1 c o z]; exact fun z => nomatch z⟩
      exact q _ _ _ (g1.frz hD p.2 gD) (rLs.mpr ⟨D, rfl, .inl (.inl upd_same)⟩)
end
end Tc
namespace Tc
open PySem PySem.Spec PyProof.Rows L2 Fw Mw TL
local macro_rules | `(tactic| wtm_at "z_ne") => `(tactic| first | assumption | (apply Ne.symm; assumption) | omega)
local macro_rules | `(tactic| wtm_at "z_hp") => `(tactic| first | assumption | exact upd_same | (refine (upd_ne ?_).trans ?_; (focus wtm_at "z_ne"); wtm_at "z_hp"))
local macro_rules | `(tactic| wtm_at "z_sq") => `(tactic| first | assumption | (exact .inl (.inl (by wtm_at "z_hp"))))
local macro_rules | `(tactic| wtm_at "z_side") => `(tactic| first | assumption | omega | (simp only []; omega) | exact ⟨by omega, by omega⟩ | exact ⟨by omega, by omega, by omega⟩ | exact .inl ⟨by omega, by omega⟩ | exact .inr ⟨by omega, by omega⟩ | decide)
local macro_rules | `(tactic| wtm_at "z") => `(tactic| first
  | refine ⟨_, rfl, ?_⟩
  | refine ⟨_, _, rfl, rfl, ?_⟩
  | refine And.intro (by wtm_at "z_side") ?_
  | refine .inl ⟨_, rfl, ?_⟩
  | refine ⟨_, _, _, _, rfl, rfl, (by wtm_at "z_sq"), (by first | rfl | assumption), ?_⟩
  | refine ⟨_, _, _, _, rfl, rfl, (by wtm_at "z_hp"), (by first | rfl | assumption), ?_⟩)
local macro_rules | `(tactic| wtm_at "zb") => `(tactic| dsimp only [L2.tCB, L2.tCons, L2.tNil, L2.tC])
local macro_rules | `(tactic| wtm_at "sl") => `(tactic| dsimp only [start_one, start_two, start_three, start_four, start_five, List.length_cons, List.length_nil, Nat.reduceAdd, Nat.reduceSub, List.reduceReplicate, List.set_cons_succ, List.set_cons_zero])
section
variable {P : Program} {w : World} {K : PySem.W.Frag} {mg : Str → Option Value} {base : Heap} {CW : Addr}
theorem ok_meeting_roads (F : FunAt K mg "meeting_roads" s_meeting_roads ["line"]) (T : Txt K mg CW) (C_is_name : Cal P w K mg base CX0 "is_name" 1 ["value"] [] (sp_is_name K CW)) : Cal P w K mg base CX0 "meeting_roads" 2 ["line"] [] (sp_meeting_roads K CW) := by
  obtain ⟨f, fd, F, mgf, bf⟩ := F
  obtain ⟨f_is_name, fd_is_name, ds_is_name, G_is_name, m_is_name, k_is_name, b_is_name, d_is_name⟩ := C_is_name
  obtain ⟨t_FIRST_WORD, c_FIRST_WORD⟩ := T.c_FIRST_WORD
  refine ⟨f, fd, [], ?_, mgf, F.kp, bf, .nil⟩
  refine F.ok sc_meeting_roads (fun vs H Q E h => by obtain ⟨_, rfl, _⟩ := h; rfl) (fun cdv A outer s H vs Q E hr h => ?_)
  refine ⟨_, (pss_cons (ps_set (i := 1) sc_meeting_roads.nd rfl (.inl rfl) (pe_split (pv 0) pe_str))
      (pss_cons (ps_set (i := 2) sc_meeting_roads.nd rfl (.inl rfl) (pe_callTy (call_tuple_ofK K rfl) (by rfl) T.z_tuple (by decide +kernel) (pa_cons (pe_slice (sl_listK K rfl) (pv 1) (po_some pe_int) po_none) pa_nil)))
      (pss_cons (ps_if (PW.pt (pw_and (pt_cmpR op_eq (pe_ix (ix_listK K rfl) (pv 1) pe_int (fun _ _ => rfl)) (pe_glob (v := .str "meet") rfl c_FIRST_WORD ⟨_, rfl⟩) (nomark _)) (pw_and (pt_cmpR op_eq (pe_callB (call_len_seqK K rfl) (by rfl) T.z_len (by decide +kernel) (pa_cons (pv 2) pa_nil)) pe_int (nomark _)) (pw_and1 (pt_val (pe_callB (cr_allK K rfl rfl) (by rfl) T.z_all (by decide +kernel) (pa_cons (pe_lc (own := [("road", 3)]) rfl sc_meeting_roads.nd (pi_tupK K rfl (pv 2)) (blkOk_by (own := [("road", 3)]) (N := N_meeting_roads) (sc := defScope s_meeting_roads) (by decide +kernel)) (fun _ _ _ _ _ => (pg_name (i := 3) sc_meeting_roads.nd rfl (.inl rfl))) (fun _ _ _ _ _ => pts_nil) (fun _ _ _ _ _ => (pe_call G_is_name (hr.mono (by decide)) (by rfl) m_is_name k_is_name b_is_name d_is_name pass0 (pa_cons (pv 3) pa_nil)))) pa_nil))))))) (pss_one (ps_ret (pv 2))) pss_nil)
      (pss_one (ps_ret (pe_tup pa_nil)))))), ?_⟩
  obtain ⟨x0, rfl, h⟩ := h
  obtain ⟨G, r, hG, rfl, hr, q⟩ := h
  refine ⟨_, rfl, ?_⟩
  wtm_at "zb"
  refine ⟨⟨_, rfl⟩, _, _, rfl, rfl, by decide +kernel, ?_, ?_⟩
  · have h1 := row_len hr
    exact Nat.le_trans (Nat.add_le_add_right h1 2) (by decide)
  intro p1 hp1
  have es : Txt.split (rowText r) (" " : Str) = ("meet" : Str) :: r := row_split hr
  rw [es]
  obtain ⟨a, b, c, rfl⟩ : ∃ a b c, r = [a, b, c] := by
    have h1 := hr.len
    match r, h1 with
    | [a, b, c], _ => exact ⟨a, b, c, rfl⟩
  refine ⟨_, rfl, ?_⟩
  wtm_at "zb"
  refine ⟨_, rfl, ?_⟩
  refine ⟨p1, _, rfl, SqL.of upd_same, ?_⟩
  intro p2 hp2
  obtain ⟨n21, hq2⟩ := upd_none.mp hp2
  refine ⟨p2, [.str a, .str b, .str c], rfl, .inl ⟨SqL.of upd_same, fun p3 hp3 => ?_⟩⟩
  obtain ⟨n32, hp3'⟩ := upd_none.mp hp3
  obtain ⟨n31, hq3⟩ := upd_none.mp hp3'
  refine ⟨_, rfl, ?_⟩
  wtm_at "zb"
  refine ⟨p1, _, _, _, rfl, rfl, (by wtm_at "z_sq"), rfl, ?_⟩
  refine ⟨rfl, _, rfl, iteT ?_⟩
  refine ⟨_, rfl, ?_⟩
  wtm_at "zb"
  refine ⟨p3, [.str a, .str b, .str c], rfl, .inr (by wtm_at "z_sq"), ?_⟩
  refine ⟨rfl, _, rfl, iteT ?_⟩
  generalize hx : upd (upd (upd H p1 _) p2 _) p3 _ = Hx
  have t3 : SqT K Hx p3 ([a, b, c].map V.str) := hx ▸ SqT.of upd_same
  have s3 : Same H Hx := hx ▸ ((same_upd hp1).trans (same_upd hp2)).trans (same_upd hp3)
  refine ⟨_, rfl, ?_⟩
  refine ⟨p3, rfl, ⟨_, t3⟩, fun D hD => ?_⟩
  refine lc_flat (walk_tup.mono (fun H' e => seqT e t3) fun _ _ _ _ _ _ y => y) (fun _ e => e) hD (fun _ => true) (fun _ => .bl true) (by rw [List.length_map]; simp) (fun _ => rfl) (fun i x hi hx => ⟨fun H1 _ Q q => q H1 (Evl.Ex.refl H1), fun _ => ?_⟩) (fun H1 sm e3 => ?_)
  · obtain ⟨z, hz, rfl⟩ := map_at hx
    have hn := hr.names z (List.mem_of_getElem? hz)
    refine fun H1 _ Q q => ⟨_, rfl, ?_⟩
    refine ⟨_, rfl, _, rfl, Nat.le_trans (name_len hn).2 (by decide), fun H2 e => ?_⟩
    rw [hn]
    exact q H2 e
  · refine ⟨D, [true, true, true], rfl, .inl (.inl e3), ?_⟩
    refine ⟨_, rfl, iteT (B := True) ?_⟩
    refine ⟨_, rfl, ?_⟩
    subst hx
    exact q _ _ _ (((((Go.ref0 hG).tmp hp1).tmp hp2).new hp3).grow sm) (rTs.mpr ⟨p3, rfl, SqT.of upd_same⟩)
end
end Tc
namespace Tc
open PySem PySem.Spec PyProof.Rows L2 Fw Mw TL
local macro_rules | `(tactic| wtm_at "z_ne") => `(tactic| first | assumption | (apply Ne.symm; assumption) | omega)
local macro_rules | `(tactic| wtm_at "z_hp") => `(tactic| first | assumption | exact upd_same | (refine (upd_ne ?_).trans ?_; (focus wtm_at "z_ne"); wtm_at "z_hp"))
local macro_rules | `(tactic| wtm_at "z_sq") => `(tactic| first | assumption | (exact .inl (.inl (by wtm_at "z_hp"))))
local macro_rules | `(tactic| wtm_at "z_side") => `(tactic| first | assumption | omega | (simp only []; omega) | exact ⟨by omega, by omega⟩ | exact ⟨by omega, by omega, by omega⟩ | exact .inl ⟨by omega, by omega⟩ | exact .inr ⟨by omega, by omega⟩ | decide)
local macro_rules | `(tactic| wtm_at "z") => `(tactic| first
  | refine ⟨_, rfl, ?_⟩
  | refine ⟨_, _, rfl, rfl, ?_⟩
  | refine And.intro (by wtm_at "z_side") ?_
  | refine .inl ⟨_, rfl, ?_⟩
  | refine ⟨_, _, _, _, rfl, rfl, (by wtm_at "z_sq"), (by first | rfl | assumption), ?_⟩
  | refine ⟨_, _, _, _, rfl, rfl, (by wtm_at "z_hp"), (by first | rfl | assumption), ?_⟩)
local macro_rules | `(tactic| wtm_at "zb") => `(tactic| dsimp only [L2.tCB, L2.tCons, L2.tNil, L2.tC])
local macro_rules | `(tactic| wtm_at "sl") => `(tactic| dsimp only [start_one, start_two, start_three, start_four, start_five, List.length_cons, List.length_nil, Nat.reduceAdd, Nat.reduceSub, List.reduceReplicate, List.set_cons_succ, List.set_cons_zero])
section
variable {P : Program} {w : World} {K : PySem.W.Frag} {mg : Str → Option Value} {base : Heap} {CW : Addr}
theorem ok_read_junctions (F : FunAt K mg "read_junctions" s_read_junctions ["text"]) (T : Txt K mg CW) (C_meeting_roads : Cal P w K mg base CX0 "meeting_roads" 2 ["line"] [] (sp_meeting_roads K CW)) (C_all_words : Cal P w K mg base CX0 "all_words" 1 ["junctions"] [] (sp_all_words K CW)) : Cal P w K mg base CX0 "read_junctions" 3 ["text"] [] (sp_read_junctions K CW) := by
  obtain ⟨f, fd, F, mgf, bf⟩ := F
  obtain ⟨f_meeting_roads, fd_meeting_roads, ds_meeting_roads, G_meeting_roads, m_meeting_roads, k_meeting_roads, b_meeting_roads, d_meeting_roads⟩ := C_meeting_roads
  obtain ⟨f_all_words, fd_all_words, ds_all_words, G_all_words, m_all_words, k_all_words, b_all_words, d_all_words⟩ := C_all_words
  obtain ⟨t_FIRST_LINE, c_FIRST_LINE⟩ := T.c_FIRST_LINE
  obtain ⟨t_MOST_JUNCTIONS, c_MOST_JUNCTIONS⟩ := T.c_MOST_JUNCTIONS
  refine ⟨f, fd, [], ?_, mgf, F.kp, bf, .nil⟩
  refine F.ok sc_read_junctions (fun vs H Q E h => by obtain ⟨_, rfl, _⟩ := h; rfl) (fun cdv A outer s H vs Q E hr h => ?_)
  refine ⟨_, (pss_cons (ps_if (pt_not (pt_val (pe_callB (call_isiK' K rfl) (by rfl) T.z_isinstance (by decide +kernel) (pa_cons (pv 0) (pa_cons (pe_bltn (v := .ty "str") (u := .type "str") (by rfl) T.z_str (by decide +kernel) rfl) pa_nil))))) (pss_one ps_never) pss_nil)
      (pss_cons (ps_set (i := 1) sc_read_junctions.nd rfl (.inl rfl) (pe_split (pv 0) pe_str))
      (pss_cons (ps_if (pt_cmpR op_ne (pe_ix (ix_listK K rfl) (pv 1) pe_int (fun _ _ => rfl)) (pe_glob (v := .str "web") rfl c_FIRST_LINE ⟨_, rfl⟩) (nomark _)) (pss_one ps_never) pss_nil)
      (pss_cons (ps_set (i := 2) sc_read_junctions.nd rfl (.inl rfl) (pe_lst pa_nil))
      (pss_cons (ps_for PassesOwn.never rfl (pi_enumSK K rfl (by decide) (by decide) (by rfl) T.z_enumerate (pa_cons (pe_slice (sl_listK K rfl) (pv 1) (po_some pe_int) po_none) pa_nil)) (pg_tupK (n := 2) K rfl rfl (pgs_cons (pg_name (i := 3) sc_read_junctions.nd rfl (.inl rfl)) (pgs_cons (pg_name (i := 4) sc_read_junctions.nd rfl (.inl rfl)) pgs_nil))) (pss_cons (ps_set (i := 5) sc_read_junctions.nd rfl (.inl rfl) (pe_call G_meeting_roads (hr.mono (by decide)) (by rfl) m_meeting_roads k_meeting_roads b_meeting_roads d_meeting_roads pass0 (pa_cons (pv 4) pa_nil)))
      (pss_cons (ps_set (i := 6) sc_read_junctions.nd rfl (.inr rfl) (pe_call G_all_words (hr.mono (by decide)) (by rfl) m_all_words k_all_words b_all_words d_all_words pass0 (pa_cons (pe_lst (pa_starK K rfl (pv 2) (pa_cons (pv 5) pa_nil))) pa_nil)))
      (pss_cons (ps_set (i := 7) sc_read_junctions.nd rfl (.inl rfl) (pe_callB (cr_anyK K rfl rfl) (by rfl) T.z_any (by decide +kernel) (pa_cons (pe_lc (own := [("road", 8)]) rfl sc_read_junctions.nd (pi_tupK K rfl (pv 5)) (blkOk_by (own := [("road", 8)]) (N := N_read_junctions) (sc := defScope s_read_junctions) (by decide +kernel)) (fun _ _ _ _ _ => (pg_name (i := 8) sc_read_junctions.nd rfl (.inl rfl))) (fun _ _ _ _ _ => pts_nil) (fun _ _ _ _ _ => (pe_cmpR op_gt (pe_bmK K rfl PySem.F.plainAttrs_list PySem.F.slot_list_count PySem.F.type_list_count (mt_lcountSK K rfl) (pv 6) (pa_cons (pv 8) pa_nil)) pe_int (nomark _)))) pa_nil)))
      (pss_cons (ps_if (PW.pt (pw_or (pt_not (pt_truthK K rfl (pv 5) (by intro _; rfl))) (pw_or (pt_val (pv 7)) (pw_or1 (pt_cmpR op_eq (pe_callB (call_len_seqK K rfl) (by rfl) T.z_len (by decide +kernel) (pa_cons (pv 2) pa_nil)) (pe_glob (v := .int (12)) rfl c_MOST_JUNCTIONS ⟨_, rfl⟩) (nomark _)))))) (pss_one ps_never) pss_nil)
      (pss_one (ps_expr (pe_bmK K rfl PySem.F.plainAttrs_list PySem.F.slot_list_append PySem.F.type_list_append mt_append (pv 2) (pa_cons (pv 5) pa_nil)))))))))
      (pss_cons (ps_if (pt_not (pt_truthK K rfl (pv 2) (by intro _; rfl))) (pss_one ps_never) pss_nil)
      (pss_one (ps_ret (pe_callTy (call_tuple_ofK K rfl) (by rfl) T.z_tuple (by decide +kernel) (pa_cons (pv 2) pa_nil)))))))))), ?_⟩
  obtain ⟨x0, rfl, h⟩ := h
  obtain ⟨G, js, hG, rfl, hj, q⟩ := h
  refine ⟨_, rfl, ?_⟩
  wtm_at "zb"
  refine isi_str ⟨true, rfl, iteF (A := True) ?_⟩
  refine ⟨_, rfl, ?_⟩
  wtm_at "zb"
  refine ⟨⟨_, rfl⟩, _, _, rfl, rfl, by decide +kernel, ?_, ?_⟩
  · have h1 := web_len hj.rows
    have h2 := hj.most
    have h3 : (js.length + 1) * 29 ≤ 400 := by omega
    exact Nat.le_trans (Nat.add_le_add_right (Nat.le_trans h1 h3) 2) (by decide)
  intro p1 hp1
  have es : Txt.split (webText js) ("\n" : Str) = ("web" : Str) :: js.map rowText := web_split hj.rows
  rw [es]
  refine ⟨_, rfl, ?_⟩
  wtm_at "zb"
  refine ⟨p1, _, _, _, rfl, rfl, (by wtm_at "z_sq"), (atI_nat (j := 0) rfl), ?_⟩
  refine ⟨rfl, _, rfl, iteF (A := True) ?_⟩
  refine ⟨by decide, fun pj hpj => ?_⟩
  obtain ⟨nj1, hqj⟩ := upd_none.mp hpj
  refine ⟨_, rfl, _, rfl, ?_⟩
  refine ⟨p1, _, rfl, (by wtm_at "z_sq"), fun p2 hp2 => ?_⟩
  obtain ⟨n2j, hp2'⟩ := upd_none.mp hp2
  obtain ⟨n21, hq2⟩ := upd_none.mp hp2'
  have c1 : cutV (("web" : Str) :: js.map rowText |>.map V.str) (some 1) none = (js.map rowText).map V.str := cut_from1 _ _
  rw [c1]
  have goX := (((Go.ref0 hG).tmp hp1).tmp hpj).tmp (o := .lst ((js.map rowText).map V.str)) hp2
  have xj : upd (upd (upd H p1 (.lst ((("web" : Str) :: js.map rowText).map V.str))) pj (.lst [])) p2 (.lst ((js.map rowText).map V.str)) pj = some (.lst []) := by wtm_at "z_hp"
  have x2 : upd (upd (upd H p1 (.lst ((("web" : Str) :: js.map rowText).map V.str))) pj (.lst [])) p2 (.lst ((js.map rowText).map V.str)) p2 = some (.lst ((js.map rowText).map V.str)) := upd_same
  have gj : G pj = none := hG.free hqj
  generalize upd (upd (upd H p1 (.lst ((("web" : Str) :: js.map rowText).map V.str))) pj (.lst [])) p2 (.lst ((js.map rowText).map V.str)) = Hx at goX xj x2 ⊢
  refine ⟨p2, _, rfl, SqL.of x2, ?_⟩
  refine for_it Yr.walk_num (fun i σ H' => (∃ x3 x4 x5 x6 x7, σ = [some (.str (webText js)), some (.ref p1), some (.ref pj), x3, x4, x5, x6, x7, none]) ∧ ∃ G' ts, Go [] G H G' H' ∧ H' p2 = some (.lst ((js.map rowText).map V.str)) ∧ G' pj = none ∧ H' pj = some (.lst ts) ∧ Paired (rT K rS G') ts (js.take i)) ⟨⟨_, _, _, _, _, rfl⟩, G, [], goX, x2, gj, xj, .nil⟩ (fun i σ H' _ ⟨_, _, _, _, h, _⟩ => SqL.of h) ?_ ?_
  · rintro i x σ H1 H2 hi ⟨⟨x3, x4, x5, x6, x7, rfl⟩, G1, ts, go1, h2, gj1, hj1, pr⟩ ⟨T, y1, y2, rfl, hT, rfl, e1, e2⟩
    obtain rfl := Option.some.inj e1
    have e2' : ((js.map rowText).map V.str)[i]? = some y2 := e2
    obtain ⟨z, hz, rfl⟩ := map_at e2'
    obtain ⟨r, hr', rfl⟩ := map_at hz
    have hil : i < js.length := (List.getElem?_eq_some_iff.mp hr').1
    have hmem : r ∈ js := List.mem_of_getElem? hr'
    have go2 := go1.tmp (o := .tup [.int (2 + (i : Nat)), .str (rowText r)]) hT
    have hj2 : upd H1 T (.tup [.int (2 + (i : Nat)), .str (rowText r)]) pj = some (.lst ts) := (upd_ne (ne_of_none hj1 hT)).trans hj1
    have h22 : upd H1 T (.tup [.int (2 + (i : Nat)), .str (rowText r)]) p2 = some (.lst ((js.map rowText).map V.str)) := (upd_ne (ne_of_none h2 hT)).trans h2
    have hT2 : SqT K (upd H1 T (.tup [.int (2 + (i : Nat)), .str (rowText r)])) T [.int (2 + (i : Nat)), .str (rowText r)] := SqT.of upd_same
    generalize upd H1 T (.tup [.int (2 + (i : Nat)), .str (rowText r)]) = H2 at go2 hj2 h22 hT2 ⊢
    refine ⟨T, _, rfl, hT2, rfl, _, _, rfl, _, _, rfl, rfl, ?_⟩
    refine ⟨_, rfl, ?_⟩
    wtm_at "zb"
    refine ⟨_, rfl, G1, r, go2.h, rfl, hj.rows r hmem, fun v5 G3 H3 go3 hv5 => ?_⟩
    have hj3 := go3.to hj2
    have h23 := go3.to h22
    have gj3 := go3.none hj2 gj1
    refine ⟨_, rfl, pj, ts, rfl, .inr (SqL.of hj3), _, rfl, ?_⟩
    wtm_at "zb"
    have lts : ts.length = i := by rw [pLen pr, List.length_take]; omega
    have hm := hj.most
    refine ⟨?_, fun pn hpn => ?_⟩
    · have : (ts ++ [v5]).length ≤ 1000 := by
        rw [List.length_append, List.length_singleton]
        omega
      exact Nat.le_trans this (by decide)
    have go4 := (go2.trans go3).new (o := .lst (ts ++ [v5])) hpn
    have pr4 : Paired (rT K rS (upd G3 pn (.lst (ts ++ [v5])))) (ts ++ [v5]) (js.take (i + 1)) := by
      rw [take_snoc hr']
      have s1 : Same G3 (upd G3 pn (.lst (ts ++ [v5]))) := same_upd ((go2.trans go3).gnone hpn)
      exact pSnoc (L2.Paired.mapP pr fun _ _ z => Mo.up (go3.g.trans s1) z) (Mo.up s1 hv5)
    have fl : (js.take (i + 1)).flatten.length ≤ 1000 := by
      have h1 : ∀ l : Rows, (∀ x ∈ l, x.length = 3) → l.flatten.length = 3 * l.length := by
        intro l
        induction l with
        | nil => intro _; rfl
        | cons x l ih =>
          intro h
          rw [List.flatten_cons, List.length_append, List.length_cons, ih fun y hy => h y (List.mem_cons_of_mem _ hy), h x List.mem_cons_self]
          omega
      rw [h1 _ fun x hx => (hj.rows x (List.mem_of_mem_take hx)).len, List.length_take]
      omega
    refine ⟨_, rfl, _, js.take (i + 1), go4.h, .inl ⟨pn, _, rfl, SqL.of upd_same, pr4⟩, fl, fun v6 G4 H4 go5 hv6 => ?_⟩
    obtain ⟨a6, rfl, h6⟩ := rLs.mp hv6
    have hj4 : H4 pj = some (.lst ts) := go5.to ((upd_ne (ne_of_none hj3 hpn)).trans hj3)
    have h24 := go5.to ((upd_ne (ne_of_none h23 hpn)).trans h23)
    have gj4 : G4 pj = none := go5.none ((upd_ne (ne_of_none hj3 hpn)).trans hj3) ((upd_ne (ne_of_none hj3 hpn)).trans gj3)
    have go6 := go4.trans go5
    have pr5 := L2.Paired.mapP pr4 fun _ _ z => Mo.up go5.g z
    have cnt : ∀ z, (js.take (i + 1)).flatten.count z ≤ 2 := fun z => by
      refine Nat.le_trans ?_ (hj.twice z)
      have h7 := congrArg List.flatten (List.take_append_drop (i + 1) js)
      rw [List.flatten_append] at h7
      rw [← h7, List.count_append]
      omega
    have hv5' : rT K rS H4 v5 r := Mo.up go6.h (Mo.up (Same.trans (same_upd ((go2.trans go3).gnone hpn)) go5.g) hv5)
    obtain ⟨a5, ts5, rfl, hs5, hp5⟩ := hv5'
    obtain rfl := pS hp5
    have h64 := go6.h.seq h6
    refine ⟨_, rfl, ?_⟩
    refine ⟨a5, rfl, ⟨_, hs5⟩, fun D hD => ?_⟩
    refine lc_flat (walk_tup.mono (fun H' e => seqT e hs5) fun _ _ _ _ _ _ y => y) (fun _ e => e) hD (fun _ => true) (fun _ => .bl false) ?_ (fun _ => rfl) (fun j x hj' hx => ⟨fun H1 _ Q q => q H1 (Evl.Ex.refl H1), fun _ => ?_⟩) (fun H5 sm e3 => ?_)
    · rw [List.length_map, (hj.rows r hmem).len]
      decide
    · obtain ⟨z, hz, rfl⟩ := map_at hx
      refine fun H1 e Q q => ⟨_, rfl, .inl ⟨rfl, _, Same.seq e h64⟩, _, rfl, ?_⟩
      wtm_at "zb"
      refine ⟨a6, _, z, rfl, rfl, Same.seq e h64, ?_⟩
      refine ⟨_, _, rfl, rfl, ?_⟩
      have e9 : decide ((2 : Int) < ((js.take (i + 1)).flatten.count z : Nat)) = false := decide_eq_false (by have := cnt z; omega)
      show Q (.bl (decide ((2 : Int) < ((js.take (i + 1)).flatten.count z : Nat)))) H1
      rw [e9]
      exact q H1 (Evl.Ex.refl H1)
    · rw [List.length_map, (hj.rows r hmem).len] at e3
      refine ⟨D, [false, false, false], rfl, .inl (.inl e3), ?_⟩
      refine ⟨_, rfl, ?_⟩
      refine ⟨true, .inr (.inl ⟨_, seqT sm hs5, ?_⟩), iteF (A := True) ?_⟩
      · cases r with
        | nil => exact absurd (hj.rows [] hmem).len (by decide)
        | cons _ _ => rfl
      refine ⟨_, rfl, false, rfl, iteF (A := True) ?_⟩
      refine ⟨_, rfl, ?_⟩
      wtm_at "zb"
      refine ⟨pj, ts, rfl, .inl (SqL.of (sm _ _ hj4)), ?_⟩
      refine ⟨rfl, _, rfl, ?_⟩
      rw [decide_eq_false (fun h => by have := V.int.inj h; omega)]
      refine iteF (A := True) ?_
      refine ⟨_, rfl, .inl ⟨rfl, _, SqL.of (sm _ _ hj4)⟩, _, rfl, ?_⟩
      wtm_at "zb"
      refine ⟨pj, ts, .ref a5, rfl, rfl, sm _ _ hj4, ?_, ?_⟩
      · exact Nat.lt_of_le_of_lt (m := 12) (by omega) (by decide)
      have go7 := (go6.grow sm).mut (p := pj) (o := .lst (ts ++ [.ref a5])) gj4 (.inl hqj)
      refine ⟨⟨_, _, _, _, _, rfl⟩, G4, ts ++ [.ref a5], go7, ?_, gj4, upd_same, pr5⟩
      exact (upd_ne n2j).trans (sm _ _ h24)
  · rintro σ H1 ⟨⟨x3, x4, x5, x6, x7, rfl⟩, G1, ts, go1, h2, gj1, hj1, pr⟩
    have lts : ts.length = js.length := by
      rw [pLen pr, List.length_take, List.length_map, List.length_map]
      omega
    have hj1' : SqL K H1 pj ts := SqL.of hj1
    have nt : ts ≠ [] := fun z => by
      rw [z] at lts
      exact hj.some (List.length_eq_zero_iff.mp lts.symm)
    refine ⟨_, rfl, true, .inl ⟨_, hj1', ?_⟩, iteF (A := True) ?_⟩
    · cases ts with
      | nil => exact absurd rfl nt
      | cons _ _ => rfl
    refine ⟨_, rfl, ?_⟩
    wtm_at "zb"
    refine ⟨pj, ts, rfl, .inl ⟨hj1', fun l hl => ?_⟩⟩
    rw [List.length_map, List.length_map, List.take_length] at pr
    refine q _ _ _ (go1.new (o := .tup ts) hl) ⟨l, ts, rfl, SqT.of upd_same, L2.Paired.mapP pr fun _ _ z => Mo.up (same_upd (go1.gnone hl)) z⟩
end
end Tc
namespace Tc
open PySem PySem.Spec PyProof.Rows L2 Fw Mw TL
local macro_rules | `(tactic| wtm_at "z_ne") => `(tactic| first | assumption | (apply Ne.symm; assumption) | omega)
local macro_rules | `(tactic| wtm_at "z_hp") => `(tactic| first | assumption | exact upd_same | (refine (upd_ne ?_).trans ?_; (focus wtm_at "z_ne"); wtm_at "z_hp"))
local macro_rules | `(tactic| wtm_at "z_sq") => `(tactic| first | assumption | (exact .inl (.inl (by wtm_at "z_hp"))))
local macro_rules | `(tactic| wtm_at "z_side") => `(tactic| first | assumption | omega | (simp only []; omega) | exact ⟨by omega, by omega⟩ | exact ⟨by omega, by omega, by omega⟩ | exact .inl ⟨by omega, by omega⟩ | exact .inr ⟨by omega, by omega⟩ | decide)
local macro_rules | `(tactic| wtm_at "z") => `(tactic| first
  | refine ⟨_, rfl, ?_⟩
  | refine ⟨_, _, rfl, rfl, ?_⟩
  | refine And.intro (by wtm_at "z_side") ?_
  | refine .inl ⟨_, rfl, ?_⟩
  | refine ⟨_, _, _, _, rfl, rfl, (by wtm_at "z_sq"), (by first | rfl | assumption), ?_⟩
  | refine ⟨_, _, _, _, rfl, rfl, (by wtm_at "z_hp"), (by first | rfl | assumption), ?_⟩)
local macro_rules | `(tactic| wtm_at "zb") => `(tactic| dsimp only [L2.tCB, L2.tCons, L2.tNil, L2.tC])
local macro_rules | `(tactic| wtm_at "sl") => `(tactic| dsimp only [start_one, start_two, start_three, start_four, start_five, List.length_cons, List.length_nil, Nat.reduceAdd, Nat.reduceSub, List.reduceReplicate, List.set_cons_succ, List.set_cons_zero])
section
variable {P : Program} {w : World} {K : PySem.W.Frag} {mg : Str → Option Value} {base : Heap} {CW : Addr}
theorem ok_places_of (F : FunAt K mg "places_of" s_places_of ["junctions", "road"]) (T : Txt K mg CW)  : Cal P w K mg base CX0 "places_of" 1 ["junctions", "road"] [] (sp_places_of K CW) := by
  obtain ⟨f, fd, F, mgf, bf⟩ := F
  refine ⟨f, fd, [], ?_, mgf, F.kp, bf, .nil⟩
  refine F.ok sc_places_of (fun vs H Q E h => by obtain ⟨_, _, rfl, _⟩ := h; rfl) (fun cdv A outer s H vs Q E hr h => ?_)
  refine ⟨_, (pss_one (ps_ret (pe_lc (own := [("number", 2), ("words", 3)]) rfl sc_places_of.nd (pi_enumTK K rfl (by rfl) T.z_enumerate (pa_cons (pv 0) pa_nil)) (blkOk_by (own := [("number", 2), ("words", 3)]) (N := N_places_of) (sc := defScope s_places_of) (by decide +kernel)) (fun _ _ _ _ _ => (pg_tupK (n := 2) K rfl rfl (pgs_cons (pg_name (i := 2) sc_places_of.nd rfl (.inl rfl)) (pgs_cons (pg_name (i := 3) sc_places_of.nd rfl (.inl rfl)) pgs_nil)))) (fun _ _ _ _ _ => (pts_one (pt_cmpR (op_in_seqK K rfl) (pv 1) (pv 3) rfl))) (fun _ _ _ _ _ => (pv 2))))), ?_⟩
  obtain ⟨x0, x1, rfl, h⟩ := h
  obtain ⟨G, js, z, hG, hx, rfl, hm, q⟩ := h
  obtain ⟨aj, ts, rfl, hs, hp⟩ := hx
  refine ⟨_, rfl, aj, ts, rfl, seqT hG hs, fun D hD => ?_⟩
  refine lc_pair (Yr.walk_num (xs := ts)) (fun H' e => seqT (hG.trans e) hs) hD (fun j => decide (z ∈ js.getD j [])) (fun j => .int (j : Nat)) ?_ (fun _ _ => rfl) (fun i x y hi hx hy => ?_) (fun H1 sm e3 => ?_)
  · have := pLen hp
    omega
  · obtain rfl := Option.some.inj hx
    obtain ⟨r, hr, b, us, rfl, hs2, hp2⟩ := pAt hp hy
    obtain rfl := pS hp2
    rw [getD_of hr]
    refine ⟨fun H1 ex Q q => ?_, fun _ => ?_⟩
    · refine ⟨_, rfl, _, rfl, b, _, rfl, .inr (seqT (hG.trans ex) hs2), rfl, by rw [List.all_map]; exact List.all_eq_true.mpr fun _ _ => rfl, _, rfl, ?_⟩
      show Q (inV (.str z) (r.map V.str)) H1
      rw [inV_str]
      exact q H1 (Evl.Ex.refl H1)
    · refine fun H1 ex Q q => ⟨_, rfl, ?_⟩
      rw [Int.zero_add]
      exact q H1 (Evl.Ex.refl H1)
  have e4 : H1 D = some (.lst ((sidesOf js z).map fun (n : Nat) => V.int n)) := by
    rw [pLen hp] at e3
    exact e3
  have go1 := (Go.ref0 hG).grow sm
  refine q _ _ _ (go1.frz hD e4 (hG.free hD)) ⟨D, _, rfl, SqL.of upd_same, ?_⟩
  rw [show ((sidesOf js z).map fun (n : Nat) => V.int n) = ((sidesOf js z).map fun (n : Nat) => (n : Int)).map V.int from by rw [List.map_map]; rfl]
  exact iP _
end
end Tc
namespace Tc
open PySem PySem.Spec PyProof.Rows L2 Fw Mw TL
local macro_rules | `(tactic| wtm_at "z_ne") => `(tactic| first | assumption | (apply Ne.symm; assumption) | omega)
local macro_rules | `(tactic| wtm_at "z_hp") => `(tactic| first | assumption | exact upd_same | (refine (upd_ne ?_).trans ?_; (focus wtm_at "z_ne"); wtm_at "z_hp"))
local macro_rules | `(tactic| wtm_at "z_sq") => `(tactic| first | assumption | (exact .inl (.inl (by wtm_at "z_hp"))))
local macro_rules | `(tactic| wtm_at "z_side") => `(tactic| first | assumption | omega | (simp only []; omega) | exact ⟨by omega, by omega⟩ | exact ⟨by omega, by omega, by omega⟩ | exact .inl ⟨by omega, by omega⟩ | exact .inr ⟨by omega, by omega⟩ | decide)
local macro_rules | `(tactic| wtm_at "z") => `(tactic| first
  | refine ⟨_, rfl, ?_⟩
  | refine ⟨_, _, rfl, rfl, ?_⟩
  | refine And.intro (by wtm_at "z_side") ?_
  | refine .inl ⟨_, rfl, ?_⟩
  | refine ⟨_, _, _, _, rfl, rfl, (by wtm_at "z_sq"), (by first | rfl | assumption), ?_⟩
  | refine ⟨_, _, _, _, rfl, rfl, (by wtm_at "z_hp"), (by first | rfl | assumption), ?_⟩)
local macro_rules | `(tactic| wtm_at "zb") => `(tactic| dsimp only [L2.tCB, L2.tCons, L2.tNil, L2.tC])
local macro_rules | `(tactic| wtm_at "sl") => `(tactic| dsimp only [start_one, start_two, start_three, start_four, start_five, List.length_cons, List.length_nil, Nat.reduceAdd, Nat.reduceSub, List.reduceReplicate, List.set_cons_succ, List.set_cons_zero])
section
variable {P : Program} {w : World} {K : PySem.W.Frag} {mg : Str → Option Value} {base : Heap} {CW : Addr}
theorem ok_reached (F : ∃ f fd Te, FunD K "reached" "reached" (defArgs s_reached) (defBody s_reached) (defScope s_reached) [.ref Te] [] f fd ∧ mg "reached" = some (.ref f) ∧ Binds K fd ["junctions", "start", "closed"] [] ∧ ∃ ds, Vals [V.ref Te] ds ∧ Binds K fd ["junctions", "start", "closed"] ds ∧ ∀ H, SqT K H Te []) (T : Txt K mg CW)  : ReachedAt P w K mg base CW 1 := by
  obtain ⟨f, fd, Te, F, mgf, bf, ds, rd2, bf2, te⟩ := F
  refine ⟨f, fd, ?_, mgf, F.kp, bf, Te, ds, bf2, rd2, te⟩
  refine F.ok sc_reached (fun vs H Q E h => by obtain ⟨_, _, _, rfl, _⟩ := h; rfl) (fun cdv A outer s H vs Q E hr h => ?_)
  refine ⟨_, (pss_cons (ps_set (i := 3) sc_reached.nd rfl (.inl rfl) (pe_disp (pps_cons (pv 1) pe_bl pps_nil) (by rfl) (by rfl) (fun z => by cases z) (by decide)))
      (pss_cons (ps_set (i := 4) sc_reached.nd rfl (.inl rfl) (pe_lst (pa_cons (pv 1) pa_nil)))
      (pss_cons (ps_while (passes_of rfl) (pt_truthK K rfl (pv 4) (by intro _; rfl)) (pss_cons (ps_set (i := 5) sc_reached.nd rfl (.inl rfl) (pe_bm0K K rfl PySem.F.plainAttrs_list PySem.F.slot_list_pop PySem.F.type_list_pop mt_pop (pv 4)))
      (pss_cons (ps_set (i := 6) sc_reached.nd rfl (.inr rfl) (pe_lc (own := [("road", 9)]) rfl sc_reached.nd (pi_tupK K rfl (pe_ix (ix_tupK K rfl) (pv 0) (pv 5) (fun _ _ => rfl))) (blkOk_by (own := [("road", 9)]) (N := N_reached) (sc := defScope s_reached) (by decide +kernel)) (fun _ _ _ _ _ => (pg_name (i := 9) sc_reached.nd rfl (.inl rfl))) (fun _ _ _ _ _ => (pts_one (pt_cmpR (op_notIn_seqK K rfl) (pv 9) (pv 2) rfl))) (fun _ _ _ _ _ => (pv 9))))
      (pss_one (ps_for (passes_of rfl) rfl (pi_enumTK K rfl (by rfl) T.z_enumerate (pa_cons (pv 0) pa_nil)) (pg_tupK (n := 2) K rfl rfl (pgs_cons (pg_name (i := 7) sc_reached.nd rfl (.inl rfl)) (pgs_cons (pg_name (i := 8) sc_reached.nd rfl (.inl rfl)) pgs_nil))) (pss_one (ps_if (PW.pt (pw_and (pt_cmp (pc_dnotin (hu_of hr) (pv 7) (pv 3))) (pw_and1 (pt_val (pe_callB (cr_anyK K rfl rfl) (by rfl) T.z_any (by decide +kernel) (pa_cons (pe_lc (own := [("road", 9)]) rfl sc_reached.nd (pi_tupK K rfl (pv 8)) (blkOk_by (own := [("road", 9)]) (N := N_reached) (sc := defScope s_reached) (by decide +kernel)) (fun _ _ _ _ _ => (pg_name (i := 9) sc_reached.nd rfl (.inl rfl))) (fun _ _ _ _ _ => pts_nil) (fun _ _ _ _ _ => (pe_cmpR (op_in_seqK K rfl) (pv 9) (pv 6) rfl))) pa_nil)))))) (pss_cons (ps_dput (hu_of hr) (pv 3) (pv 7) pe_bl rfl)
      (pss_one (ps_expr (pe_bmK K rfl PySem.F.plainAttrs_list PySem.F.slot_list_append PySem.F.type_list_append mt_append (pv 4) (pa_cons (pv 7) pa_nil))))) pss_nil)))))))
      (pss_one (ps_ret (pv 3)))))), ?_⟩
  obtain ⟨x0, x1, x2, rfl, h⟩ := h
  obtain ⟨G, js, i, cs, c, hG, hx, rfl, hz, hsh, hi, hl, h3, q⟩ := h
  obtain ⟨a, ts, rfl, hs, hp⟩ := hx
  obtain ⟨ac, rfl, hac⟩ := rTs.mp hz
  intro d hd
  refine ⟨_, rfl, ?_⟩
  wtm_at "zb"
  refine ⟨upd_same, [(.inl (i : Int), .bl true)], rfl, (show (1:Nat) ≤ 15 by decide), ?_⟩
  rw [show upd (upd H d (.dK [])) d (.dK (mergeK [] [(Sum.inl (i : Int), V.bl true)])) = upd H d (.dK (numK [i])) from by
    funext x
    by_cases e : x = d
    · subst e; rw [upd_same, upd_same]; rfl
    · rw [upd_ne e, upd_ne e, upd_ne e]]
  refine ⟨_, rfl, (show (1:Nat) ≤ sizeLine by decide), fun l hl' => ?_⟩
  obtain ⟨nld, hl0⟩ := upd_none.mp hl'
  have gd : G d = none := hG.free hd
  have gl : G l = none := hG.free hl0
  refine ⟨Ww ac G H js c i d l a, ⟨_, [i], [i], G, rfl, ⟨_, _, _, _, rfl⟩, ⟨((Go.ref0 hG).tmp hd).tmp hl', (upd_ne (Ne.symm nld)).trans upd_same, gd, upd_same, gl, by simp, ?_, by simp, by simp, Nat.le_refl _, ?_⟩⟩, ?_⟩
  · intro n hn
    rw [List.mem_singleton] at hn
    subst hn
    exact ⟨hi, .here⟩
  · intro n hn hw
    exact absurd hn hw
  rintro m σ H1 ⟨fs, ws, G1, rfl, ⟨x5, x6, x7, x8, rfl⟩, R⟩
  refine ⟨_, rfl, _, .inl ⟨_, SqL.of R.hl, rfl⟩, ?_⟩
  rcases List.eq_nil_or_concat ws with rfl | ⟨ws, n, rfl⟩
  · refine ⟨_, rfl, ?_⟩
    refine q _ _ _ (R.go.frz hd R.hd R.gd) ⟨d, numK fs, rfl, upd_same, fun k => valV_fs.trans ⟨fun h => (R.ok k h).2, fun h => ?_⟩⟩
    exact reach_closed R.st (fun n hn m a => (R.cl n hn (by simp) m a).resolve_right id) h
  rw [List.concat_eq_append] at R ⊢
  refine (if_pos (show (!(List.map (fun (n : Nat) => V.int (n : Int)) (ws ++ [n])).isEmpty) = true by simp)).mpr ?_
  refine ⟨fun σ' H' => ∃ m', m' < _ ∧ Ww ac G H js c i d l a m' σ' H', fun _ _ h => h, ?_⟩
  have hln : n < js.length := (R.ok n (R.sub n (by simp))).1
  have nfs : n ∈ fs := R.sub n (by simp)
  obtain ⟨r, hr'⟩ : ∃ r, js[n]? = some r := ⟨js[n], List.getElem?_eq_getElem hln⟩
  have R2 := R.pop (Ne.symm nld) hl0
  refine ⟨_, rfl, .inl ⟨rfl, _, SqL.of R.hl⟩, ?_⟩
  refine ⟨l, _, .int (n : Nat), rfl, rfl, R.hl, ?_, ?_⟩
  · simp
  rw [show (List.map (fun (n : Nat) => V.int n) (ws ++ [n])).dropLast = ws.map fun (n : Nat) => V.int n from by simp]
  generalize upd H1 l _ = H2 at R2 ⊢
  obtain ⟨v, hv, b, us, rfl, hs2, hp2⟩ := pGet hp hr'
  obtain rfl := pS hp2
  have sG := R2.go.g.trans R2.go.h
  refine ⟨_, rfl, _, rfl, a, ts, (n : Nat), .ref b, rfl, rfl, seqT sG hs, atI_nat hv, ?_⟩
  refine ⟨b, rfl, ⟨_, seqT sG hs2⟩, fun D hD => ?_⟩
  refine lc_flat (walk_tup.mono (fun H' e => seqT e (seqT sG hs2)) fun _ _ _ _ _ _ y => y) (fun _ e => e) hD (fun j => !decide (r.getD j "" = c)) (fun j => .str (r.getD j "")) ?_ (fun _ => rfl) (fun j x hj' hx => ⟨fun H1 ex4 Q q => ?_, fun _ => ?_⟩) (fun H5 sm e3 => ?_)
  · rw [List.length_map, h3 r (List.mem_of_getElem? hr')]
    decide
  · obtain ⟨z, hz, rfl⟩ := map_at hx
    rw [getD_of hz] at q
    refine ⟨_, rfl, _, rfl, ac, _, rfl, .inr (seqT (sG.trans ex4) hac), rfl, by rw [List.all_map]; exact List.all_eq_true.mpr fun _ _ => rfl, _, rfl, ?_⟩
    show Q (!inV (.str z) (cs.map V.str)) H1
    rw [inV_str, show decide (z ∈ cs) = decide (z = c) from decide_eq_decide.mpr (hsh r (List.mem_of_getElem? hr') z (List.mem_of_getElem? hz))]
    exact q H1 (Evl.Ex.refl H1)
  · obtain ⟨z, hz, rfl⟩ := map_at hx
    rw [getD_of hz]
    exact fun H1 _ Q q => ⟨_, rfl, q H1 (Evl.Ex.refl H1)⟩
  rw [List.length_map, given_map r "" (fun z => !decide (z = c)) V.str] at e3
  have R3 := R2.grow sm
  have nDd : D ≠ d := fun z => by rw [z, R2.hd] at hD; cases hD
  have nDl : D ≠ l := fun z => by rw [z, R2.hl] at hD; cases hD
  refine ⟨_, rfl, a, ts, rfl, seqT (R3.go.g.trans R3.go.h) hs, for_it (Yr.walk_num (xs := ts)) (Wf ac G H js c i d l a D n r (2 * (js.length - fs.length) + (ws ++ [n]).length)) ⟨⟨_, _, rfl⟩, fs, ws, G1, R3, e3, nfs, ?_⟩ (fun j σ H' _ h => ?_) ?_ ?_⟩
  · rw [List.length_append]
    exact Nat.lt_succ_self _
  · obtain ⟨_, _, _, _, Rh, _⟩ := h
    exact seqT (Rh.go.g.trans Rh.go.h) hs
  · rintro j x σ H6 H7 hj' ⟨⟨x7, x8, rfl⟩, fs2, ws2, G2, R4, e4, nf2, lt2⟩ ⟨T, y1, y2, rfl, hT, rfl, z1, z2⟩
    obtain rfl := Option.some.inj z1
    have hjl : j < js.length := by rw [← pLen hp]; exact hj'
    obtain ⟨w2, hw2, b2, us2, rfl, hs4, hp4⟩ := pAt hp z2
    obtain rfl := pS hp4
    have R5 := R4.grow (same_upd (o := .tup [.int (0 + (j : Nat)), .ref b2]) hT)
    have e5 : upd H6 T (.tup [.int (0 + (j : Nat)), .ref b2]) D = some (.lst ((opens r c).map V.str)) := same_upd hT _ _ e4
    have hT2 : SqT K (upd H6 T (.tup [.int (0 + (j : Nat)), .ref b2])) T [.int (0 + (j : Nat)), .ref b2] := SqT.of upd_same
    generalize upd H6 T (.tup [.int (0 + (j : Nat)), .ref b2]) = H7 at R5 e5 hT2 ⊢
    rw [Int.zero_add] at hT2
    have sG2 := R5.go.g.trans R5.go.h
    refine ⟨T, _, rfl, hT2, rfl, _, _, rfl, _, _, rfl, rfl, ?_⟩
    refine ⟨_, rfl, _, rfl, d, _, rfl, DGet.k (k := .inl (j : Int)) R5.hd, _, rfl, ?_⟩
    by_cases hf : j ∈ fs2
    · rw [valV_fs.mpr hf]
      refine iteF (A := True) ?_
      refine ⟨⟨_, _, rfl⟩, fs2, ws2, G2, R5.skip (.inl hf), e5, nf2, lt2⟩
    rw [valV_no hf]
    refine iteT (B := True) ?_
    have hs5 := seqT sG2 hs4
    refine ⟨_, rfl, b2, rfl, ⟨_, hs5⟩, fun D2 hD2 => ?_⟩
    refine lc_flat (walk_tup.mono (fun H' e => seqT e hs5) fun _ _ _ _ _ _ y => y) (fun _ e => e) hD2 (fun _ => true) (fun k => .bl (decide (w2.getD k "" ∈ opens r c))) ?_ (fun _ => rfl) (fun k x hk hx => ⟨fun H1 _ Q q => q H1 (Evl.Ex.refl H1), fun _ => ?_⟩) (fun H8 sm8 e8 => ?_)
    · rw [List.length_map, h3 w2 (List.mem_of_getElem? hw2)]
      decide
    · obtain ⟨z, hz, rfl⟩ := map_at hx
      rw [getD_of hz]
      refine fun H1 e Q q => ⟨_, rfl, _, rfl, D, _, rfl, .inl (SqL.of (e _ _ e5)), rfl, by rw [List.all_map]; exact List.all_eq_true.mpr fun _ _ => rfl, ?_⟩
      show Q (.bl (inV (.str z) ((opens r c).map V.str))) H1
      rw [inV_str]
      exact q H1 (Evl.Ex.refl H1)
    rw [List.length_map, given_all w2 "" (fun z => V.bl (decide (z ∈ opens r c)))] at e8
    have R8 := R5.grow sm8
    refine ⟨D2, w2.map fun z => decide (z ∈ opens r c), rfl, .inl (.inl (by rw [List.map_map]; exact e8)), _, rfl, ?_⟩
    by_cases ha : Adj js c n j
    · refine (if_pos ((adj_iff hr' hw2).mpr ha)).mpr ?_
      have R9 := R8.find (Ne.symm nld) hd hl0 nf2 hjl hf ha
      have lf := R8.less hjl hf
      refine ⟨_, rfl, _, rfl, d, _, rfl, DPut.k (k := .inl (j : Int)) R8.hd ?_, ?_⟩
      · rw [List.length_map]
        exact Nat.lt_of_le_of_lt (m := 1000) (by omega) (by decide)
      rw [numK_put hf]
      refine ⟨_, rfl, .inl ⟨rfl, _, SqL.of ((upd_ne nld).trans R8.hl)⟩, _, rfl, ?_⟩
      refine ⟨l, _, .int (j : Nat), rfl, rfl, (upd_ne nld).trans R8.hl, ?_, ?_⟩
      · rw [List.length_map]
        have hm := R8.bd
        exact Nat.lt_of_le_of_lt (m := 1000) (by omega) (by decide)
      refine ⟨⟨_, _, rfl⟩, _, _, G2, R9, ?_, List.mem_append_left _ nf2, ?_⟩
      · refine (upd_ne ?_).trans ((upd_ne ?_).trans (sm8 _ _ e5))
        · exact nDl
        · exact nDd
      · rw [List.length_append, List.length_append, List.length_singleton]
        omega
    · rw [show ((w2.map fun z => decide (z ∈ opens r c)).any id) = false from Bool.eq_false_iff.mpr fun z => ha ((adj_iff hr' hw2).mp z)]
      refine iteF (A := True) ?_
      exact ⟨⟨_, _, rfl⟩, fs2, ws2, G2, R8.skip (.inr ha), sm8 _ _ e5, nf2, lt2⟩
  · rintro σ H6 ⟨⟨x7, x8, rfl⟩, fs2, ws2, G2, R4, e4, nf2, lt2⟩
    rw [pLen hp] at R4
    exact ⟨_, lt2, fs2, ws2, G2, rfl, ⟨_, _, _, _, rfl⟩, R4.end⟩
end
end Tc
namespace Tc
open PySem PySem.Spec PyProof.Rows L2 Fw Mw TL
local macro_rules | `(tactic| wtm_at "z_ne") => `(tactic| first | assumption | (apply Ne.symm; assumption) | omega)
local macro_rules | `(tactic| wtm_at "z_hp") => `(tactic| first | assumption | exact upd_same | (refine (upd_ne ?_).trans ?_; (focus wtm_at "z_ne"); wtm_at "z_hp"))
local macro_rules | `(tactic| wtm_at "z_sq") => `(tactic| first | assumption | (exact .inl (.inl (by wtm_at "z_hp"))))
local macro_rules | `(tactic| wtm_at "z_side") => `(tactic| first | assumption | omega | (simp only []; omega) | exact ⟨by omega, by omega⟩ | exact ⟨by omega, by omega, by omega⟩ | exact .inl ⟨by omega, by omega⟩ | exact .inr ⟨by omega, by omega⟩ | decide)
local macro_rules | `(tactic| wtm_at "z") => `(tactic| first
  | refine ⟨_, rfl, ?_⟩
  | refine ⟨_, _, rfl, rfl, ?_⟩
  | refine And.intro (by wtm_at "z_side") ?_
  | refine .inl ⟨_, rfl, ?_⟩
  | refine ⟨_, _, _, _, rfl, rfl, (by wtm_at "z_sq"), (by first | rfl | assumption), ?_⟩
  | refine ⟨_, _, _, _, rfl, rfl, (by wtm_at "z_hp"), (by first | rfl | assumption), ?_⟩)
local macro_rules | `(tactic| wtm_at "zb") => `(tactic| dsimp only [L2.tCB, L2.tCons, L2.tNil, L2.tC])
local macro_rules | `(tactic| wtm_at "sl") => `(tactic| dsimp only [start_one, start_two, start_three, start_four, start_five, List.length_cons, List.length_nil, Nat.reduceAdd, Nat.reduceSub, List.reduceReplicate, List.set_cons_succ, List.set_cons_zero])
section
variable {P : Program} {w : World} {K : PySem.W.Frag} {mg : Str → Option Value} {base : Heap} {CW : Addr}
theorem ok_check_hanging_together (F : FunAt K mg "check_hanging_together" s_check_hanging_together ["junctions"]) (T : Txt K mg CW) (C_reached : ReachedAt P w K mg base CW 1) : Cal P w K mg base CX0 "check_hanging_together" 2 ["junctions"] [] (sp_check_hanging_together K CW) := by
  obtain ⟨f, fd, F, mgf, bf⟩ := F
  obtain ⟨f_reached, fd_reached, G_reached, m_reached, k_reached, b_reached, Te_reached, ds_reached, b2_reached, d2_reached, e2_reached⟩ := C_reached
  have d_reached : Vals [] [] := .nil
  refine ⟨f, fd, [], ?_, mgf, F.kp, bf, .nil⟩
  refine F.ok sc_check_hanging_together (fun vs H Q E h => by obtain ⟨_, rfl, _⟩ := h; rfl) (fun cdv A outer s H vs Q E hr h => ?_)
  refine ⟨_, (pss_cons (ps_set (i := 1) sc_check_hanging_together.nd rfl (.inl rfl) (pe_call G_reached (hr.mono (by decide)) (by rfl) m_reached k_reached b2_reached d2_reached pass0 (pa_cons (pv 0) (pa_cons pe_int pa_nil))))
      (pss_one (ps_for PassesOwn.never rfl (pi_range1 (by rfl) T.z_range (pa_cons (pe_callB (call_len_seqK K rfl) (by rfl) T.z_len (by decide +kernel) (pa_cons (pv 0) pa_nil)) pa_nil)) (pg_name (i := 2) sc_check_hanging_together.nd rfl (.inl rfl)) (pss_one (ps_if (pt_cmp (pc_dnotin (hu_of hr) (pv 2) (pv 1))) (pss_one ps_never) pss_nil))))), ?_⟩
  obtain ⟨x0, rfl, h⟩ := h
  obtain ⟨G, js, hG, hx, hj, hw, q⟩ := h
  have hmost := hj.most
  have hpos : 0 < js.length := by
    cases js with
    | nil => exact absurd rfl hj.some
    | cons _ _ => simp
  refine ⟨_, rfl, ?_⟩
  wtm_at "zb"
  refine ⟨_, _, _, rfl, G, js, 0, [], "", hG, hx, rfl, ⟨_, [], rfl, e2_reached G, .nil⟩, fun r hr x hx => ?_, hpos, by omega, fun r hr => (hj.rows r hr).len, fun v1 G1 H1 go1 hv1 => ?_⟩
  · exact ⟨fun z => (nomatch z), fun z => absurd ((hj.rows r hr).names x hx) (by rw [z]; decide)⟩
  obtain ⟨d, kvs, rfl, hd, hk⟩ := hv1
  have hd1 := go1.h _ _ hd
  obtain ⟨a, ts, rfl, hs, hp⟩ := hx
  refine ⟨_, rfl, ?_⟩
  wtm_at "zb"
  refine ⟨a, ts, rfl, .inr (seqT (go1.g.trans go1.h) hs), ?_⟩
  have hlt : ts.length = js.length := pLen hp
  refine ⟨_, rfl, by omega, by omega, ?_⟩
  rw [Int.toNat_natCast]
  refine for_it (D := { nx := fun _ H' => Q .non H', rt := Q }) (walk_range (lo := 0) (n := ts.length)) (fun i σ H' => (∃ x2, σ = [some (.ref a), some (.ref d), x2]) ∧ H' = H1) ⟨⟨_, rfl⟩, rfl⟩ (fun _ _ _ _ _ => trivial) ?_ ?_
  · rintro i x σ H2 H3 hi ⟨⟨x2, rfl⟩, rfl⟩ ⟨rfl, rfl⟩
    refine ⟨_, rfl, _, rfl, d, _, rfl, DGet.k (k := .inl (0 + (i : Int))) hd1, _, rfl, ?_⟩
    rw [Int.zero_add, (hk i).mpr (hw i (by omega))]
    exact ⟨⟨_, rfl⟩, rfl⟩
  · rintro σ H2 ⟨⟨x2, rfl⟩, rfl⟩
    exact q _ go1.all
end
end Tc
namespace Tc
open PySem PySem.Spec PyProof.Rows L2 Fw Mw TL
local macro_rules | `(tactic| wtm_at "z_ne") => `(tactic| first | assumption | (apply Ne.symm; assumption) | omega)
local macro_rules | `(tactic| wtm_at "z_hp") => `(tactic| first | assumption | exact upd_same | (refine (upd_ne ?_).trans ?_; (focus wtm_at "z_ne"); wtm_at "z_hp"))
local macro_rules | `(tactic| wtm_at "z_sq") => `(tactic| first | assumption | (exact .inl (.inl (by wtm_at "z_hp"))))
local macro_rules | `(tactic| wtm_at "z_side") => `(tactic| first | assumption | omega | (simp only []; omega) | exact ⟨by omega, by omega⟩ | exact ⟨by omega, by omega, by omega⟩ | exact .inl ⟨by omega, by omega⟩ | exact .inr ⟨by omega, by omega⟩ | decide)
local macro_rules | `(tactic| wtm_at "z") => `(tactic| first
  | refine ⟨_, rfl, ?_⟩
  | refine ⟨_, _, rfl, rfl, ?_⟩
  | refine And.intro (by wtm_at "z_side") ?_
  | refine .inl ⟨_, rfl, ?_⟩
  | refine ⟨_, _, _, _, rfl, rfl, (by wtm_at "z_sq"), (by first | rfl | assumption), ?_⟩
  | refine ⟨_, _, _, _, rfl, rfl, (by wtm_at "z_hp"), (by first | rfl | assumption), ?_⟩)
local macro_rules | `(tactic| wtm_at "zb") => `(tactic| dsimp only [L2.tCB, L2.tCons, L2.tNil, L2.tC])
local macro_rules | `(tactic| wtm_at "sl") => `(tactic| dsimp only [start_one, start_two, start_three, start_four, start_five, List.length_cons, List.length_nil, Nat.reduceAdd, Nat.reduceSub, List.reduceReplicate, List.set_cons_succ, List.set_cons_zero])
section
variable {P : Program} {w : World} {K : PySem.W.Frag} {mg : Str → Option Value} {base : Heap} {CW : Addr}
theorem ok_Web_init__ (F : ∃ f fd, Fun K "__init__" "Web.__init__" s_Web_init__ f fd ∧ Mk K CW f ∧ Binds K fd ["self", "text"] []) (T : Txt K mg CW) (C_read_junctions : Cal P w K mg base CX0 "read_junctions" 3 ["text"] [] (sp_read_junctions K CW)) (C_check_hanging_together : Cal P w K mg base CX0 "check_hanging_together" 2 ["junctions"] [] (sp_check_hanging_together K CW)) (C_all_words : Cal P w K mg base CX0 "all_words" 1 ["junctions"] [] (sp_all_words K CW)) : InitAt P w K mg base CW 4 := by
  obtain ⟨f, fd, F, mk, bf⟩ := F
  obtain ⟨f_read_junctions, fd_read_junctions, ds_read_junctions, G_read_junctions, m_read_junctions, k_read_junctions, b_read_junctions, d_read_junctions⟩ := C_read_junctions
  obtain ⟨f_check_hanging_together, fd_check_hanging_together, ds_check_hanging_together, G_check_hanging_together, m_check_hanging_together, k_check_hanging_together, b_check_hanging_together, d_check_hanging_together⟩ := C_check_hanging_together
  obtain ⟨f_all_words, fd_all_words, ds_all_words, G_all_words, m_all_words, k_all_words, b_all_words, d_all_words⟩ := C_all_words
  refine ⟨f, fd, [], ?_, mk, bf, .nil⟩
  refine F.ok sc_Web_init__ (fun vs H Q E h => by obtain ⟨_, _, rfl, _⟩ := h; rfl) (fun cdv A outer s H vs Q E hr h => ?_)
  refine ⟨_, (pss_cons (ps_set (i := 2) sc_Web_init__.nd rfl (.inl rfl) (pe_call G_read_junctions (hr.mono (by decide)) (by rfl) m_read_junctions k_read_junctions b_read_junctions d_read_junctions pass0 (pa_cons (pv 1) pa_nil)))
      (pss_cons (ps_expr (pe_call G_check_hanging_together (hr.mono (by decide)) (by rfl) m_check_hanging_together k_check_hanging_together b_check_hanging_together d_check_hanging_together pass0 (pa_cons (pv 2) pa_nil)))
      (pss_cons (ps_set (i := 3) sc_Web_init__.nd rfl (.inr rfl) (pe_call G_all_words (hr.mono (by decide)) (by rfl) m_all_words k_all_words b_all_words d_all_words pass0 (pa_cons (pv 2) pa_nil)))
      (pss_cons (ps_fldK K rfl (pv 0) (pv 1))
      (pss_cons (ps_fldK K rfl (pv 0) (pv 2))
      (pss_cons (ps_fldK K rfl (pv 0) (pe_callTy (call_tuple_ofK K rfl) (by rfl) T.z_tuple (by decide +kernel) (pa_cons (pe_callB (Ys.cr_sortedW rfl) (by rfl) T.z_sorted (by decide +kernel) (pa_cons (pe_callTy (cr_setWK K rfl w rfl rfl) (by rfl) T.z_set (by decide +kernel) (pa_cons (pv 3) pa_nil)) pa_nil)) pa_nil)))
      (pss_cons (ps_fldK K rfl (pv 0) (pe_callTy (call_tuple_ofK K rfl) (by rfl) T.z_tuple (by decide +kernel) (pa_cons (pe_lc (own := [("road", 4)]) rfl sc_Web_init__.nd (pi_tupK K rfl (pe_fldK K rfl (pv 0))) (blkOk_by (own := [("road", 4)]) (N := N_Web_init__) (sc := defScope s_Web_init__) (by decide +kernel)) (fun _ _ _ _ _ => (pg_name (i := 4) sc_Web_init__.nd rfl (.inl rfl))) (fun _ _ _ _ _ => (pts_one (pt_cmpR op_eq (pe_bmK K rfl PySem.F.plainAttrs_list PySem.F.slot_list_count PySem.F.type_list_count (mt_lcountSK K rfl) (pv 3) (pa_cons (pv 4) pa_nil)) pe_int (nomark _)))) (fun _ _ _ _ _ => (pv 4))) pa_nil)))
      (pss_cons (ps_fldK K rfl (pv 0) (pe_callTy (call_tuple_ofK K rfl) (by rfl) T.z_tuple (by decide +kernel) (pa_cons (pe_lc (own := [("road", 4)]) rfl sc_Web_init__.nd (pi_tupK K rfl (pe_fldK K rfl (pv 0))) (blkOk_by (own := [("road", 4)]) (N := N_Web_init__) (sc := defScope s_Web_init__) (by decide +kernel)) (fun _ _ _ _ _ => (pg_name (i := 4) sc_Web_init__.nd rfl (.inl rfl))) (fun _ _ _ _ _ => (pts_one (pt_cmpR op_eq (pe_bmK K rfl PySem.F.plainAttrs_list PySem.F.slot_list_count PySem.F.type_list_count (mt_lcountSK K rfl) (pv 3) (pa_cons (pv 4) pa_nil)) pe_int (nomark _)))) (fun _ _ _ _ _ => (pv 4))) pa_nil)))
      (pss_one (ps_fldK K rfl (pv 0) (pe_op op_add (pe_op op_sub (pe_callB (call_len_seqK K rfl) (by rfl) T.z_len (by decide +kernel) (pa_cons (pe_fldK K rfl (pv 0)) pa_nil)) (pe_callB (call_len_seqK K rfl) (by rfl) T.z_len (by decide +kernel) (pa_cons (pv 2) pa_nil))) pe_int))))))))))), ?_⟩
  obtain ⟨x0, x1, rfl, h⟩ := h
  obtain ⟨G, js, a, dx, hG, gA, rfl, rfl, hA, hj, hw, q⟩ := h
  refine ⟨_, rfl, ?_⟩
  wtm_at "zb"
  refine ⟨_, rfl, G, js, hG, rfl, hj, fun vj G1 H1 go1 hvj => ?_⟩
  have hA1 := go1.to hA
  have gA1 := go1.none hA gA
  refine ⟨_, rfl, ?_⟩
  wtm_at "zb"
  refine ⟨_, rfl, G1, js, go1.h, hvj, hj, hw, fun H2 sm2 => ?_⟩
  have go2 := go1.grow sm2
  have hA2 := sm2 _ _ hA1
  refine ⟨_, rfl, ?_⟩
  wtm_at "zb"
  have hm := hj.most
  have fl : (words js).length = 3 * js.length := by
    have h1 : ∀ l : Rows, (∀ x ∈ l, x.length = 3) → l.flatten.length = 3 * l.length := by
      intro l
      induction l with
      | nil => intro _; rfl
      | cons x l ih =>
        intro h
        rw [List.flatten_cons, List.length_append, List.length_cons, ih fun y hy => h y (List.mem_cons_of_mem _ hy), h x List.mem_cons_self]
        omega
    exact h1 js fun x hx => (hj.rows x hx).len
  refine ⟨_, rfl, G1, js, go2.h, .inr hvj, (by have : js.flatten.length = _ := fl; omega), fun v3 G3 H3 go3 hv3 => ?_⟩
  obtain ⟨p3, rfl, hs3⟩ := rLs.mp hv3
  have goA : Go [a] G H G3 H3 := (go2.trans go3).wide
  have hA3 := go3.to hA2
  have gA3 := go3.none hA2 gA1
  have hvj3 := Mo.up go3.g hvj
  refine ⟨_, rfl, _, rfl, a, CW, dx, _, rfl, hA3, T.cl, T.n_text, (by decide), ?_⟩
  rw [pf_text]
  have goB := goA.mut (p := a) (o := .ins CW dx (wf1 (.str (webText js)))) gA3 (.inr (by simp))
  have hAB : upd H3 a (.ins CW dx (wf1 (.str (webText js)))) a = _ := upd_same
  generalize upd H3 a (.ins CW dx (wf1 (.str (webText js)))) = HB at goB hAB ⊢
  refine ⟨_, rfl, _, rfl, a, CW, dx, _, rfl, hAB, T.cl, T.n_junctions, (show (1:Nat) < 1000 by decide), ?_⟩
  rw [pf_junctions]
  have goC := goB.mut (p := a) (o := .ins CW dx (wf2 (.str (webText js)) vj)) gA3 (.inr (by simp))
  have hAC : upd HB a (.ins CW dx (wf2 (.str (webText js)) vj)) a = _ := upd_same
  generalize upd HB a (.ins CW dx (wf2 (.str (webText js)) vj)) = HC at goC hAC ⊢
  refine ⟨_, rfl, ?_⟩
  wtm_at "zb"
  refine ⟨p3, words js, rfl, .inl (goC.h.seq hs3), (by omega), fun ps ks hps nd mem len => ?_⟩
  have goD := goC.tmp (o := Ys.WSet w ps ks) hps
  have hAD : upd HC ps (Ys.WSet w ps ks) a = _ := (upd_ne (ne_of_none hAC hps)).trans hAC
  have hsD : upd HC ps (Ys.WSet w ps ks) ps = _ := upd_same
  generalize upd HC ps (Ys.WSet w ps ks) = HD at goD hAD hsD ⊢
  refine ⟨ps, ks, rfl, hsD, (by omega), fun ys py perm srt hpy => ?_⟩
  obtain rfl := roads_uniq nd mem perm srt
  have hrl := perm.length_eq
  have goE := goD.tmp (o := .lst ((roadsOf js).map V.str)) hpy
  have hAE : upd HD py (.lst ((roadsOf js).map V.str)) a = _ := (upd_ne (ne_of_none hAD hpy)).trans hAD
  have hsE : upd HD py (.lst ((roadsOf js).map V.str)) py = _ := upd_same
  generalize upd HD py (.lst ((roadsOf js).map V.str)) = HE at goE hAE hsE ⊢
  refine ⟨py, _, rfl, .inl ⟨SqL.of hsE, fun l hl => ?_⟩⟩
  have goF := goE.new (o := .tup ((roadsOf js).map V.str)) hl
  have hAF : upd HE l (.tup ((roadsOf js).map V.str)) a = _ := (upd_ne (ne_of_none hAE hl)).trans hAE
  have gF : Same G3 (upd G3 l (.tup ((roadsOf js).map V.str))) := same_upd (goE.gnone hl)
  have gAF : upd G3 l (.tup ((roadsOf js).map V.str)) a = none := (upd_ne (ne_of_none hAE hl)).trans gA3
  have hrF : SqT K (upd G3 l (.tup ((roadsOf js).map V.str))) l ((roadsOf js).map V.str) := SqT.of upd_same
  generalize upd HE l (.tup ((roadsOf js).map V.str)) = HF at goF hAF ⊢
  generalize upd G3 l (.tup ((roadsOf js).map V.str)) = GF at goF gF hrF gAF ⊢
  refine ⟨_, rfl, a, CW, dx, _, rfl, hAF, T.cl, T.n_roads, (show (2:Nat) < 1000 by decide), ?_⟩
  rw [pf_roads]
  have hs3F := Same.seq gF hs3
  have goI0 := goF.mut (p := a) (o := .ins CW dx (wf3 (.str (webText js)) vj (.ref l))) gAF (.inr (by simp))
  have hAI0 : upd HF a (.ins CW dx (wf3 (.str (webText js)) vj (.ref l))) a = _ := upd_same
  generalize upd HF a (.ins CW dx (wf3 (.str (webText js)) vj (.ref l))) = HI0 at goI0 hAI0 ⊢
  refine ⟨_, rfl, a, CW, dx, _, .ref l, rfl, hAI0, T.cl, T.n_roads, lk3, ?_⟩
  refine ⟨l, rfl, ⟨_, seqT goI0.h hrF⟩, fun D hD => ?_⟩
  refine lc_flat (walk_tup.mono (fun H' e => seqT e (seqT goI0.h hrF)) fun _ _ _ _ _ _ y => y) (fun _ e => e) hD (fun j => decide ((words js).count ((roadsOf js).getD j "") = 2)) (fun j => .str ((roadsOf js).getD j "")) ?_ (fun _ => rfl) (fun j x hj' hx => ⟨fun H1 ex Q q => ?_, fun _ => ?_⟩) (fun H5 sm e3 => ?_)
  · rw [List.length_map]
    omega
  · obtain ⟨z, hz, rfl⟩ := map_at hx
    rw [getD_of hz] at q
    refine ⟨_, rfl, .inl ⟨rfl, _, Same.seq (goI0.h.trans ex) hs3F⟩, _, rfl, ?_⟩
    wtm_at "zb"
    refine ⟨p3, _, z, rfl, rfl, Same.seq (goI0.h.trans ex) hs3F, rfl, _, rfl, ?_⟩
    have q' := q H1 (Evl.Ex.refl H1)
    rw [← dec_nat 2] at q'
    exact q'
  · obtain ⟨z, hz, rfl⟩ := map_at hx
    rw [getD_of hz]
    exact fun H1 _ Q q => ⟨_, rfl, q H1 (Evl.Ex.refl H1)⟩
  rw [List.length_map, given_map (roadsOf js) "" (fun z => decide ((words js).count z = 2)) V.str] at e3
  have goI1 := goI0.grow sm
  have hAI1 := sm _ _ hAI0
  refine ⟨D, _, rfl, .inl ⟨SqL.of e3, fun li hli => ?_⟩⟩
  have goI := goI1.new (o := .tup ((innerOf js).map V.str)) hli
  have hAI : upd H5 li (.tup ((innerOf js).map V.str)) a = _ := (upd_ne (ne_of_none hAI1 hli)).trans hAI1
  have gI : Same GF (upd GF li (.tup ((innerOf js).map V.str))) := same_upd (goI1.gnone hli)
  have gAI : upd GF li (.tup ((innerOf js).map V.str)) a = none := (upd_ne (ne_of_none hAI1 hli)).trans gAF
  have hrI : SqT K (upd GF li (.tup ((innerOf js).map V.str))) li ((innerOf js).map V.str) := SqT.of upd_same
  have hsI := Same.seq gI hs3F
  have hlI := seqT gI hrF
  rw [show ((innerOf js).map V.str) = (List.filter (fun z => decide ((words js).count z = 2)) (roadsOf js)).map V.str from rfl] at goI hAI gI gAI hrI hsI hlI
  generalize upd H5 li _ = HI at goI hAI ⊢
  generalize upd GF li _ = GI at goI gI gAI hrI hsI hlI ⊢
  refine ⟨_, rfl, a, CW, dx, _, rfl, hAI, T.cl, T.n_inner, (show (3:Nat) < 1000 by decide), ?_⟩
  rw [pf_inner]
  have goX0 := goI.mut (p := a) (o := .ins CW dx (wf4 (.str (webText js)) vj (.ref l) (.ref li))) gAI (.inr (by simp))
  have hAX0 : upd HI a (.ins CW dx (wf4 (.str (webText js)) vj (.ref l) (.ref li))) a = _ := upd_same
  generalize upd HI a (.ins CW dx (wf4 (.str (webText js)) vj (.ref l) (.ref li))) = HX0 at goX0 hAX0 ⊢
  refine ⟨_, rfl, a, CW, dx, _, .ref l, rfl, hAX0, T.cl, T.n_roads, lk4, ?_⟩
  refine ⟨l, rfl, ⟨_, seqT goX0.h hlI⟩, fun D hD => ?_⟩
  refine lc_flat (walk_tup.mono (fun H' e => seqT e (seqT goX0.h hlI)) fun _ _ _ _ _ _ y => y) (fun _ e => e) hD (fun j => decide ((words js).count ((roadsOf js).getD j "") = 1)) (fun j => .str ((roadsOf js).getD j "")) ?_ (fun _ => rfl) (fun j x hj' hx => ⟨fun H1 ex Q q => ?_, fun _ => ?_⟩) (fun H5 sm e3 => ?_)
  · rw [List.length_map]
    omega
  · obtain ⟨z, hz, rfl⟩ := map_at hx
    rw [getD_of hz] at q
    refine ⟨_, rfl, .inl ⟨rfl, _, Same.seq (goX0.h.trans ex) hsI⟩, _, rfl, ?_⟩
    wtm_at "zb"
    refine ⟨p3, _, z, rfl, rfl, Same.seq (goX0.h.trans ex) hsI, rfl, _, rfl, ?_⟩
    have q' := q H1 (Evl.Ex.refl H1)
    rw [← dec_nat 1] at q'
    exact q'
  · obtain ⟨z, hz, rfl⟩ := map_at hx
    rw [getD_of hz]
    exact fun H1 _ Q q => ⟨_, rfl, q H1 (Evl.Ex.refl H1)⟩
  rw [List.length_map, given_map (roadsOf js) "" (fun z => decide ((words js).count z = 1)) V.str] at e3
  have goX1 := goX0.grow sm
  have hAX1 := sm _ _ hAX0
  refine ⟨D, _, rfl, .inl ⟨SqL.of e3, fun le hle => ?_⟩⟩
  have goE' := goX1.new (o := .tup ((endsOf js).map V.str)) hle
  have hAE' : upd H5 le (.tup ((endsOf js).map V.str)) a = _ := (upd_ne (ne_of_none hAX1 hle)).trans hAX1
  have gE' : Same GI (upd GI le (.tup ((endsOf js).map V.str))) := same_upd (goX1.gnone hle)
  have gAE' : upd GI le (.tup ((endsOf js).map V.str)) a = none := (upd_ne (ne_of_none hAX1 hle)).trans gAI
  have hrE' : SqT K (upd GI le (.tup ((endsOf js).map V.str))) le ((endsOf js).map V.str) := SqT.of upd_same
  have hsE' := Same.seq gE' hsI
  have hlE' := seqT gE' hlI
  rw [show ((endsOf js).map V.str) = (List.filter (fun z => decide ((words js).count z = 1)) (roadsOf js)).map V.str from rfl] at goE' hAE' gE' gAE' hrE' hsE' hlE'
  generalize upd H5 le _ = HE' at goE' hAE' ⊢
  generalize upd GI le _ = GE' at goE' gE' gAE' hrE' hsE' hlE' ⊢
  refine ⟨_, rfl, a, CW, dx, _, rfl, hAE', T.cl, T.n_ends, (show (4:Nat) < 1000 by decide), ?_⟩
  rw [pf_ends]
  have goR0 := goE'.mut (p := a) (o := .ins CW dx (wf5 (.str (webText js)) vj (.ref l) (.ref li) (.ref le))) gAE' (.inr (by simp))
  have hAR0 : upd HE' a (.ins CW dx (wf5 (.str (webText js)) vj (.ref l) (.ref li) (.ref le))) a = _ := upd_same
  generalize upd HE' a (.ins CW dx (wf5 (.str (webText js)) vj (.ref l) (.ref li) (.ref le))) = HR at goR0 hAR0 ⊢
  have hvjE : rT K (rT K rS) GE' vj js := Mo.up ((gF.trans gI).trans gE') hvj3
  have hvjR := hvjE
  obtain ⟨aj, tsj, rfl, hsj, hpj⟩ := hvjE
  have hli : SqT K GE' li ((innerOf js).map V.str) := seqT gE' hrI
  refine ⟨_, rfl, a, CW, dx, _, .ref li, rfl, hAR0, T.cl, T.n_inner, lk5, ?_⟩
  wtm_at "zb"
  refine ⟨li, _, rfl, .inr (seqT goR0.h hli), ?_⟩
  refine ⟨_, rfl, ?_⟩
  wtm_at "zb"
  refine ⟨aj, tsj, rfl, .inr (seqT goR0.h hsj), ?_⟩
  refine ⟨_, _, rfl, rfl, ?_⟩
  refine ⟨_, _, rfl, rfl, ?_⟩
  refine ⟨_, rfl, a, CW, dx, _, rfl, hAR0, T.cl, T.n_rounds, (show (5:Nat) < 1000 by decide), ?_⟩
  rw [pf_rounds]
  refine q _ _ (goR0.mut gAE' (.inr (by simp))) ⟨_, _, _, _, _, _, upd_same, ⟨rfl, hvjR, rTs.mpr ⟨l, rfl, hlE'⟩, rTs.mpr ⟨li, rfl, hli⟩, rTs.mpr ⟨le, rfl, hrE'⟩, ?_⟩⟩
  rw [List.length_map, pLen hpj]
  rfl
end
end Tc
namespace Tc
open PySem PySem.Spec PyProof.Rows L2 Fw Mw TL
local macro_rules | `(tactic| wtm_at "z_ne") => `(tactic| first | assumption | (apply Ne.symm; assumption) | omega)
local macro_rules | `(tactic| wtm_at "z_hp") => `(tactic| first | assumption | exact upd_same | (refine (upd_ne ?_).trans ?_; (focus wtm_at "z_ne"); wtm_at "z_hp"))
local macro_rules | `(tactic| wtm_at "z_sq") => `(tactic| first | assumption | (exact .inl (.inl (by wtm_at "z_hp"))))
local macro_rules | `(tactic| wtm_at "z_side") => `(tactic| first | assumption | omega | (simp only []; omega) | exact ⟨by omega, by omega⟩ | exact ⟨by omega, by omega, by omega⟩ | exact .inl ⟨by omega, by omega⟩ | exact .inr ⟨by omega, by omega⟩ | decide)
local macro_rules | `(tactic| wtm_at "z") => `(tactic| first
  | refine ⟨_, rfl, ?_⟩
  | refine ⟨_, _, rfl, rfl, ?_⟩
  | refine And.intro (by wtm_at "z_side") ?_
  | refine .inl ⟨_, rfl, ?_⟩
  | refine ⟨_, _, _, _, rfl, rfl, (by wtm_at "z_sq"), (by first | rfl | assumption), ?_⟩
  | refine ⟨_, _, _, _, rfl, rfl, (by wtm_at "z_hp"), (by first | rfl | assumption), ?_⟩)
local macro_rules | `(tactic| wtm_at "zb") => `(tactic| dsimp only [L2.tCB, L2.tCons, L2.tNil, L2.tC])
local macro_rules | `(tactic| wtm_at "sl") => `(tactic| dsimp only [start_one, start_two, start_three, start_four, start_five, List.length_cons, List.length_nil, Nat.reduceAdd, Nat.reduceSub, List.reduceReplicate, List.set_cons_succ, List.set_cons_zero])
section
variable {P : Program} {w : World} {K : PySem.W.Frag} {mg : Str → Option Value} {base : Heap} {CW : Addr}
theorem ok_text_of (F : FunAt K mg "text_of" s_text_of ["junctions"]) (T : Txt K mg CW)  : Cal P w K mg base CX0 "text_of" 1 ["junctions"] [] (sp_text_of K CW) := by
  obtain ⟨f, fd, F, mgf, bf⟩ := F
  obtain ⟨t_FIRST_WORD, c_FIRST_WORD⟩ := T.c_FIRST_WORD
  obtain ⟨t_FIRST_LINE, c_FIRST_LINE⟩ := T.c_FIRST_LINE
  refine ⟨f, fd, [], ?_, mgf, F.kp, bf, .nil⟩
  refine F.ok sc_text_of (fun vs H Q E h => by obtain ⟨_, rfl, _⟩ := h; rfl) (fun cdv A outer s H vs Q E hr h => ?_)
  refine ⟨_, (pss_cons (ps_setLc (i := 1) (own := [("first", 2), ("second", 3), ("third", 4)]) rfl sc_text_of.nd rfl rfl (sw_true rfl rfl rfl (by decide +kernel)) (pi_tupK K rfl (pv 0)) (blkOk_by (own := [("first", 2), ("second", 3), ("third", 4)]) (N := N_text_of) (sc := defScope s_text_of) (by decide +kernel)) (fun _ _ _ _ _ => (pg_tupK (n := 3) K rfl rfl (pgs_cons (pg_name (i := 2) sc_text_of.nd rfl (.inl rfl)) (pgs_cons (pg_name (i := 3) sc_text_of.nd rfl (.inl rfl)) (pgs_cons (pg_name (i := 4) sc_text_of.nd rfl (.inl rfl)) pgs_nil))))) (fun _ _ _ _ _ => pts_nil) (fun _ _ _ _ _ => (pe_joinedN (PJ.cons (pe_fmt (pe_glob (v := .str "meet") rfl c_FIRST_WORD ⟨_, rfl⟩)) (PJ.cons pe_str (PJ.cons (pe_fmt (pv 2)) (PJ.cons pe_str (PJ.cons (pe_fmt (pv 3)) (PJ.cons pe_str (PJ.cons (pe_fmt (pv 4)) PJ.nil))))))))))
      (pss_one (ps_ret (pe_joinK K rfl pe_str (pe_lst (pa_cons (pe_glob (v := .str "web") rfl c_FIRST_LINE ⟨_, rfl⟩) (pa_starK K rfl (pv 1) pa_nil))))))), ?_⟩
  obtain ⟨x0, rfl, h⟩ := h
  obtain ⟨G, js, hG, hx, hr, hl, q⟩ := h
  obtain ⟨a, ts, rfl, hs, hp⟩ := hx
  have hlen := pLen hp
  have rl : ∀ r ∈ js, (rowText r).length ≤ 28 := fun r h => row_len (hr r h)
  refine ⟨_, rfl, a, rfl, ⟨_, seqT hG hs⟩, fun D hD => ?_⟩
  refine lc_row3 (walk_tup.mono (fun H' e => seqT e (seqT hG hs)) fun _ _ _ _ _ _ y => y) (fun _ e => e) hD (fun _ => true) (fun i => .str (rowText (js.getD i []))) (by omega) ?_ (fun i x hi hx => ?_) (fun H1 sm e3 => ?_)
  · exact fun _ _ _ => rfl
  · obtain ⟨r, hr1, b, us, rfl, hb, pb⟩ := pAt hp hx
    obtain rfl := pS pb
    have hmem := List.mem_of_getElem? hr1
    have ok := hr r hmem
    obtain ⟨u, v, t, rfl⟩ : ∃ u v t, r = [u, v, t] := by
      have h1 := ok.len
      match r, h1 with
      | [a, b, c], _ => exact ⟨a, b, c, rfl⟩
    refine ⟨b, _, _, _, rfl, seqT hG hb, fun H1 _ Q q => q H1 (Evl.Ex.refl H1), fun _ => ?_⟩
    have lu := (name_len (ok.names u (by simp))).2
    have lv := (name_len (ok.names v (by simp))).2
    have lt := (name_len (ok.names t (by simp))).2
    have l1 : ("meet" : Str).length = 4 := by decide +kernel
    have l2 : (" " : Str).length = 1 := by decide +kernel
    have l0 : Str.empty.length = 0 := rfl
    have big : 100 ≤ sizeLine := by decide
    rw [getD_of hr1]
    refine fun H1 ex Q q => ?_
    refine .inl ⟨_, rfl, by omega, _, rfl, by simp only [len_app]; omega, ?_⟩
    refine ⟨_, rfl, by simp only [len_app]; omega, ?_⟩
    refine ⟨_, rfl, .inl ⟨_, rfl, by omega, _, rfl, by simp only [len_app]; omega, ?_⟩⟩
    refine ⟨_, rfl, by simp only [len_app]; omega, ?_⟩
    refine ⟨_, rfl, .inl ⟨_, rfl, by omega, _, rfl, by simp only [len_app]; omega, ?_⟩⟩
    refine ⟨_, rfl, by simp only [len_app]; omega, ?_⟩
    refine ⟨_, rfl, .inl ⟨_, rfl, by omega, _, rfl, by simp only [len_app]; omega, ?_⟩⟩
    show Q (.str _) H1
    rw [row_parts]
    exact q H1 (Evl.Ex.refl H1)
  · have e4 : H1 D = some (.lst ((js.map rowText).map V.str)) := by
      rw [hlen, given_all js [] (fun r => V.str (rowText r))] at e3
      rw [List.map_map]
      exact e3
    have hsum : (((("web" : Str) :: js.map rowText)).map (·.length)).sum + ((("web" : Str) :: js.map rowText)).length * ("\n" : Str).length ≤ 16777216 := by
      have h1 := sum_le 28 (((("web" : Str) :: js.map rowText)).map (·.length)) fun x hx => by
        rcases List.mem_map.mp hx with ⟨z, hz, rfl⟩
        rcases List.mem_cons.mp hz with rfl | hz
        · decide +kernel
        · rcases List.mem_map.mp hz with ⟨r, hr1, rfl⟩
          exact rl r hr1
      have h2 : ("\n" : Str).length = 1 := by decide +kernel
      rw [List.length_map, List.length_cons, List.length_map] at h1
      rw [List.length_cons, List.length_map, h2]
      omega
    refine ⟨⟨_, rfl⟩, ?_⟩
    refine ⟨_, rfl, D, _, rfl, .inr (SqL.of e4), ?_⟩
    refine ⟨?_, fun p hp => ?_⟩
    · rw [List.length_cons, List.length_append, List.length_map, List.length_map]
      exact Nat.le_trans (m := 101) (by show js.length + 0 + 1 ≤ 101; omega) (by decide)
    refine ⟨"\n", p, ("web" : Str) :: js.map rowText, rfl, rfl, .inl (SqL.of ?_), hsum, ?_⟩
    · rw [upd_same, List.append_nil]
      rfl
    · exact q _ (sm.trans (same_upd hp))
end
end Tc
namespace Tc
open PySem PySem.Spec PyProof.Rows L2 Fw Mw TL
local macro_rules | `(tactic| wtm_at "z_ne") => `(tactic| first | assumption | (apply Ne.symm; assumption) | omega)
local macro_rules | `(tactic| wtm_at "z_hp") => `(tactic| first | assumption | exact upd_same | (refine (upd_ne ?_).trans ?_; (focus wtm_at "z_ne"); wtm_at "z_hp"))
local macro_rules | `(tactic| wtm_at "z_sq") => `(tactic| first | assumption | (exact .inl (.inl (by wtm_at "z_hp"))))
local macro_rules | `(tactic| wtm_at "z_side") => `(tactic| first | assumption | omega | (simp only []; omega) | exact ⟨by omega, by omega⟩ | exact ⟨by omega, by omega, by omega⟩ | exact .inl ⟨by omega, by omega⟩ | exact .inr ⟨by omega, by omega⟩ | decide)
local macro_rules | `(tactic| wtm_at "z") => `(tactic| first
  | refine ⟨_, rfl, ?_⟩
  | refine ⟨_, _, rfl, rfl, ?_⟩
  | refine And.intro (by wtm_at "z_side") ?_
  | refine .inl ⟨_, rfl, ?_⟩
  | refine ⟨_, _, _, _, rfl, rfl, (by wtm_at "z_sq"), (by first | rfl | assumption), ?_⟩
  | refine ⟨_, _, _, _, rfl, rfl, (by wtm_at "z_hp"), (by first | rfl | assumption), ?_⟩)
local macro_rules | `(tactic| wtm_at "zb") => `(tactic| dsimp only [L2.tCB, L2.tCons, L2.tNil, L2.tC])
local macro_rules | `(tactic| wtm_at "sl") => `(tactic| dsimp only [start_one, start_two, start_three, start_four, start_five, List.length_cons, List.length_nil, Nat.reduceAdd, Nat.reduceSub, List.reduceReplicate, List.set_cons_succ, List.set_cons_zero])
section
variable {P : Program} {w : World} {K : PySem.W.Frag} {mg : Str → Option Value} {base : Heap} {CW : Addr}
theorem ok_numbers_at (F : FunAt K mg "numbers_at" s_numbers_at ["web", "load"]) (T : Txt K mg CW)  : Cal P w K mg base CX0 "numbers_at" 1 ["web", "load"] [] (sp_numbers_at K CW) := by
  obtain ⟨f, fd, F, mgf, bf⟩ := F
  refine ⟨f, fd, [], ?_, mgf, F.kp, bf, .nil⟩
  refine F.ok sc_numbers_at (fun vs H Q E h => by obtain ⟨_, _, rfl, _⟩ := h; rfl) (fun cdv A outer s H vs Q E hr h => ?_)
  refine ⟨_, (pss_cons (ps_set (i := 2) sc_numbers_at.nd rfl (.inr rfl) (Zp.pe_dictZip K rfl rfl (by rfl) T.z_dict (by rfl) T.z_zip (pa_cons (pe_fldK K rfl (pv 0)) (pa_cons (pv 1) pa_nil))))
      (pss_one (ps_ret (pe_lc (own := [("words", 4)]) rfl sc_numbers_at.nd (pi_tupK K rfl (pe_fldK K rfl (pv 0))) (blkOk_by (own := [("words", 4)]) (N := N_numbers_at) (sc := defScope s_numbers_at) (by decide +kernel)) (fun _ _ _ _ _ => (pg_name (i := 4) sc_numbers_at.nd rfl (.inl rfl))) (fun _ _ _ _ _ => pts_nil) (fun _ _ _ _ _ => (pe_callTy (call_tuple_ofK K rfl) (by rfl) T.z_tuple (by decide +kernel) (pa_cons (pe_lc (own := [("road", 3)]) rfl sc_numbers_at.nd (pi_tupK K rfl (pv 4)) (blkOk_by (own := [("road", 3)]) (N := N_numbers_at) (by kernel_rfl)) (fun _ _ _ _ _ => (pg_name (i := 3) sc_numbers_at.nd rfl (.inl rfl))) (fun _ _ _ _ _ => pts_nil) (fun _ _ _ _ _ => (pe_dget (hu_of hr) (pv 2) (pv 3) (fun _ _ => rfl)))) pa_nil))))))), ?_⟩
  obtain ⟨x0, x1, rfl, h⟩ := h
  obtain ⟨G, js, ld, hG, hx, good, hy, hlen, q⟩ := h
  have hx0 := hx
  obtain ⟨aw, dx, vt, vj, vr, vi, ve, g, rfl, ha, W⟩ := hx
  obtain ⟨ar, rfl, hsr⟩ := rTs.mp W.roads
  obtain ⟨aj, ts, rfl, hs, hp⟩ := W.junctions
  obtain ⟨al, us, rfl, hsl, pl⟩ := hy
  obtain rfl := pI pl
  refine ⟨_, rfl, aw, CW, dx, _, _, rfl, hG _ _ ha, T.cl, T.n_roads, lk_roads, _, rfl, ?_⟩
  refine ⟨ar, al, roadsOf js, ld.map V.int, rfl, .inr (seqT hG hsr), .inr (seqT hG hsl), fun d hd => ?_⟩
  rw [show mergeK [] (((roadsOf js).map Sum.inr).zip (ld.map V.int)) = tabK (roadsOf js) ld from merge_tab (nodup_roads js) hlen]
  have go1 := (Go.ref0 hG).new (o := .dK (tabK (roadsOf js) ld)) hd
  have s1 := same_upd (o := .dK (tabK (roadsOf js) ld)) (hG.free hd)
  have e1 : upd G d (.dK (tabK (roadsOf js) ld)) d = some (.dK (tabK (roadsOf js) ld)) := upd_same
  generalize upd G d (.dK (tabK (roadsOf js) ld)) = G1 at go1 s1 e1
  generalize upd H d (.dK (tabK (roadsOf js) ld)) = H1 at go1 ⊢
  have hlt := pLen hp
  have hdm : (nums js ld).length = ts.length := by unfold nums; rw [List.length_map, hlt]
  have most := good.most
  refine ⟨_, rfl, aw, CW, dx, _, _, rfl, go1.h _ _ (s1 _ _ ha), T.cl, T.n_junctions, lk_junctions, aj, rfl, ⟨_, seqT (s1.trans go1.h) hs⟩, fun D hD => ?_⟩
  refine lc_data (r := rT K rI) (item := fun i x => ts[i]? = some x) (ys := nums js ld) (L := []) (G := G1) (Inv := fun _ _ => True) (Gd := fun H' => Same G1 H') (by rw [hdm]; exact walk_tup.mono (fun H' e => seqT (s1.trans e) hs) fun _ _ _ _ _ _ y => y) go1.h (fun _ e => e) hD (by simp) (by omega) (fun _ => rfl) trivial (fun _ _ _ _ => trivial) (fun i x y G' H' hy hx go _ Q q => ?_) (fun us G' H' go _ hD' gD' pr => ?_)
  · obtain ⟨r, hr1, rfl⟩ := map_at hy
    obtain ⟨r', hr2, b, us, rfl, hb, pb⟩ := pAt hp hx
    obtain rfl := Option.some.inj (hr1.symm.trans hr2)
    obtain rfl := pS pb
    have l3 := (good.rows r (List.mem_of_getElem? hr1)).len
    have hb' := seqT (s1.trans (go.g.trans go.h)) hb
    have ed := go.h _ _ (go.g _ _ e1)
    refine ⟨_, rfl, b, rfl, ⟨_, hb'⟩, fun D2 hD2 => ?_⟩
    refine lc_flat (walk_tup.mono (fun H' e => seqT e hb') fun _ _ _ _ _ _ y => y) (fun _ e => e) hD2 (fun _ => true) (fun k => .int (val (roadsOf js) ld (r.getD k ""))) (by rw [List.length_map]; omega) (fun _ => rfl) (fun k x hk hx => ⟨fun H2 _ Q q => q H2 (Evl.Ex.refl H2), fun _ => ?_⟩) (fun H2 sm e3 => ?_)
    · obtain ⟨z, hz, rfl⟩ := map_at hx
      rw [getD_of hz]
      have hzr : z ∈ roadsOf js := mem_roads.mpr (List.mem_flatten.mpr ⟨r, List.mem_of_getElem? hr1, List.mem_of_getElem? hz⟩)
      refine fun H3 ex Q q => ⟨_, rfl, _, rfl, d, _, rfl, ?_, q H3 (Evl.Ex.refl H3)⟩
      have := DGet.k (k := .inr z) (ex _ _ ed)
      rw [val_tab hlen hzr] at this
      exact this
    rw [List.length_map, given_all r "" (fun z => V.int (val (roadsOf js) ld z))] at e3
    refine ⟨D2, _, rfl, .inl ⟨SqL.of e3, fun t ht => ?_⟩⟩
    refine q _ _ _ (((Go.refl go.h).grow sm).new ht) trivial ⟨t, _, rfl, SqT.of upd_same, ?_⟩
    rw [show (r.map fun z => V.int (val (roadsOf js) ld z)) = (r.map fun z => val (roadsOf js) ld z).map V.int from by rw [List.map_map]; rfl]
    exact iP _
  · have go2 := go1.trans go
    exact q _ _ _ go2 ⟨D, us, rfl, SqL.of gD', pr⟩
end
end Tc
namespace Tc
open PySem PySem.Spec PyProof.Rows L2 Fw Mw TL
local macro_rules | `(tactic| wtm_at "z_ne") => `(tactic| first | assumption | (apply Ne.symm; assumption) | omega)
local macro_rules | `(tactic| wtm_at "z_hp") => `(tactic| first | assumption | exact upd_same | (refine (upd_ne ?_).trans ?_; (focus wtm_at "z_ne"); wtm_at "z_hp"))
local macro_rules | `(tactic| wtm_at "z_sq") => `(tactic| first | assumption | (exact .inl (.inl (by wtm_at "z_hp"))))
local macro_rules | `(tactic| wtm_at "z_side") => `(tactic| first | assumption | omega | (simp only []; omega) | exact ⟨by omega, by omega⟩ | exact ⟨by omega, by omega, by omega⟩ | exact .inl ⟨by omega, by omega⟩ | exact .inr ⟨by omega, by omega⟩ | decide)
local macro_rules | `(tactic| wtm_at "z") => `(tactic| first
  | refine ⟨_, rfl, ?_⟩
  | refine ⟨_, _, rfl, rfl, ?_⟩
  | refine And.intro (by wtm_at "z_side") ?_
  | refine .inl ⟨_, rfl, ?_⟩
  | refine ⟨_, _, _, _, rfl, rfl, (by wtm_at "z_sq"), (by first | rfl | assumption), ?_⟩
  | refine ⟨_, _, _, _, rfl, rfl, (by wtm_at "z_hp"), (by first | rfl | assumption), ?_⟩)
local macro_rules | `(tactic| wtm_at "zb") => `(tactic| dsimp only [L2.tCB, L2.tCons, L2.tNil, L2.tC])
local macro_rules | `(tactic| wtm_at "sl") => `(tactic| dsimp only [start_one, start_two, start_three, start_four, start_five, List.length_cons, List.length_nil, Nat.reduceAdd, Nat.reduceSub, List.reduceReplicate, List.set_cons_succ, List.set_cons_zero])
section
variable {P : Program} {w : World} {K : PySem.W.Frag} {mg : Str → Option Value} {base : Heap} {CW : Addr}
theorem ok_can_meet (F : FunAt K mg "can_meet" s_can_meet ["numbers"]) (T : Txt K mg CW)  : Cal P w K mg base CX0 "can_meet" 1 ["numbers"] [] (sp_can_meet K CW) := by
  obtain ⟨f, fd, F, mgf, bf⟩ := F
  refine ⟨f, fd, [], ?_, mgf, F.kp, bf, .nil⟩
  refine F.ok sc_can_meet (fun vs H Q E h => by obtain ⟨_, rfl, _⟩ := h; rfl) (fun cdv A outer s H vs Q E hr h => ?_)
  refine ⟨_, (pss_cons (ps_set (i := 1) sc_can_meet.nd rfl (.inl rfl) (pe_callB (Yo.cr_sumT K rfl rfl) (by rfl) T.z_sum (by decide +kernel) (pa_cons (pv 0) pa_nil)))
      (pss_one (ps_ret (pe_and (pe_cmpR op_ge (pe_callB (Yo.cr_minT K rfl rfl) (by rfl) T.z_min (by decide +kernel) (pa_cons (pv 0) pa_nil)) pe_int (nomark _)) (pe_and (pe_cmpR op_eq (pe_op op_mod (pv 1) pe_int) pe_int (nomark _)) (pe_one (pe_cmpR op_le (pe_op op_mul pe_int (pe_callB (Yo.cr_maxT K rfl rfl) (by rfl) T.z_max (by decide +kernel) (pa_cons (pv 0) pa_nil))) (pv 1) (nomark _)))))))), ?_⟩
  obtain ⟨x0, rfl, h⟩ := h
  obtain ⟨G, l, hG, hx, hne, q⟩ := h
  obtain ⟨a, us, rfl, hs, pl⟩ := hx
  obtain rfl := pI pl
  have hs' := seqT hG hs
  have hpos : 0 < l.length := List.length_pos_iff.mpr hne
  refine ⟨_, rfl, a, l, rfl, hs', ?_⟩
  refine ⟨_, rfl, a, l, rfl, hs', hpos, fun m hm mle => ?_⟩
  refine ⟨_, _, rfl, rfl, _, rfl, ?_⟩
  unfold meetL at q
  by_cases c0 : (0:Int) ≤ m
  · rw [decide_eq_true c0]
    rw [show (l.all fun n => decide (0 ≤ n)) = true from List.all_eq_true.mpr fun n hn => decide_eq_true (Int.le_trans c0 (mle n hn)), Bool.true_and] at q
    refine iteT (B := True) ?_
    refine ⟨_, rfl, _, _, rfl, rfl, show (0:Int) < 2 by decide, rfl, _, rfl, ?_⟩
    show if decide (V.int (l.sum % 2) = V.int 0) = true then _ else _
    by_cases c1 : l.sum % 2 = 0
    · rw [decide_eq_true (show V.int (l.sum % 2) = V.int 0 from congrArg V.int c1)]
      rw [decide_eq_true c1, Bool.true_and] at q
      refine iteT (B := True) ?_
      refine ⟨_, rfl, a, l, rfl, hs', hpos, fun n hn nge => ?_⟩
      refine ⟨_, _, rfl, rfl, .inl ⟨by decide, by decide⟩, _, rfl, _, _, rfl, rfl, ?_⟩
      show Q (.bl (decide (2 * n ≤ l.sum))) H
      rw [show decide (2 * n ≤ l.sum) = l.all (fun n => decide (2 * n ≤ l.sum)) from ?_]
      · exact q
      · by_cases c2 : 2 * n ≤ l.sum
        · rw [decide_eq_true c2]
          exact (List.all_eq_true.mpr fun k hk => decide_eq_true (by have := nge k hk; omega)).symm
        · rw [decide_eq_false c2]
          refine (Bool.eq_false_iff.mpr fun e => c2 ?_).symm
          exact of_decide_eq_true (List.all_eq_true.mp e n hn)
    · rw [decide_eq_false (show ¬ V.int (l.sum % 2) = V.int 0 from fun e => c1 (V.int.inj e))]
      rw [decide_eq_false c1, Bool.false_and] at q
      exact iteF (A := True) q
  · rw [decide_eq_false c0]
    rw [show (l.all fun n => decide (0 ≤ n)) = false from Bool.eq_false_iff.mpr fun e => c0 (of_decide_eq_true (List.all_eq_true.mp e m hm)), Bool.false_and, Bool.false_and] at q
    exact iteF (A := True) q
end
end Tc
namespace Tc
open PySem PySem.Spec PyProof.Rows L2 Fw Mw TL
local macro_rules | `(tactic| wtm_at "z_ne") => `(tactic| first | assumption | (apply Ne.symm; assumption) | omega)
local macro_rules | `(tactic| wtm_at "z_hp") => `(tactic| first | assumption | exact upd_same | (refine (upd_ne ?_).trans ?_; (focus wtm_at "z_ne"); wtm_at "z_hp"))
local macro_rules | `(tactic| wtm_at "z_sq") => `(tactic| first | assumption | (exact .inl (.inl (by wtm_at "z_hp"))))
local macro_rules | `(tactic| wtm_at "z_side") => `(tactic| first | assumption | omega | (simp only []; omega) | exact ⟨by omega, by omega⟩ | exact ⟨by omega, by omega, by omega⟩ | exact .inl ⟨by omega, by omega⟩ | exact .inr ⟨by omega, by omega⟩ | decide)
local macro_rules | `(tactic| wtm_at "z") => `(tactic| first
  | refine ⟨_, rfl, ?_⟩
  | refine ⟨_, _, rfl, rfl, ?_⟩
  | refine And.intro (by wtm_at "z_side") ?_
  | refine .inl ⟨_, rfl, ?_⟩
  | refine ⟨_, _, _, _, rfl, rfl, (by wtm_at "z_sq"), (by first | rfl | assumption), ?_⟩
  | refine ⟨_, _, _, _, rfl, rfl, (by wtm_at "z_hp"), (by first | rfl | assumption), ?_⟩)
local macro_rules | `(tactic| wtm_at "zb") => `(tactic| dsimp only [L2.tCB, L2.tCons, L2.tNil, L2.tC])
local macro_rules | `(tactic| wtm_at "sl") => `(tactic| dsimp only [start_one, start_two, start_three, start_four, start_five, List.length_cons, List.length_nil, Nat.reduceAdd, Nat.reduceSub, List.reduceReplicate, List.set_cons_succ, List.set_cons_zero])
section
variable {P : Program} {w : World} {K : PySem.W.Frag} {mg : Str → Option Value} {base : Heap} {CW : Addr}
theorem ok_fits_some_room (F : FunAt K mg "fits_some_room" s_fits_some_room ["web", "load"]) (T : Txt K mg CW) (C_numbers_at : Cal P w K mg base CX0 "numbers_at" 1 ["web", "load"] [] (sp_numbers_at K CW)) (C_can_meet : Cal P w K mg base CX0 "can_meet" 1 ["numbers"] [] (sp_can_meet K CW)) (C_is_whole : Cal P w K mg base CX0 "is_whole" 1 ["value"] [] (sp_is_whole K CW)) : Cal P w K mg base CX0 "fits_some_room" 2 ["web", "load"] [] (sp_fits_some_room K CW) := by
  obtain ⟨f, fd, F, mgf, bf⟩ := F
  obtain ⟨f_numbers_at, fd_numbers_at, ds_numbers_at, G_numbers_at, m_numbers_at, k_numbers_at, b_numbers_at, d_numbers_at⟩ := C_numbers_at
  obtain ⟨f_can_meet, fd_can_meet, ds_can_meet, G_can_meet, m_can_meet, k_can_meet, b_can_meet, d_can_meet⟩ := C_can_meet
  obtain ⟨f_is_whole, fd_is_whole, ds_is_whole, G_is_whole, m_is_whole, k_is_whole, b_is_whole, d_is_whole⟩ := C_is_whole
  refine ⟨f, fd, [], ?_, mgf, F.kp, bf, .nil⟩
  refine F.ok sc_fits_some_room (fun vs H Q E h => by obtain ⟨_, _, rfl, _⟩ := h; rfl) (fun cdv A outer s H vs Q E hr h => ?_)
  refine ⟨_, (pss_one (ps_ret (pe_and (pe_callB (call_isiK' K rfl) (by rfl) T.z_isinstance (by decide +kernel) (pa_cons (pv 1) (pa_cons (pe_bltn (v := .ty "tuple") (u := .type "tuple") (by rfl) T.z_tuple (by decide +kernel) rfl) pa_nil))) (pe_and (pe_cmpR op_eq (pe_callB (call_len_seqK K rfl) (by rfl) T.z_len (by decide +kernel) (pa_cons (pv 1) pa_nil)) (pe_callB (call_len_seqK K rfl) (by rfl) T.z_len (by decide +kernel) (pa_cons (pe_fldK K rfl (pv 0)) pa_nil)) (nomark _)) (pe_and (pe_callB (cr_allK K rfl rfl) (by rfl) T.z_all (by decide +kernel) (pa_cons (pe_lc (own := [("number", 2)]) rfl sc_fits_some_room.nd (pi_tupK K rfl (pv 1)) (blkOk_by (own := [("number", 2)]) (N := N_fits_some_room) (sc := defScope s_fits_some_room) (by decide +kernel)) (fun _ _ _ _ _ => (pg_name (i := 2) sc_fits_some_room.nd rfl (.inl rfl))) (fun _ _ _ _ _ => pts_nil) (fun _ _ _ _ _ => (pe_call G_is_whole (hr.mono (by decide)) (by rfl) m_is_whole k_is_whole b_is_whole d_is_whole pass0 (pa_cons (pv 2) pa_nil)))) pa_nil)) (pe_one (pe_callB (cr_allK K rfl rfl) (by rfl) T.z_all (by decide +kernel) (pa_cons (pe_lc (own := [("numbers", 3)]) rfl sc_fits_some_room.nd (pi_listK K rfl (pe_call G_numbers_at (hr.mono (by decide)) (by rfl) m_numbers_at k_numbers_at b_numbers_at d_numbers_at pass0 (pa_cons (pv 0) (pa_cons (pv 1) pa_nil)))) (blkOk_by (own := [("numbers", 3)]) (N := N_fits_some_room) (sc := defScope s_fits_some_room) (by decide +kernel)) (fun _ _ _ _ _ => (pg_name (i := 3) sc_fits_some_room.nd rfl (.inl rfl))) (fun _ _ _ _ _ => pts_nil) (fun _ _ _ _ _ => (pe_call G_can_meet (hr.mono (by decide)) (by rfl) m_can_meet k_can_meet b_can_meet d_can_meet pass0 (pa_cons (pv 3) pa_nil)))) pa_nil)))))))), ?_⟩
  obtain ⟨x0, x1, rfl, h⟩ := h
  obtain ⟨G, js, ld, hG, hx, good, hy, hlen, q⟩ := h
  have hx0 := hx
  have hy0 := hy
  have rl := good_roads good
  obtain ⟨aw, dx, vt, vj, vr, vi, ve, g, rfl, ha, W⟩ := hx
  obtain ⟨ar, rfl, hsr⟩ := rTs.mp W.roads
  obtain ⟨al, us, rfl, hsl, pl⟩ := hy
  obtain rfl := pI pl
  have hl' := seqT hG hsl
  refine ⟨_, rfl, ?_⟩
  wtm_at "zb"
  refine isi_tup hl' ⟨_, rfl, iteT (B := True) ?_⟩
  refine ⟨_, rfl, al, _, rfl, .inr hl', ?_⟩
  refine ⟨_, rfl, aw, CW, dx, _, _, rfl, hG _ _ ha, T.cl, T.n_roads, lk_roads, ar, _, rfl, .inr (seqT hG hsr), ?_⟩
  refine ⟨rfl, _, rfl, ?_⟩
  rw [List.length_map, List.length_map, hlen, decide_eq_true (show V.int ((roadsOf js).length : Nat) = V.int ((roadsOf js).length : Nat) from rfl)]
  refine iteT (B := True) ?_
  refine ⟨_, rfl, al, rfl, ⟨_, hl'⟩, fun D hD => ?_⟩
  refine lc_flat (walk_tup.mono (fun H' e => seqT e hl') fun _ _ _ _ _ _ y => y) (fun _ e => e) hD (fun _ => true) (fun _ => .bl true) (by rw [List.length_map]; omega) (fun _ => rfl) (fun k x hk hx => ⟨fun H2 _ Q q => q H2 (Evl.Ex.refl H2), fun _ => ?_⟩) (fun H2 sm e3 => ?_)
  · obtain ⟨n, hn, rfl⟩ := map_at hx
    exact fun H3 ex Q q => ⟨_, rfl, _, rfl, n, rfl, q H3 (Evl.Ex.refl H3)⟩
  have e4 : ∀ m : Nat, Evl.given m (fun _ => true) (fun _ => V.bl true) = (List.replicate m true).map V.bl := fun m => by
    unfold Evl.given
    rw [List.filter_eq_self.mpr (fun _ _ => rfl)]
    apply List.ext_getElem
    · simp
    · intro i h1 h2
      simp
  rw [e4] at e3
  refine ⟨D, _, rfl, .inl (.inl e3), _, rfl, ?_⟩
  rw [show ∀ m : Nat, (List.replicate m true).all id = true from fun m => by simp]
  refine iteT (B := True) ?_
  have go1 := (Go.ref0 hG).grow sm
  refine ⟨_, rfl, _, rfl, ?_⟩
  refine ⟨_, _, rfl, G, js, ld, go1.h, hx0, good, hy0, hlen, fun v G2 H3 go2 hv => ?_⟩
  obtain ⟨an, ts, rfl, hn, pn⟩ := hv
  have hn3 := go2.h.seq hn
  refine ⟨an, rfl, ⟨_, hn3⟩, fun D2 hD2 => ?_⟩
  have nl : ts.length ≤ 12 := by
    have h1 := pLen pn
    have h2 := good.most
    unfold nums at h1
    rw [List.length_map] at h1
    omega
  refine lc_flat (walk_list.mono (fun H' e => Same.seq e hn3) fun _ _ _ _ _ _ y => y) (fun _ e => e) hD2 (fun _ => true) (fun k => .bl (meetL ((nums js ld).getD k []))) (by omega) (fun _ => rfl) (fun k x hk hx => ⟨fun H2 _ Q q => q H2 (Evl.Ex.refl H2), fun _ => ?_⟩) (fun H4 sm4 e5 => ?_)
  · obtain ⟨l, hl, rl⟩ := pAt pn hx
    have hm := List.mem_of_getElem? hl
    rw [getD_of hl]
    refine fun H4 ex Q q => ⟨_, rfl, _, rfl, G2, l, go2.h.trans ex, rl, fun e => ?_, q H4 (Evl.Ex.refl H4)⟩
    have := nums_three good ld l hm
    rw [e] at this
    cases this
  rw [pLen pn, given_all (nums js ld) [] (fun l => V.bl (meetL l))] at e5
  refine ⟨D2, (nums js ld).map meetL, rfl, .inl (.inl (by rw [List.map_map]; exact e5)), ?_⟩
  rw [show ((nums js ld).map meetL).all id = fitB js ld from by unfold fitB; rw [List.all_map]; rfl]
  exact q _ ((go1.trans go2).grow sm4).all
end
end Tc
namespace Tc
open PySem PySem.Spec PyProof.Rows L2 Fw Mw TL
local macro_rules | `(tactic| wtm_at "z_ne") => `(tactic| first | assumption | (apply Ne.symm; assumption) | omega)
local macro_rules | `(tactic| wtm_at "z_hp") => `(tactic| first | assumption | exact upd_same | (refine (upd_ne ?_).trans ?_; (focus wtm_at "z_ne"); wtm_at "z_hp"))
local macro_rules | `(tactic| wtm_at "z_sq") => `(tactic| first | assumption | (exact .inl (.inl (by wtm_at "z_hp"))))
local macro_rules | `(tactic| wtm_at "z_side") => `(tactic| first | assumption | omega | (simp only []; omega) | exact ⟨by omega, by omega⟩ | exact ⟨by omega, by omega, by omega⟩ | exact .inl ⟨by omega, by omega⟩ | exact .inr ⟨by omega, by omega⟩ | decide)
local macro_rules | `(tactic| wtm_at "z") => `(tactic| first
  | refine ⟨_, rfl, ?_⟩
  | refine ⟨_, _, rfl, rfl, ?_⟩
  | refine And.intro (by wtm_at "z_side") ?_
  | refine .inl ⟨_, rfl, ?_⟩
  | refine ⟨_, _, _, _, rfl, rfl, (by wtm_at "z_sq"), (by first | rfl | assumption), ?_⟩
  | refine ⟨_, _, _, _, rfl, rfl, (by wtm_at "z_hp"), (by first | rfl | assumption), ?_⟩)
local macro_rules | `(tactic| wtm_at "zb") => `(tactic| dsimp only [L2.tCB, L2.tCons, L2.tNil, L2.tC])
local macro_rules | `(tactic| wtm_at "sl") => `(tactic| dsimp only [start_one, start_two, start_three, start_four, start_five, List.length_cons, List.length_nil, Nat.reduceAdd, Nat.reduceSub, List.reduceReplicate, List.set_cons_succ, List.set_cons_zero])
section
variable {P : Program} {w : World} {K : PySem.W.Frag} {mg : Str → Option Value} {base : Heap} {CW : Addr}
theorem ok_least_fitting (F : FunAt K mg "least_fitting" s_least_fitting ["web", "load"]) (T : Txt K mg CW) (C_numbers_at : Cal P w K mg base CX0 "numbers_at" 1 ["web", "load"] [] (sp_numbers_at K CW)) : Cal P w K mg base CX0 "least_fitting" 2 ["web", "load"] [] (sp_least_fitting K CW) := by
  obtain ⟨f, fd, F, mgf, bf⟩ := F
  obtain ⟨f_numbers_at, fd_numbers_at, ds_numbers_at, G_numbers_at, m_numbers_at, k_numbers_at, b_numbers_at, d_numbers_at⟩ := C_numbers_at
  refine ⟨f, fd, [], ?_, mgf, F.kp, bf, .nil⟩
  refine F.ok sc_least_fitting (fun vs H Q E h => by obtain ⟨_, _, rfl, _⟩ := h; rfl) (fun cdv A outer s H vs Q E hr h => ?_)
  refine ⟨_, (pss_one (ps_ret (pe_op op_fdiv (pe_callB (cr_maxK K rfl rfl) (by rfl) T.z_max (by decide +kernel) (pa_cons (pe_lc (own := [("numbers", 2)]) rfl sc_least_fitting.nd (pi_listK K rfl (pe_call G_numbers_at (hr.mono (by decide)) (by rfl) m_numbers_at k_numbers_at b_numbers_at d_numbers_at pass0 (pa_cons (pv 0) (pa_cons (pv 1) pa_nil)))) (blkOk_by (own := [("numbers", 2)]) (N := N_least_fitting) (sc := defScope s_least_fitting) (by decide +kernel)) (fun _ _ _ _ _ => (pg_name (i := 2) sc_least_fitting.nd rfl (.inl rfl))) (fun _ _ _ _ _ => pts_nil) (fun _ _ _ _ _ => (pe_callB (Yo.cr_sumT K rfl rfl) (by rfl) T.z_sum (by decide +kernel) (pa_cons (pv 2) pa_nil)))) pa_nil)) pe_int))), ?_⟩
  obtain ⟨x0, x1, rfl, h⟩ := h
  obtain ⟨G, js, ld, hG, hx, good, hy, fit, q⟩ := h
  have hlen := fit.len
  have most := good.most
  refine ⟨_, rfl, _, rfl, ?_⟩
  refine ⟨_, _, rfl, G, js, ld, hG, hx, good, hy, hlen, fun v G1 H1 go1 hv => ?_⟩
  obtain ⟨an, ts, rfl, hn, pn⟩ := hv
  have hn1 := go1.h.seq hn
  have lts := pLen pn
  have lnm : (nums js ld).length = js.length := by unfold nums; rw [List.length_map]
  refine ⟨an, rfl, ⟨_, hn1⟩, fun D hD => ?_⟩
  refine lc_flat (walk_list.mono (fun H' e => Same.seq e hn1) fun _ _ _ _ _ _ y => y) (fun _ e => e) hD (fun _ => true) (fun k => .int ((nums js ld).getD k []).sum) (by omega) (fun _ => rfl) (fun k x hk hx => ⟨fun H2 _ Q q => q H2 (Evl.Ex.refl H2), fun _ => ?_⟩) (fun H2 sm e3 => ?_)
  · obtain ⟨l, hl, a, us, rfl, hs, pl⟩ := pAt pn hx
    obtain rfl := pI pl
    rw [getD_of hl]
    exact fun H3 ex Q q => ⟨_, rfl, a, l, rfl, seqT (go1.h.trans ex) hs, q H3 (Evl.Ex.refl H3)⟩
  rw [lts, given_all (nums js ld) [] (fun l => V.int l.sum)] at e3
  refine ⟨D, (nums js ld).map List.sum, rfl, SqL.of (by rw [List.map_map]; exact e3), by rw [List.length_map]; exact List.length_pos_iff.mpr (nums_ne good ld), fun m hm hge => ?_⟩
  refine ⟨_, _, rfl, rfl, ⟨by decide, by decide⟩, ?_⟩
  obtain ⟨l, hl, rfl⟩ := List.mem_map.mp hm
  refine q (l.sum / 2) ⟨⟨l, hl, rfl⟩, fun l' hl' => ?_⟩ _ (go1.grow sm).all
  have := hge _ (List.mem_map.mpr ⟨l', hl', rfl⟩)
  omega
end
end Tc
namespace Tc
open PySem PySem.Spec PyProof.Rows L2 Fw Mw TL
local macro_rules | `(tactic| wtm_at "z_ne") => `(tactic| first | assumption | (apply Ne.symm; assumption) | omega)
local macro_rules | `(tactic| wtm_at "z_hp") => `(tactic| first | assumption | exact upd_same | (refine (upd_ne ?_).trans ?_; (focus wtm_at "z_ne"); wtm_at "z_hp"))
local macro_rules | `(tactic| wtm_at "z_sq") => `(tactic| first | assumption | (exact .inl (.inl (by wtm_at "z_hp"))))
local macro_rules | `(tactic| wtm_at "z_side") => `(tactic| first | assumption | omega | (simp only []; omega) | exact ⟨by omega, by omega⟩ | exact ⟨by omega, by omega, by omega⟩ | exact .inl ⟨by omega, by omega⟩ | exact .inr ⟨by omega, by omega⟩ | decide)
local macro_rules | `(tactic| wtm_at "z") => `(tactic| first
  | refine ⟨_, rfl, ?_⟩
  | refine ⟨_, _, rfl, rfl, ?_⟩
  | refine And.intro (by wtm_at "z_side") ?_
  | refine .inl ⟨_, rfl, ?_⟩
  | refine ⟨_, _, _, _, rfl, rfl, (by wtm_at "z_sq"), (by first | rfl | assumption), ?_⟩
  | refine ⟨_, _, _, _, rfl, rfl, (by wtm_at "z_hp"), (by first | rfl | assumption), ?_⟩)
local macro_rules | `(tactic| wtm_at "zb") => `(tactic| dsimp only [L2.tCB, L2.tCons, L2.tNil, L2.tC])
local macro_rules | `(tactic| wtm_at "sl") => `(tactic| dsimp only [start_one, start_two, start_three, start_four, start_five, List.length_cons, List.length_nil, Nat.reduceAdd, Nat.reduceSub, List.reduceReplicate, List.set_cons_succ, List.set_cons_zero])
section
variable {P : Program} {w : World} {K : PySem.W.Frag} {mg : Str → Option Value} {base : Heap} {CW : Addr}
theorem ok_fits (F : FunAt K mg "fits" s_fits ["web", "room", "load"]) (T : Txt K mg CW) (C_least_fitting : Cal P w K mg base CX0 "least_fitting" 2 ["web", "load"] [] (sp_least_fitting K CW)) (C_fits_some_room : Cal P w K mg base CX0 "fits_some_room" 2 ["web", "load"] [] (sp_fits_some_room K CW)) : Cal P w K mg base CX0 "fits" 3 ["web", "room", "load"] [] (sp_fits K CW) := by
  obtain ⟨f, fd, F, mgf, bf⟩ := F
  obtain ⟨f_least_fitting, fd_least_fitting, ds_least_fitting, G_least_fitting, m_least_fitting, k_least_fitting, b_least_fitting, d_least_fitting⟩ := C_least_fitting
  obtain ⟨f_fits_some_room, fd_fits_some_room, ds_fits_some_room, G_fits_some_room, m_fits_some_room, k_fits_some_room, b_fits_some_room, d_fits_some_room⟩ := C_fits_some_room
  refine ⟨f, fd, [], ?_, mgf, F.kp, bf, .nil⟩
  refine F.ok sc_fits (fun vs H Q E h => by obtain ⟨_, _, _, rfl, _⟩ := h; rfl) (fun cdv A outer s H vs Q E hr h => ?_)
  refine ⟨_, (pss_one (ps_ret (pe_and (pe_call G_fits_some_room (hr.mono (by decide)) (by rfl) m_fits_some_room k_fits_some_room b_fits_some_room d_fits_some_room pass0 (pa_cons (pv 0) (pa_cons (pv 2) pa_nil))) (pe_one (pe_cmpR op_le (pe_call G_least_fitting (hr.mono (by decide)) (by rfl) m_least_fitting k_least_fitting b_least_fitting d_least_fitting pass0 (pa_cons (pv 0) (pa_cons (pv 2) pa_nil))) (pv 1) (nomark _)))))), ?_⟩
  obtain ⟨x0, x1, x2, rfl, h⟩ := h
  obtain ⟨G, js, room, ld, hG, hx, good, rfl, hy, hlen, q⟩ := h
  refine ⟨_, rfl, _, rfl, ?_⟩
  refine ⟨_, _, rfl, G, js, ld, hG, hx, good, hy, hlen, fun H1 sm1 => ?_⟩
  refine ⟨_, rfl, ?_⟩
  unfold fitInB at q
  cases c : fitB js ld with
  | false =>
    rw [c] at q
    exact iteF (A := True) (q _ sm1)
  | true =>
    rw [c] at q
    have fit := (fitB_iff hlen).mp c
    refine iteT (B := True) ?_
    refine ⟨_, rfl, _, rfl, ?_⟩
    refine ⟨_, _, rfl, G, js, ld, hG.trans sm1, hx, good, hy, fit, fun m hm H2 sm2 => ?_⟩
    refine ⟨_, rfl, _, _, rfl, rfl, ?_⟩
    obtain ⟨⟨l, hl, rfl⟩, hle⟩ := hm
    show Q (.bl (decide (l.sum / 2 ≤ room))) H2
    have q2 := q _ (sm1.trans sm2)
    rw [Bool.true_and] at q2
    rw [show decide (l.sum / 2 ≤ room) = (nums js ld).all fun l => decide (l.sum ≤ 2 * room) from ?_]
    · exact q2
    · have ev : ∀ l ∈ nums js ld, l.sum % 2 = 0 := fun l hl => (fit.meets l hl).2.1
      by_cases c2 : l.sum / 2 ≤ room
      · rw [decide_eq_true c2]
        exact (List.all_eq_true.mpr fun k hk => decide_eq_true (by have := hle k hk; have := ev k hk; omega)).symm
      · rw [decide_eq_false c2]
        refine (Bool.eq_false_iff.mpr fun e => c2 ?_).symm
        have := of_decide_eq_true (List.all_eq_true.mp e l hl)
        have := ev l hl
        omega
end
end Tc
namespace Tc
open PySem PySem.Spec PyProof.Rows L2 Fw Mw TL
local macro_rules | `(tactic| wtm_at "z_ne") => `(tactic| first | assumption | (apply Ne.symm; assumption) | omega)
local macro_rules | `(tactic| wtm_at "z_hp") => `(tactic| first | assumption | exact upd_same | (refine (upd_ne ?_).trans ?_; (focus wtm_at "z_ne"); wtm_at "z_hp"))
local macro_rules | `(tactic| wtm_at "z_sq") => `(tactic| first | assumption | (exact .inl (.inl (by wtm_at "z_hp"))))
local macro_rules | `(tactic| wtm_at "z_side") => `(tactic| first | assumption | omega | (simp only []; omega) | exact ⟨by omega, by omega⟩ | exact ⟨by omega, by omega, by omega⟩ | exact .inl ⟨by omega, by omega⟩ | exact .inr ⟨by omega, by omega⟩ | decide)
local macro_rules | `(tactic| wtm_at "z") => `(tactic| first
  | refine ⟨_, rfl, ?_⟩
  | refine ⟨_, _, rfl, rfl, ?_⟩
  | refine And.intro (by wtm_at "z_side") ?_
  | refine .inl ⟨_, rfl, ?_⟩
  | refine ⟨_, _, _, _, rfl, rfl, (by wtm_at "z_sq"), (by first | rfl | assumption), ?_⟩
  | refine ⟨_, _, _, _, rfl, rfl, (by wtm_at "z_hp"), (by first | rfl | assumption), ?_⟩)
local macro_rules | `(tactic| wtm_at "zb") => `(tactic| dsimp only [L2.tCB, L2.tCons, L2.tNil, L2.tC])
local macro_rules | `(tactic| wtm_at "sl") => `(tactic| dsimp only [start_one, start_two, start_three, start_four, start_five, List.length_cons, List.length_nil, Nat.reduceAdd, Nat.reduceSub, List.reduceReplicate, List.set_cons_succ, List.set_cons_zero])
section
variable {P : Program} {w : World} {K : PySem.W.Frag} {mg : Str → Option Value} {base : Heap} {CW : Addr}
theorem ok_check_load (F : FunAt K mg "check_load" s_check_load ["web", "room", "load"]) (T : Txt K mg CW) (C_fits : Cal P w K mg base CX0 "fits" 3 ["web", "room", "load"] [] (sp_fits K CW)) : Cal P w K mg base CX0 "check_load" 4 ["web", "room", "load"] [] (sp_check_load K CW) := by
  obtain ⟨f, fd, F, mgf, bf⟩ := F
  obtain ⟨f_fits, fd_fits, ds_fits, G_fits, m_fits, k_fits, b_fits, d_fits⟩ := C_fits
  refine ⟨f, fd, [], ?_, mgf, F.kp, bf, .nil⟩
  refine F.ok sc_check_load (fun vs H Q E h => by obtain ⟨_, _, _, rfl, _⟩ := h; rfl) (fun cdv A outer s H vs Q E hr h => ?_)
  refine ⟨_, (pss_one (ps_if (pt_not (pt_val (pe_call G_fits (hr.mono (by decide)) (by rfl) m_fits k_fits b_fits d_fits pass0 (pa_cons (pv 0) (pa_cons (pv 1) (pa_cons (pv 2) pa_nil)))))) (pss_one ps_never) pss_nil)), ?_⟩
  obtain ⟨x0, x1, x2, rfl, h⟩ := h
  obtain ⟨G, js, room, ld, hG, hx, good, rfl, hy, fit, q⟩ := h
  refine ⟨_, rfl, _, rfl, _, rfl, ?_⟩
  refine ⟨_, _, _, rfl, G, js, room, ld, hG, hx, good, rfl, hy, fit.1.len, fun H1 sm1 => ?_⟩
  rw [(fitInB_iff fit.1.len).mpr fit]
  exact ⟨_, rfl, iteF (q H1 sm1)⟩
end
end Tc
namespace Tc
open PySem PySem.Spec PyProof.Rows L2 Fw Mw TL
local macro_rules | `(tactic| wtm_at "z_ne") => `(tactic| first | assumption | (apply Ne.symm; assumption) | omega)
local macro_rules | `(tactic| wtm_at "z_hp") => `(tactic| first | assumption | exact upd_same | (refine (upd_ne ?_).trans ?_; (focus wtm_at "z_ne"); wtm_at "z_hp"))
local macro_rules | `(tactic| wtm_at "z_sq") => `(tactic| first | assumption | (exact .inl (.inl (by wtm_at "z_hp"))))
local macro_rules | `(tactic| wtm_at "z_side") => `(tactic| first | assumption | omega | (simp only []; omega) | exact ⟨by omega, by omega⟩ | exact ⟨by omega, by omega, by omega⟩ | exact .inl ⟨by omega, by omega⟩ | exact .inr ⟨by omega, by omega⟩ | decide)
local macro_rules | `(tactic| wtm_at "z") => `(tactic| first
  | refine ⟨_, rfl, ?_⟩
  | refine ⟨_, _, rfl, rfl, ?_⟩
  | refine And.intro (by wtm_at "z_side") ?_
  | refine .inl ⟨_, rfl, ?_⟩
  | refine ⟨_, _, _, _, rfl, rfl, (by wtm_at "z_sq"), (by first | rfl | assumption), ?_⟩
  | refine ⟨_, _, _, _, rfl, rfl, (by wtm_at "z_hp"), (by first | rfl | assumption), ?_⟩)
local macro_rules | `(tactic| wtm_at "zb") => `(tactic| dsimp only [L2.tCB, L2.tCons, L2.tNil, L2.tC])
local macro_rules | `(tactic| wtm_at "sl") => `(tactic| dsimp only [start_one, start_two, start_three, start_four, start_five, List.length_cons, List.length_nil, Nat.reduceAdd, Nat.reduceSub, List.reduceReplicate, List.set_cons_succ, List.set_cons_zero])
section
variable {P : Program} {w : World} {K : PySem.W.Frag} {mg : Str → Option Value} {base : Heap} {CW : Addr}
theorem ok_load_told (F : FunAt K mg "load_told" s_load_told ["web", "numbers"]) (T : Txt K mg CW)  : Cal P w K mg base CX0 "load_told" 1 ["web", "numbers"] [] (sp_load_told K CW) := by
  obtain ⟨f, fd, F, mgf, bf⟩ := F
  refine ⟨f, fd, [], ?_, mgf, F.kp, bf, .nil⟩
  refine F.ok sc_load_told (fun vs H Q E h => by obtain ⟨_, _, rfl, _⟩ := h; rfl) (fun cdv A outer s H vs Q E hr h => ?_)
  refine ⟨_, (pss_one (ps_ret (pe_callTy (call_tuple_ofK K rfl) (by rfl) T.z_tuple (by decide +kernel) (pa_cons (pe_lc (own := [("road", 2)]) rfl sc_load_told.nd (pi_tupK K rfl (pe_fldK K rfl (pv 0))) (blkOk_by (own := [("road", 2)]) (N := N_load_told) (sc := defScope s_load_told) (by decide +kernel)) (fun _ _ _ _ _ => (pg_name (i := 2) sc_load_told.nd rfl (.inl rfl))) (fun _ _ _ _ _ => pts_nil) (fun _ _ _ _ _ => (pe_dget (hu_of hr) (pv 1) (pv 2) (fun _ _ => rfl)))) pa_nil)))), ?_⟩
  obtain ⟨x0, x1, rfl, h⟩ := h
  obtain ⟨G, js, ld, hG, hx, good, ⟨d, rfl, hd, ll⟩, q⟩ := h
  have hx0 := hx
  obtain ⟨aw, dx, vt, vj, vr, vi, ve, g, rfl, ha, W⟩ := hx
  obtain ⟨ar, rfl, hsr⟩ := rTs.mp W.roads
  have hsr' := seqT hG hsr
  have rl := good_roads good
  refine ⟨_, rfl, aw, CW, dx, _, _, rfl, hG _ _ ha, T.cl, T.n_roads, lk_roads, ar, rfl, ⟨_, hsr'⟩, fun D hD => ?_⟩
  refine lc_flat (walk_tup.mono (fun H' e => seqT e hsr') fun _ _ _ _ _ _ y => y) (fun _ e => e) hD (fun _ => true) (fun k => .int (val (roadsOf js) ld ((roadsOf js).getD k ""))) (by rw [List.length_map]; omega) (fun _ => wipe1 (by decide)) (fun k x hk hx => ⟨fun H2 _ Q q => q H2 (Evl.Ex.refl H2), fun _ => ?_⟩) (fun H2 sm e3 => ?_)
  · obtain ⟨z, hz, rfl⟩ := map_at hx
    rw [getD_of hz]
    refine fun H3 ex Q q => ⟨_, rfl, _, rfl, d, _, rfl, dget_val (rd_up hd (hG.trans ex)) ll (List.mem_of_getElem? hz), q H3 (Evl.Ex.refl H3)⟩
  rw [List.length_map, given_all (roadsOf js) "" (fun z => V.int (val (roadsOf js) ld z))] at e3
  refine ⟨D, _, rfl, .inl ⟨SqL.of e3, fun t ht => ?_⟩⟩
  refine q _ _ _ (((Go.ref0 hG).grow sm).new ht) ⟨t, _, rfl, SqT.of upd_same, ?_⟩
  rw [show (roadsOf js).map (fun z => V.int (val (roadsOf js) ld z)) = ld.map V.int from (List.map_map (f := fun z => val (roadsOf js) ld z) (g := V.int) (l := roadsOf js)).symm.trans (congrArg (List.map V.int) (vals_tab (nodup_roads js) ll))]
  exact iP _
end
end Tc
namespace Tc
open PySem PySem.Spec PyProof.Rows L2 Fw Mw TL
local macro_rules | `(tactic| wtm_at "z_ne") => `(tactic| first | assumption | (apply Ne.symm; assumption) | omega)
local macro_rules | `(tactic| wtm_at "z_hp") => `(tactic| first | assumption | exact upd_same | (refine (upd_ne ?_).trans ?_; (focus wtm_at "z_ne"); wtm_at "z_hp"))
local macro_rules | `(tactic| wtm_at "z_sq") => `(tactic| first | assumption | (exact .inl (.inl (by wtm_at "z_hp"))))
local macro_rules | `(tactic| wtm_at "z_side") => `(tactic| first | assumption | omega | (simp only []; omega) | exact ⟨by omega, by omega⟩ | exact ⟨by omega, by omega, by omega⟩ | exact .inl ⟨by omega, by omega⟩ | exact .inr ⟨by omega, by omega⟩ | decide)
local macro_rules | `(tactic| wtm_at "z") => `(tactic| first
  | refine ⟨_, rfl, ?_⟩
  | refine ⟨_, _, rfl, rfl, ?_⟩
  | refine And.intro (by wtm_at "z_side") ?_
  | refine .inl ⟨_, rfl, ?_⟩
  | refine ⟨_, _, _, _, rfl, rfl, (by wtm_at "z_sq"), (by first | rfl | assumption), ?_⟩
  | refine ⟨_, _, _, _, rfl, rfl, (by wtm_at "z_hp"), (by first | rfl | assumption), ?_⟩)
local macro_rules | `(tactic| wtm_at "zb") => `(tactic| dsimp only [L2.tCB, L2.tCons, L2.tNil, L2.tC])
local macro_rules | `(tactic| wtm_at "sl") => `(tactic| dsimp only [start_one, start_two, start_three, start_four, start_five, List.length_cons, List.length_nil, Nat.reduceAdd, Nat.reduceSub, List.reduceReplicate, List.set_cons_succ, List.set_cons_zero])
section
variable {P : Program} {w : World} {K : PySem.W.Frag} {mg : Str → Option Value} {base : Heap} {CW : Addr}
theorem ok_can_flip (F : FunAt K mg "can_flip" s_can_flip ["junctions", "road"]) (T : Txt K mg CW) (C_places_of : Cal P w K mg base CX0 "places_of" 1 ["junctions", "road"] [] (sp_places_of K CW)) : Cal P w K mg base CX0 "can_flip" 2 ["junctions", "road"] [] (sp_can_flip K CW) := by
  obtain ⟨f, fd, F, mgf, bf⟩ := F
  obtain ⟨f_places_of, fd_places_of, ds_places_of, G_places_of, m_places_of, k_places_of, b_places_of, d_places_of⟩ := C_places_of
  refine ⟨f, fd, [], ?_, mgf, F.kp, bf, .nil⟩
  refine F.ok sc_can_flip (fun vs H Q E h => by obtain ⟨_, _, rfl, _⟩ := h; rfl) (fun cdv A outer s H vs Q E hr h => ?_)
  refine ⟨_, (pss_one (ps_ret (pe_cmpR op_eq (pe_callB (call_len_seqK K rfl) (by rfl) T.z_len (by decide +kernel) (pa_cons (pe_call G_places_of (hr.mono (by decide)) (by rfl) m_places_of k_places_of b_places_of d_places_of pass0 (pa_cons (pv 0) (pa_cons (pv 1) pa_nil))) pa_nil)) pe_int (nomark _)))), ?_⟩
  obtain ⟨x0, x1, rfl, h⟩ := h
  obtain ⟨G, js, z, hG, hx, rfl, hl, q⟩ := h
  refine ⟨_, rfl, _, rfl, ?_⟩
  wtm_at "zb"
  refine ⟨_, _, rfl, G, js, z, hG, hx, rfl, hl, fun v G1 H1 go1 hv => ?_⟩
  obtain ⟨D, us, rfl, hD, pD⟩ := hv
  obtain rfl := pI pD
  refine ⟨D, _, rfl, .inl (go1.h.seq hD), ?_⟩
  refine ⟨rfl, ?_⟩
  rw [List.length_map, List.length_map]
  have e : decide (V.int ((sidesOf js z).length : Int) = V.int 2) = decide ((sidesOf js z).length = 2) := dec_nat 2
  rw [e]
  exact q _ go1.all
end
end Tc
namespace Tc
open PySem PySem.Spec PyProof.Rows L2 Fw Mw TL
local macro_rules | `(tactic| wtm_at "z_ne") => `(tactic| first | assumption | (apply Ne.symm; assumption) | omega)
local macro_rules | `(tactic| wtm_at "z_hp") => `(tactic| first | assumption | exact upd_same | (refine (upd_ne ?_).trans ?_; (focus wtm_at "z_ne"); wtm_at "z_hp"))
local macro_rules | `(tactic| wtm_at "z_sq") => `(tactic| first | assumption | (exact .inl (.inl (by wtm_at "z_hp"))))
local macro_rules | `(tactic| wtm_at "z_side") => `(tactic| first | assumption | omega | (simp only []; omega) | exact ⟨by omega, by omega⟩ | exact ⟨by omega, by omega, by omega⟩ | exact .inl ⟨by omega, by omega⟩ | exact .inr ⟨by omega, by omega⟩ | decide)
local macro_rules | `(tactic| wtm_at "z") => `(tactic| first
  | refine ⟨_, rfl, ?_⟩
  | refine ⟨_, _, rfl, rfl, ?_⟩
  | refine And.intro (by wtm_at "z_side") ?_
  | refine .inl ⟨_, rfl, ?_⟩
  | refine ⟨_, _, _, _, rfl, rfl, (by wtm_at "z_sq"), (by first | rfl | assumption), ?_⟩
  | refine ⟨_, _, _, _, rfl, rfl, (by wtm_at "z_hp"), (by first | rfl | assumption), ?_⟩)
local macro_rules | `(tactic| wtm_at "zb") => `(tactic| dsimp only [L2.tCB, L2.tCons, L2.tNil, L2.tC])
local macro_rules | `(tactic| wtm_at "sl") => `(tactic| dsimp only [start_one, start_two, start_three, start_four, start_five, List.length_cons, List.length_nil, Nat.reduceAdd, Nat.reduceSub, List.reduceReplicate, List.set_cons_succ, List.set_cons_zero])
section
variable {P : Program} {w : World} {K : PySem.W.Frag} {mg : Str → Option Value} {base : Heap} {CW : Addr}
theorem ok_is_way (F : FunAt K mg "is_way" s_is_way ["way"]) (T : Txt K mg CW) (C_is_whole : Cal P w K mg base CX0 "is_whole" 1 ["value"] [] (sp_is_whole K CW)) : Cal P w K mg base CX0 "is_way" 2 ["way"] [] (sp_is_way K CW) := by
  obtain ⟨f, fd, F, mgf, bf⟩ := F
  obtain ⟨f_is_whole, fd_is_whole, ds_is_whole, G_is_whole, m_is_whole, k_is_whole, b_is_whole, d_is_whole⟩ := C_is_whole
  obtain ⟨t_FIRST_WAY, c_FIRST_WAY⟩ := T.c_FIRST_WAY
  obtain ⟨t_SECOND_WAY, c_SECOND_WAY⟩ := T.c_SECOND_WAY
  refine ⟨f, fd, [], ?_, mgf, F.kp, bf, .nil⟩
  refine F.ok sc_is_way (fun vs H Q E h => by obtain ⟨_, rfl, _⟩ := h; rfl) (fun cdv A outer s H vs Q E hr h => ?_)
  refine ⟨_, (pss_one (ps_ret (pe_and (pe_call G_is_whole (hr.mono (by decide)) (by rfl) m_is_whole k_is_whole b_is_whole d_is_whole pass0 (pa_cons (pv 0) pa_nil)) (pe_one (pe_chain op_le op_le (pe_glob (v := .int (1)) rfl c_FIRST_WAY ⟨_, rfl⟩) (pv 0) (pe_glob (v := .int (2)) rfl c_SECOND_WAY ⟨_, rfl⟩)))))), ?_⟩
  obtain ⟨x0, rfl, h⟩ := h
  obtain ⟨k, rfl, hk, q⟩ := h
  refine ⟨_, rfl, ?_⟩
  refine ⟨_, rfl, k, rfl, _, rfl, iteT ?_⟩
  refine ⟨_, rfl, _, _, rfl, rfl, _, rfl, ?_⟩
  rcases hk with rfl | rfl
  · exact iteT (B := True) ⟨_, _, rfl, rfl, q⟩
  · exact iteT (B := True) ⟨_, _, rfl, rfl, q⟩
end
end Tc
namespace Tc
open PySem PySem.Spec PyProof.Rows L2 Fw Mw TL
local macro_rules | `(tactic| wtm_at "z_ne") => `(tactic| first | assumption | (apply Ne.symm; assumption) | omega)
local macro_rules | `(tactic| wtm_at "z_hp") => `(tactic| first | assumption | exact upd_same | (refine (upd_ne ?_).trans ?_; (focus wtm_at "z_ne"); wtm_at "z_hp"))
local macro_rules | `(tactic| wtm_at "z_sq") => `(tactic| first | assumption | (exact .inl (.inl (by wtm_at "z_hp"))))
local macro_rules | `(tactic| wtm_at "z_side") => `(tactic| first | assumption | omega | (simp only []; omega) | exact ⟨by omega, by omega⟩ | exact ⟨by omega, by omega, by omega⟩ | exact .inl ⟨by omega, by omega⟩ | exact .inr ⟨by omega, by omega⟩ | decide)
local macro_rules | `(tactic| wtm_at "z") => `(tactic| first
  | refine ⟨_, rfl, ?_⟩
  | refine ⟨_, _, rfl, rfl, ?_⟩
  | refine And.intro (by wtm_at "z_side") ?_
  | refine .inl ⟨_, rfl, ?_⟩
  | refine ⟨_, _, _, _, rfl, rfl, (by wtm_at "z_sq"), (by first | rfl | assumption), ?_⟩
  | refine ⟨_, _, _, _, rfl, rfl, (by wtm_at "z_hp"), (by first | rfl | assumption), ?_⟩)
local macro_rules | `(tactic| wtm_at "zb") => `(tactic| dsimp only [L2.tCB, L2.tCons, L2.tNil, L2.tC])
local macro_rules | `(tactic| wtm_at "sl") => `(tactic| dsimp only [start_one, start_two, start_three, start_four, start_five, List.length_cons, List.length_nil, Nat.reduceAdd, Nat.reduceSub, List.reduceReplicate, List.set_cons_succ, List.set_cons_zero])
section
variable {P : Program} {w : World} {K : PySem.W.Frag} {mg : Str → Option Value} {base : Heap} {CW : Addr}
theorem ok_check_road (F : FunAt K mg "check_road" s_check_road ["web", "road"]) (T : Txt K mg CW) (C_can_flip : Cal P w K mg base CX0 "can_flip" 2 ["junctions", "road"] [] (sp_can_flip K CW)) : Cal P w K mg base CX0 "check_road" 3 ["web", "road"] [] (sp_check_road K CW) := by
  obtain ⟨f, fd, F, mgf, bf⟩ := F
  obtain ⟨f_can_flip, fd_can_flip, ds_can_flip, G_can_flip, m_can_flip, k_can_flip, b_can_flip, d_can_flip⟩ := C_can_flip
  refine ⟨f, fd, [], ?_, mgf, F.kp, bf, .nil⟩
  refine F.ok sc_check_road (fun vs H Q E h => by obtain ⟨_, _, rfl, _⟩ := h; rfl) (fun cdv A outer s H vs Q E hr h => ?_)
  refine ⟨_, (pss_one (ps_if (pt_not (pt_val (pe_call G_can_flip (hr.mono (by decide)) (by rfl) m_can_flip k_can_flip b_can_flip d_can_flip pass0 (pa_cons (pe_fldK K rfl (pv 0)) (pa_cons (pv 1) pa_nil))))) (pss_one ps_never) pss_nil)), ?_⟩
  obtain ⟨x0, x1, rfl, h⟩ := h
  obtain ⟨G, js, z, hG, hx, rfl, hl, h2, q⟩ := h
  have hx0 := hx
  obtain ⟨a, dx, vt, vj, vr, vi, ve, g, rfl, ha, W⟩ := hx
  refine ⟨_, rfl, a, CW, dx, _, vj, rfl, hG _ _ ha, T.cl, T.n_junctions, lk_junctions, ?_⟩
  refine ⟨_, rfl, ?_⟩
  refine ⟨_, _, rfl, G, js, z, hG, W.junctions, rfl, hl, fun H1 sm => ?_⟩
  rw [decide_eq_true h2]
  exact ⟨_, rfl, iteF (A := True) (q _ sm)⟩
end
end Tc
namespace Tc
open PySem PySem.Spec PyProof.Rows L2 Fw Mw TL
local macro_rules | `(tactic| wtm_at "z_ne") => `(tactic| first | assumption | (apply Ne.symm; assumption) | omega)
local macro_rules | `(tactic| wtm_at "z_hp") => `(tactic| first | assumption | exact upd_same | (refine (upd_ne ?_).trans ?_; (focus wtm_at "z_ne"); wtm_at "z_hp"))
local macro_rules | `(tactic| wtm_at "z_sq") => `(tactic| first | assumption | (exact .inl (.inl (by wtm_at "z_hp"))))
local macro_rules | `(tactic| wtm_at "z_side") => `(tactic| first | assumption | omega | (simp only []; omega) | exact ⟨by omega, by omega⟩ | exact ⟨by omega, by omega, by omega⟩ | exact .inl ⟨by omega, by omega⟩ | exact .inr ⟨by omega, by omega⟩ | decide)
local macro_rules | `(tactic| wtm_at "z") => `(tactic| first
  | refine ⟨_, rfl, ?_⟩
  | refine ⟨_, _, rfl, rfl, ?_⟩
  | refine And.intro (by wtm_at "z_side") ?_
  | refine .inl ⟨_, rfl, ?_⟩
  | refine ⟨_, _, _, _, rfl, rfl, (by wtm_at "z_sq"), (by first | rfl | assumption), ?_⟩
  | refine ⟨_, _, _, _, rfl, rfl, (by wtm_at "z_hp"), (by first | rfl | assumption), ?_⟩)
local macro_rules | `(tactic| wtm_at "zb") => `(tactic| dsimp only [L2.tCB, L2.tCons, L2.tNil, L2.tC])
local macro_rules | `(tactic| wtm_at "sl") => `(tactic| dsimp only [start_one, start_two, start_three, start_four, start_five, List.length_cons, List.length_nil, Nat.reduceAdd, Nat.reduceSub, List.reduceReplicate, List.set_cons_succ, List.set_cons_zero])
section
variable {P : Program} {w : World} {K : PySem.W.Frag} {mg : Str → Option Value} {base : Heap} {CW : Addr}
theorem ok_check_way (F : FunAt K mg "check_way" s_check_way ["way"]) (T : Txt K mg CW) (C_is_way : Cal P w K mg base CX0 "is_way" 2 ["way"] [] (sp_is_way K CW)) : Cal P w K mg base CX0 "check_way" 3 ["way"] [] (sp_check_way K CW) := by
  obtain ⟨f, fd, F, mgf, bf⟩ := F
  obtain ⟨f_is_way, fd_is_way, ds_is_way, G_is_way, m_is_way, k_is_way, b_is_way, d_is_way⟩ := C_is_way
  refine ⟨f, fd, [], ?_, mgf, F.kp, bf, .nil⟩
  refine F.ok sc_check_way (fun vs H Q E h => by obtain ⟨_, rfl, _⟩ := h; rfl) (fun cdv A outer s H vs Q E hr h => ?_)
  refine ⟨_, (pss_one (ps_if (pt_not (pt_val (pe_call G_is_way (hr.mono (by decide)) (by rfl) m_is_way k_is_way b_is_way d_is_way pass0 (pa_cons (pv 0) pa_nil)))) (pss_one ps_never) pss_nil)), ?_⟩
  obtain ⟨x0, rfl, h⟩ := h
  obtain ⟨k, rfl, hk, q⟩ := h
  refine ⟨_, rfl, ?_⟩
  refine ⟨_, rfl, k, rfl, hk, ?_⟩
  exact ⟨_, rfl, iteF (A := True) q⟩
end
end Tc
namespace Tc
open PySem PySem.Spec PyProof.Rows L2 Fw Mw TL
local macro_rules | `(tactic| wtm_at "z_ne") => `(tactic| first | assumption | (apply Ne.symm; assumption) | omega)
local macro_rules | `(tactic| wtm_at "z_hp") => `(tactic| first | assumption | exact upd_same | (refine (upd_ne ?_).trans ?_; (focus wtm_at "z_ne"); wtm_at "z_hp"))
local macro_rules | `(tactic| wtm_at "z_sq") => `(tactic| first | assumption | (exact .inl (.inl (by wtm_at "z_hp"))))
local macro_rules | `(tactic| wtm_at "z_side") => `(tactic| first | assumption | omega | (simp only []; omega) | exact ⟨by omega, by omega⟩ | exact ⟨by omega, by omega, by omega⟩ | exact .inl ⟨by omega, by omega⟩ | exact .inr ⟨by omega, by omega⟩ | decide)
local macro_rules | `(tactic| wtm_at "z") => `(tactic| first
  | refine ⟨_, rfl, ?_⟩
  | refine ⟨_, _, rfl, rfl, ?_⟩
  | refine And.intro (by wtm_at "z_side") ?_
  | refine .inl ⟨_, rfl, ?_⟩
  | refine ⟨_, _, _, _, rfl, rfl, (by wtm_at "z_sq"), (by first | rfl | assumption), ?_⟩
  | refine ⟨_, _, _, _, rfl, rfl, (by wtm_at "z_hp"), (by first | rfl | assumption), ?_⟩)
local macro_rules | `(tactic| wtm_at "zb") => `(tactic| dsimp only [L2.tCB, L2.tCons, L2.tNil, L2.tC])
local macro_rules | `(tactic| wtm_at "sl") => `(tactic| dsimp only [start_one, start_two, start_three, start_four, start_five, List.length_cons, List.length_nil, Nat.reduceAdd, Nat.reduceSub, List.reduceReplicate, List.set_cons_succ, List.set_cons_zero])
section
variable {P : Program} {w : World} {K : PySem.W.Frag} {mg : Str → Option Value} {base : Heap} {CW : Addr}
theorem ok_words_beside (F : FunAt K mg "words_beside" s_words_beside ["junctions", "road"]) (T : Txt K mg CW) (C_places_of : Cal P w K mg base CX0 "places_of" 1 ["junctions", "road"] [] (sp_places_of K CW)) : Cal P w K mg base CX0 "words_beside" 2 ["junctions", "road"] [] (sp_words_beside K CW) := by
  obtain ⟨f, fd, F, mgf, bf⟩ := F
  obtain ⟨f_places_of, fd_places_of, ds_places_of, G_places_of, m_places_of, k_places_of, b_places_of, d_places_of⟩ := C_places_of
  refine ⟨f, fd, [], ?_, mgf, F.kp, bf, .nil⟩
  refine F.ok sc_words_beside (fun vs H Q E h => by obtain ⟨_, _, rfl, _⟩ := h; rfl) (fun cdv A outer s H vs Q E hr h => ?_)
  refine ⟨_, (pss_cons (ps_setLc (i := 2) (own := [("number", 3)]) rfl sc_words_beside.nd rfl rfl (sw_true rfl rfl rfl (by decide +kernel)) (pi_listK K rfl (pe_call G_places_of (hr.mono (by decide)) (by rfl) m_places_of k_places_of b_places_of d_places_of pass0 (pa_cons (pv 0) (pa_cons (pv 1) pa_nil)))) (blkOk_by (own := [("number", 3)]) (N := N_words_beside) (sc := defScope s_words_beside) (by decide +kernel)) (fun _ _ _ _ _ => (pg_name (i := 3) sc_words_beside.nd rfl (.inl rfl))) (fun _ _ _ _ _ => pts_nil) (fun _ _ _ _ _ => (pe_ix (ix_tupK K rfl) (pv 0) (pv 3) (fun _ _ => rfl))))
      (pss_one (ps_ret (pe_lc2 (own := [("words", 4), ("word", 5)]) (vs1 := [5]) rfl sc_words_beside.nd (pi_listK K rfl (pv 2)) (blkOk_by (own := [("words", 4), ("word", 5)]) (N := N_words_beside) (sc := defScope s_words_beside) (by decide +kernel)) (by decide) (fun _ _ _ _ _ => (pg_name (i := 4) sc_words_beside.nd rfl (.inl rfl))) (fun _ _ _ _ _ => pts_nil) (fun _ _ _ _ _ => (pi_tupK K rfl (pv 4))) (fun _ _ _ _ _ => (pg_name (i := 5) sc_words_beside.nd rfl (.inl rfl))) (fun _ _ _ _ _ => (pts_one (pt_cmpR op_ne (pv 5) (pv 1) (nomark _)))) (fun _ _ _ _ _ => (pv 5)))))), ?_⟩
  obtain ⟨x0, x1, rfl, h⟩ := h
  obtain ⟨G, js, z, i, j, a, b, c, d, hG, hx, rfl, hm, h3, F, q⟩ := h
  have hx0 := hx
  obtain ⟨aj, ts, rfl, hs, hp⟩ := hx
  have hlen := pLen hp
  obtain ⟨ri, ei, mi, fi⟩ := F.hi
  obtain ⟨rj, ej, mj, fj⟩ := F.hj
  obtain ⟨vi, hvi, ai, ui, rfl, hsi, hpi⟩ := pGet hp ei
  obtain ⟨vj, hvj, aj', uj, rfl, hsj, hpj⟩ := pGet hp ej
  obtain rfl := pS hpi
  obtain rfl := pS hpj
  refine ⟨_, rfl, _, rfl, ?_⟩
  wtm_at "zb"
  refine ⟨_, _, rfl, G, js, z, hG, hx0, rfl, hm, fun v G1 H1 go1 hv => ?_⟩
  obtain ⟨D, us, rfl, hD, pD⟩ := hv
  obtain rfl := pI pD
  rw [F.sides] at hD
  have hD1 : SqL K H1 D [.int i, .int j] := go1.h.seq hD
  have hs1 := seqT (go1.g.trans go1.h) hs
  refine ⟨D, rfl, ⟨_, hD1⟩, fun D2 hD2 => ?_⟩
  refine lc_flat (walk_list.mono (fun H' e => Same.seq e hD1) fun _ _ _ _ _ _ y => y) (fun _ e => e) hD2 (fun _ => true) (fun n => if n = 0 then .ref ai else .ref aj') (show (2:Nat) ≤ 40000 by decide) (fun _ => rfl) (fun n x hn hx => ⟨fun H1 _ Q q => q H1 (Evl.Ex.refl H1), fun _ => ?_⟩) (fun H2 sm e3 => ?_)
  · refine fun H2 ex Q q => ?_
    match n, hx with
    | 0, hx =>
      obtain rfl := Option.some.inj hx
      exact ⟨_, rfl, _, rfl, aj, ts, (i : Nat), .ref ai, rfl, rfl, seqT ex hs1, atI_nat hvi, q _ (Evl.Ex.refl _)⟩
    | 1, hx =>
      obtain rfl := Option.some.inj hx
      exact ⟨_, rfl, _, rfl, aj, ts, (j : Nat), .ref aj', rfl, rfl, seqT ex hs1, atI_nat hvj, q _ (Evl.Ex.refl _)⟩
    | n + 2, hx => simp at hx
  have e4 : H2 D2 = some (.lst [.ref ai, .ref aj']) := e3
  have go2 := go1.grow sm
  have r2 : SqT K H2 ai (ri.map V.str) := seqT (go2.g.trans go2.h) hsi
  have r3 : SqT K H2 aj' (rj.map V.str) := seqT (go2.g.trans go2.h) hsj
  refine ⟨_, rfl, ?_⟩
  refine ⟨D2, rfl, ⟨_, SqL.of e4⟩, fun D3 hD3 => ?_⟩
  have n23 : D2 ≠ D3 := fun e => by rw [e, hD3] at e4; cases e4
  have l3i := h3 ri (List.mem_of_getElem? ei)
  have l3j := h3 rj (List.mem_of_getElem? ej)
  refine lc2_out (walk_list.mono (fun H' e => SqL.of (e _ _ e4)) fun _ _ _ _ _ _ y => y) (fun i H' => Same H2 H' ∧ H' D3 = some (.lst ((([ri, rj].take i).flatMap (noZ z)).map V.str))) _ ⟨same_upd hD3, upd_same⟩ (fun i H' _ p => p.1) (fun i x H3 H4 hi p y => ?_) (fun H3 p => ?_)
  · obtain ⟨rfl, hx⟩ := y
    obtain ⟨r, b, hr, rfl, h2, l3⟩ : ∃ r b, [ri, rj][i]? = some r ∧ x = V.ref b ∧ SqT K H2 b (r.map V.str) ∧ r.length = 3 := by
      match i, hx with
      | 0, hx => exact ⟨ri, ai, rfl, (Option.some.inj hx).symm, r2, l3i⟩
      | 1, hx => exact ⟨rj, aj', rfl, (Option.some.inj hx).symm, r3, l3j⟩
      | n + 2, hx => simp at hx
    have tk : [ri, rj].take (i + 1) = [ri, rj].take i ++ [r] := take_snoc hr
    have big : ([ri, rj].take i).flatMap (noZ z) = if i = 0 then [] else noZ z ri := by
      match i, hr with
      | 0, _ => rfl
      | 1, _ => simp
      | n + 2, hr => simp at hr
    have bl : (([ri, rj].take i).flatMap (noZ z)).length ≤ 3 := by
      rw [big]
      split
      · simp
      · exact Nat.le_trans (List.length_filter_le _ _) (by omega)
    refine ⟨rfl, iteT (B := True) ?_⟩
    refine ⟨_, rfl, b, rfl, ⟨_, seqT p.1 h2⟩, ?_⟩
    refine lc2_in walk_tup (fun n H' => Same H2 H' ∧ H' D3 = some (.lst ((([ri, rj].take i).flatMap (noZ z) ++ noZ z (r.take n)).map V.str))) ?_ (fun n H' _ p' => seqT p'.1 h2) (fun n x H5 H6 hn p' y' => ?_) (fun H5 p' => ?_)
    · refine ⟨p.1, ?_⟩
      rw [p.2]
      simp [noZ]
    · obtain ⟨rfl, hx'⟩ := y'
      obtain ⟨t, ht, rfl⟩ := map_at hx'
      have tk2 : noZ z (r.take (n + 1)) = noZ z (r.take n) ++ noZ z [t] := by
        rw [take_snoc ht]; exact List.filter_append ..
      have bl2 : (noZ z (r.take n)).length ≤ 3 := Nat.le_trans (List.length_filter_le _ _) (by rw [List.length_take]; omega)
      refine ⟨rfl, _, rfl, _, rfl, rfl, _, rfl, ?_⟩
      by_cases e : t = z
      · rw [decide_eq_true (show V.str t = V.str z by rw [e])]
        refine iteF (A := True) ⟨p'.1, ?_⟩
        rw [p'.2, tk2, show noZ z [t] = [] from by simp [noZ, e], List.append_nil]
      · rw [decide_eq_false (show ¬ V.str t = V.str z from fun h => e (V.str.inj h))]
        refine iteT (B := True) ⟨_, rfl, _, p'.2, ?_, ?_, ?_⟩
        · rw [List.length_map, List.length_append]
          exact Nat.lt_of_le_of_lt (m := 6) (by omega) (by decide)
        · exact fun c o e => by
            rw [upd_ne (ne_of_none e hD3)]
            exact p'.1 c o e
        · rw [upd_same, tk2, show noZ z [t] = [t] from by simp [noZ, e], ← List.append_assoc]
          simp only [List.map_append]
          rfl
    · rw [List.length_map, List.take_length] at p'
      refine ⟨p'.1, ?_⟩
      rw [p'.2, tk, List.flatMap_append]
      simp
  · have e5 : H3 D3 = some (.lst (([a, b, c, d] : List Str).map V.str)) := by
      rw [p.2]
      show some (HO.lst (([ri, rj].flatMap (noZ z)).map V.str)) = _
      rw [List.flatMap_cons, List.flatMap_cons, fi, fj]
      rfl
    have go3 := go2.grow p.1
    exact q _ _ _ (go3.frz (go1.fresh (p := D3) (by
      have := sm.free hD3
      exact this)) e5 (go2.gnone hD3)) (rLs.mpr ⟨D3, rfl, .inl (.inl upd_same)⟩)
end
end Tc
namespace Tc
open PySem PySem.Spec PyProof.Rows L2 Fw Mw TL
local macro_rules | `(tactic| wtm_at "z_ne") => `(tactic| first | assumption | (apply Ne.symm; assumption) | omega)
local macro_rules | `(tactic| wtm_at "z_hp") => `(tactic| first | assumption | exact upd_same | (refine (upd_ne ?_).trans ?_; (focus wtm_at "z_ne"); wtm_at "z_hp"))
local macro_rules | `(tactic| wtm_at "z_sq") => `(tactic| first | assumption | (exact .inl (.inl (by wtm_at "z_hp"))))
local macro_rules | `(tactic| wtm_at "z_side") => `(tactic| first | assumption | omega | (simp only []; omega) | exact ⟨by omega, by omega⟩ | exact ⟨by omega, by omega, by omega⟩ | exact .inl ⟨by omega, by omega⟩ | exact .inr ⟨by omega, by omega⟩ | decide)
local macro_rules | `(tactic| wtm_at "z") => `(tactic| first
  | refine ⟨_, rfl, ?_⟩
  | refine ⟨_, _, rfl, rfl, ?_⟩
  | refine And.intro (by wtm_at "z_side") ?_
  | refine .inl ⟨_, rfl, ?_⟩
  | refine ⟨_, _, _, _, rfl, rfl, (by wtm_at "z_sq"), (by first | rfl | assumption), ?_⟩
  | refine ⟨_, _, _, _, rfl, rfl, (by wtm_at "z_hp"), (by first | rfl | assumption), ?_⟩)
local macro_rules | `(tactic| wtm_at "zb") => `(tactic| dsimp only [L2.tCB, L2.tCons, L2.tNil, L2.tC])
local macro_rules | `(tactic| wtm_at "sl") => `(tactic| dsimp only [start_one, start_two, start_three, start_four, start_five, List.length_cons, List.length_nil, Nat.reduceAdd, Nat.reduceSub, List.reduceReplicate, List.set_cons_succ, List.set_cons_zero])
section
variable {P : Program} {w : World} {K : PySem.W.Frag} {mg : Str → Option Value} {base : Heap} {CW : Addr}
theorem ok_flipped_junctions (F : FunAt K mg "flipped_junctions" s_flipped_junctions ["junctions", "road", "way"]) (T : Txt K mg CW) (C_places_of : Cal P w K mg base CX0 "places_of" 1 ["junctions", "road"] [] (sp_places_of K CW)) (C_words_beside : Cal P w K mg base CX0 "words_beside" 2 ["junctions", "road"] [] (sp_words_beside K CW)) : Cal P w K mg base CX0 "flipped_junctions" 3 ["junctions", "road", "way"] [] (sp_flipped_junctions K CW) := by
  obtain ⟨f, fd, F, mgf, bf⟩ := F
  obtain ⟨f_places_of, fd_places_of, ds_places_of, G_places_of, m_places_of, k_places_of, b_places_of, d_places_of⟩ := C_places_of
  obtain ⟨f_words_beside, fd_words_beside, ds_words_beside, G_words_beside, m_words_beside, k_words_beside, b_words_beside, d_words_beside⟩ := C_words_beside
  obtain ⟨t_FIRST_WAY, c_FIRST_WAY⟩ := T.c_FIRST_WAY
  refine ⟨f, fd, [], ?_, mgf, F.kp, bf, .nil⟩
  refine F.ok sc_flipped_junctions (fun vs H Q E h => by obtain ⟨_, _, _, rfl, _⟩ := h; rfl) (fun cdv A outer s H vs Q E hr h => ?_)
  refine ⟨_, (pss_cons (ps_asg (pe_call G_places_of (hr.mono (by decide)) (by rfl) m_places_of k_places_of b_places_of d_places_of pass0 (pa_cons (pv 0) (pa_cons (pv 1) pa_nil))) (pg_unlK (n := 2) K rfl rfl (pgs_cons (pg_name (i := 3) sc_flipped_junctions.nd rfl (.inl rfl)) (pgs_cons (pg_name (i := 4) sc_flipped_junctions.nd rfl (.inl rfl)) pgs_nil))))
      (pss_cons (ps_asg (pe_call G_words_beside (hr.mono (by decide)) (by rfl) m_words_beside k_words_beside b_words_beside d_words_beside pass0 (pa_cons (pv 0) (pa_cons (pv 1) pa_nil))) (pg_unlK (n := 4) K rfl rfl (pgs_cons (pg_name (i := 5) sc_flipped_junctions.nd rfl (.inl rfl)) (pgs_cons (pg_name (i := 6) sc_flipped_junctions.nd rfl (.inl rfl)) (pgs_cons (pg_name (i := 7) sc_flipped_junctions.nd rfl (.inl rfl)) (pgs_cons (pg_name (i := 8) sc_flipped_junctions.nd rfl (.inl rfl)) pgs_nil))))))
      (pss_cons (ps_set (i := 9) sc_flipped_junctions.nd rfl (.inl rfl) (pe_callTy (call_list_ofK K rfl) (by rfl) T.z_list (by decide +kernel) (pa_cons (pv 0) pa_nil)))
      (pss_cons (ps_if (pt_cmpR op_eq (pv 2) (pe_glob (v := .int (1)) rfl c_FIRST_WAY ⟨_, rfl⟩) (nomark _)) (pss_one (ps_asg (pe_tup (pa_cons (pe_tup (pa_cons (pv 5) (pa_cons (pv 7) (pa_cons (pv 1) pa_nil)))) (pa_cons (pe_tup (pa_cons (pv 6) (pa_cons (pv 8) (pa_cons (pv 1) pa_nil)))) pa_nil))) (pg_tupK (n := 2) K rfl rfl (pgs_cons (pg_sub (pv 9) (pv 3) set_list) (pgs_cons (pg_sub (pv 9) (pv 4) set_list) pgs_nil))))) (pss_one (ps_asg (pe_tup (pa_cons (pe_tup (pa_cons (pv 5) (pa_cons (pv 8) (pa_cons (pv 1) pa_nil)))) (pa_cons (pe_tup (pa_cons (pv 7) (pa_cons (pv 6) (pa_cons (pv 1) pa_nil)))) pa_nil))) (pg_tupK (n := 2) K rfl rfl (pgs_cons (pg_sub (pv 9) (pv 3) set_list) (pgs_cons (pg_sub (pv 9) (pv 4) set_list) pgs_nil))))))
      (pss_one (ps_ret (pe_callTy (call_tuple_ofK K rfl) (by rfl) T.z_tuple (by decide +kernel) (pa_cons (pv 9) pa_nil)))))))), ?_⟩
  obtain ⟨x0, x1, x2, rfl, h⟩ := h
  obtain ⟨G, js, z, k, i, j, a, b, c, d, hG, hx, rfl, rfl, hm, h3, F, q⟩ := h
  have hx0 := hx
  obtain ⟨aj, ts, rfl, hs, hp⟩ := hx
  have hlen := pLen hp
  refine ⟨_, rfl, _, rfl, ?_⟩
  refine ⟨_, _, rfl, G, js, z, hG, hx0, rfl, hm, fun v G1 H1 go1 hv => ?_⟩
  obtain ⟨D, us, rfl, hD, pD⟩ := hv
  obtain rfl := pI pD
  rw [F.sides] at hD
  have hD1 : SqL K H1 D [.int i, .int j] := go1.h.seq hD
  refine ⟨D, _, rfl, hD1, rfl, ?_⟩
  refine ⟨_, _, rfl, _, _, rfl, rfl, ?_⟩
  refine ⟨_, rfl, _, rfl, ?_⟩
  refine ⟨_, _, rfl, G1, js, z, i, j, a, b, c, d, go1.h, Mo.up go1.g hx0, rfl, hm, h3, F, fun v G2 H2 go2 hv => ?_⟩
  obtain ⟨D2, us, rfl, hD2, pD2⟩ := hv
  obtain rfl := pS pD2
  have hD3 : SqL K H2 D2 ([a, b, c, d].map V.str) := go2.h.seq hD2
  refine ⟨D2, _, rfl, hD3, rfl, ?_⟩
  refine ⟨_, _, rfl, _, _, rfl, _, _, rfl, _, _, rfl, rfl, ?_⟩
  have go3 := go1.trans go2
  refine ⟨_, rfl, ?_⟩
  refine ⟨aj, ts, rfl, .inr (seqT (go3.g.trans go3.h) hs), fun l hl => ?_⟩
  have go4 := go3.tmp (o := .lst ts) hl
  have hl4 : upd H2 l (.lst ts) l = some (.lst ts) := upd_same
  have gl4 : G2 l = none := go3.gnone hl
  have nl : H l = none := go3.fresh hl
  have lenT := hlen
  have ixi : ixN ts.length (i : Int) = some i := Evl.ixN_nat (by rw [hlen]; exact F.il)
  have ixj : ixN ts.length (j : Int) = some j := Evl.ixN_nat (by rw [hlen]; exact F.jl)
  generalize upd H2 l (.lst ts) = H4 at go4 hl4 ⊢
  refine ⟨_, rfl, rfl, _, rfl, ?_⟩
  by_cases hk : k = 1
  · rw [decide_eq_true (show V.int k = V.int 1 by rw [hk])]
    refine iteT (B := True) ?_
    refine ⟨_, rfl, _, rfl, _, rfl, (show (3:Nat) ≤ sizeLine by decide), fun p1 hp1 => ?_⟩
    refine ⟨_, rfl, _, rfl, _, rfl, (show (3:Nat) ≤ sizeLine by decide), fun p2 hp2 => ?_⟩
    refine ⟨(show (2:Nat) ≤ sizeLine by decide), fun p3 hp3 => ?_⟩
    have go5 := go4.new (o := .tup (([a, c, z] : List Str).map V.str)) hp1
    have go6 := go5.new (o := .tup (([b, d, z] : List Str).map V.str)) hp2
    have go7 := go6.tmp (o := .tup [.ref p1, .ref p2]) hp3
    have s5 := same_upd (o := .tup (([a, c, z] : List Str).map V.str)) (go4.gnone hp1)
    have s6 := same_upd (o := .tup (([b, d, z] : List Str).map V.str)) (go5.gnone hp2)
    have f1 : SqT K (upd (upd G2 p1 (.tup (([a, c, z] : List Str).map V.str))) p2 (.tup (([b, d, z] : List Str).map V.str))) p1 (([a, c, z] : List Str).map V.str) := SqT.of (s6 _ _ upd_same)
    have f2 : SqT K (upd (upd G2 p1 (.tup (([a, c, z] : List Str).map V.str))) p2 (.tup (([b, d, z] : List Str).map V.str))) p2 (([b, d, z] : List Str).map V.str) := SqT.of upd_same
    have hl5 := same_upd (o := .tup (([a, c, z] : List Str).map V.str)) hp1 _ _ hl4
    have hl6 := same_upd (o := .tup (([b, d, z] : List Str).map V.str)) hp2 _ _ hl5
    have hl7 := same_upd (o := .tup [.ref p1, .ref p2]) hp3 _ _ hl6
    have gl7 : upd (upd G2 p1 (.tup (([a, c, z] : List Str).map V.str))) p2 (.tup (([b, d, z] : List Str).map V.str)) l = none := by
      refine (upd_ne (ne_of_none hl5 hp2)).trans ((upd_ne (ne_of_none hl4 hp1)).trans gl4)
    have f3 : SqT K (upd (upd (upd H4 p1 (.tup (([a, c, z] : List Str).map V.str))) p2 (.tup (([b, d, z] : List Str).map V.str))) p3 (.tup [.ref p1, .ref p2])) p3 [.ref p1, .ref p2] := SqT.of upd_same
    have s7 := s5.trans s6
    refine ⟨p3, _, rfl, f3, rfl, ?_⟩
    refine ⟨_, _, rfl, _, rfl, _, rfl, l, ts, (i : Int), i, rfl, rfl, hl7, ixi, ?_⟩
    refine ⟨_, _, rfl, _, rfl, _, rfl, l, _, (j : Int), j, rfl, rfl, upd_same, by rw [List.length_set]; exact ixj, rfl, ?_⟩
    have go8 := (go7.mut (o := .lst (ts.set i (.ref p1))) gl7 (.inl nl)).mut (o := .lst ((ts.set i (.ref p1)).set j (.ref p2))) gl7 (.inl nl)
    refine ⟨_, rfl, ?_⟩
    refine ⟨l, _, rfl, .inl ⟨SqL.of upd_same, fun t ht => ?_⟩⟩
    have s8 := same_upd (o := .tup ((ts.set i (.ref p1)).set j (.ref p2))) (go8.gnone ht)
    refine q _ _ _ (go8.new ht) ⟨t, _, rfl, SqT.of upd_same, ?_⟩
    unfold flipRows
    rw [show flipI k z a b c d = ([a, c, z] : List Str) from if_pos hk, show flipJ k z a b c d = ([b, d, z] : List Str) from if_pos hk]
    refine paired_set (rTs.mpr ⟨p2, rfl, seqT s8 f2⟩) (paired_set (rTs.mpr ⟨p1, rfl, seqT s8 f1⟩) ?_)
    exact L2.Paired.mapP hp fun _ _ z => Mo.up ((go3.g.trans s7).trans s8) z
  · rw [decide_eq_false (show ¬ V.int k = V.int 1 from fun h => hk (V.int.inj h))]
    refine iteF (A := True) ?_
    refine ⟨_, rfl, _, rfl, _, rfl, (show (3:Nat) ≤ sizeLine by decide), fun p1 hp1 => ?_⟩
    refine ⟨_, rfl, _, rfl, _, rfl, (show (3:Nat) ≤ sizeLine by decide), fun p2 hp2 => ?_⟩
    refine ⟨(show (2:Nat) ≤ sizeLine by decide), fun p3 hp3 => ?_⟩
    have go5 := go4.new (o := .tup (([a, d, z] : List Str).map V.str)) hp1
    have go6 := go5.new (o := .tup (([c, b, z] : List Str).map V.str)) hp2
    have go7 := go6.tmp (o := .tup [.ref p1, .ref p2]) hp3
    have s5 := same_upd (o := .tup (([a, d, z] : List Str).map V.str)) (go4.gnone hp1)
    have s6 := same_upd (o := .tup (([c, b, z] : List Str).map V.str)) (go5.gnone hp2)
    have f1 : SqT K (upd (upd G2 p1 (.tup (([a, d, z] : List Str).map V.str))) p2 (.tup (([c, b, z] : List Str).map V.str))) p1 (([a, d, z] : List Str).map V.str) := SqT.of (s6 _ _ upd_same)
    have f2 : SqT K (upd (upd G2 p1 (.tup (([a, d, z] : List Str).map V.str))) p2 (.tup (([c, b, z] : List Str).map V.str))) p2 (([c, b, z] : List Str).map V.str) := SqT.of upd_same
    have hl5 := same_upd (o := .tup (([a, d, z] : List Str).map V.str)) hp1 _ _ hl4
    have hl6 := same_upd (o := .tup (([c, b, z] : List Str).map V.str)) hp2 _ _ hl5
    have hl7 := same_upd (o := .tup [.ref p1, .ref p2]) hp3 _ _ hl6
    have gl7 : upd (upd G2 p1 (.tup (([a, d, z] : List Str).map V.str))) p2 (.tup (([c, b, z] : List Str).map V.str)) l = none := by
      refine (upd_ne (ne_of_none hl5 hp2)).trans ((upd_ne (ne_of_none hl4 hp1)).trans gl4)
    have f3 : SqT K (upd (upd (upd H4 p1 (.tup (([a, d, z] : List Str).map V.str))) p2 (.tup (([c, b, z] : List Str).map V.str))) p3 (.tup [.ref p1, .ref p2])) p3 [.ref p1, .ref p2] := SqT.of upd_same
    have s7 := s5.trans s6
    refine ⟨p3, _, rfl, f3, rfl, ?_⟩
    refine ⟨_, _, rfl, _, rfl, _, rfl, l, ts, (i : Int), i, rfl, rfl, hl7, ixi, ?_⟩
    refine ⟨_, _, rfl, _, rfl, _, rfl, l, _, (j : Int), j, rfl, rfl, upd_same, by rw [List.length_set]; exact ixj, rfl, ?_⟩
    have go8 := (go7.mut (o := .lst (ts.set i (.ref p1))) gl7 (.inl nl)).mut (o := .lst ((ts.set i (.ref p1)).set j (.ref p2))) gl7 (.inl nl)
    refine ⟨_, rfl, ?_⟩
    refine ⟨l, _, rfl, .inl ⟨SqL.of upd_same, fun t ht => ?_⟩⟩
    have s8 := same_upd (o := .tup ((ts.set i (.ref p1)).set j (.ref p2))) (go8.gnone ht)
    refine q _ _ _ (go8.new ht) ⟨t, _, rfl, SqT.of upd_same, ?_⟩
    unfold flipRows
    rw [show flipI k z a b c d = ([a, d, z] : List Str) from if_neg hk, show flipJ k z a b c d = ([c, b, z] : List Str) from if_neg hk]
    refine paired_set (rTs.mpr ⟨p2, rfl, seqT s8 f2⟩) (paired_set (rTs.mpr ⟨p1, rfl, seqT s8 f1⟩) ?_)
    exact L2.Paired.mapP hp fun _ _ z => Mo.up ((go3.g.trans s7).trans s8) z
end
end Tc
namespace Tc
open PySem PySem.Spec PyProof.Rows L2 Fw Mw TL
local macro_rules | `(tactic| wtm_at "z_ne") => `(tactic| first | assumption | (apply Ne.symm; assumption) | omega)
local macro_rules | `(tactic| wtm_at "z_hp") => `(tactic| first | assumption | exact upd_same | (refine (upd_ne ?_).trans ?_; (focus wtm_at "z_ne"); wtm_at "z_hp"))
local macro_rules | `(tactic| wtm_at "z_sq") => `(tactic| first | assumption | (exact .inl (.inl (by wtm_at "z_hp"))))
local macro_rules | `(tactic| wtm_at "z_side") => `(tactic| first | assumption | omega | (simp only []; omega) | exact ⟨by omega, by omega⟩ | exact ⟨by omega, by omega, by omega⟩ | exact .inl ⟨by omega, by omega⟩ | exact .inr ⟨by omega, by omega⟩ | decide)
local macro_rules | `(tactic| wtm_at "z") => `(tactic| first
  | refine ⟨_, rfl, ?_⟩
  | refine ⟨_, _, rfl, rfl, ?_⟩
  | refine And.intro (by wtm_at "z_side") ?_
  | refine .inl ⟨_, rfl, ?_⟩
  | refine ⟨_, _, _, _, rfl, rfl, (by wtm_at "z_sq"), (by first | rfl | assumption), ?_⟩
  | refine ⟨_, _, _, _, rfl, rfl, (by wtm_at "z_hp"), (by first | rfl | assumption), ?_⟩)
local macro_rules | `(tactic| wtm_at "zb") => `(tactic| dsimp only [L2.tCB, L2.tCons, L2.tNil, L2.tC])
local macro_rules | `(tactic| wtm_at "sl") => `(tactic| dsimp only [start_one, start_two, start_three, start_four, start_five, List.length_cons, List.length_nil, Nat.reduceAdd, Nat.reduceSub, List.reduceReplicate, List.set_cons_succ, List.set_cons_zero])
section
variable {P : Program} {w : World} {K : PySem.W.Frag} {mg : Str → Option Value} {base : Heap} {CW : Addr}
theorem ok_flipped (F : FunAt K mg "flipped" s_flipped ["web", "road", "way"]) (T : Txt K mg CW) (C_check_road : Cal P w K mg base CX0 "check_road" 3 ["web", "road"] [] (sp_check_road K CW)) (C_check_way : Cal P w K mg base CX0 "check_way" 3 ["way"] [] (sp_check_way K CW)) (C_Web_init__ : InitAt P w K mg base CW 4) (C_text_of : Cal P w K mg base CX0 "text_of" 1 ["junctions"] [] (sp_text_of K CW)) (C_flipped_junctions : Cal P w K mg base CX0 "flipped_junctions" 3 ["junctions", "road", "way"] [] (sp_flipped_junctions K CW)) : Cal P w K mg base CX0 "flipped" 6 ["web", "road", "way"] [] (sp_flipped K CW) := by
  obtain ⟨f, fd, F, mgf, bf⟩ := F
  obtain ⟨f_check_road, fd_check_road, ds_check_road, G_check_road, m_check_road, k_check_road, b_check_road, d_check_road⟩ := C_check_road
  obtain ⟨f_check_way, fd_check_way, ds_check_way, G_check_way, m_check_way, k_check_way, b_check_way, d_check_way⟩ := C_check_way
  obtain ⟨f_Web_init__, fd_Web_init__, ds_Web_init__, G_Web_init__, M_Web, b_Web_init__, d_Web_init__⟩ := C_Web_init__
  obtain ⟨f_text_of, fd_text_of, ds_text_of, G_text_of, m_text_of, k_text_of, b_text_of, d_text_of⟩ := C_text_of
  obtain ⟨f_flipped_junctions, fd_flipped_junctions, ds_flipped_junctions, G_flipped_junctions, m_flipped_junctions, k_flipped_junctions, b_flipped_junctions, d_flipped_junctions⟩ := C_flipped_junctions
  refine ⟨f, fd, [], ?_, mgf, F.kp, bf, .nil⟩
  refine F.ok sc_flipped (fun vs H Q E h => by obtain ⟨_, _, _, rfl, _⟩ := h; rfl) (fun cdv A outer s H vs Q E hr h => ?_)
  refine ⟨_, (pss_cons (ps_expr (pe_call G_check_road (hr.mono (by decide)) (by rfl) m_check_road k_check_road b_check_road d_check_road pass0 (pa_cons (pv 0) (pa_cons (pv 1) pa_nil))))
      (pss_cons (ps_expr (pe_call G_check_way (hr.mono (by decide)) (by rfl) m_check_way k_check_way b_check_way d_check_way pass0 (pa_cons (pv 2) pa_nil)))
      (pss_one (ps_ret (pe_make M_Web G_Web_init__ (hr.mono (by decide)) (by rfl) T.m_Web b_Web_init__ d_Web_init__ pass0 (pa_cons (pe_call G_text_of (hr.mono (by decide)) (by rfl) m_text_of k_text_of b_text_of d_text_of pass0 (pa_cons (pe_call G_flipped_junctions (hr.mono (by decide)) (by rfl) m_flipped_junctions k_flipped_junctions b_flipped_junctions d_flipped_junctions pass0 (pa_cons (pe_fldK K rfl (pv 0)) (pa_cons (pv 1) (pa_cons (pv 2) pa_nil)))) pa_nil)) pa_nil)))))), ?_⟩
  obtain ⟨x0, x1, x2, rfl, h⟩ := h
  obtain ⟨G, js, z, k, i, j, a, b, c, d, hG, hx, rfl, rfl, hk, good, whole, F, q⟩ := h
  have hx0 := hx
  obtain ⟨aw, dx, vt, vj, vr, vi, ve, g, rfl, ha, W⟩ := hx
  have hm := good.most
  refine ⟨_, rfl, _, rfl, ?_⟩
  wtm_at "zb"
  refine ⟨_, _, rfl, G, js, z, hG, hx0, rfl, by omega, by rw [F.sides]; rfl, fun H1 sm1 => ?_⟩
  refine ⟨_, rfl, ?_⟩
  refine ⟨_, rfl, k, rfl, hk, ?_⟩
  have haH := sm1 _ _ (hG _ _ ha)
  refine ⟨_, rfl, aw, CW, dx, _, vj, rfl, haH, T.cl, T.n_junctions, lk_junctions, ?_⟩
  refine ⟨_, rfl, _, rfl, ?_⟩
  have h3 : ∀ r ∈ js, r.length = 3 := fun r hr => (good.rows r hr).len
  refine ⟨_, _, _, rfl, G, js, z, k, i, j, a, b, c, d, hG.trans sm1, W.junctions, rfl, rfl, by omega, h3, F, fun v G2 H2 go2 hv => ?_⟩
  have good2 := flip_good (k := k) good F
  have whole2 := flip_whole (k := k) good whole F
  have hm2 := good2.most
  refine ⟨_, rfl, G2, _, go2.h, hv, good2.rows, by omega, fun H3 sm3 => ?_⟩
  have go1 := (Go.ref0 hG).grow sm1
  have go3 := (go1.trans go2).grow sm3
  intro x dx2 hx2 hdx nd
  have go4 := (go3.tmp (o := .own x) hdx).tmp (p := x) (o := .ins CW dx2 []) ((upd_ne (Ne.symm nd)).trans hx2)
  have g2x : G2 x = none := go3.gnone hx2
  have h0x : H x = none := go3.fresh hx2
  refine ⟨_, _, rfl, G2, _, x, dx2, go4.h, g2x, rfl, rfl, upd_same, good2, whole2, fun G3 H3 go5 hW => ⟨rfl, ?_⟩⟩
  obtain ⟨vt, vj, vr, vi, ve, g, hW, W⟩ := hW
  have go6 := go4.own go5 h0x
  have g3x : G3 x = none := go5.n x (by rw [upd_same]; exact fun z => nomatch z) g2x
  have go7 := go6.frz h0x hW g3x
  exact q _ _ _ go7 ⟨x, dx2, vt, vj, vr, vi, ve, g, rfl, upd_same, W.up (same_upd g3x)⟩
end
end Tc
namespace Tc
open PySem PySem.Spec PyProof.Rows L2 Fw Mw TL
local macro_rules | `(tactic| wtm_at "z_ne") => `(tactic| first | assumption | (apply Ne.symm; assumption) | omega)
local macro_rules | `(tactic| wtm_at "z_hp") => `(tactic| first | assumption | exact upd_same | (refine (upd_ne ?_).trans ?_; (focus wtm_at "z_ne"); wtm_at "z_hp"))
local macro_rules | `(tactic| wtm_at "z_sq") => `(tactic| first | assumption | (exact .inl (.inl (by wtm_at "z_hp"))))
local macro_rules | `(tactic| wtm_at "z_side") => `(tactic| first | assumption | omega | (simp only []; omega) | exact ⟨by omega, by omega⟩ | exact ⟨by omega, by omega, by omega⟩ | exact .inl ⟨by omega, by omega⟩ | exact .inr ⟨by omega, by omega⟩ | decide)
local macro_rules | `(tactic| wtm_at "z") => `(tactic| first
  | refine ⟨_, rfl, ?_⟩
  | refine ⟨_, _, rfl, rfl, ?_⟩
  | refine And.intro (by wtm_at "z_side") ?_
  | refine .inl ⟨_, rfl, ?_⟩
  | refine ⟨_, _, _, _, rfl, rfl, (by wtm_at "z_sq"), (by first | rfl | assumption), ?_⟩
  | refine ⟨_, _, _, _, rfl, rfl, (by wtm_at "z_hp"), (by first | rfl | assumption), ?_⟩)
local macro_rules | `(tactic| wtm_at "zb") => `(tactic| dsimp only [L2.tCB, L2.tCons, L2.tNil, L2.tC])
local macro_rules | `(tactic| wtm_at "sl") => `(tactic| dsimp only [start_one, start_two, start_three, start_four, start_five, List.length_cons, List.length_nil, Nat.reduceAdd, Nat.reduceSub, List.reduceReplicate, List.set_cons_succ, List.set_cons_zero])
section
variable {P : Program} {w : World} {K : PySem.W.Frag} {mg : Str → Option Value} {base : Heap} {CW : Addr}
theorem ok_range_beside (F : FunAt K mg "range_beside" s_range_beside ["junctions", "room", "numbers", "road"]) (T : Txt K mg CW) (C_words_beside : Cal P w K mg base CX0 "words_beside" 2 ["junctions", "road"] [] (sp_words_beside K CW)) : Cal P w K mg base CX0 "range_beside" 3 ["junctions", "room", "numbers", "road"] [] (sp_range_beside K CW) := by
  obtain ⟨f, fd, F, mgf, bf⟩ := F
  obtain ⟨f_words_beside, fd_words_beside, ds_words_beside, G_words_beside, m_words_beside, k_words_beside, b_words_beside, d_words_beside⟩ := C_words_beside
  refine ⟨f, fd, [], ?_, mgf, F.kp, bf, .nil⟩
  refine F.ok sc_range_beside (fun vs H Q E h => by obtain ⟨_, _, _, _, rfl, _⟩ := h; rfl) (fun cdv A outer s H vs Q E hr h => ?_)
  refine ⟨_, (pss_cons (ps_asg (pe_lc (own := [("word", 10)]) rfl sc_range_beside.nd (pi_listK K rfl (pe_call G_words_beside (hr.mono (by decide)) (by rfl) m_words_beside k_words_beside b_words_beside d_words_beside pass0 (pa_cons (pv 0) (pa_cons (pv 3) pa_nil)))) (blkOk_by (own := [("word", 10)]) (N := N_range_beside) (sc := defScope s_range_beside) (by decide +kernel)) (fun _ _ _ _ _ => (pg_name (i := 10) sc_range_beside.nd rfl (.inl rfl))) (fun _ _ _ _ _ => pts_nil) (fun _ _ _ _ _ => (pe_dget (hu_of hr) (pv 2) (pv 10) (fun _ _ => rfl)))) (pg_unlK (n := 4) K rfl rfl (pgs_cons (pg_name (i := 4) sc_range_beside.nd rfl (.inl rfl)) (pgs_cons (pg_name (i := 5) sc_range_beside.nd rfl (.inl rfl)) (pgs_cons (pg_name (i := 6) sc_range_beside.nd rfl (.inl rfl)) (pgs_cons (pg_name (i := 7) sc_range_beside.nd rfl (.inl rfl)) pgs_nil))))))
      (pss_cons (ps_set (i := 8) sc_range_beside.nd rfl (.inl rfl) (pe_callB (call_max2 rfl) (by rfl) T.z_max (by decide +kernel) (pa_cons (pe_callB call_abs (by rfl) T.z_abs (by decide +kernel) (pa_cons (pe_op op_sub (pv 4) (pv 5)) pa_nil)) (pa_cons (pe_callB call_abs (by rfl) T.z_abs (by decide +kernel) (pa_cons (pe_op op_sub (pv 6) (pv 7)) pa_nil)) pa_nil))))
      (pss_cons (ps_set (i := 9) sc_range_beside.nd rfl (.inl rfl) (pe_callB (call_min4 rfl) (by rfl) T.z_min (by decide +kernel) (pa_cons (pe_op op_add (pv 4) (pv 5)) (pa_cons (pe_op op_add (pv 6) (pv 7)) (pa_cons (pe_op op_sub (pe_op op_sub (pe_op op_mul pe_int (pv 1)) (pv 4)) (pv 5)) (pa_cons (pe_op op_sub (pe_op op_sub (pe_op op_mul pe_int (pv 1)) (pv 6)) (pv 7)) pa_nil))))))
      (pss_one (ps_ret (pe_tup (pa_cons (pv 8) (pa_cons (pv 9) pa_nil)))))))), ?_⟩
  obtain ⟨x0, x1, x2, x3, rfl, h⟩ := h
  obtain ⟨G, js, z, i, j, a, b, c, d, room, ks, ld, hG, hx, rfl, hd, rfl, hm, h3, F, ma, mb, mc, md, q⟩ := h
  refine ⟨_, rfl, _, rfl, ?_⟩
  refine ⟨_, _, rfl, G, js, z, i, j, a, b, c, d, hG, hx, rfl, hm, h3, F, fun v G1 H1 go1 hv => ?_⟩
  have go1' := (Go.ref0 hG).trans go1
  have hd1 := Mo.up go1.g hd
  obtain ⟨dd, rfl, hd1, ll⟩ := hd1
  obtain ⟨lw, us, rfl, hlw, pw⟩ := hv
  obtain rfl := pS pw
  have hlw' := Same.seq go1'.h hlw
  refine ⟨lw, rfl, ⟨_, hlw'⟩, fun D hD => ?_⟩
  refine lc_flat (walk_list.mono (fun H' (e : Same H1 H') => Same.seq e hlw') fun _ _ _ _ _ _ y => y) (fun _ e => e) hD (fun _ => true) (fun n => .int (val ks ld (([a, b, c, d] : List Str).getD n ""))) (show (4:Nat) ≤ 40000 by decide) (fun _ => wipe1 (by decide)) (fun n x hn hx => ⟨fun H2 _ Q q => q H2 (Evl.Ex.refl H2), fun _ => ?_⟩) (fun H2 sm e3 => ?_)
  · obtain ⟨t, ht, rfl⟩ := map_at hx
    rw [getD_of ht]
    have mt : t ∈ ks := by
      have := List.mem_of_getElem? ht
      simp at this
      rcases this with rfl | rfl | rfl | rfl <;> assumption
    exact fun H3 ex Q q => ⟨_, rfl, _, rfl, dd, _, rfl, dget_val (rd_up hd1 (go1'.h.trans ex)) ll mt, q H3 (Evl.Ex.refl H3)⟩
  have e3 : H2 D = some (.lst [.int (val ks ld a), .int (val ks ld b), .int (val ks ld c), .int (val ks ld d)]) := e3
  refine ⟨D, _, rfl, SqL.of e3, rfl, _, _, rfl, _, _, rfl, _, _, rfl, _, _, rfl, rfl, ?_⟩
  wtm_at "sl"
  have go2 := go1'.grow sm
  refine ⟨_, rfl, _, rfl, _, _, rfl, rfl, _, rfl, _, rfl, _, rfl, _, _, rfl, rfl, _, rfl, _, _, rfl, ?_⟩
  refine ⟨_, rfl, _, rfl, _, _, rfl, rfl, _, rfl, _, rfl, _, _, rfl, rfl, _, rfl, _, _, rfl, rfl, .inl ⟨by decide, by decide⟩, _, rfl, _, _, rfl, rfl, _, rfl, _, _, rfl, rfl, _, rfl, _, _, rfl, rfl, .inl ⟨by decide, by decide⟩, _, rfl, _, _, rfl, rfl, _, rfl, _, _, rfl, rfl, _, _, _, _, rfl, ?_⟩
  refine ⟨_, rfl, _, rfl, (show (2:Nat) ≤ sizeLine by decide), fun t ht => ?_⟩
  exact q _ _ _ (go2.new ht) ⟨t, _, rfl, SqT.of upd_same, .cons rfl (.cons rfl .nil)⟩
end
end Tc
namespace Tc
open PySem PySem.Spec PyProof.Rows L2 Fw Mw TL
local macro_rules | `(tactic| wtm_at "z_ne") => `(tactic| first | assumption | (apply Ne.symm; assumption) | omega)
local macro_rules | `(tactic| wtm_at "z_hp") => `(tactic| first | assumption | exact upd_same | (refine (upd_ne ?_).trans ?_; (focus wtm_at "z_ne"); wtm_at "z_hp"))
local macro_rules | `(tactic| wtm_at "z_sq") => `(tactic| first | assumption | (exact .inl (.inl (by wtm_at "z_hp"))))
local macro_rules | `(tactic| wtm_at "z_side") => `(tactic| first | assumption | omega | (simp only []; omega) | exact ⟨by omega, by omega⟩ | exact ⟨by omega, by omega, by omega⟩ | exact .inl ⟨by omega, by omega⟩ | exact .inr ⟨by omega, by omega⟩ | decide)
local macro_rules | `(tactic| wtm_at "z") => `(tactic| first
  | refine ⟨_, rfl, ?_⟩
  | refine ⟨_, _, rfl, rfl, ?_⟩
  | refine And.intro (by wtm_at "z_side") ?_
  | refine .inl ⟨_, rfl, ?_⟩
  | refine ⟨_, _, _, _, rfl, rfl, (by wtm_at "z_sq"), (by first | rfl | assumption), ?_⟩
  | refine ⟨_, _, _, _, rfl, rfl, (by wtm_at "z_hp"), (by first | rfl | assumption), ?_⟩)
local macro_rules | `(tactic| wtm_at "zb") => `(tactic| dsimp only [L2.tCB, L2.tCons, L2.tNil, L2.tC])
local macro_rules | `(tactic| wtm_at "sl") => `(tactic| dsimp only [start_one, start_two, start_three, start_four, start_five, List.length_cons, List.length_nil, Nat.reduceAdd, Nat.reduceSub, List.reduceReplicate, List.set_cons_succ, List.set_cons_zero])
section
variable {P : Program} {w : World} {K : PySem.W.Frag} {mg : Str → Option Value} {base : Heap} {CW : Addr}
theorem ok_beside (F : FunAt K mg "beside" s_beside ["web", "room", "load", "road"]) (T : Txt K mg CW) (C_check_room : Cal P w K mg base CX0 "check_room" 3 ["room", "greatest"] [V.int 1000000000000] (sp_check_room K CW)) (C_check_load : Cal P w K mg base CX0 "check_load" 4 ["web", "room", "load"] [] (sp_check_load K CW)) (C_check_road : Cal P w K mg base CX0 "check_road" 3 ["web", "road"] [] (sp_check_road K CW)) (C_range_beside : Cal P w K mg base CX0 "range_beside" 3 ["junctions", "room", "numbers", "road"] [] (sp_range_beside K CW)) : Cal P w K mg base CX0 "beside" 5 ["web", "room", "load", "road"] [] (sp_beside K CW) := by
  obtain ⟨f, fd, F, mgf, bf⟩ := F
  obtain ⟨f_check_room, fd_check_room, ds_check_room, G_check_room, m_check_room, k_check_room, b_check_room, d_check_room⟩ := C_check_room
  obtain ⟨f_check_load, fd_check_load, ds_check_load, G_check_load, m_check_load, k_check_load, b_check_load, d_check_load⟩ := C_check_load
  obtain ⟨f_check_road, fd_check_road, ds_check_road, G_check_road, m_check_road, k_check_road, b_check_road, d_check_road⟩ := C_check_road
  obtain ⟨f_range_beside, fd_range_beside, ds_range_beside, G_range_beside, m_range_beside, k_range_beside, b_range_beside, d_range_beside⟩ := C_range_beside
  refine ⟨f, fd, [], ?_, mgf, F.kp, bf, .nil⟩
  refine F.ok sc_beside (fun vs H Q E h => by obtain ⟨_, _, _, _, rfl, _⟩ := h; rfl) (fun cdv A outer s H vs Q E hr h => ?_)
  refine ⟨_, (pss_cons (ps_expr (pe_call G_check_room (hr.mono (by decide)) (by rfl) m_check_room k_check_room b_check_room d_check_room pass0 (pa_cons (pv 1) pa_nil)))
      (pss_cons (ps_expr (pe_call G_check_load (hr.mono (by decide)) (by rfl) m_check_load k_check_load b_check_load d_check_load pass0 (pa_cons (pv 0) (pa_cons (pv 1) (pa_cons (pv 2) pa_nil)))))
      (pss_cons (ps_expr (pe_call G_check_road (hr.mono (by decide)) (by rfl) m_check_road k_check_road b_check_road d_check_road pass0 (pa_cons (pv 0) (pa_cons (pv 3) pa_nil))))
      (pss_one (ps_ret (pe_call G_range_beside (hr.mono (by decide)) (by rfl) m_range_beside k_range_beside b_range_beside d_range_beside pass0 (pa_cons (pe_fldK K rfl (pv 0)) (pa_cons (pv 1) (pa_cons (Zp.pe_dictZip K rfl rfl (by rfl) T.z_dict (by rfl) T.z_zip (pa_cons (pe_fldK K rfl (pv 0)) (pa_cons (pv 2) pa_nil))) (pa_cons (pv 3) pa_nil)))))))))), ?_⟩
  obtain ⟨x0, x1, x2, x3, rfl, h⟩ := h
  obtain ⟨G, js, z, i, j, a, b, c, d, room, ld, hG, hx, good, rfl, r0, r1, hy, fit, rfl, F, q⟩ := h
  have hx0 := hx
  obtain ⟨aw, dx, vt, vj, vr, vi, ve, g, rfl, ha, W⟩ := hx
  obtain ⟨ar, er, hsr⟩ := rTs.mp W.roads
  obtain ⟨al, us, rfl, hsl, pl⟩ := hy
  obtain rfl := pI pl
  have hm := good.most
  have h3 : ∀ r ∈ js, r.length = 3 := fun r hr => (good.rows r hr).len
  obtain ⟨ma, mb, mc, md, mz⟩ := four_mem good F
  refine ⟨_, rfl, ?_⟩
  refine ⟨_, _, rfl, room, _, rfl, rfl, r0, r1, ?_⟩
  refine ⟨_, rfl, _, rfl, _, rfl, ?_⟩
  refine ⟨_, _, _, rfl, G, js, room, ld, hG, hx0, good, rfl, ⟨al, _, rfl, hsl, iP ld⟩, fit, fun H1 sm1 => ?_⟩
  refine ⟨_, rfl, _, rfl, ?_⟩
  refine ⟨_, _, rfl, G, js, z, hG.trans sm1, hx0, rfl, by omega, by rw [F.sides]; rfl, fun H2 sm2 => ?_⟩
  have s2 := (hG.trans sm1).trans sm2
  refine ⟨_, rfl, aw, CW, dx, _, vj, rfl, s2 _ _ ha, T.cl, T.n_junctions, lk_junctions, ?_⟩
  refine ⟨_, rfl, ?_⟩
  refine ⟨_, rfl, aw, CW, dx, _, _, rfl, s2 _ _ ha, T.cl, T.n_roads, lk_roads, _, rfl, ?_⟩
  rw [er]
  refine ⟨ar, al, roadsOf js, ld.map V.int, rfl, .inr (seqT s2 hsr), .inr (seqT s2 hsl), fun dd hd => ?_⟩
  rw [show mergeK [] (((roadsOf js).map Sum.inr).zip (ld.map V.int)) = tabK (roadsOf js) ld from merge_tab (nodup_roads js) fit.1.len]
  have go1 := (((Go.ref0 hG).grow sm1).grow sm2).new (o := .dK (tabK (roadsOf js) ld)) hd
  have s3 := same_upd (o := .dK (tabK (roadsOf js) ld)) (s2.free hd)
  refine ⟨_, rfl, ?_⟩
  exact ⟨_, _, _, _, rfl, _, js, z, i, j, a, b, c, d, room, roadsOf js, ld, go1.h, Mo.up s3 W.junctions, rfl, ⟨dd, rfl, .inl upd_same, fit.1.len⟩, rfl, by omega, h3, F, ma, mb, mc, md, fun v G4 H4 go4 hv => q v G4 H4 (go1.trans go4) hv⟩
end
end Tc
namespace Tc
open PySem PySem.Spec PyProof.Rows L2 Fw Mw TL
local macro_rules | `(tactic| wtm_at "z_ne") => `(tactic| first | assumption | (apply Ne.symm; assumption) | omega)
local macro_rules | `(tactic| wtm_at "z_hp") => `(tactic| first | assumption | exact upd_same | (refine (upd_ne ?_).trans ?_; (focus wtm_at "z_ne"); wtm_at "z_hp"))
local macro_rules | `(tactic| wtm_at "z_sq") => `(tactic| first | assumption | (exact .inl (.inl (by wtm_at "z_hp"))))
local macro_rules | `(tactic| wtm_at "z_side") => `(tactic| first | assumption | omega | (simp only []; omega) | exact ⟨by omega, by omega⟩ | exact ⟨by omega, by omega, by omega⟩ | exact .inl ⟨by omega, by omega⟩ | exact .inr ⟨by omega, by omega⟩ | decide)
local macro_rules | `(tactic| wtm_at "z") => `(tactic| first
  | refine ⟨_, rfl, ?_⟩
  | refine ⟨_, _, rfl, rfl, ?_⟩
  | refine And.intro (by wtm_at "z_side") ?_
  | refine .inl ⟨_, rfl, ?_⟩
  | refine ⟨_, _, _, _, rfl, rfl, (by wtm_at "z_sq"), (by first | rfl | assumption), ?_⟩
  | refine ⟨_, _, _, _, rfl, rfl, (by wtm_at "z_hp"), (by first | rfl | assumption), ?_⟩)
local macro_rules | `(tactic| wtm_at "zb") => `(tactic| dsimp only [L2.tCB, L2.tCons, L2.tNil, L2.tC])
local macro_rules | `(tactic| wtm_at "sl") => `(tactic| dsimp only [start_one, start_two, start_three, start_four, start_five, List.length_cons, List.length_nil, Nat.reduceAdd, Nat.reduceSub, List.reduceReplicate, List.set_cons_succ, List.set_cons_zero])
section
variable {P : Program} {w : World} {K : PySem.W.Frag} {mg : Str → Option Value} {base : Heap} {CW : Addr}
theorem ok_numbers_behind (F : FunAt K mg "numbers_behind" s_numbers_behind ["ahead", "behind", "room", "numbers", "road"]) (T : Txt K mg CW) (C_range_beside : Cal P w K mg base CX0 "range_beside" 3 ["junctions", "room", "numbers", "road"] [] (sp_range_beside K CW)) : Cal P w K mg base CX0 "numbers_behind" 4 ["ahead", "behind", "room", "numbers", "road"] [] (sp_numbers_behind K CW) := by
  obtain ⟨f, fd, F, mgf, bf⟩ := F
  obtain ⟨f_range_beside, fd_range_beside, ds_range_beside, G_range_beside, m_range_beside, k_range_beside, b_range_beside, d_range_beside⟩ := C_range_beside
  refine ⟨f, fd, [], ?_, mgf, F.kp, bf, .nil⟩
  refine F.ok sc_numbers_behind (fun vs H Q E h => by obtain ⟨_, _, _, _, _, rfl, _⟩ := h; rfl) (fun cdv A outer s H vs Q E hr h => ?_)
  refine ⟨_, (pss_cons (ps_set (i := 5) sc_numbers_behind.nd rfl (.inl rfl) (pe_ix (ix_tupK K rfl) (pe_call G_range_beside (hr.mono (by decide)) (by rfl) m_range_beside k_range_beside b_range_beside d_range_beside pass0 (pa_cons (pv 0) (pa_cons (pv 2) (pa_cons (pv 3) (pa_cons (pv 4) pa_nil))))) pe_int (fun _ _ => rfl)))
      (pss_cons (ps_set (i := 6) sc_numbers_behind.nd rfl (.inl rfl) (pe_ix (ix_tupK K rfl) (pe_call G_range_beside (hr.mono (by decide)) (by rfl) m_range_beside k_range_beside b_range_beside d_range_beside pass0 (pa_cons (pv 1) (pa_cons (pv 2) (pa_cons (pv 3) (pa_cons (pv 4) pa_nil))))) pe_int (fun _ _ => rfl)))
      (pss_one (ps_ret (pe_dstar (pv 3) (pv 4) (pe_op op_add (pe_op op_sub (pe_dget (hu_of hr) (pv 3) (pv 4) (fun _ _ => rfl)) (pv 5)) (pv 6))))))), ?_⟩
  obtain ⟨x0, x1, x2, x3, x4, rfl, h⟩ := h
  obtain ⟨G, js, z, i, j, a, b, c, d, far, i2, j2, a2, b2, c2, d2, room, ks, ld, hG, hx, hy, rfl, hd, rfl, hm, h3, hm2, h32, F, F2, mem, nd, kl, q⟩ := h
  have mem : a ∈ ks ∧ b ∈ ks ∧ c ∈ ks ∧ d ∈ ks ∧ a2 ∈ ks ∧ b2 ∈ ks ∧ c2 ∈ ks ∧ d2 ∈ ks ∧ z ∈ ks := by simpa using mem
  obtain ⟨ma, mb, mc, md, ma2, mb2, mc2, md2, mz⟩ := mem
  refine ⟨_, rfl, _, rfl, _, rfl, _, rfl, ?_⟩
  refine ⟨_, _, _, _, rfl, G, js, z, i, j, a, b, c, d, room, ks, ld, hG, hx, rfl, hd, rfl, hm, h3, F, ma, mb, mc, md, fun v G1 H1 go1 hv => ?_⟩
  obtain ⟨t1, us1, rfl, hs1, p1⟩ := hv
  obtain rfl := pI p1
  have go1' := (Go.ref0 hG).trans go1
  refine ⟨t1, _, 0, _, rfl, rfl, seqT go1.h hs1, rfl, ?_⟩
  refine ⟨_, rfl, _, rfl, _, rfl, _, rfl, ?_⟩
  refine ⟨_, _, _, _, rfl, G1, far, z, i2, j2, a2, b2, c2, d2, room, ks, ld, go1.h, Mo.up go1.g hy, rfl, Mo.up go1.g hd, rfl, hm2, h32, F2, ma2, mb2, mc2, md2, fun v G2 H2 go2 hv => ?_⟩
  obtain ⟨t2, us2, rfl, hs2, p2⟩ := hv
  obtain rfl := pI p2
  have go2' := go1'.trans go2
  refine ⟨t2, _, 0, _, rfl, rfl, seqT go2.h hs2, rfl, ?_⟩
  wtm_at "sl"
  obtain ⟨dd, rfl, hd2, ll⟩ := Mo.up go2.g (Mo.up go1.g hd)
  have hdH := rd_up hd2 go2'.h
  refine fun p hp => ?_
  have hpd : p ≠ dd := fun e => by
    rw [← e] at hdH
    rcases hdH with x | ⟨o, x⟩ <;> (rw [hp] at x; cases x)
  have hdp : Rd (upd H2 p (.dK [])) dd (.dK (tabK ks ld)) := rd_up hdH (same_upd hp)
  have lt : (tabK ks ld).length = ks.length := tab_len ll
  refine ⟨_, rfl, dd, _, rfl, hpd, hdp, upd_same, by omega, fun p2 hp2 => ?_⟩
  rw [show mergeK [] (tabK ks ld) = tabK ks ld from merge_tab nd ll, upd_upd] at hp2 ⊢
  have hpp : p ≠ p2 := fun e => by
    rw [← e, upd_same] at hp2
    cases hp2
  have hp2' : H2 p2 = none := (upd_ne (Ne.symm hpp)).symm.trans hp2
  have hd3 : Rd (upd (upd H2 p (.dK (tabK ks ld))) p2 (.dK [])) dd (.dK (tabK ks ld)) := rd_up (rd_up hdH (same_upd hp)) (same_upd hp2)
  refine ⟨_, rfl, _, rfl, _, rfl, dd, _, rfl, dget_val hd3 ll mz, _, rfl, _, _, rfl, rfl, _, rfl, _, _, rfl, rfl, ?_⟩
  refine ⟨hpp, (upd_ne hpp).trans upd_same, upd_same, (Sum.inr z, .int (val ks ld z - lo4 (val ks ld a) (val ks ld b) (val ks ld c) (val ks ld d) + lo4 (val ks ld a2) (val ks ld b2) (val ks ld c2) (val ks ld d2))), rfl, ?_⟩
  obtain ⟨n, hn⟩ : ∃ n, val ks ld z - lo4 (val ks ld a) (val ks ld b) (val ks ld c) (val ks ld d) + lo4 (val ks ld a2) (val ks ld b2) (val ks ld c2) (val ks ld d2) = n := ⟨_, rfl⟩
  rw [hn] at q ⊢
  rw [show mergeK (tabK ks ld) (mergeK [] [(Sum.inr z, V.int n)]) = tabK ks (putL ks ld z n) from tab_put nd ll mz]
  have g1 := go2'.tmp (o := .dK (tabK ks ld)) hp
  have g3 := (g1.tmp (o := .dK []) hp2).mut (p := p2) (o := .dK (mergeK [] [(Sum.inr z, V.int n)])) (g1.gnone hp2) (.inl (g1.fresh hp2))
  have g4 := g3.mut (p := p) (o := .dK (tabK ks (putL ks ld z n))) (go2'.gnone hp) (.inl (go2'.fresh hp))
  have g5 := g4.frz (go2'.fresh hp) upd_same (go2'.gnone hp)
  exact q _ _ _ g5 ⟨p, rfl, .inl upd_same, putL_len _ _ _ _⟩
end
end Tc
namespace Tc
open PySem PySem.Spec PyProof.Rows L2 Fw Mw TL
local macro_rules | `(tactic| wtm_at "z_ne") => `(tactic| first | assumption | (apply Ne.symm; assumption) | omega)
local macro_rules | `(tactic| wtm_at "z_hp") => `(tactic| first | assumption | exact upd_same | (refine (upd_ne ?_).trans ?_; (focus wtm_at "z_ne"); wtm_at "z_hp"))
local macro_rules | `(tactic| wtm_at "z_sq") => `(tactic| first | assumption | (exact .inl (.inl (by wtm_at "z_hp"))))
local macro_rules | `(tactic| wtm_at "z_side") => `(tactic| first | assumption | omega | (simp only []; omega) | exact ⟨by omega, by omega⟩ | exact ⟨by omega, by omega, by omega⟩ | exact .inl ⟨by omega, by omega⟩ | exact .inr ⟨by omega, by omega⟩ | decide)
local macro_rules | `(tactic| wtm_at "z") => `(tactic| first
  | refine ⟨_, rfl, ?_⟩
  | refine ⟨_, _, rfl, rfl, ?_⟩
  | refine And.intro (by wtm_at "z_side") ?_
  | refine .inl ⟨_, rfl, ?_⟩
  | refine ⟨_, _, _, _, rfl, rfl, (by wtm_at "z_sq"), (by first | rfl | assumption), ?_⟩
  | refine ⟨_, _, _, _, rfl, rfl, (by wtm_at "z_hp"), (by first | rfl | assumption), ?_⟩)
local macro_rules | `(tactic| wtm_at "zb") => `(tactic| dsimp only [L2.tCB, L2.tCons, L2.tNil, L2.tC])
local macro_rules | `(tactic| wtm_at "sl") => `(tactic| dsimp only [start_one, start_two, start_three, start_four, start_five, List.length_cons, List.length_nil, Nat.reduceAdd, Nat.reduceSub, List.reduceReplicate, List.set_cons_succ, List.set_cons_zero])
section
variable {P : Program} {w : World} {K : PySem.W.Frag} {mg : Str → Option Value} {base : Heap} {CW : Addr}
theorem ok_carried (F : FunAt K mg "carried" s_carried ["web", "room", "load", "road", "way"]) (T : Txt K mg CW) (C_check_room : Cal P w K mg base CX0 "check_room" 3 ["room", "greatest"] [V.int 1000000000000] (sp_check_room K CW)) (C_check_load : Cal P w K mg base CX0 "check_load" 4 ["web", "room", "load"] [] (sp_check_load K CW)) (C_check_road : Cal P w K mg base CX0 "check_road" 3 ["web", "road"] [] (sp_check_road K CW)) (C_check_way : Cal P w K mg base CX0 "check_way" 3 ["way"] [] (sp_check_way K CW)) (C_flipped_junctions : Cal P w K mg base CX0 "flipped_junctions" 3 ["junctions", "road", "way"] [] (sp_flipped_junctions K CW)) (C_load_told : Cal P w K mg base CX0 "load_told" 1 ["web", "numbers"] [] (sp_load_told K CW)) (C_numbers_behind : Cal P w K mg base CX0 "numbers_behind" 4 ["ahead", "behind", "room", "numbers", "road"] [] (sp_numbers_behind K CW)) : Cal P w K mg base CX0 "carried" 5 ["web", "room", "load", "road", "way"] [] (sp_carried K CW) := by
  obtain ⟨f, fd, F, mgf, bf⟩ := F
  obtain ⟨f_check_room, fd_check_room, ds_check_room, G_check_room, m_check_room, k_check_room, b_check_room, d_check_room⟩ := C_check_room
  obtain ⟨f_check_load, fd_check_load, ds_check_load, G_check_load, m_check_load, k_check_load, b_check_load, d_check_load⟩ := C_check_load
  obtain ⟨f_check_road, fd_check_road, ds_check_road, G_check_road, m_check_road, k_check_road, b_check_road, d_check_road⟩ := C_check_road
  obtain ⟨f_check_way, fd_check_way, ds_check_way, G_check_way, m_check_way, k_check_way, b_check_way, d_check_way⟩ := C_check_way
  obtain ⟨f_flipped_junctions, fd_flipped_junctions, ds_flipped_junctions, G_flipped_junctions, m_flipped_junctions, k_flipped_junctions, b_flipped_junctions, d_flipped_junctions⟩ := C_flipped_junctions
  obtain ⟨f_load_told, fd_load_told, ds_load_told, G_load_told, m_load_told, k_load_told, b_load_told, d_load_told⟩ := C_load_told
  obtain ⟨f_numbers_behind, fd_numbers_behind, ds_numbers_behind, G_numbers_behind, m_numbers_behind, k_numbers_behind, b_numbers_behind, d_numbers_behind⟩ := C_numbers_behind
  refine ⟨f, fd, [], ?_, mgf, F.kp, bf, .nil⟩
  refine F.ok sc_carried (fun vs H Q E h => by obtain ⟨_, _, _, _, _, rfl, _⟩ := h; rfl) (fun cdv A outer s H vs Q E hr h => ?_)
  refine ⟨_, (pss_cons (ps_expr (pe_call G_check_room (hr.mono (by decide)) (by rfl) m_check_room k_check_room b_check_room d_check_room pass0 (pa_cons (pv 1) pa_nil)))
      (pss_cons (ps_expr (pe_call G_check_load (hr.mono (by decide)) (by rfl) m_check_load k_check_load b_check_load d_check_load pass0 (pa_cons (pv 0) (pa_cons (pv 1) (pa_cons (pv 2) pa_nil)))))
      (pss_cons (ps_expr (pe_call G_check_road (hr.mono (by decide)) (by rfl) m_check_road k_check_road b_check_road d_check_road pass0 (pa_cons (pv 0) (pa_cons (pv 3) pa_nil))))
      (pss_cons (ps_expr (pe_call G_check_way (hr.mono (by decide)) (by rfl) m_check_way k_check_way b_check_way d_check_way pass0 (pa_cons (pv 4) pa_nil)))
      (pss_cons (ps_set (i := 5) sc_carried.nd rfl (.inl rfl) (pe_call G_flipped_junctions (hr.mono (by decide)) (by rfl) m_flipped_junctions k_flipped_junctions b_flipped_junctions d_flipped_junctions pass0 (pa_cons (pe_fldK K rfl (pv 0)) (pa_cons (pv 3) (pa_cons (pv 4) pa_nil)))))
      (pss_cons (ps_set (i := 6) sc_carried.nd rfl (.inl rfl) (Zp.pe_dictZip K rfl rfl (by rfl) T.z_dict (by rfl) T.z_zip (pa_cons (pe_fldK K rfl (pv 0)) (pa_cons (pv 2) pa_nil))))
      (pss_one (ps_ret (pe_call G_load_told (hr.mono (by decide)) (by rfl) m_load_told k_load_told b_load_told d_load_told pass0 (pa_cons (pv 0) (pa_cons (pe_call G_numbers_behind (hr.mono (by decide)) (by rfl) m_numbers_behind k_numbers_behind b_numbers_behind d_numbers_behind pass0 (pa_cons (pe_fldK K rfl (pv 0)) (pa_cons (pv 5) (pa_cons (pv 1) (pa_cons (pv 6) (pa_cons (pv 3) pa_nil)))))) pa_nil))))))))))), ?_⟩
  obtain ⟨x0, x1, x2, x3, x4, rfl, h⟩ := h
  obtain ⟨G, js, z, i, j, a, b, c, d, k, room, ld, hG, hx, good, rfl, r0, r1, hy, fit, rfl, rfl, hk, F, q⟩ := h
  have hx0 := hx
  obtain ⟨aw, dx, vt, vj, vr, vi, ve, g, rfl, ha, W⟩ := hx
  obtain ⟨ar, er, hsr⟩ := rTs.mp W.roads
  obtain ⟨al, us, rfl, hsl, pl⟩ := hy
  obtain rfl := pI pl
  have hm := good.most
  have h3 : ∀ r ∈ js, r.length = 3 := fun r hr => (good.rows r hr).len
  have rl := good_roads good
  obtain ⟨ma, mb, mc, md, mz⟩ := four_mem good F
  have good2 := flip_good (k := k) good F
  have F2 := flip_four (k := k) F
  refine ⟨_, rfl, ?_⟩
  refine ⟨_, _, rfl, room, _, rfl, rfl, r0, r1, ?_⟩
  refine ⟨_, rfl, _, rfl, _, rfl, ?_⟩
  refine ⟨_, _, _, rfl, G, js, room, ld, hG, hx0, good, rfl, ⟨al, _, rfl, hsl, iP ld⟩, fit, fun H1 sm1 => ?_⟩
  refine ⟨_, rfl, _, rfl, ?_⟩
  refine ⟨_, _, rfl, G, js, z, hG.trans sm1, hx0, rfl, by omega, by rw [F.sides]; rfl, fun H2 sm2 => ?_⟩
  refine ⟨_, rfl, ?_⟩
  refine ⟨_, rfl, k, rfl, hk, ?_⟩
  have s2 := (hG.trans sm1).trans sm2
  refine ⟨_, rfl, aw, CW, dx, _, vj, rfl, s2 _ _ ha, T.cl, T.n_junctions, lk_junctions, ?_⟩
  refine ⟨_, rfl, _, rfl, ?_⟩
  refine ⟨_, _, _, rfl, G, js, z, k, i, j, a, b, c, d, s2, W.junctions, rfl, rfl, by omega, h3, F, fun v G3 H3 go3 hfar => ?_⟩
  wtm_at "sl"
  have go3' := (((Go.ref0 hG).grow sm1).grow sm2).trans go3
  refine ⟨_, rfl, aw, CW, dx, _, _, rfl, go3'.h _ _ (go3.g _ _ ha), T.cl, T.n_roads, lk_roads, _, rfl, ?_⟩
  rw [er]
  refine ⟨ar, al, roadsOf js, ld.map V.int, rfl, .inr (seqT (go3.g.trans go3'.h) hsr), .inr (seqT (go3.g.trans go3'.h) hsl), fun dd hd => ?_⟩
  rw [show mergeK [] (((roadsOf js).map Sum.inr).zip (ld.map V.int)) = tabK (roadsOf js) ld from merge_tab (nodup_roads js) fit.1.len]
  have go4 := go3'.new (o := .dK (tabK (roadsOf js) ld)) hd
  have s4 := same_upd (o := .dK (tabK (roadsOf js) ld)) (go3'.gnone hd)
  have hd4 : rD (roadsOf js) (upd G3 dd (.dK (tabK (roadsOf js) ld))) (.ref dd) ld := ⟨dd, rfl, .inl upd_same, fit.1.len⟩
  have hx4 := Mo.up s4 (Mo.up go3.g hx0)
  have hj4 := Mo.up s4 (Mo.up go3.g W.junctions)
  have hf4 := Mo.up s4 hfar
  have ha4 := s4 _ _ (go3.g _ _ ha)
  generalize upd G3 dd (.dK (tabK (roadsOf js) ld)) = G4 at go4 s4 hd4 hx4 hj4 hf4 ha4
  generalize upd H3 dd (.dK (tabK (roadsOf js) ld)) = H4 at go4 ⊢
  wtm_at "sl"
  refine ⟨_, rfl, ?_⟩
  refine ⟨_, rfl, aw, CW, dx, _, vj, rfl, go4.h _ _ ha4, T.cl, T.n_junctions, lk_junctions, ?_⟩
  refine ⟨_, rfl, _, rfl, _, rfl, _, rfl, ?_⟩
  have hm2 := good2.most
  refine ⟨_, _, _, _, _, rfl, G4, js, z, i, j, a, b, c, d, _, i, j, a, _, _, _, room, roadsOf js, ld, go4.h, hj4, hf4, rfl, hd4, rfl, by omega, h3, by omega, fun r hr => (good2.rows r hr).len, F, F2, ?_, nodup_roads js, by omega, fun v G5 H5 go5 hv => ?_⟩
  · intro t ht
    simp only [List.mem_cons, List.not_mem_nil, or_false] at ht
    rcases ht with rfl | rfl | rfl | rfl | rfl | rfl | rfl | rfl | rfl
    · exact ma
    · exact mb
    · exact mc
    · exact md
    · exact ma
    · split <;> assumption
    · split <;> assumption
    · split <;> assumption
    · exact mz
  have e : putL (roadsOf js) ld z (val (roadsOf js) ld z - lo4 (val (roadsOf js) ld a) (val (roadsOf js) ld b) (val (roadsOf js) ld c) (val (roadsOf js) ld d) + lo4 (val (roadsOf js) ld a) (val (roadsOf js) ld (if k = 1 then c else d)) (val (roadsOf js) ld (if k = 1 then b else c)) (val (roadsOf js) ld (if k = 1 then d else b))) = carryL js ld z k a b c d := by
    unfold carryL loB loA
    rcases hk with rfl | rfl
    · rfl
    · rfl
  rw [e] at hv
  exact ⟨_, _, rfl, G5, js, carryL js ld z k a b c d, go5.h, Mo.up go5.g hx4, good, hv, fun v6 G6 H6 go6 hv6 => q v6 G6 H6 ((go4.trans go5).trans go6) hv6⟩
end
end Tc
namespace Tc
open PySem PySem.Spec PyProof.Rows L2 Fw Mw TL
local macro_rules | `(tactic| wtm_at "z_ne") => `(tactic| first | assumption | (apply Ne.symm; assumption) | omega)
local macro_rules | `(tactic| wtm_at "z_hp") => `(tactic| first | assumption | exact upd_same | (refine (upd_ne ?_).trans ?_; (focus wtm_at "z_ne"); wtm_at "z_hp"))
local macro_rules | `(tactic| wtm_at "z_sq") => `(tactic| first | assumption | (exact .inl (.inl (by wtm_at "z_hp"))))
local macro_rules | `(tactic| wtm_at "z_side") => `(tactic| first | assumption | omega | (simp only []; omega) | exact ⟨by omega, by omega⟩ | exact ⟨by omega, by omega, by omega⟩ | exact .inl ⟨by omega, by omega⟩ | exact .inr ⟨by omega, by omega⟩ | decide)
local macro_rules | `(tactic| wtm_at "z") => `(tactic| first
  | refine ⟨_, rfl, ?_⟩
  | refine ⟨_, _, rfl, rfl, ?_⟩
  | refine And.intro (by wtm_at "z_side") ?_
  | refine .inl ⟨_, rfl, ?_⟩
  | refine ⟨_, _, _, _, rfl, rfl, (by wtm_at "z_sq"), (by first | rfl | assumption), ?_⟩
  | refine ⟨_, _, _, _, rfl, rfl, (by wtm_at "z_hp"), (by first | rfl | assumption), ?_⟩)
local macro_rules | `(tactic| wtm_at "zb") => `(tactic| dsimp only [L2.tCB, L2.tCons, L2.tNil, L2.tC])
local macro_rules | `(tactic| wtm_at "sl") => `(tactic| dsimp only [start_one, start_two, start_three, start_four, start_five, List.length_cons, List.length_nil, Nat.reduceAdd, Nat.reduceSub, List.reduceReplicate, List.set_cons_succ, List.set_cons_zero])
section
variable {P : Program} {w : World} {K : PySem.W.Frag} {mg : Str → Option Value} {base : Heap} {CW : Addr}
theorem ok_law_pot (F : FunAt K mg "_law_pot" s_law_pot ["script", "place"]) (T : Txt K mg CW)  : Cal P w K mg base CX0 "_law_pot" 1 ["script", "place"] [] (sp_law_pot K CW) := by
  obtain ⟨f, fd, F, mgf, bf⟩ := F
  refine ⟨f, fd, [], ?_, mgf, F.kp, bf, .nil⟩
  refine F.ok sc_law_pot (fun vs H Q E h => by obtain ⟨_, _, rfl, _⟩ := h; rfl) (fun cdv A outer s H vs Q E hr h => ?_)
  refine ⟨_, (pss_cons (ps_set (i := 2) sc_law_pot.nd rfl (.inl rfl) (pe_ifExp (pt_cmpR op_lt (pv 1) (pe_callB (call_len_seqK K rfl) (by rfl) T.z_len (by decide +kernel) (pa_cons (pv 0) pa_nil)) (nomark _)) (pe_ix (ix_listK K rfl) (pv 0) (pv 1) (fun _ _ => rfl)) (pe_op op_add (pe_op op_add (pe_op op_mod (pe_callB (cr_sumK K rfl rfl) (by rfl) T.z_sum (by decide +kernel) (pa_cons (pe_slice (sl_listK K rfl) (pv 0) po_none (po_some pe_int)) pa_nil)) pe_int) (pe_op op_mul pe_int (pv 1))) pe_int)))
      (pss_cons (ps_set (i := 3) sc_law_pot.nd rfl (.inl rfl) (pe_op op_mul (pe_op op_mod (pe_callTy call_int1 (by rfl) T.z_int (by decide +kernel) (pa_cons (pe_callB call_abs (by rfl) T.z_abs (by decide +kernel) (pa_cons (pv 2) pa_nil)) pa_nil)) (pe_op Yr.op_powB (pe_op op_pow pe_int pe_int) pe_int)) (pe_callTy call_int1 (by rfl) T.z_int (by decide +kernel) (pa_cons (pe_cmpR op_ge (pe_callB call_abs (by rfl) T.z_abs (by decide +kernel) (pa_cons (pv 2) pa_nil)) (pe_op op_pow pe_int pe_int) (nomark _)) pa_nil))))
      (pss_cons (ps_set (i := 4) sc_law_pot.nd rfl (.inl rfl) (pe_op op_mod (pe_callTy call_int1 (by rfl) T.z_int (by decide +kernel) (pa_cons (pv 2) pa_nil)) pe_int))
      (pss_one (ps_ret (pe_lst (pa_cons (pv 3) (pa_cons (pe_op op_mod (pe_callTy call_int1 (by rfl) T.z_int (by decide +kernel) (pa_cons (pe_op op_add (pe_op op_add (pe_op op_mul (pv 4) pe_int) (pe_op op_mul (pe_op op_mul pe_int (pv 1)) (pv 1))) pe_int) pa_nil)) pe_int) (pa_cons pe_int pa_nil))))))))), ?_⟩
  obtain ⟨x0, x1, rfl, h⟩ := h
  obtain ⟨a, ns, i, rfl, rfl, hs, hi, q⟩ := h
  refine ⟨_, rfl, _, rfl, ?_⟩
  wtm_at "zb"
  refine ⟨a, _, rfl, .inl hs, ?_⟩
  have ct : cutV (ns.map V.int) none (some 1) = (ns.take 1).map V.int := by
    unfold cutV
    have e : HT.sIx (ns.map V.int).length (ns.map V.int).length (some 1) = min 1 ns.length := by
      have h := HT.sIx_nat (ns.map V.int).length (ns.map V.int).length 1
      rw [List.length_map] at h ⊢
      exact h
    rw [HT.sIx_none, e, List.drop_zero, Nat.sub_zero, ← List.map_take]
    congr 1
    cases ns <;> simp
  refine ⟨_, _, rfl, rfl, _, rfl, ite2 (fun e => ?_) (fun e => ?_)⟩
  · have hlt : i < (ns.map V.int).length := by
      have := of_decide_eq_true e
      omega
    obtain ⟨cell, hc⟩ : ∃ cell, (ns.map V.int)[i]? = some (.int cell) := by
      rw [List.length_map] at hlt
      exact ⟨ns[i], by rw [List.getElem?_map, List.getElem?_eq_getElem hlt]; rfl⟩
    refine ⟨_, rfl, _, rfl, a, _, (i : Nat), _, rfl, rfl, hs, atI_nat hc, ?_⟩
    obtain ⟨H9, sm, eH⟩ : ∃ H9, Same H H9 ∧ H9 = H := ⟨H, Same.refl H, rfl⟩
    rw [← eH]
    refine ⟨_, rfl, ?_⟩
    wtm_at "zb"
    refine ⟨_, rfl, .inl ⟨_, rfl, ?_⟩⟩
    refine ⟨_, _, rfl, rfl, ⟨by decide, by decide, by decide⟩, ?_⟩
    refine ⟨_, _, rfl, rfl, ⟨by decide, by decide +kernel⟩, ?_⟩
    have hbig : (0:Int) < (10 ^ Int.toNat 60) ^ Int.toNat 5 := by decide +kernel
    refine ⟨_, _, rfl, rfl, hbig, ?_⟩
    refine ⟨_, rfl, ?_⟩
    wtm_at "zb"
    refine ⟨_, rfl, ?_⟩
    refine ⟨_, _, rfl, rfl, ⟨by decide, by decide, by decide⟩, ?_⟩
    refine ⟨_, _, rfl, rfl, ?_⟩
    refine .inr ⟨_, rfl, ?_⟩
    have hb1 : ∀ b : Bool, -(2 ^ 64) < (if b = true then (1 : Int) else 0) ∧ (if b = true then (1 : Int) else 0) < 2 ^ 64 ∧ 0 ≤ (if b = true then (1 : Int) else 0) := by decide
    refine ⟨_, _, rfl, rfl, .inr ⟨(hb1 _).1, (hb1 _).2.1⟩, ?_⟩
    have hown := Int.mul_nonneg (Int.emod_nonneg (if cell < 0 then -cell else cell) (Int.ne_of_gt hbig)) (hb1 (decide (10 ^ Int.toNat 18 ≤ if cell < 0 then -cell else cell))).2.2
    refine ⟨_, rfl, ?_⟩
    wtm_at "zb"
    refine .inl ⟨_, rfl, ?_⟩
    refine ⟨_, _, rfl, rfl, (show (0:Int) < 2305843009213693951 by decide), ?_⟩
    have hs1 := Int.emod_nonneg cell (show (2305843009213693951 : Int) ≠ 0 by decide)
    have hs2 := Int.emod_lt_of_pos cell (show (0 : Int) < 2305843009213693951 by decide)
    refine ⟨_, rfl, ?_⟩
    wtm_at "zb"
    refine ⟨_, rfl, ?_⟩
    refine ⟨_, _, rfl, rfl, .inr ⟨by decide, by decide⟩, ?_⟩
    refine ⟨_, rfl, ?_⟩
    refine ⟨_, _, rfl, rfl, .inl ⟨by decide, by decide⟩, ?_⟩
    refine ⟨_, rfl, ?_⟩
    refine ⟨_, _, rfl, rfl, .inr ⟨by omega, by omega⟩, ?_⟩
    refine ⟨_, _, rfl, rfl, ?_⟩
    refine ⟨_, _, rfl, rfl, ?_⟩
    refine .inl ⟨_, rfl, ?_⟩
    refine ⟨_, _, rfl, rfl, (show (0:Int) < 2305843009213693921 by decide), ?_⟩
    refine ⟨(show (3:Nat) ≤ sizeLine by decide), fun l hl => ?_⟩
    have hx1 := Int.emod_nonneg (cell % 2305843009213693951 * 79605 + 10371 * (i : Int) * (i : Int) + 1095) (show (2305843009213693921 : Int) ≠ 0 by decide)
    have hx2 := Int.emod_lt_of_pos (cell % 2305843009213693951 * 79605 + 10371 * (i : Int) * (i : Int) + 1095) (show (0 : Int) < 2305843009213693921 by decide)
    exact q l _ (sm.free hl) (sm.trans (same_upd hl)) ⟨_, _, _, upd_same, hown, hx1, by omega, by decide, by omega⟩
  · refine ⟨_, rfl, _, rfl, a, _, rfl, hs, fun p hp => ?_⟩
    have sm := same_upd (o := .lst (cutV (ns.map V.int) none (some 1))) hp
    have h9 : SqL K (upd H p (.lst (cutV (ns.map V.int) none (some 1)))) p ((ns.take 1).map V.int) := SqL.of (by rw [upd_same, ct])
    generalize upd H p (.lst (cutV (ns.map V.int) none (some 1))) = H9 at sm h9 ⊢
    wtm_at "zb"
    refine ⟨p, _, rfl, h9, ?_⟩
    refine ⟨_, _, rfl, rfl, (show (0:Int) < 1000003 by decide), ?_⟩
    refine ⟨_, rfl, _, _, rfl, rfl, .inl ⟨by decide, by decide⟩, ?_⟩
    refine ⟨_, _, rfl, rfl, ?_⟩
    refine ⟨_, _, rfl, rfl, ?_⟩
    refine ⟨_, rfl, ?_⟩
    wtm_at "zb"
    refine ⟨_, rfl, .inl ⟨_, rfl, ?_⟩⟩
    refine ⟨_, _, rfl, rfl, ⟨by decide, by decide, by decide⟩, ?_⟩
    refine ⟨_, _, rfl, rfl, ⟨by decide, by decide +kernel⟩, ?_⟩
    obtain ⟨cell, hcell⟩ : ∃ cell, cell = (ns.take 1).sum % 1000003 + 1941 * (i : Int) + 1037 := ⟨_, rfl⟩
    rw [← hcell]
    have hbig : (0:Int) < (10 ^ Int.toNat 60) ^ Int.toNat 5 := by decide +kernel
    refine ⟨_, _, rfl, rfl, hbig, ?_⟩
    refine ⟨_, rfl, ?_⟩
    wtm_at "zb"
    refine ⟨_, rfl, ?_⟩
    refine ⟨_, _, rfl, rfl, ⟨by decide, by decide, by decide⟩, ?_⟩
    refine ⟨_, _, rfl, rfl, ?_⟩
    refine .inr ⟨_, rfl, ?_⟩
    have hb1 : ∀ b : Bool, -(2 ^ 64) < (if b = true then (1 : Int) else 0) ∧ (if b = true then (1 : Int) else 0) < 2 ^ 64 ∧ 0 ≤ (if b = true then (1 : Int) else 0) := by decide
    refine ⟨_, _, rfl, rfl, .inr ⟨(hb1 _).1, (hb1 _).2.1⟩, ?_⟩
    have hown := Int.mul_nonneg (Int.emod_nonneg (if cell < 0 then -cell else cell) (Int.ne_of_gt hbig)) (hb1 (decide (10 ^ Int.toNat 18 ≤ if cell < 0 then -cell else cell))).2.2
    refine ⟨_, rfl, ?_⟩
    wtm_at "zb"
    refine .inl ⟨_, rfl, ?_⟩
    refine ⟨_, _, rfl, rfl, (show (0:Int) < 2305843009213693951 by decide), ?_⟩
    have hs1 := Int.emod_nonneg cell (show (2305843009213693951 : Int) ≠ 0 by decide)
    have hs2 := Int.emod_lt_of_pos cell (show (0 : Int) < 2305843009213693951 by decide)
    refine ⟨_, rfl, ?_⟩
    wtm_at "zb"
    refine ⟨_, rfl, ?_⟩
    refine ⟨_, _, rfl, rfl, .inr ⟨by decide, by decide⟩, ?_⟩
    refine ⟨_, rfl, ?_⟩
    refine ⟨_, _, rfl, rfl, .inl ⟨by decide, by decide⟩, ?_⟩
    refine ⟨_, rfl, ?_⟩
    refine ⟨_, _, rfl, rfl, .inr ⟨by omega, by omega⟩, ?_⟩
    refine ⟨_, _, rfl, rfl, ?_⟩
    refine ⟨_, _, rfl, rfl, ?_⟩
    refine .inl ⟨_, rfl, ?_⟩
    refine ⟨_, _, rfl, rfl, (show (0:Int) < 2305843009213693921 by decide), ?_⟩
    refine ⟨(show (3:Nat) ≤ sizeLine by decide), fun l hl => ?_⟩
    have hx1 := Int.emod_nonneg (cell % 2305843009213693951 * 79605 + 10371 * (i : Int) * (i : Int) + 1095) (show (2305843009213693921 : Int) ≠ 0 by decide)
    have hx2 := Int.emod_lt_of_pos (cell % 2305843009213693951 * 79605 + 10371 * (i : Int) * (i : Int) + 1095) (show (0 : Int) < 2305843009213693921 by decide)
    exact q l _ (sm.free hl) (sm.trans (same_upd hl)) ⟨_, _, _, upd_same, hown, hx1, by omega, by decide, by omega⟩
end
end Tc
namespace Tc
open PySem PySem.Spec PyProof.Rows L2 Fw Mw TL
local macro_rules | `(tactic| wtm_at "z_ne") => `(tactic| first | assumption | (apply Ne.symm; assumption) | omega)
local macro_rules | `(tactic| wtm_at "z_hp") => `(tactic| first | assumption | exact upd_same | (refine (upd_ne ?_).trans ?_; (focus wtm_at "z_ne"); wtm_at "z_hp"))
local macro_rules | `(tactic| wtm_at "z_sq") => `(tactic| first | assumption | (exact .inl (.inl (by wtm_at "z_hp"))))
local macro_rules | `(tactic| wtm_at "z_side") => `(tactic| first | assumption | omega | (simp only []; omega) | exact ⟨by omega, by omega⟩ | exact ⟨by omega, by omega, by omega⟩ | exact .inl ⟨by omega, by omega⟩ | exact .inr ⟨by omega, by omega⟩ | decide)
local macro_rules | `(tactic| wtm_at "z") => `(tactic| first
  | refine ⟨_, rfl, ?_⟩
  | refine ⟨_, _, rfl, rfl, ?_⟩
  | refine And.intro (by wtm_at "z_side") ?_
  | refine .inl ⟨_, rfl, ?_⟩
  | refine ⟨_, _, _, _, rfl, rfl, (by wtm_at "z_sq"), (by first | rfl | assumption), ?_⟩
  | refine ⟨_, _, _, _, rfl, rfl, (by wtm_at "z_hp"), (by first | rfl | assumption), ?_⟩)
local macro_rules | `(tactic| wtm_at "zb") => `(tactic| dsimp only [L2.tCB, L2.tCons, L2.tNil, L2.tC])
local macro_rules | `(tactic| wtm_at "sl") => `(tactic| dsimp only [start_one, start_two, start_three, start_four, start_five, List.length_cons, List.length_nil, Nat.reduceAdd, Nat.reduceSub, List.reduceReplicate, List.set_cons_succ, List.set_cons_zero])
section
variable {P : Program} {w : World} {K : PySem.W.Frag} {mg : Str → Option Value} {base : Heap} {CW : Addr}
theorem ok_law_take (F : FunAt K mg "_law_take" s_law_take ["pot", "upto"]) (T : Txt K mg CW)  : Cal P w K mg base CX0 "_law_take" 1 ["pot", "upto"] [] (sp_law_take K CW) := by
  obtain ⟨f, fd, F, mgf, bf⟩ := F
  refine ⟨f, fd, [], ?_, mgf, F.kp, bf, .nil⟩
  refine F.ok sc_law_take (fun vs H Q E h => by obtain ⟨_, _, rfl, _⟩ := h; rfl) (fun cdv A outer s H vs Q E hr h => ?_)
  refine ⟨_, (pss_cons (ps_if (pt_cmpR op_gt (pe_ix (ix_listK K rfl) (pv 0) pe_int (fun _ _ => rfl)) pe_int (nomark _)) (pss_cons (ps_set (i := 2) sc_law_take.nd rfl (.inl rfl) (pe_op op_mod (pe_callTy call_int1 (by rfl) T.z_int (by decide +kernel) (pa_cons (pe_ix (ix_listK K rfl) (pv 0) pe_int (fun _ _ => rfl)) pa_nil)) (pv 1)))
      (pss_cons (ps_asg (pe_op op_fdivW (pe_ix (ix_listK K rfl) (pv 0) pe_int (fun _ _ => rfl)) (pv 1)) (pg_sub (pv 0) pe_int set_list))
      (pss_one (ps_ret (pv 2))))) pss_nil)
      (pss_cons (ps_asg (pe_op op_add (pe_ix (ix_listK K rfl) (pv 0) pe_int (fun _ _ => rfl)) pe_int) (pg_sub (pv 0) pe_int set_list))
      (pss_cons (ps_set (i := 3) sc_law_take.nd rfl (.inl rfl) (pe_ix (ix_listK K rfl) (pe_lst (pa_cons pe_int (pa_cons pe_int (pa_cons pe_int (pa_cons pe_int (pa_cons pe_int pa_nil)))))) (pe_op op_mod (pe_callTy call_int1 (by rfl) T.z_int (by decide +kernel) (pa_cons (pe_ix (ix_listK K rfl) (pv 0) pe_int (fun _ _ => rfl)) pa_nil)) pe_int) (fun _ _ => rfl)))
      (pss_cons (ps_set (i := 4) sc_law_take.nd rfl (.inl rfl) (pe_op op_mod (pe_callTy call_int1 (by rfl) T.z_int (by decide +kernel) (pa_cons (pe_op op_pow (pe_callTy call_int1 (by rfl) T.z_int (by decide +kernel) (pa_cons (pe_op op_add (pe_op op_add (pe_ix (ix_listK K rfl) (pv 0) pe_int (fun _ _ => rfl)) (pe_op op_mul (pe_op op_mul pe_int (pe_ix (ix_listK K rfl) (pv 0) pe_int (fun _ _ => rfl))) (pe_ix (ix_listK K rfl) (pv 0) pe_int (fun _ _ => rfl)))) pe_int) pa_nil)) pe_int) pa_nil)) (pv 3)))
      (pss_cons (ps_set (i := 4) sc_law_take.nd rfl (.inl rfl) (pe_op op_mod (pe_callTy call_int1 (by rfl) T.z_int (by decide +kernel) (pa_cons (pe_op op_mul (pv 4) (pe_op op_add (pe_op op_mod (pe_callTy call_int1 (by rfl) T.z_int (by decide +kernel) (pa_cons (pv 4) pa_nil)) pe_int) (pe_op op_mul pe_int (pe_ix (ix_listK K rfl) (pv 0) pe_int (fun _ _ => rfl))))) pa_nil)) pe_int))
      (pss_one (ps_ret (pe_op op_mod (pe_callTy call_int1 (by rfl) T.z_int (by decide +kernel) (pa_cons (pe_op op_fdivW (pv 4) pe_int) pa_nil)) (pv 1))))))))), ?_⟩
  obtain ⟨x0, x1, rfl, h⟩ := h
  obtain ⟨p, n, u, rfl, rfl, hu, hu2, ⟨a, b, c, hp, ha, hb, hb2, hc, hc2⟩, q⟩ := h
  have hS : SqL K H p [.int a, .int b, .int c] := SqL.of hp
  repeat wtm_at "z"
  refine ite2 (fun e => ?_) (fun e => ?_)
  · have e0 : 0 < a := of_decide_eq_true e
    repeat wtm_at "z"
    refine And.intro ⟨hu, Nat.lt_trans ((Nat.log2_lt (by omega)).mpr (show u.natAbs < 2 ^ 44 by omega)) (by decide)⟩ ?_
    repeat wtm_at "z"
    refine q _ _ (Int.emod_nonneg _ (by omega)) (Int.emod_lt_of_pos _ hu) ⟨_, _, _, upd_same, ?_, hb, hb2, hc, by omega⟩ (fun z o hz e => (upd_ne hz).trans e)
    exact Int.ediv_nonneg ha (by omega)
  · repeat wtm_at "z"
    intro o ho
    have hop : o ≠ p := fun e => by rw [e, upd_same] at ho; cases ho
    obtain ⟨m, hm, hm0, hm1⟩ : ∃ m, atI [V.int 2147483647, V.int 2147483629, V.int 2147483587, V.int 2147483579, V.int 2147483563] ((c + 1) % 5) = some (.int m) ∧ 0 < m ∧ m ≤ 2147483647 := by
      have h5 : (c + 1) % 5 = 0 ∨ (c + 1) % 5 = 1 ∨ (c + 1) % 5 = 2 ∨ (c + 1) % 5 = 3 ∨ (c + 1) % 5 = 4 := by omega
      rcases h5 with h | h | h | h | h <;> rw [h]
      · exact ⟨_, rfl, by decide, by decide⟩
      · exact ⟨_, rfl, by decide, by decide⟩
      · exact ⟨_, rfl, by decide, by decide⟩
      · exact ⟨_, rfl, by decide, by decide⟩
      · exact ⟨_, rfl, by decide, by decide⟩
    have hp2 : (upd (upd H p (.lst [.int a, .int b, .int (c + 1)])) o (.lst [V.int 2147483647, V.int 2147483629, V.int 2147483587, V.int 2147483579, V.int 2147483563])) p = some (.lst [.int a, .int b, .int (c + 1)]) := (upd_ne hop.symm).trans upd_same
    repeat wtm_at "z"
    refine And.intro (cpow_of hb hb2 (by decide) (by decide) (by omega) (by omega) (by decide) (by decide)) ?_
    repeat wtm_at "z"
    have hx := Int.emod_nonneg ((b + 103833 * (c + 1) * (c + 1) + 1551) ^ (3 : Int).toNat) (show m ≠ 0 by omega)
    have hy := Int.emod_lt_of_pos ((b + 103833 * (c + 1) * (c + 1) + 1551) ^ (3 : Int).toNat) hm0
    generalize ((b + 103833 * (c + 1) * (c + 1) + 1551) ^ (3 : Int).toNat) % m = x at hx hy ⊢
    repeat wtm_at "z"
    refine And.intro ⟨by decide, by decide⟩ ?_
    repeat wtm_at "z"
    refine q _ _ (Int.emod_nonneg _ (by omega)) (Int.emod_lt_of_pos _ hu) ⟨_, _, _, hp2, ha, hb, hb2, by omega, by omega⟩ (fun z oz hz e => ?_)
    exact (upd_ne (ne_of_none ((upd_ne hz).trans e) ho)).trans ((upd_ne hz).trans e)
end
end Tc
namespace Tc
open PySem PySem.Spec PyProof.Rows L2 Fw Mw TL
local macro_rules | `(tactic| wtm_at "z_ne") => `(tactic| first | assumption | (apply Ne.symm; assumption) | omega)
local macro_rules | `(tactic| wtm_at "z_hp") => `(tactic| first | assumption | exact upd_same | (refine (upd_ne ?_).trans ?_; (focus wtm_at "z_ne"); wtm_at "z_hp"))
local macro_rules | `(tactic| wtm_at "z_sq") => `(tactic| first | assumption | (exact .inl (.inl (by wtm_at "z_hp"))))
local macro_rules | `(tactic| wtm_at "z_side") => `(tactic| first | assumption | omega | (simp only []; omega) | exact ⟨by omega, by omega⟩ | exact ⟨by omega, by omega, by omega⟩ | exact .inl ⟨by omega, by omega⟩ | exact .inr ⟨by omega, by omega⟩ | decide)
local macro_rules | `(tactic| wtm_at "z") => `(tactic| first
  | refine ⟨_, rfl, ?_⟩
  | refine ⟨_, _, rfl, rfl, ?_⟩
  | refine And.intro (by wtm_at "z_side") ?_
  | refine .inl ⟨_, rfl, ?_⟩
  | refine ⟨_, _, _, _, rfl, rfl, (by wtm_at "z_sq"), (by first | rfl | assumption), ?_⟩
  | refine ⟨_, _, _, _, rfl, rfl, (by wtm_at "z_hp"), (by first | rfl | assumption), ?_⟩)
local macro_rules | `(tactic| wtm_at "zb") => `(tactic| dsimp only [L2.tCB, L2.tCons, L2.tNil, L2.tC])
local macro_rules | `(tactic| wtm_at "sl") => `(tactic| dsimp only [start_one, start_two, start_three, start_four, start_five, List.length_cons, List.length_nil, Nat.reduceAdd, Nat.reduceSub, List.reduceReplicate, List.set_cons_succ, List.set_cons_zero])
section
variable {P : Program} {w : World} {K : PySem.W.Frag} {mg : Str → Option Value} {base : Heap} {CW : Addr}
theorem ok_law_of (F : FunAt K mg "_law_of" s_law_of ["pot", "some"]) (T : Txt K mg CW) (C_law_take : Cal P w K mg base CX0 "_law_take" 1 ["pot", "upto"] [] (sp_law_take K CW)) : Cal P w K mg base CX0 "_law_of" 2 ["pot", "some"] [] (sp_law_of K CW) := by
  obtain ⟨f, fd, F, mgf, bf⟩ := F
  obtain ⟨f_law_take, fd_law_take, ds_law_take, G_law_take, m_law_take, k_law_take, b_law_take, d_law_take⟩ := C_law_take
  refine ⟨f, fd, [], ?_, mgf, F.kp, bf, .nil⟩
  refine F.ok sc_law_of (fun vs H Q E h => by obtain ⟨_, _, rfl, _⟩ := h; rfl) (fun cdv A outer s H vs Q E hr h => ?_)
  refine ⟨_, (pss_one (ps_ret (pe_ix (ix_listK K rfl) (pv 1) (pe_call G_law_take (hr.mono (by decide)) (by rfl) m_law_take k_law_take b_law_take d_law_take pass0 (pa_cons (pv 0) (pa_cons (pe_callB (call_len_seqK K rfl) (by rfl) T.z_len (by decide +kernel) (pa_cons (pv 1) pa_nil)) pa_nil))) (fun _ _ => rfl)))), ?_⟩
  obtain ⟨x0, x1, rfl, h⟩ := h
  obtain ⟨p, n, a, xs, G, hG, gp, rfl, rfl, hs, hne, hx, hP, q⟩ := h
  have hpos : 0 < xs.length := List.length_pos_iff.mpr hne
  refine ⟨_, rfl, ?_⟩
  refine ⟨_, rfl, ?_⟩
  refine ⟨_, rfl, ?_⟩
  wtm_at "zb"
  refine ⟨a, xs, rfl, .inl (hG.seq hs), ?_⟩
  refine ⟨_, _, rfl, p, n, _, rfl, rfl, by omega, by omega, hP, fun d H1 d0 d1 P1 but => ?_⟩
  have hi : d.toNat < xs.length := by omega
  refine ⟨a, xs, d, xs[d.toNat], rfl, rfl, (but.go hG gp P1).h.seq hs, ?_, q d.toNat _ H1 (List.getElem?_eq_getElem hi) P1 but⟩
  have e := atI_nat (List.getElem?_eq_getElem hi)
  rw [show ((d.toNat : Nat) : Int) = d by omega] at e
  exact e
end
end Tc
namespace Tc
open PySem PySem.Spec PyProof.Rows L2 Fw Mw TL
local macro_rules | `(tactic| wtm_at "z_ne") => `(tactic| first | assumption | (apply Ne.symm; assumption) | omega)
local macro_rules | `(tactic| wtm_at "z_hp") => `(tactic| first | assumption | exact upd_same | (refine (upd_ne ?_).trans ?_; (focus wtm_at "z_ne"); wtm_at "z_hp"))
local macro_rules | `(tactic| wtm_at "z_sq") => `(tactic| first | assumption | (exact .inl (.inl (by wtm_at "z_hp"))))
local macro_rules | `(tactic| wtm_at "z_side") => `(tactic| first | assumption | omega | (simp only []; omega) | exact ⟨by omega, by omega⟩ | exact ⟨by omega, by omega, by omega⟩ | exact .inl ⟨by omega, by omega⟩ | exact .inr ⟨by omega, by omega⟩ | decide)
local macro_rules | `(tactic| wtm_at "z") => `(tactic| first
  | refine ⟨_, rfl, ?_⟩
  | refine ⟨_, _, rfl, rfl, ?_⟩
  | refine And.intro (by wtm_at "z_side") ?_
  | refine .inl ⟨_, rfl, ?_⟩
  | refine ⟨_, _, _, _, rfl, rfl, (by wtm_at "z_sq"), (by first | rfl | assumption), ?_⟩
  | refine ⟨_, _, _, _, rfl, rfl, (by wtm_at "z_hp"), (by first | rfl | assumption), ?_⟩)
local macro_rules | `(tactic| wtm_at "zb") => `(tactic| dsimp only [L2.tCB, L2.tCons, L2.tNil, L2.tC])
local macro_rules | `(tactic| wtm_at "sl") => `(tactic| dsimp only [start_one, start_two, start_three, start_four, start_five, List.length_cons, List.length_nil, Nat.reduceAdd, Nat.reduceSub, List.reduceReplicate, List.set_cons_succ, List.set_cons_zero])
section
variable {P : Program} {w : World} {K : PySem.W.Frag} {mg : Str → Option Value} {base : Heap} {CW : Addr}
theorem ok_law_cells (F : FunAt K mg "_law_cells" s_law_cells ["script", "most"]) (T : Txt K mg CW)  : Cal P w K mg base CX0 "_law_cells" 1 ["script", "most"] [] (sp_law_cells K CW) := by
  obtain ⟨f, fd, F, mgf, bf⟩ := F
  refine ⟨f, fd, [], ?_, mgf, F.kp, bf, .nil⟩
  refine F.ok sc_law_cells (fun vs H Q E h => by obtain ⟨_, _, rfl, _⟩ := h; rfl) (fun cdv A outer s H vs Q E hr h => ?_)
  refine ⟨_, (pss_one (ps_ret (pe_listRg rfl (by rfl) T.z_list (prg_1 (by rfl) T.z_range (pe_callB (call_max2 rfl) (by rfl) T.z_max (by decide +kernel) (pa_cons pe_int (pa_cons (pe_callB (call_min2 rfl) (by rfl) T.z_min (by decide +kernel) (pa_cons (pv 1) (pa_cons (pe_callB (call_len_seqK K rfl) (by rfl) T.z_len (by decide +kernel) (pa_cons (pv 0) pa_nil)) pa_nil))) pa_nil))))))), ?_⟩
  obtain ⟨x0, x1, rfl, h⟩ := h
  obtain ⟨a, ns, rfl, ⟨m, rfl, m1, m50⟩, hs, q⟩ := h
  refine ⟨_, rfl, _, rfl, ?_⟩
  wtm_at "zb"
  refine ⟨a, _, rfl, .inl hs, ?_⟩
  refine ⟨_, _, rfl, ?_⟩
  refine ⟨_, _, rfl, ?_⟩
  refine ⟨_, rfl, ?_⟩
  obtain ⟨k, hk, k50⟩ : ∃ k : Nat, (if (if ((ns.map V.int).length : Int) < m then ((ns.map V.int).length : Int) else m) > 1 then (if ((ns.map V.int).length : Int) < m then ((ns.map V.int).length : Int) else m) else 1) = (k : Int) ∧ k ≤ 50 := by
    generalize ((ns.map V.int).length : Int) = j
    by_cases h1 : j < m
    · rw [if_pos h1]
      by_cases h2 : j > 1
      · rw [if_pos h2]
        exact ⟨j.toNat, by omega, by omega⟩
      · rw [if_neg h2]
        exact ⟨1, rfl, by decide⟩
    · rw [if_neg h1]
      by_cases h2 : m > 1
      · rw [if_pos h2]
        exact ⟨m.toNat, by omega, by omega⟩
      · rw [if_neg h2]
        exact ⟨1, rfl, by decide⟩
  rw [hk]
  refine ⟨RgOk.of_le (by decide) (by omega) (by decide) (by omega), fun l hl => ?_⟩
  refine q l k _ k50 (same_upd hl) (SqL.of ?_)
  rw [upd_same]
  refine congrArg some (congrArg HO.lst ?_)
  unfold rgV
  rw [show ((k : Int) - 0).toNat = k by omega]
  exact List.map_congr_left fun i _ => by rw [Int.zero_add]
end
end Tc
namespace Tc
open PySem PySem.Spec PyProof.Rows L2 Fw Mw TL
local macro_rules | `(tactic| wtm_at "z_ne") => `(tactic| first | assumption | (apply Ne.symm; assumption) | omega)
local macro_rules | `(tactic| wtm_at "z_hp") => `(tactic| first | assumption | exact upd_same | (refine (upd_ne ?_).trans ?_; (focus wtm_at "z_ne"); wtm_at "z_hp"))
local macro_rules | `(tactic| wtm_at "z_sq") => `(tactic| first | assumption | (exact .inl (.inl (by wtm_at "z_hp"))))
local macro_rules | `(tactic| wtm_at "z_side") => `(tactic| first | assumption | omega | (simp only []; omega) | exact ⟨by omega, by omega⟩ | exact ⟨by omega, by omega, by omega⟩ | exact .inl ⟨by omega, by omega⟩ | exact .inr ⟨by omega, by omega⟩ | decide)
local macro_rules | `(tactic| wtm_at "z") => `(tactic| first
  | refine ⟨_, rfl, ?_⟩
  | refine ⟨_, _, rfl, rfl, ?_⟩
  | refine And.intro (by wtm_at "z_side") ?_
  | refine .inl ⟨_, rfl, ?_⟩
  | refine ⟨_, _, _, _, rfl, rfl, (by wtm_at "z_sq"), (by first | rfl | assumption), ?_⟩
  | refine ⟨_, _, _, _, rfl, rfl, (by wtm_at "z_hp"), (by first | rfl | assumption), ?_⟩)
local macro_rules | `(tactic| wtm_at "zb") => `(tactic| dsimp only [L2.tCB, L2.tCons, L2.tNil, L2.tC])
local macro_rules | `(tactic| wtm_at "sl") => `(tactic| dsimp only [start_one, start_two, start_three, start_four, start_five, List.length_cons, List.length_nil, Nat.reduceAdd, Nat.reduceSub, List.reduceReplicate, List.set_cons_succ, List.set_cons_zero])
section
variable {P : Program} {w : World} {K : PySem.W.Frag} {mg : Str → Option Value} {base : Heap} {CW : Addr}
theorem ok_law_numbers (F : FunAt K mg "_law_numbers" s_law_numbers ["pot"]) (T : Txt K mg CW) (C_law_of : Cal P w K mg base CX0 "_law_of" 2 ["pot", "some"] [] (sp_law_of K CW)) (C_law_take : Cal P w K mg base CX0 "_law_take" 1 ["pot", "upto"] [] (sp_law_take K CW)) : Cal P w K mg base CX0 "_law_numbers" 3 ["pot"] [] (sp_law_numbers K CW) := by
  obtain ⟨f, fd, F, mgf, bf⟩ := F
  obtain ⟨f_law_of, fd_law_of, ds_law_of, G_law_of, m_law_of, k_law_of, b_law_of, d_law_of⟩ := C_law_of
  obtain ⟨f_law_take, fd_law_take, ds_law_take, G_law_take, m_law_take, k_law_take, b_law_take, d_law_take⟩ := C_law_take
  refine ⟨f, fd, [], ?_, mgf, F.kp, bf, .nil⟩
  refine F.ok sc_law_numbers (fun vs H Q E h => by obtain ⟨_, rfl, _⟩ := h; rfl) (fun cdv A outer s H vs Q E hr h => ?_)
  refine ⟨_, (pss_cons (ps_set (i := 1) sc_law_numbers.nd rfl (.inl rfl) (pe_call G_law_of (hr.mono (by decide)) (by rfl) m_law_of k_law_of b_law_of d_law_of pass0 (pa_cons (pv 0) (pa_cons (pe_lst (pa_cons pe_int (pa_cons pe_int (pa_cons pe_int (pa_cons pe_int (pa_cons pe_int (pa_cons pe_int (pa_cons pe_int (pa_cons (pe_op op_add (pe_op op_pow pe_int pe_int) pe_int) pa_nil))))))))) pa_nil))))
      (pss_cons (ps_set (i := 2) sc_law_numbers.nd rfl (.inl rfl) (pe_lst pa_nil))
      (pss_cons (ps_for PassesOwn.never rfl (pi_range1 (by rfl) T.z_range (pa_cons pe_int pa_nil)) (pg_name (i := 3) sc_law_numbers.nd rfl (.inl rfl)) (pss_cons (ps_set (i := 4) sc_law_numbers.nd rfl (.inl rfl) (pe_call G_law_take (hr.mono (by decide)) (by rfl) m_law_take k_law_take b_law_take d_law_take pass0 (pa_cons (pv 0) (pa_cons (pe_op op_add (pv 1) pe_int) pa_nil))))
      (pss_one (ps_expr (pe_bmK K rfl PySem.F.plainAttrs_list PySem.F.slot_list_append PySem.F.type_list_append mt_append (pv 2) (pa_cons (pe_call G_law_of (hr.mono (by decide)) (by rfl) m_law_of k_law_of b_law_of d_law_of pass0 (pa_cons (pv 0) (pa_cons (pe_lst (pa_cons (pv 4) (pa_cons (pv 4) (pa_cons (pv 1) (pa_cons pe_int (pa_cons (pe_op op_fdiv (pv 1) pe_int) (pa_cons (pe_callB (call_min2 rfl) (by rfl) T.z_min (by decide +kernel) (pa_cons (pv 1) (pa_cons pe_int pa_nil))) pa_nil))))))) pa_nil))) pa_nil))))))
      (pss_cons (ps_if (pt_cmpR op_eq (pe_op op_mod (pe_callTy call_int1 (by rfl) T.z_int (by decide +kernel) (pa_cons (pe_callB (cr_sumK K rfl rfl) (by rfl) T.z_sum (by decide +kernel) (pa_cons (pv 2) pa_nil)) pa_nil)) pe_int) pe_int (nomark _)) (pss_one (ps_asg (pe_ifExp (pt_cmpR op_lt (pe_ix (ix_listK K rfl) (pv 2) pe_int (fun _ _ => rfl)) (pv 1) (nomark _)) (pe_op op_add (pe_ix (ix_listK K rfl) (pv 2) pe_int (fun _ _ => rfl)) pe_int) (pe_op op_sub (pe_ix (ix_listK K rfl) (pv 2) pe_int (fun _ _ => rfl)) pe_int)) (pg_sub (pv 2) pe_int set_list))) pss_nil)
      (pss_one (ps_ret (pe_tup (pa_cons (pv 1) (pa_cons (pe_callTy (call_tuple_ofK K rfl) (by rfl) T.z_tuple (by decide +kernel) (pa_cons (pv 2) pa_nil)) pa_nil))))))))), ?_⟩
  obtain ⟨x0, rfl, h⟩ := h
  obtain ⟨p, n, G, hG, gp, rfl, hP, q⟩ := h
  have hpn := hP.some
  have go0 := Go.refl (L := [p]) hG
  refine ⟨_, rfl, ?_⟩
  refine ⟨_, _, rfl, rfl, ⟨by decide, by decide, by decide⟩, _, _, rfl, rfl, ?_⟩
  refine ⟨(show (8:Nat) ≤ sizeLine by decide), fun l1 h1 => ?_⟩
  have go1 := go0.new (o := .lst [.int 5, .int 8, .int 3, .int 12, .int 999999999999, .int 999999999988, .int 1, .int (10 ^ (6:Int).toNat + 1)]) h1
  have gp1 := go1.n p hpn gp
  refine ⟨_, _, rfl, p, n + 19, l1, _, _, go1.h, gp1, rfl, rfl, SqL.of upd_same, by simp, (show (8:Nat) ≤ 1000 by decide), hP.up (same_upd h1), fun i v H2 hv P2 b2 => ?_⟩
  obtain ⟨room, rfl, r1, r2⟩ : ∃ room : Int, v = .int room ∧ 1 ≤ room ∧ room ≤ 999999999999 := by
    match i, hv with
    | 0, e => exact ⟨5, (Option.some.inj e).symm, by decide, by decide⟩
    | 1, e => exact ⟨8, (Option.some.inj e).symm, by decide, by decide⟩
    | 2, e => exact ⟨3, (Option.some.inj e).symm, by decide, by decide⟩
    | 3, e => exact ⟨12, (Option.some.inj e).symm, by decide, by decide⟩
    | 4, e => exact ⟨999999999999, (Option.some.inj e).symm, by decide, by decide⟩
    | 5, e => exact ⟨999999999988, (Option.some.inj e).symm, by decide, by decide⟩
    | 6, e => exact ⟨1, (Option.some.inj e).symm, by decide, by decide⟩
    | 7, e => exact ⟨10 ^ (6:Int).toNat + 1, (Option.some.inj e).symm, by decide, by decide⟩
    | i + 8, e => simp at e
  have go2 := go1.trans (b2.go go1.h gp1 P2)
  generalize upd G l1 _ = G1 at go1 go2 gp1
  clear hv h1 b2 go1
  refine ⟨(show (0:Nat) ≤ sizeLine by decide), fun ls hs => ?_⟩
  have go3 := go2.tmp (o := .lst []) hs
  have P3 := P2.up (same_upd (o := .lst []) hs)
  have e3 : upd H2 ls (.lst []) ls = some (.lst []) := upd_same
  have h0s : H ls = none := go2.fresh hs
  have gs : G1 ls = none := go2.gnone hs
  have nsp : ls ≠ p := fun e => hpn (e ▸ h0s)
  generalize upd H2 ls (.lst []) = H3 at go3 P3 e3 ⊢
  wtm_at "sl"
  refine ⟨_, rfl, by decide, by decide, ?_⟩
  show ∃ W : Nat → Nat → L2.St → Hp → Prop, _
  refine for_it (walk_range (lo := 0) (n := 4)) (fun i σ H' => (∃ x3 x4, σ = [some (.ref p), some (.int room), some (.ref ls), x3, x4]) ∧ ∃ (G' : Hp) (es : List Int), Go [p] G H G' H' ∧ G' ls = none ∧ Pot (n + 18 - 2 * i) p H' ∧ H' ls = some (.lst (es.map V.int)) ∧ es.length = i ∧ ∀ e ∈ es, 0 ≤ e ∧ e ≤ room) ⟨⟨_, _, rfl⟩, G1, [], go3, gs, P3.le (by omega), e3, rfl, by simp⟩ (fun _ _ _ _ _ => trivial) ?_ ?_
  · rintro i x σ H4 H5 hi ⟨⟨x3, x4, rfl⟩, G4, es, go4, g4, P4, e4, le, be⟩ ⟨rfl, ex⟩
    have gp4 := go4.n p hpn gp
    refine ⟨_, rfl, _, rfl, _, _, rfl, rfl, ?_⟩
    refine ⟨_, _, rfl, p, n + 17 - 2 * i, room + 1, rfl, rfl, by omega, by omega, P4.le (by omega), fun d H6 d0 d1 P6 b6 => ?_⟩
    have go6 := go4.trans (b6.go go4.h gp4 P6)
    have e6 : H6 ls = some (.lst (es.map V.int)) := b6 _ _ nsp e4
    wtm_at "sl"
    refine ⟨_, rfl, .inl ⟨rfl, _, SqL.of e6⟩, ?_⟩
    refine ⟨_, rfl, ?_⟩
    refine ⟨_, rfl, _, rfl, _, rfl, _, rfl, _, _, rfl, rfl, ⟨by decide, by decide⟩, _, rfl, _, _, rfl, ?_⟩
    obtain ⟨mn, hmn, mn0, mn1⟩ : ∃ mn : Int, (if (2 : Int) < room then (2 : Int) else room) = mn ∧ 0 ≤ mn ∧ mn ≤ room := by
      by_cases c : (2 : Int) < room
      · exact ⟨2, if_pos c, by omega, by omega⟩
      · exact ⟨room, if_neg c, by omega, by omega⟩
    rw [hmn]
    refine ⟨(show (6:Nat) ≤ sizeLine by decide), fun l7 h7 => ?_⟩
    have n7 : ls ≠ l7 := fun e => by rw [e, h7] at e6; cases e6
    have go7 := go6.new (o := .lst [.int d, .int d, .int room, .int 0, .int (room / 2), .int mn]) h7
    have gp7 := go7.n p hpn gp
    have g7 : upd G4 l7 (.lst [.int d, .int d, .int room, .int 0, .int (room / 2), .int mn]) ls = none := (upd_ne n7).trans g4
    have e7 : upd H6 l7 (.lst [.int d, .int d, .int room, .int 0, .int (room / 2), .int mn]) ls = some (.lst (es.map V.int)) := (upd_ne n7).trans e6
    refine ⟨_, _, rfl, p, n + 16 - 2 * i, l7, _, _, go7.h, gp7, rfl, rfl, SqL.of upd_same, by simp, (show (6:Nat) ≤ 1000 by decide), (P6.up (same_upd h7)).le (by omega), fun j v H8 hv P8 b8 => ?_⟩
    have go8 := go7.trans (b8.go go7.h gp7 P8)
    have e8 : H8 ls = some (.lst (es.map V.int)) := b8 _ _ nsp e7
    obtain ⟨y, rfl, y0, y1⟩ : ∃ y : Int, v = .int y ∧ 0 ≤ y ∧ y ≤ room := by
      match j, hv with
      | 0, e => exact ⟨d, (Option.some.inj e).symm, d0, by omega⟩
      | 1, e => exact ⟨d, (Option.some.inj e).symm, d0, by omega⟩
      | 2, e => exact ⟨room, (Option.some.inj e).symm, by omega, by omega⟩
      | 3, e => exact ⟨0, (Option.some.inj e).symm, by omega, by omega⟩
      | 4, e => exact ⟨room / 2, (Option.some.inj e).symm, by omega, by omega⟩
      | 5, e => exact ⟨mn, (Option.some.inj e).symm, mn0, mn1⟩
      | j + 6, e => simp at e
    refine ⟨ls, _, _, rfl, rfl, e8, Nat.lt_of_le_of_lt (m := 4) (by rw [List.length_map]; omega) (by decide), ?_⟩
    refine ⟨⟨_, _, rfl⟩, _, es ++ [y], go8.mut g7 (.inl h0s), g7, ?_, ?_, by rw [List.length_append, le]; rfl, fun e he => ?_⟩
    · obtain ⟨z1, z2, z3, w1, w2⟩ := P8
      exact ⟨z1, z2, z3, (upd_ne (Ne.symm nsp)).trans w1, by omega, by omega, by omega, by omega, by omega⟩
    · rw [upd_same, List.map_append]
      rfl
    · rcases List.mem_append.mp he with he | he
      · exact be e he
      · rw [List.mem_singleton.mp he]
        exact ⟨y0, y1⟩
  · rintro σ H4 ⟨⟨x3, x4, rfl⟩, G4, es, go4, g4, P4, e4, le, be⟩
    match es, le, e4, be with
    | [a, b, c, d], _, e4, be =>
    have sD := SqL.of (K := K) e4
    have ba := be a (by simp)
    have bb := be b (by simp)
    have bc := be c (by simp)
    have bd := be d (by simp)
    refine ⟨_, rfl, ls, [a, b, c, d], rfl, sD, .inl ⟨_, rfl, _, _, rfl, rfl, show (0:Int) < 2 by decide, rfl, _, rfl, ?_⟩⟩
    have es : ([a, b, c, d] : List Int).sum = a + b + c + d := by simp only [List.sum_cons, List.sum_nil]; omega
    have fin : ∀ (a2 : Int) (H6 : Hp), Go [p] G H G4 H6 → Pot n p H6 → H6 ls = some (.lst [.int a2, .int b, .int c, .int d]) → 0 ≤ a2 → a2 ≤ room → (a2 + b + c + d) % 2 = 0 →
        tRet (tTup (tCons (tVar 1) (tCons (tCB (rTupS K) (tCons (tVar 2) tNil)) tNil))) { nx := fun x H' => Q V.non H', rt := Q } [some (.ref p), some (.int room), some (.ref ls), x3, x4] H6 := fun a2 H6 go6 P6 e6 z0 z1 ev => by
      refine ⟨_, rfl, _, rfl, ls, _, rfl, .inl ⟨SqL.of e6, fun t ht => ?_⟩⟩
      have go7 := go6.new (o := .tup [.int a2, .int b, .int c, .int d]) ht
      refine ⟨(show (2:Nat) ≤ sizeLine by decide), fun t2 ht2 => ?_⟩
      have go8 := go7.new (o := .tup [.int room, .ref t]) ht2
      have s8 := same_upd (o := .tup [.int room, .ref t]) (go7.gnone ht2)
      exact q room a2 b c d (by omega) (fun e he => by
        simp only [List.mem_cons, List.not_mem_nil, or_false] at he
        rcases he with rfl | rfl | rfl | rfl
        · exact ⟨z0, z1⟩
        · exact bb
        · exact bc
        · exact bd) ev _ _ _ go8 ((P6.up (same_upd ht)).up (same_upd ht2)) ⟨t2, .ref t, rfl, upd_same, Mo.up s8 ⟨t, _, rfl, SqT.of upd_same, iP [a2, b, c, d]⟩⟩
    by_cases c1 : (a + b + c + d) % 2 = 1
    · rw [decide_eq_true (show (fun i j => V.int (i % j)) ([a, b, c, d] : List Int).sum 2 = V.int 1 from by show V.int _ = _; rw [es, c1])]
      refine iteT (B := True) ?_
      have put : ∀ y : Int, 0 ≤ y → y ≤ room → (y + b + c + d) % 2 = 0 → tRet (tTup (tCons (tVar 1) (tCons (tCB (rTupS K) (tCons (tVar 2) tNil)) tNil))) { nx := fun x H' => Q V.non H', rt := Q } [some (.ref p), some (.int room), some (.ref ls), x3, x4] (upd H4 ls (.lst [.int y, .int b, .int c, .int d])) := fun y y0 y1 ev => by
        refine fin y _ (go4.mut g4 (.inl h0s)) ?_ upd_same y0 y1 ev
        obtain ⟨z1, z2, z3, w1, w2⟩ := P4
        exact ⟨z1, z2, z3, (upd_ne (Ne.symm nsp)).trans w1, by omega, by omega, by omega, by omega, by omega⟩
      refine ⟨_, rfl, ls, _, 0, _, rfl, rfl, sD, rfl, _, rfl, _, _, rfl, rfl, ⟨_, rfl, ?_⟩⟩
      by_cases c2 : a < room
      · rw [decide_eq_true c2]
        refine iteT (B := True) ?_
        refine ⟨_, rfl, ls, _, 0, _, rfl, rfl, sD, rfl, _, _, rfl, rfl, ?_⟩
        refine ⟨_, rfl, ls, _, 0, 0, rfl, rfl, e4, rfl, ?_⟩
        exact put (a + 1) (by omega) (by omega) (by omega)
      · rw [decide_eq_false c2]
        refine iteF (A := True) ?_
        refine ⟨_, rfl, ls, _, 0, _, rfl, rfl, sD, rfl, _, _, rfl, rfl, ?_⟩
        refine ⟨_, rfl, ls, _, 0, 0, rfl, rfl, e4, rfl, ?_⟩
        exact put (a - 1) (by omega) (by omega) (by omega)
    · rw [decide_eq_false (show ¬ (fun i j => V.int (i % j)) ([a, b, c, d] : List Int).sum 2 = V.int 1 from fun z => c1 (by have := V.int.inj z; rw [es] at this; exact this))]
      refine iteF (A := True) ?_
      exact fin a H4 go4 (P4.le (by omega)) e4 ba.1 ba.2 (by omega)
end
end Tc
namespace Tc
open PySem PySem.Spec PyProof.Rows L2 Fw Mw TL
local macro_rules | `(tactic| wtm_at "z_ne") => `(tactic| first | assumption | (apply Ne.symm; assumption) | omega)
local macro_rules | `(tactic| wtm_at "z_hp") => `(tactic| first | assumption | exact upd_same | (refine (upd_ne ?_).trans ?_; (focus wtm_at "z_ne"); wtm_at "z_hp"))
local macro_rules | `(tactic| wtm_at "z_sq") => `(tactic| first | assumption | (exact .inl (.inl (by wtm_at "z_hp"))))
local macro_rules | `(tactic| wtm_at "z_side") => `(tactic| first | assumption | omega | (simp only []; omega) | exact ⟨by omega, by omega⟩ | exact ⟨by omega, by omega, by omega⟩ | exact .inl ⟨by omega, by omega⟩ | exact .inr ⟨by omega, by omega⟩ | decide)
local macro_rules | `(tactic| wtm_at "z") => `(tactic| first
  | refine ⟨_, rfl, ?_⟩
  | refine ⟨_, _, rfl, rfl, ?_⟩
  | refine And.intro (by wtm_at "z_side") ?_
  | refine .inl ⟨_, rfl, ?_⟩
  | refine ⟨_, _, _, _, rfl, rfl, (by wtm_at "z_sq"), (by first | rfl | assumption), ?_⟩
  | refine ⟨_, _, _, _, rfl, rfl, (by wtm_at "z_hp"), (by first | rfl | assumption), ?_⟩)
local macro_rules | `(tactic| wtm_at "zb") => `(tactic| dsimp only [L2.tCB, L2.tCons, L2.tNil, L2.tC])
local macro_rules | `(tactic| wtm_at "sl") => `(tactic| dsimp only [start_one, start_two, start_three, start_four, start_five, List.length_cons, List.length_nil, Nat.reduceAdd, Nat.reduceSub, List.reduceReplicate, List.set_cons_succ, List.set_cons_zero])
section
variable {P : Program} {w : World} {K : PySem.W.Frag} {mg : Str → Option Value} {base : Heap} {CW : Addr}
theorem ok_law_span (F : FunAt K mg "_law_span" s_law_span ["room", "one", "other", "third", "last"]) (T : Txt K mg CW)  : Cal P w K mg base CX0 "_law_span" 1 ["room", "one", "other", "third", "last"] [] (sp_law_span K CW) := by
  obtain ⟨f, fd, F, mgf, bf⟩ := F
  refine ⟨f, fd, [], ?_, mgf, F.kp, bf, .nil⟩
  refine F.ok sc_law_span (fun vs H Q E h => by obtain ⟨_, _, _, _, _, rfl, _⟩ := h; rfl) (fun cdv A outer s H vs Q E hr h => ?_)
  refine ⟨_, (pss_cons (ps_set (i := 5) sc_law_span.nd rfl (.inl rfl) (pe_callB (call_max2 rfl) (by rfl) T.z_max (by decide +kernel) (pa_cons (pe_callB call_abs (by rfl) T.z_abs (by decide +kernel) (pa_cons (pe_op op_sub (pv 1) (pv 2)) pa_nil)) (pa_cons (pe_callB call_abs (by rfl) T.z_abs (by decide +kernel) (pa_cons (pe_op op_sub (pv 3) (pv 4)) pa_nil)) pa_nil))))
      (pss_one (ps_ret (pe_tup (pa_cons (pv 5) (pa_cons (pe_callB (call_min4 rfl) (by rfl) T.z_min (by decide +kernel) (pa_cons (pe_op op_add (pv 1) (pv 2)) (pa_cons (pe_op op_add (pv 3) (pv 4)) (pa_cons (pe_op op_sub (pe_op op_sub (pe_op op_mul pe_int (pv 0)) (pv 1)) (pv 2)) (pa_cons (pe_op op_sub (pe_op op_sub (pe_op op_mul pe_int (pv 0)) (pv 3)) (pv 4)) pa_nil))))) pa_nil)))))), ?_⟩
  obtain ⟨x0, x1, x2, x3, x4, rfl, h⟩ := h
  obtain ⟨G, room, a, b, c, d, hG, rfl, rfl, rfl, rfl, rfl, q⟩ := h
  refine ⟨_, rfl, _, rfl, _, _, rfl, rfl, _, rfl, _, rfl, _, rfl, _, _, rfl, rfl, _, rfl, _, _, rfl, ?_⟩
  wtm_at "sl"
  refine ⟨_, rfl, _, rfl, _, rfl, _, _, rfl, rfl, _, rfl, _, rfl, _, _, rfl, rfl, _, rfl, _, _, rfl, rfl, .inl ⟨by decide, by decide⟩, _, rfl, _, _, rfl, rfl, _, rfl, _, _, rfl, rfl, _, rfl, _, _, rfl, rfl, .inl ⟨by decide, by decide⟩, _, rfl, _, _, rfl, rfl, _, rfl, _, _, rfl, rfl, _, _, _, _, rfl, (show (2:Nat) ≤ sizeLine by decide), fun t ht => ?_⟩
  exact q _ _ _ ((Go.ref0 hG).new ht) ⟨t, _, rfl, SqT.of upd_same, .cons rfl (.cons rfl .nil)⟩
end
end Tc
namespace Tc
open PySem PySem.Spec PyProof.Rows L2 Fw Mw TL
local macro_rules | `(tactic| wtm_at "z_ne") => `(tactic| first | assumption | (apply Ne.symm; assumption) | omega)
local macro_rules | `(tactic| wtm_at "z_hp") => `(tactic| first | assumption | exact upd_same | (refine (upd_ne ?_).trans ?_; (focus wtm_at "z_ne"); wtm_at "z_hp"))
local macro_rules | `(tactic| wtm_at "z_sq") => `(tactic| first | assumption | (exact .inl (.inl (by wtm_at "z_hp"))))
local macro_rules | `(tactic| wtm_at "z_side") => `(tactic| first | assumption | omega | (simp only []; omega) | exact ⟨by omega, by omega⟩ | exact ⟨by omega, by omega, by omega⟩ | exact .inl ⟨by omega, by omega⟩ | exact .inr ⟨by omega, by omega⟩ | decide)
local macro_rules | `(tactic| wtm_at "z") => `(tactic| first
  | refine ⟨_, rfl, ?_⟩
  | refine ⟨_, _, rfl, rfl, ?_⟩
  | refine And.intro (by wtm_at "z_side") ?_
  | refine .inl ⟨_, rfl, ?_⟩
  | refine ⟨_, _, _, _, rfl, rfl, (by wtm_at "z_sq"), (by first | rfl | assumption), ?_⟩
  | refine ⟨_, _, _, _, rfl, rfl, (by wtm_at "z_hp"), (by first | rfl | assumption), ?_⟩)
local macro_rules | `(tactic| wtm_at "zb") => `(tactic| dsimp only [L2.tCB, L2.tCons, L2.tNil, L2.tC])
local macro_rules | `(tactic| wtm_at "sl") => `(tactic| dsimp only [start_one, start_two, start_three, start_four, start_five, List.length_cons, List.length_nil, Nat.reduceAdd, Nat.reduceSub, List.reduceReplicate, List.set_cons_succ, List.set_cons_zero])
section
variable {P : Program} {w : World} {K : PySem.W.Frag} {mg : Str → Option Value} {base : Heap} {CW : Addr}
theorem ok_law_is_round_right (F : FunAt K mg "_law_is_round_right" s_law_is_round_right ["web", "room", "load", "way"]) (T : Txt K mg CW) (C_beside : Cal P w K mg base CX0 "beside" 5 ["web", "room", "load", "road"] [] (sp_beside K CW)) (C_carried : Cal P w K mg base CX0 "carried" 5 ["web", "room", "load", "road", "way"] [] (sp_carried K CW)) (C_flipped : Cal P w K mg base CX0 "flipped" 6 ["web", "road", "way"] [] (sp_flipped K CW)) : Gd.CalG P w K mg base "_law_is_round_right" 7 ["web", "room", "load", "way"] [] (sp_law_is_round_right K CW) := by
  obtain ⟨f, fd, F, mgf, bf⟩ := F
  obtain ⟨f_beside, fd_beside, ds_beside, G_beside, m_beside, k_beside, b_beside, d_beside⟩ := C_beside
  obtain ⟨f_carried, fd_carried, ds_carried, G_carried, m_carried, k_carried, b_carried, d_carried⟩ := C_carried
  obtain ⟨f_flipped, fd_flipped, ds_flipped, G_flipped, m_flipped, k_flipped, b_flipped, d_flipped⟩ := C_flipped
  refine ⟨f, fd, [], ?_, mgf, F.kp, bf, .nil⟩
  refine Gd.fnG F sc_law_is_round_right (fun vs H Q E h => by obtain ⟨_, _, _, _, rfl, _⟩ := h; rfl) (fun cdv A outer s H vs Q E hg hr h => ?_)
  refine ⟨_, (pss_cons (ps_asg (pe_tup (pa_cons (pv 0) (pa_cons (pv 2) (pa_cons (pv 3) (pa_cons pe_non pa_nil))))) (pg_tupK (n := 4) K rfl rfl (pgs_cons (pg_name (i := 4) sc_law_is_round_right.nd rfl (.inl rfl)) (pgs_cons (pg_name (i := 5) sc_law_is_round_right.nd rfl (.inl rfl)) (pgs_cons (pg_name (i := 6) sc_law_is_round_right.nd rfl (.inl rfl)) (pgs_cons (pg_name (i := 7) sc_law_is_round_right.nd rfl (.inl rfl)) pgs_nil))))))
      (pss_cons (ps_for PassesOwn.never rfl (pi_range1 (by rfl) T.z_range (pa_cons pe_int pa_nil)) (pg_name (i := 8) sc_law_is_round_right.nd rfl (.inl rfl)) (pss_cons (ps_asg (pe_call G_beside (hr.mono (by decide)) (by rfl) m_beside k_beside b_beside d_beside pass0 (pa_cons (pv 4) (pa_cons (pv 1) (pa_cons (pv 5) (pa_cons pe_str pa_nil))))) (pg_tupK (n := 2) K rfl rfl (pgs_cons (pg_name (i := 9) sc_law_is_round_right.nd rfl (.inl rfl)) (pgs_cons (pg_name (i := 10) sc_law_is_round_right.nd rfl (.inl rfl)) pgs_nil))))
      (pss_cons (ps_if (PW.pt (pw_or (pt_cmpR op_ne (pe_op op_mod (pe_callTy call_int1 (by rfl) T.z_int (by decide +kernel) (pa_cons (pe_op op_sub (pv 10) (pv 9)) pa_nil)) pe_int) pe_int (nomark _)) (pw_or1 (PW.pt (pw_and (pt_cmpR op_notN1 (pv 7) pe_non (nomark _)) (pw_and1 (pt_cmpR op_ne (pe_op op_sub (pv 10) (pv 9)) (pv 7) (nomark _)))))))) (pss_one (ps_ret pe_bl)) pss_nil)
      (pss_cons (ps_set (i := 7) sc_law_is_round_right.nd rfl (.inl rfl) (pe_op op_sub (pv 10) (pv 9)))
      (pss_cons (ps_set (i := 5) sc_law_is_round_right.nd rfl (.inl rfl) (pe_call G_carried (hr.mono (by decide)) (by rfl) m_carried k_carried b_carried d_carried pass0 (pa_cons (pv 4) (pa_cons (pv 1) (pa_cons (pv 5) (pa_cons pe_str (pa_cons (pv 6) pa_nil)))))))
      (pss_one (ps_par (i := 4) (j := 6) rfl sc_law_is_round_right.nd rfl rfl (by decide) rfl rfl (pa_cons (pe_call G_flipped (hr.mono (by decide)) (by rfl) m_flipped k_flipped b_flipped d_flipped pass0 (pa_cons (pv 4) (pa_cons pe_str (pa_cons (pv 6) pa_nil)))) (pa_cons (pe_op op_sub pe_int (pv 6)) pa_nil)) (by rfl))))))))
      (pss_one (ps_ret (pe_cmpR op_eq (pe_callB (Gd.cr_reprK K rfl hg (Gd.un66 hr)) (by rfl) T.z_repr (by decide +kernel) (pa_cons (pv 5) pa_nil)) (pe_callB (Gd.cr_reprK K rfl hg (Gd.un66 hr)) (by rfl) T.z_repr (by decide +kernel) (pa_cons (pv 2) pa_nil)) (nomark _)))))), ?_⟩
  obtain ⟨x0, x1, x2, x3, rfl, h⟩ := h
  obtain ⟨G, own, i, j, a, b, c, d, k, room, ld, hG, hw, rfl, r0, r1, hld, rfl, hk, good, whole, fit, F, q⟩ := h
  have go0 := Go.ref0 hG
  refine ⟨_, rfl, _, rfl, _, rfl, (show (4:Nat) ≤ sizeLine by decide), fun t1 h1 => ?_⟩
  have go1 := go0.tmp (o := .tup [x0, x2, .int k, .non]) h1
  refine ⟨t1, _, rfl, SqT.of upd_same, rfl, _, _, rfl, _, _, rfl, _, _, rfl, _, _, rfl, rfl, ?_⟩
  wtm_at "sl"
  generalize upd H t1 (.tup [x0, x2, .int k, .non]) = H1 at go1 ⊢
  clear h1
  refine ⟨_, rfl, by decide, by decide, ?_⟩
  show ∃ W : Nat → Nat → L2.St → Hp → Prop, _
  refine for_it (walk_range (lo := 0) (n := 6)) (fun m σ H' => ∃ vh vn vm x8 x9 x10, σ = [some x0, some (.int room), some x2, some (.int k), some vh, some vn, some (.int (wayAt k m)), some vm, x8, x9, x10] ∧ ∃ (G' : Hp) (js : Rows) (lds : List Int), Go [] G H G' H' ∧ rWeb K CW G' vh js ∧ rT K rI G' vn lds ∧ Lap own ld room "r" i j (a, b, c, d) (stF k (a, b, c, d) m) js lds ∧ (vm = .non ∨ vm = .int (hiF room (roadsOf own) ld (a, b, c, d) - loF (roadsOf own) ld (a, b, c, d)))) ⟨_, _, _, _, _, _, rfl, G, own, ld, go1, hw, hld, Lap.start good whole F fit, .inl rfl⟩ (fun _ _ _ _ _ => trivial) ?_ ?_
  · rintro m x σ H4 H5 hi ⟨vh, vn, vm, x8, x9, x10, rfl, G4, js, lds, go4, hw4, hn4, L, hvm⟩ ⟨rfl, ex⟩
    have hb := L.los
    have hw4' := hw4
    refine ⟨_, rfl, _, rfl, _, rfl, ?_⟩
    refine ⟨_, _, _, _, rfl, G4, js, "r", i, j, _, _, _, _, room, lds, go4.h, hw4, L.good, rfl, r0, r1, hn4, L.fit, rfl, L.four, fun v6 G6 H6 go6 hb6 => ?_⟩
    have go6' := go4.trans go6
    have hw6 := Mo.up go6.g hw4
    have hn6 := Mo.up go6.g hn4
    rw [hb.1, hb.2] at hb6
    obtain ⟨t7, us7, rfl, hs7, p7⟩ := hb6
    obtain rfl := pI p7
    refine ⟨t7, _, rfl, seqT go6'.h hs7, rfl, _, _, rfl, _, _, rfl, rfl, ?_⟩
    wtm_at "sl"
    have ev := span_even (around L.good L.four L.fit)
    rw [hb.2] at ev
    rw [show lo4 _ _ _ _ = _ from hb.1] at ev
    refine ⟨_, rfl, _, rfl, _, _, rfl, rfl, .inl ⟨_, rfl, ?_⟩⟩
    refine ⟨_, _, rfl, rfl, (show (0 : Int) < 2 by decide), ?_⟩
    dsimp only []
    rw [ev]
    refine ⟨rfl, _, rfl, ?_⟩
    rw [decide_eq_true rfl]
    refine iteF ?_
    refine ⟨_, rfl, ?_⟩
    rcases hvm with rfl | rfl
    all_goals first
      | (refine ⟨rfl, _, rfl, ?_⟩
         rw [decide_eq_true (show V.non = V.non from rfl)]
         refine iteF (iteF ?_))
      | (refine ⟨rfl, _, rfl, ?_⟩
         rw [decide_eq_false (show ¬ V.int _ = V.non by intro e; cases e)]
         refine iteT (B := True) ?_
         refine ⟨_, rfl, _, rfl, _, _, rfl, rfl, _, rfl, rfl, _, rfl, ?_⟩
         rw [decide_eq_true (congrArg V.int L.wide)]
         refine iteF ?_)
    all_goals
      refine ⟨_, rfl, _, rfl, _, _, rfl, rfl, ?_⟩
      wtm_at "sl"
      refine ⟨_, rfl, _, rfl, _, rfl, _, rfl, ?_⟩
      refine ⟨_, _, _, _, _, rfl, G6, js, "r", i, j, _, _, _, _, wayAt k m, room, lds, go6'.h, hw6, L.good, rfl, r0, r1, hn6, L.fit, rfl, rfl, wayAt_or hk m, L.four, fun v8 G8 H8 go8 hv8 => ?_⟩
      have go8' := go6'.trans go8
      wtm_at "sl"
      refine ⟨_, rfl, _, rfl, ?_⟩
      refine ⟨_, _, _, rfl, G8, js, "r", wayAt k m, i, j, _, _, _, _, go8'.h, Mo.up go8.g hw6, rfl, rfl, wayAt_or hk m, L.good, L.whole, L.four, fun v9 G9 H9 go9 hv9 => ?_⟩
      have go9' := go8'.trans go9
      refine ⟨_, rfl, _, _, rfl, rfl, ?_⟩
      exact ⟨_, _, rfl, v9, v8, _, _, _, _, rfl, G9, _, _, go9', hv9, Mo.up go9.g hv8, L.next (wayAt_or hk m), .inr (congrArg V.int L.wide)⟩
  · rintro σ H' ⟨vh, vn, vm, x8, x9, x10, rfl, G4, js, lds, go4, hw4, hn4, L, hvm⟩
    rw [round6 hk] at L
    obtain rfl := L.done fit.1.len
    have sml := (small_fit good fit r1).parts (by decide) (by decide)
    refine ⟨_, rfl, _, _, rfl, dpT dpI _ _ (Mo.up go4.h hn4), sml.1, sml.2.1, sml.2.2, ?_⟩
    refine ⟨_, rfl, _, _, rfl, dpT dpI _ _ (Mo.up go4.h (Mo.up go4.g hld)), sml.1, sml.2.1, sml.2.2, ?_⟩
    refine ⟨rfl, ?_⟩
    rw [decide_eq_true rfl]
    exact q _ _ go4
end
end Tc
namespace Tc
open PySem PySem.Spec PyProof.Rows L2 Fw Mw TL
local macro_rules | `(tactic| wtm_at "z_ne") => `(tactic| first | assumption | (apply Ne.symm; assumption) | omega)
local macro_rules | `(tactic| wtm_at "z_hp") => `(tactic| first | assumption | exact upd_same | (refine (upd_ne ?_).trans ?_; (focus wtm_at "z_ne"); wtm_at "z_hp"))
local macro_rules | `(tactic| wtm_at "z_sq") => `(tactic| first | assumption | (exact .inl (.inl (by wtm_at "z_hp"))))
local macro_rules | `(tactic| wtm_at "z_side") => `(tactic| first | assumption | omega | (simp only []; omega) | exact ⟨by omega, by omega⟩ | exact ⟨by omega, by omega, by omega⟩ | exact .inl ⟨by omega, by omega⟩ | exact .inr ⟨by omega, by omega⟩ | decide)
local macro_rules | `(tactic| wtm_at "z") => `(tactic| first
  | refine ⟨_, rfl, ?_⟩
  | refine ⟨_, _, rfl, rfl, ?_⟩
  | refine And.intro (by wtm_at "z_side") ?_
  | refine .inl ⟨_, rfl, ?_⟩
  | refine ⟨_, _, _, _, rfl, rfl, (by wtm_at "z_sq"), (by first | rfl | assumption), ?_⟩
  | refine ⟨_, _, _, _, rfl, rfl, (by wtm_at "z_hp"), (by first | rfl | assumption), ?_⟩)
local macro_rules | `(tactic| wtm_at "zb") => `(tactic| dsimp only [L2.tCB, L2.tCons, L2.tNil, L2.tC])
local macro_rules | `(tactic| wtm_at "sl") => `(tactic| dsimp only [start_one, start_two, start_three, start_four, start_five, List.length_cons, List.length_nil, Nat.reduceAdd, Nat.reduceSub, List.reduceReplicate, List.set_cons_succ, List.set_cons_zero])
section
variable {P : Program} {w : World} {K : PySem.W.Frag} {mg : Str → Option Value} {base : Heap} {CW : Addr}
theorem ok_law_right (F : FunAt K mg "_law_right" s_law_right ["pot"]) (T : Txt K mg CW) (C_law_numbers : Cal P w K mg base CX0 "_law_numbers" 3 ["pot"] [] (sp_law_numbers K CW)) (C_law_span : Cal P w K mg base CX0 "_law_span" 1 ["room", "one", "other", "third", "last"] [] (sp_law_span K CW)) (C_Web_init__ : InitAt P w K mg base CW 4) (C_law_take : Cal P w K mg base CX0 "_law_take" 1 ["pot", "upto"] [] (sp_law_take K CW)) (C_beside : Cal P w K mg base CX0 "beside" 5 ["web", "room", "load", "road"] [] (sp_beside K CW)) (C_carried : Cal P w K mg base CX0 "carried" 5 ["web", "room", "load", "road", "way"] [] (sp_carried K CW)) (C_law_is_round_right : Gd.CalG P w K mg base "_law_is_round_right" 7 ["web", "room", "load", "way"] [] (sp_law_is_round_right K CW)) : Gd.CalG P w K mg base "_law_right" 8 ["pot"] [] (sp_law_right K CW) := by
  obtain ⟨f, fd, F, mgf, bf⟩ := F
  obtain ⟨f_law_numbers, fd_law_numbers, ds_law_numbers, G_law_numbers, m_law_numbers, k_law_numbers, b_law_numbers, d_law_numbers⟩ := C_law_numbers
  obtain ⟨f_law_span, fd_law_span, ds_law_span, G_law_span, m_law_span, k_law_span, b_law_span, d_law_span⟩ := C_law_span
  obtain ⟨f_Web_init__, fd_Web_init__, ds_Web_init__, G_Web_init__, M_Web, b_Web_init__, d_Web_init__⟩ := C_Web_init__
  obtain ⟨f_law_take, fd_law_take, ds_law_take, G_law_take, m_law_take, k_law_take, b_law_take, d_law_take⟩ := C_law_take
  obtain ⟨f_beside, fd_beside, ds_beside, G_beside, m_beside, k_beside, b_beside, d_beside⟩ := C_beside
  obtain ⟨f_carried, fd_carried, ds_carried, G_carried, m_carried, k_carried, b_carried, d_carried⟩ := C_carried
  obtain ⟨f_law_is_round_right, fd_law_is_round_right, ds_law_is_round_right, G_law_is_round_right, m_law_is_round_right, k_law_is_round_right, b_law_is_round_right, d_law_is_round_right⟩ := C_law_is_round_right
  refine ⟨f, fd, [], ?_, mgf, F.kp, bf, .nil⟩
  refine Gd.fnG F sc_law_right (fun vs H Q E h => by obtain ⟨_, rfl, _⟩ := h; rfl) (fun cdv A outer s H vs Q E hg hr h => ?_)
  refine ⟨_, (pss_cons (ps_asg (pe_call G_law_numbers (hr.mono (by decide)) (by rfl) m_law_numbers k_law_numbers b_law_numbers d_law_numbers pass0 (pa_cons (pv 0) pa_nil)) (pg_tupK (n := 2) K rfl rfl (pgs_cons (pg_name (i := 1) sc_law_right.nd rfl (.inl rfl)) (pgs_cons (pg_tupK (n := 4) K rfl rfl (pgs_cons (pg_name (i := 2) sc_law_right.nd rfl (.inl rfl)) (pgs_cons (pg_name (i := 3) sc_law_right.nd rfl (.inl rfl)) (pgs_cons (pg_name (i := 4) sc_law_right.nd rfl (.inl rfl)) (pgs_cons (pg_name (i := 5) sc_law_right.nd rfl (.inl rfl)) pgs_nil))))) pgs_nil))))
      (pss_cons (ps_set (i := 6) sc_law_right.nd rfl (.inl rfl) (pe_lst (pa_cons (pe_call G_law_span (hr.mono (by decide)) (by rfl) m_law_span k_law_span b_law_span d_law_span pass0 (pa_cons (pv 1) (pa_cons (pv 2) (pa_cons (pv 3) (pa_cons (pv 4) (pa_cons (pv 5) pa_nil)))))) (pa_cons (pe_call G_law_span (hr.mono (by decide)) (by rfl) m_law_span k_law_span b_law_span d_law_span pass0 (pa_cons (pv 1) (pa_cons (pv 2) (pa_cons (pv 4) (pa_cons (pv 3) (pa_cons (pv 5) pa_nil)))))) (pa_cons (pe_call G_law_span (hr.mono (by decide)) (by rfl) m_law_span k_law_span b_law_span d_law_span pass0 (pa_cons (pv 1) (pa_cons (pv 2) (pa_cons (pv 5) (pa_cons (pv 4) (pa_cons (pv 3) pa_nil)))))) pa_nil)))))
      (pss_cons (ps_set (i := 7) sc_law_right.nd rfl (.inl rfl) (pe_make M_Web G_Web_init__ (hr.mono (by decide)) (by rfl) T.m_Web b_Web_init__ d_Web_init__ pass0 (pa_cons pe_str pa_nil)))
      (pss_cons (ps_if (pt_cmpR op_lt (pe_callB (cr_maxK K rfl rfl) (by rfl) T.z_max (by decide +kernel) (pa_cons (pe_lc (own := [("low", 8), ("high", 9)]) rfl sc_law_right.nd (pi_listK K rfl (pv 6)) (blkOk_by (own := [("low", 8), ("high", 9)]) (N := N_law_right) (sc := defScope s_law_right) (by decide +kernel)) (fun _ _ _ _ _ => (pg_tupK (n := 2) K rfl rfl (pgs_cons (pg_name (i := 8) sc_law_right.nd rfl (.inl rfl)) (pgs_cons (pg_name (i := 9) sc_law_right.nd rfl (.inl rfl)) pgs_nil)))) (fun _ _ _ _ _ => pts_nil) (fun _ _ _ _ _ => (pe_op op_sub (pv 9) (pv 8)))) pa_nil)) pe_int (nomark _)) (pss_one (ps_ret pe_bl)) pss_nil)
      (pss_cons (ps_if (pt_cmpR op_gt (Yo.pe_lenSetA K rfl rfl (by rfl) T.z_len (by rfl) T.z_set (pe_lc (own := [("low", 8), ("high", 9)]) rfl sc_law_right.nd (pi_listK K rfl (pv 6)) (blkOk_by (own := [("low", 8), ("high", 9)]) (N := N_law_right) (sc := defScope s_law_right) (by decide +kernel)) (fun _ _ _ _ _ => (pg_tupK (n := 2) K rfl rfl (pgs_cons (pg_name (i := 8) sc_law_right.nd rfl (.inl rfl)) (pgs_cons (pg_name (i := 9) sc_law_right.nd rfl (.inl rfl)) pgs_nil)))) (fun _ _ _ _ _ => pts_nil) (fun _ _ _ _ _ => (pe_op op_sub (pv 9) (pv 8))))) pe_int (nomark _)) (pss_one (ps_ret pe_bl)) pss_nil)
      (pss_cons (ps_asg (pe_ix (ix_listK K rfl) (pv 6) pe_int (fun _ _ => rfl)) (pg_tupK (n := 2) K rfl rfl (pgs_cons (pg_name (i := 8) sc_law_right.nd rfl (.inl rfl)) (pgs_cons (pg_name (i := 9) sc_law_right.nd rfl (.inl rfl)) pgs_nil))))
      (pss_cons (ps_for PassesOwn.never rfl (pi_tupK K rfl (pe_tup (pa_cons (pv 8) (pa_cons (pv 9) (pa_cons (pe_op op_add (pv 8) (pe_op op_mul pe_int (pe_call G_law_take (hr.mono (by decide)) (by rfl) m_law_take k_law_take b_law_take d_law_take pass0 (pa_cons (pv 0) (pa_cons (pe_op op_add (pe_op op_fdiv (pe_op op_sub (pv 9) (pv 8)) pe_int) pe_int) pa_nil))))) pa_nil))))) (pg_name (i := 10) sc_law_right.nd rfl (.inl rfl)) (pss_cons (ps_set (i := 11) sc_law_right.nd rfl (.inl rfl) (pe_tup (pa_cons (pv 2) (pa_cons (pv 3) (pa_cons (pv 4) (pa_cons (pv 5) (pa_cons (pv 10) pa_nil)))))))
      (pss_cons (ps_if (pt_cmpR op_ne (pe_callB (Gd.cr_reprK K rfl hg (Gd.un66 hr)) (by rfl) T.z_repr (by decide +kernel) (pa_cons (pe_call G_beside (hr.mono (by decide)) (by rfl) m_beside k_beside b_beside d_beside pass0 (pa_cons (pv 7) (pa_cons (pv 1) (pa_cons (pv 11) (pa_cons pe_str pa_nil))))) pa_nil)) (pe_callB (Gd.cr_reprK K rfl hg (Gd.un66 hr)) (by rfl) T.z_repr (by decide +kernel) (pa_cons (pe_tup (pa_cons (pv 8) (pa_cons (pv 9) pa_nil))) pa_nil)) (nomark _)) (pss_one (ps_ret pe_bl)) pss_nil)
      (pss_one (ps_for PassesOwn.never rfl (pi_tupK K rfl (pe_tup (pa_cons pe_int (pa_cons pe_int pa_nil)))) (pg_name (i := 12) sc_law_right.nd rfl (.inl rfl)) (pss_cons (ps_set (i := 13) sc_law_right.nd rfl (.inl rfl) (pe_op op_sub (pe_op op_add (pe_ix (ix_tupK K rfl) (pe_ix (ix_listK K rfl) (pv 6) (pv 12) (fun _ _ => rfl)) pe_int (fun _ _ => rfl)) (pv 10)) (pv 8)))
      (pss_cons (ps_if (pt_cmpR op_ne (pe_callB (Gd.cr_reprK K rfl hg (Gd.un66 hr)) (by rfl) T.z_repr (by decide +kernel) (pa_cons (pe_call G_carried (hr.mono (by decide)) (by rfl) m_carried k_carried b_carried d_carried pass0 (pa_cons (pv 7) (pa_cons (pv 1) (pa_cons (pv 11) (pa_cons pe_str (pa_cons (pv 12) pa_nil)))))) pa_nil)) (pe_callB (Gd.cr_reprK K rfl hg (Gd.un66 hr)) (by rfl) T.z_repr (by decide +kernel) (pa_cons (pe_tup (pa_cons (pv 2) (pa_cons (pv 3) (pa_cons (pv 4) (pa_cons (pv 5) (pa_cons (pv 13) pa_nil)))))) pa_nil)) (nomark _)) (pss_one (ps_ret pe_bl)) pss_nil)
      (pss_one (ps_if (pt_not (pt_val (Gd.pe_callG hg G_law_is_round_right (hr.mono (by decide)) (by rfl) m_law_is_round_right k_law_is_round_right b_law_is_round_right d_law_is_round_right pass0 (pa_cons (pv 7) (pa_cons (pv 1) (pa_cons (pv 11) (pa_cons (pv 12) pa_nil))))))) (pss_one (ps_ret pe_bl)) pss_nil)))))))))
      (pss_one (ps_ret pe_bl))))))))), ?_⟩
  obtain ⟨x0, rfl, h⟩ := h
  obtain ⟨p, rfl, hP, q⟩ := h
  obtain ⟨G0, hG0⟩ : ∃ G0 : Hp, G0 = fun _ => none := ⟨_, rfl⟩
  have g0 : ∀ c, G0 c = none := fun c => by rw [hG0]
  have s0 : Same G0 H := fun c o e => by rw [g0 c] at e; cases e
  have hpn := hP.some
  refine ⟨_, rfl, ?_⟩
  refine ⟨_, rfl, p, 9900, G0, s0, g0 p, rfl, hP.le (by decide), fun room a b c d r1 hr ev v G1 H1 go1 P1 hv => ?_⟩
  obtain ⟨t, va, rfl, ht, hva⟩ := hv
  have ht : G1 t = some (.tup [.int room, va]) := ht
  obtain ⟨t1, us1, rfl, hs1, p1⟩ := hva
  obtain rfl := pI p1
  refine ⟨t, _, rfl, SqT.of (go1.h _ _ ht), rfl, _, _, rfl, _, _, rfl, t1, _, rfl, seqT go1.h hs1, rfl, _, _, rfl, _, _, rfl, _, _, rfl, _, _, rfl, rfl, rfl, ?_⟩
  wtm_at "sl"
  clear ht hs1 p1
  refine ⟨_, rfl, _, rfl, _, rfl, _, rfl, _, rfl, ?_⟩
  refine ⟨_, _, _, _, _, rfl, G1, room, a, b, c, d, go1.h, rfl, rfl, rfl, rfl, rfl, fun v2 G2 H2 go2 h2 => ?_⟩
  have go2' := go1.call go2
  refine ⟨_, rfl, _, rfl, _, rfl, _, rfl, _, rfl, ?_⟩
  refine ⟨_, _, _, _, _, rfl, G2, room, a, c, b, d, go2'.h, rfl, rfl, rfl, rfl, rfl, fun v3 G3 H3 go3 h3 => ?_⟩
  have go3' := go2'.call go3
  refine ⟨_, rfl, _, rfl, _, rfl, _, rfl, _, rfl, ?_⟩
  refine ⟨_, _, _, _, _, rfl, G3, room, a, d, c, b, go3'.h, rfl, rfl, rfl, rfl, rfl, fun v4 G4 H4 go4 h4 => ?_⟩
  have go4' := go3'.call go4
  refine ⟨(show (3:Nat) ≤ sizeLine by decide), fun l5 e5 => ?_⟩
  have go5 := go4'.new (o := .lst [v2, v3, v4]) e5
  have s5 := same_upd (o := .lst [v2, v3, v4]) (go4'.gnone e5)
  have h25 := Mo.up s5 (Mo.up go4.g (Mo.up go3.g h2))
  have h35 := Mo.up s5 (Mo.up go4.g h3)
  have h45 := Mo.up s5 h4
  have hl5 : (upd G4 l5 (.lst [v2, v3, v4])) l5 = some (.lst [v2, v3, v4]) := upd_same
  wtm_at "sl"
  have P5 := (((P1.go go2 (by simp)).go go3 (by simp)).go go4 (by simp)).up (same_upd (o := .lst [v2, v3, v4]) e5)
  generalize upd H4 l5 _ = H5 at go5 P5 ⊢
  generalize upd G4 l5 _ = G5 at go5 h25 h35 h45 hl5
  clear e5 s5 go4' go3' go2' go4 go3 go2 h4 h3 h2 P1 go1
  intro xw dx hx hdx ndx
  rw [← text4]
  refine web_made go5 P5 hpn good4.1 good4.2 hx hdx ndx fun G6 H6 go6 s6 P6 hweb => ?_
  dsimp only [L2.gName]
  wtm_at "sl"
  have h26 := Mo.up s6 h25
  have h36 := Mo.up s6 h35
  have h46 := Mo.up s6 h45
  have hl6 := s6 _ _ hl5
  clear go5 P5 h25 h35 h45 hl5 s6 hx hdx ndx dx
  obtain ⟨W, hW⟩ : ∃ W, hi4 room a b c d - lo4 a b c d = W := ⟨_, rfl⟩
  obtain ⟨w3, w4⟩ := wide4 room a b c d
  rw [hW] at w3 w4
  have lap : ∀ (i : Nat) (x : V) (G7 : Hp), [v2, v3, v4][i]? = some x → Same G6 G7 → i < 3 ∧ ∃ lo hi : Int, hi - lo = W ∧ rT K rI G7 x [lo, hi] := fun i x G7 e s => by
    match i, e with
    | 0, e => cases e; exact ⟨by omega, _, _, hW, Mo.up s h26⟩
    | 1, e => cases e; exact ⟨by omega, _, _, w3, Mo.up s h36⟩
    | 2, e => cases e; exact ⟨by omega, _, _, w4, Mo.up s h46⟩
  have y3 : ∀ i y, i < 3 → [W, W, W][i]? = some y → y = W := fun i y h e => by
    match i, h, e with
    | 0, _, e => cases e; rfl
    | 1, _, e => cases e; rfl
    | 2, _, e => cases e; rfl
  refine ⟨_, rfl, l5, rfl, ⟨_, SqL.of (go6.h _ _ hl6)⟩, fun D hD => ?_⟩
  refine lc_dataG (r := rI) (item := fun i x => [v2, v3, v4][i]? = some x) (ys := [W, W, W]) (L := []) (G := G6) (Inv := fun _ _ => True) (Gd := fun H' => Same G6 H') (show Walk (Itl K l5) ([v2, v3, v4] : List V).length (fun H' => Same G6 H') (YAt [v2, v3, v4]) from walk_list.mono (fun H' (e : Same G6 H') => SqL.of (K := K) (e _ _ hl6)) fun _ _ _ _ _ _ y => y) go6.h (fun _ e => e) hD (by simp) (show (3 : Nat) ≤ 40000 by decide) trivial (fun _ _ _ _ => trivial) (fun i x y G' H' hy hx go _ Q q => ?_) (fun us7 G7 H7 go7 _ hD7 gD7 pr7 => ?_)
  · obtain ⟨i3, lo, hi, e, tt, us, rfl, hs, pp⟩ := lap i x H' hx (go.g.trans go.h)
    obtain rfl := pI pp
    refine ⟨tt, _, rfl, hs, rfl, _, _, rfl, _, _, rfl, rfl, wipe2 (by decide) (by decide), ?_⟩
    refine ⟨_, rfl, _, rfl, _, _, rfl, rfl, ?_⟩
    exact q _ _ _ (Go.refl go.h) trivial (by rw [y3 i y i3 hy, ← e]; rfl)
  obtain rfl := pI pr7
  have go7' := go6.call go7
  have P7 := P6.go go7 (by simp)
  refine ⟨D, _, rfl, SqL.of hD7, (show 0 < 3 by decide), fun mx hmx _ => ?_⟩
  obtain rfl : W = mx := (by simpa using hmx : mx = W).symm
  refine ⟨_, _, rfl, rfl, _, rfl, ?_⟩
  by_cases w0 : W < 0
  · rw [decide_eq_true w0]
    refine iteT (B := True) ?_
    exact q _ fun c o hc e => go7'.k c o (by simpa using hc) e
  rw [decide_eq_false w0]
  refine iteF ?_
  clear go6 P6 pr7 hD7 gD7 hD
  have lap7 : ∀ (i : Nat) (x : V) (G8 : Hp), [v2, v3, v4][i]? = some x → Same G7 G8 → i < 3 ∧ ∃ lo hi : Int, hi - lo = W ∧ rT K rI G8 x [lo, hi] := fun i x G8 e s => lap i x G8 e (go7.g.trans s)
  have hl7 := go7.g _ _ hl6
  have h27 := Mo.up go7.g h26
  have h37 := Mo.up go7.g h36
  have h47 := Mo.up go7.g h46
  have hweb7 := Mo.up go7.g hweb
  clear lap hl6 h26 h36 h46 hweb go7
  refine ⟨_, rfl, l5, rfl, ⟨_, SqL.of (go7'.h _ _ hl7)⟩, fun D2 hD2 => ?_⟩
  refine lc_dataG (r := rI) (item := fun i x => [v2, v3, v4][i]? = some x) (ys := [W, W, W]) (L := []) (G := G7) (Inv := fun _ _ => True) (Gd := fun H' => Same G7 H') (show Walk (Itl K l5) ([v2, v3, v4] : List V).length (fun H' => Same G7 H') (YAt [v2, v3, v4]) from walk_list.mono (fun H' (e : Same G7 H') => SqL.of (K := K) (e _ _ hl7)) fun _ _ _ _ _ _ y => y) go7'.h (fun _ e => e) hD2 (by simp) (show (3 : Nat) ≤ 40000 by decide) trivial (fun _ _ _ _ => trivial) (fun i x y G' H' hy hx go _ Q q => ?_) (fun us8 G8 H8 go8 _ hD8 gD8 pr8 => ?_)
  · obtain ⟨i3, lo, hi, e, tt, us, rfl, hs, pp⟩ := lap7 i x H' hx (go.g.trans go.h)
    obtain rfl := pI pp
    refine ⟨tt, _, rfl, hs, rfl, _, _, rfl, _, _, rfl, rfl, wipe2 (by decide) (by decide), ?_⟩
    refine ⟨_, rfl, _, rfl, _, _, rfl, rfl, ?_⟩
    exact q _ _ _ (Go.refl go.h) trivial (by rw [y3 i y i3 hy, ← e]; rfl)
  obtain rfl := pI pr8
  have go8' := go7'.call go8
  have P8 := P7.go go8 (by simp)
  refine ⟨D2, [W, W, W], rfl, SqL.of hD8, (show 3 < 64 by decide), ?_⟩
  refine ⟨_, _, rfl, rfl, _, rfl, ?_⟩
  rw [show decide ((1 : Int) < ((firstMet (fun i => [W, W, W].getD i 0) [W, W, W].length).length : Nat)) = false from by rw [show [W, W, W].length = 3 from rfl, met3 W]; rfl]
  refine iteF ?_
  have hl8 := go8.g _ _ hl7
  have h28 := Mo.up go8.g h27
  have h38 := Mo.up go8.g h37
  have h48 := Mo.up go8.g h47
  have hweb8 := Mo.up go8.g hweb7
  clear lap7 hl7 h27 h37 h47 hweb7 go8 go7' P7 pr8 hD8 gD8 hD2 y3
  obtain ⟨t2, us2, rfl, hs2, pp2⟩ := h28
  obtain rfl := pI pp2
  refine ⟨_, rfl, l5, _, _, _, rfl, rfl, SqL.of (go8'.h _ _ hl8), rfl, ?_⟩
  refine ⟨t2, _, rfl, seqT go8'.h hs2, rfl, _, _, rfl, _, _, rfl, rfl, ?_⟩
  wtm_at "sl"
  refine ⟨_, rfl, _, rfl, _, rfl, _, rfl, _, rfl, _, rfl, _, _, rfl, rfl, _, _, rfl, rfl, ⟨by decide, by decide⟩, _, _, rfl, rfl, ?_⟩
  have hlo := lo4_ge a b c d
  have hhi := hi4_le room a b c d
  have ha := hr a (by simp)
  have hb := hr b (by simp)
  have gp8 := go8'.n p hpn (g0 p)
  have r0 : 0 ≤ room := by omega
  refine ⟨_, _, rfl, p, 9000, (hi4 room a b c d - lo4 a b c d) / 2 + 1, rfl, rfl, by omega, by omega, P8.le (by decide), fun dd H9 d0 d1 P9 b9 => ?_⟩
  have go9 := go8'.trans (b9.go go8'.h gp8 P9)
  refine ⟨_, _, rfl, rfl, .inl ⟨by decide, by decide⟩, _, _, rfl, rfl, ?_⟩
  refine ⟨(show (3:Nat) ≤ sizeLine by decide), fun t10 h10 => ?_⟩
  have go10 := go9.new (o := .tup [.int (lo4 a b c d), .int (hi4 room a b c d), .int (lo4 a b c d + 2 * dd)]) h10
  have s10 := same_upd (o := .tup [.int (lo4 a b c d), .int (hi4 room a b c d), .int (lo4 a b c d + 2 * dd)]) (go9.gnone h10)
  have ht10 : (upd G8 t10 (.tup [.int (lo4 a b c d), .int (hi4 room a b c d), .int (lo4 a b c d + 2 * dd)])) t10 = some (.tup [.int (lo4 a b c d), .int (hi4 room a b c d), .int (lo4 a b c d + 2 * dd)]) := upd_same
  have hl10 := s10 _ _ hl8
  have h310 := Mo.up s10 h38
  have h410 := Mo.up s10 h48
  have hweb10 := Mo.up s10 hweb8
  refine ⟨t10, rfl, ⟨_, SqT.of upd_same⟩, ?_⟩
  generalize upd H9 t10 _ = H10 at go10 ⊢
  generalize upd G8 t10 _ = G10 at go10 ht10 hl10 h310 h410 hweb10
  clear go9 h10 s10 hl8 h38 h48 hweb8 go8' P8 P9 b9 hs2 pp2 gp8
  have par := span_par r1 hr ev
  have nums3 : ∀ (i : Nat) (x : V), [V.int (lo4 a b c d), V.int (hi4 room a b c d), V.int (lo4 a b c d + 2 * dd)][i]? = some x → ∃ n, x = .int n ∧ lo4 a b c d ≤ n ∧ n ≤ hi4 room a b c d ∧ (n - lo4 a b c d) % 2 = 0 := fun i x e => by
    match i, e with
    | 0, e => cases e; exact ⟨_, rfl, by omega, by omega, by omega⟩
    | 1, e => cases e; exact ⟨_, rfl, by omega, by omega, by omega⟩
    | 2, e => cases e; exact ⟨_, rfl, by omega, by omega, by omega⟩
  show ∃ W : Nat → Nat → L2.St → Hp → Prop, _
  refine for_it (walk_tup (K := K) (a := t10) (xs := [.int (lo4 a b c d), .int (hi4 room a b c d), .int (lo4 a b c d + 2 * dd)])) (fun i σ H' => ∃ x10 x11 x12 x13, σ = [some (.ref p), some (.int room), some (.int a), some (.int b), some (.int c), some (.int d), some (.ref l5), some (.ref xw), some (.int (lo4 a b c d)), some (.int (hi4 room a b c d)), x10, x11, x12, x13] ∧ ∃ G' : Hp, Go [p] G0 H G' H' ∧ Same G10 G') ⟨_, _, _, _, rfl, G10, go10, Same.refl _⟩ ?_ ?_ ?_
  · rintro i σ H' hi ⟨x10, x11, x12, x13, rfl, G', go, s⟩
    exact SqT.of (go.h _ _ (s _ _ ht10))
  · rintro i x σ H1 H2 hi ⟨x10, x11, x12, x13, rfl, G11, go11, s11⟩ ⟨rfl, hx⟩
    obtain ⟨n, rfl, n1, n2, n3⟩ := nums3 i x hx
    have fit := fit4 hr ev n1 n2 n3
    obtain ⟨ea, eb, ec, ed, er⟩ := vals4 a b c d n
    have A := around good4.1 four4 fit
    rw [ea, eb, ec, ed, er] at A
    have sp1 := (small_span A (by omega)).parts (by decide) (by decide)
    refine ⟨_, rfl, _, rfl, _, rfl, _, rfl, _, rfl, (show (5:Nat) ≤ sizeLine by decide), fun t12 h12 => ?_⟩
    have go12 := go11.new (o := .tup [.int a, .int b, .int c, .int d, .int n]) h12
    have s12 := s11.trans (same_upd (o := .tup [.int a, .int b, .int c, .int d, .int n]) (go11.gnone h12))
    have hld : rT K rI (upd G11 t12 (.tup [.int a, .int b, .int c, .int d, .int n])) (.ref t12) [a, b, c, d, n] := ⟨t12, _, rfl, SqT.of upd_same, .cons rfl (.cons rfl (.cons rfl (.cons rfl (.cons rfl .nil))))⟩
    generalize upd H2 t12 _ = H12 at go12 ⊢
    generalize upd G11 t12 _ = G12 at go12 s12 hld
    clear go11 s11 h12 hx
    dsimp only [L2.gName]
    wtm_at "sl"
    refine ⟨_, rfl, _, rfl, _, rfl, ?_⟩
    refine ⟨_, _, _, _, rfl, G12, web4, "r", 0, 1, "a", "b", "c", "d", room, [a, b, c, d, n], go12.h, Mo.up s12 hweb10, good4.1, rfl, r0, by omega, hld, fit, rfl, four4, fun v13 G13 H13 go13 hb13 => ?_⟩
    unfold loA at hb13
    rw [ea, eb, ec, ed] at hb13
    have go13' := go12.call go13
    refine ⟨_, _, rfl, dpT dpI _ _ (Mo.up go13'.h hb13), sp1.1, sp1.2.1, sp1.2.2, ?_⟩
    refine ⟨_, rfl, _, rfl, (show (2:Nat) ≤ sizeLine by decide), fun t14 h14 => ?_⟩
    refine ⟨_, _, rfl, dpT dpI (.ref t14) [lo4 a b c d, hi4 room a b c d] ⟨t14, _, rfl, SqT.of upd_same, .cons rfl (.cons rfl .nil)⟩, sp1.1, sp1.2.1, sp1.2.2, ?_⟩
    refine ⟨rfl, _, rfl, ?_⟩
    rw [decide_eq_true rfl]
    refine iteF ?_
    have go14 := go13'.tmp (o := .tup [.int (lo4 a b c d), .int (hi4 room a b c d)]) h14
    have s14 := s12.trans go13.g
    have hld14 := Mo.up go13.g hld
    generalize upd H13 t14 _ = H14 at go14 ⊢
    clear go13' go13 h14 hb13 hld s12 go12
    refine ⟨(show (2:Nat) ≤ sizeLine by decide), fun t15 h15 => ?_⟩
    have go15 := go14.new (o := .tup [.int 1, .int 2]) h15
    have sm := same_upd (o := .tup [.int 1, .int 2]) (go14.gnone h15)
    have s15 := s14.trans sm
    have hld15 := Mo.up sm hld14
    have ht15 : (upd G13 t15 (.tup [.int 1, .int 2])) t15 = some (.tup [.int 1, .int 2]) := upd_same
    refine ⟨t15, rfl, ⟨_, SqT.of upd_same⟩, ?_⟩
    generalize upd H14 t15 _ = H15 at go15 ⊢
    generalize upd G13 t15 _ = G15 at go15 s15 hld15 ht15
    clear go14 s14 hld14 h15 sm
    show ∃ W : Nat → Nat → L2.St → Hp → Prop, _
    refine for_it (walk_tup (K := K) (a := t15) (xs := [.int 1, .int 2])) (fun i σ H' => ∃ x12 x13, σ = [some (.ref p), some (.int room), some (.int a), some (.int b), some (.int c), some (.int d), some (.ref l5), some (.ref xw), some (.int (lo4 a b c d)), some (.int (hi4 room a b c d)), some (.int n), some (.ref t12), x12, x13] ∧ ∃ G' : Hp, Go [p] G0 H G' H' ∧ Same G15 G') ⟨_, _, rfl, G15, go15, Same.refl _⟩ ?_ ?_ ?_
    · rintro i σ H' hi ⟨x12, x13, rfl, G', go, s⟩
      exact SqT.of (go.h _ _ (s _ _ ht15))
    · rintro i x σ H1 H2 hi ⟨x12, x13, rfl, G16, go16, s16⟩ ⟨rfl, hx⟩
      obtain ⟨k, vw, lw, hw, rfl, hk, hat, hvw, elw⟩ : ∃ (k : Int) (vw : V) (lw hw : Int), x = .int k ∧ (k = 1 ∨ k = 2) ∧ atI [V.ref t2, v3, v4] k = some vw ∧ rT K rI G10 vw [lw, hw] ∧ lw = (if k = 1 then lo4 a c b d else lo4 a d c b) := by
        match i, hx with
        | 0, e => cases e; exact ⟨1, v3, _, _, rfl, .inl rfl, rfl, h310, rfl⟩
        | 1, e => cases e; exact ⟨2, v4, _, _, rfl, .inr rfl, rfl, h410, rfl⟩
      have s10 := s15.trans s16
      obtain ⟨tw, usw, rfl, hsw, ppw⟩ := Mo.up s10 hvw
      obtain rfl := pI ppw
      refine ⟨_, rfl, _, rfl, l5, _, _, _, rfl, rfl, SqL.of (go16.h _ _ (s10 _ _ hl10)), hat, tw, _, _, _, rfl, rfl, seqT go16.h hsw, rfl, _, rfl, _, _, rfl, rfl, _, rfl, _, _, rfl, rfl, ?_⟩
      wtm_at "sl"
      have hldw := Mo.up s16 hld15
      have hwebw := Mo.up s10 hweb10
      dsimp only [L2.gName]
      wtm_at "sl"
      refine ⟨_, rfl, _, rfl, _, rfl, _, rfl, ?_⟩
      refine ⟨_, _, _, _, _, rfl, G16, web4, "r", 0, 1, "a", "b", "c", "d", k, room, [a, b, c, d, n], go16.h, hwebw, good4.1, rfl, r0, by omega, hldw, fit, rfl, rfl, hk, four4, fun v17 G17 H17 go17 hv17 => ?_⟩
      have smc := (small_fit (flip_good good4.1 four4) (fit_flip good4.1 four4 hk fit) (by omega)).parts (by decide) (by decide)
      rw [carry4 hk] at smc hv17
      rw [← elw] at smc hv17
      have go17' := go16.call go17
      refine ⟨_, _, rfl, dpT dpI _ _ (Mo.up go17'.h hv17), smc.1, smc.2.1, smc.2.2, ?_⟩
      refine ⟨_, rfl, _, rfl, _, rfl, _, rfl, _, rfl, (show (5:Nat) ≤ sizeLine by decide), fun t18 h18 => ?_⟩
      refine ⟨_, _, rfl, dpT dpI (.ref t18) [a, b, c, d, lw + n - lo4 a b c d] ⟨t18, _, rfl, SqT.of upd_same, .cons rfl (.cons rfl (.cons rfl (.cons rfl (.cons rfl .nil))))⟩, smc.1, smc.2.1, smc.2.2, ?_⟩
      refine ⟨rfl, _, rfl, ?_⟩
      rw [decide_eq_true rfl]
      refine iteF ?_
      have go18 := go17'.tmp (o := .tup [.int a, .int b, .int c, .int d, .int (lw + n - lo4 a b c d)]) h18
      have hld18 := Mo.up go17.g hldw
      have hweb18 := Mo.up go17.g hwebw
      have s18 := s16.trans go17.g
      generalize upd H17 t18 _ = H18 at go18 ⊢
      clear h18 go17' go17 go16 hv17 smc hldw hwebw s16
      refine ⟨_, rfl, _, rfl, _, rfl, _, rfl, ?_⟩
      refine ⟨_, _, _, _, rfl, G17, web4, 0, 1, "a", "b", "c", "d", k, room, [a, b, c, d, n], go18.h, hweb18, rfl, r0, by omega, hld18, rfl, hk, good4.1, good4.2, fit, four4, fun G19 H19 go19 => ?_⟩
      refine ⟨true, rfl, iteF ?_⟩
      exact ⟨_, _, rfl, G19, go18.call go19, s18.trans go19.g⟩
    · rintro σ H' ⟨x12, x13, rfl, G', go, s⟩
      exact ⟨_, _, _, _, rfl, G', go, s15.trans s⟩
  · rintro σ H' ⟨x10, x11, x12, x13, rfl, G', go, s⟩
    exact q _ fun c o hc e => go.k c o (by simpa using hc) e
end
end Tc
namespace Tc
open PySem PySem.Spec PyProof.Rows L2 Fw Mw TL
local macro_rules | `(tactic| wtm_at "z_ne") => `(tactic| first | assumption | (apply Ne.symm; assumption) | omega)
local macro_rules | `(tactic| wtm_at "z_hp") => `(tactic| first | assumption | exact upd_same | (refine (upd_ne ?_).trans ?_; (focus wtm_at "z_ne"); wtm_at "z_hp"))
local macro_rules | `(tactic| wtm_at "z_sq") => `(tactic| first | assumption | (exact .inl (.inl (by wtm_at "z_hp"))))
local macro_rules | `(tactic| wtm_at "z_side") => `(tactic| first | assumption | omega | (simp only []; omega) | exact ⟨by omega, by omega⟩ | exact ⟨by omega, by omega, by omega⟩ | exact .inl ⟨by omega, by omega⟩ | exact .inr ⟨by omega, by omega⟩ | decide)
local macro_rules | `(tactic| wtm_at "z") => `(tactic| first
  | refine ⟨_, rfl, ?_⟩
  | refine ⟨_, _, rfl, rfl, ?_⟩
  | refine And.intro (by wtm_at "z_side") ?_
  | refine .inl ⟨_, rfl, ?_⟩
  | refine ⟨_, _, _, _, rfl, rfl, (by wtm_at "z_sq"), (by first | rfl | assumption), ?_⟩
  | refine ⟨_, _, _, _, rfl, rfl, (by wtm_at "z_hp"), (by first | rfl | assumption), ?_⟩)
local macro_rules | `(tactic| wtm_at "zb") => `(tactic| dsimp only [L2.tCB, L2.tCons, L2.tNil, L2.tC])
local macro_rules | `(tactic| wtm_at "sl") => `(tactic| dsimp only [start_one, start_two, start_three, start_four, start_five, List.length_cons, List.length_nil, Nat.reduceAdd, Nat.reduceSub, List.reduceReplicate, List.set_cons_succ, List.set_cons_zero])
section
variable {P : Program} {w : World} {K : PySem.W.Frag} {mg : Str → Option Value} {base : Heap} {CW : Addr}
theorem ok_law {f : Addr} {fd : FuncData} (F : Fun K "law" "law" s_law f fd) (T : Txt K mg CW) (C_law_cells : Cal P w K mg base CX0 "_law_cells" 1 ["script", "most"] [] (sp_law_cells K CW)) (C_law_right : Gd.CalG P w K mg base "_law_right" 8 ["pot"] [] (sp_law_right K CW)) (C_law_pot : Cal P w K mg base CX0 "_law_pot" 1 ["script", "place"] [] (sp_law_pot K CW)) : Gd.FnG P w K mg base 9 f fd ["script"] (sp_law K CW) := by
  obtain ⟨f_law_cells, fd_law_cells, ds_law_cells, G_law_cells, m_law_cells, k_law_cells, b_law_cells, d_law_cells⟩ := C_law_cells
  obtain ⟨f_law_right, fd_law_right, ds_law_right, G_law_right, m_law_right, k_law_right, b_law_right, d_law_right⟩ := C_law_right
  obtain ⟨f_law_pot, fd_law_pot, ds_law_pot, G_law_pot, m_law_pot, k_law_pot, b_law_pot, d_law_pot⟩ := C_law_pot
  refine Gd.fnG F sc_law (fun vs H Q E h => by obtain ⟨_, rfl, _⟩ := h; rfl) (fun cdv A outer s H vs Q E hg hr h => ?_)
  refine ⟨_, (pss_one (ps_ret (pe_callB (cr_allK K rfl rfl) (by rfl) T.z_all (by decide +kernel) (pa_cons (pe_lc (own := [("place", 1)]) rfl sc_law.nd (pi_listK K rfl (pe_call G_law_cells (hr.mono (by decide)) (by rfl) m_law_cells k_law_cells b_law_cells d_law_cells pass0 (pa_cons (pv 0) (pa_cons pe_int pa_nil)))) (blkOk_by (own := [("place", 1)]) (N := N_law) (sc := defScope s_law) (by decide +kernel)) (fun _ _ _ _ _ => (pg_name (i := 1) sc_law.nd rfl (.inl rfl))) (fun _ _ _ _ _ => pts_nil) (fun _ _ _ _ _ => (Gd.pe_callG hg G_law_right (hr.mono (by decide)) (by rfl) m_law_right k_law_right b_law_right d_law_right pass0 (pa_cons (pe_call G_law_pot (hr.mono (by decide)) (by rfl) m_law_pot k_law_pot b_law_pot d_law_pot pass0 (pa_cons (pv 0) (pa_cons (pv 1) pa_nil))) pa_nil)))) pa_nil)))), ?_⟩
  obtain ⟨x0, rfl, h⟩ := h
  obtain ⟨a, ns, rfl, hs, q⟩ := h
  refine ⟨_, rfl, ?_⟩
  refine ⟨_, _, rfl, a, ns, rfl, ⟨_, rfl, by decide, by decide⟩, hs, fun l k H1 hk sm hl => ?_⟩
  refine ⟨l, rfl, ⟨_, hl⟩, fun D hD => ?_⟩
  have hlen : ((List.range k).map fun (n : Nat) => V.int n).length = k := by rw [List.length_map, List.length_range]
  refine lc_flat (walk_list.mono (fun H' e => Same.seq e hl) fun _ _ _ _ _ _ y => y) (fun _ e => e) hD (fun _ => true) (fun _ => .bl true) (by omega) (fun _ => rfl) (fun i x hi hx => ⟨fun H1 _ Q q => q H1 (Evl.Ex.refl H1), fun _ => ?_⟩) (fun H2 sm2 e3 => ?_)
  · obtain ⟨n, hn, rfl⟩ := map_at hx
    have hin : n < k := List.mem_range.mp (List.mem_of_getElem? hn)
    refine fun H2 ex Q q => ⟨_, rfl, _, rfl, ?_⟩
    refine ⟨_, _, rfl, a, ns, n, rfl, rfl, (sm.trans ex).seq hs, by omega, fun p H3 hp sm3 P3 => ?_⟩
    refine ⟨_, rfl, p, rfl, P3.le (by decide), fun H4 but => q H4 ?_⟩
    exact fun c o e => but c o (fun z => by rw [z, hp] at e; cases e) (sm3 c o e)
  · have e4 : Evl.given ((List.range k).map fun (n : Nat) => V.int n).length (fun _ => true) (fun _ => V.bl true) = (List.replicate k true).map V.bl := by
      unfold Evl.given
      rw [hlen, List.filter_eq_self.mpr (fun _ _ => rfl)]
      apply List.ext_getElem
      · simp
      · intro i h1 h2
        simp
    rw [e4] at e3
    refine ⟨D, _, rfl, .inl (.inl e3), ?_⟩
    rw [show (List.replicate k true).all id = true from by simp]
    exact q _ (sm.trans sm2)
end
end Tc
namespace Tc
open PySem PySem.Spec PyProof.Rows L2 Fw Mw TL
theorem all_mk {l : PySem.W.OpenLaw} {w : World} {K : PySem.W.Frag} {h : Heap} {mg : Str → Option Value} {fa CW f_is_whole f_is_up_to f_is_name f_check_room f_all_words f_meeting_roads f_read_junctions f_places_of f_reached f_check_hanging_together f_Web_init__ f_text_of f_numbers_at f_can_meet f_fits_some_room f_least_fitting f_fits f_check_load f_load_told f_can_flip f_is_way f_check_road f_check_way f_words_beside f_flipped_junctions f_flipped f_range_beside f_beside f_numbers_behind f_carried f_law_pot f_law_take f_law_of f_law_cells f_law_numbers f_law_span f_law_is_round_right f_law_right f_law Td Te Td_check_room : Addr} (X : K.In h) (G : h.Ns mainGlobals mg) (hfa : mg "law" = some (.ref fa))
    {od_is_whole an_is_whole od_is_up_to an_is_up_to od_is_name an_is_name od_check_room an_check_room od_all_words an_all_words od_meeting_roads an_meeting_roads od_read_junctions an_read_junctions od_places_of an_places_of od_reached an_reached od_check_hanging_together an_check_hanging_together od_Web_init__ an_Web_init__ od_text_of an_text_of od_numbers_at an_numbers_at od_can_meet an_can_meet od_fits_some_room an_fits_some_room od_least_fitting an_least_fitting od_fits an_fits od_check_load an_check_load od_load_told an_load_told od_can_flip an_can_flip od_is_way an_is_way od_check_road an_check_road od_check_way an_check_way od_words_beside an_words_beside od_flipped_junctions an_flipped_junctions od_flipped an_flipped od_range_beside an_range_beside od_beside an_beside od_numbers_behind an_numbers_behind od_carried an_carried od_law_pot an_law_pot od_law_take an_law_take od_law_of an_law_of od_law_cells an_law_cells od_law_numbers an_law_numbers od_law_span an_law_span od_law_is_round_right an_law_is_round_right od_law_right an_law_right od_law an_law odT odE odT_check_room : Option Addr} {sl_is_whole sl_is_up_to sl_is_name sl_check_room sl_all_words sl_meeting_roads sl_read_junctions sl_places_of sl_reached sl_check_hanging_together sl_Web_init__ sl_text_of sl_numbers_at sl_can_meet sl_fits_some_room sl_least_fitting sl_fits sl_check_load sl_load_told sl_can_flip sl_is_way sl_check_road sl_check_way sl_words_beside sl_flipped_junctions sl_flipped sl_range_beside sl_beside sl_numbers_behind sl_carried sl_law_pot sl_law_take sl_law_of sl_law_cells sl_law_numbers sl_law_span sl_law_is_round_right sl_law_right sl_law slT slE slT_check_room : Array (Option Value)} {oc_is_whole kV_is_whole dc_is_whole pm_is_whole cd_is_whole ct_is_whole oc_is_up_to kV_is_up_to dc_is_up_to pm_is_up_to cd_is_up_to ct_is_up_to oc_is_name kV_is_name dc_is_name pm_is_name cd_is_name ct_is_name oc_check_room kV_check_room dc_check_room pm_check_room cd_check_room ct_check_room oc_all_words kV_all_words dc_all_words pm_all_words cd_all_words ct_all_words oc_meeting_roads kV_meeting_roads dc_meeting_roads pm_meeting_roads cd_meeting_roads ct_meeting_roads oc_read_junctions kV_read_junctions dc_read_junctions pm_read_junctions cd_read_junctions ct_read_junctions oc_places_of kV_places_of dc_places_of pm_places_of cd_places_of ct_places_of oc_reached kV_reached dc_reached pm_reached cd_reached ct_reached oc_check_hanging_together kV_check_hanging_together dc_check_hanging_together pm_check_hanging_together cd_check_hanging_together ct_check_hanging_together oc_Web_init__ kV_Web_init__ dc_Web_init__ pm_Web_init__ cd_Web_init__ ct_Web_init__ oc_text_of kV_text_of dc_text_of pm_text_of cd_text_of ct_text_of oc_numbers_at kV_numbers_at dc_numbers_at pm_numbers_at cd_numbers_at ct_numbers_at oc_can_meet kV_can_meet dc_can_meet pm_can_meet cd_can_meet ct_can_meet oc_fits_some_room kV_fits_some_room dc_fits_some_room pm_fits_some_room cd_fits_some_room ct_fits_some_room oc_least_fitting kV_least_fitting dc_least_fitting pm_least_fitting cd_least_fitting ct_least_fitting oc_fits kV_fits dc_fits pm_fits cd_fits ct_fits oc_check_load kV_check_load dc_check_load pm_check_load cd_check_load ct_check_load oc_load_told kV_load_told dc_load_told pm_load_told cd_load_told ct_load_told oc_can_flip kV_can_flip dc_can_flip pm_can_flip cd_can_flip ct_can_flip oc_is_way kV_is_way dc_is_way pm_is_way cd_is_way ct_is_way oc_check_road kV_check_road dc_check_road pm_check_road cd_check_road ct_check_road oc_check_way kV_check_way dc_check_way pm_check_way cd_check_way ct_check_way oc_words_beside kV_words_beside dc_words_beside pm_words_beside cd_words_beside ct_words_beside oc_flipped_junctions kV_flipped_junctions dc_flipped_junctions pm_flipped_junctions cd_flipped_junctions ct_flipped_junctions oc_flipped kV_flipped dc_flipped pm_flipped cd_flipped ct_flipped oc_range_beside kV_range_beside dc_range_beside pm_range_beside cd_range_beside ct_range_beside oc_beside kV_beside dc_beside pm_beside cd_beside ct_beside oc_numbers_behind kV_numbers_behind dc_numbers_behind pm_numbers_behind cd_numbers_behind ct_numbers_behind oc_carried kV_carried dc_carried pm_carried cd_carried ct_carried oc_law_pot kV_law_pot dc_law_pot pm_law_pot cd_law_pot ct_law_pot oc_law_take kV_law_take dc_law_take pm_law_take cd_law_take ct_law_take oc_law_of kV_law_of dc_law_of pm_law_of cd_law_of ct_law_of oc_law_cells kV_law_cells dc_law_cells pm_law_cells cd_law_cells ct_law_cells oc_law_numbers kV_law_numbers dc_law_numbers pm_law_numbers cd_law_numbers ct_law_numbers oc_law_span kV_law_span dc_law_span pm_law_span cd_law_span ct_law_span oc_law_is_round_right kV_law_is_round_right dc_law_is_round_right pm_law_is_round_right cd_law_is_round_right ct_law_is_round_right oc_law_right kV_law_right dc_law_right pm_law_right cd_law_right ct_law_right oc_law kV_law dc_law pm_law cd_law ct_law ocT ocT_check_room : Value} {t_LETTERS t_LONGEST_NAME t_FIRST_WORD t_FIRST_LINE t_MOST_JUNCTIONS t_FIRST_WAY t_SECOND_WAY tkT0_check_room : Tok} {nT nE nT_check_room : Nat}
    (aW : PySem.W.nsIn K mainGlobals "Web" = some (some (.ref CW)))
    (a_is_whole : PySem.W.nsIn K mainGlobals "is_whole" = some (some (.ref f_is_whole)))
    (l_is_whole : K.lookup f_is_whole = some ⟨oc_is_whole, od_is_whole, .func (PySem.W.fnOf "is_whole" "is_whole" (defArgs s_is_whole) (defBody s_is_whole) (defScope s_is_whole) .none kV_is_whole dc_is_whole pm_is_whole an_is_whole cd_is_whole ct_is_whole), sl_is_whole⟩)
    (c_is_whole : PySem.W.codeIn K cd_is_whole "is_whole" = true)
    (k_is_whole : PySem.W.keepIn K (.ref f_is_whole) = true)
    (a_is_up_to : PySem.W.nsIn K mainGlobals "is_up_to" = some (some (.ref f_is_up_to)))
    (l_is_up_to : K.lookup f_is_up_to = some ⟨oc_is_up_to, od_is_up_to, .func (PySem.W.fnOf "is_up_to" "is_up_to" (defArgs s_is_up_to) (defBody s_is_up_to) (defScope s_is_up_to) .none kV_is_up_to dc_is_up_to pm_is_up_to an_is_up_to cd_is_up_to ct_is_up_to), sl_is_up_to⟩)
    (c_is_up_to : PySem.W.codeIn K cd_is_up_to "is_up_to" = true)
    (k_is_up_to : PySem.W.keepIn K (.ref f_is_up_to) = true)
    (a_is_name : PySem.W.nsIn K mainGlobals "is_name" = some (some (.ref f_is_name)))
    (l_is_name : K.lookup f_is_name = some ⟨oc_is_name, od_is_name, .func (PySem.W.fnOf "is_name" "is_name" (defArgs s_is_name) (defBody s_is_name) (defScope s_is_name) .none kV_is_name dc_is_name pm_is_name an_is_name cd_is_name ct_is_name), sl_is_name⟩)
    (c_is_name : PySem.W.codeIn K cd_is_name "is_name" = true)
    (k_is_name : PySem.W.keepIn K (.ref f_is_name) = true)
    (a_check_room : PySem.W.nsIn K mainGlobals "check_room" = some (some (.ref f_check_room)))
    (l_check_room : K.lookup f_check_room = some ⟨oc_check_room, od_check_room, .func (PySem.W.fnOf "check_room" "check_room" (defArgs s_check_room) (defBody s_check_room) (defScope s_check_room) (.ref Td_check_room) kV_check_room dc_check_room pm_check_room an_check_room cd_check_room ct_check_room), sl_check_room⟩)
    (l_dfl_check_room : K.lookup Td_check_room = some ⟨ocT_check_room, odT_check_room, .seq #[.int 1000000000000 tkT0_check_room] nT_check_room, slT_check_room⟩)
    (c_check_room : PySem.W.codeIn K cd_check_room "check_room" = true)
    (k_check_room : PySem.W.keepIn K (.ref f_check_room) = true)
    (a_all_words : PySem.W.nsIn K mainGlobals "all_words" = some (some (.ref f_all_words)))
    (l_all_words : K.lookup f_all_words = some ⟨oc_all_words, od_all_words, .func (PySem.W.fnOf "all_words" "all_words" (defArgs s_all_words) (defBody s_all_words) (defScope s_all_words) .none kV_all_words dc_all_words pm_all_words an_all_words cd_all_words ct_all_words), sl_all_words⟩)
    (c_all_words : PySem.W.codeIn K cd_all_words "all_words" = true)
    (k_all_words : PySem.W.keepIn K (.ref f_all_words) = true)
    (a_meeting_roads : PySem.W.nsIn K mainGlobals "meeting_roads" = some (some (.ref f_meeting_roads)))
    (l_meeting_roads : K.lookup f_meeting_roads = some ⟨oc_meeting_roads, od_meeting_roads, .func (PySem.W.fnOf "meeting_roads" "meeting_roads" (defArgs s_meeting_roads) (defBody s_meeting_roads) (defScope s_meeting_roads) .none kV_meeting_roads dc_meeting_roads pm_meeting_roads an_meeting_roads cd_meeting_roads ct_meeting_roads), sl_meeting_roads⟩)
    (c_meeting_roads : PySem.W.codeIn K cd_meeting_roads "meeting_roads" = true)
    (k_meeting_roads : PySem.W.keepIn K (.ref f_meeting_roads) = true)
    (a_read_junctions : PySem.W.nsIn K mainGlobals "read_junctions" = some (some (.ref f_read_junctions)))
    (l_read_junctions : K.lookup f_read_junctions = some ⟨oc_read_junctions, od_read_junctions, .func (PySem.W.fnOf "read_junctions" "read_junctions" (defArgs s_read_junctions) (defBody s_read_junctions) (defScope s_read_junctions) .none kV_read_junctions dc_read_junctions pm_read_junctions an_read_junctions cd_read_junctions ct_read_junctions), sl_read_junctions⟩)
    (c_read_junctions : PySem.W.codeIn K cd_read_junctions "read_junctions" = true)
    (k_read_junctions : PySem.W.keepIn K (.ref f_read_junctions) = true)
    (a_places_of : PySem.W.nsIn K mainGlobals "places_of" = some (some (.ref f_places_of)))
    (l_places_of : K.lookup f_places_of = some ⟨oc_places_of, od_places_of, .func (PySem.W.fnOf "places_of" "places_of" (defArgs s_places_of) (defBody s_places_of) (defScope s_places_of) .none kV_places_of dc_places_of pm_places_of an_places_of cd_places_of ct_places_of), sl_places_of⟩)
    (c_places_of : PySem.W.codeIn K cd_places_of "places_of" = true)
    (k_places_of : PySem.W.keepIn K (.ref f_places_of) = true)
    (a_reached : PySem.W.nsIn K mainGlobals "reached" = some (some (.ref f_reached)))
    (l_reached : K.lookup f_reached = some ⟨oc_reached, od_reached, .func (PySem.W.fnOf "reached" "reached" (defArgs s_reached) (defBody s_reached) (defScope s_reached) (.ref Td) kV_reached dc_reached pm_reached an_reached cd_reached ct_reached), sl_reached⟩)
    (l_dfl : K.lookup Td = some ⟨ocT, odT, .seq #[.ref Te] nT, slT⟩)
    (l_dfe : K.lookup Te = some ⟨.type "tuple", odE, .seq #[] nE, slE⟩)
    (c_reached : PySem.W.codeIn K cd_reached "reached" = true)
    (k_reached : PySem.W.keepIn K (.ref f_reached) = true)
    (a_check_hanging_together : PySem.W.nsIn K mainGlobals "check_hanging_together" = some (some (.ref f_check_hanging_together)))
    (l_check_hanging_together : K.lookup f_check_hanging_together = some ⟨oc_check_hanging_together, od_check_hanging_together, .func (PySem.W.fnOf "check_hanging_together" "check_hanging_together" (defArgs s_check_hanging_together) (defBody s_check_hanging_together) (defScope s_check_hanging_together) .none kV_check_hanging_together dc_check_hanging_together pm_check_hanging_together an_check_hanging_together cd_check_hanging_together ct_check_hanging_together), sl_check_hanging_together⟩)
    (c_check_hanging_together : PySem.W.codeIn K cd_check_hanging_together "check_hanging_together" = true)
    (k_check_hanging_together : PySem.W.keepIn K (.ref f_check_hanging_together) = true)
    (a_Web_init__ : PySem.W.findIn K (.ref CW) "__init__" = some (some (.ref f_Web_init__)))
    (i_Web_init__ : PySem.W.isFn K (.ref f_Web_init__) = true)
    (l_Web_init__ : K.lookup f_Web_init__ = some ⟨oc_Web_init__, od_Web_init__, .func (PySem.W.fnOf "__init__" "Web.__init__" (defArgs s_Web_init__) (defBody s_Web_init__) (defScope s_Web_init__) .none kV_Web_init__ dc_Web_init__ pm_Web_init__ an_Web_init__ cd_Web_init__ ct_Web_init__), sl_Web_init__⟩)
    (c_Web_init__ : PySem.W.codeIn K cd_Web_init__ "Web.__init__" = true)
    (k_Web_init__ : PySem.W.keepIn K (.ref f_Web_init__) = true)
    (a_text_of : PySem.W.nsIn K mainGlobals "text_of" = some (some (.ref f_text_of)))
    (l_text_of : K.lookup f_text_of = some ⟨oc_text_of, od_text_of, .func (PySem.W.fnOf "text_of" "text_of" (defArgs s_text_of) (defBody s_text_of) (defScope s_text_of) .none kV_text_of dc_text_of pm_text_of an_text_of cd_text_of ct_text_of), sl_text_of⟩)
    (c_text_of : PySem.W.codeIn K cd_text_of "text_of" = true)
    (k_text_of : PySem.W.keepIn K (.ref f_text_of) = true)
    (a_numbers_at : PySem.W.nsIn K mainGlobals "numbers_at" = some (some (.ref f_numbers_at)))
    (l_numbers_at : K.lookup f_numbers_at = some ⟨oc_numbers_at, od_numbers_at, .func (PySem.W.fnOf "numbers_at" "numbers_at" (defArgs s_numbers_at) (defBody s_numbers_at) (defScope s_numbers_at) .none kV_numbers_at dc_numbers_at pm_numbers_at an_numbers_at cd_numbers_at ct_numbers_at), sl_numbers_at⟩)
    (c_numbers_at : PySem.W.codeIn K cd_numbers_at "numbers_at" = true)
    (k_numbers_at : PySem.W.keepIn K (.ref f_numbers_at) = true)
    (a_can_meet : PySem.W.nsIn K mainGlobals "can_meet" = some (some (.ref f_can_meet)))
    (l_can_meet : K.lookup f_can_meet = some ⟨oc_can_meet, od_can_meet, .func (PySem.W.fnOf "can_meet" "can_meet" (defArgs s_can_meet) (defBody s_can_meet) (defScope s_can_meet) .none kV_can_meet dc_can_meet pm_can_meet an_can_meet cd_can_meet ct_can_meet), sl_can_meet⟩)
    (c_can_meet : PySem.W.codeIn K cd_can_meet "can_meet" = true)
    (k_can_meet : PySem.W.keepIn K (.ref f_can_meet) = true)
    (a_fits_some_room : PySem.W.nsIn K mainGlobals "fits_some_room" = some (some (.ref f_fits_some_room)))
    (l_fits_some_room : K.lookup f_fits_some_room = some ⟨oc_fits_some_room, od_fits_some_room, .func (PySem.W.fnOf "fits_some_room" "fits_some_room" (defArgs s_fits_some_room) (defBody s_fits_some_room) (defScope s_fits_some_room) .none kV_fits_some_room dc_fits_some_room pm_fits_some_room an_fits_some_room cd_fits_some_room ct_fits_some_room), sl_fits_some_room⟩)
    (c_fits_some_room : PySem.W.codeIn K cd_fits_some_room "fits_some_room" = true)
    (k_fits_some_room : PySem.W.keepIn K (.ref f_fits_some_room) = true)
    (a_least_fitting : PySem.W.nsIn K mainGlobals "least_fitting" = some (some (.ref f_least_fitting)))
    (l_least_fitting : K.lookup f_least_fitting = some ⟨oc_least_fitting, od_least_fitting, .func (PySem.W.fnOf "least_fitting" "least_fitting" (defArgs s_least_fitting) (defBody s_least_fitting) (defScope s_least_fitting) .none kV_least_fitting dc_least_fitting pm_least_fitting an_least_fitting cd_least_fitting ct_least_fitting), sl_least_fitting⟩)
    (c_least_fitting : PySem.W.codeIn K cd_least_fitting "least_fitting" = true)
    (k_least_fitting : PySem.W.keepIn K (.ref f_least_fitting) = true)
    (a_fits : PySem.W.nsIn K mainGlobals "fits" = some (some (.ref f_fits)))
    (l_fits : K.lookup f_fits = some ⟨oc_fits, od_fits, .func (PySem.W.fnOf "fits" "fits" (defArgs s_fits) (defBody s_fits) (defScope s_fits) .none kV_fits dc_fits pm_fits an_fits cd_fits ct_fits), sl_fits⟩)
    (c_fits : PySem.W.codeIn K cd_fits "fits" = true)
    (k_fits : PySem.W.keepIn K (.ref f_fits) = true)
    (a_check_load : PySem.W.nsIn K mainGlobals "check_load" = some (some (.ref f_check_load)))
    (l_check_load : K.lookup f_check_load = some ⟨oc_check_load, od_check_load, .func (PySem.W.fnOf "check_load" "check_load" (defArgs s_check_load) (defBody s_check_load) (defScope s_check_load) .none kV_check_load dc_check_load pm_check_load an_check_load cd_check_load ct_check_load), sl_check_load⟩)
    (c_check_load : PySem.W.codeIn K cd_check_load "check_load" = true)
    (k_check_load : PySem.W.keepIn K (.ref f_check_load) = true)
    (a_load_told : PySem.W.nsIn K mainGlobals "load_told" = some (some (.ref f_load_told)))
    (l_load_told : K.lookup f_load_told = some ⟨oc_load_told, od_load_told, .func (PySem.W.fnOf "load_told" "load_told" (defArgs s_load_told) (defBody s_load_told) (defScope s_load_told) .none kV_load_told dc_load_told pm_load_told an_load_told cd_load_told ct_load_told), sl_load_told⟩)
    (c_load_told : PySem.W.codeIn K cd_load_told "load_told" = true)
    (k_load_told : PySem.W.keepIn K (.ref f_load_told) = true)
    (a_can_flip : PySem.W.nsIn K mainGlobals "can_flip" = some (some (.ref f_can_flip)))
    (l_can_flip : K.lookup f_can_flip = some ⟨oc_can_flip, od_can_flip, .func (PySem.W.fnOf "can_flip" "can_flip" (defArgs s_can_flip) (defBody s_can_flip) (defScope s_can_flip) .none kV_can_flip dc_can_flip pm_can_flip an_can_flip cd_can_flip ct_can_flip), sl_can_flip⟩)
    (c_can_flip : PySem.W.codeIn K cd_can_flip "can_flip" = true)
    (k_can_flip : PySem.W.keepIn K (.ref f_can_flip) = true)
    (a_is_way : PySem.W.nsIn K mainGlobals "is_way" = some (some (.ref f_is_way)))
    (l_is_way : K.lookup f_is_way = some ⟨oc_is_way, od_is_way, .func (PySem.W.fnOf "is_way" "is_way" (defArgs s_is_way) (defBody s_is_way) (defScope s_is_way) .none kV_is_way dc_is_way pm_is_way an_is_way cd_is_way ct_is_way), sl_is_way⟩)
    (c_is_way : PySem.W.codeIn K cd_is_way "is_way" = true)
    (k_is_way : PySem.W.keepIn K (.ref f_is_way) = true)
    (a_check_road : PySem.W.nsIn K mainGlobals "check_road" = some (some (.ref f_check_road)))
    (l_check_road : K.lookup f_check_road = some ⟨oc_check_road, od_check_road, .func (PySem.W.fnOf "check_road" "check_road" (defArgs s_check_road) (defBody s_check_road) (defScope s_check_road) .none kV_check_road dc_check_road pm_check_road an_check_road cd_check_road ct_check_road), sl_check_road⟩)
    (c_check_road : PySem.W.codeIn K cd_check_road "check_road" = true)
    (k_check_road : PySem.W.keepIn K (.ref f_check_road) = true)
    (a_check_way : PySem.W.nsIn K mainGlobals "check_way" = some (some (.ref f_check_way)))
    (l_check_way : K.lookup f_check_way = some ⟨oc_check_way, od_check_way, .func (PySem.W.fnOf "check_way" "check_way" (defArgs s_check_way) (defBody s_check_way) (defScope s_check_way) .none kV_check_way dc_check_way pm_check_way an_check_way cd_check_way ct_check_way), sl_check_way⟩)
    (c_check_way : PySem.W.codeIn K cd_check_way "check_way" = true)
    (k_check_way : PySem.W.keepIn K (.ref f_check_way) = true)
    (a_words_beside : PySem.W.nsIn K mainGlobals "words_beside" = some (some (.ref f_words_beside)))
    (l_words_beside : K.lookup f_words_beside = some ⟨oc_words_beside, od_words_beside, .func (PySem.W.fnOf "words_beside" "words_beside" (defArgs s_words_beside) (defBody s_words_beside) (defScope s_words_beside) .none kV_words_beside dc_words_beside pm_words_beside an_words_beside cd_words_beside ct_words_beside), sl_words_beside⟩)
    (c_words_beside : PySem.W.codeIn K cd_words_beside "words_beside" = true)
    (k_words_beside : PySem.W.keepIn K (.ref f_words_beside) = true)
    (a_flipped_junctions : PySem.W.nsIn K mainGlobals "flipped_junctions" = some (some (.ref f_flipped_junctions)))
    (l_flipped_junctions : K.lookup f_flipped_junctions = some ⟨oc_flipped_junctions, od_flipped_junctions, .func (PySem.W.fnOf "flipped_junctions" "flipped_junctions" (defArgs s_flipped_junctions) (defBody s_flipped_junctions) (defScope s_flipped_junctions) .none kV_flipped_junctions dc_flipped_junctions pm_flipped_junctions an_flipped_junctions cd_flipped_junctions ct_flipped_junctions), sl_flipped_junctions⟩)
    (c_flipped_junctions : PySem.W.codeIn K cd_flipped_junctions "flipped_junctions" = true)
    (k_flipped_junctions : PySem.W.keepIn K (.ref f_flipped_junctions) = true)
    (a_flipped : PySem.W.nsIn K mainGlobals "flipped" = some (some (.ref f_flipped)))
    (l_flipped : K.lookup f_flipped = some ⟨oc_flipped, od_flipped, .func (PySem.W.fnOf "flipped" "flipped" (defArgs s_flipped) (defBody s_flipped) (defScope s_flipped) .none kV_flipped dc_flipped pm_flipped an_flipped cd_flipped ct_flipped), sl_flipped⟩)
    (c_flipped : PySem.W.codeIn K cd_flipped "flipped" = true)
    (k_flipped : PySem.W.keepIn K (.ref f_flipped) = true)
    (a_range_beside : PySem.W.nsIn K mainGlobals "range_beside" = some (some (.ref f_range_beside)))
    (l_range_beside : K.lookup f_range_beside = some ⟨oc_range_beside, od_range_beside, .func (PySem.W.fnOf "range_beside" "range_beside" (defArgs s_range_beside) (defBody s_range_beside) (defScope s_range_beside) .none kV_range_beside dc_range_beside pm_range_beside an_range_beside cd_range_beside ct_range_beside), sl_range_beside⟩)
    (c_range_beside : PySem.W.codeIn K cd_range_beside "range_beside" = true)
    (k_range_beside : PySem.W.keepIn K (.ref f_range_beside) = true)
    (a_beside : PySem.W.nsIn K mainGlobals "beside" = some (some (.ref f_beside)))
    (l_beside : K.lookup f_beside = some ⟨oc_beside, od_beside, .func (PySem.W.fnOf "beside" "beside" (defArgs s_beside) (defBody s_beside) (defScope s_beside) .none kV_beside dc_beside pm_beside an_beside cd_beside ct_beside), sl_beside⟩)
    (c_beside : PySem.W.codeIn K cd_beside "beside" = true)
    (k_beside : PySem.W.keepIn K (.ref f_beside) = true)
    (a_numbers_behind : PySem.W.nsIn K mainGlobals "numbers_behind" = some (some (.ref f_numbers_behind)))
    (l_numbers_behind : K.lookup f_numbers_behind = some ⟨oc_numbers_behind, od_numbers_behind, .func (PySem.W.fnOf "numbers_behind" "numbers_behind" (defArgs s_numbers_behind) (defBody s_numbers_behind) (defScope s_numbers_behind) .none kV_numbers_behind dc_numbers_behind pm_numbers_behind an_numbers_behind cd_numbers_behind ct_numbers_behind), sl_numbers_behind⟩)
    (c_numbers_behind : PySem.W.codeIn K cd_numbers_behind "numbers_behind" = true)
    (k_numbers_behind : PySem.W.keepIn K (.ref f_numbers_behind) = true)
    (a_carried : PySem.W.nsIn K mainGlobals "carried" = some (some (.ref f_carried)))
    (l_carried : K.lookup f_carried = some ⟨oc_carried, od_carried, .func (PySem.W.fnOf "carried" "carried" (defArgs s_carried) (defBody s_carried) (defScope s_carried) .none kV_carried dc_carried pm_carried an_carried cd_carried ct_carried), sl_carried⟩)
    (c_carried : PySem.W.codeIn K cd_carried "carried" = true)
    (k_carried : PySem.W.keepIn K (.ref f_carried) = true)
    (a_law_pot : PySem.W.nsIn K mainGlobals "_law_pot" = some (some (.ref f_law_pot)))
    (l_law_pot : K.lookup f_law_pot = some ⟨oc_law_pot, od_law_pot, .func (PySem.W.fnOf "_law_pot" "_law_pot" (defArgs s_law_pot) (defBody s_law_pot) (defScope s_law_pot) .none kV_law_pot dc_law_pot pm_law_pot an_law_pot cd_law_pot ct_law_pot), sl_law_pot⟩)
    (c_law_pot : PySem.W.codeIn K cd_law_pot "_law_pot" = true)
    (k_law_pot : PySem.W.keepIn K (.ref f_law_pot) = true)
    (a_law_take : PySem.W.nsIn K mainGlobals "_law_take" = some (some (.ref f_law_take)))
    (l_law_take : K.lookup f_law_take = some ⟨oc_law_take, od_law_take, .func (PySem.W.fnOf "_law_take" "_law_take" (defArgs s_law_take) (defBody s_law_take) (defScope s_law_take) .none kV_law_take dc_law_take pm_law_take an_law_take cd_law_take ct_law_take), sl_law_take⟩)
    (c_law_take : PySem.W.codeIn K cd_law_take "_law_take" = true)
    (k_law_take : PySem.W.keepIn K (.ref f_law_take) = true)
    (a_law_of : PySem.W.nsIn K mainGlobals "_law_of" = some (some (.ref f_law_of)))
    (l_law_of : K.lookup f_law_of = some ⟨oc_law_of, od_law_of, .func (PySem.W.fnOf "_law_of" "_law_of" (defArgs s_law_of) (defBody s_law_of) (defScope s_law_of) .none kV_law_of dc_law_of pm_law_of an_law_of cd_law_of ct_law_of), sl_law_of⟩)
    (c_law_of : PySem.W.codeIn K cd_law_of "_law_of" = true)
    (k_law_of : PySem.W.keepIn K (.ref f_law_of) = true)
    (a_law_cells : PySem.W.nsIn K mainGlobals "_law_cells" = some (some (.ref f_law_cells)))
    (l_law_cells : K.lookup f_law_cells = some ⟨oc_law_cells, od_law_cells, .func (PySem.W.fnOf "_law_cells" "_law_cells" (defArgs s_law_cells) (defBody s_law_cells) (defScope s_law_cells) .none kV_law_cells dc_law_cells pm_law_cells an_law_cells cd_law_cells ct_law_cells), sl_law_cells⟩)
    (c_law_cells : PySem.W.codeIn K cd_law_cells "_law_cells" = true)
    (k_law_cells : PySem.W.keepIn K (.ref f_law_cells) = true)
    (a_law_numbers : PySem.W.nsIn K mainGlobals "_law_numbers" = some (some (.ref f_law_numbers)))
    (l_law_numbers : K.lookup f_law_numbers = some ⟨oc_law_numbers, od_law_numbers, .func (PySem.W.fnOf "_law_numbers" "_law_numbers" (defArgs s_law_numbers) (defBody s_law_numbers) (defScope s_law_numbers) .none kV_law_numbers dc_law_numbers pm_law_numbers an_law_numbers cd_law_numbers ct_law_numbers), sl_law_numbers⟩)
    (c_law_numbers : PySem.W.codeIn K cd_law_numbers "_law_numbers" = true)
    (k_law_numbers : PySem.W.keepIn K (.ref f_law_numbers) = true)
    (a_law_span : PySem.W.nsIn K mainGlobals "_law_span" = some (some (.ref f_law_span)))
    (l_law_span : K.lookup f_law_span = some ⟨oc_law_span, od_law_span, .func (PySem.W.fnOf "_law_span" "_law_span" (defArgs s_law_span) (defBody s_law_span) (defScope s_law_span) .none kV_law_span dc_law_span pm_law_span an_law_span cd_law_span ct_law_span), sl_law_span⟩)
    (c_law_span : PySem.W.codeIn K cd_law_span "_law_span" = true)
    (k_law_span : PySem.W.keepIn K (.ref f_law_span) = true)
    (a_law_is_round_right : PySem.W.nsIn K mainGlobals "_law_is_round_right" = some (some (.ref f_law_is_round_right)))
    (l_law_is_round_right : K.lookup f_law_is_round_right = some ⟨oc_law_is_round_right, od_law_is_round_right, .func (PySem.W.fnOf "_law_is_round_right" "_law_is_round_right" (defArgs s_law_is_round_right) (defBody s_law_is_round_right) (defScope s_law_is_round_right) .none kV_law_is_round_right dc_law_is_round_right pm_law_is_round_right an_law_is_round_right cd_law_is_round_right ct_law_is_round_right), sl_law_is_round_right⟩)
    (c_law_is_round_right : PySem.W.codeIn K cd_law_is_round_right "_law_is_round_right" = true)
    (k_law_is_round_right : PySem.W.keepIn K (.ref f_law_is_round_right) = true)
    (a_law_right : PySem.W.nsIn K mainGlobals "_law_right" = some (some (.ref f_law_right)))
    (l_law_right : K.lookup f_law_right = some ⟨oc_law_right, od_law_right, .func (PySem.W.fnOf "_law_right" "_law_right" (defArgs s_law_right) (defBody s_law_right) (defScope s_law_right) .none kV_law_right dc_law_right pm_law_right an_law_right cd_law_right ct_law_right), sl_law_right⟩)
    (c_law_right : PySem.W.codeIn K cd_law_right "_law_right" = true)
    (k_law_right : PySem.W.keepIn K (.ref f_law_right) = true)
    (a_law : PySem.W.nsIn K mainGlobals "law" = some (some (.ref f_law)))
    (l_law : K.lookup f_law = some ⟨oc_law, od_law, .func (PySem.W.fnOf "law" "law" (defArgs s_law) (defBody s_law) (defScope s_law) .none kV_law dc_law pm_law an_law cd_law ct_law), sl_law⟩)
    (c_law : PySem.W.codeIn K cd_law "law" = true)
    (k_law : PySem.W.keepIn K (.ref f_law) = true)
    (pg : PySem.W.plainGet K CW Str.empty = true)
    (hd : PySem.W.hasDictIn K CW = true)
    (po : PySem.W.plainOver K CW = true)
    (sa : PySem.W.findIn K (.ref CW) "__setattr__" = some (some (.builtin "object.__setattr__")))
    (mk : PySem.W.makesIn K CW = true)
    (kc : PySem.W.keepIn K (.ref CW) = true)
    (n_text : PySem.W.findIn K (.ref CW) "text" = some none)
    (n_junctions : PySem.W.findIn K (.ref CW) "junctions" = some none)
    (n_roads : PySem.W.findIn K (.ref CW) "roads" = some none)
    (n_inner : PySem.W.findIn K (.ref CW) "inner" = some none)
    (n_ends : PySem.W.findIn K (.ref CW) "ends" = some none)
    (n_rounds : PySem.W.findIn K (.ref CW) "rounds" = some none)
    (z_isinstance : PySem.W.nsIn K mainGlobals "isinstance" = some none)
    (z_bool : PySem.W.nsIn K mainGlobals "bool" = some none)
    (z_int : PySem.W.nsIn K mainGlobals "int" = some none)
    (z_all : PySem.W.nsIn K mainGlobals "all" = some none)
    (z_len : PySem.W.nsIn K mainGlobals "len" = some none)
    (z_str : PySem.W.nsIn K mainGlobals "str" = some none)
    (z_tuple : PySem.W.nsIn K mainGlobals "tuple" = some none)
    (z_enumerate : PySem.W.nsIn K mainGlobals "enumerate" = some none)
    (z_any : PySem.W.nsIn K mainGlobals "any" = some none)
    (z_range : PySem.W.nsIn K mainGlobals "range" = some none)
    (z_sorted : PySem.W.nsIn K mainGlobals "sorted" = some none)
    (z_set : PySem.W.nsIn K mainGlobals "set" = some none)
    (z_dict : PySem.W.nsIn K mainGlobals "dict" = some none)
    (z_zip : PySem.W.nsIn K mainGlobals "zip" = some none)
    (z_sum : PySem.W.nsIn K mainGlobals "sum" = some none)
    (z_max : PySem.W.nsIn K mainGlobals "max" = some none)
    (z_min : PySem.W.nsIn K mainGlobals "min" = some none)
    (z_list : PySem.W.nsIn K mainGlobals "list" = some none)
    (z_abs : PySem.W.nsIn K mainGlobals "abs" = some none)
    (z_repr : PySem.W.nsIn K mainGlobals "repr" = some none)
    (q_LETTERS : PySem.W.nsIn K mainGlobals "LETTERS" = some (some (.str "abcdefghijklmnopqrstuvwxyz" t_LETTERS)))
    (q_LONGEST_NAME : PySem.W.nsIn K mainGlobals "LONGEST_NAME" = some (some (.int 6 t_LONGEST_NAME)))
    (q_FIRST_WORD : PySem.W.nsIn K mainGlobals "FIRST_WORD" = some (some (.str "meet" t_FIRST_WORD)))
    (q_FIRST_LINE : PySem.W.nsIn K mainGlobals "FIRST_LINE" = some (some (.str "web" t_FIRST_LINE)))
    (q_MOST_JUNCTIONS : PySem.W.nsIn K mainGlobals "MOST_JUNCTIONS" = some (some (.int 12 t_MOST_JUNCTIONS)))
    (q_FIRST_WAY : PySem.W.nsIn K mainGlobals "FIRST_WAY" = some (some (.int 1 t_FIRST_WAY)))
    (q_SECOND_WAY : PySem.W.nsIn K mainGlobals "SECOND_WAY" = some (some (.int 2 t_SECOND_WAY))) :
    ∃ fd : FuncData, (∀ (s : Shared) (v : Value), BindsTo s fd ⟨[v], []⟩ [("script", v)]) ∧ ∀ base : Heap, K.In base → base.Ns mainGlobals mg → Gd.FnG l.prog w K mg base 9 fa fd ["script"] (sp_law K fa) := by
  have e := hfa.symm.trans (PySem.W.mg_of X G a_law)
  cases e
  have T : Txt K mg CW := { z_isinstance := PySem.W.mg_none_of X G z_isinstance, z_bool := PySem.W.mg_none_of X G z_bool, z_int := PySem.W.mg_none_of X G z_int, z_all := PySem.W.mg_none_of X G z_all, z_len := PySem.W.mg_none_of X G z_len, z_str := PySem.W.mg_none_of X G z_str, z_tuple := PySem.W.mg_none_of X G z_tuple, z_enumerate := PySem.W.mg_none_of X G z_enumerate, z_any := PySem.W.mg_none_of X G z_any, z_range := PySem.W.mg_none_of X G z_range, z_sorted := PySem.W.mg_none_of X G z_sorted, z_set := PySem.W.mg_none_of X G z_set, z_dict := PySem.W.mg_none_of X G z_dict, z_zip := PySem.W.mg_none_of X G z_zip, z_sum := PySem.W.mg_none_of X G z_sum, z_max := PySem.W.mg_none_of X G z_max, z_min := PySem.W.mg_none_of X G z_min, z_list := PySem.W.mg_none_of X G z_list, z_abs := PySem.W.mg_none_of X G z_abs, z_repr := PySem.W.mg_none_of X G z_repr, c_LETTERS := ⟨_, PySem.W.mg_of X G q_LETTERS⟩, c_LONGEST_NAME := ⟨_, PySem.W.mg_of X G q_LONGEST_NAME⟩, c_FIRST_WORD := ⟨_, PySem.W.mg_of X G q_FIRST_WORD⟩, c_FIRST_LINE := ⟨_, PySem.W.mg_of X G q_FIRST_LINE⟩, c_MOST_JUNCTIONS := ⟨_, PySem.W.mg_of X G q_MOST_JUNCTIONS⟩, c_FIRST_WAY := ⟨_, PySem.W.mg_of X G q_FIRST_WAY⟩, c_SECOND_WAY := ⟨_, PySem.W.mg_of X G q_SECOND_WAY⟩, m_Web := PySem.W.mg_of X G aW, cl := ⟨pg, hd, po, sa⟩, n_text := n_text, n_junctions := n_junctions, n_roads := n_roads, n_inner := n_inner, n_ends := n_ends, n_rounds := n_rounds }
  have F_is_whole := fun_mk (st := s_is_whole) l_is_whole c_is_whole k_is_whole
  have b_is_whole := F_is_whole.binds (ps := ["value"]) fun _ _ _ _ _ _ us hl => match us, hl with | [_], _ => rfl
  have F_is_up_to := fun_mk (st := s_is_up_to) l_is_up_to c_is_up_to k_is_up_to
  have b_is_up_to := F_is_up_to.binds (ps := ["value", "greatest"]) fun _ _ _ _ _ _ us hl => match us, hl with | [_, _], _ => rfl
  have F_is_name := fun_mk (st := s_is_name) l_is_name c_is_name k_is_name
  have b_is_name := F_is_name.binds (ps := ["value"]) fun _ _ _ _ _ _ us hl => match us, hl with | [_], _ => rfl
  have FD_check_room : FunD K "check_room" "check_room" (defArgs s_check_room) (defBody s_check_room) (defScope s_check_room) [V.int 1000000000000] [] f_check_room _ := ⟨⟨_, _, _, _, _, _, _, _, _, _, rfl, l_check_room, c_check_room, .inr ⟨by simp, Td_check_room, _, [.int 1000000000000 tkT0_check_room], nT_check_room, rfl, l_dfl_check_room, rfl, (.cons ⟨_, rfl⟩ .nil)⟩, .inl rfl⟩, k_check_room⟩
  obtain ⟨dsD_check_room, rD_check_room, bD_check_room⟩ := FD_check_room.binds1 (ps := ["room", "greatest"]) 1 0 (by simp) rfl fun _ _ _ _ _ _ _ us its hu hi => match us, its, hu, hi with | [_], [_], _, _ => ⟨_, rfl, rfl⟩
  have F_all_words := fun_mk (st := s_all_words) l_all_words c_all_words k_all_words
  have b_all_words := F_all_words.binds (ps := ["junctions"]) fun _ _ _ _ _ _ us hl => match us, hl with | [_], _ => rfl
  have F_meeting_roads := fun_mk (st := s_meeting_roads) l_meeting_roads c_meeting_roads k_meeting_roads
  have b_meeting_roads := F_meeting_roads.binds (ps := ["line"]) fun _ _ _ _ _ _ us hl => match us, hl with | [_], _ => rfl
  have F_read_junctions := fun_mk (st := s_read_junctions) l_read_junctions c_read_junctions k_read_junctions
  have b_read_junctions := F_read_junctions.binds (ps := ["text"]) fun _ _ _ _ _ _ us hl => match us, hl with | [_], _ => rfl
  have F_places_of := fun_mk (st := s_places_of) l_places_of c_places_of k_places_of
  have b_places_of := F_places_of.binds (ps := ["junctions", "road"]) fun _ _ _ _ _ _ us hl => match us, hl with | [_, _], _ => rfl
  have FD : FunD K "reached" "reached" (defArgs s_reached) (defBody s_reached) (defScope s_reached) [.ref Te] [] f_reached _ := ⟨⟨_, _, _, _, _, _, _, _, _, _, rfl, l_reached, c_reached, .inr ⟨by simp, Td, _, [.ref Te], nT, rfl, l_dfl, rfl, .cons rfl .nil⟩, .inl rfl⟩, k_reached⟩
  obtain ⟨dsA, rA, bA⟩ := FD.binds1 (ps := ["junctions", "start", "closed"]) 3 1 (by simp) rfl fun _ _ _ _ _ _ _ us its hu hi => match us, its, hu, hi with | [_, _, _], [_], _, _ => ⟨_, rfl, rfl⟩
  obtain ⟨dsB, rB, bB⟩ := FD.binds1 (ps := ["junctions", "start", "closed"]) 2 0 (by simp) rfl fun _ _ _ _ _ _ _ us its hu hi => match us, its, hu, hi with | [_, _], [_], _, _ => ⟨_, rfl, rfl⟩
  have eA : dsA = [] := by cases rA; rfl
  subst eA
  have F_check_hanging_together := fun_mk (st := s_check_hanging_together) l_check_hanging_together c_check_hanging_together k_check_hanging_together
  have b_check_hanging_together := F_check_hanging_together.binds (ps := ["junctions"]) fun _ _ _ _ _ _ us hl => match us, hl with | [_], _ => rfl
  have F_Web_init__ := fun_mk (st := s_Web_init__) l_Web_init__ c_Web_init__ k_Web_init__
  have b_Web_init__ := F_Web_init__.binds (ps := ["self", "text"]) fun _ _ _ _ _ _ us hl => match us, hl with | [_, _], _ => rfl
  have F_text_of := fun_mk (st := s_text_of) l_text_of c_text_of k_text_of
  have b_text_of := F_text_of.binds (ps := ["junctions"]) fun _ _ _ _ _ _ us hl => match us, hl with | [_], _ => rfl
  have F_numbers_at := fun_mk (st := s_numbers_at) l_numbers_at c_numbers_at k_numbers_at
  have b_numbers_at := F_numbers_at.binds (ps := ["web", "load"]) fun _ _ _ _ _ _ us hl => match us, hl with | [_, _], _ => rfl
  have F_can_meet := fun_mk (st := s_can_meet) l_can_meet c_can_meet k_can_meet
  have b_can_meet := F_can_meet.binds (ps := ["numbers"]) fun _ _ _ _ _ _ us hl => match us, hl with | [_], _ => rfl
  have F_fits_some_room := fun_mk (st := s_fits_some_room) l_fits_some_room c_fits_some_room k_fits_some_room
  have b_fits_some_room := F_fits_some_room.binds (ps := ["web", "load"]) fun _ _ _ _ _ _ us hl => match us, hl with | [_, _], _ => rfl
  have F_least_fitting := fun_mk (st := s_least_fitting) l_least_fitting c_least_fitting k_least_fitting
  have b_least_fitting := F_least_fitting.binds (ps := ["web", "load"]) fun _ _ _ _ _ _ us hl => match us, hl with | [_, _], _ => rfl
  have F_fits := fun_mk (st := s_fits) l_fits c_fits k_fits
  have b_fits := F_fits.binds (ps := ["web", "room", "load"]) fun _ _ _ _ _ _ us hl => match us, hl with | [_, _, _], _ => rfl
  have F_check_load := fun_mk (st := s_check_load) l_check_load c_check_load k_check_load
  have b_check_load := F_check_load.binds (ps := ["web", "room", "load"]) fun _ _ _ _ _ _ us hl => match us, hl with | [_, _, _], _ => rfl
  have F_load_told := fun_mk (st := s_load_told) l_load_told c_load_told k_load_told
  have b_load_told := F_load_told.binds (ps := ["web", "numbers"]) fun _ _ _ _ _ _ us hl => match us, hl with | [_, _], _ => rfl
  have F_can_flip := fun_mk (st := s_can_flip) l_can_flip c_can_flip k_can_flip
  have b_can_flip := F_can_flip.binds (ps := ["junctions", "road"]) fun _ _ _ _ _ _ us hl => match us, hl with | [_, _], _ => rfl
  have F_is_way := fun_mk (st := s_is_way) l_is_way c_is_way k_is_way
  have b_is_way := F_is_way.binds (ps := ["way"]) fun _ _ _ _ _ _ us hl => match us, hl with | [_], _ => rfl
  have F_check_road := fun_mk (st := s_check_road) l_check_road c_check_road k_check_road
  have b_check_road := F_check_road.binds (ps := ["web", "road"]) fun _ _ _ _ _ _ us hl => match us, hl with | [_, _], _ => rfl
  have F_check_way := fun_mk (st := s_check_way) l_check_way c_check_way k_check_way
  have b_check_way := F_check_way.binds (ps := ["way"]) fun _ _ _ _ _ _ us hl => match us, hl with | [_], _ => rfl
  have F_words_beside := fun_mk (st := s_words_beside) l_words_beside c_words_beside k_words_beside
  have b_words_beside := F_words_beside.binds (ps := ["junctions", "road"]) fun _ _ _ _ _ _ us hl => match us, hl with | [_, _], _ => rfl
  have F_flipped_junctions := fun_mk (st := s_flipped_junctions) l_flipped_junctions c_flipped_junctions k_flipped_junctions
  have b_flipped_junctions := F_flipped_junctions.binds (ps := ["junctions", "road", "way"]) fun _ _ _ _ _ _ us hl => match us, hl with | [_, _, _], _ => rfl
  have F_flipped := fun_mk (st := s_flipped) l_flipped c_flipped k_flipped
  have b_flipped := F_flipped.binds (ps := ["web", "road", "way"]) fun _ _ _ _ _ _ us hl => match us, hl with | [_, _, _], _ => rfl
  have F_range_beside := fun_mk (st := s_range_beside) l_range_beside c_range_beside k_range_beside
  have b_range_beside := F_range_beside.binds (ps := ["junctions", "room", "numbers", "road"]) fun _ _ _ _ _ _ us hl => match us, hl with | [_, _, _, _], _ => rfl
  have F_beside := fun_mk (st := s_beside) l_beside c_beside k_beside
  have b_beside := F_beside.binds (ps := ["web", "room", "load", "road"]) fun _ _ _ _ _ _ us hl => match us, hl with | [_, _, _, _], _ => rfl
  have F_numbers_behind := fun_mk (st := s_numbers_behind) l_numbers_behind c_numbers_behind k_numbers_behind
  have b_numbers_behind := F_numbers_behind.binds (ps := ["ahead", "behind", "room", "numbers", "road"]) fun _ _ _ _ _ _ us hl => match us, hl with | [_, _, _, _, _], _ => rfl
  have F_carried := fun_mk (st := s_carried) l_carried c_carried k_carried
  have b_carried := F_carried.binds (ps := ["web", "room", "load", "road", "way"]) fun _ _ _ _ _ _ us hl => match us, hl with | [_, _, _, _, _], _ => rfl
  have F_law_pot := fun_mk (st := s_law_pot) l_law_pot c_law_pot k_law_pot
  have b_law_pot := F_law_pot.binds (ps := ["script", "place"]) fun _ _ _ _ _ _ us hl => match us, hl with | [_, _], _ => rfl
  have F_law_take := fun_mk (st := s_law_take) l_law_take c_law_take k_law_take
  have b_law_take := F_law_take.binds (ps := ["pot", "upto"]) fun _ _ _ _ _ _ us hl => match us, hl with | [_, _], _ => rfl
  have F_law_of := fun_mk (st := s_law_of) l_law_of c_law_of k_law_of
  have b_law_of := F_law_of.binds (ps := ["pot", "some"]) fun _ _ _ _ _ _ us hl => match us, hl with | [_, _], _ => rfl
  have F_law_cells := fun_mk (st := s_law_cells) l_law_cells c_law_cells k_law_cells
  have b_law_cells := F_law_cells.binds (ps := ["script", "most"]) fun _ _ _ _ _ _ us hl => match us, hl with | [_, _], _ => rfl
  have F_law_numbers := fun_mk (st := s_law_numbers) l_law_numbers c_law_numbers k_law_numbers
  have b_law_numbers := F_law_numbers.binds (ps := ["pot"]) fun _ _ _ _ _ _ us hl => match us, hl with | [_], _ => rfl
  have F_law_span := fun_mk (st := s_law_span) l_law_span c_law_span k_law_span
  have b_law_span := F_law_span.binds (ps := ["room", "one", "other", "third", "last"]) fun _ _ _ _ _ _ us hl => match us, hl with | [_, _, _, _, _], _ => rfl
  have F_law_is_round_right := fun_mk (st := s_law_is_round_right) l_law_is_round_right c_law_is_round_right k_law_is_round_right
  have b_law_is_round_right := F_law_is_round_right.binds (ps := ["web", "room", "load", "way"]) fun _ _ _ _ _ _ us hl => match us, hl with | [_, _, _, _], _ => rfl
  have F_law_right := fun_mk (st := s_law_right) l_law_right c_law_right k_law_right
  have b_law_right := F_law_right.binds (ps := ["pot"]) fun _ _ _ _ _ _ us hl => match us, hl with | [_], _ => rfl
  have F_law := fun_mk (st := s_law) l_law c_law k_law
  have b_law := F_law.binds (ps := ["script"]) fun _ _ _ _ _ _ us hl => match us, hl with | [_], _ => rfl
  refine ⟨PySem.W.fnOf "law" "law" (defArgs s_law) (defBody s_law) (defScope s_law) .none kV_law dc_law pm_law an_law cd_law ct_law, fun s v => .of_eq rfl, fun base _ _ => ?_⟩
  have C_is_whole := ok_is_whole (P := l.prog) (w := w) (base := base) (CW := CW) ⟨f_is_whole, _, F_is_whole, PySem.W.mg_of X G a_is_whole, b_is_whole⟩ T 
  have C_is_up_to := ok_is_up_to (P := l.prog) (w := w) (base := base) (CW := CW) ⟨f_is_up_to, _, F_is_up_to, PySem.W.mg_of X G a_is_up_to, b_is_up_to⟩ T C_is_whole
  have C_is_name := ok_is_name (P := l.prog) (w := w) (base := base) (CW := CW) ⟨f_is_name, _, F_is_name, PySem.W.mg_of X G a_is_name, b_is_name⟩ T 
  have C_check_room := ok_check_room (P := l.prog) (w := w) (base := base) (CW := CW) ⟨f_check_room, _, FD_check_room, PySem.W.mg_of X G a_check_room, dsD_check_room, rD_check_room, bD_check_room⟩ T C_is_up_to
  have C_all_words := ok_all_words (P := l.prog) (w := w) (base := base) (CW := CW) ⟨f_all_words, _, F_all_words, PySem.W.mg_of X G a_all_words, b_all_words⟩ T 
  have C_meeting_roads := ok_meeting_roads (P := l.prog) (w := w) (base := base) (CW := CW) ⟨f_meeting_roads, _, F_meeting_roads, PySem.W.mg_of X G a_meeting_roads, b_meeting_roads⟩ T C_is_name
  have C_read_junctions := ok_read_junctions (P := l.prog) (w := w) (base := base) (CW := CW) ⟨f_read_junctions, _, F_read_junctions, PySem.W.mg_of X G a_read_junctions, b_read_junctions⟩ T C_meeting_roads C_all_words
  have C_places_of := ok_places_of (P := l.prog) (w := w) (base := base) (CW := CW) ⟨f_places_of, _, F_places_of, PySem.W.mg_of X G a_places_of, b_places_of⟩ T 
  have C_reached := ok_reached (P := l.prog) (w := w) (base := base) (CW := CW) ⟨f_reached, _, Te, FD, PySem.W.mg_of X G a_reached, bA, dsB, rB, bB, fun H => .inr ⟨_, _, _, l_dfe, rfl, rfl, Nat.zero_le _, .nil⟩⟩ T 
  have C_check_hanging_together := ok_check_hanging_together (P := l.prog) (w := w) (base := base) (CW := CW) ⟨f_check_hanging_together, _, F_check_hanging_together, PySem.W.mg_of X G a_check_hanging_together, b_check_hanging_together⟩ T C_reached
  have C_Web_init__ := ok_Web_init__ (P := l.prog) (w := w) (base := base) (CW := CW) ⟨f_Web_init__, _, F_Web_init__, ⟨mk, a_Web_init__, i_Web_init__, kc⟩, b_Web_init__⟩ T C_read_junctions C_check_hanging_together C_all_words
  have C_text_of := ok_text_of (P := l.prog) (w := w) (base := base) (CW := CW) ⟨f_text_of, _, F_text_of, PySem.W.mg_of X G a_text_of, b_text_of⟩ T 
  have C_numbers_at := ok_numbers_at (P := l.prog) (w := w) (base := base) (CW := CW) ⟨f_numbers_at, _, F_numbers_at, PySem.W.mg_of X G a_numbers_at, b_numbers_at⟩ T 
  have C_can_meet := ok_can_meet (P := l.prog) (w := w) (base := base) (CW := CW) ⟨f_can_meet, _, F_can_meet, PySem.W.mg_of X G a_can_meet, b_can_meet⟩ T 
  have C_fits_some_room := ok_fits_some_room (P := l.prog) (w := w) (base := base) (CW := CW) ⟨f_fits_some_room, _, F_fits_some_room, PySem.W.mg_of X G a_fits_some_room, b_fits_some_room⟩ T C_numbers_at C_can_meet C_is_whole
  have C_least_fitting := ok_least_fitting (P := l.prog) (w := w) (base := base) (CW := CW) ⟨f_least_fitting, _, F_least_fitting, PySem.W.mg_of X G a_least_fitting, b_least_fitting⟩ T C_numbers_at
  have C_fits := ok_fits (P := l.prog) (w := w) (base := base) (CW := CW) ⟨f_fits, _, F_fits, PySem.W.mg_of X G a_fits, b_fits⟩ T C_least_fitting C_fits_some_room
  have C_check_load := ok_check_load (P := l.prog) (w := w) (base := base) (CW := CW) ⟨f_check_load, _, F_check_load, PySem.W.mg_of X G a_check_load, b_check_load⟩ T C_fits
  have C_load_told := ok_load_told (P := l.prog) (w := w) (base := base) (CW := CW) ⟨f_load_told, _, F_load_told, PySem.W.mg_of X G a_load_told, b_load_told⟩ T 
  have C_can_flip := ok_can_flip (P := l.prog) (w := w) (base := base) (CW := CW) ⟨f_can_flip, _, F_can_flip, PySem.W.mg_of X G a_can_flip, b_can_flip⟩ T C_places_of
  have C_is_way := ok_is_way (P := l.prog) (w := w) (base := base) (CW := CW) ⟨f_is_way, _, F_is_way, PySem.W.mg_of X G a_is_way, b_is_way⟩ T C_is_whole
  have C_check_road := ok_check_road (P := l.prog) (w := w) (base := base) (CW := CW) ⟨f_check_road, _, F_check_road, PySem.W.mg_of X G a_check_road, b_check_road⟩ T C_can_flip
  have C_check_way := ok_check_way (P := l.prog) (w := w) (base := base) (CW := CW) ⟨f_check_way, _, F_check_way, PySem.W.mg_of X G a_check_way, b_check_way⟩ T C_is_way
  have C_words_beside := ok_words_beside (P := l.prog) (w := w) (base := base) (CW := CW) ⟨f_words_beside, _, F_words_beside, PySem.W.mg_of X G a_words_beside, b_words_beside⟩ T C_places_of
  have C_flipped_junctions := ok_flipped_junctions (P := l.prog) (w := w) (base := base) (CW := CW) ⟨f_flipped_junctions, _, F_flipped_junctions, PySem.W.mg_of X G a_flipped_junctions, b_flipped_junctions⟩ T C_places_of C_words_beside
  have C_flipped := ok_flipped (P := l.prog) (w := w) (base := base) (CW := CW) ⟨f_flipped, _, F_flipped, PySem.W.mg_of X G a_flipped, b_flipped⟩ T C_check_road C_check_way C_Web_init__ C_text_of C_flipped_junctions
  have C_range_beside := ok_range_beside (P := l.prog) (w := w) (base := base) (CW := CW) ⟨f_range_beside, _, F_range_beside, PySem.W.mg_of X G a_range_beside, b_range_beside⟩ T C_words_beside
  have C_beside := ok_beside (P := l.prog) (w := w) (base := base) (CW := CW) ⟨f_beside, _, F_beside, PySem.W.mg_of X G a_beside, b_beside⟩ T C_check_room C_check_load C_check_road C_range_beside
  have C_numbers_behind := ok_numbers_behind (P := l.prog) (w := w) (base := base) (CW := CW) ⟨f_numbers_behind, _, F_numbers_behind, PySem.W.mg_of X G a_numbers_behind, b_numbers_behind⟩ T C_range_beside
  have C_carried := ok_carried (P := l.prog) (w := w) (base := base) (CW := CW) ⟨f_carried, _, F_carried, PySem.W.mg_of X G a_carried, b_carried⟩ T C_check_room C_check_load C_check_road C_check_way C_flipped_junctions C_load_told C_numbers_behind
  have C_law_pot := ok_law_pot (P := l.prog) (w := w) (base := base) (CW := CW) ⟨f_law_pot, _, F_law_pot, PySem.W.mg_of X G a_law_pot, b_law_pot⟩ T 
  have C_law_take := ok_law_take (P := l.prog) (w := w) (base := base) (CW := CW) ⟨f_law_take, _, F_law_take, PySem.W.mg_of X G a_law_take, b_law_take⟩ T 
  have C_law_of := ok_law_of (P := l.prog) (w := w) (base := base) (CW := CW) ⟨f_law_of, _, F_law_of, PySem.W.mg_of X G a_law_of, b_law_of⟩ T C_law_take
  have C_law_cells := ok_law_cells (P := l.prog) (w := w) (base := base) (CW := CW) ⟨f_law_cells, _, F_law_cells, PySem.W.mg_of X G a_law_cells, b_law_cells⟩ T 
  have C_law_numbers := ok_law_numbers (P := l.prog) (w := w) (base := base) (CW := CW) ⟨f_law_numbers, _, F_law_numbers, PySem.W.mg_of X G a_law_numbers, b_law_numbers⟩ T C_law_of C_law_take
  have C_law_span := ok_law_span (P := l.prog) (w := w) (base := base) (CW := CW) ⟨f_law_span, _, F_law_span, PySem.W.mg_of X G a_law_span, b_law_span⟩ T 
  have C_law_is_round_right := ok_law_is_round_right (P := l.prog) (w := w) (base := base) (CW := CW) ⟨f_law_is_round_right, _, F_law_is_round_right, PySem.W.mg_of X G a_law_is_round_right, b_law_is_round_right⟩ T C_beside C_carried C_flipped
  have C_law_right := ok_law_right (P := l.prog) (w := w) (base := base) (CW := CW) ⟨f_law_right, _, F_law_right, PySem.W.mg_of X G a_law_right, b_law_right⟩ T C_law_numbers C_law_span C_Web_init__ C_law_take C_beside C_carried C_law_is_round_right
  have z := ok_law (P := l.prog) (w := w) (base := base) (CW := CW) F_law T C_law_cells C_law_right C_law_pot
  exact z
theorem walk {l : PySem.W.OpenLaw} {q : Program} {loose : List Str} {XP : (Str → Option Value) → Heap → Prop} {YP : World → Heap → Prop} {d : DefRec} {K : Params → PySem.W.Frag} (hn : l.most = some 63) (hdf : d.params.defaults = [])
    (hY : ∀ (w : World) (h : Heap), YP w h → (K w.params).In h)
    (F : ∀ (w : World) (mg : Str → Option Value) (fa : Addr) (h : Heap), (K w.params).In h → h.Ns mainGlobals mg → mg d.name = some (.ref fa) →
      ∃ fd : FuncData, (∀ (s : Shared) (u : Value), BindsTo s fd ⟨[u], []⟩ [("script", u)]) ∧ ∀ base : Heap, (K w.params).In base → base.Ns mainGlobals mg → Gd.FnG l.prog w (K w.params) mg base 9 fa fd ["script"] (sp_law (K w.params) fa)) :
    PySem.W.WalkO q loose XP YP l.row.toRowW d [] (fun f vs => PySem.call f vs) :=
  Gd.walkG (n := 63) (k := 9) (x := "script") (sp := fun w => sp_law (K w.params) (0 : Nat)) hn (by decide) hdf ⟨rfl, by decide, by decide⟩ hY F (fun _ _ a ns hl _ hS => ⟨_, rfl, a, ns, rfl, hS, fun _ _ => rfl⟩)
end Tc
open PySem PySem.W PyProof.Rows in
set_option maxRecDepth 100000 in
set_option maxHeartbeats 0 in
theorem PySem.Challenge.cw_threeroadcars_k14_whole_four_roads_three_holds : PySem.Challenge.rw_threeroadcars_k14_whole_four_roads_three.Holds := by
  w_on; o_law; k_head; (case hw => w_witness2)
  k_fill
  refine Tc.walk (l := PySem.Challenge.rw_threeroadcars_k14_whole_four_roads_three) rfl rfl (fun w h Y => PySem.W.kIn_of Y) ?F
  case F =>
    intro w mg fa h KX G hmg
    refine' Tc.all_mk KX G hmg ?aW ?a_is_whole ?l_is_whole ?c_is_whole ?k_is_whole ?a_is_up_to ?l_is_up_to ?c_is_up_to ?k_is_up_to ?a_is_name ?l_is_name ?c_is_name ?k_is_name ?a_check_room ?l_check_room ?l_dfl_check_room ?c_check_room ?k_check_room ?a_all_words ?l_all_words ?c_all_words ?k_all_words ?a_meeting_roads ?l_meeting_roads ?c_meeting_roads ?k_meeting_roads ?a_read_junctions ?l_read_junctions ?c_read_junctions ?k_read_junctions ?a_places_of ?l_places_of ?c_places_of ?k_places_of ?a_reached ?l_reached ?l_dfl ?l_dfe ?c_reached ?k_reached ?a_check_hanging_together ?l_check_hanging_together ?c_check_hanging_together ?k_check_hanging_together ?a_Web_init__ ?i_Web_init__ ?l_Web_init__ ?c_Web_init__ ?k_Web_init__ ?a_text_of ?l_text_of ?c_text_of ?k_text_of ?a_numbers_at ?l_numbers_at ?c_numbers_at ?k_numbers_at ?a_can_meet ?l_can_meet ?c_can_meet ?k_can_meet ?a_fits_some_room ?l_fits_some_room ?c_fits_some_room ?k_fits_some_room ?a_least_fitting ?l_least_fitting ?c_least_fitting ?k_least_fitting ?a_fits ?l_fits ?c_fits ?k_fits ?a_check_load ?l_check_load ?c_check_load ?k_check_load ?a_load_told ?l_load_told ?c_load_told ?k_load_told ?a_can_flip ?l_can_flip ?c_can_flip ?k_can_flip ?a_is_way ?l_is_way ?c_is_way ?k_is_way ?a_check_road ?l_check_road ?c_check_road ?k_check_road ?a_check_way ?l_check_way ?c_check_way ?k_check_way ?a_words_beside ?l_words_beside ?c_words_beside ?k_words_beside ?a_flipped_junctions ?l_flipped_junctions ?c_flipped_junctions ?k_flipped_junctions ?a_flipped ?l_flipped ?c_flipped ?k_flipped ?a_range_beside ?l_range_beside ?c_range_beside ?k_range_beside ?a_beside ?l_beside ?c_beside ?k_beside ?a_numbers_behind ?l_numbers_behind ?c_numbers_behind ?k_numbers_behind ?a_carried ?l_carried ?c_carried ?k_carried ?a_law_pot ?l_law_pot ?c_law_pot ?k_law_pot ?a_law_take ?l_law_take ?c_law_take ?k_law_take ?a_law_of ?l_law_of ?c_law_of ?k_law_of ?a_law_cells ?l_law_cells ?c_law_cells ?k_law_cells ?a_law_numbers ?l_law_numbers ?c_law_numbers ?k_law_numbers ?a_law_span ?l_law_span ?c_law_span ?k_law_span ?a_law_is_round_right ?l_law_is_round_right ?c_law_is_round_right ?k_law_is_round_right ?a_law_right ?l_law_right ?c_law_right ?k_law_right ?a_law ?l_law ?c_law ?k_law ?pg ?hd ?po ?sa ?mk ?kc ?n_text ?n_junctions ?n_roads ?n_inner ?n_ends ?n_rounds ?z_isinstance ?z_bool ?z_int ?z_all ?z_len ?z_str ?z_tuple ?z_enumerate ?z_any ?z_range ?z_sorted ?z_set ?z_dict ?z_zip ?z_sum ?z_max ?z_min ?z_list ?z_abs ?z_repr ?q_LETTERS ?q_LONGEST_NAME ?q_FIRST_WORD ?q_FIRST_LINE ?q_MOST_JUNCTIONS ?q_FIRST_WAY ?q_SECOND_WAY
    (case aW => k_is)
    (case a_is_whole => k_is)
    (case l_is_whole => k_is)
    (case c_is_whole => k_is)
    (case k_is_whole => k_is)
    (case a_is_up_to => k_is)
    (case l_is_up_to => k_is)
    (case c_is_up_to => k_is)
    (case k_is_up_to => k_is)
    (case a_is_name => k_is)
    (case l_is_name => k_is)
    (case c_is_name => k_is)
    (case k_is_name => k_is)
    (case a_check_room => k_is)
    (case l_check_room => k_is)
    (case l_dfl_check_room => k_is)
    (case c_check_room => k_is)
    (case k_check_room => k_is)
    (case a_all_words => k_is)
    (case l_all_words => k_is)
    (case c_all_words => k_is)
    (case k_all_words => k_is)
    (case a_meeting_roads => k_is)
    (case l_meeting_roads => k_is)
    (case c_meeting_roads => k_is)
    (case k_meeting_roads => k_is)
    (case a_read_junctions => k_is)
    (case l_read_junctions => k_is)
    (case c_read_junctions => k_is)
    (case k_read_junctions => k_is)
    (case a_places_of => k_is)
    (case l_places_of => k_is)
    (case c_places_of => k_is)
    (case k_places_of => k_is)
    (case a_reached => k_is)
    (case l_reached => k_is)
    (case l_dfl => k_is)
    (case l_dfe => k_is)
    (case c_reached => k_is)
    (case k_reached => k_is)
    (case a_check_hanging_together => k_is)
    (case l_check_hanging_together => k_is)
    (case c_check_hanging_together => k_is)
    (case k_check_hanging_together => k_is)
    (case a_Web_init__ => k_is)
    (case i_Web_init__ => k_is)
    (case l_Web_init__ => k_is)
    (case c_Web_init__ => k_is)
    (case k_Web_init__ => k_is)
    (case a_text_of => k_is)
    (case l_text_of => k_is)
    (case c_text_of => k_is)
    (case k_text_of => k_is)
    (case a_numbers_at => k_is)
    (case l_numbers_at => k_is)
    (case c_numbers_at => k_is)
    (case k_numbers_at => k_is)
    (case a_can_meet => k_is)
    (case l_can_meet => k_is)
    (case c_can_meet => k_is)
    (case k_can_meet => k_is)
    (case a_fits_some_room => k_is)
    (case l_fits_some_room => k_is)
    (case c_fits_some_room => k_is)
    (case k_fits_some_room => k_is)
    (case a_least_fitting => k_is)
    (case l_least_fitting => k_is)
    (case c_least_fitting => k_is)
    (case k_least_fitting => k_is)
    (case a_fits => k_is)
    (case l_fits => k_is)
    (case c_fits => k_is)
    (case k_fits => k_is)
    (case a_check_load => k_is)
    (case l_check_load => k_is)
    (case c_check_load => k_is)
    (case k_check_load => k_is)
    (case a_load_told => k_is)
    (case l_load_told => k_is)
    (case c_load_told => k_is)
    (case k_load_told => k_is)
    (case a_can_flip => k_is)
    (case l_can_flip => k_is)
    (case c_can_flip => k_is)
    (case k_can_flip => k_is)
    (case a_is_way => k_is)
    (case l_is_way => k_is)
    (case c_is_way => k_is)
    (case k_is_way => k_is)
    (case a_check_road => k_is)
    (case l_check_road => k_is)
    (case c_check_road => k_is)
    (case k_check_road => k_is)
    (case a_check_way => k_is)
    (case l_check_way => k_is)
    (case c_check_way => k_is)
    (case k_check_way => k_is)
    (case a_words_beside => k_is)
    (case l_words_beside => k_is)
    (case c_words_beside => k_is)
    (case k_words_beside => k_is)
    (case a_flipped_junctions => k_is)
    (case l_flipped_junctions => k_is)
    (case c_flipped_junctions => k_is)
    (case k_flipped_junctions => k_is)
    (case a_flipped => k_is)
    (case l_flipped => k_is)
    (case c_flipped => k_is)
    (case k_flipped => k_is)
    (case a_range_beside => k_is)
    (case l_range_beside => k_is)
    (case c_range_beside => k_is)
    (case k_range_beside => k_is)
    (case a_beside => k_is)
    (case l_beside => k_is)
    (case c_beside => k_is)
    (case k_beside => k_is)
    (case a_numbers_behind => k_is)
    (case l_numbers_behind => k_is)
    (case c_numbers_behind => k_is)
    (case k_numbers_behind => k_is)
    (case a_carried => k_is)
    (case l_carried => k_is)
    (case c_carried => k_is)
    (case k_carried => k_is)
    (case a_law_pot => k_is)
    (case l_law_pot => k_is)
    (case c_law_pot => k_is)
    (case k_law_pot => k_is)
    (case a_law_take => k_is)
    (case l_law_take => k_is)
    (case c_law_take => k_is)
    (case k_law_take => k_is)
    (case a_law_of => k_is)
    (case l_law_of => k_is)
    (case c_law_of => k_is)
    (case k_law_of => k_is)
    (case a_law_cells => k_is)
    (case l_law_cells => k_is)
    (case c_law_cells => k_is)
    (case k_law_cells => k_is)
    (case a_law_numbers => k_is)
    (case l_law_numbers => k_is)
    (case c_law_numbers => k_is)
    (case k_law_numbers => k_is)
    (case a_law_span => k_is)
    (case l_law_span => k_is)
    (case c_law_span => k_is)
    (case k_law_span => k_is)
    (case a_law_is_round_right => k_is)
    (case l_law_is_round_right => k_is)
    (case c_law_is_round_right => k_is)
    (case k_law_is_round_right => k_is)
    (case a_law_right => k_is)
    (case l_law_right => k_is)
    (case c_law_right => k_is)
    (case k_law_right => k_is)
    (case a_law => k_is)
    (case l_law => k_is)
    (case c_law => k_is)
    (case k_law => k_is)
    (case pg => k_is)
    (case hd => k_is)
    (case po => k_is)
    (case sa => k_is)
    (case mk => k_is)
    (case kc => k_is)
    (case n_text => k_is)
    (case n_junctions => k_is)
    (case n_roads => k_is)
    (case n_inner => k_is)
    (case n_ends => k_is)
    (case n_rounds => k_is)
    (case z_isinstance => k_is)
    (case z_bool => k_is)
    (case z_int => k_is)
    (case z_all => k_is)
    (case z_len => k_is)
    (case z_str => k_is)
    (case z_tuple => k_is)
    (case z_enumerate => k_is)
    (case z_any => k_is)
    (case z_range => k_is)
    (case z_sorted => k_is)
    (case z_set => k_is)
    (case z_dict => k_is)
    (case z_zip => k_is)
    (case z_sum => k_is)
    (case z_max => k_is)
    (case z_min => k_is)
    (case z_list => k_is)
    (case z_abs => k_is)
    (case z_repr => k_is)
    (case q_LETTERS => k_is)
    (case q_LONGEST_NAME => k_is)
    (case q_FIRST_WORD => k_is)
    (case q_FIRST_LINE => k_is)
    (case q_MOST_JUNCTIONS => k_is)
    (case q_FIRST_WAY => k_is)
    (case q_SECOND_WAY => k_is)
