import PyProof.Rows.All
import Wide.All
import OpenK.AllK
import Wide.FinOn
import HandS.ForMost
import HandS.Set
import HandS.Strs
import HandS.SetFor
import HandS.SlotsOwn
import HandS.Conv
import HandS.Walk
import KE.GoesEnumKw
import KE.GoesMore
import HandS.Evl
import HandS.IsInst
import HandS.Star
import HandS.Defaults
import HandS.Steps
import HandS.Zip
import HandS.Iter
import PyProof.ListStr
import HandS.NoneIn
import HandS.Wide
import HandS.Style
import HandS.SortInts
import KE.SortData
import HandS.TupSets
import HandS.New
import HandS.FStr
import PySem.Challenge.RW_threeroadcars_k11_whole_webs_flipped_and
set_option Elab.async false
set_option linter.all false
set_option maxRecDepth 100000
set_option maxHeartbeats 8000000
namespace Ys
open PySem PySem.Spec PyProof.Rows L2
/-! sets of texts whose order is the world's: set(list of texts), then sorted -/
def wordOf (e : Int × Value) : Str := match e.2 with | .str x _ => x | _ => Str.empty
def WordE (w : World) (e : Int × Value) : Prop := ∃ x tk, e.2 = Value.str x tk ∧ e.1 = hashStr w x
/-- what is told of a set of texts: ks its members in the table's own row -/
structure Told (w : World) (es : Array (Int × Value)) (t : SetTable) (ks : List Str) : Prop where
  each : ∀ e ∈ es.toList, WordE w e
  keys : (es.toList.map wordOf).Perm ks
  once : ks.Nodup
  few : es.size < scanBound
  fit : t.fits es.size = true
  ris : Ris t.place.toList
  led : w.params.followText "set-order" = true ∨ t.led = true
def SetW (w : World) (h : Heap) (a : Addr) (ks : List Str) : Prop := ∃ o es ep t, h.get? a = some o ∧ o.ExactSet ∧ o.data = .set es ep t ∧ Told w es t ks
section
variable {P : Program} {w : World} {h h' : Heap} {a : Addr} {ks : List Str}
theorem SetW.keep (R : SetW w h a ks) (k : ∀ o, h.get? a = some o → h'.get? a = some o) : SetW w h' a ks := by
  rcases R with ⟨o, es, ep, t, q, rest⟩
  exact ⟨o, es, ep, t, k o q, rest⟩
theorem elems_words {l : List (Int × Value)} (g : ∀ e ∈ l, WordE w e) : ElemsOf (PySem.strKind P w) l := fun e he => by
  rcases g e he with ⟨x, tk, h1, h2⟩
  refine ⟨⟨x, ?_, h2⟩, ?_⟩
  · rw [h1]; exact keyIs_str x tk
  · rw [h1]; rfl
theorem is_word {e : Int × Value} (g : WordE w e) (x : Str) : (PySem.strKind P w).is x e.2 = true ↔ wordOf e = x := by
  rcases g with ⟨y, tk, h1, _⟩
  unfold wordOf
  rw [h1]
  show Value.isStrOf x (Value.str y tk) = true ↔ y = x
  constructor
  · intro q
    rcases Value.isStrOf_shape q with ⟨t', e⟩
    injection e
  · rintro rfl
    exact keyIs_str y tk
end
/-- the members behind x has come: in the row they first came -/
def put1 (ks : List Str) (x : Str) : List Str := if x ∈ ks then ks else x :: ks
section
variable {P : Program} {w : World} {A : Around} {E : Value → Shared → Prop} {s : Shared} {a : Addr} {ks : List Str}
theorem stored {h : Heap} {o : Obj} {es es2 : Array (Int × Value)} {ep : Nat} {t t2 : SetTable} (ho : h.get? a = some o) (hd : o.data = .set es ep t) :
    (h.update a (Obj.putSet es2 t2)).get? a = some { o with data := .set es2 (ep + 1) t2 } := by
  have z := Heap.get?_update_self (Obj.putSet es2 t2) ho (by rw [putSet_of es2 t2 hd]; rfl)
  rwa [putSet_of es2 t2 hd] at z
/-- the table stored, and laid anew if it is too full -/
theorem word_tail {g : Bool → Sem Unit} (hg : ∀ (b : Bool) (s1 : Shared) (Q : Unit → Shared → Prop), Q () s1 → wpAny (model P w) A (g b) Q E s1) {o : Obj} {es es1 : Array (Int × Value)} {ep : Nat} {t t1 : SetTable}
    (ho : s.heap.get? a = some o) (hx : o.ExactSet) (hd : o.data = .set es ep t) (T : Told w es1 t1 ks) {dummy : Bool} {R : Option Bool → Shared → Prop} (hR : ∀ h', Heap.SameBut a s.heap h' → SetW w h' a ks → R (some true) { s with heap := h' }) :
    wpAny (model P w) A (do
      storeSet a es1 t1
      if (!dummy && t1.tooFull) = true then do
        g (relayAll t1 es1 (SetTable.grown es1.size)).2.2
        storeSet a (relayAll t1 es1 (SetTable.grown es1.size)).1 (relayAll t1 es1 (SetTable.grown es1.size)).2.1
        pure (some true)
      else pure (some true)) R E s := by
  have q1 := stored (es2 := es1) (t2 := t1) ho hd
  have b1 := Heap.SameBut.update s.heap a (Obj.putSet es1 t1)
  refine wpAny_bind (wpAny_storeSet_of ho hd ?_ (fits_of_scanBound T.few))
  split
  · have e1 := relayAll_perm t1 es1 (SetTable.grown es1.size)
    have e2 := relayAll_fits t1 es1 (SetTable.grown es1.size)
    have e3 := relayAll_ris t1 es1 (SetTable.grown es1.size)
    have e4 := relayAll_led t1 es1 (SetTable.grown es1.size)
    generalize relayAll t1 es1 (SetTable.grown es1.size) = Y at e1 e2 e3 e4 ⊢
    rcases Y with ⟨es2, t2, gave⟩
    dsimp only at e1 e2 e3 e4 ⊢
    have zz : es2.size = es1.size := by simpa using e1.length_eq
    have fw : es2.size < scanBound := zz ▸ T.few
    refine wpAny_bind (hg _ _ _ (wpAny_bind (wpAny_storeSet_of q1 rfl ?_ (fits_of_scanBound fw))))
    have q2 := stored (es2 := es2) (t2 := t2) q1 rfl
    exact wpAny_pure (hR _ (b1.trans (Heap.SameBut.update _ a _)) ⟨_, es2, _, t2, q2, hx, rfl, fun e he => T.each e (e1.mem_iff.mp he), (e1.map wordOf).trans T.keys, T.once, fw, e2, e3, T.led.imp id fun z => e4.trans z⟩)
  · exact wpAny_pure (hR _ b1 ⟨_, es1, _, t1, q1, hx, rfl, T⟩)
theorem word_add {x : Str} {tk : Tok} {Q : Bool → Shared → Prop} (R : SetW w s.heap a ks) (room : ks.length + 1 < scanBound) (hQ : ∀ h' b, Heap.SameBut a s.heap h' → SetW w h' a (put1 ks x) → Q b { s with heap := h' }) :
    wpAny (model P w) A (setAddHashed a (.str x tk) ((PySem.strKind P w).hash x)) Q E s := by
  rcases R with ⟨o, es, ep, t, ho, hx, hd, T⟩
  have hk : (PySem.strKind P w).is x (.str x tk) = true := keyIs_str x tk
  have hv : (Value.str x tk).scannable = true := rfl
  have he := elems_words (P := P) T.each
  unfold setAddHashed setAddHashedIn
  refine wpAny_holding (wpAny_bind (wpAny_setState_of ho hd T.fit ?_))
  dsimp only
  rw [byScan_of hv T.few he, if_pos rfl]
  unfold setAddByScan
  refine wpAny_bind (wpAny_bind (wpAny_rule (wpAny_bind (wpAny_setScan_of hk ho hd T.fit he ?_))))
  cases hfi : List.findIdx? (fun e => (PySem.strKind P w).is x e.2) es.toList with
  | some j =>
    dsimp only
    rcases List.findIdx?_eq_some_iff_getElem.mp hfi with ⟨hj, pj, _⟩
    have hin : x ∈ ks := T.keys.mem_iff.mp (List.mem_map.mpr ⟨_, List.getElem_mem hj, (is_word (P := P) (T.each _ (List.getElem_mem hj)) x).mp pj⟩)
    refine wpAny_pure (wpAny_pure ?_)
    have q := hQ s.heap (!true) (Heap.SameBut.refl a s.heap) ⟨o, es, ep, t, ho, hx, hd, by unfold put1; rw [if_pos hin]; exact T⟩
    exact q
  | none =>
    dsimp only
    have hin : x ∉ ks := fun z => by
      rcases List.mem_map.mp (T.keys.mem_iff.mpr z) with ⟨e, m, q⟩
      have c := List.findIdx?_eq_none_iff.mp hfi e m
      rw [(is_word (P := P) (T.each e m) x).mpr q] at c
      cases c
    have gw : ∀ (b : Bool) {s1 : Shared} {Q1 : Unit → Shared → Prop}, Q1 () s1 → wpAny (model P w) A (match b with | true => rule "set.scan.the-table-gave-way" | false => pure ()) Q1 E s1 := fun b s1 Q1 q => by
      cases b
      · exact wpAny_pure q
      · exact wpAny_rule q
    have p1 := layNew_perm t es ((PySem.strKind P w).hash x) (.str x tk)
    have p2 := layNew_fits t es ((PySem.strKind P w).hash x) (.str x tk)
    have p3 := layNew_ris t es ((PySem.strKind P w).hash x) (.str x tk) T.ris
    have p4 := layNew_led t es ((PySem.strKind P w).hash x) (.str x tk)
    generalize layNew t es ((PySem.strKind P w).hash x) (.str x tk) = Y at p1 p2 p3 p4 ⊢
    rcases Y with ⟨es1, t1, dummy, gave⟩
    dsimp only at p1 p2 p3 p4 ⊢
    rw [Array.toList_push] at p1
    have p5 := p1.trans (List.perm_append_singleton _ _)
    have nk : (es1.toList.map wordOf).Perm (x :: ks) := (p5.map wordOf).trans (List.Perm.cons x T.keys)
    have sz : es1.size = ks.length + 1 := by simpa using nk.length_eq
    have T1 : ∀ t2 : SetTable, t2.fits es1.size = true → Ris t2.place.toList → t2.led = t1.led → Told w es1 t2 (put1 ks x) := fun t2 f2 r2 l2 => by
      unfold put1
      rw [if_neg hin]
      refine ⟨fun e m => ?_, nk, List.nodup_cons.mpr ⟨hin, T.once⟩, by omega, f2, r2, T.led.imp id fun z => by rw [l2, p4]; exact z⟩
      rcases List.mem_cons.mp (p5.mem_iff.mp m) with z | z
      · exact ⟨x, tk, by rw [z], by rw [z]; rfl⟩
      · exact T.each e z
    refine wpAny_bind (gw _ ?_)
    split
    · rw [hashByValue_scannable 8 hv]
      refine wpAny_bind (wpAny_pure (word_tail (ks := put1 ks x) (fun b s1 Q1 q => gw b q) ho hx hd ?_ fun h' sb r => wpAny_pure (hQ h' _ sb r)))
      first | exact T1 _ p2 p3 rfl | (split <;> first | exact T1 _ p2 p3 rfl | exact T1 _ (SetTable.fits_plain_off p2) p3 rfl)
    · refine wpAny_bind (wpAny_pure ?_)
      rw [if_pos rfl]
      exact word_tail (ks := put1 ks x) (fun b s1 Q1 q => gw b q) ho hx hd (T1 _ p2 p3 rfl) fun h' sb r => wpAny_pure (hQ h' _ sb r)
end
/-! ### the loop of set(xs) -/
def putAll (xs : List Str) : List Str := xs.foldl put1 []
theorem mem_put1 {ks : List Str} {x y : Str} : y ∈ put1 ks x ↔ y = x ∨ y ∈ ks := by
  unfold put1
  split
  · constructor
    · exact .inr
    · rintro (rfl | h)
      · assumption
      · exact h
  · exact List.mem_cons
theorem len_put1 (ks : List Str) (x : Str) : (put1 ks x).length ≤ ks.length + 1 := by
  unfold put1
  split
  · exact Nat.le_succ _
  · exact Nat.le_refl _
theorem putAll_snoc (xs : List Str) (x : Str) : putAll (xs ++ [x]) = put1 (putAll xs) x := by
  unfold putAll
  rw [List.foldl_append] <;> rfl
theorem mem_fold1 (y : Str) : ∀ (xs ks : List Str), y ∈ xs.foldl put1 ks ↔ y ∈ xs ∨ y ∈ ks
  | [], ks => by simp
  | x :: xs, ks => by
    show y ∈ xs.foldl put1 (put1 ks x) ↔ _
    rw [mem_fold1 y xs, mem_put1, List.mem_cons]
    constructor
    · rintro (h | h | h)
      · exact .inl (.inr h)
      · exact .inl (.inl h)
      · exact .inr h
    · rintro ((h | h) | h)
      · exact .inr (.inl h)
      · exact .inl h
      · exact .inr (.inr h)
theorem mem_putAll {xs : List Str} {y : Str} : y ∈ putAll xs ↔ y ∈ xs := by
  unfold putAll
  rw [mem_fold1]
  simp
theorem len_fold1 : ∀ (xs ks : List Str), (xs.foldl put1 ks).length ≤ xs.length + ks.length
  | [], ks => by simp
  | x :: xs, ks => by
    have h := len_fold1 xs (put1 ks x)
    have h2 := len_put1 ks x
    simp only [List.foldl_cons, List.length_cons]
    omega
theorem len_putAll (xs : List Str) : (putAll xs).length ≤ xs.length := by
  have h := len_fold1 xs []
  unfold putAll
  simpa using h
section
variable {P : Program} {w : World} {A : Around} {R : Result → Shared → Prop} {I : Addr} {fp wr : List Addr} {G : Array GenState → Array GenState → Prop} {n : Nat} {Pv : Nat → Value → Prop} {St : Nat → Shared → Prop}
theorem word_loop (W : WalksS P w A.in1 I fp wr G n Pv St) (a : Addr) (out : a ∉ fp) (xs : List Str) (hn : xs.length = n) (val : ∀ i v, Pv i v → ∃ x t, xs[i]? = some x ∧ v = .str x t) (few : n + 1 < scanBound) :
    ∀ (k i : Nat) (s : Shared), i + k = n → St i s → SetW w s.heap a (putAll (xs.take i)) → (∀ s', Moved (a :: wr) G s s' → SetW w s'.heap a (putAll xs) → R (.ok (.ret .none)) s') →
      codeAny (model P w) A (.builtin "set.update.loop" ⟨[.ref a, .ref I], []⟩) R s
  | 0, i, s, hk, st, hs, hR => by
    refine codeAny_builtin PyProof.Rows.F.entry_set_update_loop ?_
    rw [Around.under_plainId PyProof.Rows.F.plain_set_update_loop _]
    obtain rfl : i = n := by omega
    show wpAny _ A.in1 (pyNext (.ref I) >>= _) _ _ s
    refine wpAny_bind (W.done s _ _ st fun s1 mv => ?_)
    show wpAny _ A.in1 (ret Value.none) _ _ s1
    refine wpAny_pure (hR s1 (mv.mono fun b m => List.mem_cons_of_mem _ m) ?_)
    rw [← hn, List.take_length] at hs
    exact hs.keep fun o e => mv.heap a o (fun z => out (W.sub _ z)) e
  | k + 1, i, s, hk, st, hs, hR => by
    refine codeAny_builtin PyProof.Rows.F.entry_set_update_loop ?_
    rw [Around.under_plainId PyProof.Rows.F.plain_set_update_loop _]
    show wpAny _ A.in1 (pyNext (.ref I) >>= _) _ _ s
    refine wpAny_bind (W.item i s _ _ (by omega) st fun v s1 hv st1 mv => ?_)
    rcases val i v hv with ⟨x, t, hx, rfl⟩
    have hs1 : SetW w s1.heap a (putAll (xs.take i)) := hs.keep fun o e => mv.heap a o (fun z => out (W.sub _ z)) e
    show wpAny _ A.in1 (holding [Value.str x t] (setAdd a (.str x t)) >>= _) _ _ s1
    unfold setAdd
    refine wpAny_bind (wpAny_holding (wpAny_holding (wpAny_bind ((PySem.strKind P w).pyHash (k := x) (keyIs_str x t) ?_))))
    have room : (putAll (xs.take i)).length + 1 < scanBound := by
      have q := len_putAll (xs.take i)
      have q2 : (xs.take i).length ≤ n := by rw [← hn]; exact List.length_take_le' ..
      omega
    refine word_add (s := { s1 with toks := s1.toks + 1 }) hs1 room fun h1 b sb hs2 => ?_
    have e : putAll (xs.take (i + 1)) = put1 (putAll (xs.take i)) x := by
      rw [List.take_add_one, hx]
      exact putAll_snoc _ _
    rw [← e] at hs2
    refine wpAny_pure ⟨plainId_quiet PyProof.Rows.F.plain_set_update_loop _, word_loop W a out xs hn val few k (i + 1) _ (by omega) (W.frame _ s1 _ _ st1 (Nat.le_succ _) fun b m o q => ?_) hs2 fun s2 mv2 hs3 => ?_⟩
    · exact (sb.2 b fun z : b = a => out (z ▸ m)).trans q
    · refine hR s2 (Moved.trans W.gtrans ((mv.mono fun b m => List.mem_cons_of_mem _ m).then_heap (Nat.le_succ _) fun b o m q => ?_) mv2) hs3
      exact (sb.2 b fun z : b = a => m (z ▸ List.mem_cons_self)).trans q
end
section
variable {P : Program} {w : World} {A : Around} {E : Value → Shared → Prop} {s : Shared}
/-- a new set of nothing -/
abbrev nul (w : World) : Obj := { cls := .type "set", dict := none, data := .set #[] 0 (.fresh 0 0 (!w.params.followText "set-order")) }
theorem nul_told {h : Heap} {a : Addr} (ho : h.get? a = some (nul w)) : SetW w h a [] := by
  refine ⟨_, #[], 0, _, ho, ⟨rfl, rfl, rfl⟩, rfl, (fun e m => by simp at m), List.Perm.nil, List.nodup_nil, by decide, by rfl, List.Pairwise.nil, ?_⟩
  cases q : w.params.followText "set-order" with
  | true => exact .inl rfl
  | false => exact .inr rfl
theorem setOf_list {l : Addr} {items : Array Value} (xs : List Str) {Q : Value → Shared → Prop} (hh : A.handled = none) (hl : s.heap.IsList l items) (hi : PyProof.Rows.StrsAre items.toList xs) (few : xs.length + 1 < scanBound)
    (k : ∀ (h1 : Heap) (tk : Nat), SetW w h1 s.heap.objs.size (putAll xs) → (∀ b o, s.heap.get? b = some o → h1.get? b = some o) → Q (.ref s.heap.objs.size) { s with heap := h1, toks := tk }) :
    wpAny (model P w) A (call (.type "set") [.ref l]) Q E s := by
  have sz : items.size = xs.length := by simpa using hi.length
  obtain ⟨c, tl, hmro⟩ := F.called_set.mro
  have q1 := F.called_set.made; have q2 := F.called_set.sub
  refine wpAny_call (codeAny_of_tree (show wpAny _ _ (callAny (.type "set") _) _ _ _ from wpAny_pure ⟨Code.quiet_builtin _ (by decide +kernel), codeAny_builtin F.entry_type_call ?_⟩))
  rw [Around.under_plain (weight_type_call_type "set" [.ref l] []) rfl]
  have q3 := F.called_set.notType; have q4 := F.called_set.canCreate; have q5 := F.typeCall_set_1 (.ref l)
  repeat (any_goals (first | assumption | wp_step))
  refine codeAny_mono (code_set_led1 (.ref l) (E := E) (Q₁ := fun r s1 => r = .ref s.heap.objs.size ∧ s1 = { s with heap := s.heap.push (nul w) }) ⟨rfl, rfl⟩) fun r s1 hr => ?_
  cases r with
  | error e => exact hr
  | ok fl =>
    cases fl with
    | ret v =>
      rcases hr with ⟨rfl, rfl⟩
      have hn : (s.heap.push (nul w)).get? s.heap.objs.size = some (nul w) := Heap.get?_push_size _ rfl
      have ty : Shared.TypeIs { s with heap := s.heap.push (nul w) } (.ref s.heap.objs.size) "set" := ⟨_, hn, rfl⟩
      have q6 := F.called_set.init.lookup; have q7 := F.called_set.init.bind (.ref s.heap.objs.size)
      repeat (any_goals (first | assumption | wp_step))
      refine codeAny_mono (codeAny_call_builtin (R := wants (fun r s2 => r = .none ∧ ∃ h1 tk, s2 = { s with heap := h1, toks := tk } ∧ SetW w h1 s.heap.objs.size (putAll xs) ∧ ∀ b o, s.heap.get? b = some o → h1.get? b = some o) E)
        F.called_set.init.plain F.entry_set_init (check_set_init_1 ty ?_)) fun r2 s2 hr2 => ?_
      · rcases hl with ⟨⟨_, dd, _, sl⟩, ho, hc, nn, hd⟩
        simp only at hc hd
        subst hc; subst hd
        have lt : l < s.heap.objs.size := Heap.lt_size ho
        have ho1 : (s.heap.push (nul w)).get? l = some { cls := .type "list", dict := dd, data := .seq items nn, slots := sl } := Heap.get?_push_of_some _ ho
        have hl1 : (s.heap.push (nul w)).IsList l items := ⟨_, ho1, rfl, nn, rfl⟩
        have q8 := F.sub_list_set; have q9 := F.sub_list_frozenset
        have q10 : (Value.type "list" == Value.type "dict") = false := by decide
        have big : (s.heap.push (nul w)).objs.size = s.heap.objs.size + 1 := Heap.size_push ..
        unfold Builtin.«set.__init__» noKeywords Builtin.Frozenset.updateFrom
        generalize hit : pyIter = itr
        wp_walk
        subst hit
        refine wpAny_pyIter_list hl1 (wpAny_bind (wpAny_runValue ?_))
        have h3 : A.in1.in1.in1.handled = none := hh
        have nI : l ≠ (s.heap.push (nul w)).objs.size := fun z => by rw [big] at z; exact absurd lt (by rw [z]; exact Nat.not_lt_of_le (Nat.le_succ _))
        have nS : s.heap.objs.size ∉ [(s.heap.push (nul w)).objs.size, l] := fun m => by
          rw [big] at m
          rcases List.mem_cons.mp m with z | z
          · exact absurd z (Nat.ne_of_lt (Nat.lt_succ_self _))
          · rw [← List.mem_singleton.mp z] at lt
            exact Nat.lt_irrefl _ lt
        refine word_loop ((Walks.list h3 _ l nI items).toS) s.heap.objs.size nS xs sz.symm (fun i v hv => ?_) (by rw [sz]; exact few) items.size 0 _ (Nat.zero_add _)
          ⟨⟨_, Heap.get?_push_size _ rfl, rfl, rfl⟩, hl1.push _⟩ (nul_told (Heap.get?_push_of_some _ hn)) fun s3 mv hs => ?_
        · have lx : i < xs.length := by rw [← sz]; exact (Array.getElem?_eq_some_iff.mp hv).1
          rcases SS.strs_at hi i v (by rw [Array.getElem?_toList]; exact hv) with ⟨t, e⟩
          refine ⟨xs[i], t, List.getElem?_eq_getElem lx, ?_⟩
          rw [e, List.getD_eq_getElem?_getD, List.getElem?_eq_getElem lx] <;> rfl
        · rcases s3 with ⟨h1, g1, d1, tk1, o1⟩
          have e1 : g1 = s.gens := mv.gens
          have e2 : d1 = s.drawn := mv.drawn
          have e3 : o1 = s.os := mv.os
          subst e1 e2 e3
          show wpAny _ _ _ _ _ _
          refine wpAny_pure (show wpAny _ _ (ret Value.none) _ _ _ from wpAny_pure ⟨rfl, h1, tk1, rfl, hs, fun b o q => ?_⟩)
          have lb := Heap.lt_size q
          refine mv.heap b o (fun m => ?_) (Heap.get?_push_of_some _ (Heap.get?_push_of_some _ q))
          rcases List.mem_cons.mp m with z | z
          · exact absurd lb (by rw [z]; exact Nat.lt_irrefl _)
          · rw [List.mem_singleton.mp z, big] at lb
            exact absurd lb (Nat.not_lt_of_le (Nat.le_succ _))
      · cases r2 with
        | error e => exact hr2
        | ok f2 =>
          cases f2 with
          | ret v =>
            rcases hr2 with ⟨rfl, h1, tk, rfl, hs, kk⟩
            repeat (any_goals (first | assumption | wp_step))
            exact k _ _ hs kk
          | _ => exact hr2.elim
    | _ => exact hr.elim
theorem setOf_tuple {l : Addr} {items : Array Value} (xs : List Str) {Q : Value → Shared → Prop} (hh : A.handled = none) (hl : s.heap.IsTuple l items) (hi : PyProof.Rows.StrsAre items.toList xs) (few : xs.length + 1 < scanBound)
    (k : ∀ (h1 : Heap) (tk : Nat), SetW w h1 s.heap.objs.size (putAll xs) → (∀ b o, s.heap.get? b = some o → h1.get? b = some o) → Q (.ref s.heap.objs.size) { s with heap := h1, toks := tk }) :
    wpAny (model P w) A (call (.type "set") [.ref l]) Q E s := by
  have sz : items.size = xs.length := by simpa using hi.length
  obtain ⟨c, tl, hmro⟩ := F.called_set.mro
  have q1 := F.called_set.made; have q2 := F.called_set.sub
  refine wpAny_call (codeAny_of_tree (show wpAny _ _ (callAny (.type "set") _) _ _ _ from wpAny_pure ⟨Code.quiet_builtin _ (by decide +kernel), codeAny_builtin F.entry_type_call ?_⟩))
  rw [Around.under_plain (weight_type_call_type "set" [.ref l] []) rfl]
  have q3 := F.called_set.notType; have q4 := F.called_set.canCreate; have q5 := F.typeCall_set_1 (.ref l)
  repeat (any_goals (first | assumption | wp_step))
  refine codeAny_mono (code_set_led1 (.ref l) (E := E) (Q₁ := fun r s1 => r = .ref s.heap.objs.size ∧ s1 = { s with heap := s.heap.push (nul w) }) ⟨rfl, rfl⟩) fun r s1 hr => ?_
  cases r with
  | error e => exact hr
  | ok fl =>
    cases fl with
    | ret v =>
      rcases hr with ⟨rfl, rfl⟩
      have hn : (s.heap.push (nul w)).get? s.heap.objs.size = some (nul w) := Heap.get?_push_size _ rfl
      have ty : Shared.TypeIs { s with heap := s.heap.push (nul w) } (.ref s.heap.objs.size) "set" := ⟨_, hn, rfl⟩
      have q6 := F.called_set.init.lookup; have q7 := F.called_set.init.bind (.ref s.heap.objs.size)
      repeat (any_goals (first | assumption | wp_step))
      refine codeAny_mono (codeAny_call_builtin (R := wants (fun r s2 => r = .none ∧ ∃ h1 tk, s2 = { s with heap := h1, toks := tk } ∧ SetW w h1 s.heap.objs.size (putAll xs) ∧ ∀ b o, s.heap.get? b = some o → h1.get? b = some o) E)
        F.called_set.init.plain F.entry_set_init (check_set_init_1 ty ?_)) fun r2 s2 hr2 => ?_
      · rcases hl with ⟨⟨_, dd, _, sl⟩, ho, hc, nn, hd⟩
        simp only at hc hd
        subst hc; subst hd
        have lt : l < s.heap.objs.size := Heap.lt_size ho
        have ho1 : (s.heap.push (nul w)).get? l = some { cls := .type "tuple", dict := dd, data := .seq items nn, slots := sl } := Heap.get?_push_of_some _ ho
        have hl1 : (s.heap.push (nul w)).IsTuple l items := ⟨_, ho1, rfl, nn, rfl⟩
        have q8 := F.sub_tuple_set; have q9 := F.sub_tuple_frozenset
        have q10 : (Value.type "tuple" == Value.type "dict") = false := by decide
        have big : (s.heap.push (nul w)).objs.size = s.heap.objs.size + 1 := Heap.size_push ..
        unfold Builtin.«set.__init__» noKeywords Builtin.Frozenset.updateFrom
        generalize hit : pyIter = itr
        wp_walk
        subst hit
        refine wpAny_pyIter_tuple hl1 (wpAny_bind (wpAny_runValue ?_))
        have h3 : A.in1.in1.in1.handled = none := hh
        have nI : l ≠ (s.heap.push (nul w)).objs.size := fun z => by rw [big] at z; exact absurd lt (by rw [z]; exact Nat.not_lt_of_le (Nat.le_succ _))
        have nS : s.heap.objs.size ∉ [(s.heap.push (nul w)).objs.size, l] := fun m => by
          rw [big] at m
          rcases List.mem_cons.mp m with z | z
          · exact absurd z (Nat.ne_of_lt (Nat.lt_succ_self _))
          · rw [← List.mem_singleton.mp z] at lt
            exact Nat.lt_irrefl _ lt
        refine word_loop ((Walks.tuple h3 _ l nI items).toS) s.heap.objs.size nS xs sz.symm (fun i v hv => ?_) (by rw [sz]; exact few) items.size 0 _ (Nat.zero_add _)
          ⟨⟨_, Heap.get?_push_size _ rfl, rfl, rfl⟩, hl1.push _⟩ (nul_told (Heap.get?_push_of_some _ hn)) fun s3 mv hs => ?_
        · have lx : i < xs.length := by rw [← sz]; exact (Array.getElem?_eq_some_iff.mp hv).1
          rcases SS.strs_at hi i v (by rw [Array.getElem?_toList]; exact hv) with ⟨t, e⟩
          refine ⟨xs[i], t, List.getElem?_eq_getElem lx, ?_⟩
          rw [e, List.getD_eq_getElem?_getD, List.getElem?_eq_getElem lx] <;> rfl
        · rcases s3 with ⟨h1, g1, d1, tk1, o1⟩
          have e1 : g1 = s.gens := mv.gens
          have e2 : d1 = s.drawn := mv.drawn
          have e3 : o1 = s.os := mv.os
          subst e1 e2 e3
          show wpAny _ _ _ _ _ _
          refine wpAny_pure (show wpAny _ _ (ret Value.none) _ _ _ from wpAny_pure ⟨rfl, h1, tk1, rfl, hs, fun b o q => ?_⟩)
          have lb := Heap.lt_size q
          refine mv.heap b o (fun m => ?_) (Heap.get?_push_of_some _ (Heap.get?_push_of_some _ q))
          rcases List.mem_cons.mp m with z | z
          · exact absurd lb (by rw [z]; exact Nat.lt_irrefl _)
          · rw [List.mem_singleton.mp z, big] at lb
            exact absurd lb (Nat.not_lt_of_le (Nat.le_succ _))
      · cases r2 with
        | error e => exact hr2
        | ok f2 =>
          cases f2 with
          | ret v =>
            rcases hr2 with ⟨rfl, h1, tk, rfl, hs, kk⟩
            repeat (any_goals (first | assumption | wp_step))
            exact k _ _ hs kk
          | _ => exact hr2.elim
    | _ => exact hr.elim
end
end Ys
namespace Ys
open PySem PySem.Spec PyProof.Rows L2
section
variable {P : Program} {w : World} {A : Around} {E : Value → Shared → Prop} {s : Shared} {a : Addr} {ks : List Str}
theorem words_strs : ∀ (l : List (Int × Value)), (∀ e ∈ l, WordE w e) → StrsAre (l.map (·.2)) (l.map wordOf)
  | [], _ => .nil
  | e :: l, h => by
    rcases h e List.mem_cons_self with ⟨x, tk, h1, _⟩
    have hw : wordOf e = x := by unfold wordOf; rw [h1]
    show StrsAre (e.2 :: l.map (·.2)) (wordOf e :: l.map wordOf)
    rw [h1, hw]
    exact .cons x tk (words_strs l fun u m => h u (List.mem_cons_of_mem _ m))
theorem strs_perm : ∀ {us vs : List Value}, us.Perm vs → ∀ {xs : List Str}, StrsAre vs xs → ∃ ys, StrsAre us ys ∧ ys.Perm xs
  | _, _, .nil, xs, h => ⟨xs, h, .refl _⟩
  | _, _, .cons v p, xs, h => by
    cases h with
    | cons x t h =>
      rcases strs_perm p h with ⟨ys, h1, h2⟩
      exact ⟨x :: ys, .cons x t h1, h2.cons x⟩
  | _, _, .swap u v l, xs, h => by
    cases h with
    | cons x t h =>
      cases h with
      | cons y t2 h => exact ⟨y :: x :: _, .cons y t2 (.cons x t h), .swap x y _⟩
  | _, _, .trans p q, xs, h => by
    rcases strs_perm q h with ⟨ys, h1, h2⟩
    rcases strs_perm p h1 with ⟨zs, h3, h4⟩
    exact ⟨zs, h3, h4.trans h2⟩
/-- list.sort of a list of texts -/
theorem sort_words {l : Addr} {vs : List Value} {xs : List Str} {n : Nat} {Pf : PySem.Fin → Shared → Prop} (ho : s.heap.get? l = some (seqObj "list" vs.toArray n)) (hS : StrsAre vs xs) (few : vs.length < 64)
    (k : ∀ (out : Array Value) (ys : List Str), StrsAre out.toList ys → ys.Perm xs → sortedS ys = true → Pf (.done (.ret .none)) { s with heap := sortedHeap s.heap l vs out }) : wpAny (model P w) A (Builtin.«list.sort» ⟨[.ref l], []⟩) Pf E s := by
  refine list_sort_treeK strKind_oneLt ho hS.keysOf (fun v1 v2 r e => keyKind_strs (by rw [← e]; exact hS)) few fun st hp hs => ?_
  rcases sorted_out_str hS hp hs with ⟨ys, h1, h2, h3⟩
  exact k _ ys h1 h2 h3
/-- sorted(set of texts) -/
theorem sorted_words {Q : Value → Shared → Prop} (R : SetW w s.heap a ks) (hh : A.handled = none) (few : ks.length < 64)
    (k : ∀ s1 p (out : Array Value) (c : Nat) (ys : List Str), (∀ b o, s.heap.get? b = some o → s1.heap.get? b = some o) → s1.gens = s.gens → s1.os = s.os → s.heap.objs.size ≤ p → s1.heap.get? p = some (seqObj "list" out c) →
      StrsAre out.toList ys → ys.Perm ks → sortedS ys = true → Q (.ref p) s1) : wpAny (model P w) A (call (.builtin "sorted") [.ref a]) Q E s := by
  rcases R with ⟨o, es, ep, t, ho, hx, hd, T⟩
  refine Calls.call_function_entry kind_sorted plain_sorted entry_sorted (args_sorted1 _) ?_
  unfold Builtin.«sorted»
  refine wpAny_bind (m := checkCount "sorted" 1 1 _) (wpAny_pure (wpAny_bind (collect_set (A := A.in1) hh ⟨o, ho, hx.1, hd⟩ T.fit T.few T.ris T.led fun s1 vs k1 z1 g1 o1 pm => ?_)))
  rcases strs_perm pm (words_strs es.toList T.each) with ⟨xs, hS, px⟩
  have pk : xs.Perm ks := px.trans T.keys
  have ln : vs.length = ks.length := by rw [hS.length, pk.length_eq]
  have few2 : vs.length < 64 := by omega
  have hl : (s1.heap.push (seqObj "list" vs.toArray 0)).get? s1.heap.objs.size = some (seqObj "list" vs.toArray 0) := Heap.get?_push_size _ rfl
  refine wpAny_bind (wpAny_newList (wpAny_bind (wpAny_holding (wpAny_call_entry slot_list_sort ⟨_, hl, rfl⟩ entry_list_sort (sort_words hl hS few2 fun out ys h1 h2 h3 => ⟨_, rfl, ?_⟩) (args_list_sort _)))) (by rw [sizeLine_eq]; omega))
  rcases sortedHeap_at (vs := vs) (out := out) hl with ⟨c, hc⟩
  refine wpAny_pure ⟨_, rfl, k _ s1.heap.objs.size out c ys (fun b u e => ?_) g1 o1 z1 hc h1 (h2.trans pk) h3⟩
  have lt := Heap.lt_size (k1 b u e)
  exact (sortedHeap_old (Nat.ne_of_lt lt) (by rw [size_push']; exact Nat.lt_succ_of_lt lt)).trans (Heap.get?_push_of_some _ (k1 b u e))
end
/-! ### the rules: set(xs) of texts, sorted of it, its len -/
/-- the set of texts ks, as it stands at p -/
def WSet (w : World) (p : Addr) (ks : List Str) : HO := .ext fun h => SetW w h p ks
theorem SetW.once {w : World} {h : Heap} {a : Addr} {ks : List Str} (R : SetW w h a ks) : ks.Nodup := by
  rcases R with ⟨_, _, _, _, _, _, _, T⟩
  exact T.once
def rSetW (K : PySem.W.Frag) (w : World) : List V → Hp → VK → Prop := fun vs H Q => ∃ (l : Addr) (xs : List Str), vs = [V.ref l] ∧ (SqL K H l (xs.map V.str) ∨ SqT K H l (xs.map V.str)) ∧ xs.length < 1000 ∧
  ∀ (p : Addr) (ks : List Str), H p = none → ks.Nodup → (∀ y, y ∈ ks ↔ y ∈ xs) → ks.length ≤ xs.length → Q (.ref p) (upd H p (WSet w p ks))
def rSortedW (w : World) : List V → Hp → VK → Prop := fun vs H Q => ∃ (a : Addr) (ks : List Str), vs = [V.ref a] ∧ H a = some (WSet w a ks) ∧ ks.length < 64 ∧
  ∀ (ys : List Str) (p : Addr), ys.Perm ks → sortedS ys = true → H p = none → Q (.ref p) (upd H p (.lst (ys.map V.str)))
def rLenW (w : World) : List V → Hp → VK → Prop := fun vs H Q => ∃ (a : Addr) (ks : List Str), vs = [V.ref a] ∧ H a = some (WSet w a ks) ∧ Q (.int ks.length) H
section
variable {X : Cx}
theorem cr_setW (hc : X.calm = true) : CallR X (.type "set") (rSetW X.K X.w) := by
  intro pins s σ H vs us Q I r h
  rcases h with ⟨l, xs, rfl, hq, few, k⟩
  rw [Vals.ref1 r]
  have fin : ∀ (h1 : Heap) (tk : Nat), SetW X.w h1 s.heap.objs.size (putAll xs) → (∀ b o, s.heap.get? b = some o → h1.get? b = some o) → EP X pins σ Q (.ref s.heap.objs.size) { s with heap := h1, toks := tk } := fun h1 tk R kk =>
    ⟨.ref s.heap.objs.size, upd H s.heap.objs.size (WSet X.w s.heap.objs.size (putAll xs)), I.laid (t' := tk) kk (Nat.le_refl _) ⟨R, let ⟨o, _, _, _, q, _⟩ := R; ⟨o, q⟩, fun g1 g2 q z => q.keep z⟩, rfl,
      k _ _ (I.hok.fresh (Nat.le_refl _)) R.once (fun y => mem_putAll) (len_putAll xs)⟩
  rcases hq with hq | hq
  · rcases I.list hq with ⟨its, rv, pl, _⟩
    exact setOf_list xs (I.ok.hd hc) pl.isList (by simpa using rv.strs) (by unfold scanBound; omega) fin
  · rcases I.tuple hq with ⟨its, rv, pl, _⟩
    exact setOf_tuple xs (I.ok.hd hc) pl (by simpa using rv.strs) (by unfold scanBound; omega) fin
theorem cr_sortedW (hc : X.calm = true) : CallR X (.builtin "sorted") (rSortedW X.w) := by
  intro pins s σ H vs us Q I r h
  rcases h with ⟨a, ks, rfl, ha, few, k⟩
  rw [Vals.ref1 r]
  have R : SetW X.w s.heap a ks := (I.hok a _ ha).1
  refine sorted_words R (I.ok.hd hc) few fun s1 p out c ys kk g o hp hg hS pm so => ?_
  have fr : H p = none := I.hok.fresh hp
  have ln : (ys.map V.str).length ≤ sizeLine := by rw [List.length_map, pm.length_eq]; exact small64 few
  have ok : ObjOk X.prog X.w (upd H p (.lst (ys.map V.str))) s1.heap p (.lst (ys.map V.str)) := ⟨ln, out.toList, c, vals_of_strs hS, hg⟩
  have J : Inv X pins σ (upd H p (.lst (ys.map V.str))) { s with heap := s1.heap, gens := s1.gens, drawn := s1.drawn, toks := s1.toks } :=
    I.call (ch := []) (Un.laid kk hp fr) (I.hok.laid kk hp ok) (by rw [g]; exact I.bare) (fun _ z => nomatch z)
  have e : s1 = { s with heap := s1.heap, gens := s1.gens, drawn := s1.drawn, toks := s1.toks } := by
    cases s1; cases s; cases o; rfl
  rw [e]
  exact ⟨.ref p, _, J, rfl, k ys p pm so fr⟩
end
end Ys
namespace Yr
open PySem PySem.Spec PyProof.Rows L2
section
variable {X : Cx}
/-! ### a power of a great number -/
def CPowB (i j : Int) : Prop := 0 ≤ j ∧ (Builtin.Int.intBits i : Int) * j ≤ 2 ^ 27
theorem op_powB : OpR X (binaryOp .Pow) (rI CPowB fun i j => .int (i ^ j.toNat)) := opI fun _ _ _ _ _ _ _ hc q => pow_int hc.1 hc.2 q
/-! ### for over what is a list or a tuple -/
def iSeq (K : PySem.W.Frag) (tl : TE) : TI := fun σ H R => tl σ H fun x H1 => ∃ a, x = .ref a ∧ (((∃ xs, SqL K H1 a xs) ∧ R (Itl K a) H1) ∨ ((∃ xs, SqT K H1 a xs) ∧ R (Itt K a) H1))
theorem pi_seq {tg l : Expr} {tl : TE} (hl : PE X l tl) : PI X tg l (iSeq X.K tl) := by
  refine ⟨fun pins s σ H R I h => ?_⟩
  refine thn (hl.run pins s σ H _ I h) fun v s1 ⟨x, H1, I1, r1, a, e, q⟩ => ?_
  subst e
  cases r1
  have own : ∀ b ∈ [s1.heap.objs.size], FpOk X pins H1 b := fun b hb => by
    rw [List.mem_singleton.mp hb]
    exact I1.fpOk (Nat.le_refl _) (I1.hok.fresh (Nat.le_refl _))
  rcases q with ⟨⟨xs, hq⟩, q⟩ | ⟨⟨xs, hq⟩, q⟩
  · rcases I1.list hq with ⟨its, rv, p, hz⟩
    exact wpAny_pyIter_list p.isList ⟨s1.heap.objs.size, [s1.heap.objs.size], _, _, H1, rfl, I1.kept (t' := s1.toks) fun b o e => Heap.get?_push_of_some _ e, turn_list a _, ⟨_, Heap.get?_push_size _ rfl, rfl, rfl⟩, own, q⟩
  · rcases I1.tuple hq with ⟨its, rv, p, hz⟩
    exact wpAny_pyIter_tuple (show s1.heap.IsTuple a its.toArray from p) ⟨s1.heap.objs.size, [s1.heap.objs.size], _, _, H1, rfl, I1.kept (t' := s1.toks) fun b o e => Heap.get?_push_of_some _ e, turn_tuple a _, ⟨_, Heap.get?_push_size _ rfl, rfl, rfl⟩, own, q⟩
/-! ### list.count of texts -/
def rCntS (K : PySem.W.Frag) : V → List V → Hp → VK → Prop := fun x xs H Q => ∃ (p : Addr) (ys : List Str) (z : Str), x = .ref p ∧ xs = [.str z] ∧ SqL K H p (ys.map V.str) ∧ Q (.int (ys.count z : Nat)) H
theorem eqU_word (z : Str) {y : Str} {u : Value} (r : RelV (.str y) u) : eqU (.str z) u = (y == z) := by
  obtain ⟨t, rfl⟩ := r
  rfl
theorem count_words (z : Str) : ∀ {ys : List Str} {us : List Value}, Vals (ys.map V.str) us → us.countP (eqU (.str z)) = ys.count z
  | [], _, .nil => rfl
  | y :: ys, _, .cons r t => by
    rw [List.countP_cons, List.count_cons, eqU_word z r, count_words z t]
theorem mt_lcountS : MtR X "list.count" (rCntS X.K) := by
  intro pins s σ H x xs v us Q I rx rxs h
  rcases h with ⟨p, ys, z, rfl, rfl, hs, q⟩
  cases rx
  obtain ⟨u, rfl, t, rfl⟩ := vals1 rxs
  rcases I.list hs with ⟨its, rv, ⟨⟨_, dd, _, sl⟩, n, ho, hc, hdn, hd⟩, hz⟩
  simp only at hc hd
  subst hc hd
  refine call_meets PySem.F.slot_list_count ⟨_, ho, rfl⟩ PySem.F.entry_list_count (PySem.F.args_list_count_2 _ _) (SeqAt.list_countAt p its.toArray n dd sl (.str z t) (eqU (.str z)))
    ⟨ho, fun y hy => mem_eqAt (x := .str z) ⟨t, rfl⟩ rfl rv (by rw [List.all_map]; exact List.all_eq_true.mpr fun _ _ => rfl) y (by simpa using hy), .int (ys.count z : Nat), H, I.tok _, ⟨s.toks, ?_⟩, q⟩
  have e : its.toArray.toList.countP (eqU (.str z)) = ys.count z := count_words z rv
  rw [e]
/-! ### len of an instance with its own __len__ -/
def rLenOwn (C : Addr) (sp : Sp) (E : XK) : List V → Hp → VK → Prop := fun xs H Q => ∃ a dx fs, xs = [V.ref a] ∧ H a = some (.ins C dx fs) ∧ sp [.ref a] H (fun z H' => ∃ i, z = .int i ∧ 0 ≤ i ∧ i < 2 ^ 63 ∧ Q z H') E
theorem call_lenOwn {C g : Addr} {n : Nat} {sp : Sp} {E : XK} {CX : CXT} (hs : PySem.W.findIn X.K (.ref C) "__len__" = some (some (.ref g))) (hf : PySem.W.isFn X.K (.ref g) = true) (F : FnR X.prog X.w X.K X.mg X.base CX n g sp) (hr : Room (n + 1) X.A) (hx : Passes CX X E) :
    CallR X (.builtin "len") (rLenOwn C sp E) := by
  intro pins s σ H xs us Q I r h
  rcases h with ⟨a, dx, fs, rfl, ha, q⟩
  obtain ⟨u, rfl, ru⟩ := r.one
  cases (show u = Value.ref a from ru)
  rcases ins_get I.hok ha with ⟨mA, O, _⟩
  rcases O.look with ⟨od, J, _⟩
  refine Calls.call_function_entry kind_len plain_len entry_len (args_len1 _) ?_
  unfold Builtin.«len»
  refine wpAny_bind (m := oneArg "len" _) (wpAny_pure (wpAny_bind (m := callSpecial? (.ref a) (Str.ofString "__len__")) (PySem.W.special_fn I.kIn J hs (beq_iff_eq.mp hf) ?_)))
  refine wpAny_mono (wpAny_call (SlX.run_at (us := [.ref a]) (ws := [.ref a]) F hr.in1 I.env0.in1 hx I (.cons rfl .nil) q)) (fun w s1 z => ?_) fun _ _ x => x
  rcases z with ⟨_, H1, I1, rz, i, rfl, h0, h1, q1⟩
  obtain ⟨t, rfl⟩ := rz
  refine wpAny_bind (wpAny_holding (wpAny_pure (wpAny_bind (wpAny_letGo ?_))))
  show wpAny _ _ (if i < 0 then _ else _) _ _ _
  rw [if_neg (by omega)]
  show wpAny _ _ (if i ≥ 2 ^ 63 then _ else _) _ _ _
  rw [if_neg (by omega)]
  exact wpAny_bind (wpAny_mkInt (wpAny_pure ⟨_, rfl, .int i, H1, I1.tok _, ⟨_, rfl⟩, q1⟩))
end
/-! ### enumerate over a tuple, and from a start -/
/-- what stands at a (told by Sq) as it stands at each turn, each item in a new pair, counted from k -/
def Itn (Sq : Hp → List V → Prop) (k : Int) : It :=
  ⟨fun i H => ∃ (xs : List V) (x : V), Sq H xs ∧ xs[i]? = some x, fun i H v H' => ∃ T x, v = .ref T ∧ H T = none ∧ H' = upd H T (.tup [.int (k + (i : Nat)), x]) ∧ ∀ xs, Sq H xs → xs[i]? = some x, fun i H => ∃ xs : List V, Sq H xs ∧ xs.length = i⟩
theorem walk_num {Sq : Hp → List V → Prop} {k : Int} {xs : List V} : Walk (Itn Sq k) xs.length (fun H => Sq H xs) (YPair (fun i => some (.int (k + (i : Nat)))) (fun i => xs[i]?)) :=
  ⟨fun i _ hi q => ⟨xs, xs[i], q, by simp [hi]⟩, fun _ q => ⟨xs, q, rfl⟩, fun i H v H' _ q ⟨T, x, h1, h2, h3, h4⟩ => ⟨T, .int (k + (i : Nat)), x, h1, h2, h3, rfl, h4 xs q⟩⟩
theorem turn_num {P : Program} {w : World} {K : PySem.W.Frag} {elts : List Expr} {kk : Nat} {tpos : Pos} (Sq : Hp → List V → Prop) (k : Int) (a e it : Addr) (At : Heap → Nat → Prop) (Src : Heap → Array Value → Prop)
    (hat : ∀ h i, At h i → ∃ o, h.get? it = some o ∧ ∀ v, o.data ≠ .cell v) (hkeep : ∀ h h' i, At h i → (∀ o, h.get? it = some o → h'.get? it = some o) → At h' i)
    (hD : ∀ (A : Around) (its : Array Value), A.handled = none → a ≠ it → Draws P w A it [it, a] its.size (fun i v => its[i]? = some v) (fun i h => At h i ∧ Src h its))
    (hI : ∀ (X : Cx), X.prog = P → X.w = w → X.K = K → ∀ pins σ H s xs, Inv X pins σ H s → Sq H xs → ∃ its : List Value, Vals xs its ∧ Src s.heap its.toArray)
    (hU : ∀ (X : Cx), X.prog = P → X.w = w → X.K = K → ∀ pins σ H s xs ys, Inv X pins σ H s → Sq H xs → Sq H ys → xs = ys) :
    Turn P w K (.Tuple elts kk tpos) (Itn Sq k) [e, it] e (fun i h => (∃ old, IsEnum h e it (k + (i : Nat)) old) ∧ At h i ∧ e ≠ it ∧ e ≠ a ∧ a ≠ it) where
  mem := List.mem_cons_self
  obj := fun i h st b hb => by
    rcases st with ⟨⟨old, he⟩, hit, _⟩
    rcases List.mem_cons.mp hb with z | z
    · rw [z]; exact ⟨_, he, fun v q => nomatch q⟩
    · rw [List.mem_singleton.mp z]; exact hat h i hit
  keep := fun i h h' ⟨⟨old, he⟩, hit, n⟩ kp => ⟨⟨old, kp e List.mem_cons_self _ he⟩, hkeep h h' i hit fun o q => kp it (List.mem_cons_of_mem _ List.mem_cons_self) o q, n⟩
  item := by
    intro X hP hw hK hc i pins s σ H E I hf st hg
    rcases st with ⟨⟨old, he⟩, hit, n1, n2, n3⟩
    rcases hg with ⟨xs, x, hq, hx⟩
    rcases hI X hP hw hK pins σ H s xs I hq with ⟨its, rv, hs⟩
    rcases rv.get hx with ⟨u, hu, ru⟩
    have hd1 : X.A.in1.handled = none := I.ok.hd hc
    have le : e < s.heap.objs.size := Heap.lt_size he
    have li : it < s.heap.objs.size := by
      rcases hat _ _ hit with ⟨_, q, _⟩
      exact Heap.lt_size q
    have hlt : i < its.toArray.size := by simpa using (List.getElem?_eq_some_iff.mp hu).1
    refine wpAny_pyNext_enum_itemC (hD X.A.in1 its.toArray hd1 n3) he ⟨hit, hs⟩ hlt n1 (by simp [n1, n2]) fun y h1 tk hy ho hst hT hz kk => ?_
    have ey : y = u := by
      have e1 : its.toArray[i]? = some u := by simpa using hu
      exact Option.some.inj (hy.symm.trans e1)
    subst ey
    refine ⟨_, rfl, wpAny_letOwnedTupleGo_enum (s := { s with heap := h1, toks := tk + 1 }) ho fun h2 he2 sb => ?_⟩
    have hT2 : h2.get? s.heap.objs.size = some { cls := .type "tuple", data := .seq #[.int (k + (i : Nat)) tk, y] } := (sb.2 _ (Nat.ne_of_gt le)).trans hT
    have new : ObjOk X.prog X.w (upd H s.heap.objs.size (.tup [.int (k + (i : Nat)), x])) h2 s.heap.objs.size (.tup [.int (k + (i : Nat)), x]) :=
      ⟨by show 2 ≤ sizeLine; decide, [.int (k + (i : Nat)) tk, y], .cons ⟨_, rfl⟩ (.cons ru .nil), ⟨_, hT2, rfl, _, rfl⟩⟩
    have J : Inv X pins σ (upd H s.heap.objs.size (.tup [.int (k + (i : Nat)), x])) { s with heap := h2, toks := tk + 1 } :=
      I.turnedNew (ch := [e, it]) (fun b ob hb q => (sb.2 b (fun z => hb (by simp [z]))).trans (kk b ob (fun z => hb (by simp [z])) (fun z => hb (by simp [z])) q)) hf (Nat.le_refl _) new
    refine ⟨.ref s.heap.objs.size, _, J, rfl, ⟨_, x, rfl, I.hok.fresh (Nat.le_refl _), rfl, fun ys hys => by rw [hU X hP hw hK pins σ H s ys xs I hys hq]; exact hx⟩, ⟨⟨y, ?_⟩, hkeep h1 h2 (i + 1) hst.1 fun o q => (sb.2 it (Ne.symm n1)).trans q, n1, n2, n3⟩, fun b hb => ?_⟩
    · have e1 : k + ((i + 1 : Nat) : Int) = k + (i : Nat) + 1 := by omega
      rw [e1]; exact he2
    · rw [upd_ne (Nat.ne_of_lt ?_)]
      · exact (hf b hb).1
      · rcases List.mem_cons.mp hb with z | z
        · rw [z]; exact le
        · rw [List.mem_singleton.mp z]; exact li
  done := by
    intro X hP hw hK hc i pins s σ H E I hf st hg
    rcases st with ⟨⟨old, he⟩, hit, n1, n2, n3⟩
    rcases hg with ⟨xs, hq, hx⟩
    rcases hI X hP hw hK pins σ H s xs I hq with ⟨its, rv, hs⟩
    rcases hf it (by simp) with ⟨f0, f1, f2, f3, f4, f5⟩
    have hl := rv.length
    have hd1 : X.A.in1.handled = none := I.ok.hd hc
    have en : i = its.toArray.size := by simp; omega
    rw [en] at he hit
    exact wpAny_pyNext_enum_endD (hD X.A.in1 its.toArray hd1 n3) he ⟨hit, hs⟩ fun h' eb => ⟨rfl, I.turned (t' := s.toks) (fun b o hb q => eb b o hb q) f0 f1 f3 f4 f5⟩
  self := fun A i s Q E ⟨⟨_, he⟩, _⟩ h => wpAny_pyIter_enum he h
def iNumT (K : PySem.W.Frag) (k : Int) (ta : TA) : TI := fun σ H R => ta σ H fun vs H1 => ∃ a xs, vs = [.ref a] ∧ SqT K H1 a xs ∧ R (Itn (fun H' ys => SqT K H' a ys) k) H1
def iNumL (K : PySem.W.Frag) (k : Int) (ta : TA) : TI := fun σ H R => ta σ H fun vs H1 => ∃ a xs, vs = [.ref a] ∧ SqL K H1 a xs ∧ R (Itn (fun H' ys => SqL K H' a ys) k) H1
section
variable {X : Cx} {elts : List Expr} {kk : Nat} {p pos tpos : Pos} {e : Expr} {ta : TA}
theorem turnT {P : Program} {w : World} {K : PySem.W.Frag} (k : Int) (a q it : Addr) : Turn P w K (.Tuple elts kk tpos) (Itn (fun H ys => SqT K H a ys) k) [q, it] q (fun i h => (∃ old, IsEnum h q it (k + (i : Nat)) old) ∧ h.IsTupleIter it a i ∧ q ≠ it ∧ q ≠ a ∧ a ≠ it) :=
  turn_num (fun H ys => SqT K H a ys) k a q it (fun h i => h.IsTupleIter it a i) (fun h its => h.IsTuple a its) (fun h i ⟨o, ho, _, hd⟩ => ⟨o, ho, fun v q => by rw [hd] at q; cases q⟩) (fun _ _ _ x kp => x.at kp)
    (fun A its hh n => Draws.tuple hh it a n its) (fun X _ _ hK pins σ H s xs I hq => by
      subst hK
      rcases I.tuple hq with ⟨its, rv, pl, _⟩
      exact ⟨its, rv, pl⟩) (fun X _ _ hK pins σ H s xs ys I h1 h2 => by
      subst hK
      exact I.tuple_inj h1 h2)
theorem turnL {P : Program} {w : World} {K : PySem.W.Frag} (k : Int) (a q it : Addr) : Turn P w K (.Tuple elts kk tpos) (Itn (fun H ys => SqL K H a ys) k) [q, it] q (fun i h => (∃ old, IsEnum h q it (k + (i : Nat)) old) ∧ h.IsListIter it a i ∧ q ≠ it ∧ q ≠ a ∧ a ≠ it) :=
  turn_num (fun H ys => SqL K H a ys) k a q it (fun h i => h.IsListIter it a i) (fun h its => h.IsList a its) (fun h i ⟨o, ho, _, hd⟩ => ⟨o, ho, fun v q => by rw [hd] at q; cases q⟩) (fun _ _ _ x kp => x.at kp)
    (fun A its hh n => Draws.list hh it a n its) (fun X _ _ hK pins σ H s xs I hq => by
      subst hK
      rcases I.list hq with ⟨its, rv, pl, _⟩
      exact ⟨its, rv, pl.isList⟩) (fun X _ _ hK pins σ H s xs ys I h1 h2 => by
      subst hK
      exact I.list_inj h1 h2)
theorem num_new {v : Value} {o : Obj} {Z : Heap → Prop} (B : Begins v o Z) : Meets (Builtin.«enumerate.__new__» ⟨[.type "enumerate", v], []⟩) (fun _ R s => Z s.heap ∧
    R (.ok (.ret (.ref (s.heap.push o).objs.size))) { s with heap := (s.heap.push o).push { cls := .type "enumerate", data := .fields #[.none, .bool false, .ref s.heap.objs.size, rawInt 0, .none, .none] } }) :=
  .of_wp fun P w A R s h => by
    rcases s with ⟨hp, g, d, tk, os⟩
    rcases h with ⟨h1, h2⟩
    have sub := sub_enumerate
    have it : ∀ {A1 : Around} {E : Value → Shared → Prop} {Q : Value → Shared → Prop}, Q (.ref hp.objs.size) ⟨hp.push o, g, d, tk, os⟩ → wpAny (model P w) A1 (pyIter v) Q E ⟨hp, g, d, tk, os⟩ :=
      fun q => B.iter P w _ _ ⟨hp, g, d, tk, os⟩ _ h1 q
    wp_walk using it
    refine wpAny_stack_any fun st => wpAny_pure ?_
    split
    · rename_i c _ _ _ _ _
      cases (c == Value.type "enumerate") <;> (wp_walk using it; exact ⟨_, rfl, h2⟩)
    · wp_walk using it
      exact ⟨_, rfl, h2⟩
theorem num_begins {prog : Program} {w : World} {A : Around} {E : Value → Shared → Prop} {s : Shared} {v : Value} {o : Obj} {Z : Heap → Prop} {Q : Value → Shared → Prop} (B : Begins v o Z) (h1 : Z s.heap)
    (h : ∀ h', IsEnum h' (s.heap.objs.size + 1) s.heap.objs.size 0 .none → h'.get? s.heap.objs.size = some o → (∀ b u, s.heap.get? b = some u → h'.get? b = some u) → Q (.ref (s.heap.objs.size + 1)) { s with heap := h' }) :
    wpAny (model prog w) A (call (.type "enumerate") [v]) Q E s := by
  refine callType_new F.called_enumerate (by decide) (F.typeCall_enumerate_1 _) (F.newCall_enumerate_1 _) (fun obj => F.args_object_init_2 obj _) F.entry_enumerate_new (num_new B) ⟨h1, ?_⟩
  have z1 : (s.heap.push o).objs.size = s.heap.objs.size + 1 := Heap.size_push ..
  show _ ∧ _
  rw [z1]
  have e : IsEnum ((s.heap.push o).push { cls := .type "enumerate", data := .fields #[.none, .bool false, .ref s.heap.objs.size, rawInt 0, .none, .none] }) (s.heap.objs.size + 1) s.heap.objs.size 0 .none := by
    have q := Heap.get?_push_size (s.heap.push o) (o := { cls := .type "enumerate", data := .fields #[.none, .bool false, .ref s.heap.objs.size, rawInt 0, .none, .none] }) rfl
    rwa [z1] at q
  exact ⟨⟨_, e, rfl⟩, h _ e (Heap.get?_push_of_some _ (Heap.get?_push_size _ B.free)) fun b u q => Heap.get?_push_of_some _ (Heap.get?_push_of_some _ q)⟩
/-- the two new cells of an enumerate: nothing that H tells stands there -/
theorem num_pie {pins : List (Addr × Obj)} {σ : L2.St} {H : Hp} {s : Shared} {R : It → Hp → Prop} {E : Value → Shared → Prop} {J : It} {a : Addr} {k : Int} {h' : Heap} {At : Heap → Nat → Prop} (I : Inv X pins σ H s) (la : a < s.heap.objs.size)
    (he : IsEnum h' (s.heap.objs.size + 1) s.heap.objs.size k .none) (hk : ∀ b u, s.heap.get? b = some u → h'.get? b = some u) (hat : At h' 0)
    (T : Turn X.prog X.w X.K (.Tuple elts kk tpos) J [s.heap.objs.size + 1, s.heap.objs.size] (s.heap.objs.size + 1) (fun i h => (∃ old, IsEnum h (s.heap.objs.size + 1) s.heap.objs.size (k + (i : Nat)) old) ∧ At h i ∧ s.heap.objs.size + 1 ≠ s.heap.objs.size ∧ s.heap.objs.size + 1 ≠ a ∧ a ≠ s.heap.objs.size)) (q : R J H) :
    wpAny (model X.prog X.w) X.A (pyIter (.ref (s.heap.objs.size + 1))) (PIE X pins σ (.Tuple elts kk tpos) R) E { s with heap := h' } := by
  refine wpAny_pyIter_enum he ⟨s.heap.objs.size + 1, [s.heap.objs.size + 1, s.heap.objs.size], _, _, H, rfl, I.kept (t' := s.toks) hk, T, ⟨⟨.none, ?_⟩, hat, Nat.succ_ne_self _, Nat.ne_of_gt (Nat.lt_succ_of_lt la), Nat.ne_of_lt la⟩, fun b hb => ?_, q⟩
  · have e : k + ((0 : Nat) : Int) = k := by simp
    rw [e]; exact he
  · have le : s.heap.objs.size ≤ b := by
      rcases List.mem_cons.mp hb with z | z
      · rw [z]; exact Nat.le_succ _
      · rw [List.mem_singleton.mp z]; exact Nat.le_refl _
    exact I.fpOk le (I.hok.fresh le)
theorem pi_enumT (hg : Gl X "enumerate") (hm : X.mg "enumerate" = none) (ha : PA X [e] ta) (hs : starEach [e] X.env = [(false, eval e X.env)] := by rfl) : PI X (.Tuple elts kk tpos) (.Call (.Name "enumerate" p) [e] [] pos) (iNumT X.K 0 ta) := by
  refine ⟨fun pins s σ H R I h => ?_⟩
  refine Call_ (ld_blt I hg hm boot_enumerate (PyProof.Rows.callWith_type1 (thn (ha.run pos pins s σ H _ I h) fun us s1 ⟨vs, H1, I1, r1, a, xs, ex, hq, q⟩ => ?_) hs rfl))
  subst ex
  rw [Vals.ref1 r1]
  rcases I1.tuple hq with ⟨its, rv, pl, _⟩
  have la : a < s1.heap.objs.size := pl.lt
  exact num_begins (begins_tuple a its.toArray) pl fun h' he ho hk => num_pie I1 la he hk (At := fun h i => h.IsTupleIter s1.heap.objs.size a i) ⟨_, ho, rfl, rfl⟩ (turnT 0 a _ _) q
theorem pi_enumS {c : Int} {j : Nat} {kp cp : Pos} (h0 : 0 ≤ c) (h1 : c < 1000) (hg : Gl X "enumerate") (hm : X.mg "enumerate" = none) (ha : PA X [e] ta) (hs : starEach [e] X.env = (false, eval e X.env) :: starEach [] X.env := by rfl)
    (hall : (backToKw pos (keywordEach [⟨some "start", .Constant (.int c) j cp, kp⟩] X.env)).all (·.1.isSome) = true := by rfl) (hks : (backToKw pos (keywordEach [⟨some "start", .Constant (.int c) j cp, kp⟩] X.env)).filterMap (·.1) = [("start" : Str)] := by rfl)
    (hpl : ((backTo pos (starEach [e] X.env)).any (·.1) || (backToKw pos (keywordEach [⟨some "start", .Constant (.int c) j cp, kp⟩] X.env)).any (·.1.isNone)) = false := by rfl) :
    PI X (.Tuple elts kk tpos) (.Call (.Name "enumerate" p) [e] [⟨some "start", .Constant (.int c) j cp, kp⟩] pos) (iNumL X.K c ta) := by
  refine ⟨fun pins s σ H R I h => ?_⟩
  refine wpAny_Call_Name_kw (ld_blt I hg hm boot_enumerate ?_)
  refine PySem.W.callWith_of (P := fun _ => True) hpl (fun _ _ => ⟨_, .inr (.inl rfl), PySem.W.Looks.of_pure rfl⟩) (evalArgs_kw2 hall (thn (ha.run pos pins s σ H _ I h) fun us s1 ⟨vs, H1, I1, r1, a, xs, ex, hq, q⟩ => ?_) hs)
  refine thn ((pk_cons (X := X) (nm := some "start") (kpos := kp) (pe_int (i := c) (j := j) (pos := cp)) pk_nil).run pos pins s1 σ H1 (fun zs H2 => zs = [.int c] ∧ H2 = H1) I1 ⟨rfl, rfl⟩) fun ws s2 ⟨zs, H2, I2, rz, ez, eh⟩ => ⟨trivial, ?_⟩
  subst ex ez eh
  rw [hks, Vals.ref1 r1]
  obtain ⟨w1, rfl, t1, rfl⟩ := vals1 rz
  rcases I2.list hq with ⟨its, rv, pl, _⟩
  have la : a < s2.heap.objs.size := by
    rcases pl with ⟨o, n, ho, _⟩
    exact Heap.lt_size ho
  exact enum_begins_start (begins_list a its.toArray) pl.isList (by omega) (by omega) fun h' he ho _ hk => num_pie I2 la he hk (At := fun h i => h.IsListIter s2.heap.objs.size a i) ⟨_, ho, rfl, rfl⟩ (turnL c a _ _) q
end
end Yr
/-! the frame of my readings: G what is data, H the heap; L what a call may change -/
namespace Fw
open PySem PySem.Spec PyProof.Rows L2
structure Go (L : List Addr) (G H G1 H1 : Hp) : Prop where
  g : Same G G1
  h : Same G1 H1
  k : ∀ a o, a ∉ L → H a = some o → H1 a = some o
  n : ∀ a, H a ≠ none → G a = none → G1 a = none
  l : ∀ a, H a ≠ none → H1 a ≠ none
section
variable {L : List Addr} {G H G1 H1 G2 H2 : Hp} {p : Addr} {o : HO}
theorem ne_some {H : Hp} {p : Addr} {o : HO} (h : H p = some o) : H p ≠ none := by
  rw [h]
  exact fun z => nomatch z
theorem Go.refl (h : Same G H) : Go L G H G H := ⟨Same.refl G, h, fun _ _ _ e => e, fun _ _ e => e, fun _ e => e⟩
theorem Go.trans (a : Go L G H G1 H1) (b : Go L G1 H1 G2 H2) : Go L G H G2 H2 :=
  ⟨a.g.trans b.g, b.h, fun x o m e => b.k x o m (a.k x o m e), fun x e z => b.n x (a.l x e) (a.n x e z), fun x e => b.l x (a.l x e)⟩
theorem Go.wide (a : Go [] G H G1 H1) : Go L G H G1 H1 := ⟨a.g, a.h, fun x o _ e => a.k x o (by simp) e, a.n, a.l⟩
theorem Go.all (a : Go [] G H G1 H1) : Same H H1 := fun x o e => a.k x o (by simp) e
theorem Go.fresh (a : Go L G H G1 H1) (hp : H1 p = none) : H p = none := by
  cases q : H p with
  | none => rfl
  | some o => exact absurd hp (a.l p (ne_some q))
theorem Go.gnone (a : Go L G H G1 H1) (hp : H1 p = none) : G1 p = none := a.h.free hp
/-- a new object that is data -/
theorem Go.new (a : Go L G H G1 H1) (hp : H1 p = none) : Go L G H (upd G1 p o) (upd H1 p o) := by
  have gp := a.gnone hp
  refine ⟨fun x u e => ?_, fun x u e => ?_, fun x u m e => ?_, fun x e z => ?_, fun x e => ?_⟩
  · have q := a.g x u e
    rw [upd_ne (ne_of_none q gp)]; exact q
  · by_cases hx : x = p
    · subst hx; rw [upd_same] at e ⊢; exact e
    · rw [upd_ne hx] at e ⊢; exact a.h x u e
  · have q := a.k x u m e
    rw [upd_ne (ne_of_none q hp)]; exact q
  · have hx : x ≠ p := fun z2 => a.l x e (by rw [z2]; exact hp)
    rw [upd_ne hx]; exact a.n x e z
  · by_cases hx : x = p
    · subst hx; rw [upd_same]; exact fun z => nomatch z
    · rw [upd_ne hx]; exact a.l x e
/-- a new object of the call's own -/
theorem Go.tmp (a : Go L G H G1 H1) (hp : H1 p = none) : Go L G H G1 (upd H1 p o) := by
  have gp := a.gnone hp
  refine ⟨a.g, fun x u e => ?_, fun x u m e => ?_, a.n, fun x e => ?_⟩
  · rw [upd_ne (ne_of_none e gp)]; exact a.h x u e
  · have q := a.k x u m e
    rw [upd_ne (ne_of_none q hp)]; exact q
  · by_cases hx : x = p
    · subst hx; rw [upd_same]; exact fun z => nomatch z
    · rw [upd_ne hx]; exact a.l x e
/-- an object changes that is no data, and not what stood (or is let change) -/
theorem Go.mut (a : Go L G H G1 H1) (gp : G1 p = none) (hp : H p = none ∨ p ∈ L) : Go L G H G1 (upd H1 p o) := by
  refine ⟨a.g, fun x u e => ?_, fun x u m e => ?_, a.n, fun x e => ?_⟩
  · rw [upd_ne (ne_of_none e gp)]; exact a.h x u e
  · have hx : x ≠ p := fun z => by
      rcases hp with q | q
      · rw [z, q] at e; cases e
      · exact m (z ▸ q)
    rw [upd_ne hx]; exact a.k x u m e
  · by_cases hx : x = p
    · subst hx; rw [upd_same]; exact fun z => nomatch z
    · rw [upd_ne hx]; exact a.l x e
/-- an object of the call's own becomes data -/
theorem Go.frz (a : Go L G H G1 H1) (hp : H p = none) (e1 : H1 p = some o) (gp : G1 p = none) : Go L G H (upd G1 p o) H1 := by
  refine ⟨fun x u e => ?_, fun x u e => ?_, a.k, fun x e z => ?_, a.l⟩
  · have q := a.g x u e
    rw [upd_ne (ne_of_none q gp)]; exact q
  · by_cases hx : x = p
    · subst hx; rw [upd_same] at e; rw [← e]; exact e1
    · rw [upd_ne hx] at e; exact a.h x u e
  · have hx : x ≠ p := fun z2 => e (by rw [z2]; exact hp)
    rw [upd_ne hx]; exact a.n x e z
/-- a call from (G1, H1), told from there -/
theorem Go.call (a : Go L G H G1 H1) (b : Go [] G1 H1 G2 H2) : Go L G H G2 H2 := a.trans b.wide
theorem Go.to (a : Go [] G1 H1 G2 H2) {q : Addr} {u : HO} (e : H1 q = some u) : H2 q = some u := a.k q u (by simp) e
theorem Go.none (a : Go L G1 H1 G2 H2) {q : Addr} {u : HO} (e : H1 q = some u) (z : G1 q = none) : G2 q = none := a.n q (ne_some e) z
end
/-! ### data and what stands for it -/
abbrev R (α : Type) := Hp → V → α → Prop
class Mo {α : Type} (r : R α) : Prop where
  up : ∀ {H H1 v x}, Same H H1 → r H v x → r H1 v x
def rS : R Str := fun _ v x => v = .str x
def rI : R Int := fun _ v x => v = .int x
def rB : R Bool := fun _ v x => v = .bl x
def rT (K : PySem.W.Frag) {α : Type} (r : R α) : R (List α) := fun H v xs => ∃ a ts, v = .ref a ∧ SqT K H a ts ∧ Paired (r H) ts xs
def rL (K : PySem.W.Frag) {α : Type} (r : R α) : R (List α) := fun H v xs => ∃ a ts, v = .ref a ∧ SqL K H a ts ∧ Paired (r H) ts xs
def rQ (K : PySem.W.Frag) {α : Type} (r : R α) : R (List α) := fun H v xs => rL K r H v xs ∨ rT K r H v xs
instance : Mo rS := ⟨fun _ h => h⟩
instance : Mo rI := ⟨fun _ h => h⟩
instance : Mo rB := ⟨fun _ h => h⟩
theorem seqT {K : PySem.W.Frag} {H H1 : Hp} {a : Addr} {xs : List V} (e : Same H H1) (h : SqT K H a xs) : SqT K H1 a xs := by
  rcases h with (h | ⟨o, h⟩) | h
  · exact .inl (.inl (e _ _ h))
  · exact .inl (.inr ⟨o, e _ _ h⟩)
  · exact .inr h
instance {K : PySem.W.Frag} {α : Type} {r : R α} [Mo r] : Mo (rT K r) := ⟨fun e ⟨a, ts, h1, h2, h3⟩ => ⟨a, ts, h1, seqT e h2, L2.Paired.mapP h3 fun _ _ z => Mo.up e z⟩⟩
instance {K : PySem.W.Frag} {α : Type} {r : R α} [Mo r] : Mo (rL K r) := ⟨fun e ⟨a, ts, h1, h2, h3⟩ => ⟨a, ts, h1, e.seq h2, L2.Paired.mapP h3 fun _ _ z => Mo.up e z⟩⟩
instance {K : PySem.W.Frag} {α : Type} {r : R α} [Mo r] : Mo (rQ K r) := ⟨fun e h => h.imp (Mo.up e) (Mo.up e)⟩
section
variable {α : Type} {F : V → α → Prop}
theorem pLen {ts : List V} {xs : List α} (h : Paired F ts xs) : ts.length = xs.length := Paired.length h
theorem pAt : ∀ {ts : List V} {xs : List α} {i : Nat} {t : V}, Paired F ts xs → ts[i]? = some t → ∃ x, xs[i]? = some x ∧ F t x
  | _, _, _, _, .nil, e => by simp at e
  | _, _, 0, _, .cons r _, e => ⟨_, rfl, by simp at e; rw [← e]; exact r⟩
  | _, _, i + 1, t, .cons _ q, e => by
    rcases pAt (i := i) (t := t) q (by simpa using e) with ⟨x, h1, h2⟩
    exact ⟨x, by simpa using h1, h2⟩
theorem pGet : ∀ {ts : List V} {xs : List α} {i : Nat} {x : α}, Paired F ts xs → xs[i]? = some x → ∃ t, ts[i]? = some t ∧ F t x
  | _, _, _, _, .nil, e => by simp at e
  | _, _, 0, _, .cons r _, e => ⟨_, rfl, by simp at e; rw [← e]; exact r⟩
  | _, _, i + 1, t, .cons _ q, e => by
    rcases pGet (i := i) (x := t) q (by simpa using e) with ⟨x, h1, h2⟩
    exact ⟨x, by simpa using h1, h2⟩
theorem pSnoc : ∀ {ts : List V} {xs : List α} {t : V} {x : α}, Paired F ts xs → F t x → Paired F (ts ++ [t]) (xs ++ [x])
  | _, _, _, _, .nil, h => .cons h .nil
  | _, _, _, _, .cons r q, h => .cons r (pSnoc q h)
theorem pApp : ∀ {ts us : List V} {xs ys : List α}, Paired F ts xs → Paired F us ys → Paired F (ts ++ us) (xs ++ ys)
  | _, _, _, _, .nil, h => h
  | _, _, _, _, .cons r q, h => .cons r (pApp q h)
end
theorem pS {H : Hp} : ∀ {ts : List V} {xs : List Str}, Paired (rS H) ts xs → ts = xs.map V.str
  | _, _, .nil => rfl
  | _, _, .cons r q => by
    have e : _ = V.str _ := r
    rw [e, pS q]; rfl
theorem sP {H : Hp} : ∀ (xs : List Str), Paired (rS H) (xs.map V.str) xs
  | [] => .nil
  | x :: xs => .cons rfl (sP xs)
theorem pI {H : Hp} : ∀ {ts : List V} {xs : List Int}, Paired (rI H) ts xs → ts = xs.map V.int
  | _, _, .nil => rfl
  | _, _, .cons r q => by
    have e : _ = V.int _ := r
    rw [e, pI q]; rfl
theorem iP {H : Hp} : ∀ (xs : List Int), Paired (rI H) (xs.map V.int) xs
  | [] => .nil
  | x :: xs => .cons rfl (iP xs)
theorem rTs {K : PySem.W.Frag} {H : Hp} {v : V} {xs : List Str} : rT K rS H v xs ↔ ∃ a, v = .ref a ∧ SqT K H a (xs.map V.str) :=
  ⟨fun ⟨a, ts, h1, h2, h3⟩ => ⟨a, h1, pS h3 ▸ h2⟩, fun ⟨a, h1, h2⟩ => ⟨a, _, h1, h2, sP xs⟩⟩
theorem rLs {K : PySem.W.Frag} {H : Hp} {v : V} {xs : List Str} : rL K rS H v xs ↔ ∃ a, v = .ref a ∧ SqL K H a (xs.map V.str) :=
  ⟨fun ⟨a, ts, h1, h2, h3⟩ => ⟨a, h1, pS h3 ▸ h2⟩, fun ⟨a, h1, h2⟩ => ⟨a, _, h1, h2, sP xs⟩⟩
/-! ### promises -/
def Ret {α : Type} (G H : Hp) (Q : VK) (r : R α) (x : α) : Prop := ∀ v G1 H1, Go [] G H G1 H1 → r G1 v x → Q v H1
abbrev Sp1 (p : V → Hp → VK → XK → Prop) : Sp := fun vs H Q E => ∃ x, vs = [x] ∧ p x H Q E
abbrev Sp2 (p : V → V → Hp → VK → XK → Prop) : Sp := fun vs H Q E => ∃ x y, vs = [x, y] ∧ p x y H Q E
abbrev Sp3 (p : V → V → V → Hp → VK → XK → Prop) : Sp := fun vs H Q E => ∃ x y z, vs = [x, y, z] ∧ p x y z H Q E
abbrev Sp4 (p : V → V → V → V → Hp → VK → XK → Prop) : Sp := fun vs H Q E => ∃ x y z t, vs = [x, y, z, t] ∧ p x y z t H Q E
abbrev Sp5 (p : V → V → V → V → V → Hp → VK → XK → Prop) : Sp := fun vs H Q E => ∃ x y z t u, vs = [x, y, z, t, u] ∧ p x y z t u H Q E
/-- a def of the text, where its name leads, how its arguments bind -/
def FunAt (K : PySem.W.Frag) (mg : Str → Option Value) (x : Str) (st : Stmt) (ps : List Str) : Prop := ∃ f fd, Fun K x x st f fd ∧ mg x = some (.ref f) ∧ Binds K fd ps []
/-- a def that keeps its promise, as its callers want it -/
def Cal (P : Program) (w : World) (K : PySem.W.Frag) (mg : Str → Option Value) (base : Heap) (CX : CXT) (x : Str) (k : Nat) (ps : List Str) (dvs : List V) (sp : Sp) : Prop :=
  ∃ f fd ds, FnOk P w K mg base CX k f fd ps sp ∧ mg x = some (.ref f) ∧ PySem.W.keepIn K (.ref f) = true ∧ Binds K fd ps ds ∧ Vals dvs ds
end Fw
/-! webs as rows of names: what is read, what is told -/
namespace Mw
open PySem PySem.Spec PyProof.Rows L2 TL
abbrev Row := List Str
abbrev Rows := List Row
def letters : Str := "abcdefghijklmnopqrstuvwxyz"
def isName (z : Str) : Bool := decide (1 ≤ z.length) && decide (z.length ≤ 6) && (tl z).all fun c => decide (c ∈ tl letters)
theorem letter_no {z : Str} (h : isName z = true) {c : Nat} (hc : c ∉ tl letters) : c ∉ tl z := fun m => by
  simp only [isName, Bool.and_eq_true, List.all_eq_true, decide_eq_true_eq] at h
  exact hc (h.2 c m)
theorem name_len {z : Str} (h : isName z = true) : 1 ≤ z.length ∧ z.length ≤ 6 := by
  simp only [isName, Bool.and_eq_true, decide_eq_true_eq] at h
  exact h.1
def sp1 : Str := " "
def nl1 : Str := "\n"
def rowText (r : Row) : Str := ("meet " : Str) ++ Txt.join sp1 r
def webText (js : Rows) : Str := Txt.join nl1 (("web" : Str) :: js.map rowText)
theorem row_join (r : Row) (h : r ≠ []) : rowText r = Txt.join sp1 (("meet" : Str) :: r) := by
  cases r with
  | nil => exact absurd rfl h
  | cons x r =>
    unfold rowText
    rw [join_eq, join_eq]
    show ("meet " : Str) ++ Str.join sp1 (x :: r) = ("meet" : Str) ++ sp1 ++ Str.join sp1 (x :: r)
    have e : ("meet " : Str) = ("meet" : Str) ++ sp1 := by decide +kernel
    rw [← e]
structure RowOk (r : Row) : Prop where
  len : r.length = 3
  names : ∀ x ∈ r, isName x = true
theorem row_split {r : Row} (h : RowOk r) : Txt.split (rowText r) sp1 = ("meet" : Str) :: r := by
  have hn : r ≠ [] := fun z => by
    have := h.len
    rw [z] at this; cases this
  rw [row_join r hn]
  refine split_join (s := 32) (S := []) (by decide +kernel) (by decide +kernel) (by simp) fun p hp => ?_
  rcases List.mem_cons.mp hp with rfl | hp
  · decide +kernel
  · exact letter_no (h.names p hp) (by decide +kernel)
theorem tl_row {r : Row} (h : RowOk r) : 10 ∉ tl (rowText r) := by
  have hn : r ≠ [] := fun z => by
    have := h.len
    rw [z] at this; cases this
  rw [row_join r hn, join_eq, tl_join]
  have main : ∀ (l : List Str), (∀ x ∈ l, (10 : Nat) ∉ tl x) → (10 : Nat) ∉ joinL (tl sp1) (l.map tl) := by
    intro l
    induction l with
    | nil => intro _ m; cases m
    | cons x l ih =>
      intro hl
      have hx := hl x List.mem_cons_self
      have hr := ih fun y hy => hl y (List.mem_cons_of_mem _ hy)
      cases l with
      | nil => simpa [joinL] using hx
      | cons y l =>
        show (10 : Nat) ∉ tl x ++ (tl sp1 ++ joinL (tl sp1) ((y :: l).map tl))
        intro m
        rcases List.mem_append.mp m with m | m
        · exact hx m
        · rcases List.mem_append.mp m with m | m
          · revert m; decide +kernel
          · exact hr m
  refine main _ fun x hx => ?_
  rcases List.mem_cons.mp hx with rfl | hx
  · decide +kernel
  · exact letter_no (h.names x hx) (by decide +kernel)
theorem web_split {js : Rows} (h : ∀ r ∈ js, RowOk r) : Txt.split (webText js) nl1 = ("web" : Str) :: js.map rowText := by
  refine split_join (s := 10) (S := []) (by decide +kernel) (by decide +kernel) (by simp) fun p hp => ?_
  rcases List.mem_cons.mp hp with rfl | hp
  · decide +kernel
  · rcases List.mem_map.mp hp with ⟨r, hr, rfl⟩
    exact tl_row (h r hr)
theorem len_app (x y : Str) : (x ++ y).length = x.length + y.length := by
  rw [len_tl, len_tl, len_tl, tl_append, List.length_append]
theorem sum_le (m : Nat) : ∀ (l : List Nat), (∀ x ∈ l, x ≤ m) → l.sum ≤ l.length * m
  | [], _ => by simp
  | x :: l, h => by
    have h1 := h x List.mem_cons_self
    have h2 := sum_le m l fun y hy => h y (List.mem_cons_of_mem _ hy)
    rw [List.sum_cons, List.length_cons, Nat.succ_mul]
    omega
theorem join_len (y : Str) (parts : List Str) (m : Nat) (h : ∀ p ∈ parts, p.length ≤ m) : (Txt.join y parts).length ≤ parts.length * (m + y.length) := by
  rw [join_eq]
  have h1 := StrLaws.join_length_le y parts
  have h2 := sum_le m (parts.map (·.length)) fun x hx => by
    rcases List.mem_map.mp hx with ⟨p, hp, rfl⟩
    exact h p hp
  rw [List.length_map] at h2
  rw [Nat.mul_add]
  omega
theorem row_len {r : Row} (h : RowOk r) : (rowText r).length ≤ 28 := by
  unfold rowText
  rw [len_app]
  have h1 := join_len sp1 r 6 fun p hp => (name_len (h.names p hp)).2
  have h2 : ("meet " : Str).length = 5 := by decide +kernel
  have h3 : sp1.length = 1 := by decide +kernel
  rw [h.len, h3] at h1
  omega
theorem web_len {js : Rows} (h : ∀ r ∈ js, RowOk r) : (webText js).length ≤ (js.length + 1) * 29 := by
  have h1 := join_len nl1 (("web" : Str) :: js.map rowText) 28 fun p hp => by
    rcases List.mem_cons.mp hp with rfl | hp
    · decide +kernel
    · rcases List.mem_map.mp hp with ⟨r, hr, rfl⟩
      exact row_len (h r hr)
  have h3 : nl1.length = 1 := by decide +kernel
  rw [h3, List.length_cons, List.length_map] at h1
  exact h1
/-- rows that stand as a web's, but for hanging together -/
structure Good (js : Rows) : Prop where
  rows : ∀ r ∈ js, RowOk r
  some : js ≠ []
  most : js.length ≤ 12
  twice : ∀ x, js.flatten.count x ≤ 2
/-- two junctions with a road in common that is not c -/
def Adj (js : Rows) (c : Str) (i j : Nat) : Prop := ∃ r q x, js[i]? = some r ∧ js[j]? = some q ∧ x ∈ r ∧ x ∈ q ∧ x ≠ c
inductive Reach (js : Rows) (c : Str) (i : Nat) : Nat → Prop
  | here : Reach js c i i
  | step {j k : Nat} : Reach js c i j → Adj js c j k → Reach js c i k
def Whole (js : Rows) : Prop := ∀ i, i < js.length → Reach js "" 0 i
def words (js : Rows) : List Str := js.flatten
/-- the order of texts -/
def leS (a b : Str) : Bool := !(ltCps (tl b) (tl a))
def roadsOf (js : Rows) : List Str := (Ys.putAll (words js)).mergeSort leS
def innerOf (js : Rows) : List Str := (roadsOf js).filter fun x => decide ((words js).count x = 2)
def endsOf (js : Rows) : List Str := (roadsOf js).filter fun x => decide ((words js).count x = 1)
def roundsOf (js : Rows) : Int := ((innerOf js).length : Int) - (js.length : Int) + 1
end Mw
/-! readings of comprehensions and calls, once for all -/
namespace Fw
open PySem PySem.Spec PyProof.Rows L2 Evl
theorem ex_same {H H1 : Hp} (h : Ex H H1) : Same H H1 := h
section
variable {K : PySem.W.Frag} {H : Hp} {Q : VK}
theorem isi_ty {x : V} {t : String} {u : String} {b : Bool} (ty : TyX K H x (.type t)) (e : kitB t u = some b) (q : Q (.bl b) H) : rIsi K [x, .ty u] H Q :=
  ⟨x, .ty u, .type t, .type u, b, rfl, .ty u, ty, kit_ty e, q⟩
theorem isi_str {z : Str} (q : Q (.bl true) H) : rIsi K [.str z, .ty "str"] H Q := isi_ty (t := "str") (.base (.str z)) (by decide +kernel) q
end
/-! ### comprehensions over what is walked without new objects; and over pairs -/
section
variable {σ : L2.St} {H0 : Hp} {te : TE} {tt : TT} {vs : List Nat} {J : It} {n : Nat} {Gd : Hp → Prop} {Qd : Hp → Prop} {D : Addr} {f : Nat → Bool} {v : Nat → V}
theorem cw_up {i : Nat} {H H' : Hp} (p : Cw H0 f v D i H) (e : Ex H H') : Cw H0 f v D i H' := ⟨p.1, p.2.1.trans e, e D _ p.2.2⟩
theorem lc_flat {j : Nat} {item : Nat → V → Prop} (wk : Walk J n Gd (fun i H x H' => H' = H ∧ item i x)) (hG : ∀ H', Same H0 H' → Gd H') (hD : H0 D = none) (f : Nat → Bool) (v : Nat → V) (hn : n ≤ 40000)
    (hw : ∀ x, wipe ((wipe σ vs).set j (some x)) vs = wipe σ vs) (turn : ∀ i x, i < n → item i x → EvT tt ((wipe σ vs).set j (some x)) H0 (f i) ∧ (f i = true → Ev te ((wipe σ vs).set j (some x)) H0 (v i)))
    (done : ∀ H', Same H0 H' → H' D = some (.lst (given n f v)) → Qd H') :
    ∃ W : Nat → Nat → Hp → Prop, (∃ m, W 0 m (upd H0 D (.lst []))) ∧ ∀ i m H, W i m H →
      (J.stop i H ∧ Qd H) ∨ (J.go i H ∧ ∃ Nx : Hp → Prop, (∀ H', Nx H' → ∃ m', m' < m ∧ W (i + 1) m' H') ∧ ∀ x H', J.yld i H x H' → gName j x (wipe σ vs) H' fun σ2 H2 => wipe σ2 vs = wipe σ vs ∧ tt σ2 H2 fun b H3 =>
        if b = true then te σ2 H3 fun y H4 => ∃ acc, H4 D = some (.lst acc) ∧ acc.length < sizeLine ∧ Nx (upd H4 D (.lst (acc ++ [y]))) else Nx H3) :=
  lc_it wk (Cw H0 f v D) ⟨hD, Ex.new hD, upd_same⟩ (fun i H' _ p => hG H' p.2.1) (fun i x H H' hi p y => by
    rcases y with ⟨rfl, hy⟩
    have t := turn i x hi hy
    exact ⟨hw x, cw_turn p (by omega) t.1 t.2⟩) (fun H' p => done H' p.2.1 p.2.2)
theorem lc_pair {K : PySem.W.Frag} {j1 j2 : Nat} {xs ys : Nat → Option V} (wk : Walk J n Gd (YPair xs ys)) (hG : ∀ H', Same H0 H' → Gd H') (hD : H0 D = none) (f : Nat → Bool) (v : Nat → V) (hn : n ≤ 40000)
    (hw : ∀ x y, wipe (((wipe σ vs).set j1 (some x)).set j2 (some y)) vs = wipe σ vs) (turn : ∀ i x y, i < n → xs i = some x → ys i = some y → EvT tt (((wipe σ vs).set j1 (some x)).set j2 (some y)) H0 (f i) ∧ (f i = true → Ev te (((wipe σ vs).set j1 (some x)).set j2 (some y)) H0 (v i)))
    (done : ∀ H', Same H0 H' → H' D = some (.lst (given n f v)) → Qd H') :
    ∃ W : Nat → Nat → Hp → Prop, (∃ m, W 0 m (upd H0 D (.lst []))) ∧ ∀ i m H, W i m H →
      (J.stop i H ∧ Qd H) ∨ (J.go i H ∧ ∃ Nx : Hp → Prop, (∀ H', Nx H' → ∃ m', m' < m ∧ W (i + 1) m' H') ∧ ∀ x H', J.yld i H x H' → gTup K 2 (gCons (gName j1) (gCons (gName j2) gNil)) x (wipe σ vs) H' fun σ2 H2 => wipe σ2 vs = wipe σ vs ∧ tt σ2 H2 fun b H3 =>
        if b = true then te σ2 H3 fun y H4 => ∃ acc, H4 D = some (.lst acc) ∧ acc.length < sizeLine ∧ Nx (upd H4 D (.lst (acc ++ [y]))) else Nx H3) :=
  lc_it wk (Cw H0 f v D) ⟨hD, Ex.new hD, upd_same⟩ (fun i H' _ p => hG H' p.2.1) (fun i x H H' hi p y => by
    rcases y with ⟨T, a, b, rfl, hT, rfl, h1, h2⟩
    have t := turn i a b hi h1 h2
    exact ⟨T, [a, b], rfl, .inl (.inl upd_same), rfl, a, [b], rfl, b, [], rfl, rfl, hw a b, cw_turn (cw_up p (Ex.new hT)) (by omega) t.1 t.2⟩) (fun H' p => done H' p.2.1 p.2.2)
end
/-! ### what is given, as lists -/
theorem given_map {α : Type} (xs : List α) (d : α) (p : α → Bool) (g : α → V) : given xs.length (fun i => p (xs.getD i d)) (fun i => g (xs.getD i d)) = (xs.filter p).map g := by
  unfold given
  have e : (List.range xs.length).map (fun i => xs.getD i d) = xs := by
    apply List.ext_getElem
    · simp
    · intro i h1 h2
      simp [List.getD_eq_getElem?_getD, List.getElem?_eq_getElem h2]
  conv => rhs; rw [← e]
  rw [List.filter_map, List.map_map]
  rfl
theorem given_all {α : Type} (xs : List α) (d : α) (g : α → V) : given xs.length (fun _ => true) (fun i => g (xs.getD i d)) = xs.map g := by
  have h := given_map xs d (fun _ => true) g
  rw [List.filter_eq_self.mpr (fun _ _ => rfl)] at h
  exact h
theorem getD_of {α : Type} {xs : List α} {d : α} {i : Nat} {x : α} (h : xs[i]? = some x) : xs.getD i d = x := by
  rw [List.getD_eq_getElem?_getD, h]; rfl
theorem at_of {α : Type} {xs : List α} {d : α} {i : Nat} (h : i < xs.length) : xs[i]? = some (xs.getD i d) := by
  rw [List.getD_eq_getElem?_getD, List.getElem?_eq_getElem h]; rfl
theorem map_at {α β : Type} {xs : List α} {f : α → β} {i : Nat} {y : β} (h : (xs.map f)[i]? = some y) : ∃ x, xs[i]? = some x ∧ f x = y := by
  rw [List.getElem?_map] at h
  cases e : xs[i]? with
  | none => rw [e] at h; cases h
  | some x => rw [e] at h; exact ⟨x, rfl, Option.some.inj h⟩
end Fw
/-! the rules with the written part named, so that a comprehension's parts do not lean on its own frame -/
namespace Fw
open PySem PySem.Spec PyProof.Rows L2
section
variable {X : Cx} {tg l e o a b value : Expr} {es elts : List Expr} {tl te ta tb to tv : TE} {t : TA} {p pos pos' apos cpos tpos p2 : Pos} {kk : Nat} (K : PySem.W.Frag) (hK : X.K = K)
include hK
theorem pi_listK (hl : PE X l tl) : PI X tg l (iList K tl) := by subst hK; exact pi_list hl
theorem pi_tupK (hl : PE X l tl) : PI X tg l (iTup K tl) := by subst hK; exact pi_tup hl
theorem pi_seqK (hl : PE X l tl) : PI X tg l (Yr.iSeq K tl) := by subst hK; exact Yr.pi_seq hl
theorem pi_enumK (hg : Gl X "enumerate") (hm : X.mg "enumerate" = none) (ha : PA X [e] t) (hs : starEach [e] X.env = [(false, eval e X.env)] := by rfl) : PI X (.Tuple elts kk tpos) (.Call (.Name "enumerate" p) [e] [] pos) (iEnum K t) := by subst hK; exact pi_enum hg hm ha hs
theorem pi_enumTK (hg : Gl X "enumerate") (hm : X.mg "enumerate" = none) (ha : PA X [e] t) (hs : starEach [e] X.env = [(false, eval e X.env)] := by rfl) : PI X (.Tuple elts kk tpos) (.Call (.Name "enumerate" p) [e] [] pos) (Yr.iNumT K 0 t) := by subst hK; exact Yr.pi_enumT hg hm ha hs
theorem pi_enumSK {c : Int} {j : Nat} {kp cp : Pos} (h0 : 0 ≤ c) (h1 : c < 1000) (hg : Gl X "enumerate") (hm : X.mg "enumerate" = none) (ha : PA X [e] t) (hs : starEach [e] X.env = (false, eval e X.env) :: starEach [] X.env := by rfl)
    (hall : (backToKw pos (keywordEach [⟨some "start", .Constant (.int c) j cp, kp⟩] X.env)).all (·.1.isSome) = true := by rfl) (hks : (backToKw pos (keywordEach [⟨some "start", .Constant (.int c) j cp, kp⟩] X.env)).filterMap (·.1) = [("start" : Str)] := by rfl)
    (hpl : ((backTo pos (starEach [e] X.env)).any (·.1) || (backToKw pos (keywordEach [⟨some "start", .Constant (.int c) j cp, kp⟩] X.env)).any (·.1.isNone)) = false := by rfl) :
    PI X (.Tuple elts kk tpos) (.Call (.Name "enumerate" p) [e] [⟨some "start", .Constant (.int c) j cp, kp⟩] pos) (Yr.iNumL K c t) := by subst hK; exact Yr.pi_enumS h0 h1 hg hm ha hs hall hks hpl
theorem op_in_seqK : OpR X (compareOp .In) (rIn K false) := by subst hK; exact op_in_seq
theorem op_notIn_seqK : OpR X (compareOp .NotIn) (rIn K true) := by subst hK; exact op_notIn_seq
theorem op_catTK : OpR X (binaryOp .Add) (rCatT K) := by subst hK; exact op_catT
theorem op_eqDK (hu : X.A.units + 64 < cLine) : OpR X (compareOp .Eq) (rEqD K) := by subst hK; exact op_eqD hu
theorem op_neDK (hu : X.A.units + 64 < cLine) : OpR X (compareOp .NotEq) (rNeD K) := by subst hK; exact op_neD hu
theorem ix_listK : IxR X (rIxL K) := by subst hK; exact ix_list
theorem ix_tupK : IxR X (rIxT K) := by subst hK; exact ix_tup
theorem sl_listK : SlR X (rSlL K) := by subst hK; exact sl_list
theorem sl_tupK : SlR X (rSlT K) := by subst hK; exact sl_tup
theorem call_len_seqK : CallR X (.builtin "len") (Evl.rLenS K) := by subst hK; exact call_len_seq
theorem call_list_ofK : CallR X (.type "list") (Evl.rListS K) := by subst hK; exact call_list_of
/-- tuple(x) of a list, of a tuple -/
def rTupS (K : PySem.W.Frag) : List V → Hp → VK → Prop := fun xs H Q => ∃ p ys, xs = [.ref p] ∧ ((SqL K H p ys ∧ ∀ l, H l = none → Q (.ref l) (upd H l (.tup ys))) ∨ (SqT K H p ys ∧ Q (.ref p) H))
theorem call_tuple_ofK : CallR X (.type "tuple") (rTupS K) := by subst hK; exact call_tuple_of
theorem cr_sumK (hc : X.calm = true) : CallR X (.builtin "sum") (rSum K) := by subst hK; exact cr_sum hc
theorem cr_maxK (hc : X.calm = true) : CallR X (.builtin "max") (rMax K) := by subst hK; exact cr_max hc
theorem cr_minK (hc : X.calm = true) : CallR X (.builtin "min") (rMin K) := by subst hK; exact cr_min hc
theorem cr_allK (hc : X.calm = true) : CallR X (.builtin "all") (rAll K) := by subst hK; exact cr_all hc
theorem cr_anyK (hc : X.calm = true) : CallR X (.builtin "any") (rAny K) := by subst hK; exact cr_any hc
theorem cr_sortedSK : CallR X (.builtin "sorted") (rSortedS K) := by subst hK; exact cr_sortedS
theorem cr_sortedK : CallR X (.builtin "sorted") (rSorted K) := by subst hK; exact cr_sorted
theorem call_isiK' : CallR X (.builtin "isinstance") (rIsi K) := by subst hK; exact call_isi
theorem cr_setWK (w : World) (hw : X.w = w) (hc : X.calm = true) : CallR X (.type "set") (Ys.rSetW K w) := by subst hK hw; exact Ys.cr_setW hc
theorem pe_fldK {f : Str} (he : PE X e ta) (hb : attributeBase e f X.env (eval e X.env) = eval e X.env := by rfl) : PE X (.Attribute e f pos) (tFld K ta f) := by subst hK; exact pe_fld he hb
theorem ps_fldK {f : Str} (ha : PE X o ta) (hv : PE X value tv) (hs : swapsWith value (some (.Attribute o f pos')) pos.line X.env = pure false := by rfl) : PS X (.Assign [.Attribute o f pos'] value pos) (sFld K ta tv f) := by subst hK; exact ps_fld ha hv hs
theorem pg_tupK {k n : Nat} {ts : TGs} (hc : X.calm = true) (h : PGs X es ts) (hn : (assignEach es X.env).length = n := by rfl) (hst : (assignEach es X.env).findIdx? (·.1) = none := by rfl) : PG X (.Tuple es k pos) (gTup K n ts) := by subst hK; exact pg_tup hc h hn hst
theorem mt_lcountSK : MtR X "list.count" (Yr.rCntS K) := by subst hK; exact Yr.mt_lcountS
/-- sep.join(xs) -/
def rJoin (K : PySem.W.Frag) : V → List V → Hp → VK → Prop := fun x xs H Q => ∃ a p, ∃ ys : List Str, x = .str a ∧ xs = [.ref p] ∧ (SqL K H p (ys.map V.str) ∨ SqT K H p (ys.map V.str)) ∧ (ys.map (·.length)).sum + ys.length * a.length ≤ 16777216 ∧ Q (.str (Txt.join a ys)) H
theorem pe_joinK (ho : PE X o to) (he : PE X e te) (hs : starEach [e] X.env = [(false, eval e X.env)] := by rfl) (hbase : attributeBase o "join" X.env (eval o X.env) = eval o X.env := by rfl) (hline : (apos.endLine == pos.line) = true := by rfl) :
    PE X (.Call (.Attribute o "join" apos) [e] [] pos) (tM1 (rJoin K) to te) := by subst hK; exact pe_join ho he hs hbase hline
theorem pe_bm0K {T name id : String} {r : V → List V → Hp → VK → Prop} (pa : PlainAttrs T) (slot : Slot T name id) (hty : typeOf (.builtin id) = pure (.type "method_descriptor")) (hm : MtR X id r) (ho : PE X o to)
    (hbase : attributeBase o name X.env (eval o X.env) = eval o X.env := by rfl) (hline : (apos.endLine == cpos.line) = true := by rfl) : PE X (.Call (.Attribute o name apos) [] [] cpos) (tBM0 K T r to) := by subst hK; exact pe_bm0 pa slot hty hm ho hbase hline
theorem pe_bmK {T name id : String} {r : V → List V → Hp → VK → Prop} (pa : PlainAttrs T) (slot : Slot T name id) (hty : typeOf (.builtin id) = pure (.type "method_descriptor")) (hm : MtR X id r) (ho : PE X o to) (ha : PA X (e :: es) t)
    (hbase : attributeBase o name X.env (eval o X.env) = eval o X.env := by rfl)
    (hfew : ((backTo cpos (starEach (e :: es) X.env)).all (fun x => !x.1) && (backToKw cpos (keywordEach [] X.env)).all (fun x => x.1.isSome)
      && decide ((e :: es).length + ([] : List Keyword).length + (if ([] : List Keyword).isEmpty then 0 else 1) < 30)) = true := by rfl)
    (hline : (apos.endLine == cpos.line) = true := by rfl) (hs : starEach (e :: es) X.env = (false, eval e X.env) :: starEach es X.env := by rfl) (hplain : (backTo cpos (starEach es X.env)).any (·.1) = false := by rfl) :
    PE X (.Call (.Attribute o name apos) (e :: es) [] cpos) (tBM K T r to t) := by subst hK; exact pe_bm pa slot hty hm ho ha hbase hfew hline hs hplain
theorem pa_starK (he : PE X e te) (hr : PA X es t) (hs : starEach (.Starred e p :: es) X.env = (true, eval e X.env) :: starEach es X.env := by rfl) : PA X (.Starred e p :: es) (StX.tStar K te t) := by subst hK; exact StX.pa_star he hr hs
theorem pt_truthK (ha : PE X a ta) (he : ∀ whole, isTrue a X.env whole = (do let v ← whole; standAt a.pos; holding [v] (truthy v))) : PT X a (tTru K ta) := by subst hK; exact pt_truth ha he
theorem pi_zipK {e2 : Expr} (hg : Gl X "zip") (hm : X.mg "zip" = none) (ha : PA X [e, e2] t)
    (hs : starEach [e, e2] X.env = (false, eval e X.env) :: starEach [e2] X.env := by rfl) (hpl : (backTo pos (starEach [e2] X.env)).any (·.1) = false := by rfl) :
    PI X (.Tuple elts kk tpos) (.Call (.Name "zip" p) [e, e2] [] pos) (iZip K t) := by subst hK; exact pi_zip hg hm ha hs hpl
end
/-! ### comprehensions of two clauses -/
section
variable {J : It} {n : Nat} {Gd : Hp → Prop} {Y : Nat → Hp → V → Hp → Prop} {g : TG} {te : TE} {tt : TT} {vs : List Nat} {σ : L2.St} {D : Addr} {Qd : Hp → Prop}
theorem lc2_in (wk : Walk J n Gd Y) {H0 : Hp} (Pv : Nat → Hp → Prop) (h0 : Pv 0 H0) (hG : ∀ i H, i ≤ n → Pv i H → Gd H)
    (hs : ∀ i x H H', i < n → Pv i H → Y i H x H' → g x (wipe σ vs) H' fun σ3 H5 => wipe σ3 vs = wipe σ vs ∧ tt σ3 H5 fun b H6 => if b = true then te σ3 H6 fun y H7 => ∃ acc, H7 D = some (.lst acc) ∧ acc.length < sizeLine ∧ Pv (i + 1) (upd H7 D (.lst (acc ++ [y]))) else Pv (i + 1) H6)
    (hd : ∀ H, Pv n H → Qd H) :
    ∃ W1 : Nat → Nat → Hp → Prop, (∃ m, W1 0 m H0) ∧ ∀ j k H, W1 j k H → (J.stop j H ∧ Qd H) ∨ (J.go j H ∧ ∃ Nx1 : Hp → Prop, (∀ H', Nx1 H' → ∃ k', k' < k ∧ W1 (j + 1) k' H') ∧ ∀ x H', J.yld j H x H' →
      g x (wipe σ vs) H' fun σ3 H5 => wipe σ3 vs = wipe σ vs ∧ tt σ3 H5 fun b H6 => if b = true then te σ3 H6 fun y H7 => ∃ acc, H7 D = some (.lst acc) ∧ acc.length < sizeLine ∧ Nx1 (upd H7 D (.lst (acc ++ [y]))) else Nx1 H6) := by
  refine ⟨fun i m H => m = n - i ∧ i ≤ n ∧ Pv i H, ⟨n, by simp, Nat.zero_le _, h0⟩, ?_⟩
  rintro i m H ⟨rfl, hi, p⟩
  have q := hG i H hi p
  by_cases lt : i < n
  · exact .inr ⟨wk.goes i H lt q, Pv (i + 1), fun H' p' => ⟨n - (i + 1), by omega, rfl, lt, p'⟩, fun x H' y => hs i x H H' lt p (wk.yields i H x H' lt q y)⟩
  · obtain rfl : i = n := by omega
    exact .inl ⟨wk.stops H q, hd H p⟩
theorem lc2_out (wk : Walk J n Gd Y) {H1 : Hp} (Pv : Nat → Hp → Prop) (body : (Hp → Prop) → L2.St → Hp → Prop) (h0 : Pv 0 (upd H1 D (.lst []))) (hG : ∀ i H, i ≤ n → Pv i H → Gd H)
    (hs : ∀ i x H H', i < n → Pv i H → Y i H x H' → g x (wipe σ vs) H' fun σ2 H2 => wipe σ2 vs = wipe σ vs ∧ tt σ2 H2 fun b H3 => if b = true then body (Pv (i + 1)) σ2 H3 else Pv (i + 1) H3) (hd : ∀ H, Pv n H → Qd H) :
    ∃ W : Nat → Nat → Hp → Prop, (∃ m, W 0 m (upd H1 D (.lst []))) ∧ ∀ i m H, W i m H →
      (J.stop i H ∧ Qd H) ∨ (J.go i H ∧ ∃ Nx : Hp → Prop, (∀ H', Nx H' → ∃ m', m' < m ∧ W (i + 1) m' H') ∧ ∀ x H', J.yld i H x H' → g x (wipe σ vs) H' fun σ2 H2 => wipe σ2 vs = wipe σ vs ∧ tt σ2 H2 fun b H3 => if b = true then body Nx σ2 H3 else Nx H3) := by
  refine ⟨fun i m H => m = n - i ∧ i ≤ n ∧ Pv i H, ⟨n, by simp, Nat.zero_le _, h0⟩, ?_⟩
  rintro i m H ⟨rfl, hi, p⟩
  have q := hG i H hi p
  by_cases lt : i < n
  · exact .inr ⟨wk.goes i H lt q, Pv (i + 1), fun H' p' => ⟨n - (i + 1), by omega, rfl, lt, p'⟩, fun x H' y => hs i x H H' lt p (wk.yields i H x H' lt q y)⟩
  · obtain rfl : i = n := by omega
    exact .inl ⟨wk.stops H q, hd H p⟩
end
theorem same_upd {H : Hp} {p : Addr} {o : HO} (h : H p = none) : Same H (upd H p o) := fun b x e => by rw [upd_ne (ne_of_none e h)]; exact e
theorem same_some {H H1 : Hp} (e : Same H H1) {p : Addr} (h : H p ≠ none) : H1 p ≠ none := by
  cases z : H p with
  | none => exact absurd z h
  | some o => rw [e _ _ z]; exact fun z => nomatch z
theorem Go.grow {L : List Addr} {G H G1 H1 H2 : Hp} (a : Go L G H G1 H1) (e : Same H1 H2) : Go L G H G1 H2 :=
  ⟨a.g, a.h.trans e, fun x o m z => e _ _ (a.k x o m z), a.n, fun x z => same_some e (a.l x z)⟩
theorem Go.ref0 {G H : Hp} (h : Same G H) : Go [] G H G H := Go.refl h
theorem cut_from1 (x : V) (xs : List V) : cutV (x :: xs) (some 1) none = xs := by
  unfold cutV
  have e : HT.sIx (x :: xs).length 0 (some 1) = 1 := by
    have h := HT.sIx_nat (x :: xs).length 0 1
    rw [List.length_cons] at h ⊢
    exact h.trans (by omega)
  rw [e, HT.sIx_none]
  simp
theorem upd_none {H : Hp} {p q : Addr} {o : HO} : upd H p o q = none ↔ q ≠ p ∧ H q = none :=
  ⟨fun h => by
    by_cases e : q = p
    · subst e; rw [upd_same] at h; cases h
    · exact ⟨e, by rw [upd_ne e] at h; exact h⟩, fun h => by rw [upd_ne h.1]; exact h.2⟩
theorem take_flat {α : Type} (js : List (List α)) (i : Nat) (r : List α) (h : js[i]? = some r) : (js.take (i + 1)).flatten = (js.take i).flatten ++ r := by
  rw [List.take_add_one, h]
  simp
theorem take_snoc {α : Type} {xs : List α} {i : Nat} {x : α} (h : xs[i]? = some x) : xs.take (i + 1) = xs.take i ++ [x] := by
  rw [List.take_add_one, h]
  rfl
theorem small1000' {n : Nat} (h : n < 10000) : n < sizeLine := Nat.lt_of_lt_of_le h (by decide)
/-- behind a list or a tuple stands a walk -/
theorem seq_walk {K : PySem.W.Frag} {H : Hp} {a : Addr} {ts : List V} {R : It → Hp → Prop} (h : SqL K H a ts ∨ SqT K H a ts) (hR : ∀ J, Walk J ts.length (fun H' => Same H H') (YAt ts) → R J H) :
    ∃ b, V.ref a = .ref b ∧ (((∃ xs, SqL K H b xs) ∧ R (Itl K b) H) ∨ ((∃ xs, SqT K H b xs) ∧ R (Itt K b) H)) := by
  refine ⟨a, rfl, ?_⟩
  rcases h with h | h
  · exact .inl ⟨⟨ts, h⟩, hR _ (walk_list.mono (fun H' e => e.seq h) fun _ _ _ _ _ _ y => y)⟩
  · exact .inr ⟨⟨ts, h⟩, hR _ (walk_tup.mono (fun H' e => seqT e h) fun _ _ _ _ _ _ y => y)⟩
end Fw
/-! reaching; found numbers as a dict -/
namespace Mw
open PySem PySem.Spec PyProof.Rows L2 TL
theorem nodup_len {fs : List Nat} {k : Nat} (h : fs.Nodup) (hk : ∀ n ∈ fs, n < k) : fs.length ≤ k := by
  have e := List.Nodup.length_le_of_subset h (l₂ := List.range k) fun n hn => List.mem_range.mpr (hk n hn)
  rw [List.length_range] at e
  exact e
abbrev numK (fs : List Nat) : List (Key × V) := fs.map fun (n : Nat) => ((Sum.inl (n : Int) : Key), V.bl true)
theorem valV_fs {fs : List Nat} {m : Nat} : (valV (numK fs) (Sum.inl (m : Int))).isSome ↔ m ∈ fs := by
  induction fs with
  | nil => simp [numK, valV_nil]
  | cons n fs ih =>
    show (valV ((((Sum.inl (n : Int)) : Key), V.bl true) :: numK fs) (Sum.inl (m : Int))).isSome ↔ m ∈ n :: fs
    by_cases e : n = m
    · subst e
      rw [valV_pos rfl]
      simp
    · rw [valV_neg (by intro z; exact e (by have := Sum.inl.inj z; omega)), ih, List.mem_cons]
      exact ⟨.inr, fun h => h.resolve_left fun z => e z.symm⟩
theorem valV_no {fs : List Nat} {m : Nat} (h : m ∉ fs) : valV (numK fs) (Sum.inl (m : Int)) = none := by
  cases z : valV (numK fs) (Sum.inl (m : Int)) with
  | none => rfl
  | some x => exact absurd (valV_fs.mp (by rw [z]; rfl)) h
theorem numK_put {fs : List Nat} {m : Nat} (h : m ∉ fs) : putK (numK fs) (Sum.inl (m : Int)) (.bl true) = numK (fs ++ [m]) := by
  rw [putK_new _ (valV_no h)]
  simp [numK]
theorem reach_closed {js : Rows} {c : Str} {i : Nat} {fs : List Nat} (hi : i ∈ fs) (h : ∀ n ∈ fs, ∀ m, Adj js c n m → m ∈ fs) {n : Nat} (r : Reach js c i n) : n ∈ fs := by
  induction r with
  | here => exact hi
  | step _ a ih => exact h _ ih _ a
theorem Adj.lt {js : Rows} {c : Str} {n m : Nat} (h : Adj js c n m) : m < js.length := by
  obtain ⟨r, q, x, _, h2, _⟩ := h
  exact (List.getElem?_eq_some_iff.mp h2).1
def opens (r : Row) (c : Str) : List Str := r.filter fun x => !decide (x = c)
theorem adj_iff {js : Rows} {c : Str} {n m : Nat} {r q : Row} (hn : js[n]? = some r) (hm : js[m]? = some q) : (q.map fun z => decide (z ∈ opens r c)).any id = true ↔ Adj js c n m := by
  rw [List.any_map, List.any_eq_true]
  constructor
  · rintro ⟨x, h1, h2⟩
    have h3 := of_decide_eq_true h2
    simp only [opens, List.mem_filter] at h3
    exact ⟨r, q, x, hn, hm, h3.1, h1, by simpa using h3.2⟩
  · rintro ⟨r', q', x, e1, e2, h1, h2, h3⟩
    obtain rfl := Option.some.inj (hn.symm.trans e1)
    obtain rfl := Option.some.inj (hm.symm.trans e2)
    refine ⟨x, h2, decide_eq_true ?_⟩
    simp only [opens, List.mem_filter]
    exact ⟨h1, by simpa using h3⟩
theorem inV_str (x : Str) (xs : List Str) : inV (.str x) (xs.map V.str) = decide (x ∈ xs) := by
  induction xs with
  | nil => rfl
  | cons y xs ih =>
    unfold inV at ih ⊢
    rw [List.map_cons, List.any_cons, ih]
    by_cases e : y = x
    · subst e; simp [eqV]
    · have e2 : ¬ x = y := fun z => e z.symm
      simp [eqV, e, e2]
/-- found numbers and waiting ones: fs at d, ws at l; no gap but at what ex says -/
structure Rv (dd : List Nat → HO) (G H : Hp) (js : Rows) (c : Str) (i : Nat) (d l : Addr) (ex : Nat → Nat → Prop) (fs ws : List Nat) (G1 H1 : Hp) : Prop where
  go : Fw.Go [] G H G1 H1
  hd : H1 d = some (dd fs)
  gd : G1 d = none
  hl : H1 l = some (.lst (ws.map fun (n : Nat) => V.int n))
  gl : G1 l = none
  nd : fs.Nodup
  ok : ∀ n ∈ fs, n < js.length ∧ Reach js c i n
  st : i ∈ fs
  sub : ∀ n ∈ ws, n ∈ fs
  bd : ws.length ≤ fs.length
  cl : ∀ n ∈ fs, n ∉ ws → ∀ m, Adj js c n m → m ∈ fs ∨ ex n m
theorem Rv.len {dd : List Nat → HO} {G H : Hp} {js : Rows} {c : Str} {i : Nat} {d l : Addr} {ex : Nat → Nat → Prop} {fs ws : List Nat} {G1 H1 : Hp} (h : Rv dd G H js c i d l ex fs ws G1 H1) : fs.length ≤ js.length :=
  nodup_len h.nd fun n hn => (h.ok n hn).1
theorem Rv.less {dd : List Nat → HO} {G H : Hp} {js : Rows} {c : Str} {i : Nat} {d l : Addr} {ex : Nat → Nat → Prop} {fs ws : List Nat} {G1 H1 : Hp} (h : Rv dd G H js c i d l ex fs ws G1 H1) {m : Nat} (hm : m < js.length) (hn : m ∉ fs) : fs.length < js.length := by
  have e := nodup_len (fs := m :: fs) (k := js.length) (List.nodup_cons.mpr ⟨hn, h.nd⟩) fun n hn => by
    rcases List.mem_cons.mp hn with rfl | hn
    · exact hm
    · exact (h.ok n hn).1
  rw [List.length_cons] at e
  omega
/-- one more is found -/
theorem Rv.find {dd : List Nat → HO} {G H : Hp} {js : Rows} {c : Str} {i n : Nat} {d l : Addr} {fs ws : List Nat} {G1 H1 : Hp} {m : Nat} (h : Rv dd G H js c i d l (fun a b => a = n ∧ m ≤ b) fs ws G1 H1) (hdl : d ≠ l) (hd0 : H d = none) (hl0 : H l = none) (nf : n ∈ fs) (hm : m < js.length) (hn : m ∉ fs) (a : Adj js c n m) :
    Rv dd G H js c i d l (fun a b => a = n ∧ m + 1 ≤ b) (fs ++ [m]) (ws ++ [m]) G1 (upd (upd H1 d (dd (fs ++ [m]))) l (.lst ((ws.map fun (n : Nat) => V.int n) ++ [.int (m : Int)]))) := by
  refine ⟨(h.go.mut h.gd (.inl hd0)).mut h.gl (.inl hl0), (upd_ne hdl).trans upd_same, h.gd, by rw [List.map_append]; exact upd_same, h.gl, ?_, ?_, List.mem_append_left _ h.st, ?_, (by have := h.bd; rw [List.length_append, List.length_append]; exact Nat.add_le_add_right this 1), ?_⟩
  · rw [List.nodup_append]
    exact ⟨h.nd, by simp, fun x hx y hy z => hn (by rw [List.mem_singleton] at hy; rw [← hy, ← z]; exact hx)⟩
  · intro k hk
    rcases List.mem_append.mp hk with hk | hk
    · exact h.ok k hk
    · rw [List.mem_singleton] at hk
      subst hk
      exact ⟨hm, .step (h.ok n nf).2 a⟩
  · intro k hk
    rcases List.mem_append.mp hk with hk | hk
    · exact List.mem_append_left _ (h.sub k hk)
    · exact List.mem_append_right _ hk
  · intro k hk hw b hb
    rcases List.mem_append.mp hk with hk | hk
    · rcases h.cl k hk (fun z => hw (List.mem_append_left _ z)) b hb with z | ⟨z1, z2⟩
      · exact .inl (List.mem_append_left _ z)
      · by_cases e : b = m
        · subst e
          exact .inl (List.mem_append_right _ (List.mem_singleton.mpr rfl))
        · exact .inr ⟨z1, by omega⟩
    · exact absurd (List.mem_append_right _ hk) hw
theorem Rv.skip {dd : List Nat → HO} {G H : Hp} {js : Rows} {c : Str} {i n : Nat} {d l : Addr} {fs ws : List Nat} {G1 H1 : Hp} {m : Nat} (h : Rv dd G H js c i d l (fun a b => a = n ∧ m ≤ b) fs ws G1 H1) (hn : m ∈ fs ∨ ¬ Adj js c n m) : Rv dd G H js c i d l (fun a b => a = n ∧ m + 1 ≤ b) fs ws G1 H1 :=
  ⟨h.go, h.hd, h.gd, h.hl, h.gl, h.nd, h.ok, h.st, h.sub, h.bd, fun k hk hw b hb => by
    rcases h.cl k hk hw b hb with z | ⟨z1, z2⟩
    · exact .inl z
    · by_cases e : b = m
      · subst e z1
        rcases hn with q | q
        · exact .inl q
        · exact absurd hb q
      · exact .inr ⟨z1, by omega⟩⟩
theorem Rv.grow {dd : List Nat → HO} {G H : Hp} {js : Rows} {c : Str} {i : Nat} {d l : Addr} {ex : Nat → Nat → Prop} {fs ws : List Nat} {G1 H1 H2 : Hp} (h : Rv dd G H js c i d l ex fs ws G1 H1) (e : Same H1 H2) : Rv dd G H js c i d l ex fs ws G1 H2 :=
  ⟨⟨h.go.g, h.go.h.trans e, fun x o m z => e _ _ (h.go.k x o m z), h.go.n, fun x z => by
    have q := h.go.l x z
    cases z2 : H1 x with
    | none => exact absurd z2 q
    | some o => rw [e _ _ z2]; exact fun z => nomatch z⟩, e _ _ h.hd, h.gd, e _ _ h.hl, h.gl, h.nd, h.ok, h.st, h.sub, h.bd, h.cl⟩
theorem Rv.pop {dd : List Nat → HO} {G H : Hp} {js : Rows} {c : Str} {i n : Nat} {d l : Addr} {fs ws : List Nat} {G1 H1 : Hp} (h : Rv dd G H js c i d l (fun _ _ => False) fs (ws ++ [n]) G1 H1) (hdl : d ≠ l) (hl0 : H l = none) :
    Rv dd G H js c i d l (fun a b => a = n ∧ 0 ≤ b) fs ws G1 (upd H1 l (.lst (ws.map fun (n : Nat) => V.int n))) :=
  ⟨h.go.mut h.gl (.inl hl0), (upd_ne hdl).trans h.hd, h.gd, upd_same, h.gl, h.nd, h.ok, h.st, fun k hk => h.sub k (List.mem_append_left _ hk), (by have := h.bd; rw [List.length_append] at this; omega), fun k hk hw b hb => by
    by_cases e : k = n
    · exact .inr ⟨e, Nat.zero_le _⟩
    · rcases h.cl k hk (fun z => by
        rcases List.mem_append.mp z with z | z
        · exact hw z
        · exact e (List.mem_singleton.mp z)) b hb with z | z
      · exact .inl z
      · exact z.elim⟩
theorem Rv.end {dd : List Nat → HO} {G H : Hp} {js : Rows} {c : Str} {i n : Nat} {d l : Addr} {fs ws : List Nat} {G1 H1 : Hp} (h : Rv dd G H js c i d l (fun a b => a = n ∧ js.length ≤ b) fs ws G1 H1) : Rv dd G H js c i d l (fun _ _ => False) fs ws G1 H1 :=
  ⟨h.go, h.hd, h.gd, h.hl, h.gl, h.nd, h.ok, h.st, h.sub, h.bd, fun k hk hw b hb => by
    rcases h.cl k hk hw b hb with z | ⟨_, z⟩
    · exact .inl z
    · have := hb.lt
      omega⟩
abbrev dkN : List Nat → HO := fun fs => .dK (numK fs)
def Ww (ac : Addr) (G H : Hp) (js : Rows) (c : Str) (i : Nat) (d l a : Addr) : Nat → L2.St → Hp → Prop := fun m σ H1 => ∃ fs ws G1, m = 2 * (js.length - fs.length) + ws.length ∧
  (∃ x5 x6 x7 x8, σ = [some (.ref a), some (.int (i : Nat)), some (.ref ac), some (.ref d), some (.ref l), x5, x6, x7, x8, none]) ∧ Rv dkN G H js c i d l (fun _ _ => False) fs ws G1 H1
def Wf (ac : Addr) (G H : Hp) (js : Rows) (c : Str) (i : Nat) (d l a D : Addr) (n : Nat) (r : Row) (m : Nat) : Nat → L2.St → Hp → Prop := fun j σ H1 =>
  (∃ x7 x8, σ = [some (.ref a), some (.int (i : Nat)), some (.ref ac), some (.ref d), some (.ref l), some (.int (n : Nat)), some (.ref D), x7, x8, none]) ∧
  ∃ fs ws G1, Rv dkN G H js c i d l (fun a b => a = n ∧ j ≤ b) fs ws G1 H1 ∧ H1 D = some (.lst ((opens r c).map V.str)) ∧ n ∈ fs ∧ 2 * (js.length - fs.length) + ws.length < m
end Mw
/-! the order of texts; what is sorted is one -/
namespace Mw
open PySem PySem.Spec PyProof.Rows L2 TL
theorem leS_iff {a b : Str} : leS a b = true ↔ tl a ≤ tl b := by
  unfold leS
  rw [ltCps_eq, Bool.not_eq_true', decide_eq_false_iff_not, List.not_lt]
theorem tl_inj {a b : Str} (h : tl a = tl b) : a = b := by
  cases a with
  | mk a =>
    cases b with
    | mk b =>
      have e : a.toList = b.toList := h
      rw [Array.toList_inj] at e
      rw [e]
theorem leS_trans (a b c : Str) (h1 : leS a b = true) (h2 : leS b c = true) : leS a c = true :=
  leS_iff.mpr (List.le_trans (leS_iff.mp h1) (leS_iff.mp h2))
theorem leS_total (a b : Str) : (leS a b || leS b a) = true := by
  rw [Bool.or_eq_true, leS_iff, leS_iff]
  exact List.le_total _ _
theorem leS_anti {a b : Str} (h1 : leS a b = true) (h2 : leS b a = true) : a = b :=
  tl_inj (List.le_antisymm (leS_iff.mp h1) (leS_iff.mp h2))
theorem pair_of_rising : ∀ (l : List Str) (p : Str), risingS p l = true → (p :: l).Pairwise (fun a b => leS a b = true)
  | [], p, _ => by simp
  | x :: l, p, h => by
    have h' : (!ltCps x.cps.toList p.cps.toList && risingS x l) = true := h
    rw [Bool.and_eq_true] at h'
    have ih := pair_of_rising l x h'.2
    refine List.pairwise_cons.mpr ⟨fun y hy => ?_, ih⟩
    have hpx : leS p x = true := h'.1
    rcases List.mem_cons.mp hy with rfl | hy
    · exact hpx
    · exact leS_trans _ _ _ hpx ((List.pairwise_cons.mp ih).1 y hy)
theorem pair_of_sorted {l : List Str} (h : sortedS l = true) : l.Pairwise (fun a b => leS a b = true) := by
  cases l with
  | nil => exact .nil
  | cons x l => exact pair_of_rising l x h
theorem sort_pair (l : List Str) : (l.mergeSort leS).Pairwise (fun a b => leS a b = true) := List.pairwise_mergeSort leS_trans leS_total l
theorem sort_uniq {xs ys : List Str} (hx : xs.Pairwise (fun a b => leS a b = true)) (hy : ys.Pairwise (fun a b => leS a b = true)) (h : xs.Perm ys) : xs = ys :=
  List.Perm.eq_of_pairwise (fun a b _ _ h1 h2 => leS_anti h1 h2) hx hy h
theorem nodup_putAll (xs : List Str) : (Ys.putAll xs).Nodup := by
  unfold Ys.putAll
  have main : ∀ (l acc : List Str), acc.Nodup → (l.foldl Ys.put1 acc).Nodup := by
    intro l
    induction l with
    | nil => exact fun _ h => h
    | cons x l ih =>
      intro acc h
      refine ih _ ?_
      unfold Ys.put1
      split
      · exact h
      · rename_i hx
        exact List.nodup_cons.mpr ⟨hx, h⟩
  exact main xs [] .nil
theorem mem_roads {js : Rows} {x : Str} : x ∈ roadsOf js ↔ x ∈ words js := by
  unfold roadsOf
  rw [(List.mergeSort_perm _ _).mem_iff]
  exact Ys.mem_putAll
theorem nodup_roads (js : Rows) : (roadsOf js).Nodup := (List.mergeSort_perm _ _).nodup_iff.mpr (nodup_putAll _)
/-- what is sorted, without doubles, with the words' members -/
theorem roads_uniq {js : Rows} {ks ys : List Str} (hk : ks.Nodup) (hm : ∀ y, y ∈ ks ↔ y ∈ words js) (hp : ys.Perm ks) (hs : sortedS ys = true) : ys = roadsOf js := by
  refine sort_uniq (pair_of_sorted hs) (sort_pair _) (hp.trans (List.Perm.trans ?_ (List.mergeSort_perm _ _).symm))
  exact (List.perm_ext_iff_of_nodup hk (nodup_putAll _)).mpr fun y => (hm y).trans Ys.mem_putAll.symm
/-- is the inner road x a bridge -/
def Bridge (js : Rows) (x : Str) : Prop := ∃ i j r q, js[i]? = some r ∧ js[j]? = some q ∧ x ∈ r ∧ x ∈ q ∧ (∀ k s, js[k]? = some s → x ∈ s → i ≤ k ∧ k ≤ j) ∧ ¬ Reach js x i j
def sidesOf (js : Rows) (z : Str) : List Nat := (List.range js.length).filter fun j => decide (z ∈ js.getD j [])
theorem mem_sides {js : Rows} {z : Str} {j : Nat} : j ∈ sidesOf js z ↔ ∃ r, js[j]? = some r ∧ z ∈ r := by
  unfold sidesOf
  rw [List.mem_filter, List.mem_range]
  constructor
  · rintro ⟨h1, h2⟩
    exact ⟨js.getD j [], Fw.at_of h1, of_decide_eq_true h2⟩
  · rintro ⟨r, h1, h2⟩
    exact ⟨(List.getElem?_eq_some_iff.mp h1).1, by rw [Fw.getD_of h1]; exact decide_eq_true h2⟩
theorem sides_lt (js : Rows) (z : Str) : (sidesOf js z).Pairwise (· < ·) := List.Pairwise.filter _ List.pairwise_lt_range
theorem sides_some {js : Rows} {z : Str} (h : z ∈ words js) : sidesOf js z ≠ [] := by
  obtain ⟨r, hr, hz⟩ := List.mem_flatten.mp h
  obtain ⟨j, hj⟩ := List.getElem?_of_mem hr
  exact List.ne_nil_of_mem (mem_sides.mpr ⟨r, hj, hz⟩)
theorem ends_of {ss : List Nat} (h : ss ≠ []) (lt : ss.Pairwise (· < ·)) : ∃ i j, i ∈ ss ∧ j ∈ ss ∧ (∀ k ∈ ss, i ≤ k ∧ k ≤ j) ∧ atI (ss.map fun (n : Nat) => V.int n) 0 = some (.int i) ∧ atI (ss.map fun (n : Nat) => V.int n) (-1) = some (.int j) := by
  obtain ⟨j, init, rfl⟩ : ∃ j init, ss = init ++ [j] := by
    rcases List.eq_nil_or_concat ss with e | ⟨l, b, e⟩
    · exact absurd e h
    · exact ⟨b, l, by rw [e, List.concat_eq_append]⟩
  have hj : ∀ k ∈ init ++ [j], k ≤ j := fun k hk => by
    rcases List.mem_append.mp hk with hk | hk
    · exact Nat.le_of_lt ((List.pairwise_append.mp lt).2.2 k hk j (by simp))
    · rw [List.mem_singleton] at hk
      omega
  have e2 : atI ((init ++ [j]).map fun (n : Nat) => V.int n) (-1) = some (.int j) := by
    rw [List.map_append]
    exact atI_last _ _
  generalize hs : init ++ [j] = ss at hj e2 lt
  cases ss with
  | nil => simp at hs
  | cons i r =>
    refine ⟨i, j, List.mem_cons_self, by rw [← hs]; simp, fun k hk => ⟨?_, hj k hk⟩, atI_nat (j := 0) rfl, e2⟩
    rcases List.mem_cons.mp hk with rfl | hk
    · exact Nat.le_refl _
    · exact Nat.le_of_lt ((List.pairwise_cons.mp lt).1 k hk)
theorem bridge_iff {js : Rows} {z : Str} {i j : Nat} (hi : i ∈ sidesOf js z) (hj : j ∈ sidesOf js z) (h : ∀ k ∈ sidesOf js z, i ≤ k ∧ k ≤ j) : Bridge js z ↔ ¬ Reach js z i j := by
  obtain ⟨r, hr, zr⟩ := mem_sides.mp hi
  obtain ⟨q, hq, zq⟩ := mem_sides.mp hj
  constructor
  · rintro ⟨i', j', r', q', h1, h2, h3, h4, h5, h6⟩
    have a1 := h5 i r hr zr
    have a2 := h5 j q hq zq
    have b1 := h i' (mem_sides.mpr ⟨r', h1, h3⟩)
    have b2 := h j' (mem_sides.mpr ⟨q', h2, h4⟩)
    have e1 : i' = i := by omega
    have e2 : j' = j := by omega
    rw [← e1, ← e2]
    exact h6
  · exact fun n => ⟨i, j, r, q, hr, hq, zr, zq, fun k s hk hz => h k (mem_sides.mpr ⟨s, hk, hz⟩), n⟩
theorem flat_len : ∀ l : Rows, (∀ x ∈ l, x.length = 3) → l.flatten.length = 3 * l.length := by
  intro l
  induction l with
  | nil => intro _; rfl
  | cons x l ih =>
    intro h
    rw [List.flatten_cons, List.length_append, List.length_cons, ih fun y hy => h y (List.mem_cons_of_mem _ hy), h x List.mem_cons_self]
    omega
end Mw
/-! a comprehension whose items are new data -/
namespace Fw
open PySem PySem.Spec PyProof.Rows L2
theorem Go.in {L : List Addr} {G H G1 H1 : Hp} (a : Go L G H G1 H1) {q : Addr} {u : HO} (e : H q = some u) (m : q ∉ L) : H1 q = some u := a.k q u m e
section
variable {J : It} {Gd : Hp → Prop} {te : TE} {vs : List Nat} {σ : L2.St} {D : Addr} {Qd : Hp → Prop}
theorem lc_data {α : Type} {r : R α} [Mo r] {j : Nat} {item : Nat → V → Prop} {ys : List α} {L : List Addr} {G H0 : Hp} {Inv : Nat → Hp → Prop}
    (wk : Walk J ys.length Gd (fun i H x H' => H' = H ∧ item i x)) (hG0 : Same G H0) (hG : ∀ H', Same G H' → Gd H') (hD : H0 D = none) (hDL : D ∉ L) (hn : ys.length ≤ 40000)
    (hw : ∀ x, wipe ((wipe σ vs).set j (some x)) vs = wipe σ vs) (i0 : Inv 0 H0) (iD : ∀ i H' o, Inv i H' → Inv i (upd H' D o))
    (turn : ∀ i x y G' H', ys[i]? = some y → item i x → Go L G H0 G' H' → Inv i H' → ∀ Q : VK, (∀ v G2 H2, Go L G' H' G2 H2 → Inv (i + 1) H2 → r G2 v y → Q v H2) → te ((wipe σ vs).set j (some x)) H' Q)
    (done : ∀ ts G' H', Go L G H0 G' H' → Inv ys.length H' → H' D = some (.lst ts) → G' D = some (.lst ts) → Paired (r G') ts ys → Qd H') :
    ∃ W : Nat → Nat → Hp → Prop, (∃ m, W 0 m (upd H0 D (.lst []))) ∧ ∀ i m H, W i m H →
      (J.stop i H ∧ Qd H) ∨ (J.go i H ∧ ∃ Nx : Hp → Prop, (∀ H', Nx H' → ∃ m', m' < m ∧ W (i + 1) m' H') ∧ ∀ x H', J.yld i H x H' → gName j x (wipe σ vs) H' fun σ2 H2 => wipe σ2 vs = wipe σ vs ∧ tYes σ2 H2 fun b H3 =>
        if b = true then te σ2 H3 fun y H4 => ∃ acc, H4 D = some (.lst acc) ∧ acc.length < sizeLine ∧ Nx (upd H4 D (.lst (acc ++ [y]))) else Nx H3) := by
  have gD : G D = none := hG0.free hD
  refine lc_it wk (fun i H' => ∃ G' ts, Go L G H0 G' H' ∧ Inv i H' ∧ G' D = none ∧ H' D = some (.lst ts) ∧ Paired (r G') ts (ys.take i)) ⟨G, [], (Go.refl hG0).tmp hD, iD 0 H0 _ i0, gD, upd_same, .nil⟩ (fun i H' _ ⟨G', ts, go, _⟩ => hG H' (go.g.trans go.h)) (fun i x H H' hi ⟨G', ts, go, iv, g', h', pr⟩ y => ?_) (fun H' ⟨G', ts, go, iv, g', h', pr⟩ => ?_)
  · obtain ⟨rfl, hx⟩ := y
    obtain ⟨y, hy⟩ : ∃ y, ys[i]? = some y := ⟨ys[i], List.getElem?_eq_getElem hi⟩
    refine ⟨hw x, ?_⟩
    have lts : ts.length = i := by rw [pLen pr, List.length_take]; omega
    refine turn i x y G' H' hy hx go iv _ fun v G2 H2 go2 iv2 hv => ?_
    have h2 := go2.in h' hDL
    have g2 := go2.none h' g'
    refine ⟨ts, h2, Nat.lt_of_le_of_lt (m := 40000) (by omega) (by decide), G2, ts ++ [v], (go.trans go2).mut g2 (.inl hD), iD _ _ _ iv2, g2, upd_same, ?_⟩
    rw [take_snoc hy]
    exact pSnoc (L2.Paired.mapP pr fun _ _ z => Mo.up go2.g z) hv
  · rw [List.take_length] at pr
    have sm : Same G' (upd G' D (.lst ts)) := same_upd g'
    exact done ts _ _ (go.frz hD h' g') iv h' upd_same (L2.Paired.mapP pr fun _ _ z => Mo.up sm z)
end
/-- a list of the heap itself -/
def rH {α : Type} (r : R α) : R (List α) := fun H v xs => ∃ a ts, v = .ref a ∧ H a = some (.lst ts) ∧ Paired (r H) ts xs
instance {α : Type} {r : R α} [Mo r] : Mo (rH r) := ⟨fun e ⟨a, ts, h1, h2, h3⟩ => ⟨a, ts, h1, e _ _ h2, L2.Paired.mapP h3 fun _ _ z => Mo.up e z⟩⟩
theorem rH.l {K : PySem.W.Frag} {α : Type} {r : R α} {H : Hp} {v : V} {xs : List α} (h : rH r H v xs) : rL K r H v xs := by
  obtain ⟨a, ts, h1, h2, h3⟩ := h
  exact ⟨a, ts, h1, SqL.of h2, h3⟩
theorem paired_perm {α β : Type} {F : α → β → Prop} {ys us : List α} (h : ys.Perm us) : ∀ {xs : List β}, Paired F us xs → ∃ js, Paired F ys js ∧ js.Perm xs := by
  induction h with
  | nil => intro xs p; exact ⟨xs, p, .refl _⟩
  | cons x _ ih =>
    intro xs p
    cases p with
    | cons a b =>
      obtain ⟨js, h1, h2⟩ := ih b
      exact ⟨_ :: js, .cons a h1, h2.cons _⟩
  | swap x y l =>
    intro xs p
    cases p with
    | cons a b =>
      cases b with
      | cons b c => exact ⟨_, .cons b (.cons a c), .swap _ _ _⟩
  | trans _ _ ih1 ih2 =>
    intro xs p
    obtain ⟨js, h1, h2⟩ := ih2 p
    obtain ⟨ks, h3, h4⟩ := ih1 h1
    exact ⟨ks, h3, h4.trans h2⟩
theorem paired_two {α β γ : Type} {F : α → β → Prop} {S : β → γ → Prop} : ∀ {us : List α} {xs : List γ}, Paired (fun u x => ∃ y, F u y ∧ S y x) us xs → ∃ ys, Paired F us ys ∧ Paired S ys xs
  | _, _, .nil => ⟨[], .nil, .nil⟩
  | _, _, .cons ⟨y, h1, h2⟩ r => by
    obtain ⟨ys, h3, h4⟩ := paired_two r
    exact ⟨y :: ys, .cons h1 h3, .cons h2 h4⟩
theorem map_paired {α β : Type} (f : α → β) : ∀ xs : List α, Paired (fun y x => y = f x) (xs.map f) xs
  | [] => .nil
  | _ :: xs => .cons rfl (map_paired f xs)
theorem paired_map {α β : Type} {f : α → β} : ∀ {ys : List β} {xs : List α}, Paired (fun y x => y = f x) ys xs → ys = xs.map f
  | _, _, .nil => rfl
  | _, _, .cons a r => by rw [a, paired_map r]; rfl
theorem perm_map {α β : Type} {f : α → β} {ys : List β} {xs : List α} (h : ys.Perm (xs.map f)) : ∃ js : List α, ys = js.map f ∧ js.Perm xs := by
  obtain ⟨js, h1, h2⟩ := paired_perm h (map_paired f xs)
  exact ⟨js, paired_map h1, h2⟩
theorem perm_full {α : Type} {ys zs xs : List α} (h : (ys ++ zs).Perm xs) (l : ys.length = xs.length) : ys.Perm xs := by
  have e := h.length_eq
  rw [List.length_append] at e
  have z : zs = [] := List.length_eq_zero_iff.mp (by omega)
  rw [z, List.append_nil] at h
  exact h
theorem pi_zipAK {X : Cx} {e e2 : Expr} {ta : TA} {p pos tpos : Pos} {elts : List Expr} {kk : Nat} (K : PySem.W.Frag) (hK : X.K = K) (hg : Gl X "zip") (hm : X.mg "zip" = none) (ha : PA X [e, e2] ta)
    (hs : starEach [e, e2] X.env = (false, eval e X.env) :: starEach [e2] X.env := by rfl) (hpl : (backTo pos (starEach [e2] X.env)).any (·.1) = false := by rfl) :
    PI X (.Tuple elts kk tpos) (.Call (.Name "zip" p) [e, e2] [] pos) (RZ.iZipA K ta) := by subst hK; exact RZ.pi_zipA hg hm ha hs hpl
theorem walk_zipTT {K : PySem.W.Frag} {a b : Addr} {xs ys : List V} {n : Nat} (hn : n = min xs.length ys.length) : Walk (RZ.ItzT K a b) n (fun H => SqT K H a xs ∧ SqT K H b ys) (YPair (fun i => xs[i]?) (fun i => ys[i]?)) := by
  subst hn
  refine ⟨fun i _ hi q => ?_, fun _ q => ⟨xs, ys, q.1, q.2, by omega⟩, fun i H v H' _ q y => ?_⟩
  · have h1 : i < xs.length := by omega
    have h2 : i < ys.length := by omega
    exact ⟨xs, ys, xs[i], ys[i], q.1, q.2, by simp [h1], by simp [h2]⟩
  · obtain ⟨T, x, y', h1, h2, h3, h4, h5⟩ := y
    exact ⟨T, x, y', h1, h2, h3, h4 xs q.1, h5 ys q.2⟩
theorem ty_tup {K : PySem.W.Frag} {H : Hp} {a : Addr} {xs : List V} (h : SqT K H a xs) : TyX K H (.ref a) (.type "tuple") := by
  rcases h with (h | ⟨o, h⟩) | ⟨o, its, n, hk, hc, _⟩
  · exact .base (.tup h)
  · exact .fTuple h
  · exact .kTuple hk hc
theorem isi_int {K : PySem.W.Frag} {H : Hp} {Q : VK} {i : Int} {u : String} {b : Bool} (e : kitB "int" u = some b) (q : Q (.bl b) H) : rIsi K [.int i, .ty u] H Q := isi_ty (t := "int") (.base (.int i)) e q
theorem isi_st {K : PySem.W.Frag} {H : Hp} {Q : VK} {s : Str} {u : String} {b : Bool} (e : kitB "str" u = some b) (q : Q (.bl b) H) : rIsi K [.str s, .ty u] H Q := isi_ty (t := "str") (.base (.str s)) e q
theorem isi_bo {K : PySem.W.Frag} {H : Hp} {Q : VK} {k : Bool} {u : String} {b : Bool} (e : kitB "bool" u = some b) (q : Q (.bl b) H) : rIsi K [.bl k, .ty u] H Q := isi_ty (t := "bool") (.base (.bl k)) e q
theorem isi_tup {K : PySem.W.Frag} {H : Hp} {Q : VK} {a : Addr} {xs : List V} (h : SqT K H a xs) (q : Q (.bl true) H) : rIsi K [.ref a, .ty "tuple"] H Q := isi_ty (t := "tuple") (ty_tup h) (by decide +kernel) q
/-- what changes only what is new -/
theorem Go.own {L : List Addr} {G H G1 H1 G2 H2 : Hp} {x : Addr} (a : Go L G H G1 H1) (b : Go [x] G1 H1 G2 H2) (hx : H x = Option.none) : Go L G H G2 H2 :=
  ⟨a.g.trans b.g, b.h, fun c o m e => b.k c o (fun z => by rw [List.mem_singleton] at z; rw [z, hx] at e; cases e) (a.k c o m e), fun c e z => b.n c (a.l c e) (a.n c e z), fun c e => b.l c (a.l c e)⟩
/-- what an expression tells, a new dict, stands still from there on -/
def tFrz (t : TE) : TE := fun σ H Q => t σ H fun x H1 => ∃ d u, x = .ref d ∧ H1 d = some u ∧ Mut (some u) ∧ ∀ od, Q x (upd H1 d (.frz od u))
theorem pe_frz {X : Cx} {e : Expr} {t : TE} (h : PE X e t) : PE X e (tFrz t) := by
  refine ⟨fun pins s σ H Q I hw => ?_⟩
  refine thn (h.run pins s σ H _ I hw) fun v s1 ⟨x, H1, I1, r, d, u, ex, hd, mu, q⟩ => ?_
  obtain ⟨od, I2⟩ := I1.lock hd mu
  exact ⟨x, _, I2, r, q od⟩
end Fw
/-! list of a text; a, b = a list -/
namespace Fw
open PySem PySem.Spec PyProof.Rows L2 TL
def rChars : List V → Hp → VK → Prop := fun xs H Q => ∃ z : Str, xs = [.str z] ∧ z.length ≤ sizeLine ∧ ∀ l, H l = none → Q (.ref l) (upd H l (.lst ((tl z).map fun c => V.str ⟨#[c]⟩)))
theorem call_chars {X : Cx} (hc : X.calm = true) : CallR X (.type "list") rChars := by
  intro pins s σ H xs us Q I r h
  obtain ⟨z, rfl, hz, q⟩ := h
  obtain ⟨u, rfl, t, rfl⟩ := vals1 r
  refine call_list_str (I.ok.hd hc) z t (fun h' tk acc' c' kp e it => ?_) hz
  have e0 : acc'.toList.length = z.cps.size := by rw [Array.length_toList]; exact it.1
  have rv : Vals ((tl z).map fun c => V.str ⟨#[c]⟩) acc'.toList := by
    refine vals_of_idx _ _ (by rw [e0, List.length_map]; simp) fun j v hj => ?_
    have hj' : acc'[j]? = some v := by rw [← Array.getElem?_toList]; exact hj
    have hlt : j < z.cps.size := by
      rw [← e0]
      exact (List.getElem?_eq_some_iff.mp hj).1
    obtain ⟨c, w, h1, h2⟩ := it.2 j v hj'
    refine ⟨.str ⟨#[c]⟩, ?_, h2 ▸ ⟨w, rfl⟩⟩
    rw [List.getElem?_map, Array.getElem?_toList, h1]
    rfl
  exact ⟨.ref s.heap.objs.size, _, I.laid (t' := tk) kp (Nat.le_refl _) (show ObjOk X.prog X.w _ h' _ (.lst ((tl z).map fun c => V.str ⟨#[c]⟩)) from ⟨by
    rw [List.length_map, Array.length_toList]
    exact hz, acc'.toList, c', rv, by simpa using e⟩), rfl, q _ (I.hok.fresh (Nat.le_refl _))⟩
theorem pg_unlK {X : Cx} {es : List Expr} {k n : Nat} {ts : TGs} {pos : Pos} (K : PySem.W.Frag) (hK : X.K = K) (hc : X.calm = true) (h : PGs X es ts) (hn : (assignEach es X.env).length = n := by rfl) (hst : (assignEach es X.env).findIdx? (·.1) = none := by rfl) : PG X (.Tuple es k pos) (gUnl K n ts) := by subst hK; exact pg_unl hc h hn hst
end Fw
/-! the promises of the program's defs -/
namespace Tc
open PySem PySem.Spec PyProof.Rows L2 Fw Mw TL
section

def sp_is_name (K : PySem.W.Frag) (CW : Addr) : Sp := Sp1 fun x H Q _ => ∃ z : Str, x = .str z ∧ z.length ≤ 1000 ∧ ∀ H1, Same H H1 → Q (.bl (isName z)) H1
def sp_all_words (K : PySem.W.Frag) (CW : Addr) : Sp := Sp1 fun x H Q _ => ∃ G js, Same G H ∧ rQ K (rT K rS) G x js ∧ js.flatten.length ≤ 1000 ∧ Ret G H Q (rL K rS) js.flatten
def sp_meeting_roads (K : PySem.W.Frag) (CW : Addr) : Sp := Sp1 fun x H Q _ => ∃ G r, Same G H ∧ x = .str (rowText r) ∧ RowOk r ∧ Ret G H Q (rT K rS) r
def sp_read_junctions (K : PySem.W.Frag) (CW : Addr) : Sp := Sp1 fun x H Q _ => ∃ G js, Same G H ∧ x = .str (webText js) ∧ Good js ∧ Ret G H Q (rT K (rT K rS)) js
/-- a dict whose keys are the numbers of S -/
def rNums : R (Nat → Prop) := fun H v S => ∃ d kvs, v = .ref d ∧ H d = some (.dK kvs) ∧ ∀ i : Nat, (valV kvs (Sum.inl (i : Int))).isSome ↔ S i
instance : Mo rNums := ⟨fun e ⟨d, kvs, h1, h2, h3⟩ => ⟨d, kvs, h1, e _ _ h2, h3⟩⟩
/-- closed: what a way does not go along; on these rows it is the road c, or none -/
def Shuts (js : Rows) (cs : List Str) (c : Str) : Prop := ∀ r ∈ js, ∀ x ∈ r, x ∈ cs ↔ x = c
def sp_reached (K : PySem.W.Frag) (CW : Addr) : Sp := Sp3 fun x y z H Q _ => ∃ G js i cs c, Same G H ∧ rT K (rT K rS) G x js ∧ y = .int (i : Nat) ∧ rT K rS G z cs ∧ Shuts js cs c ∧ i < js.length ∧ js.length ≤ 1000 ∧ (∀ r ∈ js, r.length = 3) ∧ Ret G H Q rNums (Reach js c i)
def sp_places_of (K : PySem.W.Frag) (CW : Addr) : Sp := Sp2 fun x y H Q _ => ∃ G js z, Same G H ∧ rT K (rT K rS) G x js ∧ y = .str z ∧ js.length ≤ 1000 ∧ Ret G H Q (rL K rI) ((sidesOf js z).map fun (n : Nat) => (n : Int))
def sp_check_hanging_together (K : PySem.W.Frag) (CW : Addr) : Sp := Sp1 fun x H Q _ => ∃ G js, Same G H ∧ rT K (rT K rS) G x js ∧ Good js ∧ Whole js ∧ ∀ H1, Same H H1 → Q .non H1
/-- the attributes of a web of these rows -/
structure WebIs (K : PySem.W.Frag) (G : Hp) (js : Rows) (vt vj vr vi ve : V) (g : Int) : Prop where
  text : vt = .str (webText js)
  junctions : rT K (rT K rS) G vj js
  roads : rT K rS G vr (roadsOf js)
  inner : rT K rS G vi (innerOf js)
  ends : rT K rS G ve (endsOf js)
  rounds : g = roundsOf js
theorem WebIs.up {K : PySem.W.Frag} {G G1 : Hp} {js : Rows} {vt vj vr vi ve : V} {g : Int} (e : Same G G1) (h : WebIs K G js vt vj vr vi ve g) : WebIs K G1 js vt vj vr vi ve g :=
  ⟨h.text, Mo.up e h.junctions, Mo.up e h.roads, Mo.up e h.inner, Mo.up e h.ends, h.rounds⟩
def webF (vt vj vr vi ve : V) (g : Int) : List (Str × V) := [("text", vt), ("junctions", vj), ("roads", vr), ("inner", vi), ("ends", ve), ("rounds", .int g)]
theorem lk_text {vt vj vr vi ve : V} {g : Int} : (webF vt vj vr vi ve g).lookup ("text" : Str) = some vt := rfl
theorem lk_junctions {vt vj vr vi ve : V} {g : Int} : (webF vt vj vr vi ve g).lookup ("junctions" : Str) = some vj := rfl
theorem lk_roads {vt vj vr vi ve : V} {g : Int} : (webF vt vj vr vi ve g).lookup ("roads" : Str) = some vr := rfl
theorem lk_inner {vt vj vr vi ve : V} {g : Int} : (webF vt vj vr vi ve g).lookup ("inner" : Str) = some vi := rfl
theorem lk_ends {vt vj vr vi ve : V} {g : Int} : (webF vt vj vr vi ve g).lookup ("ends" : Str) = some ve := rfl
theorem lk_rounds {vt vj vr vi ve : V} {g : Int} : (webF vt vj vr vi ve g).lookup ("rounds" : Str) = some (V.int g) := rfl
def wf1 (vt : V) : List (Str × V) := [("text", vt)]
def wf2 (vt vj : V) : List (Str × V) := [("text", vt), ("junctions", vj)]
def wf3 (vt vj vr : V) : List (Str × V) := [("text", vt), ("junctions", vj), ("roads", vr)]
def wf4 (vt vj vr vi : V) : List (Str × V) := [("text", vt), ("junctions", vj), ("roads", vr), ("inner", vi)]
def wf5 (vt vj vr vi ve : V) : List (Str × V) := [("text", vt), ("junctions", vj), ("roads", vr), ("inner", vi), ("ends", ve)]
theorem pf_text {vt : V} : putF "text" vt [] = wf1 vt := rfl
theorem pf_junctions {vt vj : V} : putF "junctions" vj (wf1 vt) = wf2 vt vj := rfl
theorem pf_roads {vt vj vr : V} : putF "roads" vr (wf2 vt vj) = wf3 vt vj vr := rfl
theorem pf_inner {vt vj vr vi : V} : putF "inner" vi (wf3 vt vj vr) = wf4 vt vj vr vi := rfl
theorem pf_ends {vt vj vr vi ve : V} : putF "ends" ve (wf4 vt vj vr vi) = wf5 vt vj vr vi ve := rfl
theorem pf_rounds {vt vj vr vi ve : V} {g : Int} : putF "rounds" (.int g) (wf5 vt vj vr vi ve) = webF vt vj vr vi ve g := rfl
theorem lk3 {vt vj vr : V} : (wf3 vt vj vr).lookup ("roads" : Str) = some vr := rfl
theorem lk4 {vt vj vr vi : V} : (wf4 vt vj vr vi).lookup ("roads" : Str) = some vr := rfl
theorem lk5 {vt vj vr vi ve : V} : (wf5 vt vj vr vi ve).lookup ("inner" : Str) = some vi := rfl
theorem dec_nat (k : Nat) {n : Nat} : decide (V.int (n : Nat) = V.int (k : Nat)) = decide (n = k) := by
  by_cases e : n = k
  · subst e; simp
  · rw [decide_eq_false e, decide_eq_false]
    exact fun h => e (by have := V.int.inj h; omega)
def rWeb (K : PySem.W.Frag) (CW : Addr) : R Rows := fun H v js => ∃ a dx vt vj vr vi ve g, v = .ref a ∧ H a = some (.ins CW dx (webF vt vj vr vi ve g)) ∧ WebIs K H js vt vj vr vi ve g
instance {K : PySem.W.Frag} {CW : Addr} : Mo (rWeb K CW) := ⟨fun e ⟨a, dx, vt, vj, vr, vi, ve, g, h1, h2, h3⟩ => ⟨a, dx, vt, vj, vr, vi, ve, g, h1, e _ _ h2, h3.up e⟩⟩
/-- __init__ at a new instance at a: what comes behind it finds a web there -/
def sp_Web_init__ (K : PySem.W.Frag) (CW : Addr) : Sp := Sp2 fun x y H Q _ => ∃ G js a dx, Same G H ∧ G a = none ∧ x = .ref a ∧ y = .str (webText js) ∧ H a = some (.ins CW dx []) ∧ Good js ∧ Whole js ∧
  ∀ G1 H1, Go [a] G H G1 H1 → (∃ vt vj vr vi ve g, H1 a = some (.ins CW dx (webF vt vj vr vi ve g)) ∧ WebIs K G1 js vt vj vr vi ve g) → Q .non H1
def sp_Web_len__ (K : PySem.W.Frag) (CW : Addr) : Sp := Sp1 fun x H Q _ => ∃ js, rWeb K CW H x js ∧ js.length ≤ 1000 ∧ Q (.int js.length) H
def sp_is_bridge (K : PySem.W.Frag) (CW : Addr) : Sp := Sp2 fun x y H Q _ => ∃ G js z, Same G H ∧ rWeb K CW G x js ∧ y = .str z ∧ z ∈ words js ∧ Good js ∧ ∀ H1 (b : Bool), Same H H1 → (b = true ↔ Bridge js z) → Q (.bl b) H1
def sp_bridges (K : PySem.W.Frag) (CW : Addr) : Sp := Sp1 fun x H Q _ => ∃ G js, Same G H ∧ rWeb K CW G x js ∧ Good js ∧ ∀ xs : List Str, (∃ p : Str → Bool, (∀ z, z ∈ words js → (p z = true ↔ Bridge js z)) ∧ xs = (innerOf js).filter p) → Ret G H Q (rT K rS) xs
end
section
variable (P : Program) (w : World) (K : PySem.W.Frag) (mg : Str → Option Value) (base : Heap) (CW : Addr)
def InitAt (k : Nat) : Prop := ∃ f fd ds, FnOk P w K mg base CX0 k f fd ["self", "text"] (sp_Web_init__ K CW) ∧ Mk K CW f ∧ Binds K fd ["self", "text"] ds ∧ Vals [] ds
def LenAt (k : Nat) : Prop := ∃ g, FnR P w K mg base CX0 k g (sp_Web_len__ K CW) ∧ PySem.W.findIn K (.ref CW) "__len__" = some (some (.ref g)) ∧ PySem.W.isFn K (.ref g) = true
def ReachedAt (k : Nat) : Prop := ∃ f fd, FnOk P w K mg base CX0 k f fd ["junctions", "start", "closed"] (sp_reached K CW) ∧ mg "reached" = some (.ref f) ∧ PySem.W.keepIn K (.ref f) = true ∧ Binds K fd ["junctions", "start", "closed"] [] ∧
  ∃ Te ds, Binds K fd ["junctions", "start", "closed"] ds ∧ Vals [V.ref Te] ds ∧ ∀ H, SqT K H Te []
end
theorem LenAt.raw {P : Program} {w : World} {K : PySem.W.Frag} {mg : Str → Option Value} {base : Heap} {CX : CXT} {k : Nat} {f : Addr} {fd : FuncData} {ps : List Str} {sp : Sp} (F : FnOk P w K mg base CX k f fd ps sp) (hb : Binds K fd ps []) : FnR P w K mg base CX k f sp :=
  (F.raw hb .nil).imp fun vs H Q E h => by
    rw [List.append_nil]
    exact h
end Tc
/-! the promises of the law's own defs: the pot and what is drawn from it; texts; webs by hand -/
namespace Tc
open PySem PySem.Spec PyProof.Rows L2 Fw Mw TL
/-- n more takes are left -/
def Pot (n : Nat) (p : Addr) (H : Hp) : Prop := ∃ a b c : Int, H p = some (.lst [.int a, .int b, .int c]) ∧ 0 ≤ a ∧ 0 ≤ b ∧ b < 2 ^ 61 ∧ 0 ≤ c ∧ c + n ≤ 1000000
def But (p : Addr) (H H' : Hp) : Prop := ∀ a o, a ≠ p → H a = some o → H' a = some o
theorem Pot.le {n m : Nat} {p : Addr} {H : Hp} (h : Pot n p H) (e : m ≤ n) : Pot m p H := by
  obtain ⟨a, b, c, h1, h2, h3, h4, h5, h6⟩ := h
  exact ⟨a, b, c, h1, h2, h3, h4, h5, by omega⟩
theorem Pot.up {n : Nat} {p : Addr} {H H1 : Hp} (h : Pot n p H) (e : Same H H1) : Pot n p H1 := by
  obtain ⟨a, b, c, h1, h2⟩ := h
  exact ⟨a, b, c, e _ _ h1, h2⟩
theorem Pot.some {n : Nat} {p : Addr} {H : Hp} (h : Pot n p H) : H p ≠ none := by
  obtain ⟨a, b, c, h1, h2⟩ := h
  rw [h1]
  exact fun z => nomatch z
theorem But.go {n : Nat} {p : Addr} {G H H1 : Hp} (hG : Same G H) (gp : G p = none) (b : But p H H1) (h : Pot n p H1) : Go [p] G H G H1 := by
  refine ⟨Same.refl G, fun a o e => b a o (fun z => by rw [z, gp] at e; cases e) (hG a o e), fun a o m e => b a o (fun z => m (by simp [z])) e, fun _ _ e => e, fun a e => ?_⟩
  by_cases z : a = p
  · rw [z]; exact h.some
  · cases q : H a with
    | none => exact absurd q e
    | some o => rw [b a o z q]; exact fun z => nomatch z
theorem Pot.go {n : Nat} {p : Addr} {L : List Addr} {G H G1 H1 : Hp} (h : Pot n p H) (g : Go L G H G1 H1) (m : p ∉ L) : Pot n p H1 := by
  obtain ⟨a, b, c, h1, h2⟩ := h
  exact ⟨a, b, c, g.k _ _ m h1, h2⟩
theorem cpow_of {b k c d : Int} (h1 : 0 ≤ b) (h2 : b < 2 ^ 61) (h3 : 0 ≤ k) (h4 : k ≤ 1000000) (h5 : 0 ≤ c) (h6 : c ≤ 1000001) (h7 : 0 ≤ d) (h8 : d ≤ 1000000) : CPow (b + k * c * c + d) 3 := by
  have e1 : 0 ≤ k * c * c := Int.mul_nonneg (Int.mul_nonneg h3 h5) h5
  have e2 : k * c ≤ 1000000 * 1000001 := Int.mul_le_mul h4 h6 h5 (by decide)
  have e3 : k * c * c ≤ 1000000 * 1000001 * 1000001 := Int.mul_le_mul e2 h6 h5 (by decide)
  refine ⟨by decide, by decide, ?_⟩
  omega
/-- what a call leaves that takes from a pot -/
def RetP {α : Type} (p : Addr) (n : Nat) (G H : Hp) (Q : VK) (r : R α) (x : α) : Prop := ∀ v G1 H1, Go [p] G H G1 H1 → Pot n p H1 → r G1 v x → Q v H1
section
variable (K : PySem.W.Frag) (CW : Addr)
def sp_law_pot (K : PySem.W.Frag) (CW : Addr) : Sp := Sp2 fun x y H Q _ => ∃ (a : Addr) (ns : List Int) (i : Nat), x = .ref a ∧ y = .int i ∧ SqL K H a (ns.map V.int) ∧ i ≤ 100 ∧ ∀ p H1, H p = none → Same H H1 → Pot 1000000 p H1 → Q (.ref p) H1
def sp_law_take (K : PySem.W.Frag) (CW : Addr) : Sp := Sp2 fun x y H Q _ => ∃ (p : Addr) (n : Nat) (u : Int), x = .ref p ∧ y = .int u ∧ 0 < u ∧ u < 1000000000 ∧ Pot (n + 1) p H ∧
  ∀ d H', 0 ≤ d → d < u → Pot n p H' → But p H H' → Q (.int d) H'
def sp_law_some (K : PySem.W.Frag) (CW : Addr) : Sp := Sp3 fun x y z H Q _ => ∃ (p : Addr) (n : Nat) (a : Addr) (xs : List V) (many : Nat) (G : Hp), Same G H ∧ G p = none ∧ x = .ref p ∧ y = .ref a ∧ z = .int many ∧ (SqL K G a xs ∨ SqT K G a xs) ∧ many ≤ xs.length ∧ xs.length ≤ 1000 ∧ Pot (n + many) p H ∧
  ∀ ys l G1 H1, Go [p] G H G1 H1 → Pot n p H1 → G1 l = some (.lst ys) → ys.length = many → (∃ zs, (ys ++ zs).Perm xs) → Q (.ref l) H1
def sp_law_cells (K : PySem.W.Frag) (CW : Addr) : Sp := Sp2 fun x y H Q _ => ∃ (a : Addr) (ns : List Int), x = .ref a ∧ (∃ m : Int, y = .int m ∧ 1 ≤ m ∧ m ≤ 50) ∧ SqL K H a (ns.map V.int) ∧ ∀ (l : Addr) (k : Nat) H1, k ≤ 50 → Same H H1 → SqL K H1 l ((List.range k).map fun (n : Nat) => V.int n) → Q (.ref l) H1
def sp_law_web_text (K : PySem.W.Frag) (CW : Addr) : Sp := Sp1 fun x H Q _ => ∃ G js, Same G H ∧ rL K (rT K rS) G x js ∧ (∀ r ∈ js, RowOk r) ∧ js.length ≤ 100 ∧ ∀ H1, Same H H1 → Q (.str (webText js)) H1
/-- a row whose names stand in some sequence -/
def rP (K : PySem.W.Frag) : R (List Str) := fun H v r => ∃ r', rT K rS H v r' ∧ r'.Perm r
instance {K : PySem.W.Frag} : Mo (rP K) := ⟨fun e ⟨r', h1, h2⟩ => ⟨r', Mo.up e h1, h2⟩⟩
/-- the rows in a sequence of their own, each with its names so -/
def Turned (js own : Rows) : Prop := ∃ js1, Paired List.Perm js1 own ∧ js.Perm js1
theorem Turned.length {js own : Rows} (h : Turned js own) : js.length = own.length := by
  obtain ⟨js1, h1, h2⟩ := h
  exact h2.length_eq.trans (Paired.length h1)
def sp_law_web_turned (K : PySem.W.Frag) (CW : Addr) : Sp := Sp2 fun x y H Q _ => ∃ (p : Addr) (n : Nat) (G : Hp) (own : Rows), Same G H ∧ G p = none ∧ x = .ref p ∧ rL K (rT K rS) G y own ∧ (∀ r ∈ own, r.length = 3) ∧ own.length ≤ 100 ∧ Pot (n + 4 * own.length) p H ∧
  ∀ js, Turned js own → RetP p n G H Q (rL K (rT K rS)) js
theorem paired_at0 {α β : Type} {F : α → β → Prop} : ∀ {xs : List α} {ys : List β} {i : Nat} {x : α}, Paired F xs ys → xs[i]? = some x → ∃ y, ys[i]? = some y ∧ F x y
  | _, _, _, _, .nil, e => by simp at e
  | _, _, 0, _, .cons r _, e => ⟨_, rfl, by simp at e; rw [← e]; exact r⟩
  | _, _, i + 1, x, .cons _ q, e => by
    rcases paired_at0 (i := i) (x := x) q (by simpa using e) with ⟨y, h1, h2⟩
    exact ⟨y, by simpa using h1, h2⟩
/-- a number, a text, a truth -/
def flatT (x : V) : Prop := (∃ i : Int, x = .int i) ∨ (∃ s : Str, x = .str s) ∨ ∃ b : Bool, x = .bl b
/-- told as it is due: flat values, or tuples of such, n deep -/
def EqT (K : PySem.W.Frag) (H : Hp) : Nat → V → V → Prop
  | 0, x, y => x = y ∧ flatT x
  | n + 1, x, y => (x = y ∧ flatT x) ∨ ∃ a b ts us, x = .ref a ∧ y = .ref b ∧ SqT K H a ts ∧ SqT K H b us ∧ ts.length ≤ 1000 ∧ Paired (EqT K H n) ts us
theorem EqT.up {K : PySem.W.Frag} {H H1 : Hp} (e : Same H H1) : ∀ {n : Nat} {x y : V}, EqT K H n x y → EqT K H1 n x y
  | 0, _, _, h => h
  | n + 1, _, _, h => by
    rcases h with h | ⟨a, b, ts, us, h1, h2, h3, h4, h5, h6⟩
    · exact .inl h
    · exact .inr ⟨a, b, ts, us, h1, h2, seqT e h3, seqT e h4, h5, L2.Paired.mapP h6 fun _ _ z => EqT.up e z⟩
theorem EqT.flat {K : PySem.W.Frag} {H : Hp} {n : Nat} {x : V} (h : flatT x) : EqT K H n x x := by
  cases n with
  | zero => exact ⟨rfl, h⟩
  | succ n => exact .inl ⟨rfl, h⟩
theorem EqT.same {K : PySem.W.Frag} {H : Hp} {n : Nat} : ∀ {ts : List V}, (∀ t ∈ ts, flatT t) → Paired (EqT K H n) ts ts
  | [], _ => .nil
  | t :: ts, h => .cons (EqT.flat (h t List.mem_cons_self)) (EqT.same fun u hu => h u (List.mem_cons_of_mem _ hu))
theorem EqT.tup {K : PySem.W.Frag} {H : Hp} {n : Nat} {a b : Addr} {ts : List V} (h1 : SqT K H a ts) (h2 : SqT K H b ts) (hl : ts.length ≤ 1000) (h : ∀ t ∈ ts, flatT t) : EqT K H (n + 1) (.ref a) (.ref b) :=
  .inr ⟨a, b, ts, ts, rfl, rfl, h1, h2, hl, EqT.same h⟩
def sp_law_is_at (n : Nat) (K : PySem.W.Frag) (CW : Addr) : Sp := Sp2 fun x y H Q _ => EqT K H n x y ∧ ∀ H1, Same H H1 → Q (.bl true) H1
def sp_law_is (K : PySem.W.Frag) (CW : Addr) : Sp := sp_law_is_at 3 K CW
theorem flat_ints (l : List Int) : ∀ t ∈ l.map V.int, flatT t := fun t h => by
  obtain ⟨i, _, rfl⟩ := List.mem_map.mp h
  exact .inl ⟨i, rfl⟩
theorem flat_strs (l : List Str) : ∀ t ∈ l.map V.str, flatT t := fun t h => by
  obtain ⟨i, _, rfl⟩ := List.mem_map.mp h
  exact .inr (.inl ⟨i, rfl⟩)
/-- a letter and a letter by its number -/
def lw (l : Str) (n : Nat) : Str := l ++ ⟨#[97 + n]⟩
def sp_law_word (K : PySem.W.Frag) (CW : Addr) : Sp := Sp2 fun x y H Q _ => ∃ (l : Str) (n : Nat), x = .str l ∧ y = .int n ∧ n < 26 ∧ l.length ≤ 10 ∧ Q (.str (lw l n)) H
def combMid (j : Nat) : List Str := [lw "i" j, lw "e" (j + 2), lw "i" (j + 1)]
def combRows (j : Nat) : Rows := [lw "e" 0, lw "e" 1, lw "i" 0] :: (List.range j).map combMid
def combLast (ends : Nat) : List Str := [lw "i" (ends - 4), lw "e" (ends - 2), lw "e" (ends - 1)]
def combOf (ends : Nat) : Rows := if ends = 3 then [[lw "e" 0, lw "e" 1, lw "e" 2]] else combRows (ends - 4) ++ [combLast ends]
theorem combRows_succ (j : Nat) : combRows (j + 1) = combRows j ++ [combMid j] := by
  unfold combRows
  rw [List.range_succ, List.map_append]
  rfl
def ringOf (many : Nat) : Rows := (List.range many).map fun at' => [lw "r" at', lw "e" at', lw "r" ((at' + 1) % many)]
def drumOf (e : Str)   : Mw.Row := [e, ("d" : Str) ++ e, ("d" : Str) ++ e]
def sp_law_comb (K : PySem.W.Frag) (CW : Addr) : Sp := Sp1 fun x H Q _ => ∃ (G : Hp) (e : Nat), Same G H ∧ x = .int e ∧ 3 ≤ e ∧ e ≤ 14 ∧ Ret G H Q (rH (rT K rS)) (combOf e)
def sp_law_ring (K : PySem.W.Frag) (CW : Addr) : Sp := Sp1 fun x H Q _ => ∃ (G : Hp) (e : Nat), Same G H ∧ x = .int e ∧ 1 ≤ e ∧ e ≤ 12 ∧ Ret G H Q (rH (rT K rS)) (ringOf e)
def sp_law_drummed (K : PySem.W.Frag) (CW : Addr) : Sp := Sp2 fun x y H Q _ => ∃ (G : Hp) (own : Rows) (ds : List Str), Same G H ∧ rH (rT K rS) G x own ∧ rL K rS G y ds ∧ own.length ≤ 100 ∧ ds.length ≤ 100 ∧ (∀ d ∈ ds, d.length ≤ 10) ∧ Ret G H Q (rH (rT K rS)) (own ++ ds.map drumOf)
/-- a web that has so many ends, so many rounds, and these bridges -/
structure Fits (js : Rows) (ends rounds : Int) (spans : List Str) : Prop where
  good : Good js
  whole : Whole js
  hends : ((endsOf js).length : Int) = ends
  hrounds : roundsOf js = rounds
  hroads : ((roadsOf js).length : Int) = 2 * ends + 3 * rounds - 3
  hinner : ((innerOf js).length : Int) = ends + 3 * rounds - 3
  bridges : ∀ p : Str → Bool, (∀ z, z ∈ words js → (p z = true ↔ Bridge js z)) → (innerOf js).filter p = spans.mergeSort leS
def sp_law_is_so (K : PySem.W.Frag) (CW : Addr) : Sp := Sp5 fun x y z t u H Q _ => ∃ (p : Addr) (n : Nat) (G : Hp) (own : Rows) (ends rounds : Int) (spans : List Str), Same G H ∧ G p = none ∧ x = .ref p ∧ rL K (rT K rS) G y own ∧ z = .int ends ∧ t = .int rounds ∧ rL K rS G u spans ∧
  -100 ≤ ends ∧ ends ≤ 100 ∧ -100 ≤ rounds ∧ rounds ≤ 100 ∧ spans.length ≤ 50 ∧ Fits own ends rounds spans ∧ Pot (n + 4 * own.length) p H ∧ ∀ G1 H1, Go [p] G H G1 H1 → Pot n p H1 → Q (.bl true) H1
def sp_law_right (K : PySem.W.Frag) (CW : Addr) : Sp := Sp1 fun x H Q _ => ∃ (p : Addr), x = .ref p ∧ Pot 1000 p H ∧ ∀ H1, But p H H1 → Q (.bl true) H1
def sp_law (K : PySem.W.Frag) (CW : Addr) : Sp := Sp1 fun x H Q _ => ∃ (a : Addr) (ns : List Int), x = .ref a ∧ SqL K H a (ns.map V.int) ∧ ∀ H1, Same H H1 → Q (.bl true) H1
end
/-- words with numbers from 0 on, in a comprehension -/
theorem lc_words {K : PySem.W.Frag} {CW : Addr} {σ : L2.St} {vs : List Nat} {j n : Nat} {l : Str} {L : List Addr} {G H0 : Hp} {D : Addr} {Qd : Hp → Prop} (hl : l.length ≤ 10) (hn : n ≤ 26) (hG0 : Same G H0) (hD : H0 D = none) (hDL : D ∉ L)
    (hw : ∀ x, wipe ((wipe σ vs).set j (some x)) vs = wipe σ vs) (hv : ∀ x H Q, Q x H → tVar j ((wipe σ vs).set j (some x)) H Q)
    (done : ∀ ts G' H', Go L G H0 G' H' → H' D = some (.lst (((List.range n).map (lw l)).map V.str)) → G' D = some (.lst (((List.range n).map (lw l)).map V.str)) → ts = ((List.range n).map (lw l)).map V.str → Qd H') :
    ∃ W : Nat → Nat → Hp → Prop, (∃ m, W 0 m (upd H0 D (.lst []))) ∧ ∀ i m H, W i m H →
      ((Itr 0 n).stop i H ∧ Qd H) ∨ ((Itr 0 n).go i H ∧ ∃ Nx : Hp → Prop, (∀ H', Nx H' → ∃ m', m' < m ∧ W (i + 1) m' H') ∧ ∀ x H', (Itr 0 n).yld i H x H' → gName j x (wipe σ vs) H' fun σ2 H2 => wipe σ2 vs = wipe σ vs ∧ tYes σ2 H2 fun b H3 =>
        if b = true then tCall (sp_law_word K CW) [] E0 (tCons (tC (.str l)) (tCons (tVar j) tNil)) σ2 H3 fun y H4 => ∃ acc, H4 D = some (.lst acc) ∧ acc.length < sizeLine ∧ Nx (upd H4 D (.lst (acc ++ [y]))) else Nx H3) := by
  have hlen : ((List.range n).map (lw l)).length = n := by rw [List.length_map, List.length_range]
  refine lc_data (r := rS) (item := fun i x => x = .int (0 + (i : Int))) (ys := (List.range n).map (lw l)) (L := L) (G := G) (Inv := fun _ _ => True) (by rw [hlen]; exact walk_range) hG0 (fun _ _ => trivial) hD hDL (by omega) hw trivial (fun _ _ _ _ => trivial) (fun i x y G' H' hy hx go _ Q q => ?_) (fun ts G' H' go _ hD' gD' pr => ?_)
  · have hi : i < n := by
      rw [← hlen]
      exact (List.getElem?_eq_some_iff.mp hy).1
    obtain rfl : y = lw l i := by
      rw [List.getElem?_map, List.getElem?_range hi] at hy
      exact (Option.some.inj hy).symm
    rw [Int.zero_add] at hx
    subst hx
    refine hv _ _ _ ?_
    exact ⟨_, _, rfl, l, i, rfl, rfl, by omega, hl, q _ _ _ (Go.refl go.h) trivial rfl⟩
  · have e := pS pr
    rw [e] at hD' gD'
    exact done ts _ _ go hD' gD' e
end Tc
/-! webs in another sequence -/
namespace Tc
open PySem PySem.Spec PyProof.Rows L2 Fw Mw TL
theorem Adj.symm {js : Rows} {c : Str} {i k : Nat} (h : Adj js c i k) : Adj js c k i := by
  obtain ⟨r, q, x, h1, h2, h3, h4, h5⟩ := h
  exact ⟨q, r, x, h2, h1, h4, h3, h5⟩
theorem Reach.trans {js : Rows} {c : Str} {i j k : Nat} (a : Reach js c i j) (b : Reach js c j k) : Reach js c i k := by
  induction b with
  | here => exact a
  | step _ e ih => exact .step ih e
theorem Reach.symm {js : Rows} {c : Str} {i j : Nat} (a : Reach js c i j) : Reach js c j i := by
  induction a with
  | here => exact .here
  | step _ e ih => exact Reach.trans (.step .here (Adj.symm e)) ih
/-- the same rows at other places, their names in other sequences -/
structure Iso (js own : Rows) (f g : Nat → Nat) : Prop where
  to : ∀ i r, js[i]? = some r → ∃ q, own[f i]? = some q ∧ r.Perm q ∧ g (f i) = i
  fro : ∀ i q, own[i]? = some q → ∃ r, js[g i]? = some r ∧ r.Perm q ∧ f (g i) = i
theorem Iso.swap {js own : Rows} {f g : Nat → Nat} (h : Iso js own f g) : Iso own js g f :=
  ⟨fun i q e => by
    obtain ⟨r, h1, h2, h3⟩ := h.fro i q e
    exact ⟨r, h1, h2.symm, h3⟩, fun i r e => by
    obtain ⟨q, h1, h2, h3⟩ := h.to i r e
    exact ⟨q, h1, h2.symm, h3⟩⟩
theorem Iso.adj {js own : Rows} {f g : Nat → Nat} (h : Iso js own f g) {c : Str} {i k : Nat} (a : Adj js c i k) : Adj own c (f i) (f k) := by
  obtain ⟨r, q, x, h1, h2, h3, h4, h5⟩ := a
  obtain ⟨r', e1, p1, _⟩ := h.to i r h1
  obtain ⟨q', e2, p2, _⟩ := h.to k q h2
  exact ⟨r', q', x, e1, e2, p1.mem_iff.mp h3, p2.mem_iff.mp h4, h5⟩
theorem Iso.reach {js own : Rows} {f g : Nat → Nat} (h : Iso js own f g) {c : Str} {i k : Nat} (a : Reach js c i k) : Reach own c (f i) (f k) := by
  induction a with
  | here => exact .here
  | step _ e ih => exact .step ih (h.adj e)
theorem perm_idx {α : Type} {l l' : List α} (h : l.Perm l') : ∃ f g : Nat → Nat, (∀ i, i < l.length → f i < l'.length ∧ l'[f i]? = l[i]? ∧ g (f i) = i) ∧ (∀ j, j < l'.length → g j < l.length ∧ l[g j]? = l'[j]? ∧ f (g j) = j) := by
  induction h with
  | nil => exact ⟨id, id, fun i h => by simp at h, fun i h => by simp at h⟩
  | cons x _ ih =>
    obtain ⟨f, g, h1, h2⟩ := ih
    refine ⟨fun i => match i with | 0 => 0 | i + 1 => f i + 1, fun i => match i with | 0 => 0 | i + 1 => g i + 1, fun i hi => ?_, fun i hi => ?_⟩
    · cases i with
      | zero => simp
      | succ i =>
        have q := h1 i (by simpa using hi)
        simp only [List.length_cons, List.getElem?_cons_succ]
        exact ⟨by omega, q.2.1, by omega⟩
    · cases i with
      | zero => simp
      | succ i =>
        have q := h2 i (by simpa using hi)
        simp only [List.length_cons, List.getElem?_cons_succ]
        exact ⟨by omega, q.2.1, by omega⟩
  | swap x y l =>
    refine ⟨fun i => match i with | 0 => 1 | 1 => 0 | i + 2 => i + 2, fun i => match i with | 0 => 1 | 1 => 0 | i + 2 => i + 2, fun i hi => ?_, fun i hi => ?_⟩
    · match i with
      | 0 => simp
      | 1 => simp
      | i + 2 => simpa using hi
    · match i with
      | 0 => simp
      | 1 => simp
      | i + 2 => simpa using hi
  | trans _ _ ih1 ih2 =>
    obtain ⟨f1, g1, a1, a2⟩ := ih1
    obtain ⟨f2, g2, b1, b2⟩ := ih2
    refine ⟨fun i => f2 (f1 i), fun i => g1 (g2 i), fun i hi => ?_, fun i hi => ?_⟩
    · have p := a1 i hi
      have q := b1 _ p.1
      exact ⟨q.1, q.2.1.trans p.2.1, by show g1 (g2 (f2 (f1 i))) = i; rw [q.2.2, p.2.2]⟩
    · have p := b2 i hi
      have q := a2 _ p.1
      exact ⟨q.1, q.2.1.trans p.2.1, by show f2 (f1 (g1 (g2 i))) = i; rw [q.2.2, p.2.2]⟩
theorem paired_at {α β : Type} {F : α → β → Prop} : ∀ {xs : List α} {ys : List β} {i : Nat} {x : α}, Paired F xs ys → xs[i]? = some x → ∃ y, ys[i]? = some y ∧ F x y
  | _, _, _, _, .nil, e => by simp at e
  | _, _, 0, _, .cons r _, e => ⟨_, rfl, by simp at e; rw [← e]; exact r⟩
  | _, _, i + 1, x, .cons _ q, e => by
    rcases paired_at (i := i) (x := x) q (by simpa using e) with ⟨y, h1, h2⟩
    exact ⟨y, by simpa using h1, h2⟩
theorem paired_back {α β : Type} {F : α → β → Prop} : ∀ {xs : List α} {ys : List β} {i : Nat} {y : β}, Paired F xs ys → ys[i]? = some y → ∃ x, xs[i]? = some x ∧ F x y
  | _, _, _, _, .nil, e => by simp at e
  | _, _, 0, _, .cons r _, e => ⟨_, rfl, by simp at e; rw [← e]; exact r⟩
  | _, _, i + 1, x, .cons _ q, e => by
    rcases paired_back (i := i) (y := x) q (by simpa using e) with ⟨y, h1, h2⟩
    exact ⟨y, by simpa using h1, h2⟩
theorem turned_iso {js own : Rows} (t : Turned js own) : ∃ f g, Iso js own f g := by
  obtain ⟨js1, h1, h2⟩ := t
  obtain ⟨f, g, a, b⟩ := perm_idx h2
  refine ⟨f, g, fun i r e => ?_, fun i q e => ?_⟩
  · have hi := (List.getElem?_eq_some_iff.mp e).1
    have q := a i hi
    obtain ⟨y, h3, h4⟩ := paired_at h1 (q.2.1.trans e)
    exact ⟨y, h3, h4, q.2.2⟩
  · obtain ⟨x, h3, h4⟩ := paired_back h1 e
    have hi := (List.getElem?_eq_some_iff.mp h3).1
    have q := b i hi
    exact ⟨x, q.2.1.trans h3, h4, q.2.2⟩
theorem turned_words {js own : Rows} (t : Turned js own) : (words js).Perm (words own) := by
  obtain ⟨js1, h1, h2⟩ := t
  refine List.Perm.trans (List.Perm.flatten h2) ?_
  clear h2
  unfold words
  induction h1 with
  | nil => exact .refl _
  | cons a _ ih =>
    rw [List.flatten_cons, List.flatten_cons]
    exact a.append ih
theorem roads_perm {js own : Rows} (h : (words js).Perm (words own)) : roadsOf js = roadsOf own := by
  refine sort_uniq (sort_pair _) (sort_pair _) ?_
  exact (List.perm_ext_iff_of_nodup (nodup_roads js) (nodup_roads own)).mpr fun x => mem_roads.trans (h.mem_iff.trans mem_roads.symm)
theorem inner_perm {js own : Rows} (h : (words js).Perm (words own)) : innerOf js = innerOf own := by
  unfold innerOf
  rw [roads_perm h]
  exact List.filter_congr fun x _ => by rw [h.count_eq]
theorem ends_perm {js own : Rows} (h : (words js).Perm (words own)) : endsOf js = endsOf own := by
  unfold endsOf
  rw [roads_perm h]
  exact List.filter_congr fun x _ => by rw [h.count_eq]
/-- three junctions at one road: it stands three times -/
theorem three {js : Rows} {x : Str} {a b c : Nat} {ra rb rc : List Str} (hab : a < b) (hbc : b < c) (h1 : js[a]? = some ra) (h2 : js[b]? = some rb) (h3 : js[c]? = some rc) (m1 : x ∈ ra) (m2 : x ∈ rb) (m3 : x ∈ rc) : 3 ≤ js.flatten.count x := by
  have e1 := congrArg List.flatten (List.take_append_drop b js)
  have hb := (List.getElem?_eq_some_iff.mp h2)
  rw [List.flatten_append, List.drop_eq_getElem_cons hb.1, hb.2, List.flatten_cons] at e1
  rw [← e1, List.count_append, List.count_append]
  have p1 : 0 < ((js.take b).flatten).count x := List.count_pos_iff.mpr (List.mem_flatten.mpr ⟨ra, List.mem_of_getElem? (i := a) (by rw [List.getElem?_take_of_lt hab]; exact h1), m1⟩)
  have p2 : 0 < rb.count x := List.count_pos_iff.mpr m2
  have p3 : 0 < ((js.drop (b + 1)).flatten).count x := List.count_pos_iff.mpr (List.mem_flatten.mpr ⟨rc, List.mem_of_getElem? (i := c - (b + 1)) (by rw [List.getElem?_drop, show b + 1 + (c - (b + 1)) = c by omega]; exact h3), m3⟩)
  omega
/-- a bridge is a road two of whose junctions do not reach one another -/
theorem bridge_two {js : Rows} (h2 : ∀ x, js.flatten.count x ≤ 2) {z : Str} : Bridge js z ↔ ∃ i j r q, js[i]? = some r ∧ js[j]? = some q ∧ z ∈ r ∧ z ∈ q ∧ ¬ Reach js z i j := by
  constructor
  · rintro ⟨i, j, r, q, h1, h2, h3, h4, _, h6⟩
    exact ⟨i, j, r, q, h1, h2, h3, h4, h6⟩
  · have main : ∀ i j r q, i < j → js[i]? = some r → js[j]? = some q → z ∈ r → z ∈ q → ¬ Reach js z i j → Bridge js z := by
      intro i j r q lt e1 e2 m1 m2 nr
      refine ⟨i, j, r, q, e1, e2, m1, m2, fun k s ek mk => ?_, nr⟩
      have hz := h2 z
      constructor
      · rcases Nat.lt_or_ge k i with hk | hk
        · have := three hk lt ek e1 e2 mk m1 m2
          omega
        · exact hk
      · rcases Nat.lt_or_ge j k with hk | hk
        · have := three lt hk e1 e2 ek m1 m2 mk
          omega
        · exact hk
    rintro ⟨i, j, r, q, e1, e2, m1, m2, nr⟩
    rcases Nat.lt_trichotomy i j with lt | rfl | lt
    · exact main i j r q lt e1 e2 m1 m2 nr
    · exact absurd .here nr
    · exact main j i q r lt e2 e1 m2 m1 fun h => nr (Reach.symm h)
theorem iso_bridge {js own : Rows} {f g : Nat → Nat} (h : Iso js own f g) (h1 : ∀ x, js.flatten.count x ≤ 2) (h2 : ∀ x, own.flatten.count x ≤ 2) {z : Str} (b : Bridge js z) : Bridge own z := by
  obtain ⟨i, j, r, q, e1, e2, m1, m2, nr⟩ := (bridge_two h1).mp b
  obtain ⟨r', a1, p1, g1⟩ := h.to i r e1
  obtain ⟨q', a2, p2, g2⟩ := h.to j q e2
  refine (bridge_two h2).mpr ⟨f i, f j, r', q', a1, a2, p1.mem_iff.mp m1, p2.mem_iff.mp m2, fun c => nr ?_⟩
  have d := h.swap.reach c
  rw [g1, g2] at d
  exact d
theorem fits_turn {js own : Rows} {e r : Int} {s : List Str} (t : Turned js own) (h : Fits own e r s) : Fits js e r s := by
  obtain ⟨f, g, iso⟩ := turned_iso t
  have pw := turned_words t
  have len := t.length
  have tw : ∀ x, js.flatten.count x ≤ 2 := fun x => by
    have := h.good.twice x
    rw [show js.flatten.count x = own.flatten.count x from pw.count_eq x]
    exact this
  have good : Mw.Good js := by
    refine ⟨fun r hr => ?_, fun z => ?_, by rw [len]; exact h.good.most, tw⟩
    · obtain ⟨i, hi⟩ := List.getElem?_of_mem hr
      obtain ⟨q, e1, p1, _⟩ := iso.to i r hi
      have ok := h.good.rows q (List.mem_of_getElem? e1)
      exact ⟨p1.length_eq.trans ok.len, fun x hx => ok.names x (p1.mem_iff.mp hx)⟩
    · rw [z] at len
      exact h.good.some (List.length_eq_zero_iff.mp len.symm)
  have ei := inner_perm pw
  refine ⟨good, fun i hi => ?_, by rw [ends_perm pw]; exact h.hends, ?_, by rw [roads_perm pw]; exact h.hroads, by rw [ei]; exact h.hinner, fun p hp => ?_⟩
  · have h0 : 0 < js.length := by omega
    obtain ⟨q0, a0, _, b0⟩ := iso.to 0 js[0] (List.getElem?_eq_getElem h0)
    obtain ⟨qi, ai, _, bi⟩ := iso.to i js[i] (List.getElem?_eq_getElem hi)
    have l0 := (List.getElem?_eq_some_iff.mp a0).1
    have li := (List.getElem?_eq_some_iff.mp ai).1
    have rr := iso.swap.reach (Reach.trans (Reach.symm (h.whole _ l0)) (h.whole _ li))
    rw [b0, bi] at rr
    exact rr
  · have := h.hrounds
    unfold roundsOf at this ⊢
    rw [ei, len]
    exact this
  · rw [ei]
    refine h.bridges p fun z hz => ?_
    rw [hp z (pw.mem_iff.mpr hz)]
    exact ⟨iso_bridge iso tw h.good.twice, iso_bridge iso.swap h.good.twice tw⟩
theorem fits_spans {js : Rows} {e r : Int} {s s' : List Str} (h : Fits js e r s) (p : s.Perm s') : Fits js e r s' :=
  ⟨h.good, h.whole, h.hends, h.hrounds, h.hroads, h.hinner, fun f hf => (h.bridges f hf).trans (sort_uniq (sort_pair _) (sort_pair _) ((List.mergeSort_perm _ _).trans (p.trans (List.mergeSort_perm _ _).symm)))⟩
/-! ### a check of a web by its own rows -/
def eqS (a b : Str) : Bool := tl a == tl b
theorem eqS_iff {a b : Str} : eqS a b = true ↔ a = b := by
  unfold eqS
  rw [beq_iff_eq]
  exact ⟨tl_inj, fun h => by rw [h]⟩
def shareB (c : Str) (r q : List Str) : Bool := r.any fun x => !eqS x c && q.any fun y => eqS y x
theorem shareB_iff {c : Str} {r q : List Str} : shareB c r q = true ↔ ∃ x, x ∈ r ∧ x ∈ q ∧ x ≠ c := by
  unfold shareB
  rw [List.any_eq_true]
  constructor
  · rintro ⟨x, h1, h2⟩
    rw [Bool.and_eq_true, List.any_eq_true] at h2
    obtain ⟨h3, y, h4, h5⟩ := h2
    obtain rfl := eqS_iff.mp h5
    exact ⟨y, h1, h4, fun e => by rw [eqS_iff.mpr e] at h3; cases h3⟩
  · rintro ⟨x, h1, h2, h3⟩
    refine ⟨x, h1, ?_⟩
    rw [Bool.and_eq_true, List.any_eq_true]
    refine ⟨?_, x, h2, eqS_iff.mpr rfl⟩
    cases e : eqS x c with
    | false => rfl
    | true => exact absurd (eqS_iff.mp e) h3
def shareAt (js : Rows) (c : Str) (i k : Nat) : Bool := shareB c (js.getD i []) (js.getD k [])
theorem shareAt_iff {js : Rows} {c : Str} {i k : Nat} : shareAt js c i k = true ↔ Adj js c i k := by
  unfold shareAt
  rw [shareB_iff]
  constructor
  · rintro ⟨x, h1, h2, h3⟩
    have in1 : ∀ n, x ∈ js.getD n [] → js[n]? = some (js.getD n []) := fun n hx => by
      rcases Nat.lt_or_ge n js.length with h | h
      · exact at_of h
      · rw [List.getD_eq_getElem?_getD, List.getElem?_eq_none h] at hx
        cases hx
    exact ⟨_, _, x, in1 i h1, in1 k h2, h1, h2, h3⟩
  · rintro ⟨r, q, x, h1, h2, h3, h4, h5⟩
    rw [getD_of h1, getD_of h2]
    exact ⟨x, h3, h4, h5⟩
/-- each is next to one that was seen -/
def spanB (js : Rows) (c : Str) : List Nat → List Nat → Bool
  | _, [] => true
  | seen, k :: rest => (seen.any fun s => shareAt js c s k) && spanB js c (k :: seen) rest
theorem spanB_sound {js : Rows} {c : Str} {i : Nat} : ∀ {rest seen : List Nat}, spanB js c seen rest = true → (∀ s ∈ seen, Reach js c i s) → ∀ k, k ∈ seen ∨ k ∈ rest → Reach js c i k
  | [], seen, _, h, k, hk => h k (hk.resolve_right (by simp))
  | m :: rest, seen, e, h, k, hk => by
    unfold spanB at e
    rw [Bool.and_eq_true, List.any_eq_true] at e
    obtain ⟨⟨s, hs, a⟩, e2⟩ := e
    have hm : Reach js c i m := .step (h s hs) (shareAt_iff.mp a)
    refine spanB_sound e2 (fun t ht => ?_) k ?_
    · rcases List.mem_cons.mp ht with rfl | ht
      · exact hm
      · exact h t ht
    · rcases hk with hk | hk
      · exact .inl (List.mem_cons_of_mem _ hk)
      · rcases List.mem_cons.mp hk with rfl | hk
        · exact .inl List.mem_cons_self
        · exact .inr hk
/-- a number's side of the cut: that of one ahead of it that is next to it, else the other one -/
def colB (c : Str) : List (List Str × Bool) → Rows → List Bool
  | _, [] => []
  | done, r :: rest =>
    let b := match done.find? (fun d => shareB c d.1 r) with
      | some d => d.2
      | none => done.isEmpty
    b :: colB c (done ++ [(r, b)]) rest
def cutB (js : Rows) (c : Str) (i j : Nat) : Bool :=
  let bs := colB c [] js
  ((List.range js.length).all fun a => (List.range js.length).all fun b => (bs.getD a false == bs.getD b false) || !shareAt js c a b) && (bs.getD i false != bs.getD j false)
theorem cutB_sound {js : Rows} {c : Str} {i j : Nat} (h : cutB js c i j = true) : ¬ Reach js c i j := by
  unfold cutB at h
  simp only [Bool.and_eq_true, List.all_eq_true, List.mem_range] at h
  obtain ⟨h1, h2⟩ := h
  intro r
  have main : ∀ k, Reach js c i k → (colB c [] js).getD i false = (colB c [] js).getD k false := by
    intro k rk
    induction rk with
    | here => rfl
    | step _ a ih =>
      have l1 := Adj.lt a
      have l2 := Adj.lt (Adj.symm a)
      have q := h1 _ l2 _ l1
      rw [shareAt_iff.mpr a, Bool.not_true, Bool.or_false, beq_iff_eq] at q
      exact ih.trans q
  rw [main j r] at h2
  simp at h2
/-- without doubles -/
def ddB : List Str → List Str
  | [] => []
  | x :: l => if l.any (eqS x) then ddB l else x :: ddB l
theorem mem_dd {y : Str} : ∀ {l : List Str}, y ∈ ddB l ↔ y ∈ l
  | [] => Iff.rfl
  | x :: l => by
    unfold ddB
    split
    · rename_i h
      rw [mem_dd, List.mem_cons]
      refine ⟨.inr, fun e => ?_⟩
      rcases e with rfl | e
      · obtain ⟨z, hz, ez⟩ := List.any_eq_true.mp h
        rw [eqS_iff.mp ez]
        exact hz
      · exact e
    · rw [List.mem_cons, List.mem_cons, mem_dd]
theorem nodup_dd : ∀ {l : List Str}, (ddB l).Nodup
  | [] => .nil
  | x :: l => by
    unfold ddB
    split
    · exact nodup_dd
    · rename_i h
      refine List.nodup_cons.mpr ⟨fun m => h (List.any_eq_true.mpr ⟨x, mem_dd.mp m, eqS_iff.mpr rfl⟩), nodup_dd⟩
def cntB (l : List Str) (x : Str) : Nat := (l.filter (eqS x)).length
theorem cntB_eq (l : List Str) (x : Str) : cntB l x = l.count x := by
  unfold cntB
  rw [List.count, List.countP_eq_length_filter]
  congr 1
  refine List.filter_congr fun y _ => ?_
  rw [Bool.eq_iff_iff, eqS_iff, beq_iff_eq]
  exact eq_comm
theorem roads_dd (js : Rows) : (roadsOf js).Perm (ddB (words js)) :=
  (List.perm_ext_iff_of_nodup (nodup_roads js) nodup_dd).mpr fun x => mem_roads.trans mem_dd.symm
def sideB (js : Rows) (z : Str) : List Nat := (List.range js.length).filter fun j => (js.getD j []).any (eqS z)
theorem mem_sideB {js : Rows} {z : Str} {j : Nat} : j ∈ sideB js z ↔ ∃ r, js[j]? = some r ∧ z ∈ r := by
  unfold sideB
  rw [List.mem_filter, List.mem_range, List.any_eq_true]
  constructor
  · rintro ⟨h1, y, h2, h3⟩
    exact ⟨js.getD j [], at_of h1, by rw [eqS_iff.mp h3]; exact h2⟩
  · rintro ⟨r, h1, h2⟩
    exact ⟨(List.getElem?_eq_some_iff.mp h1).1, z, by rw [getD_of h1]; exact h2, eqS_iff.mpr rfl⟩
def brB (js : Rows) (z : Str) : Bool :=
  match sideB js z with
  | i :: j :: _ => cutB js z i j
  | _ => false
theorem brB_sound {js : Rows} (h2 : ∀ x, js.flatten.count x ≤ 2) {z : Str} (h : brB js z = true) : Bridge js z := by
  unfold brB at h
  split at h
  · rename_i i j l e
    have hi : i ∈ sideB js z := by rw [e]; simp
    have hj : j ∈ sideB js z := by rw [e]; simp
    obtain ⟨r, e1, m1⟩ := mem_sideB.mp hi
    obtain ⟨q, e2, m2⟩ := mem_sideB.mp hj
    exact (bridge_two h2).mpr ⟨i, j, r, q, e1, e2, m1, m2, cutB_sound h⟩
  · cases h
def rotB (n a : Nat) : List Nat := (List.range n).map fun t => if a + t < n then a + t else a + t - n
theorem mem_rot {n a k : Nat} (ha : a < n) (hk : k < n) : k ∈ rotB n a := by
  unfold rotB
  rw [List.mem_map]
  rcases Nat.lt_or_ge k a with h | h
  · exact ⟨n - a + k, by rw [List.mem_range]; omega, by rw [if_neg (by omega)]; omega⟩
  · exact ⟨k - a, by rw [List.mem_range]; omega, by rw [if_pos (by omega)]; omega⟩
def rollB (js : Rows) (z : Str) (a : Nat) : Bool := decide (a < js.length) && spanB js z [a] ((rotB js.length a).drop 1)
def nbB (js : Rows) (z : Str) : Bool :=
  match sideB js z with
  | [_] => true
  | [i, j] => rollB js z i || rollB js z j
  | _ => false
theorem roll_sound {js : Rows} {z : Str} {a i j : Nat} (h : rollB js z a = true) (hi : i < js.length) (hj : j < js.length) : Reach js z i j := by
  unfold rollB at h
  rw [Bool.and_eq_true, decide_eq_true_eq] at h
  have all : ∀ k, k < js.length → Reach js z a k := fun k hk => by
    refine spanB_sound (i := a) h.2 (fun s hs => by rw [List.mem_singleton] at hs; rw [hs]; exact .here) k ?_
    have m := mem_rot h.1 hk
    cases e : rotB js.length a with
    | nil => rw [e] at m; cases m
    | cons x l =>
      rw [e] at m
      have hx : x = a := by
        have h0 : js.length ≠ 0 := by omega
        unfold rotB at e
        obtain ⟨n, hn⟩ := Nat.exists_eq_succ_of_ne_zero h0
        rw [hn, List.range_succ_eq_map, List.map_cons] at e
        have := (List.cons.inj e).1
        rw [if_pos (by omega)] at this
        omega
      rcases List.mem_cons.mp m with e2 | m
      · exact .inl (by rw [e2, hx]; simp)
      · exact .inr m
  exact Reach.trans (Reach.symm (all i hi)) (all j hj)
theorem nbB_sound {js : Rows} (h2 : ∀ x, js.flatten.count x ≤ 2) {z : Str} (h : nbB js z = true) : ¬ Bridge js z := by
  rw [bridge_two h2]
  rintro ⟨i, j, r, q, e1, e2, m1, m2, nr⟩
  have si : i ∈ sideB js z := mem_sideB.mpr ⟨r, e1, m1⟩
  have sj : j ∈ sideB js z := mem_sideB.mpr ⟨q, e2, m2⟩
  have li := (List.getElem?_eq_some_iff.mp e1).1
  have lj := (List.getElem?_eq_some_iff.mp e2).1
  unfold nbB at h
  split at h
  · rename_i a e
    rw [e, List.mem_singleton] at si sj
    rw [si, sj] at nr
    exact nr .here
  · rename_i a b e
    rw [Bool.or_eq_true] at h
    rcases h with h | h
    · exact nr (roll_sound h li lj)
    · exact nr (roll_sound h li lj)
  · cases h
def nodB : List Str → Bool
  | [] => true
  | x :: l => !l.any (eqS x) && nodB l
theorem nodB_sound : ∀ {l : List Str}, nodB l = true → l.Nodup
  | [], _ => .nil
  | x :: l, h => by
    unfold nodB at h
    rw [Bool.and_eq_true] at h
    refine List.nodup_cons.mpr ⟨fun m => ?_, nodB_sound h.2⟩
    have := List.any_eq_true.mpr ⟨x, m, eqS_iff.mpr rfl⟩
    rw [this] at h
    exact absurd h.1 (by decide)
def fitsB2 (js : Rows) (e r : Int) (spans dd inner : List Str) : Bool :=
  decide (((dd.filter fun x => decide (cntB (words js) x = 1)).length : Int) = e) && decide ((inner.length : Int) - (js.length : Int) + 1 = r) && decide ((dd.length : Int) = 2 * e + 3 * r - 3) && decide ((inner.length : Int) = e + 3 * r - 3) &&
  spans.all (fun s => inner.any (eqS s)) && nodB spans && inner.all fun z => if spans.any (eqS z) then brB js z else nbB js z
def goodB (js : Rows) : Bool := js.all (fun r => decide (r.length = 3) && r.all isName) && !js.isEmpty && decide (js.length ≤ 12) && ((words js).all fun x => decide (cntB (words js) x ≤ 2)) && spanB js "" [0] ((List.range js.length).drop 1)
def fitsB (js : Rows) (e r : Int) (spans : List Str) : Bool :=
  goodB js && fitsB2 js e r spans (ddB (words js)) ((ddB (words js)).filter fun x => decide (cntB (words js) x = 2))
theorem good_sound {js : Rows} (h : goodB js = true) : Mw.Good js ∧ Whole js := by
  unfold goodB at h
  simp only [Bool.and_eq_true, List.all_eq_true, decide_eq_true_eq] at h
  obtain ⟨⟨⟨⟨h1, h2⟩, h3⟩, h4⟩, h5⟩ := h
  refine ⟨⟨fun r hr => ⟨(h1 r hr).1, (h1 r hr).2⟩, fun e => ?_, h3, fun x => ?_⟩, fun i hi => ?_⟩
  · rw [e] at h2
    cases h2
  · rcases Decidable.em (x ∈ js.flatten) with m | m
    · have := h4 x m
      rw [cntB_eq] at this
      exact this
    · rw [List.count_eq_zero_of_not_mem m]
      exact Nat.zero_le _
  · refine spanB_sound (i := 0) h5 (fun s hs => by rw [List.mem_singleton] at hs; rw [hs]; exact .here) i ?_
    have m : i ∈ List.range js.length := List.mem_range.mpr hi
    obtain ⟨n, hn⟩ := Nat.exists_eq_succ_of_ne_zero (show js.length ≠ 0 by omega)
    rw [hn, List.range_succ_eq_map] at m ⊢
    rcases List.mem_cons.mp m with e | m
    · exact .inl (by rw [e]; simp)
    · exact .inr m
theorem fits_sound {js : Rows} {e r : Int} {spans : List Str} (h : fitsB js e r spans = true) : Fits js e r spans := by
  unfold fitsB at h
  rw [Bool.and_eq_true] at h
  obtain ⟨hg, h⟩ := h
  obtain ⟨good, whole⟩ := good_sound hg
  unfold fitsB2 at h
  simp only [Bool.and_eq_true, decide_eq_true_eq, List.all_eq_true] at h
  obtain ⟨⟨⟨⟨⟨⟨h1, h2⟩, h3⟩, h4⟩, h5⟩, h6⟩, h7⟩ := h
  have rd := roads_dd js
  have pin : (innerOf js).Perm ((ddB (words js)).filter fun x => decide (cntB (words js) x = 2)) := by
    unfold innerOf
    refine (rd.filter _).trans ?_
    simp only [cntB_eq]
    exact List.Perm.refl _
  have pen : (endsOf js).Perm ((ddB (words js)).filter fun x => decide (cntB (words js) x = 1)) := by
    unfold endsOf
    refine (rd.filter _).trans ?_
    simp only [cntB_eq]
    exact List.Perm.refl _
  refine ⟨good, whole, by rw [pen.length_eq]; exact h1, ?_, by rw [rd.length_eq]; exact h3, by rw [pin.length_eq]; exact h4, fun p hp => ?_⟩
  · unfold roundsOf
    rw [pin.length_eq]
    exact h2
  have key : ∀ z ∈ innerOf js, (p z = true ↔ z ∈ spans) := fun z hz => by
    have q := h7 z (pin.mem_iff.mp hz)
    have hw : z ∈ words js := mem_roads.mp (List.mem_filter.mp hz).1
    rw [hp z hw]
    by_cases m : z ∈ spans
    · rw [if_pos (List.any_eq_true.mpr ⟨z, m, eqS_iff.mpr rfl⟩)] at q
      exact ⟨fun _ => m, fun _ => brB_sound good.twice q⟩
    · rw [if_neg (fun a => m (by
        obtain ⟨y, h8, h9⟩ := List.any_eq_true.mp a
        rw [eqS_iff.mp h9]
        exact h8))] at q
      exact ⟨fun b => absurd b (nbB_sound good.twice q), fun a => absurd a m⟩
  refine sort_uniq ?_ (sort_pair _) (List.Perm.trans ?_ (List.mergeSort_perm _ _).symm)
  · unfold innerOf
    exact ((sort_pair _).filter _).filter _
  · refine (List.perm_ext_iff_of_nodup (((nodup_roads js).filter _).filter _) (nodB_sound h6)).mpr fun x => ?_
    rw [List.mem_filter]
    constructor
    · rintro ⟨a, b⟩
      exact (key x a).mp b
    · intro a
      obtain ⟨y, h8, h9⟩ := List.any_eq_true.mp (h5 x a)
      obtain rfl := eqS_iff.mp h9
      have m := pin.mem_iff.mpr h8
      exact ⟨m, (key _ m).mpr a⟩
abbrev ins (n : Nat) : List Str := (List.range n).map (lw "i")
abbrev ens (n : Nat) : List Str := (List.range n).map (lw "e")
theorem fits_two : Fits [["a", "b", "c"], ["b", "c", "a"]] 0 2 [] := fits_sound (by decide +kernel)
theorem fits_comb {e : Nat} (h1 : 3 ≤ e) (h2 : e ≤ 14) : Fits (combOf e) e 0 (ins (e - 3)) := by
  have all : ∀ k : Fin 12, fitsB (combOf (k.1 + 3)) ((k.1 + 3 : Nat) : Int) 0 (ins k.1) = true := by decide +kernel
  have q := fits_sound (all ⟨e - 3, by omega⟩)
  rw [show e - 3 + 3 = e by omega] at q
  exact q
theorem fits_ring {m : Nat} (h1 : 1 ≤ m) (h2 : m ≤ 12) : Fits (ringOf m) m 1 [] := by
  have all : ∀ k : Fin 12, fitsB (ringOf (k.1 + 1)) ((k.1 + 1 : Nat) : Int) 1 [] = true := by decide +kernel
  have q := fits_sound (all ⟨m - 1, by omega⟩)
  rw [show m - 1 + 1 = m by omega] at q
  exact q
theorem paired_refl : ∀ l : Rows, Paired List.Perm l l
  | [] => .nil
  | _ :: l => .cons (.refl _) (paired_refl l)
def subs : List Str → List (List Str)
  | [] => [[]]
  | x :: l => subs l ++ (subs l).map (x :: ·)
theorem filter_subs (p : Str → Bool) : ∀ l : List Str, l.filter p ∈ subs l
  | [] => by simp [subs]
  | x :: l => by
    unfold subs
    rw [List.filter_cons]
    split
    · exact List.mem_append_right _ (List.mem_map.mpr ⟨_, filter_subs p l, rfl⟩)
    · exact List.mem_append_left _ (filter_subs p l)
theorem fits_drum {few : Nat} (h1 : 3 ≤ few) (h2 : few ≤ 6) {ys zs : List Str} (hp : (ys ++ zs).Perm (ens few)) (hy : 1 ≤ ys.length) : Fits (combOf few ++ ys.map drumOf) ((few : Int) - ys.length) ys.length (ins (few - 3) ++ ys) := by
  have all : ∀ k : Fin 4, ((subs (ens (k.1 + 3))).all fun s => s.isEmpty || fitsB (combOf (k.1 + 3) ++ s.map drumOf) (((k.1 + 3 : Nat) : Int) - s.length) s.length (ins k.1 ++ s)) = true ∧ nodB (ens (k.1 + 3)) = true := by decide +kernel
  have q := all ⟨few - 3, by omega⟩
  simp only [show few - 3 + 3 = few by omega] at q
  have nd := nodB_sound q.2
  have ndy : ys.Nodup := (List.nodup_append.mp (hp.nodup_iff.mpr nd)).1
  have hp2 : ys.Perm ((ens few).filter fun x => decide (x ∈ ys)) := (List.perm_ext_iff_of_nodup ndy (nd.filter _)).mpr fun x => by
    rw [List.mem_filter, decide_eq_true_eq]
    exact ⟨fun m => ⟨hp.mem_iff.mp (List.mem_append_left _ m), m⟩, fun m => m.2⟩
  have q2 := List.all_eq_true.mp q.1 _ (filter_subs (fun x => decide (x ∈ ys)) (ens few))
  generalize (ens few).filter (fun x => decide (x ∈ ys)) = y0 at hp2 q2
  have l0 := hp2.length_eq
  rw [Bool.or_eq_true] at q2
  have q3 : fitsB (combOf few ++ y0.map drumOf) ((few : Int) - y0.length) y0.length (ins (few - 3) ++ y0) = true := by
    rcases q2 with q2 | q2
    · rw [List.isEmpty_iff] at q2
      rw [q2, List.length_nil] at l0
      omega
    · exact q2
  have F := fits_spans (fits_sound q3) (List.Perm.append_left (ins (few - 3)) hp2.symm)
  rw [← l0] at F
  exact fits_turn ⟨combOf few ++ y0.map drumOf, paired_refl _, List.Perm.append_left _ (hp2.map _)⟩ F
end Tc
/-! promises: webs drawn, and what the law itself tells of them -/
namespace Tc
open PySem PySem.Spec PyProof.Rows L2 Fw Mw TL
def pool : List Str := (tl ("abcdefghijklmnopqrstuvwxyz" : Str)).map (fun c => (⟨#[c]⟩ : Str)) ++ (["meet", "web", "road", "ab", "zz", "round"] : List Str)
theorem pool_nodup : pool.Nodup := nodB_sound (by decide +kernel)
theorem pool_names : ∀ x ∈ pool, isName x = true := List.all_eq_true.mp (show pool.all isName = true by decide +kernel)
theorem pool_len : pool.length = 32 := by decide +kernel
/-- how often each word stands, as a dict -/
def cntK (ks ws : List Str) : List (Key × V) := ks.map fun x => ((Sum.inr x : Key), V.int (ws.count x : Nat))
theorem val_cnt (ws : List Str) (x : Str) : ∀ ks : List Str, valV (cntK ks ws) (Sum.inr x) = if x ∈ ks then some (V.int (ws.count x : Nat)) else none
  | [] => rfl
  | y :: ks => by
    show valV (((Sum.inr y : Key), V.int (ws.count y : Nat)) :: cntK ks ws) (Sum.inr x) = _
    by_cases e : y = x
    · subst e
      rw [valV_pos rfl, if_pos List.mem_cons_self]
    · rw [valV_neg (fun z => e (Sum.inr.inj z)), val_cnt ws x ks]
      by_cases m : x ∈ ks
      · rw [if_pos m, if_pos (List.mem_cons_of_mem _ m)]
      · rw [if_neg m, if_neg fun z => (List.mem_cons.mp z).elim (fun z => e z.symm) m]
theorem get_cnt {ks ws : List Str} (h : ∀ x, x ∈ ks ↔ x ∈ ws) (x : Str) : (valV (cntK ks ws) (Sum.inr x)).getD (.int 0) = .int (ws.count x : Nat) := by
  rw [val_cnt]
  by_cases m : x ∈ ks
  · rw [if_pos m]
    rfl
  · rw [if_neg m, List.count_eq_zero_of_not_mem fun z => m ((h x).mpr z)]
    rfl
theorem count_snoc (ws : List Str) (x y : Str) : (ws ++ [x]).count y = ws.count y + if x = y then 1 else 0 := by
  rw [List.count_append, List.count_singleton]
  by_cases e : x = y
  · subst e; simp
  · simp [e]
theorem put_cnt {ks ws : List Str} (nd : ks.Nodup) (h : ∀ x, x ∈ ks ↔ x ∈ ws) (x : Str) : ∃ ks', putK (cntK ks ws) (Sum.inr x) (.int ((ws.count x : Nat) + 1)) = cntK ks' (ws ++ [x]) ∧ ks'.Nodup ∧ (∀ y, y ∈ ks' ↔ y ∈ ws ++ [x]) ∧ ks'.length ≤ ks.length + 1 := by
  by_cases m : x ∈ ks
  · refine ⟨ks, ?_, nd, fun y => ?_, by omega⟩
    · unfold putK
      rw [valV_any, val_cnt, if_pos m]
      show List.map _ (cntK ks ws) = _
      unfold cntK
      rw [List.map_map]
      refine List.map_congr_left fun y _ => ?_
      show (if (Sum.inr y : Key) = Sum.inr x then _ else _) = _
      rw [count_snoc]
      by_cases e : y = x
      · subst e
        rw [if_pos rfl, if_pos rfl]
        rfl
      · rw [if_neg (fun z => e (Sum.inr.inj z)), if_neg (fun z => e z.symm)]
        rfl
    · rw [List.mem_append, List.mem_singleton, ← h y]
      exact ⟨.inl, fun z => z.elim id fun e => e ▸ m⟩
  · have m2 : x ∉ ws := fun z => m ((h x).mpr z)
    refine ⟨ks ++ [x], ?_, ?_, fun y => ?_, by simp⟩
    · rw [putK_new _ (by rw [val_cnt, if_neg m])]
      unfold cntK
      rw [List.map_append]
      congr 1
      · refine List.map_congr_left fun y hy => ?_
        rw [count_snoc, if_neg fun (z : x = y) => m (z ▸ hy)]
        rfl
      · show [((Sum.inr x : Key), V.int (((ws.count x : Nat) : Int) + 1))] = [((Sum.inr x : Key), V.int (((ws ++ [x]).count x : Nat) : Int))]
        rw [count_snoc, if_pos rfl]
        rfl
    · rw [List.nodup_append]
      exact ⟨nd, by simp, fun a ha b hb z => m (by rw [List.mem_singleton] at hb; rw [← hb, ← z]; exact ha)⟩
    · rw [List.mem_append, List.mem_append, h y]
/-- each name called otherwise, times times at most -/
def putRow (old new : Str) : Int → List Str → List Str
  | _, [] => []
  | t, x :: r => (if x = old ∧ 0 < t then new else x) :: putRow old new (if x = old then t - 1 else t) r
def putRows (old new : Str) : Int → Rows → Rows
  | _, [] => []
  | t, r :: l => putRow old new t r :: putRows old new (t - (r.count old : Nat)) l
theorem putRow_snoc (old new : Str) (x : Str) : ∀ (l : List Str) (t : Int), putRow old new t (l ++ [x]) = putRow old new t l ++ [if x = old ∧ 0 < t - (l.count old : Nat) then new else x]
  | [], t => by simp [putRow]
  | y :: l, t => by
    show (if y = old ∧ 0 < t then new else y) :: putRow old new (if y = old then t - 1 else t) (l ++ [x]) = (if y = old ∧ 0 < t then new else y) :: putRow old new (if y = old then t - 1 else t) l ++ _
    rw [putRow_snoc old new x l]
    have e : (if y = old then t - 1 else t) - (l.count old : Nat) = t - ((y :: l).count old : Nat) := by
      rw [List.count_cons]
      by_cases e : y = old
      · simp only [e, if_true, beq_self_eq_true]
        omega
      · rw [if_neg e, if_neg (by simpa using e)]
        omega
    rw [e]
    rfl
theorem putRows_snoc (old new : Str) (r : List Str) : ∀ (l : Rows) (t : Int), putRows old new t (l ++ [r]) = putRows old new t l ++ [putRow old new (t - (l.flatten.count old : Nat)) r]
  | [], t => by simp [putRows]
  | y :: l, t => by
    show putRow old new t y :: putRows old new (t - (y.count old : Nat)) (l ++ [r]) = putRow old new t y :: putRows old new (t - (y.count old : Nat)) l ++ _
    rw [putRows_snoc old new r l]
    have e : t - (y.count old : Nat) - (l.flatten.count old : Nat) = t - ((y :: l).flatten.count old : Nat) := by
      rw [List.flatten_cons, List.count_append]
      omega
    rw [e]
    rfl
theorem putRow_len (old new : Str) : ∀ (l : List Str) (t : Int), (putRow old new t l).length = l.length
  | [], _ => rfl
  | _ :: l, t => congrArg Nat.succ (putRow_len old new l _)
theorem putRows_len (old new : Str) : ∀ (l : Rows) (t : Int), (putRows old new t l).length = l.length
  | [], _ => rfl
  | _ :: l, t => congrArg Nat.succ (putRows_len old new l _)
theorem len_counts : ∀ (ks ws : List Str), ks.Nodup → (∀ x ∈ ws, x ∈ ks) → ws.length = (ks.map fun x => ws.count x).sum
  | [], ws, _, h => by
    cases ws with
    | nil => rfl
    | cons x l => exact absurd (h x List.mem_cons_self) (by simp)
  | k :: ks, ws, nd, h => by
    obtain ⟨n1, n2⟩ := List.nodup_cons.mp nd
    have ih := len_counts ks (ws.filter fun x => !(x == k)) n2 fun x hx => by
      obtain ⟨h1, h2⟩ := List.mem_filter.mp hx
      rcases List.mem_cons.mp (h x h1) with e | m
      · rw [e] at h2
        simp at h2
      · exact m
    have e1 : ws.length = ws.count k + (ws.filter fun x => !(x == k)).length := by
      have := List.length_eq_countP_add_countP (p := fun x => x == k) (l := ws)
      rw [List.countP_eq_length_filter, List.countP_eq_length_filter] at this
      rw [List.count, List.countP_eq_length_filter, show (ws.filter fun x => !(x == k)) = ws.filter fun a => !decide (a = k) from List.filter_congr fun a _ => by by_cases e : a = k <;> simp [e]]
      simpa using this
    have e2 : (ks.map fun x => (ws.filter fun x => !(x == k)).count x) = ks.map fun x => ws.count x := by
      refine List.map_congr_left fun x hx => ?_
      refine List.count_filter ?_
      have : x ≠ k := fun e => n1 (e ▸ hx)
      simpa using this
    rw [List.map_cons, List.sum_cons, e1, ih, e2]
theorem sum_two {c : Str → Nat} : ∀ ks : List Str, (∀ x ∈ ks, c x = 1 ∨ c x = 2) → (ks.map c).sum = (ks.filter fun x => decide (c x = 1)).length + 2 * (ks.filter fun x => decide (c x = 2)).length
  | [], _ => rfl
  | k :: ks, h => by
    have ih := sum_two ks fun x hx => h x (List.mem_cons_of_mem _ hx)
    rw [List.map_cons, List.sum_cons, ih, List.filter_cons, List.filter_cons]
    rcases h k List.mem_cons_self with e | e
    · rw [e]
      simp
      omega
    · rw [e]
      simp
      omega
theorem counted {own : Rows} (h3 : ∀ r ∈ own, r.length = 3) (h2 : ∀ x, own.flatten.count x ≤ 2) : 3 * own.length = (endsOf own).length + 2 * (innerOf own).length := by
  have e1 := flat_len own h3
  have e2 := len_counts (roadsOf own) (words own) (nodup_roads own) fun x hx => mem_roads.mpr hx
  have e3 := sum_two (c := fun x => (words own).count x) (roadsOf own) fun x hx => by
    have p := List.count_pos_iff.mpr (mem_roads.mp hx)
    have q := h2 x
    have q' : (words own).count x ≤ 2 := q
    omega
  have e4 : (words own).length = own.flatten.length := rfl
  unfold endsOf innerOf
  omega
/-- without a bridge the web falls apart, without another road it doesn't -/
theorem bridge_apart {own : Rows} (good : Mw.Good own) (whole : Whole own) {z : Str} (hz : z ∈ innerOf own) : Bridge own z ↔ ∃ k, k < own.length ∧ ¬ Reach own z 0 k := by
  have hw : z ∈ words own := mem_roads.mp (List.mem_filter.mp hz).1
  rw [bridge_two good.twice]
  constructor
  · rintro ⟨i, j, r, q, e1, e2, m1, m2, nr⟩
    by_cases h : Reach own z 0 i
    · exact ⟨j, (List.getElem?_eq_some_iff.mp e2).1, fun h2 => nr (Reach.trans (Reach.symm h) h2)⟩
    · exact ⟨i, (List.getElem?_eq_some_iff.mp e1).1, h⟩
  · rintro ⟨k, hk, nk⟩
    apply Classical.byContradiction
    intro no
    have all : ∀ i j r q, own[i]? = some r → own[j]? = some q → z ∈ r → z ∈ q → Reach own z i j := fun i j r q e1 e2 m1 m2 => by
      apply Classical.byContradiction
      exact fun n => no ⟨i, j, r, q, e1, e2, m1, m2, n⟩
    have lift : ∀ m, Reach own "" 0 m → Reach own z 0 m := by
      intro m h
      induction h with
      | here => exact .here
      | step _ a ih =>
        obtain ⟨r, q, x, e1, e2, m1, m2, _⟩ := a
        by_cases e : x = z
        · subst e
          exact Reach.trans ih (all _ _ _ _ e1 e2 m1 m2)
        · exact .step ih ⟨r, q, x, e1, e2, m1, m2, e⟩
    exact nk (lift k (whole k hk))
/-- a web of e ends -/
structure Wb (own : Rows) (e : Nat) : Prop where
  rows : ∀ r ∈ own, RowOk r
  some : own ≠ []
  twice : ∀ x, own.flatten.count x ≤ 2
  whole : Whole own
  ends : (endsOf own).length = e
abbrev lkN : List Nat → HO := fun fs => .lst (fs.map fun (n : Nat) => V.int n)
theorem inV_nat (x : Nat) (xs : List Nat) : inV (.int (x : Int)) (xs.map fun (n : Nat) => V.int n) = decide (x ∈ xs) := by
  induction xs with
  | nil => rfl
  | cons y xs ih =>
    unfold inV at ih ⊢
    rw [List.map_cons, List.any_cons, ih]
    by_cases e : y = x
    · subst e; simp [eqV]
    · have e2 : ¬ x = y := fun z => e z.symm
      have e3 : ¬ (y : Int) = (x : Int) := by omega
      simp [eqV, e2, e3]
theorem inV_int (x : Int) (xs : List Int) : inV (.int x) (xs.map V.int) = decide (x ∈ xs) := by
  induction xs with
  | nil => rfl
  | cons y xs ih =>
    unfold inV at ih ⊢
    rw [List.map_cons, List.any_cons, ih]
    by_cases e : y = x
    · subst e; simp [eqV]
    · have e2 : ¬ x = y := fun z => e z.symm
      simp [eqV, e, e2]
theorem dp_ints {K : PySem.W.Frag} {H : Hp} : ∀ l : List Int, DpAll K H (l.map V.int) (l.map PyData.int)
  | [] => .nil
  | n :: l => .cons (.int n) (dp_ints l)
theorem nat_ints (l : List Nat) : (l.map fun (n : Nat) => V.int n) = (l.map fun (n : Nat) => (n : Int)).map V.int := by
  rw [List.map_map]
  rfl
theorem adj_any {js : Rows} {c : Str} {n m : Nat} {r q : List Str} (hn : js[n]? = some r) (hm : js[m]? = some q) : (r.map fun z => decide (z ∈ q) && !decide (z = c)).any id = true ↔ Adj js c n m := by
  rw [List.any_map, List.any_eq_true]
  constructor
  · rintro ⟨x, h1, h2⟩
    have h3 : (decide (x ∈ q) && !decide (x = c)) = true := h2
    rw [Bool.and_eq_true, decide_eq_true_eq] at h3
    exact ⟨r, q, x, hn, hm, h1, h3.1, by simpa using h3.2⟩
  · rintro ⟨r', q', x, e1, e2, h1, h2, h3⟩
    obtain rfl := Option.some.inj (hn.symm.trans e1)
    obtain rfl := Option.some.inj (hm.symm.trans e2)
    exact ⟨x, h1, by show (decide (x ∈ q) && !decide (x = c)) = true; simp [h2, h3]⟩
/-- lots of what hangs together: all numbers below i are in one -/
structure Lots (own : Rows) (c : Str) (i : Nat) (Ls : List (List Int)) : Prop where
  cov : ∀ k : Nat, k < i → ∃ L ∈ Ls, (k : Int) ∈ L
  shape : (i = 0 ∧ Ls = []) ∨ ∃ L0 rest, Ls = L0 :: rest ∧ (∀ k : Nat, (k : Int) ∈ L0 ↔ Reach own c 0 k) ∧ ∀ L ∈ rest, ∃ s : Nat, s < own.length ∧ ¬ Reach own c 0 s
  len : Ls.length ≤ i
theorem Lots.skip {own : Rows} {c : Str} {i : Nat} {Ls : List (List Int)} (h : Lots own c i Ls) (e : ∃ L ∈ Ls, (i : Int) ∈ L) : Lots own c (i + 1) Ls := by
  refine ⟨fun k hk => ?_, ?_, by have := h.len; omega⟩
  · rcases Nat.lt_or_eq_of_le (Nat.le_of_lt_succ hk) with l | rfl
    · exact h.cov k l
    · exact e
  · rcases h.shape with ⟨_, z⟩ | z
    · obtain ⟨L, hL, _⟩ := e
      rw [z] at hL
      cases hL
    · exact .inr z
theorem Lots.add {own : Rows} {c : Str} {i : Nat} {Ls : List (List Int)} {L : List Int} (h : Lots own c i Ls) (hi : i < own.length) (no : ∀ M ∈ Ls, (i : Int) ∉ M) (hL : ∀ k : Nat, (k : Int) ∈ L ↔ Reach own c i k) : Lots own c (i + 1) (Ls ++ [L]) := by
  refine ⟨fun k hk => ?_, .inr ?_, by have := h.len; rw [List.length_append, List.length_singleton]; omega⟩
  · rcases Nat.lt_or_eq_of_le (Nat.le_of_lt_succ hk) with l | rfl
    · obtain ⟨M, h1, h2⟩ := h.cov k l
      exact ⟨M, List.mem_append_left _ h1, h2⟩
    · exact ⟨L, by simp, (hL k).mpr .here⟩
  · rcases h.shape with ⟨rfl, rfl⟩ | ⟨L0, rest, rfl, h0, hr⟩
    · exact ⟨L, [], rfl, hL, by simp⟩
    · refine ⟨L0, rest ++ [L], rfl, h0, fun M hM => ?_⟩
      rcases List.mem_append.mp hM with m | m
      · exact hr M m
      · exact ⟨i, hi, fun r => no L0 (by simp) ((h0 i).mpr r)⟩
theorem Lots.fin {own : Rows} {c : Str} {Ls : List (List Int)} (h : Lots own c own.length Ls) (hne : own ≠ []) : 1 < Ls.length ↔ ∃ k, k < own.length ∧ ¬ Reach own c 0 k := by
  have hp := List.length_pos_iff.mpr hne
  rcases h.shape with ⟨z, _⟩ | ⟨L0, rest, rfl, h0, hr⟩
  · omega
  · constructor
    · intro l
      cases rest with
      | nil => simp at l
      | cons M rest => exact hr M (by simp)
    · rintro ⟨k, hk, nk⟩
      obtain ⟨L, hL, m⟩ := h.cov k hk
      rcases List.mem_cons.mp hL with rfl | hL
      · exact absurd ((h0 k).mp m) nk
      · cases rest with
        | nil => cases hL
        | cons _ _ => simp
def Wp (G H : Hp) (own : Rows) (c : Str) (i : Nat) (d l a bb l2 : Addr) : Nat → L2.St → Hp → Prop := fun m σ H3 => ∃ fs ws G2, m = 2 * (own.length - fs.length) + ws.length ∧
  (∃ x6 x7 x8, σ = [some (.ref a), some (.ref bb), some (.ref l2), some (.int i), some (.ref d), some (.ref l), x6, x7, x8, none]) ∧ Rv lkN G H own c i d l (fun _ _ => False) fs ws G2 H3
def Wq (G H : Hp) (own : Rows) (c : Str) (i : Nat) (d l a bb l2 rb : Addr) (n m : Nat) : Nat → L2.St → Hp → Prop := fun j σ H3 =>
  (∃ x7 x8, σ = [some (.ref a), some (.ref bb), some (.ref l2), some (.int i), some (.ref d), some (.ref l), some (.ref rb), x7, x8, none]) ∧
  ∃ fs ws G2, Rv lkN G H own c i d l (fun x y => x = n ∧ j ≤ y) fs ws G2 H3 ∧ n ∈ fs ∧ 2 * (own.length - fs.length) + ws.length < m
section
variable (K : PySem.W.Frag) (CW : Addr)
def sp_law_of (K : PySem.W.Frag) (CW : Addr) : Sp := Sp2 fun x y H Q _ => ∃ (p : Addr) (n : Nat) (a : Addr) (xs : List V) (G : Hp), Same G H ∧ G p = none ∧ x = .ref p ∧ y = .ref a ∧ SqL K G a xs ∧ xs ≠ [] ∧ xs.length ≤ 1000 ∧ Pot (n + 1) p H ∧
  ∀ (i : Nat) (v : V) H', xs[i]? = some v → Pot n p H' → But p H H' → Q v H'
def sp_law_web_times (K : PySem.W.Frag) (CW : Addr) : Sp := Sp1 fun x H Q _ => ∃ G own, Same G H ∧ rL K (rT K rS) G x own ∧ (words own).length ≤ 1000 ∧
  ∀ d ks H1, H d = none → Same H H1 → H1 d = some (.dK (cntK ks (words own))) → ks.Nodup → (∀ x, x ∈ ks ↔ x ∈ words own) → Q (.ref d) H1
def sp_law_web_roads (K : PySem.W.Frag) (CW : Addr) : Sp := Sp1 fun x H Q _ => ∃ G own, Same G H ∧ rL K (rT K rS) G x own ∧ (words own).length ≤ 60 ∧ Ret G H Q (rH rS) (roadsOf own)
def sp_law_web_inner (K : PySem.W.Frag) (CW : Addr) : Sp := Sp1 fun x H Q _ => ∃ G own, Same G H ∧ rL K (rT K rS) G x own ∧ (words own).length ≤ 60 ∧ Ret G H Q (rH rS) (innerOf own)
def sp_law_web_ends (K : PySem.W.Frag) (CW : Addr) : Sp := Sp1 fun x H Q _ => ∃ G own, Same G H ∧ rL K (rT K rS) G x own ∧ (words own).length ≤ 60 ∧ Ret G H Q (rH rS) (endsOf own)
def sp_law_web_rounds (K : PySem.W.Frag) (CW : Addr) : Sp := Sp1 fun x H Q _ => ∃ G own, Same G H ∧ rL K (rT K rS) G x own ∧ (words own).length ≤ 60 ∧ ∀ H1, Same H H1 → Q (.int (roundsOf own)) H1
def sp_law_web_pieces (K : PySem.W.Frag) (CW : Addr) : Sp := Sp2 fun x y H Q _ => ∃ G own c, Same G H ∧ rL K (rT K rS) G x own ∧ rL K rS G y [c] ∧ own ≠ [] ∧ own.length ≤ 60 ∧ (∀ r ∈ own, r.length = 3) ∧
  ∀ l ts G1 H1, Go [] G H G1 H1 → G1 l = some (.lst ts) → (1 < ts.length ↔ ∃ k, k < own.length ∧ ¬ Reach own c 0 k) → Q (.ref l) H1
def sp_law_web_bridges (K : PySem.W.Frag) (CW : Addr) : Sp := Sp1 fun x H Q _ => ∃ G own, Same G H ∧ rL K (rT K rS) G x own ∧ Mw.Good own ∧ Whole own ∧ ∀ xs : List Str, (∃ p : Str → Bool, (∀ z, z ∈ words own → (p z = true ↔ Bridge own z)) ∧ xs = (innerOf own).filter p) → Ret G H Q (rH rS) xs
def sp_law_web_names (K : PySem.W.Frag) (CW : Addr) : Sp := Sp2 fun x y H Q _ => ∃ (p : Addr) (n : Nat) (G : Hp) (many : Nat), Same G H ∧ G p = none ∧ x = .ref p ∧ y = .int many ∧ many ≤ 32 ∧ Pot (n + many) p H ∧
  ∀ nm : List Str, nm.Nodup → nm.length = many → (∀ x ∈ nm, isName x = true) → RetP p n G H Q (rH rS) nm
def sp_law_web_put (K : PySem.W.Frag) (CW : Addr) : Sp := Sp4 fun x y z t H Q _ => ∃ (G : Hp) (own : Rows) (old new : Str) (k : Int), Same G H ∧ rL K (rT K rS) G x own ∧ y = .str old ∧ z = .str new ∧ t = .int k ∧ own.length ≤ 100 ∧ (∀ r ∈ own, r.length = 3) ∧ Ret G H Q (rH (rT K rS)) (putRows old new k own)
def sp_law_web_tree (K : PySem.W.Frag) (CW : Addr) : Sp := Sp3 fun x y z H Q _ => ∃ (p : Addr) (n : Nat) (G : Hp) (nm : List Str) (m : Nat), Same G H ∧ G p = none ∧ x = .ref p ∧ rH rS G y nm ∧ z = .int m ∧ 3 ≤ m ∧ m ≤ 14 ∧ nm.length = 2 * m - 3 ∧ nm.Nodup ∧ (∀ x ∈ nm, isName x = true) ∧ Pot (n + m) p H ∧
  ∀ own, Wb own m → own.length + 2 = m → RetP p n G H Q (rH (rT K rS)) own
def sp_law_web_drawn (K : PySem.W.Frag) (CW : Addr) : Sp := Sp3 fun x y z H Q _ => ∃ (p : Addr) (n : Nat) (G : Hp) (e r : Nat), Same G H ∧ G p = none ∧ x = .ref p ∧ y = .int e ∧ z = .int r ∧ 3 ≤ e + 2 * r ∧ e + 2 * r ≤ 14 ∧ Pot (n + 200) p H ∧
  ∀ own, Wb own e → own.length + 2 = e + 2 * r → RetP p n G H Q (rL K (rT K rS)) own
def sp_law_any_web (K : PySem.W.Frag) (CW : Addr) : Sp := Sp1 fun x H Q _ => ∃ (p : Addr) (n : Nat) (G : Hp), Same G H ∧ G p = none ∧ x = .ref p ∧ Pot (n + 300) p H ∧ ∀ own, Mw.Good own → Whole own → RetP p n G H Q (rL K (rT K rS)) own
def sp_law_great_web (K : PySem.W.Frag) (CW : Addr) : Sp := sp_law_any_web K CW
def sp_law_is_told_right (K : PySem.W.Frag) (CW : Addr) : Sp := Sp1 fun x H Q _ => ∃ G own, Same G H ∧ rL K (rT K rS) G x own ∧ Mw.Good own ∧ Whole own ∧ ∀ G1 H1, Go [] G H G1 H1 → Q (.bl true) H1
end
end Tc
/-! how a drawn web stays one -/
namespace Tc
open PySem PySem.Spec PyProof.Rows L2 Fw Mw TL
def nameAs (old new : Str) (x : Str) : Str := if x = old then new else x
theorem putRow_all (old new : Str) : ∀ (l : List Str) (t : Int), (l.count old : Int) ≤ t → putRow old new t l = l.map (nameAs old new)
  | [], _, _ => rfl
  | x :: l, t, h => by
    rw [List.count_cons] at h
    show (if x = old ∧ 0 < t then new else x) :: putRow old new (if x = old then t - 1 else t) l = nameAs old new x :: l.map (nameAs old new)
    by_cases e : x = old
    · subst e
      simp only [beq_self_eq_true, if_true] at h
      rw [if_pos ⟨rfl, by omega⟩, if_pos rfl, putRow_all x new l (t - 1) (by omega)]
      unfold nameAs
      rw [if_pos rfl]
    · rw [if_neg (by simpa using e)] at h
      rw [if_neg (fun z => e z.1), if_neg e, putRow_all old new l t (by omega)]
      unfold nameAs
      rw [if_neg e]
theorem putRows_all (old new : Str) : ∀ (l : Rows) (t : Int), (l.flatten.count old : Int) ≤ t → putRows old new t l = l.map fun r => r.map (nameAs old new)
  | [], _, _ => rfl
  | r :: l, t, h => by
    rw [List.flatten_cons, List.count_append] at h
    show putRow old new t r :: putRows old new (t - (r.count old : Nat)) l = _
    rw [putRow_all old new r t (by omega), putRows_all old new l _ (by omega)]
    rfl
theorem count_as {old new : Str} (hne : new ≠ old) (l : List Str) (y : Str) : (l.map (nameAs old new)).count y = if y = new then l.count new + l.count old else if y = old then 0 else l.count y := by
  induction l with
  | nil => simp
  | cons x l ih =>
    rw [List.map_cons, List.count_cons, ih, List.count_cons, List.count_cons, List.count_cons]
    unfold nameAs
    by_cases e1 : x = old
    · subst e1
      have n2 : ¬ x = new := fun z => hne z.symm
      by_cases e2 : y = new
      · subst e2
        simp [n2]
        omega
      · by_cases e3 : y = x
        · subst e3
          simp [e2]
          exact fun z => e2 z.symm
        · have e4 : ¬ new = y := fun z => e2 z.symm
          have e5 : ¬ x = y := fun z => e3 z.symm
          simp [e2, e3, e4, e5]
    · by_cases e2 : y = new
      · subst e2
        by_cases e3 : x = y
        · subst e3
          simp [e1]
          omega
        · simp [e1, e3]
      · by_cases e3 : y = old
        · subst e3
          simp [e1, e2]
        · simp [e1, e2, e3]
theorem mem_ends {own : Rows} {x : Str} : x ∈ endsOf own ↔ (words own).count x = 1 := by
  unfold endsOf
  rw [List.mem_filter, decide_eq_true_eq, mem_roads]
  exact ⟨fun h => h.2, fun h => ⟨List.count_pos_iff.mp (by omega), h⟩⟩
theorem name_some {x : Str} (h : isName x = true) : x ≠ "" := fun z => by
  have := (name_len h).1
  rw [z] at this
  revert this
  decide +kernel
theorem wb_join {own : Rows} {e : Nat} (h : Wb own (e + 2)) {one other : Str} (h1 : one ∈ endsOf own) (h2 : other ∈ endsOf own) (hne : one ≠ other) : Wb (putRows other one 1 own) e := by
  have c1 : own.flatten.count one = 1 := mem_ends.mp h1
  have c2 : own.flatten.count other = 1 := mem_ends.mp h2
  rw [putRows_all other one own 1 (by omega)]
  have fl : (own.map fun r => r.map (nameAs other one)).flatten = own.flatten.map (nameAs other one) := by rw [List.map_flatten]
  have cnt : ∀ y, (own.map fun r => r.map (nameAs other one)).flatten.count y = if y = one then 2 else if y = other then 0 else own.flatten.count y := fun y => by
    rw [fl, count_as hne, c1, c2]
  have nm : ∀ r ∈ own, ∀ x ∈ r, isName (nameAs other one x) = true := fun r hr x hx => by
    unfold nameAs
    by_cases z : x = other
    · rw [if_pos z]
      obtain ⟨r1, k1, k2⟩ := List.mem_flatten.mp (List.count_pos_iff.mp (show 0 < own.flatten.count one by omega))
      exact (h.rows r1 k1).names one k2
    · rw [if_neg z]
      exact (h.rows r hr).names x hx
  refine ⟨fun r hr => ?_, fun z => h.some (List.map_eq_nil_iff.mp z), fun y => ?_, fun i hi => ?_, ?_⟩
  · obtain ⟨q, hq, rfl⟩ := List.mem_map.mp hr
    refine ⟨by rw [List.length_map]; exact (h.rows q hq).len, fun x hx => ?_⟩
    obtain ⟨x', hx', rfl⟩ := List.mem_map.mp hx
    exact nm q hq x' hx'
  · rw [cnt]
    have := h.twice y
    split
    · exact Nat.le_refl _
    · split
      · exact Nat.zero_le _
      · exact this
  · rw [List.length_map] at hi
    have r := h.whole i hi
    induction r with
    | here => exact .here
    | step _ a ih =>
      have a2 := Adj.lt (Adj.symm a)
      refine .step (ih a2) ?_
      obtain ⟨r, q, x, k1, k2, k3, k4, k5⟩ := a
      refine ⟨r.map (nameAs other one), q.map (nameAs other one), nameAs other one x, by rw [List.getElem?_map, k1]; rfl, by rw [List.getElem?_map, k2]; rfl, List.mem_map.mpr ⟨x, k3, rfl⟩, List.mem_map.mpr ⟨x, k4, rfl⟩, name_some (nm r (List.mem_of_getElem? k1) x k3)⟩
  · have nde : (endsOf own).Nodup := (nodup_roads own).filter _
    have nd2 : (endsOf (own.map fun r => r.map (nameAs other one))).Nodup := (nodup_roads _).filter _
    have p : (endsOf (own.map fun r => r.map (nameAs other one))).Perm (((endsOf own).erase one).erase other) := by
      refine (List.perm_ext_iff_of_nodup nd2 ((nde.erase _).erase _)).mpr fun x => ?_
      rw [(nde.erase _).mem_erase_iff, nde.mem_erase_iff, mem_ends, mem_ends]
      have cx := cnt x
      have cx' : (words (own.map fun r => r.map (nameAs other one))).count x = _ := cx
      rw [cx']
      by_cases e1 : x = one
      · simp [e1]
      · by_cases e2 : x = other
        · rw [if_neg e1, if_pos e2]
          exact ⟨fun z => absurd z (by decide), fun z => absurd e2 z.1⟩
        · rw [if_neg e1, if_neg e2]
          exact ⟨fun z => ⟨e2, e1, z⟩, fun z => z.2.2⟩
    rw [p.length_eq, List.length_erase_of_mem (nde.mem_erase_iff.mpr ⟨hne.symm, h2⟩), List.length_erase_of_mem h1, h.ends]
    rfl
theorem wb_turn {js own : Rows} {e : Nat} (t : Turned js own) (h : Wb own e) : Wb js e := by
  obtain ⟨f, g, iso⟩ := turned_iso t
  have pw := turned_words t
  have len := t.length
  have tw : ∀ x, js.flatten.count x ≤ 2 := fun x => by
    have := h.twice x
    rw [show js.flatten.count x = own.flatten.count x from pw.count_eq x]
    exact this
  refine ⟨fun r hr => ?_, fun z => ?_, tw, fun i hi => ?_, by rw [ends_perm pw]; exact h.ends⟩
  · obtain ⟨i, hi⟩ := List.getElem?_of_mem hr
    obtain ⟨q, e1, p1, _⟩ := iso.to i r hi
    have ok := h.rows q (List.mem_of_getElem? e1)
    exact ⟨p1.length_eq.trans ok.len, fun x hx => ok.names x (p1.mem_iff.mp hx)⟩
  · rw [z] at len
    exact h.some (List.length_eq_zero_iff.mp len.symm)
  · have h0 : 0 < js.length := by omega
    obtain ⟨q0, a0, _, b0⟩ := iso.to 0 js[0] (List.getElem?_eq_getElem h0)
    obtain ⟨qi, ai, _, bi⟩ := iso.to i js[i] (List.getElem?_eq_getElem hi)
    have l0 := (List.getElem?_eq_some_iff.mp a0).1
    have li := (List.getElem?_eq_some_iff.mp ai).1
    have rr := iso.swap.reach (Reach.trans (Reach.symm (h.whole _ l0)) (h.whole _ li))
    rw [b0, bi] at rr
    exact rr
/-- a road gets a junction: its second stand is called half, a row of it, half and a new end comes behind -/
theorem wb_add {own S : Rows} {m : Nat} (h : Wb own m) {road half last : Str} (hl : S.length = own.length) (hr : ∀ r ∈ S, RowOk r)
    (hk : ∀ (i : Nat) (r : List Str), own[i]? = some r → ∃ q : List Str, S[i]? = some q ∧ (∀ x ∈ r, x ≠ road → x ∈ q) ∧ (road ∈ r → road ∈ q ∨ half ∈ q))
    (n1 : isName road = true) (n2 : isName half = true) (n3 : isName last = true) (d1 : half ≠ road) (d2 : last ≠ road) (d3 : last ≠ half)
    (c : ∀ y, S.flatten.count y = if y = road then 1 else if y = half then own.flatten.count road - 1 else own.flatten.count y)
    (hroad : road ∈ words own) (hh : half ∉ words own) (hla : last ∉ words own) : Wb (S ++ [[road, half, last]]) (m + 1) := by
  have ch : own.flatten.count half = 0 := List.count_eq_zero_of_not_mem hh
  have cl : own.flatten.count last = 0 := List.count_eq_zero_of_not_mem hla
  have cr : 0 < own.flatten.count road := List.count_pos_iff.mpr hroad
  have cr2 := h.twice road
  have c' : ∀ y, (S ++ [[road, half, last]]).flatten.count y = if y = road then 2 else if y = half then own.flatten.count road else if y = last then 1 else own.flatten.count y := fun y => by
    rw [List.flatten_append, List.count_append, c]
    have e : ([[road, half, last]] : Rows).flatten = [road, half, last] := by simp
    rw [e, List.count_cons, List.count_cons, List.count_cons, List.count_nil]
    by_cases e1 : y = road
    · subst e1
      have a1 : ¬ half = y := d1
      have a2 : ¬ last = y := d2
      simp [a1, a2]
    · have b1 : ¬ road = y := fun z => e1 z.symm
      by_cases e2 : y = half
      · subst e2
        have a2 : ¬ last = y := d3
        simp [e1, b1, a2]
        omega
      · have b2 : ¬ half = y := fun z => e2 z.symm
        by_cases e3 : y = last
        · subst e3
          simp [e1, e2, b1, b2, cl]
        · have b3 : ¬ last = y := fun z => e3 z.symm
          simp [e1, e2, e3, b1, b2, b3]
  have lJ : (S ++ [[road, half, last]])[own.length]? = some [road, half, last] := by
    rw [List.getElem?_append_right (by omega), hl, Nat.sub_self]
    rfl
  have lS : ∀ {i : Nat} {q : List Str}, S[i]? = some q → (S ++ [[road, half, last]])[i]? = some q := fun {i q} e => by
    rw [List.getElem?_append_left (List.getElem?_eq_some_iff.mp e).1]
    exact e
  have nr := name_some n1
  have nh := name_some n2
  have toJ : ∀ {i : Nat} {q : List Str}, S[i]? = some q → (road ∈ q ∨ half ∈ q) → Adj (S ++ [[road, half, last]]) "" i own.length := fun {i q} e z => by
    rcases z with z | z
    · exact ⟨q, _, road, lS e, lJ, z, by simp, nr⟩
    · exact ⟨q, _, half, lS e, lJ, z, by simp, nh⟩
  have lift : ∀ i, Reach own "" 0 i → Reach (S ++ [[road, half, last]]) "" 0 i := by
    intro i r
    induction r with
    | here => exact .here
    | step _ a ih =>
      obtain ⟨r, q, x, k1, k2, k3, k4, k5⟩ := a
      obtain ⟨r', e1, f1, g1⟩ := hk _ r k1
      obtain ⟨q', e2, f2, g2⟩ := hk _ q k2
      by_cases z : x = road
      · subst z
        exact .step (.step ih (toJ e1 (g1 k3))) (Adj.symm (toJ e2 (g2 k4)))
      · exact .step ih ⟨r', q', x, lS e1, lS e2, f1 x k3 z, f2 x k4 z, k5⟩
  refine ⟨fun r hr' => ?_, by simp, fun y => ?_, fun i hi => ?_, ?_⟩
  · rcases List.mem_append.mp hr' with k | k
    · exact hr r k
    · rw [List.mem_singleton] at k
      subst k
      refine ⟨rfl, fun x hx => ?_⟩
      simp only [List.mem_cons, List.not_mem_nil, or_false] at hx
      rcases hx with rfl | rfl | rfl
      · exact n1
      · exact n2
      · exact n3
  · rw [c']
    have := h.twice y
    split
    · omega
    · split
      · omega
      · split
        · omega
        · omega
  · rw [List.length_append, List.length_singleton, hl] at hi
    rcases Nat.lt_or_eq_of_le (Nat.le_of_lt_succ hi) with l | rfl
    · exact lift i (h.whole i l)
    · obtain ⟨r, k1, k2⟩ := List.mem_flatten.mp hroad
      obtain ⟨i0, e0⟩ := List.getElem?_of_mem k1
      obtain ⟨q, e1, _, g1⟩ := hk i0 r e0
      exact .step (lift i0 (h.whole i0 (List.getElem?_eq_some_iff.mp e0).1)) (toJ e1 (g1 k2))
  · have nde : (endsOf own).Nodup := (nodup_roads own).filter _
    have nd2 : (endsOf (S ++ [[road, half, last]])).Nodup := (nodup_roads _).filter _
    have cw : ∀ y, (words (S ++ [[road, half, last]])).count y = _ := c'
    have hle : last ∉ endsOf own := fun z => by
      have := mem_ends.mp z
      have : own.flatten.count last = 1 := this
      omega
    by_cases k : own.flatten.count road = 2
    · have p : (endsOf (S ++ [[road, half, last]])).Perm (last :: endsOf own) := by
        refine (List.perm_ext_iff_of_nodup nd2 (List.nodup_cons.mpr ⟨hle, nde⟩)).mpr fun x => ?_
        rw [List.mem_cons, mem_ends, mem_ends, cw]
        have cx : (words own).count x = own.flatten.count x := rfl
        rw [cx]
        by_cases e1 : x = road
        · subst e1
          rw [if_pos rfl, k]
          exact ⟨fun z => absurd z (by decide), fun z => z.elim (fun y => absurd y.symm d2) (fun y => absurd y (by decide))⟩
        · rw [if_neg e1]
          by_cases e2 : x = half
          · subst e2
            rw [if_pos rfl, k, ch]
            exact ⟨fun z => absurd z (by decide), fun z => z.elim (fun y => absurd y.symm d3) (fun y => absurd y (by decide))⟩
          · rw [if_neg e2]
            by_cases e3 : x = last
            · rw [if_pos e3]
              exact ⟨fun _ => .inl e3, fun _ => rfl⟩
            · rw [if_neg e3]
              exact ⟨.inr, fun z => z.resolve_left e3⟩
      rw [p.length_eq, List.length_cons, h.ends]
    · have k1 : own.flatten.count road = 1 := by omega
      have hre : road ∈ endsOf own := mem_ends.mpr k1
      have hhe : half ∉ endsOf own := fun z => by
        have : own.flatten.count half = 1 := mem_ends.mp z
        omega
      have p : (endsOf (S ++ [[road, half, last]])).Perm (half :: last :: (endsOf own).erase road) := by
        refine (List.perm_ext_iff_of_nodup nd2 (List.nodup_cons.mpr ⟨fun z => ?_, List.nodup_cons.mpr ⟨fun z => hle (List.mem_of_mem_erase z), nde.erase _⟩⟩)).mpr fun x => ?_
        · rcases List.mem_cons.mp z with z | z
          · exact d3 z.symm
          · exact hhe (List.mem_of_mem_erase z)
        · rw [List.mem_cons, List.mem_cons, nde.mem_erase_iff, mem_ends, mem_ends, cw]
          have cx : (words own).count x = own.flatten.count x := rfl
          rw [cx]
          by_cases e1 : x = road
          · subst e1
            rw [if_pos rfl]
            exact ⟨fun z => absurd z (by decide), fun z => z.elim (fun y => absurd y.symm d1) (fun y => y.elim (fun y => absurd y.symm d2) (fun y => absurd rfl y.1))⟩
          · rw [if_neg e1]
            by_cases e2 : x = half
            · rw [if_pos e2, k1]
              exact ⟨fun _ => .inl e2, fun _ => rfl⟩
            · rw [if_neg e2]
              by_cases e3 : x = last
              · rw [if_pos e3]
                exact ⟨fun _ => .inr (.inl e3), fun _ => rfl⟩
              · rw [if_neg e3]
                exact ⟨fun z => .inr (.inr ⟨e1, z⟩), fun z => ((z.resolve_left e2).resolve_left e3).2⟩
      have l2 := List.length_erase_of_mem hre
      have lp : 0 < (endsOf own).length := List.length_pos_of_mem hre
      rw [p.length_eq, List.length_cons, List.length_cons, l2, h.ends]
      rw [h.ends] at lp
      omega
theorem put_keep {old new x : Str} : ∀ {l : List Str} {t : Int}, x ∈ l → x ≠ old → x ∈ putRow old new t l
  | y :: l, t, h, n => by
    show x ∈ (if y = old ∧ 0 < t then new else y) :: putRow old new (if y = old then t - 1 else t) l
    rcases List.mem_cons.mp h with rfl | h
    · rw [if_neg (fun z => n z.1)]
      exact List.mem_cons_self
    · exact List.mem_cons_of_mem _ (put_keep h n)
theorem put_old {old new : Str} : ∀ {l : List Str} {t : Int}, old ∈ l → old ∈ putRow old new t l ∨ new ∈ putRow old new t l
  | y :: l, t, h => by
    show old ∈ (if y = old ∧ 0 < t then new else y) :: putRow old new (if y = old then t - 1 else t) l ∨ new ∈ (if y = old ∧ 0 < t then new else y) :: putRow old new (if y = old then t - 1 else t) l
    rcases List.mem_cons.mp h with e | h
    · subst e
      by_cases p : 0 < t
      · exact .inr (by rw [if_pos ⟨rfl, p⟩]; exact List.mem_cons_self)
      · exact .inl (by rw [if_neg (fun z => p z.2)]; exact List.mem_cons_self)
    · rcases put_old (new := new) (t := if y = old then t - 1 else t) h with z | z
      · exact .inl (List.mem_cons_of_mem _ z)
      · exact .inr (List.mem_cons_of_mem _ z)
theorem put_in {old new x : Str} : ∀ {l : List Str} {t : Int}, x ∈ putRow old new t l → x ∈ l ∨ x = new
  | y :: l, t, h => by
    have h' : x ∈ (if y = old ∧ 0 < t then new else y) :: putRow old new (if y = old then t - 1 else t) l := h
    rcases List.mem_cons.mp h' with e | h'
    · by_cases p : y = old ∧ 0 < t
      · rw [if_pos p] at e
        exact .inr e
      · rw [if_neg p] at e
        exact .inl (by rw [e]; exact List.mem_cons_self)
    · exact (put_in h').imp (List.mem_cons_of_mem _) id
theorem puts_at {old new : Str} : ∀ {l : Rows} {t : Int} {i : Nat} {r : List Str}, l[i]? = some r → ∃ t', (putRows old new t l)[i]? = some (putRow old new t' r)
  | _ :: _, t, 0, _, h => ⟨t, by simp at h; rw [← h]; rfl⟩
  | q :: l, t, i + 1, r, h => by
    obtain ⟨t', e⟩ := puts_at (old := old) (new := new) (t := t - (q.count old : Nat)) (i := i) (by simpa using h)
    exact ⟨t', e⟩
theorem puts_back {old new : Str} : ∀ {l : Rows} {t : Int} {q : List Str}, q ∈ putRows old new t l → ∃ r ∈ l, ∃ t', q = putRow old new t' r
  | r :: l, t, q, h => by
    have h' : q ∈ putRow old new t r :: putRows old new (t - (r.count old : Nat)) l := h
    rcases List.mem_cons.mp h' with rfl | h'
    · exact ⟨r, List.mem_cons_self, t, rfl⟩
    · obtain ⟨r', h1, t', h2⟩ := puts_back h'
      exact ⟨r', List.mem_cons_of_mem _ h1, t', h2⟩
theorem count_put {old new : Str} (hne : new ≠ old) (y : Str) : ∀ (l : List Str) (t : Int), (putRow old new t l).count y = if y = old then l.count old - min t.toNat (l.count old) else if y = new then l.count new + min t.toNat (l.count old) else l.count y
  | [], t => by simp [putRow]
  | x :: l, t => by
    show ((if x = old ∧ 0 < t then new else x) :: putRow old new (if x = old then t - 1 else t) l).count y = _
    rw [List.count_cons, count_put hne y l, List.count_cons, List.count_cons, List.count_cons]
    by_cases e1 : x = old
    · subst e1
      have n2 : ¬ x = new := fun z => hne z.symm
      simp only [true_and, if_true, beq_self_eq_true]
      by_cases p : 0 < t
      · rw [if_pos p]
        by_cases e2 : y = x
        · subst e2
          simp [hne]
          omega
        · by_cases e3 : y = new
          · subst e3
            simp [e2, n2]
            omega
          · have e4 : ¬ new = y := fun z => e3 z.symm
            have e5 : ¬ x = y := fun z => e2 z.symm
            simp [e2, e3, e4, e5]
      · rw [if_neg p]
        by_cases e2 : y = x
        · subst e2
          simp
          omega
        · by_cases e3 : y = new
          · subst e3
            simp [e2, n2]
            omega
          · have e5 : ¬ x = y := fun z => e2 z.symm
            simp [e2, e3, e5]
    · simp only [e1, false_and, if_false]
      by_cases e2 : y = old
      · subst e2
        have e3 : ¬ x = y := e1
        simp [e3]
      · by_cases e3 : y = new
        · subst e3
          simp [e1, e2]
          omega
        · simp [e1, e2, e3]
theorem counts_put {old new : Str} (hne : new ≠ old) (y : Str) : ∀ (l : Rows) (t : Int), (putRows old new t l).flatten.count y = if y = old then l.flatten.count old - min t.toNat (l.flatten.count old) else if y = new then l.flatten.count new + min t.toNat (l.flatten.count old) else l.flatten.count y
  | [], t => by simp [putRows]
  | r :: l, t => by
    show (putRow old new t r :: putRows old new (t - (r.count old : Nat)) l).flatten.count y = _
    rw [List.flatten_cons, List.count_append, count_put hne y r t, counts_put hne y l, List.flatten_cons, List.count_append, List.count_append, List.count_append]
    split
    · omega
    · split
      · omega
      · rfl
theorem wb_split {own : Rows} {m : Nat} (h : Wb own m) {road half last : Str} (c2 : own.flatten.count road = 2)
    (n1 : isName road = true) (n2 : isName half = true) (n3 : isName last = true) (d1 : half ≠ road) (d2 : last ≠ road) (d3 : last ≠ half)
    (hh : half ∉ words own) (hla : last ∉ words own) : Wb (putRows "?" road 1 (putRows road half 1 (putRows road "?" 1 own)) ++ [[road, half, last]]) (m + 1) := by
  have nq : isName "?" = false := by decide +kernel
  have qr : ("?" : Str) ≠ road := fun z => by rw [← z, nq] at n1; cases n1
  have qh : ("?" : Str) ≠ half := fun z => by rw [← z, nq] at n2; cases n2
  have q0 : own.flatten.count ("?" : Str) = 0 := List.count_eq_zero_of_not_mem fun z => by
    obtain ⟨r, k1, k2⟩ := List.mem_flatten.mp z
    have := (h.rows r k1).names _ k2
    rw [nq] at this
    cases this
  have h0 : own.flatten.count half = 0 := List.count_eq_zero_of_not_mem hh
  have cA := fun y => counts_put (old := road) (new := "?") qr y own 1
  have cB := fun y => counts_put (old := road) (new := half) d1 y (putRows road "?" 1 own) 1
  have cS := fun y => counts_put (old := "?") (new := road) qr.symm y (putRows road half 1 (putRows road "?" 1 own)) 1
  have e1 : (putRows road "?" 1 own).flatten.count road = 1 := by rw [cA, if_pos rfl, c2]; rfl
  have e2 : (putRows road "?" 1 own).flatten.count ("?" : Str) = 1 := by rw [cA, if_neg qr, if_pos rfl, c2, q0]; rfl
  have e3 : (putRows road "?" 1 own).flatten.count half = 0 := by rw [cA, if_neg d1, if_neg qh.symm, h0]
  have f1 : (putRows road half 1 (putRows road "?" 1 own)).flatten.count road = 0 := by rw [cB, if_pos rfl, e1]; rfl
  have f2 : (putRows road half 1 (putRows road "?" 1 own)).flatten.count ("?" : Str) = 1 := by rw [cB, if_neg qr, if_neg qh, e2]
  have f3 : (putRows road half 1 (putRows road "?" 1 own)).flatten.count half = 1 := by rw [cB, if_neg d1, if_pos rfl, e1, e3]; rfl
  have s0 : (putRows "?" road 1 (putRows road half 1 (putRows road "?" 1 own))).flatten.count ("?" : Str) = 0 := by rw [cS, if_pos rfl, f2]; rfl
  refine wb_add h (by rw [putRows_len, putRows_len, putRows_len]) (fun q hq => ?_) (fun i r hi => ?_) n1 n2 n3 d1 d2 d3 (fun y => ?_) (List.count_pos_iff.mp (by have : (words own).count road = 2 := c2; omega)) hh hla
  · obtain ⟨b, hb, t1, rfl⟩ := puts_back hq
    obtain ⟨a, ha, t2, rfl⟩ := puts_back hb
    obtain ⟨r, hr, t3, rfl⟩ := puts_back ha
    refine ⟨by rw [putRow_len, putRow_len, putRow_len]; exact (h.rows r hr).len, fun x hx => ?_⟩
    have hxq : x ≠ "?" := fun z => by
      subst z
      have := List.count_pos_iff.mpr (List.mem_flatten.mpr ⟨_, hq, hx⟩)
      omega
    rcases put_in hx with k | k
    · rcases put_in k with k | k
      · rcases put_in k with k | k
        · exact (h.rows r hr).names x k
        · exact absurd k hxq
      · rw [k]; exact n2
    · rw [k]; exact n1
  · obtain ⟨t1, g1⟩ := puts_at (old := road) (new := "?") (t := 1) hi
    obtain ⟨t2, g2⟩ := puts_at (old := road) (new := half) (t := 1) g1
    obtain ⟨t3, g3⟩ := puts_at (old := "?") (new := road) (t := 1) g2
    have noq : ("?" : Str) ∉ putRow "?" road t3 (putRow road half t2 (putRow road "?" t1 r)) := fun z => by
      have := List.count_pos_iff.mpr (List.mem_flatten.mpr ⟨_, List.mem_of_getElem? g3, z⟩)
      omega
    refine ⟨_, g3, fun x hx n => ?_, fun hx => ?_⟩
    · refine put_keep (put_keep (put_keep hx n) n) fun z => ?_
      have := (h.rows r (List.mem_of_getElem? hi)).names x hx
      rw [z, nq] at this
      cases this
    · rcases put_old (new := "?") (t := t1) hx with k | k
      · rcases put_old (new := half) (t := t2) k with k | k
        · exact .inl (put_keep k qr.symm)
        · exact .inr (put_keep k qh.symm)
      · have k2 := put_keep (new := half) (t := t2) k qr
        rcases put_old (new := road) (t := t3) k2 with k | k
        · exact absurd k noq
        · exact .inl k
  · rw [cS]
    by_cases y1 : y = "?"
    · subst y1
      rw [if_pos rfl, if_neg qr, if_neg qh, f2, q0]
      rfl
    · rw [if_neg y1]
      by_cases y2 : y = road
      · rw [if_pos y2, if_pos y2, f1, f2]
        rfl
      · rw [if_neg y2, if_neg y2]
        by_cases y3 : y = half
        · rw [if_pos y3, y3, f3, c2]
        · rw [if_neg y3, cB, if_neg y2, if_neg y3, cA, if_neg y2, if_neg y1]
theorem wb_end {own : Rows} {m : Nat} (h : Wb own m) {road half last : Str} (c1 : own.flatten.count road = 1)
    (n1 : isName road = true) (n2 : isName half = true) (n3 : isName last = true) (d1 : half ≠ road) (d2 : last ≠ road) (d3 : last ≠ half)
    (hh : half ∉ words own) (hla : last ∉ words own) : Wb (own ++ [[road, half, last]]) (m + 1) := by
  have h0 : own.flatten.count half = 0 := List.count_eq_zero_of_not_mem hh
  refine wb_add h rfl h.rows (fun i r hi => ⟨r, hi, fun x hx _ => hx, .inl⟩) n1 n2 n3 d1 d2 d3 (fun y => ?_) (List.count_pos_iff.mp (by have : (words own).count road = 1 := c1; omega)) hh hla
  by_cases y1 : y = road
  · rw [if_pos y1, y1, c1]
  · rw [if_neg y1]
    by_cases y2 : y = half
    · rw [if_pos y2, y2, c1, h0]
    · rw [if_neg y2]
theorem cut_to (xs : List V) (k : Nat) : cutV xs none (some (k : Int)) = xs.take k := by
  unfold cutV
  rw [HT.sIx_none, HT.sIx_nat, List.drop_zero, Nat.sub_zero]
  rcases Nat.le_total k xs.length with h | h
  · rw [Nat.min_eq_left h]
  · rw [Nat.min_eq_right h, List.take_length, List.take_of_length_le h]
theorem cut_from (xs : List V) (k : Nat) : cutV xs (some (k : Int)) none = xs.drop k := by
  unfold cutV
  rw [HT.sIx_none, HT.sIx_nat]
  rcases Nat.le_total k xs.length with h | h
  · rw [Nat.min_eq_left h, List.take_of_length_le]
    rw [List.length_drop]
    exact Nat.le_refl _
  · rw [Nat.min_eq_right h, Nat.sub_self, List.take_zero, List.drop_of_length_le h]
/-- the web of one junction -/
theorem wb_one {a b c : Str} (n1 : isName a = true) (n2 : isName b = true) (n3 : isName c = true) (nd : [a, b, c].Nodup) : Wb [[a, b, c]] 3 := by
  have ct : ∀ x, ([[a, b, c]] : Rows).flatten.count x ≤ 1 := fun x => by
    have e : ([[a, b, c]] : Rows).flatten = [a, b, c] := by simp
    rw [e]
    exact List.nodup_iff_count.mp nd x
  refine ⟨fun r hr => ?_, by simp, fun x => Nat.le_trans (ct x) (by decide), fun i hi => ?_, ?_⟩
  · rw [List.mem_singleton] at hr
    subst hr
    refine ⟨rfl, fun x hx => ?_⟩
    simp only [List.mem_cons, List.not_mem_nil, or_false] at hx
    rcases hx with rfl | rfl | rfl
    · exact n1
    · exact n2
    · exact n3
  · have : i = 0 := by
      have : i < 1 := hi
      omega
    subst this
    exact .here
  · have nde : (endsOf [[a, b, c]]).Nodup := (nodup_roads _).filter _
    have p : (endsOf [[a, b, c]]).Perm [a, b, c] := by
      refine (List.perm_ext_iff_of_nodup nde nd).mpr fun x => ?_
      rw [mem_ends]
      have e : (words [[a, b, c]]) = [a, b, c] := by simp [words]
      rw [e]
      constructor
      · intro h
        exact List.count_pos_iff.mp (by omega)
      · intro h
        have h1 := List.count_pos_iff.mpr h
        have h2 := List.nodup_iff_count.mp nd x
        omega
    rw [p.length_eq]
    rfl
theorem nodup_idx : ∀ {l : List Str} {i j : Nat} {x : Str}, l.Nodup → l[i]? = some x → l[j]? = some x → i = j
  | [], _, _, _, _, h, _ => by simp at h
  | _ :: _, 0, 0, _, _, _, _ => rfl
  | y :: l, 0, j + 1, x, nd, h1, h2 => by
    have e : y = x := by simpa using h1
    have m : x ∈ l := List.mem_of_getElem? (i := j) (by simpa using h2)
    exact absurd (e ▸ m) (List.nodup_cons.mp nd).1
  | y :: l, i + 1, 0, x, nd, h1, h2 => by
    have e : y = x := by simpa using h2
    have m : x ∈ l := List.mem_of_getElem? (i := i) (by simpa using h1)
    exact absurd (e ▸ m) (List.nodup_cons.mp nd).1
  | y :: l, i + 1, j + 1, x, nd, h1, h2 => congrArg Nat.succ (nodup_idx (List.nodup_cons.mp nd).2 (by simpa using h1) (by simpa using h2))
end Tc
/-! flips: four roads round one road, joined the other way -/
namespace Tc
open PySem PySem.Spec PyProof.Rows L2 Fw Mw
def noZ (z : Str) (r : List Str) : List Str := r.filter fun t => !decide (t = z)
structure Four (js : Rows) (z : Str) (i j : Nat) (x y u v : Str) : Prop where
  lt : i < j
  hi : ∃ r, js[i]? = some r ∧ z ∈ r ∧ noZ z r = [x, y]
  hj : ∃ r, js[j]? = some r ∧ z ∈ r ∧ noZ z r = [u, v]
  sides : sidesOf js z = [i, j]
def flipI (k : Int) (z x y u v : Str) : List Str := if k = 1 then [x, u, z] else [x, v, z]
def flipJ (k : Int) (z x y u v : Str) : List Str := if k = 1 then [y, v, z] else [u, y, z]
def flipRows (js : Rows) (i j : Nat) (k : Int) (z x y u v : Str) : Rows := (js.set i (flipI k z x y u v)).set j (flipJ k z x y u v)
theorem noZ_perm {z : Str} {r : List Str} {x y : Str} (hl : r.length = 3) (hz : z ∈ r) (h : noZ z r = [x, y]) : r.Perm [x, y, z] := by
  have h1 := List.filter_append_perm (fun t => !decide (t = z)) r
  have h2 : r.filter (fun t => !(!decide (t = z))) = [z] := by
    have hl2 := h1.length_eq
    rw [List.length_append, show r.filter (fun t => !decide (t = z)) = [x, y] from h] at hl2
    have hm : ∀ t ∈ r.filter (fun t => !(!decide (t = z))), t = z := fun t ht => by
      have := (List.mem_filter.mp ht).2
      simpa using this
    generalize r.filter (fun t => !(!decide (t = z))) = l at hl2 hm
    match l, hl2 with
    | [a], _ => rw [hm a (by simp)]
    | [], e => simp at e; omega
    | a :: b :: c, e => simp at e; omega
  rw [show r.filter (fun t => !decide (t = z)) = [x, y] from h, h2] at h1
  exact h1.symm
theorem count_set {l : Rows} {i : Nat} {r r' : List Str} (h : l[i]? = some r) (t : Str) : (l.set i r').flatten.count t + r.count t = l.flatten.count t + r'.count t := by
  induction l generalizing i with
  | nil => simp at h
  | cons a l ih =>
    cases i with
    | zero =>
      simp at h
      subst h
      simp [List.count_append]
      omega
    | succ i =>
      simp at h
      have := ih h
      simp [List.count_append]
      omega
section
variable {js : Rows} {z x y u v : Str} {i j : Nat} {k : Int}
theorem Four.of (h3 : ∀ r ∈ js, r.length = 3) (h2 : ∀ x, js.flatten.count x ≤ 2) (h : sidesOf js z = [i, j]) : ∃ x y u v, Four js z i j x y u v := by
  have lt : i < j := by
    have := sides_lt js z
    rw [h] at this
    simpa using this
  obtain ⟨ri, e1, m1⟩ := mem_sides.mp (show i ∈ sidesOf js z by rw [h]; simp)
  obtain ⟨rj, e2, m2⟩ := mem_sides.mp (show j ∈ sidesOf js z by rw [h]; simp)
  have c1 := List.count_pos_iff.mpr m1
  have c2 := List.count_pos_iff.mpr m2
  have cs : ri.count z + rj.count z ≤ 2 := by
    have a1 := count_set (r' := []) e1 z
    have e2' : (js.set i [])[j]? = some rj := by rw [List.getElem?_set_ne (by omega)]; exact e2
    have a2 := count_set (r' := []) e2' z
    have := h2 z
    simp at a1 a2
    omega
  have two : ∀ r : List Str, r.length = 3 → r.count z = 1 → ∃ a b, noZ z r = [a, b] := fun r hl hc => by
    have e := List.length_eq_countP_add_countP (fun t => decide (t = z)) (l := r)
    have e1 : r.countP (fun t => decide (t = z)) = r.count z := by
      unfold List.count
      refine List.countP_congr fun t _ => by simp
    have e2 : (noZ z r).length = 2 := by
      unfold noZ
      rw [← List.countP_eq_length_filter]
      have e3 : r.countP (fun t => !decide (t = z)) = r.countP (fun t => decide ¬decide (t = z) = true) := List.countP_congr fun t _ => by simp
      omega
    match noZ z r, e2 with
    | [a, b], _ => exact ⟨a, b, rfl⟩
  obtain ⟨x, y, f1⟩ := two ri (h3 ri (List.mem_of_getElem? e1)) (by omega)
  obtain ⟨u, v, f2⟩ := two rj (h3 rj (List.mem_of_getElem? e2)) (by omega)
  exact ⟨x, y, u, v, lt, ⟨ri, e1, m1, f1⟩, ⟨rj, e2, m2, f2⟩, h⟩
theorem Four.il (F : Four js z i j x y u v) : i < js.length := by
  obtain ⟨r, e, _⟩ := F.hi
  exact (List.getElem?_eq_some_iff.mp e).1
theorem Four.jl (F : Four js z i j x y u v) : j < js.length := by
  obtain ⟨r, e, _⟩ := F.hj
  exact (List.getElem?_eq_some_iff.mp e).1
theorem Four.ne (F : Four js z i j x y u v) : x ≠ z ∧ y ≠ z ∧ u ≠ z ∧ v ≠ z := by
  obtain ⟨r, _, _, e⟩ := F.hi
  obtain ⟨q, _, _, e2⟩ := F.hj
  have m : ∀ {r : List Str} {t : Str}, t ∈ noZ z r → t ≠ z := fun h => by
    have := (List.mem_filter.mp h).2
    simpa using this
  exact ⟨m (r := r) (by rw [e]; simp), m (r := r) (by rw [e]; simp), m (r := q) (by rw [e2]; simp), m (r := q) (by rw [e2]; simp)⟩
theorem flip_i (F : Four js z i j x y u v) : (flipRows js i j k z x y u v)[i]? = some (flipI k z x y u v) := by
  unfold flipRows
  rw [List.getElem?_set_ne (by have := F.lt; omega), List.getElem?_set_self F.il]
theorem flip_j (F : Four js z i j x y u v) : (flipRows js i j k z x y u v)[j]? = some (flipJ k z x y u v) := by
  unfold flipRows
  rw [List.getElem?_set_self (by rw [List.length_set]; exact F.jl)]
theorem flip_o {n : Nat} (hi : n ≠ i) (hj : n ≠ j) : (flipRows js i j k z x y u v)[n]? = js[n]? := by
  unfold flipRows
  rw [List.getElem?_set_ne (Ne.symm hj), List.getElem?_set_ne (Ne.symm hi)]
theorem flip_len : (flipRows js i j k z x y u v).length = js.length := by
  unfold flipRows
  rw [List.length_set, List.length_set]
theorem flipI_len : (flipI k z x y u v).length = 3 := by unfold flipI; split <;> rfl
theorem flipJ_len : (flipJ k z x y u v).length = 3 := by unfold flipJ; split <;> rfl
theorem flip_words (h3 : ∀ r ∈ js, r.length = 3) (F : Four js z i j x y u v) : (words (flipRows js i j k z x y u v)).Perm (words js) := by
  obtain ⟨r, e, m, f⟩ := F.hi
  obtain ⟨q, e2, m2, f2⟩ := F.hj
  have p1 := noZ_perm (h3 r (List.mem_of_getElem? e)) m f
  have p2 := noZ_perm (h3 q (List.mem_of_getElem? e2)) m2 f2
  refine List.perm_iff_count.mpr fun t => ?_
  have a1 := count_set (r' := flipI k z x y u v) e t
  have e2' : (js.set i (flipI k z x y u v))[j]? = some q := by rw [List.getElem?_set_ne (by have := F.lt; omega)]; exact e2
  have a2 := count_set (r' := flipJ k z x y u v) e2' t
  rw [p1.count_eq t] at a1
  rw [p2.count_eq t] at a2
  show ((js.set i (flipI k z x y u v)).set j (flipJ k z x y u v)).flatten.count t = js.flatten.count t
  unfold flipI flipJ at *
  split at a1
  · rename_i hk
    simp only [if_pos hk, List.count_cons, List.count_nil] at a1 a2 ⊢
    omega
  · rename_i hk
    simp only [if_neg hk, List.count_cons, List.count_nil] at a1 a2 ⊢
    omega
theorem flip_good (g : Mw.Good js) (F : Four js z i j x y u v) : Mw.Good (flipRows js i j k z x y u v) := by
  have h3 : ∀ r ∈ js, r.length = 3 := fun r hr => (g.rows r hr).len
  have pw := flip_words (k := k) h3 F
  have nm : ∀ t ∈ words js, isName t = true := fun t ht => by
    obtain ⟨r, hr, h⟩ := List.mem_flatten.mp ht
    exact (g.rows r hr).names t h
  refine ⟨fun r hr => ⟨?_, fun t ht => nm t (pw.mem_iff.mp (List.mem_flatten.mpr ⟨r, hr, ht⟩))⟩, fun e => ?_, by rw [flip_len]; exact g.most, fun t => by
    have := pw.count_eq t
    have h := g.twice t
    show (words (flipRows js i j k z x y u v)).count t ≤ 2
    rw [this]
    exact h⟩
  · obtain ⟨n, hn⟩ := List.mem_iff_getElem?.mp hr
    by_cases e1 : n = i
    · rw [e1, flip_i F] at hn
      rw [← Option.some.inj hn]; exact flipI_len
    · by_cases e2 : n = j
      · rw [e2, flip_j F] at hn
        rw [← Option.some.inj hn]; exact flipJ_len
      · rw [flip_o e1 e2] at hn
        exact h3 r (List.mem_of_getElem? hn)
  · have := congrArg List.length e
    rw [flip_len] at this
    have h := F.il
    simp at this
    rw [this] at h
    simp at h
theorem flip_whole (g : Mw.Good js) (w : Whole js) (F : Four js z i j x y u v) : Whole (flipRows js i j k z x y u v) := by
  have h3 : ∀ r ∈ js, r.length = 3 := fun r hr => (g.rows r hr).len
  obtain ⟨r, e, m, f⟩ := F.hi
  obtain ⟨q, e2, m2, f2⟩ := F.hj
  have p1 := noZ_perm (h3 r (List.mem_of_getElem? e)) m f
  have p2 := noZ_perm (h3 q (List.mem_of_getElem? e2)) m2 f2
  have zn : z ≠ "" := fun h => by
    have := (g.rows r (List.mem_of_getElem? e)).names z m
    rw [h] at this
    revert this
    decide
  have zI : z ∈ flipI k z x y u v := by unfold flipI; split <;> simp
  have zJ : z ∈ flipJ k z x y u v := by unfold flipJ; split <;> simp
  have ij : Adj (flipRows js i j k z x y u v) "" i j := ⟨_, _, z, flip_i F, flip_j F, zI, zJ, zn⟩
  -- a word of either line stands in one of both lines behind the flip
  have wd : ∀ t, t ∈ r ∨ t ∈ q → t ∈ flipI k z x y u v ∨ t ∈ flipJ k z x y u v := fun t ht => by
    rw [p1.mem_iff, p2.mem_iff] at ht
    unfold flipI flipJ
    split <;> simp at ht ⊢ <;> grind
  have one : ∀ {a b : Nat}, Adj js "" a b → Reach (flipRows js i j k z x y u v) "" a b := by
    rintro a b ⟨ra, rb, t, ea, eb, ta, tb, tn⟩
    by_cases ha : a = i ∨ a = j
    · by_cases hb : b = i ∨ b = j
      · rcases ha with rfl | rfl <;> rcases hb with rfl | rfl
        · exact .here
        · exact .step .here ij
        · exact .step .here (Adj.symm ij)
        · exact .here
      · have tw : t ∈ r ∨ t ∈ q := by
          rcases ha with rfl | rfl
          · exact .inl (by rw [Option.some.inj (e.symm.trans ea)]; exact ta)
          · exact .inr (by rw [Option.some.inj (e2.symm.trans ea)]; exact ta)
        have eb' : (flipRows js i j k z x y u v)[b]? = some rb := by rw [flip_o (fun h => hb (.inl h)) (fun h => hb (.inr h))]; exact eb
        rcases wd t tw with h | h
        · have s : Adj (flipRows js i j k z x y u v) "" i b := ⟨_, _, t, flip_i F, eb', h, tb, tn⟩
          rcases ha with rfl | rfl
          · exact .step .here s
          · exact .step (.step .here (Adj.symm ij)) s
        · have s : Adj (flipRows js i j k z x y u v) "" j b := ⟨_, _, t, flip_j F, eb', h, tb, tn⟩
          rcases ha with rfl | rfl
          · exact .step (.step .here ij) s
          · exact .step .here s
    · have ea' : (flipRows js i j k z x y u v)[a]? = some ra := by rw [flip_o (fun h => ha (.inl h)) (fun h => ha (.inr h))]; exact ea
      by_cases hb : b = i ∨ b = j
      · have tw : t ∈ r ∨ t ∈ q := by
          rcases hb with rfl | rfl
          · exact .inl (by rw [Option.some.inj (e.symm.trans eb)]; exact tb)
          · exact .inr (by rw [Option.some.inj (e2.symm.trans eb)]; exact tb)
        rcases wd t tw with h | h
        · have s : Adj (flipRows js i j k z x y u v) "" a i := ⟨_, _, t, ea', flip_i F, ta, h, tn⟩
          rcases hb with rfl | rfl
          · exact .step .here s
          · exact .step (.step .here s) ij
        · have s : Adj (flipRows js i j k z x y u v) "" a j := ⟨_, _, t, ea', flip_j F, ta, h, tn⟩
          rcases hb with rfl | rfl
          · exact .step (.step .here s) (Adj.symm ij)
          · exact .step .here s
      · have eb' : (flipRows js i j k z x y u v)[b]? = some rb := by rw [flip_o (fun h => hb (.inl h)) (fun h => hb (.inr h))]; exact eb
        exact .step .here ⟨_, _, t, ea', eb', ta, tb, tn⟩
  intro n hn
  rw [flip_len] at hn
  have h := w n hn
  clear hn
  induction h with
  | here => exact .here
  | step _ a ih => exact Reach.trans ih (one a)
theorem noZ_I (F : Four js z i j x y u v) : noZ z (flipI k z x y u v) = if k = 1 then [x, u] else [x, v] := by
  obtain ⟨h1, h2, h3, h4⟩ := F.ne
  unfold flipI noZ
  split <;> simp [h1, h2, h3, h4]
theorem noZ_J (F : Four js z i j x y u v) : noZ z (flipJ k z x y u v) = if k = 1 then [y, v] else [u, y] := by
  obtain ⟨h1, h2, h3, h4⟩ := F.ne
  unfold flipJ noZ
  split <;> simp [h1, h2, h3, h4]
theorem flip_sides (F : Four js z i j x y u v) : sidesOf (flipRows js i j k z x y u v) z = [i, j] := by
  rw [← F.sides]
  unfold sidesOf
  rw [flip_len]
  refine List.filter_congr fun n hn => decide_eq_decide.mpr ?_
  obtain ⟨r, e, m, f⟩ := F.hi
  obtain ⟨q, e2, m2, f2⟩ := F.hj
  by_cases h1 : n = i
  · rw [h1, getD_of (flip_i F), getD_of e]
    have zI : z ∈ flipI k z x y u v := by unfold flipI; split <;> simp
    exact ⟨fun _ => m, fun _ => zI⟩
  · by_cases h2 : n = j
    · rw [h2, getD_of (flip_j F), getD_of e2]
      have zJ : z ∈ flipJ k z x y u v := by unfold flipJ; split <;> simp
      exact ⟨fun _ => m2, fun _ => zJ⟩
    · rw [List.getD_eq_getElem?_getD, List.getD_eq_getElem?_getD, flip_o h1 h2]
/-- the four behind a flip -/
theorem flip_four (F : Four js z i j x y u v) : Four (flipRows js i j k z x y u v) z i j x (if k = 1 then u else v) (if k = 1 then y else u) (if k = 1 then v else y) := by
  have zI : z ∈ flipI k z x y u v := by unfold flipI; split <;> simp
  have zJ : z ∈ flipJ k z x y u v := by unfold flipJ; split <;> simp
  refine ⟨F.lt, ⟨_, flip_i F, zI, ?_⟩, ⟨_, flip_j F, zJ, ?_⟩, flip_sides F⟩
  · rw [noZ_I F]; split <;> rfl
  · rw [noZ_J F]; split <;> rfl
/-- the same way again: the first web, but for the sequence of words -/
theorem paired_idx {α β : Type} {F : α → β → Prop} : ∀ {xs : List α} {ys : List β}, xs.length = ys.length → (∀ (n : Nat) (a : α) (b : β), xs[n]? = some a → ys[n]? = some b → F a b) → Paired F xs ys
  | [], [], _, _ => .nil
  | a :: xs, b :: ys, h, f => .cons (f 0 a b rfl rfl) (paired_idx (by simpa using h) fun n a b e1 e2 => f (n + 1) a b (by simpa using e1) (by simpa using e2))
theorem flip_back (h3 : ∀ r ∈ js, r.length = 3) (F : Four js z i j x y u v) (hk : k = 1 ∨ k = 2) : Paired List.Perm (flipRows (flipRows js i j k z x y u v) i j k z x (if k = 1 then u else v) (if k = 1 then y else u) (if k = 1 then v else y)) js := by
  have F' := flip_four (k := k) F
  obtain ⟨r, e, m, f⟩ := F.hi
  obtain ⟨q, e2, m2, f2⟩ := F.hj
  have p1 := noZ_perm (h3 r (List.mem_of_getElem? e)) m f
  have p2 := noZ_perm (h3 q (List.mem_of_getElem? e2)) m2 f2
  refine paired_idx (by rw [flip_len, flip_len]) fun n a b e3 e4 => ?_
  by_cases h1 : n = i
  · rw [h1, flip_i F'] at e3
    rw [h1, e] at e4
    obtain rfl := Option.some.inj e3
    obtain rfl := Option.some.inj e4
    refine List.Perm.trans ?_ p1.symm
    unfold flipI
    rcases hk with rfl | rfl <;> simp
  · by_cases h2 : n = j
    · rw [h2, flip_j F'] at e3
      rw [h2, e2] at e4
      obtain rfl := Option.some.inj e3
      obtain rfl := Option.some.inj e4
      refine List.Perm.trans ?_ p2.symm
      unfold flipJ
      rcases hk with rfl | rfl <;> simp
    · rw [flip_o h1 h2, flip_o h1 h2, e4] at e3
      rw [Option.some.inj e3]
theorem flip_other (F : Four js z i j x y u v) (hk : k = 1 ∨ k = 2) : Paired List.Perm (flipRows (flipRows js i j k z x y u v) i j (3 - k) z x (if k = 1 then u else v) (if k = 1 then y else u) (if k = 1 then v else y)) (flipRows js i j (3 - k) z x y u v) := by
  have F' := flip_four (k := k) F
  refine paired_idx (by rw [flip_len, flip_len, flip_len]) fun n a b e3 e4 => ?_
  by_cases h1 : n = i
  · rw [h1, flip_i F'] at e3
    rw [h1, flip_i F] at e4
    obtain rfl := Option.some.inj e3
    obtain rfl := Option.some.inj e4
    unfold flipI
    rcases hk with rfl | rfl <;> simp
  · by_cases h2 : n = j
    · rw [h2, flip_j F'] at e3
      rw [h2, flip_j F] at e4
      obtain rfl := Option.some.inj e3
      obtain rfl := Option.some.inj e4
      unfold flipJ
      rcases hk with rfl | rfl <;> simp <;> exact List.Perm.swap _ _ _
    · rw [flip_o h1 h2, flip_o h1 h2] at e3
      rw [flip_o h1 h2, e3] at e4
      rw [Option.some.inj e4]
/-- rows with their names sorted do not tell a row's sequence -/
theorem sorted_rows {js ks : Rows} (h : Paired List.Perm js ks) : js.map (·.mergeSort leS) = ks.map (·.mergeSort leS) := by
  induction h with
  | nil => rfl
  | cons p _ ih =>
    rw [List.map_cons, List.map_cons, ih, sort_uniq (sort_pair _) (sort_pair _) (((List.mergeSort_perm _ _).trans p).trans (List.mergeSort_perm _ _).symm)]
end
end Tc
/-! own rules: sorted() of a list of lists of texts -/
namespace Yo
open PySem PySem.Spec PyProof.Rows L2 PySem.W PySem.Calls
def encR (r : List Str) : PyData := .list (r.map .str)
theorem dp_strs {K : PySem.W.Frag} {H : Hp} : ∀ l : List Str, DpAll K H (l.map V.str) (l.map PyData.str)
  | [] => .nil
  | n :: l => .cons (.str n) (dp_strs l)
theorem alike_strs : ∀ xs ys : List Str, alikeAll (xs.map .str) (ys.map .str) = true
  | [], _ => by simp [alikeAll]
  | _ :: _, [] => by simp [alikeAll]
  | x :: xs, y :: ys => by
    show alikeAll (.str x :: xs.map .str) (.str y :: ys.map .str) = true
    rw [alikeAll, alike_strs xs ys]
    simp [alike]
theorem depth_strs : ∀ xs : List Str, PyData.depthAll (xs.map .str) = 0
  | [] => by simp [PyData.depthAll]
  | x :: xs => by
    show PyData.depthAll (.str x :: xs.map .str) = 0
    rw [PyData.depthAll, depth_strs xs]
    simp [PyData.depth]
theorem each_of {X : Cx} {pins : List (Addr × Obj)} {σ : L2.St} {H : Hp} {s : Shared} (I : Inv X pins σ H s) : ∀ {ps : List V} {us : List Value} {rs : List (List Str)}, Vals ps us → Paired (fun p r => ∃ q, p = .ref q ∧ SqL X.K H q (r.map V.str)) ps rs →
    EachIs (fun v (b : V × List Str) => RelV b.1 v) us (ps.zip rs) ∧ EachIs (fun v (b : V × List Str) => ∃ as, Reads s.heap v (encR b.2) as) us (ps.zip rs) ∧ (ps.zip rs).map (·.2) = rs
  | _, _, _, .nil, .nil => ⟨.nil, .nil, rfl⟩
  | _, _, _, .cons r rv, .cons ⟨q, e, hq⟩ t => by
    obtain ⟨a1, a2, a3⟩ := each_of I rv t
    exact ⟨.cons r a1, .cons (Dp.reads I (encR _) _ _ (e ▸ .lst hq (dp_strs _)) r) a2, by rw [List.zip_cons_cons, List.map_cons, a3]⟩
theorem each_vals {out : List Value} : ∀ {vs : List Value} {bs : List (V × List Str)}, EachIs (fun v (b : V × List Str) => RelV b.1 v) vs bs → Vals (bs.map (·.1)) vs
  | _, _, .nil => .nil
  | _, _, .cons r t => .cons r (each_vals (out := out) t)
/-- sorted(xs), a list of lists of texts -/
def rSortedR (K : PySem.W.Frag) : List V → Hp → VK → Prop := fun vs H Q => ∃ (a : Addr) (ps : List V) (rs : List (List Str)) (F : V → List Str → Prop), vs = [V.ref a] ∧ SqL K H a ps ∧ Paired F ps rs ∧ (∀ p r, F p r → ∃ q, p = .ref q ∧ SqL K H q (r.map V.str)) ∧
  ∀ (qs : List V) (p : Addr), H p = none → Paired F qs (rs.mergeSort (dataLe false encR)) → Q (.ref p) (upd H p (.lst qs))
theorem paired_of {α β : Type} {F : α → β → Prop} : ∀ {zs : List (α × β)}, (∀ z ∈ zs, F z.1 z.2) → Paired F (zs.map (·.1)) (zs.map (·.2))
  | [], _ => .nil
  | z :: zs, h => .cons (h z List.mem_cons_self) (paired_of fun y hy => h y (List.mem_cons_of_mem _ hy))
theorem paired_zip {α β : Type} {F : α → β → Prop} : ∀ {xs : List α} {ys : List β}, Paired F xs ys → ∀ z ∈ xs.zip ys, F z.1 z.2
  | _, _, .nil => fun z h => by cases h
  | _, _, .cons r t => fun z h => by
    rcases List.mem_cons.mp h with rfl | h
    · exact r
    · exact paired_zip t z h
theorem cr_sortedR {X : Cx} (hu : X.A.units + 64 < cLine) : CallR X (.builtin "sorted") (rSortedR X.K) := by
  intro pins s σ H vs us Q I r h
  obtain ⟨a, ps, rs, F, rfl, hs, hp, hF, q⟩ := h
  obtain ⟨its, rv, hl, hz⟩ := I.list hs
  rw [Vals.ref1 r]
  obtain ⟨e1, e2, e3⟩ := each_of I rv (L2.Paired.mapP hp hF)
  have hlen : (ps.zip rs).length = ps.length := by rw [List.length_zip, Paired.length hp, Nat.min_self]
  have ce : ((fun (b : V × List Str) => encR b.2) : V × List Str → PyData) = encR ∘ (·.2) := rfl
  refine sorted_data (enc := fun (b : V × List Str) => encR b.2) hl.isList e1 e2 (AllAlike.of fun b b' => ?_) (Sortable.others fun b => ⟨fun z => (nomatch z), fun xs z => (nomatch z)⟩) (by rw [hlen]; exact hz) (fun b _ => ?_) fun out h1 h2 => ?_
  · show alike (.list (b.2.map .str)) (.list (b'.2.map .str)) = true
    simp only [alike]
    exact alike_strs _ _
  · show X.A.units + 2 + PyData.depth (.list (b.2.map .str)) < cLine
    simp only [PyData.depth]
    rw [depth_strs]
    omega
  · obtain ⟨ep, he'⟩ := PyProof.Rows.sortedAll_at s.heap its out.toArray
    have hv := each_vals (out := out) h2
    have hq : Paired F (((ps.zip rs).mergeSort (dataLe false fun (b : V × List Str) => encR b.2)).map (·.1)) (rs.mergeSort (dataLe false encR)) := by
      have e4 : (((ps.zip rs).mergeSort (dataLe false fun (b : V × List Str) => encR b.2)).map (·.2)) = rs.mergeSort (dataLe false encR) := by
        conv => rhs; rw [← e3]
        exact List.map_mergeSort fun _ _ _ _ => rfl
      rw [← e4]
      exact paired_of fun z hz => paired_zip hp z ((List.mergeSort_perm _ _).mem_iff.mp hz)
    generalize ((ps.zip rs).mergeSort (dataLe false fun (b : V × List Str) => encR b.2)).map (·.1) = qs at hv hq
    have hl2 : qs.length ≤ sizeLine := by
      rw [Paired.length hq, List.length_mergeSort, ← Paired.length hp]
      exact hz
    exact ⟨.ref _, upd H (s.heap.objs.size + 1) (.lst qs), I.laid (t' := s.toks) (fun _ _ => PyProof.Rows.sortedAll_old) (Nat.le_succ _) ⟨hl2, out, ep, hv, he'⟩, rfl, q _ _ (I.hok.fresh (Nat.le_succ _)) hq⟩

/-! ### f(k = v, ..), nothing by position -/
section
variable {X : Cx} {CX : CXT} {k : Nat} {f : Addr} {fd : FuncData} {ps ks : List Str} {sp : Sp} {E : XK} {x : Str} {p pos : Pos} {kws : List Keyword} {tk : TA} {g : List Value → List Value → List Value} {gV : List V → List V → List V}
def tCallK0 (sp : Sp) (gV : List V → List V → List V) (E : XK) (tk : TA) : TE := fun σ H Q => tk σ H fun zs H2 => sp (gV [] zs) H2 Q E
theorem pe_callK0 (F : FnOk X.prog X.w X.K X.mg X.base CX k f fd ps sp) (hr : Room k X.A) (hg : Gl X x) (hm : X.mg x = some (.ref f)) (hk : PySem.W.keepIn X.K (.ref f) = true) (hb : KBinds X.K fd ps ks g gV) (hx : Passes CX X E)
    (hkw : PK X kws tk) (hall : (backToKw pos (keywordEach kws X.env)).all (·.1.isSome) = true := by rfl) (hks : (backToKw pos (keywordEach kws X.env)).filterMap (·.1) = ks := by rfl)
    (hdb : (x == ("__debug__" : Str)) = false := by decide)
    (hpl : ((backTo pos (starEach [] X.env)).any (·.1) || (backToKw pos (keywordEach kws X.env)).any (·.1.isNone)) = false := by rfl) :
    PE X (.Call (.Name x p) [] kws pos) (tCallK0 sp gV E tk) := by
  refine ⟨fun pins s σ H Q I h => ?_⟩
  refine wpAny_Call_Name_kw (ld_glob I hg hm ?_ hdb)
  refine PySem.W.callWith_KW0 (h₀ := X.base) I.ok.mod.kin hk hall (thn (hkw.run pos pins s σ H _ I h) fun ws s2 ⟨zs, H2, I2, rz, q2⟩ => ⟨I2.kIn, ?_⟩) hpl
  rw [hks]
  exact run_fnk (us := []) (vs := []) F hr hb hx I2 .nil rz q2
end
/-! ### len(set(xs)), ints -/
section
variable {X : Cx}
def tLenSetA (K : PySem.W.Frag) (ta : TE) : TE := fun σ H Q => ta σ H fun x H1 => ∃ (l : Addr) (ns : List Int), x = V.ref l ∧ SqL K H1 l (ns.map V.int) ∧ ns.length < 64 ∧ Q (.int (firstMet (fun i => ns.getD i 0) ns.length).length) H1
theorem pe_lenSetA {a : Expr} {ta : TE} {p p2 q pos : Pos} (K : PySem.W.Frag) (hK : X.K = K) (hc : X.calm = true) (hg : Gl X "len") (hm : X.mg "len" = none) (hg2 : Gl X "set") (hm2 : X.mg "set" = none) (ha : PE X a ta)
    (na : starEach [a] X.env = (false, eval a X.env) :: starEach [] X.env := by rfl) : PE X (.Call (.Name "len" p) [.Call (.Name "set" p2) [a] [] q] [] pos) (tLenSetA K ta) := by
  subst hK
  refine ⟨fun pins s σ H Q I h => ?_⟩
  refine Call_ (ld_blt I hg hm PySem.boot_len ?_)
  refine PyProof.Rows.callWith_builtin1 (PyProof.Rows.args_cons ?_ rfl) rfl rfl
  refine Call_ (ld_blt I hg2 hm2 PyProof.Rows.boot_set ?_)
  refine PyProof.Rows.callWith_type1 (PyProof.Rows.args_cons (thn (ha.run pins s σ H _ I h) fun v s1 ⟨x, H1, I1, r1, q1⟩ => PyProof.Rows.args_nil ?_) na) na rfl
  obtain ⟨l, ns, rfl, hq, h1, q1⟩ := q1
  cases r1
  obtain ⟨its, r, pl, hz⟩ := I1.list hq
  have hl : its.toArray.size = ns.length := by rw [List.size_toArray, ← r.length, List.length_map]
  refine call_set_list (I1.ok.hd hc) pl.isList (ns := ns) (by simpa using r.ints) (by unfold scanBound; omega) fun h' tk hS hk => ?_
  rw [hl] at hS
  refine PyProof.Rows.args_nil ?_
  obtain ⟨o, es, ep, t, ho, hex, hd, _, _, _, hf, hn⟩ := hS
  have I2 : Inv X pins σ H1 { s1 with heap := h', toks := tk } := I1.kept fun b o e => hk b o (Heap.lt_size e) e
  have hle : (firstMet (fun i => ns.getD i 0) ns.length).length ≤ ns.length := by
    generalize ns.length = m
    induction m with
    | zero => exact Nat.le_refl _
    | succ m ih =>
      rw [firstMet_succ]
      unfold step_dedup
      split
      · omega
      · rw [List.length_append, List.length_singleton]; omega
  refine call_len_set ho hex hd hf (by rw [hn] <;> omega) ⟨.int _, H1, I2.tok _, ⟨_, by rw [hn]⟩, q1⟩
theorem met_two (i j : Int) : (firstMet (fun k => ([i, j] : List Int).getD k 0) 2).length = if i = j then 1 else 2 := by
  rw [firstMet_succ, firstMet_succ]
  unfold step_dedup firstMet
  by_cases e : i = j
  · subst e; simp
  · rw [if_neg e]; simp [e]
end
end Yo
/-! own rules: sorted() of a tuple of texts -/
namespace Yo
open PySem PySem.Spec PyProof.Rows L2
section
variable {prog : Program} {w : World} {A : Around} {E : Value → Shared → Prop} {s : Shared}
theorem collect_tuple {l : Addr} {vs : List Value} {Q : List Value → Shared → Prop} (hl : s.heap.IsTuple l vs.toArray)
    (h : Q vs { s with heap := (s.heap.push (seqObj "list" #[] 0)).update s.heap.objs.size (Obj.mapSeq (· ++ vs.toArray)) }) (hsz : vs.length ≤ sizeLine) :
    wpAny (model prog w) A (collect (.ref l)) Q E s := by
  obtain ⟨o, ho, hc, n, hd⟩ := id hl
  unfold collect
  refine wpAny_bind (wpAny_runValue (codeAny_builtin entry_proto_collect' ?_))
  show wpAny _ _ (do again (.builtin "list.__iadd__" ⟨[← newList [], .ref l], []⟩)) _ _ s
  refine wpAny_bind (wpAny_newList (wpAny_pure ⟨Code.quiet_builtin _ (by decide +kernel), codeAny_builtin entry_list_iadd' ?_⟩))
  show wpAny _ _ (Builtin.List.listExtendWith (.ref s.heap.objs.size) (.ref l) (.ref s.heap.objs.size)) _ _ { s with heap := s.heap.push (seqObj "list" #[] 0) }
  unfold Builtin.List.listExtendWith
  have ho' : (s.heap.push (seqObj "list" #[] 0)).get? l = some o := Heap.get?_push_of_some _ ho
  refine wpAny_bind (wpAny_typeOf (T := "tuple") ⟨o, ho', hc⟩ ?_)
  have ht : (Value.type "tuple" == Value.type "tuple") = true := by rfl
  rw [if_pos (by rw [ht]; simp)]
  refine wpAny_bind (listItems_at ho' hd ?_)
  refine wpAny_bind (listItems_at (xs := #[]) (n := 0) (Heap.get?_push_size _ rfl) rfl ?_)
  rw [if_neg (by simp)]
  refine wpAny_bind (listUpdate_at (xs := #[]) (n := 0) (Heap.get?_push_size _ rfl) rfl ?_ (Nat.zero_le _) (by show (#[] ++ vs.toArray).size ≤ sizeLine + 1; simp only [Array.size_append, List.size_toArray, List.length_nil]; omega))
  refine wpAny_pure ?_
  show wpAny (model prog w) A (do
      let o ← load s.heap.objs.size
      match o.data with
      | .seq xs _ => pure xs.toList
      | _ => unsupported "internal:collect") Q E { s with heap := (s.heap.push (seqObj "list" #[] 0)).update s.heap.objs.size (Obj.mapSeq (· ++ vs.toArray)) }
  refine wpAny_bind (wpAny_load (get?_update_seq (Heap.get?_push_size _ rfl) _) ?_)
  show wpAny _ _ (pure ((#[] : Array Value) ++ vs.toArray).toList) Q E _
  rw [show ((#[] : Array Value) ++ vs.toArray).toList = vs by simp]
  exact wpAny_pure h
theorem sorted_tuple {l : Addr} {vs : List Value} {xs : List Str} {Q : Value → Shared → Prop} (hl : s.heap.IsTuple l vs.toArray) (hS : StrsAre vs xs) (few : vs.length < 64)
    (k : ∀ (out : Array Value) (ys : List Str), StrsAre out.toList ys → ys.Perm xs → sortedS ys = true → Q (.ref (s.heap.objs.size + 1)) { s with heap := sortedAll s.heap vs out }) : wpAny (model prog w) A (call (.builtin "sorted") [.ref l]) Q E s := by
  have hz : vs.length ≤ sizeLine := by rw [sizeLine_eq]; omega
  refine Calls.call_function_entry kind_sorted plain_sorted entry_sorted (args_sorted1 _) ?_
  unfold Builtin.«sorted»
  refine wpAny_bind (m := checkCount "sorted" 1 1 _) (wpAny_pure (wpAny_bind (collect_tuple (A := A.in1) hl ?_ hz)))
  have hsz : ((s.heap.push (seqObj "list" #[] 0)).update s.heap.objs.size (Obj.mapSeq (· ++ vs.toArray))).objs.size = s.heap.objs.size + 1 := by rw [Heap.size_update, size_push']
  generalize hgen : (s.heap.push (seqObj "list" #[] 0)).update s.heap.objs.size (Obj.mapSeq (· ++ vs.toArray)) = h1 at hsz
  have hl2 : (h1.push (seqObj "list" vs.toArray 0)).get? h1.objs.size = some (seqObj "list" vs.toArray 0) := Heap.get?_push_size _ rfl
  refine wpAny_bind (wpAny_newList (wpAny_bind (wpAny_holding (wpAny_call_entry slot_list_sort ⟨_, hl2, rfl⟩ entry_list_sort (Ys.sort_words hl2 hS few fun out ys e1 e2 e3 => ⟨_, rfl, ?_⟩) (args_list_sort _)))) hz)
  refine wpAny_pure ⟨_, rfl, ?_⟩
  have q := k out ys e1 e2 e3
  unfold sortedAll at q
  rw [hgen] at q
  rw [hsz]
  exact q
end
def rSortedTS (K : PySem.W.Frag) : List V → Hp → VK → Prop := fun vs H Q => ∃ (a : Addr) (xs : List Str), vs = [V.ref a] ∧ SqT K H a (xs.map V.str) ∧ xs.length < 64 ∧
  ∀ (ys : List Str) (p : Addr), ys.Perm xs → sortedS ys = true → H p = none → Q (.ref p) (upd H p (.lst (ys.map V.str)))
theorem cr_sortedTS {X : Cx} (K : PySem.W.Frag) (hK : X.K = K) : CallR X (.builtin "sorted") (rSortedTS K) := by
  subst hK
  intro pins s σ H vs us Q I r h
  obtain ⟨a, xs, rfl, hs, few, q⟩ := h
  obtain ⟨its, rv, hl, hz⟩ := I.tuple hs
  rw [Vals.ref1 r]
  have hS : StrsAre its xs := by simpa using rv.strs
  refine sorted_tuple hl hS (by rw [← rv.length, List.length_map]; exact few) fun out ys e1 e2 e3 => ?_
  obtain ⟨ep, he'⟩ := PyProof.Rows.sortedAll_at s.heap its out
  have hlen : (ys.map V.str).length ≤ sizeLine := by rw [List.length_map, e2.length_eq]; exact small64 few
  exact ⟨.ref _, upd H (s.heap.objs.size + 1) (.lst (ys.map V.str)), I.laid (t' := s.toks) (fun _ _ => PyProof.Rows.sortedAll_old) (Nat.le_succ _) ⟨hlen, out.toList, ep, vals_of_strs e1, he'⟩, rfl, q _ _ e2 e3 (I.hok.fresh (Nat.le_succ _))⟩
end Yo
/-! further readings of comprehensions -/
namespace Fw
open PySem PySem.Spec PyProof.Rows L2 Evl
def tJn (ts : List TE) : TE := fun σ H Q => tJs ts Str.empty σ H fun out H1 => Q (.str out) H1
theorem pe_joinedN {X : Cx} {v1 v2 : Expr} {rest : List Expr} {ts : List TE} {pos : Pos} (h : PJ X (v1 :: v2 :: rest) ts) : PE X (.JoinedStr (v1 :: v2 :: rest) pos) (tJn ts) := pe_joined h
section
variable {σ : L2.St} {H0 : Hp} {te : TE} {tt : TT} {vs : List Nat} {J : It} {n : Nat} {Gd : Hp → Prop} {Qd : Hp → Prop} {D : Addr} {f : Nat → Bool} {v : Nat → V}
/-- over rows of three, to three names -/
theorem lc_row3 {K : PySem.W.Frag} {j1 j2 j3 : Nat} {item : Nat → V → Prop} (wk : Walk J n Gd (fun i H x H' => H' = H ∧ item i x)) (hG : ∀ H', Same H0 H' → Gd H') (hD : H0 D = none) (f : Nat → Bool) (v : Nat → V) (hn : n ≤ 40000)
    (hw : ∀ x y z, wipe ((((wipe σ vs).set j1 (some x)).set j2 (some y)).set j3 (some z)) vs = wipe σ vs)
    (turn : ∀ i x, i < n → item i x → ∃ a b c d, x = .ref a ∧ SqT K H0 a [b, c, d] ∧ EvT tt ((((wipe σ vs).set j1 (some b)).set j2 (some c)).set j3 (some d)) H0 (f i) ∧ (f i = true → Ev te ((((wipe σ vs).set j1 (some b)).set j2 (some c)).set j3 (some d)) H0 (v i)))
    (done : ∀ H', Same H0 H' → H' D = some (.lst (given n f v)) → Qd H') :
    ∃ W : Nat → Nat → Hp → Prop, (∃ m, W 0 m (upd H0 D (.lst []))) ∧ ∀ i m H, W i m H →
      (J.stop i H ∧ Qd H) ∨ (J.go i H ∧ ∃ Nx : Hp → Prop, (∀ H', Nx H' → ∃ m', m' < m ∧ W (i + 1) m' H') ∧ ∀ x H', J.yld i H x H' → gTup K 3 (gCons (gName j1) (gCons (gName j2) (gCons (gName j3) gNil))) x (wipe σ vs) H' fun σ2 H2 => wipe σ2 vs = wipe σ vs ∧ tt σ2 H2 fun b H3 =>
        if b = true then te σ2 H3 fun y H4 => ∃ acc, H4 D = some (.lst acc) ∧ acc.length < sizeLine ∧ Nx (upd H4 D (.lst (acc ++ [y]))) else Nx H3) :=
  lc_it wk (Cw H0 f v D) ⟨hD, Ex.new hD, upd_same⟩ (fun i H' _ p => hG H' p.2.1) (fun i x H H' hi p y => by
    rcases y with ⟨rfl, hy⟩
    obtain ⟨a, b, c, d, rfl, hs, t1, t2⟩ := turn i x hi hy
    exact ⟨a, [b, c, d], rfl, seqT p.2.1 hs, rfl, b, [c, d], rfl, c, [d], rfl, d, [], rfl, rfl, hw b c d, cw_turn p (by omega) t1 t2⟩) (fun H' p => done H' p.2.1 p.2.2)
end
end Fw
/-! promises: flips, texts of rows, webs that are the same but for sequence -/
namespace Yo
open PySem PySem.Spec PyProof.Rows L2
theorem cr_sortedRK {X : Cx} (K : PySem.W.Frag) (hK : X.K = K) (hu : X.A.units + 64 < cLine) : CallR X (.builtin "sorted") (rSortedR K) := by subst hK; exact cr_sortedR hu
end Yo
namespace Tc
open PySem PySem.Spec PyProof.Rows L2 Fw Mw TL
/-- the same with calls by names: g puts the keywords' values in the parameters' order -/
def FunAtK (K : PySem.W.Frag) (mg : Str → Option Value) (x : Str) (st : Stmt) (ps ks : List Str) (g : List Value → List Value → List Value) (gV : List V → List V → List V) : Prop := ∃ f fd, Fun K x x st f fd ∧ mg x = some (.ref f) ∧ Binds K fd ps [] ∧ KBinds K fd ps ks g gV
def CalK (P : Program) (w : World) (K : PySem.W.Frag) (mg : Str → Option Value) (base : Heap) (CX : CXT) (x : Str) (k : Nat) (ps : List Str) (dvs : List V) (sp : Sp) (ks : List Str) (g : List Value → List Value → List Value) (gV : List V → List V → List V) : Prop :=
  ∃ f fd ds, FnOk P w K mg base CX k f fd ps sp ∧ mg x = some (.ref f) ∧ PySem.W.keepIn K (.ref f) = true ∧ Binds K fd ps ds ∧ Vals dvs ds ∧ KBinds K fd ps ks g gV
theorem eqvAll_strs : ∀ xs ys : List Str, PyData.eqvAll (xs.map .str) (ys.map .str) = decide (xs = ys)
  | [], [] => by simp [PyData.eqvAll]
  | [], _ :: _ => by simp [PyData.eqvAll]
  | _ :: _, [] => by simp [PyData.eqvAll]
  | x :: xs, y :: ys => by
    rw [List.map_cons, List.map_cons, PyData.eqvAll, eqvAll_strs xs ys]
    simp only [PyData.eqv]
    by_cases e : x = y <;> by_cases e2 : xs = ys <;> simp [e, e2]
theorem eqv_strs (xs ys : List Str) : PyData.eqv (.list (xs.map .str)) (.list (ys.map .str)) = decide (xs = ys) := by
  rw [PyData.eqv, eqvAll_strs]
theorem eqv_strsT (xs ys : List Str) : PyData.eqv (.tuple (xs.map .str)) (.tuple (ys.map .str)) = decide (xs = ys) := by
  rw [PyData.eqv, eqvAll_strs]
theorem eqvAll_rows : ∀ xs ys : Rows, PyData.eqvAll (xs.map Yo.encR) (ys.map Yo.encR) = decide (xs = ys)
  | [], [] => by simp [PyData.eqvAll]
  | [], _ :: _ => by simp [PyData.eqvAll]
  | _ :: _, [] => by simp [PyData.eqvAll]
  | x :: xs, y :: ys => by
    rw [List.map_cons, List.map_cons, PyData.eqvAll, eqvAll_rows xs ys]
    unfold Yo.encR
    rw [eqv_strs]
    by_cases e : x = y <;> by_cases e2 : xs = ys <;> simp [e, e2]
theorem eqv_rows (xs ys : Rows) : PyData.eqv (.list (xs.map Yo.encR)) (.list (ys.map Yo.encR)) = decide (xs = ys) := by
  rw [PyData.eqv, eqvAll_rows]
theorem eqv_self {d : PyData} (h : SeqAt.shaped d = true) : PyData.eqv d d = true := SeqAt.eqv_refl d (SeqAt.canLay_of_shaped h)
theorem name_str {z : Str} (h : isName z = true) : PyData.strOk z = true := by
  unfold PyData.strOk
  rw [← Array.all_toList, List.all_eq_true]
  intro c hc
  have hl : c ∈ tl letters := Decidable.byContradiction fun n => letter_no h n hc
  have : ∀ c ∈ tl letters, decide (c < 0x110000) = true := List.all_eq_true.mp (show (tl letters).all (fun c => decide (c < 0x110000)) = true by decide +kernel)
  exact this c hl
theorem lay_strs : ∀ ns : List Str, (∀ x ∈ ns, isName x = true) → PyData.canLayAll0 (ns.map PyData.str) = true
  | [], _ => by simp [PyData.canLayAll0]
  | n :: r, h => by
    rw [List.map_cons, PyData.canLayAll0, lay_strs r fun x hx => h x (List.mem_cons_of_mem _ hx)]
    simp [PyData.canLay0, name_str (h n List.mem_cons_self)]
theorem dep_strs (ns : List Str) : PyData.depthAll (ns.map PyData.str) = 0 := Yo.depth_strs ns
theorem shaped_of {d : PyData} (h1 : d.canLay0 = true) (h2 : d.depth ≤ 64) : SeqAt.shaped d = true := by
  show (d.canLay0 && decide (d.depth ≤ 64)) = true
  rw [h1, decide_eq_true h2]; rfl
theorem lay_rows : ∀ rs : Rows, (∀ r ∈ rs, ∀ x ∈ r, isName x = true) → PyData.canLayAll0 (rs.map Yo.encR) = true
  | [], _ => by simp [PyData.canLayAll0]
  | r :: rs, h => by
    rw [List.map_cons, PyData.canLayAll0, lay_rows rs fun q hq => h q (List.mem_cons_of_mem _ hq)]
    simp [Yo.encR, PyData.canLay0, lay_strs r (h r List.mem_cons_self)]
theorem dep_rows : ∀ rs : Rows, PyData.depthAll (rs.map Yo.encR) ≤ 1
  | [] => by simp [PyData.depthAll]
  | r :: rs => by
    have := dep_rows rs
    rw [List.map_cons, PyData.depthAll]
    simp only [Yo.encR, PyData.depth, dep_strs] at this ⊢
    omega
theorem shaped_strsT (ns : List Str) (h : ∀ x ∈ ns, isName x = true) : SeqAt.shaped (.tuple (ns.map PyData.str)) = true :=
  shaped_of (by simp only [PyData.canLay0]; exact lay_strs ns h) (by simp only [PyData.depth]; rw [dep_strs]; omega)
theorem shaped_rows (rs : Rows) (h : ∀ r ∈ rs, ∀ x ∈ r, isName x = true) : SeqAt.shaped (.list (rs.map Yo.encR)) = true :=
  shaped_of (by simp only [PyData.canLay0]; exact lay_rows rs h) (by have := dep_rows rs; simp only [PyData.depth]; omega)
theorem dp_rows {K : PySem.W.Frag} {H : Hp} : ∀ {ts : List V} {rs : Rows}, Paired (rL K rS H) ts rs → DpAll K H ts (rs.map Yo.encR)
  | _, _, .nil => .nil
  | _, _, .cons h t => by
    obtain ⟨a, rfl, hs⟩ := rLs.mp h
    exact .cons (.lst hs (Yo.dp_strs _)) (dp_rows t)
def encT (r : List Str) : PyData := .tuple (r.map .str)
theorem lay_rowsT : ∀ rs : Rows, (∀ r ∈ rs, ∀ x ∈ r, isName x = true) → PyData.canLayAll0 (rs.map encT) = true
  | [], _ => by simp [PyData.canLayAll0]
  | r :: rs, h => by
    rw [List.map_cons, PyData.canLayAll0, lay_rowsT rs fun q hq => h q (List.mem_cons_of_mem _ hq)]
    simp [encT, PyData.canLay0, lay_strs r (h r List.mem_cons_self)]
theorem dep_rowsT : ∀ rs : Rows, PyData.depthAll (rs.map encT) ≤ 1
  | [] => by simp [PyData.depthAll]
  | r :: rs => by
    have := dep_rowsT rs
    rw [List.map_cons, PyData.depthAll]
    simp only [encT, PyData.depth, dep_strs] at this ⊢
    omega
theorem shaped_rowsT (rs : Rows) (h : ∀ r ∈ rs, ∀ x ∈ r, isName x = true) : SeqAt.shaped (.tuple (rs.map encT)) = true :=
  shaped_of (by simp only [PyData.canLay0]; exact lay_rowsT rs h) (by have := dep_rowsT rs; simp only [PyData.depth]; omega)
theorem dp_rowsT {K : PySem.W.Frag} {H : Hp} : ∀ {ts : List V} {rs : Rows}, Paired (rT K rS H) ts rs → DpAll K H ts (rs.map encT)
  | _, _, .nil => .nil
  | _, _, .cons h t => by
    obtain ⟨a, rfl, hs⟩ := rTs.mp h
    exact .cons (.tup hs (Yo.dp_strs _)) (dp_rowsT t)
/-- a number at each place at which a road stands -/
def smeets (js : Rows) : Rows := (js.map (·.mergeSort leS)).mergeSort (PySem.W.dataLe false Yo.encR)
def atsOf (own : Rows) (z : Str) : List Int := (List.range own.length).flatMap fun n => ((own.getD n []).filter fun t => decide (t = z)).map fun _ => (n : Int)
def flipRoads (own : Rows) : List Str := (innerOf own).filter fun z => decide ((sidesOf own z).length = 2)
section
variable (K : PySem.W.Frag) (CW : Addr)
def sp_is_whole (K : PySem.W.Frag) (CW : Addr) : Sp := Sp1 fun x H Q _ => ∃ i : Int, x = .int i ∧ Q (.bl true) H
def sp_is_way (K : PySem.W.Frag) (CW : Addr) : Sp := Sp1 fun x H Q _ => ∃ k : Int, x = .int k ∧ (k = 1 ∨ k = 2) ∧ Q (.bl true) H
def sp_check_way (K : PySem.W.Frag) (CW : Addr) : Sp := Sp1 fun x H Q _ => ∃ k : Int, x = .int k ∧ (k = 1 ∨ k = 2) ∧ Q .non H
def sp_text_of (K : PySem.W.Frag) (CW : Addr) : Sp := Sp1 fun x H Q _ => ∃ G js, Same G H ∧ rT K (rT K rS) G x js ∧ (∀ r ∈ js, RowOk r) ∧ js.length ≤ 100 ∧ ∀ H1, Same H H1 → Q (.str (webText js)) H1
def sp_sorted_meets (K : PySem.W.Frag) (CW : Addr) : Sp := Sp1 fun x H Q _ => ∃ G js, Same G H ∧ rT K (rT K rS) G x js ∧ (∀ r ∈ js, r.length = 3) ∧ js.length ≤ 60 ∧ Ret G H Q (rL K (rL K rS)) (smeets js)
def sp_same_meets (K : PySem.W.Frag) (CW : Addr) : Sp := Sp2 fun x y H Q _ => ∃ G js ks, Same G H ∧ rWeb K CW G x js ∧ rWeb K CW G y ks ∧ Mw.Good js ∧ Mw.Good ks ∧ ∀ H1, Same H H1 → Q (.bl (decide (smeets js = smeets ks))) H1
def sp_can_flip (K : PySem.W.Frag) (CW : Addr) : Sp := Sp2 fun x y H Q _ => ∃ G js z, Same G H ∧ rT K (rT K rS) G x js ∧ y = .str z ∧ js.length ≤ 1000 ∧ ∀ H1, Same H H1 → Q (.bl (decide ((sidesOf js z).length = 2))) H1
def sp_check_road (K : PySem.W.Frag) (CW : Addr) : Sp := Sp2 fun x y H Q _ => ∃ G js z, Same G H ∧ rWeb K CW G x js ∧ y = .str z ∧ js.length ≤ 1000 ∧ (sidesOf js z).length = 2 ∧ ∀ H1, Same H H1 → Q .non H1
def sp_words_beside (K : PySem.W.Frag) (CW : Addr) : Sp := Sp2 fun x y H Q _ => ∃ G js z i j a b c d, Same G H ∧ rT K (rT K rS) G x js ∧ y = .str z ∧ js.length ≤ 1000 ∧ (∀ r ∈ js, r.length = 3) ∧ Four js z i j a b c d ∧ Ret G H Q (rL K rS) [a, b, c, d]
def sp_flipped_junctions (K : PySem.W.Frag) (CW : Addr) : Sp := Sp3 fun x y t H Q _ => ∃ G js z k i j a b c d, Same G H ∧ rT K (rT K rS) G x js ∧ y = .str z ∧ t = .int k ∧ js.length ≤ 1000 ∧ (∀ r ∈ js, r.length = 3) ∧ Four js z i j a b c d ∧ Ret G H Q (rT K (rT K rS)) (flipRows js i j k z a b c d)
def sp_flipped (K : PySem.W.Frag) (CW : Addr) : Sp := Sp3 fun x y t H Q _ => ∃ G js z k i j a b c d, Same G H ∧ rWeb K CW G x js ∧ y = .str z ∧ t = .int k ∧ (k = 1 ∨ k = 2) ∧ Mw.Good js ∧ Whole js ∧ Four js z i j a b c d ∧ Ret G H Q (rWeb K CW) (flipRows js i j k z a b c d)
def sp_law_web_at (K : PySem.W.Frag) (CW : Addr) : Sp := Sp2 fun x y H Q _ => ∃ G own z, Same G H ∧ rL K (rT K rS) G x own ∧ y = .str z ∧ own.length ≤ 60 ∧ (∀ r ∈ own, r.length = 3) ∧ Ret G H Q (rH rI) (atsOf own z)
def sp_law_flip_roads (K : PySem.W.Frag) (CW : Addr) : Sp := Sp1 fun x H Q _ => ∃ G own, Same G H ∧ rL K (rT K rS) G x own ∧ Mw.Good own ∧ Ret G H Q (rH rS) (flipRoads own)
def sp_law_flip_four (K : PySem.W.Frag) (CW : Addr) : Sp := Sp2 fun x y H Q _ => ∃ G own z i j a b c d, Same G H ∧ rL K (rT K rS) G x own ∧ y = .str z ∧ own.length ≤ 60 ∧ (∀ r ∈ own, r.length = 3) ∧ Four own z i j a b c d ∧ Ret G H Q (rT K rS) [a, b, c, d]
def sp_law_flip_web (K : PySem.W.Frag) (CW : Addr) : Sp := Sp3 fun x y t H Q _ => ∃ G own z k i j a b c d, Same G H ∧ rL K (rT K rS) G x own ∧ y = .str z ∧ t = .int k ∧ own.length ≤ 60 ∧ (∀ r ∈ own, r.length = 3) ∧ Four own z i j a b c d ∧ Ret G H Q (rH (rT K rS)) (flipRows own i j k z a b c d)
def sp_law_scene_web (K : PySem.W.Frag) (CW : Addr) : Sp := Sp2 fun x y H Q _ => ∃ (p : Addr) (n : Nat) (G : Hp), Same G H ∧ G p = none ∧ x = .ref p ∧ y = .int 8 ∧ Pot (n + 300) p H ∧ ∀ own, Mw.Good own → Whole own → RetP p n G H Q (rL K (rT K rS)) own
def sp_law_is_flip_right (K : PySem.W.Frag) (CW : Addr) : Sp := fun vs H Q _ => ∃ x y s t, vs = [x, y, s, t] ∧ ∃ G own z k i j a b c d, Same G H ∧ rWeb K CW G x own ∧ rL K (rT K rS) G y own ∧ s = .str z ∧ t = .int k ∧ (k = 1 ∨ k = 2) ∧ Mw.Good own ∧ Whole own ∧ Four own z i j a b c d ∧ ∀ G1 H1, Go [] G H G1 H1 → Q (.bl true) H1
end
end Tc
namespace Tc
open PySem PySem.Spec PyProof.Rows L2 Fw Mw TL
theorem row_parts (u v t : Str) : Str.empty ++ ("meet" : Str) ++ (" " : Str) ++ u ++ (" " : Str) ++ v ++ (" " : Str) ++ t = rowText [u, v, t] := by
  refine tl_inj ?_
  rw [row_join _ (by simp), join_eq, tl_join]
  simp only [tl_append, List.map, joinL]
  rw [show tl Str.empty = [] from rfl, show tl sp1 = tl (" " : Str) from rfl]
  simp only [List.nil_append, List.append_assoc]
end Tc
namespace Tc
open PySem PySem.Spec PyProof.Rows L2 Fw Mw TL
theorem paired_set {α β : Type} {F : α → β → Prop} {a : α} {b : β} (h : F a b) : ∀ {xs : List α} {ys : List β} {i : Nat}, Paired F xs ys → Paired F (xs.set i a) (ys.set i b)
  | _, _, _, .nil => .nil
  | _, _, 0, .cons _ t => .cons h t
  | _, _, i + 1, .cons r t => .cons r (paired_set h t)
end Tc
namespace Tc
open PySem PySem.Spec PyProof.Rows L2 Fw Mw TL
def atsUp (own : Rows) (z : Str) (m : Nat) : List Int := (List.range m).flatMap fun n => ((own.getD n []).filter fun t => decide (t = z)).map fun _ => (n : Int)
theorem atsUp_succ {own : Rows} {z : Str} {m : Nat} {r : List Str} (h : own[m]? = some r) : atsUp own z (m + 1) = atsUp own z m ++ (r.filter fun t => decide (t = z)).map fun _ => (m : Int) := by
  unfold atsUp
  rw [List.range_succ, List.flatMap_append, List.flatMap_singleton, getD_of h]
theorem atsUp_len {own : Rows} {z : Str} (h3 : ∀ r ∈ own, r.length = 3) : ∀ m, m ≤ own.length → (atsUp own z m).length ≤ 3 * m
  | 0, _ => by simp [atsUp]
  | m + 1, hm => by
    have e : own[m]? = some own[m] := List.getElem?_eq_getElem hm
    rw [atsUp_succ e, List.length_append, List.length_map]
    have h1 := atsUp_len h3 (z := z) m (by omega)
    have h2 : (own[m].filter fun t => decide (t = z)).length ≤ own[m].length := List.length_filter_le _ _
    have h4 := h3 _ (List.getElem_mem (l := own) hm)
    omega
theorem mem_atsUp {own : Rows} {z : Str} {m : Nat} {v : Int} : v ∈ atsUp own z m ↔ ∃ n : Nat, v = n ∧ n < m ∧ z ∈ own.getD n [] := by
  unfold atsUp
  rw [List.mem_flatMap]
  constructor
  · rintro ⟨n, hn, h⟩
    obtain ⟨t, ht, rfl⟩ := List.mem_map.mp h
    obtain ⟨h1, h2⟩ := List.mem_filter.mp ht
    exact ⟨n, rfl, List.mem_range.mp hn, by rw [← of_decide_eq_true h2]; exact h1⟩
  · rintro ⟨n, rfl, hn, h⟩
    exact ⟨n, List.mem_range.mpr hn, List.mem_map.mpr ⟨z, List.mem_filter.mpr ⟨h, by simp⟩, rfl⟩⟩
theorem ats_len_eq (own : Rows) (z : Str) : (atsOf own z).length = own.flatten.count z := by
  have h : ∀ m, m ≤ own.length → (atsUp own z m).length = (own.take m).flatten.count z := by
    intro m
    induction m with
    | zero => intro _; simp [atsUp]
    | succ m ih =>
      intro hm
      have e : own[m]? = some own[m] := List.getElem?_eq_getElem hm
      rw [atsUp_succ e, List.length_append, List.length_map, ih (by omega), take_flat own m _ e, List.count_append]
      congr 1
      rw [← List.countP_eq_length_filter]
      unfold List.count
      exact List.countP_congr fun t _ => by simp
  have := h own.length (Nat.le_refl _)
  rw [List.take_length] at this
  exact this
/-- how many lines have a road that stands twice -/
theorem ats_two {own : Rows} {z : Str} (h : own.flatten.count z = 2) : ((firstMet (fun i => (atsOf own z).getD i 0) (atsOf own z).length).length = 2 ↔ (sidesOf own z).length = 2) := by
  have hl := ats_len_eq own z
  rw [h] at hl
  have mem : ∀ v : Int, v ∈ atsOf own z ↔ ∃ n : Nat, v = n ∧ n ∈ sidesOf own z := fun v => by
    have := mem_atsUp (own := own) (z := z) (m := own.length) (v := v)
    refine this.trans ⟨fun ⟨n, e, h1, h2⟩ => ⟨n, e, ?_⟩, fun ⟨n, e, hn⟩ => ⟨n, e, ?_⟩⟩
    · unfold sidesOf
      exact List.mem_filter.mpr ⟨List.mem_range.mpr h1, by simpa using h2⟩
    · unfold sidesOf at hn
      obtain ⟨h1, h2⟩ := List.mem_filter.mp hn
      exact ⟨List.mem_range.mp h1, by simpa using h2⟩
  have lt := sides_lt own z
  match hA : atsOf own z, hl with
  | [a, b], _ =>
    rw [hA] at mem
    rw [show ([a, b] : List Int).length = 2 from rfl, Yo.met_two]
    obtain ⟨i, ei, mi⟩ := (mem a).mp (by simp)
    obtain ⟨j, ej, mj⟩ := (mem b).mp (by simp)
    have sub : ∀ n ∈ sidesOf own z, n = i ∨ n = j := fun n hn => by
      have := (mem n).mpr ⟨n, rfl, hn⟩
      simp at this
      omega
    have nd : (sidesOf own z).Nodup := lt.imp fun h => Nat.ne_of_lt h
    by_cases e : a = b
    · rw [if_pos e]
      have ij : i = j := by omega
      constructor
      · intro h; omega
      · intro h2
        match hS : sidesOf own z, h2 with
        | [p, q], _ =>
          rw [hS] at sub nd
          have h1 := sub p (by simp)
          have h2 := sub q (by simp)
          simp at nd
          omega
    · rw [if_neg e]
      refine ⟨fun _ => ?_, fun _ => rfl⟩
      have ij : i ≠ j := by omega
      have l1 : (sidesOf own z).length ≤ [i, j].length := List.Nodup.length_le_of_subset nd fun n hn => by
        have := sub n hn; simp; exact this
      have l2 : [i, j].length ≤ (sidesOf own z).length := List.Nodup.length_le_of_subset (by simp [ij]) fun n hn => by
        simp at hn
        rcases hn with rfl | rfl <;> assumption
      simp at l1 l2
      omega
end Tc
namespace Tc
open PySem PySem.Spec PyProof.Rows L2 Fw Mw TL
/-- the other words of the lines that have a road, of the first m lines -/
def fourUp (own : Rows) (z : Str) (m : Nat) : List Str := (List.range m).flatMap fun n => if z ∈ own.getD n [] then noZ z (own.getD n []) else []
theorem fourUp_succ {own : Rows} {z : Str} {m : Nat} {r : List Str} (h : own[m]? = some r) : fourUp own z (m + 1) = fourUp own z m ++ if z ∈ r then noZ z r else [] := by
  unfold fourUp
  rw [List.range_succ, List.flatMap_append, List.flatMap_singleton, getD_of h]
theorem fourUp_len {own : Rows} {z : Str} (h3 : ∀ r ∈ own, r.length = 3) : ∀ m, m ≤ own.length → (fourUp own z m).length ≤ 3 * m
  | 0, _ => by simp [fourUp]
  | m + 1, hm => by
    have e : own[m]? = some own[m] := List.getElem?_eq_getElem hm
    rw [fourUp_succ e, List.length_append]
    have h1 := fourUp_len h3 (z := z) m (by omega)
    have h2 : (noZ z own[m]).length ≤ own[m].length := List.length_filter_le _ _
    have h4 := h3 _ (List.getElem_mem (l := own) hm)
    split <;> simp <;> omega
theorem sides_in {own : Rows} {z : Str} {n : Nat} (h : n ∈ sidesOf own z ↔ False) (hn : n < own.length) : z ∉ own.getD n [] := fun m => h.mp (by
  unfold sidesOf
  exact List.mem_filter.mpr ⟨List.mem_range.mpr hn, by simpa using m⟩)
/-- how many of the told lines stand ahead of a number -/
def Four.ahead (i j n : Nat) : Nat := (if i < n then 1 else 0) + (if j < n then 1 else 0)
theorem fourUp_at {own : Rows} {z x y u v : Str} {i j : Nat} (F : Four own z i j x y u v) : ∀ n, n ≤ own.length → fourUp own z n = (if i < n then [x, y] else []) ++ (if j < n then [u, v] else [])
  | 0, _ => by simp [fourUp]
  | n + 1, hn => by
    have e : own[n]? = some own[n] := List.getElem?_eq_getElem hn
    rw [fourUp_succ e, fourUp_at F n (by omega)]
    obtain ⟨r, e1, m1, f1⟩ := F.hi
    obtain ⟨q, e2, m2, f2⟩ := F.hj
    have lt := F.lt
    by_cases h1 : n = i
    · subst h1
      obtain rfl := Option.some.inj (e.symm.trans e1)
      rw [if_pos m1, f1, if_neg (by omega), if_neg (by omega), if_pos (by omega), if_neg (by omega)]
      rfl
    · by_cases h2 : n = j
      · subst h2
        obtain rfl := Option.some.inj (e.symm.trans e2)
        rw [if_pos m2, f2, if_pos (by omega), if_neg (by omega), if_pos (by omega), if_pos (by omega)]
        rfl
      · have no : z ∉ own[n] := fun m => by
          have : n ∈ sidesOf own z := mem_sides.mpr ⟨_, e, m⟩
          rw [F.sides] at this
          simp at this
          omega
        rw [if_neg no, List.append_nil]
        have c1 : (i < n) ↔ (i < n + 1) := by omega
        have c2 : (j < n) ↔ (j < n + 1) := by omega
        simp only [c1, c2]
theorem fourUp_all {own : Rows} {z x y u v : Str} {i j : Nat} (F : Four own z i j x y u v) : fourUp own z own.length = [x, y, u, v] := by
  rw [fourUp_at F _ (Nat.le_refl _), if_pos F.il, if_pos F.jl]
  rfl
end Tc
namespace Tc
open PySem PySem.Spec PyProof.Rows L2 Fw Mw TL
/-- a new pair of numbers -/
theorem tup_step {K : PySem.W.Frag} {L : List Addr} {G H G1 H1 : Hp} {p : Addr} {e r : Int} (go : Go L G H G1 H1) (hp : H1 p = none) : ∃ G2 H2, upd H1 p (.tup [.int e, .int r]) = H2 ∧ Go L G H G2 H2 ∧ Same G1 G2 ∧ Same H1 H2 ∧ SqT K G2 p [.int e, .int r] :=
  ⟨_, _, rfl, go.new hp, same_upd (go.gnone hp), same_upd hp, SqT.of upd_same⟩
def rP2 (K : PySem.W.Frag) : R (Int × Int) := fun H v x => ∃ a, v = .ref a ∧ SqT K H a [.int x.1, .int x.2]
instance {K : PySem.W.Frag} : Mo (rP2 K) := ⟨fun e ⟨a, h1, h2⟩ => ⟨a, h1, seqT e h2⟩⟩
end Tc
namespace Tc
open PySem PySem.Spec PyProof.Rows L2 Fw Mw TL
/-- a new list that is data -/
theorem lst_step {L : List Addr} {G H G1 H1 : Hp} {p : Addr} {xs : List V} (go : Go L G H G1 H1) (hp : H1 p = none) : ∃ G2 H2, upd H1 p (.lst xs) = H2 ∧ Go L G H G2 H2 ∧ Same G1 G2 ∧ Same H1 H2 ∧ G2 p = some (.lst xs) ∧ H2 p = some (.lst xs) :=
  ⟨_, _, rfl, go.new hp, same_upd (go.gnone hp), same_upd hp, upd_same, upd_same⟩
end Tc
namespace Tc
open PySem PySem.Spec PyProof.Rows L2 Fw Mw TL
def encFacts (rs is es : List Str) (g : Int) : PyData := .tuple [.tuple (rs.map .str), .tuple (is.map .str), .tuple (es.map .str), .int g]
theorem shaped_facts {rs is es : List Str} {g : Int} (h1 : ∀ x ∈ rs, isName x = true) (h2 : ∀ x ∈ is, isName x = true) (h3 : ∀ x ∈ es, isName x = true) : SeqAt.shaped (encFacts rs is es g) = true := by
  unfold encFacts
  refine shaped_of ?_ ?_
  · simp [PyData.canLay0, PyData.canLayAll0, lay_strs rs h1, lay_strs is h2, lay_strs es h3]
  · simp only [PyData.depth, PyData.depthAll, dep_strs]
    omega
theorem dp_facts {K : PySem.W.Frag} {H : Hp} {p ar ai ae : Addr} {rs is es : List Str} {g : Int} (hp : SqT K H p [.ref ar, .ref ai, .ref ae, .int g]) (h1 : SqT K H ar (rs.map V.str)) (h2 : SqT K H ai (is.map V.str)) (h3 : SqT K H ae (es.map V.str)) : Dp K H (.ref p) (encFacts rs is es g) :=
  .tup hp (.cons (.tup h1 (Yo.dp_strs _)) (.cons (.tup h2 (Yo.dp_strs _)) (.cons (.tup h3 (Yo.dp_strs _)) (.cons (.int g) .nil))))
theorem smeets_eq {js ks : Rows} (h : Paired List.Perm js ks) : smeets js = smeets ks := by
  unfold smeets
  rw [sorted_rows h]
theorem road_names {js : Rows} (g : Mw.Good js) : (∀ x ∈ roadsOf js, isName x = true) ∧ (∀ x ∈ innerOf js, isName x = true) ∧ ∀ x ∈ endsOf js, isName x = true := by
  have h : ∀ x ∈ roadsOf js, isName x = true := fun x hx => by
    obtain ⟨r, hr, hx⟩ := List.mem_flatten.mp (mem_roads.mp hx)
    exact (g.rows r hr).names x hx
  exact ⟨h, fun x hx => h x (List.mem_filter.mp hx).1, fun x hx => h x (List.mem_filter.mp hx).1⟩
theorem flip_rounds {js : Rows} {z x y u v : Str} {i j : Nat} {k : Int} (h3 : ∀ r ∈ js, r.length = 3) (F : Four js z i j x y u v) : roundsOf (flipRows js i j k z x y u v) = roundsOf js := by
  unfold roundsOf
  rw [inner_perm (flip_words h3 F), flip_len]
end Tc
namespace Tc
open PySem PySem.Spec PyProof.Rows L2 Fw Mw TL
def topS (i : Nat) : Stmt := PySem.Challenge.pw_threeroadcars_k11_whole_webs_flipped_and.main.body.getD i (.Pass ⟨0, 0, 0, 0⟩)
abbrev s_is_whole : Stmt := topS 8
abbrev N_is_whole : List Str := ["value"]
theorem sc_is_whole : FnScope ["value"] ["value"] (defScope s_is_whole) := ⟨rfl, rfl, rfl, by decide +kernel, rfl, by decide +kernel, by decide +kernel⟩
abbrev s_is_name : Stmt := topS 9
abbrev N_is_name : List Str := ["value", "letter"]
theorem sc_is_name : FnScope ["value", "letter"] ["value"] (defScope s_is_name) := ⟨rfl, rfl, rfl, by decide +kernel, rfl, by decide +kernel, by decide +kernel⟩
abbrev s_all_words : Stmt := topS 15
abbrev N_all_words : List Str := ["junctions", "words", "road"]
theorem sc_all_words : FnScope ["junctions", "words", "road"] ["junctions"] (defScope s_all_words) := ⟨rfl, rfl, rfl, by decide +kernel, rfl, by decide +kernel, by decide +kernel⟩
abbrev s_meeting_roads : Stmt := topS 16
abbrev N_meeting_roads : List Str := ["line", "words", "roads", "road"]
theorem sc_meeting_roads : FnScope ["line", "words", "roads", "road"] ["line"] (defScope s_meeting_roads) := ⟨rfl, rfl, rfl, by decide +kernel, rfl, by decide +kernel, by decide +kernel⟩
abbrev s_read_junctions : Stmt := topS 17
abbrev N_read_junctions : List Str := ["text", "lines", "junctions", "number", "line", "roads", "standing", "stands_too_often", "road"]
theorem sc_read_junctions : FnScope ["text", "lines", "junctions", "number", "line", "roads", "standing", "stands_too_often", "road"] ["text"] (defScope s_read_junctions) := ⟨rfl, rfl, rfl, by decide +kernel, rfl, by decide +kernel, by decide +kernel⟩
abbrev s_places_of : Stmt := topS 19
abbrev N_places_of : List Str := ["junctions", "road", "number", "words"]
theorem sc_places_of : FnScope ["junctions", "road", "number", "words"] ["junctions", "road"] (defScope s_places_of) := ⟨rfl, rfl, rfl, by decide +kernel, rfl, by decide +kernel, by decide +kernel⟩
abbrev s_reached : Stmt := topS 20
abbrev N_reached : List Str := ["junctions", "start", "closed", "found", "waiting", "here", "open_roads", "number", "words", "road"]
theorem sc_reached : FnScope ["junctions", "start", "closed", "found", "waiting", "here", "open_roads", "number", "words", "road"] ["junctions", "start", "closed"] (defScope s_reached) := ⟨rfl, rfl, rfl, by decide +kernel, rfl, by decide +kernel, by decide +kernel⟩
abbrev s_check_hanging_together : Stmt := topS 18
abbrev N_check_hanging_together : List Str := ["junctions", "found", "number"]
theorem sc_check_hanging_together : FnScope ["junctions", "found", "number"] ["junctions"] (defScope s_check_hanging_together) := ⟨rfl, rfl, rfl, by decide +kernel, rfl, by decide +kernel, by decide +kernel⟩
abbrev s_Web_init__ : Stmt := inClass (topS 14) 0
abbrev N_Web_init__ : List Str := ["self", "text", "junctions", "standing", "road"]
theorem sc_Web_init__ : FnScope ["self", "text", "junctions", "standing", "road"] ["self", "text"] (defScope s_Web_init__) := ⟨rfl, rfl, rfl, by decide +kernel, rfl, by decide +kernel, by decide +kernel⟩
abbrev s_text_of : Stmt := topS 21
abbrev N_text_of : List Str := ["junctions", "lines", "first", "second", "third"]
theorem sc_text_of : FnScope ["junctions", "lines", "first", "second", "third"] ["junctions"] (defScope s_text_of) := ⟨rfl, rfl, rfl, by decide +kernel, rfl, by decide +kernel, by decide +kernel⟩
abbrev s_sorted_meets : Stmt := topS 22
abbrev N_sorted_meets : List Str := ["junctions", "words"]
theorem sc_sorted_meets : FnScope ["junctions", "words"] ["junctions"] (defScope s_sorted_meets) := ⟨rfl, rfl, rfl, by decide +kernel, rfl, by decide +kernel, by decide +kernel⟩
abbrev s_same_meets : Stmt := topS 23
abbrev N_same_meets : List Str := ["one", "other"]
theorem sc_same_meets : FnScope ["one", "other"] ["one", "other"] (defScope s_same_meets) := ⟨rfl, rfl, rfl, by decide +kernel, rfl, by decide +kernel, by decide +kernel⟩
abbrev s_can_flip : Stmt := topS 27
abbrev N_can_flip : List Str := ["junctions", "road"]
theorem sc_can_flip : FnScope ["junctions", "road"] ["junctions", "road"] (defScope s_can_flip) := ⟨rfl, rfl, rfl, by decide +kernel, rfl, by decide +kernel, by decide +kernel⟩
abbrev s_is_way : Stmt := topS 28
abbrev N_is_way : List Str := ["way"]
theorem sc_is_way : FnScope ["way"] ["way"] (defScope s_is_way) := ⟨rfl, rfl, rfl, by decide +kernel, rfl, by decide +kernel, by decide +kernel⟩
abbrev s_check_road : Stmt := topS 29
abbrev N_check_road : List Str := ["web", "road"]
theorem sc_check_road : FnScope ["web", "road"] ["web", "road"] (defScope s_check_road) := ⟨rfl, rfl, rfl, by decide +kernel, rfl, by decide +kernel, by decide +kernel⟩
abbrev s_check_way : Stmt := topS 30
abbrev N_check_way : List Str := ["way"]
theorem sc_check_way : FnScope ["way"] ["way"] (defScope s_check_way) := ⟨rfl, rfl, rfl, by decide +kernel, rfl, by decide +kernel, by decide +kernel⟩
abbrev s_words_beside : Stmt := topS 31
abbrev N_words_beside : List Str := ["junctions", "road", "lines", "number", "words", "word"]
theorem sc_words_beside : FnScope ["junctions", "road", "lines", "number", "words", "word"] ["junctions", "road"] (defScope s_words_beside) := ⟨rfl, rfl, rfl, by decide +kernel, rfl, by decide +kernel, by decide +kernel⟩
abbrev s_flipped_junctions : Stmt := topS 32
abbrev N_flipped_junctions : List Str := ["junctions", "road", "way", "first", "second", "x", "y", "z", "w", "lines"]
theorem sc_flipped_junctions : FnScope ["junctions", "road", "way", "first", "second", "x", "y", "z", "w", "lines"] ["junctions", "road", "way"] (defScope s_flipped_junctions) := ⟨rfl, rfl, rfl, by decide +kernel, rfl, by decide +kernel, by decide +kernel⟩
abbrev s_flipped : Stmt := topS 33
abbrev N_flipped : List Str := ["web", "road", "way"]
theorem sc_flipped : FnScope ["web", "road", "way"] ["web", "road", "way"] (defScope s_flipped) := ⟨rfl, rfl, rfl, by decide +kernel, rfl, by decide +kernel, by decide +kernel⟩
abbrev s_law_pot : Stmt := topS 35
abbrev N_law_pot : List Str := ["script", "place", "cell", "own", "small"]
theorem sc_law_pot : FnScope ["script", "place", "cell", "own", "small"] ["script", "place"] (defScope s_law_pot) := ⟨rfl, rfl, rfl, by decide +kernel, rfl, by decide +kernel, by decide +kernel⟩
abbrev s_law_take : Stmt := topS 36
abbrev N_law_take : List Str := ["pot", "upto", "digit", "prime", "blend"]
theorem sc_law_take : FnScope ["pot", "upto", "digit", "prime", "blend"] ["pot", "upto"] (defScope s_law_take) := ⟨rfl, rfl, rfl, by decide +kernel, rfl, by decide +kernel, by decide +kernel⟩
abbrev s_law_of : Stmt := topS 37
abbrev N_law_of : List Str := ["pot", "some"]
theorem sc_law_of : FnScope ["pot", "some"] ["pot", "some"] (defScope s_law_of) := ⟨rfl, rfl, rfl, by decide +kernel, rfl, by decide +kernel, by decide +kernel⟩
abbrev s_law_some : Stmt := topS 38
abbrev N_law_some : List Str := ["pot", "pool", "many", "rests", "found", "lap"]
theorem sc_law_some : FnScope ["pot", "pool", "many", "rests", "found", "lap"] ["pot", "pool", "many"] (defScope s_law_some) := ⟨rfl, rfl, rfl, by decide +kernel, rfl, by decide +kernel, by decide +kernel⟩
abbrev s_law_cells : Stmt := topS 39
abbrev N_law_cells : List Str := ["script", "most"]
theorem sc_law_cells : FnScope ["script", "most"] ["script", "most"] (defScope s_law_cells) := ⟨rfl, rfl, rfl, by decide +kernel, rfl, by decide +kernel, by decide +kernel⟩
abbrev s_law_web_text : Stmt := topS 40
abbrev N_law_web_text : List Str := ["own", "row"]
theorem sc_law_web_text : FnScope ["own", "row"] ["own"] (defScope s_law_web_text) := ⟨rfl, rfl, rfl, by decide +kernel, rfl, by decide +kernel, by decide +kernel⟩
abbrev s_law_web_times : Stmt := topS 41
abbrev N_law_web_times : List Str := ["own", "found", "row", "name"]
theorem sc_law_web_times : FnScope ["own", "found", "row", "name"] ["own"] (defScope s_law_web_times) := ⟨rfl, rfl, rfl, by decide +kernel, rfl, by decide +kernel, by decide +kernel⟩
abbrev s_law_web_roads : Stmt := topS 42
abbrev N_law_web_roads : List Str := ["own"]
theorem sc_law_web_roads : FnScope ["own"] ["own"] (defScope s_law_web_roads) := ⟨rfl, rfl, rfl, by decide +kernel, rfl, by decide +kernel, by decide +kernel⟩
abbrev s_law_web_inner : Stmt := topS 43
abbrev N_law_web_inner : List Str := ["own", "name", "times"]
theorem sc_law_web_inner : FnScope ["own", "name", "times"] ["own"] (defScope s_law_web_inner) := ⟨rfl, rfl, rfl, by decide +kernel, rfl, by decide +kernel, by decide +kernel⟩
abbrev s_law_web_ends : Stmt := topS 44
abbrev N_law_web_ends : List Str := ["own", "name", "times"]
theorem sc_law_web_ends : FnScope ["own", "name", "times"] ["own"] (defScope s_law_web_ends) := ⟨rfl, rfl, rfl, by decide +kernel, rfl, by decide +kernel, by decide +kernel⟩
abbrev s_law_web_at : Stmt := topS 45
abbrev N_law_web_at : List Str := ["own", "road", "found", "at", "row", "name"]
theorem sc_law_web_at : FnScope ["own", "road", "found", "at", "row", "name"] ["own", "road"] (defScope s_law_web_at) := ⟨rfl, rfl, rfl, by decide +kernel, rfl, by decide +kernel, by decide +kernel⟩
abbrev s_law_web_names : Stmt := topS 46
abbrev N_law_web_names : List Str := ["pot", "many", "some"]
theorem sc_law_web_names : FnScope ["pot", "many", "some"] ["pot", "many"] (defScope s_law_web_names) := ⟨rfl, rfl, rfl, by decide +kernel, rfl, by decide +kernel, by decide +kernel⟩
abbrev s_law_web_put : Stmt := topS 47
abbrev N_law_web_put : List Str := ["own", "old", "new", "times", "found", "row", "names", "name"]
theorem sc_law_web_put : FnScope ["own", "old", "new", "times", "found", "row", "names", "name"] ["own", "old", "new", "times"] (defScope s_law_web_put) := ⟨rfl, rfl, rfl, by decide +kernel, rfl, by decide +kernel, by decide +kernel⟩
abbrev s_law_web_tree : Stmt := topS 48
abbrev N_law_web_tree : List Str := ["pot", "names", "ends", "own", "spare", "lap", "road", "half", "last", "times"]
theorem sc_law_web_tree : FnScope ["pot", "names", "ends", "own", "spare", "lap", "road", "half", "last", "times"] ["pot", "names", "ends"] (defScope s_law_web_tree) := ⟨rfl, rfl, rfl, by decide +kernel, rfl, by decide +kernel, by decide +kernel⟩
abbrev s_law_web_drawn : Stmt := topS 49
abbrev N_law_web_drawn : List Str := ["pot", "ends", "rounds", "many", "own", "lap", "one", "other"]
theorem sc_law_web_drawn : FnScope ["pot", "ends", "rounds", "many", "own", "lap", "one", "other"] ["pot", "ends", "rounds"] (defScope s_law_web_drawn) := ⟨rfl, rfl, rfl, by decide +kernel, rfl, by decide +kernel, by decide +kernel⟩
abbrev s_law_web_turned : Stmt := topS 50
abbrev N_law_web_turned : List Str := ["pot", "own", "row"]
theorem sc_law_web_turned : FnScope ["pot", "own", "row"] ["pot", "own"] (defScope s_law_web_turned) := ⟨rfl, rfl, rfl, by decide +kernel, rfl, by decide +kernel, by decide +kernel⟩
abbrev s_law_flip_roads : Stmt := topS 51
abbrev N_law_flip_roads : List Str := ["own", "name"]
theorem sc_law_flip_roads : FnScope ["own", "name"] ["own"] (defScope s_law_flip_roads) := ⟨rfl, rfl, rfl, by decide +kernel, rfl, by decide +kernel, by decide +kernel⟩
abbrev s_law_flip_four : Stmt := topS 52
abbrev N_law_flip_four : List Str := ["own", "road", "found", "row", "name"]
theorem sc_law_flip_four : FnScope ["own", "road", "found", "row", "name"] ["own", "road"] (defScope s_law_flip_four) := ⟨rfl, rfl, rfl, by decide +kernel, rfl, by decide +kernel, by decide +kernel⟩
abbrev s_law_flip_web : Stmt := topS 53
abbrev N_law_flip_web : List Str := ["own", "road", "way", "x", "y", "z", "w", "news", "found", "row"]
theorem sc_law_flip_web : FnScope ["own", "road", "way", "x", "y", "z", "w", "news", "found", "row"] ["own", "road", "way"] (defScope s_law_flip_web) := ⟨rfl, rfl, rfl, by decide +kernel, rfl, by decide +kernel, by decide +kernel⟩
abbrev s_law_scene_web : Stmt := topS 54
abbrev N_law_scene_web : List Str := ["pot", "most", "some", "ends", "rounds", "row"]
theorem sc_law_scene_web : FnScope ["pot", "most", "some", "ends", "rounds", "row"] ["pot", "most"] (defScope s_law_scene_web) := ⟨rfl, rfl, rfl, by decide +kernel, rfl, by decide +kernel, by decide +kernel⟩
abbrev s_law_is_flip_right : Stmt := topS 55
abbrev N_law_is_flip_right : List Str := ["web", "own", "road", "way", "far", "due"]
theorem sc_law_is_flip_right : FnScope ["web", "own", "road", "way", "far", "due"] ["web", "own", "road", "way"] (defScope s_law_is_flip_right) := ⟨rfl, rfl, rfl, by decide +kernel, rfl, by decide +kernel, by decide +kernel⟩
abbrev s_law_right : Stmt := topS 56
abbrev N_law_right : List Str := ["pot", "own", "web", "roads", "road"]
theorem sc_law_right : FnScope ["pot", "own", "web", "roads", "road"] ["pot"] (defScope s_law_right) := ⟨rfl, rfl, rfl, by decide +kernel, rfl, by decide +kernel, by decide +kernel⟩
abbrev s_law : Stmt := topS 57
abbrev N_law : List Str := ["script", "place"]
theorem sc_law : FnScope ["script", "place"] ["script"] (defScope s_law) := ⟨rfl, rfl, rfl, by decide +kernel, rfl, by decide +kernel, by decide +kernel⟩
def gk_flipped {α : Type} : List α → List α → List α | [], [k_way, k_road, k_web] => [k_web, k_road, k_way] | _, _ => []
structure Txt (K : PySem.W.Frag) (mg : Str → Option Value) (CW : Addr) : Prop where
  z_isinstance : mg "isinstance" = none
  z_bool : mg "bool" = none
  z_int : mg "int" = none
  z_all : mg "all" = none
  z_len : mg "len" = none
  z_str : mg "str" = none
  z_tuple : mg "tuple" = none
  z_enumerate : mg "enumerate" = none
  z_any : mg "any" = none
  z_range : mg "range" = none
  z_sorted : mg "sorted" = none
  z_set : mg "set" = none
  z_list : mg "list" = none
  z_sum : mg "sum" = none
  z_abs : mg "abs" = none
  z_max : mg "max" = none
  z_min : mg "min" = none
  c_LETTERS : ∃ t, mg "LETTERS" = some (.str "abcdefghijklmnopqrstuvwxyz" t)
  c_LONGEST_NAME : ∃ t, mg "LONGEST_NAME" = some (.int 6 t)
  c_FIRST_WORD : ∃ t, mg "FIRST_WORD" = some (.str "meet" t)
  c_FIRST_LINE : ∃ t, mg "FIRST_LINE" = some (.str "web" t)
  c_MOST_JUNCTIONS : ∃ t, mg "MOST_JUNCTIONS" = some (.int 12 t)
  c_FIRST_WAY : ∃ t, mg "FIRST_WAY" = some (.int 1 t)
  c_SECOND_WAY : ∃ t, mg "SECOND_WAY" = some (.int 2 t)
  m_Web : mg "Web" = some (.ref CW)
  cl : Cls K CW
  n_text : NoAttr K CW "text"
  n_junctions : NoAttr K CW "junctions"
  n_roads : NoAttr K CW "roads"
  n_inner : NoAttr K CW "inner"
  n_ends : NoAttr K CW "ends"
  n_rounds : NoAttr K CW "rounds"
end Tc
namespace Tc
open PySem PySem.Spec PyProof.Rows L2 Fw Mw TL
local macro_rules | `(tactic| wtm_at "z_ne") => `(tactic| first | assumption | (apply Ne.symm; assumption) | omega)
local macro_rules | `(tactic| wtm_at "z_hp") => `(tactic| first | assumption | exact upd_same | (refine (upd_ne ?_).trans ?_; (focus wtm_at "z_ne"); wtm_at "z_hp"))
local macro_rules | `(tactic| wtm_at "z_sq") => `(tactic| first | assumption | (exact .inl (.inl (by wtm_at "z_hp"))))
local macro_rules | `(tactic| wtm_at "z_side") => `(tactic| first | assumption | omega | (simp only []; omega) | exact ⟨by omega, by omega⟩ | exact ⟨by omega, by omega, by omega⟩ | exact .inl ⟨by omega, by omega⟩ | exact .inr ⟨by omega, by omega⟩ | decide)
local macro_rules | `(tactic| wtm_at "z") => `(tactic| first
  | refine ⟨_, rfl, ?_⟩
  | refine ⟨_, _, rfl, rfl, ?_⟩
  | refine And.intro (by wtm_at "z_side") ?_
  | refine .inl ⟨_, rfl, ?_⟩
  | refine ⟨_, _, _, _, rfl, rfl, (by wtm_at "z_sq"), (by first | rfl | assumption), ?_⟩
  | refine ⟨_, _, _, _, rfl, rfl, (by wtm_at "z_hp"), (by first | rfl | assumption), ?_⟩)
local macro_rules | `(tactic| wtm_at "zb") => `(tactic| dsimp only [L2.tCB, L2.tCons, L2.tNil, L2.tC])
section
variable {P : Program} {w : World} {K : PySem.W.Frag} {mg : Str → Option Value} {base : Heap} {CW : Addr}
theorem ok_is_whole (F : FunAt K mg "is_whole" s_is_whole ["value"]) (T : Txt K mg CW)  : Cal P w K mg base CX0 "is_whole" 1 ["value"] [] (sp_is_whole K CW) := by
  obtain ⟨f, fd, F, mgf, bf⟩ := F
  refine ⟨f, fd, [], ?_, mgf, F.kp, bf, .nil⟩
  refine F.ok sc_is_whole (fun vs H Q E h => by obtain ⟨_, rfl, _⟩ := h; rfl) (fun cdv A outer s H vs Q E hr h => ?_)
  refine ⟨_, (pss_one (ps_ret (pe_and (pe_callB (call_isiK' K rfl) (by rfl) T.z_isinstance (by decide +kernel) (pa_cons (pv 0) (pa_cons (pe_bltn (v := .ty "int") (u := .type "int") (by rfl) T.z_int (by decide +kernel) rfl) pa_nil))) (pe_one (pe_not (pe_callB (call_isiK' K rfl) (by rfl) T.z_isinstance (by decide +kernel) (pa_cons (pv 0) (pa_cons (pe_bltn (v := .ty "bool") (u := .type "bool") (by rfl) T.z_bool (by decide +kernel) rfl) pa_nil)))))))), ?_⟩
  obtain ⟨x0, rfl, h⟩ := h
  obtain ⟨i, rfl, q⟩ := h
  refine ⟨_, rfl, ?_⟩
  wtm_at "zb"
  refine isi_int (b := true) (by decide +kernel) ?_
  refine ⟨_, rfl, iteT ?_⟩
  refine ⟨_, rfl, ?_⟩
  wtm_at "zb"
  refine isi_int (b := false) (by decide +kernel) ?_
  exact ⟨_, rfl, q⟩
end
end Tc
namespace Tc
open PySem PySem.Spec PyProof.Rows L2 Fw Mw TL
local macro_rules | `(tactic| wtm_at "z_ne") => `(tactic| first | assumption | (apply Ne.symm; assumption) | omega)
local macro_rules | `(tactic| wtm_at "z_hp") => `(tactic| first | assumption | exact upd_same | (refine (upd_ne ?_).trans ?_; (focus wtm_at "z_ne"); wtm_at "z_hp"))
local macro_rules | `(tactic| wtm_at "z_sq") => `(tactic| first | assumption | (exact .inl (.inl (by wtm_at "z_hp"))))
local macro_rules | `(tactic| wtm_at "z_side") => `(tactic| first | assumption | omega | (simp only []; omega) | exact ⟨by omega, by omega⟩ | exact ⟨by omega, by omega, by omega⟩ | exact .inl ⟨by omega, by omega⟩ | exact .inr ⟨by omega, by omega⟩ | decide)
local macro_rules | `(tactic| wtm_at "z") => `(tactic| first
  | refine ⟨_, rfl, ?_⟩
  | refine ⟨_, _, rfl, rfl, ?_⟩
  | refine And.intro (by wtm_at "z_side") ?_
  | refine .inl ⟨_, rfl, ?_⟩
  | refine ⟨_, _, _, _, rfl, rfl, (by wtm_at "z_sq"), (by first | rfl | assumption), ?_⟩
  | refine ⟨_, _, _, _, rfl, rfl, (by wtm_at "z_hp"), (by first | rfl | assumption), ?_⟩)
local macro_rules | `(tactic| wtm_at "zb") => `(tactic| dsimp only [L2.tCB, L2.tCons, L2.tNil, L2.tC])
section
variable {P : Program} {w : World} {K : PySem.W.Frag} {mg : Str → Option Value} {base : Heap} {CW : Addr}
theorem ok_is_name (F : FunAt K mg "is_name" s_is_name ["value"]) (T : Txt K mg CW)  : Cal P w K mg base CX0 "is_name" 1 ["value"] [] (sp_is_name K CW) := by
  obtain ⟨f, fd, F, mgf, bf⟩ := F
  obtain ⟨t_LETTERS, c_LETTERS⟩ := T.c_LETTERS
  obtain ⟨t_LONGEST_NAME, c_LONGEST_NAME⟩ := T.c_LONGEST_NAME
  refine ⟨f, fd, [], ?_, mgf, F.kp, bf, .nil⟩
  refine F.ok sc_is_name (fun vs H Q E h => by obtain ⟨_, rfl, _⟩ := h; rfl) (fun cdv A outer s H vs Q E hr h => ?_)
  refine ⟨_, (pss_one (ps_ret (pe_and (pe_callB (call_isiK' K rfl) (by rfl) T.z_isinstance (by decide +kernel) (pa_cons (pv 0) (pa_cons (pe_bltn (v := .ty "str") (u := .type "str") (by rfl) T.z_str (by decide +kernel) rfl) pa_nil))) (pe_and (pe_chain op_le op_le pe_int (pe_callB call_len_str (by rfl) T.z_len (by decide +kernel) (pa_cons (pv 0) pa_nil)) (pe_glob (v := .int (6)) rfl c_LONGEST_NAME ⟨_, rfl⟩)) (pe_one (pe_callB (cr_allK K rfl rfl) (by rfl) T.z_all (by decide +kernel) (pa_cons (pe_lc (own := [("letter", 1)]) rfl sc_is_name.nd (pi_str (pv 0)) (blkOk_by (own := [("letter", 1)]) (N := N_is_name) (sc := defScope s_is_name) (by decide +kernel)) (fun _ _ _ _ _ => (pg_name (i := 1) sc_is_name.nd rfl (.inl rfl))) (fun _ _ _ _ _ => pts_nil) (fun _ _ _ _ _ => (pe_cmpR op_in_sign (pv 1) (pe_glob (v := .str "abcdefghijklmnopqrstuvwxyz") rfl c_LETTERS ⟨_, rfl⟩) rfl))) pa_nil))))))), ?_⟩
  obtain ⟨x0, rfl, h⟩ := h
  obtain ⟨z, rfl, hz, q⟩ := h
  have hz2 : z.length ≤ sizeLine := Nat.le_trans hz (by decide)
  refine ⟨_, rfl, ?_⟩
  wtm_at "zb"
  refine isi_str ⟨true, rfl, iteT ?_⟩
  refine ⟨_, rfl, z, rfl, hz2, _, _, rfl, rfl, _, rfl, ite2 (fun e => ?_) (fun e => ?_)⟩
  · have e1 : 1 ≤ z.length := by
      have := of_decide_eq_true e
      omega
    refine ⟨_, _, rfl, rfl, _, rfl, ite2 (fun e => ?_) (fun e => ?_)⟩
    · have e2 : z.length ≤ 6 := by
        have := of_decide_eq_true e
        omega
      refine ⟨_, rfl, z, rfl, fun D hD => ?_⟩
      refine lc_flat walk_str (fun _ _ => trivial) hD (fun _ => true) (fun i => .bl (decide ((tl z).getD i 0 ∈ tl letters))) ?_ (fun _ => rfl) (fun i x hi hx => ⟨fun H1 _ Q q => q H1 (Evl.Ex.refl H1), fun _ => ?_⟩) (fun H1 sm e3 => ?_)
      · have : z.cps.size = z.length := rfl
        omega
      · obtain ⟨c, hc, rfl⟩ := hx
        have ec : (tl z).getD i 0 = c := getD_of (by rw [Array.getElem?_toList]; exact hc)
        rw [ec]
        exact Evl.ev_op (Evl.ev_var rfl) Evl.ev_c (Evl.rv_val fun H1 _ Q q => ⟨c, _, rfl, rfl, q⟩)
      · have ez : z.cps.size = (tl z).length := by simp
        rw [ez, given_all (tl z) 0 (fun c => V.bl (decide (c ∈ tl letters)))] at e3
        refine ⟨D, (tl z).map (fun c => decide (c ∈ tl letters)), rfl, .inl (.inl (by rw [List.map_map]; exact e3)), ?_⟩
        have eq : isName z = ((tl z).map (fun c => decide (c ∈ tl letters))).all id := by
          unfold isName
          rw [decide_eq_true e1, decide_eq_true e2, List.all_map] <;> rfl
        rw [← eq]
        exact q _ sm
    · have e2 : ¬ z.length ≤ 6 := fun h => e (decide_eq_true (by omega))
      have eq : isName z = false := by
        unfold isName
        rw [decide_eq_false e2, Bool.and_false, Bool.false_and]
      have := q H (Same.refl H)
      rw [eq] at this
      exact this
  · have e2 : ¬ 1 ≤ z.length := fun h => e (decide_eq_true (by omega))
    have eq : isName z = false := by
      unfold isName
      rw [decide_eq_false e2, Bool.false_and, Bool.false_and]
    refine ⟨false, rfl, iteF ?_⟩
    have := q H (Same.refl H)
    rw [eq] at this
    exact this
end
end Tc
namespace Tc
open PySem PySem.Spec PyProof.Rows L2 Fw Mw TL
local macro_rules | `(tactic| wtm_at "z_ne") => `(tactic| first | assumption | (apply Ne.symm; assumption) | omega)
local macro_rules | `(tactic| wtm_at "z_hp") => `(tactic| first | assumption | exact upd_same | (refine (upd_ne ?_).trans ?_; (focus wtm_at "z_ne"); wtm_at "z_hp"))
local macro_rules | `(tactic| wtm_at "z_sq") => `(tactic| first | assumption | (exact .inl (.inl (by wtm_at "z_hp"))))
local macro_rules | `(tactic| wtm_at "z_side") => `(tactic| first | assumption | omega | (simp only []; omega) | exact ⟨by omega, by omega⟩ | exact ⟨by omega, by omega, by omega⟩ | exact .inl ⟨by omega, by omega⟩ | exact .inr ⟨by omega, by omega⟩ | decide)
local macro_rules | `(tactic| wtm_at "z") => `(tactic| first
  | refine ⟨_, rfl, ?_⟩
  | refine ⟨_, _, rfl, rfl, ?_⟩
  | refine And.intro (by wtm_at "z_side") ?_
  | refine .inl ⟨_, rfl, ?_⟩
  | refine ⟨_, _, _, _, rfl, rfl, (by wtm_at "z_sq"), (by first | rfl | assumption), ?_⟩
  | refine ⟨_, _, _, _, rfl, rfl, (by wtm_at "z_hp"), (by first | rfl | assumption), ?_⟩)
local macro_rules | `(tactic| wtm_at "zb") => `(tactic| dsimp only [L2.tCB, L2.tCons, L2.tNil, L2.tC])
section
variable {P : Program} {w : World} {K : PySem.W.Frag} {mg : Str → Option Value} {base : Heap} {CW : Addr}
theorem ok_all_words (F : FunAt K mg "all_words" s_all_words ["junctions"]) (T : Txt K mg CW)  : Cal P w K mg base CX0 "all_words" 1 ["junctions"] [] (sp_all_words K CW) := by
  obtain ⟨f, fd, F, mgf, bf⟩ := F
  refine ⟨f, fd, [], ?_, mgf, F.kp, bf, .nil⟩
  refine F.ok sc_all_words (fun vs H Q E h => by obtain ⟨_, rfl, _⟩ := h; rfl) (fun cdv A outer s H vs Q E hr h => ?_)
  refine ⟨_, (pss_one (ps_ret (pe_lc2 (own := [("words", 1), ("road", 2)]) (vs1 := [2]) rfl sc_all_words.nd (pi_seqK K rfl (pv 0)) (blkOk_by (own := [("words", 1), ("road", 2)]) (N := N_all_words) (sc := defScope s_all_words) (by decide +kernel)) (by decide) (fun _ _ _ _ _ => (pg_name (i := 1) sc_all_words.nd rfl (.inl rfl))) (fun _ _ _ _ _ => pts_nil) (fun _ _ _ _ _ => (pi_tupK K rfl (pv 1))) (fun _ _ _ _ _ => (pg_name (i := 2) sc_all_words.nd rfl (.inl rfl))) (fun _ _ _ _ _ => pts_nil) (fun _ _ _ _ _ => (pv 2))))), ?_⟩
  obtain ⟨x0, rfl, h⟩ := h
  obtain ⟨G, js, hG, hx, hl, q⟩ := h
  obtain ⟨a, ts, rfl, hs, hp⟩ : ∃ a ts, x0 = .ref a ∧ (SqL K H a ts ∨ SqT K H a ts) ∧ Paired (rT K rS G) ts js := by
    rcases hx with ⟨a, ts, h1, h2, h3⟩ | ⟨a, ts, h1, h2, h3⟩
    · exact ⟨a, ts, h1, .inl (hG.seq h2), h3⟩
    · exact ⟨a, ts, h1, .inr (seqT hG h2), h3⟩
  have el := pLen hp
  refine ⟨_, rfl, ?_⟩
  refine ⟨a, rfl, hs.imp (fun h => ⟨⟨_, h⟩, fun D hD => ?_⟩) (fun h => ⟨⟨_, h⟩, fun D hD => ?_⟩)⟩
  all_goals
    refine lc2_out (by first | exact walk_list.mono (fun H' e => Same.seq e h) fun _ _ _ _ _ _ y => y | exact walk_tup.mono (fun H' e => seqT e h) fun _ _ _ _ _ _ y => y) (fun i H' => Same H H' ∧ H' D = some (.lst ((js.take i).flatten.map V.str))) _ ⟨same_upd hD, upd_same⟩ (fun i H' _ p => p.1) (fun i x H2 H3 hi p y => ?_) (fun H2 p => ?_)
    · obtain ⟨rfl, hx⟩ := y
      obtain ⟨r, hr, b, ts2, rfl, h2, h3⟩ := pAt hp hx
      have e2 := pS h3
      subst e2
      refine ⟨rfl, iteT (B := True) ?_⟩
      refine ⟨_, rfl, b, rfl, ⟨_, seqT (hG.trans p.1) h2⟩, ?_⟩
      refine lc2_in walk_tup (fun j H' => Same H H' ∧ H' D = some (.lst (((js.take i).flatten ++ r.take j).map V.str))) ?_ (fun j H' _ p' => seqT (hG.trans p'.1) h2) (fun j x H4 H5 hj p' y' => ?_) (fun H4 p' => ?_)
      · simpa using p
      · obtain ⟨rfl, hx'⟩ := y'
        obtain ⟨z, hz, rfl⟩ := map_at hx'
        have lt := (List.getElem?_eq_some_iff.mp hr).1
        have big : ((js.take i).flatten ++ r.take j).length ≤ 1000 := by
          have h5 := take_flat js i r hr
          have h6 : (js.take (i + 1)).flatten.length ≤ js.flatten.length := by
            have h7 := congrArg List.flatten (List.take_append_drop (i + 1) js)
            rw [List.flatten_append] at h7
            rw [← h7, List.length_append]
            omega
          rw [h5] at h6
          rw [List.length_append] at h6 ⊢
          have h8 : (r.take j).length ≤ r.length := by rw [List.length_take]; omega
          omega
        refine ⟨rfl, iteT (B := True) ⟨_, rfl, _, p'.2, small1000' (by rw [List.length_map]; omega), ?_, ?_⟩⟩
        · exact fun c o e => by
            rw [upd_ne (ne_of_none e hD)]
            exact p'.1 c o e
        · rw [upd_same, take_snoc hz, ← List.append_assoc]; simp only [List.map_append]
          rfl
      · rw [List.length_map, List.take_length, ← take_flat js i r hr] at p'
        exact p'
    · have e3 : js.take ts.length = js := by rw [el]; exact List.take_length
      rw [e3] at p
      have gD : G D = none := hG.free hD
      have g1 : Go [] G H G H2 := ⟨Same.refl G, hG.trans p.1, fun c o _ e => p.1 c o e, fun _ _ e => e, fun c e => by
        cases z : H c with
        | none => exact absurd z e
        | some o => rw [p.1 c o z]; exact fun z => nomatch z⟩
      exact q _ _ _ (g1.frz hD p.2 gD) (rLs.mpr ⟨D, rfl, .inl (.inl upd_same)⟩)
end
end Tc
namespace Tc
open PySem PySem.Spec PyProof.Rows L2 Fw Mw TL
local macro_rules | `(tactic| wtm_at "z_ne") => `(tactic| first | assumption | (apply Ne.symm; assumption) | omega)
local macro_rules | `(tactic| wtm_at "z_hp") => `(tactic| first | assumption | exact upd_same | (refine (upd_ne ?_).trans ?_; (focus wtm_at "z_ne"); wtm_at "z_hp"))
local macro_rules | `(tactic| wtm_at "z_sq") => `(tactic| first | assumption | (exact .inl (.inl (by wtm_at "z_hp"))))
local macro_rules | `(tactic| wtm_at "z_side") => `(tactic| first | assumption | omega | (simp only []; omega) | exact ⟨by omega, by omega⟩ | exact ⟨by omega, by omega, by omega⟩ | exact .inl ⟨by omega, by omega⟩ | exact .inr ⟨by omega, by omega⟩ | decide)
local macro_rules | `(tactic| wtm_at "z") => `(tactic| first
  | refine ⟨_, rfl, ?_⟩
  | refine ⟨_, _, rfl, rfl, ?_⟩
  | refine And.intro (by wtm_at "z_side") ?_
  | refine .inl ⟨_, rfl, ?_⟩
  | refine ⟨_, _, _, _, rfl, rfl, (by wtm_at "z_sq"), (by first | rfl | assumption), ?_⟩
  | refine ⟨_, _, _, _, rfl, rfl, (by wtm_at "z_hp"), (by first | rfl | assumption), ?_⟩)
local macro_rules | `(tactic| wtm_at "zb") => `(tactic| dsimp only [L2.tCB, L2.tCons, L2.tNil, L2.tC])
section
variable {P : Program} {w : World} {K : PySem.W.Frag} {mg : Str → Option Value} {base : Heap} {CW : Addr}
theorem ok_meeting_roads (F : FunAt K mg "meeting_roads" s_meeting_roads ["line"]) (T : Txt K mg CW) (C_is_name : Cal P w K mg base CX0 "is_name" 1 ["value"] [] (sp_is_name K CW)) : Cal P w K mg base CX0 "meeting_roads" 2 ["line"] [] (sp_meeting_roads K CW) := by
  obtain ⟨f, fd, F, mgf, bf⟩ := F
  obtain ⟨f_is_name, fd_is_name, ds_is_name, G_is_name, m_is_name, k_is_name, b_is_name, d_is_name⟩ := C_is_name
  obtain ⟨t_FIRST_WORD, c_FIRST_WORD⟩ := T.c_FIRST_WORD
  refine ⟨f, fd, [], ?_, mgf, F.kp, bf, .nil⟩
  refine F.ok sc_meeting_roads (fun vs H Q E h => by obtain ⟨_, rfl, _⟩ := h; rfl) (fun cdv A outer s H vs Q E hr h => ?_)
  refine ⟨_, (pss_cons (ps_set (i := 1) sc_meeting_roads.nd rfl (.inl rfl) (pe_split (pv 0) pe_str))
      (pss_cons (ps_set (i := 2) sc_meeting_roads.nd rfl (.inl rfl) (pe_callTy (call_tuple_ofK K rfl) (by rfl) T.z_tuple (by decide +kernel) (pa_cons (pe_slice (sl_listK K rfl) (pv 1) (po_some pe_int) po_none) pa_nil)))
      (pss_cons (ps_if (PW.pt (pw_and (pt_cmpR op_eq (pe_ix (ix_listK K rfl) (pv 1) pe_int (fun _ _ => rfl)) (pe_glob (v := .str "meet") rfl c_FIRST_WORD ⟨_, rfl⟩) (nomark _)) (pw_and (pt_cmpR op_eq (pe_callB (call_len_seqK K rfl) (by rfl) T.z_len (by decide +kernel) (pa_cons (pv 2) pa_nil)) pe_int (nomark _)) (pw_and1 (pt_val (pe_callB (cr_allK K rfl rfl) (by rfl) T.z_all (by decide +kernel) (pa_cons (pe_lc (own := [("road", 3)]) rfl sc_meeting_roads.nd (pi_tupK K rfl (pv 2)) (blkOk_by (own := [("road", 3)]) (N := N_meeting_roads) (sc := defScope s_meeting_roads) (by decide +kernel)) (fun _ _ _ _ _ => (pg_name (i := 3) sc_meeting_roads.nd rfl (.inl rfl))) (fun _ _ _ _ _ => pts_nil) (fun _ _ _ _ _ => (pe_call G_is_name (hr.mono (by decide)) (by rfl) m_is_name k_is_name b_is_name d_is_name pass0 (pa_cons (pv 3) pa_nil)))) pa_nil))))))) (pss_one (ps_ret (pv 2))) pss_nil)
      (pss_one (ps_ret (pe_tup pa_nil)))))), ?_⟩
  obtain ⟨x0, rfl, h⟩ := h
  obtain ⟨G, r, hG, rfl, hr, q⟩ := h
  refine ⟨_, rfl, ?_⟩
  wtm_at "zb"
  refine ⟨⟨_, rfl⟩, _, _, rfl, rfl, by decide +kernel, ?_, ?_⟩
  · have h1 := row_len hr
    exact Nat.le_trans (Nat.add_le_add_right h1 2) (by decide)
  intro p1 hp1
  have es : Txt.split (rowText r) (" " : Str) = ("meet" : Str) :: r := row_split hr
  rw [es]
  obtain ⟨a, b, c, rfl⟩ : ∃ a b c, r = [a, b, c] := by
    have h1 := hr.len
    match r, h1 with
    | [a, b, c], _ => exact ⟨a, b, c, rfl⟩
  refine ⟨_, rfl, ?_⟩
  wtm_at "zb"
  refine ⟨_, rfl, ?_⟩
  refine ⟨p1, _, rfl, SqL.of upd_same, ?_⟩
  intro p2 hp2
  obtain ⟨n21, hq2⟩ := upd_none.mp hp2
  refine ⟨p2, [.str a, .str b, .str c], rfl, .inl ⟨SqL.of upd_same, fun p3 hp3 => ?_⟩⟩
  obtain ⟨n32, hp3'⟩ := upd_none.mp hp3
  obtain ⟨n31, hq3⟩ := upd_none.mp hp3'
  refine ⟨_, rfl, ?_⟩
  wtm_at "zb"
  refine ⟨p1, _, _, _, rfl, rfl, (by wtm_at "z_sq"), rfl, ?_⟩
  refine ⟨rfl, _, rfl, iteT ?_⟩
  refine ⟨_, rfl, ?_⟩
  wtm_at "zb"
  refine ⟨p3, [.str a, .str b, .str c], rfl, .inr (by wtm_at "z_sq"), ?_⟩
  refine ⟨rfl, _, rfl, iteT ?_⟩
  generalize hx : upd (upd (upd H p1 _) p2 _) p3 _ = Hx
  have t3 : SqT K Hx p3 ([a, b, c].map V.str) := hx ▸ SqT.of upd_same
  have s3 : Same H Hx := hx ▸ ((same_upd hp1).trans (same_upd hp2)).trans (same_upd hp3)
  refine ⟨_, rfl, ?_⟩
  refine ⟨p3, rfl, ⟨_, t3⟩, fun D hD => ?_⟩
  refine lc_flat (walk_tup.mono (fun H' e => seqT e t3) fun _ _ _ _ _ _ y => y) (fun _ e => e) hD (fun _ => true) (fun _ => .bl true) (by rw [List.length_map]; simp) (fun _ => rfl) (fun i x hi hx => ⟨fun H1 _ Q q => q H1 (Evl.Ex.refl H1), fun _ => ?_⟩) (fun H1 sm e3 => ?_)
  · obtain ⟨z, hz, rfl⟩ := map_at hx
    have hn := hr.names z (List.mem_of_getElem? hz)
    refine fun H1 _ Q q => ⟨_, rfl, ?_⟩
    refine ⟨_, rfl, _, rfl, Nat.le_trans (name_len hn).2 (by decide), fun H2 e => ?_⟩
    rw [hn]
    exact q H2 e
  · refine ⟨D, [true, true, true], rfl, .inl (.inl e3), ?_⟩
    refine ⟨_, rfl, iteT (B := True) ?_⟩
    refine ⟨_, rfl, ?_⟩
    subst hx
    exact q _ _ _ (((((Go.ref0 hG).tmp hp1).tmp hp2).new hp3).grow sm) (rTs.mpr ⟨p3, rfl, SqT.of upd_same⟩)
end
end Tc
namespace Tc
open PySem PySem.Spec PyProof.Rows L2 Fw Mw TL
local macro_rules | `(tactic| wtm_at "z_ne") => `(tactic| first | assumption | (apply Ne.symm; assumption) | omega)
local macro_rules | `(tactic| wtm_at "z_hp") => `(tactic| first | assumption | exact upd_same | (refine (upd_ne ?_).trans ?_; (focus wtm_at "z_ne"); wtm_at "z_hp"))
local macro_rules | `(tactic| wtm_at "z_sq") => `(tactic| first | assumption | (exact .inl (.inl (by wtm_at "z_hp"))))
local macro_rules | `(tactic| wtm_at "z_side") => `(tactic| first | assumption | omega | (simp only []; omega) | exact ⟨by omega, by omega⟩ | exact ⟨by omega, by omega, by omega⟩ | exact .inl ⟨by omega, by omega⟩ | exact .inr ⟨by omega, by omega⟩ | decide)
local macro_rules | `(tactic| wtm_at "z") => `(tactic| first
  | refine ⟨_, rfl, ?_⟩
  | refine ⟨_, _, rfl, rfl, ?_⟩
  | refine And.intro (by wtm_at "z_side") ?_
  | refine .inl ⟨_, rfl, ?_⟩
  | refine ⟨_, _, _, _, rfl, rfl, (by wtm_at "z_sq"), (by first | rfl | assumption), ?_⟩
  | refine ⟨_, _, _, _, rfl, rfl, (by wtm_at "z_hp"), (by first | rfl | assumption), ?_⟩)
local macro_rules | `(tactic| wtm_at "zb") => `(tactic| dsimp only [L2.tCB, L2.tCons, L2.tNil, L2.tC])
section
variable {P : Program} {w : World} {K : PySem.W.Frag} {mg : Str → Option Value} {base : Heap} {CW : Addr}
theorem ok_read_junctions (F : FunAt K mg "read_junctions" s_read_junctions ["text"]) (T : Txt K mg CW) (C_meeting_roads : Cal P w K mg base CX0 "meeting_roads" 2 ["line"] [] (sp_meeting_roads K CW)) (C_all_words : Cal P w K mg base CX0 "all_words" 1 ["junctions"] [] (sp_all_words K CW)) : Cal P w K mg base CX0 "read_junctions" 3 ["text"] [] (sp_read_junctions K CW) := by
  obtain ⟨f, fd, F, mgf, bf⟩ := F
  obtain ⟨f_meeting_roads, fd_meeting_roads, ds_meeting_roads, G_meeting_roads, m_meeting_roads, k_meeting_roads, b_meeting_roads, d_meeting_roads⟩ := C_meeting_roads
  obtain ⟨f_all_words, fd_all_words, ds_all_words, G_all_words, m_all_words, k_all_words, b_all_words, d_all_words⟩ := C_all_words
  obtain ⟨t_FIRST_LINE, c_FIRST_LINE⟩ := T.c_FIRST_LINE
  obtain ⟨t_MOST_JUNCTIONS, c_MOST_JUNCTIONS⟩ := T.c_MOST_JUNCTIONS
  refine ⟨f, fd, [], ?_, mgf, F.kp, bf, .nil⟩
  refine F.ok sc_read_junctions (fun vs H Q E h => by obtain ⟨_, rfl, _⟩ := h; rfl) (fun cdv A outer s H vs Q E hr h => ?_)
  refine ⟨_, (pss_cons (ps_if (pt_not (pt_val (pe_callB (call_isiK' K rfl) (by rfl) T.z_isinstance (by decide +kernel) (pa_cons (pv 0) (pa_cons (pe_bltn (v := .ty "str") (u := .type "str") (by rfl) T.z_str (by decide +kernel) rfl) pa_nil))))) (pss_one ps_never) pss_nil)
      (pss_cons (ps_set (i := 1) sc_read_junctions.nd rfl (.inl rfl) (pe_split (pv 0) pe_str))
      (pss_cons (ps_if (pt_cmpR op_ne (pe_ix (ix_listK K rfl) (pv 1) pe_int (fun _ _ => rfl)) (pe_glob (v := .str "web") rfl c_FIRST_LINE ⟨_, rfl⟩) (nomark _)) (pss_one ps_never) pss_nil)
      (pss_cons (ps_set (i := 2) sc_read_junctions.nd rfl (.inl rfl) (pe_lst pa_nil))
      (pss_cons (ps_for PassesOwn.never rfl (pi_enumSK K rfl (by decide) (by decide) (by rfl) T.z_enumerate (pa_cons (pe_slice (sl_listK K rfl) (pv 1) (po_some pe_int) po_none) pa_nil)) (pg_tupK (n := 2) K rfl rfl (pgs_cons (pg_name (i := 3) sc_read_junctions.nd rfl (.inl rfl)) (pgs_cons (pg_name (i := 4) sc_read_junctions.nd rfl (.inl rfl)) pgs_nil))) (pss_cons (ps_set (i := 5) sc_read_junctions.nd rfl (.inl rfl) (pe_call G_meeting_roads (hr.mono (by decide)) (by rfl) m_meeting_roads k_meeting_roads b_meeting_roads d_meeting_roads pass0 (pa_cons (pv 4) pa_nil)))
      (pss_cons (ps_set (i := 6) sc_read_junctions.nd rfl (.inr rfl) (pe_call G_all_words (hr.mono (by decide)) (by rfl) m_all_words k_all_words b_all_words d_all_words pass0 (pa_cons (pe_lst (pa_starK K rfl (pv 2) (pa_cons (pv 5) pa_nil))) pa_nil)))
      (pss_cons (ps_set (i := 7) sc_read_junctions.nd rfl (.inl rfl) (pe_callB (cr_anyK K rfl rfl) (by rfl) T.z_any (by decide +kernel) (pa_cons (pe_lc (own := [("road", 8)]) rfl sc_read_junctions.nd (pi_tupK K rfl (pv 5)) (blkOk_by (own := [("road", 8)]) (N := N_read_junctions) (sc := defScope s_read_junctions) (by decide +kernel)) (fun _ _ _ _ _ => (pg_name (i := 8) sc_read_junctions.nd rfl (.inl rfl))) (fun _ _ _ _ _ => pts_nil) (fun _ _ _ _ _ => (pe_cmpR op_gt (pe_bmK K rfl PySem.F.plainAttrs_list PySem.F.slot_list_count PySem.F.type_list_count (mt_lcountSK K rfl) (pv 6) (pa_cons (pv 8) pa_nil)) pe_int (nomark _)))) pa_nil)))
      (pss_cons (ps_if (PW.pt (pw_or (pt_not (pt_truthK K rfl (pv 5) (by intro _; rfl))) (pw_or (pt_val (pv 7)) (pw_or1 (pt_cmpR op_eq (pe_callB (call_len_seqK K rfl) (by rfl) T.z_len (by decide +kernel) (pa_cons (pv 2) pa_nil)) (pe_glob (v := .int (12)) rfl c_MOST_JUNCTIONS ⟨_, rfl⟩) (nomark _)))))) (pss_one ps_never) pss_nil)
      (pss_one (ps_expr (pe_bmK K rfl PySem.F.plainAttrs_list PySem.F.slot_list_append PySem.F.type_list_append mt_append (pv 2) (pa_cons (pv 5) pa_nil)))))))))
      (pss_cons (ps_if (pt_not (pt_truthK K rfl (pv 2) (by intro _; rfl))) (pss_one ps_never) pss_nil)
      (pss_one (ps_ret (pe_callTy (call_tuple_ofK K rfl) (by rfl) T.z_tuple (by decide +kernel) (pa_cons (pv 2) pa_nil)))))))))), ?_⟩
  obtain ⟨x0, rfl, h⟩ := h
  obtain ⟨G, js, hG, rfl, hj, q⟩ := h
  refine ⟨_, rfl, ?_⟩
  wtm_at "zb"
  refine isi_str ⟨true, rfl, iteF (A := True) ?_⟩
  refine ⟨_, rfl, ?_⟩
  wtm_at "zb"
  refine ⟨⟨_, rfl⟩, _, _, rfl, rfl, by decide +kernel, ?_, ?_⟩
  · have h1 := web_len hj.rows
    have h2 := hj.most
    have h3 : (js.length + 1) * 29 ≤ 400 := by omega
    exact Nat.le_trans (Nat.add_le_add_right (Nat.le_trans h1 h3) 2) (by decide)
  intro p1 hp1
  have es : Txt.split (webText js) ("\n" : Str) = ("web" : Str) :: js.map rowText := web_split hj.rows
  rw [es]
  refine ⟨_, rfl, ?_⟩
  wtm_at "zb"
  refine ⟨p1, _, _, _, rfl, rfl, (by wtm_at "z_sq"), (atI_nat (j := 0) rfl), ?_⟩
  refine ⟨rfl, _, rfl, iteF (A := True) ?_⟩
  refine ⟨by decide, fun pj hpj => ?_⟩
  obtain ⟨nj1, hqj⟩ := upd_none.mp hpj
  refine ⟨_, rfl, _, rfl, ?_⟩
  refine ⟨p1, _, rfl, (by wtm_at "z_sq"), fun p2 hp2 => ?_⟩
  obtain ⟨n2j, hp2'⟩ := upd_none.mp hp2
  obtain ⟨n21, hq2⟩ := upd_none.mp hp2'
  have c1 : cutV (("web" : Str) :: js.map rowText |>.map V.str) (some 1) none = (js.map rowText).map V.str := cut_from1 _ _
  rw [c1]
  have goX := (((Go.ref0 hG).tmp hp1).tmp hpj).tmp (o := .lst ((js.map rowText).map V.str)) hp2
  have xj : upd (upd (upd H p1 (.lst ((("web" : Str) :: js.map rowText).map V.str))) pj (.lst [])) p2 (.lst ((js.map rowText).map V.str)) pj = some (.lst []) := by wtm_at "z_hp"
  have x2 : upd (upd (upd H p1 (.lst ((("web" : Str) :: js.map rowText).map V.str))) pj (.lst [])) p2 (.lst ((js.map rowText).map V.str)) p2 = some (.lst ((js.map rowText).map V.str)) := upd_same
  have gj : G pj = none := hG.free hqj
  generalize upd (upd (upd H p1 (.lst ((("web" : Str) :: js.map rowText).map V.str))) pj (.lst [])) p2 (.lst ((js.map rowText).map V.str)) = Hx at goX xj x2 ⊢
  refine ⟨p2, _, rfl, SqL.of x2, ?_⟩
  refine for_it Yr.walk_num (fun i σ H' => (∃ x3 x4 x5 x6 x7, σ = [some (.str (webText js)), some (.ref p1), some (.ref pj), x3, x4, x5, x6, x7, none]) ∧ ∃ G' ts, Go [] G H G' H' ∧ H' p2 = some (.lst ((js.map rowText).map V.str)) ∧ G' pj = none ∧ H' pj = some (.lst ts) ∧ Paired (rT K rS G') ts (js.take i)) ⟨⟨_, _, _, _, _, rfl⟩, G, [], goX, x2, gj, xj, .nil⟩ (fun i σ H' _ ⟨_, _, _, _, h, _⟩ => SqL.of h) ?_ ?_
  · rintro i x σ H1 H2 hi ⟨⟨x3, x4, x5, x6, x7, rfl⟩, G1, ts, go1, h2, gj1, hj1, pr⟩ ⟨T, y1, y2, rfl, hT, rfl, e1, e2⟩
    obtain rfl := Option.some.inj e1
    have e2' : ((js.map rowText).map V.str)[i]? = some y2 := e2
    obtain ⟨z, hz, rfl⟩ := map_at e2'
    obtain ⟨r, hr', rfl⟩ := map_at hz
    have hil : i < js.length := (List.getElem?_eq_some_iff.mp hr').1
    have hmem : r ∈ js := List.mem_of_getElem? hr'
    have go2 := go1.tmp (o := .tup [.int (2 + (i : Nat)), .str (rowText r)]) hT
    have hj2 : upd H1 T (.tup [.int (2 + (i : Nat)), .str (rowText r)]) pj = some (.lst ts) := (upd_ne (ne_of_none hj1 hT)).trans hj1
    have h22 : upd H1 T (.tup [.int (2 + (i : Nat)), .str (rowText r)]) p2 = some (.lst ((js.map rowText).map V.str)) := (upd_ne (ne_of_none h2 hT)).trans h2
    have hT2 : SqT K (upd H1 T (.tup [.int (2 + (i : Nat)), .str (rowText r)])) T [.int (2 + (i : Nat)), .str (rowText r)] := SqT.of upd_same
    generalize upd H1 T (.tup [.int (2 + (i : Nat)), .str (rowText r)]) = H2 at go2 hj2 h22 hT2 ⊢
    refine ⟨T, _, rfl, hT2, rfl, _, _, rfl, _, _, rfl, rfl, ?_⟩
    refine ⟨_, rfl, ?_⟩
    wtm_at "zb"
    refine ⟨_, rfl, G1, r, go2.h, rfl, hj.rows r hmem, fun v5 G3 H3 go3 hv5 => ?_⟩
    have hj3 := go3.to hj2
    have h23 := go3.to h22
    have gj3 := go3.none hj2 gj1
    refine ⟨_, rfl, pj, ts, rfl, .inr (SqL.of hj3), _, rfl, ?_⟩
    wtm_at "zb"
    have lts : ts.length = i := by rw [pLen pr, List.length_take]; omega
    have hm := hj.most
    refine ⟨?_, fun pn hpn => ?_⟩
    · have : (ts ++ [v5]).length ≤ 1000 := by
        rw [List.length_append, List.length_singleton]
        omega
      exact Nat.le_trans this (by decide)
    have go4 := (go2.trans go3).new (o := .lst (ts ++ [v5])) hpn
    have pr4 : Paired (rT K rS (upd G3 pn (.lst (ts ++ [v5])))) (ts ++ [v5]) (js.take (i + 1)) := by
      rw [take_snoc hr']
      have s1 : Same G3 (upd G3 pn (.lst (ts ++ [v5]))) := same_upd ((go2.trans go3).gnone hpn)
      exact pSnoc (L2.Paired.mapP pr fun _ _ z => Mo.up (go3.g.trans s1) z) (Mo.up s1 hv5)
    have fl : (js.take (i + 1)).flatten.length ≤ 1000 := by
      have h1 : ∀ l : Rows, (∀ x ∈ l, x.length = 3) → l.flatten.length = 3 * l.length := by
        intro l
        induction l with
        | nil => intro _; rfl
        | cons x l ih =>
          intro h
          rw [List.flatten_cons, List.length_append, List.length_cons, ih fun y hy => h y (List.mem_cons_of_mem _ hy), h x List.mem_cons_self]
          omega
      rw [h1 _ fun x hx => (hj.rows x (List.mem_of_mem_take hx)).len, List.length_take]
      omega
    refine ⟨_, rfl, _, js.take (i + 1), go4.h, .inl ⟨pn, _, rfl, SqL.of upd_same, pr4⟩, fl, fun v6 G4 H4 go5 hv6 => ?_⟩
    obtain ⟨a6, rfl, h6⟩ := rLs.mp hv6
    have hj4 : H4 pj = some (.lst ts) := go5.to ((upd_ne (ne_of_none hj3 hpn)).trans hj3)
    have h24 := go5.to ((upd_ne (ne_of_none h23 hpn)).trans h23)
    have gj4 : G4 pj = none := go5.none ((upd_ne (ne_of_none hj3 hpn)).trans hj3) ((upd_ne (ne_of_none hj3 hpn)).trans gj3)
    have go6 := go4.trans go5
    have pr5 := L2.Paired.mapP pr4 fun _ _ z => Mo.up go5.g z
    have cnt : ∀ z, (js.take (i + 1)).flatten.count z ≤ 2 := fun z => by
      refine Nat.le_trans ?_ (hj.twice z)
      have h7 := congrArg List.flatten (List.take_append_drop (i + 1) js)
      rw [List.flatten_append] at h7
      rw [← h7, List.count_append]
      omega
    have hv5' : rT K rS H4 v5 r := Mo.up go6.h (Mo.up (Same.trans (same_upd ((go2.trans go3).gnone hpn)) go5.g) hv5)
    obtain ⟨a5, ts5, rfl, hs5, hp5⟩ := hv5'
    obtain rfl := pS hp5
    have h64 := go6.h.seq h6
    refine ⟨_, rfl, ?_⟩
    refine ⟨a5, rfl, ⟨_, hs5⟩, fun D hD => ?_⟩
    refine lc_flat (walk_tup.mono (fun H' e => seqT e hs5) fun _ _ _ _ _ _ y => y) (fun _ e => e) hD (fun _ => true) (fun _ => .bl false) ?_ (fun _ => rfl) (fun j x hj' hx => ⟨fun H1 _ Q q => q H1 (Evl.Ex.refl H1), fun _ => ?_⟩) (fun H5 sm e3 => ?_)
    · rw [List.length_map, (hj.rows r hmem).len]
      decide
    · obtain ⟨z, hz, rfl⟩ := map_at hx
      refine fun H1 e Q q => ⟨_, rfl, .inl ⟨rfl, _, Same.seq e h64⟩, _, rfl, ?_⟩
      wtm_at "zb"
      refine ⟨a6, _, z, rfl, rfl, Same.seq e h64, ?_⟩
      refine ⟨_, _, rfl, rfl, ?_⟩
      have e9 : decide ((2 : Int) < ((js.take (i + 1)).flatten.count z : Nat)) = false := decide_eq_false (by have := cnt z; omega)
      show Q (.bl (decide ((2 : Int) < ((js.take (i + 1)).flatten.count z : Nat)))) H1
      rw [e9]
      exact q H1 (Evl.Ex.refl H1)
    · rw [List.length_map, (hj.rows r hmem).len] at e3
      refine ⟨D, [false, false, false], rfl, .inl (.inl e3), ?_⟩
      refine ⟨_, rfl, ?_⟩
      refine ⟨true, .inr (.inl ⟨_, seqT sm hs5, ?_⟩), iteF (A := True) ?_⟩
      · cases r with
        | nil => exact absurd (hj.rows [] hmem).len (by decide)
        | cons _ _ => rfl
      refine ⟨_, rfl, false, rfl, iteF (A := True) ?_⟩
      refine ⟨_, rfl, ?_⟩
      wtm_at "zb"
      refine ⟨pj, ts, rfl, .inl (SqL.of (sm _ _ hj4)), ?_⟩
      refine ⟨rfl, _, rfl, ?_⟩
      rw [decide_eq_false (fun h => by have := V.int.inj h; omega)]
      refine iteF (A := True) ?_
      refine ⟨_, rfl, .inl ⟨rfl, _, SqL.of (sm _ _ hj4)⟩, _, rfl, ?_⟩
      wtm_at "zb"
      refine ⟨pj, ts, .ref a5, rfl, rfl, sm _ _ hj4, ?_, ?_⟩
      · exact Nat.lt_of_le_of_lt (m := 12) (by omega) (by decide)
      have go7 := (go6.grow sm).mut (p := pj) (o := .lst (ts ++ [.ref a5])) gj4 (.inl hqj)
      refine ⟨⟨_, _, _, _, _, rfl⟩, G4, ts ++ [.ref a5], go7, ?_, gj4, upd_same, pr5⟩
      exact (upd_ne n2j).trans (sm _ _ h24)
  · rintro σ H1 ⟨⟨x3, x4, x5, x6, x7, rfl⟩, G1, ts, go1, h2, gj1, hj1, pr⟩
    have lts : ts.length = js.length := by
      rw [pLen pr, List.length_take, List.length_map, List.length_map]
      omega
    have hj1' : SqL K H1 pj ts := SqL.of hj1
    have nt : ts ≠ [] := fun z => by
      rw [z] at lts
      exact hj.some (List.length_eq_zero_iff.mp lts.symm)
    refine ⟨_, rfl, true, .inl ⟨_, hj1', ?_⟩, iteF (A := True) ?_⟩
    · cases ts with
      | nil => exact absurd rfl nt
      | cons _ _ => rfl
    refine ⟨_, rfl, ?_⟩
    wtm_at "zb"
    refine ⟨pj, ts, rfl, .inl ⟨hj1', fun l hl => ?_⟩⟩
    rw [List.length_map, List.length_map, List.take_length] at pr
    refine q _ _ _ (go1.new (o := .tup ts) hl) ⟨l, ts, rfl, SqT.of upd_same, L2.Paired.mapP pr fun _ _ z => Mo.up (same_upd (go1.gnone hl)) z⟩
end
end Tc
namespace Tc
open PySem PySem.Spec PyProof.Rows L2 Fw Mw TL
local macro_rules | `(tactic| wtm_at "z_ne") => `(tactic| first | assumption | (apply Ne.symm; assumption) | omega)
local macro_rules | `(tactic| wtm_at "z_hp") => `(tactic| first | assumption | exact upd_same | (refine (upd_ne ?_).trans ?_; (focus wtm_at "z_ne"); wtm_at "z_hp"))
local macro_rules | `(tactic| wtm_at "z_sq") => `(tactic| first | assumption | (exact .inl (.inl (by wtm_at "z_hp"))))
local macro_rules | `(tactic| wtm_at "z_side") => `(tactic| first | assumption | omega | (simp only []; omega) | exact ⟨by omega, by omega⟩ | exact ⟨by omega, by omega, by omega⟩ | exact .inl ⟨by omega, by omega⟩ | exact .inr ⟨by omega, by omega⟩ | decide)
local macro_rules | `(tactic| wtm_at "z") => `(tactic| first
  | refine ⟨_, rfl, ?_⟩
  | refine ⟨_, _, rfl, rfl, ?_⟩
  | refine And.intro (by wtm_at "z_side") ?_
  | refine .inl ⟨_, rfl, ?_⟩
  | refine ⟨_, _, _, _, rfl, rfl, (by wtm_at "z_sq"), (by first | rfl | assumption), ?_⟩
  | refine ⟨_, _, _, _, rfl, rfl, (by wtm_at "z_hp"), (by first | rfl | assumption), ?_⟩)
local macro_rules | `(tactic| wtm_at "zb") => `(tactic| dsimp only [L2.tCB, L2.tCons, L2.tNil, L2.tC])
section
variable {P : Program} {w : World} {K : PySem.W.Frag} {mg : Str → Option Value} {base : Heap} {CW : Addr}
theorem ok_places_of (F : FunAt K mg "places_of" s_places_of ["junctions", "road"]) (T : Txt K mg CW)  : Cal P w K mg base CX0 "places_of" 1 ["junctions", "road"] [] (sp_places_of K CW) := by
  obtain ⟨f, fd, F, mgf, bf⟩ := F
  refine ⟨f, fd, [], ?_, mgf, F.kp, bf, .nil⟩
  refine F.ok sc_places_of (fun vs H Q E h => by obtain ⟨_, _, rfl, _⟩ := h; rfl) (fun cdv A outer s H vs Q E hr h => ?_)
  refine ⟨_, (pss_one (ps_ret (pe_lc (own := [("number", 2), ("words", 3)]) rfl sc_places_of.nd (pi_enumTK K rfl (by rfl) T.z_enumerate (pa_cons (pv 0) pa_nil)) (blkOk_by (own := [("number", 2), ("words", 3)]) (N := N_places_of) (sc := defScope s_places_of) (by decide +kernel)) (fun _ _ _ _ _ => (pg_tupK (n := 2) K rfl rfl (pgs_cons (pg_name (i := 2) sc_places_of.nd rfl (.inl rfl)) (pgs_cons (pg_name (i := 3) sc_places_of.nd rfl (.inl rfl)) pgs_nil)))) (fun _ _ _ _ _ => (pts_one (pt_cmpR (op_in_seqK K rfl) (pv 1) (pv 3) rfl))) (fun _ _ _ _ _ => (pv 2))))), ?_⟩
  obtain ⟨x0, x1, rfl, h⟩ := h
  obtain ⟨G, js, z, hG, hx, rfl, hm, q⟩ := h
  obtain ⟨aj, ts, rfl, hs, hp⟩ := hx
  refine ⟨_, rfl, aj, ts, rfl, seqT hG hs, fun D hD => ?_⟩
  refine lc_pair (Yr.walk_num (xs := ts)) (fun H' e => seqT (hG.trans e) hs) hD (fun j => decide (z ∈ js.getD j [])) (fun j => .int (j : Nat)) ?_ (fun _ _ => rfl) (fun i x y hi hx hy => ?_) (fun H1 sm e3 => ?_)
  · have := pLen hp
    omega
  · obtain rfl := Option.some.inj hx
    obtain ⟨r, hr, b, us, rfl, hs2, hp2⟩ := pAt hp hy
    obtain rfl := pS hp2
    rw [getD_of hr]
    refine ⟨fun H1 ex Q q => ?_, fun _ => ?_⟩
    · refine ⟨_, rfl, _, rfl, b, _, rfl, .inr (seqT (hG.trans ex) hs2), rfl, by rw [List.all_map]; exact List.all_eq_true.mpr fun _ _ => rfl, _, rfl, ?_⟩
      show Q (inV (.str z) (r.map V.str)) H1
      rw [inV_str]
      exact q H1 (Evl.Ex.refl H1)
    · refine fun H1 ex Q q => ⟨_, rfl, ?_⟩
      rw [Int.zero_add]
      exact q H1 (Evl.Ex.refl H1)
  have e4 : H1 D = some (.lst ((sidesOf js z).map fun (n : Nat) => V.int n)) := by
    rw [pLen hp] at e3
    exact e3
  have go1 := (Go.ref0 hG).grow sm
  refine q _ _ _ (go1.frz hD e4 (hG.free hD)) ⟨D, _, rfl, SqL.of upd_same, ?_⟩
  rw [show ((sidesOf js z).map fun (n : Nat) => V.int n) = ((sidesOf js z).map fun (n : Nat) => (n : Int)).map V.int from by rw [List.map_map]; rfl]
  exact iP _
end
end Tc
namespace Tc
open PySem PySem.Spec PyProof.Rows L2 Fw Mw TL
local macro_rules | `(tactic| wtm_at "z_ne") => `(tactic| first | assumption | (apply Ne.symm; assumption) | omega)
local macro_rules | `(tactic| wtm_at "z_hp") => `(tactic| first | assumption | exact upd_same | (refine (upd_ne ?_).trans ?_; (focus wtm_at "z_ne"); wtm_at "z_hp"))
local macro_rules | `(tactic| wtm_at "z_sq") => `(tactic| first | assumption | (exact .inl (.inl (by wtm_at "z_hp"))))
local macro_rules | `(tactic| wtm_at "z_side") => `(tactic| first | assumption | omega | (simp only []; omega) | exact ⟨by omega, by omega⟩ | exact ⟨by omega, by omega, by omega⟩ | exact .inl ⟨by omega, by omega⟩ | exact .inr ⟨by omega, by omega⟩ | decide)
local macro_rules | `(tactic| wtm_at "z") => `(tactic| first
  | refine ⟨_, rfl, ?_⟩
  | refine ⟨_, _, rfl, rfl, ?_⟩
  | refine And.intro (by wtm_at "z_side") ?_
  | refine .inl ⟨_, rfl, ?_⟩
  | refine ⟨_, _, _, _, rfl, rfl, (by wtm_at "z_sq"), (by first | rfl | assumption), ?_⟩
  | refine ⟨_, _, _, _, rfl, rfl, (by wtm_at "z_hp"), (by first | rfl | assumption), ?_⟩)
local macro_rules | `(tactic| wtm_at "zb") => `(tactic| dsimp only [L2.tCB, L2.tCons, L2.tNil, L2.tC])
section
variable {P : Program} {w : World} {K : PySem.W.Frag} {mg : Str → Option Value} {base : Heap} {CW : Addr}
theorem ok_reached (F : ∃ f fd Te, FunD K "reached" "reached" (defArgs s_reached) (defBody s_reached) (defScope s_reached) [.ref Te] [] f fd ∧ mg "reached" = some (.ref f) ∧ Binds K fd ["junctions", "start", "closed"] [] ∧ ∃ ds, Vals [V.ref Te] ds ∧ Binds K fd ["junctions", "start", "closed"] ds ∧ ∀ H, SqT K H Te []) (T : Txt K mg CW)  : ReachedAt P w K mg base CW 1 := by
  obtain ⟨f, fd, Te, F, mgf, bf, ds, rd2, bf2, te⟩ := F
  refine ⟨f, fd, ?_, mgf, F.kp, bf, Te, ds, bf2, rd2, te⟩
  refine F.ok sc_reached (fun vs H Q E h => by obtain ⟨_, _, _, rfl, _⟩ := h; rfl) (fun cdv A outer s H vs Q E hr h => ?_)
  refine ⟨_, (pss_cons (ps_set (i := 3) sc_reached.nd rfl (.inl rfl) (pe_disp (pps_cons (pv 1) pe_bl pps_nil) (by rfl) (by rfl) (fun z => by cases z) (by decide)))
      (pss_cons (ps_set (i := 4) sc_reached.nd rfl (.inl rfl) (pe_lst (pa_cons (pv 1) pa_nil)))
      (pss_cons (ps_while (passes_of rfl) (pt_truthK K rfl (pv 4) (by intro _; rfl)) (pss_cons (ps_set (i := 5) sc_reached.nd rfl (.inl rfl) (pe_bm0K K rfl PySem.F.plainAttrs_list PySem.F.slot_list_pop PySem.F.type_list_pop mt_pop (pv 4)))
      (pss_cons (ps_set (i := 6) sc_reached.nd rfl (.inr rfl) (pe_lc (own := [("road", 9)]) rfl sc_reached.nd (pi_tupK K rfl (pe_ix (ix_tupK K rfl) (pv 0) (pv 5) (fun _ _ => rfl))) (blkOk_by (own := [("road", 9)]) (N := N_reached) (sc := defScope s_reached) (by decide +kernel)) (fun _ _ _ _ _ => (pg_name (i := 9) sc_reached.nd rfl (.inl rfl))) (fun _ _ _ _ _ => (pts_one (pt_cmpR (op_notIn_seqK K rfl) (pv 9) (pv 2) rfl))) (fun _ _ _ _ _ => (pv 9))))
      (pss_one (ps_for (passes_of rfl) rfl (pi_enumTK K rfl (by rfl) T.z_enumerate (pa_cons (pv 0) pa_nil)) (pg_tupK (n := 2) K rfl rfl (pgs_cons (pg_name (i := 7) sc_reached.nd rfl (.inl rfl)) (pgs_cons (pg_name (i := 8) sc_reached.nd rfl (.inl rfl)) pgs_nil))) (pss_one (ps_if (PW.pt (pw_and (pt_cmp (pc_dnotin (hu_of hr) (pv 7) (pv 3))) (pw_and1 (pt_val (pe_callB (cr_anyK K rfl rfl) (by rfl) T.z_any (by decide +kernel) (pa_cons (pe_lc (own := [("road", 9)]) rfl sc_reached.nd (pi_tupK K rfl (pv 8)) (blkOk_by (own := [("road", 9)]) (N := N_reached) (sc := defScope s_reached) (by decide +kernel)) (fun _ _ _ _ _ => (pg_name (i := 9) sc_reached.nd rfl (.inl rfl))) (fun _ _ _ _ _ => pts_nil) (fun _ _ _ _ _ => (pe_cmpR (op_in_seqK K rfl) (pv 9) (pv 6) rfl))) pa_nil)))))) (pss_cons (ps_dput (hu_of hr) (pv 3) (pv 7) pe_bl rfl)
      (pss_one (ps_expr (pe_bmK K rfl PySem.F.plainAttrs_list PySem.F.slot_list_append PySem.F.type_list_append mt_append (pv 4) (pa_cons (pv 7) pa_nil))))) pss_nil)))))))
      (pss_one (ps_ret (pv 3)))))), ?_⟩
  obtain ⟨x0, x1, x2, rfl, h⟩ := h
  obtain ⟨G, js, i, cs, c, hG, hx, rfl, hz, hsh, hi, hl, h3, q⟩ := h
  obtain ⟨a, ts, rfl, hs, hp⟩ := hx
  obtain ⟨ac, rfl, hac⟩ := rTs.mp hz
  intro d hd
  refine ⟨_, rfl, ?_⟩
  wtm_at "zb"
  refine ⟨upd_same, [(.inl (i : Int), .bl true)], rfl, (show (1:Nat) ≤ 15 by decide), ?_⟩
  rw [show upd (upd H d (.dK [])) d (.dK (mergeK [] [(Sum.inl (i : Int), V.bl true)])) = upd H d (.dK (numK [i])) from by
    funext x
    by_cases e : x = d
    · subst e; rw [upd_same, upd_same]; rfl
    · rw [upd_ne e, upd_ne e, upd_ne e]]
  refine ⟨_, rfl, (show (1:Nat) ≤ sizeLine by decide), fun l hl' => ?_⟩
  obtain ⟨nld, hl0⟩ := upd_none.mp hl'
  have gd : G d = none := hG.free hd
  have gl : G l = none := hG.free hl0
  refine ⟨Ww ac G H js c i d l a, ⟨_, [i], [i], G, rfl, ⟨_, _, _, _, rfl⟩, ⟨((Go.ref0 hG).tmp hd).tmp hl', (upd_ne (Ne.symm nld)).trans upd_same, gd, upd_same, gl, by simp, ?_, by simp, by simp, Nat.le_refl _, ?_⟩⟩, ?_⟩
  · intro n hn
    rw [List.mem_singleton] at hn
    subst hn
    exact ⟨hi, .here⟩
  · intro n hn hw
    exact absurd hn hw
  rintro m σ H1 ⟨fs, ws, G1, rfl, ⟨x5, x6, x7, x8, rfl⟩, R⟩
  refine ⟨_, rfl, _, .inl ⟨_, SqL.of R.hl, rfl⟩, ?_⟩
  rcases List.eq_nil_or_concat ws with rfl | ⟨ws, n, rfl⟩
  · refine ⟨_, rfl, ?_⟩
    refine q _ _ _ (R.go.frz hd R.hd R.gd) ⟨d, numK fs, rfl, upd_same, fun k => valV_fs.trans ⟨fun h => (R.ok k h).2, fun h => ?_⟩⟩
    exact reach_closed R.st (fun n hn m a => (R.cl n hn (by simp) m a).resolve_right id) h
  rw [List.concat_eq_append] at R ⊢
  refine (if_pos (show (!(List.map (fun (n : Nat) => V.int (n : Int)) (ws ++ [n])).isEmpty) = true by simp)).mpr ?_
  refine ⟨fun σ' H' => ∃ m', m' < _ ∧ Ww ac G H js c i d l a m' σ' H', fun _ _ h => h, ?_⟩
  have hln : n < js.length := (R.ok n (R.sub n (by simp))).1
  have nfs : n ∈ fs := R.sub n (by simp)
  obtain ⟨r, hr'⟩ : ∃ r, js[n]? = some r := ⟨js[n], List.getElem?_eq_getElem hln⟩
  have R2 := R.pop (Ne.symm nld) hl0
  refine ⟨_, rfl, .inl ⟨rfl, _, SqL.of R.hl⟩, ?_⟩
  refine ⟨l, _, .int (n : Nat), rfl, rfl, R.hl, ?_, ?_⟩
  · simp
  rw [show (List.map (fun (n : Nat) => V.int n) (ws ++ [n])).dropLast = ws.map fun (n : Nat) => V.int n from by simp]
  generalize upd H1 l _ = H2 at R2 ⊢
  obtain ⟨v, hv, b, us, rfl, hs2, hp2⟩ := pGet hp hr'
  obtain rfl := pS hp2
  have sG := R2.go.g.trans R2.go.h
  refine ⟨_, rfl, _, rfl, a, ts, (n : Nat), .ref b, rfl, rfl, seqT sG hs, atI_nat hv, ?_⟩
  refine ⟨b, rfl, ⟨_, seqT sG hs2⟩, fun D hD => ?_⟩
  refine lc_flat (walk_tup.mono (fun H' e => seqT e (seqT sG hs2)) fun _ _ _ _ _ _ y => y) (fun _ e => e) hD (fun j => !decide (r.getD j "" = c)) (fun j => .str (r.getD j "")) ?_ (fun _ => rfl) (fun j x hj' hx => ⟨fun H1 ex4 Q q => ?_, fun _ => ?_⟩) (fun H5 sm e3 => ?_)
  · rw [List.length_map, h3 r (List.mem_of_getElem? hr')]
    decide
  · obtain ⟨z, hz, rfl⟩ := map_at hx
    rw [getD_of hz] at q
    refine ⟨_, rfl, _, rfl, ac, _, rfl, .inr (seqT (sG.trans ex4) hac), rfl, by rw [List.all_map]; exact List.all_eq_true.mpr fun _ _ => rfl, _, rfl, ?_⟩
    show Q (!inV (.str z) (cs.map V.str)) H1
    rw [inV_str, show decide (z ∈ cs) = decide (z = c) from decide_eq_decide.mpr (hsh r (List.mem_of_getElem? hr') z (List.mem_of_getElem? hz))]
    exact q H1 (Evl.Ex.refl H1)
  · obtain ⟨z, hz, rfl⟩ := map_at hx
    rw [getD_of hz]
    exact fun H1 _ Q q => ⟨_, rfl, q H1 (Evl.Ex.refl H1)⟩
  rw [List.length_map, given_map r "" (fun z => !decide (z = c)) V.str] at e3
  have R3 := R2.grow sm
  have nDd : D ≠ d := fun z => by rw [z, R2.hd] at hD; cases hD
  have nDl : D ≠ l := fun z => by rw [z, R2.hl] at hD; cases hD
  refine ⟨_, rfl, a, ts, rfl, seqT (R3.go.g.trans R3.go.h) hs, for_it (Yr.walk_num (xs := ts)) (Wf ac G H js c i d l a D n r (2 * (js.length - fs.length) + (ws ++ [n]).length)) ⟨⟨_, _, rfl⟩, fs, ws, G1, R3, e3, nfs, ?_⟩ (fun j σ H' _ h => ?_) ?_ ?_⟩
  · rw [List.length_append]
    exact Nat.lt_succ_self _
  · obtain ⟨_, _, _, _, Rh, _⟩ := h
    exact seqT (Rh.go.g.trans Rh.go.h) hs
  · rintro j x σ H6 H7 hj' ⟨⟨x7, x8, rfl⟩, fs2, ws2, G2, R4, e4, nf2, lt2⟩ ⟨T, y1, y2, rfl, hT, rfl, z1, z2⟩
    obtain rfl := Option.some.inj z1
    have hjl : j < js.length := by rw [← pLen hp]; exact hj'
    obtain ⟨w2, hw2, b2, us2, rfl, hs4, hp4⟩ := pAt hp z2
    obtain rfl := pS hp4
    have R5 := R4.grow (same_upd (o := .tup [.int (0 + (j : Nat)), .ref b2]) hT)
    have e5 : upd H6 T (.tup [.int (0 + (j : Nat)), .ref b2]) D = some (.lst ((opens r c).map V.str)) := same_upd hT _ _ e4
    have hT2 : SqT K (upd H6 T (.tup [.int (0 + (j : Nat)), .ref b2])) T [.int (0 + (j : Nat)), .ref b2] := SqT.of upd_same
    generalize upd H6 T (.tup [.int (0 + (j : Nat)), .ref b2]) = H7 at R5 e5 hT2 ⊢
    rw [Int.zero_add] at hT2
    have sG2 := R5.go.g.trans R5.go.h
    refine ⟨T, _, rfl, hT2, rfl, _, _, rfl, _, _, rfl, rfl, ?_⟩
    refine ⟨_, rfl, _, rfl, d, _, rfl, DGet.k (k := .inl (j : Int)) R5.hd, _, rfl, ?_⟩
    by_cases hf : j ∈ fs2
    · rw [valV_fs.mpr hf]
      refine iteF (A := True) ?_
      refine ⟨⟨_, _, rfl⟩, fs2, ws2, G2, R5.skip (.inl hf), e5, nf2, lt2⟩
    rw [valV_no hf]
    refine iteT (B := True) ?_
    have hs5 := seqT sG2 hs4
    refine ⟨_, rfl, b2, rfl, ⟨_, hs5⟩, fun D2 hD2 => ?_⟩
    refine lc_flat (walk_tup.mono (fun H' e => seqT e hs5) fun _ _ _ _ _ _ y => y) (fun _ e => e) hD2 (fun _ => true) (fun k => .bl (decide (w2.getD k "" ∈ opens r c))) ?_ (fun _ => rfl) (fun k x hk hx => ⟨fun H1 _ Q q => q H1 (Evl.Ex.refl H1), fun _ => ?_⟩) (fun H8 sm8 e8 => ?_)
    · rw [List.length_map, h3 w2 (List.mem_of_getElem? hw2)]
      decide
    · obtain ⟨z, hz, rfl⟩ := map_at hx
      rw [getD_of hz]
      refine fun H1 e Q q => ⟨_, rfl, _, rfl, D, _, rfl, .inl (SqL.of (e _ _ e5)), rfl, by rw [List.all_map]; exact List.all_eq_true.mpr fun _ _ => rfl, ?_⟩
      show Q (.bl (inV (.str z) ((opens r c).map V.str))) H1
      rw [inV_str]
      exact q H1 (Evl.Ex.refl H1)
    rw [List.length_map, given_all w2 "" (fun z => V.bl (decide (z ∈ opens r c)))] at e8
    have R8 := R5.grow sm8
    refine ⟨D2, w2.map fun z => decide (z ∈ opens r c), rfl, .inl (.inl (by rw [List.map_map]; exact e8)), _, rfl, ?_⟩
    by_cases ha : Adj js c n j
    · refine (if_pos ((adj_iff hr' hw2).mpr ha)).mpr ?_
      have R9 := R8.find (Ne.symm nld) hd hl0 nf2 hjl hf ha
      have lf := R8.less hjl hf
      refine ⟨_, rfl, _, rfl, d, _, rfl, DPut.k (k := .inl (j : Int)) R8.hd ?_, ?_⟩
      · rw [List.length_map]
        exact Nat.lt_of_le_of_lt (m := 1000) (by omega) (by decide)
      rw [numK_put hf]
      refine ⟨_, rfl, .inl ⟨rfl, _, SqL.of ((upd_ne nld).trans R8.hl)⟩, _, rfl, ?_⟩
      refine ⟨l, _, .int (j : Nat), rfl, rfl, (upd_ne nld).trans R8.hl, ?_, ?_⟩
      · rw [List.length_map]
        have hm := R8.bd
        exact Nat.lt_of_le_of_lt (m := 1000) (by omega) (by decide)
      refine ⟨⟨_, _, rfl⟩, _, _, G2, R9, ?_, List.mem_append_left _ nf2, ?_⟩
      · refine (upd_ne ?_).trans ((upd_ne ?_).trans (sm8 _ _ e5))
        · exact nDl
        · exact nDd
      · rw [List.length_append, List.length_append, List.length_singleton]
        omega
    · rw [show ((w2.map fun z => decide (z ∈ opens r c)).any id) = false from Bool.eq_false_iff.mpr fun z => ha ((adj_iff hr' hw2).mp z)]
      refine iteF (A := True) ?_
      exact ⟨⟨_, _, rfl⟩, fs2, ws2, G2, R8.skip (.inr ha), sm8 _ _ e5, nf2, lt2⟩
  · rintro σ H6 ⟨⟨x7, x8, rfl⟩, fs2, ws2, G2, R4, e4, nf2, lt2⟩
    rw [pLen hp] at R4
    exact ⟨_, lt2, fs2, ws2, G2, rfl, ⟨_, _, _, _, rfl⟩, R4.end⟩
end
end Tc
namespace Tc
open PySem PySem.Spec PyProof.Rows L2 Fw Mw TL
local macro_rules | `(tactic| wtm_at "z_ne") => `(tactic| first | assumption | (apply Ne.symm; assumption) | omega)
local macro_rules | `(tactic| wtm_at "z_hp") => `(tactic| first | assumption | exact upd_same | (refine (upd_ne ?_).trans ?_; (focus wtm_at "z_ne"); wtm_at "z_hp"))
local macro_rules | `(tactic| wtm_at "z_sq") => `(tactic| first | assumption | (exact .inl (.inl (by wtm_at "z_hp"))))
local macro_rules | `(tactic| wtm_at "z_side") => `(tactic| first | assumption | omega | (simp only []; omega) | exact ⟨by omega, by omega⟩ | exact ⟨by omega, by omega, by omega⟩ | exact .inl ⟨by omega, by omega⟩ | exact .inr ⟨by omega, by omega⟩ | decide)
local macro_rules | `(tactic| wtm_at "z") => `(tactic| first
  | refine ⟨_, rfl, ?_⟩
  | refine ⟨_, _, rfl, rfl, ?_⟩
  | refine And.intro (by wtm_at "z_side") ?_
  | refine .inl ⟨_, rfl, ?_⟩
  | refine ⟨_, _, _, _, rfl, rfl, (by wtm_at "z_sq"), (by first | rfl | assumption), ?_⟩
  | refine ⟨_, _, _, _, rfl, rfl, (by wtm_at "z_hp"), (by first | rfl | assumption), ?_⟩)
local macro_rules | `(tactic| wtm_at "zb") => `(tactic| dsimp only [L2.tCB, L2.tCons, L2.tNil, L2.tC])
section
variable {P : Program} {w : World} {K : PySem.W.Frag} {mg : Str → Option Value} {base : Heap} {CW : Addr}
theorem ok_check_hanging_together (F : FunAt K mg "check_hanging_together" s_check_hanging_together ["junctions"]) (T : Txt K mg CW) (C_reached : ReachedAt P w K mg base CW 1) : Cal P w K mg base CX0 "check_hanging_together" 2 ["junctions"] [] (sp_check_hanging_together K CW) := by
  obtain ⟨f, fd, F, mgf, bf⟩ := F
  obtain ⟨f_reached, fd_reached, G_reached, m_reached, k_reached, b_reached, Te_reached, ds_reached, b2_reached, d2_reached, e2_reached⟩ := C_reached
  have d_reached : Vals [] [] := .nil
  refine ⟨f, fd, [], ?_, mgf, F.kp, bf, .nil⟩
  refine F.ok sc_check_hanging_together (fun vs H Q E h => by obtain ⟨_, rfl, _⟩ := h; rfl) (fun cdv A outer s H vs Q E hr h => ?_)
  refine ⟨_, (pss_cons (ps_set (i := 1) sc_check_hanging_together.nd rfl (.inl rfl) (pe_call G_reached (hr.mono (by decide)) (by rfl) m_reached k_reached b2_reached d2_reached pass0 (pa_cons (pv 0) (pa_cons pe_int pa_nil))))
      (pss_one (ps_for PassesOwn.never rfl (pi_range1 (by rfl) T.z_range (pa_cons (pe_callB (call_len_seqK K rfl) (by rfl) T.z_len (by decide +kernel) (pa_cons (pv 0) pa_nil)) pa_nil)) (pg_name (i := 2) sc_check_hanging_together.nd rfl (.inl rfl)) (pss_one (ps_if (pt_cmp (pc_dnotin (hu_of hr) (pv 2) (pv 1))) (pss_one ps_never) pss_nil))))), ?_⟩
  obtain ⟨x0, rfl, h⟩ := h
  obtain ⟨G, js, hG, hx, hj, hw, q⟩ := h
  have hmost := hj.most
  have hpos : 0 < js.length := by
    cases js with
    | nil => exact absurd rfl hj.some
    | cons _ _ => simp
  refine ⟨_, rfl, ?_⟩
  wtm_at "zb"
  refine ⟨_, _, _, rfl, G, js, 0, [], "", hG, hx, rfl, ⟨_, [], rfl, e2_reached G, .nil⟩, fun r hr x hx => ?_, hpos, by omega, fun r hr => (hj.rows r hr).len, fun v1 G1 H1 go1 hv1 => ?_⟩
  · exact ⟨fun z => (nomatch z), fun z => absurd ((hj.rows r hr).names x hx) (by rw [z]; decide)⟩
  obtain ⟨d, kvs, rfl, hd, hk⟩ := hv1
  have hd1 := go1.h _ _ hd
  obtain ⟨a, ts, rfl, hs, hp⟩ := hx
  refine ⟨_, rfl, ?_⟩
  wtm_at "zb"
  refine ⟨a, ts, rfl, .inr (seqT (go1.g.trans go1.h) hs), ?_⟩
  have hlt : ts.length = js.length := pLen hp
  refine ⟨_, rfl, by omega, by omega, ?_⟩
  rw [Int.toNat_natCast]
  refine for_it (D := { nx := fun _ H' => Q .non H', rt := Q }) (walk_range (lo := 0) (n := ts.length)) (fun i σ H' => (∃ x2, σ = [some (.ref a), some (.ref d), x2]) ∧ H' = H1) ⟨⟨_, rfl⟩, rfl⟩ (fun _ _ _ _ _ => trivial) ?_ ?_
  · rintro i x σ H2 H3 hi ⟨⟨x2, rfl⟩, rfl⟩ ⟨rfl, rfl⟩
    refine ⟨_, rfl, _, rfl, d, _, rfl, DGet.k (k := .inl (0 + (i : Int))) hd1, _, rfl, ?_⟩
    rw [Int.zero_add, (hk i).mpr (hw i (by omega))]
    exact ⟨⟨_, rfl⟩, rfl⟩
  · rintro σ H2 ⟨⟨x2, rfl⟩, rfl⟩
    exact q _ go1.all
end
end Tc
namespace Tc
open PySem PySem.Spec PyProof.Rows L2 Fw Mw TL
local macro_rules | `(tactic| wtm_at "z_ne") => `(tactic| first | assumption | (apply Ne.symm; assumption) | omega)
local macro_rules | `(tactic| wtm_at "z_hp") => `(tactic| first | assumption | exact upd_same | (refine (upd_ne ?_).trans ?_; (focus wtm_at "z_ne"); wtm_at "z_hp"))
local macro_rules | `(tactic| wtm_at "z_sq") => `(tactic| first | assumption | (exact .inl (.inl (by wtm_at "z_hp"))))
local macro_rules | `(tactic| wtm_at "z_side") => `(tactic| first | assumption | omega | (simp only []; omega) | exact ⟨by omega, by omega⟩ | exact ⟨by omega, by omega, by omega⟩ | exact .inl ⟨by omega, by omega⟩ | exact .inr ⟨by omega, by omega⟩ | decide)
local macro_rules | `(tactic| wtm_at "z") => `(tactic| first
  | refine ⟨_, rfl, ?_⟩
  | refine ⟨_, _, rfl, rfl, ?_⟩
  | refine And.intro (by wtm_at "z_side") ?_
  | refine .inl ⟨_, rfl, ?_⟩
  | refine ⟨_, _, _, _, rfl, rfl, (by wtm_at "z_sq"), (by first | rfl | assumption), ?_⟩
  | refine ⟨_, _, _, _, rfl, rfl, (by wtm_at "z_hp"), (by first | rfl | assumption), ?_⟩)
local macro_rules | `(tactic| wtm_at "zb") => `(tactic| dsimp only [L2.tCB, L2.tCons, L2.tNil, L2.tC])
section
variable {P : Program} {w : World} {K : PySem.W.Frag} {mg : Str → Option Value} {base : Heap} {CW : Addr}
theorem ok_Web_init__ (F : ∃ f fd, Fun K "__init__" "Web.__init__" s_Web_init__ f fd ∧ Mk K CW f ∧ Binds K fd ["self", "text"] []) (T : Txt K mg CW) (C_read_junctions : Cal P w K mg base CX0 "read_junctions" 3 ["text"] [] (sp_read_junctions K CW)) (C_check_hanging_together : Cal P w K mg base CX0 "check_hanging_together" 2 ["junctions"] [] (sp_check_hanging_together K CW)) (C_all_words : Cal P w K mg base CX0 "all_words" 1 ["junctions"] [] (sp_all_words K CW)) : InitAt P w K mg base CW 4 := by
  obtain ⟨f, fd, F, mk, bf⟩ := F
  obtain ⟨f_read_junctions, fd_read_junctions, ds_read_junctions, G_read_junctions, m_read_junctions, k_read_junctions, b_read_junctions, d_read_junctions⟩ := C_read_junctions
  obtain ⟨f_check_hanging_together, fd_check_hanging_together, ds_check_hanging_together, G_check_hanging_together, m_check_hanging_together, k_check_hanging_together, b_check_hanging_together, d_check_hanging_together⟩ := C_check_hanging_together
  obtain ⟨f_all_words, fd_all_words, ds_all_words, G_all_words, m_all_words, k_all_words, b_all_words, d_all_words⟩ := C_all_words
  refine ⟨f, fd, [], ?_, mk, bf, .nil⟩
  refine F.ok sc_Web_init__ (fun vs H Q E h => by obtain ⟨_, _, rfl, _⟩ := h; rfl) (fun cdv A outer s H vs Q E hr h => ?_)
  refine ⟨_, (pss_cons (ps_set (i := 2) sc_Web_init__.nd rfl (.inl rfl) (pe_call G_read_junctions (hr.mono (by decide)) (by rfl) m_read_junctions k_read_junctions b_read_junctions d_read_junctions pass0 (pa_cons (pv 1) pa_nil)))
      (pss_cons (ps_expr (pe_call G_check_hanging_together (hr.mono (by decide)) (by rfl) m_check_hanging_together k_check_hanging_together b_check_hanging_together d_check_hanging_together pass0 (pa_cons (pv 2) pa_nil)))
      (pss_cons (ps_set (i := 3) sc_Web_init__.nd rfl (.inr rfl) (pe_call G_all_words (hr.mono (by decide)) (by rfl) m_all_words k_all_words b_all_words d_all_words pass0 (pa_cons (pv 2) pa_nil)))
      (pss_cons (ps_fldK K rfl (pv 0) (pv 1))
      (pss_cons (ps_fldK K rfl (pv 0) (pv 2))
      (pss_cons (ps_fldK K rfl (pv 0) (pe_callTy (call_tuple_ofK K rfl) (by rfl) T.z_tuple (by decide +kernel) (pa_cons (pe_callB (Ys.cr_sortedW rfl) (by rfl) T.z_sorted (by decide +kernel) (pa_cons (pe_callTy (cr_setWK K rfl w rfl rfl) (by rfl) T.z_set (by decide +kernel) (pa_cons (pv 3) pa_nil)) pa_nil)) pa_nil)))
      (pss_cons (ps_fldK K rfl (pv 0) (pe_callTy (call_tuple_ofK K rfl) (by rfl) T.z_tuple (by decide +kernel) (pa_cons (pe_lc (own := [("road", 4)]) rfl sc_Web_init__.nd (pi_tupK K rfl (pe_fldK K rfl (pv 0))) (blkOk_by (own := [("road", 4)]) (N := N_Web_init__) (sc := defScope s_Web_init__) (by decide +kernel)) (fun _ _ _ _ _ => (pg_name (i := 4) sc_Web_init__.nd rfl (.inl rfl))) (fun _ _ _ _ _ => (pts_one (pt_cmpR op_eq (pe_bmK K rfl PySem.F.plainAttrs_list PySem.F.slot_list_count PySem.F.type_list_count (mt_lcountSK K rfl) (pv 3) (pa_cons (pv 4) pa_nil)) pe_int (nomark _)))) (fun _ _ _ _ _ => (pv 4))) pa_nil)))
      (pss_cons (ps_fldK K rfl (pv 0) (pe_callTy (call_tuple_ofK K rfl) (by rfl) T.z_tuple (by decide +kernel) (pa_cons (pe_lc (own := [("road", 4)]) rfl sc_Web_init__.nd (pi_tupK K rfl (pe_fldK K rfl (pv 0))) (blkOk_by (own := [("road", 4)]) (N := N_Web_init__) (sc := defScope s_Web_init__) (by decide +kernel)) (fun _ _ _ _ _ => (pg_name (i := 4) sc_Web_init__.nd rfl (.inl rfl))) (fun _ _ _ _ _ => (pts_one (pt_cmpR op_eq (pe_bmK K rfl PySem.F.plainAttrs_list PySem.F.slot_list_count PySem.F.type_list_count (mt_lcountSK K rfl) (pv 3) (pa_cons (pv 4) pa_nil)) pe_int (nomark _)))) (fun _ _ _ _ _ => (pv 4))) pa_nil)))
      (pss_one (ps_fldK K rfl (pv 0) (pe_op op_add (pe_op op_sub (pe_callB (call_len_seqK K rfl) (by rfl) T.z_len (by decide +kernel) (pa_cons (pe_fldK K rfl (pv 0)) pa_nil)) (pe_callB (call_len_seqK K rfl) (by rfl) T.z_len (by decide +kernel) (pa_cons (pv 2) pa_nil))) pe_int))))))))))), ?_⟩
  obtain ⟨x0, x1, rfl, h⟩ := h
  obtain ⟨G, js, a, dx, hG, gA, rfl, rfl, hA, hj, hw, q⟩ := h
  refine ⟨_, rfl, ?_⟩
  wtm_at "zb"
  refine ⟨_, rfl, G, js, hG, rfl, hj, fun vj G1 H1 go1 hvj => ?_⟩
  have hA1 := go1.to hA
  have gA1 := go1.none hA gA
  refine ⟨_, rfl, ?_⟩
  wtm_at "zb"
  refine ⟨_, rfl, G1, js, go1.h, hvj, hj, hw, fun H2 sm2 => ?_⟩
  have go2 := go1.grow sm2
  have hA2 := sm2 _ _ hA1
  refine ⟨_, rfl, ?_⟩
  wtm_at "zb"
  have hm := hj.most
  have fl : (words js).length = 3 * js.length := by
    have h1 : ∀ l : Rows, (∀ x ∈ l, x.length = 3) → l.flatten.length = 3 * l.length := by
      intro l
      induction l with
      | nil => intro _; rfl
      | cons x l ih =>
        intro h
        rw [List.flatten_cons, List.length_append, List.length_cons, ih fun y hy => h y (List.mem_cons_of_mem _ hy), h x List.mem_cons_self]
        omega
    exact h1 js fun x hx => (hj.rows x hx).len
  refine ⟨_, rfl, G1, js, go2.h, .inr hvj, (by have : js.flatten.length = _ := fl; omega), fun v3 G3 H3 go3 hv3 => ?_⟩
  obtain ⟨p3, rfl, hs3⟩ := rLs.mp hv3
  have goA : Go [a] G H G3 H3 := (go2.trans go3).wide
  have hA3 := go3.to hA2
  have gA3 := go3.none hA2 gA1
  have hvj3 := Mo.up go3.g hvj
  refine ⟨_, rfl, _, rfl, a, CW, dx, _, rfl, hA3, T.cl, T.n_text, (by decide), ?_⟩
  rw [pf_text]
  have goB := goA.mut (p := a) (o := .ins CW dx (wf1 (.str (webText js)))) gA3 (.inr (by simp))
  have hAB : upd H3 a (.ins CW dx (wf1 (.str (webText js)))) a = _ := upd_same
  generalize upd H3 a (.ins CW dx (wf1 (.str (webText js)))) = HB at goB hAB ⊢
  refine ⟨_, rfl, _, rfl, a, CW, dx, _, rfl, hAB, T.cl, T.n_junctions, (show (1:Nat) < 1000 by decide), ?_⟩
  rw [pf_junctions]
  have goC := goB.mut (p := a) (o := .ins CW dx (wf2 (.str (webText js)) vj)) gA3 (.inr (by simp))
  have hAC : upd HB a (.ins CW dx (wf2 (.str (webText js)) vj)) a = _ := upd_same
  generalize upd HB a (.ins CW dx (wf2 (.str (webText js)) vj)) = HC at goC hAC ⊢
  refine ⟨_, rfl, ?_⟩
  wtm_at "zb"
  refine ⟨p3, words js, rfl, .inl (goC.h.seq hs3), (by omega), fun ps ks hps nd mem len => ?_⟩
  have goD := goC.tmp (o := Ys.WSet w ps ks) hps
  have hAD : upd HC ps (Ys.WSet w ps ks) a = _ := (upd_ne (ne_of_none hAC hps)).trans hAC
  have hsD : upd HC ps (Ys.WSet w ps ks) ps = _ := upd_same
  generalize upd HC ps (Ys.WSet w ps ks) = HD at goD hAD hsD ⊢
  refine ⟨ps, ks, rfl, hsD, (by omega), fun ys py perm srt hpy => ?_⟩
  obtain rfl := roads_uniq nd mem perm srt
  have hrl := perm.length_eq
  have goE := goD.tmp (o := .lst ((roadsOf js).map V.str)) hpy
  have hAE : upd HD py (.lst ((roadsOf js).map V.str)) a = _ := (upd_ne (ne_of_none hAD hpy)).trans hAD
  have hsE : upd HD py (.lst ((roadsOf js).map V.str)) py = _ := upd_same
  generalize upd HD py (.lst ((roadsOf js).map V.str)) = HE at goE hAE hsE ⊢
  refine ⟨py, _, rfl, .inl ⟨SqL.of hsE, fun l hl => ?_⟩⟩
  have goF := goE.new (o := .tup ((roadsOf js).map V.str)) hl
  have hAF : upd HE l (.tup ((roadsOf js).map V.str)) a = _ := (upd_ne (ne_of_none hAE hl)).trans hAE
  have gF : Same G3 (upd G3 l (.tup ((roadsOf js).map V.str))) := same_upd (goE.gnone hl)
  have gAF : upd G3 l (.tup ((roadsOf js).map V.str)) a = none := (upd_ne (ne_of_none hAE hl)).trans gA3
  have hrF : SqT K (upd G3 l (.tup ((roadsOf js).map V.str))) l ((roadsOf js).map V.str) := SqT.of upd_same
  generalize upd HE l (.tup ((roadsOf js).map V.str)) = HF at goF hAF ⊢
  generalize upd G3 l (.tup ((roadsOf js).map V.str)) = GF at goF gF hrF gAF ⊢
  refine ⟨_, rfl, a, CW, dx, _, rfl, hAF, T.cl, T.n_roads, (show (2:Nat) < 1000 by decide), ?_⟩
  rw [pf_roads]
  have hs3F := Same.seq gF hs3
  have goI0 := goF.mut (p := a) (o := .ins CW dx (wf3 (.str (webText js)) vj (.ref l))) gAF (.inr (by simp))
  have hAI0 : upd HF a (.ins CW dx (wf3 (.str (webText js)) vj (.ref l))) a = _ := upd_same
  generalize upd HF a (.ins CW dx (wf3 (.str (webText js)) vj (.ref l))) = HI0 at goI0 hAI0 ⊢
  refine ⟨_, rfl, a, CW, dx, _, .ref l, rfl, hAI0, T.cl, T.n_roads, lk3, ?_⟩
  refine ⟨l, rfl, ⟨_, seqT goI0.h hrF⟩, fun D hD => ?_⟩
  refine lc_flat (walk_tup.mono (fun H' e => seqT e (seqT goI0.h hrF)) fun _ _ _ _ _ _ y => y) (fun _ e => e) hD (fun j => decide ((words js).count ((roadsOf js).getD j "") = 2)) (fun j => .str ((roadsOf js).getD j "")) ?_ (fun _ => rfl) (fun j x hj' hx => ⟨fun H1 ex Q q => ?_, fun _ => ?_⟩) (fun H5 sm e3 => ?_)
  · rw [List.length_map]
    omega
  · obtain ⟨z, hz, rfl⟩ := map_at hx
    rw [getD_of hz] at q
    refine ⟨_, rfl, .inl ⟨rfl, _, Same.seq (goI0.h.trans ex) hs3F⟩, _, rfl, ?_⟩
    wtm_at "zb"
    refine ⟨p3, _, z, rfl, rfl, Same.seq (goI0.h.trans ex) hs3F, rfl, _, rfl, ?_⟩
    have q' := q H1 (Evl.Ex.refl H1)
    rw [← dec_nat 2] at q'
    exact q'
  · obtain ⟨z, hz, rfl⟩ := map_at hx
    rw [getD_of hz]
    exact fun H1 _ Q q => ⟨_, rfl, q H1 (Evl.Ex.refl H1)⟩
  rw [List.length_map, given_map (roadsOf js) "" (fun z => decide ((words js).count z = 2)) V.str] at e3
  have goI1 := goI0.grow sm
  have hAI1 := sm _ _ hAI0
  refine ⟨D, _, rfl, .inl ⟨SqL.of e3, fun li hli => ?_⟩⟩
  have goI := goI1.new (o := .tup ((innerOf js).map V.str)) hli
  have hAI : upd H5 li (.tup ((innerOf js).map V.str)) a = _ := (upd_ne (ne_of_none hAI1 hli)).trans hAI1
  have gI : Same GF (upd GF li (.tup ((innerOf js).map V.str))) := same_upd (goI1.gnone hli)
  have gAI : upd GF li (.tup ((innerOf js).map V.str)) a = none := (upd_ne (ne_of_none hAI1 hli)).trans gAF
  have hrI : SqT K (upd GF li (.tup ((innerOf js).map V.str))) li ((innerOf js).map V.str) := SqT.of upd_same
  have hsI := Same.seq gI hs3F
  have hlI := seqT gI hrF
  rw [show ((innerOf js).map V.str) = (List.filter (fun z => decide ((words js).count z = 2)) (roadsOf js)).map V.str from rfl] at goI hAI gI gAI hrI hsI hlI
  generalize upd H5 li _ = HI at goI hAI ⊢
  generalize upd GF li _ = GI at goI gI gAI hrI hsI hlI ⊢
  refine ⟨_, rfl, a, CW, dx, _, rfl, hAI, T.cl, T.n_inner, (show (3:Nat) < 1000 by decide), ?_⟩
  rw [pf_inner]
  have goX0 := goI.mut (p := a) (o := .ins CW dx (wf4 (.str (webText js)) vj (.ref l) (.ref li))) gAI (.inr (by simp))
  have hAX0 : upd HI a (.ins CW dx (wf4 (.str (webText js)) vj (.ref l) (.ref li))) a = _ := upd_same
  generalize upd HI a (.ins CW dx (wf4 (.str (webText js)) vj (.ref l) (.ref li))) = HX0 at goX0 hAX0 ⊢
  refine ⟨_, rfl, a, CW, dx, _, .ref l, rfl, hAX0, T.cl, T.n_roads, lk4, ?_⟩
  refine ⟨l, rfl, ⟨_, seqT goX0.h hlI⟩, fun D hD => ?_⟩
  refine lc_flat (walk_tup.mono (fun H' e => seqT e (seqT goX0.h hlI)) fun _ _ _ _ _ _ y => y) (fun _ e => e) hD (fun j => decide ((words js).count ((roadsOf js).getD j "") = 1)) (fun j => .str ((roadsOf js).getD j "")) ?_ (fun _ => rfl) (fun j x hj' hx => ⟨fun H1 ex Q q => ?_, fun _ => ?_⟩) (fun H5 sm e3 => ?_)
  · rw [List.length_map]
    omega
  · obtain ⟨z, hz, rfl⟩ := map_at hx
    rw [getD_of hz] at q
    refine ⟨_, rfl, .inl ⟨rfl, _, Same.seq (goX0.h.trans ex) hsI⟩, _, rfl, ?_⟩
    wtm_at "zb"
    refine ⟨p3, _, z, rfl, rfl, Same.seq (goX0.h.trans ex) hsI, rfl, _, rfl, ?_⟩
    have q' := q H1 (Evl.Ex.refl H1)
    rw [← dec_nat 1] at q'
    exact q'
  · obtain ⟨z, hz, rfl⟩ := map_at hx
    rw [getD_of hz]
    exact fun H1 _ Q q => ⟨_, rfl, q H1 (Evl.Ex.refl H1)⟩
  rw [List.length_map, given_map (roadsOf js) "" (fun z => decide ((words js).count z = 1)) V.str] at e3
  have goX1 := goX0.grow sm
  have hAX1 := sm _ _ hAX0
  refine ⟨D, _, rfl, .inl ⟨SqL.of e3, fun le hle => ?_⟩⟩
  have goE' := goX1.new (o := .tup ((endsOf js).map V.str)) hle
  have hAE' : upd H5 le (.tup ((endsOf js).map V.str)) a = _ := (upd_ne (ne_of_none hAX1 hle)).trans hAX1
  have gE' : Same GI (upd GI le (.tup ((endsOf js).map V.str))) := same_upd (goX1.gnone hle)
  have gAE' : upd GI le (.tup ((endsOf js).map V.str)) a = none := (upd_ne (ne_of_none hAX1 hle)).trans gAI
  have hrE' : SqT K (upd GI le (.tup ((endsOf js).map V.str))) le ((endsOf js).map V.str) := SqT.of upd_same
  have hsE' := Same.seq gE' hsI
  have hlE' := seqT gE' hlI
  rw [show ((endsOf js).map V.str) = (List.filter (fun z => decide ((words js).count z = 1)) (roadsOf js)).map V.str from rfl] at goE' hAE' gE' gAE' hrE' hsE' hlE'
  generalize upd H5 le _ = HE' at goE' hAE' ⊢
  generalize upd GI le _ = GE' at goE' gE' gAE' hrE' hsE' hlE' ⊢
  refine ⟨_, rfl, a, CW, dx, _, rfl, hAE', T.cl, T.n_ends, (show (4:Nat) < 1000 by decide), ?_⟩
  rw [pf_ends]
  have goR0 := goE'.mut (p := a) (o := .ins CW dx (wf5 (.str (webText js)) vj (.ref l) (.ref li) (.ref le))) gAE' (.inr (by simp))
  have hAR0 : upd HE' a (.ins CW dx (wf5 (.str (webText js)) vj (.ref l) (.ref li) (.ref le))) a = _ := upd_same
  generalize upd HE' a (.ins CW dx (wf5 (.str (webText js)) vj (.ref l) (.ref li) (.ref le))) = HR at goR0 hAR0 ⊢
  have hvjE : rT K (rT K rS) GE' vj js := Mo.up ((gF.trans gI).trans gE') hvj3
  have hvjR := hvjE
  obtain ⟨aj, tsj, rfl, hsj, hpj⟩ := hvjE
  have hli : SqT K GE' li ((innerOf js).map V.str) := seqT gE' hrI
  refine ⟨_, rfl, a, CW, dx, _, .ref li, rfl, hAR0, T.cl, T.n_inner, lk5, ?_⟩
  wtm_at "zb"
  refine ⟨li, _, rfl, .inr (seqT goR0.h hli), ?_⟩
  refine ⟨_, rfl, ?_⟩
  wtm_at "zb"
  refine ⟨aj, tsj, rfl, .inr (seqT goR0.h hsj), ?_⟩
  refine ⟨_, _, rfl, rfl, ?_⟩
  refine ⟨_, _, rfl, rfl, ?_⟩
  refine ⟨_, rfl, a, CW, dx, _, rfl, hAR0, T.cl, T.n_rounds, (show (5:Nat) < 1000 by decide), ?_⟩
  rw [pf_rounds]
  refine q _ _ (goR0.mut gAE' (.inr (by simp))) ⟨_, _, _, _, _, _, upd_same, ⟨rfl, hvjR, rTs.mpr ⟨l, rfl, hlE'⟩, rTs.mpr ⟨li, rfl, hli⟩, rTs.mpr ⟨le, rfl, hrE'⟩, ?_⟩⟩
  rw [List.length_map, pLen hpj]
  rfl
end
end Tc
namespace Tc
open PySem PySem.Spec PyProof.Rows L2 Fw Mw TL
local macro_rules | `(tactic| wtm_at "z_ne") => `(tactic| first | assumption | (apply Ne.symm; assumption) | omega)
local macro_rules | `(tactic| wtm_at "z_hp") => `(tactic| first | assumption | exact upd_same | (refine (upd_ne ?_).trans ?_; (focus wtm_at "z_ne"); wtm_at "z_hp"))
local macro_rules | `(tactic| wtm_at "z_sq") => `(tactic| first | assumption | (exact .inl (.inl (by wtm_at "z_hp"))))
local macro_rules | `(tactic| wtm_at "z_side") => `(tactic| first | assumption | omega | (simp only []; omega) | exact ⟨by omega, by omega⟩ | exact ⟨by omega, by omega, by omega⟩ | exact .inl ⟨by omega, by omega⟩ | exact .inr ⟨by omega, by omega⟩ | decide)
local macro_rules | `(tactic| wtm_at "z") => `(tactic| first
  | refine ⟨_, rfl, ?_⟩
  | refine ⟨_, _, rfl, rfl, ?_⟩
  | refine And.intro (by wtm_at "z_side") ?_
  | refine .inl ⟨_, rfl, ?_⟩
  | refine ⟨_, _, _, _, rfl, rfl, (by wtm_at "z_sq"), (by first | rfl | assumption), ?_⟩
  | refine ⟨_, _, _, _, rfl, rfl, (by wtm_at "z_hp"), (by first | rfl | assumption), ?_⟩)
local macro_rules | `(tactic| wtm_at "zb") => `(tactic| dsimp only [L2.tCB, L2.tCons, L2.tNil, L2.tC])
section
variable {P : Program} {w : World} {K : PySem.W.Frag} {mg : Str → Option Value} {base : Heap} {CW : Addr}
theorem ok_text_of (F : FunAt K mg "text_of" s_text_of ["junctions"]) (T : Txt K mg CW)  : Cal P w K mg base CX0 "text_of" 1 ["junctions"] [] (sp_text_of K CW) := by
  obtain ⟨f, fd, F, mgf, bf⟩ := F
  obtain ⟨t_FIRST_WORD, c_FIRST_WORD⟩ := T.c_FIRST_WORD
  obtain ⟨t_FIRST_LINE, c_FIRST_LINE⟩ := T.c_FIRST_LINE
  refine ⟨f, fd, [], ?_, mgf, F.kp, bf, .nil⟩
  refine F.ok sc_text_of (fun vs H Q E h => by obtain ⟨_, rfl, _⟩ := h; rfl) (fun cdv A outer s H vs Q E hr h => ?_)
  refine ⟨_, (pss_cons (ps_setLc (i := 1) (own := [("first", 2), ("second", 3), ("third", 4)]) rfl sc_text_of.nd rfl rfl (sw_true rfl rfl rfl (by decide +kernel)) (pi_tupK K rfl (pv 0)) (blkOk_by (own := [("first", 2), ("second", 3), ("third", 4)]) (N := N_text_of) (sc := defScope s_text_of) (by decide +kernel)) (fun _ _ _ _ _ => (pg_tupK (n := 3) K rfl rfl (pgs_cons (pg_name (i := 2) sc_text_of.nd rfl (.inl rfl)) (pgs_cons (pg_name (i := 3) sc_text_of.nd rfl (.inl rfl)) (pgs_cons (pg_name (i := 4) sc_text_of.nd rfl (.inl rfl)) pgs_nil))))) (fun _ _ _ _ _ => pts_nil) (fun _ _ _ _ _ => (pe_joinedN (PJ.cons (pe_fmt (pe_glob (v := .str "meet") rfl c_FIRST_WORD ⟨_, rfl⟩)) (PJ.cons pe_str (PJ.cons (pe_fmt (pv 2)) (PJ.cons pe_str (PJ.cons (pe_fmt (pv 3)) (PJ.cons pe_str (PJ.cons (pe_fmt (pv 4)) PJ.nil))))))))))
      (pss_one (ps_ret (pe_joinK K rfl pe_str (pe_lst (pa_cons (pe_glob (v := .str "web") rfl c_FIRST_LINE ⟨_, rfl⟩) (pa_starK K rfl (pv 1) pa_nil))))))), ?_⟩
  obtain ⟨x0, rfl, h⟩ := h
  obtain ⟨G, js, hG, hx, hr, hl, q⟩ := h
  obtain ⟨a, ts, rfl, hs, hp⟩ := hx
  have hlen := pLen hp
  have rl : ∀ r ∈ js, (rowText r).length ≤ 28 := fun r h => row_len (hr r h)
  refine ⟨_, rfl, a, rfl, ⟨_, seqT hG hs⟩, fun D hD => ?_⟩
  refine lc_row3 (walk_tup.mono (fun H' e => seqT e (seqT hG hs)) fun _ _ _ _ _ _ y => y) (fun _ e => e) hD (fun _ => true) (fun i => .str (rowText (js.getD i []))) (by omega) ?_ (fun i x hi hx => ?_) (fun H1 sm e3 => ?_)
  · exact fun _ _ _ => rfl
  · obtain ⟨r, hr1, b, us, rfl, hb, pb⟩ := pAt hp hx
    obtain rfl := pS pb
    have hmem := List.mem_of_getElem? hr1
    have ok := hr r hmem
    obtain ⟨u, v, t, rfl⟩ : ∃ u v t, r = [u, v, t] := by
      have h1 := ok.len
      match r, h1 with
      | [a, b, c], _ => exact ⟨a, b, c, rfl⟩
    refine ⟨b, _, _, _, rfl, seqT hG hb, fun H1 _ Q q => q H1 (Evl.Ex.refl H1), fun _ => ?_⟩
    have lu := (name_len (ok.names u (by simp))).2
    have lv := (name_len (ok.names v (by simp))).2
    have lt := (name_len (ok.names t (by simp))).2
    have l1 : ("meet" : Str).length = 4 := by decide +kernel
    have l2 : (" " : Str).length = 1 := by decide +kernel
    have l0 : Str.empty.length = 0 := rfl
    have big : 100 ≤ sizeLine := by decide
    rw [getD_of hr1]
    refine fun H1 ex Q q => ?_
    refine .inl ⟨_, rfl, by omega, _, rfl, by simp only [len_app]; omega, ?_⟩
    refine ⟨_, rfl, by simp only [len_app]; omega, ?_⟩
    refine ⟨_, rfl, .inl ⟨_, rfl, by omega, _, rfl, by simp only [len_app]; omega, ?_⟩⟩
    refine ⟨_, rfl, by simp only [len_app]; omega, ?_⟩
    refine ⟨_, rfl, .inl ⟨_, rfl, by omega, _, rfl, by simp only [len_app]; omega, ?_⟩⟩
    refine ⟨_, rfl, by simp only [len_app]; omega, ?_⟩
    refine ⟨_, rfl, .inl ⟨_, rfl, by omega, _, rfl, by simp only [len_app]; omega, ?_⟩⟩
    show Q (.str _) H1
    rw [row_parts]
    exact q H1 (Evl.Ex.refl H1)
  · have e4 : H1 D = some (.lst ((js.map rowText).map V.str)) := by
      rw [hlen, given_all js [] (fun r => V.str (rowText r))] at e3
      rw [List.map_map]
      exact e3
    have hsum : (((("web" : Str) :: js.map rowText)).map (·.length)).sum + ((("web" : Str) :: js.map rowText)).length * ("\n" : Str).length ≤ 16777216 := by
      have h1 := sum_le 28 (((("web" : Str) :: js.map rowText)).map (·.length)) fun x hx => by
        rcases List.mem_map.mp hx with ⟨z, hz, rfl⟩
        rcases List.mem_cons.mp hz with rfl | hz
        · decide +kernel
        · rcases List.mem_map.mp hz with ⟨r, hr1, rfl⟩
          exact rl r hr1
      have h2 : ("\n" : Str).length = 1 := by decide +kernel
      rw [List.length_map, List.length_cons, List.length_map] at h1
      rw [List.length_cons, List.length_map, h2]
      omega
    refine ⟨⟨_, rfl⟩, ?_⟩
    refine ⟨_, rfl, D, _, rfl, .inr (SqL.of e4), ?_⟩
    refine ⟨?_, fun p hp => ?_⟩
    · rw [List.length_cons, List.length_append, List.length_map, List.length_map]
      exact Nat.le_trans (m := 101) (by show js.length + 0 + 1 ≤ 101; omega) (by decide)
    refine ⟨"\n", p, ("web" : Str) :: js.map rowText, rfl, rfl, .inl (SqL.of ?_), hsum, ?_⟩
    · rw [upd_same, List.append_nil]
      rfl
    · exact q _ (sm.trans (same_upd hp))
end
end Tc
namespace Tc
open PySem PySem.Spec PyProof.Rows L2 Fw Mw TL
local macro_rules | `(tactic| wtm_at "z_ne") => `(tactic| first | assumption | (apply Ne.symm; assumption) | omega)
local macro_rules | `(tactic| wtm_at "z_hp") => `(tactic| first | assumption | exact upd_same | (refine (upd_ne ?_).trans ?_; (focus wtm_at "z_ne"); wtm_at "z_hp"))
local macro_rules | `(tactic| wtm_at "z_sq") => `(tactic| first | assumption | (exact .inl (.inl (by wtm_at "z_hp"))))
local macro_rules | `(tactic| wtm_at "z_side") => `(tactic| first | assumption | omega | (simp only []; omega) | exact ⟨by omega, by omega⟩ | exact ⟨by omega, by omega, by omega⟩ | exact .inl ⟨by omega, by omega⟩ | exact .inr ⟨by omega, by omega⟩ | decide)
local macro_rules | `(tactic| wtm_at "z") => `(tactic| first
  | refine ⟨_, rfl, ?_⟩
  | refine ⟨_, _, rfl, rfl, ?_⟩
  | refine And.intro (by wtm_at "z_side") ?_
  | refine .inl ⟨_, rfl, ?_⟩
  | refine ⟨_, _, _, _, rfl, rfl, (by wtm_at "z_sq"), (by first | rfl | assumption), ?_⟩
  | refine ⟨_, _, _, _, rfl, rfl, (by wtm_at "z_hp"), (by first | rfl | assumption), ?_⟩)
local macro_rules | `(tactic| wtm_at "zb") => `(tactic| dsimp only [L2.tCB, L2.tCons, L2.tNil, L2.tC])
section
variable {P : Program} {w : World} {K : PySem.W.Frag} {mg : Str → Option Value} {base : Heap} {CW : Addr}
theorem ok_sorted_meets (F : FunAt K mg "sorted_meets" s_sorted_meets ["junctions"]) (T : Txt K mg CW)  : Cal P w K mg base CX0 "sorted_meets" 1 ["junctions"] [] (sp_sorted_meets K CW) := by
  obtain ⟨f, fd, F, mgf, bf⟩ := F
  refine ⟨f, fd, [], ?_, mgf, F.kp, bf, .nil⟩
  refine F.ok sc_sorted_meets (fun vs H Q E h => by obtain ⟨_, rfl, _⟩ := h; rfl) (fun cdv A outer s H vs Q E hr h => ?_)
  refine ⟨_, (pss_one (ps_ret (pe_callB (Yo.cr_sortedRK K rfl hr.units) (by rfl) T.z_sorted (by decide +kernel) (pa_cons (pe_lc (own := [("words", 1)]) rfl sc_sorted_meets.nd (pi_tupK K rfl (pv 0)) (blkOk_by (own := [("words", 1)]) (N := N_sorted_meets) (sc := defScope s_sorted_meets) (by decide +kernel)) (fun _ _ _ _ _ => (pg_name (i := 1) sc_sorted_meets.nd rfl (.inl rfl))) (fun _ _ _ _ _ => pts_nil) (fun _ _ _ _ _ => (pe_callB (Yo.cr_sortedTS K rfl) (by rfl) T.z_sorted (by decide +kernel) (pa_cons (pv 1) pa_nil)))) pa_nil)))), ?_⟩
  obtain ⟨x0, rfl, h⟩ := h
  obtain ⟨G, js, hG, hx, h3, hm, q⟩ := h
  obtain ⟨a, ts, rfl, hs, hp⟩ := hx
  have hlen := pLen hp
  have hdm : (js.map (·.mergeSort leS)).length = ts.length := by rw [List.length_map, hlen]
  refine ⟨_, rfl, a, rfl, ⟨_, seqT hG hs⟩, fun D hD => ?_⟩
  refine lc_data (r := rL K rS) (item := fun i x => ts[i]? = some x) (ys := js.map (·.mergeSort leS)) (L := []) (G := G) (Inv := fun _ _ => True) (Gd := fun H' => Same G H') (by rw [hdm]; exact walk_tup.mono (fun H' e => seqT e hs) fun _ _ _ _ _ _ y => y) hG (fun _ e => e) hD (by simp) (by rw [List.length_map]; omega) (fun _ => rfl) trivial (fun _ _ _ _ => trivial) (fun i x y G' H' hy hx go _ Q q => ?_) (fun us G' H' go _ hD' gD' pr => ?_)
  · obtain ⟨r, hr1, rfl⟩ := map_at hy
    obtain ⟨r', hr2, b, us, rfl, hb, pb⟩ := pAt hp hx
    obtain rfl := Option.some.inj (hr1.symm.trans hr2)
    obtain rfl := pS pb
    have l3 := h3 r (List.mem_of_getElem? hr1)
    refine ⟨_, rfl, ?_⟩
    refine ⟨b, r, rfl, seqT (go.g.trans go.h) hb, by omega, fun ys p perm srt hp1 => ?_⟩
    have e : ys = r.mergeSort leS := sort_uniq (pair_of_sorted srt) (sort_pair _) (perm.trans (List.mergeSort_perm _ _).symm)
    subst e
    exact q _ _ _ ((Go.refl go.h).new hp1) trivial (rLs.mpr ⟨p, rfl, SqL.of upd_same⟩)
  · refine ⟨D, us, _, _, rfl, go.h.seq (SqL.of gD'), pr, fun p r z => ?_, fun qs p hp2 hq => ?_⟩
    · obtain ⟨a, rfl, h⟩ := rLs.mp z
      exact ⟨a, rfl, go.h.seq h⟩
    · exact q _ _ _ (go.new hp2) ⟨p, qs, rfl, SqL.of upd_same, L2.Paired.mapP hq fun _ _ z => Mo.up (same_upd (go.gnone hp2)) z⟩
end
end Tc
namespace Tc
open PySem PySem.Spec PyProof.Rows L2 Fw Mw TL
local macro_rules | `(tactic| wtm_at "z_ne") => `(tactic| first | assumption | (apply Ne.symm; assumption) | omega)
local macro_rules | `(tactic| wtm_at "z_hp") => `(tactic| first | assumption | exact upd_same | (refine (upd_ne ?_).trans ?_; (focus wtm_at "z_ne"); wtm_at "z_hp"))
local macro_rules | `(tactic| wtm_at "z_sq") => `(tactic| first | assumption | (exact .inl (.inl (by wtm_at "z_hp"))))
local macro_rules | `(tactic| wtm_at "z_side") => `(tactic| first | assumption | omega | (simp only []; omega) | exact ⟨by omega, by omega⟩ | exact ⟨by omega, by omega, by omega⟩ | exact .inl ⟨by omega, by omega⟩ | exact .inr ⟨by omega, by omega⟩ | decide)
local macro_rules | `(tactic| wtm_at "z") => `(tactic| first
  | refine ⟨_, rfl, ?_⟩
  | refine ⟨_, _, rfl, rfl, ?_⟩
  | refine And.intro (by wtm_at "z_side") ?_
  | refine .inl ⟨_, rfl, ?_⟩
  | refine ⟨_, _, _, _, rfl, rfl, (by wtm_at "z_sq"), (by first | rfl | assumption), ?_⟩
  | refine ⟨_, _, _, _, rfl, rfl, (by wtm_at "z_hp"), (by first | rfl | assumption), ?_⟩)
local macro_rules | `(tactic| wtm_at "zb") => `(tactic| dsimp only [L2.tCB, L2.tCons, L2.tNil, L2.tC])
section
variable {P : Program} {w : World} {K : PySem.W.Frag} {mg : Str → Option Value} {base : Heap} {CW : Addr}
theorem ok_same_meets (F : FunAt K mg "same_meets" s_same_meets ["one", "other"]) (T : Txt K mg CW) (C_sorted_meets : Cal P w K mg base CX0 "sorted_meets" 1 ["junctions"] [] (sp_sorted_meets K CW)) : Cal P w K mg base CX0 "same_meets" 2 ["one", "other"] [] (sp_same_meets K CW) := by
  obtain ⟨f, fd, F, mgf, bf⟩ := F
  obtain ⟨f_sorted_meets, fd_sorted_meets, ds_sorted_meets, G_sorted_meets, m_sorted_meets, k_sorted_meets, b_sorted_meets, d_sorted_meets⟩ := C_sorted_meets
  refine ⟨f, fd, [], ?_, mgf, F.kp, bf, .nil⟩
  refine F.ok sc_same_meets (fun vs H Q E h => by obtain ⟨_, _, rfl, _⟩ := h; rfl) (fun cdv A outer s H vs Q E hr h => ?_)
  refine ⟨_, (pss_one (ps_ret (pe_cmpR (op_eqDK K rfl hr.units) (pe_call G_sorted_meets (hr.mono (by decide)) (by rfl) m_sorted_meets k_sorted_meets b_sorted_meets d_sorted_meets pass0 (pa_cons (pe_fldK K rfl (pv 0)) pa_nil)) (pe_call G_sorted_meets (hr.mono (by decide)) (by rfl) m_sorted_meets k_sorted_meets b_sorted_meets d_sorted_meets pass0 (pa_cons (pe_fldK K rfl (pv 1)) pa_nil)) (nomark _)))), ?_⟩
  obtain ⟨x0, x1, rfl, h⟩ := h
  obtain ⟨G, js, ks, hG, hx, hy, good, good2, q⟩ := h
  have hx0 := hx
  obtain ⟨aw, dx, vt, vj, vr, vi, ve, g, rfl, ha, W⟩ := hx
  obtain ⟨aw2, dx2, vt2, vj2, vr2, vi2, ve2, g2, rfl, ha2, W2⟩ := hy
  have hm := good.most
  have hm2 := good2.most
  refine ⟨_, rfl, aw, CW, dx, _, vj, rfl, hG _ _ ha, T.cl, T.n_junctions, lk_junctions, ?_⟩
  refine ⟨_, rfl, G, js, hG, W.junctions, fun r hr => (good.rows r hr).len, by omega, fun v G1 H1 go1 hv => ?_⟩
  refine ⟨_, rfl, aw2, CW, dx2, _, vj2, rfl, go1.h _ _ (go1.g _ _ ha2), T.cl, T.n_junctions, lk_junctions, ?_⟩
  refine ⟨_, rfl, G1, ks, go1.h, Mo.up go1.g W2.junctions, fun r hr => (good2.rows r hr).len, by omega, fun v2 G2 H2 go2 hv2 => ?_⟩
  obtain ⟨a1, t1, rfl, hs1, hp1⟩ := hv
  obtain ⟨a2, t2, rfl, hs2, hp2⟩ := hv2
  have nm : ∀ {js : Rows}, Mw.Good js → ∀ r ∈ smeets js, ∀ x ∈ r, isName x = true := fun {js} g r hr x hx => by
    unfold smeets at hr
    have hr2 := (List.mergeSort_perm _ _).mem_iff.mp hr
    obtain ⟨r0, h0, rfl⟩ := List.mem_map.mp hr2
    exact (g.rows r0 h0).names x ((List.mergeSort_perm _ _).mem_iff.mp hx)
  refine ⟨_, _, .lst ((go2.g.trans go2.h).seq hs1) (dp_rows (L2.Paired.mapP hp1 fun _ _ z => Mo.up (go2.g.trans go2.h) z)), .lst (go2.h.seq hs2) (dp_rows (L2.Paired.mapP hp2 fun _ _ z => Mo.up go2.h z)), shaped_rows _ (nm good), shaped_rows _ (nm good2), ?_⟩
  rw [eqv_rows]
  exact q _ (go1.trans go2).all
end
end Tc
namespace Tc
open PySem PySem.Spec PyProof.Rows L2 Fw Mw TL
local macro_rules | `(tactic| wtm_at "z_ne") => `(tactic| first | assumption | (apply Ne.symm; assumption) | omega)
local macro_rules | `(tactic| wtm_at "z_hp") => `(tactic| first | assumption | exact upd_same | (refine (upd_ne ?_).trans ?_; (focus wtm_at "z_ne"); wtm_at "z_hp"))
local macro_rules | `(tactic| wtm_at "z_sq") => `(tactic| first | assumption | (exact .inl (.inl (by wtm_at "z_hp"))))
local macro_rules | `(tactic| wtm_at "z_side") => `(tactic| first | assumption | omega | (simp only []; omega) | exact ⟨by omega, by omega⟩ | exact ⟨by omega, by omega, by omega⟩ | exact .inl ⟨by omega, by omega⟩ | exact .inr ⟨by omega, by omega⟩ | decide)
local macro_rules | `(tactic| wtm_at "z") => `(tactic| first
  | refine ⟨_, rfl, ?_⟩
  | refine ⟨_, _, rfl, rfl, ?_⟩
  | refine And.intro (by wtm_at "z_side") ?_
  | refine .inl ⟨_, rfl, ?_⟩
  | refine ⟨_, _, _, _, rfl, rfl, (by wtm_at "z_sq"), (by first | rfl | assumption), ?_⟩
  | refine ⟨_, _, _, _, rfl, rfl, (by wtm_at "z_hp"), (by first | rfl | assumption), ?_⟩)
local macro_rules | `(tactic| wtm_at "zb") => `(tactic| dsimp only [L2.tCB, L2.tCons, L2.tNil, L2.tC])
section
variable {P : Program} {w : World} {K : PySem.W.Frag} {mg : Str → Option Value} {base : Heap} {CW : Addr}
theorem ok_can_flip (F : FunAt K mg "can_flip" s_can_flip ["junctions", "road"]) (T : Txt K mg CW) (C_places_of : Cal P w K mg base CX0 "places_of" 1 ["junctions", "road"] [] (sp_places_of K CW)) : Cal P w K mg base CX0 "can_flip" 2 ["junctions", "road"] [] (sp_can_flip K CW) := by
  obtain ⟨f, fd, F, mgf, bf⟩ := F
  obtain ⟨f_places_of, fd_places_of, ds_places_of, G_places_of, m_places_of, k_places_of, b_places_of, d_places_of⟩ := C_places_of
  refine ⟨f, fd, [], ?_, mgf, F.kp, bf, .nil⟩
  refine F.ok sc_can_flip (fun vs H Q E h => by obtain ⟨_, _, rfl, _⟩ := h; rfl) (fun cdv A outer s H vs Q E hr h => ?_)
  refine ⟨_, (pss_one (ps_ret (pe_cmpR op_eq (pe_callB (call_len_seqK K rfl) (by rfl) T.z_len (by decide +kernel) (pa_cons (pe_call G_places_of (hr.mono (by decide)) (by rfl) m_places_of k_places_of b_places_of d_places_of pass0 (pa_cons (pv 0) (pa_cons (pv 1) pa_nil))) pa_nil)) pe_int (nomark _)))), ?_⟩
  obtain ⟨x0, x1, rfl, h⟩ := h
  obtain ⟨G, js, z, hG, hx, rfl, hl, q⟩ := h
  refine ⟨_, rfl, _, rfl, ?_⟩
  wtm_at "zb"
  refine ⟨_, _, rfl, G, js, z, hG, hx, rfl, hl, fun v G1 H1 go1 hv => ?_⟩
  obtain ⟨D, us, rfl, hD, pD⟩ := hv
  obtain rfl := pI pD
  refine ⟨D, _, rfl, .inl (go1.h.seq hD), ?_⟩
  refine ⟨rfl, ?_⟩
  rw [List.length_map, List.length_map]
  have e : decide (V.int ((sidesOf js z).length : Int) = V.int 2) = decide ((sidesOf js z).length = 2) := dec_nat 2
  rw [e]
  exact q _ go1.all
end
end Tc
namespace Tc
open PySem PySem.Spec PyProof.Rows L2 Fw Mw TL
local macro_rules | `(tactic| wtm_at "z_ne") => `(tactic| first | assumption | (apply Ne.symm; assumption) | omega)
local macro_rules | `(tactic| wtm_at "z_hp") => `(tactic| first | assumption | exact upd_same | (refine (upd_ne ?_).trans ?_; (focus wtm_at "z_ne"); wtm_at "z_hp"))
local macro_rules | `(tactic| wtm_at "z_sq") => `(tactic| first | assumption | (exact .inl (.inl (by wtm_at "z_hp"))))
local macro_rules | `(tactic| wtm_at "z_side") => `(tactic| first | assumption | omega | (simp only []; omega) | exact ⟨by omega, by omega⟩ | exact ⟨by omega, by omega, by omega⟩ | exact .inl ⟨by omega, by omega⟩ | exact .inr ⟨by omega, by omega⟩ | decide)
local macro_rules | `(tactic| wtm_at "z") => `(tactic| first
  | refine ⟨_, rfl, ?_⟩
  | refine ⟨_, _, rfl, rfl, ?_⟩
  | refine And.intro (by wtm_at "z_side") ?_
  | refine .inl ⟨_, rfl, ?_⟩
  | refine ⟨_, _, _, _, rfl, rfl, (by wtm_at "z_sq"), (by first | rfl | assumption), ?_⟩
  | refine ⟨_, _, _, _, rfl, rfl, (by wtm_at "z_hp"), (by first | rfl | assumption), ?_⟩)
local macro_rules | `(tactic| wtm_at "zb") => `(tactic| dsimp only [L2.tCB, L2.tCons, L2.tNil, L2.tC])
section
variable {P : Program} {w : World} {K : PySem.W.Frag} {mg : Str → Option Value} {base : Heap} {CW : Addr}
theorem ok_is_way (F : FunAt K mg "is_way" s_is_way ["way"]) (T : Txt K mg CW) (C_is_whole : Cal P w K mg base CX0 "is_whole" 1 ["value"] [] (sp_is_whole K CW)) : Cal P w K mg base CX0 "is_way" 2 ["way"] [] (sp_is_way K CW) := by
  obtain ⟨f, fd, F, mgf, bf⟩ := F
  obtain ⟨f_is_whole, fd_is_whole, ds_is_whole, G_is_whole, m_is_whole, k_is_whole, b_is_whole, d_is_whole⟩ := C_is_whole
  obtain ⟨t_FIRST_WAY, c_FIRST_WAY⟩ := T.c_FIRST_WAY
  obtain ⟨t_SECOND_WAY, c_SECOND_WAY⟩ := T.c_SECOND_WAY
  refine ⟨f, fd, [], ?_, mgf, F.kp, bf, .nil⟩
  refine F.ok sc_is_way (fun vs H Q E h => by obtain ⟨_, rfl, _⟩ := h; rfl) (fun cdv A outer s H vs Q E hr h => ?_)
  refine ⟨_, (pss_one (ps_ret (pe_and (pe_call G_is_whole (hr.mono (by decide)) (by rfl) m_is_whole k_is_whole b_is_whole d_is_whole pass0 (pa_cons (pv 0) pa_nil)) (pe_one (pe_chain op_le op_le (pe_glob (v := .int (1)) rfl c_FIRST_WAY ⟨_, rfl⟩) (pv 0) (pe_glob (v := .int (2)) rfl c_SECOND_WAY ⟨_, rfl⟩)))))), ?_⟩
  obtain ⟨x0, rfl, h⟩ := h
  obtain ⟨k, rfl, hk, q⟩ := h
  refine ⟨_, rfl, ?_⟩
  refine ⟨_, rfl, k, rfl, _, rfl, iteT ?_⟩
  refine ⟨_, rfl, _, _, rfl, rfl, _, rfl, ?_⟩
  rcases hk with rfl | rfl
  · exact iteT (B := True) ⟨_, _, rfl, rfl, q⟩
  · exact iteT (B := True) ⟨_, _, rfl, rfl, q⟩
end
end Tc
namespace Tc
open PySem PySem.Spec PyProof.Rows L2 Fw Mw TL
local macro_rules | `(tactic| wtm_at "z_ne") => `(tactic| first | assumption | (apply Ne.symm; assumption) | omega)
local macro_rules | `(tactic| wtm_at "z_hp") => `(tactic| first | assumption | exact upd_same | (refine (upd_ne ?_).trans ?_; (focus wtm_at "z_ne"); wtm_at "z_hp"))
local macro_rules | `(tactic| wtm_at "z_sq") => `(tactic| first | assumption | (exact .inl (.inl (by wtm_at "z_hp"))))
local macro_rules | `(tactic| wtm_at "z_side") => `(tactic| first | assumption | omega | (simp only []; omega) | exact ⟨by omega, by omega⟩ | exact ⟨by omega, by omega, by omega⟩ | exact .inl ⟨by omega, by omega⟩ | exact .inr ⟨by omega, by omega⟩ | decide)
local macro_rules | `(tactic| wtm_at "z") => `(tactic| first
  | refine ⟨_, rfl, ?_⟩
  | refine ⟨_, _, rfl, rfl, ?_⟩
  | refine And.intro (by wtm_at "z_side") ?_
  | refine .inl ⟨_, rfl, ?_⟩
  | refine ⟨_, _, _, _, rfl, rfl, (by wtm_at "z_sq"), (by first | rfl | assumption), ?_⟩
  | refine ⟨_, _, _, _, rfl, rfl, (by wtm_at "z_hp"), (by first | rfl | assumption), ?_⟩)
local macro_rules | `(tactic| wtm_at "zb") => `(tactic| dsimp only [L2.tCB, L2.tCons, L2.tNil, L2.tC])
section
variable {P : Program} {w : World} {K : PySem.W.Frag} {mg : Str → Option Value} {base : Heap} {CW : Addr}
theorem ok_check_road (F : FunAt K mg "check_road" s_check_road ["web", "road"]) (T : Txt K mg CW) (C_can_flip : Cal P w K mg base CX0 "can_flip" 2 ["junctions", "road"] [] (sp_can_flip K CW)) : Cal P w K mg base CX0 "check_road" 3 ["web", "road"] [] (sp_check_road K CW) := by
  obtain ⟨f, fd, F, mgf, bf⟩ := F
  obtain ⟨f_can_flip, fd_can_flip, ds_can_flip, G_can_flip, m_can_flip, k_can_flip, b_can_flip, d_can_flip⟩ := C_can_flip
  refine ⟨f, fd, [], ?_, mgf, F.kp, bf, .nil⟩
  refine F.ok sc_check_road (fun vs H Q E h => by obtain ⟨_, _, rfl, _⟩ := h; rfl) (fun cdv A outer s H vs Q E hr h => ?_)
  refine ⟨_, (pss_one (ps_if (pt_not (pt_val (pe_call G_can_flip (hr.mono (by decide)) (by rfl) m_can_flip k_can_flip b_can_flip d_can_flip pass0 (pa_cons (pe_fldK K rfl (pv 0)) (pa_cons (pv 1) pa_nil))))) (pss_one ps_never) pss_nil)), ?_⟩
  obtain ⟨x0, x1, rfl, h⟩ := h
  obtain ⟨G, js, z, hG, hx, rfl, hl, h2, q⟩ := h
  have hx0 := hx
  obtain ⟨a, dx, vt, vj, vr, vi, ve, g, rfl, ha, W⟩ := hx
  refine ⟨_, rfl, a, CW, dx, _, vj, rfl, hG _ _ ha, T.cl, T.n_junctions, lk_junctions, ?_⟩
  refine ⟨_, rfl, ?_⟩
  refine ⟨_, _, rfl, G, js, z, hG, W.junctions, rfl, hl, fun H1 sm => ?_⟩
  rw [decide_eq_true h2]
  exact ⟨_, rfl, iteF (A := True) (q _ sm)⟩
end
end Tc
namespace Tc
open PySem PySem.Spec PyProof.Rows L2 Fw Mw TL
local macro_rules | `(tactic| wtm_at "z_ne") => `(tactic| first | assumption | (apply Ne.symm; assumption) | omega)
local macro_rules | `(tactic| wtm_at "z_hp") => `(tactic| first | assumption | exact upd_same | (refine (upd_ne ?_).trans ?_; (focus wtm_at "z_ne"); wtm_at "z_hp"))
local macro_rules | `(tactic| wtm_at "z_sq") => `(tactic| first | assumption | (exact .inl (.inl (by wtm_at "z_hp"))))
local macro_rules | `(tactic| wtm_at "z_side") => `(tactic| first | assumption | omega | (simp only []; omega) | exact ⟨by omega, by omega⟩ | exact ⟨by omega, by omega, by omega⟩ | exact .inl ⟨by omega, by omega⟩ | exact .inr ⟨by omega, by omega⟩ | decide)
local macro_rules | `(tactic| wtm_at "z") => `(tactic| first
  | refine ⟨_, rfl, ?_⟩
  | refine ⟨_, _, rfl, rfl, ?_⟩
  | refine And.intro (by wtm_at "z_side") ?_
  | refine .inl ⟨_, rfl, ?_⟩
  | refine ⟨_, _, _, _, rfl, rfl, (by wtm_at "z_sq"), (by first | rfl | assumption), ?_⟩
  | refine ⟨_, _, _, _, rfl, rfl, (by wtm_at "z_hp"), (by first | rfl | assumption), ?_⟩)
local macro_rules | `(tactic| wtm_at "zb") => `(tactic| dsimp only [L2.tCB, L2.tCons, L2.tNil, L2.tC])
section
variable {P : Program} {w : World} {K : PySem.W.Frag} {mg : Str → Option Value} {base : Heap} {CW : Addr}
theorem ok_check_way (F : FunAt K mg "check_way" s_check_way ["way"]) (T : Txt K mg CW) (C_is_way : Cal P w K mg base CX0 "is_way" 2 ["way"] [] (sp_is_way K CW)) : Cal P w K mg base CX0 "check_way" 3 ["way"] [] (sp_check_way K CW) := by
  obtain ⟨f, fd, F, mgf, bf⟩ := F
  obtain ⟨f_is_way, fd_is_way, ds_is_way, G_is_way, m_is_way, k_is_way, b_is_way, d_is_way⟩ := C_is_way
  refine ⟨f, fd, [], ?_, mgf, F.kp, bf, .nil⟩
  refine F.ok sc_check_way (fun vs H Q E h => by obtain ⟨_, rfl, _⟩ := h; rfl) (fun cdv A outer s H vs Q E hr h => ?_)
  refine ⟨_, (pss_one (ps_if (pt_not (pt_val (pe_call G_is_way (hr.mono (by decide)) (by rfl) m_is_way k_is_way b_is_way d_is_way pass0 (pa_cons (pv 0) pa_nil)))) (pss_one ps_never) pss_nil)), ?_⟩
  obtain ⟨x0, rfl, h⟩ := h
  obtain ⟨k, rfl, hk, q⟩ := h
  refine ⟨_, rfl, ?_⟩
  refine ⟨_, rfl, k, rfl, hk, ?_⟩
  exact ⟨_, rfl, iteF (A := True) q⟩
end
end Tc
namespace Tc
open PySem PySem.Spec PyProof.Rows L2 Fw Mw TL
local macro_rules | `(tactic| wtm_at "z_ne") => `(tactic| first | assumption | (apply Ne.symm; assumption) | omega)
local macro_rules | `(tactic| wtm_at "z_hp") => `(tactic| first | assumption | exact upd_same | (refine (upd_ne ?_).trans ?_; (focus wtm_at "z_ne"); wtm_at "z_hp"))
local macro_rules | `(tactic| wtm_at "z_sq") => `(tactic| first | assumption | (exact .inl (.inl (by wtm_at "z_hp"))))
local macro_rules | `(tactic| wtm_at "z_side") => `(tactic| first | assumption | omega | (simp only []; omega) | exact ⟨by omega, by omega⟩ | exact ⟨by omega, by omega, by omega⟩ | exact .inl ⟨by omega, by omega⟩ | exact .inr ⟨by omega, by omega⟩ | decide)
local macro_rules | `(tactic| wtm_at "z") => `(tactic| first
  | refine ⟨_, rfl, ?_⟩
  | refine ⟨_, _, rfl, rfl, ?_⟩
  | refine And.intro (by wtm_at "z_side") ?_
  | refine .inl ⟨_, rfl, ?_⟩
  | refine ⟨_, _, _, _, rfl, rfl, (by wtm_at "z_sq"), (by first | rfl | assumption), ?_⟩
  | refine ⟨_, _, _, _, rfl, rfl, (by wtm_at "z_hp"), (by first | rfl | assumption), ?_⟩)
local macro_rules | `(tactic| wtm_at "zb") => `(tactic| dsimp only [L2.tCB, L2.tCons, L2.tNil, L2.tC])
section
variable {P : Program} {w : World} {K : PySem.W.Frag} {mg : Str → Option Value} {base : Heap} {CW : Addr}
theorem ok_words_beside (F : FunAt K mg "words_beside" s_words_beside ["junctions", "road"]) (T : Txt K mg CW) (C_places_of : Cal P w K mg base CX0 "places_of" 1 ["junctions", "road"] [] (sp_places_of K CW)) : Cal P w K mg base CX0 "words_beside" 2 ["junctions", "road"] [] (sp_words_beside K CW) := by
  obtain ⟨f, fd, F, mgf, bf⟩ := F
  obtain ⟨f_places_of, fd_places_of, ds_places_of, G_places_of, m_places_of, k_places_of, b_places_of, d_places_of⟩ := C_places_of
  refine ⟨f, fd, [], ?_, mgf, F.kp, bf, .nil⟩
  refine F.ok sc_words_beside (fun vs H Q E h => by obtain ⟨_, _, rfl, _⟩ := h; rfl) (fun cdv A outer s H vs Q E hr h => ?_)
  refine ⟨_, (pss_cons (ps_setLc (i := 2) (own := [("number", 3)]) rfl sc_words_beside.nd rfl rfl (sw_true rfl rfl rfl (by decide +kernel)) (pi_listK K rfl (pe_call G_places_of (hr.mono (by decide)) (by rfl) m_places_of k_places_of b_places_of d_places_of pass0 (pa_cons (pv 0) (pa_cons (pv 1) pa_nil)))) (blkOk_by (own := [("number", 3)]) (N := N_words_beside) (sc := defScope s_words_beside) (by decide +kernel)) (fun _ _ _ _ _ => (pg_name (i := 3) sc_words_beside.nd rfl (.inl rfl))) (fun _ _ _ _ _ => pts_nil) (fun _ _ _ _ _ => (pe_ix (ix_tupK K rfl) (pv 0) (pv 3) (fun _ _ => rfl))))
      (pss_one (ps_ret (pe_lc2 (own := [("words", 4), ("word", 5)]) (vs1 := [5]) rfl sc_words_beside.nd (pi_listK K rfl (pv 2)) (blkOk_by (own := [("words", 4), ("word", 5)]) (N := N_words_beside) (sc := defScope s_words_beside) (by decide +kernel)) (by decide) (fun _ _ _ _ _ => (pg_name (i := 4) sc_words_beside.nd rfl (.inl rfl))) (fun _ _ _ _ _ => pts_nil) (fun _ _ _ _ _ => (pi_tupK K rfl (pv 4))) (fun _ _ _ _ _ => (pg_name (i := 5) sc_words_beside.nd rfl (.inl rfl))) (fun _ _ _ _ _ => (pts_one (pt_cmpR op_ne (pv 5) (pv 1) (nomark _)))) (fun _ _ _ _ _ => (pv 5)))))), ?_⟩
  obtain ⟨x0, x1, rfl, h⟩ := h
  obtain ⟨G, js, z, i, j, a, b, c, d, hG, hx, rfl, hm, h3, F, q⟩ := h
  have hx0 := hx
  obtain ⟨aj, ts, rfl, hs, hp⟩ := hx
  have hlen := pLen hp
  obtain ⟨ri, ei, mi, fi⟩ := F.hi
  obtain ⟨rj, ej, mj, fj⟩ := F.hj
  obtain ⟨vi, hvi, ai, ui, rfl, hsi, hpi⟩ := pGet hp ei
  obtain ⟨vj, hvj, aj', uj, rfl, hsj, hpj⟩ := pGet hp ej
  obtain rfl := pS hpi
  obtain rfl := pS hpj
  refine ⟨_, rfl, _, rfl, ?_⟩
  wtm_at "zb"
  refine ⟨_, _, rfl, G, js, z, hG, hx0, rfl, hm, fun v G1 H1 go1 hv => ?_⟩
  obtain ⟨D, us, rfl, hD, pD⟩ := hv
  obtain rfl := pI pD
  rw [F.sides] at hD
  have hD1 : SqL K H1 D [.int i, .int j] := go1.h.seq hD
  have hs1 := seqT (go1.g.trans go1.h) hs
  refine ⟨D, rfl, ⟨_, hD1⟩, fun D2 hD2 => ?_⟩
  refine lc_flat (walk_list.mono (fun H' e => Same.seq e hD1) fun _ _ _ _ _ _ y => y) (fun _ e => e) hD2 (fun _ => true) (fun n => if n = 0 then .ref ai else .ref aj') (show (2:Nat) ≤ 40000 by decide) (fun _ => rfl) (fun n x hn hx => ⟨fun H1 _ Q q => q H1 (Evl.Ex.refl H1), fun _ => ?_⟩) (fun H2 sm e3 => ?_)
  · refine fun H2 ex Q q => ?_
    match n, hx with
    | 0, hx =>
      obtain rfl := Option.some.inj hx
      exact ⟨_, rfl, _, rfl, aj, ts, (i : Nat), .ref ai, rfl, rfl, seqT ex hs1, atI_nat hvi, q _ (Evl.Ex.refl _)⟩
    | 1, hx =>
      obtain rfl := Option.some.inj hx
      exact ⟨_, rfl, _, rfl, aj, ts, (j : Nat), .ref aj', rfl, rfl, seqT ex hs1, atI_nat hvj, q _ (Evl.Ex.refl _)⟩
    | n + 2, hx => simp at hx
  have e4 : H2 D2 = some (.lst [.ref ai, .ref aj']) := e3
  have go2 := go1.grow sm
  have r2 : SqT K H2 ai (ri.map V.str) := seqT (go2.g.trans go2.h) hsi
  have r3 : SqT K H2 aj' (rj.map V.str) := seqT (go2.g.trans go2.h) hsj
  refine ⟨_, rfl, ?_⟩
  refine ⟨D2, rfl, ⟨_, SqL.of e4⟩, fun D3 hD3 => ?_⟩
  have n23 : D2 ≠ D3 := fun e => by rw [e, hD3] at e4; cases e4
  have l3i := h3 ri (List.mem_of_getElem? ei)
  have l3j := h3 rj (List.mem_of_getElem? ej)
  refine lc2_out (walk_list.mono (fun H' e => SqL.of (e _ _ e4)) fun _ _ _ _ _ _ y => y) (fun i H' => Same H2 H' ∧ H' D3 = some (.lst ((([ri, rj].take i).flatMap (noZ z)).map V.str))) _ ⟨same_upd hD3, upd_same⟩ (fun i H' _ p => p.1) (fun i x H3 H4 hi p y => ?_) (fun H3 p => ?_)
  · obtain ⟨rfl, hx⟩ := y
    obtain ⟨r, b, hr, rfl, h2, l3⟩ : ∃ r b, [ri, rj][i]? = some r ∧ x = V.ref b ∧ SqT K H2 b (r.map V.str) ∧ r.length = 3 := by
      match i, hx with
      | 0, hx => exact ⟨ri, ai, rfl, (Option.some.inj hx).symm, r2, l3i⟩
      | 1, hx => exact ⟨rj, aj', rfl, (Option.some.inj hx).symm, r3, l3j⟩
      | n + 2, hx => simp at hx
    have tk : [ri, rj].take (i + 1) = [ri, rj].take i ++ [r] := take_snoc hr
    have big : ([ri, rj].take i).flatMap (noZ z) = if i = 0 then [] else noZ z ri := by
      match i, hr with
      | 0, _ => rfl
      | 1, _ => simp
      | n + 2, hr => simp at hr
    have bl : (([ri, rj].take i).flatMap (noZ z)).length ≤ 3 := by
      rw [big]
      split
      · simp
      · exact Nat.le_trans (List.length_filter_le _ _) (by omega)
    refine ⟨rfl, iteT (B := True) ?_⟩
    refine ⟨_, rfl, b, rfl, ⟨_, seqT p.1 h2⟩, ?_⟩
    refine lc2_in walk_tup (fun n H' => Same H2 H' ∧ H' D3 = some (.lst ((([ri, rj].take i).flatMap (noZ z) ++ noZ z (r.take n)).map V.str))) ?_ (fun n H' _ p' => seqT p'.1 h2) (fun n x H5 H6 hn p' y' => ?_) (fun H5 p' => ?_)
    · refine ⟨p.1, ?_⟩
      rw [p.2]
      simp [noZ]
    · obtain ⟨rfl, hx'⟩ := y'
      obtain ⟨t, ht, rfl⟩ := map_at hx'
      have tk2 : noZ z (r.take (n + 1)) = noZ z (r.take n) ++ noZ z [t] := by
        rw [take_snoc ht]; exact List.filter_append ..
      have bl2 : (noZ z (r.take n)).length ≤ 3 := Nat.le_trans (List.length_filter_le _ _) (by rw [List.length_take]; omega)
      refine ⟨rfl, _, rfl, _, rfl, rfl, _, rfl, ?_⟩
      by_cases e : t = z
      · rw [decide_eq_true (show V.str t = V.str z by rw [e])]
        refine iteF (A := True) ⟨p'.1, ?_⟩
        rw [p'.2, tk2, show noZ z [t] = [] from by simp [noZ, e], List.append_nil]
      · rw [decide_eq_false (show ¬ V.str t = V.str z from fun h => e (V.str.inj h))]
        refine iteT (B := True) ⟨_, rfl, _, p'.2, ?_, ?_, ?_⟩
        · rw [List.length_map, List.length_append]
          exact Nat.lt_of_le_of_lt (m := 6) (by omega) (by decide)
        · exact fun c o e => by
            rw [upd_ne (ne_of_none e hD3)]
            exact p'.1 c o e
        · rw [upd_same, tk2, show noZ z [t] = [t] from by simp [noZ, e], ← List.append_assoc]
          simp only [List.map_append]
          rfl
    · rw [List.length_map, List.take_length] at p'
      refine ⟨p'.1, ?_⟩
      rw [p'.2, tk, List.flatMap_append]
      simp
  · have e5 : H3 D3 = some (.lst (([a, b, c, d] : List Str).map V.str)) := by
      rw [p.2]
      show some (HO.lst (([ri, rj].flatMap (noZ z)).map V.str)) = _
      rw [List.flatMap_cons, List.flatMap_cons, fi, fj]
      rfl
    have go3 := go2.grow p.1
    exact q _ _ _ (go3.frz (go1.fresh (p := D3) (by
      have := sm.free hD3
      exact this)) e5 (go2.gnone hD3)) (rLs.mpr ⟨D3, rfl, .inl (.inl upd_same)⟩)
end
end Tc
namespace Tc
open PySem PySem.Spec PyProof.Rows L2 Fw Mw TL
local macro_rules | `(tactic| wtm_at "z_ne") => `(tactic| first | assumption | (apply Ne.symm; assumption) | omega)
local macro_rules | `(tactic| wtm_at "z_hp") => `(tactic| first | assumption | exact upd_same | (refine (upd_ne ?_).trans ?_; (focus wtm_at "z_ne"); wtm_at "z_hp"))
local macro_rules | `(tactic| wtm_at "z_sq") => `(tactic| first | assumption | (exact .inl (.inl (by wtm_at "z_hp"))))
local macro_rules | `(tactic| wtm_at "z_side") => `(tactic| first | assumption | omega | (simp only []; omega) | exact ⟨by omega, by omega⟩ | exact ⟨by omega, by omega, by omega⟩ | exact .inl ⟨by omega, by omega⟩ | exact .inr ⟨by omega, by omega⟩ | decide)
local macro_rules | `(tactic| wtm_at "z") => `(tactic| first
  | refine ⟨_, rfl, ?_⟩
  | refine ⟨_, _, rfl, rfl, ?_⟩
  | refine And.intro (by wtm_at "z_side") ?_
  | refine .inl ⟨_, rfl, ?_⟩
  | refine ⟨_, _, _, _, rfl, rfl, (by wtm_at "z_sq"), (by first | rfl | assumption), ?_⟩
  | refine ⟨_, _, _, _, rfl, rfl, (by wtm_at "z_hp"), (by first | rfl | assumption), ?_⟩)
local macro_rules | `(tactic| wtm_at "zb") => `(tactic| dsimp only [L2.tCB, L2.tCons, L2.tNil, L2.tC])
section
variable {P : Program} {w : World} {K : PySem.W.Frag} {mg : Str → Option Value} {base : Heap} {CW : Addr}
theorem ok_flipped_junctions (F : FunAt K mg "flipped_junctions" s_flipped_junctions ["junctions", "road", "way"]) (T : Txt K mg CW) (C_places_of : Cal P w K mg base CX0 "places_of" 1 ["junctions", "road"] [] (sp_places_of K CW)) (C_words_beside : Cal P w K mg base CX0 "words_beside" 2 ["junctions", "road"] [] (sp_words_beside K CW)) : Cal P w K mg base CX0 "flipped_junctions" 3 ["junctions", "road", "way"] [] (sp_flipped_junctions K CW) := by
  obtain ⟨f, fd, F, mgf, bf⟩ := F
  obtain ⟨f_places_of, fd_places_of, ds_places_of, G_places_of, m_places_of, k_places_of, b_places_of, d_places_of⟩ := C_places_of
  obtain ⟨f_words_beside, fd_words_beside, ds_words_beside, G_words_beside, m_words_beside, k_words_beside, b_words_beside, d_words_beside⟩ := C_words_beside
  obtain ⟨t_FIRST_WAY, c_FIRST_WAY⟩ := T.c_FIRST_WAY
  refine ⟨f, fd, [], ?_, mgf, F.kp, bf, .nil⟩
  refine F.ok sc_flipped_junctions (fun vs H Q E h => by obtain ⟨_, _, _, rfl, _⟩ := h; rfl) (fun cdv A outer s H vs Q E hr h => ?_)
  refine ⟨_, (pss_cons (ps_asg (pe_call G_places_of (hr.mono (by decide)) (by rfl) m_places_of k_places_of b_places_of d_places_of pass0 (pa_cons (pv 0) (pa_cons (pv 1) pa_nil))) (pg_unlK (n := 2) K rfl rfl (pgs_cons (pg_name (i := 3) sc_flipped_junctions.nd rfl (.inl rfl)) (pgs_cons (pg_name (i := 4) sc_flipped_junctions.nd rfl (.inl rfl)) pgs_nil))))
      (pss_cons (ps_asg (pe_call G_words_beside (hr.mono (by decide)) (by rfl) m_words_beside k_words_beside b_words_beside d_words_beside pass0 (pa_cons (pv 0) (pa_cons (pv 1) pa_nil))) (pg_unlK (n := 4) K rfl rfl (pgs_cons (pg_name (i := 5) sc_flipped_junctions.nd rfl (.inl rfl)) (pgs_cons (pg_name (i := 6) sc_flipped_junctions.nd rfl (.inl rfl)) (pgs_cons (pg_name (i := 7) sc_flipped_junctions.nd rfl (.inl rfl)) (pgs_cons (pg_name (i := 8) sc_flipped_junctions.nd rfl (.inl rfl)) pgs_nil))))))
      (pss_cons (ps_set (i := 9) sc_flipped_junctions.nd rfl (.inl rfl) (pe_callTy (call_list_ofK K rfl) (by rfl) T.z_list (by decide +kernel) (pa_cons (pv 0) pa_nil)))
      (pss_cons (ps_if (pt_cmpR op_eq (pv 2) (pe_glob (v := .int (1)) rfl c_FIRST_WAY ⟨_, rfl⟩) (nomark _)) (pss_one (ps_asg (pe_tup (pa_cons (pe_tup (pa_cons (pv 5) (pa_cons (pv 7) (pa_cons (pv 1) pa_nil)))) (pa_cons (pe_tup (pa_cons (pv 6) (pa_cons (pv 8) (pa_cons (pv 1) pa_nil)))) pa_nil))) (pg_tupK (n := 2) K rfl rfl (pgs_cons (pg_sub (pv 9) (pv 3) set_list) (pgs_cons (pg_sub (pv 9) (pv 4) set_list) pgs_nil))))) (pss_one (ps_asg (pe_tup (pa_cons (pe_tup (pa_cons (pv 5) (pa_cons (pv 8) (pa_cons (pv 1) pa_nil)))) (pa_cons (pe_tup (pa_cons (pv 7) (pa_cons (pv 6) (pa_cons (pv 1) pa_nil)))) pa_nil))) (pg_tupK (n := 2) K rfl rfl (pgs_cons (pg_sub (pv 9) (pv 3) set_list) (pgs_cons (pg_sub (pv 9) (pv 4) set_list) pgs_nil))))))
      (pss_one (ps_ret (pe_callTy (call_tuple_ofK K rfl) (by rfl) T.z_tuple (by decide +kernel) (pa_cons (pv 9) pa_nil)))))))), ?_⟩
  obtain ⟨x0, x1, x2, rfl, h⟩ := h
  obtain ⟨G, js, z, k, i, j, a, b, c, d, hG, hx, rfl, rfl, hm, h3, F, q⟩ := h
  have hx0 := hx
  obtain ⟨aj, ts, rfl, hs, hp⟩ := hx
  have hlen := pLen hp
  refine ⟨_, rfl, _, rfl, ?_⟩
  refine ⟨_, _, rfl, G, js, z, hG, hx0, rfl, hm, fun v G1 H1 go1 hv => ?_⟩
  obtain ⟨D, us, rfl, hD, pD⟩ := hv
  obtain rfl := pI pD
  rw [F.sides] at hD
  have hD1 : SqL K H1 D [.int i, .int j] := go1.h.seq hD
  refine ⟨D, _, rfl, hD1, rfl, ?_⟩
  refine ⟨_, _, rfl, _, _, rfl, rfl, ?_⟩
  refine ⟨_, rfl, _, rfl, ?_⟩
  refine ⟨_, _, rfl, G1, js, z, i, j, a, b, c, d, go1.h, Mo.up go1.g hx0, rfl, hm, h3, F, fun v G2 H2 go2 hv => ?_⟩
  obtain ⟨D2, us, rfl, hD2, pD2⟩ := hv
  obtain rfl := pS pD2
  have hD3 : SqL K H2 D2 ([a, b, c, d].map V.str) := go2.h.seq hD2
  refine ⟨D2, _, rfl, hD3, rfl, ?_⟩
  refine ⟨_, _, rfl, _, _, rfl, _, _, rfl, _, _, rfl, rfl, ?_⟩
  have go3 := go1.trans go2
  refine ⟨_, rfl, ?_⟩
  refine ⟨aj, ts, rfl, .inr (seqT (go3.g.trans go3.h) hs), fun l hl => ?_⟩
  have go4 := go3.tmp (o := .lst ts) hl
  have hl4 : upd H2 l (.lst ts) l = some (.lst ts) := upd_same
  have gl4 : G2 l = none := go3.gnone hl
  have nl : H l = none := go3.fresh hl
  have lenT := hlen
  have ixi : ixN ts.length (i : Int) = some i := Evl.ixN_nat (by rw [hlen]; exact F.il)
  have ixj : ixN ts.length (j : Int) = some j := Evl.ixN_nat (by rw [hlen]; exact F.jl)
  generalize upd H2 l (.lst ts) = H4 at go4 hl4 ⊢
  refine ⟨_, rfl, rfl, _, rfl, ?_⟩
  by_cases hk : k = 1
  · rw [decide_eq_true (show V.int k = V.int 1 by rw [hk])]
    refine iteT (B := True) ?_
    refine ⟨_, rfl, _, rfl, _, rfl, (show (3:Nat) ≤ sizeLine by decide), fun p1 hp1 => ?_⟩
    refine ⟨_, rfl, _, rfl, _, rfl, (show (3:Nat) ≤ sizeLine by decide), fun p2 hp2 => ?_⟩
    refine ⟨(show (2:Nat) ≤ sizeLine by decide), fun p3 hp3 => ?_⟩
    have go5 := go4.new (o := .tup (([a, c, z] : List Str).map V.str)) hp1
    have go6 := go5.new (o := .tup (([b, d, z] : List Str).map V.str)) hp2
    have go7 := go6.tmp (o := .tup [.ref p1, .ref p2]) hp3
    have s5 := same_upd (o := .tup (([a, c, z] : List Str).map V.str)) (go4.gnone hp1)
    have s6 := same_upd (o := .tup (([b, d, z] : List Str).map V.str)) (go5.gnone hp2)
    have f1 : SqT K (upd (upd G2 p1 (.tup (([a, c, z] : List Str).map V.str))) p2 (.tup (([b, d, z] : List Str).map V.str))) p1 (([a, c, z] : List Str).map V.str) := SqT.of (s6 _ _ upd_same)
    have f2 : SqT K (upd (upd G2 p1 (.tup (([a, c, z] : List Str).map V.str))) p2 (.tup (([b, d, z] : List Str).map V.str))) p2 (([b, d, z] : List Str).map V.str) := SqT.of upd_same
    have hl5 := same_upd (o := .tup (([a, c, z] : List Str).map V.str)) hp1 _ _ hl4
    have hl6 := same_upd (o := .tup (([b, d, z] : List Str).map V.str)) hp2 _ _ hl5
    have hl7 := same_upd (o := .tup [.ref p1, .ref p2]) hp3 _ _ hl6
    have gl7 : upd (upd G2 p1 (.tup (([a, c, z] : List Str).map V.str))) p2 (.tup (([b, d, z] : List Str).map V.str)) l = none := by
      refine (upd_ne (ne_of_none hl5 hp2)).trans ((upd_ne (ne_of_none hl4 hp1)).trans gl4)
    have f3 : SqT K (upd (upd (upd H4 p1 (.tup (([a, c, z] : List Str).map V.str))) p2 (.tup (([b, d, z] : List Str).map V.str))) p3 (.tup [.ref p1, .ref p2])) p3 [.ref p1, .ref p2] := SqT.of upd_same
    have s7 := s5.trans s6
    refine ⟨p3, _, rfl, f3, rfl, ?_⟩
    refine ⟨_, _, rfl, _, rfl, _, rfl, l, ts, (i : Int), i, rfl, rfl, hl7, ixi, ?_⟩
    refine ⟨_, _, rfl, _, rfl, _, rfl, l, _, (j : Int), j, rfl, rfl, upd_same, by rw [List.length_set]; exact ixj, rfl, ?_⟩
    have go8 := (go7.mut (o := .lst (ts.set i (.ref p1))) gl7 (.inl nl)).mut (o := .lst ((ts.set i (.ref p1)).set j (.ref p2))) gl7 (.inl nl)
    refine ⟨_, rfl, ?_⟩
    refine ⟨l, _, rfl, .inl ⟨SqL.of upd_same, fun t ht => ?_⟩⟩
    have s8 := same_upd (o := .tup ((ts.set i (.ref p1)).set j (.ref p2))) (go8.gnone ht)
    refine q _ _ _ (go8.new ht) ⟨t, _, rfl, SqT.of upd_same, ?_⟩
    unfold flipRows
    rw [show flipI k z a b c d = ([a, c, z] : List Str) from if_pos hk, show flipJ k z a b c d = ([b, d, z] : List Str) from if_pos hk]
    refine paired_set (rTs.mpr ⟨p2, rfl, seqT s8 f2⟩) (paired_set (rTs.mpr ⟨p1, rfl, seqT s8 f1⟩) ?_)
    exact L2.Paired.mapP hp fun _ _ z => Mo.up ((go3.g.trans s7).trans s8) z
  · rw [decide_eq_false (show ¬ V.int k = V.int 1 from fun h => hk (V.int.inj h))]
    refine iteF (A := True) ?_
    refine ⟨_, rfl, _, rfl, _, rfl, (show (3:Nat) ≤ sizeLine by decide), fun p1 hp1 => ?_⟩
    refine ⟨_, rfl, _, rfl, _, rfl, (show (3:Nat) ≤ sizeLine by decide), fun p2 hp2 => ?_⟩
    refine ⟨(show (2:Nat) ≤ sizeLine by decide), fun p3 hp3 => ?_⟩
    have go5 := go4.new (o := .tup (([a, d, z] : List Str).map V.str)) hp1
    have go6 := go5.new (o := .tup (([c, b, z] : List Str).map V.str)) hp2
    have go7 := go6.tmp (o := .tup [.ref p1, .ref p2]) hp3
    have s5 := same_upd (o := .tup (([a, d, z] : List Str).map V.str)) (go4.gnone hp1)
    have s6 := same_upd (o := .tup (([c, b, z] : List Str).map V.str)) (go5.gnone hp2)
    have f1 : SqT K (upd (upd G2 p1 (.tup (([a, d, z] : List Str).map V.str))) p2 (.tup (([c, b, z] : List Str).map V.str))) p1 (([a, d, z] : List Str).map V.str) := SqT.of (s6 _ _ upd_same)
    have f2 : SqT K (upd (upd G2 p1 (.tup (([a, d, z] : List Str).map V.str))) p2 (.tup (([c, b, z] : List Str).map V.str))) p2 (([c, b, z] : List Str).map V.str) := SqT.of upd_same
    have hl5 := same_upd (o := .tup (([a, d, z] : List Str).map V.str)) hp1 _ _ hl4
    have hl6 := same_upd (o := .tup (([c, b, z] : List Str).map V.str)) hp2 _ _ hl5
    have hl7 := same_upd (o := .tup [.ref p1, .ref p2]) hp3 _ _ hl6
    have gl7 : upd (upd G2 p1 (.tup (([a, d, z] : List Str).map V.str))) p2 (.tup (([c, b, z] : List Str).map V.str)) l = none := by
      refine (upd_ne (ne_of_none hl5 hp2)).trans ((upd_ne (ne_of_none hl4 hp1)).trans gl4)
    have f3 : SqT K (upd (upd (upd H4 p1 (.tup (([a, d, z] : List Str).map V.str))) p2 (.tup (([c, b, z] : List Str).map V.str))) p3 (.tup [.ref p1, .ref p2])) p3 [.ref p1, .ref p2] := SqT.of upd_same
    have s7 := s5.trans s6
    refine ⟨p3, _, rfl, f3, rfl, ?_⟩
    refine ⟨_, _, rfl, _, rfl, _, rfl, l, ts, (i : Int), i, rfl, rfl, hl7, ixi, ?_⟩
    refine ⟨_, _, rfl, _, rfl, _, rfl, l, _, (j : Int), j, rfl, rfl, upd_same, by rw [List.length_set]; exact ixj, rfl, ?_⟩
    have go8 := (go7.mut (o := .lst (ts.set i (.ref p1))) gl7 (.inl nl)).mut (o := .lst ((ts.set i (.ref p1)).set j (.ref p2))) gl7 (.inl nl)
    refine ⟨_, rfl, ?_⟩
    refine ⟨l, _, rfl, .inl ⟨SqL.of upd_same, fun t ht => ?_⟩⟩
    have s8 := same_upd (o := .tup ((ts.set i (.ref p1)).set j (.ref p2))) (go8.gnone ht)
    refine q _ _ _ (go8.new ht) ⟨t, _, rfl, SqT.of upd_same, ?_⟩
    unfold flipRows
    rw [show flipI k z a b c d = ([a, d, z] : List Str) from if_neg hk, show flipJ k z a b c d = ([c, b, z] : List Str) from if_neg hk]
    refine paired_set (rTs.mpr ⟨p2, rfl, seqT s8 f2⟩) (paired_set (rTs.mpr ⟨p1, rfl, seqT s8 f1⟩) ?_)
    exact L2.Paired.mapP hp fun _ _ z => Mo.up ((go3.g.trans s7).trans s8) z
end
end Tc
namespace Tc
open PySem PySem.Spec PyProof.Rows L2 Fw Mw TL
local macro_rules | `(tactic| wtm_at "z_ne") => `(tactic| first | assumption | (apply Ne.symm; assumption) | omega)
local macro_rules | `(tactic| wtm_at "z_hp") => `(tactic| first | assumption | exact upd_same | (refine (upd_ne ?_).trans ?_; (focus wtm_at "z_ne"); wtm_at "z_hp"))
local macro_rules | `(tactic| wtm_at "z_sq") => `(tactic| first | assumption | (exact .inl (.inl (by wtm_at "z_hp"))))
local macro_rules | `(tactic| wtm_at "z_side") => `(tactic| first | assumption | omega | (simp only []; omega) | exact ⟨by omega, by omega⟩ | exact ⟨by omega, by omega, by omega⟩ | exact .inl ⟨by omega, by omega⟩ | exact .inr ⟨by omega, by omega⟩ | decide)
local macro_rules | `(tactic| wtm_at "z") => `(tactic| first
  | refine ⟨_, rfl, ?_⟩
  | refine ⟨_, _, rfl, rfl, ?_⟩
  | refine And.intro (by wtm_at "z_side") ?_
  | refine .inl ⟨_, rfl, ?_⟩
  | refine ⟨_, _, _, _, rfl, rfl, (by wtm_at "z_sq"), (by first | rfl | assumption), ?_⟩
  | refine ⟨_, _, _, _, rfl, rfl, (by wtm_at "z_hp"), (by first | rfl | assumption), ?_⟩)
local macro_rules | `(tactic| wtm_at "zb") => `(tactic| dsimp only [L2.tCB, L2.tCons, L2.tNil, L2.tC])
section
variable {P : Program} {w : World} {K : PySem.W.Frag} {mg : Str → Option Value} {base : Heap} {CW : Addr}
theorem ok_flipped (F : FunAtK K mg "flipped" s_flipped ["web", "road", "way"] ["way", "road", "web"] gk_flipped gk_flipped) (T : Txt K mg CW) (C_check_road : Cal P w K mg base CX0 "check_road" 3 ["web", "road"] [] (sp_check_road K CW)) (C_check_way : Cal P w K mg base CX0 "check_way" 3 ["way"] [] (sp_check_way K CW)) (C_Web_init__ : InitAt P w K mg base CW 4) (C_text_of : Cal P w K mg base CX0 "text_of" 1 ["junctions"] [] (sp_text_of K CW)) (C_flipped_junctions : Cal P w K mg base CX0 "flipped_junctions" 3 ["junctions", "road", "way"] [] (sp_flipped_junctions K CW)) : CalK P w K mg base CX0 "flipped" 6 ["web", "road", "way"] [] (sp_flipped K CW) ["way", "road", "web"] gk_flipped gk_flipped := by
  obtain ⟨f, fd, F, mgf, bf, kbf⟩ := F
  obtain ⟨f_check_road, fd_check_road, ds_check_road, G_check_road, m_check_road, k_check_road, b_check_road, d_check_road⟩ := C_check_road
  obtain ⟨f_check_way, fd_check_way, ds_check_way, G_check_way, m_check_way, k_check_way, b_check_way, d_check_way⟩ := C_check_way
  obtain ⟨f_Web_init__, fd_Web_init__, ds_Web_init__, G_Web_init__, M_Web, b_Web_init__, d_Web_init__⟩ := C_Web_init__
  obtain ⟨f_text_of, fd_text_of, ds_text_of, G_text_of, m_text_of, k_text_of, b_text_of, d_text_of⟩ := C_text_of
  obtain ⟨f_flipped_junctions, fd_flipped_junctions, ds_flipped_junctions, G_flipped_junctions, m_flipped_junctions, k_flipped_junctions, b_flipped_junctions, d_flipped_junctions⟩ := C_flipped_junctions
  refine ⟨f, fd, [], ?_, mgf, F.kp, bf, .nil, kbf⟩
  refine F.ok sc_flipped (fun vs H Q E h => by obtain ⟨_, _, _, rfl, _⟩ := h; rfl) (fun cdv A outer s H vs Q E hr h => ?_)
  refine ⟨_, (pss_cons (ps_expr (pe_call G_check_road (hr.mono (by decide)) (by rfl) m_check_road k_check_road b_check_road d_check_road pass0 (pa_cons (pv 0) (pa_cons (pv 1) pa_nil))))
      (pss_cons (ps_expr (pe_call G_check_way (hr.mono (by decide)) (by rfl) m_check_way k_check_way b_check_way d_check_way pass0 (pa_cons (pv 2) pa_nil)))
      (pss_one (ps_ret (pe_make M_Web G_Web_init__ (hr.mono (by decide)) (by rfl) T.m_Web b_Web_init__ d_Web_init__ pass0 (pa_cons (pe_call G_text_of (hr.mono (by decide)) (by rfl) m_text_of k_text_of b_text_of d_text_of pass0 (pa_cons (pe_call G_flipped_junctions (hr.mono (by decide)) (by rfl) m_flipped_junctions k_flipped_junctions b_flipped_junctions d_flipped_junctions pass0 (pa_cons (pe_fldK K rfl (pv 0)) (pa_cons (pv 1) (pa_cons (pv 2) pa_nil)))) pa_nil)) pa_nil)))))), ?_⟩
  obtain ⟨x0, x1, x2, rfl, h⟩ := h
  obtain ⟨G, js, z, k, i, j, a, b, c, d, hG, hx, rfl, rfl, hk, good, whole, F, q⟩ := h
  have hx0 := hx
  obtain ⟨aw, dx, vt, vj, vr, vi, ve, g, rfl, ha, W⟩ := hx
  have hm := good.most
  refine ⟨_, rfl, _, rfl, ?_⟩
  wtm_at "zb"
  refine ⟨_, _, rfl, G, js, z, hG, hx0, rfl, by omega, by rw [F.sides]; rfl, fun H1 sm1 => ?_⟩
  refine ⟨_, rfl, ?_⟩
  refine ⟨_, rfl, k, rfl, hk, ?_⟩
  have haH := sm1 _ _ (hG _ _ ha)
  refine ⟨_, rfl, aw, CW, dx, _, vj, rfl, haH, T.cl, T.n_junctions, lk_junctions, ?_⟩
  refine ⟨_, rfl, _, rfl, ?_⟩
  have h3 : ∀ r ∈ js, r.length = 3 := fun r hr => (good.rows r hr).len
  refine ⟨_, _, _, rfl, G, js, z, k, i, j, a, b, c, d, hG.trans sm1, W.junctions, rfl, rfl, by omega, h3, F, fun v G2 H2 go2 hv => ?_⟩
  have good2 := flip_good (k := k) good F
  have whole2 := flip_whole (k := k) good whole F
  have hm2 := good2.most
  refine ⟨_, rfl, G2, _, go2.h, hv, good2.rows, by omega, fun H3 sm3 => ?_⟩
  have go1 := (Go.ref0 hG).grow sm1
  have go3 := (go1.trans go2).grow sm3
  intro x dx2 hx2 hdx nd
  have go4 := (go3.tmp (o := .own x) hdx).tmp (p := x) (o := .ins CW dx2 []) ((upd_ne (Ne.symm nd)).trans hx2)
  have g2x : G2 x = none := go3.gnone hx2
  have h0x : H x = none := go3.fresh hx2
  refine ⟨_, _, rfl, G2, _, x, dx2, go4.h, g2x, rfl, rfl, upd_same, good2, whole2, fun G3 H3 go5 hW => ⟨rfl, ?_⟩⟩
  obtain ⟨vt, vj, vr, vi, ve, g, hW, W⟩ := hW
  have go6 := go4.own go5 h0x
  have g3x : G3 x = none := go5.n x (by rw [upd_same]; exact fun z => nomatch z) g2x
  have go7 := go6.frz h0x hW g3x
  exact q _ _ _ go7 ⟨x, dx2, vt, vj, vr, vi, ve, g, rfl, upd_same, W.up (same_upd g3x)⟩
end
end Tc
namespace Tc
open PySem PySem.Spec PyProof.Rows L2 Fw Mw TL
local macro_rules | `(tactic| wtm_at "z_ne") => `(tactic| first | assumption | (apply Ne.symm; assumption) | omega)
local macro_rules | `(tactic| wtm_at "z_hp") => `(tactic| first | assumption | exact upd_same | (refine (upd_ne ?_).trans ?_; (focus wtm_at "z_ne"); wtm_at "z_hp"))
local macro_rules | `(tactic| wtm_at "z_sq") => `(tactic| first | assumption | (exact .inl (.inl (by wtm_at "z_hp"))))
local macro_rules | `(tactic| wtm_at "z_side") => `(tactic| first | assumption | omega | (simp only []; omega) | exact ⟨by omega, by omega⟩ | exact ⟨by omega, by omega, by omega⟩ | exact .inl ⟨by omega, by omega⟩ | exact .inr ⟨by omega, by omega⟩ | decide)
local macro_rules | `(tactic| wtm_at "z") => `(tactic| first
  | refine ⟨_, rfl, ?_⟩
  | refine ⟨_, _, rfl, rfl, ?_⟩
  | refine And.intro (by wtm_at "z_side") ?_
  | refine .inl ⟨_, rfl, ?_⟩
  | refine ⟨_, _, _, _, rfl, rfl, (by wtm_at "z_sq"), (by first | rfl | assumption), ?_⟩
  | refine ⟨_, _, _, _, rfl, rfl, (by wtm_at "z_hp"), (by first | rfl | assumption), ?_⟩)
local macro_rules | `(tactic| wtm_at "zb") => `(tactic| dsimp only [L2.tCB, L2.tCons, L2.tNil, L2.tC])
section
variable {P : Program} {w : World} {K : PySem.W.Frag} {mg : Str → Option Value} {base : Heap} {CW : Addr}
theorem ok_law_pot (F : FunAt K mg "_law_pot" s_law_pot ["script", "place"]) (T : Txt K mg CW)  : Cal P w K mg base CX0 "_law_pot" 1 ["script", "place"] [] (sp_law_pot K CW) := by
  obtain ⟨f, fd, F, mgf, bf⟩ := F
  refine ⟨f, fd, [], ?_, mgf, F.kp, bf, .nil⟩
  refine F.ok sc_law_pot (fun vs H Q E h => by obtain ⟨_, _, rfl, _⟩ := h; rfl) (fun cdv A outer s H vs Q E hr h => ?_)
  refine ⟨_, (pss_cons (ps_set (i := 2) sc_law_pot.nd rfl (.inl rfl) (pe_ifExp (pt_cmpR op_lt (pv 1) (pe_callB (call_len_seqK K rfl) (by rfl) T.z_len (by decide +kernel) (pa_cons (pv 0) pa_nil)) (nomark _)) (pe_ix (ix_listK K rfl) (pv 0) (pv 1) (fun _ _ => rfl)) (pe_op op_add (pe_op op_add (pe_op op_mod (pe_callB (cr_sumK K rfl rfl) (by rfl) T.z_sum (by decide +kernel) (pa_cons (pe_slice (sl_listK K rfl) (pv 0) po_none (po_some pe_int)) pa_nil)) pe_int) (pe_op op_mul pe_int (pv 1))) pe_int)))
      (pss_cons (ps_set (i := 3) sc_law_pot.nd rfl (.inl rfl) (pe_op op_mul (pe_op op_mod (pe_callTy call_int1 (by rfl) T.z_int (by decide +kernel) (pa_cons (pe_callB call_abs (by rfl) T.z_abs (by decide +kernel) (pa_cons (pv 2) pa_nil)) pa_nil)) (pe_op Yr.op_powB (pe_op op_pow pe_int pe_int) pe_int)) (pe_callTy call_int1 (by rfl) T.z_int (by decide +kernel) (pa_cons (pe_cmpR op_ge (pe_callB call_abs (by rfl) T.z_abs (by decide +kernel) (pa_cons (pv 2) pa_nil)) (pe_op op_pow pe_int pe_int) (nomark _)) pa_nil))))
      (pss_cons (ps_set (i := 4) sc_law_pot.nd rfl (.inl rfl) (pe_op op_mod (pe_callTy call_int1 (by rfl) T.z_int (by decide +kernel) (pa_cons (pv 2) pa_nil)) pe_int))
      (pss_one (ps_ret (pe_lst (pa_cons (pv 3) (pa_cons (pe_op op_mod (pe_callTy call_int1 (by rfl) T.z_int (by decide +kernel) (pa_cons (pe_op op_add (pe_op op_add (pe_op op_mul (pv 4) pe_int) (pe_op op_mul (pe_op op_mul pe_int (pv 1)) (pv 1))) pe_int) pa_nil)) pe_int) (pa_cons pe_int pa_nil))))))))), ?_⟩
  obtain ⟨x0, x1, rfl, h⟩ := h
  obtain ⟨a, ns, i, rfl, rfl, hs, hi, q⟩ := h
  refine ⟨_, rfl, _, rfl, ?_⟩
  wtm_at "zb"
  refine ⟨a, _, rfl, .inl hs, ?_⟩
  have ct : cutV (ns.map V.int) none (some 1) = (ns.take 1).map V.int := by
    unfold cutV
    have e : HT.sIx (ns.map V.int).length (ns.map V.int).length (some 1) = min 1 ns.length := by
      have h := HT.sIx_nat (ns.map V.int).length (ns.map V.int).length 1
      rw [List.length_map] at h ⊢
      exact h
    rw [HT.sIx_none, e, List.drop_zero, Nat.sub_zero, ← List.map_take]
    congr 1
    cases ns <;> simp
  refine ⟨_, _, rfl, rfl, _, rfl, ite2 (fun e => ?_) (fun e => ?_)⟩
  · have hlt : i < (ns.map V.int).length := by
      have := of_decide_eq_true e
      omega
    obtain ⟨cell, hc⟩ : ∃ cell, (ns.map V.int)[i]? = some (.int cell) := by
      rw [List.length_map] at hlt
      exact ⟨ns[i], by rw [List.getElem?_map, List.getElem?_eq_getElem hlt]; rfl⟩
    refine ⟨_, rfl, _, rfl, a, _, (i : Nat), _, rfl, rfl, hs, atI_nat hc, ?_⟩
    obtain ⟨H9, sm, eH⟩ : ∃ H9, Same H H9 ∧ H9 = H := ⟨H, Same.refl H, rfl⟩
    rw [← eH]
    refine ⟨_, rfl, ?_⟩
    wtm_at "zb"
    refine ⟨_, rfl, .inl ⟨_, rfl, ?_⟩⟩
    refine ⟨_, _, rfl, rfl, ⟨by decide, by decide, by decide⟩, ?_⟩
    refine ⟨_, _, rfl, rfl, ⟨by decide, by decide +kernel⟩, ?_⟩
    have hbig : (0:Int) < (10 ^ Int.toNat 60) ^ Int.toNat 5 := by decide +kernel
    refine ⟨_, _, rfl, rfl, hbig, ?_⟩
    refine ⟨_, rfl, ?_⟩
    wtm_at "zb"
    refine ⟨_, rfl, ?_⟩
    refine ⟨_, _, rfl, rfl, ⟨by decide, by decide, by decide⟩, ?_⟩
    refine ⟨_, _, rfl, rfl, ?_⟩
    refine .inr ⟨_, rfl, ?_⟩
    have hb1 : ∀ b : Bool, -(2 ^ 64) < (if b = true then (1 : Int) else 0) ∧ (if b = true then (1 : Int) else 0) < 2 ^ 64 ∧ 0 ≤ (if b = true then (1 : Int) else 0) := by decide
    refine ⟨_, _, rfl, rfl, .inr ⟨(hb1 _).1, (hb1 _).2.1⟩, ?_⟩
    have hown := Int.mul_nonneg (Int.emod_nonneg (if cell < 0 then -cell else cell) (Int.ne_of_gt hbig)) (hb1 (decide (10 ^ Int.toNat 18 ≤ if cell < 0 then -cell else cell))).2.2
    refine ⟨_, rfl, ?_⟩
    wtm_at "zb"
    refine .inl ⟨_, rfl, ?_⟩
    refine ⟨_, _, rfl, rfl, (show (0:Int) < 2305843009213693951 by decide), ?_⟩
    have hs1 := Int.emod_nonneg cell (show (2305843009213693951 : Int) ≠ 0 by decide)
    have hs2 := Int.emod_lt_of_pos cell (show (0 : Int) < 2305843009213693951 by decide)
    refine ⟨_, rfl, ?_⟩
    wtm_at "zb"
    refine ⟨_, rfl, ?_⟩
    refine ⟨_, _, rfl, rfl, .inr ⟨by decide, by decide⟩, ?_⟩
    refine ⟨_, rfl, ?_⟩
    refine ⟨_, _, rfl, rfl, .inl ⟨by decide, by decide⟩, ?_⟩
    refine ⟨_, rfl, ?_⟩
    refine ⟨_, _, rfl, rfl, .inr ⟨by omega, by omega⟩, ?_⟩
    refine ⟨_, _, rfl, rfl, ?_⟩
    refine ⟨_, _, rfl, rfl, ?_⟩
    refine .inl ⟨_, rfl, ?_⟩
    refine ⟨_, _, rfl, rfl, (show (0:Int) < 2305843009213693921 by decide), ?_⟩
    refine ⟨(show (3:Nat) ≤ sizeLine by decide), fun l hl => ?_⟩
    have hx1 := Int.emod_nonneg (cell % 2305843009213693951 * 77628 + 9672 * (i : Int) * (i : Int) + 936) (show (2305843009213693921 : Int) ≠ 0 by decide)
    have hx2 := Int.emod_lt_of_pos (cell % 2305843009213693951 * 77628 + 9672 * (i : Int) * (i : Int) + 936) (show (0 : Int) < 2305843009213693921 by decide)
    exact q l _ (sm.free hl) (sm.trans (same_upd hl)) ⟨_, _, _, upd_same, hown, hx1, by omega, by decide, by omega⟩
  · refine ⟨_, rfl, _, rfl, a, _, rfl, hs, fun p hp => ?_⟩
    have sm := same_upd (o := .lst (cutV (ns.map V.int) none (some 1))) hp
    have h9 : SqL K (upd H p (.lst (cutV (ns.map V.int) none (some 1)))) p ((ns.take 1).map V.int) := SqL.of (by rw [upd_same, ct])
    generalize upd H p (.lst (cutV (ns.map V.int) none (some 1))) = H9 at sm h9 ⊢
    wtm_at "zb"
    refine ⟨p, _, rfl, h9, ?_⟩
    refine ⟨_, _, rfl, rfl, (show (0:Int) < 1000003 by decide), ?_⟩
    refine ⟨_, rfl, _, _, rfl, rfl, .inl ⟨by decide, by decide⟩, ?_⟩
    refine ⟨_, _, rfl, rfl, ?_⟩
    refine ⟨_, _, rfl, rfl, ?_⟩
    refine ⟨_, rfl, ?_⟩
    wtm_at "zb"
    refine ⟨_, rfl, .inl ⟨_, rfl, ?_⟩⟩
    refine ⟨_, _, rfl, rfl, ⟨by decide, by decide, by decide⟩, ?_⟩
    refine ⟨_, _, rfl, rfl, ⟨by decide, by decide +kernel⟩, ?_⟩
    obtain ⟨cell, hcell⟩ : ∃ cell, cell = (ns.take 1).sum % 1000003 + 1758 * (i : Int) + 914 := ⟨_, rfl⟩
    rw [← hcell]
    have hbig : (0:Int) < (10 ^ Int.toNat 60) ^ Int.toNat 5 := by decide +kernel
    refine ⟨_, _, rfl, rfl, hbig, ?_⟩
    refine ⟨_, rfl, ?_⟩
    wtm_at "zb"
    refine ⟨_, rfl, ?_⟩
    refine ⟨_, _, rfl, rfl, ⟨by decide, by decide, by decide⟩, ?_⟩
    refine ⟨_, _, rfl, rfl, ?_⟩
    refine .inr ⟨_, rfl, ?_⟩
    have hb1 : ∀ b : Bool, -(2 ^ 64) < (if b = true then (1 : Int) else 0) ∧ (if b = true then (1 : Int) else 0) < 2 ^ 64 ∧ 0 ≤ (if b = true then (1 : Int) else 0) := by decide
    refine ⟨_, _, rfl, rfl, .inr ⟨(hb1 _).1, (hb1 _).2.1⟩, ?_⟩
    have hown := Int.mul_nonneg (Int.emod_nonneg (if cell < 0 then -cell else cell) (Int.ne_of_gt hbig)) (hb1 (decide (10 ^ Int.toNat 18 ≤ if cell < 0 then -cell else cell))).2.2
    refine ⟨_, rfl, ?_⟩
    wtm_at "zb"
    refine .inl ⟨_, rfl, ?_⟩
    refine ⟨_, _, rfl, rfl, (show (0:Int) < 2305843009213693951 by decide), ?_⟩
    have hs1 := Int.emod_nonneg cell (show (2305843009213693951 : Int) ≠ 0 by decide)
    have hs2 := Int.emod_lt_of_pos cell (show (0 : Int) < 2305843009213693951 by decide)
    refine ⟨_, rfl, ?_⟩
    wtm_at "zb"
    refine ⟨_, rfl, ?_⟩
    refine ⟨_, _, rfl, rfl, .inr ⟨by decide, by decide⟩, ?_⟩
    refine ⟨_, rfl, ?_⟩
    refine ⟨_, _, rfl, rfl, .inl ⟨by decide, by decide⟩, ?_⟩
    refine ⟨_, rfl, ?_⟩
    refine ⟨_, _, rfl, rfl, .inr ⟨by omega, by omega⟩, ?_⟩
    refine ⟨_, _, rfl, rfl, ?_⟩
    refine ⟨_, _, rfl, rfl, ?_⟩
    refine .inl ⟨_, rfl, ?_⟩
    refine ⟨_, _, rfl, rfl, (show (0:Int) < 2305843009213693921 by decide), ?_⟩
    refine ⟨(show (3:Nat) ≤ sizeLine by decide), fun l hl => ?_⟩
    have hx1 := Int.emod_nonneg (cell % 2305843009213693951 * 77628 + 9672 * (i : Int) * (i : Int) + 936) (show (2305843009213693921 : Int) ≠ 0 by decide)
    have hx2 := Int.emod_lt_of_pos (cell % 2305843009213693951 * 77628 + 9672 * (i : Int) * (i : Int) + 936) (show (0 : Int) < 2305843009213693921 by decide)
    exact q l _ (sm.free hl) (sm.trans (same_upd hl)) ⟨_, _, _, upd_same, hown, hx1, by omega, by decide, by omega⟩
end
end Tc
namespace Tc
open PySem PySem.Spec PyProof.Rows L2 Fw Mw TL
local macro_rules | `(tactic| wtm_at "z_ne") => `(tactic| first | assumption | (apply Ne.symm; assumption) | omega)
local macro_rules | `(tactic| wtm_at "z_hp") => `(tactic| first | assumption | exact upd_same | (refine (upd_ne ?_).trans ?_; (focus wtm_at "z_ne"); wtm_at "z_hp"))
local macro_rules | `(tactic| wtm_at "z_sq") => `(tactic| first | assumption | (exact .inl (.inl (by wtm_at "z_hp"))))
local macro_rules | `(tactic| wtm_at "z_side") => `(tactic| first | assumption | omega | (simp only []; omega) | exact ⟨by omega, by omega⟩ | exact ⟨by omega, by omega, by omega⟩ | exact .inl ⟨by omega, by omega⟩ | exact .inr ⟨by omega, by omega⟩ | decide)
local macro_rules | `(tactic| wtm_at "z") => `(tactic| first
  | refine ⟨_, rfl, ?_⟩
  | refine ⟨_, _, rfl, rfl, ?_⟩
  | refine And.intro (by wtm_at "z_side") ?_
  | refine .inl ⟨_, rfl, ?_⟩
  | refine ⟨_, _, _, _, rfl, rfl, (by wtm_at "z_sq"), (by first | rfl | assumption), ?_⟩
  | refine ⟨_, _, _, _, rfl, rfl, (by wtm_at "z_hp"), (by first | rfl | assumption), ?_⟩)
local macro_rules | `(tactic| wtm_at "zb") => `(tactic| dsimp only [L2.tCB, L2.tCons, L2.tNil, L2.tC])
section
variable {P : Program} {w : World} {K : PySem.W.Frag} {mg : Str → Option Value} {base : Heap} {CW : Addr}
theorem ok_law_take (F : FunAt K mg "_law_take" s_law_take ["pot", "upto"]) (T : Txt K mg CW)  : Cal P w K mg base CX0 "_law_take" 1 ["pot", "upto"] [] (sp_law_take K CW) := by
  obtain ⟨f, fd, F, mgf, bf⟩ := F
  refine ⟨f, fd, [], ?_, mgf, F.kp, bf, .nil⟩
  refine F.ok sc_law_take (fun vs H Q E h => by obtain ⟨_, _, rfl, _⟩ := h; rfl) (fun cdv A outer s H vs Q E hr h => ?_)
  refine ⟨_, (pss_cons (ps_if (pt_cmpR op_gt (pe_ix (ix_listK K rfl) (pv 0) pe_int (fun _ _ => rfl)) pe_int (nomark _)) (pss_cons (ps_set (i := 2) sc_law_take.nd rfl (.inl rfl) (pe_op op_mod (pe_callTy call_int1 (by rfl) T.z_int (by decide +kernel) (pa_cons (pe_ix (ix_listK K rfl) (pv 0) pe_int (fun _ _ => rfl)) pa_nil)) (pv 1)))
      (pss_cons (ps_asg (pe_op op_fdiv (pe_ix (ix_listK K rfl) (pv 0) pe_int (fun _ _ => rfl)) (pv 1)) (pg_sub (pv 0) pe_int set_list))
      (pss_one (ps_ret (pv 2))))) pss_nil)
      (pss_cons (ps_asg (pe_op op_add (pe_ix (ix_listK K rfl) (pv 0) pe_int (fun _ _ => rfl)) pe_int) (pg_sub (pv 0) pe_int set_list))
      (pss_cons (ps_set (i := 3) sc_law_take.nd rfl (.inl rfl) (pe_ix (ix_listK K rfl) (pe_lst (pa_cons pe_int (pa_cons pe_int (pa_cons pe_int (pa_cons pe_int (pa_cons pe_int pa_nil)))))) (pe_op op_mod (pe_callTy call_int1 (by rfl) T.z_int (by decide +kernel) (pa_cons (pe_ix (ix_listK K rfl) (pv 0) pe_int (fun _ _ => rfl)) pa_nil)) pe_int) (fun _ _ => rfl)))
      (pss_cons (ps_set (i := 4) sc_law_take.nd rfl (.inl rfl) (pe_op op_mod (pe_callTy call_int1 (by rfl) T.z_int (by decide +kernel) (pa_cons (pe_op op_pow (pe_callTy call_int1 (by rfl) T.z_int (by decide +kernel) (pa_cons (pe_op op_add (pe_op op_add (pe_ix (ix_listK K rfl) (pv 0) pe_int (fun _ _ => rfl)) (pe_op op_mul (pe_op op_mul pe_int (pe_ix (ix_listK K rfl) (pv 0) pe_int (fun _ _ => rfl))) (pe_ix (ix_listK K rfl) (pv 0) pe_int (fun _ _ => rfl)))) pe_int) pa_nil)) pe_int) pa_nil)) (pv 3)))
      (pss_cons (ps_set (i := 4) sc_law_take.nd rfl (.inl rfl) (pe_op op_mod (pe_callTy call_int1 (by rfl) T.z_int (by decide +kernel) (pa_cons (pe_op op_mul (pv 4) (pe_op op_add (pe_op op_mod (pe_callTy call_int1 (by rfl) T.z_int (by decide +kernel) (pa_cons (pv 4) pa_nil)) pe_int) (pe_op op_mul pe_int (pe_ix (ix_listK K rfl) (pv 0) pe_int (fun _ _ => rfl))))) pa_nil)) pe_int))
      (pss_one (ps_ret (pe_op op_mod (pe_callTy call_int1 (by rfl) T.z_int (by decide +kernel) (pa_cons (pe_op op_fdiv (pv 4) pe_int) pa_nil)) (pv 1))))))))), ?_⟩
  obtain ⟨x0, x1, rfl, h⟩ := h
  obtain ⟨p, n, u, rfl, rfl, hu, hu2, ⟨a, b, c, hp, ha, hb, hb2, hc, hc2⟩, q⟩ := h
  have hS : SqL K H p [.int a, .int b, .int c] := SqL.of hp
  repeat wtm_at "z"
  refine ite2 (fun e => ?_) (fun e => ?_)
  · have e0 : 0 < a := of_decide_eq_true e
    repeat wtm_at "z"
    refine q _ _ (Int.emod_nonneg _ (by omega)) (Int.emod_lt_of_pos _ hu) ⟨_, _, _, upd_same, ?_, hb, hb2, hc, by omega⟩ (fun z o hz e => (upd_ne hz).trans e)
    exact Int.ediv_nonneg ha (by omega)
  · repeat wtm_at "z"
    intro o ho
    have hop : o ≠ p := fun e => by rw [e, upd_same] at ho; cases ho
    obtain ⟨m, hm, hm0, hm1⟩ : ∃ m, atI [V.int 2147483647, V.int 2147483629, V.int 2147483587, V.int 2147483579, V.int 2147483563] ((c + 1) % 5) = some (.int m) ∧ 0 < m ∧ m ≤ 2147483647 := by
      have h5 : (c + 1) % 5 = 0 ∨ (c + 1) % 5 = 1 ∨ (c + 1) % 5 = 2 ∨ (c + 1) % 5 = 3 ∨ (c + 1) % 5 = 4 := by omega
      rcases h5 with h | h | h | h | h <;> rw [h]
      · exact ⟨_, rfl, by decide, by decide⟩
      · exact ⟨_, rfl, by decide, by decide⟩
      · exact ⟨_, rfl, by decide, by decide⟩
      · exact ⟨_, rfl, by decide, by decide⟩
      · exact ⟨_, rfl, by decide, by decide⟩
    have hp2 : (upd (upd H p (.lst [.int a, .int b, .int (c + 1)])) o (.lst [V.int 2147483647, V.int 2147483629, V.int 2147483587, V.int 2147483579, V.int 2147483563])) p = some (.lst [.int a, .int b, .int (c + 1)]) := (upd_ne hop.symm).trans upd_same
    repeat wtm_at "z"
    refine And.intro (cpow_of hb hb2 (by decide) (by decide) (by omega) (by omega) (by decide) (by decide)) ?_
    repeat wtm_at "z"
    have hx := Int.emod_nonneg ((b + 102450 * (c + 1) * (c + 1) + 1338) ^ (3 : Int).toNat) (show m ≠ 0 by omega)
    have hy := Int.emod_lt_of_pos ((b + 102450 * (c + 1) * (c + 1) + 1338) ^ (3 : Int).toNat) hm0
    generalize ((b + 102450 * (c + 1) * (c + 1) + 1338) ^ (3 : Int).toNat) % m = x at hx hy ⊢
    repeat wtm_at "z"
    refine q _ _ (Int.emod_nonneg _ (by omega)) (Int.emod_lt_of_pos _ hu) ⟨_, _, _, hp2, ha, hb, hb2, by omega, by omega⟩ (fun z oz hz e => ?_)
    exact (upd_ne (ne_of_none ((upd_ne hz).trans e) ho)).trans ((upd_ne hz).trans e)
end
end Tc
namespace Tc
open PySem PySem.Spec PyProof.Rows L2 Fw Mw TL
local macro_rules | `(tactic| wtm_at "z_ne") => `(tactic| first | assumption | (apply Ne.symm; assumption) | omega)
local macro_rules | `(tactic| wtm_at "z_hp") => `(tactic| first | assumption | exact upd_same | (refine (upd_ne ?_).trans ?_; (focus wtm_at "z_ne"); wtm_at "z_hp"))
local macro_rules | `(tactic| wtm_at "z_sq") => `(tactic| first | assumption | (exact .inl (.inl (by wtm_at "z_hp"))))
local macro_rules | `(tactic| wtm_at "z_side") => `(tactic| first | assumption | omega | (simp only []; omega) | exact ⟨by omega, by omega⟩ | exact ⟨by omega, by omega, by omega⟩ | exact .inl ⟨by omega, by omega⟩ | exact .inr ⟨by omega, by omega⟩ | decide)
local macro_rules | `(tactic| wtm_at "z") => `(tactic| first
  | refine ⟨_, rfl, ?_⟩
  | refine ⟨_, _, rfl, rfl, ?_⟩
  | refine And.intro (by wtm_at "z_side") ?_
  | refine .inl ⟨_, rfl, ?_⟩
  | refine ⟨_, _, _, _, rfl, rfl, (by wtm_at "z_sq"), (by first | rfl | assumption), ?_⟩
  | refine ⟨_, _, _, _, rfl, rfl, (by wtm_at "z_hp"), (by first | rfl | assumption), ?_⟩)
local macro_rules | `(tactic| wtm_at "zb") => `(tactic| dsimp only [L2.tCB, L2.tCons, L2.tNil, L2.tC])
section
variable {P : Program} {w : World} {K : PySem.W.Frag} {mg : Str → Option Value} {base : Heap} {CW : Addr}
theorem ok_law_of (F : FunAt K mg "_law_of" s_law_of ["pot", "some"]) (T : Txt K mg CW) (C_law_take : Cal P w K mg base CX0 "_law_take" 1 ["pot", "upto"] [] (sp_law_take K CW)) : Cal P w K mg base CX0 "_law_of" 2 ["pot", "some"] [] (sp_law_of K CW) := by
  obtain ⟨f, fd, F, mgf, bf⟩ := F
  obtain ⟨f_law_take, fd_law_take, ds_law_take, G_law_take, m_law_take, k_law_take, b_law_take, d_law_take⟩ := C_law_take
  refine ⟨f, fd, [], ?_, mgf, F.kp, bf, .nil⟩
  refine F.ok sc_law_of (fun vs H Q E h => by obtain ⟨_, _, rfl, _⟩ := h; rfl) (fun cdv A outer s H vs Q E hr h => ?_)
  refine ⟨_, (pss_one (ps_ret (pe_ix (ix_listK K rfl) (pv 1) (pe_call G_law_take (hr.mono (by decide)) (by rfl) m_law_take k_law_take b_law_take d_law_take pass0 (pa_cons (pv 0) (pa_cons (pe_callB (call_len_seqK K rfl) (by rfl) T.z_len (by decide +kernel) (pa_cons (pv 1) pa_nil)) pa_nil))) (fun _ _ => rfl)))), ?_⟩
  obtain ⟨x0, x1, rfl, h⟩ := h
  obtain ⟨p, n, a, xs, G, hG, gp, rfl, rfl, hs, hne, hx, hP, q⟩ := h
  have hpos : 0 < xs.length := List.length_pos_iff.mpr hne
  refine ⟨_, rfl, ?_⟩
  refine ⟨_, rfl, ?_⟩
  refine ⟨_, rfl, ?_⟩
  wtm_at "zb"
  refine ⟨a, xs, rfl, .inl (hG.seq hs), ?_⟩
  refine ⟨_, _, rfl, p, n, _, rfl, rfl, by omega, by omega, hP, fun d H1 d0 d1 P1 but => ?_⟩
  have hi : d.toNat < xs.length := by omega
  refine ⟨a, xs, d, xs[d.toNat], rfl, rfl, (but.go hG gp P1).h.seq hs, ?_, q d.toNat _ H1 (List.getElem?_eq_getElem hi) P1 but⟩
  have e := atI_nat (List.getElem?_eq_getElem hi)
  rw [show ((d.toNat : Nat) : Int) = d by omega] at e
  exact e
end
end Tc
namespace Tc
open PySem PySem.Spec PyProof.Rows L2 Fw Mw TL
local macro_rules | `(tactic| wtm_at "z_ne") => `(tactic| first | assumption | (apply Ne.symm; assumption) | omega)
local macro_rules | `(tactic| wtm_at "z_hp") => `(tactic| first | assumption | exact upd_same | (refine (upd_ne ?_).trans ?_; (focus wtm_at "z_ne"); wtm_at "z_hp"))
local macro_rules | `(tactic| wtm_at "z_sq") => `(tactic| first | assumption | (exact .inl (.inl (by wtm_at "z_hp"))))
local macro_rules | `(tactic| wtm_at "z_side") => `(tactic| first | assumption | omega | (simp only []; omega) | exact ⟨by omega, by omega⟩ | exact ⟨by omega, by omega, by omega⟩ | exact .inl ⟨by omega, by omega⟩ | exact .inr ⟨by omega, by omega⟩ | decide)
local macro_rules | `(tactic| wtm_at "z") => `(tactic| first
  | refine ⟨_, rfl, ?_⟩
  | refine ⟨_, _, rfl, rfl, ?_⟩
  | refine And.intro (by wtm_at "z_side") ?_
  | refine .inl ⟨_, rfl, ?_⟩
  | refine ⟨_, _, _, _, rfl, rfl, (by wtm_at "z_sq"), (by first | rfl | assumption), ?_⟩
  | refine ⟨_, _, _, _, rfl, rfl, (by wtm_at "z_hp"), (by first | rfl | assumption), ?_⟩)
local macro_rules | `(tactic| wtm_at "zb") => `(tactic| dsimp only [L2.tCB, L2.tCons, L2.tNil, L2.tC])
section
variable {P : Program} {w : World} {K : PySem.W.Frag} {mg : Str → Option Value} {base : Heap} {CW : Addr}
theorem ok_law_some (F : FunAt K mg "_law_some" s_law_some ["pot", "pool", "many"]) (T : Txt K mg CW) (C_law_take : Cal P w K mg base CX0 "_law_take" 1 ["pot", "upto"] [] (sp_law_take K CW)) : Cal P w K mg base CX0 "_law_some" 2 ["pot", "pool", "many"] [] (sp_law_some K CW) := by
  obtain ⟨f, fd, F, mgf, bf⟩ := F
  obtain ⟨f_law_take, fd_law_take, ds_law_take, G_law_take, m_law_take, k_law_take, b_law_take, d_law_take⟩ := C_law_take
  refine ⟨f, fd, [], ?_, mgf, F.kp, bf, .nil⟩
  refine F.ok sc_law_some (fun vs H Q E h => by obtain ⟨_, _, _, rfl, _⟩ := h; rfl) (fun cdv A outer s H vs Q E hr h => ?_)
  refine ⟨_, (pss_cons (ps_par (i := 3) (j := 4) rfl sc_law_some.nd rfl rfl (by decide) rfl rfl (pa_cons (pe_callTy (call_list_ofK K rfl) (by rfl) T.z_list (by decide +kernel) (pa_cons (pv 1) pa_nil)) (pa_cons (pe_lst pa_nil) pa_nil)) (by rfl))
      (pss_cons (ps_for PassesOwn.never rfl (pi_range1 (by rfl) T.z_range (pa_cons (pv 2) pa_nil)) (pg_name (i := 5) sc_law_some.nd rfl (.inl rfl)) (pss_one (ps_expr (pe_bmK K rfl PySem.F.plainAttrs_list PySem.F.slot_list_append PySem.F.type_list_append mt_append (pv 4) (pa_cons (pe_bmK K rfl PySem.F.plainAttrs_list PySem.F.slot_list_pop PySem.F.type_list_pop mt_popAt (pv 3) (pa_cons (pe_call G_law_take (hr.mono (by decide)) (by rfl) m_law_take k_law_take b_law_take d_law_take pass0 (pa_cons (pv 0) (pa_cons (pe_callB (call_len_seqK K rfl) (by rfl) T.z_len (by decide +kernel) (pa_cons (pv 3) pa_nil)) pa_nil))) pa_nil)) pa_nil)))))
      (pss_one (ps_ret (pv 4))))), ?_⟩
  obtain ⟨x0, x1, x2, rfl, h⟩ := h
  obtain ⟨p, n, a, xs, many, G, hG, gp, rfl, rfl, rfl, hs, hm, hx, hP, q⟩ := h
  have hsH : SqL K H a xs ∨ SqT K H a xs := hs.imp (hG.seq ·) (seqT hG)
  refine ⟨_, rfl, ?_⟩
  wtm_at "zb"
  refine ⟨a, xs, rfl, hsH, fun l3 h3 => ?_⟩
  refine ⟨by decide, fun l4 h4 => ?_⟩
  obtain ⟨n43, h4'⟩ := upd_none.mp h4
  have g3 : G l3 = none := hG.free h3
  have g4 : G l4 = none := hG.free h4'
  have n3p : l3 ≠ p := fun z => hP.some (z ▸ h3)
  have n4p : l4 ≠ p := fun z => hP.some (z ▸ h4')
  have go0 : Go [p] G H G _ := ((Go.refl hG).tmp (o := .lst xs) h3).tmp (o := .lst []) h4
  have a3 : upd (upd H l3 (.lst xs)) l4 (.lst []) l3 = some (.lst xs) := (upd_ne (Ne.symm n43)).trans upd_same
  have a4 : upd (upd H l3 (.lst xs)) l4 (.lst []) l4 = some (.lst []) := upd_same
  have P0 : Pot (n + many) p (upd (upd H l3 (.lst xs)) l4 (.lst [])) := hP.up ((same_upd h3).trans (same_upd h4))
  generalize upd (upd H l3 (.lst xs)) l4 (.lst []) = H0 at go0 a3 a4 P0 ⊢
  refine ⟨_, _, rfl, ?_⟩
  refine ⟨_, rfl, ?_⟩
  wtm_at "zb"
  refine ⟨_, rfl, by omega, by omega, ?_⟩
  rw [Int.toNat_natCast]
  refine for_it (D := { nx := tRet (tVar 4) { nx := fun _ H' => Q .non H', rt := Q }, rt := Q }) (walk_range (lo := 0) (n := many)) (fun i σ H' => (∃ x5, σ = [some (.ref p), some (.ref a), some (.int many), some (.ref l3), some (.ref l4), x5]) ∧ ∃ rs fs, Go [p] G H G H' ∧ H' l3 = some (.lst rs) ∧ H' l4 = some (.lst fs) ∧ (fs ++ rs).Perm xs ∧ fs.length = i ∧ Pot (n + (many - i)) p H') ⟨⟨_, rfl⟩, xs, [], go0, a3, a4, .refl _, rfl, P0⟩ (fun _ _ _ _ _ => trivial) ?_ ?_
  · rintro i x σ H1 H2 hi ⟨⟨x5, rfl⟩, rs, fs, go, b3, b4, pm, fl, P1⟩ ⟨rfl, rfl⟩
    have hlen := pm.length_eq
    rw [List.length_append] at hlen
    refine ⟨_, rfl, .inl ⟨rfl, _, SqL.of b4⟩, ?_⟩
    refine ⟨_, rfl, .inl ⟨rfl, _, SqL.of b3⟩, ?_⟩
    refine ⟨_, rfl, ?_⟩
    refine ⟨_, rfl, ?_⟩
    wtm_at "zb"
    refine ⟨l3, rs, rfl, .inl (SqL.of b3), ?_⟩
    refine ⟨_, _, rfl, p, n + (many - (i + 1)), _, rfl, rfl, by omega, by omega, ?_, fun d H3 d0 du P3 but => ?_⟩
    · exact P1.le (by omega)
    have go3 := go.trans (but.go go.h gp P3)
    have c3 := but _ _ n3p b3
    have c4 := but _ _ n4p b4
    have hk : d.toNat < rs.length := by omega
    have hsx : seqIndex? d rs.length = some d.toNat := by
      unfold seqIndex?
      have e1 : ¬ d < 0 := by omega
      simp only [e1, if_false]
      rw [if_pos (by simp; omega)]
    refine ⟨l3, rs, d, d.toNat, rs[d.toNat], rfl, rfl, c3, by omega, by omega, hsx, List.getElem?_eq_getElem hk, ?_⟩
    refine ⟨l4, fs, _, rfl, rfl, (upd_ne n43).trans c4, ?_, ?_⟩
    · exact Nat.lt_of_le_of_lt (m := 1000) (by omega) (by decide)
    refine ⟨⟨_, rfl⟩, rs.eraseIdx d.toNat, fs ++ [rs[d.toNat]], (go3.mut g3 (.inl h3)).mut g4 (.inl h4'), (upd_ne (Ne.symm n43)).trans upd_same, upd_same, ?_, by rw [List.length_append, fl]; rfl, ?_⟩
    · refine List.Perm.trans ?_ pm
      rw [List.append_assoc]
      exact List.Perm.append_left fs (erase_perm _ _ _ (List.getElem?_eq_getElem hk))
    · obtain ⟨x1, x2, x3, y1, y2⟩ := P3
      exact ⟨x1, x2, x3, (upd_ne (Ne.symm n4p)).trans ((upd_ne (Ne.symm n3p)).trans y1), y2⟩
  · rintro σ H1 ⟨⟨x5, rfl⟩, rs, fs, go, b3, b4, pm, fl, P1⟩
    refine ⟨_, rfl, ?_⟩
    refine q fs l4 _ _ (go.frz h4' b4 g4) (P1.le (by omega)) upd_same fl ⟨rs, pm⟩
end
end Tc
namespace Tc
open PySem PySem.Spec PyProof.Rows L2 Fw Mw TL
local macro_rules | `(tactic| wtm_at "z_ne") => `(tactic| first | assumption | (apply Ne.symm; assumption) | omega)
local macro_rules | `(tactic| wtm_at "z_hp") => `(tactic| first | assumption | exact upd_same | (refine (upd_ne ?_).trans ?_; (focus wtm_at "z_ne"); wtm_at "z_hp"))
local macro_rules | `(tactic| wtm_at "z_sq") => `(tactic| first | assumption | (exact .inl (.inl (by wtm_at "z_hp"))))
local macro_rules | `(tactic| wtm_at "z_side") => `(tactic| first | assumption | omega | (simp only []; omega) | exact ⟨by omega, by omega⟩ | exact ⟨by omega, by omega, by omega⟩ | exact .inl ⟨by omega, by omega⟩ | exact .inr ⟨by omega, by omega⟩ | decide)
local macro_rules | `(tactic| wtm_at "z") => `(tactic| first
  | refine ⟨_, rfl, ?_⟩
  | refine ⟨_, _, rfl, rfl, ?_⟩
  | refine And.intro (by wtm_at "z_side") ?_
  | refine .inl ⟨_, rfl, ?_⟩
  | refine ⟨_, _, _, _, rfl, rfl, (by wtm_at "z_sq"), (by first | rfl | assumption), ?_⟩
  | refine ⟨_, _, _, _, rfl, rfl, (by wtm_at "z_hp"), (by first | rfl | assumption), ?_⟩)
local macro_rules | `(tactic| wtm_at "zb") => `(tactic| dsimp only [L2.tCB, L2.tCons, L2.tNil, L2.tC])
section
variable {P : Program} {w : World} {K : PySem.W.Frag} {mg : Str → Option Value} {base : Heap} {CW : Addr}
theorem ok_law_cells (F : FunAt K mg "_law_cells" s_law_cells ["script", "most"]) (T : Txt K mg CW)  : Cal P w K mg base CX0 "_law_cells" 1 ["script", "most"] [] (sp_law_cells K CW) := by
  obtain ⟨f, fd, F, mgf, bf⟩ := F
  refine ⟨f, fd, [], ?_, mgf, F.kp, bf, .nil⟩
  refine F.ok sc_law_cells (fun vs H Q E h => by obtain ⟨_, _, rfl, _⟩ := h; rfl) (fun cdv A outer s H vs Q E hr h => ?_)
  refine ⟨_, (pss_one (ps_ret (pe_listRg rfl (by rfl) T.z_list (prg_1 (by rfl) T.z_range (pe_callB (call_max2 rfl) (by rfl) T.z_max (by decide +kernel) (pa_cons pe_int (pa_cons (pe_callB (call_min2 rfl) (by rfl) T.z_min (by decide +kernel) (pa_cons (pv 1) (pa_cons (pe_callB (call_len_seqK K rfl) (by rfl) T.z_len (by decide +kernel) (pa_cons (pv 0) pa_nil)) pa_nil))) pa_nil))))))), ?_⟩
  obtain ⟨x0, x1, rfl, h⟩ := h
  obtain ⟨a, ns, rfl, ⟨m, rfl, m1, m50⟩, hs, q⟩ := h
  refine ⟨_, rfl, _, rfl, ?_⟩
  wtm_at "zb"
  refine ⟨a, _, rfl, .inl hs, ?_⟩
  refine ⟨_, _, rfl, ?_⟩
  refine ⟨_, _, rfl, ?_⟩
  refine ⟨_, rfl, ?_⟩
  obtain ⟨k, hk, k50⟩ : ∃ k : Nat, (if (if ((ns.map V.int).length : Int) < m then ((ns.map V.int).length : Int) else m) > 1 then (if ((ns.map V.int).length : Int) < m then ((ns.map V.int).length : Int) else m) else 1) = (k : Int) ∧ k ≤ 50 := by
    generalize ((ns.map V.int).length : Int) = j
    by_cases h1 : j < m
    · rw [if_pos h1]
      by_cases h2 : j > 1
      · rw [if_pos h2]
        exact ⟨j.toNat, by omega, by omega⟩
      · rw [if_neg h2]
        exact ⟨1, rfl, by decide⟩
    · rw [if_neg h1]
      by_cases h2 : m > 1
      · rw [if_pos h2]
        exact ⟨m.toNat, by omega, by omega⟩
      · rw [if_neg h2]
        exact ⟨1, rfl, by decide⟩
  rw [hk]
  refine ⟨RgOk.of_le (by decide) (by omega) (by decide) (by omega), fun l hl => ?_⟩
  refine q l k _ k50 (same_upd hl) (SqL.of ?_)
  rw [upd_same]
  refine congrArg some (congrArg HO.lst ?_)
  unfold rgV
  rw [show ((k : Int) - 0).toNat = k by omega]
  exact List.map_congr_left fun i _ => by rw [Int.zero_add]
end
end Tc
namespace Tc
open PySem PySem.Spec PyProof.Rows L2 Fw Mw TL
local macro_rules | `(tactic| wtm_at "z_ne") => `(tactic| first | assumption | (apply Ne.symm; assumption) | omega)
local macro_rules | `(tactic| wtm_at "z_hp") => `(tactic| first | assumption | exact upd_same | (refine (upd_ne ?_).trans ?_; (focus wtm_at "z_ne"); wtm_at "z_hp"))
local macro_rules | `(tactic| wtm_at "z_sq") => `(tactic| first | assumption | (exact .inl (.inl (by wtm_at "z_hp"))))
local macro_rules | `(tactic| wtm_at "z_side") => `(tactic| first | assumption | omega | (simp only []; omega) | exact ⟨by omega, by omega⟩ | exact ⟨by omega, by omega, by omega⟩ | exact .inl ⟨by omega, by omega⟩ | exact .inr ⟨by omega, by omega⟩ | decide)
local macro_rules | `(tactic| wtm_at "z") => `(tactic| first
  | refine ⟨_, rfl, ?_⟩
  | refine ⟨_, _, rfl, rfl, ?_⟩
  | refine And.intro (by wtm_at "z_side") ?_
  | refine .inl ⟨_, rfl, ?_⟩
  | refine ⟨_, _, _, _, rfl, rfl, (by wtm_at "z_sq"), (by first | rfl | assumption), ?_⟩
  | refine ⟨_, _, _, _, rfl, rfl, (by wtm_at "z_hp"), (by first | rfl | assumption), ?_⟩)
local macro_rules | `(tactic| wtm_at "zb") => `(tactic| dsimp only [L2.tCB, L2.tCons, L2.tNil, L2.tC])
section
variable {P : Program} {w : World} {K : PySem.W.Frag} {mg : Str → Option Value} {base : Heap} {CW : Addr}
theorem ok_law_web_text (F : FunAt K mg "_law_web_text" s_law_web_text ["own"]) (T : Txt K mg CW)  : Cal P w K mg base CX0 "_law_web_text" 1 ["own"] [] (sp_law_web_text K CW) := by
  obtain ⟨f, fd, F, mgf, bf⟩ := F
  refine ⟨f, fd, [], ?_, mgf, F.kp, bf, .nil⟩
  refine F.ok sc_law_web_text (fun vs H Q E h => by obtain ⟨_, rfl, _⟩ := h; rfl) (fun cdv A outer s H vs Q E hr h => ?_)
  refine ⟨_, (pss_one (ps_ret (pe_joinK K rfl pe_str (pe_op op_cat (pe_lst (pa_cons pe_str pa_nil)) (pe_lc (own := [("row", 1)]) rfl sc_law_web_text.nd (pi_listK K rfl (pv 0)) (blkOk_by (own := [("row", 1)]) (N := N_law_web_text) (sc := defScope s_law_web_text) (by decide +kernel)) (fun _ _ _ _ _ => (pg_name (i := 1) sc_law_web_text.nd rfl (.inl rfl))) (fun _ _ _ _ _ => pts_nil) (fun _ _ _ _ _ => (pe_op op_add_str pe_str (pe_joinK K rfl pe_str (pe_callTy (call_list_ofK K rfl) (by rfl) T.z_list (by decide +kernel) (pa_cons (pv 1) pa_nil)))))))))), ?_⟩
  obtain ⟨x0, rfl, h⟩ := h
  obtain ⟨G, js, hG, hx, hr, hl, q⟩ := h
  obtain ⟨a, ts, rfl, hs, hp⟩ := hx
  have hlen := pLen hp
  have hdm : (js.map rowText).length = ts.length := by rw [List.length_map, hlen]
  have rl : ∀ r ∈ js, (rowText r).length ≤ 28 := fun r h => row_len (hr r h)
  refine ⟨⟨_, rfl⟩, ?_⟩
  refine ⟨(show (1:Nat) ≤ sizeLine by decide), fun p hp1 => ?_⟩
  have smp : Same H (upd H p (.lst [.str "web"])) := same_upd hp1
  have hpp : upd H p (.lst [.str "web"]) p = some (.lst [.str "web"]) := upd_same
  generalize upd H p (.lst [.str "web"]) = H0 at smp hpp ⊢
  have hG0 := hG.trans smp
  refine ⟨_, rfl, a, rfl, ⟨_, hG0.seq hs⟩, fun D hD => ?_⟩
  refine lc_data (r := rS) (item := fun i x => ts[i]? = some x) (ys := js.map rowText) (L := []) (G := G) (Inv := fun _ _ => True) (Gd := fun H' => Same G H') (by rw [hdm]; exact walk_list.mono (fun H' e => Same.seq e hs) fun _ _ _ _ _ _ y => y) hG0 (fun _ e => e) hD (by simp) (by rw [List.length_map]; omega) (fun _ => rfl) trivial (fun _ _ _ _ => trivial) (fun i x y G' H' hy hx go _ Q q => ?_) (fun us G' H' go _ hD' gD' pr => ?_)
  · obtain ⟨r, hr1, rfl⟩ := map_at hy
    obtain ⟨r', hr2, b, us, rfl, hb, pb⟩ := pAt hp hx
    obtain rfl := Option.some.inj (hr1.symm.trans hr2)
    obtain rfl := pS pb
    have hmem := List.mem_of_getElem? hr1
    have ok := hr r hmem
    refine ⟨⟨_, rfl⟩, ?_⟩
    refine ⟨_, rfl, ?_⟩
    refine ⟨b, _, rfl, .inr (seqT (go.g.trans go.h) hb), fun l hl' => ?_⟩
    refine ⟨" ", l, r, rfl, rfl, .inl (SqL.of upd_same), ?_, ?_⟩
    · have h1 := sum_le 6 (r.map (·.length)) fun x hx => by
        rcases List.mem_map.mp hx with ⟨z, hz, rfl⟩
        exact (name_len (ok.names z hz)).2
      rw [List.length_map, ok.len] at h1
      have h2 : (" " : Str).length = 1 := by decide +kernel
      rw [ok.len, h2]
      omega
    have e1 := rl r hmem
    unfold rowText at e1
    rw [len_app] at e1
    refine ⟨_, _, rfl, rfl, Nat.le_trans e1 (by decide), ?_⟩
    exact q _ _ _ ((Go.refl go.h).tmp hl') trivial rfl
  · have eus := pS pr
    subst eus
    have sm1 := go.all
    refine ⟨p, D, _, _, rfl, rfl, sm1 _ _ hpp, hD', ?_, fun l hl' => ?_⟩
    · rw [List.length_map, List.length_map]
      exact Nat.le_trans (m := 101) (by show 1 + js.length ≤ 101; omega) (by decide)
    refine ⟨"\n", l, ("web" : Str) :: js.map rowText, rfl, rfl, .inl (SqL.of upd_same), ?_, ?_⟩
    · have h1 := sum_le 28 (((("web" : Str) :: js.map rowText)).map (·.length)) fun x hx => by
        rcases List.mem_map.mp hx with ⟨z, hz, rfl⟩
        rcases List.mem_cons.mp hz with rfl | hz
        · decide +kernel
        · rcases List.mem_map.mp hz with ⟨r, hr1, rfl⟩
          exact rl r hr1
      have h2 : ("\n" : Str).length = 1 := by decide +kernel
      rw [List.length_map, List.length_cons, List.length_map] at h1
      rw [List.length_cons, List.length_map, h2]
      omega
    exact q _ ((smp.trans sm1).trans (same_upd hl'))
end
end Tc
namespace Tc
open PySem PySem.Spec PyProof.Rows L2 Fw Mw TL
local macro_rules | `(tactic| wtm_at "z_ne") => `(tactic| first | assumption | (apply Ne.symm; assumption) | omega)
local macro_rules | `(tactic| wtm_at "z_hp") => `(tactic| first | assumption | exact upd_same | (refine (upd_ne ?_).trans ?_; (focus wtm_at "z_ne"); wtm_at "z_hp"))
local macro_rules | `(tactic| wtm_at "z_sq") => `(tactic| first | assumption | (exact .inl (.inl (by wtm_at "z_hp"))))
local macro_rules | `(tactic| wtm_at "z_side") => `(tactic| first | assumption | omega | (simp only []; omega) | exact ⟨by omega, by omega⟩ | exact ⟨by omega, by omega, by omega⟩ | exact .inl ⟨by omega, by omega⟩ | exact .inr ⟨by omega, by omega⟩ | decide)
local macro_rules | `(tactic| wtm_at "z") => `(tactic| first
  | refine ⟨_, rfl, ?_⟩
  | refine ⟨_, _, rfl, rfl, ?_⟩
  | refine And.intro (by wtm_at "z_side") ?_
  | refine .inl ⟨_, rfl, ?_⟩
  | refine ⟨_, _, _, _, rfl, rfl, (by wtm_at "z_sq"), (by first | rfl | assumption), ?_⟩
  | refine ⟨_, _, _, _, rfl, rfl, (by wtm_at "z_hp"), (by first | rfl | assumption), ?_⟩)
local macro_rules | `(tactic| wtm_at "zb") => `(tactic| dsimp only [L2.tCB, L2.tCons, L2.tNil, L2.tC])
section
variable {P : Program} {w : World} {K : PySem.W.Frag} {mg : Str → Option Value} {base : Heap} {CW : Addr}
theorem ok_law_web_times (F : FunAt K mg "_law_web_times" s_law_web_times ["own"]) (T : Txt K mg CW)  : Cal P w K mg base CX0 "_law_web_times" 1 ["own"] [] (sp_law_web_times K CW) := by
  obtain ⟨f, fd, F, mgf, bf⟩ := F
  refine ⟨f, fd, [], ?_, mgf, F.kp, bf, .nil⟩
  refine F.ok sc_law_web_times (fun vs H Q E h => by obtain ⟨_, rfl, _⟩ := h; rfl) (fun cdv A outer s H vs Q E hr h => ?_)
  refine ⟨_, (pss_cons (ps_set (i := 1) sc_law_web_times.nd rfl (.inl rfl) pe_dnewK)
      (pss_cons (ps_for PassesOwn.never rfl (pi_listK K rfl (pv 0)) (pg_name (i := 2) sc_law_web_times.nd rfl (.inl rfl)) (pss_one (ps_for PassesOwn.never rfl (pi_tupK K rfl (pv 2)) (pg_name (i := 3) sc_law_web_times.nd rfl (.inl rfl)) (pss_one (ps_dput (hu_of hr) (pv 1) (pv 3) (pe_op op_add (pe_dget2 (hu_of hr) (pv 1) (pv 3) pe_int ⟨rfl, rfl, rfl, rfl⟩) pe_int) rfl)))))
      (pss_one (ps_ret (pv 1))))), ?_⟩
  obtain ⟨x0, rfl, h⟩ := h
  obtain ⟨G, own, hG, hx, hl, q⟩ := h
  obtain ⟨a, ts, rfl, hs, hp⟩ := hx
  have hlen := pLen hp
  intro d hd
  have gd : G d = none := hG.free hd
  have part : ∀ i r, own[i]? = some r → (own.take i).flatten.length + r.length ≤ 1000 := fun i r hr => by
    have h5 := take_flat own i r hr
    have h6 : (own.take (i + 1)).flatten.length ≤ own.flatten.length := by
      have h7 := congrArg List.flatten (List.take_append_drop (i + 1) own)
      rw [List.flatten_append] at h7
      rw [← h7, List.length_append]
      omega
    rw [h5, List.length_append] at h6
    have : own.flatten.length ≤ 1000 := hl
    omega
  have go0 := (Go.ref0 hG).tmp (o := .dK []) hd
  refine ⟨_, rfl, a, rfl, ⟨_, (hG.trans (same_upd hd)).seq hs⟩, for_it walk_list (fun i σ H' => (∃ x2 x3, σ = [some (.ref a), some (.ref d), x2, x3]) ∧ ∃ ks, Go [] G H G H' ∧ H' d = some (.dK (cntK ks (own.take i).flatten)) ∧ ks.Nodup ∧ (∀ x, x ∈ ks ↔ x ∈ (own.take i).flatten) ∧ ks.length ≤ (own.take i).flatten.length) ⟨⟨_, _, rfl⟩, [], go0, upd_same, .nil, fun x => Iff.rfl, Nat.le_refl _⟩ (fun i σ H' _ ⟨_, ks, go, _⟩ => go.h.seq hs) ?_ ?_⟩
  · rintro i x σ H1 H2 hi ⟨⟨x2, x3, rfl⟩, ks, go, hd1, nd, mm, kl⟩ ⟨rfl, hx⟩
    obtain ⟨r, hr, b, us, rfl, hb, pb⟩ := pAt hp hx
    obtain rfl := pS pb
    have hpart := part i r hr
    refine ⟨_, rfl, b, rfl, ⟨_, seqT go.h hb⟩, for_it walk_tup (fun j σ H' => (∃ x3, σ = [some (.ref a), some (.ref d), some (.ref b), x3]) ∧ ∃ ks, Go [] G H G H' ∧ H' d = some (.dK (cntK ks ((own.take i).flatten ++ r.take j))) ∧ ks.Nodup ∧ (∀ x, x ∈ ks ↔ x ∈ (own.take i).flatten ++ r.take j) ∧ ks.length ≤ ((own.take i).flatten ++ r.take j).length) ⟨⟨_, rfl⟩, ks, go, by simpa using hd1, nd, by simpa using mm, by simpa using kl⟩ (fun i σ H' _ ⟨_, ks, go, _⟩ => seqT go.h hb) ?_ ?_⟩
    · rintro j x σ H3 H4 hj ⟨⟨x3, rfl⟩, ks, go, hd3, nd, mm, kl⟩ ⟨rfl, hx⟩
      obtain ⟨z, hz, rfl⟩ := map_at hx
      have hjl := (List.getElem?_eq_some_iff.mp hz).1
      refine ⟨_, rfl, d, rfl, .inl ⟨_, .inl hd3⟩, _, rfl, _, DGet.k (k := .inr z) hd3, ?_⟩
      rw [get_cnt mm z]
      refine ⟨_, _, rfl, rfl, ?_⟩
      obtain ⟨ks', e1, nd', mm', kl'⟩ := put_cnt nd mm z
      refine ⟨_, rfl, _, rfl, d, _, rfl, DPut.k (k := .inr z) hd3 ?_, ?_⟩
      · unfold cntK
        rw [List.length_map]
        rw [List.length_append, List.length_take] at kl
        exact Nat.lt_of_le_of_lt (m := 1000) (by omega) (by decide)
      rw [e1]
      refine ⟨⟨_, rfl⟩, ks', go.mut gd (.inl hd), ?_, nd', ?_, ?_⟩
      · rw [upd_same, take_snoc hz, List.append_assoc]
      · rw [take_snoc hz, ← List.append_assoc]
        exact mm'
      · rw [take_snoc hz, ← List.append_assoc, List.length_append, List.length_singleton]
        omega
    · rintro σ H3 ⟨⟨x3, rfl⟩, ks, go, hd3, nd, mm, kl⟩
      rw [List.length_map, List.take_length, ← take_flat own i r hr] at hd3 mm kl
      exact ⟨⟨_, _, rfl⟩, ks, go, hd3, nd, mm, kl⟩
  · rintro σ H1 ⟨⟨x2, x3, rfl⟩, ks, go, hd1, nd, mm, kl⟩
    rw [hlen, List.take_length] at hd1 mm
    exact ⟨_, rfl, q d ks H1 hd go.all hd1 nd mm⟩
end
end Tc
namespace Tc
open PySem PySem.Spec PyProof.Rows L2 Fw Mw TL
local macro_rules | `(tactic| wtm_at "z_ne") => `(tactic| first | assumption | (apply Ne.symm; assumption) | omega)
local macro_rules | `(tactic| wtm_at "z_hp") => `(tactic| first | assumption | exact upd_same | (refine (upd_ne ?_).trans ?_; (focus wtm_at "z_ne"); wtm_at "z_hp"))
local macro_rules | `(tactic| wtm_at "z_sq") => `(tactic| first | assumption | (exact .inl (.inl (by wtm_at "z_hp"))))
local macro_rules | `(tactic| wtm_at "z_side") => `(tactic| first | assumption | omega | (simp only []; omega) | exact ⟨by omega, by omega⟩ | exact ⟨by omega, by omega, by omega⟩ | exact .inl ⟨by omega, by omega⟩ | exact .inr ⟨by omega, by omega⟩ | decide)
local macro_rules | `(tactic| wtm_at "z") => `(tactic| first
  | refine ⟨_, rfl, ?_⟩
  | refine ⟨_, _, rfl, rfl, ?_⟩
  | refine And.intro (by wtm_at "z_side") ?_
  | refine .inl ⟨_, rfl, ?_⟩
  | refine ⟨_, _, _, _, rfl, rfl, (by wtm_at "z_sq"), (by first | rfl | assumption), ?_⟩
  | refine ⟨_, _, _, _, rfl, rfl, (by wtm_at "z_hp"), (by first | rfl | assumption), ?_⟩)
local macro_rules | `(tactic| wtm_at "zb") => `(tactic| dsimp only [L2.tCB, L2.tCons, L2.tNil, L2.tC])
section
variable {P : Program} {w : World} {K : PySem.W.Frag} {mg : Str → Option Value} {base : Heap} {CW : Addr}
theorem ok_law_web_roads (F : FunAt K mg "_law_web_roads" s_law_web_roads ["own"]) (T : Txt K mg CW) (C_law_web_times : Cal P w K mg base CX0 "_law_web_times" 1 ["own"] [] (sp_law_web_times K CW)) : Cal P w K mg base CX0 "_law_web_roads" 2 ["own"] [] (sp_law_web_roads K CW) := by
  obtain ⟨f, fd, F, mgf, bf⟩ := F
  obtain ⟨f_law_web_times, fd_law_web_times, ds_law_web_times, G_law_web_times, m_law_web_times, k_law_web_times, b_law_web_times, d_law_web_times⟩ := C_law_web_times
  refine ⟨f, fd, [], ?_, mgf, F.kp, bf, .nil⟩
  refine F.ok sc_law_web_roads (fun vs H Q E h => by obtain ⟨_, rfl, _⟩ := h; rfl) (fun cdv A outer s H vs Q E hr h => ?_)
  refine ⟨_, (pss_one (ps_ret (pe_callB (cr_sortedSK K rfl) (by rfl) T.z_sorted (by decide +kernel) (pa_cons (pe_callTy (call_listD rfl) (by rfl) T.z_list (by decide +kernel) (pa_cons (pe_call G_law_web_times (hr.mono (by decide)) (by rfl) m_law_web_times k_law_web_times b_law_web_times d_law_web_times pass0 (pa_cons (pv 0) pa_nil)) pa_nil)) pa_nil)))), ?_⟩
  obtain ⟨x0, rfl, h⟩ := h
  obtain ⟨G, own, hG, hx, hl, q⟩ := h
  refine ⟨_, rfl, ?_⟩
  refine ⟨_, rfl, G, own, hG, hx, by omega, fun d ks H1 hd sm hd1 nd mm => ?_⟩
  have kl : ks.length ≤ (words own).length := List.Nodup.length_le_of_subset nd fun x hx => (mm x).mp hx
  refine ⟨d, _, rfl, .inl hd1, fun p hp => ?_⟩
  have em : (cntK ks (words own)).map (fun kv => kV kv.1) = ks.map V.str := by
    unfold cntK
    rw [List.map_map]
    rfl
  rw [em]
  refine ⟨p, ks, rfl, SqL.of upd_same, by omega, fun ys l perm srt hl' => ?_⟩
  obtain rfl := roads_uniq nd mm perm srt
  exact q _ _ _ (((Go.ref0 hG).grow (sm.trans (same_upd hp))).new hl') ⟨l, _, rfl, upd_same, sP _⟩
end
end Tc
namespace Tc
open PySem PySem.Spec PyProof.Rows L2 Fw Mw TL
local macro_rules | `(tactic| wtm_at "z_ne") => `(tactic| first | assumption | (apply Ne.symm; assumption) | omega)
local macro_rules | `(tactic| wtm_at "z_hp") => `(tactic| first | assumption | exact upd_same | (refine (upd_ne ?_).trans ?_; (focus wtm_at "z_ne"); wtm_at "z_hp"))
local macro_rules | `(tactic| wtm_at "z_sq") => `(tactic| first | assumption | (exact .inl (.inl (by wtm_at "z_hp"))))
local macro_rules | `(tactic| wtm_at "z_side") => `(tactic| first | assumption | omega | (simp only []; omega) | exact ⟨by omega, by omega⟩ | exact ⟨by omega, by omega, by omega⟩ | exact .inl ⟨by omega, by omega⟩ | exact .inr ⟨by omega, by omega⟩ | decide)
local macro_rules | `(tactic| wtm_at "z") => `(tactic| first
  | refine ⟨_, rfl, ?_⟩
  | refine ⟨_, _, rfl, rfl, ?_⟩
  | refine And.intro (by wtm_at "z_side") ?_
  | refine .inl ⟨_, rfl, ?_⟩
  | refine ⟨_, _, _, _, rfl, rfl, (by wtm_at "z_sq"), (by first | rfl | assumption), ?_⟩
  | refine ⟨_, _, _, _, rfl, rfl, (by wtm_at "z_hp"), (by first | rfl | assumption), ?_⟩)
local macro_rules | `(tactic| wtm_at "zb") => `(tactic| dsimp only [L2.tCB, L2.tCons, L2.tNil, L2.tC])
section
variable {P : Program} {w : World} {K : PySem.W.Frag} {mg : Str → Option Value} {base : Heap} {CW : Addr}
theorem ok_law_web_inner (F : FunAt K mg "_law_web_inner" s_law_web_inner ["own"]) (T : Txt K mg CW) (C_law_web_times : Cal P w K mg base CX0 "_law_web_times" 1 ["own"] [] (sp_law_web_times K CW)) : Cal P w K mg base CX0 "_law_web_inner" 2 ["own"] [] (sp_law_web_inner K CW) := by
  obtain ⟨f, fd, F, mgf, bf⟩ := F
  obtain ⟨f_law_web_times, fd_law_web_times, ds_law_web_times, G_law_web_times, m_law_web_times, k_law_web_times, b_law_web_times, d_law_web_times⟩ := C_law_web_times
  refine ⟨f, fd, [], ?_, mgf, F.kp, bf, .nil⟩
  refine F.ok sc_law_web_inner (fun vs H Q E h => by obtain ⟨_, rfl, _⟩ := h; rfl) (fun cdv A outer s H vs Q E hr h => ?_)
  refine ⟨_, (pss_one (ps_ret (pe_callB (cr_sortedSK K rfl) (by rfl) T.z_sorted (by decide +kernel) (pa_cons (pe_lc (own := [("name", 1), ("times", 2)]) rfl sc_law_web_inner.nd (pi_items (pe_frz (pe_call G_law_web_times (hr.mono (by decide)) (by rfl) m_law_web_times k_law_web_times b_law_web_times d_law_web_times pass0 (pa_cons (pv 0) pa_nil)))) (blkOk_by (own := [("name", 1), ("times", 2)]) (N := N_law_web_inner) (sc := defScope s_law_web_inner) (by decide +kernel)) (fun _ _ _ _ _ => (pg_tupK (n := 2) K rfl rfl (pgs_cons (pg_name (i := 1) sc_law_web_inner.nd rfl (.inl rfl)) (pgs_cons (pg_name (i := 2) sc_law_web_inner.nd rfl (.inl rfl)) pgs_nil)))) (fun _ _ _ _ _ => (pts_one (pt_cmpR op_eq (pv 2) pe_int (nomark _)))) (fun _ _ _ _ _ => (pv 1))) pa_nil)))), ?_⟩
  obtain ⟨x0, rfl, h⟩ := h
  obtain ⟨G, own, hG, hx, hl, q⟩ := h
  refine ⟨_, rfl, ?_⟩
  refine ⟨_, rfl, G, own, hG, hx, by omega, fun d ks H1 hd sm hd1 nd mm => ?_⟩
  have kl : ks.length ≤ (words own).length := List.Nodup.length_le_of_subset nd fun x hx => (mm x).mp hx
  refine ⟨d, _, rfl, hd1, trivial, fun od => ?_⟩
  have sm2 : Same H (upd H1 d (.frz od (.dK (cntK ks (words own))))) := fun b o e => by
    rw [upd_ne (ne_of_none e hd)]
    exact sm _ _ e
  have hf : upd H1 d (.frz od (.dK (cntK ks (words own)))) d = some (.frz od (.dK (cntK ks (words own)))) := upd_same
  generalize upd H1 d (.frz od (.dK (cntK ks (words own)))) = H2 at sm2 hf ⊢
  refine ⟨d, od, _, rfl, hf, fun D hD => ?_⟩
  have hlen : (cntK ks (words own)).length = ks.length := List.length_map _
  refine lc_pair walk_items (fun H' e => e _ _ hf) hD (fun i => decide ((words own).count (ks.getD i "") = 2)) (fun i => .str (ks.getD i "")) (by omega) (fun _ _ => rfl) (fun i x y hi hx hy => ?_) (fun H3 s3 e3 => ?_)
  · have hik : i < ks.length := by rw [← hlen]; exact hi
    have ek : (cntK ks (words own))[i]? = some ((Sum.inr (ks.getD i "") : Key), V.int ((words own).count (ks.getD i "") : Nat)) := by
      unfold cntK
      rw [List.getElem?_map, at_of (xs := ks) (d := ("" : Str)) hik]
      rfl
    rw [ek] at hx hy
    obtain rfl := Option.some.inj hx
    obtain rfl := Option.some.inj hy
    refine ⟨fun H4 ex Q q => ?_, fun _ H4 ex Q q => ⟨_, rfl, q H4 (Evl.Ex.refl H4)⟩⟩
    refine ⟨_, rfl, rfl, _, rfl, ?_⟩
    have q' := q H4 (Evl.Ex.refl H4)
    rw [← dec_nat 2] at q'
    exact q'
  rw [hlen, given_map ks "" (fun z => decide ((words own).count z = 2)) V.str] at e3
  have fl : (ks.filter fun z => decide ((words own).count z = 2)).length ≤ ks.length := List.length_filter_le _ _
  refine ⟨D, _, rfl, SqL.of e3, by omega, fun ys l perm srt hl' => ?_⟩
  have e : ys = innerOf own := by
    refine sort_uniq (pair_of_sorted srt) ((sort_pair _).filter _) (perm.trans ?_)
    exact ((List.perm_ext_iff_of_nodup nd (nodup_roads own)).mpr fun x => (mm x).trans mem_roads.symm).filter _
  subst e
  exact q _ _ _ (((Go.ref0 hG).grow (sm2.trans s3)).new hl') ⟨l, _, rfl, upd_same, sP _⟩
end
end Tc
namespace Tc
open PySem PySem.Spec PyProof.Rows L2 Fw Mw TL
local macro_rules | `(tactic| wtm_at "z_ne") => `(tactic| first | assumption | (apply Ne.symm; assumption) | omega)
local macro_rules | `(tactic| wtm_at "z_hp") => `(tactic| first | assumption | exact upd_same | (refine (upd_ne ?_).trans ?_; (focus wtm_at "z_ne"); wtm_at "z_hp"))
local macro_rules | `(tactic| wtm_at "z_sq") => `(tactic| first | assumption | (exact .inl (.inl (by wtm_at "z_hp"))))
local macro_rules | `(tactic| wtm_at "z_side") => `(tactic| first | assumption | omega | (simp only []; omega) | exact ⟨by omega, by omega⟩ | exact ⟨by omega, by omega, by omega⟩ | exact .inl ⟨by omega, by omega⟩ | exact .inr ⟨by omega, by omega⟩ | decide)
local macro_rules | `(tactic| wtm_at "z") => `(tactic| first
  | refine ⟨_, rfl, ?_⟩
  | refine ⟨_, _, rfl, rfl, ?_⟩
  | refine And.intro (by wtm_at "z_side") ?_
  | refine .inl ⟨_, rfl, ?_⟩
  | refine ⟨_, _, _, _, rfl, rfl, (by wtm_at "z_sq"), (by first | rfl | assumption), ?_⟩
  | refine ⟨_, _, _, _, rfl, rfl, (by wtm_at "z_hp"), (by first | rfl | assumption), ?_⟩)
local macro_rules | `(tactic| wtm_at "zb") => `(tactic| dsimp only [L2.tCB, L2.tCons, L2.tNil, L2.tC])
section
variable {P : Program} {w : World} {K : PySem.W.Frag} {mg : Str → Option Value} {base : Heap} {CW : Addr}
theorem ok_law_web_ends (F : FunAt K mg "_law_web_ends" s_law_web_ends ["own"]) (T : Txt K mg CW) (C_law_web_times : Cal P w K mg base CX0 "_law_web_times" 1 ["own"] [] (sp_law_web_times K CW)) : Cal P w K mg base CX0 "_law_web_ends" 2 ["own"] [] (sp_law_web_ends K CW) := by
  obtain ⟨f, fd, F, mgf, bf⟩ := F
  obtain ⟨f_law_web_times, fd_law_web_times, ds_law_web_times, G_law_web_times, m_law_web_times, k_law_web_times, b_law_web_times, d_law_web_times⟩ := C_law_web_times
  refine ⟨f, fd, [], ?_, mgf, F.kp, bf, .nil⟩
  refine F.ok sc_law_web_ends (fun vs H Q E h => by obtain ⟨_, rfl, _⟩ := h; rfl) (fun cdv A outer s H vs Q E hr h => ?_)
  refine ⟨_, (pss_one (ps_ret (pe_callB (cr_sortedSK K rfl) (by rfl) T.z_sorted (by decide +kernel) (pa_cons (pe_lc (own := [("name", 1), ("times", 2)]) rfl sc_law_web_ends.nd (pi_items (pe_frz (pe_call G_law_web_times (hr.mono (by decide)) (by rfl) m_law_web_times k_law_web_times b_law_web_times d_law_web_times pass0 (pa_cons (pv 0) pa_nil)))) (blkOk_by (own := [("name", 1), ("times", 2)]) (N := N_law_web_ends) (sc := defScope s_law_web_ends) (by decide +kernel)) (fun _ _ _ _ _ => (pg_tupK (n := 2) K rfl rfl (pgs_cons (pg_name (i := 1) sc_law_web_ends.nd rfl (.inl rfl)) (pgs_cons (pg_name (i := 2) sc_law_web_ends.nd rfl (.inl rfl)) pgs_nil)))) (fun _ _ _ _ _ => (pts_one (pt_cmpR op_eq (pv 2) pe_int (nomark _)))) (fun _ _ _ _ _ => (pv 1))) pa_nil)))), ?_⟩
  obtain ⟨x0, rfl, h⟩ := h
  obtain ⟨G, own, hG, hx, hl, q⟩ := h
  refine ⟨_, rfl, ?_⟩
  refine ⟨_, rfl, G, own, hG, hx, by omega, fun d ks H1 hd sm hd1 nd mm => ?_⟩
  have kl : ks.length ≤ (words own).length := List.Nodup.length_le_of_subset nd fun x hx => (mm x).mp hx
  refine ⟨d, _, rfl, hd1, trivial, fun od => ?_⟩
  have sm2 : Same H (upd H1 d (.frz od (.dK (cntK ks (words own))))) := fun b o e => by
    rw [upd_ne (ne_of_none e hd)]
    exact sm _ _ e
  have hf : upd H1 d (.frz od (.dK (cntK ks (words own)))) d = some (.frz od (.dK (cntK ks (words own)))) := upd_same
  generalize upd H1 d (.frz od (.dK (cntK ks (words own)))) = H2 at sm2 hf ⊢
  refine ⟨d, od, _, rfl, hf, fun D hD => ?_⟩
  have hlen : (cntK ks (words own)).length = ks.length := List.length_map _
  refine lc_pair walk_items (fun H' e => e _ _ hf) hD (fun i => decide ((words own).count (ks.getD i "") = 1)) (fun i => .str (ks.getD i "")) (by omega) (fun _ _ => rfl) (fun i x y hi hx hy => ?_) (fun H3 s3 e3 => ?_)
  · have hik : i < ks.length := by rw [← hlen]; exact hi
    have ek : (cntK ks (words own))[i]? = some ((Sum.inr (ks.getD i "") : Key), V.int ((words own).count (ks.getD i "") : Nat)) := by
      unfold cntK
      rw [List.getElem?_map, at_of (xs := ks) (d := ("" : Str)) hik]
      rfl
    rw [ek] at hx hy
    obtain rfl := Option.some.inj hx
    obtain rfl := Option.some.inj hy
    refine ⟨fun H4 ex Q q => ?_, fun _ H4 ex Q q => ⟨_, rfl, q H4 (Evl.Ex.refl H4)⟩⟩
    refine ⟨_, rfl, rfl, _, rfl, ?_⟩
    have q' := q H4 (Evl.Ex.refl H4)
    rw [← dec_nat 1] at q'
    exact q'
  rw [hlen, given_map ks "" (fun z => decide ((words own).count z = 1)) V.str] at e3
  have fl : (ks.filter fun z => decide ((words own).count z = 1)).length ≤ ks.length := List.length_filter_le _ _
  refine ⟨D, _, rfl, SqL.of e3, by omega, fun ys l perm srt hl' => ?_⟩
  have e : ys = endsOf own := by
    refine sort_uniq (pair_of_sorted srt) ((sort_pair _).filter _) (perm.trans ?_)
    exact ((List.perm_ext_iff_of_nodup nd (nodup_roads own)).mpr fun x => (mm x).trans mem_roads.symm).filter _
  subst e
  exact q _ _ _ (((Go.ref0 hG).grow (sm2.trans s3)).new hl') ⟨l, _, rfl, upd_same, sP _⟩
end
end Tc
namespace Tc
open PySem PySem.Spec PyProof.Rows L2 Fw Mw TL
local macro_rules | `(tactic| wtm_at "z_ne") => `(tactic| first | assumption | (apply Ne.symm; assumption) | omega)
local macro_rules | `(tactic| wtm_at "z_hp") => `(tactic| first | assumption | exact upd_same | (refine (upd_ne ?_).trans ?_; (focus wtm_at "z_ne"); wtm_at "z_hp"))
local macro_rules | `(tactic| wtm_at "z_sq") => `(tactic| first | assumption | (exact .inl (.inl (by wtm_at "z_hp"))))
local macro_rules | `(tactic| wtm_at "z_side") => `(tactic| first | assumption | omega | (simp only []; omega) | exact ⟨by omega, by omega⟩ | exact ⟨by omega, by omega, by omega⟩ | exact .inl ⟨by omega, by omega⟩ | exact .inr ⟨by omega, by omega⟩ | decide)
local macro_rules | `(tactic| wtm_at "z") => `(tactic| first
  | refine ⟨_, rfl, ?_⟩
  | refine ⟨_, _, rfl, rfl, ?_⟩
  | refine And.intro (by wtm_at "z_side") ?_
  | refine .inl ⟨_, rfl, ?_⟩
  | refine ⟨_, _, _, _, rfl, rfl, (by wtm_at "z_sq"), (by first | rfl | assumption), ?_⟩
  | refine ⟨_, _, _, _, rfl, rfl, (by wtm_at "z_hp"), (by first | rfl | assumption), ?_⟩)
local macro_rules | `(tactic| wtm_at "zb") => `(tactic| dsimp only [L2.tCB, L2.tCons, L2.tNil, L2.tC])
section
variable {P : Program} {w : World} {K : PySem.W.Frag} {mg : Str → Option Value} {base : Heap} {CW : Addr}
theorem ok_law_web_at (F : FunAt K mg "_law_web_at" s_law_web_at ["own", "road"]) (T : Txt K mg CW)  : Cal P w K mg base CX0 "_law_web_at" 1 ["own", "road"] [] (sp_law_web_at K CW) := by
  obtain ⟨f, fd, F, mgf, bf⟩ := F
  refine ⟨f, fd, [], ?_, mgf, F.kp, bf, .nil⟩
  refine F.ok sc_law_web_at (fun vs H Q E h => by obtain ⟨_, _, rfl, _⟩ := h; rfl) (fun cdv A outer s H vs Q E hr h => ?_)
  refine ⟨_, (pss_cons (ps_set (i := 2) sc_law_web_at.nd rfl (.inl rfl) (pe_lst pa_nil))
      (pss_cons (ps_for PassesOwn.never rfl (pi_enumK K rfl (by rfl) T.z_enumerate (pa_cons (pv 0) pa_nil)) (pg_tupK (n := 2) K rfl rfl (pgs_cons (pg_name (i := 3) sc_law_web_at.nd rfl (.inr rfl)) (pgs_cons (pg_name (i := 4) sc_law_web_at.nd rfl (.inl rfl)) pgs_nil))) (pss_one (ps_expr (pe_bmK K rfl PySem.F.plainAttrs_list PySem.F.slot_list_extend PySem.F.type_list_extend mt_extend (pv 2) (pa_cons (pe_lc (own := [("name", 5)]) rfl sc_law_web_at.nd (pi_tupK K rfl (pv 4)) (blkOk_by (own := [("name", 5)]) (N := N_law_web_at) (sc := defScope s_law_web_at) (by decide +kernel)) (fun _ _ _ _ _ => (pg_name (i := 5) sc_law_web_at.nd rfl (.inl rfl))) (fun _ _ _ _ _ => (pts_one (pt_cmpR op_eq (pv 5) (pv 1) (nomark _)))) (fun _ _ _ _ _ => (pv 3))) pa_nil)))))
      (pss_one (ps_ret (pv 2))))), ?_⟩
  obtain ⟨x0, x1, rfl, h⟩ := h
  obtain ⟨G, own, z, hG, hx, rfl, hm, h3, q⟩ := h
  have hx0 := hx
  obtain ⟨a, ts, rfl, hs, hp⟩ := hx
  have hlen := pLen hp
  refine ⟨(show (0:Nat) ≤ sizeLine by decide), fun l hl => ?_⟩
  have go0 := (Go.ref0 hG).tmp (o := .lst []) hl
  have hl0 : upd H l (.lst []) l = some (.lst []) := upd_same
  have gl : G l = none := hG.free hl
  generalize upd H l (.lst []) = H0 at go0 hl0 ⊢
  refine ⟨_, rfl, a, ts, rfl, go0.h.seq hs, for_it (walk_enum (xs := ts)) (fun i σ H' => (∃ x3 x4, σ = [some (.ref a), some (.str z), some (.ref l), x3, x4, none]) ∧ Go [] G H G H' ∧ H' l = some (.lst ((atsUp own z i).map V.int))) ⟨⟨_, _, rfl⟩, go0, hl0⟩ (fun i σ H' _ ⟨_, go, _⟩ => go.h.seq hs) ?_ ?_⟩
  · rintro i x σ H1 H2 hi ⟨⟨x3, x4, rfl⟩, go, e1⟩ ⟨T, y1, y2, rfl, hT, rfl, z1, z2⟩
    obtain rfl := Option.some.inj z1
    obtain ⟨r, hr, b, us, rfl, hb, pb⟩ := pAt hp z2
    obtain rfl := pS pb
    have hil := (List.getElem?_eq_some_iff.mp hr).1
    have r3 := h3 r (List.mem_of_getElem? hr)
    have go2 := go.tmp (o := .tup [.int (i : Nat), .ref b]) hT
    have e2 := same_upd (o := .tup [.int (i : Nat), .ref b]) hT _ _ e1
    have hT2 : SqT K (upd H1 T (.tup [.int (i : Nat), .ref b])) T [.int (i : Nat), .ref b] := SqT.of upd_same
    generalize upd H1 T (.tup [.int (i : Nat), .ref b]) = H3 at go2 e2 hT2 ⊢
    refine ⟨T, _, rfl, hT2, rfl, _, _, rfl, _, _, rfl, rfl, ?_⟩
    refine ⟨_, rfl, .inl ⟨rfl, _, SqL.of e2⟩, ?_⟩
    have hb3 := seqT go2.h hb
    refine ⟨_, rfl, b, rfl, ⟨_, hb3⟩, fun D hD => ?_⟩
    refine lc_flat (walk_tup.mono (fun H' e => seqT e hb3) fun _ _ _ _ _ _ y => y) (fun _ e => e) hD (fun k => decide (r.getD k "" = z)) (fun k => .int (i : Nat)) (by rw [List.length_map]; omega) (fun _ => rfl) (fun k x hk hx => ⟨fun H2 _ Q q => ?_, fun _ => ?_⟩) (fun H2 sm e3 => ?_)
    · obtain ⟨t, ht, rfl⟩ := map_at hx
      rw [getD_of ht] at q
      refine ⟨_, rfl, _, rfl, rfl, _, rfl, ?_⟩
      rw [show decide (V.str t = V.str z) = decide (t = z) from by simp]
      exact q H2 (Evl.Ex.refl H2)
    · exact fun H4 _ Q q => ⟨_, rfl, q H4 (Evl.Ex.refl H4)⟩
    have e4 : H2 D = some (.lst (((r.filter fun t => decide (t = z)).map fun _ => (i : Int)).map V.int)) := by
      rw [List.length_map, given_map r "" (fun t => decide (t = z)) (fun _ => V.int (i : Nat))] at e3
      rw [List.map_map]
      exact e3
    have al := atsUp_len h3 (z := z) i (by omega)
    have fl : (r.filter fun t => decide (t = z)).length ≤ r.length := List.length_filter_le _ _
    have h0l : H l = none := hl
    refine ⟨l, D, _, _, rfl, rfl, sm _ _ e2, e4, ?_, ?_⟩
    · simp only [List.length_map]
      exact Nat.le_trans (m := 1000) (by omega) (by decide)
    · refine ⟨⟨_, _, rfl⟩, (go2.grow sm).mut gl (.inl h0l), ?_⟩
      rw [upd_same, atsUp_succ hr, List.map_append]
  · rintro σ H1 ⟨⟨x3, x4, rfl⟩, go, e1⟩
    rw [hlen] at e1
    exact ⟨_, rfl, q _ _ _ (go.frz hl e1 gl) ⟨l, _, rfl, upd_same, iP _⟩⟩
end
end Tc
namespace Tc
open PySem PySem.Spec PyProof.Rows L2 Fw Mw TL
local macro_rules | `(tactic| wtm_at "z_ne") => `(tactic| first | assumption | (apply Ne.symm; assumption) | omega)
local macro_rules | `(tactic| wtm_at "z_hp") => `(tactic| first | assumption | exact upd_same | (refine (upd_ne ?_).trans ?_; (focus wtm_at "z_ne"); wtm_at "z_hp"))
local macro_rules | `(tactic| wtm_at "z_sq") => `(tactic| first | assumption | (exact .inl (.inl (by wtm_at "z_hp"))))
local macro_rules | `(tactic| wtm_at "z_side") => `(tactic| first | assumption | omega | (simp only []; omega) | exact ⟨by omega, by omega⟩ | exact ⟨by omega, by omega, by omega⟩ | exact .inl ⟨by omega, by omega⟩ | exact .inr ⟨by omega, by omega⟩ | decide)
local macro_rules | `(tactic| wtm_at "z") => `(tactic| first
  | refine ⟨_, rfl, ?_⟩
  | refine ⟨_, _, rfl, rfl, ?_⟩
  | refine And.intro (by wtm_at "z_side") ?_
  | refine .inl ⟨_, rfl, ?_⟩
  | refine ⟨_, _, _, _, rfl, rfl, (by wtm_at "z_sq"), (by first | rfl | assumption), ?_⟩
  | refine ⟨_, _, _, _, rfl, rfl, (by wtm_at "z_hp"), (by first | rfl | assumption), ?_⟩)
local macro_rules | `(tactic| wtm_at "zb") => `(tactic| dsimp only [L2.tCB, L2.tCons, L2.tNil, L2.tC])
section
variable {P : Program} {w : World} {K : PySem.W.Frag} {mg : Str → Option Value} {base : Heap} {CW : Addr}
theorem ok_law_web_names (F : FunAt K mg "_law_web_names" s_law_web_names ["pot", "many"]) (T : Txt K mg CW) (C_law_some : Cal P w K mg base CX0 "_law_some" 2 ["pot", "pool", "many"] [] (sp_law_some K CW)) : Cal P w K mg base CX0 "_law_web_names" 3 ["pot", "many"] [] (sp_law_web_names K CW) := by
  obtain ⟨f, fd, F, mgf, bf⟩ := F
  obtain ⟨f_law_some, fd_law_some, ds_law_some, G_law_some, m_law_some, k_law_some, b_law_some, d_law_some⟩ := C_law_some
  refine ⟨f, fd, [], ?_, mgf, F.kp, bf, .nil⟩
  refine F.ok sc_law_web_names (fun vs H Q E h => by obtain ⟨_, _, rfl, _⟩ := h; rfl) (fun cdv A outer s H vs Q E hr h => ?_)
  refine ⟨_, (pss_cons (ps_set (i := 2) sc_law_web_names.nd rfl (.inl rfl) (pe_op op_cat (pe_callTy (call_chars rfl) (by rfl) T.z_list (by decide +kernel) (pa_cons pe_str pa_nil)) (pe_lst (pa_cons pe_str (pa_cons pe_str (pa_cons pe_str (pa_cons pe_str (pa_cons pe_str (pa_cons pe_str pa_nil)))))))))
      (pss_one (ps_ret (pe_call G_law_some (hr.mono (by decide)) (by rfl) m_law_some k_law_some b_law_some d_law_some pass0 (pa_cons (pv 0) (pa_cons (pv 2) (pa_cons (pv 1) pa_nil))))))), ?_⟩
  obtain ⟨x0, x1, rfl, h⟩ := h
  obtain ⟨p, n, G, many, hG, gp, rfl, rfl, hm, hP, q⟩ := h
  refine ⟨_, rfl, (by decide +kernel), fun l1 h1 => ?_⟩
  refine ⟨(show (6:Nat) ≤ sizeLine by decide), fun l2 h2 => ?_⟩
  have h12 : l1 ≠ l2 := ne_of_none upd_same h2
  refine ⟨l1, l2, _, _, rfl, rfl, (upd_ne h12).trans upd_same, upd_same, (by decide +kernel), fun l3 h3 => ?_⟩
  have ep : (((tl ("abcdefghijklmnopqrstuvwxyz" : Str)).map fun c => V.str ⟨#[c]⟩) ++ [V.str "meet", V.str "web", V.str "road", V.str "ab", V.str "zz", V.str "round"]) = pool.map V.str := by
    unfold pool
    rw [List.map_append, List.map_map]
    rfl
  rw [ep]
  have go := (((Go.ref0 hG).tmp h1).tmp h2).new (o := .lst (pool.map V.str)) h3
  have gpN := go.n p hP.some gp
  have hPN : Pot (n + many) p _ := ((hP.up (same_upd h1)).up (same_upd h2)).up (same_upd (o := .lst (pool.map V.str)) h3)
  have pl : (pool.map V.str).length = 32 := by rw [List.length_map, pool_len]
  refine ⟨_, rfl, _, rfl, _, rfl, ?_⟩
  refine ⟨_, _, _, rfl, p, n, l3, pool.map V.str, many, _, go.h, gpN, rfl, rfl, rfl, .inl (SqL.of upd_same), by omega, by omega, hPN, fun ys l G1 H1 go1 P1 hl1 ly ⟨zs, pm⟩ => ?_⟩
  obtain ⟨al, eal, pal⟩ := perm_map pm
  obtain ⟨nm, zm, rfl, rfl, rfl⟩ := List.map_eq_append_iff.mp eal.symm
  have nd : (nm ++ zm).Nodup := pal.nodup_iff.mpr pool_nodup
  refine q nm (List.nodup_append.mp nd).1 (by rw [← ly, List.length_map]) (fun x hx => pool_names x (pal.mem_iff.mp (List.mem_append_left _ hx))) _ _ _ (go.wide.trans go1) P1 ⟨l, _, rfl, hl1, sP _⟩
end
end Tc
namespace Tc
open PySem PySem.Spec PyProof.Rows L2 Fw Mw TL
local macro_rules | `(tactic| wtm_at "z_ne") => `(tactic| first | assumption | (apply Ne.symm; assumption) | omega)
local macro_rules | `(tactic| wtm_at "z_hp") => `(tactic| first | assumption | exact upd_same | (refine (upd_ne ?_).trans ?_; (focus wtm_at "z_ne"); wtm_at "z_hp"))
local macro_rules | `(tactic| wtm_at "z_sq") => `(tactic| first | assumption | (exact .inl (.inl (by wtm_at "z_hp"))))
local macro_rules | `(tactic| wtm_at "z_side") => `(tactic| first | assumption | omega | (simp only []; omega) | exact ⟨by omega, by omega⟩ | exact ⟨by omega, by omega, by omega⟩ | exact .inl ⟨by omega, by omega⟩ | exact .inr ⟨by omega, by omega⟩ | decide)
local macro_rules | `(tactic| wtm_at "z") => `(tactic| first
  | refine ⟨_, rfl, ?_⟩
  | refine ⟨_, _, rfl, rfl, ?_⟩
  | refine And.intro (by wtm_at "z_side") ?_
  | refine .inl ⟨_, rfl, ?_⟩
  | refine ⟨_, _, _, _, rfl, rfl, (by wtm_at "z_sq"), (by first | rfl | assumption), ?_⟩
  | refine ⟨_, _, _, _, rfl, rfl, (by wtm_at "z_hp"), (by first | rfl | assumption), ?_⟩)
local macro_rules | `(tactic| wtm_at "zb") => `(tactic| dsimp only [L2.tCB, L2.tCons, L2.tNil, L2.tC])
section
variable {P : Program} {w : World} {K : PySem.W.Frag} {mg : Str → Option Value} {base : Heap} {CW : Addr}
theorem ok_law_web_put (F : FunAt K mg "_law_web_put" s_law_web_put ["own", "old", "new", "times"]) (T : Txt K mg CW)  : Cal P w K mg base CX0 "_law_web_put" 1 ["own", "old", "new", "times"] [] (sp_law_web_put K CW) := by
  obtain ⟨f, fd, F, mgf, bf⟩ := F
  refine ⟨f, fd, [], ?_, mgf, F.kp, bf, .nil⟩
  refine F.ok sc_law_web_put (fun vs H Q E h => by obtain ⟨_, _, _, _, rfl, _⟩ := h; rfl) (fun cdv A outer s H vs Q E hr h => ?_)
  refine ⟨_, (pss_cons (ps_set (i := 4) sc_law_web_put.nd rfl (.inl rfl) (pe_lst pa_nil))
      (pss_cons (ps_for PassesOwn.never rfl (pi_listK K rfl (pv 0)) (pg_name (i := 5) sc_law_web_put.nd rfl (.inl rfl)) (pss_cons (ps_set (i := 6) sc_law_web_put.nd rfl (.inl rfl) (pe_lst pa_nil))
      (pss_cons (ps_for PassesOwn.never rfl (pi_tupK K rfl (pv 5)) (pg_name (i := 7) sc_law_web_put.nd rfl (.inl rfl)) (pss_cons (ps_expr (pe_bmK K rfl PySem.F.plainAttrs_list PySem.F.slot_list_append PySem.F.type_list_append mt_append (pv 6) (pa_cons (pe_ifExp (PW.pt (pw_and (pt_cmpR op_eq (pv 7) (pv 1) (nomark _)) (pw_and1 (pt_cmpR op_gt (pv 3) pe_int (nomark _))))) (pv 2) (pv 7)) pa_nil)))
      (pss_one (ps_set (i := 3) sc_law_web_put.nd rfl (.inl rfl) (pe_op op_sub (pv 3) (pe_callTy call_int1 (by rfl) T.z_int (by decide +kernel) (pa_cons (pe_cmpR op_eq (pv 7) (pv 1) (nomark _)) pa_nil)))))))
      (pss_one (ps_expr (pe_bmK K rfl PySem.F.plainAttrs_list PySem.F.slot_list_append PySem.F.type_list_append mt_append (pv 4) (pa_cons (pe_callTy (call_tuple_ofK K rfl) (by rfl) T.z_tuple (by decide +kernel) (pa_cons (pv 6) pa_nil)) pa_nil)))))))
      (pss_one (ps_ret (pv 4))))), ?_⟩
  obtain ⟨x0, x1, x2, x3, rfl, h⟩ := h
  obtain ⟨G, own, old, new, k, hG, hx, rfl, rfl, rfl, hl, h3, q⟩ := h
  obtain ⟨a, ts, rfl, hs, hp⟩ := hx
  have hlen := pLen hp
  refine ⟨(show (0:Nat) ≤ sizeLine by decide), fun l4 h4 => ?_⟩
  have g4 : G l4 = none := hG.free h4
  refine ⟨_, rfl, a, rfl, ⟨_, (hG.trans (same_upd h4)).seq hs⟩, for_it walk_list (fun i σ H' => (∃ x5 x6 x7, σ = [some (.ref a), some (.str old), some (.str new), some (.int (k - ((own.take i).flatten.count old : Nat))), some (.ref l4), x5, x6, x7]) ∧ ∃ G' us, Go [] G H G' H' ∧ G' l4 = none ∧ H' l4 = some (.lst us) ∧ Paired (rT K rS G') us (putRows old new k (own.take i))) ⟨⟨_, _, _, by simp; rfl⟩, G, [], (Go.ref0 hG).tmp h4, g4, upd_same, .nil⟩ (fun i σ H' _ ⟨_, _, _, go, _⟩ => (go.g.trans go.h).seq hs) ?_ ?_⟩
  · rintro i x σ H0 H1 hi ⟨⟨x5, x6, x7, rfl⟩, G1, us, go, gl, hl1, pr⟩ ⟨rfl, hx⟩
    obtain ⟨r, hr, b, vs, rfl, hb, pb⟩ := pAt hp hx
    obtain rfl := pS pb
    have hil := (List.getElem?_eq_some_iff.mp hr).1
    have r3 := h3 r (List.mem_of_getElem? hr)
    have lus : us.length = i := by rw [pLen pr, putRows_len, List.length_take]; omega
    generalize ht : k - ((own.take i).flatten.count old : Nat) = t
    refine ⟨(show (0:Nat) ≤ sizeLine by decide), fun l6 h6 => ?_⟩
    have go6 := go.tmp (o := .lst []) h6
    have n46 : l4 ≠ l6 := ne_of_none hl1 h6
    have hl6 := (upd_ne (o := .lst []) n46).trans hl1
    have h06 : H l6 = none := go.fresh h6
    have g6 : G1 l6 = none := go.gnone h6
    have h66 : upd H1 l6 (.lst []) l6 = some (.lst []) := upd_same
    generalize upd H1 l6 (.lst []) = H2 at go6 hl6 h66 ⊢
    refine ⟨_, rfl, b, rfl, ⟨_, seqT (go6.g.trans go6.h) hb⟩, for_it walk_tup (fun j σ H' => (∃ x7, σ = [some (.ref a), some (.str old), some (.str new), some (.int (t - ((r.take j).count old : Nat))), some (.ref l4), some (.ref b), some (.ref l6), x7]) ∧ Go [] G H G1 H' ∧ H' l4 = some (.lst us) ∧ H' l6 = some (.lst ((putRow old new t (r.take j)).map V.str))) ⟨⟨_, by simp; rfl⟩, go6, hl6, h66⟩ (fun i σ H' _ ⟨_, go, _⟩ => seqT (go.g.trans go.h) hb) ?_ ?_⟩
    · rintro j x σ H03 H3 hj ⟨⟨x7, rfl⟩, go3, e4, e6⟩ ⟨rfl, hx⟩
      obtain ⟨z, hz, rfl⟩ := map_at hx
      have hjl := (List.getElem?_eq_some_iff.mp hz).1
      have fin : ∀ y : Str, y = (if z = old ∧ 0 < t - ((r.take j).count old : Nat) then new else z) → (putRow old new t (r.take j)).map V.str ++ [V.str y] = (putRow old new t (r.take (j + 1))).map V.str := fun y e => by
        rw [take_snoc hz, putRow_snoc, ← e, List.map_append]
        rfl
      have small : ((putRow old new t (r.take j)).map V.str).length < sizeLine := by
        rw [List.length_map, putRow_len, List.length_take]
        exact Nat.lt_of_le_of_lt (m := 3) (by omega) (by decide)
      have cs : ((r.take (j + 1)).count old : Nat) = (r.take j).count old + if z = old then 1 else 0 := by
        rw [take_snoc hz]
        exact count_snoc _ _ _
      refine ⟨_, rfl, .inl ⟨rfl, _, SqL.of e6⟩, ?_⟩
      refine ⟨_, rfl, _, rfl, rfl, _, rfl, ?_⟩
      have fin2 : ∀ y : Str, y = (if z = old ∧ 0 < t - ((r.take j).count old : Nat) then new else z) → ∀ H5, H5 = upd H3 l6 (.lst ((putRow old new t (r.take j)).map V.str ++ [V.str y])) → Go [] G H G1 H5 ∧ H5 l4 = some (.lst us) ∧ H5 l6 = some (.lst ((putRow old new t (r.take (j + 1))).map V.str)) := fun y e H5 e5 => by
        rw [e5, fin y e]
        exact ⟨go3.mut g6 (.inl h06), (upd_ne n46).trans e4, upd_same⟩
      have st : ∀ v : Int, v = t - ((r.take (j + 1)).count old : Nat) → ∀ l : L2.St, l = [some (.ref a), some (.str old), some (.str new), some (.int v), some (.ref l4), some (.ref b), some (.ref l6), some (.str z)] →
          l = [some (.ref a), some (.str old), some (.str new), some (.int (t - ((r.take (j + 1)).count old : Nat))), some (.ref l4), some (.ref b), some (.ref l6), some (.str z)] := fun v e l el => by rw [el, e]
      by_cases e : z = old
      · have ed : decide (V.str z = V.str old) = true := decide_eq_true (by rw [e])
        rw [ed]
        refine ⟨_, rfl, _, _, rfl, rfl, _, rfl, ?_⟩
        by_cases tp : 0 < t - ((r.take j).count old : Nat)
        · rw [decide_eq_true tp]
          refine ⟨_, rfl, l6, _, .str new, rfl, rfl, e6, small, ?_⟩
          refine ⟨_, rfl, _, rfl, _, rfl, rfl, .inr ⟨_, rfl, ?_⟩⟩
          refine ⟨_, _, rfl, rfl, ?_⟩
          refine ⟨⟨some (.str z), st _ ?_ _ rfl⟩, fin2 new (by rw [if_pos ⟨e, tp⟩]) _ rfl⟩
          rw [cs, ed, if_pos rfl, if_pos e]
          omega
        · rw [decide_eq_false tp]
          refine ⟨_, rfl, l6, _, .str z, rfl, rfl, e6, small, ?_⟩
          refine ⟨_, rfl, _, rfl, _, rfl, rfl, .inr ⟨_, rfl, ?_⟩⟩
          refine ⟨_, _, rfl, rfl, ?_⟩
          refine ⟨⟨some (.str z), st _ ?_ _ rfl⟩, fin2 z (by rw [if_neg (fun h => tp h.2)]) _ rfl⟩
          rw [cs, ed, if_pos rfl, if_pos e]
          omega
      · have ed : decide (V.str z = V.str old) = false := decide_eq_false (fun h => e (V.str.inj h))
        rw [ed]
        refine ⟨_, rfl, l6, _, .str z, rfl, rfl, e6, small, ?_⟩
        refine ⟨_, rfl, _, rfl, _, rfl, rfl, .inr ⟨_, rfl, ?_⟩⟩
        refine ⟨_, _, rfl, rfl, ?_⟩
        refine ⟨⟨some (.str z), st _ ?_ _ rfl⟩, fin2 z (by rw [if_neg (fun h => e h.1)]) _ rfl⟩
        rw [cs, ed, if_neg (by decide), if_neg e]
        omega
    · rintro σ H3 ⟨⟨x7, rfl⟩, go3, e4, e6⟩
      rw [List.length_map, List.take_length] at e6 ⊢
      refine ⟨_, rfl, .inl ⟨rfl, _, SqL.of e4⟩, ?_⟩
      refine ⟨_, rfl, ?_⟩
      wtm_at "zb"
      refine ⟨l6, _, rfl, .inl ⟨SqL.of e6, fun l8 h8 => ?_⟩⟩
      have go8 := go3.new (o := .tup ((putRow old new t r).map V.str)) h8
      have n48 : l4 ≠ l8 := ne_of_none e4 h8
      have g48 := (upd_ne (o := .tup ((putRow old new t r).map V.str)) n48).trans gl
      refine ⟨l4, us, .ref l8, rfl, rfl, (upd_ne n48).trans e4, Nat.lt_of_le_of_lt (m := 100) (by omega) (by decide), ?_⟩
      have cs : ((own.take (i + 1)).flatten.count old : Nat) = (own.take i).flatten.count old + r.count old := by
        rw [take_flat own i r hr, List.count_append]
      refine ⟨⟨some (.ref b), some (.ref l6), x7, ?_⟩, _, us ++ [.ref l8], go8.mut g48 (.inl h4), g48, upd_same, ?_⟩
      · rw [show (k - ((own.take (i + 1)).flatten.count old : Nat) : Int) = t - (r.count old : Nat) by rw [cs]; omega]
      · rw [take_snoc hr, putRows_snoc, ht]
        have sm := same_upd (o := .tup ((putRow old new t r).map V.str)) (go3.gnone h8)
        exact pSnoc (L2.Paired.mapP pr fun _ _ z => Mo.up sm z) (rTs.mpr ⟨l8, rfl, SqT.of upd_same⟩)
  · rintro σ H1 ⟨⟨x5, x6, x7, rfl⟩, G1, us, go, gl, hl1, pr⟩
    rw [hlen, List.take_length] at pr
    exact ⟨_, rfl, q _ _ _ (go.frz h4 hl1 gl) ⟨l4, us, rfl, upd_same, L2.Paired.mapP pr fun _ _ z => Mo.up (same_upd gl) z⟩⟩
end
end Tc
namespace Tc
open PySem PySem.Spec PyProof.Rows L2 Fw Mw TL
local macro_rules | `(tactic| wtm_at "z_ne") => `(tactic| first | assumption | (apply Ne.symm; assumption) | omega)
local macro_rules | `(tactic| wtm_at "z_hp") => `(tactic| first | assumption | exact upd_same | (refine (upd_ne ?_).trans ?_; (focus wtm_at "z_ne"); wtm_at "z_hp"))
local macro_rules | `(tactic| wtm_at "z_sq") => `(tactic| first | assumption | (exact .inl (.inl (by wtm_at "z_hp"))))
local macro_rules | `(tactic| wtm_at "z_side") => `(tactic| first | assumption | omega | (simp only []; omega) | exact ⟨by omega, by omega⟩ | exact ⟨by omega, by omega, by omega⟩ | exact .inl ⟨by omega, by omega⟩ | exact .inr ⟨by omega, by omega⟩ | decide)
local macro_rules | `(tactic| wtm_at "z") => `(tactic| first
  | refine ⟨_, rfl, ?_⟩
  | refine ⟨_, _, rfl, rfl, ?_⟩
  | refine And.intro (by wtm_at "z_side") ?_
  | refine .inl ⟨_, rfl, ?_⟩
  | refine ⟨_, _, _, _, rfl, rfl, (by wtm_at "z_sq"), (by first | rfl | assumption), ?_⟩
  | refine ⟨_, _, _, _, rfl, rfl, (by wtm_at "z_hp"), (by first | rfl | assumption), ?_⟩)
local macro_rules | `(tactic| wtm_at "zb") => `(tactic| dsimp only [L2.tCB, L2.tCons, L2.tNil, L2.tC])
section
variable {P : Program} {w : World} {K : PySem.W.Frag} {mg : Str → Option Value} {base : Heap} {CW : Addr}
theorem ok_law_web_tree (F : FunAt K mg "_law_web_tree" s_law_web_tree ["pot", "names", "ends"]) (T : Txt K mg CW) (C_law_of : Cal P w K mg base CX0 "_law_of" 2 ["pot", "some"] [] (sp_law_of K CW)) (C_law_web_roads : Cal P w K mg base CX0 "_law_web_roads" 2 ["own"] [] (sp_law_web_roads K CW)) (C_law_web_times : Cal P w K mg base CX0 "_law_web_times" 1 ["own"] [] (sp_law_web_times K CW)) (C_law_web_put : Cal P w K mg base CX0 "_law_web_put" 1 ["own", "old", "new", "times"] [] (sp_law_web_put K CW)) : Cal P w K mg base CX0 "_law_web_tree" 3 ["pot", "names", "ends"] [] (sp_law_web_tree K CW) := by
  obtain ⟨f, fd, F, mgf, bf⟩ := F
  obtain ⟨f_law_of, fd_law_of, ds_law_of, G_law_of, m_law_of, k_law_of, b_law_of, d_law_of⟩ := C_law_of
  obtain ⟨f_law_web_roads, fd_law_web_roads, ds_law_web_roads, G_law_web_roads, m_law_web_roads, k_law_web_roads, b_law_web_roads, d_law_web_roads⟩ := C_law_web_roads
  obtain ⟨f_law_web_times, fd_law_web_times, ds_law_web_times, G_law_web_times, m_law_web_times, k_law_web_times, b_law_web_times, d_law_web_times⟩ := C_law_web_times
  obtain ⟨f_law_web_put, fd_law_web_put, ds_law_web_put, G_law_web_put, m_law_web_put, k_law_web_put, b_law_web_put, d_law_web_put⟩ := C_law_web_put
  refine ⟨f, fd, [], ?_, mgf, F.kp, bf, .nil⟩
  refine F.ok sc_law_web_tree (fun vs H Q E h => by obtain ⟨_, _, _, rfl, _⟩ := h; rfl) (fun cdv A outer s H vs Q E hr h => ?_)
  refine ⟨_, (pss_cons (ps_par (i := 3) (j := 4) rfl sc_law_web_tree.nd rfl rfl (by decide) rfl rfl (pa_cons (pe_lst (pa_cons (pe_callTy (call_tuple_ofK K rfl) (by rfl) T.z_tuple (by decide +kernel) (pa_cons (pe_slice (sl_listK K rfl) (pv 1) po_none (po_some pe_int)) pa_nil)) pa_nil)) (pa_cons (pe_callTy (call_list_ofK K rfl) (by rfl) T.z_list (by decide +kernel) (pa_cons (pe_slice (sl_listK K rfl) (pv 1) (po_some pe_int) po_none) pa_nil)) pa_nil)) (by rfl))
      (pss_cons (ps_for PassesOwn.never rfl (pi_range1 (by rfl) T.z_range (pa_cons (pe_op op_sub (pv 2) pe_int) pa_nil)) (pg_name (i := 5) sc_law_web_tree.nd rfl (.inl rfl)) (pss_cons (ps_set (i := 6) sc_law_web_tree.nd rfl (.inl rfl) (pe_call G_law_of (hr.mono (by decide)) (by rfl) m_law_of k_law_of b_law_of d_law_of pass0 (pa_cons (pv 0) (pa_cons (pe_call G_law_web_roads (hr.mono (by decide)) (by rfl) m_law_web_roads k_law_web_roads b_law_web_roads d_law_web_roads pass0 (pa_cons (pv 3) pa_nil)) pa_nil))))
      (pss_cons (ps_par (i := 7) (j := 8) rfl sc_law_web_tree.nd rfl rfl (by decide) rfl rfl (pa_cons (pe_ix (ix_listK K rfl) (pv 4) pe_int (fun _ _ => rfl)) (pa_cons (pe_ix (ix_listK K rfl) (pv 4) pe_int (fun _ _ => rfl)) pa_nil)) (by rfl))
      (pss_cons (ps_set (i := 4) sc_law_web_tree.nd rfl (.inl rfl) (pe_slice (sl_listK K rfl) (pv 4) (po_some pe_int) po_none))
      (pss_cons (ps_set (i := 9) sc_law_web_tree.nd rfl (.inl rfl) (pe_dget (hu_of hr) (pe_call G_law_web_times (hr.mono (by decide)) (by rfl) m_law_web_times k_law_web_times b_law_web_times d_law_web_times pass0 (pa_cons (pv 3) pa_nil)) (pv 6) (fun _ _ => rfl)))
      (pss_cons (ps_if (pt_cmpR op_eq (pv 9) pe_int (nomark _)) (pss_cons (ps_set (i := 3) sc_law_web_tree.nd rfl (.inl rfl) (pe_call G_law_web_put (hr.mono (by decide)) (by rfl) m_law_web_put k_law_web_put b_law_web_put d_law_web_put pass0 (pa_cons (pe_call G_law_web_put (hr.mono (by decide)) (by rfl) m_law_web_put k_law_web_put b_law_web_put d_law_web_put pass0 (pa_cons (pv 3) (pa_cons (pv 6) (pa_cons pe_str (pa_cons pe_int pa_nil))))) (pa_cons (pv 6) (pa_cons (pv 7) (pa_cons pe_int pa_nil))))))
      (pss_one (ps_set (i := 3) sc_law_web_tree.nd rfl (.inl rfl) (pe_call G_law_web_put (hr.mono (by decide)) (by rfl) m_law_web_put k_law_web_put b_law_web_put d_law_web_put pass0 (pa_cons (pv 3) (pa_cons pe_str (pa_cons (pv 6) (pa_cons pe_int pa_nil)))))))) pss_nil)
      (pss_one (ps_set (i := 3) sc_law_web_tree.nd rfl (.inl rfl) (pe_op op_cat (pv 3) (pe_lst (pa_cons (pe_tup (pa_cons (pv 6) (pa_cons (pv 7) (pa_cons (pv 8) pa_nil)))) pa_nil)))))))))))
      (pss_one (ps_ret (pv 3))))), ?_⟩
  obtain ⟨x0, x1, x2, rfl, h⟩ := h
  obtain ⟨p, n, G, nm, m, hG, gp, rfl, hy, rfl, h3, h14, hnl, nd, nn, hP, q⟩ := h
  have hpn := hP.some
  obtain ⟨a, ts, rfl, ha, pa⟩ := hy
  obtain rfl := pS pa
  have haH : SqL K H a (nm.map V.str) := SqL.of (hG _ _ ha)
  obtain ⟨x, y, z, hxyz⟩ : ∃ x y z, nm.take 3 = [x, y, z] := by
    have hl : (nm.take 3).length = 3 := by rw [List.length_take]; omega
    match nm.take 3, hl with
    | [x, y, z], _ => exact ⟨x, y, z, rfl⟩
  have c3 : cutV (nm.map V.str) none (some 3) = [x, y, z].map V.str := by
    have := cut_to (nm.map V.str) 3
    rw [← List.map_take, hxyz] at this
    exact this
  have d3 : cutV (nm.map V.str) (some 3) none = (nm.drop 3).map V.str := by
    have := cut_from (nm.map V.str) 3
    rw [← List.map_drop] at this
    exact this
  refine ⟨_, rfl, _, rfl, ?_⟩
  refine ⟨a, _, rfl, haH, fun p1 h1 => ?_⟩
  rw [c3]
  have go1 := (Go.ref0 hG).tmp (o := .lst ([x, y, z].map V.str)) h1
  refine ⟨p1, _, rfl, .inl ⟨SqL.of upd_same, fun p2 h2 => ?_⟩⟩
  have go2 := go1.new (o := .tup ([x, y, z].map V.str)) h2
  have f2 : rT K rS (upd G p2 (.tup ([x, y, z].map V.str))) (.ref p2) [x, y, z] := rTs.mpr ⟨p2, rfl, SqT.of upd_same⟩
  refine ⟨(show (1:Nat) ≤ sizeLine by decide), fun p3 h3' => ?_⟩
  have go3 := go2.new (o := .lst [.ref p2]) h3'
  have f3 : rH (rT K rS) (upd (upd G p2 (.tup ([x, y, z].map V.str))) p3 (.lst [.ref p2])) (.ref p3) [[x, y, z]] := ⟨p3, _, rfl, upd_same, .cons (Mo.up (same_upd (go2.gnone h3')) f2) .nil⟩
  generalize upd (upd G p2 (.tup ([x, y, z].map V.str))) p3 (.lst [.ref p2]) = G3 at go3 f3
  generalize upd (upd (upd H p1 _) p2 _) p3 _ = H3 at go3 ⊢
  refine ⟨_, rfl, _, rfl, ?_⟩
  refine ⟨a, _, rfl, (go3.g.trans go3.h).seq (SqL.of ha), fun p4 h4 => ?_⟩
  rw [d3]
  have go4 := go3.tmp (o := .lst ((nm.drop 3).map V.str)) h4
  refine ⟨p4, _, rfl, .inl (SqL.of upd_same), fun p5 h5 => ?_⟩
  have go5 := go4.new (o := .lst ((nm.drop 3).map V.str)) h5
  have f5 := Mo.up (same_upd (o := .lst ((nm.drop 3).map V.str)) (go4.gnone h5)) f3
  have e5 : upd G3 p5 (.lst ((nm.drop 3).map V.str)) p5 = some (.lst ((nm.drop 3).map V.str)) := upd_same
  generalize upd G3 p5 (.lst ((nm.drop 3).map V.str)) = G5 at go5 f5 e5
  generalize upd (upd H3 p4 _) p5 _ = H5 at go5 ⊢
  refine ⟨_, _, rfl, ?_⟩
  have P5 : Pot (n + m) p H5 := hP.go go5 (by simp)
  have ndx : [x, y, z].Nodup := by rw [← hxyz]; exact List.Sublist.nodup (List.take_sublist _ _) nd
  have nnx : ∀ u ∈ [x, y, z], isName u = true := fun u hu => nn u (List.mem_of_mem_take (by rw [hxyz]; exact hu))
  refine ⟨_, rfl, ?_⟩
  refine ⟨_, _, rfl, rfl, ?_⟩
  refine ⟨_, rfl, by omega, by omega, ?_⟩
  rw [show ((m : Int) - 3).toNat = m - 3 by omega]
  refine for_it (walk_range (lo := 0) (n := m - 3)) (fun i σ H' => ∃ vo vs x5 x6 x7 x8 x9, σ = [some (.ref p), some (.ref a), some (.int m), some vo, some (.ref vs), x5, x6, x7, x8, x9] ∧ ∃ G' o, Go [p] G H G' H' ∧ Pot (n + m - i) p H' ∧ rH (rT K rS) G' vo o ∧ G' vs = some (.lst ((nm.drop (3 + 2 * i)).map V.str)) ∧ Wb o (3 + i) ∧ o.length = 1 + i ∧ ∀ u ∈ words o, u ∈ nm.take (3 + 2 * i)) ⟨_, p5, _, _, _, _, _, rfl, G5, [[x, y, z]], go5.wide, P5, f5, e5, wb_one (nnx x (by simp)) (nnx y (by simp)) (nnx z (by simp)) ndx, rfl, fun u hu => ?_⟩ (fun _ _ _ _ _ => trivial) ?_ ?_
  · rw [show 3 + 2 * 0 = 3 from rfl, hxyz]
    simpa [words] using hu
  · rintro i u σ H6 H7 hi ⟨vo, vs, x5, x6, x7, x8, x9, rfl, G6, o, go6, P6, ho, hvs, wo, lo, hw⟩ ⟨rfl, ex⟩
    have gp6 := go6.n p hpn gp
    have o3 : ∀ r ∈ o, r.length = 3 := fun r hr => (wo.rows r hr).len
    have wl : (words o).length ≤ 60 := by
      have h1 := flat_len o o3
      have h2 : (words o).length = 3 * o.length := h1
      omega
    refine ⟨_, rfl, ?_⟩
    refine ⟨_, rfl, ?_⟩
    refine ⟨_, rfl, G6, o, go6.h, ho.l, wl, fun v G8 H8 go8 hv => ?_⟩
    obtain ⟨lr, us, rfl, hlr, plr⟩ := hv
    obtain rfl := pS plr
    have go8' := go6.call go8
    have gp8 := go8'.n p hpn gp
    have P8 := P6.go go8 (by simp)
    have wne : words o ≠ [] := fun z => by
      have h1 := flat_len o o3
      have h2 : (words o).length = 3 * o.length := h1
      rw [z] at h2
      simp at h2
      omega
    have rne : (roadsOf o).map V.str ≠ [] := fun z => by
      cases hwo : words o with
      | nil => exact wne hwo
      | cons w0 l0 =>
        have : w0 ∈ roadsOf o := mem_roads.mpr (by rw [hwo]; simp)
        rw [List.map_eq_nil_iff.mp z] at this
        cases this
    have rl : (roadsOf o).length ≤ 60 := by
      have : (roadsOf o).length ≤ (words o).length := by
        unfold roadsOf
        rw [(List.mergeSort_perm _ _).length_eq]
        exact Ys.len_putAll _
      omega
    refine ⟨_, _, rfl, p, n + m - (i + 1), lr, (roadsOf o).map V.str, G8, go8'.h, gp8, rfl, rfl, SqL.of hlr, rne, by rw [List.length_map]; omega, P8.le (by omega), fun k v H9 hv P9 b9 => ?_⟩
    obtain ⟨road, hroad, rfl⟩ := map_at hv
    have hrw : road ∈ words o := mem_roads.mp (List.mem_of_getElem? hroad)
    have go9 := go8'.trans (b9.go go8'.h gp8 P9)
    have hvs8 := go8.g _ _ hvs
    have ho8 := Mo.up go8.g ho
    have dl : (nm.drop (3 + 2 * i)).length = 2 * m - 3 - (3 + 2 * i) := by rw [List.length_drop, hnl]
    obtain ⟨half, hhalf⟩ : ∃ half, nm[3 + 2 * i]? = some half := ⟨nm[3 + 2 * i], List.getElem?_eq_getElem (by omega)⟩
    obtain ⟨last, hlast⟩ : ∃ last, nm[3 + 2 * i + 1]? = some last := ⟨nm[3 + 2 * i + 1], List.getElem?_eq_getElem (by omega)⟩
    have a0 : ((nm.drop (3 + 2 * i)).map V.str)[0]? = some (.str half) := by rw [List.getElem?_map, List.getElem?_drop, Nat.add_zero, hhalf]; rfl
    have a1 : ((nm.drop (3 + 2 * i)).map V.str)[1]? = some (.str last) := by rw [List.getElem?_map, List.getElem?_drop, hlast]; rfl
    refine ⟨_, rfl, vs, _, 0, _, rfl, rfl, SqL.of (go9.h _ _ hvs8), atI_nat (j := 0) a0, ?_⟩
    refine ⟨_, rfl, vs, _, 1, _, rfl, rfl, SqL.of (go9.h _ _ hvs8), atI_nat (j := 1) a1, ?_⟩
    refine ⟨_, _, rfl, ?_⟩
    refine ⟨_, rfl, _, rfl, vs, _, rfl, SqL.of (go9.h _ _ hvs8), fun ps hps => ?_⟩
    have cd : cutV ((nm.drop (3 + 2 * i)).map V.str) (some 2) none = (nm.drop (3 + 2 * (i + 1))).map V.str := by
      have := cut_from ((nm.drop (3 + 2 * i)).map V.str) 2
      rw [← List.map_drop, List.drop_drop] at this
      rw [show 3 + 2 * (i + 1) = 3 + 2 * i + 2 by omega]
      exact this
    rw [cd]
    have goP := go9.new (o := .lst ((nm.drop (3 + 2 * (i + 1))).map V.str)) hps
    have sP := same_upd (o := .lst ((nm.drop (3 + 2 * (i + 1))).map V.str)) (go9.gnone hps)
    have PP := P9.up (same_upd (o := .lst ((nm.drop (3 + 2 * (i + 1))).map V.str)) hps)
    have hps9 : upd G8 ps (.lst ((nm.drop (3 + 2 * (i + 1))).map V.str)) ps = some (.lst ((nm.drop (3 + 2 * (i + 1))).map V.str)) := upd_same
    have hoP := Mo.up sP ho8
    generalize upd G8 ps (.lst ((nm.drop (3 + 2 * (i + 1))).map V.str)) = GP at goP sP hps9 hoP
    generalize upd H9 ps (.lst ((nm.drop (3 + 2 * (i + 1))).map V.str)) = HP at goP PP ⊢
    refine ⟨_, rfl, ?_⟩
    refine ⟨_, rfl, GP, o, goP.h, hoP.l, by omega, fun d ks HQ hdq smq hdk ndk mmk => ?_⟩
    have ev : valV (cntK ks (words o)) (Sum.inr road) = some (.int ((words o).count road : Nat)) := by rw [val_cnt, if_pos ((mmk road).mpr hrw)]
    have goQ := goP.grow smq
    have PQ := PP.up smq
    refine ⟨_, rfl, d, _, rfl, by rw [← ev]; exact DGet.k (k := .inr road) hdk, ?_⟩
    have n1 := nn road (List.mem_of_mem_take (hw _ hrw))
    have n2 := nn half (List.mem_of_getElem? hhalf)
    have n3 := nn last (List.mem_of_getElem? hlast)
    have notin : ∀ (j : Nat) (x : Str), nm[j]? = some x → 3 + 2 * i ≤ j → x ∉ words o := fun j x hj hle z => by
      have h1 := hw x z
      obtain ⟨j', hj'⟩ := List.getElem?_of_mem h1
      have l1 : j' < 3 + 2 * i := by
        have := (List.getElem?_eq_some_iff.mp hj').1
        rw [List.length_take] at this
        omega
      rw [List.getElem?_take_of_lt l1] at hj'
      have := nodup_idx nd hj hj'
      omega
    have hh := notin _ _ hhalf (Nat.le_refl _)
    have hla := notin _ _ hlast (by omega)
    have d1 : half ≠ road := fun z => hh (z ▸ hrw)
    have d2 : last ≠ road := fun z => hla (z ▸ hrw)
    have d3 : last ≠ half := fun z => by
      have := nodup_idx nd hhalf (z ▸ hlast)
      omega
    have tk : ∀ x, x ∈ nm.take (3 + 2 * i) → x ∈ nm.take (3 + 2 * (i + 1)) := fun x hx => by
      rw [show 3 + 2 * (i + 1) = (3 + 2 * i) + 2 by omega, List.take_add]
      exact List.mem_append_left _ hx
    have mh : half ∈ nm.take (3 + 2 * (i + 1)) := List.mem_of_getElem? (i := 3 + 2 * i) (by rw [List.getElem?_take_of_lt (by omega)]; exact hhalf)
    have ml : last ∈ nm.take (3 + 2 * (i + 1)) := List.mem_of_getElem? (i := 3 + 2 * i + 1) (by rw [List.getElem?_take_of_lt (by omega)]; exact hlast)
    refine ⟨_, rfl, rfl, _, rfl, ?_⟩
    by_cases c2 : (words o).count road = 2
    · rw [decide_eq_true (show V.int ((words o).count road : Nat) = V.int 2 by rw [c2]; rfl)]
      have l3 : ∀ {a b : Str} {t : Int} {l : Rows}, (∀ r ∈ l, r.length = 3) → ∀ r ∈ putRows a b t l, r.length = 3 := fun h r hr => by
        obtain ⟨r', h1, t', rfl⟩ := puts_back hr
        rw [putRow_len]
        exact h r' h1
      refine ⟨_, rfl, _, rfl, ?_⟩
      refine ⟨_, _, _, _, rfl, GP, o, road, "?", 1, goQ.h, hoP.l, rfl, rfl, rfl, by omega, o3, fun vA GA HA goA hA => ?_⟩
      have goA' := goQ.call goA
      refine ⟨_, rfl, _, rfl, ?_⟩
      refine ⟨_, _, _, _, rfl, GA, _, road, half, 1, goA'.h, hA.l, rfl, rfl, rfl, by rw [putRows_len]; omega, l3 o3, fun vB GB HB goB hB => ?_⟩
      have goB' := goA'.call goB
      refine ⟨_, rfl, _, rfl, ?_⟩
      refine ⟨_, _, _, _, rfl, GB, _, "?", road, 1, goB'.h, hB.l, rfl, rfl, rfl, by rw [putRows_len, putRows_len]; omega, l3 (l3 o3), fun vS GS HS goS0 hS => ?_⟩
      have goS := goB'.call goS0
      have PS := ((PQ.go goA (by simp)).go goB (by simp)).go goS0 (by simp)
      have hps9 := goS0.g _ _ (goB.g _ _ (goA.g _ _ hps9))
      have WB := wb_split wo c2 n1 n2 n3 d1 d2 d3 hh hla
      have sl3 : (putRows "?" road 1 (putRows road half 1 (putRows road "?" 1 o))).length = 1 + i := by rw [putRows_len, putRows_len, putRows_len]; exact lo
      have WS : ∀ u ∈ (putRows "?" road 1 (putRows road half 1 (putRows road "?" 1 o))).flatten, u ∈ nm.take (3 + 2 * (i + 1)) := fun u hu => by
        obtain ⟨q1, hq1, hu1⟩ := List.mem_flatten.mp hu
        have un : isName u = true := (WB.rows q1 (List.mem_append_left _ hq1)).names u hu1
        obtain ⟨b, hb, t1, rfl⟩ := puts_back hq1
        obtain ⟨a', ha', t2, rfl⟩ := puts_back hb
        obtain ⟨r, hr, t3, rfl⟩ := puts_back ha'
        rcases put_in hu1 with k | k
        · rcases put_in k with k | k
          · rcases put_in k with k | k
            · exact tk _ (hw _ (List.mem_flatten.mpr ⟨r, hr, k⟩))
            · rw [k] at un
              exact absurd un (by decide +kernel)
          · rw [k]; exact mh
        · rw [k]; exact tk _ (hw _ hrw)
      refine ⟨_, rfl, _, rfl, _, rfl, _, rfl, (show (3:Nat) ≤ sizeLine by decide), fun pt hpt => ?_⟩
      have goT := goS.new (o := .tup ([road, half, last].map V.str)) hpt
      have sT := same_upd (o := .tup ([road, half, last].map V.str)) (goS.gnone hpt)
      refine ⟨(show (1:Nat) ≤ sizeLine by decide), fun pl hpl => ?_⟩
      have goL := goT.tmp (o := .lst [.ref pt]) hpl
      obtain ⟨sl, su, rfl, hsl, psl⟩ := hS
      have hsl2 := goT.h _ _ (sT _ _ hsl)
      have lsu := pLen psl
      refine ⟨sl, pl, su, [.ref pt], rfl, rfl, (upd_ne (ne_of_none hsl2 hpl)).trans hsl2, upd_same, Nat.le_trans (m := 100) (by rw [List.length_singleton]; omega) (by decide), fun lf hlf => ?_⟩
      have goF := goL.new (o := .lst (su ++ [.ref pt])) hlf
      have sF := same_upd (o := .lst (su ++ [.ref pt])) (goL.gnone hlf)
      refine ⟨.ref lf, ps, _, _, _, _, _, rfl, _, _, goF, ((PS.up (same_upd hpt)).up (same_upd hpl)).up (same_upd hlf), ⟨lf, _, rfl, upd_same, pSnoc (L2.Paired.mapP psl fun _ _ z => Mo.up (sT.trans sF) z) (Mo.up sF (rTs.mpr ⟨pt, rfl, SqT.of upd_same⟩))⟩, sF _ _ (sT _ _ hps9), WB, by rw [List.length_append, List.length_singleton]; omega, fun u hu => ?_⟩
      rw [words, List.flatten_append, List.mem_append] at hu
      rcases hu with hu | hu
      · exact WS u hu
      · simp only [List.flatten_cons, List.flatten_nil, List.append_nil, List.mem_cons, List.not_mem_nil, or_false] at hu
        rcases hu with rfl | rfl | rfl
        · exact tk _ (hw _ hrw)
        · exact mh
        · exact ml
    · rw [decide_eq_false (show ¬ V.int ((words o).count road : Nat) = V.int 2 from fun z => c2 (by have := V.int.inj z; omega))]
      have c1 : (words o).count road = 1 := by
        have h1 := List.count_pos_iff.mpr hrw
        have h2 : (words o).count road ≤ 2 := wo.twice road
        omega
      have WB := wb_end wo c1 n1 n2 n3 d1 d2 d3 hh hla
      have goS := goQ
      have PS := PQ
      have hS := hoP
      have sl3 := lo
      have WS : ∀ u ∈ o.flatten, u ∈ nm.take (3 + 2 * (i + 1)) := fun u hu => tk _ (hw _ hu)
      refine ⟨_, rfl, _, rfl, _, rfl, _, rfl, (show (3:Nat) ≤ sizeLine by decide), fun pt hpt => ?_⟩
      have goT := goS.new (o := .tup ([road, half, last].map V.str)) hpt
      have sT := same_upd (o := .tup ([road, half, last].map V.str)) (goS.gnone hpt)
      refine ⟨(show (1:Nat) ≤ sizeLine by decide), fun pl hpl => ?_⟩
      have goL := goT.tmp (o := .lst [.ref pt]) hpl
      obtain ⟨sl, su, rfl, hsl, psl⟩ := hS
      have hsl2 := goT.h _ _ (sT _ _ hsl)
      have lsu := pLen psl
      refine ⟨sl, pl, su, [.ref pt], rfl, rfl, (upd_ne (ne_of_none hsl2 hpl)).trans hsl2, upd_same, Nat.le_trans (m := 100) (by rw [List.length_singleton]; omega) (by decide), fun lf hlf => ?_⟩
      have goF := goL.new (o := .lst (su ++ [.ref pt])) hlf
      have sF := same_upd (o := .lst (su ++ [.ref pt])) (goL.gnone hlf)
      refine ⟨.ref lf, ps, _, _, _, _, _, rfl, _, _, goF, ((PS.up (same_upd hpt)).up (same_upd hpl)).up (same_upd hlf), ⟨lf, _, rfl, upd_same, pSnoc (L2.Paired.mapP psl fun _ _ z => Mo.up (sT.trans sF) z) (Mo.up sF (rTs.mpr ⟨pt, rfl, SqT.of upd_same⟩))⟩, sF _ _ (sT _ _ hps9), WB, by rw [List.length_append, List.length_singleton]; omega, fun u hu => ?_⟩
      rw [words, List.flatten_append, List.mem_append] at hu
      rcases hu with hu | hu
      · exact WS u hu
      · simp only [List.flatten_cons, List.flatten_nil, List.append_nil, List.mem_cons, List.not_mem_nil, or_false] at hu
        rcases hu with rfl | rfl | rfl
        · exact tk _ (hw _ hrw)
        · exact mh
        · exact ml
  · rintro σ H6 ⟨vo, vs, x5, x6, x7, x8, x9, rfl, G6, o, go6, P6, ho, hvs, wo, lo, _⟩
    refine ⟨_, rfl, ?_⟩
    rw [show 3 + (m - 3) = m by omega] at wo
    exact q o wo (by omega) _ _ _ go6 (P6.le (by omega)) ho
end
end Tc
namespace Tc
open PySem PySem.Spec PyProof.Rows L2 Fw Mw TL
local macro_rules | `(tactic| wtm_at "z_ne") => `(tactic| first | assumption | (apply Ne.symm; assumption) | omega)
local macro_rules | `(tactic| wtm_at "z_hp") => `(tactic| first | assumption | exact upd_same | (refine (upd_ne ?_).trans ?_; (focus wtm_at "z_ne"); wtm_at "z_hp"))
local macro_rules | `(tactic| wtm_at "z_sq") => `(tactic| first | assumption | (exact .inl (.inl (by wtm_at "z_hp"))))
local macro_rules | `(tactic| wtm_at "z_side") => `(tactic| first | assumption | omega | (simp only []; omega) | exact ⟨by omega, by omega⟩ | exact ⟨by omega, by omega, by omega⟩ | exact .inl ⟨by omega, by omega⟩ | exact .inr ⟨by omega, by omega⟩ | decide)
local macro_rules | `(tactic| wtm_at "z") => `(tactic| first
  | refine ⟨_, rfl, ?_⟩
  | refine ⟨_, _, rfl, rfl, ?_⟩
  | refine And.intro (by wtm_at "z_side") ?_
  | refine .inl ⟨_, rfl, ?_⟩
  | refine ⟨_, _, _, _, rfl, rfl, (by wtm_at "z_sq"), (by first | rfl | assumption), ?_⟩
  | refine ⟨_, _, _, _, rfl, rfl, (by wtm_at "z_hp"), (by first | rfl | assumption), ?_⟩)
local macro_rules | `(tactic| wtm_at "zb") => `(tactic| dsimp only [L2.tCB, L2.tCons, L2.tNil, L2.tC])
section
variable {P : Program} {w : World} {K : PySem.W.Frag} {mg : Str → Option Value} {base : Heap} {CW : Addr}
theorem ok_law_web_drawn (F : FunAt K mg "_law_web_drawn" s_law_web_drawn ["pot", "ends", "rounds"]) (T : Txt K mg CW) (C_law_web_tree : Cal P w K mg base CX0 "_law_web_tree" 3 ["pot", "names", "ends"] [] (sp_law_web_tree K CW)) (C_law_web_names : Cal P w K mg base CX0 "_law_web_names" 3 ["pot", "many"] [] (sp_law_web_names K CW)) (C_law_some : Cal P w K mg base CX0 "_law_some" 2 ["pot", "pool", "many"] [] (sp_law_some K CW)) (C_law_web_ends : Cal P w K mg base CX0 "_law_web_ends" 2 ["own"] [] (sp_law_web_ends K CW)) (C_law_web_put : Cal P w K mg base CX0 "_law_web_put" 1 ["own", "old", "new", "times"] [] (sp_law_web_put K CW)) (C_law_web_turned : Cal P w K mg base CX0 "_law_web_turned" 3 ["pot", "own"] [] (sp_law_web_turned K CW)) : Cal P w K mg base CX0 "_law_web_drawn" 4 ["pot", "ends", "rounds"] [] (sp_law_web_drawn K CW) := by
  obtain ⟨f, fd, F, mgf, bf⟩ := F
  obtain ⟨f_law_web_tree, fd_law_web_tree, ds_law_web_tree, G_law_web_tree, m_law_web_tree, k_law_web_tree, b_law_web_tree, d_law_web_tree⟩ := C_law_web_tree
  obtain ⟨f_law_web_names, fd_law_web_names, ds_law_web_names, G_law_web_names, m_law_web_names, k_law_web_names, b_law_web_names, d_law_web_names⟩ := C_law_web_names
  obtain ⟨f_law_some, fd_law_some, ds_law_some, G_law_some, m_law_some, k_law_some, b_law_some, d_law_some⟩ := C_law_some
  obtain ⟨f_law_web_ends, fd_law_web_ends, ds_law_web_ends, G_law_web_ends, m_law_web_ends, k_law_web_ends, b_law_web_ends, d_law_web_ends⟩ := C_law_web_ends
  obtain ⟨f_law_web_put, fd_law_web_put, ds_law_web_put, G_law_web_put, m_law_web_put, k_law_web_put, b_law_web_put, d_law_web_put⟩ := C_law_web_put
  obtain ⟨f_law_web_turned, fd_law_web_turned, ds_law_web_turned, G_law_web_turned, m_law_web_turned, k_law_web_turned, b_law_web_turned, d_law_web_turned⟩ := C_law_web_turned
  refine ⟨f, fd, [], ?_, mgf, F.kp, bf, .nil⟩
  refine F.ok sc_law_web_drawn (fun vs H Q E h => by obtain ⟨_, _, _, rfl, _⟩ := h; rfl) (fun cdv A outer s H vs Q E hr h => ?_)
  refine ⟨_, (pss_cons (ps_set (i := 3) sc_law_web_drawn.nd rfl (.inl rfl) (pe_op op_add (pv 1) (pe_op op_mul pe_int (pv 2))))
      (pss_cons (ps_set (i := 4) sc_law_web_drawn.nd rfl (.inl rfl) (pe_call G_law_web_tree (hr.mono (by decide)) (by rfl) m_law_web_tree k_law_web_tree b_law_web_tree d_law_web_tree pass0 (pa_cons (pv 0) (pa_cons (pe_call G_law_web_names (hr.mono (by decide)) (by rfl) m_law_web_names k_law_web_names b_law_web_names d_law_web_names pass0 (pa_cons (pv 0) (pa_cons (pe_op op_sub (pe_op op_mul pe_int (pv 3)) pe_int) pa_nil))) (pa_cons (pv 3) pa_nil)))))
      (pss_cons (ps_for PassesOwn.never rfl (pi_range1 (by rfl) T.z_range (pa_cons (pv 2) pa_nil)) (pg_name (i := 5) sc_law_web_drawn.nd rfl (.inl rfl)) (pss_cons (ps_asg (pe_call G_law_some (hr.mono (by decide)) (by rfl) m_law_some k_law_some b_law_some d_law_some pass0 (pa_cons (pv 0) (pa_cons (pe_call G_law_web_ends (hr.mono (by decide)) (by rfl) m_law_web_ends k_law_web_ends b_law_web_ends d_law_web_ends pass0 (pa_cons (pv 4) pa_nil)) (pa_cons pe_int pa_nil)))) (pg_unlK (n := 2) K rfl rfl (pgs_cons (pg_name (i := 6) sc_law_web_drawn.nd rfl (.inl rfl)) (pgs_cons (pg_name (i := 7) sc_law_web_drawn.nd rfl (.inl rfl)) pgs_nil))))
      (pss_one (ps_set (i := 4) sc_law_web_drawn.nd rfl (.inl rfl) (pe_call G_law_web_put (hr.mono (by decide)) (by rfl) m_law_web_put k_law_web_put b_law_web_put d_law_web_put pass0 (pa_cons (pv 4) (pa_cons (pv 7) (pa_cons (pv 6) (pa_cons pe_int pa_nil)))))))))
      (pss_one (ps_ret (pe_call G_law_web_turned (hr.mono (by decide)) (by rfl) m_law_web_turned k_law_web_turned b_law_web_turned d_law_web_turned pass0 (pa_cons (pv 0) (pa_cons (pv 4) pa_nil)))))))), ?_⟩
  obtain ⟨x0, x1, x2, rfl, h⟩ := h
  obtain ⟨p, n, G, e, r, hG, gp, rfl, rfl, rfl, h3, h14, hP, q⟩ := h
  have hpn := hP.some
  refine ⟨_, rfl, ?_⟩
  refine ⟨_, rfl, ?_⟩
  refine ⟨_, _, rfl, rfl, .inl ⟨by decide, by decide⟩, ?_⟩
  refine ⟨_, _, rfl, rfl, ?_⟩
  obtain ⟨m, hm, em⟩ : ∃ m : Nat, (e : Int) + 2 * (r : Int) = m ∧ m = e + 2 * r := ⟨e + 2 * r, by omega, rfl⟩
  dsimp only [L2.tCB]
  rw [hm]
  refine ⟨_, rfl, ?_⟩
  refine ⟨_, rfl, ?_⟩
  refine ⟨_, rfl, ?_⟩
  refine ⟨_, _, rfl, rfl, .inl ⟨by decide, by decide⟩, ?_⟩
  refine ⟨_, _, rfl, rfl, ?_⟩
  refine ⟨_, _, rfl, p, n + 160, G, 2 * m - 3, hG, gp, rfl, congrArg V.int (by omega), by omega, hP.le (by omega), fun nm nd nl nn v1 G1 H1 go1 P1 hv1 => ?_⟩
  refine ⟨_, rfl, ?_⟩
  wtm_at "zb"
  have gp1 := go1.n p hpn gp
  refine ⟨_, _, _, rfl, p, n + 120, G1, nm, m, go1.h, gp1, rfl, hv1, rfl, by omega, by omega, nl, nd, nn, P1.le (by omega), fun own w ol v2 G2 H2 go2 P2 hv2 => ?_⟩
  have go2' := go1.trans go2
  refine ⟨_, rfl, ?_⟩
  wtm_at "zb"
  refine ⟨_, rfl, by omega, by omega, ?_⟩
  rw [Int.toNat_natCast]
  have wlen : ∀ o : Rows, (∀ x ∈ o, RowOk x) → o.length + 2 = m → (words o).length ≤ 60 := fun o ho hl => by
    have h1 := flat_len o fun x hx => (ho x hx).len
    have h2 : (words o).length = 3 * o.length := h1
    omega
  refine for_it (D := { nx := tRet (tCall (sp_law_web_turned K CW) [] E0 (tCons (tVar 0) (tCons (tVar 4) tNil))) { nx := fun _ H' => Q .non H', rt := Q }, rt := Q }) (walk_range (lo := 0) (n := r)) (fun i σ H' => ∃ v x5 x6 x7, σ = [some (.ref p), some (.int e), some (.int r), some (.int m), some v, x5, x6, x7] ∧ ∃ G' o, Go [p] G H G' H' ∧ Pot (n + 120 - 2 * i) p H' ∧ rH (rT K rS) G' v o ∧ Wb o (e + 2 * (r - i)) ∧ o.length + 2 = m) ⟨v2, _, _, _, rfl, G2, own, go2', P2, hv2, by rw [Nat.sub_zero, ← em]; exact w, ol⟩ (fun _ _ _ _ _ => trivial) ?_ ?_
  · rintro i x σ H3 H4 hi ⟨v, x5, x6, x7, rfl, G3, o, go3, P3, hv, wo, lo⟩ ⟨rfl, ex⟩
    have gp3 := go3.n p hpn gp
    refine ⟨_, rfl, ?_⟩
    refine ⟨_, rfl, ?_⟩
    refine ⟨_, rfl, G3, o, go3.h, hv.l, wlen o wo.rows lo, fun ve G5 H5 go5 hve => ?_⟩
    obtain ⟨le, us, rfl, hle, ple⟩ := hve
    obtain rfl := pS ple
    have go5' := go3.call go5
    have gp5 := go5'.n p hpn gp
    have P5 := P3.go go5 (by simp)
    have le2 : 2 ≤ (endsOf o).length := by rw [wo.ends]; omega
    have leu : (endsOf o).length ≤ 60 := by rw [wo.ends]; omega
    refine ⟨_, _, _, rfl, p, n + 120 - 2 * (i + 1), le, (endsOf o).map V.str, 2, G5, go5'.h, gp5, rfl, rfl, rfl, .inl (SqL.of hle), by rw [List.length_map]; exact le2, by rw [List.length_map]; omega, P5.le (by omega), fun ys l G6 H6 go6 P6 hl6 ly ⟨zs, pm⟩ => ?_⟩
    obtain ⟨al, eal, pal⟩ := perm_map pm
    obtain ⟨nm2, zm, rfl, rfl, rfl⟩ := List.map_eq_append_iff.mp eal.symm
    have go6' := go5'.trans go6
    have gp6 := go6'.n p hpn gp
    rw [List.length_map] at ly
    match nm2, ly, hl6, pal with
    | [one, other], _, hl6, pal =>
      have nde : (endsOf o).Nodup := (nodup_roads o).filter _
      have ndp := pal.nodup_iff.mpr nde
      have hne : one ≠ other := fun z => by
        subst z
        simp at ndp
      have m1 : one ∈ endsOf o := pal.mem_iff.mp (by simp)
      have m2 : other ∈ endsOf o := pal.mem_iff.mp (by simp)
      refine ⟨l, [.str one, .str other], rfl, SqL.of (go6.h _ _ hl6), rfl, _, _, rfl, _, _, rfl, rfl, ?_⟩
      refine ⟨_, rfl, _, rfl, _, rfl, ?_⟩
      refine ⟨_, _, _, _, rfl, G6, o, other, one, 1, go6'.h, (Mo.up (go5.g.trans go6.g) hv).l, rfl, rfl, rfl, by omega, fun x hx => (wo.rows x hx).len, fun v7 G7 H7 go7 hv7 => ?_⟩
      refine ⟨v7, _, _, _, rfl, G7, _, go6'.call go7, P6.go go7 (by simp), hv7, wb_join ?_ m1 m2 hne, by rw [putRows_len]; exact lo⟩
      rw [show e + 2 * (r - (i + 1)) + 2 = e + 2 * (r - i) by omega]
      exact wo
  · rintro σ H3 ⟨v, x5, x6, x7, rfl, G3, o, go3, P3, hv, wo, lo⟩
    have gp3 := go3.n p hpn gp
    refine ⟨_, rfl, _, rfl, ?_⟩
    refine ⟨_, _, rfl, p, n, G3, o, go3.h, gp3, rfl, hv.l, fun x hx => (wo.rows x hx).len, by omega, P3.le (by omega), fun js tn v8 G8 H8 go8 P8 hv8 => ?_⟩
    rw [Nat.sub_self, Nat.mul_zero, Nat.add_zero] at wo
    have jl := tn.length
    exact q js (wb_turn tn wo) (by omega) _ _ _ (go3.trans go8) P8 hv8
end
end Tc
namespace Tc
open PySem PySem.Spec PyProof.Rows L2 Fw Mw TL
local macro_rules | `(tactic| wtm_at "z_ne") => `(tactic| first | assumption | (apply Ne.symm; assumption) | omega)
local macro_rules | `(tactic| wtm_at "z_hp") => `(tactic| first | assumption | exact upd_same | (refine (upd_ne ?_).trans ?_; (focus wtm_at "z_ne"); wtm_at "z_hp"))
local macro_rules | `(tactic| wtm_at "z_sq") => `(tactic| first | assumption | (exact .inl (.inl (by wtm_at "z_hp"))))
local macro_rules | `(tactic| wtm_at "z_side") => `(tactic| first | assumption | omega | (simp only []; omega) | exact ⟨by omega, by omega⟩ | exact ⟨by omega, by omega, by omega⟩ | exact .inl ⟨by omega, by omega⟩ | exact .inr ⟨by omega, by omega⟩ | decide)
local macro_rules | `(tactic| wtm_at "z") => `(tactic| first
  | refine ⟨_, rfl, ?_⟩
  | refine ⟨_, _, rfl, rfl, ?_⟩
  | refine And.intro (by wtm_at "z_side") ?_
  | refine .inl ⟨_, rfl, ?_⟩
  | refine ⟨_, _, _, _, rfl, rfl, (by wtm_at "z_sq"), (by first | rfl | assumption), ?_⟩
  | refine ⟨_, _, _, _, rfl, rfl, (by wtm_at "z_hp"), (by first | rfl | assumption), ?_⟩)
local macro_rules | `(tactic| wtm_at "zb") => `(tactic| dsimp only [L2.tCB, L2.tCons, L2.tNil, L2.tC])
section
variable {P : Program} {w : World} {K : PySem.W.Frag} {mg : Str → Option Value} {base : Heap} {CW : Addr}
theorem ok_law_web_turned (F : FunAt K mg "_law_web_turned" s_law_web_turned ["pot", "own"]) (T : Txt K mg CW) (C_law_some : Cal P w K mg base CX0 "_law_some" 2 ["pot", "pool", "many"] [] (sp_law_some K CW)) : Cal P w K mg base CX0 "_law_web_turned" 3 ["pot", "own"] [] (sp_law_web_turned K CW) := by
  obtain ⟨f, fd, F, mgf, bf⟩ := F
  obtain ⟨f_law_some, fd_law_some, ds_law_some, G_law_some, m_law_some, k_law_some, b_law_some, d_law_some⟩ := C_law_some
  refine ⟨f, fd, [], ?_, mgf, F.kp, bf, .nil⟩
  refine F.ok sc_law_web_turned (fun vs H Q E h => by obtain ⟨_, _, rfl, _⟩ := h; rfl) (fun cdv A outer s H vs Q E hr h => ?_)
  refine ⟨_, (pss_one (ps_ret (pe_call G_law_some (hr.mono (by decide)) (by rfl) m_law_some k_law_some b_law_some d_law_some pass0 (pa_cons (pv 0) (pa_cons (pe_lc (own := [("row", 2)]) rfl sc_law_web_turned.nd (pi_listK K rfl (pv 1)) (blkOk_by (own := [("row", 2)]) (N := N_law_web_turned) (sc := defScope s_law_web_turned) (by decide +kernel)) (fun _ _ _ _ _ => (pg_name (i := 2) sc_law_web_turned.nd rfl (.inl rfl))) (fun _ _ _ _ _ => pts_nil) (fun _ _ _ _ _ => (pe_callTy (call_tuple_ofK K rfl) (by rfl) T.z_tuple (by decide +kernel) (pa_cons (pe_call G_law_some (hr.mono (by decide)) (by rfl) m_law_some k_law_some b_law_some d_law_some pass0 (pa_cons (pv 0) (pa_cons (pe_callTy (call_list_ofK K rfl) (by rfl) T.z_list (by decide +kernel) (pa_cons (pv 2) pa_nil)) (pa_cons pe_int pa_nil)))) pa_nil)))) (pa_cons (pe_callB (call_len_seqK K rfl) (by rfl) T.z_len (by decide +kernel) (pa_cons (pv 1) pa_nil)) pa_nil)))))), ?_⟩
  obtain ⟨x0, x1, rfl, h⟩ := h
  obtain ⟨p, n, G, own, hG, gp, rfl, hx, h3, hl, hP, q⟩ := h
  obtain ⟨a, ts, rfl, hs, hp⟩ := hx
  have hlen := pLen hp
  refine ⟨_, rfl, ?_⟩
  refine ⟨_, rfl, a, rfl, ⟨_, hG.seq hs⟩, fun D hD => ?_⟩
  have nDp : D ≠ p := fun z => hP.some (z ▸ hD)
  refine lc_data (r := rP K) (item := fun i x => ts[i]? = some x) (ys := own) (L := [p]) (G := G) (Inv := fun i H' => Pot (n + 4 * own.length - 3 * i) p H') (Gd := fun H' => Same G H') (by rw [← hlen]; exact walk_list.mono (fun H' e => Same.seq e hs) fun _ _ _ _ _ _ y => y) hG (fun _ e => e) hD (by simpa using nDp) (by omega) (fun _ => rfl) hP (fun i H' o h => ?_) (fun i x y G' H' hy hx go iv Q q => ?_) (fun us G' H' go iv hD' gD' pr => ?_)
  · obtain ⟨x1, x2, x3, y1, y2⟩ := h
    exact ⟨x1, x2, x3, (upd_ne (Ne.symm nDp)).trans y1, y2⟩
  · have hi := (List.getElem?_eq_some_iff.mp hy).1
    obtain ⟨r', hr2, b, us, rfl, hb, pb⟩ := pAt hp hx
    obtain rfl := Option.some.inj (hy.symm.trans hr2)
    obtain rfl := pS pb
    have hy3 := h3 y (List.mem_of_getElem? hy)
    have gp' := go.n p hP.some gp
    have hbH := seqT (go.g.trans go.h) hb
    refine ⟨_, rfl, ?_⟩
    refine ⟨_, rfl, ?_⟩
    refine ⟨b, _, rfl, .inr hbH, fun l hl' => ?_⟩
    have goN := (Go.refl (L := [p]) go.h).new (o := .lst (y.map V.str)) hl'
    have gpN := goN.n p iv.some gp'
    refine ⟨_, _, _, rfl, p, n + 4 * own.length - 3 * (i + 1), l, y.map V.str, 3, _, goN.h, gpN, rfl, rfl, rfl, .inl (SqL.of upd_same), by rw [List.length_map, hy3]; exact Nat.le_refl _, by rw [List.length_map, hy3]; decide, ?_, fun ys l2 G2 H2 go2 P2 hs2 ly ⟨zs, pm⟩ => ?_⟩
    · exact (iv.up (same_upd hl')).le (by omega)
    obtain ⟨r', rfl, pr'⟩ := perm_map (perm_full pm (by rw [ly, List.length_map, hy3]))
    refine ⟨l2, _, rfl, .inl ⟨go2.h.seq (SqL.of hs2), fun l3 hl3 => ?_⟩⟩
    exact q _ _ _ ((goN.trans go2).new hl3) (P2.up (same_upd hl3)) ⟨r', rTs.mpr ⟨l3, rfl, SqT.of upd_same⟩, pr'⟩
  · have gp' := go.n p hP.some gp
    refine ⟨_, rfl, ?_⟩
    wtm_at "zb"
    refine ⟨a, ts, rfl, .inl ((go.g.trans go.h).seq hs), ?_⟩
    have lus := pLen pr
    refine ⟨_, _, _, rfl, p, n, D, us, own.length, G', go.h, gp', rfl, rfl, by rw [hlen], .inl (SqL.of gD'), by omega, by omega, iv.le (by omega), fun ys l G2 H2 go2 P2 hs2 ly ⟨zs, pm⟩ => ?_⟩
    obtain ⟨js1, h1, h2⟩ := paired_two pr
    obtain ⟨js, h4, h5⟩ := paired_perm (perm_full pm (by omega)) h1
    exact q js ⟨js1, h2, h5⟩ _ _ _ (go.trans go2) P2 ⟨l, ys, rfl, SqL.of hs2, L2.Paired.mapP h4 fun _ _ z => Mo.up go2.g z⟩
end
end Tc
namespace Tc
open PySem PySem.Spec PyProof.Rows L2 Fw Mw TL
local macro_rules | `(tactic| wtm_at "z_ne") => `(tactic| first | assumption | (apply Ne.symm; assumption) | omega)
local macro_rules | `(tactic| wtm_at "z_hp") => `(tactic| first | assumption | exact upd_same | (refine (upd_ne ?_).trans ?_; (focus wtm_at "z_ne"); wtm_at "z_hp"))
local macro_rules | `(tactic| wtm_at "z_sq") => `(tactic| first | assumption | (exact .inl (.inl (by wtm_at "z_hp"))))
local macro_rules | `(tactic| wtm_at "z_side") => `(tactic| first | assumption | omega | (simp only []; omega) | exact ⟨by omega, by omega⟩ | exact ⟨by omega, by omega, by omega⟩ | exact .inl ⟨by omega, by omega⟩ | exact .inr ⟨by omega, by omega⟩ | decide)
local macro_rules | `(tactic| wtm_at "z") => `(tactic| first
  | refine ⟨_, rfl, ?_⟩
  | refine ⟨_, _, rfl, rfl, ?_⟩
  | refine And.intro (by wtm_at "z_side") ?_
  | refine .inl ⟨_, rfl, ?_⟩
  | refine ⟨_, _, _, _, rfl, rfl, (by wtm_at "z_sq"), (by first | rfl | assumption), ?_⟩
  | refine ⟨_, _, _, _, rfl, rfl, (by wtm_at "z_hp"), (by first | rfl | assumption), ?_⟩)
local macro_rules | `(tactic| wtm_at "zb") => `(tactic| dsimp only [L2.tCB, L2.tCons, L2.tNil, L2.tC])
section
variable {P : Program} {w : World} {K : PySem.W.Frag} {mg : Str → Option Value} {base : Heap} {CW : Addr}
theorem ok_law_flip_roads (F : FunAt K mg "_law_flip_roads" s_law_flip_roads ["own"]) (T : Txt K mg CW) (C_law_web_inner : Cal P w K mg base CX0 "_law_web_inner" 2 ["own"] [] (sp_law_web_inner K CW)) (C_law_web_at : Cal P w K mg base CX0 "_law_web_at" 1 ["own", "road"] [] (sp_law_web_at K CW)) : Cal P w K mg base CX0 "_law_flip_roads" 3 ["own"] [] (sp_law_flip_roads K CW) := by
  obtain ⟨f, fd, F, mgf, bf⟩ := F
  obtain ⟨f_law_web_inner, fd_law_web_inner, ds_law_web_inner, G_law_web_inner, m_law_web_inner, k_law_web_inner, b_law_web_inner, d_law_web_inner⟩ := C_law_web_inner
  obtain ⟨f_law_web_at, fd_law_web_at, ds_law_web_at, G_law_web_at, m_law_web_at, k_law_web_at, b_law_web_at, d_law_web_at⟩ := C_law_web_at
  refine ⟨f, fd, [], ?_, mgf, F.kp, bf, .nil⟩
  refine F.ok sc_law_flip_roads (fun vs H Q E h => by obtain ⟨_, rfl, _⟩ := h; rfl) (fun cdv A outer s H vs Q E hr h => ?_)
  refine ⟨_, (pss_one (ps_ret (pe_lc (own := [("name", 1)]) rfl sc_law_flip_roads.nd (pi_listK K rfl (pe_call G_law_web_inner (hr.mono (by decide)) (by rfl) m_law_web_inner k_law_web_inner b_law_web_inner d_law_web_inner pass0 (pa_cons (pv 0) pa_nil))) (blkOk_by (own := [("name", 1)]) (N := N_law_flip_roads) (sc := defScope s_law_flip_roads) (by decide +kernel)) (fun _ _ _ _ _ => (pg_name (i := 1) sc_law_flip_roads.nd rfl (.inl rfl))) (fun _ _ _ _ _ => (pts_one (pt_cmpR op_eq (Yo.pe_lenSetA K rfl rfl (by rfl) T.z_len (by rfl) T.z_set (pe_call G_law_web_at (hr.mono (by decide)) (by rfl) m_law_web_at k_law_web_at b_law_web_at d_law_web_at pass0 (pa_cons (pv 0) (pa_cons (pv 1) pa_nil)))) pe_int (nomark _)))) (fun _ _ _ _ _ => (pv 1))))), ?_⟩
  obtain ⟨x0, rfl, h⟩ := h
  obtain ⟨G, own, hG, hx, good, q⟩ := h
  have hm := good.most
  have wl : (words own).length ≤ 60 := by
    have h1 := flat_len own fun r hr => (good.rows r hr).len
    have h3 : (words own).length = 3 * own.length := h1
    omega
  have h3 : ∀ r ∈ own, r.length = 3 := fun r hr => (good.rows r hr).len
  refine ⟨_, rfl, ?_⟩
  refine ⟨_, rfl, G, own, hG, hx, wl, fun v G1 H1 go1 hv => ?_⟩
  obtain ⟨li, us, rfl, hli, pli⟩ := hv
  obtain rfl := pS pli
  have hl1 := go1.h _ _ hli
  refine ⟨li, rfl, ⟨_, SqL.of hl1⟩, fun D hD => ?_⟩
  refine lc_flat (walk_list.mono (fun H' e => SqL.of (e _ _ hl1)) fun _ _ _ _ _ _ y => y) (fun _ e => e) hD (fun j => decide ((sidesOf own ((innerOf own).getD j "")).length = 2)) (fun j => .str ((innerOf own).getD j "")) ?_ (fun _ => rfl) (fun j x hj' hx' => ⟨fun H2 ex Q q => ?_, fun _ => ?_⟩) (fun H2 sm e3 => ?_)
  · rw [List.length_map]
    have h1 : (innerOf own).length ≤ (roadsOf own).length := List.length_filter_le _ _
    have h2 : (roadsOf own).length ≤ (words own).length := by
      unfold roadsOf
      rw [(List.mergeSort_perm _ _).length_eq]
      exact Ys.len_putAll _
    omega
  · obtain ⟨z, hz, rfl⟩ := map_at hx'
    rw [getD_of hz] at q
    have hzi := List.mem_of_getElem? hz
    have c2 : own.flatten.count z = 2 := by
      have := (List.mem_filter.mp hzi).2
      exact of_decide_eq_true this
    refine ⟨_, rfl, _, rfl, ?_⟩
    refine ⟨_, _, rfl, G1, own, z, go1.h.trans ex, Mo.up go1.g hx, rfl, by omega, h3, fun v3 G3 H3 go3 hv3 => ?_⟩
    obtain ⟨l3, us3, rfl, hl3, pl3⟩ := hv3
    obtain rfl := pI pl3
    have len2 := ats_len_eq own z
    refine ⟨l3, _, rfl, SqL.of (go3.h _ _ hl3), by omega, rfl, _, rfl, ?_⟩
    rw [show decide (V.int ((firstMet (fun i => (atsOf own z).getD i 0) (atsOf own z).length).length : Nat) = V.int 2) = decide ((firstMet (fun i => (atsOf own z).getD i 0) (atsOf own z).length).length = 2) from dec_nat 2, show decide ((firstMet (fun i => (atsOf own z).getD i 0) (atsOf own z).length).length = 2) = decide ((sidesOf own z).length = 2) from decide_eq_decide.mpr (ats_two c2)]
    exact q H3 go3.all
  · obtain ⟨z, hz, rfl⟩ := map_at hx'
    rw [getD_of hz]
    exact fun H1 _ Q q => ⟨_, rfl, q H1 (Evl.Ex.refl H1)⟩
  rw [List.length_map, given_map (innerOf own) "" (fun z => decide ((sidesOf own z).length = 2)) V.str] at e3
  exact q _ _ _ ((go1.grow sm).frz (go1.fresh hD) e3 (go1.gnone hD)) ⟨D, _, rfl, upd_same, sP _⟩
end
end Tc
namespace Tc
open PySem PySem.Spec PyProof.Rows L2 Fw Mw TL
local macro_rules | `(tactic| wtm_at "z_ne") => `(tactic| first | assumption | (apply Ne.symm; assumption) | omega)
local macro_rules | `(tactic| wtm_at "z_hp") => `(tactic| first | assumption | exact upd_same | (refine (upd_ne ?_).trans ?_; (focus wtm_at "z_ne"); wtm_at "z_hp"))
local macro_rules | `(tactic| wtm_at "z_sq") => `(tactic| first | assumption | (exact .inl (.inl (by wtm_at "z_hp"))))
local macro_rules | `(tactic| wtm_at "z_side") => `(tactic| first | assumption | omega | (simp only []; omega) | exact ⟨by omega, by omega⟩ | exact ⟨by omega, by omega, by omega⟩ | exact .inl ⟨by omega, by omega⟩ | exact .inr ⟨by omega, by omega⟩ | decide)
local macro_rules | `(tactic| wtm_at "z") => `(tactic| first
  | refine ⟨_, rfl, ?_⟩
  | refine ⟨_, _, rfl, rfl, ?_⟩
  | refine And.intro (by wtm_at "z_side") ?_
  | refine .inl ⟨_, rfl, ?_⟩
  | refine ⟨_, _, _, _, rfl, rfl, (by wtm_at "z_sq"), (by first | rfl | assumption), ?_⟩
  | refine ⟨_, _, _, _, rfl, rfl, (by wtm_at "z_hp"), (by first | rfl | assumption), ?_⟩)
local macro_rules | `(tactic| wtm_at "zb") => `(tactic| dsimp only [L2.tCB, L2.tCons, L2.tNil, L2.tC])
section
variable {P : Program} {w : World} {K : PySem.W.Frag} {mg : Str → Option Value} {base : Heap} {CW : Addr}
theorem ok_law_flip_four (F : FunAt K mg "_law_flip_four" s_law_flip_four ["own", "road"]) (T : Txt K mg CW)  : Cal P w K mg base CX0 "_law_flip_four" 1 ["own", "road"] [] (sp_law_flip_four K CW) := by
  obtain ⟨f, fd, F, mgf, bf⟩ := F
  refine ⟨f, fd, [], ?_, mgf, F.kp, bf, .nil⟩
  refine F.ok sc_law_flip_four (fun vs H Q E h => by obtain ⟨_, _, rfl, _⟩ := h; rfl) (fun cdv A outer s H vs Q E hr h => ?_)
  refine ⟨_, (pss_cons (ps_set (i := 2) sc_law_flip_four.nd rfl (.inl rfl) (pe_lst pa_nil))
      (pss_cons (ps_for PassesOwn.never rfl (pi_listK K rfl (pv 0)) (pg_name (i := 3) sc_law_flip_four.nd rfl (.inl rfl)) (pss_one (ps_if (pt_cmpR (op_in_seqK K rfl) (pv 1) (pv 3) rfl) (pss_one (ps_expr (pe_bmK K rfl PySem.F.plainAttrs_list PySem.F.slot_list_extend PySem.F.type_list_extend mt_extend (pv 2) (pa_cons (pe_lc (own := [("name", 4)]) rfl sc_law_flip_four.nd (pi_tupK K rfl (pv 3)) (blkOk_by (own := [("name", 4)]) (N := N_law_flip_four) (sc := defScope s_law_flip_four) (by decide +kernel)) (fun _ _ _ _ _ => (pg_name (i := 4) sc_law_flip_four.nd rfl (.inl rfl))) (fun _ _ _ _ _ => (pts_one (pt_cmpR op_ne (pv 4) (pv 1) (nomark _)))) (fun _ _ _ _ _ => (pv 4))) pa_nil)))) pss_nil)))
      (pss_one (ps_ret (pe_callTy (call_tuple_ofK K rfl) (by rfl) T.z_tuple (by decide +kernel) (pa_cons (pv 2) pa_nil)))))), ?_⟩
  obtain ⟨x0, x1, rfl, h⟩ := h
  obtain ⟨G, own, z, i, j, a, b, c, d, hG, hx, rfl, hm, h3, F, q⟩ := h
  obtain ⟨ao, ts, rfl, hs, hp⟩ := hx
  have hlen := pLen hp
  refine ⟨(show (0:Nat) ≤ sizeLine by decide), fun l hl => ?_⟩
  have go0 := (Go.ref0 hG).tmp (o := .lst []) hl
  have hl0 : upd H l (.lst []) l = some (.lst []) := upd_same
  have gl : G l = none := hG.free hl
  generalize upd H l (.lst []) = H0 at go0 hl0 ⊢
  refine ⟨_, rfl, ao, rfl, ⟨_, go0.h.seq hs⟩, for_it walk_list (fun n σ H' => (∃ x3, σ = [some (.ref ao), some (.str z), some (.ref l), x3, none]) ∧ Go [] G H G H' ∧ H' l = some (.lst ((fourUp own z n).map V.str))) ⟨⟨_, rfl⟩, go0, hl0⟩ (fun i σ H' _ ⟨_, go, _⟩ => go.h.seq hs) ?_ ?_⟩
  · rintro n x σ H1 H2 hi ⟨⟨x3, rfl⟩, go, e1⟩ ⟨rfl, hx⟩
    obtain ⟨r, hr, b, us, rfl, hb, pb⟩ := pAt hp hx
    obtain rfl := pS pb
    have r3 := h3 r (List.mem_of_getElem? hr)
    have hb3 := seqT go.h hb
    refine ⟨_, rfl, _, rfl, b, _, rfl, .inr hb3, rfl, by rw [List.all_map]; exact List.all_eq_true.mpr fun _ _ => rfl, _, rfl, ?_⟩
    show if (inV (.str z) (r.map V.str)) = true then _ else _
    rw [inV_str]
    by_cases hz : z ∈ r
    · rw [decide_eq_true hz]
      refine iteT (B := True) ?_
      refine ⟨_, rfl, .inl ⟨rfl, _, SqL.of e1⟩, ?_⟩
      refine ⟨_, rfl, b, rfl, ⟨_, hb3⟩, fun D hD => ?_⟩
      refine lc_flat (walk_tup.mono (fun H' e => seqT e hb3) fun _ _ _ _ _ _ y => y) (fun _ e => e) hD (fun k => !decide (r.getD k "" = z)) (fun k => .str (r.getD k "")) (by rw [List.length_map]; omega) (fun _ => rfl) (fun k x hk hx => ⟨fun H2 _ Q q => ?_, fun _ => ?_⟩) (fun H2 sm e3 => ?_)
      · obtain ⟨t, ht, rfl⟩ := map_at hx
        rw [getD_of ht] at q
        refine ⟨_, rfl, _, rfl, rfl, _, rfl, ?_⟩
        rw [show decide (V.str t = V.str z) = decide (t = z) from by simp]
        exact q H2 (Evl.Ex.refl H2)
      · obtain ⟨t, ht, rfl⟩ := map_at hx
        rw [getD_of ht]
        exact fun H4 _ Q q => ⟨_, rfl, q H4 (Evl.Ex.refl H4)⟩
      have e4 : H2 D = some (.lst ((noZ z r).map V.str)) := by
        rw [List.length_map, given_map r "" (fun t => !decide (t = z)) V.str] at e3
        exact e3
      have al := fourUp_len h3 (z := z) n (by omega)
      have fl : (noZ z r).length ≤ r.length := List.length_filter_le _ _
      refine ⟨l, D, _, _, rfl, rfl, sm _ _ e1, e4, ?_, ?_⟩
      · simp only [List.length_map]
        exact Nat.le_trans (m := 1000) (by omega) (by decide)
      · refine ⟨⟨_, rfl⟩, (go.grow sm).mut gl (.inl hl), ?_⟩
        rw [upd_same, fourUp_succ hr, if_pos hz, List.map_append]
    · rw [decide_eq_false hz]
      refine iteF (A := True) ?_
      refine ⟨⟨_, rfl⟩, go, ?_⟩
      rw [fourUp_succ hr, if_neg hz, List.append_nil]
      exact e1
  · rintro σ H1 ⟨⟨x3, rfl⟩, go, e1⟩
    rw [hlen, fourUp_all F] at e1
    refine ⟨_, rfl, ?_⟩
    refine ⟨l, _, rfl, .inl ⟨SqL.of e1, fun t ht => ?_⟩⟩
    exact q _ _ _ (go.new ht) (rTs.mpr ⟨t, rfl, SqT.of upd_same⟩)
end
end Tc
namespace Tc
open PySem PySem.Spec PyProof.Rows L2 Fw Mw TL
local macro_rules | `(tactic| wtm_at "z_ne") => `(tactic| first | assumption | (apply Ne.symm; assumption) | omega)
local macro_rules | `(tactic| wtm_at "z_hp") => `(tactic| first | assumption | exact upd_same | (refine (upd_ne ?_).trans ?_; (focus wtm_at "z_ne"); wtm_at "z_hp"))
local macro_rules | `(tactic| wtm_at "z_sq") => `(tactic| first | assumption | (exact .inl (.inl (by wtm_at "z_hp"))))
local macro_rules | `(tactic| wtm_at "z_side") => `(tactic| first | assumption | omega | (simp only []; omega) | exact ⟨by omega, by omega⟩ | exact ⟨by omega, by omega, by omega⟩ | exact .inl ⟨by omega, by omega⟩ | exact .inr ⟨by omega, by omega⟩ | decide)
local macro_rules | `(tactic| wtm_at "z") => `(tactic| first
  | refine ⟨_, rfl, ?_⟩
  | refine ⟨_, _, rfl, rfl, ?_⟩
  | refine And.intro (by wtm_at "z_side") ?_
  | refine .inl ⟨_, rfl, ?_⟩
  | refine ⟨_, _, _, _, rfl, rfl, (by wtm_at "z_sq"), (by first | rfl | assumption), ?_⟩
  | refine ⟨_, _, _, _, rfl, rfl, (by wtm_at "z_hp"), (by first | rfl | assumption), ?_⟩)
local macro_rules | `(tactic| wtm_at "zb") => `(tactic| dsimp only [L2.tCB, L2.tCons, L2.tNil, L2.tC])
section
variable {P : Program} {w : World} {K : PySem.W.Frag} {mg : Str → Option Value} {base : Heap} {CW : Addr}
theorem ok_law_flip_web (F : FunAt K mg "_law_flip_web" s_law_flip_web ["own", "road", "way"]) (T : Txt K mg CW) (C_law_flip_four : Cal P w K mg base CX0 "_law_flip_four" 1 ["own", "road"] [] (sp_law_flip_four K CW)) : Cal P w K mg base CX0 "_law_flip_web" 2 ["own", "road", "way"] [] (sp_law_flip_web K CW) := by
  obtain ⟨f, fd, F, mgf, bf⟩ := F
  obtain ⟨f_law_flip_four, fd_law_flip_four, ds_law_flip_four, G_law_flip_four, m_law_flip_four, k_law_flip_four, b_law_flip_four, d_law_flip_four⟩ := C_law_flip_four
  refine ⟨f, fd, [], ?_, mgf, F.kp, bf, .nil⟩
  refine F.ok sc_law_flip_web (fun vs H Q E h => by obtain ⟨_, _, _, rfl, _⟩ := h; rfl) (fun cdv A outer s H vs Q E hr h => ?_)
  refine ⟨_, (pss_cons (ps_asg (pe_call G_law_flip_four (hr.mono (by decide)) (by rfl) m_law_flip_four k_law_flip_four b_law_flip_four d_law_flip_four pass0 (pa_cons (pv 0) (pa_cons (pv 1) pa_nil))) (pg_tupK (n := 4) K rfl rfl (pgs_cons (pg_name (i := 3) sc_law_flip_web.nd rfl (.inl rfl)) (pgs_cons (pg_name (i := 4) sc_law_flip_web.nd rfl (.inl rfl)) (pgs_cons (pg_name (i := 5) sc_law_flip_web.nd rfl (.inl rfl)) (pgs_cons (pg_name (i := 6) sc_law_flip_web.nd rfl (.inl rfl)) pgs_nil))))))
      (pss_cons (ps_set (i := 7) sc_law_flip_web.nd rfl (.inl rfl) (pe_ifExp (pt_cmpR op_eq (pv 2) pe_int (nomark _)) (pe_lst (pa_cons (pe_tup (pa_cons (pv 3) (pa_cons (pv 5) (pa_cons (pv 1) pa_nil)))) (pa_cons (pe_tup (pa_cons (pv 4) (pa_cons (pv 6) (pa_cons (pv 1) pa_nil)))) pa_nil))) (pe_lst (pa_cons (pe_tup (pa_cons (pv 3) (pa_cons (pv 6) (pa_cons (pv 1) pa_nil)))) (pa_cons (pe_tup (pa_cons (pv 5) (pa_cons (pv 4) (pa_cons (pv 1) pa_nil)))) pa_nil)))))
      (pss_cons (ps_set (i := 8) sc_law_flip_web.nd rfl (.inl rfl) (pe_lst pa_nil))
      (pss_cons (ps_for PassesOwn.never rfl (pi_listK K rfl (pv 0)) (pg_name (i := 9) sc_law_flip_web.nd rfl (.inl rfl)) (pss_one (ps_expr (pe_bmK K rfl PySem.F.plainAttrs_list PySem.F.slot_list_append PySem.F.type_list_append mt_append (pv 8) (pa_cons (pe_ifExp (pt_cmpR (op_in_seqK K rfl) (pv 1) (pv 9) rfl) (pe_bmK K rfl PySem.F.plainAttrs_list PySem.F.slot_list_pop PySem.F.type_list_pop mt_popAt (pv 7) (pa_cons pe_int pa_nil)) (pv 9)) pa_nil)))))
      (pss_one (ps_ret (pv 8))))))), ?_⟩
  obtain ⟨x0, x1, x2, rfl, h⟩ := h
  obtain ⟨G, own, z, k, i, j, a, b, c, d, hG, hx, rfl, rfl, hm, h3, F, q⟩ := h
  have hx0 := hx
  obtain ⟨ao, ts, rfl, hs, hp⟩ := hx
  have hlen := pLen hp
  refine ⟨_, rfl, _, rfl, ?_⟩
  refine ⟨_, _, rfl, G, own, z, i, j, a, b, c, d, hG, hx0, rfl, hm, h3, F, fun v G1 H1 go1 hv => ?_⟩
  obtain ⟨t4, rfl, h4⟩ := rTs.mp hv
  refine ⟨t4, _, rfl, seqT go1.h h4, rfl, ?_⟩
  refine ⟨_, _, rfl, _, _, rfl, _, _, rfl, _, _, rfl, rfl, ?_⟩
  refine ⟨_, rfl, rfl, _, rfl, ?_⟩
  by_cases hk : k = 1
  · rw [decide_eq_true (show V.int k = V.int 1 by rw [hk])]
    refine iteT (B := True) ?_
    refine ⟨_, rfl, _, rfl, _, rfl, (show (3:Nat) ≤ sizeLine by decide), fun p1 hp1 => ?_⟩
    refine ⟨_, rfl, _, rfl, _, rfl, (show (3:Nat) ≤ sizeLine by decide), fun p2 hp2 => ?_⟩
    refine ⟨(show (2:Nat) ≤ sizeLine by decide), fun l7 h7 => ?_⟩
    have go5 := go1.new (o := .tup [.str a, .str c, .str z]) hp1
    have go6 := go5.new (o := .tup [.str b, .str d, .str z]) hp2
    have go7 := go6.tmp (o := .lst [.ref p1, .ref p2]) h7
    have s5 := same_upd (o := .tup [.str a, .str c, .str z]) (go1.gnone hp1)
    have s6 := same_upd (o := .tup [.str b, .str d, .str z]) (go5.gnone hp2)
    have f1 : SqT K (upd (upd G1 p1 (.tup [.str a, .str c, .str z])) p2 (.tup [.str b, .str d, .str z])) p1 (([a, c, z] : List Str).map V.str) := SqT.of (s6 _ _ upd_same)
    have f2 : SqT K (upd (upd G1 p1 (.tup [.str a, .str c, .str z])) p2 (.tup [.str b, .str d, .str z])) p2 (([b, d, z] : List Str).map V.str) := SqT.of upd_same
    have e7 : upd (upd (upd H1 p1 (.tup [.str a, .str c, .str z])) p2 (.tup [.str b, .str d, .str z])) l7 (.lst [.ref p1, .ref p2]) l7 = some (.lst [.ref p1, .ref p2]) := upd_same
    have g7 : upd (upd G1 p1 (.tup [.str a, .str c, .str z])) p2 (.tup [.str b, .str d, .str z]) l7 = none := go6.gnone h7
    have n7 : H l7 = none := go6.fresh h7
    have s7 : Same G (upd (upd G1 p1 (.tup [.str a, .str c, .str z])) p2 (.tup [.str b, .str d, .str z])) := go1.g.trans (s5.trans s6)
    have w1 : flipI k z a b c d = ([a, c, z] : List Str) := if_pos hk
    have w2 : flipJ k z a b c d = ([b, d, z] : List Str) := if_pos hk
    rw [← w1] at f1
    rw [← w2] at f2
    generalize upd (upd G1 p1 (.tup [.str a, .str c, .str z])) p2 (.tup [.str b, .str d, .str z]) = G2 at go7 f1 f2 g7 s7
    generalize upd (upd (upd H1 p1 (.tup [.str a, .str c, .str z])) p2 (.tup [.str b, .str d, .str z])) l7 (.lst [.ref p1, .ref p2]) = H2 at go7 e7 ⊢
    refine ⟨(show (0:Nat) ≤ sizeLine by decide), fun l8 h8 => ?_⟩
    have n78 : l7 ≠ l8 := ne_of_none e7 h8
    have go8 := go7.tmp (o := .lst []) h8
    have e78 := (upd_ne (o := .lst []) n78).trans e7
    have g8 : G2 l8 = none := go7.gnone h8
    have n8 : H l8 = none := go7.fresh h8
    have e8 : upd H2 l8 (.lst []) l8 = some (.lst []) := upd_same
    generalize upd H2 l8 (.lst []) = H3 at go8 e78 e8 ⊢
    refine ⟨_, rfl, ao, rfl, ⟨_, (s7.trans go8.h).seq hs⟩, for_it walk_list (fun n σ H' => (∃ x9, σ = [some (.ref ao), some (.str z), some (.int k), some (.str a), some (.str b), some (.str c), some (.str d), some (.ref l7), some (.ref l8), x9]) ∧ ∃ us, Go [] G H G2 H' ∧ H' l7 = some (.lst ((if i < n then [] else [.ref p1]) ++ (if j < n then [] else [.ref p2]))) ∧ H' l8 = some (.lst us) ∧ Paired (rT K rS G2) us ((flipRows own i j k z a b c d).take n)) ⟨⟨_, rfl⟩, [], go8, e78, e8, .nil⟩ (fun n σ H' _ ⟨_, us, go, _⟩ => (s7.trans go.h).seq hs) ?_ ?_⟩
    · rintro n x σ H4 H5 hi ⟨⟨x9, rfl⟩, us, go, q7, q8, pr⟩ ⟨rfl, hx⟩
      obtain ⟨r, hr, rb, vs, rfl, hb, pb⟩ := pAt hp hx
      obtain rfl := pS pb
      have hnl := (List.getElem?_eq_some_iff.mp hr).1
      have lus : us.length = n := by rw [pLen pr, List.length_take, flip_len]; omega
      have hb3 := seqT (s7.trans go.h) hb
      refine ⟨_, rfl, .inl ⟨rfl, _, SqL.of q8⟩, ?_⟩
      refine ⟨_, rfl, _, rfl, rb, _, rfl, .inr hb3, rfl, by rw [List.all_map]; exact List.all_eq_true.mpr fun _ _ => rfl, _, rfl, ?_⟩
      show if (inV (.str z) (r.map V.str)) = true then _ else _
      rw [inV_str]
      obtain ⟨ri, e1, m1, f1'⟩ := F.hi
      obtain ⟨rj, e2, m2, f2'⟩ := F.hj
      have ltij := F.lt
      have fin : ∀ (y : V) (H6 : Hp), Go [] G H G2 H6 → H6 l7 = some (.lst ((if i < n + 1 then [] else [.ref p1]) ++ (if j < n + 1 then [] else [.ref p2]))) → H6 l8 = some (.lst us) → (∃ w, (flipRows own i j k z a b c d)[n]? = some w ∧ rT K rS G2 y w) → ∃ us', Go [] G H G2 (upd H6 l8 (.lst (us ++ [y]))) ∧ upd H6 l8 (.lst (us ++ [y])) l7 = some (.lst ((if i < n + 1 then [] else [.ref p1]) ++ (if j < n + 1 then [] else [.ref p2]))) ∧ upd H6 l8 (.lst (us ++ [y])) l8 = some (.lst us') ∧ Paired (rT K rS G2) us' ((flipRows own i j k z a b c d).take (n + 1)) := fun y H6 g6 a7 a8 ⟨w, hw, rw'⟩ =>
        ⟨us ++ [y], g6.mut g8 (.inl n8), (upd_ne n78).trans a7, upd_same, by rw [take_snoc hw]; exact pSnoc pr rw'⟩
      have small : us.length < sizeLine := Nat.lt_of_le_of_lt (m := 60) (by omega) (by decide)
      by_cases hz : z ∈ r
      · rw [decide_eq_true hz]
        refine iteT (B := True) ?_
        have hn : n = i ∨ n = j := by
          have : n ∈ sidesOf own z := mem_sides.mpr ⟨_, hr, hz⟩
          rw [F.sides] at this
          simpa using this
        refine ⟨_, rfl, .inl ⟨rfl, _, SqL.of q7⟩, ?_⟩
        rcases hn with rfl | rfl
        · rw [if_neg (Nat.lt_irrefl _), if_neg (by omega)] at q7
          refine ⟨l7, _, 0, 0, _, rfl, rfl, q7, by decide, by decide, rfl, rfl, ?_⟩
          obtain ⟨us', t1, t2, t3, t4⟩ := fin (.ref p1) (upd H5 l7 (.lst [.ref p2])) (go.mut g7 (.inl n7)) (by rw [upd_same, if_pos (by omega), if_neg (by omega)]; rfl) ((upd_ne (Ne.symm n78)).trans q8) ⟨_, flip_i F, rTs.mpr ⟨p1, rfl, f1⟩⟩
          exact ⟨l8, us, _, rfl, rfl, (upd_ne (Ne.symm n78)).trans q8, small, ⟨_, rfl⟩, us', t1, t2, t3, t4⟩
        · rw [if_pos (by omega), if_neg (Nat.lt_irrefl _)] at q7
          refine ⟨l7, _, 0, 0, _, rfl, rfl, q7, by decide, by decide, rfl, rfl, ?_⟩
          obtain ⟨us', t1, t2, t3, t4⟩ := fin (.ref p2) (upd H5 l7 (.lst [])) (go.mut g7 (.inl n7)) (by rw [upd_same, if_pos (by omega), if_pos (by omega)]; rfl) ((upd_ne (Ne.symm n78)).trans q8) ⟨_, flip_j F, rTs.mpr ⟨p2, rfl, f2⟩⟩
          exact ⟨l8, us, _, rfl, rfl, (upd_ne (Ne.symm n78)).trans q8, small, ⟨_, rfl⟩, us', t1, t2, t3, t4⟩
      · rw [decide_eq_false hz]
        refine iteF (A := True) ?_
        have n1 : n ≠ i := fun e => hz (by rw [e] at hr; rw [Option.some.inj (hr.symm.trans e1)]; exact m1)
        have n2 : n ≠ j := fun e => hz (by rw [e] at hr; rw [Option.some.inj (hr.symm.trans e2)]; exact m2)
        have c1 : (i < n) ↔ (i < n + 1) := by omega
        have c2 : (j < n) ↔ (j < n + 1) := by omega
        simp only [c1, c2] at q7
        obtain ⟨us', t1, t2, t3, t4⟩ := fin (.ref rb) H5 go q7 q8 ⟨r, by rw [flip_o n1 n2]; exact hr, rTs.mpr ⟨rb, rfl, seqT s7 hb⟩⟩
        exact ⟨_, rfl, l8, us, _, rfl, rfl, q8, small, ⟨_, rfl⟩, us', t1, t2, t3, t4⟩
    · rintro σ H4 ⟨⟨x9, rfl⟩, us, go, q7, q8, pr⟩
      rw [hlen, ← flip_len (js := own) (i := i) (j := j) (k := k) (z := z) (x := a) (y := b) (u := c) (v := d), List.take_length] at pr
      have s8 : Same G2 (upd G2 l8 (.lst us)) := same_upd g8
      exact ⟨_, rfl, q _ _ _ (go.frz n8 q8 g8) ⟨l8, us, rfl, upd_same, L2.Paired.mapP pr fun _ _ z => Mo.up s8 z⟩⟩
  · rw [decide_eq_false (show ¬ V.int k = V.int 1 from fun h => hk (V.int.inj h))]
    refine iteF (A := True) ?_
    refine ⟨_, rfl, _, rfl, _, rfl, (show (3:Nat) ≤ sizeLine by decide), fun p1 hp1 => ?_⟩
    refine ⟨_, rfl, _, rfl, _, rfl, (show (3:Nat) ≤ sizeLine by decide), fun p2 hp2 => ?_⟩
    refine ⟨(show (2:Nat) ≤ sizeLine by decide), fun l7 h7 => ?_⟩
    have go5 := go1.new (o := .tup [.str a, .str d, .str z]) hp1
    have go6 := go5.new (o := .tup [.str c, .str b, .str z]) hp2
    have go7 := go6.tmp (o := .lst [.ref p1, .ref p2]) h7
    have s5 := same_upd (o := .tup [.str a, .str d, .str z]) (go1.gnone hp1)
    have s6 := same_upd (o := .tup [.str c, .str b, .str z]) (go5.gnone hp2)
    have f1 : SqT K (upd (upd G1 p1 (.tup [.str a, .str d, .str z])) p2 (.tup [.str c, .str b, .str z])) p1 (([a, d, z] : List Str).map V.str) := SqT.of (s6 _ _ upd_same)
    have f2 : SqT K (upd (upd G1 p1 (.tup [.str a, .str d, .str z])) p2 (.tup [.str c, .str b, .str z])) p2 (([c, b, z] : List Str).map V.str) := SqT.of upd_same
    have e7 : upd (upd (upd H1 p1 (.tup [.str a, .str d, .str z])) p2 (.tup [.str c, .str b, .str z])) l7 (.lst [.ref p1, .ref p2]) l7 = some (.lst [.ref p1, .ref p2]) := upd_same
    have g7 : upd (upd G1 p1 (.tup [.str a, .str d, .str z])) p2 (.tup [.str c, .str b, .str z]) l7 = none := go6.gnone h7
    have n7 : H l7 = none := go6.fresh h7
    have s7 : Same G (upd (upd G1 p1 (.tup [.str a, .str d, .str z])) p2 (.tup [.str c, .str b, .str z])) := go1.g.trans (s5.trans s6)
    have w1 : flipI k z a b c d = ([a, d, z] : List Str) := if_neg hk
    have w2 : flipJ k z a b c d = ([c, b, z] : List Str) := if_neg hk
    rw [← w1] at f1
    rw [← w2] at f2
    generalize upd (upd G1 p1 (.tup [.str a, .str d, .str z])) p2 (.tup [.str c, .str b, .str z]) = G2 at go7 f1 f2 g7 s7
    generalize upd (upd (upd H1 p1 (.tup [.str a, .str d, .str z])) p2 (.tup [.str c, .str b, .str z])) l7 (.lst [.ref p1, .ref p2]) = H2 at go7 e7 ⊢
    refine ⟨(show (0:Nat) ≤ sizeLine by decide), fun l8 h8 => ?_⟩
    have n78 : l7 ≠ l8 := ne_of_none e7 h8
    have go8 := go7.tmp (o := .lst []) h8
    have e78 := (upd_ne (o := .lst []) n78).trans e7
    have g8 : G2 l8 = none := go7.gnone h8
    have n8 : H l8 = none := go7.fresh h8
    have e8 : upd H2 l8 (.lst []) l8 = some (.lst []) := upd_same
    generalize upd H2 l8 (.lst []) = H3 at go8 e78 e8 ⊢
    refine ⟨_, rfl, ao, rfl, ⟨_, (s7.trans go8.h).seq hs⟩, for_it walk_list (fun n σ H' => (∃ x9, σ = [some (.ref ao), some (.str z), some (.int k), some (.str a), some (.str b), some (.str c), some (.str d), some (.ref l7), some (.ref l8), x9]) ∧ ∃ us, Go [] G H G2 H' ∧ H' l7 = some (.lst ((if i < n then [] else [.ref p1]) ++ (if j < n then [] else [.ref p2]))) ∧ H' l8 = some (.lst us) ∧ Paired (rT K rS G2) us ((flipRows own i j k z a b c d).take n)) ⟨⟨_, rfl⟩, [], go8, e78, e8, .nil⟩ (fun n σ H' _ ⟨_, us, go, _⟩ => (s7.trans go.h).seq hs) ?_ ?_⟩
    · rintro n x σ H4 H5 hi ⟨⟨x9, rfl⟩, us, go, q7, q8, pr⟩ ⟨rfl, hx⟩
      obtain ⟨r, hr, rb, vs, rfl, hb, pb⟩ := pAt hp hx
      obtain rfl := pS pb
      have hnl := (List.getElem?_eq_some_iff.mp hr).1
      have lus : us.length = n := by rw [pLen pr, List.length_take, flip_len]; omega
      have hb3 := seqT (s7.trans go.h) hb
      refine ⟨_, rfl, .inl ⟨rfl, _, SqL.of q8⟩, ?_⟩
      refine ⟨_, rfl, _, rfl, rb, _, rfl, .inr hb3, rfl, by rw [List.all_map]; exact List.all_eq_true.mpr fun _ _ => rfl, _, rfl, ?_⟩
      show if (inV (.str z) (r.map V.str)) = true then _ else _
      rw [inV_str]
      obtain ⟨ri, e1, m1, f1'⟩ := F.hi
      obtain ⟨rj, e2, m2, f2'⟩ := F.hj
      have ltij := F.lt
      have fin : ∀ (y : V) (H6 : Hp), Go [] G H G2 H6 → H6 l7 = some (.lst ((if i < n + 1 then [] else [.ref p1]) ++ (if j < n + 1 then [] else [.ref p2]))) → H6 l8 = some (.lst us) → (∃ w, (flipRows own i j k z a b c d)[n]? = some w ∧ rT K rS G2 y w) → ∃ us', Go [] G H G2 (upd H6 l8 (.lst (us ++ [y]))) ∧ upd H6 l8 (.lst (us ++ [y])) l7 = some (.lst ((if i < n + 1 then [] else [.ref p1]) ++ (if j < n + 1 then [] else [.ref p2]))) ∧ upd H6 l8 (.lst (us ++ [y])) l8 = some (.lst us') ∧ Paired (rT K rS G2) us' ((flipRows own i j k z a b c d).take (n + 1)) := fun y H6 g6 a7 a8 ⟨w, hw, rw'⟩ =>
        ⟨us ++ [y], g6.mut g8 (.inl n8), (upd_ne n78).trans a7, upd_same, by rw [take_snoc hw]; exact pSnoc pr rw'⟩
      have small : us.length < sizeLine := Nat.lt_of_le_of_lt (m := 60) (by omega) (by decide)
      by_cases hz : z ∈ r
      · rw [decide_eq_true hz]
        refine iteT (B := True) ?_
        have hn : n = i ∨ n = j := by
          have : n ∈ sidesOf own z := mem_sides.mpr ⟨_, hr, hz⟩
          rw [F.sides] at this
          simpa using this
        refine ⟨_, rfl, .inl ⟨rfl, _, SqL.of q7⟩, ?_⟩
        rcases hn with rfl | rfl
        · rw [if_neg (Nat.lt_irrefl _), if_neg (by omega)] at q7
          refine ⟨l7, _, 0, 0, _, rfl, rfl, q7, by decide, by decide, rfl, rfl, ?_⟩
          obtain ⟨us', t1, t2, t3, t4⟩ := fin (.ref p1) (upd H5 l7 (.lst [.ref p2])) (go.mut g7 (.inl n7)) (by rw [upd_same, if_pos (by omega), if_neg (by omega)]; rfl) ((upd_ne (Ne.symm n78)).trans q8) ⟨_, flip_i F, rTs.mpr ⟨p1, rfl, f1⟩⟩
          exact ⟨l8, us, _, rfl, rfl, (upd_ne (Ne.symm n78)).trans q8, small, ⟨_, rfl⟩, us', t1, t2, t3, t4⟩
        · rw [if_pos (by omega), if_neg (Nat.lt_irrefl _)] at q7
          refine ⟨l7, _, 0, 0, _, rfl, rfl, q7, by decide, by decide, rfl, rfl, ?_⟩
          obtain ⟨us', t1, t2, t3, t4⟩ := fin (.ref p2) (upd H5 l7 (.lst [])) (go.mut g7 (.inl n7)) (by rw [upd_same, if_pos (by omega), if_pos (by omega)]; rfl) ((upd_ne (Ne.symm n78)).trans q8) ⟨_, flip_j F, rTs.mpr ⟨p2, rfl, f2⟩⟩
          exact ⟨l8, us, _, rfl, rfl, (upd_ne (Ne.symm n78)).trans q8, small, ⟨_, rfl⟩, us', t1, t2, t3, t4⟩
      · rw [decide_eq_false hz]
        refine iteF (A := True) ?_
        have n1 : n ≠ i := fun e => hz (by rw [e] at hr; rw [Option.some.inj (hr.symm.trans e1)]; exact m1)
        have n2 : n ≠ j := fun e => hz (by rw [e] at hr; rw [Option.some.inj (hr.symm.trans e2)]; exact m2)
        have c1 : (i < n) ↔ (i < n + 1) := by omega
        have c2 : (j < n) ↔ (j < n + 1) := by omega
        simp only [c1, c2] at q7
        obtain ⟨us', t1, t2, t3, t4⟩ := fin (.ref rb) H5 go q7 q8 ⟨r, by rw [flip_o n1 n2]; exact hr, rTs.mpr ⟨rb, rfl, seqT s7 hb⟩⟩
        exact ⟨_, rfl, l8, us, _, rfl, rfl, q8, small, ⟨_, rfl⟩, us', t1, t2, t3, t4⟩
    · rintro σ H4 ⟨⟨x9, rfl⟩, us, go, q7, q8, pr⟩
      rw [hlen, ← flip_len (js := own) (i := i) (j := j) (k := k) (z := z) (x := a) (y := b) (u := c) (v := d), List.take_length] at pr
      have s8 : Same G2 (upd G2 l8 (.lst us)) := same_upd g8
      exact ⟨_, rfl, q _ _ _ (go.frz n8 q8 g8) ⟨l8, us, rfl, upd_same, L2.Paired.mapP pr fun _ _ z => Mo.up s8 z⟩⟩
end
end Tc
namespace Tc
open PySem PySem.Spec PyProof.Rows L2 Fw Mw TL
local macro_rules | `(tactic| wtm_at "z_ne") => `(tactic| first | assumption | (apply Ne.symm; assumption) | omega)
local macro_rules | `(tactic| wtm_at "z_hp") => `(tactic| first | assumption | exact upd_same | (refine (upd_ne ?_).trans ?_; (focus wtm_at "z_ne"); wtm_at "z_hp"))
local macro_rules | `(tactic| wtm_at "z_sq") => `(tactic| first | assumption | (exact .inl (.inl (by wtm_at "z_hp"))))
local macro_rules | `(tactic| wtm_at "z_side") => `(tactic| first | assumption | omega | (simp only []; omega) | exact ⟨by omega, by omega⟩ | exact ⟨by omega, by omega, by omega⟩ | exact .inl ⟨by omega, by omega⟩ | exact .inr ⟨by omega, by omega⟩ | decide)
local macro_rules | `(tactic| wtm_at "z") => `(tactic| first
  | refine ⟨_, rfl, ?_⟩
  | refine ⟨_, _, rfl, rfl, ?_⟩
  | refine And.intro (by wtm_at "z_side") ?_
  | refine .inl ⟨_, rfl, ?_⟩
  | refine ⟨_, _, _, _, rfl, rfl, (by wtm_at "z_sq"), (by first | rfl | assumption), ?_⟩
  | refine ⟨_, _, _, _, rfl, rfl, (by wtm_at "z_hp"), (by first | rfl | assumption), ?_⟩)
local macro_rules | `(tactic| wtm_at "zb") => `(tactic| dsimp only [L2.tCB, L2.tCons, L2.tNil, L2.tC])
section
variable {P : Program} {w : World} {K : PySem.W.Frag} {mg : Str → Option Value} {base : Heap} {CW : Addr}
theorem ok_law_scene_web (F : FunAt K mg "_law_scene_web" s_law_scene_web ["pot", "most"]) (T : Txt K mg CW) (C_law_of : Cal P w K mg base CX0 "_law_of" 2 ["pot", "some"] [] (sp_law_of K CW)) (C_law_web_drawn : Cal P w K mg base CX0 "_law_web_drawn" 4 ["pot", "ends", "rounds"] [] (sp_law_web_drawn K CW)) : Cal P w K mg base CX0 "_law_scene_web" 5 ["pot", "most"] [] (sp_law_scene_web K CW) := by
  obtain ⟨f, fd, F, mgf, bf⟩ := F
  obtain ⟨f_law_of, fd_law_of, ds_law_of, G_law_of, m_law_of, k_law_of, b_law_of, d_law_of⟩ := C_law_of
  obtain ⟨f_law_web_drawn, fd_law_web_drawn, ds_law_web_drawn, G_law_web_drawn, m_law_web_drawn, k_law_web_drawn, b_law_web_drawn, d_law_web_drawn⟩ := C_law_web_drawn
  refine ⟨f, fd, [], ?_, mgf, F.kp, bf, .nil⟩
  refine F.ok sc_law_scene_web (fun vs H Q E h => by obtain ⟨_, _, rfl, _⟩ := h; rfl) (fun cdv A outer s H vs Q E hr h => ?_)
  refine ⟨_, (pss_cons (ps_set (i := 2) sc_law_scene_web.nd rfl (.inl rfl) (pe_lst (pa_cons (pe_tup (pa_cons pe_int (pa_cons pe_int pa_nil))) (pa_cons (pe_tup (pa_cons pe_int (pa_cons pe_int pa_nil))) (pa_cons (pe_tup (pa_cons pe_int (pa_cons pe_int pa_nil))) (pa_cons (pe_tup (pa_cons pe_int (pa_cons pe_int pa_nil))) (pa_cons (pe_tup (pa_cons pe_int (pa_cons pe_int pa_nil))) (pa_cons (pe_tup (pa_cons pe_int (pa_cons pe_int pa_nil))) (pa_cons (pe_tup (pa_cons pe_int (pa_cons pe_int pa_nil))) (pa_cons (pe_tup (pa_cons pe_int (pa_cons pe_int pa_nil))) (pa_cons (pe_tup (pa_cons pe_int (pa_cons pe_int pa_nil))) (pa_cons (pe_tup (pa_cons pe_int (pa_cons pe_int pa_nil))) (pa_cons (pe_tup (pa_cons pe_int (pa_cons pe_int pa_nil))) (pa_cons (pe_tup (pa_cons pe_int (pa_cons pe_int pa_nil))) pa_nil))))))))))))))
      (pss_cons (ps_set (i := 2) sc_law_scene_web.nd rfl (.inl rfl) (pe_op op_cat (pv 2) (pe_lst (pa_cons (pe_tup (pa_cons pe_int (pa_cons pe_int pa_nil))) (pa_cons (pe_tup (pa_cons pe_int (pa_cons pe_int pa_nil))) (pa_cons (pe_tup (pa_cons pe_int (pa_cons pe_int pa_nil))) (pa_cons (pe_tup (pa_cons pe_int (pa_cons pe_int pa_nil))) (pa_cons (pe_tup (pa_cons pe_int (pa_cons pe_int pa_nil))) pa_nil))))))))
      (pss_cons (ps_asg (pe_call G_law_of (hr.mono (by decide)) (by rfl) m_law_of k_law_of b_law_of d_law_of pass0 (pa_cons (pv 0) (pa_cons (pe_lc (own := [("row", 5)]) rfl sc_law_scene_web.nd (pi_listK K rfl (pv 2)) (blkOk_by (own := [("row", 5)]) (N := N_law_scene_web) (sc := defScope s_law_scene_web) (by decide +kernel)) (fun _ _ _ _ _ => (pg_name (i := 5) sc_law_scene_web.nd rfl (.inl rfl))) (fun _ _ _ _ _ => (pts_one (pt_cmpR op_le (pe_op op_sub (pe_op op_add (pe_ix (ix_tupK K rfl) (pv 5) pe_int (fun _ _ => rfl)) (pe_op op_mul pe_int (pe_ix (ix_tupK K rfl) (pv 5) pe_int (fun _ _ => rfl)))) pe_int) (pv 1) (nomark _)))) (fun _ _ _ _ _ => (pv 5))) pa_nil))) (pg_tupK (n := 2) K rfl rfl (pgs_cons (pg_name (i := 3) sc_law_scene_web.nd rfl (.inl rfl)) (pgs_cons (pg_name (i := 4) sc_law_scene_web.nd rfl (.inl rfl)) pgs_nil))))
      (pss_one (ps_ret (pe_call G_law_web_drawn (hr.mono (by decide)) (by rfl) m_law_web_drawn k_law_web_drawn b_law_web_drawn d_law_web_drawn pass0 (pa_cons (pv 0) (pa_cons (pv 3) (pa_cons (pv 4) pa_nil))))))))), ?_⟩
  obtain ⟨x0, x1, rfl, h⟩ := h
  obtain ⟨p, n, G, hG, gp, rfl, rfl, hP, q⟩ := h
  have go0 := Go.ref0 hG
  have s0 : Same G G := Same.refl G
  refine ⟨(show (2:Nat) ≤ sizeLine by decide), fun p1 hp1 => ?_⟩
  obtain ⟨G1, H1, eH, go1, s1, t1, f1⟩ := tup_step (K := K) (e := 4) (r := 0) go0 hp1
  rw [eH]
  clear eH
  refine ⟨(show (2:Nat) ≤ sizeLine by decide), fun p2 hp2 => ?_⟩
  obtain ⟨G2, H2, eH, go2, s2, t2, f2⟩ := tup_step (K := K) (e := 5) (r := 0) go1 hp2
  rw [eH]
  clear eH
  refine ⟨(show (2:Nat) ≤ sizeLine by decide), fun p3 hp3 => ?_⟩
  obtain ⟨G3, H3, eH, go3, s3, t3, f3⟩ := tup_step (K := K) (e := 6) (r := 0) go2 hp3
  rw [eH]
  clear eH
  refine ⟨(show (2:Nat) ≤ sizeLine by decide), fun p4 hp4 => ?_⟩
  obtain ⟨G4, H4, eH, go4, s4, t4, f4⟩ := tup_step (K := K) (e := 2) (r := 1) go3 hp4
  rw [eH]
  clear eH
  refine ⟨(show (2:Nat) ≤ sizeLine by decide), fun p5 hp5 => ?_⟩
  obtain ⟨G5, H5, eH, go5, s5, t5, f5⟩ := tup_step (K := K) (e := 3) (r := 1) go4 hp5
  rw [eH]
  clear eH
  refine ⟨(show (2:Nat) ≤ sizeLine by decide), fun p6 hp6 => ?_⟩
  obtain ⟨G6, H6, eH, go6, s6, t6, f6⟩ := tup_step (K := K) (e := 4) (r := 1) go5 hp6
  rw [eH]
  clear eH
  refine ⟨(show (2:Nat) ≤ sizeLine by decide), fun p7 hp7 => ?_⟩
  obtain ⟨G7, H7, eH, go7, s7, t7, f7⟩ := tup_step (K := K) (e := 0) (r := 2) go6 hp7
  rw [eH]
  clear eH
  refine ⟨(show (2:Nat) ≤ sizeLine by decide), fun p8 hp8 => ?_⟩
  obtain ⟨G8, H8, eH, go8, s8, t8, f8⟩ := tup_step (K := K) (e := 1) (r := 2) go7 hp8
  rw [eH]
  clear eH
  refine ⟨(show (2:Nat) ≤ sizeLine by decide), fun p9 hp9 => ?_⟩
  obtain ⟨G9, H9, eH, go9, s9, t9, f9⟩ := tup_step (K := K) (e := 2) (r := 2) go8 hp9
  rw [eH]
  clear eH
  refine ⟨(show (2:Nat) ≤ sizeLine by decide), fun p10 hp10 => ?_⟩
  obtain ⟨G10, H10, eH, go10, s10, t10, f10⟩ := tup_step (K := K) (e := 3) (r := 2) go9 hp10
  rw [eH]
  clear eH
  refine ⟨(show (2:Nat) ≤ sizeLine by decide), fun p11 hp11 => ?_⟩
  obtain ⟨G11, H11, eH, go11, s11, t11, f11⟩ := tup_step (K := K) (e := 0) (r := 3) go10 hp11
  rw [eH]
  clear eH
  refine ⟨(show (2:Nat) ≤ sizeLine by decide), fun p12 hp12 => ?_⟩
  obtain ⟨G12, H12, eH, go12, s12, t12, f12⟩ := tup_step (K := K) (e := 1) (r := 3) go11 hp12
  rw [eH]
  clear eH
  refine ⟨(show (12:Nat) ≤ sizeLine by decide), fun l1 hl1 => ?_⟩
  obtain ⟨G13, H13, eH, go13, s13, t13, f13, f13h⟩ := lst_step (xs := [.ref p1, .ref p2, .ref p3, .ref p4, .ref p5, .ref p6, .ref p7, .ref p8, .ref p9, .ref p10, .ref p11, .ref p12]) go12 hl1
  rw [eH]
  clear eH
  refine ⟨_, rfl, ?_⟩
  refine ⟨(show (2:Nat) ≤ sizeLine by decide), fun p14 hp14 => ?_⟩
  obtain ⟨G14, H14, eH, go14, s14, t14, f14⟩ := tup_step (K := K) (e := 2) (r := 3) go13 hp14
  rw [eH]
  clear eH
  refine ⟨(show (2:Nat) ≤ sizeLine by decide), fun p15 hp15 => ?_⟩
  obtain ⟨G15, H15, eH, go15, s15, t15, f15⟩ := tup_step (K := K) (e := 8) (r := 0) go14 hp15
  rw [eH]
  clear eH
  refine ⟨(show (2:Nat) ≤ sizeLine by decide), fun p16 hp16 => ?_⟩
  obtain ⟨G16, H16, eH, go16, s16, t16, f16⟩ := tup_step (K := K) (e := 4) (r := 2) go15 hp16
  rw [eH]
  clear eH
  refine ⟨(show (2:Nat) ≤ sizeLine by decide), fun p17 hp17 => ?_⟩
  obtain ⟨G17, H17, eH, go17, s17, t17, f17⟩ := tup_step (K := K) (e := 2) (r := 4) go16 hp17
  rw [eH]
  clear eH
  refine ⟨(show (2:Nat) ≤ sizeLine by decide), fun p18 hp18 => ?_⟩
  obtain ⟨G18, H18, eH, go18, s18, t18, f18⟩ := tup_step (K := K) (e := 10) (r := 0) go17 hp18
  rw [eH]
  clear eH
  refine ⟨(show (5:Nat) ≤ sizeLine by decide), fun l2 hl2 => ?_⟩
  obtain ⟨G19, H19, eH, go19, s19, t19, f19, f19h⟩ := lst_step (xs := [.ref p14, .ref p15, .ref p16, .ref p17, .ref p18]) go18 hl2
  rw [eH]
  clear eH
  have f13H : H19 l1 = some (.lst [.ref p1, .ref p2, .ref p3, .ref p4, .ref p5, .ref p6, .ref p7, .ref p8, .ref p9, .ref p10, .ref p11, .ref p12]) := go19.h _ _ ((s14.trans (s15.trans (s16.trans (s17.trans (s18.trans s19))))) _ _ f13)
  refine ⟨l1, l2, _, _, rfl, rfl, f13H, f19h, (show (17:Nat) ≤ sizeLine by decide), fun l3 hl3 => ?_⟩
  obtain ⟨G20, H20, eH, go20, s20, t20, f20, f20h⟩ := lst_step (xs := [.ref p1, .ref p2, .ref p3, .ref p4, .ref p5, .ref p6, .ref p7, .ref p8, .ref p9, .ref p10, .ref p11, .ref p12, .ref p14, .ref p15, .ref p16, .ref p17, .ref p18]) go19 hl3
  have eH2 : upd H19 l3 (.lst ([.ref p1, .ref p2, .ref p3, .ref p4, .ref p5, .ref p6, .ref p7, .ref p8, .ref p9, .ref p10, .ref p11, .ref p12] ++ [.ref p14, .ref p15, .ref p16, .ref p17, .ref p18])) = H20 := eH
  rw [eH2]
  clear eH eH2
  obtain ⟨ts, ets⟩ : ∃ ts : List V, ts = [.ref p1, .ref p2, .ref p3, .ref p4, .ref p5, .ref p6, .ref p7, .ref p8, .ref p9, .ref p10, .ref p11, .ref p12, .ref p14, .ref p15, .ref p16, .ref p17, .ref p18] := ⟨_, rfl⟩
  obtain ⟨xs, exs⟩ : ∃ xs : List (Int × Int), xs = [(4, 0), (5, 0), (6, 0), (2, 1), (3, 1), (4, 1), (0, 2), (1, 2), (2, 2), (3, 2), (0, 3), (1, 3), (2, 3), (8, 0), (4, 2), (2, 4), (10, 0)] := ⟨_, rfl⟩
  have pr : Paired (rP2 K G20) ts xs := by
    rw [ets, exs]
    exact (.cons ⟨p1, rfl, seqT (s2.trans (s3.trans (s4.trans (s5.trans (s6.trans (s7.trans (s8.trans (s9.trans (s10.trans (s11.trans (s12.trans (s13.trans (s14.trans (s15.trans (s16.trans (s17.trans (s18.trans (s19.trans s20)))))))))))))))))) f1⟩ (.cons ⟨p2, rfl, seqT (s3.trans (s4.trans (s5.trans (s6.trans (s7.trans (s8.trans (s9.trans (s10.trans (s11.trans (s12.trans (s13.trans (s14.trans (s15.trans (s16.trans (s17.trans (s18.trans (s19.trans s20))))))))))))))))) f2⟩ (.cons ⟨p3, rfl, seqT (s4.trans (s5.trans (s6.trans (s7.trans (s8.trans (s9.trans (s10.trans (s11.trans (s12.trans (s13.trans (s14.trans (s15.trans (s16.trans (s17.trans (s18.trans (s19.trans s20)))))))))))))))) f3⟩ (.cons ⟨p4, rfl, seqT (s5.trans (s6.trans (s7.trans (s8.trans (s9.trans (s10.trans (s11.trans (s12.trans (s13.trans (s14.trans (s15.trans (s16.trans (s17.trans (s18.trans (s19.trans s20))))))))))))))) f4⟩ (.cons ⟨p5, rfl, seqT (s6.trans (s7.trans (s8.trans (s9.trans (s10.trans (s11.trans (s12.trans (s13.trans (s14.trans (s15.trans (s16.trans (s17.trans (s18.trans (s19.trans s20)))))))))))))) f5⟩ (.cons ⟨p6, rfl, seqT (s7.trans (s8.trans (s9.trans (s10.trans (s11.trans (s12.trans (s13.trans (s14.trans (s15.trans (s16.trans (s17.trans (s18.trans (s19.trans s20))))))))))))) f6⟩ (.cons ⟨p7, rfl, seqT (s8.trans (s9.trans (s10.trans (s11.trans (s12.trans (s13.trans (s14.trans (s15.trans (s16.trans (s17.trans (s18.trans (s19.trans s20)))))))))))) f7⟩ (.cons ⟨p8, rfl, seqT (s9.trans (s10.trans (s11.trans (s12.trans (s13.trans (s14.trans (s15.trans (s16.trans (s17.trans (s18.trans (s19.trans s20))))))))))) f8⟩ (.cons ⟨p9, rfl, seqT (s10.trans (s11.trans (s12.trans (s13.trans (s14.trans (s15.trans (s16.trans (s17.trans (s18.trans (s19.trans s20)))))))))) f9⟩ (.cons ⟨p10, rfl, seqT (s11.trans (s12.trans (s13.trans (s14.trans (s15.trans (s16.trans (s17.trans (s18.trans (s19.trans s20))))))))) f10⟩ (.cons ⟨p11, rfl, seqT (s12.trans (s13.trans (s14.trans (s15.trans (s16.trans (s17.trans (s18.trans (s19.trans s20)))))))) f11⟩ (.cons ⟨p12, rfl, seqT (s13.trans (s14.trans (s15.trans (s16.trans (s17.trans (s18.trans (s19.trans s20))))))) f12⟩ (.cons ⟨p14, rfl, seqT (s15.trans (s16.trans (s17.trans (s18.trans (s19.trans s20))))) f14⟩ (.cons ⟨p15, rfl, seqT (s16.trans (s17.trans (s18.trans (s19.trans s20)))) f15⟩ (.cons ⟨p16, rfl, seqT (s17.trans (s18.trans (s19.trans s20))) f16⟩ (.cons ⟨p17, rfl, seqT (s18.trans (s19.trans s20)) f17⟩ (.cons ⟨p18, rfl, seqT (s19.trans s20) f18⟩ .nil)))))))))))))))))
  have hl : ts.length = 17 := by rw [ets]; rfl
  have lo : ∀ x ∈ xs, 3 ≤ x.1 + 2 * x.2 ∧ 0 ≤ x.1 ∧ 0 ≤ x.2 := by rw [exs]; decide
  have first : xs.getD 0 (0, 0) = (4, 0) := by rw [exs]; rfl
  rw [← ets] at f20 f20h
  have sG : Same G G20 := go20.g
  have go := go20
  clear s1 t1 go1 s2 t2 go2 s3 t3 go3 s4 t4 go4 s5 t5 go5 s6 t6 go6 s7 t7 go7 s8 t8 go8 s9 t9 go9 s10 t10 go10 s11 t11 go11 s12 t12 go12 s13 t13 go13 s14 t14 go14 s15 t15 go15 s16 t16 go16 s17 t17 go17 s18 t18 go18 s19 t19 go19 s20 t20 go20 f1 hp1 f2 hp2 f3 hp3 f4 hp4 f5 hp5 f6 hp6 f7 hp7 f8 hp8 f9 hp9 f10 hp10 f11 hp11 f12 hp12 f14 hp14 f15 hp15 f16 hp16 f17 hp17 f18 hp18 f13 f13h f13H f19 f19h go0 s0
  refine ⟨_, rfl, _, rfl, l3, rfl, ⟨_, SqL.of f20h⟩, fun D hD => ?_⟩
  refine lc_flat (walk_list.mono (fun H' e => SqL.of (e _ _ f20h)) fun _ _ _ _ _ _ y => y) (fun _ e => e) hD (fun j => decide ((xs.getD j (0, 0)).1 + 2 * (xs.getD j (0, 0)).2 - 2 ≤ 8)) (fun j => ts.getD j .non) (by omega) (fun _ => rfl) (fun j x hj hx => ⟨fun H2 ex Q q => ?_, fun _ => ?_⟩) (fun H2 sm e3 => ?_)
  · obtain ⟨y, hy, a, rfl, ha⟩ := pAt pr hx
    rw [getD_of hy] at q
    have ha2 := seqT (go.h.trans ex) ha
    refine ⟨_, rfl, ?_⟩
    refine ⟨a, _, 0, _, rfl, rfl, ha2, rfl, ?_⟩
    refine ⟨_, rfl, a, _, 1, _, rfl, rfl, ha2, rfl, ?_⟩
    refine ⟨_, _, rfl, rfl, .inl ⟨by decide, by decide⟩, ?_⟩
    refine ⟨_, _, rfl, rfl, ?_⟩
    refine ⟨_, _, rfl, rfl, ?_⟩
    refine ⟨_, rfl, _, _, rfl, rfl, ?_⟩
    exact ⟨_, rfl, q _ (Evl.Ex.refl _)⟩
  · rw [getD_of hx]
    exact fun H1 _ Q q => ⟨_, rfl, q H1 (Evl.Ex.refl H1)⟩
  have goD := (go.grow sm).frz (go.fresh hD) e3 (go.gnone hD)
  have gpD := goD.n p hP.some gp
  rw [hl] at e3
  have len17 : (Evl.given 17 (fun j => decide ((xs.getD j (0, 0)).1 + 2 * (xs.getD j (0, 0)).2 - 2 ≤ 8)) fun j => ts.getD j .non).length ≤ 1000 := by
    unfold Evl.given
    rw [List.length_map]
    refine Nat.le_trans (List.length_filter_le _ _) ?_
    rw [List.length_range]
    decide
  have ne17 : Evl.given 17 (fun j => decide ((xs.getD j (0, 0)).1 + 2 * (xs.getD j (0, 0)).2 - 2 ≤ 8)) (fun j => ts.getD j .non) ≠ [] := by
    unfold Evl.given
    intro e
    have m : 0 ∈ (List.range 17).filter fun j => decide ((xs.getD j (0, 0)).1 + 2 * (xs.getD j (0, 0)).2 - 2 ≤ 8) := List.mem_filter.mpr ⟨by simp, by rw [first]; rfl⟩
    rw [List.map_eq_nil_iff.mp e] at m
    cases m
  refine ⟨_, _, rfl, p, n + 250, D, _, _, goD.h, gpD, rfl, rfl, SqL.of (by rw [upd_same, hl]), ne17, len17, (hP.go goD (by simp)).le (by omega), fun i v H4 hv P4 b4 => ?_⟩
  have go4 := goD.wide.trans (b4.go goD.h gpD P4)
  obtain ⟨j, hj, fj, ev⟩ : ∃ j, j < 17 ∧ ((xs.getD j (0, 0)).1 + 2 * (xs.getD j (0, 0)).2 - 2 ≤ 8) ∧ v = ts.getD j .non := by
    have m := List.mem_of_getElem? hv
    unfold Evl.given at m
    obtain ⟨j, hj, e⟩ := List.mem_map.mp m
    obtain ⟨h1, h2⟩ := List.mem_filter.mp hj
    exact ⟨j, List.mem_range.mp h1, of_decide_eq_true h2, e.symm⟩
  have ej : ts[j]? = some (ts.getD j .non) := at_of (by omega)
  obtain ⟨y, hy, a, ea, ha⟩ := pAt pr ej
  rw [getD_of hy] at fj
  obtain ⟨l1', l2', l3'⟩ := lo y (List.mem_of_getElem? hy)
  obtain ⟨y1, y2⟩ := y
  obtain ⟨e, rfl⟩ : ∃ e : Nat, y1 = e := ⟨y1.toNat, by simp only at l2'; omega⟩
  obtain ⟨r, rfl⟩ : ∃ r : Nat, y2 = r := ⟨y2.toNat, by simp only at l3'; omega⟩
  simp only at fj l1'
  rw [ea] at ev
  subst ev
  have sD : Same G20 (upd G20 D (.lst (Evl.given ts.length (fun j => decide ((xs.getD j (0, 0)).1 + 2 * (xs.getD j (0, 0)).2 - 2 ≤ 8)) fun j => ts.getD j .non))) := same_upd (go.gnone hD)
  have ha4 := seqT (sD.trans go4.h) ha
  refine ⟨a, _, rfl, ha4, rfl, ?_⟩
  refine ⟨_, _, rfl, _, _, rfl, rfl, ?_⟩
  refine ⟨_, rfl, _, rfl, _, rfl, ?_⟩
  refine ⟨_, _, _, rfl, p, n, _, e, r, go4.h, gpD, rfl, rfl, rfl, by omega, by omega, P4.le (by omega), fun own w len v G5 H5 go5 P5 hv5 => ?_⟩
  exact q own ⟨w.rows, w.some, by omega, w.twice⟩ w.whole _ _ _ (go4.trans go5) P5 hv5
end
end Tc
namespace Tc
open PySem PySem.Spec PyProof.Rows L2 Fw Mw TL
local macro_rules | `(tactic| wtm_at "z_ne") => `(tactic| first | assumption | (apply Ne.symm; assumption) | omega)
local macro_rules | `(tactic| wtm_at "z_hp") => `(tactic| first | assumption | exact upd_same | (refine (upd_ne ?_).trans ?_; (focus wtm_at "z_ne"); wtm_at "z_hp"))
local macro_rules | `(tactic| wtm_at "z_sq") => `(tactic| first | assumption | (exact .inl (.inl (by wtm_at "z_hp"))))
local macro_rules | `(tactic| wtm_at "z_side") => `(tactic| first | assumption | omega | (simp only []; omega) | exact ⟨by omega, by omega⟩ | exact ⟨by omega, by omega, by omega⟩ | exact .inl ⟨by omega, by omega⟩ | exact .inr ⟨by omega, by omega⟩ | decide)
local macro_rules | `(tactic| wtm_at "z") => `(tactic| first
  | refine ⟨_, rfl, ?_⟩
  | refine ⟨_, _, rfl, rfl, ?_⟩
  | refine And.intro (by wtm_at "z_side") ?_
  | refine .inl ⟨_, rfl, ?_⟩
  | refine ⟨_, _, _, _, rfl, rfl, (by wtm_at "z_sq"), (by first | rfl | assumption), ?_⟩
  | refine ⟨_, _, _, _, rfl, rfl, (by wtm_at "z_hp"), (by first | rfl | assumption), ?_⟩)
local macro_rules | `(tactic| wtm_at "zb") => `(tactic| dsimp only [L2.tCB, L2.tCons, L2.tNil, L2.tC])
section
variable {P : Program} {w : World} {K : PySem.W.Frag} {mg : Str → Option Value} {base : Heap} {CW : Addr}
theorem ok_law_is_flip_right (F : FunAt K mg "_law_is_flip_right" s_law_is_flip_right ["web", "own", "road", "way"]) (T : Txt K mg CW) (C_law_flip_web : Cal P w K mg base CX0 "_law_flip_web" 2 ["own", "road", "way"] [] (sp_law_flip_web K CW)) (C_flipped : CalK P w K mg base CX0 "flipped" 6 ["web", "road", "way"] [] (sp_flipped K CW) ["way", "road", "web"] gk_flipped gk_flipped) (C_law_web_text : Cal P w K mg base CX0 "_law_web_text" 1 ["own"] [] (sp_law_web_text K CW)) (C_same_meets : Cal P w K mg base CX0 "same_meets" 2 ["one", "other"] [] (sp_same_meets K CW)) : Cal P w K mg base CX0 "_law_is_flip_right" 7 ["web", "own", "road", "way"] [] (sp_law_is_flip_right K CW) := by
  obtain ⟨f, fd, F, mgf, bf⟩ := F
  obtain ⟨f_law_flip_web, fd_law_flip_web, ds_law_flip_web, G_law_flip_web, m_law_flip_web, k_law_flip_web, b_law_flip_web, d_law_flip_web⟩ := C_law_flip_web
  obtain ⟨f_flipped, fd_flipped, ds_flipped, G_flipped, m_flipped, k_flipped, b_flipped, d_flipped, kb_flipped⟩ := C_flipped
  obtain ⟨f_law_web_text, fd_law_web_text, ds_law_web_text, G_law_web_text, m_law_web_text, k_law_web_text, b_law_web_text, d_law_web_text⟩ := C_law_web_text
  obtain ⟨f_same_meets, fd_same_meets, ds_same_meets, G_same_meets, m_same_meets, k_same_meets, b_same_meets, d_same_meets⟩ := C_same_meets
  refine ⟨f, fd, [], ?_, mgf, F.kp, bf, .nil⟩
  refine F.ok sc_law_is_flip_right (fun vs H Q E h => by obtain ⟨_, _, _, _, rfl, _⟩ := h; rfl) (fun cdv A outer s H vs Q E hr h => ?_)
  refine ⟨_, (pss_cons (ps_par (i := 4) (j := 5) rfl sc_law_is_flip_right.nd rfl rfl (by decide) rfl rfl (pa_cons (Yo.pe_callK0 G_flipped (hr.mono (by decide)) (by rfl) m_flipped k_flipped kb_flipped pass0 (pk_cons (pv 3) (pk_cons (pv 2) (pk_cons (pv 0) pk_nil)))) (pa_cons (pe_call G_law_flip_web (hr.mono (by decide)) (by rfl) m_law_flip_web k_law_flip_web b_law_flip_web d_law_flip_web pass0 (pa_cons (pv 1) (pa_cons (pv 2) (pa_cons (pv 3) pa_nil)))) pa_nil)) (by rfl))
      (pss_cons (ps_if (PW.pt (pw_or (pt_cmpR op_ne (pe_fldK K rfl (pv 4)) (pe_call G_law_web_text (hr.mono (by decide)) (by rfl) m_law_web_text k_law_web_text b_law_web_text d_law_web_text pass0 (pa_cons (pv 5) pa_nil)) (nomark _)) (pw_or1 (pt_cmpR (op_neDK K rfl hr.units) (pe_fldK K rfl (pv 4)) (pe_callTy (call_tuple_ofK K rfl) (by rfl) T.z_tuple (by decide +kernel) (pa_cons (pv 5) pa_nil)) (nomark _))))) (pss_one (ps_ret pe_bl)) pss_nil)
      (pss_cons (ps_if (pt_cmpR (op_neDK K rfl hr.units) (pe_tup (pa_cons (pe_fldK K rfl (pv 4)) (pa_cons (pe_fldK K rfl (pv 4)) (pa_cons (pe_fldK K rfl (pv 4)) (pa_cons (pe_fldK K rfl (pv 4)) pa_nil))))) (pe_tup (pa_cons (pe_fldK K rfl (pv 0)) (pa_cons (pe_fldK K rfl (pv 0)) (pa_cons (pe_fldK K rfl (pv 0)) (pa_cons (pe_fldK K rfl (pv 0)) pa_nil))))) (nomark _)) (pss_one (ps_ret pe_bl)) pss_nil)
      (pss_cons (ps_if (pt_cmpR op_notBl (pe_call G_same_meets (hr.mono (by decide)) (by rfl) m_same_meets k_same_meets b_same_meets d_same_meets pass0 (pa_cons (pe_call G_flipped (hr.mono (by decide)) (by rfl) m_flipped k_flipped b_flipped d_flipped pass0 (pa_cons (pv 4) (pa_cons (pv 2) (pa_cons (pv 3) pa_nil)))) (pa_cons (pv 0) pa_nil))) pe_bl (nomark _)) (pss_one (ps_ret pe_bl)) pss_nil)
      (pss_one (ps_ret (pe_cmpR op_isBl (pe_call G_same_meets (hr.mono (by decide)) (by rfl) m_same_meets k_same_meets b_same_meets d_same_meets pass0 (pa_cons (pe_call G_flipped (hr.mono (by decide)) (by rfl) m_flipped k_flipped b_flipped d_flipped pass0 (pa_cons (pv 4) (pa_cons (pv 2) (pa_cons (pe_op op_sub pe_int (pv 3)) pa_nil)))) (pa_cons (pe_call G_flipped (hr.mono (by decide)) (by rfl) m_flipped k_flipped b_flipped d_flipped pass0 (pa_cons (pv 0) (pa_cons (pv 2) (pa_cons (pe_op op_sub pe_int (pv 3)) pa_nil)))) pa_nil))) pe_bl (nomark _)))))))), ?_⟩
  obtain ⟨x0, x1, x2, x3, rfl, h⟩ := h
  obtain ⟨G, own, z, k, i, j, a, b, c, d, hG, hw, hx, rfl, rfl, hk, good, whole, F, q⟩ := h
  have hm := good.most
  have h3 : ∀ r ∈ own, r.length = 3 := fun r hr => (good.rows r hr).len
  have hw0 := hw
  have hx0 := hx
  have F2 := flip_four (k := k) F
  have good2 := flip_good (k := k) good F
  have whole2 := flip_whole (k := k) good whole F
  have h32 : ∀ r ∈ flipRows own i j k z a b c d, r.length = 3 := fun r hr => (good2.rows r hr).len
  have hm2 := good2.most
  have pw := flip_words (k := k) h3 F
  have back := smeets_eq (flip_back (k := k) h3 F hk)
  have other := smeets_eq (flip_other (k := k) F hk)
  have ro := flip_rounds (k := k) h3 F
  refine ⟨_, rfl, _, rfl, _, rfl, ?_⟩
  refine ⟨_, _, _, rfl, G, own, z, k, i, j, a, b, c, d, hG, hw, rfl, rfl, hk, good, whole, F, fun v1 G1 H1 go1 hv1 => ?_⟩
  refine ⟨_, rfl, _, rfl, _, rfl, ?_⟩
  refine ⟨_, _, _, rfl, G1, own, z, k, i, j, a, b, c, d, go1.h, Mo.up go1.g hx, rfl, rfl, by omega, h3, F, fun v2 G2 H2 go2 hv2 => ?_⟩
  refine ⟨_, _, rfl, ?_⟩
  generalize hjs : flipRows own i j k z a b c d = js at *
  have go12 := go1.trans go2
  have hf := Mo.up go2.g hv1
  obtain ⟨af, dx, vt, vj, vr, vi, ve, g, rfl, haf, Wf⟩ := hf
  obtain ⟨ao, dxo, vto, vjo, vro, vio, veo, gro, rfl, hao, Wo⟩ := hw
  obtain rfl := Wf.text
  have hfH := go12.h _ _ haf
  refine ⟨_, rfl, af, CW, dx, _, _, rfl, hfH, T.cl, T.n_text, lk_text, ?_⟩
  refine ⟨_, rfl, ?_⟩
  refine ⟨_, rfl, G2, js, go12.h, rH.l hv2, good2.rows, by omega, fun H3 sm3 => ?_⟩
  refine ⟨rfl, _, rfl, ?_⟩
  rw [show (!decide (V.str (webText js) = V.str (webText js))) = false from by simp]
  refine iteF (A := True) ?_
  have go3 := go12.grow sm3
  obtain ⟨aj, tj, rfl, sj, pj⟩ := Wf.junctions
  obtain ⟨ld, ud, rfl, hld, pld⟩ := hv2
  refine ⟨_, rfl, af, CW, dx, _, _, rfl, go3.h _ _ haf, T.cl, T.n_junctions, lk_junctions, ?_⟩
  refine ⟨_, rfl, ?_⟩
  refine ⟨ld, _, rfl, .inl ⟨SqL.of (go3.h _ _ hld), fun t ht => ?_⟩⟩
  have go4 := go3.tmp (o := .tup ud) ht
  have e4 : upd H3 t (.tup ud) t = some (.tup ud) := upd_same
  generalize upd H3 t (.tup ud) = H4 at go4 e4 ⊢
  have nms : ∀ r ∈ js, ∀ x ∈ r, isName x = true := fun r hr => (good2.rows r hr).names
  refine ⟨_, _, .tup (seqT go4.h sj) (dp_rowsT (L2.Paired.mapP pj fun _ _ z => Mo.up go4.h z)), .tup (SqT.of e4) (dp_rowsT (L2.Paired.mapP pld fun _ _ z => Mo.up go4.h z)), shaped_rowsT _ nms, shaped_rowsT _ nms, ?_⟩
  rw [eqv_self (shaped_rowsT _ nms)]
  refine ⟨_, rfl, iteF (A := True) ?_⟩
  obtain ⟨ar, rfl, hsr⟩ := rTs.mp Wf.roads
  obtain ⟨ai, rfl, hsi⟩ := rTs.mp Wf.inner
  obtain ⟨ae, rfl, hse⟩ := rTs.mp Wf.ends
  obtain ⟨ar', rfl, hsr'⟩ := rTs.mp Wo.roads
  obtain ⟨ai', rfl, hsi'⟩ := rTs.mp Wo.inner
  obtain ⟨ae', rfl, hse'⟩ := rTs.mp Wo.ends
  rw [roads_perm pw] at hsr
  rw [inner_perm pw] at hsi
  rw [ends_perm pw] at hse
  have eg := Wf.rounds
  have ego := Wo.rounds
  rw [ro] at eg
  subst eg ego
  have hf4 := go4.h _ _ haf
  have ho4 := go4.h _ _ (go4.g _ _ hao)
  refine ⟨_, rfl, af, CW, dx, _, _, rfl, hf4, T.cl, T.n_roads, lk_roads, ?_⟩
  refine ⟨_, rfl, af, CW, dx, _, _, rfl, hf4, T.cl, T.n_inner, lk_inner, ?_⟩
  refine ⟨_, rfl, af, CW, dx, _, _, rfl, hf4, T.cl, T.n_ends, lk_ends, ?_⟩
  refine ⟨_, rfl, af, CW, dx, _, _, rfl, hf4, T.cl, T.n_rounds, lk_rounds, ?_⟩
  refine ⟨(show (4:Nat) ≤ sizeLine by decide), fun p1 hp1 => ?_⟩
  have go5 := go4.tmp (o := .tup [.ref ar, .ref ai, .ref ae, .int (roundsOf own)]) hp1
  have s5 := same_upd (o := .tup [.ref ar, .ref ai, .ref ae, .int (roundsOf own)]) hp1
  have e5 : upd H4 p1 (.tup [.ref ar, .ref ai, .ref ae, .int (roundsOf own)]) p1 = some (.tup [.ref ar, .ref ai, .ref ae, .int (roundsOf own)]) := upd_same
  generalize upd H4 p1 (.tup [.ref ar, .ref ai, .ref ae, .int (roundsOf own)]) = H5 at go5 s5 e5 ⊢
  have ho5 := s5 _ _ ho4
  refine ⟨_, rfl, ao, CW, dxo, _, _, rfl, ho5, T.cl, T.n_roads, lk_roads, ?_⟩
  refine ⟨_, rfl, ao, CW, dxo, _, _, rfl, ho5, T.cl, T.n_inner, lk_inner, ?_⟩
  refine ⟨_, rfl, ao, CW, dxo, _, _, rfl, ho5, T.cl, T.n_ends, lk_ends, ?_⟩
  refine ⟨_, rfl, ao, CW, dxo, _, _, rfl, ho5, T.cl, T.n_rounds, lk_rounds, ?_⟩
  refine ⟨(show (4:Nat) ≤ sizeLine by decide), fun p2 hp2 => ?_⟩
  have go6 := go5.tmp (o := .tup [.ref ar', .ref ai', .ref ae', .int (roundsOf own)]) hp2
  have s6 := same_upd (o := .tup [.ref ar', .ref ai', .ref ae', .int (roundsOf own)]) hp2
  have e6 : upd H5 p2 (.tup [.ref ar', .ref ai', .ref ae', .int (roundsOf own)]) p2 = some (.tup [.ref ar', .ref ai', .ref ae', .int (roundsOf own)]) := upd_same
  generalize upd H5 p2 (.tup [.ref ar', .ref ai', .ref ae', .int (roundsOf own)]) = H6 at go6 s6 e6 ⊢
  obtain ⟨n1, n2, n3⟩ := road_names good
  have sh := shaped_facts (g := roundsOf own) n1 n2 n3
  have up0 : Same G H6 := go6.g.trans go6.h
  refine ⟨_, _, dp_facts (SqT.of (s6 _ _ e5)) (seqT go6.h hsr) (seqT go6.h hsi) (seqT go6.h hse), dp_facts (SqT.of e6) (seqT up0 hsr') (seqT up0 hsi') (seqT up0 hse'), sh, sh, ?_⟩
  rw [eqv_self sh]
  refine ⟨_, rfl, iteF (A := True) ?_⟩
  refine ⟨_, rfl, _, rfl, _, rfl, ?_⟩
  refine ⟨_, _, _, rfl, G2, js, z, k, i, j, _, _, _, _, go6.h, Mo.up go2.g hv1, rfl, rfl, hk, good2, whole2, F2, fun v7 G7 H7 go7 hv7 => ?_⟩
  have good3 := flip_good (k := k) good2 F2
  refine ⟨_, rfl, ?_⟩
  have up7 : Same G G7 := go6.g.trans go7.g
  refine ⟨_, _, rfl, G7, _, own, go7.h, hv7, Mo.up up7 hw0, good3, good, fun H8 sm8 => ?_⟩
  rw [decide_eq_true back]
  refine ⟨true, true, rfl, rfl, ?_⟩
  refine ⟨_, rfl, iteF (A := True) ?_⟩
  have go8 := (go6.trans go7).grow sm8
  have hk3 : 3 - k = 1 ∨ 3 - k = 2 := by omega
  refine ⟨_, rfl, _, rfl, _, rfl, ?_⟩
  refine ⟨_, _, rfl, rfl, ?_⟩
  refine ⟨_, _, _, rfl, G7, js, z, 3 - k, i, j, _, _, _, _, go8.h, Mo.up (go2.g.trans go7.g) hv1, rfl, rfl, hk3, good2, whole2, F2, fun v9 G9 H9 go9 hv9 => ?_⟩
  have go9' := go8.trans go9
  refine ⟨_, rfl, _, rfl, _, rfl, ?_⟩
  refine ⟨_, _, rfl, rfl, ?_⟩
  refine ⟨_, _, _, rfl, G9, own, z, 3 - k, i, j, a, b, c, d, go9'.h, Mo.up go9'.g hw0, rfl, rfl, hk3, good, whole, F, fun v10 G10 H10 go10 hv10 => ?_⟩
  refine ⟨_, _, rfl, G10, _, _, go10.h, Mo.up go10.g hv9, hv10, flip_good good2 F2, flip_good good F, fun H11 sm11 => ?_⟩
  rw [decide_eq_true other]
  exact ⟨true, true, rfl, rfl, q _ _ ((go9'.trans go10).grow sm11)⟩
end
end Tc
namespace Tc
open PySem PySem.Spec PyProof.Rows L2 Fw Mw TL
local macro_rules | `(tactic| wtm_at "z_ne") => `(tactic| first | assumption | (apply Ne.symm; assumption) | omega)
local macro_rules | `(tactic| wtm_at "z_hp") => `(tactic| first | assumption | exact upd_same | (refine (upd_ne ?_).trans ?_; (focus wtm_at "z_ne"); wtm_at "z_hp"))
local macro_rules | `(tactic| wtm_at "z_sq") => `(tactic| first | assumption | (exact .inl (.inl (by wtm_at "z_hp"))))
local macro_rules | `(tactic| wtm_at "z_side") => `(tactic| first | assumption | omega | (simp only []; omega) | exact ⟨by omega, by omega⟩ | exact ⟨by omega, by omega, by omega⟩ | exact .inl ⟨by omega, by omega⟩ | exact .inr ⟨by omega, by omega⟩ | decide)
local macro_rules | `(tactic| wtm_at "z") => `(tactic| first
  | refine ⟨_, rfl, ?_⟩
  | refine ⟨_, _, rfl, rfl, ?_⟩
  | refine And.intro (by wtm_at "z_side") ?_
  | refine .inl ⟨_, rfl, ?_⟩
  | refine ⟨_, _, _, _, rfl, rfl, (by wtm_at "z_sq"), (by first | rfl | assumption), ?_⟩
  | refine ⟨_, _, _, _, rfl, rfl, (by wtm_at "z_hp"), (by first | rfl | assumption), ?_⟩)
local macro_rules | `(tactic| wtm_at "zb") => `(tactic| dsimp only [L2.tCB, L2.tCons, L2.tNil, L2.tC])
section
variable {P : Program} {w : World} {K : PySem.W.Frag} {mg : Str → Option Value} {base : Heap} {CW : Addr}
theorem ok_law_right (F : FunAt K mg "_law_right" s_law_right ["pot"]) (T : Txt K mg CW) (C_law_scene_web : Cal P w K mg base CX0 "_law_scene_web" 5 ["pot", "most"] [] (sp_law_scene_web K CW)) (C_law_flip_roads : Cal P w K mg base CX0 "_law_flip_roads" 3 ["own"] [] (sp_law_flip_roads K CW)) (C_Web_init__ : InitAt P w K mg base CW 4) (C_law_web_text : Cal P w K mg base CX0 "_law_web_text" 1 ["own"] [] (sp_law_web_text K CW)) (C_law_is_flip_right : Cal P w K mg base CX0 "_law_is_flip_right" 7 ["web", "own", "road", "way"] [] (sp_law_is_flip_right K CW)) : Cal P w K mg base CX0 "_law_right" 8 ["pot"] [] (sp_law_right K CW) := by
  obtain ⟨f, fd, F, mgf, bf⟩ := F
  obtain ⟨f_law_scene_web, fd_law_scene_web, ds_law_scene_web, G_law_scene_web, m_law_scene_web, k_law_scene_web, b_law_scene_web, d_law_scene_web⟩ := C_law_scene_web
  obtain ⟨f_law_flip_roads, fd_law_flip_roads, ds_law_flip_roads, G_law_flip_roads, m_law_flip_roads, k_law_flip_roads, b_law_flip_roads, d_law_flip_roads⟩ := C_law_flip_roads
  obtain ⟨f_Web_init__, fd_Web_init__, ds_Web_init__, G_Web_init__, M_Web, b_Web_init__, d_Web_init__⟩ := C_Web_init__
  obtain ⟨f_law_web_text, fd_law_web_text, ds_law_web_text, G_law_web_text, m_law_web_text, k_law_web_text, b_law_web_text, d_law_web_text⟩ := C_law_web_text
  obtain ⟨f_law_is_flip_right, fd_law_is_flip_right, ds_law_is_flip_right, G_law_is_flip_right, m_law_is_flip_right, k_law_is_flip_right, b_law_is_flip_right, d_law_is_flip_right⟩ := C_law_is_flip_right
  refine ⟨f, fd, [], ?_, mgf, F.kp, bf, .nil⟩
  refine F.ok sc_law_right (fun vs H Q E h => by obtain ⟨_, rfl, _⟩ := h; rfl) (fun cdv A outer s H vs Q E hr h => ?_)
  refine ⟨_, (pss_cons (ps_set (i := 1) sc_law_right.nd rfl (.inr rfl) (pe_call G_law_scene_web (hr.mono (by decide)) (by rfl) m_law_scene_web k_law_scene_web b_law_scene_web d_law_scene_web pass0 (pa_cons (pv 0) (pa_cons pe_int pa_nil))))
      (pss_cons (ps_asg (pe_tup (pa_cons (pe_make M_Web G_Web_init__ (hr.mono (by decide)) (by rfl) T.m_Web b_Web_init__ d_Web_init__ pass0 (pa_cons (pe_call G_law_web_text (hr.mono (by decide)) (by rfl) m_law_web_text k_law_web_text b_law_web_text d_law_web_text pass0 (pa_cons (pv 1) pa_nil)) pa_nil)) (pa_cons (pe_call G_law_flip_roads (hr.mono (by decide)) (by rfl) m_law_flip_roads k_law_flip_roads b_law_flip_roads d_law_flip_roads pass0 (pa_cons (pv 1) pa_nil)) pa_nil))) (pg_tupK (n := 2) K rfl rfl (pgs_cons (pg_name (i := 2) sc_law_right.nd rfl (.inr rfl)) (pgs_cons (pg_name (i := 3) sc_law_right.nd rfl (.inl rfl)) pgs_nil))))
      (pss_one (ps_ret (pe_callB (cr_allK K rfl rfl) (by rfl) T.z_all (by decide +kernel) (pa_cons (pe_lc (own := [("road", 4)]) rfl sc_law_right.nd (pi_listK K rfl (pv 3)) (blkOk_by (own := [("road", 4)]) (N := N_law_right) (sc := defScope s_law_right) (by decide +kernel)) (fun _ _ _ _ _ => (pg_name (i := 4) sc_law_right.nd rfl (.inl rfl))) (fun _ _ _ _ _ => pts_nil) (fun _ _ _ _ _ => (pe_and (pe_call G_law_is_flip_right (hr.mono (by decide)) (by rfl) m_law_is_flip_right k_law_is_flip_right b_law_is_flip_right d_law_is_flip_right pass0 (pa_cons (pv 2) (pa_cons (pv 1) (pa_cons (pv 4) (pa_cons pe_int pa_nil))))) (pe_one (pe_call G_law_is_flip_right (hr.mono (by decide)) (by rfl) m_law_is_flip_right k_law_is_flip_right b_law_is_flip_right d_law_is_flip_right pass0 (pa_cons (pv 2) (pa_cons (pv 1) (pa_cons (pv 4) (pa_cons pe_int pa_nil))))))))) pa_nil)))))), ?_⟩
  obtain ⟨x0, rfl, h⟩ := h
  obtain ⟨p, rfl, hP, q⟩ := h
  obtain ⟨G0, hG0⟩ : ∃ G0 : Hp, G0 = fun _ => none := ⟨_, rfl⟩
  have g0 : ∀ c, G0 c = none := fun c => by rw [hG0]
  have s0 : Same G0 H := fun c o e => by rw [g0 c] at e; cases e
  have hpn := hP.some
  refine ⟨_, rfl, ?_⟩
  refine ⟨_, _, rfl, p, 600, G0, s0, g0 p, rfl, rfl, hP.le (by decide), fun own good whole v G1 H1 go1 P1 hv => ?_⟩
  have hm := good.most
  refine ⟨_, rfl, ?_⟩
  refine ⟨_, rfl, G1, own, go1.h, hv, good.rows, by omega, fun H2 sm2 => ?_⟩
  intro x dx hx2 hdx nd
  have go2 := go1.grow sm2
  have go3 := (go2.tmp (o := .own x) hdx).tmp (p := x) (o := .ins CW dx []) ((upd_ne (Ne.symm nd)).trans hx2)
  have g1x : G1 x = none := go2.gnone hx2
  have h0x : H x = none := go2.fresh hx2
  refine ⟨_, _, rfl, G1, own, x, dx, go3.h, g1x, rfl, rfl, upd_same, good, whole, fun G3 H3 go4 hW => ⟨rfl, ?_⟩⟩
  obtain ⟨vt, vj, vr, vi, ve, g, hW, W⟩ := hW
  have go5 := go3.own go4 h0x
  have g3x : G3 x = none := go4.n x (by rw [upd_same]; exact fun z => nomatch z) g1x
  have go6 := go5.frz h0x hW g3x
  have hweb : rWeb K CW (upd G3 x (.ins CW dx (webF vt vj vr vi ve g))) (.ref x) own := ⟨x, dx, vt, vj, vr, vi, ve, g, rfl, upd_same, W.up (same_upd g3x)⟩
  have s14 : Same G1 (upd G3 x (.ins CW dx (webF vt vj vr vi ve g))) := go4.g.trans (same_upd g3x)
  generalize upd G3 x (.ins CW dx (webF vt vj vr vi ve g)) = G4 at go6 hweb s14
  refine ⟨_, rfl, ?_⟩
  refine ⟨_, rfl, G4, own, go6.h, Mo.up s14 hv, good, fun v7 G7 H7 go7 hv7 => ?_⟩
  obtain ⟨li, us, rfl, hli, pli⟩ := hv7
  obtain rfl := pS pli
  have go7' := go6.call go7
  refine ⟨(show (2:Nat) ≤ sizeLine by decide), fun t ht => ?_⟩
  have go8 := go7'.tmp (o := .tup [.ref x, .ref li]) ht
  have e8 : upd H7 t (.tup [.ref x, .ref li]) t = some (.tup [.ref x, .ref li]) := upd_same
  generalize upd H7 t (.tup [.ref x, .ref li]) = H8 at go8 e8 ⊢
  refine ⟨t, _, rfl, SqT.of e8, rfl, ?_⟩
  refine ⟨_, _, rfl, _, _, rfl, rfl, ?_⟩
  have hl8 : H8 li = some (.lst ((flipRoads own).map V.str)) := go8.h _ _ hli
  refine ⟨_, rfl, li, rfl, ⟨_, SqL.of hl8⟩, fun D hD => ?_⟩
  have fl : (flipRoads own).length ≤ 60 := by
    have h1 : (flipRoads own).length ≤ (innerOf own).length := List.length_filter_le _ _
    have h2 : (innerOf own).length ≤ (roadsOf own).length := List.length_filter_le _ _
    have h4 : (roadsOf own).length ≤ (words own).length := by
      unfold roadsOf
      rw [(List.mergeSort_perm _ _).length_eq]
      exact Ys.len_putAll _
    have h5 := flat_len own fun r hr => (good.rows r hr).len
    have h6 : (words own).length = 3 * own.length := h5
    omega
  have hweb8 := Mo.up go7.g hweb
  have hv8 := Mo.up (s14.trans go7.g) hv
  refine lc_flat (walk_list.mono (fun H' e => SqL.of (e _ _ hl8)) fun _ _ _ _ _ _ y => y) (fun _ e => e) hD (fun _ => true) (fun _ => .bl true) (by rw [List.length_map]; omega) (fun _ => rfl) (fun i x hi hx => ⟨fun H1 _ Q q => q H1 (Evl.Ex.refl H1), fun _ => ?_⟩) (fun H9 sm9 e9 => ?_)
  · obtain ⟨z, hz, rfl⟩ := map_at hx
    have hzf := List.mem_of_getElem? hz
    have s2 : (sidesOf own z).length = 2 := of_decide_eq_true (List.mem_filter.mp hzf).2
    obtain ⟨i, j, hij⟩ : ∃ i j, sidesOf own z = [i, j] := by
      match hS : sidesOf own z, s2 with
      | [i, j], _ => exact ⟨i, j, rfl⟩
    obtain ⟨a, b, c, d, F⟩ := Four.of (fun r hr => (good.rows r hr).len) good.twice hij
    refine fun H9 ex Q q => ?_
    have sm : Same G7 H9 := go8.h.trans ex
    refine ⟨_, rfl, _, rfl, _, rfl, ?_⟩
    refine ⟨_, _, _, _, rfl, G7, own, z, 1, i, j, a, b, c, d, sm, hweb8, hv8, rfl, rfl, .inl rfl, good, whole, F, fun G10 H10 go10 => ⟨_, rfl, iteT (B := True) ?_⟩⟩
    refine ⟨_, rfl, _, rfl, _, rfl, ?_⟩
    refine ⟨_, _, _, _, rfl, G10, own, z, 2, i, j, a, b, c, d, go10.h, Mo.up go10.g hweb8, Mo.up go10.g hv8, rfl, rfl, .inr rfl, good, whole, F, fun G11 H11 go11 => ?_⟩
    exact q _ (go10.trans go11).all
  · have e4 : Evl.given ((flipRoads own).map V.str).length (fun _ => true) (fun _ => V.bl true) = (List.replicate (flipRoads own).length true).map V.bl := by
      unfold Evl.given
      rw [List.length_map, List.filter_eq_self.mpr (fun _ _ => rfl)]
      apply List.ext_getElem
      · simp
      · intro i h1 h2
        simp
    rw [e4] at e9
    refine ⟨D, _, rfl, .inl (.inl e9), ?_⟩
    rw [show (List.replicate (flipRoads own).length true).all id = true from by simp]
    have go9 := go8.grow sm9
    exact q _ fun c o hc e => go9.k c o (by simpa using hc) e
end
end Tc
namespace Tc
open PySem PySem.Spec PyProof.Rows L2 Fw Mw TL
local macro_rules | `(tactic| wtm_at "z_ne") => `(tactic| first | assumption | (apply Ne.symm; assumption) | omega)
local macro_rules | `(tactic| wtm_at "z_hp") => `(tactic| first | assumption | exact upd_same | (refine (upd_ne ?_).trans ?_; (focus wtm_at "z_ne"); wtm_at "z_hp"))
local macro_rules | `(tactic| wtm_at "z_sq") => `(tactic| first | assumption | (exact .inl (.inl (by wtm_at "z_hp"))))
local macro_rules | `(tactic| wtm_at "z_side") => `(tactic| first | assumption | omega | (simp only []; omega) | exact ⟨by omega, by omega⟩ | exact ⟨by omega, by omega, by omega⟩ | exact .inl ⟨by omega, by omega⟩ | exact .inr ⟨by omega, by omega⟩ | decide)
local macro_rules | `(tactic| wtm_at "z") => `(tactic| first
  | refine ⟨_, rfl, ?_⟩
  | refine ⟨_, _, rfl, rfl, ?_⟩
  | refine And.intro (by wtm_at "z_side") ?_
  | refine .inl ⟨_, rfl, ?_⟩
  | refine ⟨_, _, _, _, rfl, rfl, (by wtm_at "z_sq"), (by first | rfl | assumption), ?_⟩
  | refine ⟨_, _, _, _, rfl, rfl, (by wtm_at "z_hp"), (by first | rfl | assumption), ?_⟩)
local macro_rules | `(tactic| wtm_at "zb") => `(tactic| dsimp only [L2.tCB, L2.tCons, L2.tNil, L2.tC])
section
variable {P : Program} {w : World} {K : PySem.W.Frag} {mg : Str → Option Value} {base : Heap} {CW : Addr}
theorem ok_law {f : Addr} {fd : FuncData} (F : Fun K "law" "law" s_law f fd) (T : Txt K mg CW) (C_law_cells : Cal P w K mg base CX0 "_law_cells" 1 ["script", "most"] [] (sp_law_cells K CW)) (C_law_right : Cal P w K mg base CX0 "_law_right" 8 ["pot"] [] (sp_law_right K CW)) (C_law_pot : Cal P w K mg base CX0 "_law_pot" 1 ["script", "place"] [] (sp_law_pot K CW)) : FnOk P w K mg base CX0 9 f fd ["script"] (sp_law K CW) := by
  obtain ⟨f_law_cells, fd_law_cells, ds_law_cells, G_law_cells, m_law_cells, k_law_cells, b_law_cells, d_law_cells⟩ := C_law_cells
  obtain ⟨f_law_right, fd_law_right, ds_law_right, G_law_right, m_law_right, k_law_right, b_law_right, d_law_right⟩ := C_law_right
  obtain ⟨f_law_pot, fd_law_pot, ds_law_pot, G_law_pot, m_law_pot, k_law_pot, b_law_pot, d_law_pot⟩ := C_law_pot
  refine F.ok sc_law (fun vs H Q E h => by obtain ⟨_, rfl, _⟩ := h; rfl) (fun cdv A outer s H vs Q E hr h => ?_)
  refine ⟨_, (pss_one (ps_ret (pe_callB (cr_allK K rfl rfl) (by rfl) T.z_all (by decide +kernel) (pa_cons (pe_lc (own := [("place", 1)]) rfl sc_law.nd (pi_listK K rfl (pe_call G_law_cells (hr.mono (by decide)) (by rfl) m_law_cells k_law_cells b_law_cells d_law_cells pass0 (pa_cons (pv 0) (pa_cons pe_int pa_nil)))) (blkOk_by (own := [("place", 1)]) (N := N_law) (sc := defScope s_law) (by decide +kernel)) (fun _ _ _ _ _ => (pg_name (i := 1) sc_law.nd rfl (.inl rfl))) (fun _ _ _ _ _ => pts_nil) (fun _ _ _ _ _ => (pe_call G_law_right (hr.mono (by decide)) (by rfl) m_law_right k_law_right b_law_right d_law_right pass0 (pa_cons (pe_call G_law_pot (hr.mono (by decide)) (by rfl) m_law_pot k_law_pot b_law_pot d_law_pot pass0 (pa_cons (pv 0) (pa_cons (pv 1) pa_nil))) pa_nil)))) pa_nil)))), ?_⟩
  obtain ⟨x0, rfl, h⟩ := h
  obtain ⟨a, ns, rfl, hs, q⟩ := h
  refine ⟨_, rfl, ?_⟩
  refine ⟨_, _, rfl, a, ns, rfl, ⟨_, rfl, by decide, by decide⟩, hs, fun l k H1 hk sm hl => ?_⟩
  refine ⟨l, rfl, ⟨_, hl⟩, fun D hD => ?_⟩
  have hlen : ((List.range k).map fun (n : Nat) => V.int n).length = k := by rw [List.length_map, List.length_range]
  refine lc_flat (walk_list.mono (fun H' e => Same.seq e hl) fun _ _ _ _ _ _ y => y) (fun _ e => e) hD (fun _ => true) (fun _ => .bl true) (by omega) (fun _ => rfl) (fun i x hi hx => ⟨fun H1 _ Q q => q H1 (Evl.Ex.refl H1), fun _ => ?_⟩) (fun H2 sm2 e3 => ?_)
  · obtain ⟨n, hn, rfl⟩ := map_at hx
    have hin : n < k := List.mem_range.mp (List.mem_of_getElem? hn)
    refine fun H2 ex Q q => ⟨_, rfl, _, rfl, ?_⟩
    refine ⟨_, _, rfl, a, ns, n, rfl, rfl, (sm.trans ex).seq hs, by omega, fun p H3 hp sm3 P3 => ?_⟩
    refine ⟨_, rfl, p, rfl, P3.le (by decide), fun H4 but => q H4 ?_⟩
    exact fun c o e => but c o (fun z => by rw [z, hp] at e; cases e) (sm3 c o e)
  · have e4 : Evl.given ((List.range k).map fun (n : Nat) => V.int n).length (fun _ => true) (fun _ => V.bl true) = (List.replicate k true).map V.bl := by
      unfold Evl.given
      rw [hlen, List.filter_eq_self.mpr (fun _ _ => rfl)]
      apply List.ext_getElem
      · simp
      · intro i h1 h2
        simp
    rw [e4] at e3
    refine ⟨D, _, rfl, .inl (.inl e3), ?_⟩
    rw [show (List.replicate k true).all id = true from by simp]
    exact q _ (sm.trans sm2)
end
end Tc
namespace Tc
open PySem PySem.Spec PyProof.Rows L2 Fw Mw TL
theorem all_mk {l : PySem.W.OpenLaw} {w : World} {K : PySem.W.Frag} {h : Heap} {mg : Str → Option Value} {fa CW f_is_whole f_is_name f_all_words f_meeting_roads f_read_junctions f_places_of f_reached f_check_hanging_together f_Web_init__ f_text_of f_sorted_meets f_same_meets f_can_flip f_is_way f_check_road f_check_way f_words_beside f_flipped_junctions f_flipped f_law_pot f_law_take f_law_of f_law_some f_law_cells f_law_web_text f_law_web_times f_law_web_roads f_law_web_inner f_law_web_ends f_law_web_at f_law_web_names f_law_web_put f_law_web_tree f_law_web_drawn f_law_web_turned f_law_flip_roads f_law_flip_four f_law_flip_web f_law_scene_web f_law_is_flip_right f_law_right f_law Td Te : Addr} (X : K.In h) (G : h.Ns mainGlobals mg) (hfa : mg "law" = some (.ref fa))
    {od_is_whole an_is_whole od_is_name an_is_name od_all_words an_all_words od_meeting_roads an_meeting_roads od_read_junctions an_read_junctions od_places_of an_places_of od_reached an_reached od_check_hanging_together an_check_hanging_together od_Web_init__ an_Web_init__ od_text_of an_text_of od_sorted_meets an_sorted_meets od_same_meets an_same_meets od_can_flip an_can_flip od_is_way an_is_way od_check_road an_check_road od_check_way an_check_way od_words_beside an_words_beside od_flipped_junctions an_flipped_junctions od_flipped an_flipped od_law_pot an_law_pot od_law_take an_law_take od_law_of an_law_of od_law_some an_law_some od_law_cells an_law_cells od_law_web_text an_law_web_text od_law_web_times an_law_web_times od_law_web_roads an_law_web_roads od_law_web_inner an_law_web_inner od_law_web_ends an_law_web_ends od_law_web_at an_law_web_at od_law_web_names an_law_web_names od_law_web_put an_law_web_put od_law_web_tree an_law_web_tree od_law_web_drawn an_law_web_drawn od_law_web_turned an_law_web_turned od_law_flip_roads an_law_flip_roads od_law_flip_four an_law_flip_four od_law_flip_web an_law_flip_web od_law_scene_web an_law_scene_web od_law_is_flip_right an_law_is_flip_right od_law_right an_law_right od_law an_law odT odE : Option Addr} {sl_is_whole sl_is_name sl_all_words sl_meeting_roads sl_read_junctions sl_places_of sl_reached sl_check_hanging_together sl_Web_init__ sl_text_of sl_sorted_meets sl_same_meets sl_can_flip sl_is_way sl_check_road sl_check_way sl_words_beside sl_flipped_junctions sl_flipped sl_law_pot sl_law_take sl_law_of sl_law_some sl_law_cells sl_law_web_text sl_law_web_times sl_law_web_roads sl_law_web_inner sl_law_web_ends sl_law_web_at sl_law_web_names sl_law_web_put sl_law_web_tree sl_law_web_drawn sl_law_web_turned sl_law_flip_roads sl_law_flip_four sl_law_flip_web sl_law_scene_web sl_law_is_flip_right sl_law_right sl_law slT slE : Array (Option Value)} {oc_is_whole kV_is_whole dc_is_whole pm_is_whole cd_is_whole ct_is_whole oc_is_name kV_is_name dc_is_name pm_is_name cd_is_name ct_is_name oc_all_words kV_all_words dc_all_words pm_all_words cd_all_words ct_all_words oc_meeting_roads kV_meeting_roads dc_meeting_roads pm_meeting_roads cd_meeting_roads ct_meeting_roads oc_read_junctions kV_read_junctions dc_read_junctions pm_read_junctions cd_read_junctions ct_read_junctions oc_places_of kV_places_of dc_places_of pm_places_of cd_places_of ct_places_of oc_reached kV_reached dc_reached pm_reached cd_reached ct_reached oc_check_hanging_together kV_check_hanging_together dc_check_hanging_together pm_check_hanging_together cd_check_hanging_together ct_check_hanging_together oc_Web_init__ kV_Web_init__ dc_Web_init__ pm_Web_init__ cd_Web_init__ ct_Web_init__ oc_text_of kV_text_of dc_text_of pm_text_of cd_text_of ct_text_of oc_sorted_meets kV_sorted_meets dc_sorted_meets pm_sorted_meets cd_sorted_meets ct_sorted_meets oc_same_meets kV_same_meets dc_same_meets pm_same_meets cd_same_meets ct_same_meets oc_can_flip kV_can_flip dc_can_flip pm_can_flip cd_can_flip ct_can_flip oc_is_way kV_is_way dc_is_way pm_is_way cd_is_way ct_is_way oc_check_road kV_check_road dc_check_road pm_check_road cd_check_road ct_check_road oc_check_way kV_check_way dc_check_way pm_check_way cd_check_way ct_check_way oc_words_beside kV_words_beside dc_words_beside pm_words_beside cd_words_beside ct_words_beside oc_flipped_junctions kV_flipped_junctions dc_flipped_junctions pm_flipped_junctions cd_flipped_junctions ct_flipped_junctions oc_flipped kV_flipped dc_flipped pm_flipped cd_flipped ct_flipped oc_law_pot kV_law_pot dc_law_pot pm_law_pot cd_law_pot ct_law_pot oc_law_take kV_law_take dc_law_take pm_law_take cd_law_take ct_law_take oc_law_of kV_law_of dc_law_of pm_law_of cd_law_of ct_law_of oc_law_some kV_law_some dc_law_some pm_law_some cd_law_some ct_law_some oc_law_cells kV_law_cells dc_law_cells pm_law_cells cd_law_cells ct_law_cells oc_law_web_text kV_law_web_text dc_law_web_text pm_law_web_text cd_law_web_text ct_law_web_text oc_law_web_times kV_law_web_times dc_law_web_times pm_law_web_times cd_law_web_times ct_law_web_times oc_law_web_roads kV_law_web_roads dc_law_web_roads pm_law_web_roads cd_law_web_roads ct_law_web_roads oc_law_web_inner kV_law_web_inner dc_law_web_inner pm_law_web_inner cd_law_web_inner ct_law_web_inner oc_law_web_ends kV_law_web_ends dc_law_web_ends pm_law_web_ends cd_law_web_ends ct_law_web_ends oc_law_web_at kV_law_web_at dc_law_web_at pm_law_web_at cd_law_web_at ct_law_web_at oc_law_web_names kV_law_web_names dc_law_web_names pm_law_web_names cd_law_web_names ct_law_web_names oc_law_web_put kV_law_web_put dc_law_web_put pm_law_web_put cd_law_web_put ct_law_web_put oc_law_web_tree kV_law_web_tree dc_law_web_tree pm_law_web_tree cd_law_web_tree ct_law_web_tree oc_law_web_drawn kV_law_web_drawn dc_law_web_drawn pm_law_web_drawn cd_law_web_drawn ct_law_web_drawn oc_law_web_turned kV_law_web_turned dc_law_web_turned pm_law_web_turned cd_law_web_turned ct_law_web_turned oc_law_flip_roads kV_law_flip_roads dc_law_flip_roads pm_law_flip_roads cd_law_flip_roads ct_law_flip_roads oc_law_flip_four kV_law_flip_four dc_law_flip_four pm_law_flip_four cd_law_flip_four ct_law_flip_four oc_law_flip_web kV_law_flip_web dc_law_flip_web pm_law_flip_web cd_law_flip_web ct_law_flip_web oc_law_scene_web kV_law_scene_web dc_law_scene_web pm_law_scene_web cd_law_scene_web ct_law_scene_web oc_law_is_flip_right kV_law_is_flip_right dc_law_is_flip_right pm_law_is_flip_right cd_law_is_flip_right ct_law_is_flip_right oc_law_right kV_law_right dc_law_right pm_law_right cd_law_right ct_law_right oc_law kV_law dc_law pm_law cd_law ct_law ocT : Value} {t_LETTERS t_LONGEST_NAME t_FIRST_WORD t_FIRST_LINE t_MOST_JUNCTIONS t_FIRST_WAY t_SECOND_WAY : Tok} {nT nE : Nat}
    (aW : PySem.W.nsIn K mainGlobals "Web" = some (some (.ref CW)))
    (a_is_whole : PySem.W.nsIn K mainGlobals "is_whole" = some (some (.ref f_is_whole)))
    (l_is_whole : K.lookup f_is_whole = some ⟨oc_is_whole, od_is_whole, .func (PySem.W.fnOf "is_whole" "is_whole" (defArgs s_is_whole) (defBody s_is_whole) (defScope s_is_whole) .none kV_is_whole dc_is_whole pm_is_whole an_is_whole cd_is_whole ct_is_whole), sl_is_whole⟩)
    (c_is_whole : PySem.W.codeIn K cd_is_whole "is_whole" = true)
    (k_is_whole : PySem.W.keepIn K (.ref f_is_whole) = true)
    (a_is_name : PySem.W.nsIn K mainGlobals "is_name" = some (some (.ref f_is_name)))
    (l_is_name : K.lookup f_is_name = some ⟨oc_is_name, od_is_name, .func (PySem.W.fnOf "is_name" "is_name" (defArgs s_is_name) (defBody s_is_name) (defScope s_is_name) .none kV_is_name dc_is_name pm_is_name an_is_name cd_is_name ct_is_name), sl_is_name⟩)
    (c_is_name : PySem.W.codeIn K cd_is_name "is_name" = true)
    (k_is_name : PySem.W.keepIn K (.ref f_is_name) = true)
    (a_all_words : PySem.W.nsIn K mainGlobals "all_words" = some (some (.ref f_all_words)))
    (l_all_words : K.lookup f_all_words = some ⟨oc_all_words, od_all_words, .func (PySem.W.fnOf "all_words" "all_words" (defArgs s_all_words) (defBody s_all_words) (defScope s_all_words) .none kV_all_words dc_all_words pm_all_words an_all_words cd_all_words ct_all_words), sl_all_words⟩)
    (c_all_words : PySem.W.codeIn K cd_all_words "all_words" = true)
    (k_all_words : PySem.W.keepIn K (.ref f_all_words) = true)
    (a_meeting_roads : PySem.W.nsIn K mainGlobals "meeting_roads" = some (some (.ref f_meeting_roads)))
    (l_meeting_roads : K.lookup f_meeting_roads = some ⟨oc_meeting_roads, od_meeting_roads, .func (PySem.W.fnOf "meeting_roads" "meeting_roads" (defArgs s_meeting_roads) (defBody s_meeting_roads) (defScope s_meeting_roads) .none kV_meeting_roads dc_meeting_roads pm_meeting_roads an_meeting_roads cd_meeting_roads ct_meeting_roads), sl_meeting_roads⟩)
    (c_meeting_roads : PySem.W.codeIn K cd_meeting_roads "meeting_roads" = true)
    (k_meeting_roads : PySem.W.keepIn K (.ref f_meeting_roads) = true)
    (a_read_junctions : PySem.W.nsIn K mainGlobals "read_junctions" = some (some (.ref f_read_junctions)))
    (l_read_junctions : K.lookup f_read_junctions = some ⟨oc_read_junctions, od_read_junctions, .func (PySem.W.fnOf "read_junctions" "read_junctions" (defArgs s_read_junctions) (defBody s_read_junctions) (defScope s_read_junctions) .none kV_read_junctions dc_read_junctions pm_read_junctions an_read_junctions cd_read_junctions ct_read_junctions), sl_read_junctions⟩)
    (c_read_junctions : PySem.W.codeIn K cd_read_junctions "read_junctions" = true)
    (k_read_junctions : PySem.W.keepIn K (.ref f_read_junctions) = true)
    (a_places_of : PySem.W.nsIn K mainGlobals "places_of" = some (some (.ref f_places_of)))
    (l_places_of : K.lookup f_places_of = some ⟨oc_places_of, od_places_of, .func (PySem.W.fnOf "places_of" "places_of" (defArgs s_places_of) (defBody s_places_of) (defScope s_places_of) .none kV_places_of dc_places_of pm_places_of an_places_of cd_places_of ct_places_of), sl_places_of⟩)
    (c_places_of : PySem.W.codeIn K cd_places_of "places_of" = true)
    (k_places_of : PySem.W.keepIn K (.ref f_places_of) = true)
    (a_reached : PySem.W.nsIn K mainGlobals "reached" = some (some (.ref f_reached)))
    (l_reached : K.lookup f_reached = some ⟨oc_reached, od_reached, .func (PySem.W.fnOf "reached" "reached" (defArgs s_reached) (defBody s_reached) (defScope s_reached) (.ref Td) kV_reached dc_reached pm_reached an_reached cd_reached ct_reached), sl_reached⟩)
    (l_dfl : K.lookup Td = some ⟨ocT, odT, .seq #[.ref Te] nT, slT⟩)
    (l_dfe : K.lookup Te = some ⟨.type "tuple", odE, .seq #[] nE, slE⟩)
    (c_reached : PySem.W.codeIn K cd_reached "reached" = true)
    (k_reached : PySem.W.keepIn K (.ref f_reached) = true)
    (a_check_hanging_together : PySem.W.nsIn K mainGlobals "check_hanging_together" = some (some (.ref f_check_hanging_together)))
    (l_check_hanging_together : K.lookup f_check_hanging_together = some ⟨oc_check_hanging_together, od_check_hanging_together, .func (PySem.W.fnOf "check_hanging_together" "check_hanging_together" (defArgs s_check_hanging_together) (defBody s_check_hanging_together) (defScope s_check_hanging_together) .none kV_check_hanging_together dc_check_hanging_together pm_check_hanging_together an_check_hanging_together cd_check_hanging_together ct_check_hanging_together), sl_check_hanging_together⟩)
    (c_check_hanging_together : PySem.W.codeIn K cd_check_hanging_together "check_hanging_together" = true)
    (k_check_hanging_together : PySem.W.keepIn K (.ref f_check_hanging_together) = true)
    (a_Web_init__ : PySem.W.findIn K (.ref CW) "__init__" = some (some (.ref f_Web_init__)))
    (i_Web_init__ : PySem.W.isFn K (.ref f_Web_init__) = true)
    (l_Web_init__ : K.lookup f_Web_init__ = some ⟨oc_Web_init__, od_Web_init__, .func (PySem.W.fnOf "__init__" "Web.__init__" (defArgs s_Web_init__) (defBody s_Web_init__) (defScope s_Web_init__) .none kV_Web_init__ dc_Web_init__ pm_Web_init__ an_Web_init__ cd_Web_init__ ct_Web_init__), sl_Web_init__⟩)
    (c_Web_init__ : PySem.W.codeIn K cd_Web_init__ "Web.__init__" = true)
    (k_Web_init__ : PySem.W.keepIn K (.ref f_Web_init__) = true)
    (a_text_of : PySem.W.nsIn K mainGlobals "text_of" = some (some (.ref f_text_of)))
    (l_text_of : K.lookup f_text_of = some ⟨oc_text_of, od_text_of, .func (PySem.W.fnOf "text_of" "text_of" (defArgs s_text_of) (defBody s_text_of) (defScope s_text_of) .none kV_text_of dc_text_of pm_text_of an_text_of cd_text_of ct_text_of), sl_text_of⟩)
    (c_text_of : PySem.W.codeIn K cd_text_of "text_of" = true)
    (k_text_of : PySem.W.keepIn K (.ref f_text_of) = true)
    (a_sorted_meets : PySem.W.nsIn K mainGlobals "sorted_meets" = some (some (.ref f_sorted_meets)))
    (l_sorted_meets : K.lookup f_sorted_meets = some ⟨oc_sorted_meets, od_sorted_meets, .func (PySem.W.fnOf "sorted_meets" "sorted_meets" (defArgs s_sorted_meets) (defBody s_sorted_meets) (defScope s_sorted_meets) .none kV_sorted_meets dc_sorted_meets pm_sorted_meets an_sorted_meets cd_sorted_meets ct_sorted_meets), sl_sorted_meets⟩)
    (c_sorted_meets : PySem.W.codeIn K cd_sorted_meets "sorted_meets" = true)
    (k_sorted_meets : PySem.W.keepIn K (.ref f_sorted_meets) = true)
    (a_same_meets : PySem.W.nsIn K mainGlobals "same_meets" = some (some (.ref f_same_meets)))
    (l_same_meets : K.lookup f_same_meets = some ⟨oc_same_meets, od_same_meets, .func (PySem.W.fnOf "same_meets" "same_meets" (defArgs s_same_meets) (defBody s_same_meets) (defScope s_same_meets) .none kV_same_meets dc_same_meets pm_same_meets an_same_meets cd_same_meets ct_same_meets), sl_same_meets⟩)
    (c_same_meets : PySem.W.codeIn K cd_same_meets "same_meets" = true)
    (k_same_meets : PySem.W.keepIn K (.ref f_same_meets) = true)
    (a_can_flip : PySem.W.nsIn K mainGlobals "can_flip" = some (some (.ref f_can_flip)))
    (l_can_flip : K.lookup f_can_flip = some ⟨oc_can_flip, od_can_flip, .func (PySem.W.fnOf "can_flip" "can_flip" (defArgs s_can_flip) (defBody s_can_flip) (defScope s_can_flip) .none kV_can_flip dc_can_flip pm_can_flip an_can_flip cd_can_flip ct_can_flip), sl_can_flip⟩)
    (c_can_flip : PySem.W.codeIn K cd_can_flip "can_flip" = true)
    (k_can_flip : PySem.W.keepIn K (.ref f_can_flip) = true)
    (a_is_way : PySem.W.nsIn K mainGlobals "is_way" = some (some (.ref f_is_way)))
    (l_is_way : K.lookup f_is_way = some ⟨oc_is_way, od_is_way, .func (PySem.W.fnOf "is_way" "is_way" (defArgs s_is_way) (defBody s_is_way) (defScope s_is_way) .none kV_is_way dc_is_way pm_is_way an_is_way cd_is_way ct_is_way), sl_is_way⟩)
    (c_is_way : PySem.W.codeIn K cd_is_way "is_way" = true)
    (k_is_way : PySem.W.keepIn K (.ref f_is_way) = true)
    (a_check_road : PySem.W.nsIn K mainGlobals "check_road" = some (some (.ref f_check_road)))
    (l_check_road : K.lookup f_check_road = some ⟨oc_check_road, od_check_road, .func (PySem.W.fnOf "check_road" "check_road" (defArgs s_check_road) (defBody s_check_road) (defScope s_check_road) .none kV_check_road dc_check_road pm_check_road an_check_road cd_check_road ct_check_road), sl_check_road⟩)
    (c_check_road : PySem.W.codeIn K cd_check_road "check_road" = true)
    (k_check_road : PySem.W.keepIn K (.ref f_check_road) = true)
    (a_check_way : PySem.W.nsIn K mainGlobals "check_way" = some (some (.ref f_check_way)))
    (l_check_way : K.lookup f_check_way = some ⟨oc_check_way, od_check_way, .func (PySem.W.fnOf "check_way" "check_way" (defArgs s_check_way) (defBody s_check_way) (defScope s_check_way) .none kV_check_way dc_check_way pm_check_way an_check_way cd_check_way ct_check_way), sl_check_way⟩)
    (c_check_way : PySem.W.codeIn K cd_check_way "check_way" = true)
    (k_check_way : PySem.W.keepIn K (.ref f_check_way) = true)
    (a_words_beside : PySem.W.nsIn K mainGlobals "words_beside" = some (some (.ref f_words_beside)))
    (l_words_beside : K.lookup f_words_beside = some ⟨oc_words_beside, od_words_beside, .func (PySem.W.fnOf "words_beside" "words_beside" (defArgs s_words_beside) (defBody s_words_beside) (defScope s_words_beside) .none kV_words_beside dc_words_beside pm_words_beside an_words_beside cd_words_beside ct_words_beside), sl_words_beside⟩)
    (c_words_beside : PySem.W.codeIn K cd_words_beside "words_beside" = true)
    (k_words_beside : PySem.W.keepIn K (.ref f_words_beside) = true)
    (a_flipped_junctions : PySem.W.nsIn K mainGlobals "flipped_junctions" = some (some (.ref f_flipped_junctions)))
    (l_flipped_junctions : K.lookup f_flipped_junctions = some ⟨oc_flipped_junctions, od_flipped_junctions, .func (PySem.W.fnOf "flipped_junctions" "flipped_junctions" (defArgs s_flipped_junctions) (defBody s_flipped_junctions) (defScope s_flipped_junctions) .none kV_flipped_junctions dc_flipped_junctions pm_flipped_junctions an_flipped_junctions cd_flipped_junctions ct_flipped_junctions), sl_flipped_junctions⟩)
    (c_flipped_junctions : PySem.W.codeIn K cd_flipped_junctions "flipped_junctions" = true)
    (k_flipped_junctions : PySem.W.keepIn K (.ref f_flipped_junctions) = true)
    (a_flipped : PySem.W.nsIn K mainGlobals "flipped" = some (some (.ref f_flipped)))
    (l_flipped : K.lookup f_flipped = some ⟨oc_flipped, od_flipped, .func (PySem.W.fnOf "flipped" "flipped" (defArgs s_flipped) (defBody s_flipped) (defScope s_flipped) .none kV_flipped dc_flipped pm_flipped an_flipped cd_flipped ct_flipped), sl_flipped⟩)
    (c_flipped : PySem.W.codeIn K cd_flipped "flipped" = true)
    (k_flipped : PySem.W.keepIn K (.ref f_flipped) = true)
    (a_law_pot : PySem.W.nsIn K mainGlobals "_law_pot" = some (some (.ref f_law_pot)))
    (l_law_pot : K.lookup f_law_pot = some ⟨oc_law_pot, od_law_pot, .func (PySem.W.fnOf "_law_pot" "_law_pot" (defArgs s_law_pot) (defBody s_law_pot) (defScope s_law_pot) .none kV_law_pot dc_law_pot pm_law_pot an_law_pot cd_law_pot ct_law_pot), sl_law_pot⟩)
    (c_law_pot : PySem.W.codeIn K cd_law_pot "_law_pot" = true)
    (k_law_pot : PySem.W.keepIn K (.ref f_law_pot) = true)
    (a_law_take : PySem.W.nsIn K mainGlobals "_law_take" = some (some (.ref f_law_take)))
    (l_law_take : K.lookup f_law_take = some ⟨oc_law_take, od_law_take, .func (PySem.W.fnOf "_law_take" "_law_take" (defArgs s_law_take) (defBody s_law_take) (defScope s_law_take) .none kV_law_take dc_law_take pm_law_take an_law_take cd_law_take ct_law_take), sl_law_take⟩)
    (c_law_take : PySem.W.codeIn K cd_law_take "_law_take" = true)
    (k_law_take : PySem.W.keepIn K (.ref f_law_take) = true)
    (a_law_of : PySem.W.nsIn K mainGlobals "_law_of" = some (some (.ref f_law_of)))
    (l_law_of : K.lookup f_law_of = some ⟨oc_law_of, od_law_of, .func (PySem.W.fnOf "_law_of" "_law_of" (defArgs s_law_of) (defBody s_law_of) (defScope s_law_of) .none kV_law_of dc_law_of pm_law_of an_law_of cd_law_of ct_law_of), sl_law_of⟩)
    (c_law_of : PySem.W.codeIn K cd_law_of "_law_of" = true)
    (k_law_of : PySem.W.keepIn K (.ref f_law_of) = true)
    (a_law_some : PySem.W.nsIn K mainGlobals "_law_some" = some (some (.ref f_law_some)))
    (l_law_some : K.lookup f_law_some = some ⟨oc_law_some, od_law_some, .func (PySem.W.fnOf "_law_some" "_law_some" (defArgs s_law_some) (defBody s_law_some) (defScope s_law_some) .none kV_law_some dc_law_some pm_law_some an_law_some cd_law_some ct_law_some), sl_law_some⟩)
    (c_law_some : PySem.W.codeIn K cd_law_some "_law_some" = true)
    (k_law_some : PySem.W.keepIn K (.ref f_law_some) = true)
    (a_law_cells : PySem.W.nsIn K mainGlobals "_law_cells" = some (some (.ref f_law_cells)))
    (l_law_cells : K.lookup f_law_cells = some ⟨oc_law_cells, od_law_cells, .func (PySem.W.fnOf "_law_cells" "_law_cells" (defArgs s_law_cells) (defBody s_law_cells) (defScope s_law_cells) .none kV_law_cells dc_law_cells pm_law_cells an_law_cells cd_law_cells ct_law_cells), sl_law_cells⟩)
    (c_law_cells : PySem.W.codeIn K cd_law_cells "_law_cells" = true)
    (k_law_cells : PySem.W.keepIn K (.ref f_law_cells) = true)
    (a_law_web_text : PySem.W.nsIn K mainGlobals "_law_web_text" = some (some (.ref f_law_web_text)))
    (l_law_web_text : K.lookup f_law_web_text = some ⟨oc_law_web_text, od_law_web_text, .func (PySem.W.fnOf "_law_web_text" "_law_web_text" (defArgs s_law_web_text) (defBody s_law_web_text) (defScope s_law_web_text) .none kV_law_web_text dc_law_web_text pm_law_web_text an_law_web_text cd_law_web_text ct_law_web_text), sl_law_web_text⟩)
    (c_law_web_text : PySem.W.codeIn K cd_law_web_text "_law_web_text" = true)
    (k_law_web_text : PySem.W.keepIn K (.ref f_law_web_text) = true)
    (a_law_web_times : PySem.W.nsIn K mainGlobals "_law_web_times" = some (some (.ref f_law_web_times)))
    (l_law_web_times : K.lookup f_law_web_times = some ⟨oc_law_web_times, od_law_web_times, .func (PySem.W.fnOf "_law_web_times" "_law_web_times" (defArgs s_law_web_times) (defBody s_law_web_times) (defScope s_law_web_times) .none kV_law_web_times dc_law_web_times pm_law_web_times an_law_web_times cd_law_web_times ct_law_web_times), sl_law_web_times⟩)
    (c_law_web_times : PySem.W.codeIn K cd_law_web_times "_law_web_times" = true)
    (k_law_web_times : PySem.W.keepIn K (.ref f_law_web_times) = true)
    (a_law_web_roads : PySem.W.nsIn K mainGlobals "_law_web_roads" = some (some (.ref f_law_web_roads)))
    (l_law_web_roads : K.lookup f_law_web_roads = some ⟨oc_law_web_roads, od_law_web_roads, .func (PySem.W.fnOf "_law_web_roads" "_law_web_roads" (defArgs s_law_web_roads) (defBody s_law_web_roads) (defScope s_law_web_roads) .none kV_law_web_roads dc_law_web_roads pm_law_web_roads an_law_web_roads cd_law_web_roads ct_law_web_roads), sl_law_web_roads⟩)
    (c_law_web_roads : PySem.W.codeIn K cd_law_web_roads "_law_web_roads" = true)
    (k_law_web_roads : PySem.W.keepIn K (.ref f_law_web_roads) = true)
    (a_law_web_inner : PySem.W.nsIn K mainGlobals "_law_web_inner" = some (some (.ref f_law_web_inner)))
    (l_law_web_inner : K.lookup f_law_web_inner = some ⟨oc_law_web_inner, od_law_web_inner, .func (PySem.W.fnOf "_law_web_inner" "_law_web_inner" (defArgs s_law_web_inner) (defBody s_law_web_inner) (defScope s_law_web_inner) .none kV_law_web_inner dc_law_web_inner pm_law_web_inner an_law_web_inner cd_law_web_inner ct_law_web_inner), sl_law_web_inner⟩)
    (c_law_web_inner : PySem.W.codeIn K cd_law_web_inner "_law_web_inner" = true)
    (k_law_web_inner : PySem.W.keepIn K (.ref f_law_web_inner) = true)
    (a_law_web_ends : PySem.W.nsIn K mainGlobals "_law_web_ends" = some (some (.ref f_law_web_ends)))
    (l_law_web_ends : K.lookup f_law_web_ends = some ⟨oc_law_web_ends, od_law_web_ends, .func (PySem.W.fnOf "_law_web_ends" "_law_web_ends" (defArgs s_law_web_ends) (defBody s_law_web_ends) (defScope s_law_web_ends) .none kV_law_web_ends dc_law_web_ends pm_law_web_ends an_law_web_ends cd_law_web_ends ct_law_web_ends), sl_law_web_ends⟩)
    (c_law_web_ends : PySem.W.codeIn K cd_law_web_ends "_law_web_ends" = true)
    (k_law_web_ends : PySem.W.keepIn K (.ref f_law_web_ends) = true)
    (a_law_web_at : PySem.W.nsIn K mainGlobals "_law_web_at" = some (some (.ref f_law_web_at)))
    (l_law_web_at : K.lookup f_law_web_at = some ⟨oc_law_web_at, od_law_web_at, .func (PySem.W.fnOf "_law_web_at" "_law_web_at" (defArgs s_law_web_at) (defBody s_law_web_at) (defScope s_law_web_at) .none kV_law_web_at dc_law_web_at pm_law_web_at an_law_web_at cd_law_web_at ct_law_web_at), sl_law_web_at⟩)
    (c_law_web_at : PySem.W.codeIn K cd_law_web_at "_law_web_at" = true)
    (k_law_web_at : PySem.W.keepIn K (.ref f_law_web_at) = true)
    (a_law_web_names : PySem.W.nsIn K mainGlobals "_law_web_names" = some (some (.ref f_law_web_names)))
    (l_law_web_names : K.lookup f_law_web_names = some ⟨oc_law_web_names, od_law_web_names, .func (PySem.W.fnOf "_law_web_names" "_law_web_names" (defArgs s_law_web_names) (defBody s_law_web_names) (defScope s_law_web_names) .none kV_law_web_names dc_law_web_names pm_law_web_names an_law_web_names cd_law_web_names ct_law_web_names), sl_law_web_names⟩)
    (c_law_web_names : PySem.W.codeIn K cd_law_web_names "_law_web_names" = true)
    (k_law_web_names : PySem.W.keepIn K (.ref f_law_web_names) = true)
    (a_law_web_put : PySem.W.nsIn K mainGlobals "_law_web_put" = some (some (.ref f_law_web_put)))
    (l_law_web_put : K.lookup f_law_web_put = some ⟨oc_law_web_put, od_law_web_put, .func (PySem.W.fnOf "_law_web_put" "_law_web_put" (defArgs s_law_web_put) (defBody s_law_web_put) (defScope s_law_web_put) .none kV_law_web_put dc_law_web_put pm_law_web_put an_law_web_put cd_law_web_put ct_law_web_put), sl_law_web_put⟩)
    (c_law_web_put : PySem.W.codeIn K cd_law_web_put "_law_web_put" = true)
    (k_law_web_put : PySem.W.keepIn K (.ref f_law_web_put) = true)
    (a_law_web_tree : PySem.W.nsIn K mainGlobals "_law_web_tree" = some (some (.ref f_law_web_tree)))
    (l_law_web_tree : K.lookup f_law_web_tree = some ⟨oc_law_web_tree, od_law_web_tree, .func (PySem.W.fnOf "_law_web_tree" "_law_web_tree" (defArgs s_law_web_tree) (defBody s_law_web_tree) (defScope s_law_web_tree) .none kV_law_web_tree dc_law_web_tree pm_law_web_tree an_law_web_tree cd_law_web_tree ct_law_web_tree), sl_law_web_tree⟩)
    (c_law_web_tree : PySem.W.codeIn K cd_law_web_tree "_law_web_tree" = true)
    (k_law_web_tree : PySem.W.keepIn K (.ref f_law_web_tree) = true)
    (a_law_web_drawn : PySem.W.nsIn K mainGlobals "_law_web_drawn" = some (some (.ref f_law_web_drawn)))
    (l_law_web_drawn : K.lookup f_law_web_drawn = some ⟨oc_law_web_drawn, od_law_web_drawn, .func (PySem.W.fnOf "_law_web_drawn" "_law_web_drawn" (defArgs s_law_web_drawn) (defBody s_law_web_drawn) (defScope s_law_web_drawn) .none kV_law_web_drawn dc_law_web_drawn pm_law_web_drawn an_law_web_drawn cd_law_web_drawn ct_law_web_drawn), sl_law_web_drawn⟩)
    (c_law_web_drawn : PySem.W.codeIn K cd_law_web_drawn "_law_web_drawn" = true)
    (k_law_web_drawn : PySem.W.keepIn K (.ref f_law_web_drawn) = true)
    (a_law_web_turned : PySem.W.nsIn K mainGlobals "_law_web_turned" = some (some (.ref f_law_web_turned)))
    (l_law_web_turned : K.lookup f_law_web_turned = some ⟨oc_law_web_turned, od_law_web_turned, .func (PySem.W.fnOf "_law_web_turned" "_law_web_turned" (defArgs s_law_web_turned) (defBody s_law_web_turned) (defScope s_law_web_turned) .none kV_law_web_turned dc_law_web_turned pm_law_web_turned an_law_web_turned cd_law_web_turned ct_law_web_turned), sl_law_web_turned⟩)
    (c_law_web_turned : PySem.W.codeIn K cd_law_web_turned "_law_web_turned" = true)
    (k_law_web_turned : PySem.W.keepIn K (.ref f_law_web_turned) = true)
    (a_law_flip_roads : PySem.W.nsIn K mainGlobals "_law_flip_roads" = some (some (.ref f_law_flip_roads)))
    (l_law_flip_roads : K.lookup f_law_flip_roads = some ⟨oc_law_flip_roads, od_law_flip_roads, .func (PySem.W.fnOf "_law_flip_roads" "_law_flip_roads" (defArgs s_law_flip_roads) (defBody s_law_flip_roads) (defScope s_law_flip_roads) .none kV_law_flip_roads dc_law_flip_roads pm_law_flip_roads an_law_flip_roads cd_law_flip_roads ct_law_flip_roads), sl_law_flip_roads⟩)
    (c_law_flip_roads : PySem.W.codeIn K cd_law_flip_roads "_law_flip_roads" = true)
    (k_law_flip_roads : PySem.W.keepIn K (.ref f_law_flip_roads) = true)
    (a_law_flip_four : PySem.W.nsIn K mainGlobals "_law_flip_four" = some (some (.ref f_law_flip_four)))
    (l_law_flip_four : K.lookup f_law_flip_four = some ⟨oc_law_flip_four, od_law_flip_four, .func (PySem.W.fnOf "_law_flip_four" "_law_flip_four" (defArgs s_law_flip_four) (defBody s_law_flip_four) (defScope s_law_flip_four) .none kV_law_flip_four dc_law_flip_four pm_law_flip_four an_law_flip_four cd_law_flip_four ct_law_flip_four), sl_law_flip_four⟩)
    (c_law_flip_four : PySem.W.codeIn K cd_law_flip_four "_law_flip_four" = true)
    (k_law_flip_four : PySem.W.keepIn K (.ref f_law_flip_four) = true)
    (a_law_flip_web : PySem.W.nsIn K mainGlobals "_law_flip_web" = some (some (.ref f_law_flip_web)))
    (l_law_flip_web : K.lookup f_law_flip_web = some ⟨oc_law_flip_web, od_law_flip_web, .func (PySem.W.fnOf "_law_flip_web" "_law_flip_web" (defArgs s_law_flip_web) (defBody s_law_flip_web) (defScope s_law_flip_web) .none kV_law_flip_web dc_law_flip_web pm_law_flip_web an_law_flip_web cd_law_flip_web ct_law_flip_web), sl_law_flip_web⟩)
    (c_law_flip_web : PySem.W.codeIn K cd_law_flip_web "_law_flip_web" = true)
    (k_law_flip_web : PySem.W.keepIn K (.ref f_law_flip_web) = true)
    (a_law_scene_web : PySem.W.nsIn K mainGlobals "_law_scene_web" = some (some (.ref f_law_scene_web)))
    (l_law_scene_web : K.lookup f_law_scene_web = some ⟨oc_law_scene_web, od_law_scene_web, .func (PySem.W.fnOf "_law_scene_web" "_law_scene_web" (defArgs s_law_scene_web) (defBody s_law_scene_web) (defScope s_law_scene_web) .none kV_law_scene_web dc_law_scene_web pm_law_scene_web an_law_scene_web cd_law_scene_web ct_law_scene_web), sl_law_scene_web⟩)
    (c_law_scene_web : PySem.W.codeIn K cd_law_scene_web "_law_scene_web" = true)
    (k_law_scene_web : PySem.W.keepIn K (.ref f_law_scene_web) = true)
    (a_law_is_flip_right : PySem.W.nsIn K mainGlobals "_law_is_flip_right" = some (some (.ref f_law_is_flip_right)))
    (l_law_is_flip_right : K.lookup f_law_is_flip_right = some ⟨oc_law_is_flip_right, od_law_is_flip_right, .func (PySem.W.fnOf "_law_is_flip_right" "_law_is_flip_right" (defArgs s_law_is_flip_right) (defBody s_law_is_flip_right) (defScope s_law_is_flip_right) .none kV_law_is_flip_right dc_law_is_flip_right pm_law_is_flip_right an_law_is_flip_right cd_law_is_flip_right ct_law_is_flip_right), sl_law_is_flip_right⟩)
    (c_law_is_flip_right : PySem.W.codeIn K cd_law_is_flip_right "_law_is_flip_right" = true)
    (k_law_is_flip_right : PySem.W.keepIn K (.ref f_law_is_flip_right) = true)
    (a_law_right : PySem.W.nsIn K mainGlobals "_law_right" = some (some (.ref f_law_right)))
    (l_law_right : K.lookup f_law_right = some ⟨oc_law_right, od_law_right, .func (PySem.W.fnOf "_law_right" "_law_right" (defArgs s_law_right) (defBody s_law_right) (defScope s_law_right) .none kV_law_right dc_law_right pm_law_right an_law_right cd_law_right ct_law_right), sl_law_right⟩)
    (c_law_right : PySem.W.codeIn K cd_law_right "_law_right" = true)
    (k_law_right : PySem.W.keepIn K (.ref f_law_right) = true)
    (a_law : PySem.W.nsIn K mainGlobals "law" = some (some (.ref f_law)))
    (l_law : K.lookup f_law = some ⟨oc_law, od_law, .func (PySem.W.fnOf "law" "law" (defArgs s_law) (defBody s_law) (defScope s_law) .none kV_law dc_law pm_law an_law cd_law ct_law), sl_law⟩)
    (c_law : PySem.W.codeIn K cd_law "law" = true)
    (k_law : PySem.W.keepIn K (.ref f_law) = true)
    (pg : PySem.W.plainGet K CW Str.empty = true)
    (hd : PySem.W.hasDictIn K CW = true)
    (po : PySem.W.plainOver K CW = true)
    (sa : PySem.W.findIn K (.ref CW) "__setattr__" = some (some (.builtin "object.__setattr__")))
    (mk : PySem.W.makesIn K CW = true)
    (kc : PySem.W.keepIn K (.ref CW) = true)
    (n_text : PySem.W.findIn K (.ref CW) "text" = some none)
    (n_junctions : PySem.W.findIn K (.ref CW) "junctions" = some none)
    (n_roads : PySem.W.findIn K (.ref CW) "roads" = some none)
    (n_inner : PySem.W.findIn K (.ref CW) "inner" = some none)
    (n_ends : PySem.W.findIn K (.ref CW) "ends" = some none)
    (n_rounds : PySem.W.findIn K (.ref CW) "rounds" = some none)
    (z_isinstance : PySem.W.nsIn K mainGlobals "isinstance" = some none)
    (z_bool : PySem.W.nsIn K mainGlobals "bool" = some none)
    (z_int : PySem.W.nsIn K mainGlobals "int" = some none)
    (z_all : PySem.W.nsIn K mainGlobals "all" = some none)
    (z_len : PySem.W.nsIn K mainGlobals "len" = some none)
    (z_str : PySem.W.nsIn K mainGlobals "str" = some none)
    (z_tuple : PySem.W.nsIn K mainGlobals "tuple" = some none)
    (z_enumerate : PySem.W.nsIn K mainGlobals "enumerate" = some none)
    (z_any : PySem.W.nsIn K mainGlobals "any" = some none)
    (z_range : PySem.W.nsIn K mainGlobals "range" = some none)
    (z_sorted : PySem.W.nsIn K mainGlobals "sorted" = some none)
    (z_set : PySem.W.nsIn K mainGlobals "set" = some none)
    (z_list : PySem.W.nsIn K mainGlobals "list" = some none)
    (z_sum : PySem.W.nsIn K mainGlobals "sum" = some none)
    (z_abs : PySem.W.nsIn K mainGlobals "abs" = some none)
    (z_max : PySem.W.nsIn K mainGlobals "max" = some none)
    (z_min : PySem.W.nsIn K mainGlobals "min" = some none)
    (q_LETTERS : PySem.W.nsIn K mainGlobals "LETTERS" = some (some (.str "abcdefghijklmnopqrstuvwxyz" t_LETTERS)))
    (q_LONGEST_NAME : PySem.W.nsIn K mainGlobals "LONGEST_NAME" = some (some (.int 6 t_LONGEST_NAME)))
    (q_FIRST_WORD : PySem.W.nsIn K mainGlobals "FIRST_WORD" = some (some (.str "meet" t_FIRST_WORD)))
    (q_FIRST_LINE : PySem.W.nsIn K mainGlobals "FIRST_LINE" = some (some (.str "web" t_FIRST_LINE)))
    (q_MOST_JUNCTIONS : PySem.W.nsIn K mainGlobals "MOST_JUNCTIONS" = some (some (.int 12 t_MOST_JUNCTIONS)))
    (q_FIRST_WAY : PySem.W.nsIn K mainGlobals "FIRST_WAY" = some (some (.int 1 t_FIRST_WAY)))
    (q_SECOND_WAY : PySem.W.nsIn K mainGlobals "SECOND_WAY" = some (some (.int 2 t_SECOND_WAY))) :
    ∃ fd : FuncData, (∀ (s : Shared) (v : Value), BindsTo s fd ⟨[v], []⟩ [("script", v)]) ∧ ∀ base : Heap, K.In base → base.Ns mainGlobals mg → FnOk l.prog w K mg base CX0 9 fa fd ["script"] (sp_law K fa) := by
  have e := hfa.symm.trans (PySem.W.mg_of X G a_law)
  cases e
  have T : Txt K mg CW := { z_isinstance := PySem.W.mg_none_of X G z_isinstance, z_bool := PySem.W.mg_none_of X G z_bool, z_int := PySem.W.mg_none_of X G z_int, z_all := PySem.W.mg_none_of X G z_all, z_len := PySem.W.mg_none_of X G z_len, z_str := PySem.W.mg_none_of X G z_str, z_tuple := PySem.W.mg_none_of X G z_tuple, z_enumerate := PySem.W.mg_none_of X G z_enumerate, z_any := PySem.W.mg_none_of X G z_any, z_range := PySem.W.mg_none_of X G z_range, z_sorted := PySem.W.mg_none_of X G z_sorted, z_set := PySem.W.mg_none_of X G z_set, z_list := PySem.W.mg_none_of X G z_list, z_sum := PySem.W.mg_none_of X G z_sum, z_abs := PySem.W.mg_none_of X G z_abs, z_max := PySem.W.mg_none_of X G z_max, z_min := PySem.W.mg_none_of X G z_min, c_LETTERS := ⟨_, PySem.W.mg_of X G q_LETTERS⟩, c_LONGEST_NAME := ⟨_, PySem.W.mg_of X G q_LONGEST_NAME⟩, c_FIRST_WORD := ⟨_, PySem.W.mg_of X G q_FIRST_WORD⟩, c_FIRST_LINE := ⟨_, PySem.W.mg_of X G q_FIRST_LINE⟩, c_MOST_JUNCTIONS := ⟨_, PySem.W.mg_of X G q_MOST_JUNCTIONS⟩, c_FIRST_WAY := ⟨_, PySem.W.mg_of X G q_FIRST_WAY⟩, c_SECOND_WAY := ⟨_, PySem.W.mg_of X G q_SECOND_WAY⟩, m_Web := PySem.W.mg_of X G aW, cl := ⟨pg, hd, po, sa⟩, n_text := n_text, n_junctions := n_junctions, n_roads := n_roads, n_inner := n_inner, n_ends := n_ends, n_rounds := n_rounds }
  have F_is_whole := fun_mk (st := s_is_whole) l_is_whole c_is_whole k_is_whole
  have b_is_whole := F_is_whole.binds (ps := ["value"]) fun _ _ _ _ _ _ us hl => match us, hl with | [_], _ => rfl
  have F_is_name := fun_mk (st := s_is_name) l_is_name c_is_name k_is_name
  have b_is_name := F_is_name.binds (ps := ["value"]) fun _ _ _ _ _ _ us hl => match us, hl with | [_], _ => rfl
  have F_all_words := fun_mk (st := s_all_words) l_all_words c_all_words k_all_words
  have b_all_words := F_all_words.binds (ps := ["junctions"]) fun _ _ _ _ _ _ us hl => match us, hl with | [_], _ => rfl
  have F_meeting_roads := fun_mk (st := s_meeting_roads) l_meeting_roads c_meeting_roads k_meeting_roads
  have b_meeting_roads := F_meeting_roads.binds (ps := ["line"]) fun _ _ _ _ _ _ us hl => match us, hl with | [_], _ => rfl
  have F_read_junctions := fun_mk (st := s_read_junctions) l_read_junctions c_read_junctions k_read_junctions
  have b_read_junctions := F_read_junctions.binds (ps := ["text"]) fun _ _ _ _ _ _ us hl => match us, hl with | [_], _ => rfl
  have F_places_of := fun_mk (st := s_places_of) l_places_of c_places_of k_places_of
  have b_places_of := F_places_of.binds (ps := ["junctions", "road"]) fun _ _ _ _ _ _ us hl => match us, hl with | [_, _], _ => rfl
  have FD : FunD K "reached" "reached" (defArgs s_reached) (defBody s_reached) (defScope s_reached) [.ref Te] [] f_reached _ := ⟨⟨_, _, _, _, _, _, _, _, _, _, rfl, l_reached, c_reached, .inr ⟨by simp, Td, _, [.ref Te], nT, rfl, l_dfl, rfl, .cons rfl .nil⟩, .inl rfl⟩, k_reached⟩
  obtain ⟨dsA, rA, bA⟩ := FD.binds1 (ps := ["junctions", "start", "closed"]) 3 1 (by simp) rfl fun _ _ _ _ _ _ _ us its hu hi => match us, its, hu, hi with | [_, _, _], [_], _, _ => ⟨_, rfl, rfl⟩
  obtain ⟨dsB, rB, bB⟩ := FD.binds1 (ps := ["junctions", "start", "closed"]) 2 0 (by simp) rfl fun _ _ _ _ _ _ _ us its hu hi => match us, its, hu, hi with | [_, _], [_], _, _ => ⟨_, rfl, rfl⟩
  have eA : dsA = [] := by cases rA; rfl
  subst eA
  have F_check_hanging_together := fun_mk (st := s_check_hanging_together) l_check_hanging_together c_check_hanging_together k_check_hanging_together
  have b_check_hanging_together := F_check_hanging_together.binds (ps := ["junctions"]) fun _ _ _ _ _ _ us hl => match us, hl with | [_], _ => rfl
  have F_Web_init__ := fun_mk (st := s_Web_init__) l_Web_init__ c_Web_init__ k_Web_init__
  have b_Web_init__ := F_Web_init__.binds (ps := ["self", "text"]) fun _ _ _ _ _ _ us hl => match us, hl with | [_, _], _ => rfl
  have F_text_of := fun_mk (st := s_text_of) l_text_of c_text_of k_text_of
  have b_text_of := F_text_of.binds (ps := ["junctions"]) fun _ _ _ _ _ _ us hl => match us, hl with | [_], _ => rfl
  have F_sorted_meets := fun_mk (st := s_sorted_meets) l_sorted_meets c_sorted_meets k_sorted_meets
  have b_sorted_meets := F_sorted_meets.binds (ps := ["junctions"]) fun _ _ _ _ _ _ us hl => match us, hl with | [_], _ => rfl
  have F_same_meets := fun_mk (st := s_same_meets) l_same_meets c_same_meets k_same_meets
  have b_same_meets := F_same_meets.binds (ps := ["one", "other"]) fun _ _ _ _ _ _ us hl => match us, hl with | [_, _], _ => rfl
  have F_can_flip := fun_mk (st := s_can_flip) l_can_flip c_can_flip k_can_flip
  have b_can_flip := F_can_flip.binds (ps := ["junctions", "road"]) fun _ _ _ _ _ _ us hl => match us, hl with | [_, _], _ => rfl
  have F_is_way := fun_mk (st := s_is_way) l_is_way c_is_way k_is_way
  have b_is_way := F_is_way.binds (ps := ["way"]) fun _ _ _ _ _ _ us hl => match us, hl with | [_], _ => rfl
  have F_check_road := fun_mk (st := s_check_road) l_check_road c_check_road k_check_road
  have b_check_road := F_check_road.binds (ps := ["web", "road"]) fun _ _ _ _ _ _ us hl => match us, hl with | [_, _], _ => rfl
  have F_check_way := fun_mk (st := s_check_way) l_check_way c_check_way k_check_way
  have b_check_way := F_check_way.binds (ps := ["way"]) fun _ _ _ _ _ _ us hl => match us, hl with | [_], _ => rfl
  have F_words_beside := fun_mk (st := s_words_beside) l_words_beside c_words_beside k_words_beside
  have b_words_beside := F_words_beside.binds (ps := ["junctions", "road"]) fun _ _ _ _ _ _ us hl => match us, hl with | [_, _], _ => rfl
  have F_flipped_junctions := fun_mk (st := s_flipped_junctions) l_flipped_junctions c_flipped_junctions k_flipped_junctions
  have b_flipped_junctions := F_flipped_junctions.binds (ps := ["junctions", "road", "way"]) fun _ _ _ _ _ _ us hl => match us, hl with | [_, _, _], _ => rfl
  have F_flipped := fun_mk (st := s_flipped) l_flipped c_flipped k_flipped
  have b_flipped := F_flipped.binds (ps := ["web", "road", "way"]) fun _ _ _ _ _ _ us hl => match us, hl with | [_, _, _], _ => rfl
  have kb_flipped : KBinds K (PySem.W.fnOf "flipped" "flipped" (defArgs s_flipped) (defBody s_flipped) (defScope s_flipped) .none kV_flipped dc_flipped pm_flipped an_flipped cd_flipped ct_flipped) ["web", "road", "way"] ["way", "road", "web"] gk_flipped gk_flipped := ⟨fun s us ws _ hl => by (unfold gk_flipped at hl ⊢; split at hl <;> first | exact .of_eq rfl | (simp at hl)), fun r rz => by (cases r with | cons _ _ => exact .nil | nil => (cases rz with | nil => exact .nil | cons r0 rz => (cases rz with | nil => exact .nil | cons r1 rz => (cases rz with | nil => exact .nil | cons r2 rz => (cases rz with | nil => exact (.cons r2 (.cons r1 (.cons r0 .nil))) | cons _ _ => exact .nil)))))⟩
  have F_law_pot := fun_mk (st := s_law_pot) l_law_pot c_law_pot k_law_pot
  have b_law_pot := F_law_pot.binds (ps := ["script", "place"]) fun _ _ _ _ _ _ us hl => match us, hl with | [_, _], _ => rfl
  have F_law_take := fun_mk (st := s_law_take) l_law_take c_law_take k_law_take
  have b_law_take := F_law_take.binds (ps := ["pot", "upto"]) fun _ _ _ _ _ _ us hl => match us, hl with | [_, _], _ => rfl
  have F_law_of := fun_mk (st := s_law_of) l_law_of c_law_of k_law_of
  have b_law_of := F_law_of.binds (ps := ["pot", "some"]) fun _ _ _ _ _ _ us hl => match us, hl with | [_, _], _ => rfl
  have F_law_some := fun_mk (st := s_law_some) l_law_some c_law_some k_law_some
  have b_law_some := F_law_some.binds (ps := ["pot", "pool", "many"]) fun _ _ _ _ _ _ us hl => match us, hl with | [_, _, _], _ => rfl
  have F_law_cells := fun_mk (st := s_law_cells) l_law_cells c_law_cells k_law_cells
  have b_law_cells := F_law_cells.binds (ps := ["script", "most"]) fun _ _ _ _ _ _ us hl => match us, hl with | [_, _], _ => rfl
  have F_law_web_text := fun_mk (st := s_law_web_text) l_law_web_text c_law_web_text k_law_web_text
  have b_law_web_text := F_law_web_text.binds (ps := ["own"]) fun _ _ _ _ _ _ us hl => match us, hl with | [_], _ => rfl
  have F_law_web_times := fun_mk (st := s_law_web_times) l_law_web_times c_law_web_times k_law_web_times
  have b_law_web_times := F_law_web_times.binds (ps := ["own"]) fun _ _ _ _ _ _ us hl => match us, hl with | [_], _ => rfl
  have F_law_web_roads := fun_mk (st := s_law_web_roads) l_law_web_roads c_law_web_roads k_law_web_roads
  have b_law_web_roads := F_law_web_roads.binds (ps := ["own"]) fun _ _ _ _ _ _ us hl => match us, hl with | [_], _ => rfl
  have F_law_web_inner := fun_mk (st := s_law_web_inner) l_law_web_inner c_law_web_inner k_law_web_inner
  have b_law_web_inner := F_law_web_inner.binds (ps := ["own"]) fun _ _ _ _ _ _ us hl => match us, hl with | [_], _ => rfl
  have F_law_web_ends := fun_mk (st := s_law_web_ends) l_law_web_ends c_law_web_ends k_law_web_ends
  have b_law_web_ends := F_law_web_ends.binds (ps := ["own"]) fun _ _ _ _ _ _ us hl => match us, hl with | [_], _ => rfl
  have F_law_web_at := fun_mk (st := s_law_web_at) l_law_web_at c_law_web_at k_law_web_at
  have b_law_web_at := F_law_web_at.binds (ps := ["own", "road"]) fun _ _ _ _ _ _ us hl => match us, hl with | [_, _], _ => rfl
  have F_law_web_names := fun_mk (st := s_law_web_names) l_law_web_names c_law_web_names k_law_web_names
  have b_law_web_names := F_law_web_names.binds (ps := ["pot", "many"]) fun _ _ _ _ _ _ us hl => match us, hl with | [_, _], _ => rfl
  have F_law_web_put := fun_mk (st := s_law_web_put) l_law_web_put c_law_web_put k_law_web_put
  have b_law_web_put := F_law_web_put.binds (ps := ["own", "old", "new", "times"]) fun _ _ _ _ _ _ us hl => match us, hl with | [_, _, _, _], _ => rfl
  have F_law_web_tree := fun_mk (st := s_law_web_tree) l_law_web_tree c_law_web_tree k_law_web_tree
  have b_law_web_tree := F_law_web_tree.binds (ps := ["pot", "names", "ends"]) fun _ _ _ _ _ _ us hl => match us, hl with | [_, _, _], _ => rfl
  have F_law_web_drawn := fun_mk (st := s_law_web_drawn) l_law_web_drawn c_law_web_drawn k_law_web_drawn
  have b_law_web_drawn := F_law_web_drawn.binds (ps := ["pot", "ends", "rounds"]) fun _ _ _ _ _ _ us hl => match us, hl with | [_, _, _], _ => rfl
  have F_law_web_turned := fun_mk (st := s_law_web_turned) l_law_web_turned c_law_web_turned k_law_web_turned
  have b_law_web_turned := F_law_web_turned.binds (ps := ["pot", "own"]) fun _ _ _ _ _ _ us hl => match us, hl with | [_, _], _ => rfl
  have F_law_flip_roads := fun_mk (st := s_law_flip_roads) l_law_flip_roads c_law_flip_roads k_law_flip_roads
  have b_law_flip_roads := F_law_flip_roads.binds (ps := ["own"]) fun _ _ _ _ _ _ us hl => match us, hl with | [_], _ => rfl
  have F_law_flip_four := fun_mk (st := s_law_flip_four) l_law_flip_four c_law_flip_four k_law_flip_four
  have b_law_flip_four := F_law_flip_four.binds (ps := ["own", "road"]) fun _ _ _ _ _ _ us hl => match us, hl with | [_, _], _ => rfl
  have F_law_flip_web := fun_mk (st := s_law_flip_web) l_law_flip_web c_law_flip_web k_law_flip_web
  have b_law_flip_web := F_law_flip_web.binds (ps := ["own", "road", "way"]) fun _ _ _ _ _ _ us hl => match us, hl with | [_, _, _], _ => rfl
  have F_law_scene_web := fun_mk (st := s_law_scene_web) l_law_scene_web c_law_scene_web k_law_scene_web
  have b_law_scene_web := F_law_scene_web.binds (ps := ["pot", "most"]) fun _ _ _ _ _ _ us hl => match us, hl with | [_, _], _ => rfl
  have F_law_is_flip_right := fun_mk (st := s_law_is_flip_right) l_law_is_flip_right c_law_is_flip_right k_law_is_flip_right
  have b_law_is_flip_right := F_law_is_flip_right.binds (ps := ["web", "own", "road", "way"]) fun _ _ _ _ _ _ us hl => match us, hl with | [_, _, _, _], _ => rfl
  have F_law_right := fun_mk (st := s_law_right) l_law_right c_law_right k_law_right
  have b_law_right := F_law_right.binds (ps := ["pot"]) fun _ _ _ _ _ _ us hl => match us, hl with | [_], _ => rfl
  have F_law := fun_mk (st := s_law) l_law c_law k_law
  have b_law := F_law.binds (ps := ["script"]) fun _ _ _ _ _ _ us hl => match us, hl with | [_], _ => rfl
  refine ⟨PySem.W.fnOf "law" "law" (defArgs s_law) (defBody s_law) (defScope s_law) .none kV_law dc_law pm_law an_law cd_law ct_law, fun s v => .of_eq rfl, fun base _ _ => ?_⟩
  have C_is_whole := ok_is_whole (P := l.prog) (w := w) (base := base) (CW := CW) ⟨f_is_whole, _, F_is_whole, PySem.W.mg_of X G a_is_whole, b_is_whole⟩ T 
  have C_is_name := ok_is_name (P := l.prog) (w := w) (base := base) (CW := CW) ⟨f_is_name, _, F_is_name, PySem.W.mg_of X G a_is_name, b_is_name⟩ T 
  have C_all_words := ok_all_words (P := l.prog) (w := w) (base := base) (CW := CW) ⟨f_all_words, _, F_all_words, PySem.W.mg_of X G a_all_words, b_all_words⟩ T 
  have C_meeting_roads := ok_meeting_roads (P := l.prog) (w := w) (base := base) (CW := CW) ⟨f_meeting_roads, _, F_meeting_roads, PySem.W.mg_of X G a_meeting_roads, b_meeting_roads⟩ T C_is_name
  have C_read_junctions := ok_read_junctions (P := l.prog) (w := w) (base := base) (CW := CW) ⟨f_read_junctions, _, F_read_junctions, PySem.W.mg_of X G a_read_junctions, b_read_junctions⟩ T C_meeting_roads C_all_words
  have C_places_of := ok_places_of (P := l.prog) (w := w) (base := base) (CW := CW) ⟨f_places_of, _, F_places_of, PySem.W.mg_of X G a_places_of, b_places_of⟩ T 
  have C_reached := ok_reached (P := l.prog) (w := w) (base := base) (CW := CW) ⟨f_reached, _, Te, FD, PySem.W.mg_of X G a_reached, bA, dsB, rB, bB, fun H => .inr ⟨_, _, _, l_dfe, rfl, rfl, Nat.zero_le _, .nil⟩⟩ T 
  have C_check_hanging_together := ok_check_hanging_together (P := l.prog) (w := w) (base := base) (CW := CW) ⟨f_check_hanging_together, _, F_check_hanging_together, PySem.W.mg_of X G a_check_hanging_together, b_check_hanging_together⟩ T C_reached
  have C_Web_init__ := ok_Web_init__ (P := l.prog) (w := w) (base := base) (CW := CW) ⟨f_Web_init__, _, F_Web_init__, ⟨mk, a_Web_init__, i_Web_init__, kc⟩, b_Web_init__⟩ T C_read_junctions C_check_hanging_together C_all_words
  have C_text_of := ok_text_of (P := l.prog) (w := w) (base := base) (CW := CW) ⟨f_text_of, _, F_text_of, PySem.W.mg_of X G a_text_of, b_text_of⟩ T 
  have C_sorted_meets := ok_sorted_meets (P := l.prog) (w := w) (base := base) (CW := CW) ⟨f_sorted_meets, _, F_sorted_meets, PySem.W.mg_of X G a_sorted_meets, b_sorted_meets⟩ T 
  have C_same_meets := ok_same_meets (P := l.prog) (w := w) (base := base) (CW := CW) ⟨f_same_meets, _, F_same_meets, PySem.W.mg_of X G a_same_meets, b_same_meets⟩ T C_sorted_meets
  have C_can_flip := ok_can_flip (P := l.prog) (w := w) (base := base) (CW := CW) ⟨f_can_flip, _, F_can_flip, PySem.W.mg_of X G a_can_flip, b_can_flip⟩ T C_places_of
  have C_is_way := ok_is_way (P := l.prog) (w := w) (base := base) (CW := CW) ⟨f_is_way, _, F_is_way, PySem.W.mg_of X G a_is_way, b_is_way⟩ T C_is_whole
  have C_check_road := ok_check_road (P := l.prog) (w := w) (base := base) (CW := CW) ⟨f_check_road, _, F_check_road, PySem.W.mg_of X G a_check_road, b_check_road⟩ T C_can_flip
  have C_check_way := ok_check_way (P := l.prog) (w := w) (base := base) (CW := CW) ⟨f_check_way, _, F_check_way, PySem.W.mg_of X G a_check_way, b_check_way⟩ T C_is_way
  have C_words_beside := ok_words_beside (P := l.prog) (w := w) (base := base) (CW := CW) ⟨f_words_beside, _, F_words_beside, PySem.W.mg_of X G a_words_beside, b_words_beside⟩ T C_places_of
  have C_flipped_junctions := ok_flipped_junctions (P := l.prog) (w := w) (base := base) (CW := CW) ⟨f_flipped_junctions, _, F_flipped_junctions, PySem.W.mg_of X G a_flipped_junctions, b_flipped_junctions⟩ T C_places_of C_words_beside
  have C_flipped := ok_flipped (P := l.prog) (w := w) (base := base) (CW := CW) ⟨f_flipped, _, F_flipped, PySem.W.mg_of X G a_flipped, b_flipped, kb_flipped⟩ T C_check_road C_check_way C_Web_init__ C_text_of C_flipped_junctions
  have C_law_pot := ok_law_pot (P := l.prog) (w := w) (base := base) (CW := CW) ⟨f_law_pot, _, F_law_pot, PySem.W.mg_of X G a_law_pot, b_law_pot⟩ T 
  have C_law_take := ok_law_take (P := l.prog) (w := w) (base := base) (CW := CW) ⟨f_law_take, _, F_law_take, PySem.W.mg_of X G a_law_take, b_law_take⟩ T 
  have C_law_of := ok_law_of (P := l.prog) (w := w) (base := base) (CW := CW) ⟨f_law_of, _, F_law_of, PySem.W.mg_of X G a_law_of, b_law_of⟩ T C_law_take
  have C_law_some := ok_law_some (P := l.prog) (w := w) (base := base) (CW := CW) ⟨f_law_some, _, F_law_some, PySem.W.mg_of X G a_law_some, b_law_some⟩ T C_law_take
  have C_law_cells := ok_law_cells (P := l.prog) (w := w) (base := base) (CW := CW) ⟨f_law_cells, _, F_law_cells, PySem.W.mg_of X G a_law_cells, b_law_cells⟩ T 
  have C_law_web_text := ok_law_web_text (P := l.prog) (w := w) (base := base) (CW := CW) ⟨f_law_web_text, _, F_law_web_text, PySem.W.mg_of X G a_law_web_text, b_law_web_text⟩ T 
  have C_law_web_times := ok_law_web_times (P := l.prog) (w := w) (base := base) (CW := CW) ⟨f_law_web_times, _, F_law_web_times, PySem.W.mg_of X G a_law_web_times, b_law_web_times⟩ T 
  have C_law_web_roads := ok_law_web_roads (P := l.prog) (w := w) (base := base) (CW := CW) ⟨f_law_web_roads, _, F_law_web_roads, PySem.W.mg_of X G a_law_web_roads, b_law_web_roads⟩ T C_law_web_times
  have C_law_web_inner := ok_law_web_inner (P := l.prog) (w := w) (base := base) (CW := CW) ⟨f_law_web_inner, _, F_law_web_inner, PySem.W.mg_of X G a_law_web_inner, b_law_web_inner⟩ T C_law_web_times
  have C_law_web_ends := ok_law_web_ends (P := l.prog) (w := w) (base := base) (CW := CW) ⟨f_law_web_ends, _, F_law_web_ends, PySem.W.mg_of X G a_law_web_ends, b_law_web_ends⟩ T C_law_web_times
  have C_law_web_at := ok_law_web_at (P := l.prog) (w := w) (base := base) (CW := CW) ⟨f_law_web_at, _, F_law_web_at, PySem.W.mg_of X G a_law_web_at, b_law_web_at⟩ T 
  have C_law_web_names := ok_law_web_names (P := l.prog) (w := w) (base := base) (CW := CW) ⟨f_law_web_names, _, F_law_web_names, PySem.W.mg_of X G a_law_web_names, b_law_web_names⟩ T C_law_some
  have C_law_web_put := ok_law_web_put (P := l.prog) (w := w) (base := base) (CW := CW) ⟨f_law_web_put, _, F_law_web_put, PySem.W.mg_of X G a_law_web_put, b_law_web_put⟩ T 
  have C_law_web_tree := ok_law_web_tree (P := l.prog) (w := w) (base := base) (CW := CW) ⟨f_law_web_tree, _, F_law_web_tree, PySem.W.mg_of X G a_law_web_tree, b_law_web_tree⟩ T C_law_of C_law_web_roads C_law_web_times C_law_web_put
  have C_law_web_turned := ok_law_web_turned (P := l.prog) (w := w) (base := base) (CW := CW) ⟨f_law_web_turned, _, F_law_web_turned, PySem.W.mg_of X G a_law_web_turned, b_law_web_turned⟩ T C_law_some
  have C_law_web_drawn := ok_law_web_drawn (P := l.prog) (w := w) (base := base) (CW := CW) ⟨f_law_web_drawn, _, F_law_web_drawn, PySem.W.mg_of X G a_law_web_drawn, b_law_web_drawn⟩ T C_law_web_tree C_law_web_names C_law_some C_law_web_ends C_law_web_put C_law_web_turned
  have C_law_flip_roads := ok_law_flip_roads (P := l.prog) (w := w) (base := base) (CW := CW) ⟨f_law_flip_roads, _, F_law_flip_roads, PySem.W.mg_of X G a_law_flip_roads, b_law_flip_roads⟩ T C_law_web_inner C_law_web_at
  have C_law_flip_four := ok_law_flip_four (P := l.prog) (w := w) (base := base) (CW := CW) ⟨f_law_flip_four, _, F_law_flip_four, PySem.W.mg_of X G a_law_flip_four, b_law_flip_four⟩ T 
  have C_law_flip_web := ok_law_flip_web (P := l.prog) (w := w) (base := base) (CW := CW) ⟨f_law_flip_web, _, F_law_flip_web, PySem.W.mg_of X G a_law_flip_web, b_law_flip_web⟩ T C_law_flip_four
  have C_law_scene_web := ok_law_scene_web (P := l.prog) (w := w) (base := base) (CW := CW) ⟨f_law_scene_web, _, F_law_scene_web, PySem.W.mg_of X G a_law_scene_web, b_law_scene_web⟩ T C_law_of C_law_web_drawn
  have C_law_is_flip_right := ok_law_is_flip_right (P := l.prog) (w := w) (base := base) (CW := CW) ⟨f_law_is_flip_right, _, F_law_is_flip_right, PySem.W.mg_of X G a_law_is_flip_right, b_law_is_flip_right⟩ T C_law_flip_web C_flipped C_law_web_text C_same_meets
  have C_law_right := ok_law_right (P := l.prog) (w := w) (base := base) (CW := CW) ⟨f_law_right, _, F_law_right, PySem.W.mg_of X G a_law_right, b_law_right⟩ T C_law_scene_web C_law_flip_roads C_Web_init__ C_law_web_text C_law_is_flip_right
  have z := ok_law (P := l.prog) (w := w) (base := base) (CW := CW) F_law T C_law_cells C_law_right C_law_pot
  exact z
theorem walk {l : PySem.W.OpenLaw} {q : Program} {loose : List Str} {XP : (Str → Option Value) → Heap → Prop} {YP : World → Heap → Prop} {d : DefRec} {K : Params → PySem.W.Frag} (hn : l.most = some 63) (hdf : d.params.defaults = [])
    (hY : ∀ (w : World) (h : Heap), YP w h → (K w.params).In h)
    (F : ∀ (w : World) (mg : Str → Option Value) (fa : Addr) (h : Heap), (K w.params).In h → h.Ns mainGlobals mg → mg d.name = some (.ref fa) →
      ∃ fd : FuncData, (∀ (s : Shared) (u : Value), BindsTo s fd ⟨[u], []⟩ [("script", u)]) ∧ ∀ base : Heap, (K w.params).In base → base.Ns mainGlobals mg → FnOk l.prog w (K w.params) mg base CX0 9 fa fd ["script"] (sp_law (K w.params) fa)) :
    PySem.W.WalkO q loose XP YP l.row.toRowW d [] (fun f vs => PySem.call f vs) :=
  L2.walk_of (n := 63) (k := 9) (x := "script") (CX := fun _ => CX0) (sp := fun w => sp_law (K w.params) (0 : Nat)) hn (by decide) hdf ⟨rfl, by decide, by decide⟩ hY F (fun _ _ a ns hl _ hS => ⟨_, rfl, a, ns, rfl, hS, fun _ _ => rfl⟩) fun _ _ _ _ _ z => z
end Tc
open PySem PySem.W PyProof.Rows in
set_option maxRecDepth 100000 in
set_option maxHeartbeats 0 in
theorem PySem.Challenge.cw_threeroadcars_k11_whole_webs_flipped_and_holds : PySem.Challenge.rw_threeroadcars_k11_whole_webs_flipped_and.Holds := by
  w_on; o_law; k_head; (case hw => w_witness2)
  k_fill
  refine Tc.walk (l := PySem.Challenge.rw_threeroadcars_k11_whole_webs_flipped_and) rfl rfl (fun w h Y => PySem.W.kIn_of Y) ?F
  case F =>
    intro w mg fa h KX G hmg
    refine' Tc.all_mk KX G hmg ?aW ?a_is_whole ?l_is_whole ?c_is_whole ?k_is_whole ?a_is_name ?l_is_name ?c_is_name ?k_is_name ?a_all_words ?l_all_words ?c_all_words ?k_all_words ?a_meeting_roads ?l_meeting_roads ?c_meeting_roads ?k_meeting_roads ?a_read_junctions ?l_read_junctions ?c_read_junctions ?k_read_junctions ?a_places_of ?l_places_of ?c_places_of ?k_places_of ?a_reached ?l_reached ?l_dfl ?l_dfe ?c_reached ?k_reached ?a_check_hanging_together ?l_check_hanging_together ?c_check_hanging_together ?k_check_hanging_together ?a_Web_init__ ?i_Web_init__ ?l_Web_init__ ?c_Web_init__ ?k_Web_init__ ?a_text_of ?l_text_of ?c_text_of ?k_text_of ?a_sorted_meets ?l_sorted_meets ?c_sorted_meets ?k_sorted_meets ?a_same_meets ?l_same_meets ?c_same_meets ?k_same_meets ?a_can_flip ?l_can_flip ?c_can_flip ?k_can_flip ?a_is_way ?l_is_way ?c_is_way ?k_is_way ?a_check_road ?l_check_road ?c_check_road ?k_check_road ?a_check_way ?l_check_way ?c_check_way ?k_check_way ?a_words_beside ?l_words_beside ?c_words_beside ?k_words_beside ?a_flipped_junctions ?l_flipped_junctions ?c_flipped_junctions ?k_flipped_junctions ?a_flipped ?l_flipped ?c_flipped ?k_flipped ?a_law_pot ?l_law_pot ?c_law_pot ?k_law_pot ?a_law_take ?l_law_take ?c_law_take ?k_law_take ?a_law_of ?l_law_of ?c_law_of ?k_law_of ?a_law_some ?l_law_some ?c_law_some ?k_law_some ?a_law_cells ?l_law_cells ?c_law_cells ?k_law_cells ?a_law_web_text ?l_law_web_text ?c_law_web_text ?k_law_web_text ?a_law_web_times ?l_law_web_times ?c_law_web_times ?k_law_web_times ?a_law_web_roads ?l_law_web_roads ?c_law_web_roads ?k_law_web_roads ?a_law_web_inner ?l_law_web_inner ?c_law_web_inner ?k_law_web_inner ?a_law_web_ends ?l_law_web_ends ?c_law_web_ends ?k_law_web_ends ?a_law_web_at ?l_law_web_at ?c_law_web_at ?k_law_web_at ?a_law_web_names ?l_law_web_names ?c_law_web_names ?k_law_web_names ?a_law_web_put ?l_law_web_put ?c_law_web_put ?k_law_web_put ?a_law_web_tree ?l_law_web_tree ?c_law_web_tree ?k_law_web_tree ?a_law_web_drawn ?l_law_web_drawn ?c_law_web_drawn ?k_law_web_drawn ?a_law_web_turned ?l_law_web_turned ?c_law_web_turned ?k_law_web_turned ?a_law_flip_roads ?l_law_flip_roads ?c_law_flip_roads ?k_law_flip_roads ?a_law_flip_four ?l_law_flip_four ?c_law_flip_four ?k_law_flip_four ?a_law_flip_web ?l_law_flip_web ?c_law_flip_web ?k_law_flip_web ?a_law_scene_web ?l_law_scene_web ?c_law_scene_web ?k_law_scene_web ?a_law_is_flip_right ?l_law_is_flip_right ?c_law_is_flip_right ?k_law_is_flip_right ?a_law_right ?l_law_right ?c_law_right ?k_law_right ?a_law ?l_law ?c_law ?k_law ?pg ?hd ?po ?sa ?mk ?kc ?n_text ?n_junctions ?n_roads ?n_inner ?n_ends ?n_rounds ?z_isinstance ?z_bool ?z_int ?z_all ?z_len ?z_str ?z_tuple ?z_enumerate ?z_any ?z_range ?z_sorted ?z_set ?z_list ?z_sum ?z_abs ?z_max ?z_min ?q_LETTERS ?q_LONGEST_NAME ?q_FIRST_WORD ?q_FIRST_LINE ?q_MOST_JUNCTIONS ?q_FIRST_WAY ?q_SECOND_WAY
    (case aW => k_is)
    (case a_is_whole => k_is)
    (case l_is_whole => k_is)
    (case c_is_whole => k_is)
    (case k_is_whole => k_is)
    (case a_is_name => k_is)
    (case l_is_name => k_is)
    (case c_is_name => k_is)
    (case k_is_name => k_is)
    (case a_all_words => k_is)
    (case l_all_words => k_is)
    (case c_all_words => k_is)
    (case k_all_words => k_is)
    (case a_meeting_roads => k_is)
    (case l_meeting_roads => k_is)
    (case c_meeting_roads => k_is)
    (case k_meeting_roads => k_is)
    (case a_read_junctions => k_is)
    (case l_read_junctions => k_is)
    (case c_read_junctions => k_is)
    (case k_read_junctions => k_is)
    (case a_places_of => k_is)
    (case l_places_of => k_is)
    (case c_places_of => k_is)
    (case k_places_of => k_is)
    (case a_reached => k_is)
    (case l_reached => k_is)
    (case l_dfl => k_is)
    (case l_dfe => k_is)
    (case c_reached => k_is)
    (case k_reached => k_is)
    (case a_check_hanging_together => k_is)
    (case l_check_hanging_together => k_is)
    (case c_check_hanging_together => k_is)
    (case k_check_hanging_together => k_is)
    (case a_Web_init__ => k_is)
    (case i_Web_init__ => k_is)
    (case l_Web_init__ => k_is)
    (case c_Web_init__ => k_is)
    (case k_Web_init__ => k_is)
    (case a_text_of => k_is)
    (case l_text_of => k_is)
    (case c_text_of => k_is)
    (case k_text_of => k_is)
    (case a_sorted_meets => k_is)
    (case l_sorted_meets => k_is)
    (case c_sorted_meets => k_is)
    (case k_sorted_meets => k_is)
    (case a_same_meets => k_is)
    (case l_same_meets => k_is)
    (case c_same_meets => k_is)
    (case k_same_meets => k_is)
    (case a_can_flip => k_is)
    (case l_can_flip => k_is)
    (case c_can_flip => k_is)
    (case k_can_flip => k_is)
    (case a_is_way => k_is)
    (case l_is_way => k_is)
    (case c_is_way => k_is)
    (case k_is_way => k_is)
    (case a_check_road => k_is)
    (case l_check_road => k_is)
    (case c_check_road => k_is)
    (case k_check_road => k_is)
    (case a_check_way => k_is)
    (case l_check_way => k_is)
    (case c_check_way => k_is)
    (case k_check_way => k_is)
    (case a_words_beside => k_is)
    (case l_words_beside => k_is)
    (case c_words_beside => k_is)
    (case k_words_beside => k_is)
    (case a_flipped_junctions => k_is)
    (case l_flipped_junctions => k_is)
    (case c_flipped_junctions => k_is)
    (case k_flipped_junctions => k_is)
    (case a_flipped => k_is)
    (case l_flipped => k_is)
    (case c_flipped => k_is)
    (case k_flipped => k_is)
    (case a_law_pot => k_is)
    (case l_law_pot => k_is)
    (case c_law_pot => k_is)
    (case k_law_pot => k_is)
    (case a_law_take => k_is)
    (case l_law_take => k_is)
    (case c_law_take => k_is)
    (case k_law_take => k_is)
    (case a_law_of => k_is)
    (case l_law_of => k_is)
    (case c_law_of => k_is)
    (case k_law_of => k_is)
    (case a_law_some => k_is)
    (case l_law_some => k_is)
    (case c_law_some => k_is)
    (case k_law_some => k_is)
    (case a_law_cells => k_is)
    (case l_law_cells => k_is)
    (case c_law_cells => k_is)
    (case k_law_cells => k_is)
    (case a_law_web_text => k_is)
    (case l_law_web_text => k_is)
    (case c_law_web_text => k_is)
    (case k_law_web_text => k_is)
    (case a_law_web_times => k_is)
    (case l_law_web_times => k_is)
    (case c_law_web_times => k_is)
    (case k_law_web_times => k_is)
    (case a_law_web_roads => k_is)
    (case l_law_web_roads => k_is)
    (case c_law_web_roads => k_is)
    (case k_law_web_roads => k_is)
    (case a_law_web_inner => k_is)
    (case l_law_web_inner => k_is)
    (case c_law_web_inner => k_is)
    (case k_law_web_inner => k_is)
    (case a_law_web_ends => k_is)
    (case l_law_web_ends => k_is)
    (case c_law_web_ends => k_is)
    (case k_law_web_ends => k_is)
    (case a_law_web_at => k_is)
    (case l_law_web_at => k_is)
    (case c_law_web_at => k_is)
    (case k_law_web_at => k_is)
    (case a_law_web_names => k_is)
    (case l_law_web_names => k_is)
    (case c_law_web_names => k_is)
    (case k_law_web_names => k_is)
    (case a_law_web_put => k_is)
    (case l_law_web_put => k_is)
    (case c_law_web_put => k_is)
    (case k_law_web_put => k_is)
    (case a_law_web_tree => k_is)
    (case l_law_web_tree => k_is)
    (case c_law_web_tree => k_is)
    (case k_law_web_tree => k_is)
    (case a_law_web_drawn => k_is)
    (case l_law_web_drawn => k_is)
    (case c_law_web_drawn => k_is)
    (case k_law_web_drawn => k_is)
    (case a_law_web_turned => k_is)
    (case l_law_web_turned => k_is)
    (case c_law_web_turned => k_is)
    (case k_law_web_turned => k_is)
    (case a_law_flip_roads => k_is)
    (case l_law_flip_roads => k_is)
    (case c_law_flip_roads => k_is)
    (case k_law_flip_roads => k_is)
    (case a_law_flip_four => k_is)
    (case l_law_flip_four => k_is)
    (case c_law_flip_four => k_is)
    (case k_law_flip_four => k_is)
    (case a_law_flip_web => k_is)
    (case l_law_flip_web => k_is)
    (case c_law_flip_web => k_is)
    (case k_law_flip_web => k_is)
    (case a_law_scene_web => k_is)
    (case l_law_scene_web => k_is)
    (case c_law_scene_web => k_is)
    (case k_law_scene_web => k_is)
    (case a_law_is_flip_right => k_is)
    (case l_law_is_flip_right => k_is)
    (case c_law_is_flip_right => k_is)
    (case k_law_is_flip_right => k_is)
    (case a_law_right => k_is)
    (case l_law_right => k_is)
    (case c_law_right => k_is)
    (case k_law_right => k_is)
    (case a_law => k_is)
    (case l_law => k_is)
    (case c_law => k_is)
    (case k_law => k_is)
    (case pg => k_is)
    (case hd => k_is)
    (case po => k_is)
    (case sa => k_is)
    (case mk => k_is)
    (case kc => k_is)
    (case n_text => k_is)
    (case n_junctions => k_is)
    (case n_roads => k_is)
    (case n_inner => k_is)
    (case n_ends => k_is)
    (case n_rounds => k_is)
    (case z_isinstance => k_is)
    (case z_bool => k_is)
    (case z_int => k_is)
    (case z_all => k_is)
    (case z_len => k_is)
    (case z_str => k_is)
    (case z_tuple => k_is)
    (case z_enumerate => k_is)
    (case z_any => k_is)
    (case z_range => k_is)
    (case z_sorted => k_is)
    (case z_set => k_is)
    (case z_list => k_is)
    (case z_sum => k_is)
    (case z_abs => k_is)
    (case z_max => k_is)
    (case z_min => k_is)
    (case q_LETTERS => k_is)
    (case q_LONGEST_NAME => k_is)
    (case q_FIRST_WORD => k_is)
    (case q_FIRST_LINE => k_is)
    (case q_MOST_JUNCTIONS => k_is)
    (case q_FIRST_WAY => k_is)
    (case q_SECOND_WAY => k_is)
