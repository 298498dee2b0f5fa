import PyProof.Rows.All
import Wide.All
import OpenK.AllK
import Wide.FinOn
import HandS.ForMost
import HandS.Evl
import HandS.Wide
import HandS.NoneIn
import HandS.IsInst
import HandS.Gcd
import HandS.Deep
import HandS.Flow
import HandS.Style
import KE.KTupSum
import KE.KDictKeyed
import KE.KDictCopyH
import HandS.ForExc
import HandS.ExcCtx
import HandS.HotCalls
import PyProof.TupleIter
import HandS.Zip
import HandS.Iter
import KE.KMathGC
import HandS.SetKeys
import HandS.More
import HandS.Conv
import HandS.ExcOwn
import HandS.WordsExc
import HandS.TryOnly
import HandS.Dict
import HandS.Small
import HandS.Text
import HandS.DictTup
import PyProof.WalksMore
import PyProof.CollectIter
import PyProof.MakeMany
import HandS.Star
import HandS.ExcSuper
import HandS.FStr
import KE.KExcInit
import KE.KExcSuper
import KE.KSuper
import HandS.TupSets
import PyProof.Rows.SortKeyStr
import HandS.TupAny
import PySem.Challenge.RW_justthepart_k05_taken_nets
set_option Elab.async false
set_option linter.all false
set_option maxRecDepth 100000
set_option maxHeartbeats 4000000
/-! Vh, part A: what is walked to its end where an error is being handled (own work). -/
namespace VhX
open PySem PySem.Spec PyProof.Rows HotX
abbrev Keeps (h h' : Heap) : Prop := ∀ b o, h.get? b = some o → h'.get? b = some o
section
variable {prog : Program} {w : World} {A : Around} {E : Value → Shared → Prop} {s : Shared}
/-- StopIteration made and raised -/
theorem newStop_hot {α : Type} {x1 : Addr} {Q : α → Shared → Prop} (hot : HotAt A x1 s.heap) (h : ∀ h' a o, Keeps s.heap h' → h'.get? a = some o → o.cls = .type "StopIteration" → E (.ref a) { s with heap := h' }) :
    wpAny (model prog w) A (newExc (.type "StopIteration") [] >>= fun e => (raiseNew e : Sem α)) Q E s := by
  obtain ⟨hh, o1, vs1, h1, d1, c1⟩ := hot
  simp only [newExc, newTuple]
  refine wpAny_bind (wpAny_bind (wpAny_newObj_type (wpAny_bind (m := firstArgMember _ _) (wpAny_of_eq (a := Value.none) (by first | rfl | (simp only [firstArgMember]; rfl)) (wpAny_newObj_type ?_ (by size_fits)))) (by size_fits)))
  have k2 : ∀ {u v : Obj}, Keeps s.heap ((s.heap.push u).push v) := fun b o e => Heap.get?_push_of_some _ (Heap.get?_push_of_some _ e)
  refine raiseNew_hot (x1 := x1) ⟨hh, o1, vs1, k2 _ _ h1, d1, c1⟩ (Nat.ne_of_lt (Heap.lt_size (Heap.get?_push_of_some _ h1))) (Heap.get?_push_size _ rfl) rfl (by first | (simp; done) | (simp; omega)) (h _ _ _ (fun b o e => ?_) (Heap.get?_update_self _ (Heap.get?_push_size _ rfl) rfl) rfl)
  rw [Heap.get?_update_other _ _ (Nat.ne_of_gt (Heap.lt_size (Heap.get?_push_of_some _ e)))]
  exact k2 b o e
/-- what is handled stays so when another thing, of two fields at most, is written -/
theorem hot_upd {x1 it : Addr} {o : Obj} {vs : Array Value} {f : Obj → Obj} (hot : HotAt A x1 s.heap) (ho : s.heap.get? it = some o) (hd : o.data = .fields vs) (h2 : vs[2]? = none) : HotAt A x1 (s.heap.update it f) := by
  obtain ⟨hh, o1, vs1, h1, d1, c1⟩ := hot
  have ne : x1 ≠ it := fun e => by
    rw [e, ho] at h1
    cases h1
    rw [hd] at d1
    cases d1
    rw [h2] at c1
    cases c1
  refine ⟨hh, o1, vs1, ?_, d1, c1⟩
  rw [Heap.get?_update_other _ _ (Ne.symm ne)]
  exact h1
theorem tupEnd_hot {it t x1 : Addr} {i : Nat} {items : Array Value} {Q : Option Value → Shared → Prop} (hot : HotAt A x1 s.heap) (hit : s.heap.IsTupleIter it t i) (ht : s.heap.IsTuple t items) (hx : items[i]? = none)
    (hQ : ∀ h', (∀ b o, b ≠ it → s.heap.get? b = some o → h'.get? b = some o) → Q none { s with heap := h' }) : wpAny (model prog w) A (pyNext (.ref it)) Q E s := by
  obtain ⟨o, ho, hc, hd⟩ := id hit
  obtain ⟨ol, hol, _, nl, hdl⟩ := ht
  unfold pyNext
  refine wpAny_bind (wpAny_attempt (wpAny_callSpecial?_slot (name := Str.ofString "__next__") hit.typeIs F.slot_tuple_iterator_next (wpAny_call_entry F.slot_tuple_iterator_next hit.typeIs F.entry_tuple_iterator_next ?_ (F.args_tuple_iterator_next_1 _))))
  show wpAny _ _ (field (.ref it) 0 >>= _) _ _ s
  refine wpAny_bind (wpAny_field ho hd (x := .ref t) rfl ?_); show wpAny _ _ (if (Value.ref t == Value.none) = true then _ else _) _ _ s
  rw [if_neg (by intro h; cases h)]; show wpAny _ _ (field (.ref it) 1 >>= _) _ _ s
  refine wpAny_bind (wpAny_field ho hd (x := .int i 0) rfl ?_); show wpAny _ _ (seqItems? (.ref t) >>= _) _ _ s
  refine wpAny_bind (wpAny_seqItems hol hdl ?_); simp only [Int.toNat_natCast, hx]
  refine wpAny_bind (wpAny_rule (wpAny_bind (wpAny_setField ho hd (by simp) ?_)))
  refine newStop_hot (hot_upd hot ho hd (by simp)) fun h' a oe hk ha hcl => ?_
  refine wpAny_bind (wpAny_isInstance (b := true) ⟨_, ha, hcl⟩ isSubtype_stop (wpAny_pure (hQ h' fun b ob hb e => hk b ob ?_)))
  rw [Heap.get?_update_other _ _ (Ne.symm hb)]
  exact e
theorem hot_keep {x1 : Addr} {h h' : Heap} (hot : HotAt A x1 h) (k : ∀ o, h.get? x1 = some o → h'.get? x1 = some o) : HotAt A x1 h' := by
  obtain ⟨hh, o1, vs1, h1, d1, c1⟩ := hot
  exact ⟨hh, o1, vs1, k _ h1, d1, c1⟩
theorem hot_lt {x1 : Addr} {h : Heap} (hot : HotAt A x1 h) : x1 < h.objs.size := by
  obtain ⟨_, o1, _, h1, _⟩ := hot
  exact Heap.lt_size h1
theorem unpackItems_hot {t x1 : Addr} {items : Array Value} {Q : List Value → Shared → Prop} (hot : HotAt A x1 s.heap) (ht : s.heap.IsTuple t items) (hQ : ∀ h', Keeps s.heap h' → Q items.toList { s with heap := h' }) : wpAny (model prog w) A (unpackItems (.ref t) items.size none) Q E s := by
  have low : ∀ {b : Addr} {o : Obj}, s.heap.get? b = some o → b ≠ s.heap.objs.size := fun e => Nat.ne_of_lt (Heap.lt_size e)
  have hlt : t ≠ s.heap.objs.size := let ⟨_, ho, _⟩ := ht; low ho
  unfold unpackItems notIterableAtAll
  refine wpAny_bind (wpAny_bind (wpAny_specialOf ht.typeIs F.slot_tuple_iter.lookup (wpAny_pure ?_))); simp only [Bool.false_eq_true, if_false]
  refine wpAny_bind (wpAny_holding (wpAny_pyIter_tuple ht (wpAny_bind (wpAny_holding (wpAny_draw_tuple hlt items.size 0 _ _ ⟨_, Heap.get?_push_size _ rfl, rfl, rfl⟩ (ht.push _) (by omega) fun h₁ hit₁ hs₁ => ?_)))))
  rw [List.drop_zero, List.take_of_length_le (by simp), if_neg (by simp)]
  have k1 : Keeps s.heap h₁ := fun b o e => hs₁.extBut b o (low e) (Heap.get?_push_of_some _ e)
  refine wpAny_bind (wpAny_holding (tupEnd_hot (hot_keep hot fun o e => k1 _ o e) hit₁ ((ht.push _).extBut hs₁.extBut hlt) (by simp) fun h₂ he₂ => ?_))
  simp only [Option.isSome_none, Bool.false_eq_true, if_false]
  exact wpAny_pure (hQ h₂ fun b o e => he₂ b o (low e) (k1 b o e))
theorem unpack_hot {t x1 : Addr} {items : Array Value} {targets : List (Bool × (Value → Sem Unit))} {Q : Unit → Shared → Prop} (hot : HotAt A x1 s.heap) (ht : s.heap.IsTuple t items) (hn : targets.length = items.size) (hstar : targets.findIdx? (·.1) = none)
    (h : ∀ h', Keeps s.heap h' → wpAny (model prog w) A (assignInOrder (targets.map (·.2)) items.toList) Q E { s with heap := h' }) : wpAny (model prog w) A (unpack (.ref t) targets) Q E s := by
  unfold unpack; rw [hn, hstar]; exact wpAny_bind (wpAny_holding (unpackItems_hot hot ht h))
end

open PySem PySem.Spec PyProof.Rows HotX
section
variable {prog : Program} {w : World} {A : Around} {E : Value → Shared → Prop} {s : Shared}
abbrev KeepBut (it : Addr) (h h' : Heap) : Prop := ∀ b o, b ≠ it → h.get? b = some o → h'.get? b = some o
theorem asciiEnd_hot {it x1 : Addr} {x : Str} {t : Tok} {i : Nat} {Q : Option Value → Shared → Prop} (hot : HotAt A x1 s.heap) (hit : s.heap.IsStrIter it "str_ascii_iterator" x t i) (hx : x.cps[i]? = none)
    (hQ : ∀ h', KeepBut it s.heap h' → Q none { s with heap := h' }) : wpAny (model prog w) A (pyNext (.ref it)) Q E s := by
  obtain ⟨o, ho, hc, hd⟩ := id hit
  unfold pyNext
  refine wpAny_bind (wpAny_attempt (wpAny_callSpecial?_slot (name := Str.ofString "__next__") hit.typeIs F.slot_str_ascii_iterator_next (wpAny_call_entry F.slot_str_ascii_iterator_next hit.typeIs F.entry_str_ascii_iterator_next ?_ (F.args_str_ascii_iterator_next_1 _)))); show wpAny _ _ (field (.ref it) 0 >>= _) _ _ s
  refine wpAny_bind (wpAny_field ho hd (x := .str x t) rfl ?_); show wpAny _ _ (field (.ref it) 1 >>= _) _ _ s
  refine wpAny_bind (wpAny_field ho hd (x := .int i 0) rfl ?_); simp only [Int.toNat_natCast, hx]
  refine wpAny_bind (wpAny_rule (wpAny_bind (wpAny_setField ho hd (by simp) (wpAny_bind (wpAny_letGo (newStop_hot (hot_upd hot ho hd (by simp)) fun h' a oe hk ha hcl => ?_))))))
  refine wpAny_bind (wpAny_isInstance (b := true) ⟨_, ha, hcl⟩ isSubtype_stop (wpAny_pure (hQ h' fun b ob hb e => hk b ob ?_)))
  rw [Heap.get?_update_other _ _ (Ne.symm hb)]; exact e
theorem wideEnd_hot {it x1 : Addr} {x : Str} {t : Tok} {i : Nat} {Q : Option Value → Shared → Prop} (hot : HotAt A x1 s.heap) (hit : s.heap.IsStrIter it "str_iterator" x t i) (hx : x.cps[i]? = none)
    (hQ : ∀ h', KeepBut it s.heap h' → Q none { s with heap := h' }) : wpAny (model prog w) A (pyNext (.ref it)) Q E s := by
  obtain ⟨o, ho, hc, hd⟩ := id hit
  unfold pyNext
  refine wpAny_bind (wpAny_attempt (wpAny_callSpecial?_slot (name := Str.ofString "__next__") hit.typeIs F.slot_str_iterator_next (wpAny_call_entry F.slot_str_iterator_next hit.typeIs F.entry_str_iterator_next ?_ (F.args_str_iterator_next_1 _)))); show wpAny _ _ (field (.ref it) 0 >>= _) _ _ s
  refine wpAny_bind (wpAny_field ho hd (x := .str x t) rfl ?_); show wpAny _ _ (field (.ref it) 1 >>= _) _ _ s
  refine wpAny_bind (wpAny_field ho hd (x := .int i 0) rfl ?_); simp only [Int.toNat_natCast, hx]
  refine wpAny_bind (wpAny_rule (wpAny_bind (wpAny_setField ho hd (by simp) (wpAny_bind (wpAny_letGo (newStop_hot (hot_upd hot ho hd (by simp)) fun h' a oe hk ha hcl => ?_))))))
  refine wpAny_bind (wpAny_isInstance (b := true) ⟨_, ha, hcl⟩ isSubtype_stop (wpAny_pure (hQ h' fun b ob hb e => hk b ob ?_)))
  rw [Heap.get?_update_other _ _ (Ne.symm hb)]; exact e
theorem listEnd_hot {it t x1 : Addr} {i : Nat} {items : Array Value} {Q : Option Value → Shared → Prop} (hot : HotAt A x1 s.heap) (hit : s.heap.IsListIter it t i) (ht : s.heap.IsList t items) (hx : items[i]? = none)
    (hQ : ∀ h', KeepBut it s.heap h' → Q none { s with heap := h' }) : wpAny (model prog w) A (pyNext (.ref it)) Q E s := by
  obtain ⟨o, ho, hc, hd⟩ := id hit
  obtain ⟨ol, hol, _, nl, hdl⟩ := ht
  unfold pyNext
  refine wpAny_bind (wpAny_attempt (wpAny_callSpecial?_slot (name := Str.ofString "__next__") hit.typeIs slot_listiter_next (wpAny_call_entry slot_listiter_next hit.typeIs entry_listiter_next ?_ (args_listiter_next _)))); show wpAny _ _ (field (.ref it) 0 >>= _) _ _ s
  refine wpAny_bind (wpAny_field ho hd (x := .ref t) rfl ?_); show wpAny _ _ (if (Value.ref t == Value.none) = true then _ else _) _ _ s
  rw [if_neg (by intro h; cases h)]; show wpAny _ _ (field (.ref it) 1 >>= _) _ _ s
  refine wpAny_bind (wpAny_field ho hd (x := .int i 0) rfl ?_); show wpAny _ _ (seqItems? (.ref t) >>= _) _ _ s
  refine wpAny_bind (wpAny_seqItems hol hdl ?_); simp only [Int.toNat_natCast, hx]
  refine wpAny_bind (wpAny_rule (wpAny_bind (wpAny_setField ho hd (by simp) (newStop_hot (hot_upd hot ho hd (by simp)) fun h' a oe hk ha hcl => ?_))))
  refine wpAny_bind (wpAny_isInstance (b := true) ⟨_, ha, hcl⟩ isSubtype_stop (wpAny_pure (hQ h' fun b ob hb e => hk b ob ?_)))
  rw [Heap.get?_update_other _ _ (Ne.symm hb)]; exact e
/-- a list walked whole by what a built-in does -/
theorem walksList_hot {x1 : Addr} (I ax : Addr) (hne : ax ≠ I) (items : Array Value) : Walks prog w A I [I, ax, x1] [I] items.size (fun i v => items[i]? = some v) (fun i h => h.IsListIter I ax i ∧ h.IsList ax items ∧ HotAt A x1 h ∧ x1 ≠ I) where
  sub := fun b hb => by simp at hb; simp [hb]
  frame := fun _ _ _ st hk => ⟨st.1.at fun o e => hk I (by simp) o e, st.2.1.at fun o e => hk ax (by simp) o e, hot_keep st.2.2.1 fun o e => hk x1 (by simp) o e, st.2.2.2⟩
  item := fun i s Q E hi st hQ => wpAny_pyNext_list_item st.1 st.2.1 (x := items[i]) (by simp [hi]) fun h' hit' hs' =>
    hQ _ h' s.toks (by simp [hi]) ⟨hit', st.2.1.extBut hs'.extBut hne, hot_keep st.2.2.1 fun o e => hs'.extBut _ o st.2.2.2 e, st.2.2.2⟩ fun b o hb e => hs'.extBut b o (fun h => hb (by simp [h])) e
  done := fun s Q E st hQ => listEnd_hot st.2.2.1 st.1 st.2.1 (by simp) fun h' he' => hQ h' s.toks fun b o hb e => he' b o (fun h => hb (by simp [h])) e
  self := fun _ _ _ _ st hQ => wpAny_pyIter_listiter st.1 hQ
theorem walksTup_hot {x1 : Addr} (I ax : Addr) (hne : ax ≠ I) (items : Array Value) (k : Nat) : WalksS prog w A I [I, ax, x1] [I] (fun a b => b = a) (items.size - k) (fun i v => items[k + i]? = some v) (fun i s => s.heap.IsTupleIter I ax (k + i) ∧ s.heap.IsTuple ax items ∧ k ≤ items.size ∧ HotAt A x1 s.heap ∧ x1 ≠ I) where
  sub := fun b hb => by simp at hb; simp [hb]
  grefl := fun _ => rfl
  gtrans := fun _ _ _ h1 h2 => h2.trans h1
  frame := fun i s h' tk st _ hk => ⟨st.1.at fun o e => hk I (by simp) o e, st.2.1.at fun o e => hk ax (by simp) o e, st.2.2.1, hot_keep st.2.2.2.1 fun o e => hk x1 (by simp) o e, st.2.2.2.2⟩
  item := fun i s Q E hi st hQ => wpAny_pyNext_tuple_item st.1 st.2.1 (x := items[k + i]'(by omega)) (by simp) fun h' hit' hs' =>
    hQ _ { s with heap := h' } (by simp) ⟨hit', st.2.1.extBut hs'.extBut hne, st.2.2.1, hot_keep st.2.2.2.1 fun o e => hs'.extBut _ o st.2.2.2.2 e, st.2.2.2.2⟩ ⟨fun b o hb e => hs'.extBut b o (fun h => hb (by simp [h])) e, rfl, rfl, rfl, Nat.le_refl _⟩
  done := fun s Q E st hQ => tupEnd_hot st.2.2.2.1 st.1 st.2.1 (by have := st.2.2.1; simp; omega) fun h' he' => hQ { s with heap := h' } ⟨fun b o hb e => he' b o (fun h => hb (by simp [h])) e, rfl, rfl, rfl, Nat.le_refl _⟩
  self := fun _ _ _ _ st hQ => wpAny_pyIter_tupleiter st.1 hQ
/-- the next of a tuple that is done, within zip -/
theorem nextOfEnd_hot {it t x1 : Addr} {i : Nat} {items : Array Value} {Q : Value → Shared → Prop} (hot : HotAt A x1 s.heap) (hit : s.heap.IsTupleIter it t i) (ht : s.heap.IsTuple t items) (hx : items[i]? = none)
    (hE : ∀ h' e, KeepBut it s.heap h' → (∃ o, h'.get? e = some o ∧ o.cls = .type "StopIteration") → E (.ref e) { s with heap := h' }) : wpAny (model prog w) A (Builtin.SmallTypes.nextOf (.ref it)) Q E s := by
  obtain ⟨o, ho, hc, hd⟩ := id hit
  obtain ⟨ol, hol, _, nl, hdl⟩ := ht
  unfold Builtin.SmallTypes.nextOf
  refine wpAny_bind (wpAny_callSpecial?_slot (name := Str.ofString "__next__") hit.typeIs F.slot_tuple_iterator_next (wpAny_call_entry F.slot_tuple_iterator_next hit.typeIs F.entry_tuple_iterator_next ?_ (F.args_tuple_iterator_next_1 _))); show wpAny _ _ (field (.ref it) 0 >>= _) _ _ s
  refine wpAny_bind (wpAny_field ho hd (x := .ref t) rfl ?_); show wpAny _ _ (if (Value.ref t == Value.none) = true then _ else _) _ _ s
  rw [if_neg (by intro h; cases h)]; show wpAny _ _ (field (.ref it) 1 >>= _) _ _ s
  refine wpAny_bind (wpAny_field ho hd (x := .int i 0) rfl ?_); show wpAny _ _ (seqItems? (.ref t) >>= _) _ _ s
  refine wpAny_bind (wpAny_seqItems hol hdl ?_); simp only [Int.toNat_natCast, hx]
  refine wpAny_bind (wpAny_rule (wpAny_bind (wpAny_setField ho hd (by simp) (newStop_hot (hot_upd hot ho hd (by simp)) fun h' a oe hk ha hcl => hE h' a (fun b ob hb e => hk b ob ?_) ⟨oe, ha, hcl⟩))))
  rw [Heap.get?_update_other _ _ (Ne.symm hb)]; exact e
theorem zipEnd_hot {z TI TO i1 i2 l1 l2 x1 : Addr} {k1 k2 : Nat} {xs ys : Array Value} {a b : Value} {Q : PySem.Fin → Shared → Prop} (hot : HotAt A x1 s.heap) (hx1 : x1 ∉ [z, TI, TO, i1, i2]) (D : ZipApart z TI TO i1 i2 l1 l2)
    (hz : IsZip s.heap z TI TO .none) (hTI : IsPair s.heap TI (.ref i1) (.ref i2)) (hTO : IsPair s.heap TO a b) (h1 : s.heap.IsTupleIter i1 l1 k1) (h2 : s.heap.IsTupleIter i2 l2 k2) (hl1 : s.heap.IsTuple l1 xs) (hl2 : s.heap.IsTuple l2 ys) (hend : xs[k1]? = none ∨ ys[k2]? = none)
    (hE : ∀ h' e, (∀ c o, c ≠ z → c ≠ TO → c ≠ i1 → c ≠ i2 → s.heap.get? c = some o → h'.get? c = some o) → (∃ o, h'.get? e = some o ∧ o.cls = .type "StopIteration") → E (.ref e) { s with heap := h' }) :
    wpAny (model prog w) A (Builtin.«zip.__next__» ⟨[.ref z], []⟩) Q E s := by
  have nz : x1 ≠ z ∧ x1 ≠ TO ∧ x1 ≠ i1 := by simp at hx1; exact ⟨hx1.1, hx1.2.2.1, hx1.2.2.2.1⟩
  show wpAny _ _ (field (.ref z) 2 >>= _) _ _ _
  refine wpAny_bind (wpAny_field hz rfl (x := .bool false) rfl ?_); show wpAny _ _ (field (.ref z) 3 >>= _) _ _ _
  refine wpAny_bind (wpAny_field hz rfl (x := .ref TI) rfl (wpAny_bind (wpAny_seqItems hTI rfl ?_)))
  show wpAny _ _ (Builtin.SmallTypes.ownedTupleIsFree (.ref z) >>= _) _ _ _
  unfold Builtin.SmallTypes.ownedTupleIsFree
  refine wpAny_bind (wpAny_bind (wpAny_field hz rfl (x := .none) rfl (wpAny_pure ?_))); simp only [if_true]
  refine wpAny_bind (wpAny_rule (wpAny_bind (wpAny_field hz rfl (x := .ref TO) rfl (wpAny_bind (wpAny_setField_rec hz (by simp) fun h₁ hz₁ hs₁ => ?_)))))
  replace hz₁ : IsZip h₁ z TI TO .ellipsis := hz₁
  have hot₁ : HotAt A x1 h₁ := hot_keep hot fun o e => hs₁.extBut _ _ nz.1 e
  refine wpAny_bind ?_
  simp only [List.zipIdx_cons, List.zipIdx_nil, List.forIn_cons, List.forIn_nil]
  refine wpAny_bind (wpAny_bind (wpAny_onRaise ?_)); show wpAny _ _ (Builtin.SmallTypes.nextOf (.ref i1) >>= _) _ _ _
  cases hx : xs[k1]? with
  | none =>
    refine wpAny_bind (nextOfEnd_hot hot₁ (h1.extBut hs₁.extBut D.i1z) (hl1.extBut hs₁.extBut D.l1z) hx fun h₂ e hs₂ ⟨oe, hoe, hce⟩ => ?_)
    have hz₂ : IsZip h₂ z TI TO .ellipsis := hs₂ _ _ D.i1z.symm hz₁
    have hez : e ≠ z := fun x => by subst x; rw [hz₂] at hoe; cases hoe; simp at hce
    exact wpAny_setField_rec hz₂ (by simp) fun h₃ _ hs₃ => hE h₃ e (fun c o c1 _ c3 _ x => hs₃.extBut _ _ c1 (hs₂ _ _ c3 (hs₁.extBut _ _ c1 x))) ⟨oe, hs₃.extBut _ _ hez hoe, hce⟩
  | some x =>
    have hy : ys[k2]? = none := by rcases hend with h | h; rw [hx] at h; cases h; exact h
    refine wpAny_bind (RZ.nextOf_tuple_item (h1.extBut hs₁.extBut D.i1z) (hl1.extBut hs₁.extBut D.l1z) hx fun h₂ h1₂ hs₂ => wpAny_pure ?_)
    have hTO₂ : IsPair h₂ TO a b := hs₂.extBut _ _ D.TOi1 (hs₁.extBut _ _ D.TOz hTO)
    refine wpAny_bind (wpAny_seqItems hTO₂ rfl (wpAny_bind (wpAny_updateSeq_pair hTO₂ fun h₃ hTO₃ hs₃ => wpAny_bind (wpAny_letGo (wpAny_pure (wpAny_bind (wpAny_bind (wpAny_onRaise ?_))))))))
    have hot₃ : HotAt A x1 h₃ := hot_keep hot₁ fun o e => hs₃.extBut _ _ nz.2.1 (hs₂.extBut _ _ nz.2.2 e)
    show wpAny _ _ (Builtin.SmallTypes.nextOf (.ref i2) >>= _) _ _ _
    refine wpAny_bind (nextOfEnd_hot hot₃ (((h2.extBut hs₁.extBut D.i2z).extBut hs₂.extBut D.i12.symm).extBut hs₃.extBut D.TOi2.symm) (((hl2.extBut hs₁.extBut D.l2z).extBut hs₂.extBut D.l2i1).extBut hs₃.extBut D.l2TO) hy fun h₄ e hs₄ ⟨oe, hoe, hce⟩ => ?_)
    have hz₄ : IsZip h₄ z TI TO .ellipsis := hs₄ _ _ D.i2z.symm (hs₃.extBut _ _ D.TOz.symm (hs₂.extBut _ _ D.i1z.symm hz₁))
    have hez : e ≠ z := fun x => by subst x; rw [hz₄] at hoe; cases hoe; simp at hce
    exact wpAny_setField_rec hz₄ (by simp) fun h₅ _ hs₅ => hE h₅ e (fun c o c1 c2 c3 c4 x => hs₅.extBut _ _ c1 (hs₄ _ _ c4 (hs₃.extBut _ _ c2 (hs₂.extBut _ _ c3 (hs₁.extBut _ _ c1 x))))) ⟨oe, hs₅.extBut _ _ hez hoe, hce⟩
end

open PySem PySem.Spec PyProof.Rows HotX L2 L2H
abbrev St := L2.St
theorem turn_tupH {P : Program} {w : World} {K : PySem.W.Frag} {tg : Expr} (a it : Addr) : TurnH P w K tg (Itt K a) [it] it (fun i h => h.IsTupleIter it a i) where
  mem := (turn_tuple (P := P) (w := w) (K := K) (tg := tg) a it).mem
  obj := (turn_tuple (P := P) (w := w) (K := K) (tg := tg) a it).obj
  keep := (turn_tuple (P := P) (w := w) (K := K) (tg := tg) a it).keep
  self := (turn_tuple (P := P) (w := w) (K := K) (tg := tg) a it).self
  item := fun X eP ew eK _ i pins s σ H E I hf st ⟨xs, x, hq, hx⟩ => by
    subst eP ew eK
    obtain ⟨its, rv, p, _⟩ := I.tuple hq; obtain ⟨u, hu, ru⟩ := rv.get hx; obtain ⟨f0, f1, f2, f3, f4, f5⟩ := hf it (by simp)
    refine wpAny_pyNext_tuple_item st (show s.heap.IsTuple a its.toArray from p) (x := u) (by simpa using hu) fun h' st' sb => ⟨u, rfl, ?_⟩
    have I1 : Inv X pins σ H { s with heap := h' } := I.turned (t' := s.toks) (fun b o hb e => (sb.2 b hb).trans e) f0 f1 f3 f4 f5
    obtain ⟨o, e, c, d⟩ := id st'
    exact go_of (s := { s with heap := h' }) e c d (by decide) ⟨x, H, I1, ru, ⟨rfl, fun ys hy => (I.tuple_inj hy hq) ▸ hx⟩, st', fun b hb => (hf b hb).1⟩
  done := fun X eP ew eK hc i pins s σ H E I hf st ⟨xs, hq, hx⟩ => by
    subst eP ew eK
    obtain ⟨its, rv, p, _⟩ := I.tuple hq; obtain ⟨f0, f1, f2, f3, f4, f5⟩ := hf it (by simp); obtain ⟨x1, hot⟩ := hc.at I
    have hl := rv.length
    exact tupEnd_hot hot st (show s.heap.IsTuple a its.toArray from p) (by simp; omega) fun h' eb => ⟨rfl, I.turned (t' := s.toks) (fun b o hb e => eb b o hb e) f0 f1 f3 f4 f5⟩
theorem turn_lstH {P : Program} {w : World} {K : PySem.W.Frag} {tg : Expr} (a it : Addr) : TurnH P w K tg (Itl K a) [it] it (fun i h => h.IsListIter it a i) where
  mem := (turn_list (P := P) (w := w) (K := K) (tg := tg) a it).mem
  obj := (turn_list (P := P) (w := w) (K := K) (tg := tg) a it).obj
  keep := (turn_list (P := P) (w := w) (K := K) (tg := tg) a it).keep
  self := (turn_list (P := P) (w := w) (K := K) (tg := tg) a it).self
  item := fun X eP ew eK _ i pins s σ H E I hf st ⟨xs, x, hq, hx⟩ => by
    subst eP ew eK
    obtain ⟨its, rv, p, _⟩ := I.list hq; obtain ⟨u, hu, ru⟩ := rv.get hx; obtain ⟨f0, f1, f2, f3, f4, f5⟩ := hf it (by simp)
    refine wpAny_pyNext_list_item st p.isList (x := u) (by simpa using hu) fun h' st' sb => ⟨u, rfl, ?_⟩
    have I1 : Inv X pins σ H { s with heap := h' } := I.turned (t' := s.toks) (fun b o hb e => (sb.2 b hb).trans e) f0 f1 f3 f4 f5
    obtain ⟨o, e, c, d⟩ := id st'
    exact go_of (s := { s with heap := h' }) e c d (by decide) ⟨x, H, I1, ru, ⟨rfl, fun ys hy => (I.list_inj hy hq) ▸ hx⟩, st', fun b hb => (hf b hb).1⟩
  done := fun X eP ew eK hc i pins s σ H E I hf st ⟨xs, hq, hx⟩ => by
    subst eP ew eK
    obtain ⟨its, rv, p, _⟩ := I.list hq; obtain ⟨f0, f1, f2, f3, f4, f5⟩ := hf it (by simp); obtain ⟨x1, hot⟩ := hc.at I
    have hl := rv.length
    exact listEnd_hot hot st p.isList (by simp; omega) fun h' eb => ⟨rfl, I.turned (t' := s.toks) (fun b o hb e => eb b o hb e) f0 f1 f3 f4 f5⟩
theorem turn_strH {P : Program} {w : World} {K : PySem.W.Frag} {tg : Expr} (it : Addr) (x : Str) (t : Tok) (ty : String) (hty : ty = "str_ascii_iterator" ∨ ty = "str_iterator") : TurnH P w K tg (Its x) [it] it (fun i h => h.IsStrIter it ty x t i) where
  mem := (turn_str (P := P) (w := w) (K := K) (tg := tg) it x t ty hty).mem
  obj := (turn_str (P := P) (w := w) (K := K) (tg := tg) it x t ty hty).obj
  keep := (turn_str (P := P) (w := w) (K := K) (tg := tg) it x t ty hty).keep
  self := (turn_str (P := P) (w := w) (K := K) (tg := tg) it x t ty hty).self
  item := fun X eP ew eK _ i pins s σ H E I hf st hg => by
    subst eP ew eK
    obtain ⟨f0, f1, f2, f3, f4, f5⟩ := hf it (by simp)
    have hcx : x.cps[i]? = some x.cps[i] := Array.getElem?_eq_getElem hg
    rcases hty with rfl | rfl
    · refine wpAny_pyNext_ascii_item st hcx fun h' st' sb => ⟨_, rfl, ?_⟩
      have I1 : Inv X pins σ H { s with heap := h', toks := s.toks + 1 } := I.turned (fun b o hb e => (sb.2 b hb).trans e) f0 f1 f3 f4 f5
      obtain ⟨oi, e, cc, dd⟩ := id st'
      exact go_of (s := { s with heap := h', toks := s.toks + 1 }) e cc dd (by decide) ⟨.str ⟨#[x.cps[i]]⟩, H, I1, ⟨_, rfl⟩, ⟨rfl, _, hcx, rfl⟩, st', fun b hb => (hf b hb).1⟩
    · refine wpAny_pyNext_wide_item st hcx fun h' st' sb => ⟨_, rfl, ?_⟩
      have I1 : Inv X pins σ H { s with heap := h', toks := s.toks + 1 } := I.turned (fun b o hb e => (sb.2 b hb).trans e) f0 f1 f3 f4 f5
      obtain ⟨oi, e, cc, dd⟩ := id st'
      exact go_of (s := { s with heap := h', toks := s.toks + 1 }) e cc dd (by decide) ⟨.str ⟨#[x.cps[i]]⟩, H, I1, ⟨_, rfl⟩, ⟨rfl, _, hcx, rfl⟩, st', fun b hb => (hf b hb).1⟩
  done := fun X eP ew eK hc i pins s σ H E I hf st hg => by
    subst eP ew eK
    obtain ⟨f0, f1, f2, f3, f4, f5⟩ := hf it (by simp); obtain ⟨x1, hot⟩ := hc.at I
    have hx : x.cps[i]? = none := Array.getElem?_eq_none hg
    rcases hty with rfl | rfl
    · exact asciiEnd_hot hot st hx fun h' eb => ⟨rfl, I.turned (t' := s.toks) (fun b o hb e => eb b o hb e) f0 f1 f3 f4 f5⟩
    · exact wideEnd_hot hot st hx fun h' eb => ⟨rfl, I.turned (t' := s.toks) (fun b o hb e => eb b o hb e) f0 f1 f3 f4 f5⟩
section
variable {X : Cx} {tg : Expr}
theorem pih_one {pins : List (Addr × Obj)} {σ : St} {H : Hp} {s : Shared} {R : It → Hp → Prop} {J : It} {tn : Nat → Heap → Prop} {tk : Nat} (I : Inv X pins σ H s) (o : Obj) (T : TurnH X.prog X.w X.K tg J [s.heap.objs.size] s.heap.objs.size tn) (st : tn 0 (s.heap.push o)) (q : R J H) :
    PIEH X pins σ tg R (.ref s.heap.objs.size) { s with heap := s.heap.push o, toks := tk } :=
  ⟨s.heap.objs.size, [s.heap.objs.size], tn, J, H, rfl, I.kept fun b ob e => Heap.get?_push_of_some _ e, T, st, fun b hb => (List.mem_singleton.mp hb) ▸ I.fpOk (Nat.le_refl _) (I.hok.fresh (Nat.le_refl _)), q⟩
theorem pih_tup {l : Expr} {tl : TE} (hl : PE X l tl) : PIH X tg l (iTup X.K tl) := ⟨fun pins s σ H R I h => thn (hl.run pins s σ H _ I h) fun v s1 ⟨x, H1, I1, r1, a, e, ⟨xs, hq⟩, q⟩ => by
  subst e; cases r1; obtain ⟨its, rv, p, _⟩ := I1.tuple hq
  exact wpAny_pyIter_tuple (show s1.heap.IsTuple a its.toArray from p) (pih_one (tk := s1.toks) I1 _ (turn_tupH a _) ⟨_, Heap.get?_push_size _ rfl, rfl, rfl⟩ q)⟩
theorem pih_lst {l : Expr} {tl : TE} (hl : PE X l tl) : PIH X tg l (iList X.K tl) := ⟨fun pins s σ H R I h => thn (hl.run pins s σ H _ I h) fun v s1 ⟨x, H1, I1, r1, a, e, ⟨xs, hq⟩, q⟩ => by
  subst e; cases r1; obtain ⟨its, rv, p, _⟩ := I1.list hq
  exact wpAny_pyIter_list p.isList (pih_one (tk := s1.toks) I1 _ (turn_lstH a _) ⟨_, Heap.get?_push_size _ rfl, rfl, rfl⟩ q)⟩
theorem pih_str {e : Expr} {te : TE} (he : PE X e te) : PIH X tg e (iStr te) := ⟨fun pins s σ H R I h => thn (he.run pins s σ H _ I h) fun v s1 ⟨y, H1, I1, r1, x, ex, q⟩ => by
  subst ex; obtain ⟨t, rfl⟩ := r1
  cases ha : x.cps.all (· < 128)
  · exact wpAny_pyIter_wide ha (pih_one (tk := s1.toks) I1 _ (turn_strH _ x t "str_iterator" (.inr rfl)) ⟨_, Heap.get?_push_size _ rfl, rfl, rfl⟩ q)
  · exact wpAny_pyIter_ascii ha (pih_one (tk := s1.toks) I1 _ (turn_strH _ x t "str_ascii_iterator" (.inl rfl)) ⟨_, Heap.get?_push_size _ rfl, rfl, rfl⟩ q)⟩
/-- (a, b, ..) = a tuple -/
theorem pg_tupH {es : List Expr} {k : Nat} {t : TGs} {n : Nat} {pos : Pos} (hc : HotC X) (h : PGs X es t) (hn : (assignEach es X.env).length = n := by rfl) (hst : (assignEach es X.env).findIdx? (·.1) = none := by rfl) : PG X (.Tuple es k pos) (gTup X.K n t) := ⟨fun pins s σ H v u Q I r ⟨a, xs, e1, hq, hl, hw⟩ => by
  subst e1; cases r; obtain ⟨its, rv, ht, _⟩ := I.tuple hq; obtain ⟨x1, hot⟩ := hc.at I
  rw [assign_Tuple]
  refine wpAny_bind (wpAny_standAt (unpack_hot hot ht (by simp [hn, ← hl, rv.length]) hst fun h' hx => ?_))
  exact h.run pins _ σ H xs _ Q (I.kept (t' := s.toks) hx) (by simpa using rv) hw⟩
theorem cr_allH (hc : HotC X) : CallR X (.builtin "all") (rAll X.K) := fun pins s σ H vs us Q I r ⟨a, bs, ev, hs, q⟩ => by
  subst ev; obtain ⟨its, rv, hl, _⟩ := I.list hs; obtain ⟨x1, hot⟩ := hc.at I
  rw [Vals.ref1 r]; have hb := rv.bls
  refine call_all_walk (iter_any hl.isList fun s₂ e2 st hne => ?_)
  subst e2
  refine ⟨_, _, _, _, _, _, _, rfl, walksList_hot (A := X.A.in1) (x1 := x1) _ a hne its.toArray, ⟨st.1, st.2, hot_keep hot fun o e => Heap.get?_push_of_some _ e, Nat.ne_of_lt (hot_lt hot)⟩, truth_bools hb, fun h' tk hk => ⟨.bl _, H, I.kept fun b o eo => hk b o (fun hm => Nat.lt_irrefl _ ((List.mem_singleton.mp hm) ▸ Heap.lt_size eo)) (Heap.get?_push_of_some _ eo), ?_, q⟩⟩
  show Value.bool _ = Value.bool _
  rw [hb, List.size_toArray, List.length_map]; exact congrArg Value.bool (L2.all_range bs)
end
/-- zip of two tuples -/
theorem turn_zipH {P : Program} {w : World} {K : PySem.W.Frag} {elts : List Expr} {kk : Nat} {tpos : Pos} {a b z TI TO i1 i2 : Addr} (D : ZipApart z TI TO i1 i2 a b) :
    TurnH P w K (.Tuple elts kk tpos) (RZ.ItzT K a b) [z, TI, TO, i1, i2] z (fun i h => IsZip h z TI TO .none ∧ IsPair h TI (.ref i1) (.ref i2) ∧ (∃ x y, IsPair h TO x y) ∧ h.IsTupleIter i1 a i ∧ h.IsTupleIter i2 b i) where
  mem := (RZ.turn_zipT (P := P) (w := w) (K := K) (elts := elts) (kk := kk) (tpos := tpos) D).mem
  obj := (RZ.turn_zipT (P := P) (w := w) (K := K) (elts := elts) (kk := kk) (tpos := tpos) D).obj
  keep := (RZ.turn_zipT (P := P) (w := w) (K := K) (elts := elts) (kk := kk) (tpos := tpos) D).keep
  self := (RZ.turn_zipT (P := P) (w := w) (K := K) (elts := elts) (kk := kk) (tpos := tpos) D).self
  item := fun X eP ew eK _ i pins s σ H E I hf ⟨hz, hTI, ⟨x0, y0, hTO⟩, h1, h2⟩ ⟨xs, ys, x, y, hqx, hqy, hx, hy⟩ => by
    subst eP ew eK
    obtain ⟨its, rv, p, _⟩ := I.tuple hqx; obtain ⟨its2, rv2, p2, _⟩ := I.tuple hqy; obtain ⟨u, hu, ru⟩ := rv.get hx; obtain ⟨u2, hu2, ru2⟩ := rv2.get hy
    have low : ∀ c ∈ [z, TI, TO, i1, i2], c < s.heap.objs.size := fun c hcm => by
      obtain ⟨o1, e1, _⟩ := id h1; obtain ⟨o2, e2, _⟩ := id h2
      simp only [List.mem_cons, List.not_mem_nil, or_false] at hcm
      rcases hcm with q | q | q | q | q <;> subst q <;> first | exact Heap.lt_size hz | exact Heap.lt_size hTI | exact Heap.lt_size hTO | exact Heap.lt_size e1 | exact Heap.lt_size e2
    have out : ∀ {c : Addr}, c ∉ [z, TI, TO, i1, i2] → c ≠ z ∧ c ≠ TO ∧ c ≠ i1 ∧ c ≠ i2 := fun {c} h => by simp at h; exact ⟨h.1, h.2.2.1, h.2.2.2.1, h.2.2.2.2⟩
    refine RZ.pyNext_zipT_item D hz hTI hTO h1 h2 p p2 (x := u) (y := u2) (by simpa using hu) (by simpa using hu2) fun h' z' TO' h1' h2' hT hsz hk => ⟨_, rfl, wpAny_letOwnedTupleGo_zip (s := { s with heap := h' }) z' fun h'' z'' sb => ?_⟩
    have hT2 : h''.get? s.heap.objs.size = some { cls := .type "tuple", data := .seq #[u, u2] } := (sb.2 _ (Nat.ne_of_gt (low z (by simp)))).trans hT
    have new : ObjOk X.prog X.w (upd H s.heap.objs.size (.tup [x, y])) h'' s.heap.objs.size (.tup [x, y]) := ⟨by show 2 ≤ sizeLine; decide, [u, u2], .cons ru (.cons ru2 .nil), ⟨_, hT2, rfl, _, rfl⟩⟩
    have I1 := I.turnedNew (t' := s.toks) (ch := [z, TI, TO, i1, i2]) (fun c o hb q => let ⟨n1, n2, n3, n4⟩ := out hb; (sb.2 c n1).trans (hk c o n1 n2 n3 n4 q)) hf (Nat.le_refl _) new
    exact ⟨.ref s.heap.objs.size, _, I1, rfl, ⟨_, x, y, rfl, I.hok.fresh (Nat.le_refl _), rfl, fun l hl => (I.tuple_inj hl hqx) ▸ hx, fun l hl => (I.tuple_inj hl hqy) ▸ hy⟩,
      ⟨z'', (sb.2 _ D.TIz).trans (hk _ _ D.TIz D.TITO D.TIi1 D.TIi2 hTI), ⟨u, u2, (sb.2 _ D.TOz).trans TO'⟩, h1'.at fun o q => (sb.2 _ D.i1z).trans q, h2'.at fun o q => (sb.2 _ D.i2z).trans q⟩, fun c hcm => (upd_ne (Nat.ne_of_lt (low c hcm))).trans (hf c hcm).1⟩
  done := fun X eP ew eK hc i pins s σ H E I hf ⟨hz, hTI, ⟨x0, y0, hTO⟩, h1, h2⟩ ⟨xs, ys, hqx, hqy, hend⟩ => by
    subst eP ew eK
    obtain ⟨its, rv, p, _⟩ := I.tuple hqx; obtain ⟨its2, rv2, p2, _⟩ := I.tuple hqy
    have l1 := rv.length; have l2 := rv2.length
    obtain ⟨pp, ⟨hh, v1, d1, c1⟩, hp⟩ := hc
    have P1 := I.pin pp (List.mem_append_left _ hp)
    have hot : HotAt X.A pp.1 s.heap := ⟨hh, pp.2, v1, P1.1, d1, c1⟩
    have nx : pp.1 ∉ [z, TI, TO, i1, i2] := fun hm => (hf _ hm).2.2.2.2.2 pp (List.mem_append_left _ hp) rfl
    have he : its.toArray[i]? = none ∨ its2.toArray[i]? = none := hend.imp (fun q => by simp; omega) fun q => by simp; omega
    unfold pyNext
    refine wpAny_bind (wpAny_attempt (wpAny_callSpecial?_slot (name := Str.ofString "__next__") ⟨_, hz, rfl⟩ F.slot_zip_next (wpAny_call_entry F.slot_zip_next ⟨_, hz, rfl⟩ F.entry_zip_next (zipEnd_hot hot nx D hz hTI hTO h1 h2 p p2 he fun h' e hk ⟨o, ho, hc⟩ => ?_) (F.args_zip_next_1 _))))
    refine wpAny_bind (wpAny_isInstance (b := true) ⟨o, ho, hc⟩ isSubtype_stop (wpAny_pure ⟨rfl, I.turnedL (t' := s.toks) (ch := [z, TI, TO, i1, i2]) (fun c o hb q => ?_) hf⟩))
    simp at hb; exact hk c o hb.1 hb.2.2.1 hb.2.2.2.1 hb.2.2.2.2 q
section
variable {X : Cx}
theorem pih_zipT {e e2 : Expr} {ta : TA} {p pos tpos : Pos} {elts : List Expr} {kk : Nat} (hg : Gl X "zip") (hm : X.mg "zip" = none) (ha : PA X [e, e2] ta)
    (hs : starEach [e, e2] X.env = (false, eval e X.env) :: starEach [e2] X.env := by rfl) (hpl : (backTo pos (starEach [e2] X.env)).any (·.1) = false := by rfl) :
    PIH X (.Tuple elts kk tpos) (.Call (.Name "zip" p) [e, e2] [] pos) (fun σ H R => ta σ H fun vs H1 => ∃ a b xs ys, vs = [.ref a, .ref b] ∧ SqT X.K H1 a xs ∧ SqT X.K H1 b ys ∧ R (RZ.ItzT X.K a b) H1) := ⟨fun pins s σ H R I h => by
  refine Call_ (ld_blt I hg hm PyProof.Rows.boot_zip (PyProof.Rows.callWith_type1 (thn (ha.run pos pins s σ H _ I h) fun us s1 ⟨vs, H1, I1, r1, a, b, xs, ys, ex, hqx, hqy, q⟩ => ?_) hs hpl))
  subst ex
  cases r1 with | cons r rr => cases rr with | cons r' rr =>
  cases rr; cases r; cases r'
  obtain ⟨its, rv, p1, _⟩ := I1.tuple hqx; obtain ⟨its2, rv2, p2, _⟩ := I1.tuple hqy; obtain ⟨o1, ho1, _⟩ := id p1; obtain ⟨o2, ho2, _⟩ := id p2
  refine RZ.call_zipT (show s1.heap.IsTuple a its.toArray from p1) (show s1.heap.IsTuple b its2.toArray from p2) fun h' hz hTI hTO h1 h2 hsz hk => wpAny_pyIter_zip hz ?_
  refine ⟨s1.heap.objs.size + 4, [s1.heap.objs.size + 4, s1.heap.objs.size + 2, s1.heap.objs.size + 3, s1.heap.objs.size, s1.heap.objs.size + 1], _, _, H1, rfl, I1.kept (t' := s1.toks) hk, turn_zipH (PySem.W.ktu_apart s1.heap.objs.size a b (Heap.lt_size ho1) (Heap.lt_size ho2)), ⟨hz, hTI, ⟨_, _, hTO⟩, h1, h2⟩, fun c hcm => ?_, q⟩
  have hle : s1.heap.objs.size ≤ c := by
    simp only [List.mem_cons, List.not_mem_nil, or_false] at hcm
    rcases hcm with q | q | q | q | q <;> subst q <;> first | exact Nat.le_refl _ | exact Nat.le_add_right _ _
  exact I1.fpOk hle (I1.hok.fresh hle)⟩
end

open PySem PySem.Spec PyProof.Rows HotX L2 L2H
/-- a comprehension's block that keeps the pins -/
abbrev blkP (X : Cx) (s : Shared) (H : Hp) (scope : Scope) (cenv : Env) (fp : List Addr) : Cx := { X.blk s H scope cenv fp with pn := X.pn }
theorem hot_blk {X : Cx} {s : Shared} {H : Hp} {scope : Scope} {cenv : Env} {fp : List Addr} (hc : HotC X) : HotC (blkP X s H scope cenv fp) := hc
theorem inv_pins {X : Cx} {s s' : Shared} {H H0 : Hp} {σ : St} {scope : Scope} {cenv : Env} {fp : List Addr} (I : Inv (X.blk s H0 scope cenv fp) [] σ H s') (hp : ∀ p ∈ X.pn, s'.heap.get? p.1 = some p.2 ∧ H p.1 = none ∧ p.1 ≠ cenv.locals ∧ p.1 ∉ (X.blk s H0 scope cenv fp).fs ∧ ∀ v, p.2.data ≠ .cell v) : Inv (blkP X s H0 scope cenv fp) [] σ H s' :=
  ⟨⟨I.ok.mod, I.ok.kind, I.ok.glob, I.ok.blt, I.ok.above, I.ok.inj, I.ok.has, I.ok.cab, I.ok.hd, I.ok.frames, I.ok.stk, I.ok.exf, I.ok.bs, I.ok.bsz, I.ok.noex, I.ok.exfs, I.ok.funs, I.ok.frf⟩, I.os, I.bare, I.base, I.loc, I.cell, I.free, I.freeC, fun p h => by
    rw [List.append_nil] at h; exact hp p h, I.hok, I.len⟩
theorem lcH {X : Cx} {pins : List (Addr × Obj)} {s : Shared} {σ : St} {H : Hp} {Q : VK} {elt tg iter : Expr} {scope : Scope} {own : List (Str × Nat)} {pos pos' : Pos} {wi : TI} {g : TG} {te : TE} {Qf : Value → Shared → Prop}
    (hc : HotC X) (hN : X.N.Nodup) (I : Inv X pins σ H s) (hi : PIH X tg iter wi) (ok : BlkOk X.N X.env.scope scope own) (hg : ∀ (s : Shared) (H : Hp) (C : Addr) (cl : List (Str × Addr)) (fp : List Addr), PG (blkP X s H scope (compEnvC scope cl C X.env) fp) tg g)
    (he : ∀ (s : Shared) (H : Hp) (C : Addr) (cl : List (Str × Addr)) (fp : List Addr), PE (blkP X s H scope (compEnvC scope cl C X.env) fp) elt te) (hs : ∀ x, foldedSetIterable iter X.env x = pure x) (h : tLc wi g tYes te (own.map (·.2)) σ H Q)
    (done : ∀ D C s' m H', Inv X pins σ H' s' → Q (.ref D) H' → s'.heap.Ns C m → FpOk X pins H' C → compPost (model X.prog X.w) X.A X.xe none Qf (.ref D) C (.ok .next) s') :
    wpAny (model X.prog X.w) X.A (comprehension (.ListComp elt [⟨tg, iter, [], 0⟩] scope pos) scope X.env pos' (newList []) false (eval iter X.env) none) Qf X.xe s := by
  have hfree : ∀ y ∈ scope.names, y.2 = .free → ∃ c, X.env.cells.lookup y.1 = some c := fun y hy e => (ok.free y hy e).elim (fun k => I.ok.has _ (.inl k)) fun k => I.ok.has _ (.inr k)
  refine wpAny_comprehension_free (use := none) rfl hs (closure_ok hfree) ok.kind (fun y hy e => by rw [ok.uniq y hy, e]) (thn (hi.run pins s σ H _ I h) fun xv s1 hx => thn hx fun itv s2 ⟨it, fp, tn, J, H2, ev, I2, T, st2, f2, q⟩ => ?_)
  subst ev
  refine wpAny_newObj_type (newEnv_comp ?_) (by show 0 ≤ sizeLine; decide); generalize hD : s2.heap.objs.size = D
  have hDn : H2 D = none := I2.hok.fresh (Nat.le_of_eq hD)
  obtain ⟨W, ⟨m0, w0⟩, turn⟩ := q D hDn
  generalize hs3 : ({ s2 with heap := s2.heap.push { cls := .type "list", data := .seq ([] : List Value).toArray } } : Shared) = s3
  have h3 : s3.heap = s2.heap.push { cls := .type "list", data := .seq ([] : List Value).toArray } := by rw [← hs3]
  have k3 : ∀ b o, s2.heap.get? b = some o → s3.heap.get? b = some o := fun b o e => by rw [h3]; exact Heap.get?_push_of_some _ e
  have I3 : Inv X pins σ (upd H2 D (.lst [])) s3 := by
    subst hs3; exact I2.laid (t' := s2.toks) k3 (Nat.le_of_eq hD) ⟨Nat.zero_le _, [], 0, .nil, by rw [← hD]; exact Heap.get?_push_size _ rfl⟩
  have f3 : ∀ b ∈ fp, FpOk X pins (upd H2 D (.lst [])) b ∧ b < s3.heap.objs.size := fun b hb => by
    obtain ⟨o, e, _⟩ := T.obj _ _ st2 b hb
    have hlt := Heap.lt_size e
    exact ⟨⟨by rw [upd_ne (by rw [← hD]; exact Nat.ne_of_lt hlt)]; exact (f2 b hb).1, (f2 b hb).2⟩, Heap.lt_size (k3 b o e)⟩
  have st3 : tn 0 s3.heap := T.keep _ _ _ st2 fun b _ o e => k3 b o e
  have I4' := block_start I3 ok hN f3
  have new4 : ∀ b o, s3.heap.get? b = some o → (pushCells (s3.heap.push { cls := .type "dict", data := .dict #[] }) scope.names).get? b = some o := fun b o e => pushCells_keeps _ _ _ _ (Heap.get?_push_of_some _ e)
  have I4 := inv_pins I4' fun p hp => by
    obtain ⟨p1, p2, p3, p4, p5⟩ := I3.pin p (List.mem_append_left _ hp)
    exact ⟨new4 _ _ p1, p2, Nat.ne_of_lt (Heap.lt_size p1), fun hm => (List.mem_cons.mp (I3.stkSub p.1 hm)).elim p3 p4, p5⟩
  have pg := hg s3 (upd H2 D (.lst [])) s3.heap.objs.size (cellsFrom (s3.heap.objs.size + 1) scope.names (cloFrom X.env.cells scope.names [])) fp
  have pe := he s3 (upd H2 D (.lst [])) s3.heap.objs.size (cellsFrom (s3.heap.objs.size + 1) scope.names (cloFrom X.env.cells scope.names [])) fp
  show codeAny _ _ (.compStart (.ListComp elt [⟨tg, iter, [], 0⟩] scope pos) 0 (.ref it) (.ref D) (compEnvC scope (cellsFrom (s3.heap.objs.size + 1) scope.names (cloFrom X.env.cells scope.names [])) s3.heap.objs.size X.env)) (compPost (model X.prog X.w) X.A X.xe none Qf (.ref D) s3.heap.objs.size) { s3 with heap := pushCells (s3.heap.push { cls := .type "dict", data := .dict #[] }) scope.names }
  have nfp : ∀ b ∈ fp, (upd H2 D (.lst [])) b = none := fun b hb => (f3 b hb).1.1
  generalize hce : compEnvC scope (cellsFrom (s3.heap.objs.size + 1) scope.names (cloFrom X.env.cells scope.names [])) s3.heap.objs.size X.env = ce at I4 I4' pg pe ⊢
  have cL : ce.locals = s3.heap.objs.size := by subst hce; rfl
  generalize hH3 : upd H2 D (.lst []) = H3 at I3 I4 I4' pg pe w0 nfp f3
  generalize hs4 : ({ s3 with heap := pushCells (s3.heap.push { cls := .type "dict", data := .dict #[] }) scope.names } : Shared) = s4 at I4 I4' ⊢
  have st4 : tn 0 s4.heap := T.keep _ _ _ st3 fun b _ o e => by rw [← hs4]; exact new4 b o e
  have xp : ∀ {b}, b ∈ fp → ∀ p ∈ X.pn ++ [], p.1 ≠ b := fun {b} hb p hp => (f3 b hb).1.2.2.2.2.2 p (List.mem_append_left _ (by simpa using hp))
  have stat : ∀ {σ' : St} {H' : Hp} {s' : Shared}, Inv (blkP X s3 H3 scope ce fp) [] σ' H' s' → (∀ b ∈ fp, H' b = none) → ∀ b ∈ fp, FpOk (blkP X s3 H3 scope ce fp) [] H' b := fun {σ' H' s'} I' hn b hb => ⟨hn b hb, (I'.ok.exf b hb).1, I'.ok.exfs b hb, .inl hb, fun x c e => (I'.ok.exf b hb).2 x c e, xp hb⟩
  have loop : codeAny (model X.prog X.w) X.A (.compLoop (.ListComp elt [⟨tg, iter, [], 0⟩] scope pos) 0 (.ref it) (.ref D) ce) (compPost (model X.prog X.w) X.A X.xe none Qf (.ref D) s3.heap.objs.size) s4 := by
    refine compLoop_any (fun n s' => ∃ i H', Inv (blkP X s3 H3 scope ce fp) [] (wipe σ (own.map (·.2))) H' s' ∧ tn i s'.heap ∧ (∀ b ∈ fp, H' b = none) ∧ W i n H') (fun n s5 ⟨i, H5, I5, st5, n5, w5⟩ => ?_) m0 ⟨0, H3, I4, st4, nfp, w0⟩
    rcases turn i n H5 w5 with ⟨stop, qq⟩ | ⟨go, Nx, hNx, step⟩
    · refine thnF (T.done (blkP X s3 H3 scope ce fp) rfl rfl rfl (hot_blk hc) i [] s5 _ H5 (fun _ _ => False) I5 (stat I5 n5) st5 stop) fun r s6 ⟨hr, I6⟩ => ?_
      subst hr
      have I7 : Inv X pins σ H5 s6 := I3.call' (ch := fp) I6.os I6.base I6.hok I6.bare fun b hb => let ⟨_, q1, q2, q3, q4, q5⟩ := (f3 b hb).1; ⟨q3, q1, q4, q5⟩
      obtain ⟨m, hn, _⟩ := I6.loc
      have hn : s6.heap.Ns ce.locals m := hn
      have nC : H5 ce.locals = none := I6.free
      rw [cL] at hn nC
      exact done D s3.heap.objs.size s6 m H5 I7 qq hn (I3.fpOk (Nat.le_refl _) nC)
    · refine thnF (T.item (blkP X s3 H3 scope ce fp) rfl rfl rfl (hot_blk hc) i [] s5 _ H5 (fun _ _ => False) I5 (stat I5 n5) st5 go) fun r s6 ⟨u, hr, h6⟩ => ?_
      subst hr
      refine thnF h6 fun _ s7 ⟨x, H7, I7, r7, y7, st7, n7⟩ => ?_
      refine thnF (pg.run _ s7 _ H7 x u _ (I7.pinned (stat I7 n7) (T.obj _ _ st7)) r7 (step x H7 y7)) fun _ s8 ⟨σ8, H8, I8, hw8, q8⟩ => ?_
      unfold tYes at q8
      dsimp only at q8
      rw [if_pos rfl] at q8
      refine thnF (Q := fun b s9 => b = true ∧ s9 = s8) (wpAny_tests_nil ⟨rfl, rfl⟩) fun b s9 ⟨hb, e9⟩ => ?_
      subst hb e9
      simp only [if_true]
      refine thnF (pe.run _ _ σ8 H8 _ I8 q8) fun z s10 ⟨yv, H10, I10, r10, acc, hD10, hz10, nx⟩ => ?_
      refine app_ok (X := blkP X s3 H3 scope ce fp) I10 hD10 hz10 r10 fun s11 I11 => ?_
      obtain ⟨m', hm, w'⟩ := hNx _ nx
      have pin' : ∀ b ∈ fp, ∀ o, s7.heap.get? b = some o → s11.heap.get? b = some o ∧ (upd H10 D (.lst (acc ++ [yv]))) b = none := fun b hb o e => let z := I11.pin (b, o) (List.mem_append_right _ (List.mem_append_right _ (mem_pinsAt hb e))); ⟨z.1, z.2.1⟩
      have hl : (wipe σ (own.map (·.2))).length = σ8.length := by rw [← hw8, wipe_length]
      exact ⟨m', hm, i + 1, _, (I11.unpinned (pins := [])).weak hl fun j v e => (wipe_some (hw8 ▸ e)).1, T.keep _ _ _ st7 fun b hb o e => (pin' b hb o e).1, fun b hb => let ⟨o, e, _⟩ := T.obj _ _ st7 b hb; (pin' b hb o e).2, w'⟩
  exact codeAny_compStart_list loop (T.self X.A 0 _ _ _ st4 loop)
theorem pe_lcH {X : Cx} {elt tg iter : Expr} {scope : Scope} {own : List (Str × Nat)} {pos : Pos} {wi : TI} {g : TG} {te : TE} (hc : HotC X) (hN : X.N.Nodup) (hi : PIH X tg iter wi) (ok : BlkOk X.N X.env.scope scope own)
    (hg : ∀ (s : Shared) (H : Hp) (C : Addr) (cl : List (Str × Addr)) (fp : List Addr), PG (blkP X s H scope (compEnvC scope cl C X.env) fp) tg g) (he : ∀ (s : Shared) (H : Hp) (C : Addr) (cl : List (Str × Addr)) (fp : List Addr), PE (blkP X s H scope (compEnvC scope cl C X.env) fp) elt te)
    (hs : ∀ x, foldedSetIterable iter X.env x = pure x := by intro _; rfl) : PE X (.ListComp elt [⟨tg, iter, [], 0⟩] scope pos) (tLc wi g tYes te (own.map (·.2))) := ⟨fun pins s σ H Q I h => by
  rw [eval_ListComp]
  exact lcH hc hN I hi ok hg he hs h fun D C s' m H' I' q hn ⟨f0, f1, f2, f3, f4, f5⟩ => ⟨m, hn, fun h'' sb => ⟨.ref D, H', I'.turned (t' := s'.toks) (fun b o hb e => (sb.2 b hb).trans e) f0 f1 f3 f4 f5, rfl, q⟩⟩⟩

open PySem PySem.Spec PyProof.Rows HotX L2 L2H
theorem star_hot {prog : Program} {w : World} {A : Around} {E : Value → Shared → Prop} {s : Shared} {t x1 : Addr} {items : Array Value} {x : Value} {g1 g2 : Value → Sem Unit} {Q : Unit → Shared → Prop} (hot : HotAt A x1 s.heap) (ht : IsTup s.heap t items) (hx : items[0]? = some x) (hz : items.size ≤ sizeLine)
    (h : ∀ (s' : Shared), (∀ b o, s.heap.get? b = some o → s'.heap.get? b = some o) → s'.gens = s.gens → s'.drawn = s.drawn → s'.os = s.os →
      wpAny (model prog w) A (assignInOrder [g1, g2] [x, .ref s'.heap.objs.size]) Q E { s' with heap := s'.heap.push { cls := .type "list", data := .seq (items.toList.drop 1).toArray } }) :
    wpAny (model prog w) A (unpack (.ref t) [(false, g1), (true, g2)]) Q E s := by
  have hlt : t ≠ s.heap.objs.size := by obtain ⟨o, ho, _⟩ := ht; exact Nat.ne_of_lt (Heap.lt_size ho)
  have hp : 0 < items.size := Nat.pos_of_ne_zero fun q => by rw [Array.getElem?_eq_none (by omega)] at hx; cases hx
  unfold unpack; refine wpAny_bind (wpAny_holding ?_); show wpAny _ _ (unpackItems (.ref t) 2 (some 1)) _ _ _
  unfold unpackItems notIterableAtAll
  refine wpAny_bind (wpAny_bind (wpAny_specialOf ht.typeIs slot_tuple_iter.lookup (wpAny_pure ?_))); simp only [Bool.false_eq_true, if_false]
  refine wpAny_bind (wpAny_holding (iter_tuple ht (wpAny_bind (wpAny_holding (draw_tuple hlt 1 0 _ _ ⟨_, Heap.get?_push_size _ rfl, rfl, rfl⟩ (ht.push _) (by omega) fun h₁ hit₁ hs₁ => ?_)))))
  have e1 : List.take 1 (List.drop 0 items.toList) = [x] := by
    have hl : items.toList[0]? = some x := by rw [Array.getElem?_toList]; exact hx
    cases e : items.toList with
    | nil => rw [e] at hl; cases hl
    | cons a r => rw [e] at hl; cases hl; rfl
  rw [e1, if_neg (by simp)]
  have ht₁ : IsTup h₁ t items := (ht.push _).extBut hs₁.extBut hlt
  have k1 : ∀ b o, s.heap.get? b = some o → h₁.get? b = some o := fun b o e => hs₁.extBut b o (Nat.ne_of_lt (Heap.lt_size e)) (Heap.get?_push_of_some _ e)
  have hot₁ : HotAt A x1 h₁ := hot_keep hot fun o e => k1 _ o e
  have nI : x1 ≠ s.heap.objs.size := Nat.ne_of_lt (hot_lt hot)
  refine wpAny_bind (wpAny_holding (wpAny_collect_iter (T := "tuple_iterator") (.inr (.inr (.inr rfl))) (walksTup_hot (A := A.in1) (x1 := x1) s.heap.objs.size t hlt items 1) (fun i s' st => ?_) ⟨hit₁, ht₁, hp, hot₁, nI⟩ (fun b hb => ?_) (by simp) (fun s' acc hm hacc => ?_) (by omega)))
  · obtain ⟨o, ho, hc, _⟩ := st.1
    exact ⟨o, ho, hc⟩
  · have q1 : s.heap.objs.size < h₁.objs.size := let ⟨o, ho, _⟩ := hit₁; Heap.lt_size ho
    have q2 : t < h₁.objs.size := let ⟨o, ho, _⟩ := ht₁; Heap.lt_size ho
    simp only [List.mem_cons, List.not_mem_nil, or_false] at hb
    rcases hb with q | q | q <;> subst q <;> first | exact q1 | exact q2 | exact hot_lt hot₁
  · have ea : acc.toList = items.toList.drop 1 := List.ext_getElem? fun j => by
      have hs : acc.size = items.size - 1 := hacc.1
      rw [List.getElem?_drop, Array.getElem?_toList, Array.getElem?_toList]
      cases hj : acc[j]? with
      | none => have := Array.getElem?_eq_none_iff.mp hj; exact (Array.getElem?_eq_none (by omega)).symm
      | some v => exact (hacc.2 j v hj).symm
    rw [ea]; show wpAny _ _ (if (items.toList.drop 1).length < 2 - 1 - 1 then _ else _) _ _ _
    rw [if_neg (by omega)]
    simp only [show List.take ((items.toList.drop 1).length - (2 - 1 - 1)) (items.toList.drop 1) = items.toList.drop 1 from List.take_of_length_le (by omega), show List.drop ((items.toList.drop 1).length - (2 - 1 - 1)) (items.toList.drop 1) = [] from List.drop_of_length_le (by omega)]
    exact wpAny_bind (wpAny_newList (wpAny_pure (h s' (fun b o e => hm.heap b o (by simpa using Nat.ne_of_lt (Heap.lt_size e)) (k1 b o e)) hm.gens hm.drawn hm.os)) (by rw [List.length_drop, Array.length_toList]; omega))
theorem pg_starH {X : Cx} {a b : Expr} {sp pos : Pos} {t : TGs} {kk : Nat} (hc : HotC X) (h : PGs X [a, b] t) (he : assignEach [a, .Starred b sp] X.env = [(false, assign a X.env), (true, assign b X.env)] := by rfl)
    (hp : (assignEach [a, b] X.env).map (·.2) = [assign a X.env, assign b X.env] := by rfl) : PG X (.Tuple [a, .Starred b sp] kk pos) (fun v σ H Q => ∃ a x xs, v = .ref a ∧ SqT X.K H a (x :: xs) ∧ ∀ p, H p = none → t [x, .ref p] σ (upd H p (.lst xs)) Q) := ⟨fun pins s σ H v u Q I r ⟨l, x, xs, e1, hq, hw⟩ => by
  subst e1; cases r; obtain ⟨its, rv, ht, hz⟩ := I.tuple hq; obtain ⟨x1, hot⟩ := hc.at I
  cases rv with
  | cons r1 rs =>
    rename_i u1 us1
    rw [assign_Tuple, he]
    refine wpAny_bind (wpAny_standAt (star_hot hot ht (x := u1) rfl (by have := rs.length; simp at hz ⊢; omega) fun ⟨hp', g', d', t', o'⟩ keep e1 e2 e3 => ?_))
    simp only at keep e1 e2 e3
    subst e1 e2 e3
    have I1 : Inv X pins σ H { s with heap := hp', toks := t' } := I.kept (t' := t') keep
    have := h.run pins _ σ _ [x, .ref hp'.objs.size] [u1, .ref hp'.objs.size] Q (I1.lnew (t' := t') rs (by simp at hz; omega)) (.cons r1 (.cons rfl .nil)) (hw _ I1.fresh)
    rw [hp] at this
    exact this⟩
end VhX

/-! Vc: a calculus of what is wanted behind a piece of a program, over data (own work). -/
namespace Vc
open PySem PySem.Spec PyProof.Rows L2
open Evl (Ex)

abbrev D := PyData
/-- what an attribute holds: data, or the thing that stands at an address -/
inductive Fv where
  | d (x : D)
  | a (p : Addr)
/-- what a room's own thing is: a list; a dict by whole numbers -/
inductive OD where
  | l (ds : List D)
  | di (es : List (Int × D))
  /-- a dict by tuples -/
  | dn (es : List (D × D))
  /-- a dict by texts -/
  | dt (es : List (Str × D))
  /-- an instance of the class at C, its attributes -/
  | ob (C : Addr) (fs : List (Str × D))
  /-- a list of things that stand at these addresses -/
  | lr (as : List Addr)
  /-- a dict of things that stand at these addresses -/
  | dr (es : List (Str × Addr))
  /-- an instance of the class at C, its attributes: data, or things that stand elsewhere -/
  | ox (C : Addr) (fs : List (Str × Fv))
instance : Coe (List D) OD := ⟨OD.l⟩
/-- what a slot holds: nothing known, data that nobody changes, a thing of its own -/
inductive Sl where
  | no
  | dat (d : D)
  | own (a : Addr) (o : OD)
abbrev En := List Sl
def Own (ρ : En) (a : Addr) : Prop := ∃ (i : Nat) (o : OD), ρ[i]? = some (Sl.own a o)

/-! ### data in a growing heap -/
theorem ex_l {K : PySem.W.Frag} {H H' : Hp} {a : Addr} {xs : List V} (e : Ex H H') (h : SqL K H a xs) : SqL K H' a xs := Evl.ex_l e h
theorem ex_t {K : PySem.W.Frag} {H H' : Hp} {a : Addr} {xs : List V} (e : Ex H H') (h : SqT K H a xs) : SqT K H' a xs := Evl.ex_t e h
mutual
theorem Dp.mono {K : PySem.W.Frag} {H H' : Hp} (e : Ex H H') : ∀ {v : V} {d : D}, Dp K H v d → Dp K H' v d
  | _, _, .non => .non
  | _, _, .bl b => .bl b
  | _, _, .int i => .int i
  | _, _, .str x => .str x
  | _, _, .lst h hs => .lst (ex_l e h) (DpAll.mono e hs)
  | _, _, .tup h hs => .tup (ex_t e h) (DpAll.mono e hs)
theorem DpAll.mono {K : PySem.W.Frag} {H H' : Hp} (e : Ex H H') : ∀ {vs : List V} {ds : List D}, DpAll K H vs ds → DpAll K H' vs ds
  | _, _, .nil => .nil
  | _, _, .cons h hs => .cons (Dp.mono e h) (DpAll.mono e hs)
end
theorem DpAll.len {K : PySem.W.Frag} {H : Hp} : ∀ {vs : List V} {ds : List D}, DpAll K H vs ds → vs.length = ds.length
  | _, _, .nil => rfl
  | _, _, .cons _ hs => congrArg (· + 1) (DpAll.len hs)
theorem DpAll.get {K : PySem.W.Frag} {H : Hp} : ∀ {vs : List V} {ds : List D} {i : Nat} {d : D}, DpAll K H vs ds → ds[i]? = some d → ∃ v, vs[i]? = some v ∧ Dp K H v d
  | _, _, _, _, .nil, h => by simp at h
  | _, _, 0, _, .cons (v := v) h _, e => ⟨v, rfl, by cases e; exact h⟩
  | _, _, i + 1, _, .cons _ hs, e => by
    obtain ⟨v, h1, h2⟩ := DpAll.get (i := i) hs (by simpa using e)
    exact ⟨v, by simpa using h1, h2⟩
theorem DpAll.getV {K : PySem.W.Frag} {H : Hp} : ∀ {vs : List V} {ds : List D} {i : Nat} {v : V}, DpAll K H vs ds → vs[i]? = some v → ∃ d, ds[i]? = some d ∧ Dp K H v d
  | _, _, _, _, .nil, h => by simp at h
  | _, _, 0, _, .cons (d := d) h _, e => ⟨d, rfl, by cases e; exact h⟩
  | _, _, i + 1, _, .cons _ hs, e => by
    obtain ⟨v, h1, h2⟩ := DpAll.getV (i := i) hs (by simpa using e)
    exact ⟨v, by simpa using h1, h2⟩
theorem DpAll.app {K : PySem.W.Frag} {H : Hp} : ∀ {vs ws : List V} {ds es : List D}, DpAll K H vs ds → DpAll K H ws es → DpAll K H (vs ++ ws) (ds ++ es)
  | _, _, _, _, .nil, h => h
  | _, _, _, _, .cons h hs, k => .cons h (DpAll.app hs k)
theorem DpAll.set {K : PySem.W.Frag} {H : Hp} {v : V} {d : D} (hd : Dp K H v d) : ∀ {vs : List V} {ds : List D} (i : Nat), DpAll K H vs ds → DpAll K H (vs.set i v) (ds.set i d)
  | _, _, _, .nil => .nil
  | _, _, 0, .cons _ hs => .cons hd hs
  | _, _, i + 1, .cons h hs => .cons h (DpAll.set hd i hs)
theorem DpAll.take {K : PySem.W.Frag} {H : Hp} : ∀ {vs : List V} {ds : List D} (n : Nat), DpAll K H vs ds → DpAll K H (vs.take n) (ds.take n)
  | _, _, 0, _ => .nil
  | _, _, _ + 1, .nil => .nil
  | _, _, n + 1, .cons h hs => .cons h (DpAll.take n hs)
theorem DpAll.drop {K : PySem.W.Frag} {H : Hp} : ∀ {vs : List V} {ds : List D} (n : Nat), DpAll K H vs ds → DpAll K H (vs.drop n) (ds.drop n)
  | _, _, 0, h => h
  | _, _, _ + 1, .nil => .nil
  | _, _, n + 1, .cons _ hs => DpAll.drop n hs
theorem dp_int {K : PySem.W.Frag} {H : Hp} {v : V} {i : Int} (h : Dp K H v (.int i)) : v = .int i := by cases h; rfl
theorem dp_bool {K : PySem.W.Frag} {H : Hp} {v : V} {b : Bool} (h : Dp K H v (.bool b)) : v = .bl b := by cases h; rfl
theorem dp_str {K : PySem.W.Frag} {H : Hp} {v : V} {x : Str} (h : Dp K H v (.str x)) : v = .str x := by cases h; rfl
theorem dp_tup {K : PySem.W.Frag} {H : Hp} {v : V} {ds : List D} (h : Dp K H v (.tuple ds)) : ∃ a xs, v = .ref a ∧ SqT K H a xs ∧ DpAll K H xs ds := by
  cases h with
  | tup h hs => exact ⟨_, _, rfl, h, hs⟩
theorem dp_lst {K : PySem.W.Frag} {H : Hp} {v : V} {ds : List D} (h : Dp K H v (.list ds)) : ∃ a xs, v = .ref a ∧ SqL K H a xs ∧ DpAll K H xs ds := by
  cases h with
  | lst h hs => exact ⟨_, _, rfl, h, hs⟩
theorem dp_ints {K : PySem.W.Frag} {H : Hp} : ∀ (ns : List Int), DpAll K H (ns.map V.int) (ns.map PyData.int)
  | [] => .nil
  | n :: r => .cons (.int n) (dp_ints r)

/-! ### what holds between the slots, the heap and what is known -/
/-- what stays through a whole law -/
structure Kw where
  K : PySem.W.Frag
  P : Program
  w : World
instance : CoeOut Kw PySem.W.Frag := ⟨Kw.K⟩
abbrev kwOf (X : Cx) : Kw := ⟨X.K, X.prog, X.w⟩
mutual
/-- data as a key -/
def nkD : D → NestedKey
  | .none => .none
  | .bool b => .num (if b = true then 1 else 0)
  | .int i => .num i
  | .str x => .text x
  | .tuple ds => .tup (nkDs ds)
  | .list _ => .none
  | .dict _ => .none
def nkDs : List D → List NestedKey
  | [] => []
  | d :: ds => nkD d :: nkDs ds
end
mutual
/-- data that may be a key -/
def kyD : D → Bool
  | .tuple ds => kyDs ds
  | .list _ => false
  | .dict _ => false
  | _ => true
def kyDs : List D → Bool
  | [] => true
  | d :: ds => kyD d && kyDs ds
end
/-- an entry: its key's data and value's data; the raw one -/
structure EntD (K : Kw) (B : Hp) (e : D × D) (x : NestedKey × Addr × Value) : Prop where
  key : x.1 = nkD e.1
  ky : kyD e.1 = true
  dp : (nkD e.1).depth ≤ 8
  adr : Dp K.K B (.ref x.2.1) e.1
  val : ∃ v, RelV v x.2.2 ∧ Dp K.K B v e.2
theorem EntD.mono {K : Kw} {B B' : Hp} (q : Ex B B') {e : D × D} {x : NestedKey × Addr × Value} (h : EntD K B e x) : EntD K B' e x := ⟨h.key, h.ky, h.dp, Dp.mono q h.adr, let ⟨v, h1, h2⟩ := h.val; ⟨v, h1, Dp.mono q h2⟩⟩
/-- the one object at a is a dict with these raw entries -/
def ndRaw (K : Kw) (a : Addr) (xs : List (NestedKey × Addr × Value)) (h : Heap) : Prop :=
  (a == sysModules) = false ∧ xs.length ≤ sizeLine ∧ ∃ o es ep, h.get? a = some o ∧ o.ExactDict ∧ o.data = .dict es ep ∧ es.toList = xs.map (entryOfKey (nestedKind K.P K.w)) ∧ (xs.map (·.1)).Nodup
/-- the attributes' values -/
inductive FvAll (K : PySem.W.Frag) (B : Hp) : List V → List Fv → Prop where
  | nil : FvAll K B [] []
  | dat {v : V} {x : D} {vs : List V} {fs : List Fv} (h : Dp K B v x) (hs : FvAll K B vs fs) : FvAll K B (v :: vs) (.d x :: fs)
  | adr {p : Addr} {vs : List V} {fs : List Fv} (hs : FvAll K B vs fs) : FvAll K B (.ref p :: vs) (.a p :: fs)
theorem FvAll.mono {K : PySem.W.Frag} {B B' : Hp} (e : Ex B B') : ∀ {vs : List V} {fs : List Fv}, FvAll K B vs fs → FvAll K B' vs fs
  | _, _, .nil => .nil
  | _, _, .dat h hs => .dat (Dp.mono e h) (FvAll.mono e hs)
  | _, _, .adr hs => .adr (FvAll.mono e hs)
def OD.is (K : Kw) (B : Hp) (a : Addr) (u : HO) : OD → Prop
  | .l ds => ∃ vs, u = .lst vs ∧ DpAll K.K B vs ds
  | .di es => ∃ vs, DpAll K.K B vs (es.map (·.2)) ∧ u = .dK (List.zipWith (fun e v => (Sum.inl e.1, v)) es vs)
  | .dn es => ∃ xs, u = .ext (ndRaw K a xs) ∧ Paired (EntD K B) es xs
  | .dt es => ∃ vs, DpAll K.K B vs (es.map (·.2)) ∧ u = .dK (List.zipWith (fun e v => (Sum.inr e.1, v)) es vs)
  | .ob C fs => ∃ dx vs, DpAll K.K B vs (fs.map (·.2)) ∧ u = .ins C dx (List.zipWith (fun e v => (e.1, v)) fs vs)
  | .lr as => u = .lst (as.map V.ref)
  | .dr es => u = .dK (es.map fun e => (Sum.inr e.1, V.ref e.2))
  | .ox C fs => ∃ dx vs, FvAll K.K B vs (fs.map (·.2)) ∧ u = .ins C dx (List.zipWith (fun e v => (e.1, v)) fs vs)
theorem OD.mono {K : Kw} {B B' : Hp} {a : Addr} {u : HO} (e : Ex B B') : ∀ {o : OD}, o.is K B a u → o.is K B' a u
  | .l _, ⟨vs, h1, h2⟩ => ⟨vs, h1, DpAll.mono e h2⟩
  | .di _, ⟨vs, h1, h2⟩ => ⟨vs, DpAll.mono e h1, h2⟩
  | .dn _, ⟨xs, h1, h2⟩ => ⟨xs, h1, Paired.mapP h2 fun _ _ q => q.mono e⟩
  | .dt _, ⟨vs, h1, h2⟩ => ⟨vs, DpAll.mono e h1, h2⟩
  | .ob _ _, ⟨dx, vs, h1, h2⟩ => ⟨dx, vs, DpAll.mono e h1, h2⟩
  | .lr _, h => h
  | .dr _, h => h
  | .ox _ _, ⟨dx, vs, h1, h2⟩ => ⟨dx, vs, FvAll.mono e h1, h2⟩
structure Rel (K : Kw) (B H : Hp) (σ : L2.St) (ρ : En) : Prop where
  ex : Ex B H
  len : ρ.length = σ.length
  dat : ∀ (i : Nat) d, ρ[i]? = some (Sl.dat d) → ∃ v, σ[i]? = some (some v) ∧ Dp K B v d
  own : ∀ (i : Nat) a o, ρ[i]? = some (Sl.own a o) → σ[i]? = some (some (V.ref a)) ∧ B a = none ∧ ∃ u, H a = some u ∧ OD.is K B a u o
  dis : ∀ (i j : Nat) a ds es, ρ[i]? = some (Sl.own a ds) → ρ[j]? = some (Sl.own a es) → i = j
/-- from (B, H, ρ) to (B', H', ρ') -/
structure Go (B H : Hp) (ρ : En) (B' H' : Hp) (ρ' : En) : Prop where
  ex : Ex B B'
  keep : ∀ a o, H a = some o → ¬ Own ρ a → H' a = some o
  out : ∀ a, H a ≠ none → B a = none → ¬ Own ρ a → B' a = none
  own : ∀ a, Own ρ' a → Own ρ a ∨ H a = none
  dom : ∀ a, H' a = none → H a = none
theorem Go.refl {B H : Hp} {ρ : En} : Go B H ρ B H ρ := ⟨Evl.Ex.refl B, fun _ _ h _ => h, fun _ _ h _ => h, fun _ h => .inl h, fun _ h => h⟩
theorem Go.trans {B H B1 H1 B2 H2 : Hp} {ρ ρ1 ρ2 : En} (p : Go B H ρ B1 H1 ρ1) (q : Go B1 H1 ρ1 B2 H2 ρ2) : Go B H ρ B2 H2 ρ2 where
  ex := p.ex.trans q.ex
  keep := fun a o h n => q.keep a o (p.keep a o h n) fun z => (p.own a z).elim n fun e => by rw [e] at h; cases h
  out := fun a h b n => by
    obtain ⟨o, ho⟩ := Option.ne_none_iff_exists'.mp h
    refine q.out a ?_ (p.out a h b n) fun z => (p.own a z).elim n fun e => h e
    rw [p.keep a o ho n]
    exact fun z => by cases z
  own := fun a z => by
    rcases q.own a z with z | z
    · exact p.own a z
    · exact .inr (p.dom a z)
  dom := fun a z => p.dom a (q.dom a z)
/-- what is known grows, the heap grows, nothing else -/
theorem Rel.grow {K : Kw} {B H B' H' : Hp} {σ : L2.St} {ρ : En} (r : Rel K B H σ ρ) (eB : Ex B B') (e : Ex B' H') (eH : Ex H H') (out : ∀ a, H a ≠ none → B a = none → B' a = none) : Rel K B' H' σ ρ where
  ex := e
  len := r.len
  dat := fun i d h => let ⟨v, h1, h2⟩ := r.dat i d h; ⟨v, h1, Dp.mono eB h2⟩
  own := fun i a ds h => by
    obtain ⟨h1, h2, vs, h3, h4⟩ := r.own i a ds h
    exact ⟨h1, out a (by rw [h3]; exact fun z => by cases z) h2, vs, eH a _ h3, OD.mono eB h4⟩
  dis := r.dis
theorem Go.grow {B H B' H' : Hp} {ρ : En} (eB : Ex B B') (eH : Ex H H') (out : ∀ a, H a ≠ none → B a = none → B' a = none) : Go B H ρ B' H' ρ := ⟨eB, fun a o h _ => eH a o h, fun a h b _ => out a h b, fun _ z => .inl z, fun a z => by
  cases e : H a with
  | none => rfl
  | some u =>
    rw [eH a u e] at z
    cases z⟩
/-- a new object comes into the heap and into what is known -/
theorem new_both {K : Kw} {B H : Hp} {σ : L2.St} {ρ : En} {p : Addr} {o : HO} (r : Rel K B H σ ρ) (hp : H p = none) : Rel K (upd B p o) (upd H p o) σ ρ ∧ Go B H ρ (upd B p o) (upd H p o) ρ := by
  have bp : B p = none := by
    cases e : B p with
    | none => rfl
    | some u =>
      rw [r.ex p u e] at hp
      cases hp
  have eB : Ex B (upd B p o) := Evl.Ex.new bp
  have eH : Ex H (upd H p o) := Evl.Ex.new hp
  have out : ∀ a, H a ≠ none → B a = none → upd B p o a = none := fun a h b => by
    rw [upd_ne (fun z => h (by rw [z]; exact hp))]
    exact b
  refine ⟨r.grow eB (fun a u h => ?_) eH out, Go.grow eB eH out⟩
  by_cases z : a = p
  · rw [z, upd_same] at h ⊢
    exact h
  · rw [upd_ne z] at h ⊢
    exact r.ex a u h
/-- a new object comes into the heap alone -/
theorem new_one {K : Kw} {B H : Hp} {σ : L2.St} {ρ : En} {p : Addr} {o : HO} (r : Rel K B H σ ρ) (hp : H p = none) : Rel K B (upd H p o) σ ρ ∧ Go B H ρ B (upd H p o) ρ ∧ B p = none := by
  have bp : B p = none := by
    cases e : B p with
    | none => rfl
    | some u =>
      rw [r.ex p u e] at hp
      cases hp
  have eH : Ex H (upd H p o) := Evl.Ex.new hp
  exact ⟨r.grow (Evl.Ex.refl B) (r.ex.trans eH) eH (fun a _ b => b), Go.grow (Evl.Ex.refl B) eH (fun a _ b => b), bp⟩

/-! ### readings by themselves -/
def eSem (X : Cx) (e : Expr) : TE := fun σ H Q => ∀ pins s, Inv X pins σ H s → wpAny (model X.prog X.w) X.A (eval e X.env) (EP X pins σ Q) X.xe s
def bSem (X : Cx) (e : Expr) : TT := fun σ H Q => ∀ pins s, Inv X pins σ H s → wpAny (model X.prog X.w) X.A (isTrue e X.env (eval e X.env)) (TP X pins σ Q) X.xe s
def wSem (X : Cx) (e : Expr) : TT := fun σ H Q => ∀ whole pins s, Inv X pins σ H s → wpAny (model X.prog X.w) X.A (isTrue e X.env whole) (TP X pins σ Q) X.xe s
def aSem (X : Cx) (es : List Expr) : TA := fun σ H Q => ∀ pos pins s, Inv X pins σ H s → wpAny (model X.prog X.w) X.A (spliced (backTo pos (starEach es X.env))) (AP X pins σ Q) X.xe s
def sSem (X : Cx) (st : Stmt) : TS := fun Z σ H => ∀ pins s, Inv X pins σ H s → wpAny (model X.prog X.w) X.A (exec st X.env) (SP X pins Z) X.xe s
def ssSem (X : Cx) (st : List Stmt) : TS := fun Z σ H => ∀ pins s, Inv X pins σ H s → wpAny (model X.prog X.w) X.A (execs st X.env) (SP X pins Z) X.xe s
def gSem (X : Cx) (tg : Expr) : TG := fun v σ H Q => ∀ pins s u, Inv X pins σ H s → RelV v u → wpAny (model X.prog X.w) X.A (assign tg X.env u) (fun _ s' => ∃ σ' H', Inv X pins σ' H' s' ∧ Q σ' H') X.xe s
def gsSem (X : Cx) (ts : List Expr) : TGs := fun vs σ H Q => ∀ pins s us, Inv X pins σ H s → Vals vs us → wpAny (model X.prog X.w) X.A (assignInOrder ((assignEach ts X.env).map (·.2)) us) (fun _ s' => ∃ σ' H', Inv X pins σ' H' s' ∧ Q σ' H') X.xe s
section
variable {X : Cx} {e : Expr} {es : List Expr} {st : Stmt} {sts : List Stmt}
theorem pe_sem : PE X e (eSem X e) := ⟨fun pins s σ H Q I h => h pins s I⟩
theorem pb_sem : PT X e (bSem X e) := ⟨fun pins s σ H Q I h => h pins s I⟩
theorem pw_sem : PW X e (wSem X e) := ⟨fun wh pins s σ H Q I h => h wh pins s I⟩
theorem pa_sem : PA X es (aSem X es) := ⟨fun pos pins s σ H Q I h => h pos pins s I⟩
theorem ps_sem : PS X st (sSem X st) := ⟨fun pins s σ H Q I h => h pins s I⟩
theorem pss_sem : PSs X sts (ssSem X sts) := ⟨fun pins s σ H Q I h => h pins s I⟩
theorem pg_sem : PG X e (gSem X e) := ⟨fun pins s σ H v u Q I r h => h pins s u I r⟩
theorem pgs_sem : PGs X es (gsSem X es) := ⟨fun pins s σ H v u Q I r h => h pins s u I r⟩
theorem PE.sem {t : TE} (h : PE X e t) {σ : L2.St} {H : Hp} {Q : VK} (q : t σ H Q) : eSem X e σ H Q := fun pins s I => h.run pins s σ H Q I q
theorem PT.sem {t : TT} (h : PT X e t) {σ : L2.St} {H : Hp} {Q : Bool → Hp → Prop} (q : t σ H Q) : bSem X e σ H Q := fun pins s I => h.run pins s σ H Q I q
theorem PW.sem {t : TT} (h : PW X e t) {σ : L2.St} {H : Hp} {Q : Bool → Hp → Prop} (q : t σ H Q) : wSem X e σ H Q := fun wh pins s I => h.run wh pins s σ H Q I q
theorem PA.sem {t : TA} (h : PA X es t) {σ : L2.St} {H : Hp} {Q : List V → Hp → Prop} (q : t σ H Q) : aSem X es σ H Q := fun pos pins s I => h.run pos pins s σ H Q I q
theorem PS.sem {t : TS} (h : PS X st t) {σ : L2.St} {H : Hp} {Z : Ends} (q : t Z σ H) : sSem X st Z σ H := fun pins s I => h.run pins s σ H Z I q
theorem PSs.sem {t : TS} (h : PSs X sts t) {σ : L2.St} {H : Hp} {Z : Ends} (q : t Z σ H) : ssSem X sts Z σ H := fun pins s I => h.run pins s σ H Z I q
theorem PG.sem {t : TG} (h : PG X e t) {σ : L2.St} {H : Hp} {v : V} {Q : L2.St → Hp → Prop} (q : t v σ H Q) : gSem X e v σ H Q := fun pins s u I r => h.run pins s σ H v u Q I r q
theorem PGs.sem {t : TGs} (h : PGs X es t) {σ : L2.St} {H : Hp} {vs : List V} {Q : L2.St → Hp → Prop} (q : t vs σ H Q) : gsSem X es vs σ H Q := fun pins s u I r => h.run pins s σ H vs u Q I r q
end

/-! ### the judgements -/
/-- an expression's value, as data; what is behind it -/
structure VD (X : Cx) (e : Expr) (ρ : En) (P : D → En → Prop) : Prop where
  run : ∀ B H σ (Q : VK), Rel (kwOf X) B H σ ρ →
  (∀ v d B' H' ρ', P d ρ' → Dp X.K B' v d → Go B H ρ B' H' ρ' → Rel (kwOf X) B' H' σ ρ' → Q v H') → eSem X e σ H Q
/-- a list that was just made -/
structure VN (X : Cx) (e : Expr) (ρ : En) (P : List D → En → Prop) : Prop where
  run : ∀ B H σ (Q : VK), Rel (kwOf X) B H σ ρ →
  (∀ p vs ds B' H' ρ', P ds ρ' → H p = none → H' p = some (.lst vs) → B' p = none → ¬ Own ρ' p → DpAll X.K B' vs ds → Go B H ρ B' H' ρ' → Rel (kwOf X) B' H' σ ρ' → Q (.ref p) H') → eSem X e σ H Q
structure VT (X : Cx) (e : Expr) (ρ : En) (P : Bool → En → Prop) : Prop where
  run : ∀ B H σ (Q : Bool → Hp → Prop), Rel (kwOf X) B H σ ρ →
  (∀ b B' H' ρ', P b ρ' → Go B H ρ B' H' ρ' → Rel (kwOf X) B' H' σ ρ' → Q b H') → bSem X e σ H Q
structure VW (X : Cx) (e : Expr) (ρ : En) (P : Bool → En → Prop) : Prop where
  run : ∀ B H σ (Q : Bool → Hp → Prop), Rel (kwOf X) B H σ ρ →
  (∀ b B' H' ρ', P b ρ' → Go B H ρ B' H' ρ' → Rel (kwOf X) B' H' σ ρ' → Q b H') → wSem X e σ H Q
structure VA (X : Cx) (es : List Expr) (ρ : En) (P : List D → En → Prop) : Prop where
  run : ∀ B H σ (Q : List V → Hp → Prop), Rel (kwOf X) B H σ ρ →
  (∀ vs ds B' H' ρ', P ds ρ' → DpAll X.K B' vs ds → Go B H ρ B' H' ρ' → Rel (kwOf X) B' H' σ ρ' → Q vs H') → aSem X es σ H Q
/-- an error: its class, what stands in it (where that is told) -/
structure Er where
  c : Value
  fs : Option (List (Str × D)) := none
/-- an error of one's own class, what stands in it is left open -/
def Er.ref (a : Addr) : Er := ⟨.ref a, none⟩
def ErOk (K : PySem.W.Frag) (B H : Hp) (dx : Option Addr) (e : Er) : Prop := ∀ fs, e.fs = some fs → ∃ d vs, dx = some d ∧ H d = some (.xd (List.zipWith (fun e v => (e.1, v)) fs vs)) ∧ DpAll K B vs (fs.map (·.2))
theorem erOk_none {K : PySem.W.Frag} {B H : Hp} {dx : Option Addr} {c : Value} : ErOk K B H dx ⟨c, none⟩ := fun _ h => nomatch h
/-- the ends of a block -/
structure Fin where
  nx : En → Prop
  rt : D → En → Prop
  bk : En → Prop := fun _ => False
  ct : En → Prop := fun _ => False
  /-- an error of a class is let out -/
  ex : Er → En → Prop := fun _ _ => False
/-- errors are taken: with their context, where none is being handled -/
def TakesM (X : Cx) (W : WX) : Prop := (X.calm = true → L2N.Takes X W) ∧ (X.calm = false → L2.Takes X W)
/-- what is wanted behind a block, also of errors -/
structure EZ (X : Cx) where
  z : Ends
  e : WX
  tk : TakesM X e
structure FinOk {X : Cx} (K : Kw) (B H : Hp) (ρ : En) (F : Fin) (Z : EZ X) : Prop where
  nx : ∀ B' H' σ' ρ', F.nx ρ' → Go B H ρ B' H' ρ' → Rel K B' H' σ' ρ' → Z.z.nx σ' H'
  rt : ∀ v d B' H' σ' ρ', F.rt d ρ' → Dp K B' v d → Go B H ρ B' H' ρ' → Rel K B' H' σ' ρ' → Z.z.rt v H'
  bk : ∀ B' H' σ' ρ', F.bk ρ' → Go B H ρ B' H' ρ' → Rel K B' H' σ' ρ' → Z.z.bk σ' H'
  ct : ∀ B' H' σ' ρ', F.ct ρ' → Go B H ρ B' H' ρ' → Rel K B' H' σ' ρ' → Z.z.ct σ' H'
  ex : ∀ (c : Er) dx B' H' σ' ρ', F.ex c ρ' → ErOk K.K B' H' dx c → Go B H ρ B' H' ρ' → Rel K B' H' σ' ρ' → Z.e c.c dx σ' H'
structure VS (X : Cx) (st : Stmt) (ρ : En) (F : Fin) : Prop where
  run : ∀ B H σ (Z : EZ X), Rel (kwOf X) B H σ ρ → FinOk (kwOf X) B H ρ F Z → sSem X st Z.z σ H
structure VSs (X : Cx) (sts : List Stmt) (ρ : En) (F : Fin) : Prop where
  run : ∀ B H σ (Z : EZ X), Rel (kwOf X) B H σ ρ → FinOk (kwOf X) B H ρ F Z → ssSem X sts Z.z σ H
/-- data into a target -/
structure VG (X : Cx) (tg : Expr) (d : D) (ρ : En) (P : En → Prop) : Prop where
  run : ∀ v B H σ (Q : L2.St → Hp → Prop), Rel (kwOf X) B H σ ρ → Dp X.K B v d →
  (∀ B' H' σ' ρ', P ρ' → Go B H ρ B' H' ρ' → Rel (kwOf X) B' H' σ' ρ' → Q σ' H') → gSem X tg v σ H Q
structure VGs (X : Cx) (tg : List Expr) (ds : List D) (ρ : En) (P : En → Prop) : Prop where
  run : ∀ vs B H σ (Q : L2.St → Hp → Prop), Rel (kwOf X) B H σ ρ → DpAll X.K B vs ds →
  (∀ B' H' σ' ρ', P ρ' → Go B H ρ B' H' ρ' → Rel (kwOf X) B' H' σ' ρ' → Q σ' H') → gsSem X tg vs σ H Q

theorem FinOk.go {X : Cx} {K : Kw} {B H B1 H1 : Hp} {ρ ρ1 : En} {F : Fin} {Z : EZ X} (f : FinOk K B H ρ F Z) (g : Go B H ρ B1 H1 ρ1) : FinOk K B1 H1 ρ1 F Z where
  nx := fun B' H' σ' ρ' p q r => f.nx B' H' σ' ρ' p (g.trans q) r
  rt := fun v d B' H' σ' ρ' p h q r => f.rt v d B' H' σ' ρ' p h (g.trans q) r
  bk := fun B' H' σ' ρ' p q r => f.bk B' H' σ' ρ' p (g.trans q) r
  ct := fun B' H' σ' ρ' p q r => f.ct B' H' σ' ρ' p (g.trans q) r
  ex := fun c dx B' H' σ' ρ' p k q r => f.ex c dx B' H' σ' ρ' p k (g.trans q) r

/-! ### the context -/
inductive At {α : Type} : List α → Nat → α → Prop where
  | here {x : α} {l : List α} : At (x :: l) 0 x
  | there {x y : α} {l : List α} {i : Nat} : At l i x → At (y :: l) (i + 1) x
theorem At.get {α : Type} {l : List α} {i : Nat} {x : α} (h : At l i x) : l[i]? = some x := by
  induction h with
  | here => rfl
  | there _ ih => simpa using ih
theorem At.mem {α : Type} {l : List α} {i : Nat} {x : α} (h : At l i x) : x ∈ l := by
  induction h with
  | here => exact List.mem_cons_self
  | there _ ih => exact List.mem_cons_of_mem _ ih
/-- the program -/
structure Md where
  prog : Program
  w : World
  K : PySem.W.Frag
  mg : Str → Option Value
  base : Heap
  /-- an error is being handled -/
  hot : Bool
class Cold (M : Md) : Prop where
  no : M.hot = false
abbrev kwM (M : Md) : Kw := ⟨M.K, M.prog, M.w⟩
def mdOf (X : Cx) : Md := ⟨X.prog, X.w, X.K, X.mg, X.base, !X.calm⟩
/-- a def's scope, its names by slot (seen in its body or not, stored there or not), its global names -/
structure Cst (X : Cx) (M : Md) (sc : Scope) (NK : List (Str × Bool × Bool)) (G : List Str) (k : Nat) : Prop where
  m : mdOf X = M
  s : X.env.scope = sc
  n : X.N = NK.map (·.1)
  vis : ∀ (i : Nat) x l, NK[i]? = some (x, true, l) → Vis X.env.scope x
  loc : ∀ (i : Nat) x v, NK[i]? = some (x, v, true) → L2.Loc X.env.scope x ∧ (X.fn x = true ∨ X.env.scope.names.lookup x = some .local)
  gl : ∀ x ∈ G, Gl X x
  nd : X.N.Nodup
  hotc : X.calm = false → L2H.HotC X
  cold : X.calm = true → X.A.handled = none
  room : L2H.RoomH k X.A
  po : PassesOwn (model X.prog X.w) X.A X.env X.xe
def kindOk (sc : Scope) (d : Bool) (q : Str × Bool × Bool) : Bool :=
  (!q.2.1 || (match sc.names.lookup q.1 with | some .local => true | some .cell => true | some .free => true | _ => false)) &&
  (!q.2.2 || (match sc.names.lookup q.1 with | some .local => true | some .cell => d | _ => false))
def chk (sc : Scope) (d : Bool) (NK : List (Str × Bool × Bool)) (G : List Str) : Bool :=
  NK.all (kindOk sc d) && G.all (fun x => match sc.names.lookup x with | some .globalImplicit => true | _ => false)
section
variable {X : Cx} {M : Md} {sc : Scope} {NK : List (Str × Bool × Bool)} {G : List Str} {k : Nat}
theorem chk_vis {sc : Scope} {d : Bool} (h : chk sc d NK G = true) (i : Nat) (x : Str) (l : Bool) (e : NK[i]? = some (x, true, l)) : Vis sc x := by
  unfold chk at h
  rw [Bool.and_eq_true, List.all_eq_true] at h
  have q := h.1 _ (List.mem_of_getElem? e)
  unfold kindOk at q
  rw [Bool.and_eq_true] at q
  have q1 := q.1
  simp only [Bool.not_true, Bool.false_or] at q1
  unfold Vis
  split at q1 <;> first
    | (rename_i e; exact .inl e)
    | (rename_i e; exact .inr (.inl e))
    | (rename_i e; exact .inr (.inr e))
    | cases q1
theorem chk_loc {sc : Scope} {d : Bool} (h : chk sc d NK G = true) (i : Nat) (x : Str) (v : Bool) (e : NK[i]? = some (x, v, true)) : L2.Loc sc x ∧ (d = true ∨ sc.names.lookup x = some .local) := by
  unfold chk at h
  rw [Bool.and_eq_true, List.all_eq_true] at h
  have q := h.1 _ (List.mem_of_getElem? e)
  unfold kindOk at q
  rw [Bool.and_eq_true] at q
  have q1 := q.2
  simp only [Bool.not_true, Bool.false_or] at q1
  unfold L2.Loc
  split at q1 <;> first
    | (rename_i e; exact ⟨.inl e, .inr e⟩)
    | (rename_i e; exact ⟨.inr e, .inl q1⟩)
    | cases q1
theorem chk_gl {sc : Scope} {d : Bool} (h : chk sc d NK G = true) (x : Str) (e : x ∈ G) : sc.names.lookup x = some .globalImplicit := by
  unfold chk at h
  rw [Bool.and_eq_true, List.all_eq_true, List.all_eq_true] at h
  have q := h.2 _ e
  split at q
  · assumption
  · cases q
theorem Cst.ix (C : Cst X M sc NK G k) {i : Nat} {x : Str} {v l : Bool} (h : At NK i (x, v, l)) : X.N[i]? = some x := by
  rw [C.n, List.getElem?_map, h.get]
  rfl
theorem Cst.vi (C : Cst X M sc NK G k) {i : Nat} {x : Str} {l : Bool} (h : At NK i (x, true, l)) : Vis X.env.scope x := C.vis i x l h.get
theorem Cst.lo (C : Cst X M sc NK G k) {i : Nat} {x : Str} {v : Bool} (h : At NK i (x, v, true)) : L2.Loc X.env.scope x := (C.loc i x v h.get).1
theorem Cst.fn (C : Cst X M sc NK G k) {i : Nat} {x : Str} {v : Bool} (h : At NK i (x, v, true)) : X.fn x = true ∨ X.env.scope.names.lookup x = some .local := (C.loc i x v h.get).2
theorem Cst.g (C : Cst X M sc NK G k) {i : Nat} {x : Str} (h : At G i x) : Gl X x := C.gl x h.mem
theorem Cst.calm [i : Cold M] (C : Cst X M sc NK G k) : X.calm = true := by
  have h := i.no
  rw [← C.m] at h
  have h : (!X.calm) = false := h
  cases e : X.calm with
  | true => rfl
  | false =>
    rw [e] at h
    cases h
theorem Cst.calmOf (C : Cst X M sc NK G k) (h : X.calm = true) : M.hot = false := by
  rw [← C.m]
  show (!X.calm) = false
  rw [h]
  rfl
theorem Cst.hotOf (C : Cst X M sc NK G k) (h : X.calm = false) : M.hot = true := by
  rw [← C.m]
  show (!X.calm) = true
  rw [h]
  rfl
theorem Cst.rm (C : Cst X M sc NK G k) (h : X.calm = true) : Room k X.A := ⟨C.cold h, C.room.dp, C.room.un⟩
theorem Cst.hu (C : Cst X M sc NK G k) : X.A.units + 64 < cLine := by
  have := C.room.un
  omega
theorem Cst.hu1 (C : Cst X M sc NK G k) : X.A.units + 65 < cLine := by
  have := C.room.un
  omega
theorem Cst.mg (C : Cst X M sc NK G k) {x : Str} {o : Option Value} (h : M.mg x = o) : X.mg x = o := by
  have e := C.m
  subst e
  exact h
theorem Cst.never (C : Cst X M sc NK G k) : PassesOwn (model X.prog X.w) X.A X.env X.xe := C.po
/-- a def's own body -/
theorem cst_own {P : Program} {w : World} {K : PySem.W.Frag} {mg : Str → Option Value} {base : Heap} {N : List Str} {qual : Str} {sc : Scope} {f : Addr} {cdv : Value} {A : Around} {outer : List Env} {s : Shared} {H : Hp} {E : XK} {CX' : CXT} {xe : Value → Shared → Prop} {pn : List (Addr × Obj)} {cm : Bool}
    (hN : N = NK.map (·.1)) (nd : N.Nodup) (h : chk sc true NK G = true) (hr : L2H.RoomH k (A.deeper (envOfC qual sc s.heap.objs.size f cdv))) (po : PassesOwn (model P w) (A.deeper (envOfC qual sc s.heap.objs.size f cdv)) (envOfC qual sc s.heap.objs.size f cdv) xe) (hh : cm = false → ∃ p : Addr × Obj, L2H.Hot1 (A.deeper (envOfC qual sc s.heap.objs.size f cdv)) p ∧ p ∈ pn) (hc : cm = true → A.handled = none) :
    Cst { cxOf CX' P w K mg base N qual sc f cdv A outer s H E with xe := xe, pn := pn, calm := cm } ⟨P, w, K, mg, base, !cm⟩ sc NK G k where
  m := rfl
  s := rfl
  n := hN
  vis := chk_vis h
  loc := fun i x v e => ⟨(chk_loc h i x v e).1, .inl rfl⟩
  gl := fun x e => chk_gl h x e
  nd := nd
  hotc := hh
  cold := hc
  room := hr
  po := po
theorem cst_def {P : Program} {w : World} {K : PySem.W.Frag} {mg : Str → Option Value} {base : Heap} {N : List Str} {qual : Str} {sc : Scope} {f : Addr} {cdv : Value} {A : Around} {outer : List Env} {s : Shared} {H : Hp} {E : XK}
    (hN : N = NK.map (·.1)) (nd : N.Nodup) (h : chk sc true NK G = true) (hr : Room k (A.deeper (envOfC qual sc s.heap.objs.size f cdv))) : Cst (cxOf CX0 P w K mg base N qual sc f cdv A outer s H E).nox ⟨P, w, K, mg, base, false⟩ sc NK G k :=
  cst_own (CX' := CX0) (E := E) (cm := true) hN nd h (L2H.roomH_of hr) PassesOwn.never (fun e => nomatch e) fun _ => hr.hd
/-- a comprehension's block -/
theorem cst_blk {scope : Scope} {s : Shared} {H : Hp} {C : Addr} {cl : List (Str × Addr)} {fp : List Addr} {NK' : List (Str × Bool × Bool)} {G' : List Str} (c : Cst X M sc NK G k) (hcm : X.calm = true)
    (hN : NK'.map (·.1) = NK.map (·.1)) (h : chk (relS scope sc) false NK' G' = true) : Cst (X.blk s H scope (compEnvC scope cl C X.env) fp) M (relS scope sc) NK' G' k where
  m := c.m
  s := by
    rw [← c.s]
    rfl
  n := c.n.trans hN.symm
  vis := fun i x l e => by
    have q := chk_vis h i x l e
    rw [← c.s] at q
    exact q
  loc := fun i x v e => by
    have q := chk_loc h i x v e
    rw [← c.s] at q
    refine ⟨q.1, .inr ?_⟩
    rcases q.2 with z | z
    · cases z
    · exact z
  gl := fun x e => by
    have q := chk_gl h x e
    rw [← c.s] at q
    exact q
  nd := c.nd
  hotc := fun e => absurd (hcm.symm.trans e) (by decide)
  cold := c.cold
  room := c.room
  po := PassesOwn.never
/-- the same where an error is being handled -/
theorem cst_blkH {scope : Scope} {s : Shared} {H : Hp} {C : Addr} {cl : List (Str × Addr)} {fp : List Addr} {NK' : List (Str × Bool × Bool)} {G' : List Str} (c : Cst X M sc NK G k) 
    (hN : NK'.map (·.1) = NK.map (·.1)) (h : chk (relS scope sc) false NK' G' = true) : Cst (VhX.blkP X s H scope (compEnvC scope cl C X.env) fp) M (relS scope sc) NK' G' k where
  m := c.m
  s := by
    rw [← c.s]
    rfl
  n := c.n.trans hN.symm
  vis := fun i x l e => by
    have q := chk_vis h i x l e
    rw [← c.s] at q
    exact q
  loc := fun i x v e => by
    have q := chk_loc h i x v e
    rw [← c.s] at q
    refine ⟨q.1, .inr ?_⟩
    rcases q.2 with z | z
    · cases z
    · exact z
  gl := fun x e => by
    have q := chk_gl h x e
    rw [← c.s] at q
    exact q
  nd := c.nd
  hotc := c.hotc
  cold := c.cold
  room := c.room
  po := PassesOwn.never
end

open PySem PySem.Spec PyProof.Rows L2
open Evl (Ex)

/-! ### operators on data -/
def binD : Operator → D → D → (D → Prop) → Prop
  | .Add, .int i, .int j, k => k (.int (i + j))
  | .Sub, .int i, .int j, k => k (.int (i - j))
  | .Sub, .bool p, .bool q, k => k (.int (PyProof.Rows.b2i p - PyProof.Rows.b2i q))
  | .Mult, .int i, .int j, k => CMulW i j ∧ k (.int (i * j))
  | .FloorDiv, .int i, .int j, k => CDivW i j ∧ k (.int (i / j))
  | .Mod, .int i, .int j, k => 0 < j ∧ k (.int (i % j))
  | .Pow, .int i, .int j, k => CPow i j ∧ k (.int (i ^ j.toNat))
  | .LShift, .int i, .int j, k => CPow i j ∧ k (.int (i * 2 ^ j.toNat))
  | _, _, _, _ => False
def unD : UnaryOp → D → (D → Prop) → Prop
  | .USub, .int i, k => k (.int (-i))
  | _, _, _ => False
def cmpD : CmpOp → D → D → (Bool → Prop) → Prop
  | .Lt, .int i, .int j, k => k (decide (i < j))
  | .LtE, .int i, .int j, k => k (decide (i ≤ j))
  | .Gt, .int i, .int j, k => k (decide (j < i))
  | .GtE, .int i, .int j, k => k (decide (j ≤ i))
  | .Eq, .int i, .int j, k => k (decide (i = j))
  | .NotEq, .int i, .int j, k => k (!decide (i = j))
  | .Eq, x, y, k => SeqAt.shaped x = true ∧ SeqAt.shaped y = true ∧ k (PyData.eqv x y)
  | .NotEq, x, y, k => SeqAt.shaped x = true ∧ SeqAt.shaped y = true ∧ k (!PyData.eqv x y)
  | .In, .int i, .tuple ys, k => ∃ js : List Int, ys = js.map PyData.int ∧ k (decide (i ∈ js))
  | .NotIn, .int i, .tuple ys, k => ∃ js : List Int, ys = js.map PyData.int ∧ k (!decide (i ∈ js))
  | .In, .int i, .list ys, k => ∃ js : List Int, ys = js.map PyData.int ∧ k (decide (i ∈ js))
  | .NotIn, .int i, .list ys, k => ∃ js : List Int, ys = js.map PyData.int ∧ k (!decide (i ∈ js))
  | .In, x, .list ys, k => SeqAt.shaped x = true ∧ SeqAt.shaped (.list ys) = true ∧ k (ys.any fun z => PyData.eqv z x)
  | .NotIn, x, .list ys, k => SeqAt.shaped x = true ∧ SeqAt.shaped (.list ys) = true ∧ k (!ys.any fun z => PyData.eqv z x)
  | _, _, _, _ => False
def ixD : D → D → (D → Prop) → Prop
  | .tuple ds, .int n, k => ∃ d, atI ds n = some d ∧ k d
  | .list ds, .int n, k => ∃ d, atI ds n = some d ∧ k d
  | _, _, _ => False
/-- a two-place step by itself -/
def oSem (X : Cx) (f : Value → Value → Sem Value) : R2 := fun x y H Q => ∀ pins s σ v u, Inv X pins σ H s → RelV x v → RelV y u → wpAny (model X.prog X.w) X.A (f v u) (EP X pins σ Q) X.xe s
theorem or_sem {X : Cx} {f : Value → Value → Sem Value} : OpR X f (oSem X f) := fun pins s σ H x y v u Q I rx ry h => h pins s σ v u I rx ry
theorem OpR.sem {X : Cx} {f : Value → Value → Sem Value} {r : R2} (h : OpR X f r) {x y : V} {H : Hp} {Q : VK} (q : r x y H Q) : oSem X f x y H Q := fun pins s σ v u I rx ry => h pins s σ H x y v u Q I rx ry q

section
variable {X : Cx} {M : Md} {sc : Scope} {NK : List (Str × Bool × Bool)} {G : List Str} {k : Nat} {ρ : En} {P : D → En → Prop} {PB : Bool → En → Prop} {PL : List D → En → Prop} {pos : Pos} {a b c e : Expr} {es rest : List Expr} {x : Str}

/-! ### names, constants -/
theorem vd_name (C : Cst X M sc NK G k) {i : Nat} {l : Bool} {d : D} (ha : At NK i (x, true, l)) (h : ρ[i]? = some (.dat d)) (p : P d ρ) (hd : (x == ("__debug__" : Str)) = false := by decide) (hcd : (x == ("__classdict__" : Str)) = false := by decide) : VD X (.Name x pos) ρ P := VD.mk fun B H σ Q r q => by
  obtain ⟨v, h1, h2⟩ := r.dat i d h
  exact PE.sem (pe_var (C.ix ha) (C.vi ha) hd hcd) ⟨v, h1, q v d B H ρ p h2 Go.refl r⟩
theorem vd_int {i : Int} {j : Nat} (p : P (.int i) ρ) : VD X (.Constant (.int i) j pos) ρ P := VD.mk fun B H σ Q r q => PE.sem pe_int (q _ _ B H ρ p (.int i) Go.refl r)
theorem vd_bool {i : Bool} {j : Nat} (p : P (.bool i) ρ) : VD X (.Constant (.bool i) j pos) ρ P := VD.mk fun B H σ Q r q => PE.sem pe_bl (q _ _ B H ρ p (.bl i) Go.refl r)
theorem vd_none {j : Nat} (p : P .none ρ) : VD X (.Constant .none j pos) ρ P := VD.mk fun B H σ Q r q => PE.sem pe_non (q _ _ B H ρ p .non Go.refl r)
theorem vd_str {z : Str} {j : Nat} (p : P (.str z) ρ) : VD X (.Constant (.str z) j pos) ρ P := VD.mk fun B H σ Q r q => PE.sem pe_str (q _ _ B H ρ p (.str z) Go.refl r)
theorem VD.imp {P' : D → En → Prop} (h : VD X e ρ P) (w : ∀ d ρ', P d ρ' → P' d ρ') : VD X e ρ P' := VD.mk fun B H σ Q r q => h.run B H σ Q r fun v d B' H' ρ' p => q v d B' H' ρ' (w d ρ' p)
theorem VN.imp {P' : List D → En → Prop} (h : VN X e ρ PL) (w : ∀ d ρ', PL d ρ' → P' d ρ') : VN X e ρ P' := VN.mk fun B H σ Q r q => h.run B H σ Q r fun p vs d B' H' ρ' pp => q p vs d B' H' ρ' (w d ρ' pp)

/-! ### operators -/
theorem op_bsub : OpR X (binaryOp .Sub) (fun x y H Q => ∃ p q, x = .bl p ∧ y = .bl q ∧ Q (.int (PyProof.Rows.b2i p - PyProof.Rows.b2i q)) H) := by
  intro pins s σ H x y v u Q I rx ry h
  obtain ⟨p, q, rfl, rfl, w⟩ := h
  cases rx
  cases ry
  exact PyProof.Rows.sub_bool ⟨.int _, H, I.tok _, ⟨_, rfl⟩, w⟩
theorem bin_ok {op : Operator} {x y : D} {vx vy : V} {B H : Hp} {σ : L2.St} {K : D → Prop} {Q : VK} (h : binD op x y K) (dx : Dp X.K B vx x) (dy : Dp X.K B vy y) (q : ∀ v d, K d → Dp X.K B v d → Q v H) : oSem X (binaryOp op) vx vy H Q := by
  unfold binD at h
  split at h <;> first
    | exact h.elim
    | (rw [dp_int dx, dp_int dy]; first
        | exact OpR.sem op_add ⟨_, _, rfl, rfl, q _ _ h (.int _)⟩
        | exact OpR.sem op_sub ⟨_, _, rfl, rfl, q _ _ h (.int _)⟩
        | exact OpR.sem op_mulW ⟨_, _, rfl, rfl, h.1, q _ _ h.2 (.int _)⟩
        | exact OpR.sem op_fdivW ⟨_, _, rfl, rfl, h.1, q _ _ h.2 (.int _)⟩
        | exact OpR.sem op_mod ⟨_, _, rfl, rfl, h.1, q _ _ h.2 (.int _)⟩
        | exact OpR.sem op_pow ⟨_, _, rfl, rfl, h.1, q _ _ h.2 (.int _)⟩
        | exact OpR.sem op_shl ⟨_, _, rfl, rfl, h.1, q _ _ h.2 (.int _)⟩)
    | (rw [dp_bool dx, dp_bool dy]; exact OpR.sem op_bsub ⟨_, _, rfl, rfl, q _ _ h (.int _)⟩)
theorem vd_bin {op : Operator} (h : VD X a ρ fun x ρ1 => VD X b ρ1 fun y ρ2 => binD op x y fun d => P d ρ2) : VD X (.BinOp a op b pos) ρ P := VD.mk fun B H σ Q r q => by
  refine PE.sem (pe_op or_sem pe_sem pe_sem) ?_
  refine h.run B H σ _ r fun vx x B1 H1 ρ1 p1 dx g1 r1 => ?_
  refine p1.run B1 H1 σ _ r1 fun vy y B2 H2 ρ2 p2 dy g2 r2 => ?_
  exact bin_ok (σ := σ) p2 (Dp.mono g2.ex dx) dy fun v d kd dv => q v d B2 H2 ρ2 kd dv (g1.trans g2) r2
theorem vd_neg (h : VD X a ρ fun x ρ1 => ∃ i, x = .int i ∧ P (.int (-i)) ρ1) : VD X (.UnaryOp .USub a pos) ρ P := VD.mk fun B H σ Q r q => by
  refine PE.sem (pe_un un_neg pe_sem) ?_
  refine h.run B H σ _ r fun vx x B1 H1 ρ1 p1 dx g1 r1 => ?_
  obtain ⟨i, rfl, p⟩ := p1
  exact ⟨i, dp_int dx, q _ _ B1 H1 ρ1 p (.int _) g1 r1⟩
theorem eqV_int {K : PySem.W.Frag} {B : Hp} {i : Int} : ∀ {js : List Int} {xs : List V}, DpAll K B xs (js.map PyData.int) → inV (.int i) xs = decide (i ∈ js) ∧ xs.all flatV = true
  | [], _, .nil => ⟨by unfold inV; simp, rfl⟩
  | j :: js, _, .cons (v := v) h hs => by
    obtain ⟨h1, h2⟩ := eqV_int (i := i) hs
    have hv := dp_int h
    subst hv
    refine ⟨?_, ?_⟩
    · unfold inV at h1 ⊢
      rw [List.any_cons, h1]
      by_cases e : j = i
      · subst e
        simp [eqV]
      · have e2 : ¬ i = j := fun z => e z.symm
        simp [eqV, e, e2]
    · rw [List.all_cons, h2]
      rfl
theorem cmp_ok (C : Cst X M sc NK G k) {op : CmpOp} {x y : D} {vx vy : V} {B H : Hp} (eB : Ex B H) {K : Bool → Prop} {Q : VK} (h : cmpD op x y K) (dx : Dp X.K B vx x) (dy : Dp X.K B vy y) (q : ∀ b, K b → Q (.bl b) H) : oSem X (compareOp op) vx vy H Q := by
  unfold cmpD at h
  split at h
  · rw [dp_int dx, dp_int dy]; exact OpR.sem op_lt ⟨_, _, rfl, rfl, q _ h⟩
  · rw [dp_int dx, dp_int dy]; exact OpR.sem op_le ⟨_, _, rfl, rfl, q _ h⟩
  · rw [dp_int dx, dp_int dy]; exact OpR.sem op_gt ⟨_, _, rfl, rfl, q _ h⟩
  · rw [dp_int dx, dp_int dy]; exact OpR.sem op_ge ⟨_, _, rfl, rfl, q _ h⟩
  · rename_i i j
    rw [dp_int dx, dp_int dy]
    refine OpR.sem op_eq ⟨rfl, ?_⟩
    have e : decide (V.int i = V.int j) = decide (i = j) := by
      by_cases z : i = j
      · rw [z, decide_eq_true rfl, decide_eq_true rfl]
      · rw [decide_eq_false z, decide_eq_false (fun w => z (V.int.inj w))]
    rw [e]
    exact q _ h
  · rename_i i j
    rw [dp_int dx, dp_int dy]
    refine OpR.sem op_ne ⟨rfl, ?_⟩
    have e : decide (V.int i = V.int j) = decide (i = j) := by
      by_cases z : i = j
      · rw [z, decide_eq_true rfl, decide_eq_true rfl]
      · rw [decide_eq_false z, decide_eq_false (fun w => z (V.int.inj w))]
    rw [e]
    exact q _ h
  · exact OpR.sem (op_eqD C.hu) ⟨_, _, Dp.mono eB dx, Dp.mono eB dy, h.1, h.2.1, q _ h.2.2⟩
  · exact OpR.sem (op_neD C.hu) ⟨_, _, Dp.mono eB dx, Dp.mono eB dy, h.1, h.2.1, q _ h.2.2⟩
  · obtain ⟨js, rfl, kk⟩ := h
    obtain ⟨t, xs, rfl, hT, hx⟩ := dp_tup dy
    obtain ⟨e1, e2⟩ := eqV_int (i := by assumption) hx
    rw [dp_int dx]
    refine OpR.sem op_in_seq ⟨t, xs, rfl, .inr (ex_t eB hT), rfl, e2, ?_⟩
    rw [if_neg Bool.false_ne_true, e1]
    exact q _ kk
  · obtain ⟨js, rfl, kk⟩ := h
    obtain ⟨t, xs, rfl, hT, hx⟩ := dp_tup dy
    obtain ⟨e1, e2⟩ := eqV_int (i := by assumption) hx
    rw [dp_int dx]
    refine OpR.sem op_notIn_seq ⟨t, xs, rfl, .inr (ex_t eB hT), rfl, e2, ?_⟩
    rw [if_pos rfl, e1]
    exact q _ kk
  · obtain ⟨js, rfl, kk⟩ := h
    obtain ⟨t, xs, rfl, hT, hx⟩ := dp_lst dy
    obtain ⟨e1, e2⟩ := eqV_int (i := by assumption) hx
    rw [dp_int dx]
    refine OpR.sem op_in_seq ⟨t, xs, rfl, .inl (ex_l eB hT), rfl, e2, ?_⟩
    rw [if_neg Bool.false_ne_true, e1]
    exact q _ kk
  · obtain ⟨js, rfl, kk⟩ := h
    obtain ⟨t, xs, rfl, hT, hx⟩ := dp_lst dy
    obtain ⟨e1, e2⟩ := eqV_int (i := by assumption) hx
    rw [dp_int dx]
    refine OpR.sem op_notIn_seq ⟨t, xs, rfl, .inl (ex_l eB hT), rfl, e2, ?_⟩
    rw [if_pos rfl, e1]
    exact q _ kk
  · exact OpR.sem (op_inD C.hu1) ⟨_, _, Dp.mono eB dx, Dp.mono eB dy, h.1, h.2.1, q _ h.2.2⟩
  · exact OpR.sem (op_notInD C.hu1) ⟨_, _, Dp.mono eB dx, Dp.mono eB dy, h.1, h.2.1, q _ h.2.2⟩
  · exact h.elim
theorem vd_cmp (C : Cst X M sc NK G k) {op : CmpOp} (h : VD X a ρ fun x ρ1 => VD X b ρ1 fun y ρ2 => cmpD op x y fun bb => P (.bool bb) ρ2) (hm : behindInMarks op b = false := by first | exact nobehind _ (by decide) (by decide) | rfl) : VD X (.Compare a [op] [b] pos) ρ P := VD.mk fun B H σ Q r q => by
  refine PE.sem (pe_cmpR or_sem pe_sem pe_sem hm) ?_
  refine h.run B H σ _ r fun vx x B1 H1 ρ1 p1 dx g1 r1 => ?_
  refine p1.run B1 H1 σ _ r1 fun vy y B2 H2 ρ2 p2 dy g2 r2 => ?_
  exact cmp_ok C r2.ex p2 (Dp.mono g2.ex dx) dy fun bb kb => q _ _ B2 H2 ρ2 kb (.bl bb) (g1.trans g2) r2

/-! ### tests -/
theorem vt_cmp (C : Cst X M sc NK G k) {op : CmpOp} (h : VD X a ρ fun x ρ1 => VD X b ρ1 fun y ρ2 => cmpD op x y fun bb => PB bb ρ2) (hm : behindInMarks op b = false := by first | exact nobehind _ (by decide) (by decide) | rfl) : VT X (.Compare a [op] [b] pos) ρ PB := VT.mk fun B H σ Q r q => by
  refine PT.sem (pt_cmpR or_sem pe_sem pe_sem hm) ?_
  refine h.run B H σ _ r fun vx x B1 H1 ρ1 p1 dx g1 r1 => ?_
  refine p1.run B1 H1 σ _ r1 fun vy y B2 H2 ρ2 p2 dy g2 r2 => ?_
  exact cmp_ok C r2.ex p2 (Dp.mono g2.ex dx) dy fun bb kb => ⟨bb, rfl, q bb B2 H2 ρ2 kb (g1.trans g2) r2⟩
theorem vt_val (h : VD X e ρ fun d ρ1 => ∃ bb, d = .bool bb ∧ PB bb ρ1) (he : ∀ whole, isTrue e X.env whole = (do let v ← whole; standAt e.pos; holding [v] (truthy v)) := by intro _; rfl) : VT X e ρ PB := VT.mk fun B H σ Q r q => by
  refine PT.sem (pt_val pe_sem he) ?_
  refine h.run B H σ _ r fun v d B1 H1 ρ1 p1 dx g1 r1 => ?_
  obtain ⟨bb, rfl, p⟩ := p1
  exact ⟨bb, dp_bool dx, q bb B1 H1 ρ1 p g1 r1⟩
theorem vt_w (h : VW X e ρ PB) : VT X e ρ PB := VT.mk fun B H σ Q r q => PT.sem (PW.pt pw_sem) (h.run B H σ Q r q)
theorem vt_not (h : VT X a ρ fun bb ρ1 => PB (!bb) ρ1) : VT X (.UnaryOp .Not a pos) ρ PB := VT.mk fun B H σ Q r q => PT.sem (pt_not pb_sem) (h.run B H σ _ r fun bb B1 H1 ρ1 p g r1 => q (!bb) B1 H1 ρ1 p g r1)
theorem vw_and1 (h : VT X a ρ PB) : VW X (.BoolOp .And [a] pos) ρ PB := VW.mk fun B H σ Q r q => PW.sem (pw_and1 pb_sem) (h.run B H σ Q r q)
theorem vw_or1 (h : VT X a ρ PB) : VW X (.BoolOp .Or [a] pos) ρ PB := VW.mk fun B H σ Q r q => PW.sem (pw_or1 pb_sem) (h.run B H σ Q r q)
theorem vw_and (h : VT X a ρ fun bb ρ1 => (bb = true → VW X (.BoolOp .And (b :: rest) pos) ρ1 PB) ∧ (bb = false → PB false ρ1)) : VW X (.BoolOp .And (a :: b :: rest) pos) ρ PB := VW.mk fun B H σ Q r q => by
  refine PW.sem (pw_and pb_sem pw_sem) ?_
  refine h.run B H σ _ r fun bb B1 H1 ρ1 p g1 r1 => ?_
  cases bb with
  | true => exact (p.1 rfl).run B1 H1 σ Q r1 fun b2 B2 H2 ρ2 p2 g2 r2 => q b2 B2 H2 ρ2 p2 (g1.trans g2) r2
  | false => exact q false B1 H1 ρ1 (p.2 rfl) g1 r1
theorem vw_or (h : VT X a ρ fun bb ρ1 => (bb = true → PB true ρ1) ∧ (bb = false → VW X (.BoolOp .Or (b :: rest) pos) ρ1 PB)) : VW X (.BoolOp .Or (a :: b :: rest) pos) ρ PB := VW.mk fun B H σ Q r q => by
  refine PW.sem (pw_or pb_sem pw_sem) ?_
  refine h.run B H σ _ r fun bb B1 H1 ρ1 p g1 r1 => ?_
  cases bb with
  | true => exact q true B1 H1 ρ1 (p.1 rfl) g1 r1
  | false => exact (p.2 rfl).run B1 H1 σ Q r1 fun b2 B2 H2 ρ2 p2 g2 r2 => q b2 B2 H2 ρ2 p2 (g1.trans g2) r2
theorem vd_if (h : VT X c ρ fun bb ρ1 => (bb = true → VD X a ρ1 P) ∧ (bb = false → VD X b ρ1 P)) : VD X (.IfExp c a b pos) ρ P := VD.mk fun B H σ Q r q => by
  refine PE.sem (pe_ifExp pb_sem pe_sem pe_sem) ?_
  refine h.run B H σ _ r fun bb B1 H1 ρ1 p g1 r1 => ?_
  cases bb with
  | true => exact (p.1 rfl).run B1 H1 σ Q r1 fun v d B2 H2 ρ2 p2 dd g2 r2 => q v d B2 H2 ρ2 p2 dd (g1.trans g2) r2
  | false => exact (p.2 rfl).run B1 H1 σ Q r1 fun v d B2 H2 ρ2 p2 dd g2 r2 => q v d B2 H2 ρ2 p2 dd (g1.trans g2) r2
theorem vd_one {op : BoolOp} (h : VD X a ρ P) : VD X (.BoolOp op [a] pos) ρ P := VD.mk fun B H σ Q r q => PE.sem (pe_one pe_sem) (h.run B H σ Q r q)
theorem vd_and (h : VD X a ρ fun d ρ1 => ∃ bb, d = .bool bb ∧ (bb = true → VD X (.BoolOp .And (b :: rest) pos) ρ1 P) ∧ (bb = false → P (.bool false) ρ1)) : VD X (.BoolOp .And (a :: b :: rest) pos) ρ P := VD.mk fun B H σ Q r q => by
  refine PE.sem (pe_and pe_sem pe_sem) ?_
  refine h.run B H σ _ r fun v d B1 H1 ρ1 p dx g1 r1 => ?_
  obtain ⟨bb, rfl, p1, p2⟩ := p
  refine ⟨bb, dp_bool dx, ?_⟩
  cases bb with
  | true => exact (p1 rfl).run B1 H1 σ Q r1 fun v d B2 H2 ρ2 p2 dd g2 r2 => q v d B2 H2 ρ2 p2 dd (g1.trans g2) r2
  | false => exact q _ _ B1 H1 ρ1 (p2 rfl) (.bl false) g1 r1
theorem vd_or (h : VD X a ρ fun d ρ1 => ∃ bb, d = .bool bb ∧ (bb = true → P (.bool true) ρ1) ∧ (bb = false → VD X (.BoolOp .Or (b :: rest) pos) ρ1 P)) : VD X (.BoolOp .Or (a :: b :: rest) pos) ρ P := VD.mk fun B H σ Q r q => by
  refine PE.sem (pe_or pe_sem pe_sem) ?_
  refine h.run B H σ _ r fun v d B1 H1 ρ1 p dx g1 r1 => ?_
  obtain ⟨bb, rfl, p1, p2⟩ := p
  refine ⟨bb, dp_bool dx, ?_⟩
  cases bb with
  | true => exact q _ _ B1 H1 ρ1 (p1 rfl) (.bl true) g1 r1
  | false => exact (p2 rfl).run B1 H1 σ Q r1 fun v d B2 H2 ρ2 p2 dd g2 r2 => q v d B2 H2 ρ2 p2 dd (g1.trans g2) r2
theorem vd_not (h : VD X a ρ fun d ρ1 => ∃ bb, d = .bool bb ∧ P (.bool (!bb)) ρ1) : VD X (.UnaryOp .Not a pos) ρ P := VD.mk fun B H σ Q r q => by
  refine PE.sem (pe_not pe_sem) ?_
  refine h.run B H σ _ r fun v d B1 H1 ρ1 p dx g1 r1 => ?_
  obtain ⟨bb, rfl, p1⟩ := p
  exact ⟨bb, dp_bool dx, q _ _ B1 H1 ρ1 p1 (.bl _) g1 r1⟩

/-! ### lists of arguments, displays -/
theorem va_nil (p : PL [] ρ) : VA X [] ρ PL := VA.mk fun B H σ Q r q => PA.sem pa_nil (q [] [] B H ρ p .nil Go.refl r)
theorem va_cons (h : VD X e ρ fun d ρ1 => VA X es ρ1 fun ds ρ2 => PL (d :: ds) ρ2) (hs : starEach (e :: es) X.env = (false, eval e X.env) :: starEach es X.env := by rfl) : VA X (e :: es) ρ PL := VA.mk fun B H σ Q r q => by
  refine PA.sem (pa_cons pe_sem pa_sem hs) ?_
  refine h.run B H σ _ r fun v d B1 H1 ρ1 p1 dv g1 r1 => ?_
  exact p1.run B1 H1 σ _ r1 fun vs ds B2 H2 ρ2 p2 dvs g2 r2 => q (v :: vs) (d :: ds) B2 H2 ρ2 p2 (.cons (Dp.mono g2.ex dv) dvs) (g1.trans g2) r2
theorem vd_tup {kk : Nat} (h : VA X es ρ fun ds ρ1 => ds.length ≤ 1000 ∧ P (.tuple ds) ρ1) : VD X (.Tuple es kk pos) ρ P := VD.mk fun B H σ Q r q => by
  refine PE.sem (pe_tup pa_sem) ?_
  refine h.run B H σ _ r fun vs ds B1 H1 ρ1 p1 dvs g1 r1 => ⟨?_, fun p hp => ?_⟩
  · rw [DpAll.len dvs]
    exact Nat.le_trans p1.1 (by decide)
  · obtain ⟨r2, g2⟩ := new_both (o := .tup vs) r1 hp
    exact q _ _ _ _ ρ1 p1.2 (.tup (.inl (.inl upd_same)) (DpAll.mono g2.ex dvs)) (g1.trans g2) r2
theorem vn_lst (h : VA X es ρ fun ds ρ1 => ds.length ≤ 1000 ∧ PL ds ρ1) : VN X (.List es pos) ρ PL := VN.mk fun B H σ Q r q => by
  refine PE.sem (pe_lst pa_sem) ?_
  refine h.run B H σ _ r fun vs ds B1 H1 ρ1 p1 dvs g1 r1 => ⟨?_, fun p hp => ?_⟩
  · rw [DpAll.len dvs]
    exact Nat.le_trans p1.1 (by decide)
  · obtain ⟨r2, g2, bp⟩ := new_one (o := .lst vs) r1 hp
    refine q p vs ds _ _ ρ1 p1.2 ?_ upd_same bp (fun z => ?_) dvs (g1.trans g2) r2
    · exact g1.dom p hp
    · obtain ⟨i, fs, hf⟩ := z
      obtain ⟨_, _, ws, h5, _⟩ := r1.own i p fs hf
      rw [hp] at h5
      cases h5
end

open PySem PySem.Spec PyProof.Rows L2
open Evl (Ex)

section
variable {X : Cx} {M : Md} {sc : Scope} {NK : List (Str × Bool × Bool)} {G : List Str} {k : Nat} {ρ : En} {P : D → En → Prop} {PB : Bool → En → Prop} {PL : List D → En → Prop} {pos : Pos} {a b c e : Expr} {es rest : List Expr} {x : Str}

/-- a new list as data that stays -/
theorem vn_vd (h : VN X e ρ fun ds ρ1 => P (.list ds) ρ1) : VD X e ρ P := VD.mk fun B H σ Q r q => by
  refine h.run B H σ Q r fun p vs ds B1 H1 ρ1 p1 hp h1 bp no dvs g1 r1 => ?_
  have eB : Ex B1 (upd B1 p (.lst vs)) := Evl.Ex.new bp
  have ne : ∀ a, Own ρ1 a → a ≠ p := fun a z e => no (e ▸ z)
  refine q _ _ (upd B1 p (.lst vs)) H1 ρ1 p1 (.lst (.inl (.inl upd_same)) (DpAll.mono eB dvs)) ⟨g1.ex.trans eB, g1.keep, fun a h1 h2 h3 => ?_, g1.own, g1.dom⟩ ⟨fun a u ha => ?_, r1.len, fun i d hi => ?_, fun i a ds' hi => ?_, r1.dis⟩
  · rw [upd_ne (fun z => h1 (by rw [z]; exact hp))]
    exact g1.out a h1 h2 h3
  · by_cases z : a = p
    · rw [z, upd_same] at ha
      rw [z, h1]
      exact ha
    · rw [upd_ne z] at ha
      exact r1.ex a u ha
  · obtain ⟨v, h1, h2⟩ := r1.dat i d hi
    exact ⟨v, h1, Dp.mono eB h2⟩
  · obtain ⟨h1, h2, ws, h3, h4⟩ := r1.own i a ds' hi
    refine ⟨h1, ?_, ws, h3, OD.mono eB h4⟩
    rw [upd_ne (ne a ⟨i, ds', hi⟩)]
    exact h2

/-! ### subscripts -/
def iSem (X : Cx) : R2 := fun x y H Q => ∀ value slice pins s σ v u, Inv X pins σ H s → RelV x v → RelV y u → subscripted slice false v u = operate [v, u] (getItem v u) → wpAny (model X.prog X.w) X.A (subscriptTail value slice v u) (EP X pins σ Q) X.xe s
theorem ir_sem : IxR X (iSem X) := fun value slice pins s σ H x y v u Q I rx ry h hs => h value slice pins s σ v u I rx ry hs
theorem IxR.sem {r : R2} (h : IxR X r) {x y : V} {H : Hp} {Q : VK} (q : r x y H Q) : iSem X x y H Q := fun value slice pins s σ v u I rx ry hs => h value slice pins s σ H x y v u Q I rx ry q hs
theorem atI_dp {K : PySem.W.Frag} {B : Hp} {vs : List V} {ds : List D} {n : Int} {d : D} (h : DpAll K B vs ds) (e : atI ds n = some d) : ∃ v, atI vs n = some v ∧ Dp K B v d := by
  unfold atI at e ⊢
  rw [DpAll.len h]
  cases q : ixN ds.length n with
  | none =>
    rw [q] at e
    cases e
  | some j =>
    rw [q] at e
    have e' : ds[j]? = some d := e
    exact DpAll.get h e'
theorem vd_ix (h : VD X a ρ fun x ρ1 => VD X b ρ1 fun y ρ2 => ixD x y fun d => P d ρ2) (hs : PlainIx b := by exact fun _ _ => rfl) : VD X (.Subscript a b pos) ρ P := VD.mk fun B H σ Q r q => by
  refine PE.sem (pe_ix ir_sem pe_sem pe_sem hs) ?_
  refine h.run B H σ _ r fun vx x B1 H1 ρ1 p1 dx g1 r1 => ?_
  refine p1.run B1 H1 σ _ r1 fun vy y B2 H2 ρ2 p2 dy g2 r2 => ?_
  replace p2 : ixD x y (fun d => P d ρ2) := p2
  unfold ixD at p2
  split at p2
  · obtain ⟨d, e, p⟩ := p2
    obtain ⟨t, vs, rfl, hT, hv⟩ := dp_tup dx
    obtain ⟨v, ev, dv⟩ := atI_dp hv e
    rw [dp_int dy]
    exact IxR.sem ix_tup ⟨t, vs, _, v, rfl, rfl, ex_t (g2.ex.trans r2.ex) hT, ev, q v d B2 H2 ρ2 p (Dp.mono g2.ex dv) (g1.trans g2) r2⟩
  · obtain ⟨d, e, p⟩ := p2
    obtain ⟨t, vs, rfl, hT, hv⟩ := dp_lst dx
    obtain ⟨v, ev, dv⟩ := atI_dp hv e
    rw [dp_int dy]
    exact IxR.sem ix_list ⟨t, vs, _, v, rfl, rfl, ex_l (g2.ex.trans r2.ex) hT, ev, q v d B2 H2 ρ2 p (Dp.mono g2.ex dv) (g1.trans g2) r2⟩
  · exact p2.elim
/-- xs[i], xs a list of one's own -/
theorem vd_ixo (C : Cst X M sc NK G k) {i : Nat} {l : Bool} {p : Addr} {cs : List D} {px : Pos} (ha : At NK i (x, true, l)) (ho : ρ[i]? = some (.own p cs))
    (h : VD X b ρ fun y ρ1 => ∃ (n : Int) (cs1 : List D) (d : D), y = .int n ∧ ρ1[i]? = some (.own p cs1) ∧ atI cs1 n = some d ∧ P d ρ1) (hs : PlainIx b := by exact fun _ _ => rfl) (hd : (x == ("__debug__" : Str)) = false := by decide) (hcd : (x == ("__classdict__" : Str)) = false := by decide) : VD X (.Subscript (.Name x px) b pos) ρ P := VD.mk fun B H σ Q r q => by
  refine PE.sem (pe_ix ix_list (pe_var (C.ix ha) (C.vi ha) hd hcd) pe_sem hs) ?_
  refine ⟨.ref p, (r.own i p cs ho).1, ?_⟩
  refine h.run B H σ _ r fun vy y B1 H1 ρ1 p1 dy g1 r1 => ?_
  obtain ⟨n, cs1, d, rfl, ho1, e, pp⟩ := p1
  obtain ⟨_, _, _, h3, vs, rfl, h4⟩ := r1.own i p cs1 ho1
  obtain ⟨v, ev, dv⟩ := atI_dp h4 e
  exact ⟨p, vs, n, v, rfl, dp_int dy, .inl (.inl h3), ev, q v d B1 H1 ρ1 pp dv g1 r1⟩
theorem cut_take {vs : List V} (n : Nat) : cutV vs none (some (n : Int)) = vs.take n := by
  unfold cutV
  rw [HT.sIx_none, HT.sIx_nat, Nat.sub_zero, List.drop_zero]
  by_cases h : n ≤ vs.length
  · rw [Nat.min_eq_left h]
  · rw [Nat.min_eq_right (by omega), List.take_length, List.take_of_length_le (by omega)]
theorem cut_drop {vs : List V} (n : Nat) : cutV vs (some (n : Int)) none = vs.drop n := by
  unfold cutV
  rw [HT.sIx_none, HT.sIx_nat]
  by_cases h : n ≤ vs.length
  · rw [Nat.min_eq_left h, List.take_of_length_le (by rw [List.length_drop]; omega)]
  · rw [Nat.min_eq_right (by omega), List.drop_length, List.drop_of_length_le (by omega), List.take_nil]
/-- xs[:n], n written -/
theorem vn_take {n j : Nat} {pc p2 : Pos} (h : VD X a ρ fun d ρ1 => ∃ ds, d = .list ds ∧ PL (ds.take n) ρ1) : VN X (.Subscript a (.Slice none (some (.Constant (.int (n : Int)) j pc)) none p2) pos) ρ PL := VN.mk fun B H σ Q r q => by
  refine PE.sem (pe_slice sl_list pe_sem po_none (po_some pe_int)) ?_
  refine h.run B H σ _ r fun v d B1 H1 ρ1 p1 dv g1 r1 => ?_
  obtain ⟨ds, rfl, p⟩ := p1
  obtain ⟨t, vs, rfl, hT, hv⟩ := dp_lst dv
  refine ⟨(n : Int), rfl, t, vs, rfl, ex_l r1.ex hT, fun z hz => ?_⟩
  rw [cut_take]
  obtain ⟨r2, g2, bp⟩ := new_one (o := .lst (vs.take n)) r1 hz
  refine q z _ _ _ _ ρ1 p (g1.dom z hz) upd_same bp (fun w => ?_) (DpAll.take n hv) (g1.trans g2) r2
  obtain ⟨i, fs, hf⟩ := w
  obtain ⟨_, _, ws, h5, _⟩ := r1.own i z fs hf
  rw [hz] at h5
  cases h5

/-! ### built-in functions -/
def cSem (X : Cx) (f : Value) : List V → Hp → VK → Prop := fun vs H Q => ∀ pins s σ us, Inv X pins σ H s → Vals vs us → wpAny (model X.prog X.w) X.A (call f us) (EP X pins σ Q) X.xe s
theorem cr_sem {f : Value} : CallR X f (cSem X f) := fun pins s σ H xs us Q I r h => h pins s σ us I r
theorem CallR.sem {f : Value} {r : List V → Hp → VK → Prop} (h : CallR X f r) {xs : List V} {H : Hp} {Q : VK} (q : r xs H Q) : cSem X f xs H Q := fun pins s σ us I rv => h pins s σ H xs us Q I rv q
/-- what a built-in does with data -/
def Does (X : Cx) (f : Value) (S : List D → (D → Prop) → Prop) : Prop := ∀ (B H : Hp) (vs : List V) (ds : List D) (W : D → Prop) (Q : VK), Ex B H → DpAll X.K B vs ds → S ds W →
  (∀ v d B' H', W d → Dp X.K B' v d → Ex B B' → Ex B' H' → Ex H H' → (∀ a, H a ≠ none → B a = none → B' a = none) → Q v H') → cSem X f vs H Q
theorem vd_call_with {f : Value} {S : List D → (D → Prop) → Prop} {nm : Expr} (hp : ∀ t, PA X (e :: es) t → PE X (.Call nm (e :: es) [] pos) (tCB (cSem X f) t)) (hS : Does X f S)
    (h : VA X (e :: es) ρ fun ds ρ1 => S ds fun d => P d ρ1) : VD X (.Call nm (e :: es) [] pos) ρ P := VD.mk fun B H σ Q r q => by
  refine PE.sem (hp _ pa_sem) ?_
  refine h.run B H σ _ r fun vs ds B1 H1 ρ1 p1 dvs g1 r1 => ?_
  refine hS B1 H1 vs ds _ Q r1.ex dvs p1 fun v d B2 H2 p2 dv eB e2 eH out => ?_
  exact q v d B2 H2 ρ1 p2 dv (g1.trans (Go.grow eB eH out)) (r1.grow eB e2 eH out)
theorem vd_callB (C : Cst X M sc NK G k) {id : String} {S : List D → (D → Prop) → Prop} {i : Nat} {p : Pos} (hS : Does X (.builtin id) S) (hg : At G i x) (h : VA X (e :: es) ρ fun ds ρ1 => S ds fun d => P d ρ1) (hm : M.mg x = none := by assumption) (hv : bootBuiltins x = some (.builtin id) := by decide +kernel)
    (hn : x ≠ "__name__" := by decide) (hdb : (x == ("__debug__" : Str)) = false := by decide) (he : starEach (e :: es) X.env = (false, eval e X.env) :: starEach es X.env := by rfl) (hpl : (backTo pos (starEach es X.env)).any (·.1) = false := by rfl) : VD X (.Call (.Name x p) (e :: es) [] pos) ρ P :=
  vd_call_with (fun t ht => pe_callB cr_sem (C.g hg) (C.mg hm) hv ht hn hdb he hpl) hS h
theorem vd_callT (C : Cst X M sc NK G k) {T : String} {S : List D → (D → Prop) → Prop} {i : Nat} {p : Pos} (hS : Does X (.type T) S) (hg : At G i x) (h : VA X (e :: es) ρ fun ds ρ1 => S ds fun d => P d ρ1) (hm : M.mg x = none := by assumption) (hv : bootBuiltins x = some (.type T) := by decide +kernel)
    (hn : x ≠ "__name__" := by decide) (hdb : (x == ("__debug__" : Str)) = false := by decide) (he : starEach (e :: es) X.env = (false, eval e X.env) :: starEach es X.env := by rfl) (hpl : (backTo pos (starEach es X.env)).any (·.1) = false := by rfl) : VD X (.Call (.Name x p) (e :: es) [] pos) ρ P :=
  vd_call_with (fun t ht => pe_callTy cr_sem (C.g hg) (C.mg hm) hv ht hn hdb he hpl) hS h
/-- a built-in that the module imports -/
theorem vd_callM (C : Cst X M sc NK G k) {id : String} {S : List D → (D → Prop) → Prop} {i : Nat} {p : Pos} (hS : Does X (.builtin id) S) (hg : At G i x) (h : VA X (e :: es) ρ fun ds ρ1 => S ds fun d => P d ρ1) (hm : M.mg x = some (.builtin id) := by assumption)
    (hdb : (x == ("__debug__" : Str)) = false := by decide) (he : starEach (e :: es) X.env = (false, eval e X.env) :: starEach es X.env := by rfl) (hpl : (backTo pos (starEach es X.env)).any (·.1) = false := by rfl) : VD X (.Call (.Name x p) (e :: es) [] pos) ρ P :=
  vd_call_with (fun t ht => pe_callBfun cr_sem (C.g hg) (C.mg hm) ht hdb he hpl) hS h
/-- a def of one's own, by what it does with data -/
def DS (K : PySem.W.Frag) (n : Nat) (S : List D → (D → Prop) → Prop) : Sp := fun vs H Q _ => ∃ B ds W, Ex B H ∧ DpAll K B vs ds ∧ ds.length = n ∧ S ds W ∧
  ∀ v d B' H', W d → Dp K B' v d → Ex B B' → Ex B' H' → Ex H H' → (∀ a, H a ≠ none → B a = none → B' a = none) → Q v H'
/-- a def where nothing is being handled, and where an error is -/
structure FnA (M : Md) (CX' : CXT) (j : Nat) (f : Addr) (fd : FuncData) (ps : List Str) (sp : Sp) : Prop where
  cold : M.hot = false → FnOk M.prog M.w M.K M.mg M.base CX' j f fd ps sp
  hot : M.hot = true → L2H.FnH M.prog M.w M.K M.mg M.base (L2.CX M.prog M.w) j f fd ps sp
/-- nothing is let out -/
theorem passH : ∀ σ, PassesAt (L2.CX X.prog X.w) X σ E0 := fun σ _ _ _ e s' _ c => by
  obtain ⟨_, _, _, _, _, _, _, _, _, _, _, _, w⟩ := c
  exact w.elim
structure FnD (M : Md) (j : Nat) (x : Str) (n : Nat) (S : List D → (D → Prop) → Prop) : Prop where
  ex : ∃ f fd ps, FnA M CX0 j f fd ps (DS M.K n S) ∧ M.mg x = some (.ref f) ∧ PySem.W.keepIn M.K (.ref f) = true ∧ Binds M.K fd ps []
theorem vd_call (C : Cst X M sc NK G k) {j n : Nat} {S : List D → (D → Prop) → Prop} {i : Nat} {p : Pos} (F : FnD M j x n S) (hg : At G i x) (h : VA X (e :: es) ρ fun ds ρ1 => ds.length = n ∧ S ds fun d => P d ρ1) (hj : j ≤ k := by decide)
    (hdb : (x == ("__debug__" : Str)) = false := by decide) (he : starEach (e :: es) X.env = (false, eval e X.env) :: starEach es X.env := by rfl) (hpl : (backTo pos (starEach es X.env)).any (·.1) = false := by rfl) : VD X (.Call (.Name x p) (e :: es) [] pos) ρ P := VD.mk fun B H σ Q r q => by
  have eM := C.m
  subst eM
  obtain ⟨f, fd, ps, F, hm, hk, hb⟩ := F.ex
  cases hX : X.calm with
  | false =>
    refine PE.sem (L2H.pe_callH (E := fun _ => E0) (F.hot (C.hotOf hX)) (C.room.mono hj) (C.hotc hX) (C.g hg) hm hk hb passH pa_sem hdb he hpl) ?_
    refine h.run B H σ _ r fun vs ds B1 H1 ρ1 p1 dvs g1 r1 => ?_
    refine ⟨B1, ds, _, r1.ex, dvs, p1.1, p1.2, fun v d B2 H2 p2 dv eB e2 eH out => ?_⟩
    exact q v d B2 H2 ρ1 p2 dv (g1.trans (Go.grow eB eH out)) (r1.grow eB e2 eH out)
  | true =>
  refine PE.sem (pe_call (E := E0) (F.cold (C.calmOf hX)) ((C.rm hX).mono hj) (C.g hg) hm hk hb .nil pass0 pa_sem hdb he hpl) ?_
  refine h.run B H σ _ r fun vs ds B1 H1 ρ1 p1 dvs g1 r1 => ?_
  show DS X.K n S (vs ++ []) H1 Q _
  rw [List.append_nil]
  refine ⟨B1, ds, _, r1.ex, dvs, p1.1, p1.2, fun v d B2 H2 p2 dv eB e2 eH out => ?_⟩
  exact q v d B2 H2 ρ1 p2 dv (g1.trans (Go.grow eB eH out)) (r1.grow eB e2 eH out)
/-- a def that changes the list of one's own which it is handed first: what stands in it, the other arguments; its value, what stands in it behind -/
def DSm (K : PySem.W.Frag) (n : Nat) (S : List D → List D → (D → List D → Prop) → Prop) : Sp := fun vs H Q _ => ∃ B p xs cs ws ds W, vs = .ref p :: ws ∧ Ex B H ∧ B p = none ∧ H p = some (.lst xs) ∧ DpAll K B xs cs ∧ DpAll K B ws ds ∧ ds.length = n ∧ S cs ds W ∧
  ∀ v d B' H' xs' cs', W d cs' → Dp K B' v d → Ex B B' → Ex B' H' → B' p = none → H' p = some (.lst xs') → DpAll K B' xs' cs' → (∀ a o, a ≠ p → H a = some o → H' a = some o) → (∀ a, a ≠ p → H a ≠ none → B a = none → B' a = none) → Q v H'
structure FnM (M : Md) (j : Nat) (x : Str) (n : Nat) (S : List D → List D → (D → List D → Prop) → Prop) : Prop where
  ex : ∃ f fd ps, FnOk M.prog M.w M.K M.mg M.base CX0 j f fd ps (DSm M.K n S) ∧ M.mg x = some (.ref f) ∧ PySem.W.keepIn M.K (.ref f) = true ∧ Binds M.K fd ps []
theorem getElem?_set_own {ρ : En} {i : Nat} {s u : Sl} (h : ρ[i]? = some s) : (ρ.set i u)[i]? = some u := by
  obtain ⟨hl, _⟩ := List.getElem?_eq_some_iff.mp h
  rw [List.getElem?_set_self hl]
theorem vd_callO [Cold M] (C : Cst X M sc NK G k) {j n : Nat} {S : List D → List D → (D → List D → Prop) → Prop} {i m : Nat} {l : Bool} {y : Str} {p py : Pos} {q0 : Addr} {cs0 : List D} (F : FnM M j x n S) (hg : At G i x) (ha : At NK m (y, true, l)) (ho : ρ[m]? = some (.own q0 cs0))
    (h : VA X es ρ fun ds ρ1 => ds.length = n ∧ ∃ cs : List D, ρ1[m]? = some (.own q0 cs) ∧ S cs ds fun d cs' => P d (ρ1.set m (.own q0 cs'))) (hj : j ≤ k := by decide)
    (hdb : (x == ("__debug__" : Str)) = false := by decide) (he : starEach (.Name y py :: es) X.env = (false, eval (.Name y py) X.env) :: starEach es X.env := by rfl) (hpl : (backTo pos (starEach es X.env)).any (·.1) = false := by rfl)
    (hd : (y == ("__debug__" : Str)) = false := by decide) (hcd : (y == ("__classdict__" : Str)) = false := by decide) : VD X (.Call (.Name x p) (.Name y py :: es) [] pos) ρ P := VD.mk fun B H σ Q r q => by
  have eM := C.m
  subst eM
  obtain ⟨f, fd, ps, F, hm, hk, hb⟩ := F.ex
  refine PE.sem (pe_call (E := E0) F ((C.rm C.calm).mono hj) (C.g hg) hm hk hb .nil pass0 (pa_cons (pe_var (C.ix ha) (C.vi ha) hd hcd) pa_sem he) hdb he hpl) ?_
  refine ⟨.ref q0, (r.own m q0 cs0 ho).1, ?_⟩
  refine h.run B H σ _ r fun ws ds B1 H1 ρ1 p1 dws g1 r1 => ?_
  obtain ⟨hl, cs, ho1, hS⟩ := p1
  obtain ⟨hs1, hB1, _, hx, xs, rfl, dxs⟩ := r1.own m q0 cs ho1
  show DSm X.K n S ((.ref q0 :: ws) ++ []) H1 Q _
  rw [List.append_nil]
  refine ⟨B1, q0, xs, cs, ws, ds, _, rfl, r1.ex, hB1, hx, dxs, dws, hl, hS, fun v d B2 H2 xs' cs' p2 dv eB e2 b2 h2 dx2 keep out => ?_⟩
  have hlt := (List.getElem?_eq_some_iff.mp ho1).1
  have own_of : ∀ a, Own (ρ1.set m (.own q0 (.l cs'))) a → Own ρ1 a := fun a ⟨j, fs, hf⟩ => by
    by_cases z : m = j
    · subst z
      rw [List.getElem?_set_self hlt] at hf
      cases hf
      exact ⟨m, cs, ho1⟩
    · rw [List.getElem?_set_ne z] at hf
      exact ⟨j, fs, hf⟩
  refine q v d B2 H2 _ p2 dv (g1.trans ⟨eB, fun a o h n => keep a o (fun z => n ⟨m, cs, z ▸ ho1⟩) h, fun a h1 h2 h3 => out a (fun z => h3 ⟨m, cs, z ▸ ho1⟩) h1 h2, fun a z => .inl (own_of a z), fun a z => ?_⟩) ⟨e2, by rw [List.length_set]; exact r1.len, fun j d' hj => ?_, fun j a fs hf => ?_, fun j j' a fs gs hj hj' => ?_⟩
  · cases e : H1 a with
    | none => rfl
    | some u =>
      by_cases w : a = q0
      · rw [w, h2] at z
        cases z
      · rw [keep a u w e] at z
        cases z
  · by_cases z : m = j
    · subst z
      rw [List.getElem?_set_self hlt] at hj
      cases hj
    · rw [List.getElem?_set_ne z] at hj
      obtain ⟨v', h5, h6⟩ := r1.dat j d' hj
      exact ⟨v', h5, Dp.mono eB h6⟩
  · by_cases z : m = j
    · subst z
      rw [List.getElem?_set_self hlt] at hf
      cases hf
      exact ⟨hs1, b2, _, h2, xs', rfl, dx2⟩
    · rw [List.getElem?_set_ne z] at hf
      obtain ⟨h5, h6, ys, h7, h8⟩ := r1.own j a fs hf
      have na : a ≠ q0 := fun w => z (r1.dis m j q0 cs fs ho1 (w ▸ hf))
      exact ⟨h5, out a na (by rw [h7]; exact fun z => by cases z) h6, ys, keep a _ na h7, OD.mono eB h8⟩
  · have back : ∀ (j : Nat) gs, (ρ1.set m (.own q0 (.l cs')))[j]? = some (.own a gs) → ∃ hs, ρ1[j]? = some (.own a hs) := fun j gs hj => by
      by_cases z : m = j
      · subst z
        rw [List.getElem?_set_self hlt] at hj
        cases hj
        exact ⟨cs, ho1⟩
      · rw [List.getElem?_set_ne z] at hj
        exact ⟨gs, hj⟩
    obtain ⟨h5, e5⟩ := back j fs hj
    obtain ⟨h6, e6⟩ := back j' gs hj'
    exact r1.dis j j' a h5 h6 e5 e6

/-! ### what some built-ins do -/
theorem does_int : Does X (.type "int") (fun ds W => ∃ i, ds = [.int i] ∧ W (.int i)) := fun B H vs ds W Q e h s q => by
  obtain ⟨i, rfl, w⟩ := s
  cases h with
  | cons h1 h2 =>
    cases h2
    rw [dp_int h1]
    exact CallR.sem call_int1 (.inl ⟨i, rfl, q _ _ B H w (.int i) (Evl.Ex.refl B) e (Evl.Ex.refl H) fun _ _ b => b⟩)
theorem does_abs : Does X (.builtin "abs") (fun ds W => ∃ i, ds = [.int i] ∧ W (.int (if i < 0 then -i else i))) := fun B H vs ds W Q e h s q => by
  obtain ⟨i, rfl, w⟩ := s
  cases h with
  | cons h1 h2 =>
    cases h2
    rw [dp_int h1]
    exact CallR.sem call_abs ⟨i, rfl, q _ _ B H w (.int _) (Evl.Ex.refl B) e (Evl.Ex.refl H) fun _ _ b => b⟩
theorem does_len : Does X (.builtin "len") (fun ds W => ∃ es, (ds = [.list es] ∨ ds = [.tuple es]) ∧ W (.int es.length)) := fun B H vs ds W Q e h s q => by
  obtain ⟨es, z, w⟩ := s
  rcases z with rfl | rfl
  · cases h with
    | cons h1 h2 =>
      cases h2
      obtain ⟨t, ys, rfl, hT, hy⟩ := dp_lst h1
      refine CallR.sem call_len_seq ⟨t, ys, rfl, .inl (ex_l e hT), q _ _ B H w ?_ (Evl.Ex.refl B) e (Evl.Ex.refl H) fun _ _ b => b⟩
      rw [DpAll.len hy]
      exact .int _
  · cases h with
    | cons h1 h2 =>
      cases h2
      obtain ⟨t, ys, rfl, hT, hy⟩ := dp_tup h1
      refine CallR.sem call_len_seq ⟨t, ys, rfl, .inr (ex_t e hT), q _ _ B H w ?_ (Evl.Ex.refl B) e (Evl.Ex.refl H) fun _ _ b => b⟩
      rw [DpAll.len hy]
      exact .int _
/-- tuple(a new list) -/
theorem vd_tupleN (C : Cst X M sc NK G k) {i : Nat} {p : Pos} (hg : At G i "tuple") (h : VN X e ρ fun ds ρ1 => P (.tuple ds) ρ1) (hm : M.mg "tuple" = none := by assumption)
    (he : starEach [e] X.env = (false, eval e X.env) :: starEach [] X.env := by rfl) (hpl : (backTo pos (starEach [] X.env)).any (·.1) = false := by rfl) : VD X (.Call (.Name "tuple" p) [e] [] pos) ρ P := VD.mk fun B H σ Q r q => by
  refine PE.sem (pe_callTy call_tuple_of (C.g hg) (C.mg hm) (by decide +kernel) (pa_cons pe_sem pa_nil he) (by decide) (by decide) he hpl) ?_
  refine h.run B H σ _ r fun z vs ds B1 H1 ρ1 p1 hz h1 bz no dvs g1 r1 => ?_
  refine ⟨z, vs, rfl, .inl ⟨.inl (.inl h1), fun l hl => ?_⟩⟩
  obtain ⟨r2, g2⟩ := new_both (o := .tup vs) r1 hl
  exact q _ _ _ _ ρ1 p1 (.tup (.inl (.inl upd_same)) (DpAll.mono g2.ex dvs)) (g1.trans g2) r2
def tyN : D → String
  | .none => "NoneType"
  | .bool _ => "bool"
  | .int _ => "int"
  | .str _ => "str"
  | .list _ => "list"
  | .tuple _ => "tuple"
  | .dict _ => "dict"
theorem ty_dp {K : PySem.W.Frag} {B H : Hp} (e : Ex B H) {v : V} {d : D} (h : Dp K B v d) : TyX K H v (.type (tyN d)) := by
  cases h with
  | non => exact .base .non
  | bl b => exact .base (.bl b)
  | int i => exact .base (.int i)
  | str x => exact .base (.str x)
  | lst h hs =>
    rcases h with (h | ⟨o, h⟩) | ⟨o, _, _, h1, h2, _⟩
    · exact .base (.lst (e _ _ h))
    · exact .base (.frz (e _ _ h))
    · exact .kList h1 h2
  | tup h hs =>
    rcases h with (h | ⟨o, h⟩) | ⟨o, _, _, h1, h2, _⟩
    · exact .base (.tup (e _ _ h))
    · exact .fTuple (e _ _ h)
    · exact .kTuple h1 h2
/-- isinstance(e, T), T a built-in class -/
theorem vd_isi (C : Cst X M sc NK G k) {i j : Nat} {T : String} {p pT : Pos} (hg : At G i "isinstance") (hgT : At G j x) (h : VD X e ρ fun d ρ1 => ∃ b, kitB (tyN d) T = some b ∧ P (.bool b) ρ1)
    (hm : M.mg "isinstance" = none := by assumption) (hmT : M.mg x = none := by assumption) (hv : bootBuiltins x = some (.type T) := by decide +kernel)
    (hn : x ≠ "__name__" := by decide) (hdb : (x == ("__debug__" : Str)) = false := by decide)
    (he : starEach [e, .Name x pT] X.env = (false, eval e X.env) :: starEach [.Name x pT] X.env := by rfl) (he2 : starEach [.Name x pT] X.env = (false, eval (.Name x pT) X.env) :: starEach [] X.env := by rfl) (hpl : (backTo pos (starEach [.Name x pT] X.env)).any (·.1) = false := by rfl) :
    VD X (.Call (.Name "isinstance" p) [e, .Name x pT] [] pos) ρ P := VD.mk fun B H σ Q r q => by
  refine PE.sem (pe_callB call_isi (C.g hg) (C.mg hm) (by decide +kernel) (pa_cons pe_sem (pa_cons (pe_bltn (v := .ty T) (C.g hgT) (C.mg hmT) hv rfl hn hdb) pa_nil he2) he) (by decide) (by decide) he hpl) ?_
  refine h.run B H σ _ r fun v d B1 H1 ρ1 p1 dv g1 r1 => ?_
  obtain ⟨b, hb, pp⟩ := p1
  exact ⟨v, .ty T, _, _, b, rfl, .ty T, ty_dp r1.ex dv, kit_ty hb, q _ _ B1 H1 ρ1 pp (.bl b) g1 r1⟩
end

open PySem PySem.Spec PyProof.Rows L2
open Evl (Ex)

section
variable {X : Cx} {M : Md} {sc : Scope} {NK : List (Str × Bool × Bool)} {G : List Str} {k : Nat} {ρ : En} {P : D → En → Prop} {PN : En → Prop} {PB : Bool → En → Prop} {PL : List D → En → Prop} {pos : Pos} {a b c e tg : Expr} {es rest : List Expr} {x : Str} {F : Fin} {st : Stmt} {sts : List Stmt}

/-! ### storing -/
theorem own_set {ρ : En} {i : Nat} {d : D} {a : Addr} (h : Own (ρ.set i (.dat d)) a) : Own ρ a := by
  obtain ⟨j, ds, hj⟩ := h
  by_cases z : i = j
  · subst z
    by_cases hl : i < ρ.length
    · rw [List.getElem?_set_self hl] at hj
      cases hj
    · rw [List.getElem?_eq_none (by rw [List.length_set]; omega)] at hj
      cases hj
  · rw [List.getElem?_set_ne z] at hj
    exact ⟨j, ds, hj⟩
theorem rel_set {K : Kw} {B H : Hp} {σ : L2.St} {ρ : En} (r : Rel K B H σ ρ) {i : Nat} {v : V} {d : D} (hd : Dp K B v d) : Rel K B H (σ.set i (some v)) (ρ.set i (.dat d)) := by
  refine ⟨r.ex, by rw [List.length_set, List.length_set]; exact r.len, fun j d' hj => ?_, fun j a ds hj => ?_, fun j j' a ds es hj hj' => ?_⟩
  · by_cases z : i = j
    · subst z
      by_cases hl : i < ρ.length
      · rw [List.getElem?_set_self hl] at hj
        cases hj
        exact ⟨v, by rw [List.getElem?_set_self (by rw [← r.len]; exact hl)], hd⟩
      · rw [List.getElem?_eq_none (by rw [List.length_set]; omega)] at hj
        cases hj
    · rw [List.getElem?_set_ne z] at hj ⊢
      exact r.dat j d' hj
  · by_cases z : i = j
    · subst z
      by_cases hl : i < ρ.length
      · rw [List.getElem?_set_self hl] at hj
        cases hj
      · rw [List.getElem?_eq_none (by rw [List.length_set]; omega)] at hj
        cases hj
    · rw [List.getElem?_set_ne z] at hj ⊢
      exact r.own j a ds hj
  · have back : ∀ (j : Nat) gs, (ρ.set i (.dat d))[j]? = some (.own a gs) → ρ[j]? = some (.own a gs) := fun j gs hj => by
      by_cases z : i = j
      · subst z
        by_cases hl : i < ρ.length
        · rw [List.getElem?_set_self hl] at hj
          cases hj
        · rw [List.getElem?_eq_none (by rw [List.length_set]; omega)] at hj
          cases hj
      · rw [List.getElem?_set_ne z] at hj
        exact hj
    exact r.dis j j' a ds es (back j ds hj) (back j' es hj')
theorem go_set {B H : Hp} {ρ : En} {i : Nat} {d : D} : Go B H ρ B H (ρ.set i (.dat d)) := ⟨Evl.Ex.refl B, fun _ _ h _ => h, fun _ _ h _ => h, fun _ h => .inl (own_set h), fun _ h => h⟩
theorem FinOk.nxGo {X : Cx} {K : Kw} {B H : Hp} {Z : EZ X} (f : FinOk K B H ρ F Z) {B' H' : Hp} {σ' : L2.St} {ρ' : En} (p : F.nx ρ') (g : Go B H ρ B' H' ρ') (r : Rel K B' H' σ' ρ') : Z.z.nx σ' H' := f.nx B' H' σ' ρ' p g r

/-! ### targets -/
theorem vg_name (C : Cst X M sc NK G k) {i : Nat} {v : Bool} {d : D} {p : Pos} (ha : At NK i (x, v, true)) (h : PN (ρ.set i (.dat d))) : VG X (.Name x p) d ρ PN := VG.mk fun vv B H σ Q r dv q =>
  PG.sem (pg_name C.nd (C.ix ha) (C.lo ha) (C.fn ha)) (q B H _ _ h go_set (rel_set r dv))
theorem vgs_nil (h : PN ρ) : VGs X [] [] ρ PN := VGs.mk fun vs B H σ Q r dv q => PGs.sem pgs_nil (by
  cases dv
  exact ⟨rfl, q B H σ ρ h Go.refl r⟩)
theorem vgs_cons {d : D} {ds : List D} (h : VG X e d ρ fun ρ1 => VGs X es ds ρ1 PN) (hs : (assignEach (e :: es) X.env).map (·.2) = assign e X.env :: (assignEach es X.env).map (·.2) := by rfl) : VGs X (e :: es) (d :: ds) ρ PN := VGs.mk fun vs B H σ Q r dv q => by
  refine PGs.sem (pgs_cons pg_sem pgs_sem hs) ?_
  cases dv with
  | cons d1 d2 =>
    refine ⟨_, _, rfl, h.run _ B H σ _ r d1 fun B1 H1 σ1 ρ1 p1 g1 r1 => ?_⟩
    exact p1.run _ B1 H1 σ1 Q r1 (DpAll.mono g1.ex d2) fun B2 H2 σ2 ρ2 p2 g2 r2 => q B2 H2 σ2 ρ2 p2 (g1.trans g2) r2
theorem vg_tup (C : Cst X M sc NK G k) {kk : Nat} {ds : List D} (h : VGs X es ds ρ PN) (hl : ds.length = es.length := by rfl) (hn : (assignEach es X.env).length = es.length := by rfl) (hst : (assignEach es X.env).findIdx? (·.1) = none := by rfl) : VG X (.Tuple es kk pos) (.tuple ds) ρ PN := VG.mk fun vv B H σ Q r dv q => by
  obtain ⟨t, vs, rfl, hT, hv⟩ := dp_tup dv
  have key : PG X (.Tuple es kk pos) (gTup X.K es.length (gsSem X es)) := by
    cases hX : X.calm with
    | true => exact pg_tup hX pgs_sem hn hst
    | false => exact VhX.pg_tupH (C.hotc hX) pgs_sem hn hst
  exact PG.sem key ⟨t, vs, rfl, ex_t r.ex hT, (DpAll.len hv).trans hl, h.run vs B H σ Q r hv q⟩
theorem vg_lst [Cold M] (C : Cst X M sc NK G k) {kk : Nat} {ds : List D} (h : VGs X es ds ρ PN) (hl : ds.length = es.length := by rfl) (hn : (assignEach es X.env).length = es.length := by rfl) (hst : (assignEach es X.env).findIdx? (·.1) = none := by rfl) : VG X (.Tuple es kk pos) (.list ds) ρ PN := VG.mk fun vv B H σ Q r dv q => by
  obtain ⟨t, vs, rfl, hT, hv⟩ := dp_lst dv
  exact PG.sem (pg_unl C.calm pgs_sem hn hst) ⟨t, vs, rfl, ex_l r.ex hT, (DpAll.len hv).trans hl, h.run vs B H σ Q r hv q⟩

/-! ### statements -/
theorem vss_nil (h : F.nx ρ) : VSs X [] ρ F := VSs.mk fun B H σ Z r f => PSs.sem pss_nil (f.nx B H σ ρ h Go.refl r)
theorem vss_one (h : VS X st ρ F) : VSs X [st] ρ F := VSs.mk fun B H σ Z r f => PSs.sem (pss_one ps_sem) (h.run B H σ Z r f)
theorem vss_cons (h : VS X st ρ { F with nx := fun ρ1 => VSs X sts ρ1 F }) : VSs X (st :: sts) ρ F := VSs.mk fun B H σ Z r f => by
  refine PSs.sem (pss_cons ps_sem pss_sem) ?_
  exact h.run B H σ ⟨{ Z.z with nx := ssSem X sts Z.z }, Z.e, Z.tk⟩ r ⟨fun B1 H1 σ1 ρ1 p g r1 => p.run B1 H1 σ1 Z r1 (f.go g), f.rt, f.bk, f.ct, f.ex⟩
theorem vs_pass (h : F.nx ρ) : VS X (.Pass pos) ρ F := VS.mk fun B H σ Z r f => PS.sem ps_pass (f.nx B H σ ρ h Go.refl r)
theorem vs_break (h : F.bk ρ) : VS X (.Break pos) ρ F := VS.mk fun B H σ Z r f => PS.sem ps_break (f.bk B H σ ρ h Go.refl r)
theorem vs_cont (h : F.ct ρ) : VS X (.Continue pos) ρ F := VS.mk fun B H σ Z r f => PS.sem ps_continue (f.ct B H σ ρ h Go.refl r)
theorem vs_ret (h : VD X e ρ F.rt) : VS X (.Return (some e) pos) ρ F := VS.mk fun B H σ Z r f => PS.sem (ps_ret pe_sem) (h.run B H σ _ r fun v d B1 H1 ρ1 p dv g r1 => f.rt v d B1 H1 σ ρ1 p dv g r1)
theorem vs_retN (h : F.rt .none ρ) : VS X (.Return none pos) ρ F := VS.mk fun B H σ Z r f => PS.sem ps_retN (f.rt .non .none B H σ ρ h .non Go.refl r)
theorem vs_if {u v : List Stmt} (h : VT X c ρ fun bb ρ1 => (bb = true → VSs X u ρ1 F) ∧ (bb = false → VSs X v ρ1 F)) : VS X (.If c u v pos) ρ F := VS.mk fun B H σ Z r f => by
  refine PS.sem (ps_if pb_sem pss_sem pss_sem) ?_
  refine h.run B H σ _ r fun bb B1 H1 ρ1 p g r1 => ?_
  cases bb with
  | true => exact (p.1 rfl).run B1 H1 σ Z r1 (f.go g)
  | false => exact (p.2 rfl).run B1 H1 σ Z r1 (f.go g)
theorem vs_expr (h : VD X e ρ fun _ ρ1 => F.nx ρ1) (hs : swapsWith e none pos.line X.env = pure false := by rfl) : VS X (.Expr e pos) ρ F := VS.mk fun B H σ Z r f =>
  PS.sem (ps_expr pe_sem hs) (h.run B H σ _ r fun v d B1 H1 ρ1 p dv g r1 => f.nx B1 H1 σ ρ1 p g r1)
/-- name = e -/
theorem vs_set (C : Cst X M sc NK G k) {i : Nat} {v : Bool} {p : Pos} (ha : At NK i (x, v, true)) (h : VD X e ρ fun d ρ1 => F.nx (ρ1.set i (.dat d))) (hs : swapsWith e (some (.Name x p)) pos.line X.env = pure false := by rfl) : VS X (.Assign [.Name x p] e pos) ρ F := VS.mk fun B H σ Z r f => by
  refine PS.sem (ps_set C.nd (C.ix ha) (C.lo ha) pe_sem hs (C.fn ha)) ?_
  exact h.run B H σ _ r fun w d B1 H1 ρ1 p1 dv g1 r1 => f.nx B1 H1 _ _ p1 (g1.trans go_set) (rel_set r1 dv)
/-- (a, ..) = e -/
theorem vs_asg {tg : Expr} (h : VD X e ρ fun d ρ1 => VG X tg d ρ1 F.nx) (hs : swapsWithSole [tg] e pos.line X.env = pure false := by rfl) (hw : swappedStores [tg] e X.env = pure none := by rfl)
    (h1 : (assignEach [tg] X.env).map (·.2) = [assign tg X.env] := by rfl) : VS X (.Assign [tg] e pos) ρ F := VS.mk fun B H σ Z r f => by
  refine PS.sem (ps_asg pe_sem pg_sem hs hw h1) ?_
  refine h.run B H σ _ r fun v d B1 H1 ρ1 p1 dv g1 r1 => ?_
  exact p1.run v B1 H1 σ _ r1 dv fun B2 H2 σ2 ρ2 p2 g2 r2 => f.nx B2 H2 σ2 ρ2 p2 (g1.trans g2) r2
theorem sw_env {env env' : Env} {ts : List Expr} {v : Expr} (h : env.scope = env'.scope) : swappedStores ts v env = swappedStores ts v env' := by
  unfold swappedStores Env.blockKind Env.kindOf
  rw [h]
/-- a, b = e1, e2 -/
theorem vs_par [Cold M] (C : Cst X M sc NK G k) {i j : Nat} {v w : Bool} {y : Str} {px py pt : Pos} {kt k2 pt2} (hi : At NK i (x, v, true)) (hj : At NK j (y, w, true)) (hij : i ≠ j)
    (h : VD X a ρ fun d ρ1 => VD X b ρ1 fun d2 ρ2 => F.nx ((ρ2.set i (.dat d)).set j (.dat d2)))
    (hw : ∀ env : Env, env.scope = sc → swappedStores [.Tuple [.Name x px, .Name y py] kt pt] (.Tuple [a, b] k2 pt2) env = pure (some [x, y])) (hx : sc.names.lookup x = some .local := by decide +kernel) (hy : sc.names.lookup y = some .local := by decide +kernel)
    (hs : swapsWithSole [.Tuple [.Name x px, .Name y py] kt pt] (.Tuple [a, b] k2 pt2) pos.line X.env = pure false := by rfl)
    (he : starEach [a, b] X.env = (false, eval a X.env) :: starEach [b] X.env := by rfl) (he2 : starEach [b] X.env = (false, eval b X.env) :: starEach [] X.env := by rfl) :
    VS X (.Assign [.Tuple [.Name x px, .Name y py] kt pt] (.Tuple [a, b] k2 pt2) pos) ρ F := VS.mk fun B H σ Z r f => by
  refine PS.sem (ps_par C.calm C.nd (C.ix hi) (C.ix hj) hij (by rw [C.s]; exact hx) (by rw [C.s]; exact hy) (pa_cons pe_sem (pa_cons pe_sem pa_nil he2) he) (hw _ C.s) hs) ?_
  refine h.run B H σ _ r fun vv d B1 H1 ρ1 p1 dv g1 r1 => ?_
  refine p1.run B1 H1 σ _ r1 fun ww d2 B2 H2 ρ2 p2 dw g2 r2 => ⟨vv, ww, rfl, ?_⟩
  exact f.nx B2 H2 _ _ p2 (((g1.trans g2).trans go_set).trans go_set) (rel_set (rel_set r2 (Dp.mono g2.ex dv)) dw)
/-- name = a new list: it is the name's own -/
theorem vs_new (C : Cst X M sc NK G k) {i : Nat} {v : Bool} {p : Pos} (ha : At NK i (x, v, true)) (hi : i < ρ.length) (h : VN X e ρ fun ds ρ1 => ∀ z, F.nx (ρ1.set i (.own z ds))) (hs : swapsWith e (some (.Name x p)) pos.line X.env = pure false := by rfl) : VS X (.Assign [.Name x p] e pos) ρ F := VS.mk fun B H σ Z r f => by
  refine PS.sem (ps_set C.nd (C.ix ha) (C.lo ha) pe_sem hs (C.fn ha)) ?_
  refine h.run B H σ _ r fun z vs ds B1 H1 ρ1 p1 hz h1 bz no dvs g1 r1 => ?_
  have hl : i < ρ1.length := by rw [r1.len, ← r.len]; exact hi
  have own_of : ∀ (j : Nat) a es, (ρ1.set i (.own z ds))[j]? = some (.own a es) → (j = i ∧ a = z ∧ es = ds) ∨ (j ≠ i ∧ ρ1[j]? = some (.own a es)) := fun j a es hj => by
    by_cases w : i = j
    · subst w
      rw [List.getElem?_set_self hl] at hj
      cases hj
      exact .inl ⟨rfl, rfl, rfl⟩
    · rw [List.getElem?_set_ne w] at hj
      exact .inr ⟨fun q => w q.symm, hj⟩
  refine f.nx B1 H1 _ _ (p1 z) ⟨g1.ex, g1.keep, g1.out, fun a ⟨j, es, hj⟩ => ?_, g1.dom⟩ ⟨r1.ex, by rw [List.length_set, List.length_set]; exact r1.len, fun j d hj => ?_, fun j a es hj => ?_, fun j j' a es fs hj hj' => ?_⟩
  · rcases own_of j a es hj with ⟨_, rfl, _⟩ | ⟨_, q⟩
    · exact .inr hz
    · exact g1.own a ⟨j, es, q⟩
  · by_cases w : i = j
    · subst w
      rw [List.getElem?_set_self hl] at hj
      cases hj
    · rw [List.getElem?_set_ne w] at hj ⊢
      exact r1.dat j d hj
  · rcases own_of j a es hj with ⟨rfl, rfl, rfl⟩ | ⟨w, q⟩
    · exact ⟨by rw [List.getElem?_set_self (by rw [← r1.len]; exact hl)], bz, _, h1, vs, rfl, dvs⟩
    · rw [List.getElem?_set_ne (fun q => w q.symm)]
      exact r1.own j a es q
  · rcases own_of j a es hj with ⟨rfl, rfl, rfl⟩ | ⟨w, q⟩
    · rcases own_of j' a fs hj' with ⟨rfl, _, _⟩ | ⟨w', q'⟩
      · rfl
      · exact absurd ⟨j', fs, q'⟩ no
    · rcases own_of j' a fs hj' with ⟨rfl, rfl, _⟩ | ⟨w', q'⟩
      · exact absurd ⟨j, es, q⟩ no
      · exact r1.dis j j' a es fs q q'
/-- a list of one's own is written -/
theorem own_writeO {K : Kw} {B H : Hp} {σ : L2.St} {ρ : En} (r : Rel K B H σ ρ) {i : Nat} {p : Addr} {cs cs' : OD} {u' : HO} (ho : ρ[i]? = some (.own p cs)) (hd : OD.is K B p u' cs') : Rel K B (upd H p u') σ (ρ.set i (.own p cs')) ∧ Go B H ρ B (upd H p u') (ρ.set i (.own p cs')) := by
  obtain ⟨h1, h2, vs, h3, h4⟩ := r.own i p cs ho
  have hlt := (List.getElem?_eq_some_iff.mp ho).1
  have own_of : ∀ (j : Nat) a es, (ρ.set i (.own p cs'))[j]? = some (.own a es) → (j = i ∧ a = p ∧ es = cs') ∨ (j ≠ i ∧ ρ[j]? = some (.own a es)) := fun j a es hj => by
    by_cases w : i = j
    · subst w
      rw [List.getElem?_set_self hlt] at hj
      cases hj
      exact .inl ⟨rfl, rfl, rfl⟩
    · rw [List.getElem?_set_ne w] at hj
      exact .inr ⟨fun q => w q.symm, hj⟩
  have ne : ∀ (j : Nat) a es, j ≠ i → ρ[j]? = some (.own a es) → a ≠ p := fun j a es w q z => w (r.dis j i p es cs (z ▸ q) ho)
  refine ⟨⟨Evl.Ex.mut r.ex h2, by rw [List.length_set]; exact r.len, fun j d hj => ?_, fun j a es hj => ?_, fun j j' a es fs hj hj' => ?_⟩, ⟨Evl.Ex.refl B, fun a o h n => ?_, fun _ _ h _ => h, fun a ⟨j, es, hj⟩ => ?_, fun a z => ?_⟩⟩
  · by_cases w : i = j
    · subst w
      rw [List.getElem?_set_self hlt] at hj
      cases hj
    · rw [List.getElem?_set_ne w] at hj
      exact r.dat j d hj
  · rcases own_of j a es hj with ⟨rfl, rfl, rfl⟩ | ⟨w, q⟩
    · exact ⟨h1, h2, u', upd_same, hd⟩
    · obtain ⟨h5, h6, ws, h7, h8⟩ := r.own j a es q
      exact ⟨h5, h6, ws, by rw [upd_ne (ne j a es w q)]; exact h7, h8⟩
  · rcases own_of j a es hj with ⟨rfl, rfl, rfl⟩ | ⟨w, q⟩
    · rcases own_of j' a fs hj' with ⟨rfl, _, _⟩ | ⟨w', q'⟩
      · rfl
      · exact absurd rfl (ne j' a fs w' q')
    · rcases own_of j' a fs hj' with ⟨rfl, rfl, _⟩ | ⟨w', q'⟩
      · exact absurd rfl (ne j a es w q)
      · exact r.dis j j' a es fs q q'
  · rw [upd_ne (fun z => n ⟨i, cs, by rw [z]; exact ho⟩)]
    exact h
  · rcases own_of j a es hj with ⟨rfl, rfl, rfl⟩ | ⟨w, q⟩
    · exact .inl ⟨_, cs, ho⟩
    · exact .inl ⟨j, es, q⟩
  · by_cases w : a = p
    · rw [w, upd_same] at z
      cases z
    · rw [upd_ne w] at z
      exact z
theorem own_write {K : Kw} {B H : Hp} {σ : L2.St} {ρ : En} (r : Rel K B H σ ρ) {i : Nat} {p : Addr} {cs cs' : List D} {vs' : List V} (ho : ρ[i]? = some (.own p cs)) (hd : DpAll K B vs' cs') : Rel K B (upd H p (.lst vs')) σ (ρ.set i (.own p cs')) ∧ Go B H ρ B (upd H p (.lst vs')) (ρ.set i (.own p cs')) :=
  own_writeO r ho ⟨vs', rfl, hd⟩
/-- xs[j] = e, xs a list of one's own -/
theorem vs_put (C : Cst X M sc NK G k) {i : Nat} {l : Bool} {p : Addr} {cs0 : List D} {px p2 : Pos} (ha : At NK i (x, true, l)) (ho : ρ[i]? = some (.own p cs0))
    (h : VD X e ρ fun d ρ1 => VD X b ρ1 fun y ρ2 => ∃ (n : Int) (j : Nat) (cs : List D), y = .int n ∧ ρ2[i]? = some (.own p cs) ∧ ixN cs.length n = some j ∧ F.nx (ρ2.set i (.own p (cs.set j d))))
    (hs : swapsWithSole [.Subscript (.Name x px) b p2] e pos.line X.env = pure false := by rfl) (hw : swappedStores [.Subscript (.Name x px) b p2] e X.env = pure none := by rfl) (h1 : (assignEach [.Subscript (.Name x px) b p2] X.env).map (·.2) = [assign (.Subscript (.Name x px) b p2) X.env] := by rfl)
    (hd : (x == ("__debug__" : Str)) = false := by decide) (hcd : (x == ("__classdict__" : Str)) = false := by decide)
    (hg : ∀ v, assign (.Subscript (.Name x px) b p2) X.env v = (do
      let ov ← holding [v] (eval (.Name x px) X.env)
      let iv ← holding [v, ov] (eval b X.env)
      standAt p2
      holding [v, ov, iv] (setItem ov iv v)
      release [v, ov, iv] []) := by intro _; rfl) : VS X (.Assign [.Subscript (.Name x px) b p2] e pos) ρ F := VS.mk fun B H σ Z r f => by
  refine PS.sem (ps_asg pe_sem (pg_sub (pe_var (C.ix ha) (C.vi ha) hd hcd) pe_sem set_list hg) hs hw h1) ?_
  refine h.run B H σ _ r fun v d B1 H1 ρ1 p1 dv g1 r1 => ⟨.ref p, (r.own i p cs0 ho).1, ?_⟩
  refine p1.run B1 H1 σ _ r1 fun vy y B2 H2 ρ2 p2 dy g2 r2 => ?_
  obtain ⟨n, j, cs, rfl, ho2, hj, pp⟩ := p2
  obtain ⟨_, _, _, h3, vs, rfl, h4⟩ := r2.own i p cs ho2
  obtain ⟨r3, g3⟩ := own_write r2 ho2 (DpAll.set (Dp.mono g2.ex dv) j h4)
  exact ⟨p, vs, n, j, rfl, dp_int dy, h3, by rw [DpAll.len h4]; exact hj, f.nx B2 _ σ _ pp ((g1.trans g2).trans g3) r3⟩

/-! ### what is walked -/
/-- the iterator's turns give these data -/
def Yields (K : PySem.W.Frag) (J : It) (B : Hp) (ds : List D) : Prop := ∀ (i : Nat) (B1 H1 : Hp), Ex B B1 → Ex B1 H1 →
  (i < ds.length → J.go i H1 ∧ ∀ x H', J.yld i H1 x H' → H' = H1 ∧ ∃ d, ds[i]? = some d ∧ Dp K B1 x d) ∧ (ds.length ≤ i → J.stop i H1)
def iSemC (X : Cx) (tg iter : Expr) : TI := fun σ H R => ∀ pins s, Inv X pins σ H s → wpAny (model X.prog X.w) X.A (eval iter X.env) (fun v s1 => wpAny (model X.prog X.w) X.A (pyIter v) (PIE X pins σ tg R) X.xe s1) X.xe s
def iSemH (X : Cx) (tg iter : Expr) : TI := fun σ H R => ∀ pins s, Inv X pins σ H s → wpAny (model X.prog X.w) X.A (eval iter X.env) (fun v s1 => wpAny (model X.prog X.w) X.A (pyIter v) (L2H.PIEH X pins σ tg R) X.xe s1) X.xe s
def iSemI (X : Cx) (tg iter : Expr) : TI := fun σ H R => (X.calm = true → iSemC X tg iter σ H R) ∧ (X.calm = false → iSemH X tg iter σ H R)
theorem pi_sem (hX : X.calm = true) : PI X tg e (iSemI X tg e) := ⟨fun pins s σ H R I h => h.1 hX pins s I⟩
theorem pih_sem (hX : X.calm = false) : L2H.PIH X tg e (iSemI X tg e) := ⟨fun pins s σ H R I h => h.2 hX pins s I⟩
theorem PI.semC {wi : TI} (h : PI X tg e wi) {σ : L2.St} {H : Hp} {R : It → Hp → Prop} (q : wi σ H R) : iSemC X tg e σ H R := fun pins s I => h.run pins s σ H R I q
theorem PIH.semH {wi : TI} (h : L2H.PIH X tg e wi) {σ : L2.St} {H : Hp} {R : It → Hp → Prop} (q : wi σ H R) : iSemH X tg e σ H R := fun pins s I => h.run pins s σ H R I q
theorem PI.sem2 {wi : TI} (h : PI X tg e wi) (h2 : L2H.PIH X tg e wi) {σ : L2.St} {H : Hp} {R : It → Hp → Prop} (q : wi σ H R) : iSemI X tg e σ H R := ⟨fun _ => PI.semC h q, fun _ => PIH.semH h2 q⟩
theorem PI.sem {M : Md} [Cold M] {sc : Scope} {NK : List (Str × Bool × Bool)} {G : List Str} {k : Nat} (C : Cst X M sc NK G k) {wi : TI} (h : PI X tg e wi) {σ : L2.St} {H : Hp} {R : It → Hp → Prop} (q : wi σ H R) : iSemI X tg e σ H R := ⟨fun _ => PI.semC h q, fun e => absurd (C.calm.symm.trans e) (by decide)⟩
structure VI (X : Cx) (tg iter : Expr) (ρ : En) (P : List D → En → Prop) : Prop where
  run : ∀ B H σ (R : It → Hp → Prop), Rel (kwOf X) B H σ ρ →
  (∀ J ds B' H' ρ', P ds ρ' → Yields X.K J B' ds → Go B H ρ B' H' ρ' → Rel (kwOf X) B' H' σ ρ' → R J H') → iSemI X tg iter σ H R
theorem vi_range {i : Nat} {p : Pos} (C : Cst X M sc NK G k) (hg : At G i "range") (h : VD X a ρ fun d ρ1 => ∃ n : Nat, d = .int (n : Int) ∧ n < 2 ^ 62 ∧ PL ((List.range n).map fun (j : Nat) => PyData.int (j : Int)) ρ1) (hm : M.mg "range" = none := by assumption)
    (hs : starEach [a] X.env = [(false, eval a X.env)] := by rfl) : VI X tg (.Call (.Name "range" p) [a] [] pos) ρ PL := VI.mk fun B H σ R r q => by
  refine PI.sem2 (pi_range1 (C.g hg) (C.mg hm) (pa_cons pe_sem pa_nil hs) hs) (L2H.pi_range1H (C.g hg) (C.mg hm) (pa_cons pe_sem pa_nil hs) hs) ?_
  refine h.run B H σ _ r fun v d B1 H1 ρ1 p1 dv g1 r1 => ?_
  obtain ⟨n, rfl, hn, pp⟩ := p1
  refine ⟨(n : Int), by rw [dp_int dv], by omega, by omega, q _ _ B1 H1 ρ1 pp (fun j B2 H2 e1 e2 => ⟨fun hj => ⟨?_, fun x H' y => ?_⟩, fun hj => ?_⟩) g1 r1⟩
  · rw [List.length_map, List.length_range] at hj
    show j < (n : Int).toNat
    rw [Int.toNat_natCast]
    exact hj
  · obtain ⟨rfl, rfl⟩ := y
    rw [List.length_map, List.length_range] at hj
    refine ⟨rfl, .int (j : Int), ?_, ?_⟩
    · rw [List.getElem?_map, List.getElem?_range hj]
      rfl
    · rw [Int.zero_add]
      exact .int _
  · rw [List.length_map, List.length_range] at hj
    show (n : Int).toNat ≤ j
    rw [Int.toNat_natCast]
    exact hj
theorem vi_tup (h : VD X e ρ fun d ρ1 => ∃ ds, d = .tuple ds ∧ PL ds ρ1) : VI X tg e ρ PL := VI.mk fun B H σ R r q => by
  refine PI.sem2 (pi_tup pe_sem) (VhX.pih_tup pe_sem) ?_
  refine h.run B H σ _ r fun v d B1 H1 ρ1 p1 dv g1 r1 => ?_
  obtain ⟨ds, rfl, pp⟩ := p1
  obtain ⟨t, vs, rfl, hT, hv⟩ := dp_tup dv
  refine ⟨t, rfl, ⟨vs, ex_t r1.ex hT⟩, q _ ds B1 H1 ρ1 pp (fun j B2 H2 e1 e2 => ⟨fun hj => ?_, fun hj => ⟨vs, ex_t (e1.trans e2) hT, by rw [DpAll.len hv]; exact hj⟩⟩) g1 r1⟩
  have hj' : j < vs.length := by rw [DpAll.len hv]; exact hj
  refine ⟨⟨vs, vs[j], ex_t (e1.trans e2) hT, List.getElem?_eq_getElem hj'⟩, fun x H' y => ?_⟩
  obtain ⟨rfl, y2⟩ := y
  refine ⟨rfl, ?_⟩
  obtain ⟨d, h1, h2⟩ := DpAll.getV hv (y2 vs (ex_t (e1.trans e2) hT))
  exact ⟨d, h1, Dp.mono e1 h2⟩
theorem vi_lst (h : VD X e ρ fun d ρ1 => ∃ ds, d = .list ds ∧ PL ds ρ1) : VI X tg e ρ PL := VI.mk fun B H σ R r q => by
  refine PI.sem2 (pi_list pe_sem) (VhX.pih_lst pe_sem) ?_
  refine h.run B H σ _ r fun v d B1 H1 ρ1 p1 dv g1 r1 => ?_
  obtain ⟨ds, rfl, pp⟩ := p1
  obtain ⟨t, vs, rfl, hT, hv⟩ := dp_lst dv
  refine ⟨t, rfl, ⟨vs, ex_l r1.ex hT⟩, q _ ds B1 H1 ρ1 pp (fun j B2 H2 e1 e2 => ⟨fun hj => ?_, fun hj => ⟨vs, ex_l (e1.trans e2) hT, by rw [DpAll.len hv]; exact hj⟩⟩) g1 r1⟩
  have hj' : j < vs.length := by rw [DpAll.len hv]; exact hj
  refine ⟨⟨vs, vs[j], ex_l (e1.trans e2) hT, List.getElem?_eq_getElem hj'⟩, fun x H' y => ?_⟩
  obtain ⟨rfl, y2⟩ := y
  refine ⟨rfl, ?_⟩
  obtain ⟨d, h1, h2⟩ := DpAll.getV hv (y2 vs (ex_l (e1.trans e2) hT))
  exact ⟨d, h1, Dp.mono e1 h2⟩

/-! ### for -/
theorem vs_for (C : Cst X M sc NK G k) {body : List Stmt} (h : VI X tg e ρ fun ds ρ1 => ∃ W : Nat → En → Prop, W 0 ρ1 ∧
      (∀ (i : Nat) d ρ', ds[i]? = some d → W i ρ' → VG X tg d ρ' fun ρ2 => VSs X body ρ2 { nx := W (i + 1), rt := F.rt, bk := F.nx, ct := W (i + 1), ex := F.ex }) ∧ ∀ ρ', W ds.length ρ' → F.nx ρ')
    (hs : ∀ x, foldedSetIterable e X.env x = pure x := by intro _; rfl) : VS X (.For tg e body [] pos) ρ F := VS.mk fun B H σ Z r f => by
  have key : PS X (.For tg e body [] pos) (tFor (iSemI X tg e) (gSem X tg) (ssSem X body)) := by
    cases hX : X.calm with
    | true => exact ps_for C.never hX (pi_sem hX) pg_sem pss_sem hs
    | false => exact L2H.ps_forH C.never (C.hotc hX) (pih_sem hX) pg_sem pss_sem hs
  refine PS.sem key ?_
  refine h.run B H σ _ r fun J ds B1 H1 ρ1 p1 yl g1 r1 => ?_
  obtain ⟨W, w0, step, done⟩ := p1
  refine ⟨fun i m σ' H' => m = ds.length - i ∧ i ≤ ds.length ∧ ∃ B' ρ', W i ρ' ∧ Go B1 H1 ρ1 B' H' ρ' ∧ Rel (kwOf X) B' H' σ' ρ', ⟨ds.length, by omega, by omega, B1, ρ1, w0, Go.refl, r1⟩, ?_⟩
  rintro i m σ' H' ⟨rfl, hi, B', ρ', w, g, r'⟩
  obtain ⟨y1, y2⟩ := yl i B' H' g.ex r'.ex
  by_cases hlt : i < ds.length
  · obtain ⟨go, y⟩ := y1 hlt
    refine .inr ⟨go, fun σ2 H2 => ∃ B2 ρ2, W (i + 1) ρ2 ∧ Go B1 H1 ρ1 B2 H2 ρ2 ∧ Rel (kwOf X) B2 H2 σ2 ρ2, fun σ2 H2 ⟨B2, ρ2, w2, g2, r2⟩ => ⟨ds.length - (i + 1), by omega, rfl, hlt, B2, ρ2, w2, g2, r2⟩, fun x H2 hy => ?_⟩
    obtain ⟨rfl, d, hd, dx⟩ := y x H2 hy
    refine (step i d ρ' hd w).run x B' H2 σ' _ r' dx fun B2 H3 σ2 ρ2 p2 g2 r2 => ?_
    refine p2.run B2 H3 σ2 ⟨_, Z.e, Z.tk⟩ r2 ⟨fun B3 H4 σ3 ρ3 p3 g3 r3 => ⟨B3, ρ3, p3, (g.trans g2).trans g3, r3⟩, fun v d B3 H4 σ3 ρ3 p3 dv g3 r3 => f.rt v d B3 H4 σ3 ρ3 p3 dv (g1.trans ((g.trans g2).trans g3)) r3, fun B3 H4 σ3 ρ3 p3 g3 r3 => f.nx B3 H4 σ3 ρ3 p3 (g1.trans ((g.trans g2).trans g3)) r3, fun B3 H4 σ3 ρ3 p3 g3 r3 => ⟨B3, ρ3, p3, (g.trans g2).trans g3, r3⟩, fun c dx B3 H4 σ3 ρ3 p3 k3 g3 r3 => f.ex c dx B3 H4 σ3 ρ3 p3 k3 (g1.trans ((g.trans g2).trans g3)) r3⟩
  · have e : i = ds.length := by omega
    subst e
    exact .inl ⟨y2 (Nat.le_refl _), f.nx B' H' σ' ρ' (done ρ' w) (g1.trans g) r'⟩
theorem vs_while (C : Cst X M sc NK G k) {body : List Stmt} (W : Nat → En → Prop) (m0 : Nat) (h0 : W m0 ρ)
    (h : ∀ m ρ', W m ρ' → VT X c ρ' fun bb ρ1 => (bb = true → VSs X body ρ1 { nx := fun ρ2 => ∃ m', m' < m ∧ W m' ρ2, rt := F.rt, bk := F.nx, ct := fun ρ2 => ∃ m', m' < m ∧ W m' ρ2, ex := F.ex }) ∧ (bb = false → F.nx ρ1)) : VS X (.While c body [] pos) ρ F := VS.mk fun B H σ Z r f => by
  refine PS.sem (ps_while C.never pb_sem pss_sem) ?_
  refine ⟨fun m σ' H' => ∃ B' ρ', W m ρ' ∧ Go B H ρ B' H' ρ' ∧ Rel (kwOf X) B' H' σ' ρ', ⟨m0, B, ρ, h0, Go.refl, r⟩, fun m σ' H' ⟨B', ρ', w, g, r'⟩ => ?_⟩
  refine (h m ρ' w).run B' H' σ' _ r' fun bb B1 H1 ρ1 p1 g1 r1 => ?_
  cases bb with
  | true =>
    rw [if_pos rfl]
    refine ⟨fun σ2 H2 => ∃ m', m' < m ∧ ∃ B' ρ', W m' ρ' ∧ Go B H ρ B' H2 ρ' ∧ Rel (kwOf X) B' H2 σ2 ρ', fun σ2 H2 ⟨m', hm, q⟩ => ⟨m', hm, q⟩, (p1.1 rfl).run B1 H1 σ' ⟨_, Z.e, Z.tk⟩ r1 ⟨fun B3 H4 σ3 ρ3 p3 g3 r3 => ?_, fun v d B3 H4 σ3 ρ3 p3 dv g3 r3 => f.rt v d B3 H4 σ3 ρ3 p3 dv ((g.trans g1).trans g3) r3, fun B3 H4 σ3 ρ3 p3 g3 r3 => f.nx B3 H4 σ3 ρ3 p3 ((g.trans g1).trans g3) r3, fun B3 H4 σ3 ρ3 p3 g3 r3 => ?_, fun c dx B3 H4 σ3 ρ3 p3 k3 g3 r3 => f.ex c dx B3 H4 σ3 ρ3 p3 k3 ((g.trans g1).trans g3) r3⟩⟩
    · obtain ⟨m', hm, w'⟩ := p3
      exact ⟨m', hm, B3, ρ3, w', (g.trans g1).trans g3, r3⟩
    · obtain ⟨m', hm, w'⟩ := p3
      exact ⟨m', hm, B3, ρ3, w', (g.trans g1).trans g3, r3⟩
  | false =>
    rw [if_neg Bool.false_ne_true]
    exact f.nx B1 H1 σ' ρ1 (p1.2 rfl) (g.trans g1) r1
end

open PySem PySem.Spec PyProof.Rows L2
open Evl (Ex)

section
variable {X : Cx} {M : Md} {sc : Scope} {NK : List (Str × Bool × Bool)} {G : List Str} {k : Nat} {ρ : En} {P : D → En → Prop} {PL : List D → En → Prop} {pos : Pos} {e : Expr}

/-! ### comprehensions -/
def uSem (X : Cx) (scope : Scope) (e : Expr) : TE := fun σ H Q => ∀ s H0 C cl fp, eSem (X.blk s H0 scope (compEnvC scope cl C X.env) fp) e σ H Q
theorem pe_uSem {scope : Scope} : ∀ (s : Shared) (H : Hp) (C : Addr) (cl : List (Str × Addr)) (fp : List Addr), PE (X.blk s H scope (compEnvC scope cl C X.env) fp) e (uSem X scope e) :=
  fun s H C cl fp => ⟨fun pins s' σ H' Q I h => h s H C cl fp pins s' I⟩
def uSemH (X : Cx) (scope : Scope) (e : Expr) : TE := fun σ H Q => ∀ s H0 C cl fp, eSem (VhX.blkP X s H0 scope (compEnvC scope cl C X.env) fp) e σ H Q
theorem pe_uSemH {scope : Scope} : ∀ (s : Shared) (H : Hp) (C : Addr) (cl : List (Str × Addr)) (fp : List Addr), PE (VhX.blkP X s H scope (compEnvC scope cl C X.env) fp) e (uSemH X scope e) :=
  fun s H C cl fp => ⟨fun pins s' σ H' Q I h => h s H C cl fp pins s' I⟩
theorem rel_no {K : Kw} {B H : Hp} {σ σ2 : L2.St} {ρ : En} {i : Nat} (r : Rel K B H σ2 ρ) (h : σ2.set i none = σ.set i none) : Rel K B H σ (ρ.set i .no) := by
  have hl : σ2.length = σ.length := by
    have := congrArg List.length h
    rw [List.length_set, List.length_set] at this
    exact this
  have back : ∀ (j : Nat) s, s ≠ Sl.no → (ρ.set i .no)[j]? = some s → j ≠ i ∧ ρ[j]? = some s := fun j s hs hj => by
    by_cases z : i = j
    · subst z
      by_cases hi : i < ρ.length
      · rw [List.getElem?_set_self hi] at hj
        exact absurd (Option.some.inj hj).symm hs
      · rw [List.getElem?_eq_none (by rw [List.length_set]; omega)] at hj
        cases hj
    · rw [List.getElem?_set_ne z] at hj
      exact ⟨fun q => z q.symm, hj⟩
  have eq : ∀ j, j ≠ i → σ2[j]? = σ[j]? := fun j hj => by
    have := congrArg (fun l : L2.St => l[j]?) h
    simp only [List.getElem?_set_ne (Ne.symm hj)] at this
    exact this
  refine ⟨r.ex, by rw [List.length_set, r.len, hl], fun j d hj => ?_, fun j a ds hj => ?_, fun j j' a ds es hj hj' => ?_⟩
  · obtain ⟨h1, h2⟩ := back j (.dat d) (by intro z; cases z) hj
    rw [← eq j h1]
    exact r.dat j d h2
  · obtain ⟨h1, h2⟩ := back j (.own a ds) (by intro z; cases z) hj
    rw [← eq j h1]
    exact r.own j a ds h2
  · exact r.dis j j' a ds es (back j (.own a ds) (by intro z; cases z) hj).2 (back j' (.own a es) (by intro z; cases z) hj').2
theorem own_no {ρ : En} {i : Nat} {a : Addr} (h : Own (ρ.set i .no) a) : Own ρ a := by
  obtain ⟨j, ds, hj⟩ := h
  by_cases z : i = j
  · subst z
    by_cases hl : i < ρ.length
    · rw [List.getElem?_set_self hl] at hj
      cases hj
    · rw [List.getElem?_eq_none (by rw [List.length_set]; omega)] at hj
      cases hj
  · rw [List.getElem?_set_ne z] at hj
    exact ⟨j, ds, hj⟩
theorem go_no {B H : Hp} {ρ : En} {i : Nat} : Go B H ρ B H (ρ.set i .no) := ⟨Evl.Ex.refl B, fun _ _ h _ => h, fun _ _ h _ => h, fun _ h => .inl (own_no h), fun _ h => h⟩
/-- the list that is being made, one more -/
theorem acc_put {K : Kw} {B H B1 H1 : Hp} {σ : L2.St} {ρ ρ1 : En} {p : Addr} {o : HO} (g : Go B H ρ B1 H1 ρ1) (r : Rel K B1 H1 σ ρ1) (hp : H p = none) (bp : B1 p = none) (no : ¬ Own ρ1 p) : Go B H ρ B1 (upd H1 p o) ρ1 ∧ Rel K B1 (upd H1 p o) σ ρ1 := by
  refine ⟨⟨g.ex, fun a u h n => ?_, g.out, g.own, fun a z => ?_⟩, ⟨Evl.Ex.mut r.ex bp, r.len, r.dat, fun i a ds h => ?_, r.dis⟩⟩
  · rw [upd_ne (ne_of_none h hp)]
    exact g.keep a u h n
  · by_cases w : a = p
    · rw [w]
      exact hp
    · rw [upd_ne w] at z
      exact g.dom a z
  · obtain ⟨h1, h2, vs, h3, h4⟩ := r.own i a ds h
    exact ⟨h1, h2, vs, by rw [upd_ne (fun z => no ⟨i, ds, by rw [← z]; exact h⟩)]; exact h3, h4⟩
/-- what a comprehension's reading asks -/
theorem lc_read {B H : Hp} {σ : L2.St} {Q : VK} {scope : Scope} {i : Nat} {y : Str} {py : Pos} {elt iter : Expr} {Cb : Cx → Prop} (r : Rel (kwOf X) B H σ ρ)
    (cb : ∀ (s : Shared) (H : Hp) (Ca : Addr) (cl : List (Str × Addr)) (fp : List Addr), Cb (X.blk s H scope (compEnvC scope cl Ca X.env) fp))
    (h : VI X (.Name y py) iter ρ fun ds ρ1 => ds.length ≤ 100000 ∧ ∃ W : Nat → List D → En → Prop, W 0 [] ρ1 ∧
      (∀ (j : Nat) d acc ρ', ds[j]? = some d → W j acc ρ' → ∀ X', Cb X' → VD X' elt (ρ'.set i (.dat d)) fun u ρ4 => W (j + 1) (acc ++ [u]) (ρ4.set i .no)) ∧
      ∀ acc ρ', W ds.length acc ρ' → PL acc ρ')
    (q : ∀ p vs ds B' H' ρ', PL ds ρ' → H p = none → H' p = some (.lst vs) → B' p = none → ¬ Own ρ' p → DpAll X.K B' vs ds → Go B H ρ B' H' ρ' → Rel (kwOf X) B' H' σ ρ' → Q (.ref p) H') :
    tLc (iSemI X (.Name y py) iter) (gName i) tYes (uSem X scope elt) [i] σ H Q := by
  refine h.run B H σ _ r fun J ds B1 H1 ρ1 p1 yl g1 r1 Dl hD => ?_
  obtain ⟨hlen, W, w0, step, done⟩ := p1
  have bD : B1 Dl = none := by
    cases e : B1 Dl with
    | none => rfl
    | some u =>
      rw [r1.ex Dl u e] at hD
      cases hD
  have nD : ¬ Own ρ1 Dl := fun ⟨j, es, hj⟩ => by
    obtain ⟨_, _, ws, h7, _⟩ := r1.own j Dl es hj
    rw [hD] at h7
    cases h7
  refine ⟨fun j m H' => m = ds.length - j ∧ j ≤ ds.length ∧ ∃ acc vs B' ρ', W j acc ρ' ∧ acc.length = j ∧ H' Dl = some (.lst vs) ∧ B' Dl = none ∧ ¬ Own ρ' Dl ∧ DpAll X.K B' vs acc ∧ Go B1 H1 ρ1 B' H' ρ' ∧ Rel (kwOf X) B' H' σ ρ', ⟨ds.length, by omega, by omega, [], [], B1, ρ1, w0, rfl, upd_same, bD, nD, .nil, (acc_put Go.refl r1 hD bD nD).1, (acc_put Go.refl r1 hD bD nD).2⟩, ?_⟩
  rintro j m H' ⟨rfl, hj, acc, vs, B', ρ', w, hacc, hl, bl, nl, dacc, g, r'⟩
  obtain ⟨y1, y2⟩ := yl j B' H' g.ex r'.ex
  by_cases hlt : j < ds.length
  · obtain ⟨go, yy⟩ := y1 hlt
    refine .inr ⟨go, fun H2 => ∃ acc vs B' ρ', W (j + 1) acc ρ' ∧ acc.length = j + 1 ∧ H2 Dl = some (.lst vs) ∧ B' Dl = none ∧ ¬ Own ρ' Dl ∧ DpAll X.K B' vs acc ∧ Go B1 H1 ρ1 B' H2 ρ' ∧ Rel (kwOf X) B' H2 σ ρ', fun H2 hN2 => ⟨ds.length - (j + 1), by omega, rfl, hlt, hN2⟩, fun x H2 hy2 => ?_⟩
    obtain ⟨rfl, d, hd, dx⟩ := yy x H2 hy2
    have st := step j d acc ρ' hd w
    -- the block's slots
    have rw0 : Rel (kwOf X) B' H2 (σ.set i none) (ρ'.set i .no) := rel_no r' (by rw [List.set_set])
    have rw1 : Rel (kwOf X) B' H2 ((wipe σ [i]).set i (some x)) (ρ'.set i (.dat d)) := by
      have q1 : Rel (kwOf X) B' H2 ((σ.set i none).set i (some x)) ((ρ'.set i .no).set i (.dat d)) := rel_set (i := i) rw0 dx
      have q2 : (ρ'.set i .no).set i (Sl.dat d) = ρ'.set i (.dat d) := List.set_set ..
      rw [q2] at q1
      exact q1
    refine ⟨?_, fun s0 H0 Ca cl fp => ?_⟩
    · show (((σ.set i none).set i (some x)).set i none) = σ.set i none
      rw [List.set_set, List.set_set]
    · have vd := st _ (cb s0 H0 Ca cl fp)
      refine vd.run B' H2 ((wipe σ [i]).set i (some x)) _ rw1 fun u du B4 H4 ρ4 p4 dv g4 r4 => ?_
      have gA : Go B1 H1 ρ1 B4 H4 ρ4 := (g.trans go_set).trans g4
      have nl2 : ¬ Own (ρ'.set i (.dat d)) Dl := fun z => nl (own_set z)
      have hD4 : H4 Dl = some (.lst vs) := g4.keep Dl _ hl nl2
      have bD4 : B4 Dl = none := g4.out Dl (by rw [hl]; exact fun z => by cases z) bl nl2
      have nD4 : ¬ Own ρ4 Dl := fun z => (g4.own Dl z).elim nl2 fun e => by rw [hl] at e; cases e
      have rS : Rel (kwOf X) B4 H4 σ (ρ4.set i .no) := rel_no r4 (by
        show ((σ.set i none).set i (some x)).set i none = σ.set i none
        rw [List.set_set, List.set_set])
      have gS : Go B1 H1 ρ1 B4 H4 (ρ4.set i .no) := gA.trans go_no
      have nS : ¬ Own (ρ4.set i .no) Dl := fun z => nD4 (own_no z)
      obtain ⟨gF, rF⟩ := acc_put (o := .lst (vs ++ [u])) gS rS hD bD4 nS
      refine ⟨vs, hD4, ?_, acc ++ [du], vs ++ [u], B4, ρ4.set i .no, p4, by rw [List.length_append, hacc]; rfl, upd_same, bD4, nS, DpAll.app (DpAll.mono g4.ex dacc) (.cons dv .nil), gF, rF⟩
      rw [DpAll.len dacc, hacc]
      exact Nat.lt_of_lt_of_le hlt (Nat.le_trans hlen (by decide))
  · have e : j = ds.length := by omega
    subst e
    exact .inl ⟨y2 (Nat.le_refl _), q Dl vs acc B' H' ρ' (done acc ρ' w) (g1.dom Dl hD) hl bl nl dacc (g1.trans g) r'⟩
/-- the same where an error is being handled -/
theorem lc_readH {B H : Hp} {σ : L2.St} {Q : VK} {scope : Scope} {i : Nat} {y : Str} {py : Pos} {elt iter : Expr} {Cb : Cx → Prop} (r : Rel (kwOf X) B H σ ρ)
    (cb : ∀ (s : Shared) (H : Hp) (Ca : Addr) (cl : List (Str × Addr)) (fp : List Addr), Cb (VhX.blkP X s H scope (compEnvC scope cl Ca X.env) fp))
    (h : VI X (.Name y py) iter ρ fun ds ρ1 => ds.length ≤ 100000 ∧ ∃ W : Nat → List D → En → Prop, W 0 [] ρ1 ∧
      (∀ (j : Nat) d acc ρ', ds[j]? = some d → W j acc ρ' → ∀ X', Cb X' → VD X' elt (ρ'.set i (.dat d)) fun u ρ4 => W (j + 1) (acc ++ [u]) (ρ4.set i .no)) ∧
      ∀ acc ρ', W ds.length acc ρ' → PL acc ρ')
    (q : ∀ p vs ds B' H' ρ', PL ds ρ' → H p = none → H' p = some (.lst vs) → B' p = none → ¬ Own ρ' p → DpAll X.K B' vs ds → Go B H ρ B' H' ρ' → Rel (kwOf X) B' H' σ ρ' → Q (.ref p) H') :
    tLc (iSemI X (.Name y py) iter) (gName i) tYes (uSemH X scope elt) [i] σ H Q := by
  refine h.run B H σ _ r fun J ds B1 H1 ρ1 p1 yl g1 r1 Dl hD => ?_
  obtain ⟨hlen, W, w0, step, done⟩ := p1
  have bD : B1 Dl = none := by
    cases e : B1 Dl with
    | none => rfl
    | some u =>
      rw [r1.ex Dl u e] at hD
      cases hD
  have nD : ¬ Own ρ1 Dl := fun ⟨j, es, hj⟩ => by
    obtain ⟨_, _, ws, h7, _⟩ := r1.own j Dl es hj
    rw [hD] at h7
    cases h7
  refine ⟨fun j m H' => m = ds.length - j ∧ j ≤ ds.length ∧ ∃ acc vs B' ρ', W j acc ρ' ∧ acc.length = j ∧ H' Dl = some (.lst vs) ∧ B' Dl = none ∧ ¬ Own ρ' Dl ∧ DpAll X.K B' vs acc ∧ Go B1 H1 ρ1 B' H' ρ' ∧ Rel (kwOf X) B' H' σ ρ', ⟨ds.length, by omega, by omega, [], [], B1, ρ1, w0, rfl, upd_same, bD, nD, .nil, (acc_put Go.refl r1 hD bD nD).1, (acc_put Go.refl r1 hD bD nD).2⟩, ?_⟩
  rintro j m H' ⟨rfl, hj, acc, vs, B', ρ', w, hacc, hl, bl, nl, dacc, g, r'⟩
  obtain ⟨y1, y2⟩ := yl j B' H' g.ex r'.ex
  by_cases hlt : j < ds.length
  · obtain ⟨go, yy⟩ := y1 hlt
    refine .inr ⟨go, fun H2 => ∃ acc vs B' ρ', W (j + 1) acc ρ' ∧ acc.length = j + 1 ∧ H2 Dl = some (.lst vs) ∧ B' Dl = none ∧ ¬ Own ρ' Dl ∧ DpAll X.K B' vs acc ∧ Go B1 H1 ρ1 B' H2 ρ' ∧ Rel (kwOf X) B' H2 σ ρ', fun H2 hN2 => ⟨ds.length - (j + 1), by omega, rfl, hlt, hN2⟩, fun x H2 hy2 => ?_⟩
    obtain ⟨rfl, d, hd, dx⟩ := yy x H2 hy2
    have st := step j d acc ρ' hd w
    -- the block's slots
    have rw0 : Rel (kwOf X) B' H2 (σ.set i none) (ρ'.set i .no) := rel_no r' (by rw [List.set_set])
    have rw1 : Rel (kwOf X) B' H2 ((wipe σ [i]).set i (some x)) (ρ'.set i (.dat d)) := by
      have q1 : Rel (kwOf X) B' H2 ((σ.set i none).set i (some x)) ((ρ'.set i .no).set i (.dat d)) := rel_set (i := i) rw0 dx
      have q2 : (ρ'.set i .no).set i (Sl.dat d) = ρ'.set i (.dat d) := List.set_set ..
      rw [q2] at q1
      exact q1
    refine ⟨?_, fun s0 H0 Ca cl fp => ?_⟩
    · show (((σ.set i none).set i (some x)).set i none) = σ.set i none
      rw [List.set_set, List.set_set]
    · have vd := st _ (cb s0 H0 Ca cl fp)
      refine vd.run B' H2 ((wipe σ [i]).set i (some x)) _ rw1 fun u du B4 H4 ρ4 p4 dv g4 r4 => ?_
      have gA : Go B1 H1 ρ1 B4 H4 ρ4 := (g.trans go_set).trans g4
      have nl2 : ¬ Own (ρ'.set i (.dat d)) Dl := fun z => nl (own_set z)
      have hD4 : H4 Dl = some (.lst vs) := g4.keep Dl _ hl nl2
      have bD4 : B4 Dl = none := g4.out Dl (by rw [hl]; exact fun z => by cases z) bl nl2
      have nD4 : ¬ Own ρ4 Dl := fun z => (g4.own Dl z).elim nl2 fun e => by rw [hl] at e; cases e
      have rS : Rel (kwOf X) B4 H4 σ (ρ4.set i .no) := rel_no r4 (by
        show ((σ.set i none).set i (some x)).set i none = σ.set i none
        rw [List.set_set, List.set_set])
      have gS : Go B1 H1 ρ1 B4 H4 (ρ4.set i .no) := gA.trans go_no
      have nS : ¬ Own (ρ4.set i .no) Dl := fun z => nD4 (own_no z)
      obtain ⟨gF, rF⟩ := acc_put (o := .lst (vs ++ [u])) gS rS hD bD4 nS
      refine ⟨vs, hD4, ?_, acc ++ [du], vs ++ [u], B4, ρ4.set i .no, p4, by rw [List.length_append, hacc]; rfl, upd_same, bD4, nS, DpAll.app (DpAll.mono g4.ex dacc) (.cons dv .nil), gF, rF⟩
      rw [DpAll.len dacc, hacc]
      exact Nat.lt_of_lt_of_le hlt (Nat.le_trans hlen (by decide))
  · have e : j = ds.length := by omega
    subst e
    exact .inl ⟨y2 (Nat.le_refl _), q Dl vs acc B' H' ρ' (done acc ρ' w) (g1.dom Dl hD) hl bl nl dacc (g1.trans g) r'⟩
/-- [elt for y in iter] -/
theorem vn_lc (C : Cst X M sc NK G k) {scope : Scope} {i : Nat} {y : Str} {py : Pos} {elt iter : Expr} {v : Bool} (NK' : List (Str × Bool × Bool)) (G' : List Str) (hy : At NK' i (y, v, true))
    (h : VI X (.Name y py) iter ρ fun ds ρ1 => ds.length ≤ 100000 ∧ ∃ W : Nat → List D → En → Prop, W 0 [] ρ1 ∧
      (∀ (j : Nat) d acc ρ', ds[j]? = some d → W j acc ρ' → ∀ X', Cst X' M (relS scope sc) NK' G' k → VD X' elt (ρ'.set i (.dat d)) fun u ρ4 => W (j + 1) (acc ++ [u]) (ρ4.set i .no)) ∧
      ∀ acc ρ', W ds.length acc ρ' → PL acc ρ')
    (ok : blkC (NK.map (·.1)) sc scope [(y, i)] = true := by decide +kernel) (hN : NK'.map (·.1) = NK.map (·.1) := by rfl) (hc : chk (relS scope sc) false NK' G' = true := by decide +kernel)
    (hs : ∀ x, foldedSetIterable iter X.env x = pure x := by intro _; rfl) : VN X (.ListComp elt [⟨.Name y py, iter, [], 0⟩] scope pos) ρ PL := VN.mk fun B H σ Q r q => by
  have ok' : BlkOk X.N X.env.scope scope [(y, i)] := by
    rw [C.n, C.s]
    exact blkOk_by ok
  cases hX : X.calm with
  | true =>
    have cb : ∀ (s : Shared) (H : Hp) (Ca : Addr) (cl : List (Str × Addr)) (fp : List Addr), Cst (X.blk s H scope (compEnvC scope cl Ca X.env) fp) M (relS scope sc) NK' G' k := fun s H Ca cl fp => cst_blk C hX hN hc
    exact PE.sem (pe_lc (g := gName i) (tt := tYes) hX C.nd (pi_sem hX) ok' (fun s H Ca cl fp => pg_name (cb s H Ca cl fp).nd ((cb s H Ca cl fp).ix hy) ((cb s H Ca cl fp).lo hy) ((cb s H Ca cl fp).fn hy)) (fun _ _ _ _ _ => pts_nil) pe_uSem hs)
      (lc_read (Cb := fun X' => Cst X' M (relS scope sc) NK' G' k) r cb h q)
  | false =>
    have cb : ∀ (s : Shared) (H : Hp) (Ca : Addr) (cl : List (Str × Addr)) (fp : List Addr), Cst (VhX.blkP X s H scope (compEnvC scope cl Ca X.env) fp) M (relS scope sc) NK' G' k := fun s H Ca cl fp => cst_blkH C hN hc
    exact PE.sem (VhX.pe_lcH (g := gName i) (C.hotc hX) C.nd (pih_sem hX) ok' (fun s H Ca cl fp => pg_name (cb s H Ca cl fp).nd ((cb s H Ca cl fp).ix hy) ((cb s H Ca cl fp).lo hy) ((cb s H Ca cl fp).fn hy)) pe_uSemH hs)
      (lc_readH (Cb := fun X' => Cst X' M (relS scope sc) NK' G' k) r cb h q)
/-- a new list into a slot: as one's own -/
theorem own_newO {K : Kw} {B H B1 H1 : Hp} {σ : L2.St} {ρ ρ1 : En} {i : Nat} {z : Addr} {u : HO} {ds : OD} (hl : i < ρ1.length) (hz : H z = none) (h1 : H1 z = some u) (bz : B1 z = none) (no : ¬ Own ρ1 z) (dvs : OD.is K B1 z u ds) (g1 : Go B H ρ B1 H1 ρ1) (r1 : Rel K B1 H1 σ ρ1) :
    Go B H ρ B1 H1 (ρ1.set i (.own z ds)) ∧ Rel K B1 H1 (σ.set i (some (.ref z))) (ρ1.set i (.own z ds)) := by
  have own_of : ∀ (j : Nat) a es, (ρ1.set i (.own z ds))[j]? = some (.own a es) → (j = i ∧ a = z ∧ es = ds) ∨ (j ≠ i ∧ ρ1[j]? = some (.own a es)) := fun j a es hj => by
    by_cases w : i = j
    · subst w
      rw [List.getElem?_set_self hl] at hj
      cases hj
      exact .inl ⟨rfl, rfl, rfl⟩
    · rw [List.getElem?_set_ne w] at hj
      exact .inr ⟨fun q => w q.symm, hj⟩
  refine ⟨⟨g1.ex, g1.keep, g1.out, fun a ⟨j, es, hj⟩ => ?_, g1.dom⟩, ⟨r1.ex, by rw [List.length_set, List.length_set]; exact r1.len, fun j d hj => ?_, fun j a es hj => ?_, fun j j' a es fs hj hj' => ?_⟩⟩
  · rcases own_of j a es hj with ⟨_, rfl, _⟩ | ⟨_, q⟩
    · exact .inr hz
    · exact g1.own a ⟨j, es, q⟩
  · by_cases w : i = j
    · subst w
      rw [List.getElem?_set_self hl] at hj
      cases hj
    · rw [List.getElem?_set_ne w] at hj ⊢
      exact r1.dat j d hj
  · rcases own_of j a es hj with ⟨rfl, rfl, rfl⟩ | ⟨w, q⟩
    · exact ⟨by rw [List.getElem?_set_self (by rw [← r1.len]; exact hl)], bz, u, h1, dvs⟩
    · rw [List.getElem?_set_ne (fun q => w q.symm)]
      exact r1.own j a es q
  · rcases own_of j a es hj with ⟨rfl, rfl, rfl⟩ | ⟨w, q⟩
    · rcases own_of j' a fs hj' with ⟨rfl, _, _⟩ | ⟨w', q'⟩
      · rfl
      · exact absurd ⟨j', fs, q'⟩ no
    · rcases own_of j' a fs hj' with ⟨rfl, rfl, _⟩ | ⟨w', q'⟩
      · exact absurd ⟨j, es, q⟩ no
      · exact r1.dis j j' a es fs q q'
theorem own_new {K : Kw} {B H B1 H1 : Hp} {σ : L2.St} {ρ ρ1 : En} {i : Nat} {z : Addr} {vs : List V} {ds : List D} (hl : i < ρ1.length) (hz : H z = none) (h1 : H1 z = some (.lst vs)) (bz : B1 z = none) (no : ¬ Own ρ1 z) (dvs : DpAll K B1 vs ds) (g1 : Go B H ρ B1 H1 ρ1) (r1 : Rel K B1 H1 σ ρ1) :
    Go B H ρ B1 H1 (ρ1.set i (.own z ds)) ∧ Rel K B1 H1 (σ.set i (some (.ref z))) (ρ1.set i (.own z ds)) := own_newO hl hz h1 bz no ⟨vs, rfl, dvs⟩ g1 r1
/-- a slot's own list is told as data that stays -/
theorem own_frz {K : Kw} {B H B1 H1 : Hp} {σ : L2.St} {ρ ρ1 : En} {z : Addr} {vs : List V} {ds : List D} (hz : H z = none) (h1 : H1 z = some (.lst vs)) (bz : B1 z = none) (no : ¬ Own ρ1 z) (dvs : DpAll K B1 vs ds) (g1 : Go B H ρ B1 H1 ρ1) (r1 : Rel K B1 H1 σ ρ1) :
    Go B H ρ (upd B1 z (.lst vs)) H1 ρ1 ∧ Rel K (upd B1 z (.lst vs)) H1 σ ρ1 ∧ Dp K (upd B1 z (.lst vs)) (.ref z) (.list ds) := by
  have eB : Ex B1 (upd B1 z (.lst vs)) := Evl.Ex.new bz
  have ne : ∀ a, Own ρ1 a → a ≠ z := fun a w e => no (by rw [← e]; exact w)
  refine ⟨⟨g1.ex.trans eB, g1.keep, fun a h1 h2 h3 => ?_, g1.own, g1.dom⟩, ⟨fun a u ha => ?_, r1.len, fun i d hi => ?_, fun i a ds' hi => ?_, r1.dis⟩, .lst (.inl (.inl upd_same)) (DpAll.mono eB dvs)⟩
  · rw [upd_ne (fun w => h1 (by rw [w]; exact hz))]
    exact g1.out a h1 h2 h3
  · by_cases w : a = z
    · rw [w, upd_same] at ha
      rw [w, h1]
      exact ha
    · rw [upd_ne w] at ha
      exact r1.ex a u ha
  · obtain ⟨v, h1, h2⟩ := r1.dat i d hi
    exact ⟨v, h1, Dp.mono eB h2⟩
  · obtain ⟨h1, h2, ws, h3, h4⟩ := r1.own i a ds' hi
    refine ⟨h1, ?_, ws, h3, OD.mono eB h4⟩
    rw [upd_ne (ne a ⟨i, ds', hi⟩)]
    exact h2
/-- name = [elt for y in iter], on one line, as data that stays -/
theorem vs_setLc [Cold M] (C : Cst X M sc NK G k) {F : Fin} {scope : Scope} {i m : Nat} {x y : Str} {px py spos : Pos} {elt iter : Expr} {v v2 : Bool} (NK' : List (Str × Bool × Bool)) (G' : List Str) (hx : At NK m (x, v2, true)) (hy : At NK' i (y, v, true))
    (h : VI X (.Name y py) iter ρ fun ds ρ1 => ds.length ≤ 100000 ∧ ∃ W : Nat → List D → En → Prop, W 0 [] ρ1 ∧
      (∀ (j : Nat) d acc ρ', ds[j]? = some d → W j acc ρ' → ∀ X', Cst X' M (relS scope sc) NK' G' k → VD X' elt (ρ'.set i (.dat d)) fun u ρ4 => W (j + 1) (acc ++ [u]) (ρ4.set i .no)) ∧
      ∀ acc ρ', W ds.length acc ρ' → F.nx (ρ'.set m (.dat (.list acc))))
    (hk : sc.kind = .function := by rfl) (hxl : sc.names.lookup x = some .local := by decide +kernel) (hpl : (px.line == pos.line) = true := by rfl) (hpa : (scope.names.any fun (n, k) => n == x && (k == .local || k == .cell)) = false := by decide +kernel)
    (ok : blkC (NK.map (·.1)) sc scope [(y, i)] = true := by decide +kernel) (hN : NK'.map (·.1) = NK.map (·.1) := by rfl) (hc : chk (relS scope sc) false NK' G' = true := by decide +kernel)
    (hs : ∀ x, foldedSetIterable iter X.env x = pure x := by intro _; rfl) : VS X (.Assign [.Name x px] (.ListComp elt [⟨.Name y py, iter, [], 0⟩] scope pos) spos) ρ F := VS.mk fun B H σ Z r f => by
  have ok' : BlkOk X.N X.env.scope scope [(y, i)] := by
    rw [C.n, C.s]
    exact blkOk_by ok
  have cb : ∀ (s : Shared) (H : Hp) (Ca : Addr) (cl : List (Str × Addr)) (fp : List Addr), Cst (X.blk s H scope (compEnvC scope cl Ca X.env) fp) M (relS scope sc) NK' G' k := fun s H Ca cl fp => cst_blk C C.calm hN hc
  refine PS.sem (ps_setLc (g := gName i) (tt := tYes) (i := m) C.calm C.nd (C.ix hx) (by rw [C.s]; exact hxl) (sw_true (by rw [C.s]; exact hk) (by rw [C.s]; exact hxl) hpl hpa) (pi_sem C.calm) ok' (fun s H Ca cl fp => pg_name (cb s H Ca cl fp).nd ((cb s H Ca cl fp).ix hy) ((cb s H Ca cl fp).lo hy) ((cb s H Ca cl fp).fn hy)) (fun _ _ _ _ _ => pts_nil) pe_uSem hs) ?_
  refine lc_read (Cb := fun X' => Cst X' M (relS scope sc) NK' G' k) (PL := fun acc ρ' => F.nx (ρ'.set m (.dat (.list acc)))) r cb h fun z vs ds B1 H1 ρ1 p hz h1 bz no dvs g1 r1 => ?_
  obtain ⟨g2, r2, d2⟩ := own_frz hz h1 bz no dvs g1 r1
  exact f.nx _ H1 _ _ p (g2.trans go_set) (rel_set r2 d2)
end

/-! ### defs -/
section
variable {M : Md} {x : Str} {st : Stmt} {f : Addr} {fd : FuncData} {N ps : List Str} {NK : List (Str × Bool × Bool)} {G : List Str} {k n : Nat}
theorem start_get {vs : List V} {N : List Str} {i : Nat} {v : V} (h : vs[i]? = some v) : (L2.start N vs)[i]? = some (some v) := by
  unfold L2.start
  rw [List.getElem?_append_left (by rw [List.length_map]; exact (List.getElem?_eq_some_iff.mp h).1), List.getElem?_map, h]
  rfl
theorem slots_get {ds : List D} {m i : Nat} {s : Sl} (h : (ds.map Sl.dat ++ List.replicate m Sl.no)[i]? = some s) : (∃ d, s = .dat d ∧ ds[i]? = some d) ∨ s = .no := by
  by_cases hi : i < ds.length
  · rw [List.getElem?_append_left (by rw [List.length_map]; exact hi), List.getElem?_map] at h
    cases e : ds[i]? with
    | none =>
      rw [e] at h
      cases h
    | some d =>
      rw [e] at h
      cases h
      exact .inl ⟨d, rfl, rfl⟩
  · rw [List.getElem?_append_right (by rw [List.length_map]; omega), List.getElem?_replicate] at h
    split at h
    · cases h
      exact .inr rfl
    · cases h
theorem rel_start {K : Kw} {B H : Hp} {vs : List V} {ds : List D} (e : Ex B H) (h : DpAll K B vs ds) (hl : ds.length ≤ N.length) : Rel K B H (L2.start N vs) (ds.map Sl.dat ++ List.replicate (N.length - ds.length) Sl.no) := by
  refine ⟨e, ?_, fun i d hi => ?_, fun i a es hi => ?_, fun i j a es fs hi _ => ?_⟩
  · unfold L2.start
    rw [List.length_append, List.length_append, List.length_map, List.length_map, List.length_replicate, List.length_replicate, DpAll.len h]
  · rcases slots_get hi with ⟨d', e1, e2⟩ | e1
    · cases e1
      obtain ⟨v, h1, h2⟩ := DpAll.get h e2
      exact ⟨v, start_get h1, h2⟩
    · cases e1
  · rcases slots_get hi with ⟨d', e1, e2⟩ | e1 <;> cases e1
  · rcases slots_get hi with ⟨d', e1, e2⟩ | e1 <;> cases e1
theorem md_cold {M : Md} (h : M.hot = false) : M = ⟨M.prog, M.w, M.K, M.mg, M.base, !true⟩ := by
  cases M
  cases h
  rfl
theorem md_hot {M : Md} (h : M.hot = true) : M = ⟨M.prog, M.w, M.K, M.mg, M.base, !false⟩ := by
  cases M
  cases h
  rfl
theorem takesN : TakesM X (fun _ _ _ _ => False) := ⟨fun _ _ _ ⟨_, _, _, _, _, _, _, _, _, _, _, _, _, _, _, _, w⟩ => w.elim, fun _ _ _ ⟨_, _, _, _, _, _, _, _, _, _, _, _, _, _, _, _, w⟩ => w.elim⟩
/-- a body's own rows, over data -/
theorem body_data {S : List D → (D → Prop) → Prop} {X : Cx} {ds : List D} {vs : List V} {B H : Hp} {W : D → Prop} {Q : VK} (hK : X.K = M.K) (hKW : kwOf X = kwM M) (hnN : n ≤ N.length) (e : Ex B H) (d : DpAll M.K B vs ds) (hl : ds.length = n)
    (bd : VSs X (defBody st) (ds.map Sl.dat ++ List.replicate (N.length - n) Sl.no) { nx := fun _ => W .none, rt := fun d _ => W d })
    (q : ∀ v d B' H', W d → Dp M.K B' v d → Ex B B' → Ex B' H' → Ex H H' → (∀ a, H a ≠ none → B a = none → B' a = none) → Q v H') :
    ssSem X (defBody st) { nx := fun _ H' => Q .non H', rt := Q } (L2.start N vs) H := by
  have r0 := rel_start (K := kwM M) (N := N) (ds := ds) e d (by omega)
  rw [hl, ← hKW] at r0
  have no0 : ∀ a, ¬ Own (ds.map Sl.dat ++ List.replicate (N.length - n) Sl.no) a := fun a ⟨i, es, hi⟩ => by
    rcases slots_get hi with ⟨d', e1, e2⟩ | e1 <;> cases e1
  refine bd.run B H _ ⟨_, fun _ _ _ _ => False, takesN⟩ r0 ⟨fun B' H' σ' ρ' p g r => ?_, fun v dd B' H' σ' ρ' p dv g r => ?_, fun _ _ _ _ p => p.elim, fun _ _ _ _ p => p.elim, fun _ _ _ _ _ _ p => p.elim⟩
  · exact q .non .none B' H' p .non g.ex r.ex (fun a o h => g.keep a o h (no0 a)) fun a h1 h2 => g.out a h1 h2 (no0 a)
  · exact q v dd B' H' p (by rw [hKW] at dv; exact dv) g.ex r.ex (fun a o h => g.keep a o h (no0 a)) fun a h1 h2 => g.out a h1 h2 (no0 a)
theorem fnOk_mk [cM : Cold M] {S : List D → (D → Prop) → Prop} (F : Fun M.K x x st f fd) (Sc : FnScope N ps (defScope st)) (hN : N = NK.map (·.1)) (hc : chk (defScope st) true NK G = true) (hn : ps.length = n) (hnN : n ≤ N.length)
    (body : ∀ X, Cst X M (defScope st) NK G k → ∀ ds W, ds.length = n → S ds W → VSs X (defBody st) (ds.map Sl.dat ++ List.replicate (N.length - n) Sl.no) { nx := fun _ => W .none, rt := fun d _ => W d }) : FnOk M.prog M.w M.K M.mg M.base CX0 (k + 1) f fd ps (DS M.K n S) := by
  refine F.ok Sc (fun vs H Q E h => ?_) (fun cdv A outer s H vs Q E hr h => ?_)
  · obtain ⟨B, ds, W, e, d, hl, _⟩ := h
    rw [DpAll.len d, hl, hn]
  · obtain ⟨B, ds, W, e, d, hl, hS, q⟩ := h
    have C : Cst (cxOf CX0 M.prog M.w M.K M.mg M.base N x (defScope st) f cdv A outer s H E).nox M (defScope st) NK G k := by
      rw [md_cold cM.no]
      exact cst_def hN Sc.nd hc hr
    exact ⟨_, pss_sem, body_data (S := S) (n := n) rfl rfl hnN e d hl (body _ C ds W hl hS) q⟩
/-- the code of a def where an error is being handled -/
theorem Fun.okH {P : Program} {w : World} {K : PySem.W.Frag} {mg : Str → Option Value} {base : Heap} {x qual : Str} {st : Stmt} {f : Addr} {fd : FuncData} {N ps : List Str} {k : Nat} {sp : Sp} (F : Fun K x qual st f fd) (Sc : FnScope N ps (defScope st)) (len : ∀ vs H Q E, sp vs H Q E → vs.length = ps.length)
    (hbody : ∀ (cdv : Value) (A : Around) (outer : List Env) (s : Shared) (H : Hp) (vs : List V) (Q : VK) (E : XK) (p : Addr × Obj), L2H.Hot1 A p → L2H.RoomH k (A.deeper (envOfC qual (defScope st) s.heap.objs.size f cdv)) → sp vs H Q E →
      ∃ t, PSs (L2H.cxH (L2.CX P w) P w K mg base N qual (defScope st) f cdv A outer s H E p) (defBody st) t ∧ t { nx := fun _ H' => Q .non H', rt := Q } (L2.start N vs) H) : L2H.FnH P w K mg base (L2.CX P w) (k + 1) f fd ps sp := by
  obtain ⟨oc, od, kV, doc, pm, an, cdv, ct, osl, rfl, lk, hcd⟩ := F.ex
  exact L2H.fn_ofH lk hcd Sc len fun A outer s H vs Q E p h1 hr hsp => hbody cdv A outer s H vs Q E p h1 hr hsp
theorem cst_hot {P : Program} {w : World} {K : PySem.W.Frag} {mg : Str → Option Value} {base : Heap} {N : List Str} {qual : Str} {sc : Scope} {f : Addr} {cdv : Value} {A : Around} {outer : List Env} {s : Shared} {H : Hp} {E : XK} {p : Addr × Obj} {NK : List (Str × Bool × Bool)} {G : List Str} {k : Nat}
    (hN : N = NK.map (·.1)) (nd : N.Nodup) (h : chk sc true NK G = true) (hr : L2H.RoomH k (A.deeper (envOfC qual sc s.heap.objs.size f cdv))) (h1 : L2H.Hot1 A p) : Cst (L2H.cxH (L2.CX P w) P w K mg base N qual sc f cdv A outer s H E p) ⟨P, w, K, mg, base, !false⟩ sc NK G k :=
  cst_own (CX' := L2.CX P w) (E := E) (cm := false) hN nd h hr (passes_of rfl) (fun _ => ⟨p, h1, List.mem_cons_self⟩) fun e => nomatch e
theorem fnD_mk {S : List D → (D → Prop) → Prop} (F : Fun M.K x x st f fd) (Sc : FnScope N ps (defScope st)) (hm : M.mg x = some (.ref f)) (b : Binds M.K fd ps []) (hN : N = NK.map (·.1)) (hc : chk (defScope st) true NK G = true) (hn : ps.length = n) (hnN : n ≤ N.length)
    (body : ∀ X, Cst X M (defScope st) NK G k → ∀ ds W, ds.length = n → S ds W → VSs X (defBody st) (ds.map Sl.dat ++ List.replicate (N.length - n) Sl.no) { nx := fun _ => W .none, rt := fun d _ => W d }) : FnD M (k + 1) x n S := by
  refine ⟨f, fd, ps, ⟨fun hM => ?_, fun hM => ?_⟩, hm, F.kp, b⟩
  · have cM : Cold M := ⟨hM⟩
    exact fnOk_mk F Sc hN hc hn hnN body
  · refine Fun.okH F Sc (fun vs H Q E h => ?_) (fun cdv A outer s H vs Q E p h1 hr h => ?_)
    · obtain ⟨B, ds, W, e, d, hl, _⟩ := h
      rw [DpAll.len d, hl, hn]
    · obtain ⟨B, ds, W, e, d, hl, hS, q⟩ := h
      have C : Cst (L2H.cxH (L2.CX M.prog M.w) M.prog M.w M.K M.mg M.base N x (defScope st) f cdv A outer s H E p) M (defScope st) NK G k := by
        have := cst_hot (P := M.prog) (w := M.w) (K := M.K) (mg := M.mg) (base := M.base) (outer := outer) (s := s) (H := H) (E := E) (qual := x) (f := f) (cdv := cdv) hN Sc.nd hc hr h1
        rw [← md_hot hM] at this
        exact this
      exact ⟨_, pss_sem, body_data (S := S) (n := n) rfl rfl hnN e d hl (body _ C ds W hl hS) q⟩
theorem fnM_mk [cM : Cold M] {S : List D → List D → (D → List D → Prop) → Prop} (F : Fun M.K x x st f fd) (Sc : FnScope N ps (defScope st)) (hm : M.mg x = some (.ref f)) (b : Binds M.K fd ps []) (hN : N = NK.map (·.1)) (hc : chk (defScope st) true NK G = true) (hn : ps.length = n + 1) (hnN : n + 1 ≤ N.length)
    (body : ∀ X, Cst X M (defScope st) NK G k → ∀ p cs ds W, ds.length = n → S cs ds W → VSs X (defBody st) (.own p cs :: (ds.map Sl.dat ++ List.replicate (N.length - (n + 1)) Sl.no)) { nx := fun ρ' => ∃ cs', ρ'[0]? = some (.own p cs') ∧ W .none cs', rt := fun d ρ' => ∃ cs', ρ'[0]? = some (.own p cs') ∧ W d cs' }) : FnM M (k + 1) x n S := by
  refine ⟨f, fd, ps, ?_, hm, F.kp, b⟩
  refine F.ok Sc (fun vs H Q E h => ?_) (fun cdv A outer s H vs Q E hr h => ?_)
  · obtain ⟨B, p, xs, cs, ws, ds, W, rfl, e, bp, hp, dx, d, hl, _⟩ := h
    rw [List.length_cons, DpAll.len d, hl, hn]
  · obtain ⟨B, p, xs, cs, ws, ds, W, rfl, e, bp, hp, dx, d, hl, hS, q⟩ := h
    have C : Cst (cxOf CX0 M.prog M.w M.K M.mg M.base N x (defScope st) f cdv A outer s H E).nox M (defScope st) NK G k := by
      rw [md_cold cM.no]
      exact cst_def hN Sc.nd hc hr
    refine ⟨_, pss_sem, ?_⟩
    have bd := body _ C p cs ds W hl hS
    have own0 : ∀ a, Own (.own p cs :: (ds.map Sl.dat ++ List.replicate (N.length - (n + 1)) Sl.no)) a → a = p := fun a ⟨i, es, hi⟩ => by
      cases i with
      | zero => cases hi; rfl
      | succ i =>
        rw [List.getElem?_cons_succ] at hi
        rcases slots_get hi with ⟨d', e1, e2⟩ | e1 <;> cases e1
    have r0 : Rel (kwM M) B H (L2.start N (.ref p :: ws)) (.own p cs :: (ds.map Sl.dat ++ List.replicate (N.length - (n + 1)) Sl.no)) := by
      refine ⟨e, ?_, fun i dd hi => ?_, fun i a es hi => ?_, fun i j a es fs hi hj => ?_⟩
      · unfold L2.start
        simp only [List.length_cons, List.length_append, List.length_map, List.length_replicate, DpAll.len d, hl]
        omega
      · cases i with
        | zero => cases hi
        | succ i =>
          rw [List.getElem?_cons_succ] at hi
          rcases slots_get hi with ⟨d', e1, e2⟩ | e1
          · cases e1
            obtain ⟨v, h1, h2⟩ := DpAll.get d e2
            exact ⟨v, start_get (by rw [List.getElem?_cons_succ]; exact h1), h2⟩
          · cases e1
      · cases i with
        | zero =>
          cases hi
          exact ⟨start_get rfl, bp, _, hp, xs, rfl, dx⟩
        | succ i =>
          rw [List.getElem?_cons_succ] at hi
          rcases slots_get hi with ⟨d', e1, e2⟩ | e1 <;> cases e1
      · cases i with
        | zero =>
          cases j with
          | zero => rfl
          | succ j =>
            rw [List.getElem?_cons_succ] at hj
            rcases slots_get hj with ⟨d', e1, e2⟩ | e1 <;> cases e1
        | succ i =>
          rw [List.getElem?_cons_succ] at hi
          rcases slots_get hi with ⟨d', e1, e2⟩ | e1 <;> cases e1
    have fin : ∀ v dd B' H' σ' ρ', (∃ cs', ρ'[0]? = some (.own p cs') ∧ W dd cs') → Dp M.K B' v dd → Go B H (.own p cs :: (ds.map Sl.dat ++ List.replicate (N.length - (n + 1)) Sl.no)) B' H' ρ' → Rel (kwM M) B' H' σ' ρ' → Q v H' := fun v dd B' H' σ' ρ' ⟨cs', h0, w⟩ dv g r => by
      obtain ⟨_, h2, _, h3, vs', rfl, h4⟩ := r.own 0 p cs' h0
      exact q v dd B' H' vs' cs' w dv g.ex r.ex h2 h3 h4 (fun a o hne h => g.keep a o h fun z => hne (own0 a z)) fun a hne h1 h2 => g.out a h1 h2 fun z => hne (own0 a z)
    refine bd.run B H _ ⟨_, fun _ _ _ _ => False, takesN⟩ r0 ⟨fun B' H' σ' ρ' p' g r => fin .non .none B' H' σ' ρ' p' .non g r, fun v dd B' H' σ' ρ' p' dv g r => fin v dd B' H' σ' ρ' p' dv g r, fun _ _ _ _ p => p.elim, fun _ _ _ _ p => p.elim, fun _ _ _ _ _ _ p => p.elim⟩
end
/-- a law: of every script of at most n numbers it says True -/
def LawS (n : Nat) : List D → (D → Prop) → Prop := fun ds W => ∃ ns : List Int, ds = [.list (ns.map PyData.int)] ∧ ns.length ≤ n ∧ W (.bool true)
theorem law_sp {K : PySem.W.Frag} {H : Hp} {a : Addr} {ns : List Int} {n : Nat} (hl : ns.length ≤ n) (h : SqL K H a (ns.map V.int)) : DS K 1 (LawS n) [.ref a] H (fun v _ => v = .bl true) fun _ _ _ => False :=
  ⟨H, [.list (ns.map PyData.int)], fun d => d = .bool true, Evl.Ex.refl H, .cons (.lst h (dp_ints ns)) .nil, rfl, ⟨ns, rfl, hl, rfl⟩, fun v d B' H' w dv _ _ _ _ => by
    subst w
    exact dp_bool dv⟩

open PySem PySem.Calls PySem.W
theorem args_gcd3 (a b c : Value) : argsOk "math.gcd" ⟨[a, b, c], []⟩ := by unfold argsOk; kernel_rfl
theorem args_lcm3 (a b c : Value) : argsOk "math.lcm" ⟨[a, b, c], []⟩ := by unfold argsOk; kernel_rfl
theorem run_gcd3 (a : Int) (t : Tok) (b : Int) (u : Tok) (c : Int) (v : Tok) :
    Gives (Builtin.«math.gcd» ⟨[.int a t, .int b u, .int c v], []⟩) (.int (((((Nat.gcd 0 a.natAbs).gcd b.natAbs).gcd c.natAbs : Nat) : Int))) :=
  .of_wp fun M A E s Q h => by obtain ⟨hp, g, d, tk, os⟩ := s; wp_walk; exact ⟨_, rfl, h⟩
theorem run_lcm3 (a : Int) (t : Tok) (b : Int) (u : Tok) (c : Int) (v : Tok) (hc0 : ¬(max 1 a.natAbs).log2 / 30 + 1 > 450) (hc1 : ¬(max (Nat.lcm 1 a.natAbs) b.natAbs).log2 / 30 + 1 > 450) (hc2 : ¬(max ((Nat.lcm 1 a.natAbs).lcm b.natAbs) c.natAbs).log2 / 30 + 1 > 450) (hsz : (((((Nat.lcm 1 a.natAbs).lcm b.natAbs).lcm c.natAbs : Nat) : Int)).natAbs.log2 < bitsLine) :
    Gives (Builtin.«math.lcm» ⟨[.int a t, .int b u, .int c v], []⟩) (.int (((((Nat.lcm 1 a.natAbs).lcm b.natAbs).lcm c.natAbs : Nat) : Int))) :=
  .of_wp fun M A E s Q h => by obtain ⟨hp, g, d, tk, os⟩ := s; wp_walk; rw [if_neg hc1]; wp_walk; (try rw [if_neg hc2]); (try wp_walk); (try (refine wpAny_ite_false (decide_eq_false (Nat.not_le.mpr hsz)) ?_; wp_walk)); exact ⟨_, rfl, h⟩
theorem lcm_le (m n : Nat) : m.lcm n ≤ m * n := mc_lcm_le m n
open L2 PyProof.Rows Evl
section
variable {X : Cx}
theorem does_gcd3 : Does X (.builtin "math.gcd") (fun ds W => ∃ a b c : Int, ds = [.int a, .int b, .int c] ∧ W (.int ((Nat.gcd (Nat.gcd a.natAbs b.natAbs) c.natAbs : Nat) : Int))) := fun B H vs ds W Q e h s q => by
  obtain ⟨a, b, c, rfl, w⟩ := s
  cases h with
  | cons h1 h2 =>
    cases h2 with
    | cons h2 h3 =>
      cases h3 with
      | cons h3 h4 =>
        cases h4
        rw [dp_int h1, dp_int h2, dp_int h3]
        intro pins s σ us I rv
        cases rv with
        | cons r1 rv =>
          cases rv with
          | cons r2 rv =>
            cases rv with
            | cons r3 rv =>
              cases rv
              obtain ⟨t, rfl⟩ := r1
              obtain ⟨u, rfl⟩ := r2
              obtain ⟨v, rfl⟩ := r3
              have g := run_gcd3 a t b u c v
              rw [Nat.gcd_zero_left] at g
              exact call_function_meets MGF.kind_gcd MGF.plain_gcd MGF.entry_gcd (args_gcd3 _ _ _) g.meets ⟨.int _, H, I.tok _, ⟨_, rfl⟩, q _ _ B H w (.int _) (Ex.refl B) e (Ex.refl H) fun _ _ b => b⟩
theorem does_lcm3 : Does X (.builtin "math.lcm") (fun ds W => ∃ a b c : Int, ds = [.int a, .int b, .int c] ∧ a.natAbs < 2 ^ 64 ∧ b.natAbs < 2 ^ 64 ∧ c.natAbs < 2 ^ 64 ∧ W (.int ((Nat.lcm (Nat.lcm a.natAbs b.natAbs) c.natAbs : Nat) : Int))) := fun B H vs ds W Q e h s q => by
  obtain ⟨a, b, c, rfl, ha, hb, hc, w⟩ := s
  cases h with
  | cons h1 h2 =>
    cases h2 with
    | cons h2 h3 =>
      cases h3 with
      | cons h3 h4 =>
        cases h4
        rw [dp_int h1, dp_int h2, dp_int h3]
        intro pins s σ us I rv
        cases rv with
        | cons r1 rv =>
          cases rv with
          | cons r2 rv =>
            cases rv with
            | cons r3 rv =>
              cases rv
              obtain ⟨t, rfl⟩ := r1
              obtain ⟨u, rfl⟩ := r2
              obtain ⟨v, rfl⟩ := r3
              have l1 : Nat.lcm 1 a.natAbs = a.natAbs := mc_lcm_one _
              have l2 : Nat.lcm a.natAbs b.natAbs < 2 ^ 128 := Nat.lt_of_le_of_lt (lcm_le _ _) (by
                have := Nat.mul_le_mul (Nat.le_of_lt ha) (Nat.le_of_lt hb)
                rcases Nat.lt_or_ge (a.natAbs * b.natAbs) (2 ^ 128) with z | z
                · exact z
                · have h3 : a.natAbs * b.natAbs ≤ (2 ^ 64 - 1) * (2 ^ 64 - 1) := Nat.mul_le_mul (by omega) (by omega)
                  exact Nat.lt_of_le_of_lt h3 (by decide))
              have l3 : Nat.lcm (Nat.lcm a.natAbs b.natAbs) c.natAbs < 2 ^ 192 := Nat.lt_of_le_of_lt (lcm_le _ _) (by
                have h3 : Nat.lcm a.natAbs b.natAbs * c.natAbs ≤ (2 ^ 128 - 1) * (2 ^ 64 - 1) := Nat.mul_le_mul (by omega) (by omega)
                exact Nat.lt_of_le_of_lt h3 (by decide))
              have g := run_lcm3 a t b u c v (by have := mg_log (n := max 1 a.natAbs) (k := 200) (by omega); omega) (by rw [l1]; have := mg_log (n := max a.natAbs b.natAbs) (k := 200) (by omega); omega)
                (by rw [l1]; have := mg_log (n := max (Nat.lcm a.natAbs b.natAbs) c.natAbs) (k := 200) (by omega); omega)
                (by rw [l1, Int.natAbs_natCast]; have := mg_log (n := Nat.lcm (Nat.lcm a.natAbs b.natAbs) c.natAbs) (k := 200) (by omega); rw [bitsLine_eq]; omega)
              rw [l1] at g
              exact call_function_meets MGF.kind_lcm MGF.plain_lcm MGF.entry_lcm (args_lcm3 _ _ _) g.meets ⟨.int _, H, I.tok _, ⟨_, rfl⟩, q _ _ B H w (.int _) (Ex.refl B) e (Ex.refl H) fun _ _ b => b⟩
end

open PySem
/-! ### the integer square root -/
def IsRoot (n r : Nat) : Prop := r * r ≤ n ∧ n < (r + 1) * (r + 1)
theorem below8 {n : Nat} (h : n < 8) : IsRoot n (Float64.rootBelow8 n) := by
  have : n = 0 ∨ n = 1 ∨ n = 2 ∨ n = 3 ∨ n = 4 ∨ n = 5 ∨ n = 6 ∨ n = 7 := by omega
  rcases this with h | h | h | h | h | h | h | h <;> (subst h; exact ⟨by decide, by decide⟩)
theorem newton {n r P m : Nat} (hP : 2 ≤ P) (h1 : P * P * m ≤ n) (h2 : n < P * P * (m + 1)) (h3 : P * P * (P * P) ≤ 2 * n) (hr : IsRoot m r) (h8 : 8 ≤ n) :
    IsRoot n (if ((r + 1) * P + n / ((r + 1) * P)) / 2 * (((r + 1) * P + n / ((r + 1) * P)) / 2) > n then ((r + 1) * P + n / ((r + 1) * P)) / 2 - 1 else ((r + 1) * P + n / ((r + 1) * P)) / 2) := by
  obtain ⟨r1, r2⟩ := hr
  have hx0 : 0 < (r + 1) * P := Nat.mul_pos (by omega) (by omega)
  -- x x > n
  have hxx : n < ((r + 1) * P) * ((r + 1) * P) := by
    have e : P * P * (m + 1) ≤ P * P * ((r + 1) * (r + 1)) := Nat.mul_le_mul_left _ r2
    have e2 : P * P * ((r + 1) * (r + 1)) = ((r + 1) * P) * ((r + 1) * P) := by grind
    omega
  have hrp : (r * P) * (r * P) ≤ n := by
    have e : P * P * (r * r) ≤ P * P * m := Nat.mul_le_mul_left _ r1
    have e2 : P * P * (r * r) = (r * P) * (r * P) := by grind
    omega
  have hxr : (r + 1) * P = r * P + P := by grind
  generalize hx : (r + 1) * P = x at *
  have q1 : x * (n / x) ≤ n := Nat.mul_div_le n x
  have q2 : n < x * (n / x + 1) := Nat.lt_mul_div_succ n hx0
  generalize n / x = q at *
  have hqx : q < x := by
    rcases Nat.lt_or_ge q x with z | z
    · exact z
    · have := Nat.mul_le_mul_left x z
      omega
  generalize hy : (x + q) / 2 = y at *
  have y1 : 2 * y ≤ x + q := by omega
  have y2 : x + q ≤ 2 * y + 1 := by omega
  have hA : n < (y + 1) * (y + 1) := by
    have e1 : (x + q + 1) * (x + q + 1) ≤ (2 * y + 2) * (2 * y + 2) := Nat.mul_le_mul (by omega) (by omega)
    have e2 : (2 * y + 2) * (2 * y + 2) = 4 * ((y + 1) * (y + 1)) := by grind
    have e3 : 4 * (x * (q + 1)) ≤ (x + q + 1) * (x + q + 1) := by
      obtain ⟨t, rfl⟩ : ∃ t, x = q + 1 + t := ⟨x - (q + 1), by omega⟩
      have : (q + 1 + t + q + 1) * (q + 1 + t + q + 1) = 4 * ((q + 1 + t) * (q + 1)) + t * t := by grind
      omega
    omega
  have hB : n < y * y → (y - 1) * (y - 1) ≤ n := by
    intro hyn
    rcases Nat.lt_or_ge n ((y - 1) * (y - 1)) with z | z
    · exfalso
      have hy1 : 1 ≤ y := by
        rcases Nat.eq_zero_or_pos y with w | w
        · rw [w] at hyn; omega
        · exact w
      obtain ⟨u, rfl⟩ : ∃ u, y = u + 1 := ⟨y - 1, by omega⟩
      have z : n < u * u := z
      have hux : u < x := by omega
      obtain ⟨v, hv⟩ : ∃ v, x = u + v := ⟨x - u, by omega⟩
      have hur : r * P < u := by
        rcases Nat.lt_or_ge (r * P) u with w | w
        · exact w
        · have := Nat.mul_le_mul w w
          omega
      have hvP : v + 1 ≤ P := by omega
      -- v v > 2 x
      have e1 : x * (2 * u + 2) ≤ x * x + n := by
        have : x * (2 * u + 2) ≤ x * (x + q) := Nat.mul_le_mul_left _ (by omega)
        have e : x * (x + q) = x * x + x * q := Nat.mul_add _ _ _
        omega
      have e2 : 2 * x < v * v := by
        subst hv
        have : (u + v) * (u + v) + u * u = (u + v) * (2 * u) + v * v := by grind
        have e3 : (u + v) * (2 * u + 2) = (u + v) * (2 * u) + 2 * (u + v) := by grind
        omega
      have e4 : v * v ≤ P * P := Nat.mul_le_mul (by omega) (by omega)
      -- 2 (r + 1) < P
      have e5 : 2 * (r + 1) < P := by
        rcases Nat.lt_or_ge (2 * (r + 1)) P with w | w
        · exact w
        · have : P * P ≤ 2 * (r + 1) * P := Nat.mul_le_mul_right _ w
          have e : 2 * (r + 1) * P = 2 * ((r + 1) * P) := Nat.mul_assoc _ _ _
          omega
      have e6 : (2 * (r + 1)) * (2 * (r + 1)) ≤ P * P := Nat.mul_le_mul (by omega) (by omega)
      have e7 : P * P * ((2 * (r + 1)) * (2 * (r + 1))) ≤ P * P * (P * P) := Nat.mul_le_mul_left _ e6
      have e8 : P * P * ((2 * (r + 1)) * (2 * (r + 1))) = 4 * (((r + 1) * P) * ((r + 1) * P)) := by grind
      rw [hx] at e8
      omega
    · exact z
  by_cases h : y * y > n
  · rw [if_pos h]
    refine ⟨hB h, ?_⟩
    have hy1 : 1 ≤ y := by
      rcases Nat.eq_zero_or_pos y with w | w
      · rw [w] at h; omega
      · exact w
    rw [Nat.sub_add_cancel hy1]
    exact h
  · rw [if_neg h]
    exact ⟨by omega, hA⟩
theorem byHalves : ∀ (lv n : Nat), n.log2 ≤ lv → IsRoot n (Float64.rootByHalves lv n)
  | 0, n, h => by
    refine below8 ?_
    by_cases z : n = 0
    · omega
    · have := (Nat.log2_lt (k := 1) z).mp (by omega)
      omega
  | lv + 1, n, h => by
    unfold Float64.rootByHalves
    by_cases h8 : n < 8
    · rw [if_pos h8]
      exact below8 h8
    · rw [if_neg h8]
      have hn : n ≠ 0 := by omega
      have hL : 3 ≤ n.log2 := by
        rcases Nat.lt_or_ge n.log2 3 with z | z
        · have := (Nat.log2_lt (k := 3) hn).mp z
          omega
        · exact z
      have hk : 1 ≤ (n.log2 + 1) / 4 := by omega
      generalize hkk : (n.log2 + 1) / 4 = k at *
      have h4k : 4 * k ≤ n.log2 + 1 := by omega
      have e4 : (4 : Nat) ^ k = 2 ^ k * 2 ^ k := by
        rw [show (4 : Nat) = 2 * 2 from rfl, Nat.mul_pow]
      have hP : 2 ≤ 2 ^ k := by
        have := Nat.pow_le_pow_right (n := 2) (by decide) hk
        omega
      have hpp : 2 ^ k * 2 ^ k * (2 ^ k * 2 ^ k) ≤ 2 * n := by
        have e1 : (2 : Nat) ^ (4 * k) ≤ 2 ^ (n.log2 + 1) := Nat.pow_le_pow_right (by decide) h4k
        have e2 : (2 : Nat) ^ (4 * k) = 2 ^ k * 2 ^ k * (2 ^ k * 2 ^ k) := by
          rw [show 4 * k = (k + k) + (k + k) by omega, Nat.pow_add, Nat.pow_add]
        have e3 : (2 : Nat) ^ (n.log2 + 1) = 2 ^ n.log2 * 2 := Nat.pow_succ ..
        have e5 := Nat.log2_self_le hn
        omega
      have hpos : 0 < 2 ^ k * 2 ^ k := Nat.mul_pos (by omega) (by omega)
      have m1 : 2 ^ k * 2 ^ k * (n / 4 ^ k) ≤ n := by
        rw [e4]
        exact Nat.mul_div_le _ _
      have m2 : n < 2 ^ k * 2 ^ k * (n / 4 ^ k + 1) := by
        rw [e4]
        exact Nat.lt_mul_div_succ _ hpos
      have hlog : (n / 4 ^ k).log2 ≤ lv := by
        by_cases z : n / 4 ^ k = 0
        · rw [z]
          exact Nat.zero_le _
        · have hb : n < 2 ^ (lv + 2) := (Nat.log2_lt hn).mp (by omega)
          have hq : 4 * (n / 4 ^ k) ≤ n := by
            have : 4 * (n / 4 ^ k) ≤ 2 ^ k * 2 ^ k * (n / 4 ^ k) := Nat.mul_le_mul_right _ (by
              have := Nat.mul_le_mul hP hP
              omega)
            omega
          have hc : n / 4 ^ k < 2 ^ (lv + 1) := by
            have e : (2 : Nat) ^ (lv + 2) = 2 ^ (lv + 1) * 2 := Nat.pow_succ ..
            omega
          have := (Nat.log2_lt z).mpr hc
          omega
      exact newton hP m1 m2 hpp (byHalves lv _ hlog) (by omega)
theorem isqrt_root (n : Nat) : IsRoot n (Float64.isqrt n) := byHalves _ n (Nat.le_refl _)
theorem IsRoot.uniq {n a b : Nat} (h1 : IsRoot n a) (h2 : IsRoot n b) : a = b := by
  rcases Nat.lt_trichotomy a b with z | z | z
  · have := Nat.mul_le_mul (show a + 1 ≤ b from z) (show a + 1 ≤ b from z)
    have := h1.2
    have := h2.1
    omega
  · exact z
  · have := Nat.mul_le_mul (show b + 1 ≤ a from z) (show b + 1 ≤ a from z)
    have := h2.2
    have := h1.1
    omega

open PySem PySem.Spec PyProof.Rows L2
open Evl (Ex)

section
variable {X : Cx} {M : Md} {sc : Scope} {NK : List (Str × Bool × Bool)} {G : List Str} {k : Nat} {ρ : En} {P : D → En → Prop} {PL : List D → En → Prop} {pos : Pos} {a b c e : Expr} {es rest : List Expr} {x : Str}

/-- a // b, b of either sign -/
theorem vd_fdivN (h : VD X a ρ fun x ρ1 => VD X b ρ1 fun y ρ2 => ∃ i j, x = .int i ∧ y = .int j ∧ CDivN i j ∧ P (.int (i.fdiv j)) ρ2) : VD X (.BinOp a .FloorDiv b pos) ρ P := VD.mk fun B H σ Q r q => by
  refine PE.sem (pe_op or_sem pe_sem pe_sem) ?_
  refine h.run B H σ _ r fun vx x B1 H1 ρ1 p1 dx g1 r1 => ?_
  refine p1.run B1 H1 σ _ r1 fun vy y B2 H2 ρ2 p2 dy g2 r2 => ?_
  obtain ⟨i, j, rfl, rfl, hc, pp⟩ := p2
  rw [dp_int dx, dp_int dy]
  exact OpR.sem op_fdivN ⟨_, _, rfl, rfl, hc, q _ _ B2 H2 ρ2 pp (.int _) (g1.trans g2) r2⟩
/-- x or y, x a number -/
theorem vd_orI (h : VD X a ρ fun d ρ1 => ∃ i, d = .int i ∧ (i ≠ 0 → P (.int i) ρ1) ∧ (i = 0 → VD X (.BoolOp .Or (b :: rest) pos) ρ1 P)) : VD X (.BoolOp .Or (a :: b :: rest) pos) ρ P := VD.mk fun B H σ Q r q => by
  refine PE.sem (pe_orT pe_sem pe_sem) ?_
  refine h.run B H σ _ r fun v d B1 H1 ρ1 p dx g1 r1 => ?_
  obtain ⟨i, rfl, p1, p2⟩ := p
  rw [dp_int dx]
  refine ⟨i != 0, rfl, ?_⟩
  by_cases z : i = 0
  · subst z
    exact (p2 rfl).run B1 H1 σ Q r1 fun v d B2 H2 ρ2 p2 dd g2 r2 => q v d B2 H2 ρ2 p2 dd (g1.trans g2) r2
  · have e : (i != 0) = true := bne_iff_ne.mpr z
    rw [e, if_pos rfl]
    exact q _ _ B1 H1 ρ1 (p1 z) (.int i) g1 r1
theorem does_gcd2 : Does X (.builtin "math.gcd") (fun ds W => ∃ a b : Int, ds = [.int a, .int b] ∧ W (.int ((Nat.gcd a.natAbs b.natAbs : Nat) : Int))) := fun B H vs ds W Q e h s q => by
  obtain ⟨a, b, rfl, w⟩ := s
  cases h with
  | cons h1 h2 =>
    cases h2 with
    | cons h2 h3 =>
      cases h3
      rw [dp_int h1, dp_int h2]
      exact CallR.sem cr_gcd ⟨a, b, rfl, q _ _ B H w (.int _) (Ex.refl B) e (Ex.refl H) fun _ _ b => b⟩
theorem does_isqrt : Does X (.builtin "math.isqrt") (fun ds W => ∃ a : Int, ds = [.int a] ∧ 0 ≤ a ∧ a.natAbs < 2 ^ 9000 ∧ ∀ r : Nat, IsRoot a.natAbs r → W (.int (r : Int))) := fun B H vs ds W Q e h s q => by
  obtain ⟨a, rfl, h0, ha, w⟩ := s
  cases h with
  | cons h1 h2 =>
    cases h2
    rw [dp_int h1]
    intro pins s σ us I rv
    cases rv with
    | cons r1 rv =>
      cases rv
      obtain ⟨t, rfl⟩ := r1
      have et : a.toNat = a.natAbs := by omega
      have hl : a.toNat.log2 ≤ 9000 := PySem.W.mg_log (by
        rw [et, Nat.pow_succ]
        omega)
      exact call_function_meets PySem.W.MGF.kind_isqrt PySem.W.MGF.plain_isqrt PySem.W.MGF.entry_isqrt (PySem.W.MGF.args_isqrt _) (PySem.W.mg_run_isqrt a t (by omega) (by omega) (by omega)).meets
        ⟨.int _, H, I.tok _, ⟨_, rfl⟩, q _ _ B H (w _ (by rw [et]; exact isqrt_root _)) (.int _) (Ex.refl B) e (Ex.refl H) fun _ _ b => b⟩
theorem dps_ints {K : PySem.W.Frag} {B : Hp} : ∀ {ns : List Int} {xs : List V}, DpAll K B xs (ns.map PyData.int) → xs = ns.map V.int
  | [], _, .nil => rfl
  | n :: ns, _, .cons h hs => by
    rw [dp_int h, dps_ints hs]
    rfl
theorem does_max [Cold M] (C : Cst X M sc NK G k) : Does X (.builtin "max") (fun ds W => ∃ ns : List Int, ds = [.list (ns.map PyData.int)] ∧ 0 < ns.length ∧ ∀ m, m ∈ ns → (∀ y, y ∈ ns → y ≤ m) → W (.int m)) := fun B H vs ds W Q e h s q => by
  obtain ⟨ns, rfl, hl, w⟩ := s
  cases h with
  | cons h1 h2 =>
    cases h2
    obtain ⟨t, xs, rfl, hT, hx⟩ := dp_lst h1
    have ex := dps_ints hx
    subst ex
    exact CallR.sem (cr_max C.calm) ⟨t, ns, rfl, ex_l e hT, hl, fun m m1 m2 => q _ _ B H (w m m1 m2) (.int _) (Ex.refl B) e (Ex.refl H) fun _ _ b => b⟩
theorem does_sumT [Cold M] (C : Cst X M sc NK G k) : Does X (.builtin "sum") (fun ds W => ∃ ns : List Int, ds = [.tuple (ns.map PyData.int)] ∧ W (.int ns.sum)) := fun B H vs ds W Q e h s q => by
  obtain ⟨ns, rfl, w⟩ := s
  cases h with
  | cons h1 h2 =>
    cases h2
    obtain ⟨t, xs, rfl, hT, hx⟩ := dp_tup h1
    have ex := dps_ints hx
    subst ex
    intro pins s σ us I rv
    obtain ⟨its, r, pl, hz⟩ := I.tuple (ex_t e hT)
    rw [Vals.ref1 rv]
    have hi := r.ints
    obtain ⟨ys, hy⟩ := hi.allInts.items
    have hn : numsOf its.toArray.toList = ns := by
      rw [show its.toArray.toList = its from rfl, hi.numsOf]
    have pl' : s.heap.IsTuple t its.toArray := pl
    rw [hy] at pl' hn
    rw [nums_intItems] at hn
    refine PySem.W.ktm_sumG (I.ok.hd C.calm) pl' fun h' tk t' hk => ?_
    rw [PySem.preSum_eq, List.take_of_length_le (by simp), hn]
    exact ⟨.int _, H, I.kept hk, ⟨_, rfl⟩, q _ _ B H w (.int _) (Ex.refl B) e (Ex.refl H) fun _ _ b => b⟩

/-! ### xs + ys -/
theorem meets_cat (l : Addr) (xs : Array Value) (n : Nat) (t : Array (Option Value)) (b : Addr) (ys : Array Value) (m : Nat) (u : Array (Option Value)) (hz : xs.size + ys.size ≤ sizeLine) :
    Meets (Builtin.«list.__add__» ⟨[.ref l, .ref b], []⟩) (fun _ R s => s.heap.get? l = some ⟨.type "list", none, .seq xs n, t⟩ ∧ s.heap.get? b = some ⟨.type "list", none, .seq ys m, u⟩ ∧
      R (.ok (.ret (Value.ref s.heap.objs.size))) { s with heap := s.heap.push { cls := Value.type "list", data := Data.seq (xs ++ ys) }, toks := s.toks }) :=
  .of_wp fun prog w A R s h => by
    obtain ⟨hp, g, d, tk, os⟩ := s
    obtain ⟨h1, h2, h⟩ := h
    have f1 := PySem.AutoSeq1.idx_int
    have f2 := PySem.AutoSeq1.sub_tuple_tuple
    have f3 := PySem.AutoSeq1.sub_list_list
    have f4 := PySem.AutoSeq1.sub_tuple_list
    have f5 := PySem.AutoSeq1.sub_list_tuple
    wp_walk using PySem.AutoSeq1.wpAny_loadPart' h1, PySem.AutoSeq1.wpAny_loadPart' h2
    exact ⟨_, rfl, h⟩
def rCatS (K : PySem.W.Frag) : R2 := fun x y H Q => ∃ l b xs ys, x = V.ref l ∧ y = V.ref b ∧ SqL K H l xs ∧ SqL K H b ys ∧ xs.length + ys.length ≤ sizeLine ∧ ∀ p, H p = none → Q (.ref p) (upd H p (.lst (xs ++ ys)))
theorem op_catS : OpR X (binaryOp .Add) (rCatS X.K) := by
  intro pins s σ H x y v u Q I rx ry h
  obtain ⟨l, b, xs, ys, rfl, rfl, h1, h2, hz, q⟩ := h
  cases rx
  cases ry
  obtain ⟨its, r, ⟨⟨c1, d1, q1, s1⟩, n, e1, e2, e3, e4⟩, z1⟩ := I.list h1
  obtain ⟨jts, r', ⟨⟨c2, d2, q2, s2⟩, m, g1, g2, g3, g4⟩, z2⟩ := I.list h2
  simp only at e2 e3 e4 g2 g3 g4
  subst e2 e3 e4 g2 g3 g4
  have l1 := r.length
  have l2 := r'.length
  refine concat_meets ⟨_, e1, rfl⟩ ⟨_, g1, rfl⟩ noFill_list_add seq_list_add F.slot_list_add F.entry_list_add (F.args_list_add_2 _ _) (meets_cat l its.toArray n s1 b jts.toArray m s2 (by rw [List.size_toArray, List.size_toArray]; omega)) ⟨e1, g1, ?_⟩
  have ea : its.toArray ++ jts.toArray = (its ++ jts).toArray := by simp
  rw [ea]
  exact ⟨.ref _, _, I.lnew (t' := s.toks) (r.append r') (by rw [List.length_append]; omega), rfl, q _ I.fresh⟩
theorem vn_cat (h : VD X a ρ fun x ρ1 => VD X b ρ1 fun y ρ2 => ∃ xs ys, x = .list xs ∧ y = .list ys ∧ xs.length + ys.length ≤ 100000 ∧ PL (xs ++ ys) ρ2) : VN X (.BinOp a .Add b pos) ρ PL := VN.mk fun B H σ Q r q => by
  refine PE.sem (pe_op or_sem pe_sem pe_sem) ?_
  refine h.run B H σ _ r fun vx x B1 H1 ρ1 p1 dx g1 r1 => ?_
  refine p1.run B1 H1 σ _ r1 fun vy y B2 H2 ρ2 p2 dy g2 r2 => ?_
  obtain ⟨xs, ys, rfl, rfl, hz, pp⟩ := p2
  obtain ⟨l1, us, rfl, hT, hu⟩ := dp_lst dx
  obtain ⟨l2, ws, rfl, hT2, hw⟩ := dp_lst dy
  refine OpR.sem op_catS ⟨l1, l2, us, ws, rfl, rfl, ex_l (g2.ex.trans r2.ex) hT, ex_l r2.ex hT2, ?_, fun z hz2 => ?_⟩
  · rw [DpAll.len hu, DpAll.len hw]
    exact Nat.le_trans hz (by decide)
  · obtain ⟨r3, g3, bp⟩ := new_one (o := .lst (us ++ ws)) r2 hz2
    refine q z _ _ _ _ ρ2 pp (g1.dom z (g2.dom z hz2)) upd_same bp (fun w => ?_) (DpAll.app (DpAll.mono g2.ex hu) hw) ((g1.trans g2).trans g3) r3
    obtain ⟨i, fs, hf⟩ := w
    obtain ⟨_, _, vs, h5, _⟩ := r2.own i z fs hf
    rw [hz2] at h5
    cases h5

/-- a, b, c = e1, e2, e3 -/
theorem vs_par3 [Cold M] (C : Cst X M sc NK G k) {F : Fin} {i j l : Nat} {v1 v2 v3 : Bool} {y z : Str} {px py pz pt : Pos} {kt k2 pt2} (hi : At NK i (x, v1, true)) (hj : At NK j (y, v2, true)) (hl : At NK l (z, v3, true)) (hij : i ≠ j) (hil : i ≠ l) (hjl : j ≠ l)
    (h : VD X a ρ fun d ρ1 => VD X b ρ1 fun d2 ρ2 => VD X c ρ2 fun d3 ρ3 => F.nx (((ρ3.set i (.dat d)).set j (.dat d2)).set l (.dat d3)))
    (hw : ∀ env : Env, env.scope = sc → swappedStores [.Tuple [.Name x px, .Name y py, .Name z pz] kt pt] (.Tuple [a, b, c] k2 pt2) env = pure (some [x, y, z])) (hx : sc.names.lookup x = some .local := by decide +kernel) (hy : sc.names.lookup y = some .local := by decide +kernel) (hz : sc.names.lookup z = some .local := by decide +kernel)
    (hs : swapsWithSole [.Tuple [.Name x px, .Name y py, .Name z pz] kt pt] (.Tuple [a, b, c] k2 pt2) pos.line X.env = pure false := by rfl)
    (he : starEach [a, b, c] X.env = (false, eval a X.env) :: starEach [b, c] X.env := by rfl) (he2 : starEach [b, c] X.env = (false, eval b X.env) :: starEach [c] X.env := by rfl) (he3 : starEach [c] X.env = (false, eval c X.env) :: starEach [] X.env := by rfl) :
    VS X (.Assign [.Tuple [.Name x px, .Name y py, .Name z pz] kt pt] (.Tuple [a, b, c] k2 pt2) pos) ρ F := VS.mk fun B H σ Z r f => by
  refine PS.sem (ps_par3 C.calm C.nd (C.ix hi) (C.ix hj) (C.ix hl) hij hil hjl (by rw [C.s]; exact hx) (by rw [C.s]; exact hy) (by rw [C.s]; exact hz) (pa_cons pe_sem (pa_cons pe_sem (pa_cons pe_sem pa_nil he3) he2) he) (hw _ C.s) hs) ?_
  refine h.run B H σ _ r fun vv d B1 H1 ρ1 p1 dv g1 r1 => ?_
  refine p1.run B1 H1 σ _ r1 fun ww d2 B2 H2 ρ2 p2 dw g2 r2 => ?_
  refine p2.run B2 H2 σ _ r2 fun uu d3 B3 H3 ρ3 p3 du g3 r3 => ⟨vv, ww, uu, rfl, ?_⟩
  exact f.nx B3 H3 _ _ p3 (((((g1.trans g2).trans g3).trans go_set).trans go_set).trans go_set) (rel_set (rel_set (rel_set r3 (Dp.mono g3.ex (Dp.mono g2.ex dv))) (Dp.mono g3.ex dw)) du)

/-! ### lists of one's own -/
/-- name = [elt for y in iter], on one line, the name's own list -/
theorem vs_ownLc [Cold M] (C : Cst X M sc NK G k) {F : Fin} {scope : Scope} {i m : Nat} {x y : Str} {px py spos : Pos} {elt iter : Expr} {v v2 : Bool} (NK' : List (Str × Bool × Bool)) (G' : List Str) (hx : At NK m (x, v2, true)) (hy : At NK' i (y, v, true)) (hm : m < ρ.length)
    (h : VI X (.Name y py) iter ρ fun ds ρ1 => ds.length ≤ 100000 ∧ ∃ W : Nat → List D → En → Prop, W 0 [] ρ1 ∧
      (∀ (j : Nat) d acc ρ', ds[j]? = some d → W j acc ρ' → ∀ X', Cst X' M (relS scope sc) NK' G' k → VD X' elt (ρ'.set i (.dat d)) fun u ρ4 => W (j + 1) (acc ++ [u]) (ρ4.set i .no)) ∧
      ∀ acc ρ', W ds.length acc ρ' → ∀ z, F.nx (ρ'.set m (.own z acc)))
    (hk : sc.kind = .function := by rfl) (hxl : sc.names.lookup x = some .local := by decide +kernel) (hpl : (px.line == pos.line) = true := by rfl) (hpa : (scope.names.any fun (n, k) => n == x && (k == .local || k == .cell)) = false := by decide +kernel)
    (ok : blkC (NK.map (·.1)) sc scope [(y, i)] = true := by decide +kernel) (hN : NK'.map (·.1) = NK.map (·.1) := by rfl) (hc : chk (relS scope sc) false NK' G' = true := by decide +kernel)
    (hs : ∀ x, foldedSetIterable iter X.env x = pure x := by intro _; rfl) : VS X (.Assign [.Name x px] (.ListComp elt [⟨.Name y py, iter, [], 0⟩] scope pos) spos) ρ F := VS.mk fun B H σ Z r f => by
  have ok' : BlkOk X.N X.env.scope scope [(y, i)] := by
    rw [C.n, C.s]
    exact blkOk_by ok
  have cb : ∀ (s : Shared) (H : Hp) (Ca : Addr) (cl : List (Str × Addr)) (fp : List Addr), Cst (X.blk s H scope (compEnvC scope cl Ca X.env) fp) M (relS scope sc) NK' G' k := fun s H Ca cl fp => cst_blk C C.calm hN hc
  refine PS.sem (ps_setLc (g := gName i) (tt := tYes) (i := m) C.calm C.nd (C.ix hx) (by rw [C.s]; exact hxl) (sw_true (by rw [C.s]; exact hk) (by rw [C.s]; exact hxl) hpl hpa) (pi_sem C.calm) ok' (fun s H Ca cl fp => pg_name (cb s H Ca cl fp).nd ((cb s H Ca cl fp).ix hy) ((cb s H Ca cl fp).lo hy) ((cb s H Ca cl fp).fn hy)) (fun _ _ _ _ _ => pts_nil) pe_uSem hs) ?_
  refine lc_read (Cb := fun X' => Cst X' M (relS scope sc) NK' G' k) (PL := fun acc ρ' => ∀ z, F.nx (ρ'.set m (.own z acc))) r cb h fun z vs ds B1 H1 ρ1 p hz h1 bz no dvs g1 r1 => ?_
  have hl : m < ρ1.length := by rw [r1.len, ← r.len]; exact hm
  obtain ⟨g2, r2⟩ := own_new (i := m) hl hz h1 bz no dvs g1 r1
  exact f.nx _ H1 _ _ (p z) g2 r2
end

open PySem PySem.Spec PyProof.Rows L2
open Evl (Ex)
section
variable {X : Cx} {sts : List Stmt} {ρ : En} {F : Fin}
/-- from here on a slot's own list is told as data -/
theorem vss_frz {i : Nat} {p : Addr} {ds : List D} (ho : ρ[i]? = some (.own p ds)) (h : VSs X sts (ρ.set i (.dat (.list ds))) F) : VSs X sts ρ F := VSs.mk fun B H σ Z r f => by
  obtain ⟨h1, h2, _, h3, vs, rfl, h4⟩ := r.own i p ds ho
  have hlt := (List.getElem?_eq_some_iff.mp ho).1
  have eB : Ex B (upd B p (.lst vs)) := Evl.Ex.new h2
  have at_ : ∀ (j : Nat) s, (ρ.set i (.dat (.list ds)))[j]? = some s → (j = i ∧ s = .dat (.list ds)) ∨ (j ≠ i ∧ ρ[j]? = some s) := fun j s hj => by
    by_cases w : i = j
    · subst w
      rw [List.getElem?_set_self hlt] at hj
      exact .inl ⟨rfl, (Option.some.inj hj).symm⟩
    · rw [List.getElem?_set_ne w] at hj
      exact .inr ⟨fun z => w z.symm, hj⟩
  have ne : ∀ (j : Nat) a es, j ≠ i → ρ[j]? = some (.own a es) → a ≠ p := fun j a es w hj e => by
    subst e
    exact w (r.dis j i a es ds hj ho)
  have r2 : Rel (kwOf X) (upd B p (.lst vs)) H σ (ρ.set i (.dat (.list ds))) := by
    refine ⟨fun a u ha => ?_, by rw [List.length_set]; exact r.len, fun j d hj => ?_, fun j a es hj => ?_, fun j j' a es fs hj hj' => ?_⟩
    · by_cases w : a = p
      · rw [w, upd_same] at ha
        rw [w, h3]
        exact ha
      · rw [upd_ne w] at ha
        exact r.ex a u ha
    · rcases at_ j _ hj with ⟨rfl, e⟩ | ⟨_, hj⟩
      · cases e
        exact ⟨_, h1, .lst (.inl (.inl upd_same)) (DpAll.mono eB h4)⟩
      · obtain ⟨v, q1, q2⟩ := r.dat j d hj
        exact ⟨v, q1, Dp.mono eB q2⟩
    · rcases at_ j _ hj with ⟨_, e⟩ | ⟨w, hj⟩
      · cases e
      · obtain ⟨q1, q2, ws, q3, q4⟩ := r.own j a es hj
        refine ⟨q1, ?_, ws, q3, OD.mono eB q4⟩
        rw [upd_ne (ne j a es w hj)]
        exact q2
    · rcases at_ j _ hj with ⟨_, e⟩ | ⟨w, hj⟩
      · cases e
      · rcases at_ j' _ hj' with ⟨_, e⟩ | ⟨w', hj'⟩
        · cases e
        · exact r.dis j j' a es fs hj hj'
  have g2 : Go B H ρ (upd B p (.lst vs)) H (ρ.set i (.dat (.list ds))) := by
    refine ⟨eB, fun _ _ q _ => q, fun a q1 q2 q3 => ?_, fun a ⟨j, es, hj⟩ => ?_, fun _ q => q⟩
    · rw [upd_ne (fun e => q3 (by rw [e]; exact ⟨i, ds, ho⟩))]
      exact q2
    · rcases at_ j _ hj with ⟨_, e⟩ | ⟨w, hj⟩
      · cases e
      · exact .inl ⟨j, es, hj⟩
  exact h.run _ H σ Z r2 (f.go g2)
end

open PySem PySem.Spec PyProof.Rows L2
open Evl (Ex)
section
variable {X : Cx} {M : Md} {sc : Scope} {NK : List (Str × Bool × Bool)} {G : List Str} {k : Nat} {a b c : Expr} {ρ : En} {P : D → En → Prop} {pos : Pos}
theorem vd_chain (C : Cst X M sc NK G k) {op op' : CmpOp} (h : VD X a ρ fun x ρ1 => VD X b ρ1 fun y ρ2 => cmpD op x y fun bb => (bb = true → VD X c ρ2 fun z ρ3 => cmpD op' y z fun b2 => P (.bool b2) ρ3) ∧ (bb = false → P (.bool false) ρ2)) (hm : lastMarks [op, op'] [b, c] = false := by rfl) : VD X (.Compare a [op, op'] [b, c] pos) ρ P := VD.mk fun B H σ Q r q => by
  refine PE.sem (pe_chain or_sem or_sem pe_sem pe_sem pe_sem hm) ?_
  refine h.run B H σ _ r fun vx x B1 H1 ρ1 p1 dx g1 r1 => ?_
  refine p1.run B1 H1 σ _ r1 fun vy y B2 H2 ρ2 p2 dy g2 r2 => ?_
  refine cmp_ok C r2.ex p2 (Dp.mono g2.ex dx) dy fun bb kb => ⟨bb, rfl, ?_⟩
  cases bb with
  | true =>
    rw [if_pos rfl]
    refine (kb.1 rfl).run B2 H2 σ _ r2 fun vz z B3 H3 ρ3 p3 dz g3 r3 => ?_
    exact cmp_ok C r3.ex p3 (Dp.mono g3.ex dy) dz fun b2 kb2 => q _ _ B3 H3 ρ3 kb2 (.bl b2) ((g1.trans g2).trans g3) r3
  | false =>
    rw [if_neg Bool.false_ne_true]
    exact q _ _ B2 H2 ρ2 (kb.2 rfl) (.bl false) (g1.trans g2) r2
theorem dps_bools {K : PySem.W.Frag} {B : Hp} : ∀ {ns : List Bool} {xs : List V}, DpAll K B xs (ns.map PyData.bool) → xs = ns.map V.bl
  | [], _, .nil => rfl
  | n :: ns, _, .cons h hs => by
    rw [dp_bool h, dps_bools hs]
    rfl
theorem cr_all2 (C : Cst X M sc NK G k) : CallR X (.builtin "all") (rAll X.K) := by
  cases hX : X.calm with
  | true => exact cr_all hX
  | false => exact VhX.cr_allH (C.hotc hX)
theorem does_all (C : Cst X M sc NK G k) : Does X (.builtin "all") (fun ds W => ∃ ns : List Bool, ds = [.list (ns.map PyData.bool)] ∧ W (.bool (ns.all id))) := fun B H vs ds W Q e h s q => by
  obtain ⟨ns, rfl, w⟩ := s
  cases h with
  | cons h1 h2 =>
    cases h2
    obtain ⟨t, xs, rfl, hT, hx⟩ := dp_lst h1
    have ex := dps_bools hx
    subst ex
    exact CallR.sem (cr_all2 C) ⟨t, ns, rfl, ex_l e hT, q _ _ B H w (.bl _) (Ex.refl B) e (Ex.refl H) fun _ _ b => b⟩
theorem does_any [Cold M] (C : Cst X M sc NK G k) : Does X (.builtin "any") (fun ds W => ∃ ns : List Bool, ds = [.list (ns.map PyData.bool)] ∧ W (.bool (ns.any id))) := fun B H vs ds W Q e h s q => by
  obtain ⟨ns, rfl, w⟩ := s
  cases h with
  | cons h1 h2 =>
    cases h2
    obtain ⟨t, xs, rfl, hT, hx⟩ := dp_lst h1
    have ex := dps_bools hx
    subst ex
    exact CallR.sem (cr_any C.calm) ⟨t, ns, rfl, ex_l e hT, q _ _ B H w (.bl _) (Ex.refl B) e (Ex.refl H) fun _ _ b => b⟩
end

open PySem PySem.Spec PyProof.Rows L2
open Evl (Ex)
section
variable {X : Cx} {M : Md} {sc : Scope} {NK : List (Str × Bool × Bool)} {G : List Str} {k : Nat} {ρ : En} {P : D → En → Prop} {PL : List D → En → Prop} {pos : Pos} {e a b : Expr} {x : Str}
def uTst (X : Cx) (scope : Scope) (e : Expr) : TT := fun σ H Q => ∀ s H0 C cl fp, bSem (X.blk s H0 scope (compEnvC scope cl C X.env) fp) e σ H Q
theorem pts_uTst {scope : Scope} : ∀ (s : Shared) (H : Hp) (C : Addr) (cl : List (Str × Addr)) (fp : List Addr), PTs (X.blk s H scope (compEnvC scope cl C X.env) fp) [e] (uTst X scope e) :=
  fun s H C cl fp => pts_one ⟨fun pins s' σ H' Q I h => h s H C cl fp pins s' I⟩
theorem lcIf_read {B H : Hp} {σ : L2.St} {Q : VK} {scope : Scope} {i : Nat} {y : Str} {py : Pos} {elt iter tst : Expr} {Cb : Cx → Prop} (r : Rel (kwOf X) B H σ ρ)
    (cb : ∀ (s : Shared) (H : Hp) (Ca : Addr) (cl : List (Str × Addr)) (fp : List Addr), Cb (X.blk s H scope (compEnvC scope cl Ca X.env) fp))
    (h : VI X (.Name y py) iter ρ fun ds ρ1 => ds.length ≤ 100000 ∧ ∃ W : Nat → List D → En → Prop, W 0 [] ρ1 ∧
      (∀ (j : Nat) d acc ρ', ds[j]? = some d → W j acc ρ' → ∀ X', Cb X' → VT X' tst (ρ'.set i (.dat d)) fun bb ρ3 => (bb = true → ∀ X'', Cb X'' → VD X'' elt ρ3 fun u ρ4 => W (j + 1) (acc ++ [u]) (ρ4.set i .no)) ∧ (bb = false → W (j + 1) acc (ρ3.set i .no))) ∧
      ∀ acc ρ', W ds.length acc ρ' → PL acc ρ')
    (q : ∀ p vs ds B' H' ρ', PL ds ρ' → H p = none → H' p = some (.lst vs) → B' p = none → ¬ Own ρ' p → DpAll X.K B' vs ds → Go B H ρ B' H' ρ' → Rel (kwOf X) B' H' σ ρ' → Q (.ref p) H') :
    tLc (iSemI X (.Name y py) iter) (gName i) (uTst X scope tst) (uSem X scope elt) [i] σ H Q := by
  refine h.run B H σ _ r fun J ds B1 H1 ρ1 p1 yl g1 r1 Dl hD => ?_
  obtain ⟨hlen, W, w0, step, done⟩ := p1
  have bD : B1 Dl = none := by
    cases e : B1 Dl with
    | none => rfl
    | some u =>
      rw [r1.ex Dl u e] at hD
      cases hD
  have nD : ¬ Own ρ1 Dl := fun ⟨j, es, hj⟩ => by
    obtain ⟨_, _, ws, h7, _⟩ := r1.own j Dl es hj
    rw [hD] at h7
    cases h7
  refine ⟨fun j m H' => m = ds.length - j ∧ j ≤ ds.length ∧ ∃ acc vs B' ρ', W j acc ρ' ∧ acc.length ≤ j ∧ H' Dl = some (.lst vs) ∧ B' Dl = none ∧ ¬ Own ρ' Dl ∧ DpAll X.K B' vs acc ∧ Go B1 H1 ρ1 B' H' ρ' ∧ Rel (kwOf X) B' H' σ ρ', ⟨ds.length, by omega, by omega, [], [], B1, ρ1, w0, Nat.le_refl _, upd_same, bD, nD, .nil, (acc_put Go.refl r1 hD bD nD).1, (acc_put Go.refl r1 hD bD nD).2⟩, ?_⟩
  rintro j m H' ⟨rfl, hj, acc, vs, B', ρ', w, hacc, hl, bl, nl, dacc, g, r'⟩
  obtain ⟨y1, y2⟩ := yl j B' H' g.ex r'.ex
  by_cases hlt : j < ds.length
  · obtain ⟨go, yy⟩ := y1 hlt
    refine .inr ⟨go, fun H2 => ∃ acc vs B' ρ', W (j + 1) acc ρ' ∧ acc.length ≤ j + 1 ∧ H2 Dl = some (.lst vs) ∧ B' Dl = none ∧ ¬ Own ρ' Dl ∧ DpAll X.K B' vs acc ∧ Go B1 H1 ρ1 B' H2 ρ' ∧ Rel (kwOf X) B' H2 σ ρ', fun H2 hN2 => ⟨ds.length - (j + 1), by omega, rfl, hlt, hN2⟩, fun x H2 hy2 => ?_⟩
    obtain ⟨rfl, d, hd, dx⟩ := yy x H2 hy2
    have st := step j d acc ρ' hd w
    have rw0 : Rel (kwOf X) B' H2 (σ.set i none) (ρ'.set i .no) := rel_no r' (by rw [List.set_set])
    have rw1 : Rel (kwOf X) B' H2 ((wipe σ [i]).set i (some x)) (ρ'.set i (.dat d)) := by
      have q1 : Rel (kwOf X) B' H2 ((σ.set i none).set i (some x)) ((ρ'.set i .no).set i (.dat d)) := rel_set (i := i) rw0 dx
      have q2 : (ρ'.set i .no).set i (Sl.dat d) = ρ'.set i (.dat d) := List.set_set ..
      rw [q2] at q1
      exact q1
    have sset : ((σ.set i none).set i (some x)).set i none = σ.set i none := by rw [List.set_set, List.set_set]
    have nl2 : ¬ Own (ρ'.set i (.dat d)) Dl := fun z => nl (own_set z)
    refine ⟨sset, fun s0 H0 Ca cl fp => ?_⟩
    have vt := st _ (cb s0 H0 Ca cl fp)
    refine vt.run B' H2 ((wipe σ [i]).set i (some x)) _ rw1 fun bb B3 H3 ρ3 p3 g3 r3 => ?_
    have gA3 : Go B1 H1 ρ1 B3 H3 ρ3 := (g.trans go_set).trans g3
    have hD3 : H3 Dl = some (.lst vs) := g3.keep Dl _ hl nl2
    have bD3 : B3 Dl = none := g3.out Dl (by rw [hl]; exact fun z => by cases z) bl nl2
    have nD3 : ¬ Own ρ3 Dl := fun z => (g3.own Dl z).elim nl2 fun e => by rw [hl] at e; cases e
    cases bb with
    | true =>
      rw [if_pos rfl]
      intro s1 H01 Ca1 cl1 fp1
      have vd := p3.1 rfl _ (cb s1 H01 Ca1 cl1 fp1)
      refine vd.run B3 H3 ((wipe σ [i]).set i (some x)) _ r3 fun u du B4 H4 ρ4 p4 dv g4 r4 => ?_
      have gA : Go B1 H1 ρ1 B4 H4 ρ4 := gA3.trans g4
      have hD4 : H4 Dl = some (.lst vs) := g4.keep Dl _ hD3 nD3
      have bD4 : B4 Dl = none := g4.out Dl (by rw [hD3]; exact fun z => by cases z) bD3 nD3
      have nD4 : ¬ Own ρ4 Dl := fun z => (g4.own Dl z).elim nD3 fun e => by rw [hD3] at e; cases e
      have rS : Rel (kwOf X) B4 H4 σ (ρ4.set i .no) := rel_no r4 (by
        show ((σ.set i none).set i (some x)).set i none = σ.set i none
        exact sset)
      have gS : Go B1 H1 ρ1 B4 H4 (ρ4.set i .no) := gA.trans go_no
      have nS : ¬ Own (ρ4.set i .no) Dl := fun z => nD4 (own_no z)
      obtain ⟨gF, rF⟩ := acc_put (o := .lst (vs ++ [u])) gS rS hD bD4 nS
      refine ⟨vs, hD4, ?_, acc ++ [du], vs ++ [u], B4, ρ4.set i .no, p4, by rw [List.length_append]; exact Nat.add_le_add_right hacc 1, upd_same, bD4, nS, DpAll.app (DpAll.mono (g3.ex.trans g4.ex) dacc) (.cons dv .nil), gF, rF⟩
      rw [DpAll.len dacc]
      exact Nat.lt_of_le_of_lt hacc (Nat.lt_of_lt_of_le hlt (Nat.le_trans hlen (by decide)))
    | false =>
      rw [if_neg Bool.false_ne_true]
      have rS : Rel (kwOf X) B3 H3 σ (ρ3.set i .no) := rel_no r3 (by
        show ((σ.set i none).set i (some x)).set i none = σ.set i none
        exact sset)
      have gS : Go B1 H1 ρ1 B3 H3 (ρ3.set i .no) := gA3.trans go_no
      have nS : ¬ Own (ρ3.set i .no) Dl := fun z => nD3 (own_no z)
      exact ⟨acc, vs, B3, ρ3.set i .no, p3.2 rfl, by omega, hD3, bD3, nS, DpAll.mono g3.ex dacc, gS, rS⟩
  · have e : j = ds.length := by omega
    subst e
    exact .inl ⟨y2 (Nat.le_refl _), q Dl vs acc B' H' ρ' (done acc ρ' w) (g1.dom Dl hD) hl bl nl dacc (g1.trans g) r'⟩
/-- [elt for y in iter if tst] -/
theorem vn_lcIf [Cold M] (C : Cst X M sc NK G k) {scope : Scope} {i : Nat} {y : Str} {py : Pos} {elt iter tst : Expr} {v : Bool} (NK' : List (Str × Bool × Bool)) (G' : List Str) (hy : At NK' i (y, v, true))
    (h : VI X (.Name y py) iter ρ fun ds ρ1 => ds.length ≤ 100000 ∧ ∃ W : Nat → List D → En → Prop, W 0 [] ρ1 ∧
      (∀ (j : Nat) d acc ρ', ds[j]? = some d → W j acc ρ' → ∀ X', Cst X' M (relS scope sc) NK' G' k → VT X' tst (ρ'.set i (.dat d)) fun bb ρ3 => (bb = true → ∀ X'', Cst X'' M (relS scope sc) NK' G' k → VD X'' elt ρ3 fun u ρ4 => W (j + 1) (acc ++ [u]) (ρ4.set i .no)) ∧ (bb = false → W (j + 1) acc (ρ3.set i .no))) ∧
      ∀ acc ρ', W ds.length acc ρ' → PL acc ρ')
    (ok : blkC (NK.map (·.1)) sc scope [(y, i)] = true := by decide +kernel) (hN : NK'.map (·.1) = NK.map (·.1) := by rfl) (hc : chk (relS scope sc) false NK' G' = true := by decide +kernel)
    (hs : ∀ x, foldedSetIterable iter X.env x = pure x := by intro _; rfl) : VN X (.ListComp elt [⟨.Name y py, iter, [tst], 0⟩] scope pos) ρ PL := VN.mk fun B H σ Q r q => by
  have ok' : BlkOk X.N X.env.scope scope [(y, i)] := by
    rw [C.n, C.s]
    exact blkOk_by ok
  have cb : ∀ (s : Shared) (H : Hp) (Ca : Addr) (cl : List (Str × Addr)) (fp : List Addr), Cst (X.blk s H scope (compEnvC scope cl Ca X.env) fp) M (relS scope sc) NK' G' k := fun s H Ca cl fp => cst_blk C C.calm hN hc
  exact PE.sem (pe_lc (g := gName i) (tt := uTst X scope tst) C.calm C.nd (pi_sem C.calm) ok' (fun s H Ca cl fp => pg_name (cb s H Ca cl fp).nd ((cb s H Ca cl fp).ix hy) ((cb s H Ca cl fp).lo hy) ((cb s H Ca cl fp).fn hy)) pts_uTst pe_uSem hs)
    (lcIf_read (Cb := fun X' => Cst X' M (relS scope sc) NK' G' k) r cb h q)
/-- xs[:e] -/
theorem vn_takeE {p2 : Pos} (h : VD X a ρ fun d ρ1 => VD X b ρ1 fun y ρ2 => ∃ (ds : List D) (n : Nat), d = .list ds ∧ y = .int (n : Int) ∧ PL (ds.take n) ρ2) : VN X (.Subscript a (.Slice none (some b) none p2) pos) ρ PL := VN.mk fun B H σ Q r q => by
  refine PE.sem (pe_slice sl_list pe_sem po_none (po_some pe_sem)) ?_
  refine h.run B H σ _ r fun v d B1 H1 ρ1 p1 dv g1 r1 => ?_
  refine p1.run B1 H1 σ _ r1 fun vy y B2 H2 ρ2 p2 dy g2 r2 => ?_
  obtain ⟨ds, n, rfl, rfl, p⟩ := p2
  obtain ⟨t, vs, rfl, hT, hv⟩ := dp_lst dv
  refine ⟨(n : Int), dp_int dy, t, vs, rfl, ex_l (g2.ex.trans r2.ex) hT, fun z hz => ?_⟩
  rw [cut_take]
  obtain ⟨r3, g3, bp⟩ := new_one (o := .lst (vs.take n)) r2 hz
  refine q z _ _ _ _ ρ2 p (g1.dom z (g2.dom z hz)) upd_same bp (fun w => ?_) (DpAll.take n (DpAll.mono g2.ex hv)) ((g1.trans g2).trans g3) r3
  obtain ⟨i, fs, hf⟩ := w
  obtain ⟨_, _, ws, h5, _⟩ := r2.own i z fs hf
  rw [hz] at h5
  cases h5
/-- xs[e:] -/
theorem vn_dropE {p2 : Pos} (h : VD X a ρ fun d ρ1 => VD X b ρ1 fun y ρ2 => ∃ (ds : List D) (n : Nat), d = .list ds ∧ y = .int (n : Int) ∧ PL (ds.drop n) ρ2) : VN X (.Subscript a (.Slice (some b) none none p2) pos) ρ PL := VN.mk fun B H σ Q r q => by
  refine PE.sem (pe_slice sl_list pe_sem (po_some pe_sem) po_none) ?_
  refine h.run B H σ _ r fun v d B1 H1 ρ1 p1 dv g1 r1 => ?_
  refine p1.run B1 H1 σ _ r1 fun vy y B2 H2 ρ2 p2 dy g2 r2 => ?_
  obtain ⟨ds, n, rfl, rfl, p⟩ := p2
  obtain ⟨t, vs, rfl, hT, hv⟩ := dp_lst dv
  refine ⟨(n : Int), dp_int dy, t, vs, rfl, ex_l (g2.ex.trans r2.ex) hT, fun z hz => ?_⟩
  rw [cut_drop]
  obtain ⟨r3, g3, bp⟩ := new_one (o := .lst (vs.drop n)) r2 hz
  refine q z _ _ _ _ ρ2 p (g1.dom z (g2.dom z hz)) upd_same bp (fun w => ?_) (DpAll.drop n (DpAll.mono g2.ex hv)) ((g1.trans g2).trans g3) r3
  obtain ⟨i, fs, hf⟩ := w
  obtain ⟨_, _, ws, h5, _⟩ := r2.own i z fs hf
  rw [hz] at h5
  cases h5
/-- a number that stands at the top -/
theorem vd_gint (C : Cst X M sc NK G k) {i : Nat} {n : Int} {t : Tok} (hg : At G i x) (hm : M.mg x = some (.int n t)) (p : P (.int n) ρ) (hd : (x == ("__debug__" : Str)) = false := by decide) : VD X (.Name x pos) ρ P := VD.mk fun B H σ Q r q =>
  PE.sem (pe_glob (C.g hg) (C.mg hm) (v := .int n) ⟨t, rfl⟩ hd) (q _ _ B H ρ p (.int n) Go.refl r)
end

open PySem PySem.Spec PyProof.Rows L2
open Evl (Ex)
section
variable {X : Cx} {M : Md} {sc : Scope} {NK : List (Str × Bool × Bool)} {G : List Str} {k : Nat} {ρ : En} {P : D → En → Prop} {PL : List D → En → Prop} {pos : Pos} {e a b : Expr} {x : Str}
theorem DpAll_rev {K : PySem.W.Frag} {H : Hp} : ∀ {vs : List V} {ds : List D}, DpAll K H vs ds → DpAll K H vs.reverse ds.reverse
  | [], _, .nil => .nil
  | v :: vs, _, .cons h hs => by
    rw [List.reverse_cons, List.reverse_cons]
    exact DpAll.app (DpAll_rev hs) (.cons h .nil)
theorem vn_rev {kk : Nat} {p1 p2 p3 : Pos} (h : VD X a ρ fun d ρ1 => ∃ ds : List D, d = .list ds ∧ PL ds.reverse ρ1) : VN X (.Subscript a (.Slice none none (some (.UnaryOp .USub (.Constant (.int 1) kk p1) p2)) p3) pos) ρ PL := VN.mk fun B H σ Q r q => by
  refine PE.sem (pe_revL pe_sem) ?_
  refine h.run B H σ _ r fun v d B1 H1 ρ1 p1 dv g1 r1 => ?_
  obtain ⟨ds, rfl, p⟩ := p1
  obtain ⟨t, vs, rfl, hT, hv⟩ := dp_lst dv
  refine ⟨t, vs, rfl, ex_l r1.ex hT, fun z hz => ?_⟩
  obtain ⟨r3, g3, bp⟩ := new_one (o := .lst vs.reverse) r1 hz
  refine q z _ _ _ _ ρ1 p (g1.dom z hz) upd_same bp (fun w => ?_) (DpAll_rev hv) (g1.trans g3) r3
  obtain ⟨i, fs, hf⟩ := w
  obtain ⟨_, _, ws, h5, _⟩ := r1.own i z fs hf
  rw [hz] at h5
  cases h5
theorem vn_list (C : Cst X M sc NK G k) {i : Nat} {p : Pos} (hg : At G i "list") (h : VD X e ρ fun d ρ1 => ∃ ds : List D, d = .list ds ∧ PL ds ρ1) (hm : M.mg "list" = none := by assumption)
    (he : starEach [e] X.env = (false, eval e X.env) :: starEach [] X.env := by rfl) (hpl : (backTo pos (starEach [] X.env)).any (·.1) = false := by rfl) : VN X (.Call (.Name "list" p) [e] [] pos) ρ PL := VN.mk fun B H σ Q r q => by
  refine PE.sem (pe_callTy call_list_of (C.g hg) (C.mg hm) (by decide +kernel) (pa_cons pe_sem pa_nil he) (by decide) (by decide) he hpl) ?_
  refine h.run B H σ _ r fun v d B1 H1 ρ1 p1 dv g1 r1 => ?_
  obtain ⟨ds, rfl, p⟩ := p1
  obtain ⟨t, vs, rfl, hT, hv⟩ := dp_lst dv
  refine ⟨t, vs, rfl, .inl (ex_l r1.ex hT), fun z hz => ?_⟩
  obtain ⟨r3, g3, bp⟩ := new_one (o := .lst vs) r1 hz
  refine q z _ _ _ _ ρ1 p (g1.dom z hz) upd_same bp (fun w => ?_) hv (g1.trans g3) r3
  obtain ⟨i, fs, hf⟩ := w
  obtain ⟨_, _, ws, h5, _⟩ := r1.own i z fs hf
  rw [hz] at h5
  cases h5
end

open PySem PySem.Spec PyProof.Rows L2
open Evl (Ex)
section
variable {X : Cx} {M : Md} {sc : Scope} {NK : List (Str × Bool × Bool)} {G : List Str} {k : Nat} {ρ : En} {P : D → En → Prop} {PL : List D → En → Prop} {pos : Pos} {e a b : Expr} {x y : Str} {F : Fin}
theorem not_own {K : Kw} {B H : Hp} {σ : L2.St} {ρ : En} {z : Addr} (r : Rel K B H σ ρ) (hz : H z = none) : ¬ Own ρ z := fun ⟨i, o, hf⟩ => by
  obtain ⟨_, _, ws, h5, _⟩ := r.own i z o hf
  rw [hz] at h5
  cases h5
/-- name = {} -/
theorem vs_newDi (C : Cst X M sc NK G k) {i : Nat} {v : Bool} {p dpos : Pos} (ha : At NK i (x, v, true)) (hi : i < ρ.length) (h : ∀ z, F.nx (ρ.set i (.own z (.di []))))
    (hs : swapsWith (.Dict [] [] dpos) (some (.Name x p)) pos.line X.env = pure false := by rfl) : VS X (.Assign [.Name x p] (.Dict [] [] dpos) pos) ρ F := VS.mk fun B H σ Z r f => by
  refine PS.sem (ps_set C.nd (C.ix ha) (C.lo ha) pe_dnewK hs (C.fn ha)) ?_
  intro z hz
  obtain ⟨r1, g1, bz⟩ := new_one (o := .dK []) r hz
  obtain ⟨g2, r2⟩ := own_newO (i := i) (ds := .di []) hi hz upd_same bz (not_own r hz) ⟨[], .nil, rfl⟩ g1 r1
  exact f.nx _ _ _ _ (h z) g2 r2
/-! ### xs.extend(ys) -/
theorem meets_ext (l : Addr) (us : Array Value) (n : Nat) (b : Addr) (ws : Array Value) (m : Nat) (sl : Array (Option Value)) (notLong : ¬(!us.isEmpty && Builtin.List.listTooLong (us.size + ws.size)) = true) (fits : us.size ≤ sizeLine) (both : us.size + ws.size ≤ sizeLine + 1) :
    Meets (Builtin.«list.extend» ⟨[.ref l, .ref b], []⟩) (fun _ R t => t.heap.get? l = some ⟨.type "list", none, .seq us n, #[]⟩ ∧ t.heap.get? b = some ⟨.type "list", none, .seq ws m, sl⟩ ∧
      R (.ok (.ret Value.none)) { t with heap := t.heap.update l (Obj.mapSeq fun z => z ++ ws), toks := t.toks }) :=
  .of_wp fun prog w A R t q => by
    obtain ⟨hh, gg, dd, tt, oo⟩ := t
    obtain ⟨q1, q2, q3⟩ := q
    have k1 := PySem.AutoSeq1.idx_int
    have k2 := PySem.AutoSeq1.sub_tuple_tuple
    have k3 := PySem.AutoSeq1.sub_list_list
    have k4 := PySem.AutoSeq1.sub_tuple_list
    have k5 := PySem.AutoSeq1.sub_list_tuple
    have grown : (us ++ ws).size ≤ sizeLine + 1 := by
      rw [Array.size_append]
      exact both
    wp_walk using (PySem.wpAny_updateSeq q1 rfl (hz := fits) (_hz' := grown)), PySem.AutoSeq1.wpAny_loadPart' q1, PySem.AutoSeq1.wpAny_loadPart' q2
    exact ⟨_, rfl, q3⟩
def rExtS (K : PySem.W.Frag) : V → List V → Hp → VK → Prop := fun x vs H Q => ∃ l b xs zs, x = .ref l ∧ vs = [.ref b] ∧ H l = some (.lst xs) ∧ SqL K H b zs ∧ xs.length + zs.length ≤ 200000 ∧ Q .non (upd H l (.lst (xs ++ zs)))
theorem mt_extS : MtM X "list.extend" (rExtS X.K) := by
  intro pins t σ H x vs v us Q I rx rv hh
  obtain ⟨l, b, xs, zs, rfl, rfl, mine, other, fits, q⟩ := hh
  cases rx
  obtain ⟨u, rfl, ru⟩ := rv.one
  cases ru
  obtain ⟨_, has, n, rel, len1, at1⟩ := I.lstM mine
  obtain ⟨hbs, rel2, ⟨⟨cl, dt, da, sl⟩, m, g1, g2, g3, g4⟩, len2⟩ := I.list other
  simp only at g2 g3 g4
  subst g2 g3 g4
  have le2 := rel2.length
  have big := sizeLine_eq
  have sum : has.toArray.size + hbs.toArray.size ≤ sizeLine := by
    rw [List.size_toArray, List.size_toArray]
    omega
  have short : ¬ (!has.toArray.isEmpty && Builtin.List.listTooLong (has.toArray.size + hbs.toArray.size)) = true := by
    rw [notLongL sum, Bool.and_false]
    decide
  refine call_meets PySem.F.slot_list_extend ⟨_, at1, rfl⟩ PySem.F.entry_list_extend (PySem.F.args_list_extend_2 _ _) (meets_ext l has.toArray n b hbs.toArray m sl short (by omega) (by omega)) ⟨at1, g1, ?_⟩
  refine ⟨.non, _, I.lset (its' := has ++ hbs) mine at1 (by simp) (rel.append rel2) ?_, rfl, q⟩
  rw [List.length_append]
  omega
/-- xs.extend(e), xs a list of one's own -/
theorem vs_extend (C : Cst X M sc NK G k) {i : Nat} {l : Bool} {p : Addr} {cs0 : List D} {px ap cp : Pos} (ha : At NK i (x, true, l)) (ho : ρ[i]? = some (.own p cs0))
    (h : VD X e ρ fun d ρ1 => ∃ (xs cs : List D), d = .list xs ∧ ρ1[i]? = some (.own p cs) ∧ cs.length + xs.length ≤ 100000 ∧ F.nx (ρ1.set i (.own p (.l (cs ++ xs)))))
    (hbase : attributeBase (.Name x px) "extend" X.env (eval (.Name x px) X.env) = eval (.Name x px) X.env := by rfl)
    (hfew : ((backTo cp (starEach [e] X.env)).all (fun x => !x.1) && (backToKw cp (keywordEach [] X.env)).all (fun x => x.1.isSome) && decide (([e] : List Expr).length + ([] : List Keyword).length + (if ([] : List Keyword).isEmpty then 0 else 1) < 30)) = true := by rfl)
    (hline : (ap.endLine == cp.line) = true := by rfl) (he : starEach [e] X.env = (false, eval e X.env) :: starEach [] X.env := by rfl) (hpl : (backTo cp (starEach [] X.env)).any (·.1) = false := by rfl)
    (hs : swapsWith (.Call (.Attribute (.Name x px) "extend" ap) [e] [] cp) none pos.line X.env = pure false := by rfl) (hd : (x == ("__debug__" : Str)) = false := by decide) (hcd : (x == ("__classdict__" : Str)) = false := by decide) :
    VS X (.Expr (.Call (.Attribute (.Name x px) "extend" ap) [e] [] cp) pos) ρ F := VS.mk fun B H σ Z r f => by
  refine PS.sem (ps_expr (pe_bm PySem.F.plainAttrs_list PySem.F.slot_list_extend PySem.F.type_list_extend mt_extS (pe_var (C.ix ha) (C.vi ha) hd hcd) (pa_cons pe_sem pa_nil he) hbase hfew hline he hpl) hs) ?_
  obtain ⟨s1, b1, _, h3, ws, rfl, d3⟩ := r.own i p cs0 ho
  refine ⟨.ref p, s1, .inl ⟨rfl, ws, .inl (.inl h3)⟩, ?_⟩
  refine h.run B H σ _ r fun v d B1 H1 ρ1 p1 dv g1 r1 => ?_
  obtain ⟨xs, cs, rfl, ho1, hlen, pp⟩ := p1
  obtain ⟨_, bp, _, h5, us, rfl, d5⟩ := r1.own i p cs ho1
  obtain ⟨t, vs, rfl, hT, hv⟩ := dp_lst dv
  obtain ⟨r2, g2⟩ := own_write (vs' := us ++ vs) (cs' := cs ++ xs) r1 ho1 (DpAll.app d5 hv)
  refine ⟨p, t, us, vs, rfl, rfl, h5, ex_l r1.ex hT, ?_, f.nx B1 _ σ _ pp (g1.trans g2) r2⟩
  rw [DpAll.len d5, DpAll.len hv]
  omega
/-! ### d[k], sorted(d) -/
theorem valV_at {es : List (Int × D)} {kk : Int} {d : D} {K : PySem.W.Frag} {B : Hp} : ∀ {es : List (Int × D)} {vs : List V}, DpAll K B vs (es.map (·.2)) → es.find? (fun e => decide (e.1 = kk)) = some (kk, d) →
    ∃ v, valV (List.zipWith (fun e v => ((Sum.inl e.1 : Key), v)) es vs) (.inl kk) = some v ∧ Dp K B v d
  | [], _, _, h => nomatch h
  | e :: es, v :: vs, .cons h1 h2, h => by
    rw [List.find?_cons] at h
    unfold valV
    rw [List.zipWith_cons_cons, List.find?_cons]
    by_cases q : e.1 = kk
    · rw [decide_eq_true q] at h
      have e2 : decide ((Sum.inl e.1 : Key) = Sum.inl kk) = true := decide_eq_true (by rw [q])
      rw [e2]
      have e3 : e = (kk, d) := Option.some.inj h
      rw [e3] at h1
      exact ⟨v, rfl, h1⟩
    · rw [decide_eq_false q] at h
      have e2 : decide ((Sum.inl e.1 : Key) = Sum.inl kk) = false := decide_eq_false fun z => q (Sum.inl.inj z)
      rw [e2]
      exact valV_at (es := es) h2 h
/-- d[e], d a dict of one's own, the key there -/
theorem vd_dgetDi (C : Cst X M sc NK G k) {i : Nat} {l : Bool} {p : Addr} {es0 : List (Int × D)} {px : Pos} (ha : At NK i (x, true, l)) (ho : ρ[i]? = some (.own p (.di es0)))
    (h : VD X b ρ fun y ρ1 => ∃ (kk : Int) (es : List (Int × D)) (d : D), y = .int kk ∧ ρ1[i]? = some (.own p (.di es)) ∧ es.find? (fun e => decide (e.1 = kk)) = some (kk, d) ∧ P d ρ1) (hs : NoSl b := by exact fun _ _ => rfl) (hd : (x == ("__debug__" : Str)) = false := by decide) (hcd : (x == ("__classdict__" : Str)) = false := by decide) : VD X (.Subscript (.Name x px) b pos) ρ P := VD.mk fun B H σ Q r q => by
  have hu := C.hu
  refine PE.sem (pe_dget (by omega) (pe_var (C.ix ha) (C.vi ha) hd hcd) pe_sem hs) ?_
  refine ⟨.ref p, (r.own i p _ ho).1, ?_⟩
  refine h.run B H σ _ r fun vy y B1 H1 ρ1 p1 dy g1 r1 => ?_
  obtain ⟨kk, es, d, rfl, ho1, hf, pp⟩ := p1
  obtain ⟨_, _, _, h3, vs, dvs, rfl⟩ := r1.own i p _ ho1
  obtain ⟨v, hv, dv⟩ := valV_at (es := es) dvs hf
  exact ⟨p, v, rfl, .inl ⟨_, .inl kk, .inl h3, dp_int dy, hv.symm⟩, q v d B1 H1 ρ1 pp dv g1 r1⟩
end

open PySem PySem.Spec PyProof.Rows L2
open Evl (Ex)
section
variable {X : Cx} {M : Md} {sc : Scope} {NK : List (Str × Bool × Bool)} {G : List Str} {k : Nat} {ρ : En} {P : D → En → Prop} {PL : List D → En → Prop} {pos : Pos} {e a b ke : Expr} {x y : Str} {F : Fin}
theorem zip_keys {K : PySem.W.Frag} {B : Hp} : ∀ {es : List (Int × D)} {vs : List V}, DpAll K B vs (es.map (·.2)) → (List.zipWith (fun e v => ((Sum.inl e.1 : Key), v)) es vs).map (·.1) = (es.map (·.1)).map Sum.inl
  | [], [], .nil => rfl
  | e :: es, v :: vs, .cons h1 h2 => by
    rw [List.zipWith_cons_cons, List.map_cons, List.map_cons, List.map_cons, zip_keys h2]
/-- sorted(d), d a dict of one's own -/
theorem vn_sortedDi [Cold M] (C : Cst X M sc NK G k) {i j : Nat} {l : Bool} {p : Addr} {es : List (Int × D)} {px pn : Pos} (hg : At G j "sorted") (ha : At NK i (x, true, l)) (ho : ρ[i]? = some (.own p (.di es))) (hl : es.length < 64)
    (h : ∀ ys : List Int, ys.Perm (es.map (·.1)) → ys.Pairwise (· ≤ ·) → PL (ys.map PyData.int) ρ) (hm : M.mg "sorted" = none := by assumption) (hv : bootBuiltins "sorted" = some (.builtin "sorted") := by decide +kernel)
    (he : starEach [.Name x px] X.env = (false, eval (.Name x px) X.env) :: starEach [] X.env := by rfl) (hpl : (backTo pos (starEach [] X.env)).any (·.1) = false := by rfl) (hd : (x == ("__debug__" : Str)) = false := by decide) (hcd : (x == ("__classdict__" : Str)) = false := by decide) :
    VN X (.Call (.Name "sorted" pn) [.Name x px] [] pos) ρ PL := VN.mk fun B H σ Q r q => by
  refine PE.sem (pe_callB (call_sortedDI C.calm) (C.g hg) (C.mg hm) hv (pa_cons (pe_var (C.ix ha) (C.vi ha) hd hcd) pa_nil he) (by decide) (by decide) he hpl) ?_
  obtain ⟨s1, b1, _, h3, vs, dvs, rfl⟩ := r.own i p _ ho
  refine ⟨.ref p, s1, p, _, es.map (·.1), rfl, .inl h3, zip_keys dvs, by rw [List.length_map]; exact hl, fun ys z hperm hpw hz => ?_⟩
  obtain ⟨r1, g1, bz⟩ := new_one (o := .lst (ys.map V.int)) r hz
  exact q z _ _ _ _ ρ (h ys hperm hpw) hz upd_same bz (not_own r hz) (dp_ints ys) g1 r1
theorem upd_comm {H : Hp} {p q : Addr} {o u : HO} (h : p ≠ q) : upd (upd H p o) q u = upd (upd H q u) p o := by
  funext a
  unfold upd
  by_cases h1 : a = q
  · subst h1
    rw [if_pos rfl, if_neg (fun z => h z.symm), if_pos rfl]
  · rw [if_neg h1, if_neg h1]
theorem upd_twice {H : Hp} {p : Addr} {o u : HO} : upd (upd H p o) p u = upd H p u := by
  funext a
  unfold upd
  by_cases h1 : a = p
  · rw [if_pos h1, if_pos h1]
  · rw [if_neg h1, if_neg h1, if_neg h1]
theorem zip_any {K : PySem.W.Frag} {B : Hp} {kk : Int} : ∀ {es : List (Int × D)} {vs : List V}, DpAll K B vs (es.map (·.2)) → (∀ e ∈ es, e.1 ≠ kk) →
    ((List.zipWith (fun e v => ((Sum.inl e.1 : Key), v)) es vs).any fun kv => decide (kv.1 = Sum.inl kk)) = false
  | [], [], .nil, _ => rfl
  | e :: es, v :: vs, .cons h1 h2, h => by
    rw [List.zipWith_cons_cons, List.any_cons, zip_any h2 fun e' he => h e' (by simp [he])]
    have : decide ((Sum.inl e.1 : Key) = Sum.inl kk) = false := decide_eq_false fun z => h e (by simp) (Sum.inl.inj z)
    rw [this]
    rfl
theorem zip_app {K : PySem.W.Frag} {B : Hp} {e0 : Int × D} {v0 : V} : ∀ {es : List (Int × D)} {vs : List V}, DpAll K B vs (es.map (·.2)) →
    List.zipWith (fun e v => ((Sum.inl e.1 : Key), v)) es vs ++ [(Sum.inl e0.1, v0)] = List.zipWith (fun e v => ((Sum.inl e.1 : Key), v)) (es ++ [e0]) (vs ++ [v0])
  | [], [], .nil => rfl
  | e :: es, v :: vs, .cons h1 h2 => by
    rw [List.zipWith_cons_cons, List.cons_append, zip_app h2]
    rfl
theorem valV_none {K : List (Key × V)} {kk : Int} (h : (K.any fun kv => decide (kv.1 = Sum.inl kk)) = false) : valV K (.inl kk) = none := by
  unfold valV
  rw [List.find?_eq_none.mpr fun z hz => ?_]
  · rfl
  · have := List.any_eq_false.mp h z hz
    exact this
/-- d.setdefault(k, []).append(name), the key not there -/
theorem vs_dapp (C : Cst X M sc NK G k) {i j : Nat} {l l2 : Bool} {p : Addr} {es0 : List (Int × D)} {px py lp a1 a2 c1 c2 : Pos} (ha : At NK i (x, true, l)) (ho : ρ[i]? = some (.own p (.di es0))) (hy : At NK j (y, true, l2))
    (h : VD X ke ρ fun d ρ1 => ∃ (kk : Int) (es : List (Int × D)) (w : D), d = .int kk ∧ ρ1[i]? = some (.own p (.di es)) ∧ ρ1[j]? = some (.dat w) ∧ (∀ e ∈ es, e.1 ≠ kk) ∧ es.length ≤ 100000 ∧ F.nx (ρ1.set i (.own p (.di (es ++ [(kk, .list [w])])))))
    (m2 : M2 X (.Name x px) "setdefault" a1 ke (.List [] lp) c1 := by exact ⟨rfl, rfl, rfl, rfl⟩)
    (hbase : attributeBase (.Call (.Attribute (.Name x px) "setdefault" a1) [ke, .List [] lp] [] c1) "append" X.env (eval (.Call (.Attribute (.Name x px) "setdefault" a1) [ke, .List [] lp] [] c1) X.env) = eval (.Call (.Attribute (.Name x px) "setdefault" a1) [ke, .List [] lp] [] c1) X.env := by rfl)
    (hfew : ((backTo c2 (starEach [.Name y py] X.env)).all (fun x => !x.1) && (backToKw c2 (keywordEach [] X.env)).all (fun x => x.1.isSome) && decide (([.Name y py] : List Expr).length + ([] : List Keyword).length + (if ([] : List Keyword).isEmpty then 0 else 1) < 30)) = true := by rfl)
    (hline : (a2.endLine == c2.line) = true := by rfl) (he : starEach [.Name y py] X.env = (false, eval (.Name y py) X.env) :: starEach [] X.env := by rfl) (hpl : (backTo c2 (starEach [] X.env)).any (·.1) = false := by rfl)
    (hs : swapsWith (.Call (.Attribute (.Call (.Attribute (.Name x px) "setdefault" a1) [ke, .List [] lp] [] c1) "append" a2) [.Name y py] [] c2) none pos.line X.env = pure false := by rfl)
    (hd : (x == ("__debug__" : Str)) = false := by decide) (hcd : (x == ("__classdict__" : Str)) = false := by decide) (hd2 : (y == ("__debug__" : Str)) = false := by decide) (hcd2 : (y == ("__classdict__" : Str)) = false := by decide) :
    VS X (.Expr (.Call (.Attribute (.Call (.Attribute (.Name x px) "setdefault" a1) [ke, .List [] lp] [] c1) "append" a2) [.Name y py] [] c2) pos) ρ F := VS.mk fun B H σ Z r f => by
  refine PS.sem (ps_expr (pe_bm PySem.F.plainAttrs_list PySem.F.slot_list_append PySem.F.type_list_append mt_append (pe_dsetd (pe_var (C.ix ha) (C.vi ha) hd hcd) pe_sem (pe_lst pa_nil) m2) (pa_cons (pe_var (C.ix hy) (C.vi hy) hd2 hcd2) pa_nil he) hbase hfew hline he hpl) hs) ?_
  obtain ⟨s1, b1, _, h3, ws, dws, rfl⟩ := r.own i p _ ho
  refine ⟨.ref p, s1, p, rfl, .inl ⟨_, .inl h3⟩, ?_⟩
  refine h.run B H σ _ r fun v d B1 H1 ρ1 p1 dv g1 r1 => ?_
  obtain ⟨kk, es, w, rfl, ho1, hw, hno, hlen, pp⟩ := p1
  obtain ⟨s2, bp, _, h5, us, dus, rfl⟩ := r1.own i p _ ho1
  obtain ⟨vw, sw, dw⟩ := r1.dat j w hw
  have sl := sizeLine_eq
  refine ⟨by show 0 ≤ sizeLine; omega, fun z hz => ?_⟩
  have zp : z ≠ p := fun e => by rw [e, h5] at hz; cases hz
  have any0 := zip_any dus hno
  have hlz : (List.zipWith (fun e v => ((Sum.inl e.1 : Key), v)) es us).length ≤ 100000 := by
    rw [List.length_zipWith]
    omega
  refine ⟨_, .inl kk, by rw [upd_ne (fun e => zp e.symm)]; exact h5, dp_int dv, by omega, fun v hv => ?_, fun _ => ?_⟩
  · rw [valV_none any0] at hv
    cases hv
  · have eput : putK (List.zipWith (fun e v => ((Sum.inl e.1 : Key), v)) es us) (.inl kk) (.ref z) = List.zipWith (fun e v => ((Sum.inl e.1 : Key), v)) (es ++ [(kk, .list [w])]) (us ++ [.ref z]) := by
      unfold putK
      rw [any0, if_neg (by decide)]
      exact zip_app (e0 := (kk, .list [w])) dus
    rw [eput]
    have hq : upd (upd H1 z (.lst [])) p (.dK (List.zipWith (fun e v => ((Sum.inl e.1 : Key), v)) (es ++ [(kk, .list [w])]) (us ++ [.ref z]))) z = some (.lst []) := by
      rw [upd_ne zp]
      exact upd_same
    refine ⟨.inl ⟨rfl, [], .inl (.inl hq)⟩, ?_⟩
    refine ⟨vw, sw, ?_⟩
    refine ⟨z, [], vw, rfl, rfl, hq, by show 0 < sizeLine; omega, ?_⟩
    obtain ⟨r2, g2⟩ := new_both (o := .lst [vw]) r1 hz
    have eB : Ex B1 (upd B1 z (.lst [vw])) := g2.ex
    obtain ⟨r3, g3⟩ := own_writeO (u' := .dK (List.zipWith (fun e v => ((Sum.inl e.1 : Key), v)) (es ++ [(kk, .list [w])]) (us ++ [.ref z]))) (cs' := .di (es ++ [(kk, .list [w])])) r2 ho1 ⟨us ++ [.ref z], by
      rw [List.map_append]
      exact DpAll.app (DpAll.mono eB dus) (.cons (.lst (.inl (.inl upd_same)) (.cons (Dp.mono eB dw) .nil)) .nil), rfl⟩
    have eH : upd (upd (upd H1 z (.lst [])) p (.dK (List.zipWith (fun e v => ((Sum.inl e.1 : Key), v)) (es ++ [(kk, .list [w])]) (us ++ [.ref z])))) z (.lst ([] ++ [vw])) = upd (upd H1 z (.lst [vw])) p (.dK (List.zipWith (fun e v => ((Sum.inl e.1 : Key), v)) (es ++ [(kk, .list [w])]) (us ++ [.ref z]))) := by
      rw [upd_comm (fun e => zp e.symm), upd_twice]
      rfl
    rw [eH]
    exact f.nx _ _ σ _ pp ((g1.trans g2).trans g3) r3
end

open PySem PySem.Spec PyProof.Rows L2
open Evl (Ex)
section
variable {X : Cx} {M : Md} {sc : Scope} {NK : List (Str × Bool × Bool)} {G : List Str} {k : Nat} {ρ : En} {P : D → En → Prop} {PL : List D → En → Prop} {pos : Pos} {e a b ke : Expr} {x y : Str} {F : Fin}
/-! ### data as keys -/
mutual
theorem nested_of {pins : List (Addr × Obj)} {σ : L2.St} {B H : Hp} {s : Shared} (I : Inv X pins σ H s) (eB : Ex B H) : ∀ {v : V} {d : D} {u : Value}, Dp X.K B v d → kyD d = true → RelV v u → NestedIs s.heap (nkD d) u
  | _, _, _, .non, _, r => by cases r; exact .none
  | _, _, _, .bl b, _, r => by cases r; exact .bool rfl
  | _, _, _, .int i, _, r => by obtain ⟨t, rfl⟩ := r; exact .int _ _
  | _, _, _, .str x, _, r => by obtain ⟨t, rfl⟩ := r; exact .text _ _
  | _, _, _, .lst _ _, h, _ => by cases h
  | _, _, _, .tup h hs, ky, r => by
    cases r
    obtain ⟨its, rv, ⟨o, ho, hc, n, hd⟩, _⟩ := I.tuple (ex_t eB h)
    exact .tup ho hc hd (by rw [List.toList_toArray]; exact nesteds_of I eB hs ky rv)
theorem nesteds_of {pins : List (Addr × Obj)} {σ : L2.St} {B H : Hp} {s : Shared} (I : Inv X pins σ H s) (eB : Ex B H) : ∀ {vs : List V} {ds : List D} {us : List Value}, DpAll X.K B vs ds → kyDs ds = true → Vals vs us → NestedAll s.heap (nkDs ds) us
  | _, _, _, .nil, _, r => by cases r; exact .nil
  | _, _, _, .cons h hs, ky, r => by
    cases r with
    | cons r1 r2 =>
      unfold kyDs at ky
      rw [Bool.and_eq_true] at ky
      exact .cons (nested_of I eB h ky.1 r1) (nesteds_of I eB hs ky.2 r2)
end
theorem ent_is {pins : List (Addr × Obj)} {σ : L2.St} {B H : Hp} {s : Shared} (I : Inv X pins σ H s) (eB : Ex B H) {e : D × D} {q : NestedKey × Addr × Value} (h : EntD (kwOf X) B e q) : (nestedKind X.prog X.w).is s.heap q.1 q.2.1 := by
  rw [h.key]
  exact ⟨nested_of (X := X) I eB h.adr h.ky rfl, h.dp⟩
theorem paired_right {α β : Type} {R : α → β → Prop} {T : β → Prop} (w : ∀ a b, R a b → T b) : ∀ {l : List α} {m : List β}, Paired R l m → ∀ x ∈ m, T x
  | _, _, .nil, _, h => nomatch h
  | _, _, .cons r t, x, h => by
    rcases List.mem_cons.mp h with rfl | h
    · exact w _ _ r
    · exact paired_right w t x h
/-- {}, to be a dict by tuples -/
def tDNewN (K : Kw) : TE := fun _ H Q => ∀ p, H p = none → Q (.ref p) (upd H p (.ext (ndRaw K p [])))
theorem nd_keep {K : Kw} {a : Addr} {xs : List (NestedKey × Addr × Value)} {h : Heap} (q : ndRaw K a xs h) : (∃ o, h.get? a = some o) ∧ ∀ h1 h2 : Heap, ndRaw K a xs h1 → (∀ o, h1.get? a = some o → h2.get? a = some o) → ndRaw K a xs h2 :=
  ⟨let ⟨_, _, o, _, _, e, _⟩ := q; ⟨o, e⟩, fun _ _ ⟨h1, h2, o, es, ep, e, r⟩ w => ⟨h1, h2, o, es, ep, w o e, r⟩⟩
theorem pe_dnewN : PE X (.Dict [] [] pos) (tDNewN (kwOf X)) := ⟨fun pins s σ H Q I h =>
  wpAny_Dict_empty ⟨.ref s.heap.objs.size, _, I.laid (a := s.heap.objs.size) (o := .ext (ndRaw (kwOf X) s.heap.objs.size [])) (t' := s.toks) (fun _ _ q => Heap.get?_push_of_some _ q) (Nat.le_refl _) (by
    have q : ndRaw (kwOf X) s.heap.objs.size [] (s.heap.push { cls := .type "dict", data := .dict #[] }) :=
      ⟨beq_eq_false_iff_ne.mpr (Ne.symm (Nat.ne_of_lt I.big)), Nat.zero_le _, _, #[], 0, Heap.get?_push_size _ rfl, ⟨rfl, rfl, rfl⟩, rfl, rfl, List.nodup_nil⟩
    exact ⟨q, nd_keep q⟩), rfl, h _ (I.hok.fresh (Nat.le_refl _))⟩⟩
/-- name = {}, a dict by tuples -/
theorem vs_newDn (C : Cst X M sc NK G k) {i : Nat} {v : Bool} {p dpos : Pos} (ha : At NK i (x, v, true)) (hi : i < ρ.length) (h : ∀ z, F.nx (ρ.set i (.own z (.dn []))))
    (hs : swapsWith (.Dict [] [] dpos) (some (.Name x p)) pos.line X.env = pure false := by rfl) : VS X (.Assign [.Name x p] (.Dict [] [] dpos) pos) ρ F := VS.mk fun B H σ Z r f => by
  refine PS.sem (ps_set C.nd (C.ix ha) (C.lo ha) pe_dnewN hs (C.fn ha)) ?_
  intro z hz
  obtain ⟨r1, g1, bz⟩ := new_one (o := .ext (ndRaw (kwOf X) z [])) r hz
  obtain ⟨g2, r2⟩ := own_newO (i := i) (ds := .dn []) hi hz upd_same bz (not_own r hz) ⟨[], rfl, .nil⟩ g1 r1
  exact f.nx _ _ _ _ (h z) g2 r2
/-! ### d[k] = e -/
def rSetN (K : Kw) : V → V → V → Hp → (Hp → Prop) → Prop := fun o i v H Q => ∃ (p b : Addr) (B : Hp) (y : D) (es : List (D × D)) (xs : List (NestedKey × Addr × Value)), o = .ref p ∧ i = .ref b ∧ H p = some (.ext (ndRaw K p xs)) ∧ Ex B H ∧ Dp K.K B (.ref b) y ∧ kyD y = true ∧ (nkD y).depth ≤ 8 ∧ Paired (EntD K B) es xs ∧ es.length < sizeLine ∧
  ∀ u, RelV v u → Q (upd H p (.ext (ndRaw K p (storedH xs (nkD y) b u))))
theorem storedH_len (xs : List (NestedKey × Addr × Value)) (kk : NestedKey) (b : Addr) (u : Value) : (storedH xs kk b u).length ≤ xs.length + 1 := by
  unfold storedH
  split
  · rw [List.length_map]; omega
  · rw [List.length_append]; exact Nat.le_refl _
theorem set_nd (hu : X.A.units + 64 < cLine) : PSet X (rSetN (kwOf X)) := by
  intro pins s σ H o i v ov iv u Q I ro ri rv h
  obtain ⟨p, b, B, y, es, xs, rfl, rfl, hp, eB, dy, ky, dpt, pr, hl, q⟩ := h
  cases ro
  cases ri
  obtain ⟨⟨q1, q2, ob, es0, ep, g1, g2, g3, g4, g5⟩, _⟩ := (show ObjOk X.prog X.w H s.heap p (.ext (ndRaw (kwOf X) p xs)) from I.hok p _ hp)
  have hx : s.heap.DictOfH (nestedKind X.prog X.w) p xs := ⟨ob, es0, ep, g1, g2, g3, g4, paired_right (fun a b q => ent_is I eB q) pr, g5⟩
  have ll : es.length = xs.length := Paired.length pr
  refine wpAny_setItem_heap (knd := nestedKind X.prog X.w) (hsz := by omega) (show X.A.in1.units + 8 < cLine by rw [Around.in1_units]; omega) ⟨nested_of (X := X) I eB dy ky rfl, dpt⟩ hx fun h' hm' hs => ?_
  obtain ⟨o', es', ep', k1, k2, k3, k4, k5, k6⟩ := hm'
  have rw' : ndRaw (kwOf X) p (storedH xs (nkD y) b u) h' := ⟨q1, by have := storedH_len xs (nkD y) b u; omega, o', es', ep', k1, k2, k3, k4, k6⟩
  exact ⟨_, I.write (x := p) (e := p) (o := .ext (ndRaw (kwOf X) p (storedH xs (nkD y) b u))) (by rw [hp]; trivial) (.inl rfl) (fun c z hc e => (hs.2 c hc).trans e) ⟨o', k1⟩ ⟨rw', nd_keep rw'⟩, q u rv⟩
/-- the entries behind a store -/
def putN (es : List (D × D)) (y d : D) : List (D × D) := if es.any (fun e => decide (nkD e.1 = nkD y)) then es.map (fun e => if nkD e.1 = nkD y then (e.1, d) else e) else es ++ [(y, d)]
theorem any_atKey {K : Kw} {B : Hp} {kk : NestedKey} : ∀ {es : List (D × D)} {xs : List (NestedKey × Addr × Value)}, Paired (EntD K B) es xs → (es.any fun e => decide (nkD e.1 = kk)) = (atKey xs kk).isSome
  | _, _, .nil => rfl
  | _, _, .cons (a := e) (b := x) r t => by
    rw [List.any_cons, any_atKey t]
    by_cases q : x.1 = kk
    · have : nkD e.1 = kk := by rw [← r.key]; exact q
      rw [decide_eq_true this]
      simp [atKey, q]
    · have : ¬ nkD e.1 = kk := by rw [← r.key]; exact q
      rw [decide_eq_false this]
      simp [atKey, q]
theorem put_ent {K : Kw} {B : Hp} {y d : D} {b : Addr} {v : V} {u : Value} (dy : Dp K.K B (.ref b) y) (ky : kyD y = true) (dpt : (nkD y).depth ≤ 8) (rv : RelV v u) (dv : Dp K.K B v d) {es : List (D × D)} {xs : List (NestedKey × Addr × Value)} (pr : Paired (EntD K B) es xs) :
    Paired (EntD K B) (putN es y d) (storedH xs (nkD y) b u) := by
  unfold putN storedH
  rw [any_atKey pr]
  by_cases h : (atKey xs (nkD y)).isSome = true
  · rw [if_pos h, if_pos h]
    clear h
    induction pr with
    | nil => exact .nil
    | @cons e x _ _ r t ih =>
      rw [List.map_cons, List.map_cons]
      refine .cons ?_ ih
      unfold putAt
      by_cases q : x.1 = nkD y
      · rw [if_pos q, if_pos (by rw [← r.key]; exact q)]
        exact ⟨r.key, r.ky, r.dp, r.adr, v, rv, dv⟩
      · rw [if_neg q, if_neg (by rw [← r.key]; exact q)]
        exact r
  · rw [if_neg h, if_neg h]
    clear h
    induction pr with
    | nil => exact .cons ⟨rfl, ky, dpt, dy, v, rv, dv⟩ .nil
    | cons r t ih => exact .cons r ih
/-- name[b] = e, name a dict of one's own by tuples -/
theorem vs_putN (C : Cst X M sc NK G k) {i : Nat} {l : Bool} {p : Addr} {es0 : List (D × D)} {px p2 : Pos} (ha : At NK i (x, true, l)) (ho : ρ[i]? = some (.own p (.dn es0)))
    (h : VD X e ρ fun d ρ1 => VD X b ρ1 fun y ρ2 => ∃ (es : List (D × D)) (ys : List D), y = .tuple ys ∧ ρ2[i]? = some (.own p (.dn es)) ∧ kyD y = true ∧ (nkD y).depth ≤ 8 ∧ es.length ≤ 100000 ∧ F.nx (ρ2.set i (.own p (.dn (putN es y d)))))
    (hs : swapsWithSole [.Subscript (.Name x px) b p2] e pos.line X.env = pure false := by rfl) (hw : swappedStores [.Subscript (.Name x px) b p2] e X.env = pure none := by rfl) (h1 : (assignEach [.Subscript (.Name x px) b p2] X.env).map (·.2) = [assign (.Subscript (.Name x px) b p2) X.env] := by rfl)
    (hd : (x == ("__debug__" : Str)) = false := by decide) (hcd : (x == ("__classdict__" : Str)) = false := by decide)
    (hg : ∀ v, assign (.Subscript (.Name x px) b p2) X.env v = (do
      let ov ← holding [v] (eval (.Name x px) X.env)
      let iv ← holding [v, ov] (eval b X.env)
      standAt p2
      holding [v, ov, iv] (setItem ov iv v)
      release [v, ov, iv] []) := by intro _; rfl) : VS X (.Assign [.Subscript (.Name x px) b p2] e pos) ρ F := VS.mk fun B H σ Z r f => by
  refine PS.sem (ps_asg pe_sem (pg_sub (pe_var (C.ix ha) (C.vi ha) hd hcd) pe_sem (set_nd C.hu) hg) hs hw h1) ?_
  refine h.run B H σ _ r fun v d B1 H1 ρ1 p1 dv g1 r1 => ⟨.ref p, (r.own i p _ ho).1, ?_⟩
  refine p1.run B1 H1 σ _ r1 fun vy y B2 H2 ρ2 p2 dy g2 r2 => ?_
  obtain ⟨es, ys, rfl, ho2, ky, dpt, hl, pp⟩ := p2
  obtain ⟨t, ts, rfl, hT, hv⟩ := dp_tup dy
  obtain ⟨_, bp, _, h3, xs, rfl, pr⟩ := r2.own i p _ ho2
  have sl := sizeLine_eq
  refine ⟨p, t, B2, _, es, xs, rfl, rfl, h3, r2.ex, dy, ky, dpt, pr, by omega, fun u ru => ?_⟩
  obtain ⟨r3, g3⟩ := own_writeO (u' := .ext (ndRaw (kwOf X) p (storedH xs (nkD (.tuple ys)) t u))) (cs' := .dn (putN es (.tuple ys) d)) r2 ho2 ⟨_, rfl, put_ent dy ky dpt ru (Dp.mono g2.ex dv) pr⟩
  exact f.nx B2 _ σ _ pp ((g1.trans g2).trans g3) r3
/-! ### list(d) -/
theorem call_list_nd (hc : X.calm = true) : CallR X (.type "list") (fun xs H Q => ∃ d ks, xs = [V.ref d] ∧ H d = some (.ext (ndRaw (kwOf X) d ks)) ∧ ∀ p, H p = none → Q (.ref p) (upd H p (.lst (ks.map fun x => V.ref x.2.1)))) := by
  intro pins s σ H xs us Q I r h
  obtain ⟨d, ks, rfl, hd, q⟩ := h
  obtain ⟨u, rfl, rx⟩ := r.one
  cases rx
  obtain ⟨⟨hs, z, o, es, ep, ho, hx, hdt, he, hn⟩, _⟩ := (show ObjOk X.prog X.w H s.heap d (.ext (ndRaw (kwOf X) d ks)) from I.hok d _ hd)
  have l1 : es.size = ks.length := size_of_entries he
  refine PySem.W.kdl_call (kdl_raw hs hx hdt) (I.ok.hd hc) ho (by omega) fun h' tk acc' c' kp e it => ?_
  have ea : acc'.toList = ks.map fun x => Value.ref x.2.1 := by
    have hl : acc'.toList.length = ks.length := by rw [Array.length_toList, it.1]; exact l1
    refine List.ext_getElem? fun j => ?_
    rw [List.getElem?_map]
    cases hb : ks[j]? with
    | none =>
      have h1 := List.getElem?_eq_none_iff.mp hb
      exact List.getElem?_eq_none (by omega)
    | some b =>
      have hj : j < acc'.toList.length := by
        rw [hl]
        exact (List.getElem?_eq_some_iff.mp hb).1
      have ev := List.getElem?_eq_getElem hj
      rw [ev]
      obtain ⟨en, hen, hv⟩ := it.2 j _ (by rw [← Array.getElem?_toList]; exact ev)
      have qe := entry_at he j
      rw [hen, hb] at qe
      rw [hv, Option.some.inj qe]
      rfl
  have eb : acc'.toList = (ks.map fun x => x.2.1).map Value.ref := by rw [ea, List.map_map]; rfl
  have ec : (ks.map fun x => V.ref x.2.1) = (ks.map fun x => x.2.1).map V.ref := by rw [List.map_map]; rfl
  have rv : Vals (ks.map fun x => V.ref x.2.1) acc'.toList := by rw [eb, ec]; exact vals_refs _
  refine ⟨.ref s.heap.objs.size, _, I.laid (t' := tk) (o := .lst (ks.map fun x => V.ref x.2.1)) kp (Nat.le_refl _) ?_, rfl, q _ (I.hok.fresh (Nat.le_refl _))⟩
  exact ⟨by rw [List.length_map]; exact z, acc'.toList, c', rv, by rw [Array.toArray_toList]; exact e⟩
theorem ents_keys {K : Kw} {B : Hp} : ∀ {es : List (D × D)} {xs : List (NestedKey × Addr × Value)}, Paired (EntD K B) es xs → DpAll K.K B (xs.map fun x => V.ref x.2.1) (es.map (·.1))
  | _, _, .nil => .nil
  | _, _, .cons r t => .cons r.adr (ents_keys t)
/-- list(d), d a dict of one's own by tuples -/
theorem vn_listDn [Cold M] (C : Cst X M sc NK G k) {i j : Nat} {l : Bool} {p : Addr} {es : List (D × D)} {px pn : Pos} (hg : At G j "list") (ha : At NK i (x, true, l)) (ho : ρ[i]? = some (.own p (.dn es)))
    (h : PL (es.map (·.1)) ρ) (hm : M.mg "list" = none := by assumption)
    (he : starEach [.Name x px] X.env = (false, eval (.Name x px) X.env) :: starEach [] X.env := by rfl) (hpl : (backTo pos (starEach [] X.env)).any (·.1) = false := by rfl) (hd : (x == ("__debug__" : Str)) = false := by decide) (hcd : (x == ("__classdict__" : Str)) = false := by decide) :
    VN X (.Call (.Name "list" pn) [.Name x px] [] pos) ρ PL := VN.mk fun B H σ Q r q => by
  refine PE.sem (pe_callTy (call_list_nd C.calm) (C.g hg) (C.mg hm) (by decide +kernel) (pa_cons (pe_var (C.ix ha) (C.vi ha) hd hcd) pa_nil he) (by decide) (by decide) he hpl) ?_
  obtain ⟨s1, b1, _, h3, xs, rfl, pr⟩ := r.own i p _ ho
  refine ⟨.ref p, s1, p, xs, rfl, h3, fun z hz => ?_⟩
  obtain ⟨r1, g1, bz⟩ := new_one (o := .lst (xs.map fun x => V.ref x.2.1)) r hz
  exact q z _ _ _ _ ρ h hz upd_same bz (not_own r hz) (ents_keys pr) g1 r1
end

open PySem PySem.Spec PyProof.Rows L2
open Evl (Ex)
section
variable {X : Cx} {M : Md} {sc : Scope} {NK : List (Str × Bool × Bool)} {G : List Str} {k : Nat} {ρ : En} {P : D → En → Prop} {PL : List D → En → Prop} {pos : Pos} {e a b : Expr} {x y : Str} {F : Fin}
/-- xs.append(e), xs a list of one's own -/
theorem vs_append (C : Cst X M sc NK G k) {i : Nat} {l : Bool} {p : Addr} {cs0 : List D} {px ap cp : Pos} (ha : At NK i (x, true, l)) (ho : ρ[i]? = some (.own p cs0))
    (h : VD X e ρ fun d ρ1 => ∃ (cs : List D), ρ1[i]? = some (.own p cs) ∧ cs.length ≤ 100000 ∧ F.nx (ρ1.set i (.own p (.l (cs ++ [d])))))
    (hbase : attributeBase (.Name x px) "append" X.env (eval (.Name x px) X.env) = eval (.Name x px) X.env := by rfl)
    (hfew : ((backTo cp (starEach [e] X.env)).all (fun x => !x.1) && (backToKw cp (keywordEach [] X.env)).all (fun x => x.1.isSome) && decide (([e] : List Expr).length + ([] : List Keyword).length + (if ([] : List Keyword).isEmpty then 0 else 1) < 30)) = true := by rfl)
    (hline : (ap.endLine == cp.line) = true := by rfl) (he : starEach [e] X.env = (false, eval e X.env) :: starEach [] X.env := by rfl) (hpl : (backTo cp (starEach [] X.env)).any (·.1) = false := by rfl)
    (hs : swapsWith (.Call (.Attribute (.Name x px) "append" ap) [e] [] cp) none pos.line X.env = pure false := by rfl) (hd : (x == ("__debug__" : Str)) = false := by decide) (hcd : (x == ("__classdict__" : Str)) = false := by decide) :
    VS X (.Expr (.Call (.Attribute (.Name x px) "append" ap) [e] [] cp) pos) ρ F := VS.mk fun B H σ Z r f => by
  refine PS.sem (ps_expr (pe_bm PySem.F.plainAttrs_list PySem.F.slot_list_append PySem.F.type_list_append mt_append (pe_var (C.ix ha) (C.vi ha) hd hcd) (pa_cons pe_sem pa_nil he) hbase hfew hline he hpl) hs) ?_
  obtain ⟨s1, b1, _, h3, ws, rfl, d3⟩ := r.own i p cs0 ho
  refine ⟨.ref p, s1, .inl ⟨rfl, ws, .inl (.inl h3)⟩, ?_⟩
  refine h.run B H σ _ r fun v d B1 H1 ρ1 p1 dv g1 r1 => ?_
  obtain ⟨cs, ho1, hlen, pp⟩ := p1
  obtain ⟨_, bp, _, h5, us, rfl, d5⟩ := r1.own i p cs ho1
  have sl := sizeLine_eq
  obtain ⟨r2, g2⟩ := own_write (vs' := us ++ [v]) (cs' := cs ++ [d]) r1 ho1 (DpAll.app d5 (.cons dv .nil))
  refine ⟨p, us, v, rfl, rfl, h5, ?_, f.nx B1 _ σ _ pp (g1.trans g2) r2⟩
  rw [DpAll.len d5]
  omega
/-- xs + e, xs a list of one's own -/
theorem vn_catO (C : Cst X M sc NK G k) {i : Nat} {l : Bool} {p : Addr} {cs0 : List D} {px : Pos} (ha : At NK i (x, true, l)) (ho : ρ[i]? = some (.own p cs0))
    (h : VD X b ρ fun y ρ1 => ∃ (cs ys : List D), ρ1[i]? = some (.own p cs) ∧ y = .list ys ∧ cs.length + ys.length ≤ 100000 ∧ PL (cs ++ ys) ρ1) (hd : (x == ("__debug__" : Str)) = false := by decide) (hcd : (x == ("__classdict__" : Str)) = false := by decide) : VN X (.BinOp (.Name x px) .Add b pos) ρ PL := VN.mk fun B H σ Q r q => by
  refine PE.sem (pe_op or_sem (pe_var (C.ix ha) (C.vi ha) hd hcd) pe_sem) ?_
  refine ⟨.ref p, (r.own i p _ ho).1, ?_⟩
  refine h.run B H σ _ r fun vy y B2 H2 ρ2 p2 dy g2 r2 => ?_
  obtain ⟨cs, ys, ho1, rfl, hz, pp⟩ := p2
  obtain ⟨_, bp, _, h5, us, rfl, hu⟩ := r2.own i p cs ho1
  obtain ⟨l2, ws, rfl, hT2, hw⟩ := dp_lst dy
  refine OpR.sem op_catS ⟨p, l2, us, ws, rfl, rfl, .inl (.inl h5), ex_l r2.ex hT2, ?_, fun z hz2 => ?_⟩
  · rw [DpAll.len hu, DpAll.len hw]
    exact Nat.le_trans hz (by decide)
  · obtain ⟨r3, g3, bp⟩ := new_one (o := .lst (us ++ ws)) r2 hz2
    exact q z _ _ _ _ ρ2 pp (g2.dom z hz2) upd_same bp (not_own r2 hz2) (DpAll.app hu hw) (g2.trans g3) r3
/-- a, b = a new list, e: the list is the first name's own -/
theorem vs_parN [Cold M] (C : Cst X M sc NK G k) {i j : Nat} {v w : Bool} {px py pt : Pos} {kt k2 pt2} (hi : At NK i (x, v, true)) (hj : At NK j (y, w, true)) (hij : i ≠ j) (hil : i < ρ.length)
    (h : VN X a ρ fun ds ρ1 => VD X b ρ1 fun d2 ρ2 => ∀ z, F.nx ((ρ2.set i (.own z ds)).set j (.dat d2)))
    (hw : ∀ env : Env, env.scope = sc → swappedStores [.Tuple [.Name x px, .Name y py] kt pt] (.Tuple [a, b] k2 pt2) env = pure (some [x, y])) (hx : sc.names.lookup x = some .local := by decide +kernel) (hy : sc.names.lookup y = some .local := by decide +kernel)
    (hs : swapsWithSole [.Tuple [.Name x px, .Name y py] kt pt] (.Tuple [a, b] k2 pt2) pos.line X.env = pure false := by rfl)
    (he : starEach [a, b] X.env = (false, eval a X.env) :: starEach [b] X.env := by rfl) (he2 : starEach [b] X.env = (false, eval b X.env) :: starEach [] X.env := by rfl) :
    VS X (.Assign [.Tuple [.Name x px, .Name y py] kt pt] (.Tuple [a, b] k2 pt2) pos) ρ F := VS.mk fun B H σ Z r f => by
  refine PS.sem (ps_par C.calm C.nd (C.ix hi) (C.ix hj) hij (by rw [C.s]; exact hx) (by rw [C.s]; exact hy) (pa_cons pe_sem (pa_cons pe_sem pa_nil he2) he) (hw _ C.s) hs) ?_
  refine h.run B H σ _ r fun z vs ds B1 H1 ρ1 p1 hz h1 bz no dvs g1 r1 => ?_
  refine p1.run B1 H1 σ _ r1 fun ww d2 B2 H2 ρ2 p2 dw g2 r2 => ⟨.ref z, ww, rfl, ?_⟩
  have no2 : ¬ Own ρ2 z := fun q => (g2.own z q).elim no fun e => by rw [h1] at e; cases e
  have h2 := g2.keep z _ h1 no
  have b2 := g2.out z (by rw [h1]; exact fun e => by cases e) bz no
  have hl : i < ρ2.length := by rw [r2.len, ← r.len]; exact hil
  obtain ⟨g3, r3⟩ := own_new (i := i) hl hz h2 b2 no2 (DpAll.mono g2.ex dvs) (g1.trans g2) r2
  exact f.nx B2 H2 _ _ (p2 z) (g3.trans go_set) (rel_set r3 dw)
end

open PySem PySem.Spec PyProof.Rows L2
open Evl (Ex)
section
variable {X : Cx} {M : Md} {sc : Scope} {NK : List (Str × Bool × Bool)} {G : List Str} {k : Nat} {a b c : Expr} {ρ : En} {P : Bool → En → Prop} {pos : Pos}
theorem vt_chain (C : Cst X M sc NK G k) {op op' : CmpOp} (h : VD X a ρ fun x ρ1 => VD X b ρ1 fun y ρ2 => cmpD op x y fun bb => (bb = true → VD X c ρ2 fun z ρ3 => cmpD op' y z fun b2 => P b2 ρ3) ∧ (bb = false → P false ρ2)) (hm : lastMarks [op, op'] [b, c] = false := by rfl) : VT X (.Compare a [op, op'] [b, c] pos) ρ P := VT.mk fun B H σ Q r q => by
  refine PT.sem (pt_chain or_sem or_sem pe_sem pe_sem pe_sem hm) ?_
  refine h.run B H σ _ r fun vx x B1 H1 ρ1 p1 dx g1 r1 => ?_
  refine p1.run B1 H1 σ _ r1 fun vy y B2 H2 ρ2 p2 dy g2 r2 => ?_
  refine cmp_ok C r2.ex p2 (Dp.mono g2.ex dx) dy fun bb kb => ⟨bb, rfl, ?_⟩
  cases bb with
  | true =>
    rw [if_pos rfl]
    refine (kb.1 rfl).run B2 H2 σ _ r2 fun vz z B3 H3 ρ3 p3 dz g3 r3 => ?_
    exact cmp_ok C r3.ex p3 (Dp.mono g3.ex dy) dz fun b2 kb2 => ⟨b2, rfl, q _ B3 H3 ρ3 kb2 ((g1.trans g2).trans g3) r3⟩
  | false =>
    rw [if_neg Bool.false_ne_true]
    exact ⟨false, rfl, q _ B2 H2 ρ2 (kb.2 rfl) (g1.trans g2) r2⟩
/-- name = [elt for y in iter if tst], on one line, as data that stays -/
theorem vs_setLcIf [Cold M] (C : Cst X M sc NK G k) {F : Fin} {scope : Scope} {i m : Nat} {x y : Str} {px py spos : Pos} {elt iter tst : Expr} {v v2 : Bool} (NK' : List (Str × Bool × Bool)) (G' : List Str) (hx : At NK m (x, v2, true)) (hy : At NK' i (y, v, true))
    (h : VI X (.Name y py) iter ρ fun ds ρ1 => ds.length ≤ 100000 ∧ ∃ W : Nat → List D → En → Prop, W 0 [] ρ1 ∧
      (∀ (j : Nat) d acc ρ', ds[j]? = some d → W j acc ρ' → ∀ X', Cst X' M (relS scope sc) NK' G' k → VT X' tst (ρ'.set i (.dat d)) fun bb ρ3 => (bb = true → ∀ X'', Cst X'' M (relS scope sc) NK' G' k → VD X'' elt ρ3 fun u ρ4 => W (j + 1) (acc ++ [u]) (ρ4.set i .no)) ∧ (bb = false → W (j + 1) acc (ρ3.set i .no))) ∧
      ∀ acc ρ', W ds.length acc ρ' → F.nx (ρ'.set m (.dat (.list acc))))
    (hk : sc.kind = .function := by rfl) (hxl : sc.names.lookup x = some .local := by decide +kernel) (hpl : (px.line == pos.line) = true := by rfl) (hpa : (scope.names.any fun (n, k) => n == x && (k == .local || k == .cell)) = false := by decide +kernel)
    (ok : blkC (NK.map (·.1)) sc scope [(y, i)] = true := by decide +kernel) (hN : NK'.map (·.1) = NK.map (·.1) := by rfl) (hc : chk (relS scope sc) false NK' G' = true := by decide +kernel)
    (hs : ∀ x, foldedSetIterable iter X.env x = pure x := by intro _; rfl) : VS X (.Assign [.Name x px] (.ListComp elt [⟨.Name y py, iter, [tst], 0⟩] scope pos) spos) ρ F := VS.mk fun B H σ Z r f => by
  have ok' : BlkOk X.N X.env.scope scope [(y, i)] := by
    rw [C.n, C.s]
    exact blkOk_by ok
  have cb : ∀ (s : Shared) (H : Hp) (Ca : Addr) (cl : List (Str × Addr)) (fp : List Addr), Cst (X.blk s H scope (compEnvC scope cl Ca X.env) fp) M (relS scope sc) NK' G' k := fun s H Ca cl fp => cst_blk C C.calm hN hc
  refine PS.sem (ps_setLc (g := gName i) (tt := uTst X scope tst) (i := m) C.calm C.nd (C.ix hx) (by rw [C.s]; exact hxl) (sw_true (by rw [C.s]; exact hk) (by rw [C.s]; exact hxl) hpl hpa) (pi_sem C.calm) ok' (fun s H Ca cl fp => pg_name (cb s H Ca cl fp).nd ((cb s H Ca cl fp).ix hy) ((cb s H Ca cl fp).lo hy) ((cb s H Ca cl fp).fn hy)) pts_uTst pe_uSem hs) ?_
  refine lcIf_read (Cb := fun X' => Cst X' M (relS scope sc) NK' G' k) (PL := fun acc ρ' => F.nx (ρ'.set m (.dat (.list acc)))) r cb h fun z vs ds B1 H1 ρ1 p hz h1 bz no dvs g1 r1 => ?_
  obtain ⟨g2, r2, d2⟩ := own_frz hz h1 bz no dvs g1 r1
  exact f.nx _ H1 _ _ p (g2.trans go_set) (rel_set r2 d2)
end

open PySem PySem.Spec PyProof.Rows L2
open Evl (Ex)

/-- an argument: data; the own thing of the caller's slot -/
inductive Ar where
  | da (d : D)
  | ow (m : Nat)
def Ar.sl (ρ : En) : Ar → Sl
  | .da d => .dat d
  | .ow m => (ρ[m]?).getD .no
def put : En → List Ar → List Sl → En
  | ρ, .ow m :: r, s :: t => put (ρ.set m s) r t
  | ρ, .da _ :: r, _ :: t => put ρ r t
  | ρ, _, _ => ρ
def ownIx : List Ar → List Nat
  | [] => []
  | .ow m :: r => m :: ownIx r
  | .da _ :: r => ownIx r
def dist : List Ar → Bool
  | [] => true
  | .ow m :: r => !(ownIx r).contains m && dist r
  | .da _ :: r => dist r
def ownAll (ρ : En) : List Ar → Prop
  | [] => True
  | .ow m :: r => (∃ a o, ρ[m]? = some (.own a o)) ∧ ownAll ρ r
  | .da _ :: r => ownAll ρ r
/-- own things may have changed, nothing else -/
structure Upd (as as' : List Sl) : Prop where
  len : as'.length = as.length
  get : ∀ (i : Nat) s', as'[i]? = some s' → (∃ a o o', s' = .own a o' ∧ as[i]? = some (.own a o)) ∨ (as[i]? = some s' ∧ ∀ a o, s' ≠ .own a o)
/-- own parameters still hold their things -/
def kept : List Sl → En → Prop
  | [], _ => True
  | .own a _ :: r, .own b _ :: t => a = b ∧ kept r t
  | .own _ _ :: _, _ => False
  | _ :: r, _ :: t => kept r t
  | _ :: r, [] => kept r []
def endOf : List Sl → En → List Sl
  | [], _ => []
  | .own a _ :: r, .own _ o' :: t => .own a o' :: endOf r t
  | s :: r, _ :: t => s :: endOf r t
  | s :: r, [] => s :: endOf r []
theorem end_get : ∀ {as : List Sl} {ρ : En}, kept as ρ → ∀ (i : Nat) s', (endOf as ρ)[i]? = some s' → (∃ a o o', s' = .own a o' ∧ as[i]? = some (.own a o) ∧ ρ[i]? = some (.own a o')) ∨ (as[i]? = some s' ∧ ∀ a o, s' ≠ .own a o)
  | [], _, _, i, s', h => by
    unfold endOf at h
    simp at h
  | .own a o :: r, .own b o' :: t, k, i, s', h => by
    obtain ⟨rfl, k1⟩ := (show a = b ∧ kept r t from k)
    cases i with
    | zero =>
      cases h
      exact .inl ⟨a, o, o', rfl, rfl, rfl⟩
    | succ i =>
      rcases end_get (as := r) (ρ := t) k1 i s' h with ⟨a1, o1, o2, h1, h2, h3⟩ | h1
      · exact .inl ⟨a1, o1, o2, h1, h2, h3⟩
      · exact .inr h1
  | .own a o :: r, .no :: t, k, _, _, _ => (show False from k).elim
  | .own a o :: r, .dat _ :: t, k, _, _, _ => (show False from k).elim
  | .own a o :: r, [], k, _, _, _ => (show False from k).elim
  | .no :: r, x :: t, k, i, s', h => by
    cases i with
    | zero =>
      cases h
      exact .inr ⟨rfl, fun _ _ z => by cases z⟩
    | succ i =>
      rcases end_get (as := r) (ρ := t) k i s' h with ⟨a1, o1, o2, h1, h2, h3⟩ | h1
      · exact .inl ⟨a1, o1, o2, h1, h2, h3⟩
      · exact .inr h1
  | .dat d :: r, x :: t, k, i, s', h => by
    cases i with
    | zero =>
      cases h
      exact .inr ⟨rfl, fun _ _ z => by cases z⟩
    | succ i =>
      rcases end_get (as := r) (ρ := t) k i s' h with ⟨a1, o1, o2, h1, h2, h3⟩ | h1
      · exact .inl ⟨a1, o1, o2, h1, h2, h3⟩
      · exact .inr h1
  | .no :: r, [], k, i, s', h => by
    cases i with
    | zero =>
      cases h
      exact .inr ⟨rfl, fun _ _ z => by cases z⟩
    | succ i =>
      rcases end_get (as := r) (ρ := []) k i s' h with ⟨a1, o1, o2, h1, h2, h3⟩ | h1
      · simp at h3
      · exact .inr h1
  | .dat d :: r, [], k, i, s', h => by
    cases i with
    | zero =>
      cases h
      exact .inr ⟨rfl, fun _ _ z => by cases z⟩
    | succ i =>
      rcases end_get (as := r) (ρ := []) k i s' h with ⟨a1, o1, o2, h1, h2, h3⟩ | h1
      · simp at h3
      · exact .inr h1
theorem end_len : ∀ {as : List Sl} {ρ : En}, (endOf as ρ).length = as.length
  | [], ρ => by unfold endOf; rfl
  | s :: r, x :: t => by cases s <;> cases x <;> exact congrArg (· + 1) (end_len (as := r) (ρ := t))
  | s :: r, [] => by cases s <;> exact congrArg (· + 1) (end_len (as := r) (ρ := []))
theorem end_upd {as : List Sl} {ρ : En} (k : kept as ρ) : Upd as (endOf as ρ) := ⟨end_len, fun i s' h => by
  rcases end_get k i s' h with ⟨a, o, o', h1, h2, _⟩ | h1
  · exact .inl ⟨a, o, o', h1, h2⟩
  · exact .inr h1⟩
theorem put_len : ∀ {ars : List Ar} {ρ : En} {as : List Sl}, (put ρ ars as).length = ρ.length
  | [], ρ, as => by unfold put; rfl
  | .ow m :: r, ρ, s :: t => by
    unfold put
    rw [put_len, List.length_set]
  | .da _ :: r, ρ, s :: t => by
    unfold put
    exact put_len (ars := r) (as := t)
  | .ow m :: r, ρ, [] => by unfold put; rfl
  | .da _ :: r, ρ, [] => by unfold put; rfl
theorem put_get : ∀ {ars : List Ar} {ρ : En} {as : List Sl}, as.length = ars.length → ∀ (i : Nat) s, (put ρ ars as)[i]? = some s → (∃ j : Nat, ars[j]? = some (Ar.ow i) ∧ as[j]? = some s) ∨ ((∀ j : Nat, ars[j]? ≠ some (Ar.ow i)) ∧ ρ[i]? = some s)
  | [], ρ, as, _, i, s, h => by
    unfold put at h
    exact .inr ⟨fun j => by simp, h⟩
  | .ow m :: r, ρ, s0 :: t, hl, i, s, h => by
    unfold put at h
    rcases put_get (ars := r) (as := t) (by simpa using hl) i s h with ⟨j, h1, h2⟩ | ⟨h1, h2⟩
    · exact .inl ⟨j + 1, h1, h2⟩
    · by_cases e : m = i
      · subst e
        have hm : m < ρ.length := by
          by_cases q : m < ρ.length
          · exact q
          · rw [List.getElem?_eq_none (by rw [List.length_set]; omega)] at h2
            cases h2
        rw [List.getElem?_set_self hm] at h2
        exact .inl ⟨0, rfl, h2⟩
      · rw [List.getElem?_set_ne e] at h2
        refine .inr ⟨fun j => ?_, h2⟩
        cases j with
        | zero => exact fun z => e (by cases z; rfl)
        | succ j => exact h1 j
  | .da d :: r, ρ, s0 :: t, hl, i, s, h => by
    unfold put at h
    rcases put_get (ars := r) (as := t) (by simpa using hl) i s h with ⟨j, h1, h2⟩ | ⟨h1, h2⟩
    · exact .inl ⟨j + 1, h1, h2⟩
    · refine .inr ⟨fun j => ?_, h2⟩
      cases j with
      | zero => exact fun z => by cases z
      | succ j => exact h1 j
  | .ow m :: r, ρ, [], hl, _, _, _ => by simp at hl
  | .da m :: r, ρ, [], hl, _, _, _ => by simp at hl
theorem ix_mem : ∀ {ars : List Ar} {j m : Nat}, ars[j]? = some (Ar.ow m) → m ∈ ownIx ars
  | [], j, m, h => by simp at h
  | .ow x :: r, 0, m, h => by
    cases h
    exact List.mem_cons_self
  | .da x :: r, 0, m, h => by cases h
  | .ow x :: r, j + 1, m, h => List.mem_cons_of_mem _ (ix_mem (ars := r) h)
  | .da x :: r, j + 1, m, h => ix_mem (ars := r) h
theorem dist_eq : ∀ {ars : List Ar}, dist ars = true → ∀ {i j m : Nat}, ars[i]? = some (Ar.ow m) → ars[j]? = some (Ar.ow m) → i = j
  | [], _, i, j, m, h, _ => by simp at h
  | .da x :: r, q, i, j, m, h, h' => by
    cases i with
    | zero => cases h
    | succ i =>
      cases j with
      | zero => cases h'
      | succ j => exact congrArg (· + 1) (dist_eq (ars := r) q h h')
  | .ow x :: r, q, i, j, m, h, h' => by
    unfold dist at q
    rw [Bool.and_eq_true] at q
    have no : ∀ l : Nat, r[l]? = some (Ar.ow x) → False := fun l hl => by
      have := List.contains_iff_mem.mpr (ix_mem hl)
      rw [this] at q
      exact Bool.false_ne_true q.1
    cases i with
    | zero =>
      cases j with
      | zero => rfl
      | succ j =>
        cases h
        exact (no j h').elim
    | succ i =>
      cases j with
      | zero =>
        cases h'
        exact (no i h).elim
      | succ j => exact congrArg (· + 1) (dist_eq (ars := r) q.2 h h')
theorem own_get {ρ : En} : ∀ {ars : List Ar}, ownAll ρ ars → ∀ {j m : Nat}, ars[j]? = some (Ar.ow m) → ∃ a o, ρ[m]? = some (.own a o)
  | [], _, j, m, h => by simp at h
  | .ow x :: r, q, 0, m, h => by
    cases h
    exact q.1
  | .da x :: r, q, 0, m, h => by cases h
  | .ow x :: r, q, j + 1, m, h => own_get (ars := r) q.2 h
  | .da x :: r, q, j + 1, m, h => own_get (ars := r) q h
/-- an argument's value -/
def ArOk (K : PySem.W.Frag) (B : Hp) (σ : L2.St) (v : V) : Ar → Prop
  | .da d => Dp K B v d
  | .ow m => σ[m]? = some (some v)
theorem ArOk.mono {K : PySem.W.Frag} {B B' : Hp} {σ : L2.St} (e : Ex B B') {v : V} : ∀ {a : Ar}, ArOk K B σ v a → ArOk K B' σ v a
  | .da _, h => Dp.mono e h
  | .ow _, h => h
theorem pair_get {α β : Type} {R : α → β → Prop} : ∀ {xs : List α} {ys : List β}, Paired R xs ys → ∀ {j : Nat} {y : β}, ys[j]? = some y → ∃ x, xs[j]? = some x ∧ R x y
  | _, _, .nil, j, y, h => by simp at h
  | _, _, .cons r t, 0, y, h => by
    cases h
    exact ⟨_, rfl, r⟩
  | _, _, .cons r t, j + 1, y, h => pair_get t (j := j) h
/-- the slots that a callee is handed -/
theorem rel_args {K : Kw} {B H : Hp} {σ : L2.St} {ρ : En} {vs : List V} {ars : List Ar} (r : Rel K B H σ ρ) (p : Paired (ArOk K.K B σ) vs ars) (hd : dist ars = true) (ho : ownAll ρ ars) : Rel K B H (vs.map some) (ars.map (Ar.sl ρ)) := by
  have at_ : ∀ (i : Nat) s, (ars.map (Ar.sl ρ))[i]? = some s → (∃ d, ars[i]? = some (Ar.da d) ∧ s = .dat d) ∨ (∃ m a o, ars[i]? = some (Ar.ow m) ∧ ρ[m]? = some (.own a o) ∧ s = .own a o) := fun i s h => by
    rw [List.getElem?_map] at h
    cases e : ars[i]? with
    | none =>
      rw [e] at h
      cases h
    | some a =>
      rw [e] at h
      cases a with
      | da d => exact .inl ⟨d, rfl, by cases h; rfl⟩
      | ow m =>
        obtain ⟨a, o, h1⟩ := own_get ho e
        refine .inr ⟨m, a, o, rfl, h1, ?_⟩
        have h' : (ρ[m]?).getD .no = s := Option.some.inj h
        rw [h1] at h'
        exact h'.symm
  refine ⟨r.ex, by rw [List.length_map, List.length_map]; exact (Paired.length p).symm, fun i d hi => ?_, fun i a o hi => ?_, fun i j a o o' hi hj => ?_⟩
  · rcases at_ i _ hi with ⟨d', h1, h2⟩ | ⟨m, a, o, h1, h2, h3⟩
    · cases h2
      obtain ⟨v, hv, q⟩ := pair_get p h1
      exact ⟨v, by rw [List.getElem?_map, hv]; rfl, q⟩
    · cases h3
  · rcases at_ i _ hi with ⟨d', h1, h2⟩ | ⟨m, a', o', h1, h2, h3⟩
    · cases h2
    · cases h3
      obtain ⟨v, hv, q⟩ := pair_get p h1
      obtain ⟨q1, q2, u, q3, q4⟩ := r.own m a o h2
      have q' : σ[m]? = some (some v) := q
      rw [q1] at q'
      cases q'
      exact ⟨by rw [List.getElem?_map, hv]; rfl, q2, u, q3, q4⟩
  · rcases at_ i _ hi with ⟨d', h1, h2⟩ | ⟨m, a1, o1, h1, h2, h3⟩
    · cases h2
    · rcases at_ j _ hj with ⟨d', k1, k2⟩ | ⟨m', a2, o2, k1, k2, k3⟩
      · cases k2
      · cases h3
        cases k3
        have e := r.dis m m' a o o' h2 k2
        subst e
        exact dist_eq hd h1 k1
theorem sl_own {ρ : En} {ars : List Ar} {j i : Nat} {a : Addr} {o : OD} (h : ars[j]? = some (Ar.ow i)) (q : (ars.map (Ar.sl ρ))[j]? = some (.own a o)) : ρ[i]? = some (.own a o) := by
  rw [List.getElem?_map, h] at q
  have q' : (ρ[i]?).getD .no = .own a o := Option.some.inj q
  cases e : ρ[i]? with
  | none =>
    rw [e] at q'
    cases q'
  | some s =>
    rw [e] at q'
    exact congrArg some q'
/-- behind a call: the caller's slots -/
theorem rel_back {K : Kw} {B H B' H' : Hp} {σ : L2.St} {ρ : En} {vs : List V} {ars : List Ar} {as' : List Sl} (r : Rel K B H σ ρ) (p : Paired (ArOk K.K B σ) vs ars) (ho : ownAll ρ ars) (u : Upd (ars.map (Ar.sl ρ)) as') (g : Go B H (ars.map (Ar.sl ρ)) B' H' as') (r' : Rel K B' H' (vs.map some) as') :
    Go B H ρ B' H' (put ρ ars as') ∧ Rel K B' H' σ (put ρ ars as') := by
  have hl : as'.length = ars.length := by rw [u.len, List.length_map]
  have up : ∀ (j i : Nat) s, ars[j]? = some (Ar.ow i) → as'[j]? = some s → ∃ a o o', s = .own a o' ∧ ρ[i]? = some (.own a o) := fun j i s h1 h2 => by
    rcases u.get j s h2 with ⟨a, o, o', e, q⟩ | ⟨q, no⟩
    · exact ⟨a, o, o', e, sl_own h1 q⟩
    · obtain ⟨a, o, h3⟩ := own_get ho h1
      rw [List.getElem?_map, h1] at q
      have q' : (ρ[i]?).getD .no = s := Option.some.inj q
      rw [h3] at q'
      exact absurd q'.symm (no a o)
  have asOwn : ∀ a, Own (ars.map (Ar.sl ρ)) a → Own ρ a := fun a ⟨j, o, h⟩ => by
    cases e : ars[j]? with
    | none =>
      rw [List.getElem?_map, e] at h
      cases h
    | some x =>
      cases x with
      | da d =>
        rw [List.getElem?_map, e] at h
        cases h
      | ow m => exact ⟨m, o, sl_own e h⟩
  have notArg : ∀ (i : Nat) a o, (∀ j : Nat, ars[j]? ≠ some (Ar.ow i)) → ρ[i]? = some (.own a o) → ¬ Own (ars.map (Ar.sl ρ)) a := fun i a o no h ⟨j, o', q⟩ => by
    cases e : ars[j]? with
    | none =>
      rw [List.getElem?_map, e] at q
      cases q
    | some x =>
      cases x with
      | da d =>
        rw [List.getElem?_map, e] at q
        cases q
      | ow m =>
        have := r.dis i m a o o' h (sl_own e q)
        subst this
        exact no j e
  refine ⟨⟨g.ex, fun a o h n => g.keep a o h fun z => n (asOwn a z), fun a h1 h2 n => g.out a h1 h2 fun z => n (asOwn a z), fun a ⟨i, o, h⟩ => .inl ?_, g.dom⟩, ⟨r'.ex, by rw [put_len]; exact r.len, fun i d hi => ?_, fun i a o hi => ?_, fun i j a o o' hi hj => ?_⟩⟩
  · rcases put_get hl i _ h with ⟨j, h1, h2⟩ | ⟨h1, h2⟩
    · obtain ⟨a', o1, o2, e, q⟩ := up j i _ h1 h2
      cases e
      exact ⟨i, o1, q⟩
    · exact ⟨i, o, h2⟩
  · rcases put_get hl i _ hi with ⟨j, h1, h2⟩ | ⟨h1, h2⟩
    · obtain ⟨a', o1, o2, e, q⟩ := up j i _ h1 h2
      cases e
    · obtain ⟨v, h3, h4⟩ := r.dat i d h2
      exact ⟨v, h3, Dp.mono g.ex h4⟩
  · rcases put_get hl i _ hi with ⟨j, h1, h2⟩ | ⟨h1, h2⟩
    · obtain ⟨q1, q2, uu, q3, q4⟩ := r'.own j a o h2
      obtain ⟨v, hv, q⟩ := pair_get p h1
      rw [List.getElem?_map, hv] at q1
      cases q1
      exact ⟨q, q2, uu, q3, q4⟩
    · obtain ⟨q1, q2, uu, q3, q4⟩ := r.own i a o h2
      have na := notArg i a o h1 h2
      exact ⟨q1, g.out a (by rw [q3]; exact fun z => by cases z) q2 na, uu, g.keep a _ q3 na, OD.mono g.ex q4⟩
  · rcases put_get hl i _ hi with ⟨i1, h1, h2⟩ | ⟨h1, h2⟩
    · rcases put_get hl j _ hj with ⟨j1, k1, k2⟩ | ⟨k1, k2⟩
      · have := r'.dis i1 j1 a o o' h2 k2
        subst this
        rw [h1] at k1
        cases k1
        rfl
      · obtain ⟨a', o1, o2, e, q⟩ := up i1 i _ h1 h2
        cases e
        exact r.dis i j a o1 o' q k2
    · rcases put_get hl j _ hj with ⟨j1, k1, k2⟩ | ⟨k1, k2⟩
      · obtain ⟨a', o1, o2, e, q⟩ := up j1 j _ k1 k2
        cases e
        exact r.dis i j a o o1 h2 q
      · exact r.dis i j a o o' h2 k2
end Vc

/-! Vh, part F: try within an except suite, its body knows of what is being handled (own work). -/
namespace VhX
open PySem PySem.Spec PyProof.Rows HotX L2 L2H
theorem try_onlyH {X : Cx} {x : Str} {c : Value} {body suite : List Stmt} {b₀ : Stmt} {np pos pos' : Pos} {tb : WX → TS} {ts : Addr → Value → Option Addr → TS} {Wout : WX} (hs : X.stack = X.env :: X.outer) (hf : X.env.frame = some X.env.locals) (hc : Names X x c) (tk : L2.Takes X Wout)
    (hb : ∀ (W : WX) (pn : List (Addr × Obj)) (xe : Value → Shared → Prop), (∀ q ∈ X.pn, q ∈ pn) → L2.Takes (X.tr pn xe) W → PassesOwn (model X.prog X.w) X.A X.env xe → PSs (X.tr pn xe) body (tb W))
    (hsu : ∀ (a : Addr) (oe : Obj) (cls : Value) (d : Option Addr) (pn : List (Addr × Obj)), Zc cls d oe → (∃ vs, oe.data = .fields vs) → PSs (X.suite a ((a, oe) :: pn)) (b₀ :: suite) (ts a cls d)) :
    PS X (.Try body [.ExceptHandler (some (.Name x np)) none (b₀ :: suite) pos'] [] [] pos) (fun D σ H => tb (wOnly X.K c ts Wout D) D σ H) := ⟨fun pins s σ H D I h => by
  have ok := I.ok
  have hfr : X.A.frames = some (X.env :: X.outer) := by rw [ok.frames, hs]
  refine wpAny_Try_except (wpAny_mono ((hb (wOnly X.K c ts Wout D) (X.pn ++ pins) (fun e s₁ => wpAny (model X.prog X.w) X.A (noteFrame e X.env) (fun _ s₂ => wpAny (model X.prog X.w) X.A (setFlight e none) (fun _ s₃ => wpAny (model X.prog X.w) X.A (handleBy e X.env [.ExceptHandler (some (.Name x np)) none (b₀ :: suite) pos']) (SP X pins D) X.xe s₃) X.xe s₂) X.xe s₁) (fun q hq => List.mem_append_left _ hq) (fun u s' xx => ?_) PassesOwn.looking).run [] s σ H D (I.toTry _) h) (fun f s1 hsp => ?_) (fun e s1 he => he))
  · obtain ⟨a, B, sI, pins', σ', H', cls, d, rfl, J', nb, up, sky, na, os, ag, b, hb1, hyes, hno⟩ := xx
    have J : Inv X pins σ' H' sI := J'.ofTry ok
    show wpAny (model X.prog X.w) X.A (noteFrame (.ref a) X.env) _ _ _
    refine Sky.land Zc.steady hfr hf (show Sky B (X.env :: X.outer) a (Zc cls d) X.env.locals s'.heap from hs ▸ sky) fun h3 fl3 up3 => ?_
    have J3 : Inv X pins σ' H' { s' with heap := h3 } := J.landed nb fl3.1 (up.trans up3) os ag
    obtain ⟨oe3, vs3, he3, hz3, hd3⟩ := fl3.there
    have nfr : a ∉ frs (X.env :: X.outer) := fun hm => by
      obtain ⟨_, o', e', hnf⟩ := fl3.2.2.1.mem hm
      rw [he3] at e'; cases e'; exact hnf _ hd3
    have nL : a ≠ X.env.locals := fun z => nfr (List.mem_filterMap.mpr ⟨X.env, List.mem_cons_self, by rw [hf, z]⟩)
    have nF : a ∉ X.fs := fun hm => let ⟨e, he, q⟩ := List.mem_filterMap.mp hm; nfr (List.mem_filterMap.mpr ⟨e, List.mem_cons_of_mem _ he, q⟩)
    have S3 := J3.suite he3 hd3 na nL nF
    refine wpAny_handleBy_cons (codeAny_handlers_test ?_) (by intro q; cases q)
    have LM := PySem.W.exm_one (M := model X.prog X.w) (J3.kIn) (fun A Q E s k q => wpAny_typeOf_ref (k _ _ he3) (by rw [hz3.1]; exact q)) hb1
    have test : ∀ {Q : Value → Shared → Prop} {E : Value → Shared → Prop}, Q c { s' with heap := h3 } → wpAny (model X.prog X.w) (X.A.mark (some (.ref a))) (eval (.Name x np) X.env) Q E { s' with heap := h3 } := fun {Q E} q => by
      rcases hc with ⟨hg, hdbg, hm | ⟨hm, hv, hnn⟩⟩
      · exact ld_glob (X := X.suite a ((a, oe3) :: (X.pn ++ pins))) S3 hg hm q hdbg
      · exact ld_blt (X := X.suite a ((a, oe3) :: (X.pn ++ pins))) S3 hg hm hv q hnn hdbg
    refine test (LM.here ?_)
    cases b with
    | true =>
      refine codeAny_handlers_suite (HandSPX.lands_againZ fl3 fun h4 fl4 up4 => ?_)
      have J4 : Inv X pins σ' H' { s' with heap := h4 } := J.landed nb fl4.1 ((up.trans up3).trans up4) os ag
      obtain ⟨oe4, vs4, he4, hz4, hd4⟩ := fl4.there
      refine wpAny_mono ((hsu a oe4 cls d (X.pn ++ pins) hz4 ⟨_, hd4⟩).run [] _ _ H' _ (J4.suite he4 hd4 na nL nF) (hyes rfl a na)) (fun f s6 hsp => ?_) (fun _ _ z => False.elim z)
      cases f <;> first
        | (obtain ⟨v6, σ6, H6, S6, r6, q6⟩ := hsp; exact ⟨_, _, _, S6.unsuite ok, r6, q6⟩)
        | (obtain ⟨σ6, H6, S6, q6⟩ := hsp; exact ⟨_, _, S6.unsuite ok, q6⟩)
    | false =>
      show wpAny _ X.A (handleBy (.ref a) X.env []) _ _ _
      obtain ⟨k1, k2, k3, oe, vs, T, oT, ts', he, hz, hd, h1, hr⟩ := id fl3
      refine wpAny_handleBy_nil ?_; unfold PySem.passOn
      refine wpAny_bind (wpAny_field he hd h1 ?_); rw [if_neg (by simp)]
      have fin : wpAny (model X.prog X.w) X.A (setFlight (.ref a) X.env.frame) (fun _ s4 => wpAny (model X.prog X.w) X.A (throw (.ref a) : Sem Flow) (SP X pins D) X.xe s4) X.xe { s' with heap := h3 } := by
        rw [hf]; exact HandSPX.setFlight_upZ fl3 fun h4 hh4 up4 => wpAny_throw (tk _ _ ⟨a, B, sI, pins, σ', H', cls, d, rfl, J, nb, (up.trans up3).trans up4, .inr (.inr (by rw [hs]; exact hh4)), na, os, ag, hno rfl⟩)
      first | exact wpAny_bind (wpAny_pure (wpAny_bind fin)) | exact wpAny_bind fin
  · cases f with
    | next => obtain ⟨σ', H', J', q⟩ := hsp; exact wpAny_execs_nil ⟨σ', H', J'.ofTry ok, q⟩
    | brk => obtain ⟨σ', H', J', q⟩ := hsp; exact ⟨σ', H', J'.ofTry ok, q⟩
    | cont => obtain ⟨σ', H', J', q⟩ := hsp; exact ⟨σ', H', J'.ofTry ok, q⟩
    | ret u => obtain ⟨v, σ', H', J', r, q⟩ := hsp; exact ⟨v, σ', H', J'.ofTry ok, r, q⟩⟩
end VhX

/-! Vc, part Q: calls of defs that may raise; their making; try. -/
namespace Vc
open PySem PySem.Spec PyProof.Rows L2
open Evl (Ex)

/-- arguments, own things among them -/
structure VX (X : Cx) (es : List Expr) (ρ : En) (P : List Ar → En → Prop) : Prop where
  run : ∀ B H σ (Q : List V → Hp → Prop), Rel (kwOf X) B H σ ρ →
  (∀ vs ars B' H' ρ', P ars ρ' → Paired (ArOk X.K B' σ) vs ars → Go B H ρ B' H' ρ' → Rel (kwOf X) B' H' σ ρ' → Q vs H') → aSem X es σ H Q
/-- what a def does: slots handed in; what it answers and leaves there, what it raises and leaves there -/
abbrev SX := List Sl → (D → List Sl → Prop) → (Er → List Sl → Prop) → Prop
def DSx (K : Kw) (n : Nat) (S : SX) : Sp := fun vs H Q E => ∃ B as W WX, Rel K B H (vs.map some) as ∧ as.length = n ∧ S as W WX ∧
  (∀ v d B' H' as', W d as' → Upd as as' → Dp K.K B' v d → Go B H as B' H' as' → Rel K B' H' (vs.map some) as' → Q v H') ∧
  (∀ (c : Er) dx B' H' as', WX c as' → ErOk K.K B' H' dx c → Upd as as' → Go B H as B' H' as' → Rel K B' H' (vs.map some) as' → E c.c dx H')
structure FnX (M : Md) (j : Nat) (x : Str) (n : Nat) (S : SX) : Prop where
  ex : ∃ f fd ps, FnA M (L2N.CX M.prog M.w) j f fd ps (DSx (kwM M) n S) ∧ M.mg x = some (.ref f) ∧ PySem.W.keepIn M.K (.ref f) = true ∧ Binds M.K fd ps []

section
variable {X : Cx} {M : Md} {sc : Scope} {NK : List (Str × Bool × Bool)} {G : List Str} {k : Nat} {ρ : En} {P : D → En → Prop} {PX : List Ar → En → Prop} {pos : Pos} {a b c e : Expr} {es rest : List Expr} {x y : Str} {F : Fin}
theorem vx_nil (p : PX [] ρ) : VX X [] ρ PX := ⟨fun B H σ Q r q => PA.sem pa_nil (q [] [] B H ρ p .nil Go.refl r)⟩
theorem vx_cons (h : VD X e ρ fun d ρ1 => VX X es ρ1 fun ars ρ2 => PX (.da d :: ars) ρ2) (hs : starEach (e :: es) X.env = (false, eval e X.env) :: starEach es X.env := by rfl) : VX X (e :: es) ρ PX := ⟨fun B H σ Q r q => by
  refine PA.sem (pa_cons pe_sem pa_sem hs) ?_
  refine h.run B H σ _ r fun v d B1 H1 ρ1 p1 dv g1 r1 => ?_
  exact p1.run B1 H1 σ _ r1 fun vs ars B2 H2 ρ2 p2 q2 g2 r2 => q (v :: vs) (.da d :: ars) B2 H2 ρ2 p2 (.cons (show ArOk X.K B2 σ v (.da d) from Dp.mono g2.ex dv) q2) (g1.trans g2) r2⟩
/-- a name whose slot has a thing of its own -/
theorem vx_own (C : Cst X M sc NK G k) {m : Nat} {l : Bool} {p : Addr} {o : OD} {py : Pos} (ha : At NK m (y, true, l)) (ho : ρ[m]? = some (.own p o)) (h : VX X es ρ fun ars ρ2 => PX (.ow m :: ars) ρ2)
    (hs : starEach (.Name y py :: es) X.env = (false, eval (.Name y py) X.env) :: starEach es X.env := by rfl) (hd : (y == ("__debug__" : Str)) = false := by decide) (hcd : (y == ("__classdict__" : Str)) = false := by decide) : VX X (.Name y py :: es) ρ PX := ⟨fun B H σ Q r q => by
  refine PA.sem (pa_cons (pe_var (C.ix ha) (C.vi ha) hd hcd) pa_sem hs) ?_
  have hv := (r.own m p o ho).1
  refine ⟨.ref p, hv, ?_⟩
  exact h.run B H σ _ r fun vs ars B2 H2 ρ2 p2 q2 g2 r2 => q (.ref p :: vs) (.ow m :: ars) B2 H2 ρ2 p2 (.cons (show ArOk X.K B2 σ (.ref p) (.ow m) from hv) q2) g2 r2⟩
/-- what a call asks -/
def calls (S : SX) (n : Nat) (ρ1 : En) (ars : List Ar) (W : D → En → Prop) (WX : Er → En → Prop) : Prop :=
  dist ars = true ∧ ownAll ρ1 ars ∧ ars.length = n ∧ S (ars.map (Ar.sl ρ1)) (fun d as' => W d (put ρ1 ars as')) (fun c as' => WX c (put ρ1 ars as'))
theorem passHN : ∀ σ, PassesAt (L2N.CX X.prog X.w) X σ E0 := fun σ _ _ _ e s' _ c => by
  obtain ⟨_, _, _, _, _, _, _, _, _, _, _, _, w⟩ := c
  exact w.elim
/-- the call of a def that may raise, where nothing is being handled and where an error is -/
theorem pe_callM (C : Cst X M sc NK G k) {j i : Nat} {f : Addr} {fd : FuncData} {ps : List Str} {sp : Sp} {E : L2.St → XK} {t : TA} {p : Pos} (Fo : FnA M (L2N.CX M.prog M.w) j f fd ps sp) (hg : At G i x) (hm : M.mg x = some (.ref f)) (hk : PySem.W.keepIn M.K (.ref f) = true) (hb : Binds M.K fd ps [])
    (h1 : X.calm = true → ∀ σ, PassesAt (L2N.CX X.prog X.w) X σ (E σ)) (h2 : X.calm = false → ∀ σ, PassesAt (L2.CX X.prog X.w) X σ (E σ)) (ha : PA X (e :: es) t) (hj : j ≤ k)
    (hdb : (x == ("__debug__" : Str)) = false) (he : starEach (e :: es) X.env = (false, eval e X.env) :: starEach es X.env) (hpl : (backTo pos (starEach es X.env)).any (·.1) = false) : PE X (.Call (.Name x p) (e :: es) [] pos) (tCallS sp E t) := by
  have eM := C.m
  subst eM
  cases hX : X.calm with
  | true => exact pe_callS (E := E) (Fo.cold (C.calmOf hX)) ((C.rm hX).mono hj) (C.g hg) hm hk hb (h1 hX) ha hdb he hpl
  | false => exact L2H.pe_callH (E := E) (Fo.hot (C.hotOf hX)) (C.room.mono hj) (C.hotc hX) (C.g hg) hm hk hb (h2 hX) ha hdb he hpl
/-- f(..), f raises nothing here -/
theorem vd_callX (C : Cst X M sc NK G k) {j n : Nat} {S : SX} {i : Nat} {p : Pos} (Fn : FnX M j x n S) (hg : At G i x) (h : VX X (e :: es) ρ fun ars ρ1 => calls S n ρ1 ars P fun _ _ => False) (hj : j ≤ k := by decide)
    (hdb : (x == ("__debug__" : Str)) = false := by decide) (he : starEach (e :: es) X.env = (false, eval e X.env) :: starEach es X.env := by rfl) (hpl : (backTo pos (starEach es X.env)).any (·.1) = false := by rfl) : VD X (.Call (.Name x p) (e :: es) [] pos) ρ P := VD.mk fun B H σ Q r q => by
  have eM := C.m
  subst eM
  obtain ⟨f, fd, ps, Fo, hm, hk, hb⟩ := Fn.ex
  refine PE.sem (pe_callM C (E := fun _ => E0) Fo hg hm hk hb (fun _ => passHN) (fun _ => passH) pa_sem hj hdb he hpl) ?_
  refine h.run B H σ _ r fun vs ars B1 H1 ρ1 ⟨c1, c2, c3, c4⟩ pr g1 r1 => ?_
  refine ⟨B1, _, _, _, rel_args r1 pr c1 c2, by rw [List.length_map]; exact c3, c4, fun v d B2 H2 as' w u dv g2 r2 => ?_, fun _ _ _ _ _ w _ _ _ _ => w.elim⟩
  obtain ⟨g3, r3⟩ := rel_back r1 pr c2 u g2 r2
  exact q v d B2 H2 _ w dv (g1.trans g3) r3
/-- f(..) as a row, f may raise -/
theorem vs_callX (C : Cst X M sc NK G k) {j n : Nat} {S : SX} {i : Nat} {p spos : Pos} (Fn : FnX M j x n S) (hg : At G i x) (h : VX X (e :: es) ρ fun ars ρ1 => calls S n ρ1 ars (fun _ => F.nx) F.ex) (hj : j ≤ k := by decide)
    (hs : swapsWith (.Call (.Name x p) (e :: es) [] pos) none spos.line X.env = pure false := by rfl) (hdb : (x == ("__debug__" : Str)) = false := by decide) (he : starEach (e :: es) X.env = (false, eval e X.env) :: starEach es X.env := by rfl) (hpl : (backTo pos (starEach es X.env)).any (·.1) = false := by rfl) : VS X (.Expr (.Call (.Name x p) (e :: es) [] pos) spos) ρ F := VS.mk fun B H σ Z r f => by
  have eM := C.m
  subst eM
  obtain ⟨fa, fd, ps, Fo, hm, hk, hb⟩ := Fn.ex
  refine PS.sem (ps_expr (pe_callM C (E := WE Z.e) Fo hg hm hk hb (fun hX σ => L2N.passAt (Z.tk.1 hX) σ) (fun hX σ => L2.passAt (Z.tk.2 hX) σ) pa_sem hj hdb he hpl) hs) ?_
  refine h.run B H σ _ r fun vs ars B1 H1 ρ1 ⟨c1, c2, c3, c4⟩ pr g1 r1 => ?_
  refine ⟨B1, _, _, _, rel_args r1 pr c1 c2, by rw [List.length_map]; exact c3, c4, fun v d B2 H2 as' w u dv g2 r2 => ?_, fun c1 dx B2 H2 as' w k2 u g2 r2 => ?_⟩
  · obtain ⟨g3, r3⟩ := rel_back r1 pr c2 u g2 r2
    exact f.nx B2 H2 σ _ w (g1.trans g3) r3
  · obtain ⟨g3, r3⟩ := rel_back r1 pr c2 u g2 r2
    exact f.ex c1 dx B2 H2 σ _ w k2 (g1.trans g3) r3
/-- name = f(..), f may raise -/
theorem vs_setX (C : Cst X M sc NK G k) {j n : Nat} {S : SX} {i m : Nat} {v : Bool} {p py spos : Pos} (Fn : FnX M j x n S) (hg : At G i x) (ha : At NK m (y, v, true)) (h : VX X (e :: es) ρ fun ars ρ1 => calls S n ρ1 ars (fun d ρ2 => F.nx (ρ2.set m (.dat d))) F.ex) (hj : j ≤ k := by decide)
    (hs : swapsWith (.Call (.Name x p) (e :: es) [] pos) (some (.Name y py)) spos.line X.env = pure false := by rfl) (hdb : (x == ("__debug__" : Str)) = false := by decide) (he : starEach (e :: es) X.env = (false, eval e X.env) :: starEach es X.env := by rfl) (hpl : (backTo pos (starEach es X.env)).any (·.1) = false := by rfl) : VS X (.Assign [.Name y py] (.Call (.Name x p) (e :: es) [] pos) spos) ρ F := VS.mk fun B H σ Z r f => by
  have eM := C.m
  subst eM
  obtain ⟨fa, fd, ps, Fo, hm, hk, hb⟩ := Fn.ex
  refine PS.sem (ps_set C.nd (C.ix ha) (C.lo ha) (pe_callM C (E := WE Z.e) Fo hg hm hk hb (fun hX σ => L2N.passAt (Z.tk.1 hX) σ) (fun hX σ => L2.passAt (Z.tk.2 hX) σ) pa_sem hj hdb he hpl) hs (C.fn ha)) ?_
  refine h.run B H σ _ r fun vs ars B1 H1 ρ1 ⟨c1, c2, c3, c4⟩ pr g1 r1 => ?_
  refine ⟨B1, _, _, _, rel_args r1 pr c1 c2, by rw [List.length_map]; exact c3, c4, fun v d B2 H2 as' w u dv g2 r2 => ?_, fun c1 dx B2 H2 as' w k2 u g2 r2 => ?_⟩
  · obtain ⟨g3, r3⟩ := rel_back r1 pr c2 u g2 r2
    exact f.nx B2 H2 _ _ w ((g1.trans g3).trans go_set) (rel_set r3 dv)
  · obtain ⟨g3, r3⟩ := rel_back r1 pr c2 u g2 r2
    exact f.ex c1 dx B2 H2 σ _ w k2 (g1.trans g3) r3
end

/-! ### making them -/
section
variable {M : Md} {x : Str} {st : Stmt} {f : Addr} {fd : FuncData} {N ps : List Str} {NK : List (Str × Bool × Bool)} {G : List Str} {k n : Nat}
theorem cst_defX {P : Program} {w : World} {K : PySem.W.Frag} {mg : Str → Option Value} {base : Heap} {N : List Str} {qual : Str} {sc : Scope} {f : Addr} {cdv : Value} {A : Around} {outer : List Env} {s : Shared} {H : Hp} {E : XK}
    (hN : N = NK.map (·.1)) (nd : N.Nodup) (h : chk sc true NK G = true) (hr : Room k (A.deeper (envOfC qual sc s.heap.objs.size f cdv))) : Cst (cxOf (L2N.CX P w) P w K mg base N qual sc f cdv A outer s H E) ⟨P, w, K, mg, base, !true⟩ sc NK G k :=
  cst_own (CX' := L2N.CX P w) (E := E) (cm := true) hN nd h (L2H.roomH_of hr) (passes_of (X := cxOf (L2N.CX P w) P w K mg base N qual sc f cdv A outer s H E) rfl) (fun e => nomatch e) fun _ => hr.hd
theorem slots_getX {as : En} {m i : Nat} {s : Sl} (h : (as ++ List.replicate m Sl.no)[i]? = some s) : (i < as.length ∧ as[i]? = some s) ∨ s = .no := by
  by_cases hi : i < as.length
  · rw [List.getElem?_append_left hi] at h
    exact .inl ⟨hi, h⟩
  · rw [List.getElem?_append_right (by omega), List.getElem?_replicate] at h
    split at h
    · cases h
      exact .inr rfl
    · cases h
theorem rel_startX {K : Kw} {B H : Hp} {vs : List V} {as : En} (r : Rel K B H (vs.map some) as) (hl : as.length ≤ N.length) : Rel K B H (L2.start N vs) (as ++ List.replicate (N.length - as.length) Sl.no) := by
  have l0 := r.len
  rw [List.length_map] at l0
  have tell : ∀ {i : Nat} {v : V}, (vs.map some)[i]? = some (some v) → (L2.start N vs)[i]? = some (some v) := fun {i v} h => by
    unfold L2.start
    rw [List.getElem?_append_left (List.getElem?_eq_some_iff.mp h).1]
    exact h
  refine ⟨r.ex, ?_, fun i d hi => ?_, fun i a o hi => ?_, fun i j a o o' hi hj => ?_⟩
  · unfold L2.start
    rw [List.length_append, List.length_append, List.length_map, List.length_replicate, List.length_replicate, l0]
  · rcases slots_getX hi with ⟨_, q⟩ | q
    · obtain ⟨v, h1, h2⟩ := r.dat i d q
      exact ⟨v, tell h1, h2⟩
    · cases q
  · rcases slots_getX hi with ⟨_, q⟩ | q
    · obtain ⟨h1, h2⟩ := r.own i a o q
      exact ⟨tell h1, h2⟩
    · cases q
  · rcases slots_getX hi with ⟨_, q⟩ | q
    · rcases slots_getX hj with ⟨_, q'⟩ | q'
      · exact r.dis i j a o o' q q'
      · cases q'
    · cases q
theorem back_out {K : Kw} {B H B' H' : Hp} {vs : List V} {σ' : L2.St} {as : List Sl} {m : Nat} {ρ' : En} (r : Rel K B H (vs.map some) as) (kp : kept as ρ') (g : Go B H (as ++ List.replicate m Sl.no) B' H' ρ') (r' : Rel K B' H' σ' ρ') :
    Go B H as B' H' (endOf as ρ') ∧ Rel K B' H' (vs.map some) (endOf as ρ') := by
  have own_iff : ∀ a, Own (as ++ List.replicate m Sl.no) a → Own as a := fun a ⟨i, o, h⟩ => by
    rcases slots_getX h with ⟨_, q⟩ | q
    · exact ⟨i, o, q⟩
    · cases q
  refine ⟨⟨g.ex, fun a o h n => g.keep a o h fun z => n (own_iff a z), fun a h1 h2 n => g.out a h1 h2 fun z => n (own_iff a z), fun a ⟨i, o, h⟩ => .inl ?_, g.dom⟩, ⟨r'.ex, by rw [end_len]; exact r.len, fun i d hi => ?_, fun i a o hi => ?_, fun i j a o o' hi hj => ?_⟩⟩
  · rcases end_get kp i _ h with ⟨a1, o1, o2, e, q, _⟩ | ⟨_, no⟩
    · cases e
      exact ⟨i, o1, q⟩
    · exact absurd rfl (no a o)
  · rcases end_get kp i _ hi with ⟨a1, o1, o2, e, q, _⟩ | ⟨q, _⟩
    · cases e
    · obtain ⟨v, h1, h2⟩ := r.dat i d q
      exact ⟨v, h1, Dp.mono g.ex h2⟩
  · rcases end_get kp i _ hi with ⟨a1, o1, o2, e, q, q2⟩ | ⟨_, no⟩
    · cases e
      exact ⟨(r.own i a o1 q).1, (r'.own i a o q2).2⟩
    · exact absurd rfl (no a o)
  · rcases end_get kp i _ hi with ⟨a1, o1, o2, e, q, _⟩ | ⟨_, no⟩
    · cases e
      rcases end_get kp j _ hj with ⟨a2, o3, o4, e2, q2, _⟩ | ⟨_, no⟩
      · cases e2
        exact r.dis i j a o1 o3 q q2
      · exact absurd rfl (no a o')
    · exact absurd rfl (no a o)
/-- the ends of a def's body -/
theorem Fun.okN {P : Program} {w : World} {K : PySem.W.Frag} {mg : Str → Option Value} {base : Heap} {x qual : Str} {st : Stmt} {f : Addr} {fd : FuncData} {N ps : List Str} {k : Nat} {sp : Sp} (F : Fun K x qual st f fd) (S : FnScope N ps (defScope st)) (len : ∀ vs H Q E, sp vs H Q E → vs.length = ps.length)
    (hbody : ∀ (cdv : Value) (A : Around) (outer : List Env) (s : Shared) (H : Hp) (vs : List V) (Q : VK) (E : XK), Room k (A.deeper (envOfC qual (defScope st) s.heap.objs.size f cdv)) → sp vs H Q E →
      ∃ t, PSs (cxOf (L2N.CX P w) P w K mg base N qual (defScope st) f cdv A outer s H E) (defBody st) t ∧ t { nx := fun _ H' => Q .non H', rt := Q } (L2.start N vs) H) : FnOk P w K mg base (L2N.CX P w) (k + 1) f fd ps sp := by
  obtain ⟨oc, od, kV, doc, pm, an, cdv, ct, osl, rfl, lk, hcd⟩ := F.ex
  exact fn_of lk hcd S len fun A outer s H vs Q E hr hsp => hbody cdv A outer s H vs Q E hr hsp
theorem takes_cold {P : Program} {w : World} {K : PySem.W.Frag} {mg : Str → Option Value} {base : Heap} {N : List Str} {qual : Str} {sc : Scope} {f : Addr} {cdv : Value} {A : Around} {outer : List Env} {s : Shared} {H : Hp} {E : XK} : TakesM (cxOf (L2N.CX P w) P w K mg base N qual sc f cdv A outer s H E) (fun c d σ H => E c d H) :=
  ⟨fun _ => L2N.takes_of rfl rfl rfl rfl, fun e => absurd (show true = false from e) (by decide)⟩
theorem takes_hot {P : Program} {w : World} {K : PySem.W.Frag} {mg : Str → Option Value} {base : Heap} {N : List Str} {qual : Str} {sc : Scope} {f : Addr} {cdv : Value} {A : Around} {outer : List Env} {s : Shared} {H : Hp} {E : XK} {p : Addr × Obj} : TakesM (L2H.cxH (L2.CX P w) P w K mg base N qual sc f cdv A outer s H E p) (fun c d σ H => E c d H) :=
  ⟨fun e => absurd (show false = true from e) (by decide), fun _ => L2.takes_of rfl rfl rfl rfl⟩
def finX (as : List Sl) (W : D → List Sl → Prop) (WX : Er → List Sl → Prop) : Fin where
  nx := fun ρ' => kept as ρ' ∧ W .none (endOf as ρ')
  rt := fun d ρ' => kept as ρ' ∧ W d (endOf as ρ')
  ex := fun c ρ' => kept as ρ' ∧ WX c (endOf as ρ')
theorem body_slots {S : SX} {X : Cx} {as : List Sl} {vs : List V} {B H : Hp} {W : D → List Sl → Prop} {WX : Er → List Sl → Prop} {Q : VK} {E : XK} (hKW : kwOf X = kwM M) (hnN : n ≤ N.length) (tk : TakesM X fun c d σ H => E c d H) (r : Rel (kwM M) B H (vs.map some) as) (hl : as.length = n)
    (bd : VSs X (defBody st) (as ++ List.replicate (N.length - n) Sl.no) (finX as W WX))
    (q1 : ∀ v d B' H' as', W d as' → Upd as as' → Dp M.K B' v d → Go B H as B' H' as' → Rel (kwM M) B' H' (vs.map some) as' → Q v H') (q2 : ∀ c dx B' H' as', WX c as' → ErOk M.K B' H' dx c → Upd as as' → Go B H as B' H' as' → Rel (kwM M) B' H' (vs.map some) as' → E c.c dx H') :
    ssSem X (defBody st) { nx := fun _ H' => Q .non H', rt := Q } (L2.start N vs) H := by
  have r0 := rel_startX (N := N) r (by omega)
  rw [hl, ← hKW] at r0
  have eK : X.K = M.K := congrArg Kw.K hKW
  refine bd.run B H _ ⟨_, fun c d σ H => E c d H, tk⟩ r0 ⟨fun B' H' σ' ρ' p g r' => ?_, fun v dd B' H' σ' ρ' p dv g r' => ?_, fun _ _ _ _ p => p.elim, fun _ _ _ _ p => p.elim, fun c d B' H' σ' ρ' p kk g r' => ?_⟩
  · rw [hKW] at r'
    obtain ⟨g1, r1⟩ := back_out r p.1 g r'
    exact q1 .non .none B' H' _ p.2 (end_upd p.1) .non g1 r1
  · rw [hKW] at r' dv
    obtain ⟨g1, r1⟩ := back_out r p.1 g r'
    exact q1 v dd B' H' _ p.2 (end_upd p.1) dv g1 r1
  · rw [hKW] at r' kk
    obtain ⟨g1, r1⟩ := back_out r p.1 g r'
    exact q2 c d B' H' _ p.2 kk (end_upd p.1) g1 r1
theorem fnX_mkT0 {S : SX} {q : Str} (T : Cx → Prop) (hT1 : ∀ {cdv : Value} {A : Around} {outer : List Env} {s : Shared} {H : Hp} {E : XK}, T (cxOf (L2N.CX M.prog M.w) M.prog M.w M.K M.mg M.base N q (defScope st) f cdv A outer s H E)) (hT2 : ∀ {cdv : Value} {A : Around} {outer : List Env} {s : Shared} {H : Hp} {E : XK} {p : Addr × Obj}, T (L2H.cxH (L2.CX M.prog M.w) M.prog M.w M.K M.mg M.base N q (defScope st) f cdv A outer s H E p))
    (F : Fun M.K x q st f fd) (Sc : FnScope N ps (defScope st)) (hN : N = NK.map (·.1)) (hc : chk (defScope st) true NK G = true) (hn : ps.length = n) (hnN : n ≤ N.length)
    (body : ∀ X, Cst X M (defScope st) NK G k → T X → ∀ as W WX, as.length = n → S as W WX → VSs X (defBody st) (as ++ List.replicate (N.length - n) Sl.no) (finX as W WX)) : FnA M (L2N.CX M.prog M.w) (k + 1) f fd ps (DSx (kwM M) n S) := by
  have len : ∀ vs H Q E, DSx (kwM M) n S vs H Q E → vs.length = ps.length := fun vs H Q E h => by
    obtain ⟨B, as, W, WX, r, hl, _⟩ := h
    have := r.len
    rw [List.length_map] at this
    rw [← this, hl, hn]
  refine ⟨fun hM => ?_, fun hM => ?_⟩
  · refine Fun.okN F Sc len (fun cdv A outer s H vs Q E hr h => ?_)
    obtain ⟨B, as, W, WX, r, hl, hS, q1, q2⟩ := h
    have C : Cst (cxOf (L2N.CX M.prog M.w) M.prog M.w M.K M.mg M.base N q (defScope st) f cdv A outer s H E) M (defScope st) NK G k := by
      have := cst_defX (P := M.prog) (w := M.w) (K := M.K) (mg := M.mg) (base := M.base) (outer := outer) (s := s) (H := H) (E := E) (qual := q) (f := f) (cdv := cdv) hN Sc.nd hc hr
      rw [← md_cold hM] at this
      exact this
    exact ⟨_, pss_sem, body_slots (S := S) (n := n) rfl hnN takes_cold r hl (body _ C hT1 as W WX hl hS) q1 q2⟩
  · refine Fun.okH F Sc len (fun cdv A outer s H vs Q E p h1 hr h => ?_)
    obtain ⟨B, as, W, WX, r, hl, hS, q1, q2⟩ := h
    have C : Cst (L2H.cxH (L2.CX M.prog M.w) M.prog M.w M.K M.mg M.base N q (defScope st) f cdv A outer s H E p) M (defScope st) NK G k := by
      have := cst_hot (P := M.prog) (w := M.w) (K := M.K) (mg := M.mg) (base := M.base) (outer := outer) (s := s) (H := H) (E := E) (qual := q) (f := f) (cdv := cdv) hN Sc.nd hc hr h1
      rw [← md_hot hM] at this
      exact this
    exact ⟨_, pss_sem, body_slots (S := S) (n := n) rfl hnN takes_hot r hl (body _ C hT2 as W WX hl hS) q1 q2⟩
theorem fnX_mk {S : SX} (F : Fun M.K x x st f fd) (Sc : FnScope N ps (defScope st)) (hm : M.mg x = some (.ref f)) (b : Binds M.K fd ps []) (hN : N = NK.map (·.1)) (hc : chk (defScope st) true NK G = true) (hn : ps.length = n) (hnN : n ≤ N.length)
    (body : ∀ X, Cst X M (defScope st) NK G k → ∀ as W WX, as.length = n → S as W WX → VSs X (defBody st) (as ++ List.replicate (N.length - n) Sl.no) (finX as W WX)) : FnX M (k + 1) x n S :=
  ⟨f, fd, ps, fnX_mkT0 (fun _ => True) trivial trivial F Sc hN hc hn hnN (fun X C _ => body X C), hm, F.kp, b⟩
end

/-! ### try: .. except x: .. -/
/-- the context of a def's own rows -/
structure Top (X : Cx) : Prop where
  hs : X.stack = X.env :: X.outer
  hf : X.env.frame = some X.env.locals
section
variable {X : Cx} {M : Md} {sc : Scope} {NK : List (Str × Bool × Bool)} {G : List Str} {k : Nat} {ρ : En} {pos np pos' : Pos} {x : Str} {F : Fin} {c : Value} {body suite : List Stmt} {b₀ : Stmt}
theorem Cst.tr (C : Cst X M sc NK G k) {pn : List (Addr × Obj)} {xe : Value → Shared → Prop} (po : PassesOwn (model X.prog X.w) X.A X.env xe) (hp : X.calm = false → ∀ q ∈ X.pn, q ∈ pn) : Cst (X.tr pn xe) M sc NK G k :=
  ⟨C.m, C.s, C.n, C.vis, C.loc, C.gl, C.nd, fun e => let ⟨p, h1, h2⟩ := C.hotc e; ⟨p, h1, hp e p h2⟩, C.cold, C.room, po⟩
theorem vs_try (C : Cst X M sc NK G k) (t : Top X) (hc : Names X x c)
    (h : ∀ X', Cst X' M sc NK G k → VSs X' body ρ { F with ex := fun c1 ρ1 => ∃ b, PySem.W.exmOne M.K c1.c c = some b ∧ (b = true → ∀ X'', kwOf X'' = kwOf X → VSs X'' (b₀ :: suite) ρ1 { F with ex := fun _ _ => False }) ∧ (b = false → F.ex c1 ρ1) }) :
    VS X (.Try body [.ExceptHandler (some (.Name x np)) none (b₀ :: suite) pos'] [] [] pos) ρ F := VS.mk fun B H σ Z r f => by
  have eM := C.m
  subst eM
  cases hX : X.calm with
  | true =>
    let ts : Addr → Value → Option Addr → TS := fun a cls d D σ H => ∀ oe pn, L2N.Zn cls d oe → (∃ vs, oe.data = .fields vs) → ssSem (X.suite a ((a, oe) :: pn)) (b₀ :: suite) D σ H
    let tb : WX → TS := fun W D σ H => ∀ pn xe, L2N.Takes (X.tr pn xe) W → PassesOwn (model X.prog X.w) X.A X.env xe → ssSem (X.tr pn xe) body D σ H
    refine PS.sem (L2N.ps_try_many (tb := tb) (l := [(c, ts)]) (Wout := Z.e) t.hs t.hf (Z.tk.1 hX) (fun W pn xe tk po => ⟨fun pins s σ H D I hh => hh pn xe tk po pins s I⟩) (.cons hc (fun a oe cls d pn hz hd => ⟨fun pins s σ H D I hh => hh oe pn hz hd pins s I⟩) .nil)) ?_
    intro pn xe tk po
    have C' := C.tr (pn := pn) (xe := xe) po (fun e => absurd (hX.symm.trans e) (by decide))
    refine (h _ C').run B H σ ⟨Z.z, wMany X.K Z.e Z.z [(c, ts)], ⟨fun _ => tk, fun e => absurd (hX.symm.trans e) (by decide)⟩⟩ r ⟨f.nx, f.rt, f.bk, f.ct, fun c1 d B1 H1 σ1 ρ1 p kk g1 r1 => ?_⟩
    obtain ⟨b, hb, h1, h0⟩ := p
    refine ⟨b, hb, fun e a na oe pn2 hz hd => ?_, fun e => ?_⟩
    · exact (h1 e (X.suite a ((a, oe) :: pn2)) rfl).run B1 H1 σ1 ⟨Z.z, fun _ _ _ _ => False, takesN⟩ r1 ⟨(f.go g1).nx, (f.go g1).rt, (f.go g1).bk, (f.go g1).ct, fun _ _ _ _ _ _ z => z.elim⟩
    · exact f.ex c1 d B1 H1 σ1 ρ1 (h0 e) kk g1 r1
  | false =>
    let ts : Addr → Value → Option Addr → TS := fun a cls d D σ H => ∀ oe pn, Zc cls d oe → (∃ vs, oe.data = .fields vs) → ssSem (X.suite a ((a, oe) :: pn)) (b₀ :: suite) D σ H
    let tb : WX → TS := fun W D σ H => ∀ pn xe, (∀ q ∈ X.pn, q ∈ pn) → L2.Takes (X.tr pn xe) W → PassesOwn (model X.prog X.w) X.A X.env xe → ssSem (X.tr pn xe) body D σ H
    refine PS.sem (VhX.try_onlyH (tb := tb) (ts := ts) (Wout := Z.e) t.hs t.hf hc (Z.tk.2 hX) (fun W pn xe hp tk po => ⟨fun pins s σ H D I hh => hh pn xe hp tk po pins s I⟩) (fun a oe cls d pn hz hd => ⟨fun pins s σ H D I hh => hh oe pn hz hd pins s I⟩)) ?_
    intro pn xe hp tk po
    have C' := C.tr (pn := pn) (xe := xe) po (fun _ => hp)
    refine (h _ C').run B H σ ⟨Z.z, wOnly X.K c ts Z.e Z.z, ⟨fun e => absurd (hX.symm.trans e) (by decide), fun _ => tk⟩⟩ r ⟨f.nx, f.rt, f.bk, f.ct, fun c1 d B1 H1 σ1 ρ1 p kk g1 r1 => ?_⟩
    obtain ⟨b, hb, h1, h0⟩ := p
    refine ⟨b, hb, fun e a na oe pn2 hz hd => ?_, fun e => ?_⟩
    · exact (h1 e (X.suite a ((a, oe) :: pn2)) rfl).run B1 H1 σ1 ⟨Z.z, fun _ _ _ _ => False, takesN⟩ r1 ⟨(f.go g1).nx, (f.go g1).rt, (f.go g1).bk, (f.go g1).ct, fun _ _ _ _ _ _ z => z.elim⟩
    · exact f.ex c1 d B1 H1 σ1 ρ1 (h0 e) kk g1 r1
/-- the same program while an error is being handled -/
abbrev Md.heat (M : Md) : Md := ⟨M.prog, M.w, M.K, M.mg, M.base, true⟩
/-- try: .. except x: suite, the suite runs while the error is being handled -/
theorem vs_tryHot [Cold M] (C : Cst X M sc NK G k) (t : Top X) (hc : Names X x c)
    (h : ∀ X', Cst X' M sc NK G k → VSs X' body ρ { F with ex := fun c1 ρ1 => ∃ b, PySem.W.exmOne M.K c1.c c = some b ∧ (b = true → ∀ X'', Cst X'' M.heat sc NK G k → VSs X'' (b₀ :: suite) ρ1 { F with ex := fun _ _ => False }) ∧ (b = false → F.ex c1 ρ1) }) :
    VS X (.Try body [.ExceptHandler (some (.Name x np)) none (b₀ :: suite) pos'] [] [] pos) ρ F := VS.mk fun B H σ Z r f => by
  have hX := C.calm
  have eM := C.m
  subst eM
  let ts : Addr → Value → Option Addr → TS := fun a cls d D σ H => ∀ oe pn, L2N.Zn cls d oe → (∃ vs, oe.data = .fields vs) → ssSem (X.suite a ((a, oe) :: pn)) (b₀ :: suite) D σ H
  let tb : WX → TS := fun W D σ H => ∀ pn xe, L2N.Takes (X.tr pn xe) W → PassesOwn (model X.prog X.w) X.A X.env xe → ssSem (X.tr pn xe) body D σ H
  refine PS.sem (L2N.ps_try_many (tb := tb) (l := [(c, ts)]) (Wout := Z.e) t.hs t.hf (Z.tk.1 hX) (fun W pn xe tk po => ⟨fun pins s σ H D I hh => hh pn xe tk po pins s I⟩) (.cons hc (fun a oe cls d pn hz hd => ⟨fun pins s σ H D I hh => hh oe pn hz hd pins s I⟩) .nil)) ?_
  intro pn xe tk po
  have C' := C.tr (pn := pn) (xe := xe) po (fun e => absurd (hX.symm.trans e) (by decide))
  refine (h _ C').run B H σ ⟨Z.z, wMany X.K Z.e Z.z [(c, ts)], ⟨fun _ => tk, fun e => absurd (hX.symm.trans e) (by decide)⟩⟩ r ⟨f.nx, f.rt, f.bk, f.ct, fun c1 d B1 H1 σ1 ρ1 p kk g1 r1 => ?_⟩
  obtain ⟨b, hb, h1, h0⟩ := p
  refine ⟨b, hb, fun e a na oe pn2 hz hd => ?_, fun e => ?_⟩
  · obtain ⟨vs, hv⟩ := hd
    have CH : Cst (X.suite a ((a, oe) :: pn2)) (mdOf X).heat sc NK G k := ⟨rfl, C.s, C.n, C.vis, C.loc, C.gl, C.nd, fun _ => ⟨(a, oe), ⟨rfl, vs, hv, hz.2.2 vs hv⟩, List.mem_cons_self⟩, (fun e => absurd (show false = true from e) (by decide)), ⟨C.room.dp, C.room.un⟩, PassesOwn.never⟩
    exact (h1 e _ CH).run B1 H1 σ1 ⟨Z.z, fun _ _ _ _ => False, takesN⟩ r1 ⟨(f.go g1).nx, (f.go g1).rt, (f.go g1).bk, (f.go g1).ct, fun _ _ _ _ _ _ z => z.elim⟩
  · exact f.ex c1 d B1 H1 σ1 ρ1 (h0 e) kk g1 r1
/-- raise .. -/
theorem vs_raise (C : Cst X M sc NK G k) {e : Expr} {t : L2.St → Hp → XK → Prop} (he : L2N.PMk X e t) (h : ∀ B H σ (Q : XK), Rel (kwOf X) B H σ ρ → (∀ (c1 : Er) d B1 H1 ρ1, F.ex c1 ρ1 → ErOk X.K B1 H1 d c1 → Go B H ρ B1 H1 ρ1 → Rel (kwOf X) B1 H1 σ ρ1 → Q c1.c d H1) → t σ H Q) : VS X (.Raise (some e) none pos) ρ F := VS.mk fun B H σ Z r f => by
  have key : ∀ {D : Ends}, t σ H (fun cls d H' => Z.e cls d σ H') → sSem X (.Raise (some e) none pos) D σ H := fun {D} q => by
    cases hX : X.calm with
    | true => exact PS.sem (L2N.ps_raise hX (Z.tk.1 hX) he) q
    | false => exact PS.sem (L2H.ps_raiseH (C.hotc hX) (Z.tk.2 hX) he) q
  exact key (h B H σ _ r fun c1 d B1 H1 ρ1 p kk g1 r1 => f.ex c1 d B1 H1 σ ρ1 p kk g1 r1)
end

open PySem PySem.Spec PyProof.Rows L2
open Evl (Ex)
def getS (es : List (Str × D)) (z : Str) : Option D := (es.find? fun e => decide (e.1 = z)).map (·.2)
abbrev zipS (es : List (Str × D)) (vs : List V) : List (Key × V) := List.zipWith (fun e v => ((Sum.inr e.1 : Key), v)) es vs
theorem valS {K : PySem.W.Frag} {B : Hp} {z : Str} : ∀ {es : List (Str × D)} {vs : List V}, DpAll K B vs (es.map (·.2)) →
    (∀ d, getS es z = some d → ∃ v, valV (zipS es vs) (.inr z) = some v ∧ Dp K B v d) ∧ (getS es z = none → valV (zipS es vs) (.inr z) = none)
  | [], _, .nil => ⟨fun d h => (nomatch h), fun _ => rfl⟩
  | e :: es, v :: vs, .cons h1 h2 => by
    obtain ⟨i1, i2⟩ := valS (z := z) (es := es) h2
    unfold getS valV zipS at i1 i2 ⊢
    rw [List.zipWith_cons_cons, List.find?_cons, List.find?_cons]
    by_cases q : e.1 = z
    · have e2 : decide ((Sum.inr e.1 : Key) = Sum.inr z) = true := decide_eq_true (by rw [q])
      rw [e2, decide_eq_true q]
      exact ⟨fun d hd => by cases hd; exact ⟨v, rfl, h1⟩, fun h => nomatch h⟩
    · have e2 : decide ((Sum.inr e.1 : Key) = Sum.inr z) = false := decide_eq_false fun w => q (Sum.inr.inj w)
      rw [e2, decide_eq_false q]
      exact ⟨i1, i2⟩
theorem zipS_any {K : PySem.W.Frag} {B : Hp} {z : Str} {es : List (Str × D)} {vs : List V} (h : DpAll K B vs (es.map (·.2))) (hn : getS es z = none) : (zipS es vs).any (fun kv => decide (kv.1 = Sum.inr z)) = false := by
  rw [valV_any, (valS h).2 hn]
  rfl
theorem zipS_app {K : PySem.W.Frag} {B : Hp} {e0 : Str × D} {v0 : V} : ∀ {es : List (Str × D)} {vs : List V}, DpAll K B vs (es.map (·.2)) → zipS es vs ++ [(Sum.inr e0.1, v0)] = zipS (es ++ [e0]) (vs ++ [v0])
  | [], _, .nil => rfl
  | e :: es, v :: vs, .cons _ h2 => congrArg (_ :: ·) (zipS_app (es := es) h2)
section
variable {X : Cx} {M : Md} {sc : Scope} {NK : List (Str × Bool × Bool)} {G : List Str} {k : Nat} {ρ : En} {P : D → En → Prop} {PB : Bool → En → Prop} {PL : List D → En → Prop} {pos : Pos} {tg e a b : Expr} {x y : Str} {F : Fin}
/-- name = {} -/
theorem vs_newDt (C : Cst X M sc NK G k) {i : Nat} {v : Bool} {p dpos : Pos} (ha : At NK i (x, v, true)) (hi : i < ρ.length) (h : ∀ z, F.nx (ρ.set i (.own z (.dt []))))
    (hs : swapsWith (.Dict [] [] dpos) (some (.Name x p)) pos.line X.env = pure false := by rfl) : VS X (.Assign [.Name x p] (.Dict [] [] dpos) pos) ρ F := VS.mk fun B H σ Z r f => by
  refine PS.sem (ps_set C.nd (C.ix ha) (C.lo ha) pe_dnewK hs (C.fn ha)) ?_
  intro z hz
  obtain ⟨r1, g1, bz⟩ := new_one (o := .dK []) r hz
  obtain ⟨g2, r2⟩ := own_newO (i := i) (ds := .dt []) hi hz upd_same bz (not_own r hz) ⟨[], .nil, rfl⟩ g1 r1
  exact f.nx _ _ _ _ (h z) g2 r2
/-- e in d, d a dict of one's own by texts -/
theorem vt_inDt (C : Cst X M sc NK G k) {i : Nat} {l : Bool} {px : Pos} (ha : At NK i (x, true, l))
    (h : VD X e ρ fun d ρ1 => ∃ (z : Str) (p : Addr) (es : List (Str × D)), d = .str z ∧ ρ1[i]? = some (.own p (.dt es)) ∧ PB (getS es z).isSome ρ1)
    (hd : (x == ("__debug__" : Str)) = false := by decide) (hcd : (x == ("__classdict__" : Str)) = false := by decide) (hm : behindInMarks .In (.Name x px) = false := by first | exact nobehind _ (by decide) (by decide) | rfl) : VT X (.Compare e [.In] [.Name x px] pos) ρ PB := VT.mk fun B H σ Q r q => by
  have hu := C.hu
  refine PT.sem (pt_cmp (pc_din (by omega) pe_sem (pe_var (C.ix ha) (C.vi ha) hd hcd)) hm) ?_
  refine h.run B H σ _ r fun v d B1 H1 ρ1 p1 dv g1 r1 => ?_
  obtain ⟨z, p, es, rfl, ho1, pp⟩ := p1
  obtain ⟨s1, _, _, h3, vs, dvs, rfl⟩ := r1.own i p _ ho1
  obtain ⟨w1, w2⟩ := valS (z := z) (es := es) dvs
  have eo : (valV (zipS es vs) (.inr z)).isSome = (getS es z).isSome := by
    cases e0 : getS es z with
    | none =>
      rw [w2 e0]
      rfl
    | some d =>
      obtain ⟨v0, hv0, _⟩ := w1 d e0
      rw [hv0]
      rfl
  refine ⟨.ref p, s1, p, _, rfl, .inl ⟨_, .inr z, .inl h3, dp_str dv, rfl⟩, ?_⟩
  rw [eo]
  exact ⟨_, rfl, q _ B1 H1 ρ1 pp g1 r1⟩
/-- d.get(e), d a dict of one's own by texts -/
theorem vd_getDt (C : Cst X M sc NK G k) {i : Nat} {l : Bool} {px ap : Pos} {p0 : Addr} {es0 : List (Str × D)} (ha : At NK i (x, true, l)) (ho : ρ[i]? = some (.own p0 (.dt es0)))
    (h : VD X e ρ fun d ρ1 => ∃ (z : Str) (p : Addr) (es : List (Str × D)), p = p0 ∧ d = .str z ∧ ρ1[i]? = some (.own p (.dt es)) ∧ P ((getS es z).getD .none) ρ1)
    (m1 : M1 X (.Name x px) "get" ap e pos := by exact ⟨rfl, rfl, rfl, rfl⟩)
    (hd : (x == ("__debug__" : Str)) = false := by decide) (hcd : (x == ("__classdict__" : Str)) = false := by decide) : VD X (.Call (.Attribute (.Name x px) "get" ap) [e] [] pos) ρ P := VD.mk fun B H σ Q r q => by
  have hu := C.hu
  refine PE.sem (pe_dget1 (by omega) (pe_var (C.ix ha) (C.vi ha) hd hcd) pe_sem m1) ?_
  obtain ⟨s0, _, _, h30, vs0, _, rfl⟩ := r.own i p0 _ ho
  refine ⟨.ref p0, s0, p0, rfl, .inl ⟨_, .inl h30⟩, ?_⟩
  refine h.run B H σ _ r fun v d B1 H1 ρ1 p1 dv g1 r1 => ?_
  obtain ⟨z, p, es, rfl, rfl, ho1, pp⟩ := p1
  obtain ⟨s1, _, _, h3, vs, dvs, rfl⟩ := r1.own i p _ ho1
  obtain ⟨w1, w2⟩ := valS (z := z) (es := es) dvs
  refine ⟨_, .inl ⟨_, .inr z, .inl h3, dp_str dv, rfl⟩, ?_⟩
  cases e0 : getS es z with
  | none =>
    rw [e0] at pp
    have := w2 e0
    unfold zipS at this
    rw [this]
    exact q _ _ B1 H1 ρ1 pp .non g1 r1
  | some d =>
    rw [e0] at pp
    obtain ⟨v0, hv0, dv0⟩ := w1 d e0
    unfold zipS at hv0
    rw [hv0]
    exact q _ _ B1 H1 ρ1 pp dv0 g1 r1
/-- d[b] = e, d a dict of one's own by texts, b not there -/
theorem vs_putDt (C : Cst X M sc NK G k) {i : Nat} {l : Bool} {p : Addr} {es0 : List (Str × D)} {px p2 : Pos} (ha : At NK i (x, true, l)) (ho : ρ[i]? = some (.own p (.dt es0)))
    (h : VD X e ρ fun d ρ1 => VD X b ρ1 fun y ρ2 => ∃ (z : Str) (es : List (Str × D)), y = .str z ∧ ρ2[i]? = some (.own p (.dt es)) ∧ getS es z = none ∧ es.length ≤ 100000 ∧ F.nx (ρ2.set i (.own p (.dt (es ++ [(z, d)])))))
    (hs : swapsWithSole [.Subscript (.Name x px) b p2] e pos.line X.env = pure false := by rfl) (hw : swappedStores [.Subscript (.Name x px) b p2] e X.env = pure none := by rfl) (h1 : (assignEach [.Subscript (.Name x px) b p2] X.env).map (·.2) = [assign (.Subscript (.Name x px) b p2) X.env] := by rfl)
    (hd : (x == ("__debug__" : Str)) = false := by decide) (hcd : (x == ("__classdict__" : Str)) = false := by decide)
    (hg : ∀ v, assign (.Subscript (.Name x px) b p2) X.env v = (do
      let ov ← holding [v] (eval (.Name x px) X.env)
      let iv ← holding [v, ov] (eval b X.env)
      standAt p2
      holding [v, ov, iv] (setItem ov iv v)
      release [v, ov, iv] []) := by intro _; rfl) : VS X (.Assign [.Subscript (.Name x px) b p2] e pos) ρ F := VS.mk fun B H σ Z r f => by
  have hu := C.hu
  refine PS.sem (ps_asg pe_sem (pg_sub (pe_var (C.ix ha) (C.vi ha) hd hcd) pe_sem (set_dict (by omega)) hg) hs hw h1) ?_
  refine h.run B H σ _ r fun v d B1 H1 ρ1 p1 dv g1 r1 => ⟨.ref p, (r.own i p _ ho).1, ?_⟩
  refine p1.run B1 H1 σ _ r1 fun vy y B2 H2 ρ2 p2 dy g2 r2 => ?_
  obtain ⟨z, es, rfl, ho2, hn, hl, pp⟩ := p2
  obtain ⟨_, bp, _, h3, vs, dvs, rfl⟩ := r2.own i p _ ho2
  have sl := sizeLine_eq
  have hlz : (zipS es vs).length ≤ 100000 := by
    rw [List.length_zipWith]
    omega
  have eput : putK (zipS es vs) (.inr z) v = zipS (es ++ [(z, d)]) (vs ++ [v]) := by
    unfold putK
    rw [zipS_any dvs hn, if_neg (by decide)]
    exact zipS_app (e0 := (z, d)) dvs
  obtain ⟨r3, g3⟩ := own_writeO (u' := .dK (zipS (es ++ [(z, d)]) (vs ++ [v]))) (cs' := .dt (es ++ [(z, d)])) r2 ho2 ⟨vs ++ [v], by
      rw [List.map_append]
      exact DpAll.app dvs (.cons (Dp.mono g2.ex dv) .nil), rfl⟩
  refine ⟨p, upd H2 p (.dK (zipS (es ++ [(z, d)]) (vs ++ [v]))), rfl, .inl ⟨_, .inr z, h3, dp_str dy, by unfold zipS at hlz; omega, ?_⟩, f.nx B2 _ σ _ pp ((g1.trans g2).trans g3) r3⟩
  rw [← eput]
/-! ### texts -/
theorem does_lenS : Does X (.builtin "len") (fun ds W => ∃ z : Str, ds = [.str z] ∧ z.length ≤ 100000 ∧ W (.int z.length)) := fun B H vs ds W Q e h s q => by
  obtain ⟨z, rfl, hl, w⟩ := s
  cases h with
  | cons h1 h2 =>
    cases h2
    have sl := sizeLine_eq
    exact CallR.sem call_len_str ⟨z, by rw [dp_str h1], by omega, q _ _ B H w (.int _) (Ex.refl B) e (Ex.refl H) fun _ _ b => b⟩
/-- a[b], a a text -/
theorem vd_ixS (h : VD X a ρ fun x ρ1 => VD X b ρ1 fun y ρ2 => ∃ (z : Str) (i : Int) (c : Nat), x = .str z ∧ y = .int i ∧ z.length ≤ 100000 ∧ atI z.cps.toList i = some c ∧ P (.str ⟨#[c]⟩) ρ2) (hs : PlainIx b := by exact fun _ _ => rfl) : VD X (.Subscript a b pos) ρ P := VD.mk fun B H σ Q r q => by
  refine PE.sem (pe_ix ix_str pe_sem pe_sem hs) ?_
  refine h.run B H σ _ r fun vx x B1 H1 ρ1 p1 dx g1 r1 => ?_
  refine p1.run B1 H1 σ _ r1 fun vy y B2 H2 ρ2 p2 dy g2 r2 => ?_
  obtain ⟨z, i, c, rfl, rfl, hl, hc, pp⟩ := p2
  have sl := sizeLine_eq
  exact ⟨z, i, c, dp_str dx, dp_int dy, by omega, hc, q _ _ B2 H2 ρ2 pp (.str _) (g1.trans g2) r2⟩
/-- one sign in a text -/
theorem vd_inSg (h : VD X a ρ fun x ρ1 => VD X b ρ1 fun y ρ2 => ∃ (c : Nat) (z : Str), x = .str ⟨#[c]⟩ ∧ y = .str z ∧ P (.bool (decide (c ∈ z.cps.toList))) ρ2) (hm : behindInMarks .In b = false := by first | exact nobehind _ (by decide) (by decide) | rfl) : VD X (.Compare a [.In] [b] pos) ρ P := VD.mk fun B H σ Q r q => by
  refine PE.sem (pe_cmpR op_in_sign pe_sem pe_sem hm) ?_
  refine h.run B H σ _ r fun vx x B1 H1 ρ1 p1 dx g1 r1 => ?_
  refine p1.run B1 H1 σ _ r1 fun vy y B2 H2 ρ2 p2 dy g2 r2 => ?_
  obtain ⟨c, z, rfl, rfl, pp⟩ := p2
  exact ⟨c, z, dp_str dx, dp_str dy, q _ _ B2 H2 ρ2 pp (.bl _) (g1.trans g2) r2⟩
theorem vt_inSg (h : VD X a ρ fun x ρ1 => VD X b ρ1 fun y ρ2 => ∃ (c : Nat) (z : Str), x = .str ⟨#[c]⟩ ∧ y = .str z ∧ PB (decide (c ∈ z.cps.toList)) ρ2) (hm : behindInMarks .In b = false := by first | exact nobehind _ (by decide) (by decide) | rfl) : VT X (.Compare a [.In] [b] pos) ρ PB := VT.mk fun B H σ Q r q => by
  refine PT.sem (pt_cmpR op_in_sign pe_sem pe_sem hm) ?_
  refine h.run B H σ _ r fun vx x B1 H1 ρ1 p1 dx g1 r1 => ?_
  refine p1.run B1 H1 σ _ r1 fun vy y B2 H2 ρ2 p2 dy g2 r2 => ?_
  obtain ⟨c, z, rfl, rfl, pp⟩ := p2
  exact ⟨c, z, dp_str dx, dp_str dy, _, rfl, q _ B2 H2 ρ2 pp (g1.trans g2) r2⟩
theorem inV_strs {K : PySem.W.Frag} {B : Hp} {x : Str} : ∀ {ws : List Str} {vs : List V}, DpAll K B vs (ws.map PyData.str) → inV (.str x) vs = decide (x ∈ ws) ∧ vs.all flatV = true
  | [], _, .nil => ⟨by unfold inV; simp, rfl⟩
  | w :: ws, _, .cons (v := v) h hs => by
    obtain ⟨h1, h2⟩ := inV_strs (x := x) (ws := ws) hs
    have hv := dp_str h
    subst hv
    refine ⟨?_, ?_⟩
    · unfold inV at h1 ⊢
      rw [List.any_cons, h1]
      by_cases e : w = x
      · subst e
        simp [eqV]
      · have e2 : ¬ x = w := fun z => e z.symm
        simp [eqV, e, e2]
    · rw [List.all_cons, h2]
      rfl
/-- a text in, not in a tuple or a list of texts -/
theorem vd_inTx (h : VD X a ρ fun x ρ1 => VD X b ρ1 fun y ρ2 => ∃ (z : Str) (ws : List Str), x = .str z ∧ (y = .tuple (ws.map PyData.str) ∨ y = .list (ws.map PyData.str)) ∧ P (.bool (decide (z ∈ ws))) ρ2) (hm : behindInMarks .In b = false := by first | exact nobehind _ (by decide) (by decide) | rfl) : VD X (.Compare a [.In] [b] pos) ρ P := VD.mk fun B H σ Q r q => by
  refine PE.sem (pe_cmpR op_in_seq pe_sem pe_sem hm) ?_
  refine h.run B H σ _ r fun vx x B1 H1 ρ1 p1 dx g1 r1 => ?_
  refine p1.run B1 H1 σ _ r1 fun vy y B2 H2 ρ2 p2 dy g2 r2 => ?_
  obtain ⟨z, ws, rfl, hy, pp⟩ := p2
  have dx' := dp_str dx
  subst dx'
  rcases hy with rfl | rfl
  · obtain ⟨t, vs, rfl, hT, hv⟩ := dp_tup dy
    obtain ⟨e1, e2⟩ := inV_strs (x := z) hv
    refine ⟨t, vs, rfl, .inr (ex_t r2.ex hT), rfl, e2, ?_⟩
    rw [if_neg Bool.false_ne_true, e1]
    exact q _ _ B2 H2 ρ2 pp (.bl _) (g1.trans g2) r2
  · obtain ⟨t, vs, rfl, hT, hv⟩ := dp_lst dy
    obtain ⟨e1, e2⟩ := inV_strs (x := z) hv
    refine ⟨t, vs, rfl, .inl (ex_l r2.ex hT), rfl, e2, ?_⟩
    rw [if_neg Bool.false_ne_true, e1]
    exact q _ _ B2 H2 ρ2 pp (.bl _) (g1.trans g2) r2
theorem vd_notInTx (h : VD X a ρ fun x ρ1 => VD X b ρ1 fun y ρ2 => ∃ (z : Str) (ws : List Str), x = .str z ∧ (y = .tuple (ws.map PyData.str) ∨ y = .list (ws.map PyData.str)) ∧ P (.bool (!decide (z ∈ ws))) ρ2) (hm : behindInMarks .NotIn b = false := by first | exact nobehind _ (by decide) (by decide) | rfl) : VD X (.Compare a [.NotIn] [b] pos) ρ P := VD.mk fun B H σ Q r q => by
  refine PE.sem (pe_cmpR op_notIn_seq pe_sem pe_sem hm) ?_
  refine h.run B H σ _ r fun vx x B1 H1 ρ1 p1 dx g1 r1 => ?_
  refine p1.run B1 H1 σ _ r1 fun vy y B2 H2 ρ2 p2 dy g2 r2 => ?_
  obtain ⟨z, ws, rfl, hy, pp⟩ := p2
  have dx' := dp_str dx
  subst dx'
  rcases hy with rfl | rfl
  · obtain ⟨t, vs, rfl, hT, hv⟩ := dp_tup dy
    obtain ⟨e1, e2⟩ := inV_strs (x := z) hv
    refine ⟨t, vs, rfl, .inr (ex_t r2.ex hT), rfl, e2, ?_⟩
    rw [if_pos rfl, e1]
    exact q _ _ B2 H2 ρ2 pp (.bl _) (g1.trans g2) r2
  · obtain ⟨t, vs, rfl, hT, hv⟩ := dp_lst dy
    obtain ⟨e1, e2⟩ := inV_strs (x := z) hv
    refine ⟨t, vs, rfl, .inl (ex_l r2.ex hT), rfl, e2, ?_⟩
    rw [if_pos rfl, e1]
    exact q _ _ B2 H2 ρ2 pp (.bl _) (g1.trans g2) r2
/-- the signs of a text, one by one -/
def sgs (z : Str) : List D := z.cps.toList.map fun c => PyData.str ⟨#[c]⟩
theorem vi_str (h : VD X e ρ fun d ρ1 => ∃ z, d = .str z ∧ PL (sgs z) ρ1) : VI X tg e ρ PL := VI.mk fun B H σ R r q => by
  refine PI.sem2 (pi_str pe_sem) (VhX.pih_str pe_sem) ?_
  refine h.run B H σ _ r fun v d B1 H1 ρ1 p1 dv g1 r1 => ?_
  obtain ⟨z, rfl, pp⟩ := p1
  refine ⟨z, dp_str dv, q _ (sgs z) B1 H1 ρ1 pp (fun j B2 H2 e1 e2 => ⟨fun hj => ?_, fun hj => ?_⟩) g1 r1⟩
  · have hj' : j < z.cps.size := by
      unfold sgs at hj
      rw [List.length_map, Array.length_toList] at hj
      exact hj
    refine ⟨hj', fun x H' y => ?_⟩
    obtain ⟨rfl, c, hc, rfl⟩ := y
    refine ⟨rfl, _, ?_, .str _⟩
    unfold sgs
    rw [List.getElem?_map, Array.getElem?_toList, hc]
    rfl
  · unfold sgs at hj
    rw [List.length_map, Array.length_toList] at hj
    exact hj
/-- a text that stands at the top -/
theorem vd_gstr (C : Cst X M sc NK G k) {i : Nat} {z : Str} {t : Tok} (hg : At G i x) (hm : M.mg x = some (.str z t)) (p : P (.str z) ρ) (hd : (x == ("__debug__" : Str)) = false := by decide) : VD X (.Name x pos) ρ P := VD.mk fun B H σ Q r q =>
  PE.sem (pe_glob (C.g hg) (C.mg hm) (v := .str z) ⟨t, rfl⟩ hd) (q _ _ B H ρ p (.str z) Go.refl r)
/-- a tuple of texts that stands at the top -/
theorem vd_gtup (C : Cst X M sc NK G k) {i : Nat} {a0 : Addr} {ds : List D} (hg : At G i x) (hm : M.mg x = some (.ref a0)) (ht : ∀ B, Dp M.K B (.ref a0) (.tuple ds)) (p : P (.tuple ds) ρ) (hd : (x == ("__debug__" : Str)) = false := by decide) : VD X (.Name x pos) ρ P := VD.mk fun B H σ Q r q => by
  have eM := C.m
  subst eM
  exact PE.sem (pe_glob (C.g hg) (C.mg hm) (v := .ref a0) rfl hd) (q _ _ B H ρ p (ht B) Go.refl r)
end
end Vc

/-! Vc, part S: tuples of numbers and texts, one below the other. -/
namespace VcT
open PySem PyProof.Rows
abbrev Key := L2.Key
def IsK : Value → Key → Prop
  | v, .inl i => ∃ t, v = .int i t
  | v, .inr x => ∃ t, v = .str x t
/-- two things of a kind: the one below the other -/
def ltK : Key → Key → Bool
  | .inl i, .inl j => decide (i < j)
  | .inr x, .inr y => decide (x.cps.toList < y.cps.toList)
  | _, _ => false
def likeK : Key → Key → Bool
  | .inl _, .inl _ => true
  | .inr _, .inr _ => true
  | _, _ => false
/-- some: the places that are looked at hold things of a kind -/
def lexK : List Key → List Key → Option Bool
  | [], [] => some false
  | [], _ :: _ => some true
  | _ :: _, [] => some false
  | x :: xs, y :: ys => if x = y then lexK xs ys else if likeK x y = true then some (ltK x y) else none
theorem lexK_cons {x y : Key} {xs ys : List Key} : lexK (x :: xs) (y :: ys) = if x = y then lexK xs ys else if likeK x y = true then some (ltK x y) else none := rfl
inductive AreK : List Value → List Key → Prop where
  | nil : AreK [] []
  | cons {v : Value} {k : Key} {vs : List Value} {ks : List Key} : IsK v k → AreK vs ks → AreK (v :: vs) (k :: ks)
theorem AreK.length {vs : List Value} {ks : List Key} (h : AreK vs ks) : vs.length = ks.length := by
  induction h with
  | nil => rfl
  | cons _ _ ih => exact congrArg (· + 1) ih
theorem eqAtK (A : Around) (s : Shared) {v u : Value} {x y : Key} (hv : IsK v x) (hu : IsK u y) (hl : x = y ∨ likeK x y = true) : ∃ e, SeqAt.EqAt A s v u e ∧ (e = true ↔ x = y) := by
  cases x with
  | inl i =>
    cases y with
    | inl j =>
      obtain ⟨t, rfl⟩ := hv
      obtain ⟨t', rfl⟩ := hu
      exact ⟨(i == j), SeqAt.EqAt.int_int i t j t', by simp⟩
    | inr y => exact absurd hl (by simp [likeK])
  | inr x =>
    cases y with
    | inl j => exact absurd hl (by simp [likeK])
    | inr y =>
      obtain ⟨t, rfl⟩ := hv
      obtain ⟨t', rfl⟩ := hu
      exact ⟨(x == y), SeqAt.EqAt.str_str x t y t', by simp⟩
theorem rcK (A : Around) (s : Shared) {v u : Value} {x y : Key} (hv : IsK v x) (hu : IsK u y) (hl : likeK x y = true) (prog : Program) (w : World) (E : Value → Shared → Prop) (Q : Value → Shared → Prop) (h : Q (.bool (ltK x y)) s) :
    wpAny (model prog w) A (richCompare .Lt v u) Q E s := by
  cases x with
  | inl i =>
    cases y with
    | inl j =>
      obtain ⟨t, rfl⟩ := hv
      obtain ⟨t', rfl⟩ := hu
      exact (PyProof.Rows.lt_int h : wpAny (model prog w) A (compareOp .Lt (.int i t) (.int j t')) Q E s)
    | inr y => exact absurd hl (by simp [likeK])
  | inr x =>
    cases y with
    | inl j => exact absurd hl (by simp [likeK])
    | inr y =>
      obtain ⟨t, rfl⟩ := hv
      obtain ⟨t', rfl⟩ := hu
      exact (PyProof.Rows.lt_str h : wpAny (model prog w) A (compareOp .Lt (.str x t) (.str y t')) Q E s)
section
open PySem.SeqAt
open PySem.AutoSeq1 (wpAny_loadPart')
open PySem.MeetsSeq PySem.MeetsSeq2 PySem.MeetsSeq3
theorem meets_ltK (l b : Addr) (one two : Array Value) (n n2 : Nat) (dd dd2 : Option Addr) (sl sl2 : Array (Option Value)) (ns ms : List Key) (r : Bool) (hi : AreK one.toList ns) (hj : AreK two.toList ms) (hr : lexK ns ms = some r) :
    Meets (Builtin.«tuple.__lt__» ⟨[.ref l, .ref b], []⟩)
      (fun _ R s => s.heap.get? l = some { cls := .type "tuple", dict := dd, data := .seq one n, slots := sl } ∧ s.heap.get? b = some { cls := .type "tuple", dict := dd2, data := .seq two n2, slots := sl2 } ∧
        R (.ok (.ret (.bool r))) s) :=
  .of_wp fun prog w A R s h => by
    obtain ⟨hp, g, d, tk, os⟩ := s
    obtain ⟨hl, hb, h⟩ := h
    have f2 := AutoSeq1.sub_tuple_tuple
    have z1 : one.size = ns.length := by rw [← hi.length]; simp
    have z2 : two.size = ms.length := by rw [← hj.length]; simp
    wp_walk using wpAny_loadPart' hl, wpAny_loadPart' hb, wpAny_forIn_list _ (fun rest b s' => b.1 = none ∧ s' = ⟨hp, g, d, tk, os⟩ ∧ ∃ (vs us : List Value) (xs ys : List Key), rest = vs.zip us ∧
      AreK vs xs ∧ AreK us ys ∧ xs.length + two.size = ys.length + one.size ∧ lexK xs ys = some r) _
    case turn =>
      rintro ⟨p, q⟩ rest b s' ⟨hb', rfl, vs, us, xs, ys, hz, hv, hu, hlen, hr1⟩
      cases hv with
      | nil =>
        rw [List.zip_nil_left] at hz
        cases hz
      | @cons v1 x vs' xs' kv hv =>
        cases hu with
        | nil =>
          rw [List.zip_nil_right] at hz
          cases hz
        | @cons u1 y us' ys' ku hu =>
          rw [List.zip_cons_cons] at hz
          injection hz with e1 e2
          injection e1 with e3 e4
          subst e3 e4
          rw [lexK_cons] at hr1
          simp only [List.length_cons] at hlen
          by_cases same : x = y
          · rw [if_pos same] at hr1
            obtain ⟨e, he, iff⟩ := eqAtK A.in1 ⟨hp, g, d, tk, os⟩ kv ku (.inl same)
            have et : e = true := iff.mpr same
            subst et
            refine wpAny_bind (he prog w _ _ ?_)
            wp_walk
            exact ⟨rfl, rfl, _, _, _, _, e2, hv, hu, by omega, hr1⟩
          · rw [if_neg same] at hr1
            by_cases like : likeK x y = true
            · rw [if_pos like] at hr1
              obtain ⟨e, he, iff⟩ := eqAtK A.in1 ⟨hp, g, d, tk, os⟩ kv ku (.inr like)
              have ef : e = false := by
                cases e with
                | false => rfl
                | true => exact absurd (iff.mp rfl) same
              subst ef
              refine wpAny_bind (he prog w _ _ ?_)
              have low := rcK A.in1 ⟨hp, g, d, tk, os⟩ kv ku like prog w
              wp_walk using low
              have er : ltK x y = r := Option.some.inj hr1
              exact ⟨_, rfl, by rw [← er] at h; simpa using h⟩
            · rw [if_neg like] at hr1
              cases hr1
    case fin =>
      rintro ⟨b1, b2⟩ s' ⟨hb', rfl, vs, us, xs, ys, hz, hv, hu, hlen, hr1⟩
      simp only at hb'
      subst hb'
      have hv : r = decide (one.size < two.size) := by
        cases hv with
        | nil =>
          cases hu with
          | nil =>
            simp only [List.length_nil] at hlen
            rw [← Option.some.inj (show some false = some r from hr1)]
            exact (decide_eq_false (by omega)).symm
          | cons _ _ =>
            simp only [List.length_nil, List.length_cons] at hlen
            rw [← Option.some.inj (show some true = some r from hr1)]
            exact (decide_eq_true (by omega)).symm
        | cons _ _ =>
          cases hu with
          | nil =>
            simp only [List.length_nil, List.length_cons] at hlen
            rw [← Option.some.inj (show some false = some r from hr1)]
            exact (decide_eq_false (by omega)).symm
          | cons _ _ =>
            rw [List.zip_cons_cons] at hz
            cases hz
      rw [hv] at h
      wp_walk
      exact ⟨_, rfl, by simpa [Builtin.Tuple.tupleCompareSizes] using h⟩
    case h =>
      exact ⟨rfl, rfl, one.toList, two.toList, ns, ms, rfl, hi, hj, by omega, hr⟩
end
section
variable {prog : Program} {w : World} {A : Around} {E : Value → Shared → Prop} {s : Shared}
theorem lt_tupK {l b : Addr} {one two : Array Value} {ns ms : List Key} {r : Bool} {Q : Value → Shared → Prop} (hl : IsTup s.heap l one) (hb : IsTup s.heap b two) (hi : AreK one.toList ns) (hj : AreK two.toList ms) (hr : lexK ns ms = some r)
    (hu : A.units < cLine) (h : Q (.bool r) s) : wpAny (model prog w) A (compareOp .Lt (.ref l) (.ref b)) Q E s := by
  obtain ⟨⟨c1, d1, q1, s1⟩, ho, hc, n, hd⟩ := id hl
  obtain ⟨⟨c2, d2, q2, s2⟩, ho2, hc2, n2, hd2⟩ := id hb
  simp only at hc hd hc2 hd2
  subst hc hd hc2 hd2
  exact richCompare_meets_room (op := .Lt) ⟨_, ho, rfl⟩ ⟨_, ho2, rfl⟩ PySem.F.slot_tuple_lt PySem.F.entry_tuple_lt (PySem.F.args_tuple_lt_2 _ _) (meets_ltK l b one two n n2 d1 d2 s1 s2 ns ms r hi hj hr)
    ⟨ho, ho2, show Value.bool r ≠ Value.notImplemented ∧ Q (.bool r) s from ⟨(fun z => nomatch z), h⟩⟩ hu
end
end VcT
namespace Vc
open PySem PySem.Spec PyProof.Rows L2
open Evl (Ex)
/-- numbers and texts as data -/
def dK : Key → D
  | .inl i => .int i
  | .inr x => .str x
section
variable {X : Cx} {M : Md} {sc : Scope} {NK : List (Str × Bool × Bool)} {G : List Str} {k : Nat} {ρ : En} {P : D → En → Prop} {pos : Pos} {a b : Expr}
theorem dps_keys {K : PySem.W.Frag} {B : Hp} : ∀ {ks : List Key} {vs : List V} {us : List Value}, DpAll K B vs (ks.map dK) → Vals vs us → VcT.AreK us ks
  | [], _, _, .nil, .nil => .nil
  | .inl i :: ks, _, _, .cons h hs, .cons r rs => .cons (by
      have e := dp_int h
      subst e
      exact r) (dps_keys hs rs)
  | .inr x :: ks, _, _, .cons h hs, .cons r rs => .cons (by
      have e := dp_str h
      subst e
      exact r) (dps_keys hs rs)
/-- a < b, tuples of numbers and texts -/
theorem vd_ltK (C : Cst X M sc NK G k) (h : VD X a ρ fun x ρ1 => VD X b ρ1 fun y ρ2 => ∃ (ns ms : List Key) (r : Bool), x = .tuple (ns.map dK) ∧ y = .tuple (ms.map dK) ∧ VcT.lexK ns ms = some r ∧ P (.bool r) ρ2) (hm : behindInMarks .Lt b = false := by first | exact nobehind _ (by decide) (by decide) | rfl) : VD X (.Compare a [.Lt] [b] pos) ρ P := VD.mk fun B H σ Q r q => by
  refine PE.sem (pe_cmpR or_sem pe_sem pe_sem hm) ?_
  refine h.run B H σ _ r fun vx x B1 H1 ρ1 p1 dx g1 r1 => ?_
  refine p1.run B1 H1 σ _ r1 fun vy y B2 H2 ρ2 p2 dy g2 r2 => ?_
  obtain ⟨ns, ms, bb, rfl, rfl, hr, pp⟩ := p2
  obtain ⟨t, vs, rfl, hT, hv⟩ := dp_tup dx
  obtain ⟨t2, vs2, rfl, hT2, hv2⟩ := dp_tup dy
  intro pins s σ' v u I rv ru
  cases rv
  cases ru
  obtain ⟨its, w1, pl, _⟩ := I.tuple (ex_t (g2.ex.trans r2.ex) hT)
  obtain ⟨its2, w2, pl2, _⟩ := I.tuple (ex_t r2.ex hT2)
  have hu := C.hu
  exact VcT.lt_tupK pl pl2 (dps_keys hv w1) (dps_keys hv2 w2) hr (by omega) ⟨.bl bb, H2, I, rfl, q _ _ B2 H2 ρ2 pp (.bl bb) (g1.trans g2) r2⟩
end
end Vc

/-! Vc, part T: a, *b = a tuple. -/
namespace VcU
open PySem PyProof.Rows
section
variable {prog : Program} {w : World} {A : Around} {E : Value → Shared → Prop} {s : Shared}
/-- a tuple's walker that has walked k steps -/
theorem walks_from {prog : Program} {w : World} {A : Around} (hh : A.handled = none) (I ax : Addr) (hne : ax ≠ I) (items : Array Value) (k : Nat) :
    WalksS prog w A I [I, ax] [I] (fun a b => b = a) (items.size - k) (fun i v => items[k + i]? = some v) (fun i s => s.heap.IsTupleIter I ax (k + i) ∧ s.heap.IsTuple ax items ∧ k ≤ items.size) where
  sub := fun b hb => by simp at hb; simp [hb]
  grefl := fun _ => rfl
  gtrans := fun a b c h1 h2 => h2.trans h1
  frame := fun i s h' tk st _ hk => ⟨st.1.at fun o e => hk I (by simp) o e, st.2.1.at fun o e => hk ax (by simp) o e, st.2.2⟩
  item := fun i s Q E hi st hQ => by
    have hlt : k + i < items.size := by omega
    refine wpAny_pyNext_tuple_item st.1 st.2.1 (x := items[k + i]) (by simp [hlt]) fun h' hit' hs' => ?_
    exact hQ _ { s with heap := h' } (by simp [hlt]) ⟨by rw [← Nat.add_assoc]; exact hit', st.2.1.extBut hs'.extBut hne, st.2.2⟩ ⟨fun b o hb e => hs'.extBut b o (fun h => hb (by simp [h])) e, rfl, rfl, rfl, Nat.le_refl _⟩
  done := fun s Q E st hQ => by
    have h0 := st.2.2
    refine wpAny_pyNext_tuple_end hh st.1 st.2.1 (by simp; omega) fun h' he' => hQ { s with heap := h' } ⟨fun b o hb e => he' b o (fun h => hb (by simp [h])) e, rfl, rfl, rfl, Nat.le_refl _⟩
  self := fun _ _ _ _ st hQ => wpAny_pyIter_tupleiter st.1 hQ
theorem unpack_star {t : Addr} {items : Array Value} {x : Value} {g1 g2 : Value → Sem Unit} {Q : Unit → Shared → Prop} (hh : A.handled = none) (ht : IsTup s.heap t items) (hx : items[0]? = some x) (hz : items.size ≤ sizeLine)
    (h : ∀ (s' : Shared), (∀ b o, s.heap.get? b = some o → s'.heap.get? b = some o) → s'.gens = s.gens → s'.drawn = s.drawn → s'.os = s.os →
      wpAny (model prog w) A (assignInOrder [g1, g2] [x, .ref s'.heap.objs.size]) Q E { s' with heap := s'.heap.push { cls := .type "list", data := .seq (items.toList.drop 1).toArray } }) :
    wpAny (model prog w) A (unpack (.ref t) [(false, g1), (true, g2)]) Q E s := by
  have hlt : t ≠ s.heap.objs.size := by obtain ⟨o, ho, _⟩ := ht; exact Nat.ne_of_lt (Heap.lt_size ho)
  have hp : 0 < items.size := by
    by_cases q : 0 < items.size
    · exact q
    · rw [Array.getElem?_eq_none (by omega)] at hx
      cases hx
  unfold unpack
  refine wpAny_bind (wpAny_holding ?_)
  show wpAny _ _ (unpackItems (.ref t) 2 (some 1)) _ _ _
  unfold unpackItems
  refine wpAny_bind ?_
  unfold notIterableAtAll
  refine wpAny_bind (wpAny_specialOf ht.typeIs slot_tuple_iter.lookup ?_)
  refine wpAny_pure ?_
  simp only [Bool.false_eq_true, if_false]
  refine wpAny_bind (wpAny_holding (iter_tuple ht ?_))
  refine wpAny_bind (wpAny_holding (draw_tuple hlt 1 0 _ _ ⟨_, Heap.get?_push_size _ rfl, rfl, rfl⟩ (ht.push _) (by omega) fun h₁ hit₁ hs₁ => ?_))
  have e1 : List.take 1 (List.drop 0 items.toList) = [x] := by
    have hl : items.toList[0]? = some x := by rw [Array.getElem?_toList]; exact hx
    cases e : items.toList with
    | nil =>
      rw [e] at hl
      cases hl
    | cons a r =>
      rw [e] at hl
      cases hl
      rfl
  rw [e1]
  rw [if_neg (by simp)]
  have ht₁ : IsTup h₁ t items := (ht.push _).extBut hs₁.extBut hlt
  refine wpAny_bind (wpAny_holding (wpAny_collect_iter (T := "tuple_iterator") (.inr (.inr (.inr rfl))) (walks_from (A := A.in1) hh s.heap.objs.size t hlt items 1) (fun i s' st => ?_) ⟨?_, ht₁, hp⟩ (fun b hb => ?_) (by simp) (fun s' acc hm hacc => ?_) (by omega)))
  · obtain ⟨o, ho, hc, _⟩ := st.1
    exact ⟨o, ho, hc⟩
  · exact hit₁
  · have q1 : s.heap.objs.size < h₁.objs.size := by
      obtain ⟨o, ho, _⟩ := hit₁
      exact Heap.lt_size ho
    have q2 : t < h₁.objs.size := by
      obtain ⟨o, ho, _⟩ := ht₁
      exact Heap.lt_size ho
    rcases List.mem_cons.mp hb with rfl | hb
    · exact q1
    · have : b = t := by simpa using hb
      rw [this]
      exact q2
  · have ea : acc.toList = items.toList.drop 1 := by
      have hs : acc.size = items.size - 1 := hacc.1
      refine List.ext_getElem? fun j => ?_
      rw [List.getElem?_drop, Array.getElem?_toList, Array.getElem?_toList]
      cases hj : acc[j]? with
      | none =>
        have := Array.getElem?_eq_none_iff.mp hj
        exact (Array.getElem?_eq_none (by omega)).symm
      | some v => exact (hacc.2 j v hj).symm
    rw [ea]
    show wpAny _ _ (if (items.toList.drop 1).length < 2 - 1 - 1 then _ else _) _ _ _
    rw [if_neg (by omega)]
    have e2 : List.take ((items.toList.drop 1).length - (2 - 1 - 1)) (items.toList.drop 1) = items.toList.drop 1 := List.take_of_length_le (by omega)
    have e3 : List.drop ((items.toList.drop 1).length - (2 - 1 - 1)) (items.toList.drop 1) = [] := List.drop_of_length_le (by omega)
    simp only [e2, e3]
    refine wpAny_bind (wpAny_newList ?_ ?_)
    · refine wpAny_pure ?_
      have keep : ∀ b o, s.heap.get? b = some o → s'.heap.get? b = some o := fun b o e => by
        have hb : b ≠ s.heap.objs.size := Nat.ne_of_lt (Heap.lt_size e)
        exact hm.heap b o (by simpa using hb) (hs₁.extBut b o hb (Heap.get?_push_of_some _ e))
      exact h s' keep hm.gens hm.drawn hm.os
    · rw [List.length_drop, Array.length_toList]
      omega
end
end VcU
namespace Vc
open PySem PySem.Spec PyProof.Rows L2
open Evl (Ex)
def gStar (K : PySem.W.Frag) (t : TGs) : TG := fun v σ H Q => ∃ a x xs, v = .ref a ∧ SqT K H a (x :: xs) ∧ ∀ p, H p = none → t [x, .ref p] σ (upd H p (.lst xs)) Q
section
variable {X : Cx} {M : Md} {sc : Scope} {NK : List (Str × Bool × Bool)} {G : List Str} {k : Nat} {ρ : En} {pos sp : Pos} {e a b : Expr} {x y : Str} {F : Fin}
theorem pg_star {t : TGs} {kk : Nat} (hc : X.calm = true) (h : PGs X [a, b] t) (he : assignEach [a, .Starred b sp] X.env = [(false, assign a X.env), (true, assign b X.env)] := by rfl)
    (hp : (assignEach [a, b] X.env).map (·.2) = [assign a X.env, assign b X.env] := by rfl) : PG X (.Tuple [a, .Starred b sp] kk pos) (gStar X.K t) := by
  refine ⟨fun pins s σ H v u Q I r hw => ?_⟩
  obtain ⟨l, x, xs, e1, hq, hw⟩ := hw
  subst e1
  cases r
  obtain ⟨its, rv, ht, hz⟩ := I.tuple hq
  cases rv with
  | cons r1 rs =>
    rename_i u1 us1
    rw [assign_Tuple, he]
    refine wpAny_bind (wpAny_standAt (VcU.unpack_star (I.ok.hd hc) ht (x := u1) rfl (by have := rs.length; simp at hz ⊢; omega) fun s' keep e1 e2 e3 => ?_))
    obtain ⟨hp', g', d', t', o'⟩ := s'
    simp only at keep e1 e2 e3
    subst e1 e2 e3
    have I1 : Inv X pins σ H { s with heap := hp', toks := t' } := I.kept (t' := t') keep
    have I2 := I1.lnew (t' := t') rs (by simp at hz; omega)
    have := h.run pins _ σ _ [x, .ref hp'.objs.size] [u1, .ref hp'.objs.size] Q I2 (.cons r1 (.cons rfl .nil)) (hw _ I1.fresh)
    rw [hp] at this
    exact this
/-- x, *y = e, a tuple: y's list told as data -/
theorem vs_star (C : Cst X M sc NK G k) {i j : Nat} {v w : Bool} {px py pt : Pos} {kt : Nat} (hi : At NK i (x, v, true)) (hj : At NK j (y, w, true))
    (h : VD X e ρ fun d ρ1 => ∃ d0 ds, d = .tuple (d0 :: ds) ∧ F.nx ((ρ1.set i (.dat d0)).set j (.dat (.list ds))))
    (hs : swapsWithSole [.Tuple [.Name x px, .Starred (.Name y py) sp] kt pt] e pos.line X.env = pure false := by rfl) (hw : swappedStores [.Tuple [.Name x px, .Starred (.Name y py) sp] kt pt] e X.env = pure none := by rfl)
    (h1 : (assignEach [.Tuple [.Name x px, .Starred (.Name y py) sp] kt pt] X.env).map (·.2) = [assign (.Tuple [.Name x px, .Starred (.Name y py) sp] kt pt) X.env] := by rfl) :
    VS X (.Assign [.Tuple [.Name x px, .Starred (.Name y py) sp] kt pt] e pos) ρ F := VS.mk fun B H σ Z r f => by
  have key : ∀ {t : TGs}, PGs X [.Name x px, .Name y py] t → PG X (.Tuple [.Name x px, .Starred (.Name y py) sp] kt pt) (gStar X.K t) := fun {t} ht => by
    cases hX : X.calm with
    | true => exact pg_star hX ht
    | false => exact VhX.pg_starH (C.hotc hX) ht
  refine PS.sem (ps_asg pe_sem (key (pgs_cons (pg_name C.nd (C.ix hi) (C.lo hi) (C.fn hi)) (pgs_cons (pg_name C.nd (C.ix hj) (C.lo hj) (C.fn hj)) pgs_nil))) hs hw h1) ?_
  refine h.run B H σ _ r fun vv d B1 H1 ρ1 p1 dv g1 r1 => ?_
  obtain ⟨d0, ds, rfl, pp⟩ := p1
  obtain ⟨t, vs, rfl, hT, hv⟩ := dp_tup dv
  cases hv with
  | cons h0 hs' =>
    rename_i v0 vs'
    refine ⟨t, v0, vs', rfl, ex_t r1.ex hT, fun p hp => ?_⟩
    obtain ⟨r2, g2, bp⟩ := new_one (o := .lst vs') r1 hp
    obtain ⟨g3, r3, d3⟩ := own_frz (hz := g1.dom p hp) (h1 := upd_same) bp (not_own r1 hp) hs' (g1.trans g2) r2
    have eB : Ex B1 (upd B1 p (.lst vs')) := Evl.Ex.new bp
    exact ⟨v0, [.ref p], rfl, .ref p, [], rfl, rfl, f.nx _ _ _ _ pp ((g3.trans go_set).trans go_set) (rel_set (rel_set r3 (Dp.mono eB h0)) d3)⟩
end
end Vc

/-! Vh, part G: defs with *rest called where an error is being handled; they raise nothing (own work). -/
namespace VhX
open PySem PySem.Spec PyProof.Rows HotX L2 L2H
abbrev CXF : CXT := fun _ _ _ _ _ _ => False
def FnRH (P : Program) (w : World) (K : PySem.W.Frag) (mg : Str → Option Value) (base : Heap) (k : Nat) (f : Addr) (sp : List V → Hp → VK → Prop) : Prop :=
  ∀ (A : Around) (outer : List Env) (s : Shared) (H : Hp) (us : List Value) (vs : List V) (Q : VK) (p : Addr × Obj), RoomH k A → Hot1 A p → PinOk outer H s p → Env0 P w K mg base A outer s H → Vals vs us → sp vs H Q →
    codeAny (model P w) A (.call (.ref f) ⟨us, []⟩) (CR CXF outer P w H s Q E0) s
theorem run_fnRH {X : Cx} {pins : List (Addr × Obj)} {σ : St} {H : Hp} {s : Shared} {k : Nat} {f : Addr} {sp : List V → Hp → VK → Prop} {Q : VK} {us : List Value} {vs : List V} (F : FnRH X.prog X.w X.K X.mg X.base k f sp) (hr : RoomH k X.A) (hc : HotC X) (I : Inv X pins σ H s) (r : Vals vs us) (h : sp vs H Q) :
    wpAny (model X.prog X.w) X.A (call (.ref f) us) (EP X pins σ Q) X.xe s := by
  obtain ⟨p, hot, hp⟩ := hc
  obtain ⟨p1, p2, p3, p4, p5⟩ := I.pin p (List.mem_append_left _ hp)
  refine wpAny_call (codeAny_mono (F X.A X.stack s H us vs Q p hr hot ⟨p1, p2, fun hm => (List.mem_cons.mp (I.stkSub p.1 hm)).elim p3 p4, p5⟩ I.env0 r h) fun r s' hq => ?_)
  cases r with
  | error e => exact hq.elim
  | ok fl => cases fl with
    | ret u => exact I.after hq
    | next => exact hq.elim
    | brk => exact hq.elim
    | cont => exact hq.elim
section
variable {P : Program} {w : World} {K : PySem.W.Frag} {mg : Str → Option Value} {base : Heap} {k : Nat} {f : Addr} {name qual : Str} {params : Arguments} {body : List Stmt} {scope : Scope} {dV kV doc pm cdv ct oc : Value} {an od : Option Addr} {osl : Array (Option Value)} {N ps : List Str} {sp : List V → Hp → VK → Prop}
theorem fn_starH {pv : Str} (lk : K.lookup f = some ⟨oc, od, .func (PySem.W.fnOf name qual params body scope dV kV doc pm an cdv ct), osl⟩) (hcd : PySem.W.codeIn K cdv qual = true) (S : FnScope N (ps ++ [pv]) scope)
    (hb : ∀ us rest : List Value, us.length = ps.length → bindArgs (PySem.W.fnOf name qual params body scope dV kV doc pm an cdv ct) ⟨us ++ rest, []⟩ = (newTuple rest >>= fun t => pure (ps.zip us ++ [(pv, t)])))
    (hbody : ∀ (A : Around) (outer : List Env) (s : Shared) (H : Hp) (vs : List V) (Q : VK) (p : Addr × Obj), Hot1 A p → RoomH k (A.deeper (envOfC qual scope s.heap.objs.size f cdv)) → sp vs H Q →
      ∃ t, PSs (cxH CXF P w K mg base N qual scope f cdv A outer s H E0 p) body t ∧ t { nx := fun _ H' => Q .non H', rt := Q } (L2.start N vs) H) :
    FnRH P w K mg base (k + 1) f (fun vs H Q => ∃ ws rest, vs = ws ++ rest ∧ ws.length = ps.length ∧ rest.length ≤ sizeLine ∧ ∀ p, H p = Option.none → sp (ws ++ [V.ref p]) (upd H p (.tup rest)) Q) := by
  intro A outer s H us vs Q pp hr hot pin e0 r ⟨ws, rest, ev, hl, hz, hq⟩
  subst ev
  obtain ⟨u1, u2, eu, r1, r2⟩ := StX.vals_split r
  subst eu
  have hn : H s.heap.objs.size = Option.none := e0.hok.fresh (Nat.le_refl _)
  have hl1 : u1.length = ps.length := r1.length ▸ hl
  have KX : K.In s.heap := e0.mod.kin.keeps fun b o e => (e0.bs b o e).1
  refine codeAny_call_function hr.depth (KX _ _ lk) rfl S.co S.gen rfl (PySem.W.codeRec_of KX hcd) ?_
  rw [hb u1 u2 hl1]
  refine wpAny_bind (wpAny_newTuple (wpAny_pure ?_) (r2.length ▸ hz))
  generalize ho : ({ cls := .type "tuple", data := .seq u2.toArray } : Obj) = ob
  have new : ObjOk P w (upd H s.heap.objs.size (.tup rest)) (s.heap.push ob) s.heap.objs.size (.tup rest) := ⟨hz, u2, r2, ⟨_, Heap.get?_push_size _ (by subst ho; rfl), by subst ho; rfl, _, by subst ho; rfl⟩⟩
  have un := StX.un_laid (fs := frs outer) (s := s) (o := ob) (u := .tup rest) hn
  have e2 := StX.env0_laid e0 new
  generalize hH2 : upd H s.heap.objs.size (.tup rest) = H2 at new un e2
  generalize hs2 : ({ s with heap := s.heap.push ob } : Shared) = s2 at e2 ⊢
  have s2h : s2.heap = s.heap.push ob := by subst hs2; rfl
  have s2o : s2.os = s.os := by subst hs2; rfl
  have low : pp.1 ≠ s.heap.objs.size := Nat.ne_of_lt (Heap.lt_size pin.get)
  have pin2 : PinOk outer H2 s2 pp := ⟨by rw [s2h]; exact Heap.get?_push_of_some _ pin.get, by rw [← hH2, upd_ne low]; exact pin.free, pin.nofs, pin.nocell⟩
  have lim : s2.heap.NoLimit := e0.mod.nolimit.keeps fun b o e => (e2.bs b o e).1
  have hkind : ∀ y ∈ ps.zip u1 ++ [(pv, Value.ref s.heap.objs.size)], scope.names.lookup y.1 = some .local ∨ (scope.names.lookup y.1 = some .cell ∧ ((cellsFrom (s2.heap.objs.size + 1) scope.names []).lookup y.1).isSome = true) := fun y hy => by
    have hm : y.1 ∈ ps ++ [pv] := by
      rcases List.mem_append.mp hy with q | q
      · exact List.mem_append_left _ (List.of_mem_zip (show (y.1, y.2) ∈ _ from q)).1
      · rw [List.mem_singleton.mp q]; exact List.mem_append_right _ (List.mem_singleton.mpr rfl)
    exact (S.par y.1 hm).imp id fun q => ⟨q, PySem.W.cellsFrom_some _ _ _ (.inl q)⟩
  refine wpAny_newFunctionEnv_cells (s := s2) S.kind hkind fun env he s1 x => ?_
  subst he
  refine ⟨lim.keeps x.toInCall.keep, codeAny_func ?_⟩
  obtain ⟨t, ht, hq2⟩ := hbody A outer s2 H2 (ws ++ [V.ref s.heap.objs.size]) Q pp hot (hr.deeper _) (hH2 ▸ hq _ hn)
  have ez : ps.zip u1 ++ [(pv, Value.ref s.heap.objs.size)] = (ps ++ [pv]).zip (u1 ++ [Value.ref s.heap.objs.size]) := by rw [List.zip_append hl1.symm]; rfl
  rw [ez] at x
  have I : Inv (cxH CXF P w K mg base N qual scope f cdv A outer s2 H2 E0 pp) [] (L2.start N (ws ++ [V.ref s.heap.objs.size])) H2 s1 := inv_startH S pin2 e2 (by rw [List.length_append, List.length_append, hl]; rfl) (r1.append (.cons rfl .nil)) x
  refine wpAny_mono (ht.run [] s1 _ _ _ I hq2) (fun fl s' hs => ?_) fun e s' hs => wpAny_mono hs (fun _ _ z => z) fun _ _ z => z
  have fin : ∀ {σ' : St} {H' : Hp} {v' : V} {u' : Value}, Inv (cxH CXF P w K mg base N qual scope f cdv A outer s2 H2 E0 pp) [] σ' H' s' → RelV v' u' → Q v' H' → CE outer P w H s Q u' s' := fun {σ' H' v' u'} J rv' q => ⟨v', H', J.os.trans s2o, J.bare, (s2h ▸ un).trans J.base, J.hok, rv', q⟩
  cases fl with
  | ret u' => obtain ⟨v', σ', H', J, rv', q⟩ := hs; exact fin J rv' q
  | next => obtain ⟨σ', H', J, q⟩ := hs; exact fin (v' := V.non) (u' := Value.none) J rfl q
  | brk => obtain ⟨_, _, _, q⟩ := hs; exact q.elim
  | cont => obtain ⟨_, _, _, q⟩ := hs; exact q.elim
end
end VhX

/-! Vc, part U: defs with *rest. -/
namespace Vc
open PySem PySem.Spec PyProof.Rows L2
open Evl (Ex)
def Spv (K : Kw) (n : Nat) (S : SX) : List V → Hp → VK → Prop := fun vs H Q => ∃ ws rest, vs = ws ++ rest ∧ ws.length = n ∧ rest.length ≤ sizeLine ∧ ∀ p, H p = none → DSx K (n + 1) S (ws ++ [.ref p]) (upd H p (.tup rest)) Q E0
structure FnV (M : Md) (j : Nat) (x : Str) (n : Nat) (S : SX) : Prop where
  ex : ∃ f, (M.hot = false → FnR M.prog M.w M.K M.mg M.base VhX.CXF j f fun vs H Q _ => Spv (kwM M) n S vs H Q) ∧ (M.hot = true → VhX.FnRH M.prog M.w M.K M.mg M.base j f (Spv (kwM M) n S)) ∧ M.mg x = some (.ref f) ∧ PySem.W.keepIn M.K (.ref f) = true
theorem pair_split {α β : Type} {R : α → β → Prop} : ∀ {as bs : List β} {xs : List α}, Paired R xs (as ++ bs) → ∃ x1 x2, xs = x1 ++ x2 ∧ Paired R x1 as ∧ Paired R x2 bs
  | [], _, xs, h => ⟨[], xs, rfl, .nil, h⟩
  | _ :: as, _, _, .cons r t => by
    obtain ⟨x1, x2, e, p1, p2⟩ := pair_split (as := as) t
    exact ⟨_ :: x1, x2, congrArg (_ :: ·) e, .cons r p1, p2⟩
theorem pair_join {α β : Type} {R : α → β → Prop} : ∀ {xs : List α} {as : List β} {ys : List α} {bs : List β}, Paired R xs as → Paired R ys bs → Paired R (xs ++ ys) (as ++ bs)
  | _, _, _, _, .nil, h => h
  | _, _, _, _, .cons r t, h => .cons r (pair_join t h)
theorem args_dp {K : PySem.W.Frag} {B : Hp} {σ : L2.St} : ∀ {ds : List D} {vs : List V}, Paired (ArOk K B σ) vs (ds.map Ar.da) → DpAll K B vs ds
  | [], _, .nil => .nil
  | _ :: ds, _, .cons r t => .cons r (args_dp (ds := ds) t)
section
variable {X : Cx} {M : Md} {sc : Scope} {NK : List (Str × Bool × Bool)} {G : List Str} {k : Nat} {ρ : En} {P : D → En → Prop} {pos : Pos} {e : Expr} {es : List Expr} {x : Str}
theorem run_V {CX : CXT} {j : Nat} {f : Addr} {sp : Sp} {E : XK} {pins : List (Addr × Obj)} {σ : L2.St} {H : Hp} {s : Shared} {Q : VK} {us : List Value} {vs : List V} (F : FnR X.prog X.w X.K X.mg X.base CX j f sp) (hr : Room j X.A) (hx : Passes CX X E)
    (I : Inv X pins σ H s) (r : Vals vs us) (h : sp vs H Q E) : wpAny (model X.prog X.w) X.A (call (.ref f) us) (EP X pins σ Q) X.xe s :=
  wpAny_call (run_fnR F hr hx I r h)
/-- f(a, .., r, ..), def f(a, .., *rest) that raises nothing here -/
theorem vd_callV (C : Cst X M sc NK G k) {j n : Nat} {S : SX} {i : Nat} {p : Pos} (Fn : FnV M j x n S) (hg : At G i x)
    (h : VX X (e :: es) ρ fun ars ρ1 => ∃ a1 rest, ars = a1 ++ rest.map Ar.da ∧ a1.length = n ∧ rest.length ≤ 1000 ∧ calls S (n + 1) ρ1 (a1 ++ [.da (.tuple rest)]) P fun _ _ => False) (hj : j ≤ k := by decide)
    (hdb : (x == ("__debug__" : Str)) = false := by decide) (he : starEach (e :: es) X.env = (false, eval e X.env) :: starEach es X.env := by rfl) (hpl : (backTo pos (starEach es X.env)).any (·.1) = false := by rfl) : VD X (.Call (.Name x p) (e :: es) [] pos) ρ P := VD.mk fun B H σ Q r q => by
  have eM := C.m
  subst eM
  obtain ⟨f, Fo, Fh, hm, hk⟩ := Fn.ex
  have pe : PE X (.Call (.Name x p) (e :: es) [] pos) (fun σ H Q => aSem X (e :: es) σ H fun vs H1 => Spv (kwOf X) n S vs H1 Q) := by
    refine ⟨fun pins s σ H Q I hh => ?_⟩
    refine wpAny_Call_Name_kw (ld_glob I (C.g hg) hm ?_ hdb)
    refine PySem.W.callWith_K (h₀ := X.base) I.ok.mod.kin hk (thn ((pa_sem (es := e :: es)).run pos pins s σ H _ I hh) fun us s1 ⟨vs, H1, I1, rv, qq⟩ => ⟨I1.kIn, ?_⟩) he hpl
    cases hX : X.calm with
    | true => exact run_V (E := E0) (Fo (C.calmOf hX)) ((C.rm hX).mono hj) (fun _ _ _ _ _ _ _ z => z.elim) I1 rv qq
    | false => exact VhX.run_fnRH (Fh (C.hotOf hX)) (C.room.mono hj) (C.hotc hX) I1 rv qq
  refine PE.sem pe ?_
  refine h.run B H σ _ r fun vs ars B1 H1 ρ1 ⟨a1, rest, ea, la, lr, c1, c2, c3, c4⟩ pr g1 r1 => ?_
  subst ea
  obtain ⟨ws, rs, rfl, p1, p2⟩ := pair_split pr
  have dr := args_dp p2
  have sl := sizeLine_eq
  refine ⟨ws, rs, rfl, by rw [Paired.length p1]; exact la, by rw [DpAll.len dr]; omega, fun z hz => ?_⟩
  obtain ⟨r2, g2⟩ := new_both (o := .tup rs) r1 hz
  have dt : Dp X.K (upd B1 z (.tup rs)) (.ref z) (.tuple rest) := .tup (.inl (.inl upd_same)) (DpAll.mono g2.ex dr)
  have pr2 : Paired (ArOk X.K (upd B1 z (.tup rs)) σ) (ws ++ [.ref z]) (a1 ++ [.da (.tuple rest)]) := pair_join (Paired.mapP p1 fun _ _ q => ArOk.mono g2.ex q) (.cons dt .nil)
  refine ⟨_, _, _, _, rel_args r2 pr2 c1 c2, by rw [List.length_map]; exact c3, c4, fun v d B3 H3 as' w u dv g3 r3 => ?_, fun _ _ _ _ _ w _ _ _ _ => w.elim⟩
  obtain ⟨g4, r4⟩ := rel_back r2 pr2 c2 u g3 r3
  exact q v d B3 H3 _ w dv ((g1.trans g2).trans g4) r4
end
section
variable {M : Md} {x : Str} {st : Stmt} {f : Addr} {fd : FuncData} {N ps : List Str} {pv : Str} {NK : List (Str × Bool × Bool)} {G : List Str} {k n : Nat}
theorem fnV_mk {S : SX} (F : Fun M.K x x st f fd) (Sc : FnScope N (ps ++ [pv]) (defScope st)) (hm : M.mg x = some (.ref f))
    (hb : ∀ (kV doc pm cdv ct : Value) (an : Option Addr) (us rest : List Value), us.length = ps.length → bindArgs (PySem.W.fnOf x x (defArgs st) (defBody st) (defScope st) .none kV doc pm an cdv ct) ⟨us ++ rest, []⟩ = (newTuple rest >>= fun t => pure (ps.zip us ++ [(pv, t)])))
    (hN : N = NK.map (·.1)) (hc : chk (defScope st) true NK G = true) (hn : ps.length = n) (hnN : n + 1 ≤ N.length)
    (body : ∀ X, Cst X M (defScope st) NK G k → ∀ as W WX, as.length = n + 1 → S as W WX → VSs X (defBody st) (as ++ List.replicate (N.length - (n + 1)) Sl.no) (finX as W WX)) : FnV M (k + 1) x n S := by
  obtain ⟨oc, od, kV, doc, pm, an, cdv, ct, osl, rfl, lk, hcd⟩ := F.ex
  refine ⟨f, fun hM => ?_, fun hM => ?_, hm, F.kp⟩
  · have := StX.fn_star (P := M.prog) (w := M.w) (mg := M.mg) (base := M.base) (CX := VhX.CXF) (k := k) (sp := fun vs H Q _ => DSx (kwM M) (n + 1) S vs H Q E0) lk hcd Sc StX.cxUp_none (hb kV doc pm cdv ct an) fun A outer s H vs Q E hr h => ?_
    · rw [hn] at this
      exact this
    · obtain ⟨B, as, W, WX, r, hl, hS, q1, q2⟩ := h
      have C : Cst (cxOf VhX.CXF M.prog M.w M.K M.mg M.base N x (defScope st) f cdv A outer s H E) M (defScope st) NK G k := by
        have := cst_own (CX' := VhX.CXF) (P := M.prog) (w := M.w) (K := M.K) (mg := M.mg) (base := M.base) (outer := outer) (s := s) (H := H) (E := E) (qual := x) (f := f) (cdv := cdv) (A := A) (pn := []) (cm := true) hN Sc.nd hc (L2H.roomH_of hr) (passes_of (X := cxOf VhX.CXF M.prog M.w M.K M.mg M.base N x (defScope st) f cdv A outer s H E) rfl) (fun e => nomatch e) fun _ => hr.hd
        rw [← md_cold hM] at this
        exact this
      exact ⟨_, pss_sem, body_slots (S := S) (n := n + 1) (E := E0) rfl hnN takesN r hl (body _ C as W WX hl hS) q1 q2⟩
  · have := VhX.fn_starH (P := M.prog) (w := M.w) (mg := M.mg) (base := M.base) (k := k) (sp := fun vs H Q => DSx (kwM M) (n + 1) S vs H Q E0) lk hcd Sc (hb kV doc pm cdv ct an) fun A outer s H vs Q p h1 hr h => ?_
    · rw [hn] at this
      exact this
    · obtain ⟨B, as, W, WX, r, hl, hS, q1, q2⟩ := h
      have C : Cst (L2H.cxH VhX.CXF M.prog M.w M.K M.mg M.base N x (defScope st) f cdv A outer s H E0 p) M (defScope st) NK G k := by
        have := cst_own (CX' := VhX.CXF) (P := M.prog) (w := M.w) (K := M.K) (mg := M.mg) (base := M.base) (outer := outer) (s := s) (H := H) (E := E0) (qual := x) (f := f) (cdv := cdv) (A := A) (pn := [p]) (cm := false) hN Sc.nd hc hr (passes_of (X := cxOf VhX.CXF M.prog M.w M.K M.mg M.base N x (defScope st) f cdv A outer s H E0) rfl) (fun _ => ⟨p, h1, List.mem_cons_self⟩) fun e => nomatch e
        rw [← md_hot hM] at this
        exact this
      exact ⟨_, pss_sem, body_slots (S := S) (n := n + 1) (E := E0) rfl hnN takesN r hl (body _ C as W WX hl hS) q1 q2⟩
end
end Vc

namespace K5
open PySem PySem.Spec PyProof.Rows L2 Vc
open PySem.W (Frag findIn typeIn subIn clsIn keepIn codeIn nsIn mroIn alongIn takerIn excOver InstAt ksFn ksEnv)
def topS (i : Nat) : Stmt := PySem.Challenge.pw_justthepart_k05_taken_nets.main.body.getD i (.Pass ⟨0, 0, 0, 0⟩)
/-- the n-th row of a class -/
def rowOf (s : Stmt) (n : Nat) : Stmt := match s with
  | .ClassDef _ _ _ b _ _ _ _ _ _ _ => b.getD n (.Pass ⟨0, 0, 0, 0⟩)
  | _ => .Pass ⟨0, 0, 0, 0⟩
abbrev sInit : Stmt := rowOf (topS 3) 0
example : (defBody sInit).length = 3 := by decide +kernel
/-- what stands written of the error's class C, its base G, its __init__ fI -/
structure NetTxt (P : Program) (K : Frag) (mg : Str → Option Value) (C G fI : Addr) : Prop where
  gC : mg "BadNet" = some (.ref C)
  cls : ∃ nm q N bs sn sub ab col dd k0 k1 k2 k3 k5, K.lookup C = some (excClassObj nm q C N bs [.ref G, .type "Exception", .type "BaseException", .type "object"] true sn sub ab col dd k0 k1 k2 k3 k5 "Exception.__new__")
  sa : findIn K (.ref C) "__setattr__" = some (some (.builtin "object.__setattr__"))
  iC : findIn K (.ref C) "__init__" = some (some (.ref fI))
  tI : typeIn K (.ref fI) = some (.type "function")
  t1 : takerIn K C "name" = some none
  t2 : takerIn K C "why" = some none
  al : alongIn K "__init__" [.ref G, .type "Exception", .type "BaseException", .type "object"] = some (some (.builtin "Exception.__init__"))
  mE : mroIn K C (.type "Exception") = some true
  mC : mroIn K C (.ref C) = some true
  op : nsIn K cStatics "thirdparty.any" = some none
  kC : keepIn K (.ref C) = true
  exC : subIn K (.ref C) (.type "BaseException") = some true
  tyC : typeIn K (.ref C) = some (.type "type")
  te : PySem.W.exmOne K (.ref C) (.ref C) = some true
  sup : mg "super" = none
  top : (P.main.scope.names.lookup ("super" : Str)).isSome = false
  fn : ∃ (oc kV doc pm ct ccl cl : Value) (od an cdd cld : Option Addr) (osl ccs csl : Array (Option Value)) (cda cc : Addr) (vs : Array Value) (file : Str) (tf : Tok),
    K.lookup fI = some ⟨oc, od, .func (ksFn "__init__" "BadNet.__init__" (defArgs sInit) (defBody sInit) (defScope sInit) .none kV doc pm an (.ref cda) ct cc), osl⟩ ∧ codeIn K (.ref cda) "BadNet.__init__" = true ∧
    K.lookup cda = some ⟨ccl, cdd, .fields vs, ccs⟩ ∧ vs[2]? = some (.str file tf) ∧ ((P.main.file : Str) == file) = true ∧ K.lookup cc = some ⟨cl, cld, .cell (some (.ref C)), csl⟩

/-- what is left of the error at x behind its __init__: nothing but x was touched -/
structure Inited (h h' : Heap) (x C : Addr) : Prop where
  keep : ∀ b o, b ≠ x → h.get? b = some o → h'.get? b = some o
  obj : ∃ dx t1, h.objs.size ≤ dx ∧ dx ≠ x ∧ h'.get? x = some { cls := .ref C, dict := some dx, data := .fields #[.ref t1, .none, .none, .none, .bool false, .none] } ∧ ∃ m, h'.Ns1 dx m
section
variable {P : Program} {w : World} {A : Around} {E : Value → Shared → Prop} {R : Result → Shared → Prop} {s : Shared} {K : Frag} {mg : Str → Option Value} {C G fI : Addr}
theorem clsOf (T : NetTxt P K mg C G fI) : ∃ cd, clsIn K C = some cd ∧ cd.mro = [.ref C, .ref G, .type "Exception", .type "BaseException", .type "object"] ∧ cd.hasDict = true := by
  obtain ⟨nm, q, N, bs, sn, sub, ab, col, dd, k0, k1, k2, k3, k5, hC⟩ := T.cls
  refine ⟨{ name := nm, bases := bs, mro := .ref C :: [.ref G, .type "Exception", .type "BaseException", .type "object"], ns := N, qualname := q, hasDict := true, slotNames := sn, subclasses := sub, abstract := ab, collection := col, hasDel := false }, ?_, rfl, rfl⟩
  unfold clsIn
  rw [hC]
theorem over (T : NetTxt P K mg C G fI) : excOver K C [.type "Exception", .type "BaseException", .type "object"] = true := by
  obtain ⟨cd, h1, h2, _⟩ := clsOf T
  unfold excOver
  rw [h1]
  show (match cd.mro with | .ref C' :: bm => C' == C && PySem.W.excTail _ bm | _ => false) = true
  rw [h2]
  show ((C == C) && PySem.W.excTail _ [.type "Exception", .type "BaseException", .type "object"]) = true
  rw [beq_self_eq_true, Bool.true_and]
  decide +kernel
open Builtin Builtin.ObjectAttr in
/-- self.f = v, the first store -/
theorem sto_new (T : NetTxt P K mg C G fI) {x t1 : Addr} {f : Str} {v : Value} {Q : Unit → Shared → Prop} (X : K.In s.heap) (hx : s.heap.get? x = some (HandSPX.excO C t1)) (ht : takerIn K C f = some none)
    (hq : ∀ h' tk dx, (∀ b o, b ≠ x → s.heap.get? b = some o → h'.get? b = some o) → s.heap.objs.size ≤ dx → dx ≠ x → h'.get? x = some { cls := .ref C, dict := some dx, data := .fields #[.ref t1, .none, .none, .none, .bool false, .none] } →
      h'.Ns1 dx (fun y => if y = f then some v else none) → Q () { s with heap := h', toks := tk }) : wpAny (model P w) A (setAttr (.ref x) f v) Q E s := by
  obtain ⟨cd, h1, h2, h3⟩ := clsOf T
  obtain ⟨hp, g, d, t, os⟩ := s
  refine PySem.W.set_plain X (ox := HandSPX.excO C t1) (od := none) ⟨hx, rfl, rfl, trivial⟩ T.sa ?_
  refine PySem.W.osa_openX PySem.F.store_Exception X (ox := HandSPX.excO C t1) (od := none) ⟨hx, rfl, rfl, trivial⟩ (over T) ht fun b => ?_
  show wpAny _ _ (storeInOwnDict (.ref x) (.ref C) _ f v b) _ _ _
  have hcls : PySem.W.Looks (model P w) hp (classData C) cd := PySem.W.looks_clsIn X h1
  have hxs : x ≠ hp.objs.size := Nat.ne_of_lt (Heap.lt_size hx)
  obtain ⟨nm, bs, mro, ns, qn, hd, sn, sb, ab, col, del⟩ := cd
  dsimp only at h3
  subst h3
  unfold storeInOwnDict ownDictForStores
  repeat first
    | with_reducible refine hcls.at ?_
    | with_reducible refine wpAny_loadPart_at hx ?_
    | with_reducible refine HandSPX.store_in_new ?_ ?_
    | wp_step
  · have z : ((hp.push { cls := Value.type "dict", data := Data.dict #[] }).update x fun o =>
        { cls := o.cls, dict := some hp.objs.size, data := o.data, slots := o.slots }).get? hp.objs.size = some { cls := .type "dict", data := .dict #[] } := by
      rw [Heap.get?_update_ne _ _ _ _ hxs.symm]
      exact Heap.get?_push_at rfl rfl
    refine ⟨_, #[], _, z, rfl, ?_, ?_⟩
    · intro e he
      simp at he
    · intro _
      rfl
  · intro h' tk' hn' hs
    have hx1 : (hp.push { cls := Value.type "dict", data := Data.dict #[] }).get? x = some (HandSPX.excO C t1) := Heap.get?_push_of_some _ hx
    refine hq h' tk' hp.objs.size (fun b o hb ho => ?_) (Nat.le_refl _) hxs.symm ?_ hn'
    · have k1 := Heap.get?_push_of_some ({ cls := .type "dict", data := .dict #[] } : Obj) ho
      rw [hs.2 b (Nat.ne_of_lt (Heap.lt_size ho)), Heap.get?_update_ne _ _ _ _ hb]
      exact k1
    · rw [hs.2 x hxs, Heap.get?_update_self _ hx1 rfl]
open Builtin Builtin.ObjectAttr in
/-- self.f = v, a further store -/
theorem sto_old (T : NetTxt P K mg C G fI) {x dx : Addr} {fv : Array Value} {f : Str} {v : Value} {m0 : Str → Option Value} {nl : List Str} {Q : Unit → Shared → Prop} (X : K.In s.heap) (hx : s.heap.get? x = some { cls := .ref C, dict := some dx, data := .fields fv })
    (hns : s.heap.Ns1 dx m0) (hw : Within m0 nl) (hz : nl.length ≤ 1000) (ht : takerIn K C f = some none)
    (hq : ∀ h' tk, (∀ b o, b ≠ dx → s.heap.get? b = some o → h'.get? b = some o) → h'.Ns1 dx (fun y => if y = f then some v else m0 y) → Q () { s with heap := h', toks := tk }) : wpAny (model P w) A (setAttr (.ref x) f v) Q E s := by
  obtain ⟨cd, h1, h2, h3⟩ := clsOf T
  obtain ⟨hp, g, d, t, os⟩ := s
  have hns2 : hp.Ns1 dx m0 := hns
  obtain ⟨oD, esD, epD, hoD, hdD, _⟩ := hns.count hw
  refine PySem.W.set_plain X (ox := { cls := .ref C, dict := some dx, data := .fields fv }) (od := some oD) ⟨hx, rfl, rfl, hoD⟩ T.sa ?_
  refine PySem.W.osa_openX PySem.F.store_Exception X (ox := { cls := .ref C, dict := some dx, data := .fields fv }) (od := some oD) ⟨hx, rfl, rfl, hoD⟩ (over T) ht fun b => ?_
  show wpAny _ _ (storeInOwnDict (.ref x) (.ref C) _ f v b) _ _ _
  have hcls : PySem.W.Looks (model P w) hp (classData C) cd := PySem.W.looks_clsIn X h1
  obtain ⟨nm, bs, mro, ns, qn, hd, sn, sb, ab, col, del⟩ := cd
  dsimp only at h3
  subst h3
  unfold storeInOwnDict ownDictForStores
  repeat first
    | with_reducible refine hcls.at ?_
    | with_reducible refine wpAny_loadPart_at hx ?_
    | with_reducible refine PySem.ESX.store_in_old hns2 hw hz ?_
    | wp_step
  intro h' tk' hn' hs
  refine hq h' tk' (fun b o hb ho => ?_) hn'
  rw [hs.2 b hb]
  exact ho
abbrev nEnv (kV doc pm : Value) (an : Option Addr) (cda : Addr) (ct : Value) (cc L f : Addr) : Env := callEnv (ksFn "__init__" "BadNet.__init__" (defArgs sInit) (defBody sInit) (defScope sInit) .none kV doc pm an (.ref cda) ct cc) L f
theorem noCell : ∀ y ∈ (defScope sInit).names, y.2 ≠ .cell := by decide +kernel
/-- BadNet.__init__(x, a, b), a and b texts -/
theorem net_init (T : NetTxt P K mg C G fI) {x t0 : Addr} {a b : Str} {ta tb : Tok} (MD : L2.Mod K mg s.heap) (hx : s.heap.get? x = some (HandSPX.excO C t0)) (hnx : K.lookup x = none) (hroom : A.depth < recursionLimit) (la : a.length ≤ 100000) (lb : b.length ≤ 100000)
    (hq : ∀ h' tk, Inited s.heap h' x C → R (.ok (.ret .none)) { s with heap := h', toks := tk }) :
    codeAny (model P w) A (.call (.ref fI) ⟨[.ref x, .str a ta, .str b tb], []⟩) R s := by
  obtain ⟨oc, kV, doc, pm, ct, ccl, cl, od, an, cdd, cld, osl, ccs, csl, cda, cc, vs, file, tf, hfn, hcd, hcode, hvs, hfile, hcell⟩ := T.fn
  obtain ⟨cd, hC1, hC2, hC3⟩ := clsOf T
  obtain ⟨nm, q, N, bs, sn, sub, ab, col, dd, k0, k1, k2, k3, k5, hCo⟩ := T.cls
  obtain ⟨hp, g, d, t, os⟩ := s
  have X := MD.kin
  refine PySem.ks_codeAny_call_defAt (fd := ksFn "__init__" "BadNet.__init__" (defArgs sInit) (defBody sInit) (defScope sInit) .none kV doc pm an (.ref cda) ct cc) (body := defBody sInit) (binds := [("self", .ref x), ("name", .str a ta), ("why", .str b tb)])
    hroom (X _ _ hfn) rfl MD.nolimit (PySem.W.codeRec_of X hcd) rfl (BindsTo.of_eq rfl) noCell (fun y hy => ?_) (fun h1 hns hk => ?_)
  · have k1 : (defScope sInit).names.lookup ("self" : Str) = some .local := by decide +kernel
    have k2 : (defScope sInit).names.lookup ("name" : Str) = some .local := by decide +kernel
    have k3 : (defScope sInit).names.lookup ("why" : Str) = some .local := by decide +kernel
    rcases List.mem_cons.mp hy with rfl | hy
    · exact k1
    rcases List.mem_cons.mp hy with rfl | hy
    · exact k2
    rw [List.mem_singleton.mp hy]
    exact k3
  show PySem.wpAt _ _ _ (execs _ _) _ _ _
  have X1 : K.In h1 := X.keeps hk
  have hx1 := hk _ _ hx
  have kE : ∀ {hh : Heap} {cd' : ClassData}, K.In hh → clsIn K C = some cd' → hh.get? x = some (HandSPX.excO C t0) → x ≠ C := fun {hh cd'} X' h1' hx' => PySem.W.ks_ne (ox := HandSPX.excO C t0) (odx := none) X' ⟨hx', rfl, rfl, trivial⟩ h1'
  refine PySem.ks_wpAt_execs_cons (PySem.ks_wpAt_Expr_any (PySem.ks_wpAt_MethodCall ?_))
  have ks : (defScope sInit).names.lookup ("super" : Str) = some .globalImplicit := by decide +kernel
  have kc : (defScope sInit).names.lookup ("__class__" : Str) = some .free := by decide +kernel
  have kf : (defScope sInit).names.lookup ("self" : Str) = some .local := by decide +kernel
  obtain ⟨mb, hb1, hb2⟩ := MD.blt
  obtain ⟨oD, hD1, hD2⟩ : ∃ oD, h1.get? C = some oD ∧ oD.data = .cls cd := by
    have h0 := hC1
    unfold clsIn at h0
    split at h0
    · rename_i c d cd' sl ho
      cases h0
      exact ⟨_, X1 _ _ ho, rfl⟩
    · cases h0
  refine PySem.ks_wpAt_super_base (f := fI) (cc := cda) ks kc (by decide) rfl (X1 _ _ hfn) rfl rfl rfl (X1 _ _ hcode) rfl hvs hfile T.top ?_
  refine PySem.W.ks_loadName_global rfl ks (Calls.loadGlobal_builtin (MD.glob.keeps hk) T.sup (hb1.keeps hk) ((hb2 _ (by decide)).trans (show bootBuiltins "super" = some (.type "super") by decide +kernel)) ⟨rfl, ?_⟩)
  refine wpAny_loadName_free rfl kc rfl ⟨_, X1 _ _ hcell, rfl⟩ ?_
  refine wpAny_loadName_local rfl kf hns rfl ?_
  refine PySem.ks_wpAny_isType_cls hD1 hD2 ⟨rfl, ?_⟩
  refine PySem.ks_wpAny_call_super hD1 hD2 hx1 rfl (fun c e => nomatch e) (PySem.W.looks_mroIn X1 T.mC) (fun h2 hso k2 => ?_)
  have X2 : K.In h2 := X1.keeps k2
  have hx2 := k2 _ _ hx1
  have I2 : InstAt h2 x (HandSPX.excO C t0) C none := ⟨hx2, rfl, rfl, trivial⟩
  refine PySem.ESX.getMethod_super hso (PySem.W.looks_opaque X2 T.op) (l₀ := cd.mro) (fun A Q E s k q => wpAny_bind ((PySem.W.looks_clsIn X2 hC1) A _ E s k (wpAny_pure q))) (l := [.ref G, .type "Exception", .type "BaseException", .type "object"]) ?_ X2 T.al (kE X2 hC1 hx2) (by decide) (I2.type.andThen (PySem.W.looks_mroIn X2 T.mE)) ?_
  · rw [hC2]
    exact PySem.ESX.drop_own C _
  have nsL : ∀ {hh : Heap}, (∀ b o, b ≠ x → h1.get? b = some o → hh.get? b = some o) → hh.Ns hp.objs.size (fun y => List.lookup y [(("self" : Str), Value.ref x), ("name", .str a ta), ("why", .str b tb)].reverse) := fun {hh} kk => by
    obtain ⟨oL, es, ep, hL, r⟩ := hns
    exact ⟨oL, es, ep, kk _ _ (fun z => by have := Heap.lt_size hx; rw [← z] at this; exact Nat.lt_irrefl _ this) hL, r⟩
  have k3 : ∀ b' o, h1.get? b' = some o → (h2.push (PySem.ESX.bw x)).get? b' = some o := fun b' o e => Heap.get?_push_of_some _ (k2 b' o e)
  have n3 := nsL (hh := h2.push (PySem.ESX.bw x)) (fun b' o _ e => k3 b' o e)
  have sl := sizeLine_eq
  have ll : ∀ y z : Str, (y ++ z).length = y.length + z.length := fun y z => Str.length_append y z
  refine PySem.ESX.callWith_bound (x := x) (args_cons (wpAny_mono (Q := fun v s' => ∃ tk, s' = ⟨h2.push (PySem.ESX.bw x), g, d, tk, os⟩) (E := fun _ _ => False) ?ev (fun v s' hv => ?fin) (fun _ _ z => z.elim)))
  case ev =>
    refine wpAny_JoinedStr ?_
    show Joins _ _ _ [eval _ _, eval _ _, eval _ _] Str.empty _ _
    have last : ∀ (acc : Str) (tk : Nat), acc.length ≤ 200000 → Joins (model P w) (A.deeper (nEnv kV doc pm an cda ct cc hp.objs.size fI)) (fun _ _ => False) [eval (.FormattedValue (.Name "why" ⟨8, 36, 8, 39⟩) (-1) none ⟨8, 35, 8, 40⟩) (nEnv kV doc pm an cda ct cc hp.objs.size fI)] acc
        (fun out s₁ => out.length ≤ sizeLine ∧ ∃ tk, ({ s₁ with toks := s₁.toks + 1 } : Shared) = ⟨h2.push (PySem.ESX.bw x), g, d, tk, os⟩) ⟨h2.push (PySem.ESX.bw x), g, d, tk, os⟩ := fun acc tk hacc => by
      refine wpAny_FormattedValue_plain (PySem.ESX.ldL n3 rfl (wpAny_formatField_str ?_ ?_ (by omega)))
      · exact ⟨b, _, rfl, by rw [ll]; omega, by rw [ll]; omega, _, rfl⟩
      · exact ⟨b, _, rfl, by rw [ll]; omega, by rw [ll]; omega, _, rfl⟩
    have l2 : (": " : Str).length = 2 := by decide +kernel
    have l0 : Str.empty.length = 0 := by decide +kernel
    have mid : ∀ (acc : Str) (tk : Nat), acc.length ≤ 100000 → Joins (model P w) (A.deeper (nEnv kV doc pm an cda ct cc hp.objs.size fI)) (fun _ _ => False) [eval (.Constant (.str ": ") 0 ⟨8, 33, 8, 35⟩) (nEnv kV doc pm an cda ct cc hp.objs.size fI), eval (.FormattedValue (.Name "why" ⟨8, 36, 8, 39⟩) (-1) none ⟨8, 35, 8, 40⟩) (nEnv kV doc pm an cda ct cc hp.objs.size fI)] acc
        (fun out s₁ => out.length ≤ sizeLine ∧ ∃ tk, ({ s₁ with toks := s₁.toks + 1 } : Shared) = ⟨h2.push (PySem.ESX.bw x), g, d, tk, os⟩) ⟨h2.push (PySem.ESX.bw x), g, d, tk, os⟩ := fun acc tk hacc =>
      wpAny_Constant_str ⟨(": " : Str), _, rfl, by rw [ll]; omega, last _ _ (by rw [ll]; omega)⟩
    refine wpAny_FormattedValue_plain (PySem.ESX.ldL n3 rfl (wpAny_formatField_str ?_ ?_ (by omega)))
    · exact ⟨a, _, rfl, by rw [ll]; omega, mid _ _ (by rw [ll]; omega)⟩
    · exact ⟨a, _, rfl, by rw [ll]; omega, mid _ _ (by rw [ll]; omega)⟩
  case fin =>
    obtain ⟨tk, rfl⟩ := hv
    have X3 : K.In (h2.push (PySem.ESX.bw x)) := X1.keeps k3
    refine args_nil ⟨Heap.get?_push_size _ rfl, ?_⟩
    refine PySem.ESX.call_bw (X3 _ _ hCo) (k3 _ _ hx1) (Heap.get?_push_size _ rfl) (by show 1 ≤ sizeLine; omega) fun h4 t4 k4 hx4 => ?_
    have k14 : ∀ b' o, b' ≠ x → h1.get? b' = some o → h4.get? b' = some o := fun b' o hb e => k4 b' o hb (k3 b' o e)
    have n4 := nsL k14
    have X4 : K.In h4 := fun b' o e => k4 b' o (fun z => by rw [z, hnx] at e; cases e) (X3 b' o e)
    refine PySem.ks_wpAt_execs_cons (PySem.wpAt_of_wpAny (plainObj_wpAny_Assign_Attribute (PySem.ESX.ldL n4 rfl (PySem.ESX.ldL n4 rfl (sto_new T X4 hx4 T.t1 fun h5 tk5 dx k5 hd5 dn5 hx5 hn5 => ?_)))))
    have n5 := nsL (hh := h5) fun b' o hb e => k5 b' o hb (k14 b' o hb e)
    have X5 : K.In h5 := fun b' o e => k5 b' o (fun z => by rw [z, hnx] at e; cases e) (X4 b' o e)
    refine PySem.ks_wpAt_execs_cons (PySem.wpAt_of_wpAny (plainObj_wpAny_Assign_Attribute (PySem.ESX.ldL n5 rfl (PySem.ESX.ldL n5 rfl (sto_old T (nl := [("name" : Str)]) X5 hx5 hn5 (fun y hy => ?_) (by show 1 ≤ 1000; decide) T.t2 fun h6 tk6 k6 hn6 => ?_)))))
    · by_cases z : y = ("name" : Str)
      · rw [z]
        exact List.mem_singleton.mpr rfl
      · exact absurd (if_neg z) hy
    · refine PySem.wpAt_of_wpAny (wpAny_execs_nil (hq h6 tk6 ⟨fun b' o hb e => ?_, dx, t4, ?_, dn5, k6 _ _ (Ne.symm dn5) hx5, _, hn6⟩))
      · have e4 : h4.get? b' = some o := k14 b' o hb (hk b' o e)
        refine k6 b' o (fun z => ?_) (k5 b' o hb e4)
        have := Heap.lt_size e4
        rw [z] at this
        exact absurd (Nat.lt_of_lt_of_le this hd5) (Nat.lt_irrefl _)
      · refine Nat.le_trans ?_ hd5
        exact Nat.le_of_lt n4.lt
/-- an error that was just made -/
structure NetMade (h h' : Heap) (e C : Addr) : Prop where
  keep : ∀ b o, h.get? b = some o → h'.get? b = some o
  new : h.objs.size ≤ e
  obj : ∃ d t1, h'.get? e = some { cls := .ref C, dict := some d, data := .fields #[.ref t1, .none, .none, .none, .bool false, .none] }
theorem two_size (v u : Value) : [v, u].length ≤ sizeLine := by
  rw [sizeLine_eq]
  exact (by decide : 2 ≤ 16777216)
/-- BadNet(a, b), a and b texts -/
theorem net_made (T : NetTxt P K mg C G fI) {a b : Str} {ta tb : Tok} (MD : L2.Mod K mg s.heap) (hroom : A.depth + 1 < recursionLimit) (la : a.length ≤ 100000) (lb : b.length ≤ 100000)
    (hq : ∀ h' tk e, NetMade s.heap h' e C → R (.ok (.ret (.ref e))) { s with heap := h', toks := tk }) :
    codeAny (model P w) A (.call (.ref C) ⟨[.str a ta, .str b tb], []⟩) R s := by
  obtain ⟨nm, q, N, bs, sn, sub, ab, col, dd, k0, k1, k2, k3, k5, hCo⟩ := T.cls
  obtain ⟨hp, g, d, t, os⟩ := s
  have X := MD.kin
  have up : ∀ b' o, hp.get? b' = some o → ((hp.push (PySem.W.kdv_tup [.str a ta, .str b tb])).push (HandSPX.excO C hp.objs.size)).get? b' = some o := fun b' o e => Heap.get?_push_of_some _ (Heap.get?_push_of_some _ e)
  have here : ((hp.push (PySem.W.kdv_tup [.str a ta, .str b tb])).push (HandSPX.excO C hp.objs.size)).get? (hp.objs.size + 1) = some (HandSPX.excO C hp.objs.size) := by heap_get
  have hnx : K.lookup (hp.objs.size + 1) = none := by
    cases e : K.lookup (hp.objs.size + 1) with
    | none => rfl
    | some o => exact absurd (Nat.lt_of_succ_lt (Heap.lt_size (X _ _ e))) (Nat.lt_irrefl _)
  have tailC : ∀ Y : String, [Value.ref G, .type "Exception", .type "BaseException", .type "object"].contains (.type Y) = [Value.type "Exception", .type "BaseException", .type "object"].contains (.type Y) := fun Y => by
    rw [List.contains_cons]
    rfl
  refine HandSPX.call_own F.excBase_Exception tailC (X _ _ hCo) (PySem.W.looks_findIn X T.iC) (fun self => PySem.W.bind_fn X self T.tI) (two_size _ _) ?_
  refine net_init T (x := hp.objs.size + 1) (t0 := hp.objs.size) ?_ here hnx ?_ la lb fun h' tk I => ?_
  · obtain ⟨m1, m2, ⟨mb, m3, m4⟩, m5⟩ := MD
    exact ⟨m1.keeps up, m2.keeps up, ⟨mb, m3.keeps up, m4⟩, m5.keeps up⟩
  · show A.depth + 1 < recursionLimit
    exact hroom
  · obtain ⟨dx, t1, _, _, ho, _⟩ := I.obj
    have old : ∀ b' o, hp.get? b' = some o → h'.get? b' = some o := fun b' o e => I.keep b' o (Nat.ne_of_lt (Nat.lt_succ_of_lt (Heap.lt_size e))) (up b' o e)
    exact ⟨rfl, hq h' tk (hp.objs.size + 1) ⟨old, Nat.le_succ _, dx, t1, ho⟩⟩
end
section
variable {X : Cx} {C G fI : Addr}
/-- BadNet(e1, e2), texts -/
def tMkNet (C : Addr) (ta : TA) : L2.St → Hp → XK → Prop := fun σ H Q => ta σ H fun vs H1 => ∃ a b : Str, vs = [.str a, .str b] ∧ a.length ≤ 100000 ∧ b.length ≤ 100000 ∧ ∀ d, Q (.ref C) (some d) H1
theorem pmk_net {e1 e2 : Expr} {ta : TA} {p pos : Pos} {k : Nat} (T : NetTxt X.prog X.K X.mg C G fI) (hr : L2H.RoomH k X.A) (ha : PA X [e1, e2] ta) (hg : Gl X "BadNet")
    (he : starEach [e1, e2] X.env = (false, eval e1 X.env) :: starEach [e2] X.env := by rfl) (hpl : (backTo pos (starEach [e2] X.env)).any (·.1) = false := by rfl) :
    L2N.PMk X (.Call (.Name "BadNet" p) [e1, e2] [] pos) (tMkNet C ta) := by
  intro pins s σ H Q I h
  refine wpAny_Call_Name_kw (ld_glob I hg T.gC ?_)
  refine PySem.W.callWith_K (h₀ := X.base) I.ok.mod.kin T.kC (thn (ha.run pos pins s σ H _ I h) fun us s1 hh => ?_) he hpl
  obtain ⟨vs, H1, I1, r1, a, b, ev, la, lb, q1⟩ := hh
  subst ev
  refine ⟨I1.kIn, ?_⟩
  obtain ⟨u1, u2, rfl, ra, rb⟩ : ∃ u1 u2, us = [u1, u2] ∧ RelV (.str a) u1 ∧ RelV (.str b) u2 := by
    cases r1 with
    | cons x y => cases y with
      | cons z w => cases w; exact ⟨_, _, rfl, x, z⟩
  obtain ⟨ta', rfl⟩ := ra
  obtain ⟨tb', rfl⟩ := rb
  show wpAny _ _ (call (.ref C) [_, _]) _ _ _
  have md : L2.Mod X.K X.mg s1.heap := by
    obtain ⟨m1, m2, ⟨mb, m3, m4⟩, m5⟩ := I1.mod
    exact ⟨m1.keeps I1.bk, m2.keeps I1.bk, ⟨mb, m3.keeps I1.bk, m4⟩, m5.keeps I1.bk⟩
  obtain ⟨hp, g, dr, tk, os⟩ := s1
  refine wpAny_call (net_made T md (by have := hr.dp; omega) la lb fun h' tk' e M => ?_)
  show L2N.MkP X pins σ Q (.ref e) ⟨h', g, dr, tk', os⟩
  obtain ⟨d, t1, hoe⟩ := M.obj
  refine ⟨e, _, _, ⟨hp, g, dr, tk', os⟩, H1, .ref C, some d, rfl, I1.kept (t' := tk') fun _ _ z => z, M.keep, ?_, hoe, ⟨rfl, rfl, fun vs hv => by cases hv; rfl⟩, rfl, rfl, I1.hok.fresh M.new, rfl, I1.bare, raises_own T.exC T.tyC, q1 d⟩
  cases z : hp.get? e with
  | none => rfl
  | some o => exact absurd (Nat.lt_of_lt_of_le (Heap.lt_size z) M.new) (Nat.lt_irrefl _)
end
end K5
/-! -/
/-! -/

namespace K5
open PySem PySem.Spec PyProof.Rows L2 Vc
local macro_rules | `(tactic| walk_at "at") => `(tactic| (repeat (first | with_reducible exact At.here | apply At.there)))
local macro_rules | `(tactic| walk_at "v") => `(tactic| first
  | refine vd_bin ?_
  | (refine vd_name (by assumption) (by walk_at "at") rfl ?_)
  | refine vd_int ?_
  | refine vd_bool ?_
  | refine vd_none ?_
  | refine vd_str ?_
  | refine vd_if ?_
  | (refine vd_neg ?_)
  | refine vd_tup ?_
  | refine va_nil ?_
  | refine va_cons ?_
  | refine vs_ret ?_
  | refine vss_nil ?_
  | refine vss_one ?_
  | refine vss_cons ?_
  | refine vs_if ?_
  | refine vt_cmp (by assumption) ?_
  | refine vs_set (by assumption) (by walk_at "at") ?_
  | refine vd_cmp (by assumption) ?_
  | refine vgs_nil ?_
  | refine vgs_cons ?_
  | refine vg_name (by assumption) (by walk_at "at") ?_
  | (refine vd_callT (x := "int") (by assumption) does_int (by walk_at "at") ?_)
  | (refine vd_callB (x := "len") (by assumption) does_len (by walk_at "at") ?_)
  | (refine vd_callB (x := "abs") (by assumption) does_abs (by walk_at "at") ?_)
  | (refine vd_ixo (by assumption) (by walk_at "at") rfl ?_)
  | refine vd_ix ?_)
local macro_rules | `(tactic| walk_at "sw") => `(tactic| (intro env h; cases env; dsimp only at h; subst h; rfl))
local macro_rules | `(tactic| walk_at "vv") => `(tactic| repeat (walk_at "v"))
/-! is_int(thing): slots 0 thing -/
abbrev sIsInt : Stmt := topS 5
abbrev nIsInt : List Str := ["thing"]
theorem scIsInt : FnScope nIsInt ["thing"] (defScope sIsInt) := ⟨rfl, rfl, rfl, by decide +kernel, rfl, by decide +kernel, by decide +kernel⟩
abbrev nkIsInt : List (Str × Bool × Bool) := [("thing", true, true)]
abbrev gIsInt : List Str := ["isinstance", "int", "bool"]
/-! is_net(thing): slots 0 thing -/
abbrev sIsNet : Stmt := topS 19
abbrev nIsNet : List Str := ["thing"]
theorem scIsNet : FnScope nIsNet ["thing"] (defScope sIsNet) := ⟨rfl, rfl, rfl, by decide +kernel, rfl, by decide +kernel, by decide +kernel⟩
abbrev nkIsNet : List (Str × Bool × Bool) := [("thing", true, true)]
abbrev gIsNet : List Str := ["check_net", "BadNet"]
/-! check_net(net): slots 0 net, 1 buses, 2 lines, 3 sources, 4 guards, 5 rules, 6 names, 7 bus, 8 line, 9 source, 10 guard -/
abbrev sCheckNet : Stmt := topS 20
abbrev nCheckNet : List Str := ["net", "buses", "lines", "sources", "guards", "rules", "names", "bus", "line", "source", "guard"]
theorem scCheckNet : FnScope nCheckNet ["net"] (defScope sCheckNet) := ⟨rfl, rfl, rfl, by decide +kernel, rfl, by decide +kernel, by decide +kernel⟩
abbrev nkCheckNet : List (Str × Bool × Bool) := [("net", true, true), ("buses", true, true), ("lines", true, true), ("sources", true, true), ("guards", true, true), ("rules", true, true), ("names", true, true), ("bus", true, true), ("line", true, true), ("source", true, true), ("guard", true, true)]
abbrev gCheckNet : List Str := ["is_tuple", "BadNet", "check_many", "MOST_BUSES", "MOST_LINES", "MOST_SOURCES", "MOST_GUARDS", "add_name", "check_line", "check_source", "check_guard", "check_rules"]
/-! check_many(kind, things, least, most): slots 0 kind, 1 things, 2 least, 3 most -/
abbrev sCheckMany : Stmt := topS 21
abbrev nCheckMany : List Str := ["kind", "things", "least", "most"]
theorem scCheckMany : FnScope nCheckMany ["kind", "things", "least", "most"] (defScope sCheckMany) := ⟨rfl, rfl, rfl, by decide +kernel, rfl, by decide +kernel, by decide +kernel⟩
abbrev nkCheckMany : List (Str × Bool × Bool) := [("kind", true, true), ("things", true, true), ("least", true, true), ("most", true, true)]
abbrev gCheckMany : List Str := ["isinstance", "tuple", "BadNet", "len"]
/-! is_tuple(thing, size): slots 0 thing, 1 size -/
abbrev sIsTuple : Stmt := topS 22
abbrev nIsTuple : List Str := ["thing", "size"]
theorem scIsTuple : FnScope nIsTuple ["thing", "size"] (defScope sIsTuple) := ⟨rfl, rfl, rfl, by decide +kernel, rfl, by decide +kernel, by decide +kernel⟩
abbrev nkIsTuple : List (Str × Bool × Bool) := [("thing", true, true), ("size", true, true)]
abbrev gIsTuple : List Str := ["isinstance", "tuple", "len"]
/-! is_whole_number(thing, least, most): slots 0 thing, 1 least, 2 most -/
abbrev sIsWholeNumber : Stmt := topS 23
abbrev nIsWholeNumber : List Str := ["thing", "least", "most"]
theorem scIsWholeNumber : FnScope nIsWholeNumber ["thing", "least", "most"] (defScope sIsWholeNumber) := ⟨rfl, rfl, rfl, by decide +kernel, rfl, by decide +kernel, by decide +kernel⟩
abbrev nkIsWholeNumber : List (Str × Bool × Bool) := [("thing", true, true), ("least", true, true), ("most", true, true)]
abbrev gIsWholeNumber : List Str := ["is_int"]
/-! is_fraction(thing): slots 0 thing -/
abbrev sIsFraction : Stmt := topS 24
abbrev nIsFraction : List Str := ["thing"]
theorem scIsFraction : FnScope nIsFraction ["thing"] (defScope sIsFraction) := ⟨rfl, rfl, rfl, by decide +kernel, rfl, by decide +kernel, by decide +kernel⟩
abbrev nkIsFraction : List (Str × Bool × Bool) := [("thing", true, true)]
abbrev gIsFraction : List Str := ["is_tuple", "is_int", "gcd"]
/-! is_name(thing): slots 0 thing, 1 sign -/
abbrev sIsName : Stmt := topS 25
abbrev nIsName : List Str := ["thing", "sign"]
theorem scIsName : FnScope nIsName ["thing"] (defScope sIsName) := ⟨rfl, rfl, rfl, by decide +kernel, rfl, by decide +kernel, by decide +kernel⟩
abbrev nkIsName : List (Str × Bool × Bool) := [("thing", true, true), ("sign", false, false)]
abbrev gIsName : List Str := ["isinstance", "str", "len", "MOST_SIGNS", "LETTERS", "all", "WORDS"]
abbrev nkIsName0 : List (Str × Bool × Bool) := [("thing", false, false), ("sign", true, true)]
abbrev gIsName0 : List Str := ["SIGNS"]
/-! is_known(names, thing, kinds): slots 0 names, 1 thing, 2 kinds -/
abbrev sIsKnown : Stmt := topS 26
abbrev nIsKnown : List Str := ["names", "thing", "kinds"]
theorem scIsKnown : FnScope nIsKnown ["names", "thing", "kinds"] (defScope sIsKnown) := ⟨rfl, rfl, rfl, by decide +kernel, rfl, by decide +kernel, by decide +kernel⟩
abbrev nkIsKnown : List (Str × Bool × Bool) := [("names", true, true), ("thing", true, true), ("kinds", true, true)]
abbrev gIsKnown : List Str := ["isinstance", "str"]
/-! add_name(names, thing, kind): slots 0 names, 1 thing, 2 kind -/
abbrev sAddName : Stmt := topS 27
abbrev nAddName : List Str := ["names", "thing", "kind"]
theorem scAddName : FnScope nAddName ["names", "thing", "kind"] (defScope sAddName) := ⟨rfl, rfl, rfl, by decide +kernel, rfl, by decide +kernel, by decide +kernel⟩
abbrev nkAddName : List (Str × Bool × Bool) := [("names", true, true), ("thing", true, true), ("kind", true, true)]
abbrev gAddName : List Str := ["is_name", "BadNet"]
/-! check_line(names, line): slots 0 names, 1 line, 2 name, 3 one, 4 other, 5 resistance -/
abbrev sCheckLine : Stmt := topS 28
abbrev nCheckLine : List Str := ["names", "line", "name", "one", "other", "resistance"]
theorem scCheckLine : FnScope nCheckLine ["names", "line"] (defScope sCheckLine) := ⟨rfl, rfl, rfl, by decide +kernel, rfl, by decide +kernel, by decide +kernel⟩
abbrev nkCheckLine : List (Str × Bool × Bool) := [("names", true, true), ("line", true, true), ("name", true, true), ("one", true, true), ("other", true, true), ("resistance", true, true)]
abbrev gCheckLine : List Str := ["is_tuple", "BadNet", "add_name", "is_known", "is_whole_number", "MOST_NUMBER"]
/-! check_source(names, source): slots 0 names, 1 source, 2 name, 3 bus, 4 resistance -/
abbrev sCheckSource : Stmt := topS 29
abbrev nCheckSource : List Str := ["names", "source", "name", "bus", "resistance"]
theorem scCheckSource : FnScope nCheckSource ["names", "source"] (defScope sCheckSource) := ⟨rfl, rfl, rfl, by decide +kernel, rfl, by decide +kernel, by decide +kernel⟩
abbrev nkCheckSource : List (Str × Bool × Bool) := [("names", true, true), ("source", true, true), ("name", true, true), ("bus", true, true), ("resistance", true, true)]
abbrev gCheckSource : List Str := ["is_tuple", "BadNet", "add_name", "is_known", "is_whole_number", "MOST_NUMBER"]
/-! is_breaker(names, thing): slots 0 names, 1 thing, 2 name, 3 end -/
abbrev sIsBreaker : Stmt := topS 30
abbrev nIsBreaker : List Str := ["names", "thing", "name", "end"]
theorem scIsBreaker : FnScope nIsBreaker ["names", "thing"] (defScope sIsBreaker) := ⟨rfl, rfl, rfl, by decide +kernel, rfl, by decide +kernel, by decide +kernel⟩
abbrev nkIsBreaker : List (Str × Bool × Bool) := [("names", true, true), ("thing", true, true), ("name", true, true), ("end", true, true)]
abbrev gIsBreaker : List Str := ["is_tuple", "is_int", "is_known"]
/-! is_ascending(things): slots 0 things, 1 one, 2 other -/
abbrev sIsAscending : Stmt := topS 31
abbrev nIsAscending : List Str := ["things", "one", "other"]
theorem scIsAscending : FnScope nIsAscending ["things"] (defScope sIsAscending) := ⟨rfl, rfl, rfl, by decide +kernel, rfl, by decide +kernel, by decide +kernel⟩
abbrev nkIsAscending : List (Str × Bool × Bool) := [("things", true, true), ("one", false, false), ("other", false, false)]
abbrev gIsAscending : List Str := ["all", "zip"]
abbrev nkIsAscending0 : List (Str × Bool × Bool) := [("things", false, false), ("one", true, true), ("other", true, true)]
abbrev gIsAscending0 : List Str := []
/-! check_guard(names, guard): slots 0 names, 1 guard, 2 name, 3 told, 4 delay, 5 opens, 6 breaker -/
abbrev sCheckGuard : Stmt := topS 32
abbrev nCheckGuard : List Str := ["names", "guard", "name", "told", "delay", "opens", "breaker"]
theorem scCheckGuard : FnScope nCheckGuard ["names", "guard"] (defScope sCheckGuard) := ⟨rfl, rfl, rfl, by decide +kernel, rfl, by decide +kernel, by decide +kernel⟩
abbrev nkCheckGuard : List (Str × Bool × Bool) := [("names", true, true), ("guard", true, true), ("name", true, true), ("told", true, true), ("delay", true, true), ("opens", true, true), ("breaker", false, false)]
abbrev gCheckGuard : List Str := ["is_tuple", "BadNet", "add_name", "is_told", "is_whole_number", "MOST_DELAY", "isinstance", "tuple", "all", "is_ascending"]
abbrev nkCheckGuard0 : List (Str × Bool × Bool) := [("names", true, false), ("guard", false, false), ("name", false, false), ("told", false, false), ("delay", false, false), ("opens", false, false), ("breaker", true, true)]
abbrev gCheckGuard0 : List Str := ["is_breaker"]
/-! is_told(names, thing): slots 0 names, 1 thing, 2 kind, 3 more -/
abbrev sIsTold : Stmt := topS 33
abbrev nIsTold : List Str := ["names", "thing", "kind", "more"]
theorem scIsTold : FnScope nIsTold ["names", "thing"] (defScope sIsTold) := ⟨rfl, rfl, rfl, by decide +kernel, rfl, by decide +kernel, by decide +kernel⟩
abbrev nkIsTold : List (Str × Bool × Bool) := [("names", true, true), ("thing", true, true), ("kind", true, true), ("more", true, true)]
abbrev gIsTold : List Str := ["isinstance", "tuple", "str", "len", "is_breaker", "is_bound", "bool", "is_known"]
/-! is_bound(thing): slots 0 thing -/
abbrev sIsBound : Stmt := topS 34
abbrev nIsBound : List Str := ["thing"]
theorem scIsBound : FnScope nIsBound ["thing"] (defScope sIsBound) := ⟨rfl, rfl, rfl, by decide +kernel, rfl, by decide +kernel, by decide +kernel⟩
abbrev nkIsBound : List (Str × Bool × Bool) := [("thing", true, true)]
abbrev gIsBound : List Str := ["is_fraction", "MOST_NUMBER"]
/-! check_rules(rules): slots 0 rules, 1 error, 2 least, 3 most, 4 ticks -/
abbrev sCheckRules : Stmt := topS 35
abbrev nCheckRules : List Str := ["rules", "error", "least", "most", "ticks"]
theorem scCheckRules : FnScope nCheckRules ["rules"] (defScope sCheckRules) := ⟨rfl, rfl, rfl, by decide +kernel, rfl, by decide +kernel, by decide +kernel⟩
abbrev nkCheckRules : List (Str × Bool × Bool) := [("rules", true, true), ("error", true, true), ("least", true, true), ("most", true, true), ("ticks", true, true)]
abbrev gCheckRules : List Str := ["is_tuple", "BadNet", "is_fraction", "MOST_NUMBER", "is_whole_number", "MOST_AGE", "MOST_TICKS"]
/-! _law_cell_at(script, k): slots 0 script, 1 k -/
abbrev sLCellAt : Stmt := topS 37
abbrev nLCellAt : List Str := ["script", "k"]
theorem scLCellAt : FnScope nLCellAt ["script", "k"] (defScope sLCellAt) := ⟨rfl, rfl, rfl, by decide +kernel, rfl, by decide +kernel, by decide +kernel⟩
abbrev nkLCellAt : List (Str × Bool × Bool) := [("script", true, true), ("k", true, true)]
abbrev gLCellAt : List Str := ["len"]
/-! _law_draw(cell, k, bound): slots 0 cell, 1 k, 2 bound, 3 primes -/
abbrev sLDraw : Stmt := topS 38
abbrev nLDraw : List Str := ["cell", "k", "bound", "primes"]
theorem scLDraw : FnScope nLDraw ["cell", "k", "bound"] (defScope sLDraw) := ⟨rfl, rfl, rfl, by decide +kernel, rfl, by decide +kernel, by decide +kernel⟩
abbrev nkLDraw : List (Str × Bool × Bool) := [("cell", true, true), ("k", true, true), ("bound", true, true), ("primes", true, true)]
abbrev gLDraw : List Str := ["int"]
/-! _law_number(cell, k, bound): slots 0 cell, 1 k, 2 bound, 3 power, 4 lap, 5 remains, 6 small -/
abbrev sLNumber : Stmt := topS 39
abbrev nLNumber : List Str := ["cell", "k", "bound", "power", "lap", "remains", "small"]
theorem scLNumber : FnScope nLNumber ["cell", "k", "bound"] (defScope sLNumber) := ⟨rfl, rfl, rfl, by decide +kernel, rfl, by decide +kernel, by decide +kernel⟩
abbrev nkLNumber : List (Str × Bool × Bool) := [("cell", true, true), ("k", true, true), ("bound", true, true), ("power", true, true), ("lap", true, true), ("remains", true, true), ("small", true, true)]
abbrev gLNumber : List Str := ["range", "int", "_law_draw"]
/-! _law_next(draw, bound): slots 0 draw, 1 bound, 2 at, 3 cell -/
abbrev sLNext : Stmt := topS 40
abbrev nLNext : List Str := ["draw", "bound", "at", "cell"]
theorem scLNext : FnScope nLNext ["draw", "bound"] (defScope sLNext) := ⟨rfl, rfl, rfl, by decide +kernel, rfl, by decide +kernel, by decide +kernel⟩
abbrev nkLNext : List (Str × Bool × Bool) := [("draw", true, true), ("bound", true, true), ("at", true, true), ("cell", true, true)]
abbrev gLNext : List Str := ["_law_cell_at", "_law_number", "int"]
/-! _law_pick(draw, things): slots 0 draw, 1 things -/
abbrev sLPick : Stmt := topS 41
abbrev nLPick : List Str := ["draw", "things"]
theorem scLPick : FnScope nLPick ["draw", "things"] (defScope sLPick) := ⟨rfl, rfl, rfl, by decide +kernel, rfl, by decide +kernel, by decide +kernel⟩
abbrev nkLPick : List (Str × Bool × Bool) := [("draw", true, true), ("things", true, true)]
abbrev gLPick : List Str := ["_law_next", "len"]
/-! _law_lines(draw, buses): slots 0 draw, 1 buses, 2 found, 3 many, 4 number, 5 one, 6 other -/
abbrev sLLines : Stmt := topS 42
abbrev nLLines : List Str := ["draw", "buses", "found", "many", "number", "one", "other"]
theorem scLLines : FnScope nLLines ["draw", "buses"] (defScope sLLines) := ⟨rfl, rfl, rfl, by decide +kernel, rfl, by decide +kernel, by decide +kernel⟩
abbrev nkLLines : List (Str × Bool × Bool) := [("draw", true, true), ("buses", true, true), ("found", true, true), ("many", true, true), ("number", true, true), ("one", true, true), ("other", true, true)]
abbrev gLLines : List Str := ["len", "_law_next", "range", "str", "_law_pick", "tuple"]
/-! _law_here(net, bus): slots 0 net, 1 bus, 2 found, 3 name, 4 first, 5 second, 6 x, 7 end, 8 at -/
abbrev sLHere : Stmt := topS 43
abbrev nLHere : List Str := ["net", "bus", "found", "name", "first", "second", "x", "end", "at"]
theorem scLHere : FnScope nLHere ["net", "bus"] (defScope sLHere) := ⟨rfl, rfl, rfl, by decide +kernel, rfl, by decide +kernel, by decide +kernel⟩
abbrev nkLHere : List (Str × Bool × Bool) := [("net", true, true), ("bus", true, true), ("found", true, true), ("name", true, true), ("first", true, true), ("second", true, true), ("x", true, true), ("end", false, false), ("at", false, false)]
abbrev gLHere : List Str := ["tuple", "sorted"]
abbrev nkLHere0 : List (Str × Bool × Bool) := [("net", false, false), ("bus", true, false), ("found", false, false), ("name", true, false), ("first", true, false), ("second", true, false), ("x", false, false), ("end", true, true), ("at", false, false)]
abbrev gLHere0 : List Str := []
abbrev nkLHere1 : List (Str × Bool × Bool) := [("net", false, false), ("bus", true, false), ("found", false, false), ("name", true, true), ("first", false, false), ("second", false, false), ("x", true, true), ("end", false, false), ("at", true, true)]
abbrev gLHere1 : List Str := []
/-! _law_looks(draw, net, breakers): slots 0 draw, 1 net, 2 breakers, 3 kind, 4 one, 5 number, 6 line -/
abbrev sLLooks : Stmt := topS 44
abbrev nLLooks : List Str := ["draw", "net", "breakers", "kind", "one", "number", "line"]
theorem scLLooks : FnScope nLLooks ["draw", "net", "breakers"] (defScope sLLooks) := ⟨rfl, rfl, rfl, by decide +kernel, rfl, by decide +kernel, by decide +kernel⟩
abbrev nkLLooks : List (Str × Bool × Bool) := [("draw", true, true), ("net", true, true), ("breakers", true, true), ("kind", true, true), ("one", true, true), ("number", true, true), ("line", false, false)]
abbrev gLLooks : List Str := ["_law_next", "_law_pick", "list"]
abbrev nkLLooks0 : List (Str × Bool × Bool) := [("draw", false, false), ("net", false, false), ("breakers", false, false), ("kind", false, false), ("one", false, false), ("number", false, false), ("line", true, true)]
abbrev gLLooks0 : List Str := []
/-! _law_good(net, late): slots 0 net, 1 late, 2 found, 3 number, 4 name, 5 first, 6 second, 7 x, 8 turn, 9 end, 10 opens, 11 bus, 12 at, 13 one -/
abbrev sLGood : Stmt := topS 45
abbrev nLGood : List Str := ["net", "late", "found", "number", "name", "first", "second", "x", "turn", "end", "opens", "bus", "at", "one"]
theorem scLGood : FnScope nLGood ["net", "late"] (defScope sLGood) := ⟨rfl, rfl, rfl, by decide +kernel, rfl, by decide +kernel, by decide +kernel⟩
abbrev nkLGood : List (Str × Bool × Bool) := [("net", true, true), ("late", true, true), ("found", true, true), ("number", true, true), ("name", true, true), ("first", true, true), ("second", true, true), ("x", true, true), ("turn", true, true), ("end", true, true), ("opens", true, true), ("bus", true, true), ("at", false, false), ("one", false, false)]
abbrev gLGood : List Str := ["range", "str", "sorted", "list", "_law_here", "enumerate", "tuple"]
abbrev nkLGood0 : List (Str × Bool × Bool) := [("net", false, false), ("late", false, false), ("found", false, false), ("number", false, false), ("name", false, false), ("first", false, false), ("second", false, false), ("x", false, false), ("turn", false, false), ("end", false, false), ("opens", true, false), ("bus", false, false), ("at", true, true), ("one", true, true)]
abbrev gLGood0 : List Str := []
/-! _law_net(draw): slots 0 draw, 1 buses, 2 lines, 3 at, 4 sources, 5 least, 6 most, 7 net, 8 breakers, 9 guards, 10 ticks, 11 number, 12 opens, 13 looks, 14 error, 15 line, 16 source, 17 one -/
abbrev sLNet : Stmt := topS 46
abbrev nLNet : List Str := ["draw", "buses", "lines", "at", "sources", "least", "most", "net", "breakers", "guards", "ticks", "number", "opens", "looks", "error", "line", "source", "one"]
theorem scLNet : FnScope nLNet ["draw"] (defScope sLNet) := ⟨rfl, rfl, rfl, by decide +kernel, rfl, by decide +kernel, by decide +kernel⟩
abbrev nkLNet : List (Str × Bool × Bool) := [("draw", true, true), ("buses", true, true), ("lines", true, true), ("at", true, true), ("sources", true, true), ("least", true, true), ("most", true, true), ("net", true, true), ("breakers", true, true), ("guards", true, true), ("ticks", true, true), ("number", true, true), ("opens", true, true), ("looks", true, true), ("error", true, true), ("line", false, false), ("source", false, false), ("one", false, false)]
abbrev gLNet : List Str := ["_law_next", "_law_lines", "tuple", "range", "len", "_law_good", "_law_looks", "_law_pick", "str", "sorted"]
abbrev nkLNet0 : List (Str × Bool × Bool) := [("draw", true, false), ("buses", true, false), ("lines", false, false), ("at", true, true), ("sources", false, false), ("least", false, false), ("most", false, false), ("net", false, false), ("breakers", false, false), ("guards", false, false), ("ticks", false, false), ("number", false, false), ("opens", false, false), ("looks", false, false), ("error", false, false), ("line", false, false), ("source", false, false), ("one", false, false)]
abbrev gLNet0 : List Str := ["str", "_law_pick"]
abbrev nkLNet1 : List (Str × Bool × Bool) := [("draw", false, false), ("buses", false, false), ("lines", false, false), ("at", false, false), ("sources", false, false), ("least", false, false), ("most", false, false), ("net", false, false), ("breakers", false, false), ("guards", false, false), ("ticks", false, false), ("number", false, false), ("opens", false, false), ("looks", false, false), ("error", false, false), ("line", true, true), ("source", false, false), ("one", false, false)]
abbrev gLNet1 : List Str := []
abbrev nkLNet2 : List (Str × Bool × Bool) := [("draw", false, false), ("buses", false, false), ("lines", false, false), ("at", false, false), ("sources", false, false), ("least", false, false), ("most", false, false), ("net", false, false), ("breakers", false, false), ("guards", false, false), ("ticks", false, false), ("number", false, false), ("opens", false, false), ("looks", false, false), ("error", false, false), ("line", true, true), ("source", false, false), ("one", false, false)]
abbrev gLNet2 : List Str := []
abbrev nkLNet3 : List (Str × Bool × Bool) := [("draw", false, false), ("buses", false, false), ("lines", false, false), ("at", false, false), ("sources", false, false), ("least", false, false), ("most", false, false), ("net", false, false), ("breakers", false, false), ("guards", false, false), ("ticks", false, false), ("number", false, false), ("opens", false, false), ("looks", false, false), ("error", false, false), ("line", false, false), ("source", true, true), ("one", false, false)]
abbrev gLNet3 : List Str := []
abbrev nkLNet4 : List (Str × Bool × Bool) := [("draw", true, false), ("buses", false, false), ("lines", false, false), ("at", false, false), ("sources", false, false), ("least", false, false), ("most", false, false), ("net", false, false), ("breakers", false, false), ("guards", false, false), ("ticks", false, false), ("number", false, false), ("opens", false, false), ("looks", false, false), ("error", false, false), ("line", false, false), ("source", false, false), ("one", true, true)]
abbrev gLNet4 : List Str := ["_law_next"]
/-! _law_put(net, at, thing): slots 0 net, 1 at, 2 thing -/
abbrev sLPut : Stmt := topS 47
abbrev nLPut : List Str := ["net", "at", "thing"]
theorem scLPut : FnScope nLPut ["net", "at", "thing"] (defScope sLPut) := ⟨rfl, rfl, rfl, by decide +kernel, rfl, by decide +kernel, by decide +kernel⟩
abbrev nkLPut : List (Str × Bool × Bool) := [("net", true, true), ("at", true, true), ("thing", true, true)]
abbrev gLPut : List Str := []
/-! _law_wrong(draw, net): slots 0 draw, 1 net, 2 buses, 3 lines, 4 sources, 5 guards, 6 rules, 7 guard, 8 number, 9 name, 10 told, 11 delay, 12 opens, 13 rest, 14 late, 15 looks, 16 error, 17 least, 18 most, 19 ticks, 20 one, 21 at -/
abbrev sLWrong : Stmt := topS 48
abbrev nLWrong : List Str := ["draw", "net", "buses", "lines", "sources", "guards", "rules", "guard", "number", "name", "told", "delay", "opens", "rest", "late", "looks", "error", "least", "most", "ticks", "one", "at"]
theorem scLWrong : FnScope nLWrong ["draw", "net"] (defScope sLWrong) := ⟨rfl, rfl, rfl, by decide +kernel, rfl, by decide +kernel, by decide +kernel⟩
abbrev nkLWrong : List (Str × Bool × Bool) := [("draw", true, true), ("net", true, true), ("buses", true, true), ("lines", true, true), ("sources", true, true), ("guards", true, true), ("rules", true, true), ("guard", true, true), ("number", true, true), ("name", true, true), ("told", true, true), ("delay", true, true), ("opens", true, true), ("rest", true, true), ("late", true, true), ("looks", true, true), ("error", true, true), ("least", true, true), ("most", true, true), ("ticks", true, true), ("one", false, false), ("at", false, false)]
abbrev gLWrong : List Str := ["_law_next", "len", "tuple", "_law_put", "range", "list"]
abbrev nkLWrong0 : List (Str × Bool × Bool) := [("draw", false, false), ("net", false, false), ("buses", false, false), ("lines", false, false), ("sources", false, false), ("guards", false, false), ("rules", false, false), ("guard", true, false), ("number", false, false), ("name", false, false), ("told", false, false), ("delay", false, false), ("opens", false, false), ("rest", false, false), ("late", false, false), ("looks", false, false), ("error", false, false), ("least", false, false), ("most", false, false), ("ticks", false, false), ("one", true, true), ("at", false, false)]
abbrev gLWrong0 : List Str := []
abbrev nkLWrong1 : List (Str × Bool × Bool) := [("draw", false, false), ("net", false, false), ("buses", false, false), ("lines", false, false), ("sources", false, false), ("guards", false, false), ("rules", false, false), ("guard", false, false), ("number", false, false), ("name", false, false), ("told", false, false), ("delay", false, false), ("opens", false, false), ("rest", false, false), ("late", false, false), ("looks", false, false), ("error", false, false), ("least", false, false), ("most", false, false), ("ticks", false, false), ("one", false, false), ("at", true, true)]
abbrev gLWrong1 : List Str := ["str"]
/-! law(script): slots 0 script, 1 draw, 2 net, 3 turn, 4 bad, 5 lines, 6 one -/
abbrev sLaw : Stmt := topS 49
abbrev nLaw : List Str := ["script", "draw", "net", "turn", "bad", "lines", "one"]
theorem scLaw : FnScope nLaw ["script"] (defScope sLaw) := ⟨rfl, rfl, rfl, by decide +kernel, rfl, by decide +kernel, by decide +kernel⟩
abbrev nkLaw : List (Str × Bool × Bool) := [("script", true, true), ("draw", true, true), ("net", true, true), ("turn", true, true), ("bad", true, true), ("lines", true, true), ("one", false, false)]
abbrev gLaw : List Str := ["_law_net", "check_net", "is_net", "range", "_law_wrong", "BadNet", "any"]
abbrev nkLaw0 : List (Str × Bool × Bool) := [("script", false, false), ("draw", false, false), ("net", true, false), ("turn", false, false), ("bad", false, false), ("lines", false, false), ("one", true, true)]
abbrev gLaw0 : List Str := ["is_net", "_law_put"]

/-! ### is_int, is_tuple, is_whole_number, is_fraction of anything -/
def isIntD : D → Bool
  | .int _ => true
  | _ => false
def noDi (d : D) : Prop := ∀ x, d ≠ .dict x
def SIsIntA : List D → (D → Prop) → Prop := fun ds W => ∃ d, ds = [d] ∧ noDi d ∧ W (.bool (isIntD d))
theorem fIsIntA {M : Md} {f : Addr} {fd : FuncData} (ms : M.mg "isinstance" = none) (mi : M.mg "int" = none) (mb : M.mg "bool" = none)
    (F : Fun M.K "is_int" "is_int" sIsInt f fd) (hm : M.mg "is_int" = some (.ref f)) (b : L2.Binds M.K fd ["thing"] []) : FnD M 1 "is_int" 1 SIsIntA := by
  refine fnD_mk (k := 0) (NK := nkIsInt) (G := gIsInt) F scIsInt hm b rfl (by decide +kernel) rfl (by decide) fun X C ds W hl hS => ?_
  obtain ⟨d, rfl, nd, w⟩ := hS
  have h1 : ∃ bb, kitB (tyN d) "int" = some bb ∧ (bb = false → isIntD d = false) ∧ (bb = true → ∃ b2, kitB (tyN d) "bool" = some b2 ∧ isIntD d = !b2) := by
    cases d with
    | none => exact ⟨false, by decide +kernel, fun _ => rfl, fun h => by cases h⟩
    | bool b => exact ⟨true, by show kitB "bool" "int" = some true; decide +kernel, fun h => (by cases h), fun _ => ⟨true, by show kitB "bool" "bool" = some true; decide +kernel, rfl⟩⟩
    | int i => exact ⟨true, by show kitB "int" "int" = some true; decide +kernel, fun h => (by cases h), fun _ => ⟨false, by show kitB "int" "bool" = some false; decide +kernel, rfl⟩⟩
    | str z => exact ⟨false, by show kitB "str" "int" = some false; decide +kernel, fun _ => rfl, fun h => by cases h⟩
    | list l => exact ⟨false, by show kitB "list" "int" = some false; decide +kernel, fun _ => rfl, fun h => by cases h⟩
    | tuple l => exact ⟨false, by show kitB "tuple" "int" = some false; decide +kernel, fun _ => rfl, fun h => by cases h⟩
    | dict l => exact absurd rfl (nd l)
  obtain ⟨bb, k1, k2, k3⟩ := h1
  show VSs X _ [.dat d] _
  walk_at "v"
  walk_at "v"
  refine vd_and ?_
  refine vd_isi C (T := "int") (by walk_at "at") (by walk_at "at") ?_
  walk_at "v"
  refine ⟨bb, k1, bb, rfl, fun h => ?_, fun h => ?_⟩
  · obtain ⟨b2, k4, k5⟩ := k3 h
    refine vd_one (vd_not ?_)
    refine vd_isi C (T := "bool") (by walk_at "at") (by walk_at "at") ?_
    walk_at "v"
    refine ⟨b2, k4, b2, rfl, ?_⟩
    show W (.bool (!b2))
    rw [← k5]
    exact w
  · show W (.bool false)
    rw [← k2 h]
    exact w
def isTupD (n : Int) : D → Bool
  | .tuple ds => decide ((ds.length : Int) = n)
  | _ => false
/-- what isinstance tells of a tuple -/
theorem kit_tup {d : D} (nd : noDi d) : (∃ ds, d = .tuple ds ∧ kitB (tyN d) "tuple" = some true) ∨ (kitB (tyN d) "tuple" = some false ∧ ∀ ds, d ≠ .tuple ds) := by
  cases d with
  | none => exact .inr ⟨by decide +kernel, fun ds h => by cases h⟩
  | bool b => exact .inr ⟨by show kitB "bool" "tuple" = some false; decide +kernel, fun ds h => by cases h⟩
  | int i => exact .inr ⟨by show kitB "int" "tuple" = some false; decide +kernel, fun ds h => by cases h⟩
  | str z => exact .inr ⟨by show kitB "str" "tuple" = some false; decide +kernel, fun ds h => by cases h⟩
  | list l => exact .inr ⟨by show kitB "list" "tuple" = some false; decide +kernel, fun ds h => by cases h⟩
  | tuple l => exact .inl ⟨l, rfl, by show kitB "tuple" "tuple" = some true; decide +kernel⟩
  | dict l => exact absurd rfl (nd l)
theorem kit_str {d : D} (nd : noDi d) : (∃ z, d = .str z ∧ kitB (tyN d) "str" = some true) ∨ (kitB (tyN d) "str" = some false ∧ ∀ z, d ≠ .str z) := by
  cases d with
  | none => exact .inr ⟨by decide +kernel, fun ds h => by cases h⟩
  | bool b => exact .inr ⟨by show kitB "bool" "str" = some false; decide +kernel, fun ds h => by cases h⟩
  | int i => exact .inr ⟨by show kitB "int" "str" = some false; decide +kernel, fun ds h => by cases h⟩
  | str z => exact .inl ⟨z, rfl, by show kitB "str" "str" = some true; decide +kernel⟩
  | list l => exact .inr ⟨by show kitB "list" "str" = some false; decide +kernel, fun ds h => by cases h⟩
  | tuple l => exact .inr ⟨by show kitB "tuple" "str" = some false; decide +kernel, fun ds h => by cases h⟩
  | dict l => exact absurd rfl (nd l)
theorem isTup_of {n : Int} {d : D} (h : ∀ ds, d ≠ .tuple ds) : isTupD n d = false := by
  cases d with
  | tuple l => exact absurd rfl (h l)
  | _ => rfl
def SIsTupA : List D → (D → Prop) → Prop := fun ds W => ∃ d n, ds = [d, .int n] ∧ noDi d ∧ W (.bool (isTupD n d))
theorem fIsTupA {M : Md} {f : Addr} {fd : FuncData} (ms : M.mg "isinstance" = none) (mt : M.mg "tuple" = none) (ml : M.mg "len" = none)
    (F : Fun M.K "is_tuple" "is_tuple" sIsTuple f fd) (hm : M.mg "is_tuple" = some (.ref f)) (b : L2.Binds M.K fd ["thing", "size"] []) : FnD M 1 "is_tuple" 2 SIsTupA := by
  refine fnD_mk (k := 0) (NK := nkIsTuple) (G := gIsTuple) F scIsTuple hm b rfl (by decide +kernel) rfl (by decide) fun X C ds W hl hS => ?_
  obtain ⟨d, n, rfl, nd, w⟩ := hS
  show VSs X _ [.dat d, .dat (.int n)] _
  walk_at "v"
  walk_at "v"
  refine vd_and ?_
  refine vd_isi C (T := "tuple") (by walk_at "at") (by walk_at "at") ?_
  walk_at "v"
  rcases kit_tup nd with ⟨es, rfl, k1⟩ | ⟨k1, k2⟩
  · refine ⟨true, k1, true, rfl, fun _ => ?_, fun h => by cases h⟩
    refine vd_one ?_
    walk_at "v"
    walk_at "v"
    walk_at "v"
    walk_at "v"
    walk_at "v"
    refine ⟨es, .inr rfl, ?_⟩
    walk_at "v"
    exact w
  · refine ⟨false, k1, false, rfl, fun h => (by cases h), fun _ => ?_⟩
    show W (.bool false)
    rw [← isTup_of (n := n) k2]
    exact w
def wholeD (lo hi : Int) : D → Bool
  | .int i => decide (lo ≤ i) && decide (i ≤ hi)
  | _ => false
theorem whole_of {lo hi : Int} {d : D} (h : isIntD d = false) : wholeD lo hi d = false := by
  cases d with
  | int i => cases h
  | _ => rfl
def SWholeA : List D → (D → Prop) → Prop := fun ds W => ∃ d lo hi, ds = [d, .int lo, .int hi] ∧ noDi d ∧ W (.bool (wholeD lo hi d))
theorem fWholeA {M : Md} {f : Addr} {fd : FuncData} (FI : FnD M 1 "is_int" 1 SIsIntA)
    (F : Fun M.K "is_whole_number" "is_whole_number" sIsWholeNumber f fd) (hm : M.mg "is_whole_number" = some (.ref f)) (b : L2.Binds M.K fd ["thing", "least", "most"] []) : FnD M 2 "is_whole_number" 3 SWholeA := by
  refine fnD_mk (k := 1) (NK := nkIsWholeNumber) (G := gIsWholeNumber) F scIsWholeNumber hm b rfl (by decide +kernel) rfl (by decide) fun X C ds W hl hS => ?_
  obtain ⟨d, lo, hi, rfl, nd, w⟩ := hS
  show VSs X _ [.dat d, .dat (.int lo), .dat (.int hi)] _
  walk_at "v"
  walk_at "v"
  refine vd_and ?_
  refine vd_call C FI (by walk_at "at") ?_
  walk_at "vv"
  refine ⟨rfl, d, rfl, nd, isIntD d, rfl, fun h => ?_, fun h => ?_⟩
  · cases d with
    | int i =>
      refine vd_one (vd_chain C ?_)
      walk_at "vv"
      show _ ∧ _
      refine ⟨fun h1 => ?_, fun h1 => ?_⟩
      · have h1' := of_decide_eq_true h1
        walk_at "vv"
        show W (.bool (decide (i ≤ hi)))
        have e : wholeD lo hi (.int i) = decide (i ≤ hi) := by
          show (decide (lo ≤ i) && decide (i ≤ hi)) = _
          rw [decide_eq_true h1', Bool.true_and]
        rw [← e]
        exact w
      · have h1' := of_decide_eq_false h1
        show W (.bool false)
        have e : wholeD lo hi (.int i) = false := by
          show (decide (lo ≤ i) && decide (i ≤ hi)) = _
          rw [decide_eq_false h1', Bool.false_and]
        rw [← e]
        exact w
    | _ => cases h
  · show W (.bool false)
    rw [← whole_of (lo := lo) (hi := hi) h]
    exact w


open PySem PySem.Spec PyProof.Rows L2 Vc
/-! ### is_fraction, is_name, is_bound of anything -/
mutual
/-- no dict within; short texts, short rows -/
def okD : D → Bool
  | .dict _ => false
  | .str z => decide (z.length ≤ 1000)
  | .list ds => decide (ds.length ≤ 1000) && okDs ds
  | .tuple ds => decide (ds.length ≤ 1000) && okDs ds
  | _ => true
def okDs : List D → Bool
  | [] => true
  | d :: ds => okD d && okDs ds
end
theorem okDs_mem : ∀ {ds : List D}, okDs ds = true → ∀ d ∈ ds, okD d = true
  | [], _, d, h => by cases h
  | e :: ds, q, d, h => by
    unfold okDs at q
    rw [Bool.and_eq_true] at q
    rcases List.mem_cons.mp h with rfl | h
    · exact q.1
    · exact okDs_mem q.2 d h
theorem ok_no {d : D} (h : okD d = true) : noDi d := fun x e => by
  subst e
  exact Bool.false_ne_true h
theorem ok_tup {ds : List D} (h : okD (.tuple ds) = true) : ds.length ≤ 1000 ∧ okDs ds = true := by
  unfold okD at h
  rw [Bool.and_eq_true] at h
  exact ⟨of_decide_eq_true h.1, h.2⟩
theorem ok_str {z : Str} (h : okD (.str z) = true) : z.length ≤ 1000 := by
  unfold okD at h
  exact of_decide_eq_true h
theorem isTup_two {d : D} (h : isTupD 2 d = true) : ∃ a b, d = .tuple [a, b] := by
  cases d with
  | tuple ds =>
    have := of_decide_eq_true h
    match ds, this with
    | [a, b], _ => exact ⟨a, b, rfl⟩
    | [], h => simp at h
    | [a], h => simp at h
    | a :: b :: c :: r, h => simp at h; omega
  | _ => cases h
theorem isInt_of {d : D} (h : isIntD d = true) : ∃ i, d = .int i := by
  cases d with
  | int i => exact ⟨i, rfl⟩
  | _ => cases h
def gcdI (a b : Int) : Int := ((Nat.gcd a.natAbs b.natAbs : Nat) : Int)
def fracD : D → Bool
  | .tuple [.int n, .int d] => decide (0 < d) && decide (gcdI n d = 1)
  | _ => false
theorem frac_tup {d : D} (h : isTupD 2 d = false) : fracD d = false := by
  unfold fracD
  split
  · rename_i n d
    have e : isTupD 2 (.tuple [.int n, .int d]) = true := by
      show decide (((2 : Nat) : Int) = 2) = true
      decide
    rw [e] at h
    cases h
  · rfl
theorem frac_a {a b : D} (h : isIntD a = false) : fracD (.tuple [a, b]) = false := by
  unfold fracD
  split
  · rename_i e
    cases e
    cases h
  · rfl
theorem frac_b {a b : D} (h : isIntD b = false) : fracD (.tuple [a, b]) = false := by
  unfold fracD
  split
  · rename_i e
    cases e
    cases h
  · rfl
def SOk1 (g : D → Bool) : List D → (D → Prop) → Prop := fun ds W => ∃ d, ds = [d] ∧ okD d = true ∧ W (.bool (g d))
theorem ok_two {a b : D} (h : okD (.tuple [a, b]) = true) : okD a = true ∧ okD b = true :=
  ⟨okDs_mem (ok_tup h).2 a (by simp), okDs_mem (ok_tup h).2 b (by simp)⟩
theorem fFracA {M : Md} {f : Addr} {fd : FuncData} (mg_ : M.mg "gcd" = some (.builtin "math.gcd")) (FI : FnD M 1 "is_int" 1 SIsIntA) (FT : FnD M 1 "is_tuple" 2 SIsTupA)
    (F : Fun M.K "is_fraction" "is_fraction" sIsFraction f fd) (hm : M.mg "is_fraction" = some (.ref f)) (b : L2.Binds M.K fd ["thing"] []) : FnD M 2 "is_fraction" 1 (SOk1 fracD) := by
  refine fnD_mk (k := 1) (NK := nkIsFraction) (G := gIsFraction) F scIsFraction hm b rfl (by decide +kernel) rfl (by decide) fun X C ds W hl hS => ?_
  obtain ⟨d, rfl, ok, w⟩ := hS
  show VSs X _ [.dat d] _
  have no : fracD d = false → W (.bool false) := fun h => by rw [← h]; exact w
  refine vss_cons (vs_if (vt_not (vt_w (vw_and (vt_val ?_)))))
  refine vd_call C FT (by walk_at "at") ?_
  walk_at "vv"
  refine ⟨rfl, d, 2, rfl, ok_no ok, isTupD 2 d, rfl, fun h => ?_, fun h => ⟨fun _ => ?_, fun h => (by cases h)⟩⟩
  · obtain ⟨x, y, rfl⟩ := isTup_two h
    obtain ⟨ox, oy⟩ := ok_two ok
    refine vw_and (vt_val ?_)
    refine vd_call C FI (by walk_at "at") ?_
    walk_at "vv"
    refine ⟨x, rfl, ?_⟩
    walk_at "vv"
    refine ⟨rfl, x, rfl, ok_no ox, isIntD x, rfl, fun hx => ?_, fun hx => ⟨fun _ => ?_, fun h => (by cases h)⟩⟩
    · refine vw_and1 (vt_val ?_)
      refine vd_call C FI (by walk_at "at") ?_
      walk_at "vv"
      refine ⟨y, rfl, ?_⟩
      walk_at "vv"
      refine ⟨rfl, y, rfl, ok_no oy, isIntD y, rfl, ?_⟩
      refine ⟨fun hy => ?_, fun hy => ?_⟩
      · have hy' : isIntD y = false := by simpa using hy
        walk_at "vv"
        exact no (frac_b hy')
      · have hy' : isIntD y = true := by simpa using hy
        obtain ⟨i, rfl⟩ := isInt_of hx
        obtain ⟨j, rfl⟩ := isInt_of hy'
        refine vss_nil ?_
        walk_at "v"
        walk_at "v"
        refine vd_and ?_
        walk_at "vv"
        refine ⟨.int j, rfl, ?_⟩
        walk_at "vv"
        refine ⟨_, rfl, fun hj => ?_, fun hj => ?_⟩
        · refine vd_one ?_
          walk_at "v"
          refine vd_callM C does_gcd2 (by walk_at "at") ?_
          walk_at "vv"
          refine ⟨.int i, rfl, ?_⟩
          walk_at "vv"
          refine ⟨.int j, rfl, ?_⟩
          walk_at "vv"
          refine ⟨i, j, rfl, ?_⟩
          walk_at "vv"
          show W (.bool (decide (gcdI i j = 1)))
          have e : fracD (.tuple [.int i, .int j]) = decide (gcdI i j = 1) := by
            show (decide (0 < j) && decide (gcdI i j = 1)) = _
            rw [hj, Bool.true_and]
          rw [← e]
          exact w
        · have e : fracD (.tuple [.int i, .int j]) = false := by
            show (decide (0 < j) && decide (gcdI i j = 1)) = _
            rw [hj, Bool.false_and]
          exact no e
    · walk_at "vv"
      exact no (frac_a hx)
  · walk_at "vv"
    exact no (frac_tup h)

/-! is_name -/
def lettersS : Str := "abcdefghijklmnopqrstuvwxyz"
def signsS : Str := "abcdefghijklmnopqrstuvwxyz0123456789"
def wordsS : List Str := ["bus", "line", "source", "guard", "error", "breaker", "ticks", "over", "reach", "difference", "behind", "forward", "delay", "opens"]
def nameS (z : Str) : Bool := decide (1 ≤ z.length) && (decide (z.length ≤ 8) && ((match z.cps.toList with | c :: _ => decide (c ∈ lettersS.cps.toList) | [] => false) && (z.cps.toList.all (fun c => decide (c ∈ signsS.cps.toList)) && !decide (z ∈ wordsS))))
def nameD : D → Bool
  | .str z => nameS z
  | _ => false
theorem name_of {d : D} (h : ∀ z, d ≠ .str z) : nameD d = false := by
  cases d with
  | str z => exact absurd rfl (h z)
  | _ => rfl
theorem fNameA {M : Md} {f aW : Addr} {fd : FuncData} {t1 t2 t3 : Tok} (ms : M.mg "isinstance" = none) (mt : M.mg "str" = none) (ml : M.mg "len" = none) (ma : M.mg "all" = none) (m8 : M.mg "MOST_SIGNS" = some (.int 8 t1)) (mL : M.mg "LETTERS" = some (.str lettersS t2)) (mS : M.mg "SIGNS" = some (.str signsS t3))
    (mW : M.mg "WORDS" = some (.ref aW)) (dW : ∀ B, Dp M.K B (.ref aW) (.tuple (wordsS.map PyData.str)))
    (F : Fun M.K "is_name" "is_name" sIsName f fd) (hm : M.mg "is_name" = some (.ref f)) (b : L2.Binds M.K fd ["thing"] []) : FnD M 1 "is_name" 1 (SOk1 nameD) := by
  refine fnD_mk (k := 0) (NK := nkIsName) (G := gIsName) F scIsName hm b rfl (by decide +kernel) rfl (by decide) fun X C ds W hl hS => ?_
  obtain ⟨d, rfl, ok, w⟩ := hS
  show VSs X _ [.dat d, .no] _
  have no : nameD d = false → W (.bool false) := fun h => by rw [← h]; exact w
  refine vss_cons (vs_if (vt_not (vt_w (vw_and (vt_val ?_)))))
  refine vd_isi C (T := "str") (by walk_at "at") (by walk_at "at") ?_
  walk_at "v"
  rcases kit_str (ok_no ok) with ⟨z, rfl, k1⟩ | ⟨k1, k2⟩
  · have lz := ok_str ok
    refine ⟨true, k1, true, rfl, fun _ => ?_, fun h => (by cases h)⟩
    refine vw_and (vt_chain C ?_)
    walk_at "v"
    refine vd_callB C (x := "len") does_lenS (by walk_at "at") ?_
    walk_at "vv"
    refine ⟨z, rfl, by omega, ?_⟩
    show _ ∧ _
    have tell : nameD (.str z) = nameS z := rfl
    refine ⟨fun h1 => ?_, fun h1 => ⟨fun h => (by cases h), fun _ => ⟨fun _ => ?_, fun h => (by cases h)⟩⟩⟩
    · have h1' : (1 : Int) ≤ (z.length : Int) := of_decide_eq_true h1
      refine vd_gint C (by walk_at "at") m8 ?_
      show _ ∧ _
      refine ⟨fun h8 => ?_, fun h8 => ⟨fun _ => ?_, fun h => (by cases h)⟩⟩
      · have h8' : (z.length : Int) ≤ 8 := of_decide_eq_true h8
        refine vw_and1 (vt_inSg ?_)
        have hp : 0 < z.cps.toList.length := by
          have e : z.length = z.cps.toList.length := rfl
          omega
        cases hz : z.cps.toList with
        | nil =>
          rw [hz] at hp
          simp at hp
        | cons c r =>
          refine vd_ixS ?_
          walk_at "vv"
          refine ⟨z, 0, c, rfl, rfl, by omega, by rw [hz]; unfold atI ixN; rw [if_pos (by decide), if_pos (by rw [List.length_cons]; omega)]; rfl, ?_⟩
          refine vd_gstr C (by walk_at "at") mL ?_
          refine ⟨c, lettersS, rfl, rfl, ?_⟩
          have nm : nameS z = (decide (c ∈ lettersS.cps.toList) && (z.cps.toList.all (fun c => decide (c ∈ signsS.cps.toList)) && !decide (z ∈ wordsS))) := by
            unfold nameS
            rw [decide_eq_true (show 1 ≤ z.length by omega), decide_eq_true (show z.length ≤ 8 by omega), Bool.true_and, Bool.true_and, hz]
          refine ⟨fun hc => ?_, fun hc => ?_⟩
          · have hc' : decide (c ∈ lettersS.cps.toList) = false := by simpa using hc
            walk_at "vv"
            refine no ?_
            rw [tell, nm, hc', Bool.false_and]
          · have hc' : decide (c ∈ lettersS.cps.toList) = true := by simpa using hc
            refine vss_nil ?_
            walk_at "v"
            walk_at "v"
            refine vd_and ?_
            refine vd_callB C (does_all C) (by walk_at "at") ?_
            refine va_cons (vn_vd ?_)
            refine vn_lc C nkIsName0 gIsName0 (i := 1) (by walk_at "at") ?_
            refine vi_str ?_
            walk_at "v"
            refine ⟨z, rfl, by show (z.cps.toList.map _).length ≤ 100000; rw [List.length_map]; have e : z.length = z.cps.toList.length := rfl; omega, fun j acc ρ' => acc = ((z.cps.toList.take j).map fun c => decide (c ∈ signsS.cps.toList)).map PyData.bool ∧ ρ' = [.dat (.str z), .no], ⟨rfl, rfl⟩, fun j d acc ρ' hj hW X' C' => ?_, fun acc ρ' hW => ?_⟩
            · obtain ⟨rfl, rfl⟩ := hW
              unfold sgs at hj
              rw [List.getElem?_map] at hj
              cases hcj : z.cps.toList[j]? with
              | none =>
                rw [hcj] at hj
                cases hj
              | some cj =>
                rw [hcj] at hj
                cases hj
                refine vd_inSg ?_
                walk_at "v"
                refine vd_gstr C' (by walk_at "at") mS ?_
                refine ⟨cj, signsS, rfl, rfl, ?_, rfl⟩
                obtain ⟨hjl, hje⟩ := List.getElem?_eq_some_iff.mp hcj
                rw [List.take_succ, hcj, List.map_append, List.map_append]
                rfl
            · obtain ⟨rfl, rfl⟩ := hW
              refine va_nil ?_
              refine ⟨_, rfl, ?_⟩
              have el : z.cps.toList.take (sgs z).length = z.cps.toList := by
                unfold sgs
                rw [List.length_map, List.take_length]
              rw [el]
              have ea : ((z.cps.toList.map fun c => decide (c ∈ signsS.cps.toList)).all id) = z.cps.toList.all (fun c => decide (c ∈ signsS.cps.toList)) := by
                rw [List.all_map]
                rfl
              rw [ea]
              refine ⟨_, rfl, fun ha => ?_, fun ha => ?_⟩
              · refine vd_one (vd_notInTx ?_)
                walk_at "v"
                refine vd_gtup C (by walk_at "at") mW dW ?_
                refine ⟨z, wordsS, rfl, .inl rfl, ?_⟩
                show W (.bool (!decide (z ∈ wordsS)))
                have e : nameD (.str z) = !decide (z ∈ wordsS) := by
                  rw [tell, nm, hc', ha, Bool.true_and, Bool.true_and]
                rw [← e]
                exact w
              · refine no ?_
                rw [tell, nm, hc', ha, Bool.true_and, Bool.false_and]
      · walk_at "vv"
        refine no ?_
        have h8' : ¬ (z.length : Int) ≤ 8 := of_decide_eq_false h8
        rw [tell]
        unfold nameS
        rw [decide_eq_false (show ¬ z.length ≤ 8 by omega), Bool.false_and, Bool.and_false]
    · walk_at "vv"
      refine no ?_
      have h1' : ¬ (1 : Int) ≤ (z.length : Int) := of_decide_eq_false h1
      rw [tell]
      unfold nameS
      rw [decide_eq_false (show ¬ 1 ≤ z.length by omega), Bool.false_and]
  · refine ⟨false, k1, false, rfl, fun h => (by cases h), fun h => ⟨fun _ => ?_, fun h => (by cases h)⟩⟩
    walk_at "vv"
    exact no (name_of k2)


open PySem PySem.Spec PyProof.Rows L2 Vc
/-! ### names: a dict by texts; is_known, add_name -/
abbrev Nm := List (Str × Str)
def nm (ns : Nm) : List (Str × D) := ns.map fun p => (p.1, PyData.str p.2)
def kindOf (ns : Nm) (z : Str) : Option Str := (ns.find? fun e => decide (e.1 = z)).map (·.2)
theorem getS_nm {z : Str} : ∀ {ns : Nm}, getS (nm ns) z = (kindOf ns z).map PyData.str
  | [] => rfl
  | e :: ns => by
    have ih := getS_nm (z := z) (ns := ns)
    unfold getS kindOf nm at ih ⊢
    rw [List.map_cons, List.find?_cons, List.find?_cons]
    by_cases q : e.1 = z
    · rw [decide_eq_true q]
      rfl
    · rw [decide_eq_false q]
      exact ih
theorem nm_app {ns : Nm} {z k : Str} : nm ns ++ [(z, PyData.str k)] = nm (ns ++ [(z, k)]) := by
  unfold nm
  rw [List.map_append]
  rfl
section
variable {X : Cx} {M : Md} {sc : Scope} {NK : List (Str × Bool × Bool)} {G : List Str} {k : Nat} {ρ : En} {P : D → En → Prop} {pos ps rp : Pos} {a b : Expr} {F : Vc.Fin}
theorem inV_none {K : PySem.W.Frag} {B : Hp} : ∀ {ws : List Str} {vs : List V}, DpAll K B vs (ws.map PyData.str) → inV .non vs = false ∧ vs.all flatV = true
  | [], _, .nil => ⟨rfl, rfl⟩
  | w :: ws, _, .cons (v := v) h hs => by
    obtain ⟨h1, h2⟩ := inV_none (ws := ws) hs
    have hv := dp_str h
    subst hv
    refine ⟨?_, ?_⟩
    · unfold inV at h1 ⊢
      rw [List.any_cons, h1]
      simp [eqV]
    · rw [List.all_cons, h2]
      rfl
/-- a text or None, in a tuple of texts -/
theorem vd_inOp (h : VD X a ρ fun x ρ1 => VD X b ρ1 fun y ρ2 => ∃ (o : Option Str) (ws : List Str), x = (o.map PyData.str).getD .none ∧ y = .tuple (ws.map PyData.str) ∧ P (.bool (match o with | some z => decide (z ∈ ws) | none => false)) ρ2) (hm : behindInMarks .In b = false := by first | exact nobehind _ (by decide) (by decide) | rfl) : VD X (.Compare a [.In] [b] pos) ρ P := VD.mk fun B H σ Q r q => by
  refine PE.sem (pe_cmpR op_in_seq pe_sem pe_sem hm) ?_
  refine h.run B H σ _ r fun vx x B1 H1 ρ1 p1 dx g1 r1 => ?_
  refine p1.run B1 H1 σ _ r1 fun vy y B2 H2 ρ2 p2 dy g2 r2 => ?_
  obtain ⟨o, ws, rfl, rfl, pp⟩ := p2
  obtain ⟨t, vs, rfl, hT, hv⟩ := dp_tup dy
  cases o with
  | some z =>
    have dx' := dp_str dx
    subst dx'
    obtain ⟨e1, e2⟩ := inV_strs (x := z) hv
    refine ⟨t, vs, rfl, .inr (ex_t r2.ex hT), rfl, e2, ?_⟩
    rw [if_neg Bool.false_ne_true, e1]
    exact q _ _ B2 H2 ρ2 pp (.bl _) (g1.trans g2) r2
  | none =>
    cases dx
    obtain ⟨e1, e2⟩ := inV_none hv
    refine ⟨t, vs, rfl, .inr (ex_t r2.ex hT), rfl, e2, ?_⟩
    rw [if_neg Bool.false_ne_true, e1]
    exact q _ _ B2 H2 ρ2 pp (.bl _) (g1.trans g2) r2
/-- raise BadNet(a, b) -/
theorem vs_raiseN (C : Cst X M sc NK G k) {CN GN fI : Addr} {i : Nat} (T : NetTxt M.prog M.K M.mg CN GN fI) (hg : At G i "BadNet")
    (h : VA X [a, b] ρ fun ds ρ1 => ∃ x y : Str, ds = [.str x, .str y] ∧ x.length ≤ 100000 ∧ y.length ≤ 100000 ∧ F.ex (.ref CN) ρ1)
    (he : starEach [a, b] X.env = (false, eval a X.env) :: starEach [b] X.env := by rfl) (hpl : (backTo ps (starEach [b] X.env)).any (·.1) = false := by rfl) :
    VS X (.Raise (some (.Call (.Name "BadNet" pos) [a, b] [] ps)) none rp) ρ F := by
  have eM := C.m
  subst eM
  refine vs_raise C (pmk_net T C.room pa_sem (C.g hg) he hpl) fun B H σ Q r q => ?_
  refine h.run B H σ _ r fun vs ds B1 H1 ρ1 p1 dvs g1 r1 => ?_
  obtain ⟨x, y, rfl, lx, ly, pp⟩ := p1
  cases dvs with
  | cons h1 h2 =>
    cases h2 with
    | cons h2 h3 =>
      cases h3
      have e1 := dp_str h1
      have e2 := dp_str h2
      subst e1 e2
      exact ⟨x, y, rfl, lx, ly, fun d => q (Er.ref CN) _ B1 H1 ρ1 pp erOk_none g1 r1⟩
end
def knownD (ns : Nm) (ks : List Str) : D → Bool
  | .str z => match kindOf ns z with
    | some k => decide (k ∈ ks)
    | none => false
  | _ => false
theorem known_of {ns : Nm} {ks : List Str} {d : D} (h : ∀ z, d ≠ .str z) : knownD ns ks d = false := by
  cases d with
  | str z => exact absurd rfl (h z)
  | _ => rfl
def SKnown : SX := fun as W WX => ∃ p ns d ks, as = [.own p (.dt (nm ns)), .dat d, .dat (.tuple (ks.map PyData.str))] ∧ okD d = true ∧ W (.bool (knownD ns ks d)) as
theorem fKnown {M : Md} {f : Addr} {fd : FuncData} (ms : M.mg "isinstance" = none) (mt : M.mg "str" = none)
    (F : Fun M.K "is_known" "is_known" sIsKnown f fd) (hm : M.mg "is_known" = some (.ref f)) : FnV M 1 "is_known" 2 SKnown := by
  refine fnV_mk (ps := ["names", "thing"]) (pv := "kinds") (k := 0) (NK := nkIsKnown) (G := gIsKnown) F scIsKnown hm ?_ rfl (by decide +kernel) rfl (by decide) fun X C as W WX hl hS => ?_
  · intro kV doc pm cdv ct an us rest hl
    match us, hl with
    | [u1, u2], _ =>
      match rest with
      | [] => rfl
      | [r1] => rfl
      | r1 :: r2 :: r3 => rfl
  · obtain ⟨p, ns, d, ks, rfl, ok, w⟩ := hS
    show VSs X _ [.own p (.dt (nm ns)), .dat d, .dat (.tuple (ks.map PyData.str))] _
    walk_at "v"
    walk_at "v"
    refine vd_and ?_
    refine vd_isi C (T := "str") (by walk_at "at") (by walk_at "at") ?_
    walk_at "v"
    rcases kit_str (ok_no ok) with ⟨z, rfl, k1⟩ | ⟨k1, k2⟩
    · refine ⟨true, k1, true, rfl, fun _ => ?_, fun h => (by cases h)⟩
      refine vd_one (vd_inOp ?_)
      refine vd_getDt C (by walk_at "at") rfl ?_
      walk_at "v"
      refine ⟨z, p, nm ns, rfl, rfl, rfl, ?_⟩
      walk_at "v"
      refine ⟨kindOf ns z, ks, by rw [getS_nm], rfl, ?_⟩
      exact ⟨⟨rfl, trivial⟩, w⟩
    · refine ⟨false, k1, false, rfl, fun h => (by cases h), fun _ => ?_⟩
      rw [known_of k2] at w
      exact ⟨⟨rfl, trivial⟩, w⟩
def addN (ns : Nm) (k : Str) : D → Option Nm
  | .str z => if nameS z = true ∧ kindOf ns z = none then some (ns ++ [(z, k)]) else none
  | _ => none
def SAddN (CN : Addr) : SX := fun as W WX => ∃ p ns d k, as = [.own p (.dt (nm ns)), .dat d, .dat (.str k)] ∧ okD d = true ∧ ns.length ≤ 1000 ∧ k.length ≤ 1000 ∧
  (∀ ns', addN ns k d = some ns' → W .none [.own p (.dt (nm ns')), .dat d, .dat (.str k)]) ∧ (addN ns k d = none → ∀ ns', WX (.ref CN) [.own p (.dt (nm ns')), .dat d, .dat (.str k)])
theorem fAddN {M : Md} {f CN GN fI : Addr} {fd : FuncData} (T : NetTxt M.prog M.K M.mg CN GN fI) (FN : FnD M 1 "is_name" 1 (SOk1 nameD))
    (F : Fun M.K "add_name" "add_name" sAddName f fd) (hm : M.mg "add_name" = some (.ref f)) (b : L2.Binds M.K fd ["names", "thing", "kind"] []) : FnX M 2 "add_name" 3 (SAddN CN) := by
  refine fnX_mk (k := 1) (NK := nkAddName) (G := gAddName) F scAddName hm b rfl (by decide +kernel) rfl (by decide) fun X C as W WX hl hS => ?_
  obtain ⟨p, ns, d, k, rfl, ok, ln, lk, w1, w2⟩ := hS
  show VSs X _ [.own p (.dt (nm ns)), .dat d, .dat (.str k)] _
  refine vss_cons (vs_if (vt_not (vt_val ?_)))
  refine vd_call C FN (by walk_at "at") ?_
  walk_at "vv"
  refine ⟨rfl, d, rfl, ok, nameD d, rfl, ?_⟩
  refine ⟨fun h => ?_, fun h => ?_⟩
  · have h' : nameD d = false := by simpa using h
    refine vss_one (vs_raiseN C T (by walk_at "at") ?_)
    walk_at "vv"
    refine ⟨k, "no name", rfl, by omega, by decide, ⟨rfl, trivial⟩, w2 ?_ ns⟩
    cases d with
    | str z =>
      show (if nameS z = true ∧ _ then _ else _) = _
      rw [if_neg fun q => by rw [show nameS z = false from h'] at q; exact Bool.false_ne_true q.1]
    | _ => rfl
  · have h' : nameD d = true := by simpa using h
    cases d with
    | str z =>
      have hz : nameS z = true := h'
      refine vss_nil ?_
      refine vss_cons (vs_if (vt_inDt C (by walk_at "at") ?_))
      walk_at "v"
      refine ⟨z, p, nm ns, rfl, rfl, ?_⟩
      rw [getS_nm]
      refine ⟨fun h => ?_, fun h => ?_⟩
      · refine vss_one (vs_raiseN C T (by walk_at "at") ?_)
        walk_at "vv"
        have lz := ok_str ok
        refine ⟨z, "told twice", rfl, by omega, by decide, ⟨rfl, trivial⟩, w2 ?_ ns⟩
        show (if nameS z = true ∧ _ then _ else _) = _
        rw [if_neg fun q => by rw [q.2] at h; cases h]
      · have hn : kindOf ns z = none := by
          cases e : kindOf ns z with
          | none => rfl
          | some x => rw [e] at h; cases h
        refine vss_nil ?_
        refine vss_one (vs_putDt C (by walk_at "at") rfl ?_)
        walk_at "v"
        walk_at "v"
        refine ⟨z, nm ns, rfl, rfl, by rw [getS_nm, hn]; rfl, by unfold nm; rw [List.length_map]; omega, ?_⟩
        rw [nm_app]
        refine ⟨⟨rfl, trivial⟩, w1 _ ?_⟩
        show (if nameS z = true ∧ _ then _ else _) = _
        rw [if_pos ⟨hz, hn⟩]
    | _ => cases h'

end K5

/-! Vc, part V: comprehensions over pairs (zip, enumerate); truth of a tuple; f-texts. -/
namespace Vc
open PySem PySem.Spec PyProof.Rows L2
open Evl (Ex)
/-- the i-th pair, in a tuple that is there or made anew -/
def YieldsP (K : PySem.W.Frag) (J : It) (B : Hp) (ds : List (D × D)) : Prop := ∀ (i : Nat) (B1 H1 : Hp), Ex B B1 → Ex B1 H1 →
  (i < ds.length → J.go i H1 ∧ ∀ x H', J.yld i H1 x H' → ∃ T x1 x2 d1 d2, x = V.ref T ∧ ((H' = H1 ∧ SqT K B1 T [x1, x2]) ∨ (H1 T = none ∧ H' = upd H1 T (.tup [x1, x2]))) ∧ ds[i]? = some (d1, d2) ∧ Dp K B1 x1 d1 ∧ Dp K B1 x2 d2) ∧ (ds.length ≤ i → J.stop i H1)
structure VP (X : Cx) (tg iter : Expr) (ρ : En) (P : List (D × D) → En → Prop) : Prop where
  run : ∀ B H σ (R : It → Hp → Prop), Rel (kwOf X) B H σ ρ →
  (∀ J ds B' H' ρ', P ds ρ' → YieldsP X.K J B' ds → Go B H ρ B' H' ρ' → Rel (kwOf X) B' H' σ ρ' → R J H') → iSemI X tg iter σ H R
def t2 (i1 i2 : Nat) : TGs := fun vs σ H Q => ∃ v w, vs = [v, w] ∧ Q ((σ.set i1 (some v)).set i2 (some w)) H
section
variable {X : Cx} {M : Md} {sc : Scope} {NK : List (Str × Bool × Bool)} {G : List Str} {k : Nat} {ρ : En} {P : D → En → Prop} {PB : Bool → En → Prop} {PL : List D → En → Prop} {PP : List (D × D) → En → Prop} {pos : Pos} {e a b tg : Expr} {x y : Str}
theorem set_none2 {σ : L2.St} {i1 i2 : Nat} {u v : Option V} (h : i1 ≠ i2) : wipe (((wipe σ [i1, i2]).set i1 u).set i2 v) [i1, i2] = wipe σ [i1, i2] := by
  show (((((σ.set i2 none).set i1 none).set i1 u).set i2 v).set i2 none).set i1 none = (σ.set i2 none).set i1 none
  have e : ∀ τ : L2.St, (((τ.set i1 u).set i2 v).set i2 none).set i1 none = (τ.set i2 none).set i1 none := fun τ => by
    rw [List.set_set, List.set_comm _ _ h, List.set_set]
  rw [e, List.set_comm _ _ h, List.set_set, List.set_set]
theorem lc_read2 {B H : Hp} {σ : L2.St} {Q : VK} {scope : Scope} {i1 i2 : Nat} {elt iter : Expr} {Cb : Cx → Prop} (ne : i1 ≠ i2) (r : Rel (kwOf X) B H σ ρ)
    (cb : ∀ (s : Shared) (H : Hp) (Ca : Addr) (cl : List (Str × Addr)) (fp : List Addr), Cb (X.blk s H scope (compEnvC scope cl Ca X.env) fp))
    (h : VP X tg iter ρ fun ds ρ1 => ds.length ≤ 100000 ∧ ∃ W : Nat → List D → En → Prop, W 0 [] ρ1 ∧
      (∀ (j : Nat) d1 d2 acc ρ', ds[j]? = some (d1, d2) → W j acc ρ' → ∀ X', Cb X' → VD X' elt ((ρ'.set i1 (.dat d1)).set i2 (.dat d2)) fun u ρ4 => W (j + 1) (acc ++ [u]) ((ρ4.set i1 .no).set i2 .no)) ∧
      ∀ acc ρ', W ds.length acc ρ' → PL acc ρ')
    (q : ∀ p vs ds B' H' ρ', PL ds ρ' → H p = none → H' p = some (.lst vs) → B' p = none → ¬ Own ρ' p → DpAll X.K B' vs ds → Go B H ρ B' H' ρ' → Rel (kwOf X) B' H' σ ρ' → Q (.ref p) H') :
    tLc (iSemI X tg iter) (gTup X.K 2 (t2 i1 i2)) tYes (uSem X scope elt) [i1, i2] σ H Q := by
  refine h.run B H σ _ r fun J ds B1 H1 ρ1 p1 yl g1 r1 Dl hD => ?_
  obtain ⟨hlen, W, w0, step, done⟩ := p1
  have bD : B1 Dl = none := by
    cases e : B1 Dl with
    | none => rfl
    | some u =>
      rw [r1.ex Dl u e] at hD
      cases hD
  have nD : ¬ Own ρ1 Dl := fun ⟨j, es, hj⟩ => by
    obtain ⟨_, _, ws, h7, _⟩ := r1.own j Dl es hj
    rw [hD] at h7
    cases h7
  refine ⟨fun j m H' => m = ds.length - j ∧ j ≤ ds.length ∧ ∃ acc vs B' ρ', W j acc ρ' ∧ acc.length = j ∧ H' Dl = some (.lst vs) ∧ B' Dl = none ∧ ¬ Own ρ' Dl ∧ DpAll X.K B' vs acc ∧ Go B1 H1 ρ1 B' H' ρ' ∧ Rel (kwOf X) B' H' σ ρ', ⟨ds.length, by omega, by omega, [], [], B1, ρ1, w0, rfl, upd_same, bD, nD, .nil, (acc_put Go.refl r1 hD bD nD).1, (acc_put Go.refl r1 hD bD nD).2⟩, ?_⟩
  rintro j m H' ⟨rfl, hj, acc, vs, B', ρ', w, hacc, hl, bl, nl, dacc, g, r'⟩
  obtain ⟨y1, y2⟩ := yl j B' H' g.ex r'.ex
  by_cases hlt : j < ds.length
  · obtain ⟨go, yy⟩ := y1 hlt
    refine .inr ⟨go, fun H2 => ∃ acc vs B' ρ', W (j + 1) acc ρ' ∧ acc.length = j + 1 ∧ H2 Dl = some (.lst vs) ∧ B' Dl = none ∧ ¬ Own ρ' Dl ∧ DpAll X.K B' vs acc ∧ Go B1 H1 ρ1 B' H2 ρ' ∧ Rel (kwOf X) B' H2 σ ρ', fun H2 hN2 => ⟨ds.length - (j + 1), by omega, rfl, hlt, hN2⟩, fun x H2 hy2 => ?_⟩
    obtain ⟨T, x1, x2, d1, d2, rfl, alt, hd, dx1, dx2⟩ := yy x H2 hy2
    have st := step j d1 d2 acc ρ' hd w
    -- the pair, old or new
    obtain ⟨B2, r2, g2, sq, hl2, bl2⟩ : ∃ B2, Rel (kwOf X) B2 H2 σ ρ' ∧ Go B' H' ρ' B2 H2 ρ' ∧ SqT X.K B2 T [x1, x2] ∧ H2 Dl = some (.lst vs) ∧ B2 Dl = none := by
      rcases alt with ⟨rfl, sq⟩ | ⟨hT, rfl⟩
      · exact ⟨B', r', Go.refl, sq, hl, bl⟩
      · obtain ⟨r2, g2⟩ := new_both (o := .tup [x1, x2]) r' hT
        have nT : Dl ≠ T := fun e => by
          rw [e, hT] at hl
          cases hl
        exact ⟨_, r2, g2, .inl (.inl upd_same), by rw [upd_ne nT]; exact hl, by rw [upd_ne nT]; exact bl⟩
    have dy1 := Dp.mono g2.ex dx1
    have dy2 := Dp.mono g2.ex dx2
    refine ⟨T, [x1, x2], rfl, ex_t r2.ex sq, rfl, x1, x2, rfl, ?_⟩
    have rw1 : Rel (kwOf X) B2 H2 (((wipe σ [i1, i2]).set i1 (some x1)).set i2 (some x2)) ((ρ'.set i1 (.dat d1)).set i2 (.dat d2)) := by
      have a1 : Rel (kwOf X) B2 H2 (σ.set i2 none) (ρ'.set i2 .no) := rel_no r2 (by rw [List.set_set])
      have a2 : Rel (kwOf X) B2 H2 ((σ.set i2 none).set i1 none) ((ρ'.set i2 .no).set i1 .no) := rel_no a1 (by rw [List.set_set])
      have a3 := rel_set (i := i2) (rel_set (i := i1) a2 dy1) dy2
      have e3 : ((((ρ'.set i2 Sl.no).set i1 Sl.no).set i1 (Sl.dat d1)).set i2 (Sl.dat d2)) = (ρ'.set i1 (.dat d1)).set i2 (.dat d2) := by
        rw [List.set_set, List.set_comm _ _ ne, List.set_set, List.set_comm _ _ ne]
      rw [e3] at a3
      exact a3
    refine ⟨set_none2 ne, fun s0 H0 Ca cl fp => ?_⟩
    have vd := st _ (cb s0 H0 Ca cl fp)
    refine vd.run B2 H2 _ _ rw1 fun u du B4 H4 ρ4 p4 dv g4 r4 => ?_
    have gA : Go B1 H1 ρ1 B4 H4 ρ4 := (((g.trans g2).trans go_set).trans go_set).trans g4
    have nl2 : ¬ Own ((ρ'.set i1 (.dat d1)).set i2 (.dat d2)) Dl := fun z => nl (own_set (own_set z))
    have hD4 : H4 Dl = some (.lst vs) := g4.keep Dl _ hl2 nl2
    have bD4 : B4 Dl = none := g4.out Dl (by rw [hl2]; exact fun z => by cases z) bl2 nl2
    have nD4 : ¬ Own ρ4 Dl := fun z => (g4.own Dl z).elim nl2 fun e => by rw [hl2] at e; cases e
    have rS : Rel (kwOf X) B4 H4 σ ((ρ4.set i1 .no).set i2 .no) := by
      have a1 : Rel (kwOf X) B4 H4 (σ.set i2 (some x2)) (ρ4.set i1 .no) := rel_no r4 (by
        show ((((σ.set i2 none).set i1 none).set i1 (some x1)).set i2 (some x2)).set i1 none = (σ.set i2 (some x2)).set i1 none
        rw [List.set_set, List.set_comm _ _ ne.symm, List.set_set, List.set_comm _ _ ne, List.set_set])
      exact rel_no a1 (by rw [List.set_set])
    have gS : Go B1 H1 ρ1 B4 H4 ((ρ4.set i1 .no).set i2 .no) := (gA.trans go_no).trans go_no
    have nS : ¬ Own ((ρ4.set i1 .no).set i2 .no) Dl := fun z => nD4 (own_no (own_no z))
    obtain ⟨gF, rF⟩ := acc_put (o := .lst (vs ++ [u])) gS rS hD bD4 nS
    refine ⟨vs, hD4, ?_, acc ++ [du], vs ++ [u], B4, (ρ4.set i1 .no).set i2 .no, p4, by rw [List.length_append, hacc]; rfl, upd_same, bD4, nS, DpAll.app (DpAll.mono g4.ex (DpAll.mono g2.ex dacc)) (.cons dv .nil), gF, rF⟩
    rw [DpAll.len dacc, hacc]
    exact Nat.lt_of_lt_of_le hlt (Nat.le_trans hlen (by decide))
  · have e : j = ds.length := by omega
    subst e
    exact .inl ⟨y2 (Nat.le_refl _), q Dl vs acc B' H' ρ' (done acc ρ' w) (g1.dom Dl hD) hl bl nl dacc (g1.trans g) r'⟩
theorem lc_read2H {B H : Hp} {σ : L2.St} {Q : VK} {scope : Scope} {i1 i2 : Nat} {elt iter : Expr} {Cb : Cx → Prop} (ne : i1 ≠ i2) (r : Rel (kwOf X) B H σ ρ)
    (cb : ∀ (s : Shared) (H : Hp) (Ca : Addr) (cl : List (Str × Addr)) (fp : List Addr), Cb (VhX.blkP X s H scope (compEnvC scope cl Ca X.env) fp))
    (h : VP X tg iter ρ fun ds ρ1 => ds.length ≤ 100000 ∧ ∃ W : Nat → List D → En → Prop, W 0 [] ρ1 ∧
      (∀ (j : Nat) d1 d2 acc ρ', ds[j]? = some (d1, d2) → W j acc ρ' → ∀ X', Cb X' → VD X' elt ((ρ'.set i1 (.dat d1)).set i2 (.dat d2)) fun u ρ4 => W (j + 1) (acc ++ [u]) ((ρ4.set i1 .no).set i2 .no)) ∧
      ∀ acc ρ', W ds.length acc ρ' → PL acc ρ')
    (q : ∀ p vs ds B' H' ρ', PL ds ρ' → H p = none → H' p = some (.lst vs) → B' p = none → ¬ Own ρ' p → DpAll X.K B' vs ds → Go B H ρ B' H' ρ' → Rel (kwOf X) B' H' σ ρ' → Q (.ref p) H') :
    tLc (iSemI X tg iter) (gTup X.K 2 (t2 i1 i2)) tYes (uSemH X scope elt) [i1, i2] σ H Q := by
  refine h.run B H σ _ r fun J ds B1 H1 ρ1 p1 yl g1 r1 Dl hD => ?_
  obtain ⟨hlen, W, w0, step, done⟩ := p1
  have bD : B1 Dl = none := by
    cases e : B1 Dl with
    | none => rfl
    | some u =>
      rw [r1.ex Dl u e] at hD
      cases hD
  have nD : ¬ Own ρ1 Dl := fun ⟨j, es, hj⟩ => by
    obtain ⟨_, _, ws, h7, _⟩ := r1.own j Dl es hj
    rw [hD] at h7
    cases h7
  refine ⟨fun j m H' => m = ds.length - j ∧ j ≤ ds.length ∧ ∃ acc vs B' ρ', W j acc ρ' ∧ acc.length = j ∧ H' Dl = some (.lst vs) ∧ B' Dl = none ∧ ¬ Own ρ' Dl ∧ DpAll X.K B' vs acc ∧ Go B1 H1 ρ1 B' H' ρ' ∧ Rel (kwOf X) B' H' σ ρ', ⟨ds.length, by omega, by omega, [], [], B1, ρ1, w0, rfl, upd_same, bD, nD, .nil, (acc_put Go.refl r1 hD bD nD).1, (acc_put Go.refl r1 hD bD nD).2⟩, ?_⟩
  rintro j m H' ⟨rfl, hj, acc, vs, B', ρ', w, hacc, hl, bl, nl, dacc, g, r'⟩
  obtain ⟨y1, y2⟩ := yl j B' H' g.ex r'.ex
  by_cases hlt : j < ds.length
  · obtain ⟨go, yy⟩ := y1 hlt
    refine .inr ⟨go, fun H2 => ∃ acc vs B' ρ', W (j + 1) acc ρ' ∧ acc.length = j + 1 ∧ H2 Dl = some (.lst vs) ∧ B' Dl = none ∧ ¬ Own ρ' Dl ∧ DpAll X.K B' vs acc ∧ Go B1 H1 ρ1 B' H2 ρ' ∧ Rel (kwOf X) B' H2 σ ρ', fun H2 hN2 => ⟨ds.length - (j + 1), by omega, rfl, hlt, hN2⟩, fun x H2 hy2 => ?_⟩
    obtain ⟨T, x1, x2, d1, d2, rfl, alt, hd, dx1, dx2⟩ := yy x H2 hy2
    have st := step j d1 d2 acc ρ' hd w
    -- the pair, old or new
    obtain ⟨B2, r2, g2, sq, hl2, bl2⟩ : ∃ B2, Rel (kwOf X) B2 H2 σ ρ' ∧ Go B' H' ρ' B2 H2 ρ' ∧ SqT X.K B2 T [x1, x2] ∧ H2 Dl = some (.lst vs) ∧ B2 Dl = none := by
      rcases alt with ⟨rfl, sq⟩ | ⟨hT, rfl⟩
      · exact ⟨B', r', Go.refl, sq, hl, bl⟩
      · obtain ⟨r2, g2⟩ := new_both (o := .tup [x1, x2]) r' hT
        have nT : Dl ≠ T := fun e => by
          rw [e, hT] at hl
          cases hl
        exact ⟨_, r2, g2, .inl (.inl upd_same), by rw [upd_ne nT]; exact hl, by rw [upd_ne nT]; exact bl⟩
    have dy1 := Dp.mono g2.ex dx1
    have dy2 := Dp.mono g2.ex dx2
    refine ⟨T, [x1, x2], rfl, ex_t r2.ex sq, rfl, x1, x2, rfl, ?_⟩
    have rw1 : Rel (kwOf X) B2 H2 (((wipe σ [i1, i2]).set i1 (some x1)).set i2 (some x2)) ((ρ'.set i1 (.dat d1)).set i2 (.dat d2)) := by
      have a1 : Rel (kwOf X) B2 H2 (σ.set i2 none) (ρ'.set i2 .no) := rel_no r2 (by rw [List.set_set])
      have a2 : Rel (kwOf X) B2 H2 ((σ.set i2 none).set i1 none) ((ρ'.set i2 .no).set i1 .no) := rel_no a1 (by rw [List.set_set])
      have a3 := rel_set (i := i2) (rel_set (i := i1) a2 dy1) dy2
      have e3 : ((((ρ'.set i2 Sl.no).set i1 Sl.no).set i1 (Sl.dat d1)).set i2 (Sl.dat d2)) = (ρ'.set i1 (.dat d1)).set i2 (.dat d2) := by
        rw [List.set_set, List.set_comm _ _ ne, List.set_set, List.set_comm _ _ ne]
      rw [e3] at a3
      exact a3
    refine ⟨set_none2 ne, fun s0 H0 Ca cl fp => ?_⟩
    have vd := st _ (cb s0 H0 Ca cl fp)
    refine vd.run B2 H2 _ _ rw1 fun u du B4 H4 ρ4 p4 dv g4 r4 => ?_
    have gA : Go B1 H1 ρ1 B4 H4 ρ4 := (((g.trans g2).trans go_set).trans go_set).trans g4
    have nl2 : ¬ Own ((ρ'.set i1 (.dat d1)).set i2 (.dat d2)) Dl := fun z => nl (own_set (own_set z))
    have hD4 : H4 Dl = some (.lst vs) := g4.keep Dl _ hl2 nl2
    have bD4 : B4 Dl = none := g4.out Dl (by rw [hl2]; exact fun z => by cases z) bl2 nl2
    have nD4 : ¬ Own ρ4 Dl := fun z => (g4.own Dl z).elim nl2 fun e => by rw [hl2] at e; cases e
    have rS : Rel (kwOf X) B4 H4 σ ((ρ4.set i1 .no).set i2 .no) := by
      have a1 : Rel (kwOf X) B4 H4 (σ.set i2 (some x2)) (ρ4.set i1 .no) := rel_no r4 (by
        show ((((σ.set i2 none).set i1 none).set i1 (some x1)).set i2 (some x2)).set i1 none = (σ.set i2 (some x2)).set i1 none
        rw [List.set_set, List.set_comm _ _ ne.symm, List.set_set, List.set_comm _ _ ne, List.set_set])
      exact rel_no a1 (by rw [List.set_set])
    have gS : Go B1 H1 ρ1 B4 H4 ((ρ4.set i1 .no).set i2 .no) := (gA.trans go_no).trans go_no
    have nS : ¬ Own ((ρ4.set i1 .no).set i2 .no) Dl := fun z => nD4 (own_no (own_no z))
    obtain ⟨gF, rF⟩ := acc_put (o := .lst (vs ++ [u])) gS rS hD bD4 nS
    refine ⟨vs, hD4, ?_, acc ++ [du], vs ++ [u], B4, (ρ4.set i1 .no).set i2 .no, p4, by rw [List.length_append, hacc]; rfl, upd_same, bD4, nS, DpAll.app (DpAll.mono g4.ex (DpAll.mono g2.ex dacc)) (.cons dv .nil), gF, rF⟩
    rw [DpAll.len dacc, hacc]
    exact Nat.lt_of_lt_of_le hlt (Nat.le_trans hlen (by decide))
  · have e : j = ds.length := by omega
    subst e
    exact .inl ⟨y2 (Nat.le_refl _), q Dl vs acc B' H' ρ' (done acc ρ' w) (g1.dom Dl hD) hl bl nl dacc (g1.trans g) r'⟩
/-- [elt for y1, y2 in iter] -/
theorem vn_lc2 (C : Cst X M sc NK G k) {scope : Scope} {i1 i2 : Nat} {y1 y2 : Str} {p1 p2 tpos : Pos} {kk : Nat} {elt iter : Expr} {v1 v2 : Bool} (NK' : List (Str × Bool × Bool)) (G' : List Str) (h1 : At NK' i1 (y1, v1, true)) (h2 : At NK' i2 (y2, v2, true)) (ne : i1 ≠ i2)
    (h : VP X (.Tuple [.Name y1 p1, .Name y2 p2] kk tpos) iter ρ fun ds ρ1 => ds.length ≤ 100000 ∧ ∃ W : Nat → List D → En → Prop, W 0 [] ρ1 ∧
      (∀ (j : Nat) d1 d2 acc ρ', ds[j]? = some (d1, d2) → W j acc ρ' → ∀ X', Cst X' M (relS scope sc) NK' G' k → VD X' elt ((ρ'.set i1 (.dat d1)).set i2 (.dat d2)) fun u ρ4 => W (j + 1) (acc ++ [u]) ((ρ4.set i1 .no).set i2 .no)) ∧
      ∀ acc ρ', W ds.length acc ρ' → PL acc ρ')
    (ok : blkC (NK.map (·.1)) sc scope [(y1, i1), (y2, i2)] = true := by decide +kernel) (hN : NK'.map (·.1) = NK.map (·.1) := by rfl) (hc : chk (relS scope sc) false NK' G' = true := by decide +kernel)
    (hs : ∀ x, foldedSetIterable iter X.env x = pure x := by intro _; rfl) : VN X (.ListComp elt [⟨.Tuple [.Name y1 p1, .Name y2 p2] kk tpos, iter, [], 0⟩] scope pos) ρ PL := VN.mk fun B H σ Q r q => by
  have ok' : BlkOk X.N X.env.scope scope [(y1, i1), (y2, i2)] := by
    rw [C.n, C.s]
    exact blkOk_by ok
  have tgs : ∀ X', Cst X' M (relS scope sc) NK' G' k → PG X' (.Tuple [.Name y1 p1, .Name y2 p2] kk tpos) (gTup X'.K 2 (t2 i1 i2)) := fun X' c => by
    have inner : PGs X' [.Name y1 p1, .Name y2 p2] (t2 i1 i2) := ⟨fun pins s' σ' H' vs us Q' I rv hh => by
      obtain ⟨v, w, rfl, qq⟩ := hh
      exact (pgs_cons (pg_name c.nd (c.ix h1) (c.lo h1) (c.fn h1)) (pgs_cons (pg_name c.nd (c.ix h2) (c.lo h2) (c.fn h2)) pgs_nil)).run pins s' σ' H' [v, w] us Q' I rv ⟨v, [w], rfl, w, [], rfl, rfl, qq⟩⟩
    cases hX : X'.calm with
    | true => exact pg_tup hX inner
    | false => exact VhX.pg_tupH (c.hotc hX) inner
  cases hX : X.calm with
  | true =>
    have cb : ∀ (s : Shared) (H : Hp) (Ca : Addr) (cl : List (Str × Addr)) (fp : List Addr), Cst (X.blk s H scope (compEnvC scope cl Ca X.env) fp) M (relS scope sc) NK' G' k := fun s H Ca cl fp => cst_blk C hX hN hc
    exact PE.sem (pe_lc (g := gTup X.K 2 (t2 i1 i2)) (tt := tYes) hX C.nd (pi_sem hX) ok' (fun s H Ca cl fp => tgs _ (cb s H Ca cl fp)) (fun _ _ _ _ _ => pts_nil) pe_uSem hs)
      (lc_read2 (Cb := fun X' => Cst X' M (relS scope sc) NK' G' k) ne r cb h q)
  | false =>
    have cb : ∀ (s : Shared) (H : Hp) (Ca : Addr) (cl : List (Str × Addr)) (fp : List Addr), Cst (VhX.blkP X s H scope (compEnvC scope cl Ca X.env) fp) M (relS scope sc) NK' G' k := fun s H Ca cl fp => cst_blkH C hN hc
    exact PE.sem (VhX.pe_lcH (g := gTup X.K 2 (t2 i1 i2)) (C.hotc hX) C.nd (pih_sem hX) ok' (fun s H Ca cl fp => tgs _ (cb s H Ca cl fp)) pe_uSemH hs)
      (lc_read2H (Cb := fun X' => Cst X' M (relS scope sc) NK' G' k) ne r cb h q)
/-- zip(a, b), tuples -/
theorem vp_zip (C : Cst X M sc NK G k) {i kk : Nat} {p tpos : Pos} {elts : List Expr} (hg : At G i "zip") (h : VA X [a, b] ρ fun ds ρ1 => ∃ xs ys, ds = [.tuple xs, .tuple ys] ∧ PP (xs.zip ys) ρ1) (hm : M.mg "zip" = none := by assumption)
    (hs : starEach [a, b] X.env = (false, eval a X.env) :: starEach [b] X.env := by rfl) (hpl : (backTo pos (starEach [b] X.env)).any (·.1) = false := by rfl) : VP X (.Tuple elts kk tpos) (.Call (.Name "zip" p) [a, b] [] pos) ρ PP := VP.mk fun B H σ R r q => by
  refine ⟨fun _ => PI.semC (RZ.pi_zipA (C.g hg) (C.mg hm) pa_sem hs hpl) ?_, fun _ => PIH.semH (VhX.pih_zipT (C.g hg) (C.mg hm) pa_sem hs hpl) ?_⟩
  · refine h.run B H σ _ r fun vs ds B1 H1 ρ1 p1 dvs g1 r1 => ?_
    obtain ⟨xs, ys, rfl, pp⟩ := p1
    cases dvs with
    | cons h1 h2 =>
      cases h2 with
      | cons h2 h3 =>
        cases h3
        obtain ⟨t, us, rfl, hT, hu⟩ := dp_tup h1
        obtain ⟨t', ws, rfl, hT', hw⟩ := dp_tup h2
        refine ⟨t, t', us, ws, rfl, .inr ⟨ex_t r1.ex hT, ex_t r1.ex hT', q _ (xs.zip ys) B1 H1 ρ1 pp (fun j B2 H2 e1 e2 => ⟨fun hj => ?_, fun hj => ?_⟩) g1 r1⟩⟩
        · rw [List.length_zip] at hj
          have l1 : j < us.length := by rw [DpAll.len hu]; omega
          have l2 : j < ws.length := by rw [DpAll.len hw]; omega
          have s1 := ex_t (e1.trans e2) hT
          have s2 := ex_t (e1.trans e2) hT'
          refine ⟨⟨us, ws, us[j], ws[j], s1, s2, List.getElem?_eq_getElem l1, List.getElem?_eq_getElem l2⟩, fun x H' y => ?_⟩
          obtain ⟨T, x1, x2, rfl, hT0, rfl, f1, f2⟩ := y
          obtain ⟨d1, k1, k2⟩ := DpAll.getV hu (f1 us s1)
          obtain ⟨d2, k3, k4⟩ := DpAll.getV hw (f2 ws s2)
          refine ⟨T, x1, x2, d1, d2, rfl, .inr ⟨hT0, rfl⟩, ?_, Dp.mono e1 k2, Dp.mono e1 k4⟩
          rw [List.getElem?_zip_eq_some]
          exact ⟨k1, k3⟩
        · rw [List.length_zip] at hj
          refine ⟨us, ws, ex_t (e1.trans e2) hT, ex_t (e1.trans e2) hT', ?_⟩
          rw [DpAll.len hu, DpAll.len hw]
          omega
  · refine h.run B H σ _ r fun vs ds B1 H1 ρ1 p1 dvs g1 r1 => ?_
    obtain ⟨xs, ys, rfl, pp⟩ := p1
    cases dvs with
    | cons h1 h2 =>
      cases h2 with
      | cons h2 h3 =>
        cases h3
        obtain ⟨t, us, rfl, hT, hu⟩ := dp_tup h1
        obtain ⟨t', ws, rfl, hT', hw⟩ := dp_tup h2
        refine ⟨t, t', us, ws, rfl, ex_t r1.ex hT, ex_t r1.ex hT', q _ (xs.zip ys) B1 H1 ρ1 pp (fun j B2 H2 e1 e2 => ⟨fun hj => ?_, fun hj => ?_⟩) g1 r1⟩
        · rw [List.length_zip] at hj
          have l1 : j < us.length := by rw [DpAll.len hu]; omega
          have l2 : j < ws.length := by rw [DpAll.len hw]; omega
          have s1 := ex_t (e1.trans e2) hT
          have s2 := ex_t (e1.trans e2) hT'
          refine ⟨⟨us, ws, us[j], ws[j], s1, s2, List.getElem?_eq_getElem l1, List.getElem?_eq_getElem l2⟩, fun x H' y => ?_⟩
          obtain ⟨T, x1, x2, rfl, hT0, rfl, f1, f2⟩ := y
          obtain ⟨d1, k1, k2⟩ := DpAll.getV hu (f1 us s1)
          obtain ⟨d2, k3, k4⟩ := DpAll.getV hw (f2 ws s2)
          refine ⟨T, x1, x2, d1, d2, rfl, .inr ⟨hT0, rfl⟩, ?_, Dp.mono e1 k2, Dp.mono e1 k4⟩
          rw [List.getElem?_zip_eq_some]
          exact ⟨k1, k3⟩
        · rw [List.length_zip] at hj
          refine ⟨us, ws, ex_t (e1.trans e2) hT, ex_t (e1.trans e2) hT', ?_⟩
          rw [DpAll.len hu, DpAll.len hw]
          omega
/-- a tuple as a test -/
theorem vt_tup (h : VD X e ρ fun d ρ1 => ∃ ds, d = .tuple ds ∧ PB (!ds.isEmpty) ρ1) (he : ∀ whole, isTrue e X.env whole = (do let v ← whole; standAt e.pos; holding [v] (truthy v)) := by intro _; rfl) : VT X e ρ PB := VT.mk fun B H σ Q r q => by
  refine PT.sem (pt_truth pe_sem he) ?_
  refine h.run B H σ _ r fun v d B1 H1 ρ1 p1 dx g1 r1 => ?_
  obtain ⟨ds, rfl, p⟩ := p1
  obtain ⟨t, vs, rfl, hT, hv⟩ := dp_tup dx
  have e : (!vs.isEmpty) = !ds.isEmpty := by
    cases hv <;> rfl
  exact ⟨_, .inr (.inl ⟨vs, ex_t r1.ex hT, rfl⟩), by rw [e]; exact q _ B1 H1 ρ1 p g1 r1⟩
/-- the pieces of an f-text, behind what stands there -/
structure VJ (X : Cx) (es : List Expr) (acc : Str) (ρ : En) (P : Str → En → Prop) : Prop where
  run : ∀ B H σ (Q : Str → Hp → Prop), Rel (kwOf X) B H σ ρ → (∀ out B' H' ρ', P out ρ' → Go B H ρ B' H' ρ' → Rel (kwOf X) B' H' σ ρ' → Q out H') → tJs (es.map (eSem X)) acc σ H Q
theorem pj_sem : ∀ {es : List Expr}, PJ X es (es.map (eSem X))
  | [] => .nil
  | _ :: _ => .cons pe_sem pj_sem
variable {acc : Str} {PS : Str → En → Prop} {es : List Expr}
theorem vj_nil (h : PS acc ρ) : VJ X [] acc ρ PS := ⟨fun B H σ Q r q => q acc B H ρ h Go.refl r⟩
theorem vj_cons (h : VD X e ρ fun d ρ1 => ∃ y : Str, d = .str y ∧ (acc ++ y).length ≤ 100000 ∧ VJ X es (acc ++ y) ρ1 PS) : VJ X (e :: es) acc ρ PS := ⟨fun B H σ Q r q => by
  refine h.run B H σ _ r fun v d B1 H1 ρ1 p1 dv g1 r1 => ?_
  obtain ⟨y, rfl, hl, pp⟩ := p1
  have sl := sizeLine_eq
  exact ⟨y, dp_str dv, by omega, pp.run B1 H1 σ Q r1 fun out B2 H2 ρ2 p2 g2 r2 => q out B2 H2 ρ2 p2 (g1.trans g2) r2⟩⟩
theorem vd_fs {v1 v2 : Expr} {rest : List Expr} (h : VJ X (v1 :: v2 :: rest) Str.empty ρ fun out ρ1 => P (.str out) ρ1) : VD X (.JoinedStr (v1 :: v2 :: rest) pos) ρ P := VD.mk fun B H σ Q r q =>
  PE.sem (pe_joined pj_sem) (h.run B H σ _ r fun out B1 H1 ρ1 p1 g1 r1 => q _ _ B1 H1 ρ1 p1 (.str out) g1 r1)
theorem vd_fmt (h : VD X e ρ fun d ρ1 => (∃ y : Str, d = .str y ∧ y.length ≤ 100000 ∧ P (.str y) ρ1) ∨ ∃ i : Int, d = .int i ∧ i.natAbs.log2 < 1920 ∧ P (.str (toString i)) ρ1) : VD X (.FormattedValue e (-1) none pos) ρ P := VD.mk fun B H σ Q r q => by
  refine PE.sem (pe_fmt pe_sem) ?_
  refine h.run B H σ _ r fun v d B1 H1 ρ1 p1 dv g1 r1 => ?_
  have sl := sizeLine_eq
  rcases p1 with ⟨y, rfl, hl, pp⟩ | ⟨i, rfl, hl, pp⟩
  · exact .inl ⟨y, dp_str dv, by omega, q _ _ B1 H1 ρ1 pp (.str _) g1 r1⟩
  · exact .inr ⟨i, dp_int dv, hl, q _ _ B1 H1 ρ1 pp (.str _) g1 r1⟩
end
end Vc

namespace K5
open PySem PySem.Spec PyProof.Rows L2 Vc
local macro_rules | `(tactic| walk_at "at") => `(tactic| (repeat (first | with_reducible exact At.here | apply At.there)))
local macro_rules | `(tactic| walk_at "v") => `(tactic| first
  | refine vd_bin ?_
  | (refine vd_name (by assumption) (by walk_at "at") rfl ?_)
  | refine vd_int ?_
  | refine vd_bool ?_
  | refine vd_none ?_
  | refine vd_str ?_
  | refine vd_if ?_
  | (refine vd_neg ?_)
  | refine vd_tup ?_
  | refine va_nil ?_
  | refine va_cons ?_
  | refine vs_ret ?_
  | refine vss_nil ?_
  | refine vss_one ?_
  | refine vss_cons ?_
  | refine vs_if ?_
  | refine vt_cmp (by assumption) ?_
  | refine vs_set (by assumption) (by walk_at "at") ?_
  | refine vd_cmp (by assumption) ?_
  | refine vgs_nil ?_
  | refine vgs_cons ?_
  | refine vg_name (by assumption) (by walk_at "at") ?_
  | (refine vd_callT (x := "int") (by assumption) does_int (by walk_at "at") ?_)
  | (refine vd_callB (x := "len") (by assumption) does_len (by walk_at "at") ?_)
  | (refine vd_callB (x := "abs") (by assumption) does_abs (by walk_at "at") ?_)
  | (refine vd_ixo (by assumption) (by walk_at "at") rfl ?_)
  | refine vd_ix ?_)
local macro_rules | `(tactic| walk_at "sw") => `(tactic| (intro env h; cases env; dsimp only at h; subst h; rfl))
local macro_rules | `(tactic| walk_at "vv") => `(tactic| repeat (walk_at "v"))
/-! ### is_bound, is_breaker -/
theorem frac_shape {d : D} (h : fracD d = true) : ∃ n m : Int, d = .tuple [.int n, .int m] := by
  unfold fracD at h
  split at h
  · exact ⟨_, _, rfl⟩
  · cases h
def boundD (d : D) : Bool := match d with
  | .tuple [.int n, .int m] => fracD (.tuple [.int n, .int m]) && (decide (0 < n) && (decide (n ≤ 1000) && decide (m ≤ 1000)))
  | _ => false
theorem bound_no {d : D} (h : fracD d = false) : boundD d = false := by
  unfold boundD
  split
  · rw [h, Bool.false_and]
  · rfl
theorem fBoundA {M : Md} {f : Addr} {fd : FuncData} {t1 : Tok} (mN : M.mg "MOST_NUMBER" = some (.int 1000 t1)) (FF : FnD M 2 "is_fraction" 1 (SOk1 fracD))
    (F : Fun M.K "is_bound" "is_bound" sIsBound f fd) (hm : M.mg "is_bound" = some (.ref f)) (b : L2.Binds M.K fd ["thing"] []) : FnD M 3 "is_bound" 1 (SOk1 boundD) := by
  refine fnD_mk (k := 2) (NK := nkIsBound) (G := gIsBound) F scIsBound hm b rfl (by decide +kernel) rfl (by decide) fun X C ds W hl hS => ?_
  obtain ⟨d, rfl, ok, w⟩ := hS
  show VSs X _ [.dat d] _
  have no : boundD d = false → W (.bool false) := fun h => by rw [← h]; exact w
  walk_at "v"
  walk_at "v"
  refine vd_and ?_
  refine vd_call C FF (by walk_at "at") ?_
  walk_at "vv"
  refine ⟨rfl, d, rfl, ok, fracD d, rfl, fun h => ?_, fun h => no (bound_no h)⟩
  obtain ⟨n, m, rfl⟩ := frac_shape h
  have e : boundD (.tuple [.int n, .int m]) = (decide (0 < n) && (decide (n ≤ 1000) && decide (m ≤ 1000))) := by
    show (fracD _ && _) = _
    rw [h, Bool.true_and]
  refine vd_and (vd_chain C ?_)
  walk_at "vv"
  refine ⟨.int n, rfl, ?_⟩
  show _ ∧ _
  refine ⟨fun h1 => ?_, fun h1 => ⟨_, rfl, fun h => (by cases h), fun _ => no (by rw [e, h1, Bool.false_and])⟩⟩
  refine vd_gint C (by walk_at "at") mN ?_
  refine ⟨_, rfl, fun h2 => ?_, fun h2 => no (by rw [e, h1, h2, Bool.true_and, Bool.false_and])⟩
  refine vd_one ?_
  walk_at "vv"
  refine ⟨.int m, rfl, ?_⟩
  refine vd_gint C (by walk_at "at") mN ?_
  show W (.bool (decide (m ≤ 1000)))
  have e2 : boundD (.tuple [.int n, .int m]) = decide (m ≤ 1000) := by rw [e, h1, h2, Bool.true_and, Bool.true_and]
  rw [← e2]
  exact w
def breakerD (ns : Nm) (d : D) : Bool := match d with
  | .tuple [x, .int e] => (decide (e ∈ [0, 1]) && knownD ns ["line"] x) || (decide (e = 0) && knownD ns ["source"] x)
  | _ => false
theorem breaker_tup {ns : Nm} {d : D} (h : isTupD 2 d = false) : breakerD ns d = false := by
  unfold breakerD
  split
  · rename_i x e
    have q : isTupD 2 (.tuple [x, .int e]) = true := by
      show decide (((2 : Nat) : Int) = 2) = true
      decide
    rw [q] at h
    cases h
  · rfl
theorem breaker_int {ns : Nm} {x y : D} (h : isIntD y = false) : breakerD ns (.tuple [x, y]) = false := by
  unfold breakerD
  split
  · rename_i e
    cases e
    cases h
  · rfl
def SBreaker (g : Nm → D → Bool) : SX := fun as W WX => ∃ p ns d, as = [.own p (.dt (nm ns)), .dat d] ∧ okD d = true ∧ W (.bool (g ns d)) as
theorem fBreaker {M : Md} {f : Addr} {fd : FuncData} (FT : FnD M 1 "is_tuple" 2 SIsTupA) (FI : FnD M 1 "is_int" 1 SIsIntA) (FK : FnV M 1 "is_known" 2 SKnown)
    (F : Fun M.K "is_breaker" "is_breaker" sIsBreaker f fd) (hm : M.mg "is_breaker" = some (.ref f)) (b : L2.Binds M.K fd ["names", "thing"] []) : FnX M 2 "is_breaker" 2 (SBreaker breakerD) := by
  refine fnX_mk (k := 1) (NK := nkIsBreaker) (G := gIsBreaker) F scIsBreaker hm b rfl (by decide +kernel) rfl (by decide) fun X C as W WX hl hS => ?_
  obtain ⟨p, ns, d, rfl, ok, w⟩ := hS
  show VSs X _ [.own p (.dt (nm ns)), .dat d, .no, .no] _
  have no : breakerD ns d = false → W (.bool false) [.own p (.dt (nm ns)), .dat d] := fun h => by rw [← h]; exact w
  refine vss_cons (vs_if (vt_not (vt_w (vw_and (vt_val ?_)))))
  refine vd_call C FT (by walk_at "at") ?_
  walk_at "vv"
  refine ⟨rfl, d, 2, rfl, ok_no ok, isTupD 2 d, rfl, fun h => ?_, fun h => ⟨fun _ => ?_, fun h => (by cases h)⟩⟩
  · obtain ⟨x, y, rfl⟩ := isTup_two h
    obtain ⟨ox, oy⟩ := ok_two ok
    refine vw_and1 (vt_val ?_)
    refine vd_call C FI (by walk_at "at") ?_
    walk_at "vv"
    refine ⟨y, rfl, ?_⟩
    walk_at "vv"
    refine ⟨rfl, y, rfl, ok_no oy, isIntD y, rfl, ?_⟩
    refine ⟨fun hy => ?_, fun hy => ?_⟩
    · have hy' : isIntD y = false := by simpa using hy
      walk_at "vv"
      exact ⟨⟨rfl, trivial⟩, no (breaker_int hy')⟩
    · have hy' : isIntD y = true := by simpa using hy
      obtain ⟨e, rfl⟩ := isInt_of hy'
      refine vss_nil ?_
      walk_at "v"
      refine vs_asg ?_
      walk_at "v"
      refine vg_tup C ?_
      walk_at "v"
      walk_at "v"
      walk_at "v"
      walk_at "v"
      walk_at "v"
      show VSs X _ [.own p (.dt (nm ns)), .dat (.tuple [x, .int e]), .dat x, .dat (.int e)] _
      have e0 : breakerD ns (.tuple [x, .int e]) = ((decide (e ∈ [0, 1]) && knownD ns ["line"] x) || (decide (e = 0) && knownD ns ["source"] x)) := rfl
      walk_at "v"
      walk_at "v"
      refine vd_or (vd_and ?_)
      walk_at "vv"
      refine ⟨by decide, [0, 1], rfl, _, rfl, fun h1 => ?_, fun h1 => ?_⟩
      · refine vd_one (vd_callV C FK (by walk_at "at") ?_)
        refine vx_own C (by walk_at "at") rfl (vx_cons ?_)
        walk_at "v"
        refine vx_cons (vd_str (vx_nil ?_))
        refine ⟨[.ow 0, .da x], [.str "line"], rfl, rfl, by decide, rfl, ⟨⟨_, _, rfl⟩, trivial⟩, rfl, p, ns, x, ["line"], rfl, ox, ?_⟩
        refine ⟨_, rfl, fun h2 => ?_, fun h2 => ?_⟩
        · refine ⟨⟨rfl, trivial⟩, ?_⟩
          have q : breakerD ns (.tuple [x, .int e]) = true := by rw [e0, h1, h2]; rfl
          rw [← q]
          exact w
        · have q0 : breakerD ns (.tuple [x, .int e]) = (decide (e = 0) && knownD ns ["source"] x) := by rw [e0, h1, h2]; rfl
          refine vd_one (vd_and ?_)
          walk_at "vv"
          refine ⟨_, rfl, fun h3 => ?_, fun h3 => ?_⟩
          · refine vd_one (vd_callV C FK (by walk_at "at") ?_)
            refine vx_own C (by walk_at "at") rfl (vx_cons ?_)
            walk_at "v"
            refine vx_cons (vd_str (vx_nil ?_))
            refine ⟨[.ow 0, .da x], [.str "source"], rfl, rfl, by decide, rfl, ⟨⟨_, _, rfl⟩, trivial⟩, rfl, p, ns, x, ["source"], rfl, ox, ?_⟩
            refine ⟨⟨rfl, trivial⟩, ?_⟩
            rw [h3, Bool.true_and] at q0
            rw [q0] at w
            exact w
          · refine ⟨⟨rfl, trivial⟩, no ?_⟩
            rw [q0, h3, Bool.false_and]
      · have q0 : breakerD ns (.tuple [x, .int e]) = (decide (e = 0) && knownD ns ["source"] x) := by rw [e0, h1]; rfl
        refine ⟨_, rfl, fun h => (by cases h), fun _ => ?_⟩
        refine vd_one (vd_and ?_)
        walk_at "vv"
        refine ⟨_, rfl, fun h3 => ?_, fun h3 => ?_⟩
        · refine vd_one (vd_callV C FK (by walk_at "at") ?_)
          refine vx_own C (by walk_at "at") rfl (vx_cons ?_)
          walk_at "v"
          refine vx_cons (vd_str (vx_nil ?_))
          refine ⟨[.ow 0, .da x], [.str "source"], rfl, rfl, by decide, rfl, ⟨⟨_, _, rfl⟩, trivial⟩, rfl, p, ns, x, ["source"], rfl, ox, ?_⟩
          refine ⟨⟨rfl, trivial⟩, ?_⟩
          rw [h3, Bool.true_and] at q0
          rw [q0] at w
          exact w
        · refine ⟨⟨rfl, trivial⟩, no ?_⟩
          rw [q0, h3, Bool.false_and]
  · walk_at "vv"
    exact ⟨⟨rfl, trivial⟩, no (breaker_tup h)⟩

end K5

/-! Vc, part W: the rest of a tuple. -/
namespace Vc
open PySem PySem.Spec PyProof.Rows L2
open Evl (Ex)
section
variable {X : Cx} {M : Md} {sc : Scope} {NK : List (Str × Bool × Bool)} {G : List Str} {k : Nat} {ρ : En} {P : D → En → Prop} {pos : Pos} {a b : Expr}
/-- t[n:], t a tuple, not the whole of it -/
theorem vd_dropT {p2 : Pos} (h : VD X a ρ fun d ρ1 => VD X b ρ1 fun y ρ2 => ∃ (ds : List D) (n : Nat), d = .tuple ds ∧ y = .int (n : Int) ∧ 1 ≤ n ∧ ds ≠ [] ∧ P (.tuple (ds.drop n)) ρ2) : VD X (.Subscript a (.Slice (some b) none none p2) pos) ρ P := VD.mk fun B H σ Q r q => by
  refine PE.sem (pe_slice sl_tup pe_sem (po_some pe_sem) po_none) ?_
  refine h.run B H σ _ r fun v d B1 H1 ρ1 p1 dv g1 r1 => ?_
  refine p1.run B1 H1 σ _ r1 fun vy y B2 H2 ρ2 p2 dy g2 r2 => ?_
  obtain ⟨ds, n, rfl, rfl, hn, hne, p⟩ := p2
  obtain ⟨t, vs, rfl, hT, hv⟩ := dp_tup dv
  have lp : 0 < vs.length := by
    rw [DpAll.len hv]
    cases ds with
    | nil => exact absurd rfl hne
    | cons _ _ => exact Nat.succ_pos _
  refine ⟨(n : Int), dp_int dy, t, vs, rfl, ex_t (g2.ex.trans r2.ex) hT, fun z => ?_, fun z hz => ?_⟩
  · have z1 := z.1
    rw [HT.sIx_nat] at z1
    omega
  · rw [cut_drop]
    obtain ⟨r3, g3⟩ := new_both (o := .tup (vs.drop n)) r2 hz
    exact q _ _ _ _ ρ2 p (.tup (.inl (.inl upd_same)) (DpAll.mono g3.ex (DpAll.drop n (DpAll.mono g2.ex hv)))) ((g1.trans g2).trans g3) r3
theorem dec_str {x y : Str} : decide (V.str x = V.str y) = decide (x = y) := by
  by_cases z : x = y
  · rw [z, decide_eq_true rfl, decide_eq_true rfl]
  · rw [decide_eq_false z, decide_eq_false (fun w => z (V.str.inj w))]
variable {PB : Bool → En → Prop}
/-- two texts, alike or not -/
theorem vt_eqS (h : VD X a ρ fun x ρ1 => VD X b ρ1 fun y ρ2 => ∃ z w : Str, x = .str z ∧ y = .str w ∧ PB (decide (z = w)) ρ2) (hm : behindInMarks .Eq b = false := by first | exact nobehind _ (by decide) (by decide) | rfl) : VT X (.Compare a [.Eq] [b] pos) ρ PB := VT.mk fun B H σ Q r q => by
  refine PT.sem (pt_cmpR op_eq pe_sem pe_sem hm) ?_
  refine h.run B H σ _ r fun vx x B1 H1 ρ1 p1 dx g1 r1 => ?_
  refine p1.run B1 H1 σ _ r1 fun vy y B2 H2 ρ2 p2 dy g2 r2 => ?_
  obtain ⟨z, w, rfl, rfl, pp⟩ := p2
  rw [dp_str dx, dp_str dy]
  refine ⟨rfl, ?_⟩
  rw [dec_str]
  exact ⟨_, rfl, q _ B2 H2 ρ2 pp (g1.trans g2) r2⟩
theorem vd_eqS (h : VD X a ρ fun x ρ1 => VD X b ρ1 fun y ρ2 => ∃ z w : Str, x = .str z ∧ y = .str w ∧ P (.bool (decide (z = w))) ρ2) (hm : behindInMarks .Eq b = false := by first | exact nobehind _ (by decide) (by decide) | rfl) : VD X (.Compare a [.Eq] [b] pos) ρ P := VD.mk fun B H σ Q r q => by
  refine PE.sem (pe_cmpR op_eq pe_sem pe_sem hm) ?_
  refine h.run B H σ _ r fun vx x B1 H1 ρ1 p1 dx g1 r1 => ?_
  refine p1.run B1 H1 σ _ r1 fun vy y B2 H2 ρ2 p2 dy g2 r2 => ?_
  obtain ⟨z, w, rfl, rfl, pp⟩ := p2
  rw [dp_str dx, dp_str dy]
  refine ⟨rfl, ?_⟩
  rw [dec_str]
  exact q _ _ B2 H2 ρ2 pp (.bl _) (g1.trans g2) r2
def tChain3 (o1 o2 o3 : R2) (ta tb tc td : TE) : TT := fun σ H Q => ta σ H fun x H1 => tb σ H1 fun y H2 => o1 x y H2 fun z H3 => ∃ k, z = .bl k ∧ (k = true → tc σ H3 fun w H4 => o2 y w H4 fun z' H5 => ∃ k', z' = .bl k' ∧ (k' = true → td σ H5 fun v H6 => o3 w v H6 fun z2 H7 => ∃ k2, z2 = .bl k2 ∧ Q k2 H7) ∧ (k' = false → Q false H5)) ∧ (k = false → Q false H3)
theorem pt_chain3 {o1 o2 o3 : CmpOp} {q1 q2 q3 : R2} {a b c d : Expr} {ta tb tc td : TE} (h1 : OpR X (compareOp o1) q1) (h2 : OpR X (compareOp o2) q2) (h3 : OpR X (compareOp o3) q3) (ha : PE X a ta) (hb : PE X b tb) (hc : PE X c tc) (hd : PE X d td)
    (hm : lastMarks [o1, o2, o3] [b, c, d] = false := by with_unfolding_all rfl) : PT X (.Compare a [o1, o2, o3] [b, c, d] pos) (tChain3 q1 q2 q3 ta tb tc td) := by
  refine ⟨fun pins s σ H Q I h => ?_⟩
  refine isTrue_chain (thn (ha.run pins s σ H _ I h) fun v s1 ⟨x, H1, I1, r1, w1⟩ => test_link (thn (hb.run pins s1 σ H1 _ I1 w1) fun u s2 ⟨y, H2, I2, r2, w2⟩ =>
    thn (h1 pins s2 σ H2 x y v u _ I2 r1 r2 w2) fun e s3 ⟨z, H3, I3, r3, k, ek, w3, w3'⟩ => ?_)) hm
  subst ek
  cases r3
  refine wpAny_truthy_bool ?_
  cases k with
  | false => exact ite_ff ⟨H3, I3, w3' rfl⟩
  | true =>
    refine ite_tt (test_link (thn (hc.run pins s3 σ H3 _ I3 (w3 rfl)) fun w' s4 ⟨z', H4, I4, r4, w4⟩ => thn (h2 pins s4 σ H4 y z' u w' _ I4 r2 r4 w4) fun e' s5 ⟨z2, H5, I5, r5, k2, e2, w5, w5'⟩ => ?_))
    subst e2
    cases r5
    refine wpAny_truthy_bool ?_
    cases k2 with
    | false => exact ite_ff ⟨H5, I5, w5' rfl⟩
    | true =>
      refine ite_tt (test_last (thn (hd.run pins s5 σ H5 _ I5 (w5 rfl)) fun w'' s6 ⟨z'', H6, I6, r6, w6⟩ => thn (h3 pins s6 σ H6 z' z'' w' w'' _ I6 r4 r6 w6) fun d' s7 ⟨z3, H7, I7, r7, k3, e3, w7⟩ => ?_))
      subst e3
      cases r7
      exact wpAny_truthy_bool ⟨H7, I7, w7⟩
/-- a o1 b o2 c o3 d -/
theorem vt_chain3 (C : Cst X M sc NK G k) {o1 o2 o3 : CmpOp} {c d : Expr} (h : VD X a ρ fun x ρ1 => VD X b ρ1 fun y ρ2 => cmpD o1 x y fun bb => (bb = true → VD X c ρ2 fun z ρ3 => cmpD o2 y z fun b2 => (b2 = true → VD X d ρ3 fun w ρ4 => cmpD o3 z w fun b3 => PB b3 ρ4) ∧ (b2 = false → PB false ρ3)) ∧ (bb = false → PB false ρ2)) (hm : lastMarks [o1, o2, o3] [b, c, d] = false := by rfl) : VT X (.Compare a [o1, o2, o3] [b, c, d] pos) ρ PB := VT.mk fun B H σ Q r q => by
  refine PT.sem (pt_chain3 or_sem or_sem or_sem pe_sem pe_sem pe_sem pe_sem hm) ?_
  refine h.run B H σ _ r fun vx x B1 H1 ρ1 p1 dx g1 r1 => ?_
  refine p1.run B1 H1 σ _ r1 fun vy y B2 H2 ρ2 p2 dy g2 r2 => ?_
  refine cmp_ok C r2.ex p2 (Dp.mono g2.ex dx) dy fun bb kb => ⟨bb, rfl, fun e => ?_, fun e => q _ B2 H2 ρ2 (kb.2 e) (g1.trans g2) r2⟩
  refine (kb.1 e).run B2 H2 σ _ r2 fun vz z B3 H3 ρ3 p3 dz g3 r3 => ?_
  refine cmp_ok C r3.ex p3 (Dp.mono g3.ex dy) dz fun b2 kb2 => ⟨b2, rfl, fun e2 => ?_, fun e2 => q _ B3 H3 ρ3 (kb2.2 e2) ((g1.trans g2).trans g3) r3⟩
  refine (kb2.1 e2).run B3 H3 σ _ r3 fun vw w B4 H4 ρ4 p4 dw g4 r4 => ?_
  exact cmp_ok C r4.ex p4 (Dp.mono g4.ex dz) dw fun b3 kb3 => ⟨b3, rfl, q _ B4 H4 ρ4 kb3 (((g1.trans g2).trans g3).trans g4) r4⟩
end

open PySem PySem.Spec PyProof.Rows L2
abbrev Br := Str × Int
def brK (q : Br) : List Key := [.inr q.1, .inl q.2]
def brD (q : Br) : D := .tuple [.str q.1, .int q.2]
theorem brD_K (q : Br) : brD q = .tuple ((brK q).map dK) := rfl
def ltB (q r : Br) : Bool := (VcT.lexK (brK q) (brK r)).getD false
theorem lexB (q r : Br) : VcT.lexK (brK q) (brK r) = some (ltB q r) := by
  unfold ltB brK
  rw [VcT.lexK_cons, VcT.lexK_cons]
  by_cases h : (Sum.inr q.1 : Key) = Sum.inr r.1
  · rw [if_pos h]
    by_cases h2 : (Sum.inl q.2 : Key) = Sum.inl r.2
    · rw [if_pos h2]
      rfl
    · rw [if_neg h2]
      rfl
  · rw [if_neg h]
    rfl
theorem str_ext {x y : Str} (h : x.cps.toList = y.cps.toList) : x = y := by
  cases x
  cases y
  congr
  exact Array.toList_inj.mp h
theorem ltB_same {q r : Br} (h : q.1 = r.1) : ltB q r = decide (q.2 < r.2) := by
  unfold ltB brK
  rw [VcT.lexK_cons, VcT.lexK_cons, if_pos (by rw [h])]
  by_cases h2 : (Sum.inl q.2 : Key) = Sum.inl r.2
  · rw [if_pos h2]
    have e := Sum.inl.inj h2
    rw [decide_eq_false (by omega)]
    rfl
  · rw [if_neg h2]
    rfl
theorem ltB_else {q r : Br} (h : q.1 ≠ r.1) : ltB q r = decide (q.1.cps.toList < r.1.cps.toList) := by
  unfold ltB brK
  rw [VcT.lexK_cons, if_neg (fun e => h (Sum.inr.inj e))]
  rfl
theorem ltB_iff {q r : Br} : ltB q r = true ↔ (q.1 = r.1 ∧ q.2 < r.2) ∨ (q.1 ≠ r.1 ∧ q.1.cps.toList < r.1.cps.toList) := by
  by_cases h : q.1 = r.1
  · rw [ltB_same h, decide_eq_true_iff]
    exact ⟨fun z => .inl ⟨h, z⟩, fun z => z.elim (fun w => w.2) fun w => absurd h w.1⟩
  · rw [ltB_else h, decide_eq_true_iff]
    exact ⟨fun z => .inr ⟨h, z⟩, fun z => z.elim (fun w => absurd w.1 h) fun w => w.2⟩
theorem ltB_irr (q : Br) : ltB q q = false := by
  rw [ltB_same rfl]
  exact decide_eq_false (Int.lt_irrefl _)
theorem ltB_trans {q r s : Br} (h1 : ltB q r = true) (h2 : ltB r s = true) : ltB q s = true := by
  rw [ltB_iff] at h1 h2 ⊢
  rcases h1 with ⟨e1, l1⟩ | ⟨n1, l1⟩
  · rcases h2 with ⟨e2, l2⟩ | ⟨n2, l2⟩
    · exact .inl ⟨e1.trans e2, by omega⟩
    · exact .inr ⟨by rw [e1]; exact n2, by rw [e1]; exact l2⟩
  · rcases h2 with ⟨e2, l2⟩ | ⟨n2, l2⟩
    · exact .inr ⟨by rw [← e2]; exact n1, by rw [← e2]; exact l1⟩
    · have l := List.lt_trans l1 l2
      refine .inr ⟨fun e => ?_, l⟩
      rw [e] at l
      exact List.lt_irrefl _ l
theorem ltB_total {q r : Br} (h : q ≠ r) : ltB q r = true ∨ ltB r q = true := by
  by_cases e : q.1 = r.1
  · rw [ltB_same e, ltB_same e.symm, decide_eq_true_iff, decide_eq_true_iff]
    have : q.2 ≠ r.2 := fun z => h (Prod.ext e z)
    omega
  · rw [ltB_else e, ltB_else (fun z => e z.symm), decide_eq_true_iff, decide_eq_true_iff]
    by_cases l : q.1.cps.toList < r.1.cps.toList
    · exact .inl l
    · by_cases l2 : r.1.cps.toList < q.1.cps.toList
      · exact .inr l2
      · exact absurd (str_ext (List.le_antisymm (List.not_lt.mp l2) (List.not_lt.mp l))) e
/-- how many of a list stand below -/
def rankB (L : List Br) (q : Br) : Int := ((L.countP fun u => ltB u q : Nat) : Int)
theorem cnt_le {p q : Br → Bool} : ∀ {L : List Br}, (∀ u ∈ L, p u = true → q u = true) → L.countP p ≤ L.countP q
  | [], _ => Nat.le_refl _
  | u :: L, h => by
    have ih := cnt_le (p := p) (q := q) (L := L) fun v hv => h v (List.mem_cons_of_mem _ hv)
    rw [List.countP_cons, List.countP_cons]
    have hu := h u List.mem_cons_self
    cases e : p u with
    | true =>
      rw [hu e]
      simp only [if_true]
      omega
    | false =>
      simp only [Bool.false_eq_true, if_false]
      omega
theorem cnt_lt {p q : Br → Bool} {a : Br} (na : p a = false) (qa : q a = true) : ∀ {L : List Br}, a ∈ L → (∀ u ∈ L, p u = true → q u = true) → L.countP p < L.countP q
  | u :: L, hm, h => by
    have le := cnt_le (p := p) (q := q) (L := L) fun v hv => h v (List.mem_cons_of_mem _ hv)
    rw [List.countP_cons, List.countP_cons]
    rcases List.mem_cons.mp hm with rfl | hm
    · rw [na, qa]
      simp only [if_true, Bool.false_eq_true, if_false]
      omega
    · have ih := cnt_lt (p := p) (q := q) na qa hm fun v hv => h v (List.mem_cons_of_mem _ hv)
      have hu := h u List.mem_cons_self
      cases e : p u with
      | true =>
        rw [hu e]
        simp only [if_true]
        omega
      | false =>
        simp only [Bool.false_eq_true, if_false]
        omega
theorem rank_lt {L : List Br} {q r : Br} (hq : q ∈ L) (hr : r ∈ L) : ltB q r = decide (rankB L q < rankB L r) := by
  unfold rankB
  cases h : ltB q r with
  | true =>
    refine (decide_eq_true ?_).symm
    have := cnt_lt (p := fun u => ltB u q) (q := fun u => ltB u r) (a := q) (ltB_irr q) h hq fun u _ hu => ltB_trans hu h
    omega
  | false =>
    refine (decide_eq_false ?_).symm
    have : (L.countP fun u => ltB u r) ≤ L.countP fun u => ltB u q := cnt_le fun u _ hu => by
      by_cases e : q = r
      · rw [e]
        exact hu
      · rcases ltB_total e with z | z
        · rw [h] at z
          cases z
        · exact ltB_trans hu z
    omega
end Vc
namespace VcSo
open PySem PySem.W PyProof.Rows TS Vc
/-- v is the pair q -/
def BrAt (h : Heap) (v : Value) (q : Br) : Prop := ∃ (a : Addr) (t u : Tok), v = .ref a ∧ IsTup h a #[.str q.1 t, .int q.2 u]
def itemsAt (h : Heap) : Value → List Value
  | .ref a => match h.get? a with
    | some o => (match o.data with
      | .seq xs _ => xs.toList
      | _ => [])
    | none => []
  | _ => []
def brOf (h : Heap) (v : Value) : Br := match itemsAt h v with
  | [.str x _, .int e _] => (x, e)
  | _ => ("", 0)
theorem BrAt.of {h : Heap} {v : Value} {q : Br} (x : BrAt h v q) : brOf h v = q := by
  obtain ⟨a, t, u, rfl, o, ho, hc, n, hd⟩ := x
  have e : itemsAt h (.ref a) = [.str q.1 t, .int q.2 u] := by
    show (match h.get? a with | some o => _ | none => []) = _
    rw [ho]
    show (match o.data with | .seq xs _ => xs.toList | _ => []) = _
    rw [hd]
  unfold brOf
  rw [e]
theorem BrAt.keeps {h h' : Heap} {v : Value} {q : Br} (x : BrAt h v q) (k : ∀ b o, h.get? b = some o → o.cls = .type "tuple" → h'.get? b = some o) : BrAt h' v q := by
  obtain ⟨a, t, u, e, o, ho, hc, r⟩ := x
  exact ⟨a, t, u, e, o, k _ _ ho hc, hc, r⟩
theorem firsts_br {h : Heap} : ∀ vs : List Value, (∀ v ∈ vs, ∃ q, BrAt h v q) → ∃ fs : List Value, KatTups h vs fs ∧ fs.length = vs.length ∧ ∀ f ∈ fs, ∃ x t, f = Value.str x t
  | [], _ => ⟨[], KatTups.nil, rfl, fun f hf => by simp at hf⟩
  | v :: vs, x => by
    obtain ⟨fs, k, hl, hi⟩ := firsts_br vs fun u hu => x u (List.mem_cons_of_mem _ hu)
    obtain ⟨q, a, t, u, rfl, o, ho, hc, n, hd⟩ := x v List.mem_cons_self
    refine ⟨.str q.1 t :: fs, KatTups.cons ho hc hd rfl k, by rw [List.length_cons, List.length_cons, hl], fun f hf => ?_⟩
    rcases List.mem_cons.mp hf with rfl | hf
    · exact ⟨q.1, t, rfl⟩
    · exact hi f hf
section
variable {prog : Program} {w : World} {A : Around} {E : Value → Shared → Prop} {s : Shared}
theorem one_str {Q : Bool → Shared → Prop} (c : Bool) {x y : Str} {t u : Tok} (h : Q (decide (x.cps.toList < y.cps.toList)) s) : wpAny (model prog w) A (oneLt' c (.str x t) (.str y u)) Q E s := by
  cases c with
  | true => exact oneLt_str h
  | false => exact PySem.W.kat_one _ _ (PyProof.Rows.lt_str (Q := PySem.W.BoolBack Q) h)
theorem kind_br {vs : List Value} {L : List Br} (h2 : 2 ≤ vs.length) (x : ∀ v ∈ vs, ∃ q ∈ L, BrAt s.heap v q) (r : Value → Int) (hr : ∀ v ∈ vs, ∀ q, BrAt s.heap v q → r v = rankB L q) (Q : SortKind → Shared → Prop)
    (h : ∀ κ, TS.Cmp prog w A s κ (pairsOf vs) r → Q κ s) : wpAny (model prog w) A (keyKind' vs.toArray) Q E s := by
  obtain ⟨fs, k, hl, hi⟩ := firsts_br vs fun v hv => let ⟨q, _, z⟩ := x v hv; ⟨q, z⟩
  refine PySem.W.kat_kind (T := Value.type "str") k (by omega) (fun f hf => ?_) rfl (h _ ?_)
  · obtain ⟨y, t, rfl⟩ := hi f hf
    exact PySem.W.Looks.of_pure rfl
  · intro p q hp hq Q' E' hQ
    rw [pairsOf_toList] at hp hq
    have mp := (mem_zip_self hp).2
    have mq := (mem_zip_self hq).2
    obtain ⟨y, yL, py⟩ := x _ mp
    obtain ⟨z, zL, pz⟩ := x _ mq
    have hQ2 : Q' (ltB y z) s := by
      rw [rank_lt yL zL, ← hr _ mp _ py, ← hr _ mq _ pz]
      exact hQ
    obtain ⟨a, t, u, e1, o, ho, hc, n, hd⟩ := py
    obtain ⟨a', t', u', e2, o', ho', hc', n', hd'⟩ := pz
    rw [e1, e2]
    refine kat_lt ho hd ho' hd' ?_
    show KatLex prog w A _ false Q' [(Value.str y.1 t, Value.str z.1 t'), (Value.int y.2 u, Value.int z.2 u')] 0 s
    refine kat_cons (wpAny_eqBool_str ?_)
    by_cases e : y.1 = z.1
    · rw [decide_eq_true e]
      rw [ltB_same e] at hQ2
      refine kat_yes (kat_cons (wpAny_eqBool_int ?_))
      by_cases e3 : y.2 = z.2
      · rw [show (y.2 == z.2) = true from by simp [e3]]
        rw [decide_eq_false (by omega)] at hQ2
        exact kat_yes (kat_nil hQ2)
      · rw [show (y.2 == z.2) = false from by simp [e3]]
        exact kat_no (TS.oneLt_ints _ hQ2)
    · rw [decide_eq_false e]
      rw [ltB_else e] at hQ2
      exact kat_no (one_str _ hQ2)
theorem sort_br {a : Addr} {vs : List Value} {L : List Br} {n : Nat} {P : PySem.Fin → Shared → Prop} (ho : s.heap.get? a = some (seqObj "list" vs.toArray n)) (h64 : vs.length < 64) (x : ∀ v ∈ vs, ∃ q ∈ L, BrAt s.heap v q)
    (h : ∀ out : Array Value, out.toList.Perm vs → out.toList.Pairwise (fun u v => rankB L (brOf s.heap u) ≤ rankB L (brOf s.heap v)) → P (.done (.ret .none)) { s with heap := sortedHeap s.heap a vs out }) :
    wpAny (model prog w) A (Builtin.«list.sort» ⟨[.ref a], []⟩) P E s := by
  have keep : ∀ b o, s.heap.get? b = some o → o.cls = .type "tuple" → (midHeap s.heap a vs).get? b = some o := fun b o e hc => by
    refine midHeap_old (fun z => ?_) e
    rw [z, ho] at e
    have e' : seqObj "list" vs.toArray n = o := Option.some.inj e
    rw [← e'] at hc
    have c' : Value.type "list" = Value.type "tuple" := hc
    injection c' with c''
    exact absurd c'' (by decide)
  refine SK.plain_sort (r := fun v => rankB L (brOf s.heap v)) ho h64 (fun h2 Q hQ => ?_) fun ps out h1 h2 h3 => ?_
  · refine kind_br (s := { s with heap := midHeap s.heap a vs }) (L := L) h2 (fun v hv => ?_) _ (fun v hv q t => ?_) Q hQ
    · obtain ⟨q, hq, z⟩ := x v hv
      exact ⟨q, hq, z.keeps keep⟩
    · obtain ⟨q0, _, z⟩ := x v hv
      have e : q = q0 := t.of.symm.trans (z.keeps keep).of
      show rankB L (brOf s.heap v) = rankB L q
      rw [z.of, e]
  · obtain ⟨p, o⟩ := out_rank (r := fun v => rankB L (brOf s.heap v)) h1 h2 h3
    exact h out p o
theorem sorted_br {l : Addr} {vs : List Value} {L : List Br} {Q : Value → Shared → Prop} (hl : s.heap.IsList l vs.toArray) (h64 : vs.length < 64) (x : ∀ v ∈ vs, ∃ q ∈ L, BrAt s.heap v q)
    (h : ∀ out : Array Value, out.toList.Perm vs → out.toList.Pairwise (fun u v => rankB L (brOf s.heap u) ≤ rankB L (brOf s.heap v)) → Q (.ref (s.heap.objs.size + 1)) { s with heap := sortedAll s.heap vs out }) :
    wpAny (model prog w) A (call (.builtin "sorted") [.ref l]) Q E s := by
  refine Calls.call_function_entry kind_sorted plain_sorted entry_sorted (args_sorted1 _) ?_
  unfold Builtin.«sorted»
  refine wpAny_bind (m := checkCount "sorted" 1 1 _) (wpAny_pure ?_)
  refine wpAny_bind (collect_list hl ?_ (by rw [sizeLine_eq]; omega))
  refine wpAny_bind (wpAny_newList ?_ (by rw [sizeLine_eq]; omega))
  have size1 : ((s.heap.push (seqObj "list" #[] 0)).update s.heap.objs.size (Obj.mapSeq (· ++ vs.toArray))).objs.size = s.heap.objs.size + 1 := by
    rw [Heap.size_update, size_push']
  have list1 : (((s.heap.push (seqObj "list" #[] 0)).update s.heap.objs.size (Obj.mapSeq (· ++ vs.toArray))).push (seqObj "list" vs.toArray 0)).get? (s.heap.objs.size + 1) = some (seqObj "list" vs.toArray 0) := by
    rw [← size1]
    exact Heap.get?_push_size _ rfl
  have keep : ∀ b o, s.heap.get? b = some o → o.cls = .type "tuple" → (((s.heap.push (seqObj "list" #[] 0)).update s.heap.objs.size (Obj.mapSeq (· ++ vs.toArray))).push (seqObj "list" vs.toArray 0)).get? b = some o := fun b o q _ => by
    have low : b < s.heap.objs.size := Heap.lt_size q
    rw [Heap.get?_push_ne _ _ _ (by rw [size1]; exact Nat.ne_of_lt (Nat.lt_succ_of_lt low)), Heap.get?_update_ne _ _ _ _ (Nat.ne_of_lt low), Heap.get?_push_ne _ _ _ (Nat.ne_of_lt low)]
    exact q
  have same : ∀ v ∈ vs, brOf (((s.heap.push (seqObj "list" #[] 0)).update s.heap.objs.size (Obj.mapSeq (· ++ vs.toArray))).push (seqObj "list" vs.toArray 0)) v = brOf s.heap v := fun v hv => by
    obtain ⟨q, _, z⟩ := x v hv
    rw [z.of, (z.keeps keep).of]
  show wpAny _ _ _ _ _ { s with heap := ((s.heap.push (seqObj "list" #[] 0)).update s.heap.objs.size (Obj.mapSeq (· ++ vs.toArray))).push (seqObj "list" vs.toArray 0) }
  rw [size1]
  refine wpAny_bind (wpAny_holding (wpAny_call_entry slot_list_sort ⟨_, list1, rfl⟩ entry_list_sort (sort_br (L := L) list1 h64 (fun v hv => ?_) fun out a1 a2 => ⟨_, rfl, ?_⟩) (args_list_sort _)))
  · obtain ⟨q, hq, z⟩ := x v hv
    exact ⟨q, hq, z.keeps keep⟩
  · refine wpAny_pure ⟨_, rfl, h out a1 (List.Pairwise.imp_of_mem (fun {u v} hu hv huv => ?_) a2)⟩
    have e1 := same u (a1.mem_iff.mp hu)
    have e2 := same v (a1.mem_iff.mp hv)
    simp only [e1, e2] at huv
    exact huv
end
end VcSo

namespace Vc
open PySem PySem.Spec PyProof.Rows L2
open Evl (Ex)
/-- in their order -/
def Asc (bs : List Br) : Prop := bs.Pairwise fun q r => ltB r q = false
section
variable {X : Cx} {M : Md} {sc : Scope} {NK : List (Str × Bool × Bool)} {G : List Str} {k : Nat} {ρ : En} {PL : List D → En → Prop} {pos p : Pos} {e : Expr}
theorem dps_br {K : PySem.W.Frag} {B : Hp} : ∀ {bs : List Br} {xs : List V}, DpAll K B xs (bs.map brD) → ∀ x ∈ xs, ∃ q ∈ bs, Dp K B x (brD q)
  | [], _, .nil, x, h => by cases h
  | b :: bs, _, .cons h hs, x, hx => by
    rcases List.mem_cons.mp hx with rfl | hx
    · exact ⟨b, List.mem_cons_self, h⟩
    · obtain ⟨q, h1, h2⟩ := dps_br hs x hx
      exact ⟨q, List.mem_cons_of_mem _ h1, h2⟩
theorem br_at {pins : List (Addr × Obj)} {σ : L2.St} {B H : Hp} {s : Shared} {x : V} {q : Br} (I : Inv X pins σ H s) (eB : Ex B H) (d : Dp X.K B x (brD q)) : ∃ a, x = .ref a ∧ VcSo.BrAt s.heap (.ref a) q := by
  obtain ⟨a, xs, rfl, hT, hx⟩ := dp_tup d
  obtain ⟨its, w1, pl, _⟩ := I.tuple (ex_t eB hT)
  cases hx with
  | cons h1 h2 =>
    cases h2 with
    | cons h2 h3 =>
      cases h3
      have e1 := dp_str h1
      have e2 := dp_int h2
      subst e1 e2
      cases w1 with
      | cons r1 r2 =>
        cases r2 with
        | cons r2 r3 =>
          cases r3
          obtain ⟨t, rfl⟩ := r1
          obtain ⟨u, rfl⟩ := r2
          exact ⟨a, rfl, a, t, u, rfl, pl⟩
theorem br_all {pins : List (Addr × Obj)} {σ : L2.St} {B H : Hp} {s : Shared} (I : Inv X pins σ H s) (eB : Ex B H) : ∀ {bs : List Br} {xs : List V} {us : List Value}, Vals xs us → DpAll X.K B xs (bs.map brD) → us.map (VcSo.brOf s.heap) = bs ∧ (∀ u ∈ us, ∃ q ∈ bs, VcSo.BrAt s.heap u q ∧ Dp X.K B (bkV u) (brD q)) ∧ ∀ x ∈ xs, ∃ a, x = V.ref a
  | [], _, _, .nil, .nil => ⟨rfl, fun u h => (by cases h), fun x h => (by cases h)⟩
  | b :: bs, _, _, .cons r rs, .cons h hs => by
    obtain ⟨i1, i2, i3⟩ := br_all I eB rs hs
    obtain ⟨a, e, z⟩ := br_at I eB h
    subst e
    cases r
    refine ⟨?_, fun u hu => ?_, fun x hx => ?_⟩
    · rw [List.map_cons, i1, z.of]
    · rcases List.mem_cons.mp hu with rfl | hu
      · exact ⟨b, List.mem_cons_self, z, h⟩
      · obtain ⟨q, q1, q2⟩ := i2 u hu
        exact ⟨q, List.mem_cons_of_mem _ q1, q2⟩
    · rcases List.mem_cons.mp hx with rfl | hx
      · exact ⟨a, rfl⟩
      · exact i3 x hx
theorem dps_out {K : PySem.W.Frag} {B : Hp} {h : Heap} : ∀ {us : List Value}, (∀ u ∈ us, Dp K B (bkV u) (brD (VcSo.brOf h u))) → DpAll K B (us.map bkV) ((us.map (VcSo.brOf h)).map brD)
  | [], _ => .nil
  | u :: us, x => .cons (x u List.mem_cons_self) (dps_out fun v hv => x v (List.mem_cons_of_mem _ hv))
/-- sorted(e), e a list of pairs -/
theorem vn_sortBr (C : Cst X M sc NK G k) {i : Nat} (hg : At G i "sorted") (h : VD X e ρ fun d ρ1 => ∃ bs : List Br, d = .list (bs.map brD) ∧ bs.length < 64 ∧ ∀ bs', bs'.Perm bs → Asc bs' → PL (bs'.map brD) ρ1) (hm : M.mg "sorted" = none := by assumption)
    (he : starEach [e] X.env = (false, eval e X.env) :: starEach [] X.env := by rfl) (hpl : (backTo pos (starEach [] X.env)).any (·.1) = false := by rfl) : VN X (.Call (.Name "sorted" p) [e] [] pos) ρ PL := VN.mk fun B H σ Q r q => by
  refine PE.sem (pe_callB (cr_sem (f := .builtin "sorted")) (C.g hg) (C.mg hm) (by decide +kernel) (pa_cons pe_sem pa_nil he) (by decide) (by decide) he hpl) ?_
  refine h.run B H σ _ r fun v d B1 H1 ρ1 p1 dv g1 r1 => ?_
  obtain ⟨bs, rfl, h64, pp⟩ := p1
  obtain ⟨t, xs, rfl, hT, hv⟩ := dp_lst dv
  intro pins s σ' us I rv
  obtain ⟨its, rv', hl, hz⟩ := I.list (ex_l r1.ex hT)
  rw [Vals.ref1 rv]
  obtain ⟨e1, e2, e3⟩ := br_all I r1.ex rv' hv
  obtain ⟨f1, f2⟩ := bkV_refs rv' e3
  refine VcSo.sorted_br (L := bs) hl.isList (by rw [← rv'.length, DpAll.len hv, List.length_map]; exact h64) (fun u hu => let ⟨q, q1, q2, _⟩ := e2 u hu; ⟨q, q1, q2⟩) fun out a1 a2 => ?_
  obtain ⟨ep, he'⟩ := PyProof.Rows.sortedAll_at s.heap its out
  have h3 : ∀ u ∈ out.toList, ∃ a, u = Value.ref a := fun u hu => f2 u (a1.mem_iff.mp hu)
  have hp : (out.toList.map bkV).Perm xs := by
    rw [f1]
    exact a1.map bkV
  have hlen : (out.toList.map bkV).length ≤ sizeLine := by
    rw [hp.length_eq]
    exact hz
  have fresh := I.hok.fresh (Nat.le_succ s.heap.objs.size)
  have dps : DpAll X.K B1 (out.toList.map bkV) ((out.toList.map (VcSo.brOf s.heap)).map brD) := dps_out fun u hu => by
    obtain ⟨b, _, z1, z2⟩ := e2 u (a1.mem_iff.mp hu)
    rw [z1.of]
    exact z2
  have perm : (out.toList.map (VcSo.brOf s.heap)).Perm bs := by
    have := a1.map (VcSo.brOf s.heap)
    rw [e1] at this
    exact this
  have asc : Asc (out.toList.map (VcSo.brOf s.heap)) := by
    unfold Asc
    rw [List.pairwise_map]
    refine List.Pairwise.imp_of_mem (fun {u v} hu hv huv => ?_) a2
    have mu : VcSo.brOf s.heap u ∈ bs := perm.mem_iff.mp (List.mem_map.mpr ⟨u, hu, rfl⟩)
    have mv : VcSo.brOf s.heap v ∈ bs := perm.mem_iff.mp (List.mem_map.mpr ⟨v, hv, rfl⟩)
    rw [rank_lt mv mu]
    exact decide_eq_false (by omega)
  obtain ⟨r2, g2, b2⟩ := new_one (o := .lst (out.toList.map bkV)) r1 fresh
  exact ⟨.ref _, upd H1 (s.heap.objs.size + 1) (.lst (out.toList.map bkV)), I.laid (t' := s.toks) (fun _ _ => PyProof.Rows.sortedAll_old) (Nat.le_succ _) ⟨hlen, out.toList, ep, bkV_vals h3, he'⟩, rfl,
    q _ _ _ _ _ ρ1 (pp _ perm asc) (g1.dom _ fresh) upd_same b2 (not_own r1 fresh) dps (g1.trans g2) r2⟩
end
end Vc

namespace K5
open PySem PySem.Spec PyProof.Rows L2 Vc
local macro_rules | `(tactic| walk_at "at") => `(tactic| (repeat (first | with_reducible exact At.here | apply At.there)))
local macro_rules | `(tactic| walk_at "v") => `(tactic| first
  | refine vd_bin ?_
  | (refine vd_name (by assumption) (by walk_at "at") rfl ?_)
  | refine vd_int ?_
  | refine vd_bool ?_
  | refine vd_none ?_
  | refine vd_str ?_
  | refine vd_if ?_
  | (refine vd_neg ?_)
  | refine vd_tup ?_
  | refine va_nil ?_
  | refine va_cons ?_
  | refine vs_ret ?_
  | refine vss_nil ?_
  | refine vss_one ?_
  | refine vss_cons ?_
  | refine vs_if ?_
  | refine vt_cmp (by assumption) ?_
  | refine vs_set (by assumption) (by walk_at "at") ?_
  | refine vd_cmp (by assumption) ?_
  | refine vgs_nil ?_
  | refine vgs_cons ?_
  | refine vg_name (by assumption) (by walk_at "at") ?_
  | (refine vd_callT (x := "int") (by assumption) does_int (by walk_at "at") ?_)
  | (refine vd_callB (x := "len") (by assumption) does_len (by walk_at "at") ?_)
  | (refine vd_callB (x := "abs") (by assumption) does_abs (by walk_at "at") ?_)
  | (refine vd_ixo (by assumption) (by walk_at "at") rfl ?_)
  | refine vd_ix ?_)
local macro_rules | `(tactic| walk_at "sw") => `(tactic| (intro env h; cases env; dsimp only at h; subst h; rfl))
local macro_rules | `(tactic| walk_at "vv") => `(tactic| repeat (walk_at "v"))
/-! ### is_ascending -/
def asc (bs : List Br) : Bool := (bs.zip (bs.drop 1)).all fun p => ltB p.1 p.2
theorem zip_br (bs : List Br) : (bs.map brD).zip ((bs.map brD).drop 1) = (bs.zip (bs.drop 1)).map fun p => (brD p.1, brD p.2) := by
  rw [← List.map_drop, List.zip_map]
  rfl
def SAsc : List D → (D → Prop) → Prop := fun ds W => ∃ bs : List Br, ds = [.tuple (bs.map brD)] ∧ bs ≠ [] ∧ bs.length ≤ 1000 ∧ W (.bool (asc bs))
theorem fAsc {M : Md} {f : Addr} {fd : FuncData} (ma : M.mg "all" = none) (mz : M.mg "zip" = none)
    (F : Fun M.K "is_ascending" "is_ascending" sIsAscending f fd) (hm : M.mg "is_ascending" = some (.ref f)) (b : L2.Binds M.K fd ["things"] []) : FnD M 1 "is_ascending" 1 SAsc := by
  refine fnD_mk (k := 0) (NK := nkIsAscending) (G := gIsAscending) F scIsAscending hm b rfl (by decide +kernel) rfl (by decide) fun X C ds W hl hS => ?_
  obtain ⟨bs, rfl, ne, hlen, w⟩ := hS
  show VSs X _ [.dat (.tuple (bs.map brD)), .no, .no] _
  walk_at "v"
  walk_at "v"
  refine vd_callB C (does_all C) (by walk_at "at") ?_
  refine va_cons (vn_vd ?_)
  refine vn_lc2 C nkIsAscending0 gIsAscending0 (i1 := 1) (i2 := 2) (by walk_at "at") (by walk_at "at") (by decide) ?_
  refine vp_zip C (by walk_at "at") ?_
  refine va_cons ?_
  walk_at "v"
  refine va_cons (vd_dropT ?_)
  walk_at "v"
  walk_at "v"
  refine ⟨bs.map brD, 1, rfl, rfl, by decide, by simpa using ne, ?_⟩
  refine va_nil ?_
  refine ⟨_, _, rfl, ?_⟩
  rw [zip_br]
  refine ⟨by rw [List.length_map, List.length_zip]; omega, fun j acc ρ' => acc = (((bs.zip (bs.drop 1)).take j).map fun p => ltB p.1 p.2).map PyData.bool ∧ ρ' = [.dat (.tuple (bs.map brD)), .no, .no], ⟨rfl, rfl⟩, fun j d1 d2 acc ρ' hj hW X' C' => ?_, fun acc ρ' hW => ?_⟩
  · obtain ⟨rfl, rfl⟩ := hW
    rw [List.getElem?_map] at hj
    cases e : (bs.zip (bs.drop 1))[j]? with
    | none =>
      rw [e] at hj
      cases hj
    | some q =>
      rw [e] at hj
      cases hj
      refine vd_ltK C' ?_
      walk_at "v"
      walk_at "v"
      refine ⟨brK q.1, brK q.2, _, brD_K q.1, brD_K q.2, lexB q.1 q.2, ?_, rfl⟩
      rw [List.take_succ, e, List.map_append, List.map_append]
      rfl
  · obtain ⟨rfl, rfl⟩ := hW
    refine va_nil ?_
    refine ⟨_, rfl, ?_⟩
    rw [List.length_map, List.take_length, List.all_map]
    exact w


open PySem PySem.Spec PyProof.Rows L2 Vc
/-! ### is_told -/
def isBoolD : D → Bool
  | .bool _ => true
  | _ => false
theorem kit_bool {d : D} (nd : noDi d) : kitB (tyN d) "bool" = some (isBoolD d) := by
  cases d with
  | none => decide +kernel
  | bool b => show kitB "bool" "bool" = some true; decide +kernel
  | int i => show kitB "int" "bool" = some false; decide +kernel
  | str z => show kitB "str" "bool" = some false; decide +kernel
  | list l => show kitB "list" "bool" = some false; decide +kernel
  | tuple l => show kitB "tuple" "bool" = some false; decide +kernel
  | dict l => exact absurd rfl (nd l)
def moreOver (ns : Nm) : List D → Bool
  | [a, b, c] => breakerD ns a && (boundD b && isBoolD c)
  | _ => false
def moreReach (ns : Nm) : List D → Bool
  | [a, b] => breakerD ns a && boundD b
  | _ => false
def moreDiff (ns : Nm) : List D → Bool
  | [a, b] => knownD ns ["bus", "line"] a && boundD b
  | _ => false
def moreBehind (ns : Nm) : List D → Bool
  | [a] => breakerD ns a
  | _ => false
def toldS (ns : Nm) (k : Str) (more : List D) : Bool :=
  if k = "over" then moreOver ns more else if k = "reach" then moreReach ns more else if k = "difference" then moreDiff ns more else decide (k = "behind") && moreBehind ns more
def toldD (ns : Nm) : D → Bool
  | .tuple (.str k :: more) => toldS ns k more
  | _ => false
theorem told_no {ns : Nm} {d : D} (h : ∀ ds, d ≠ .tuple ds) : toldD ns d = false := by
  cases d with
  | tuple l => exact absurd rfl (h l)
  | _ => rfl
theorem told_no2 {ns : Nm} {d : D} {ds : List D} (h : ∀ z, d ≠ .str z) : toldD ns (.tuple (d :: ds)) = false := by
  cases d with
  | str z => exact absurd rfl (h z)
  | _ => rfl
theorem len_three {ds : List D} (h : decide (((ds.length : Nat) : Int) = 3) = true) : ∃ a b c, ds = [a, b, c] := by
  have := of_decide_eq_true h
  match ds, this with
  | [a, b, c], _ => exact ⟨a, b, c, rfl⟩
  | [], h => simp at h
  | [a], h => simp at h
  | [a, b], h => simp at h
  | a :: b :: c :: d :: r, h => simp at h; omega
theorem len_two {ds : List D} (h : decide (((ds.length : Nat) : Int) = 2) = true) : ∃ a b, ds = [a, b] := by
  have := of_decide_eq_true h
  match ds, this with
  | [a, b], _ => exact ⟨a, b, rfl⟩
  | [], h => simp at h
  | [a], h => simp at h
  | a :: b :: c :: r, h => simp at h; omega
theorem len_one {ds : List D} (h : decide (((ds.length : Nat) : Int) = 1) = true) : ∃ a, ds = [a] := by
  have := of_decide_eq_true h
  match ds, this with
  | [a], _ => exact ⟨a, rfl⟩
  | [], h => simp at h
  | a :: b :: r, h => simp at h; omega
theorem over_no {ns : Nm} {ds : List D} (h : decide (((ds.length : Nat) : Int) = 3) = false) : moreOver ns ds = false := by
  unfold moreOver
  split
  · exact absurd rfl (of_decide_eq_false h)
  · rfl
theorem reach_no {ns : Nm} {ds : List D} (h : decide (((ds.length : Nat) : Int) = 2) = false) : moreReach ns ds = false := by
  unfold moreReach
  split
  · exact absurd rfl (of_decide_eq_false h)
  · rfl
theorem diff_no {ns : Nm} {ds : List D} (h : decide (((ds.length : Nat) : Int) = 2) = false) : moreDiff ns ds = false := by
  unfold moreDiff
  split
  · exact absurd rfl (of_decide_eq_false h)
  · rfl
theorem behind_no {ns : Nm} {ds : List D} (h : decide (((ds.length : Nat) : Int) = 1) = false) : moreBehind ns ds = false := by
  unfold moreBehind
  split
  · exact absurd rfl (of_decide_eq_false h)
  · rfl
local macro_rules | `(tactic| walk_at "brk") => `(tactic| (refine vx_own (by assumption) (by walk_at "at") rfl (vx_cons ?_)))
theorem at0 {d : D} {r : List D} : atI (d :: r) 0 = some d := by
  unfold atI ixN
  rw [if_pos (by decide), if_pos (by rw [List.length_cons]; omega)]
  rfl
theorem fTold {M : Md} {f : Addr} {fd : FuncData} (ms : M.mg "isinstance" = none) (mt : M.mg "tuple" = none) (mst : M.mg "str" = none) (ml : M.mg "len" = none) (mb : M.mg "bool" = none) (FK : FnV M 1 "is_known" 2 SKnown) (FB : FnX M 2 "is_breaker" 2 (SBreaker breakerD)) (FO : FnD M 3 "is_bound" 1 (SOk1 boundD))
    (F : Fun M.K "is_told" "is_told" sIsTold f fd) (hm : M.mg "is_told" = some (.ref f)) (b : L2.Binds M.K fd ["names", "thing"] []) : FnX M 4 "is_told" 2 (SBreaker toldD) := by
  refine fnX_mk (k := 3) (NK := nkIsTold) (G := gIsTold) F scIsTold hm b rfl (by decide +kernel) rfl (by decide) fun X C as W WX hl hS => ?_
  obtain ⟨p, ns, d, rfl, ok, w⟩ := hS
  show VSs X _ [.own p (.dt (nm ns)), .dat d, .no, .no] _
  have no : toldD ns d = false → W (.bool false) [.own p (.dt (nm ns)), .dat d] := fun h => by rw [← h]; exact w
  refine vss_cons (vs_if (vt_not (vt_w (vw_and (vt_val ?_)))))
  refine vd_isi C (T := "tuple") (by walk_at "at") (by walk_at "at") ?_
  walk_at "v"
  rcases kit_tup (ok_no ok) with ⟨ds, rfl, k1⟩ | ⟨k1, k2⟩
  · refine ⟨true, k1, true, rfl, fun _ => ?_, fun h => (by cases h)⟩
    refine vw_and (vt_tup ?_)
    walk_at "v"
    refine ⟨ds, rfl, ?_⟩
    cases ds with
    | nil =>
      refine ⟨fun h => (by cases h), fun _ => ⟨fun _ => ?_, fun h => (by cases h)⟩⟩
      walk_at "vv"
      exact ⟨⟨rfl, trivial⟩, no rfl⟩
    | cons d0 more =>
      obtain ⟨ll, lo⟩ := ok_tup ok
      have o0 : okD d0 = true := okDs_mem lo d0 (by simp)
      have om : ∀ x ∈ more, okD x = true := fun x hx => okDs_mem lo x (by simp [hx])
      refine ⟨fun _ => ?_, fun h => (by cases h)⟩
      refine vw_and1 (vt_val ?_)
      refine vd_isi C (T := "str") (by walk_at "at") (by walk_at "at") ?_
      walk_at "vv"
      refine ⟨d0, at0, ?_⟩
      rcases kit_str (ok_no o0) with ⟨kd, rfl, k3⟩ | ⟨k3, k4⟩
      · refine ⟨true, k3, true, rfl, ?_⟩
        refine ⟨fun h => (by cases h), fun _ => ?_⟩
        refine vss_nil ?_
        refine vss_cons (vs_star C (by walk_at "at") (by walk_at "at") ?_)
        walk_at "v"
        refine ⟨.str kd, more, rfl, ?_⟩
        show VSs X _ [.own p (.dt (nm ns)), .dat (.tuple (.str kd :: more)), .dat (.str kd), .dat (.list more)] _
        have e0 : toldD ns (.tuple (.str kd :: more)) = toldS ns kd more := rfl
        have lm : more.length ≤ 1000 := by
          rw [List.length_cons] at ll
          omega
        refine vss_cons (vs_if (vt_eqS ?_))
        walk_at "v"
        walk_at "v"
        refine ⟨_, _, rfl, rfl, ?_⟩
        refine ⟨fun h1 => ?_, fun h1 => ?_⟩
        · -- over
          have e1 : toldS ns kd more = moreOver ns more := by
            unfold toldS
            rw [if_pos (of_decide_eq_true h1)]
          walk_at "v"
          walk_at "v"
          refine vd_and (vd_cmp C ?_)
          refine vd_callB C (x := "len") does_len (by walk_at "at") ?_
          walk_at "vv"
          refine ⟨more, .inl rfl, ?_⟩
          walk_at "v"
          refine ⟨_, rfl, fun h => ?_, fun h => ⟨⟨rfl, trivial⟩, no (by rw [e0, e1]; exact over_no h)⟩⟩
          obtain ⟨x, y, z, rfl⟩ := len_three h
          have e2 : toldD ns (.tuple (.str kd :: [x, y, z])) = (breakerD ns x && (boundD y && isBoolD z)) := by rw [e0, e1]; rfl
          refine vd_and (vd_callX C FB (by walk_at "at") ?_)
          walk_at "brk"
          walk_at "vv"
          refine ⟨x, rfl, vx_nil ?_⟩
          refine ⟨rfl, ⟨⟨_, _, rfl⟩, trivial⟩, rfl, p, ns, x, rfl, om x (by simp), _, rfl, fun h2 => ?_, fun h2 => ⟨⟨rfl, trivial⟩, no (by rw [e2, h2, Bool.false_and])⟩⟩
          refine vd_and (vd_call C FO (by walk_at "at") ?_)
          walk_at "vv"
          refine ⟨y, rfl, ?_⟩
          walk_at "vv"
          refine ⟨rfl, y, rfl, om y (by simp), _, rfl, fun h3 => ?_, fun h3 => ⟨⟨rfl, trivial⟩, no (by rw [e2, h2, h3, Bool.true_and, Bool.false_and])⟩⟩
          refine vd_one (vd_isi C (T := "bool") (by walk_at "at") (by walk_at "at") ?_)
          walk_at "vv"
          refine ⟨z, rfl, isBoolD z, kit_bool (ok_no (om z (by simp))), ⟨rfl, trivial⟩, ?_⟩
          rw [e2, h2, h3, Bool.true_and, Bool.true_and] at w
          exact w
        · refine vss_nil ?_
          have n1 := of_decide_eq_false h1
          refine vss_cons (vs_if (vt_eqS ?_))
          walk_at "v"
          walk_at "v"
          refine ⟨_, _, rfl, rfl, ?_⟩
          refine ⟨fun h1 => ?_, fun h1 => ?_⟩
          · -- reach
            have e1 : toldS ns kd more = moreReach ns more := by
              unfold toldS
              rw [if_neg n1, if_pos (of_decide_eq_true h1)]
            walk_at "v"
            walk_at "v"
            refine vd_and (vd_cmp C ?_)
            refine vd_callB C (x := "len") does_len (by walk_at "at") ?_
            walk_at "vv"
            refine ⟨more, .inl rfl, ?_⟩
            walk_at "v"
            refine ⟨_, rfl, fun h => ?_, fun h => ⟨⟨rfl, trivial⟩, no (by rw [e0, e1]; exact reach_no h)⟩⟩
            obtain ⟨x, y, rfl⟩ := len_two h
            have e2 : toldD ns (.tuple (.str kd :: [x, y])) = (breakerD ns x && boundD y) := by rw [e0, e1]; rfl
            refine vd_and (vd_callX C FB (by walk_at "at") ?_)
            walk_at "brk"
            walk_at "vv"
            refine ⟨x, rfl, vx_nil ?_⟩
            refine ⟨rfl, ⟨⟨_, _, rfl⟩, trivial⟩, rfl, p, ns, x, rfl, om x (by simp), _, rfl, fun h2 => ?_, fun h2 => ⟨⟨rfl, trivial⟩, no (by rw [e2, h2, Bool.false_and])⟩⟩
            refine vd_one (vd_call C FO (by walk_at "at") ?_)
            walk_at "vv"
            refine ⟨y, rfl, ?_⟩
            walk_at "vv"
            refine ⟨rfl, y, rfl, om y (by simp), ⟨rfl, trivial⟩, ?_⟩
            rw [e2, h2, Bool.true_and] at w
            exact w
          · refine vss_nil ?_
            have n2 := of_decide_eq_false h1
            refine vss_cons (vs_if (vt_eqS ?_))
            walk_at "v"
            walk_at "v"
            refine ⟨_, _, rfl, rfl, ?_⟩
            refine ⟨fun h1 => ?_, fun h1 => ?_⟩
            · -- difference
              have e1 : toldS ns kd more = moreDiff ns more := by
                unfold toldS
                rw [if_neg n1, if_neg n2, if_pos (of_decide_eq_true h1)]
              walk_at "v"
              walk_at "v"
              refine vd_and (vd_cmp C ?_)
              refine vd_callB C (x := "len") does_len (by walk_at "at") ?_
              walk_at "vv"
              refine ⟨more, .inl rfl, ?_⟩
              walk_at "v"
              refine ⟨_, rfl, fun h => ?_, fun h => ⟨⟨rfl, trivial⟩, no (by rw [e0, e1]; exact diff_no h)⟩⟩
              obtain ⟨x, y, rfl⟩ := len_two h
              have e2 : toldD ns (.tuple (.str kd :: [x, y])) = (knownD ns ["bus", "line"] x && boundD y) := by rw [e0, e1]; rfl
              refine vd_and (vd_callV C FK (by walk_at "at") ?_)
              walk_at "brk"
              walk_at "vv"
              refine ⟨x, rfl, ?_⟩
              refine vx_cons (vd_str (vx_cons (vd_str (vx_nil ?_))))
              refine ⟨[.ow 0, .da x], [.str "bus", .str "line"], rfl, rfl, by decide, rfl, ⟨⟨_, _, rfl⟩, trivial⟩, rfl, p, ns, x, ["bus", "line"], rfl, om x (by simp), _, rfl, fun h2 => ?_, fun h2 => ⟨⟨rfl, trivial⟩, no (by rw [e2, h2, Bool.false_and])⟩⟩
              refine vd_one (vd_call C FO (by walk_at "at") ?_)
              walk_at "vv"
              refine ⟨y, rfl, ?_⟩
              walk_at "vv"
              refine ⟨rfl, y, rfl, om y (by simp), ⟨rfl, trivial⟩, ?_⟩
              rw [e2, h2, Bool.true_and] at w
              exact w
            · refine vss_nil ?_
              have n3 := of_decide_eq_false h1
              have e1 : toldS ns kd more = (decide (kd = "behind") && moreBehind ns more) := by
                unfold toldS
                rw [if_neg n1, if_neg n2, if_neg n3]
              walk_at "v"
              walk_at "v"
              refine vd_and (vd_eqS ?_)
              walk_at "v"
              walk_at "v"
              refine ⟨_, _, rfl, rfl, ?_⟩
              refine ⟨_, rfl, fun h4 => ?_, fun h4 => ⟨⟨rfl, trivial⟩, no (by rw [e0, e1, h4, Bool.false_and])⟩⟩
              refine vd_and (vd_cmp C ?_)
              refine vd_callB C (x := "len") does_len (by walk_at "at") ?_
              walk_at "vv"
              refine ⟨more, .inl rfl, ?_⟩
              walk_at "v"
              refine ⟨_, rfl, fun h => ?_, fun h => ⟨⟨rfl, trivial⟩, no (by rw [e0, e1, h4, Bool.true_and]; exact behind_no h)⟩⟩
              obtain ⟨x, rfl⟩ := len_one h
              refine vd_one (vd_callX C FB (by walk_at "at") ?_)
              walk_at "brk"
              walk_at "vv"
              refine ⟨x, rfl, vx_nil ?_⟩
              refine ⟨rfl, ⟨⟨_, _, rfl⟩, trivial⟩, rfl, p, ns, x, rfl, om x (by simp), ⟨rfl, trivial⟩, ?_⟩
              rw [e0, e1, h4, Bool.true_and] at w
              exact w
      · refine ⟨false, k3, false, rfl, ?_⟩
        refine ⟨fun _ => ?_, fun h => (by cases h)⟩
        walk_at "vv"
        exact ⟨⟨rfl, trivial⟩, no (told_no2 k4)⟩
  · refine ⟨false, k1, false, rfl, fun h => (by cases h), fun h => ⟨fun _ => ?_, fun h => (by cases h)⟩⟩
    walk_at "vv"
    exact ⟨⟨rfl, trivial⟩, no (told_no k2)⟩


open PySem PySem.Spec PyProof.Rows L2 Vc
/-! ### check_line, check_source -/
theorem isTup_four {d : D} (h : isTupD 4 d = true) : ∃ a b c e, d = .tuple [a, b, c, e] := by
  cases d with
  | tuple ds =>
    have := of_decide_eq_true h
    match ds, this with
    | [a, b, c, e], _ => exact ⟨a, b, c, e, rfl⟩
    | [], h => simp at h
    | [a], h => simp at h
    | [a, b], h => simp at h
    | [a, b, c], h => simp at h
    | a :: b :: c :: e :: f :: r, h => simp at h; omega
  | _ => cases h
theorem isTup_three {d : D} (h : isTupD 3 d = true) : ∃ a b c, d = .tuple [a, b, c] := by
  cases d with
  | tuple ds =>
    have := of_decide_eq_true h
    match ds, this with
    | [a, b, c], _ => exact ⟨a, b, c, rfl⟩
    | [], h => simp at h
    | [a], h => simp at h
    | [a, b], h => simp at h
    | a :: b :: c :: e :: r, h => simp at h; omega
  | _ => cases h
theorem addN_some {ns ns' : Nm} {k : Str} {d : D} (h : addN ns k d = some ns') : ∃ z, d = .str z ∧ ns' = ns ++ [(z, k)] ∧ nameS z = true ∧ kindOf ns z = none := by
  cases d with
  | str z =>
    have h' : (if nameS z = true ∧ kindOf ns z = none then some (ns ++ [(z, k)]) else none) = some ns' := h
    by_cases q : nameS z = true ∧ kindOf ns z = none
    · rw [if_pos q] at h'
      exact ⟨z, rfl, (Option.some.inj h').symm, q.1, q.2⟩
    · rw [if_neg q] at h'
      cases h'
  | _ => cases h
theorem known_str {ns : Nm} {ks : List Str} {d : D} (h : knownD ns ks d = true) : ∃ z, d = .str z := by
  cases d with
  | str z => exact ⟨z, rfl⟩
  | _ => cases h
def eqS : D → D → Bool
  | .str x, .str y => decide (x = y)
  | _, _ => false
def lineN (ns : Nm) : D → Option Nm
  | .tuple [n, a, b, r] => match addN ns "line" n with
    | some ns' => if (knownD ns' ["bus"] a && (knownD ns' ["bus"] b && (!eqS a b && wholeD 1 1000 r))) = true then some ns' else none
    | none => none
  | _ => none
theorem lineN_tup {ns : Nm} {d : D} (h : isTupD 4 d = false) : lineN ns d = none := by
  unfold lineN
  split
  · rename_i n a b r
    have q : isTupD 4 (.tuple [n, a, b, r]) = true := by
      show decide (((4 : Nat) : Int) = 4) = true
      decide
    rw [q] at h
    cases h
  · rfl
def SCheckN (CN : Addr) (g : Nm → D → Option Nm) : SX := fun as W WX => ∃ p ns d, as = [.own p (.dt (nm ns)), .dat d] ∧ okD d = true ∧ ns.length ≤ 900 ∧
  (∀ ns', g ns d = some ns' → W .none [.own p (.dt (nm ns')), .dat d]) ∧ (g ns d = none → ∀ ns', WX (.ref CN) [.own p (.dt (nm ns')), .dat d])
local macro_rules | `(tactic| walk_at "own") => `(tactic| (refine vx_own (by assumption) (by walk_at "at") rfl (vx_cons ?_)))
theorem fLineN {M : Md} {f CN GN fI : Addr} {fd : FuncData} {t1 : Tok} (T : NetTxt M.prog M.K M.mg CN GN fI) (mN : M.mg "MOST_NUMBER" = some (.int 1000 t1)) (FT : FnD M 1 "is_tuple" 2 SIsTupA) (FA : FnX M 2 "add_name" 3 (SAddN CN)) (FK : FnV M 1 "is_known" 2 SKnown) (FW : FnD M 2 "is_whole_number" 3 SWholeA)
    (F : Fun M.K "check_line" "check_line" sCheckLine f fd) (hm : M.mg "check_line" = some (.ref f)) (b : L2.Binds M.K fd ["names", "line"] []) : FnX M 3 "check_line" 2 (SCheckN CN lineN) := by
  refine fnX_mk (k := 2) (NK := nkCheckLine) (G := gCheckLine) F scCheckLine hm b rfl (by decide +kernel) rfl (by decide) fun X C as W WX hl hS => ?_
  obtain ⟨p, ns, d, rfl, ok, ln, w1, w2⟩ := hS
  show VSs X _ [.own p (.dt (nm ns)), .dat d, .no, .no, .no, .no] _
  refine vss_cons (vs_if (vt_not (vt_val ?_)))
  refine vd_call C FT (by walk_at "at") ?_
  walk_at "vv"
  refine ⟨rfl, d, 4, rfl, ok_no ok, _, rfl, ?_⟩
  refine ⟨fun h => ?_, fun h => ?_⟩
  · have h' : isTupD 4 d = false := by simpa using h
    refine vss_one (vs_raiseN C T (by walk_at "at") ?_)
    walk_at "vv"
    exact ⟨_, _, rfl, by decide, by decide, ⟨rfl, trivial⟩, w2 (lineN_tup h') ns⟩
  · have h' : isTupD 4 d = true := by simpa using h
    obtain ⟨n, a, b, r, rfl⟩ := isTup_four h'
    have lo := (ok_tup ok).2
    have on : okD n = true := okDs_mem lo n (by simp)
    have oa : okD a = true := okDs_mem lo a (by simp)
    have ob : okD b = true := okDs_mem lo b (by simp)
    have or : okD r = true := okDs_mem lo r (by simp)
    refine vss_nil ?_
    walk_at "v"
    refine vs_asg ?_
    walk_at "v"
    refine vg_tup C ?_
    walk_at "vv"
    show VS X _ [.own p (.dt (nm ns)), .dat (.tuple [n, a, b, r]), .dat n, .dat a, .dat b, .dat r] _
    refine vs_callX C FA (by walk_at "at") ?_
    walk_at "own"
    walk_at "v"
    refine vx_cons (vd_str (vx_nil ?_))
    refine ⟨rfl, ⟨⟨_, _, rfl⟩, trivial⟩, rfl, p, ns, n, "line", rfl, on, by omega, by decide, fun ns' hn => ?_, fun hn ns' => ?_⟩
    · obtain ⟨z, rfl, e', hz, _⟩ := addN_some hn
      have lz := ok_str on
      show VSs X _ [.own p (.dt (nm ns')), .dat (.tuple [.str z, a, b, r]), .dat (.str z), .dat a, .dat b, .dat r] _
      have bad : (knownD ns' ["bus"] a && (knownD ns' ["bus"] b && (!eqS a b && wholeD 1 1000 r))) = false → lineN ns (.tuple [.str z, a, b, r]) = none := fun q => by
        show (match addN ns "line" (.str z) with | some ns' => _ | none => none) = none
        rw [hn]
        show (if _ then _ else _) = none
        rw [q, if_neg Bool.false_ne_true]
      have good : (knownD ns' ["bus"] a && (knownD ns' ["bus"] b && (!eqS a b && wholeD 1 1000 r))) = true → lineN ns (.tuple [.str z, a, b, r]) = some ns' := fun q => by
        show (match addN ns "line" (.str z) with | some ns' => _ | none => none) = _
        rw [hn]
        show (if _ then _ else _) = _
        rw [q, if_pos rfl]
      refine vss_cons (vs_if (vt_not (vt_w (vw_and (vt_val ?_)))))
      refine vd_callV C FK (by walk_at "at") ?_
      walk_at "own"
      walk_at "v"
      refine vx_cons (vd_str (vx_nil ?_))
      refine ⟨[.ow 0, .da a], [.str "bus"], rfl, rfl, by decide, rfl, ⟨⟨_, _, rfl⟩, trivial⟩, rfl, p, ns', a, ["bus"], rfl, oa, _, rfl, fun h1 => ?_, fun h1 => ⟨fun _ => ?_, fun h => (by cases h)⟩⟩
      · refine vw_and1 (vt_val ?_)
        refine vd_callV C FK (by walk_at "at") ?_
        walk_at "own"
        walk_at "v"
        refine vx_cons (vd_str (vx_nil ?_))
        refine ⟨[.ow 0, .da b], [.str "bus"], rfl, rfl, by decide, rfl, ⟨⟨_, _, rfl⟩, trivial⟩, rfl, p, ns', b, ["bus"], rfl, ob, _, rfl, ?_⟩
        refine ⟨fun h2 => ?_, fun h2 => ?_⟩
        · have h2' : knownD ns' ["bus"] b = false := by simpa using h2
          refine vss_one (vs_raiseN C T (by walk_at "at") ?_)
          walk_at "vv"
          exact ⟨_, _, rfl, by omega, by decide, ⟨rfl, trivial⟩, w2 (bad (by rw [h1, h2']; rfl)) ns'⟩
        · have h2' : knownD ns' ["bus"] b = true := by simpa using h2
          obtain ⟨x, rfl⟩ := known_str h1
          obtain ⟨y, rfl⟩ := known_str h2'
          refine vss_nil ?_
          refine vss_cons (vs_if (vt_eqS ?_))
          walk_at "v"
          walk_at "v"
          refine ⟨x, y, rfl, rfl, fun h3 => ?_, fun h3 => ?_⟩
          · refine vss_one (vs_raiseN C T (by walk_at "at") ?_)
            walk_at "vv"
            exact ⟨_, _, rfl, by omega, by decide, ⟨rfl, trivial⟩, w2 (bad (by rw [h1, h2', show eqS (.str x) (.str y) = true from h3]; rfl)) ns'⟩
          · refine vss_nil ?_
            refine vss_cons (vs_if (vt_not (vt_val ?_)))
            refine vd_call C FW (by walk_at "at") ?_
            walk_at "vv"
            refine vd_gint C (by walk_at "at") mN ?_
            walk_at "vv"
            refine ⟨rfl, r, 1, 1000, rfl, ok_no or, _, rfl, ?_⟩
            refine ⟨fun h4 => ?_, fun h4 => ?_⟩
            · have h4' : wholeD 1 1000 r = false := by simpa using h4
              refine vss_one (vs_raiseN C T (by walk_at "at") ?_)
              walk_at "vv"
              exact ⟨_, _, rfl, by omega, by decide, ⟨rfl, trivial⟩, w2 (bad (by rw [h1, h2', show eqS (.str x) (.str y) = false from h3, h4']; rfl)) ns'⟩
            · have h4' : wholeD 1 1000 r = true := by simpa using h4
              refine vss_nil ?_
              walk_at "vv"
              exact ⟨⟨rfl, trivial⟩, w1 ns' (good (by rw [h1, h2', show eqS (.str x) (.str y) = false from h3, h4']; rfl))⟩
      · refine vss_one (vs_raiseN C T (by walk_at "at") ?_)
        walk_at "vv"
        exact ⟨_, _, rfl, by omega, by decide, ⟨rfl, trivial⟩, w2 (bad (by rw [h1]; rfl)) ns'⟩
    · refine ⟨⟨rfl, trivial⟩, w2 ?_ ns'⟩
      show (match addN ns "line" n with | some ns' => _ | none => none) = none
      rw [hn]


open PySem PySem.Spec PyProof.Rows L2 Vc
/-! ### check_source -/
def sourceN (ns : Nm) : D → Option Nm
  | .tuple [n, b, r] => match addN ns "source" n with
    | some ns' => if (knownD ns' ["bus"] b && wholeD 1 1000 r) = true then some ns' else none
    | none => none
  | _ => none
theorem sourceN_tup {ns : Nm} {d : D} (h : isTupD 3 d = false) : sourceN ns d = none := by
  unfold sourceN
  split
  · rename_i n b r
    have q : isTupD 3 (.tuple [n, b, r]) = true := by
      show decide (((3 : Nat) : Int) = 3) = true
      decide
    rw [q] at h
    cases h
  · rfl
theorem fSourceN {M : Md} {f CN GN fI : Addr} {fd : FuncData} {t1 : Tok} (T : NetTxt M.prog M.K M.mg CN GN fI) (mN : M.mg "MOST_NUMBER" = some (.int 1000 t1)) (FT : FnD M 1 "is_tuple" 2 SIsTupA) (FA : FnX M 2 "add_name" 3 (SAddN CN)) (FK : FnV M 1 "is_known" 2 SKnown) (FW : FnD M 2 "is_whole_number" 3 SWholeA)
    (F : Fun M.K "check_source" "check_source" sCheckSource f fd) (hm : M.mg "check_source" = some (.ref f)) (b : L2.Binds M.K fd ["names", "source"] []) : FnX M 3 "check_source" 2 (SCheckN CN sourceN) := by
  refine fnX_mk (k := 2) (NK := nkCheckSource) (G := gCheckSource) F scCheckSource hm b rfl (by decide +kernel) rfl (by decide) fun X C as W WX hl hS => ?_
  obtain ⟨p, ns, d, rfl, ok, ln, w1, w2⟩ := hS
  show VSs X _ [.own p (.dt (nm ns)), .dat d, .no, .no, .no] _
  refine vss_cons (vs_if (vt_not (vt_val ?_)))
  refine vd_call C FT (by walk_at "at") ?_
  walk_at "vv"
  refine ⟨rfl, d, 3, rfl, ok_no ok, _, rfl, ?_⟩
  refine ⟨fun h => ?_, fun h => ?_⟩
  · have h' : isTupD 3 d = false := by simpa using h
    refine vss_one (vs_raiseN C T (by walk_at "at") ?_)
    walk_at "vv"
    exact ⟨_, _, rfl, by decide, by decide, ⟨rfl, trivial⟩, w2 (sourceN_tup h') ns⟩
  · have h' : isTupD 3 d = true := by simpa using h
    obtain ⟨n, b, r, rfl⟩ := isTup_three h'
    have lo := (ok_tup ok).2
    have on : okD n = true := okDs_mem lo n (by simp)
    have ob : okD b = true := okDs_mem lo b (by simp)
    have or : okD r = true := okDs_mem lo r (by simp)
    refine vss_nil ?_
    walk_at "v"
    refine vs_asg ?_
    walk_at "v"
    refine vg_tup C ?_
    walk_at "vv"
    show VS X _ [.own p (.dt (nm ns)), .dat (.tuple [n, b, r]), .dat n, .dat b, .dat r] _
    refine vs_callX C FA (by walk_at "at") ?_
    walk_at "own"
    walk_at "v"
    refine vx_cons (vd_str (vx_nil ?_))
    refine ⟨rfl, ⟨⟨_, _, rfl⟩, trivial⟩, rfl, p, ns, n, "source", rfl, on, by omega, by decide, fun ns' hn => ?_, fun hn ns' => ?_⟩
    · obtain ⟨z, rfl, e', hz, _⟩ := addN_some hn
      have lz := ok_str on
      show VSs X _ [.own p (.dt (nm ns')), .dat (.tuple [.str z, b, r]), .dat (.str z), .dat b, .dat r] _
      have bad : (knownD ns' ["bus"] b && wholeD 1 1000 r) = false → sourceN ns (.tuple [.str z, b, r]) = none := fun q => by
        show (match addN ns "source" (.str z) with | some ns' => _ | none => none) = none
        rw [hn]
        show (if _ then _ else _) = none
        rw [q, if_neg Bool.false_ne_true]
      have good : (knownD ns' ["bus"] b && wholeD 1 1000 r) = true → sourceN ns (.tuple [.str z, b, r]) = some ns' := fun q => by
        show (match addN ns "source" (.str z) with | some ns' => _ | none => none) = _
        rw [hn]
        show (if _ then _ else _) = _
        rw [q, if_pos rfl]
      refine vss_cons (vs_if (vt_not (vt_val ?_)))
      refine vd_callV C FK (by walk_at "at") ?_
      walk_at "own"
      walk_at "v"
      refine vx_cons (vd_str (vx_nil ?_))
      refine ⟨[.ow 0, .da b], [.str "bus"], rfl, rfl, by decide, rfl, ⟨⟨_, _, rfl⟩, trivial⟩, rfl, p, ns', b, ["bus"], rfl, ob, _, rfl, ?_⟩
      refine ⟨fun h2 => ?_, fun h2 => ?_⟩
      · have h2' : knownD ns' ["bus"] b = false := by simpa using h2
        refine vss_one (vs_raiseN C T (by walk_at "at") ?_)
        walk_at "vv"
        exact ⟨_, _, rfl, by omega, by decide, ⟨rfl, trivial⟩, w2 (bad (by rw [h2']; rfl)) ns'⟩
      · have h2' : knownD ns' ["bus"] b = true := by simpa using h2
        refine vss_nil ?_
        refine vss_cons (vs_if (vt_not (vt_val ?_)))
        refine vd_call C FW (by walk_at "at") ?_
        walk_at "vv"
        refine vd_gint C (by walk_at "at") mN ?_
        walk_at "vv"
        refine ⟨rfl, r, 1, 1000, rfl, ok_no or, _, rfl, ?_⟩
        refine ⟨fun h4 => ?_, fun h4 => ?_⟩
        · have h4' : wholeD 1 1000 r = false := by simpa using h4
          refine vss_one (vs_raiseN C T (by walk_at "at") ?_)
          walk_at "vv"
          exact ⟨_, _, rfl, by omega, by decide, ⟨rfl, trivial⟩, w2 (bad (by rw [h2', h4']; rfl)) ns'⟩
        · have h4' : wholeD 1 1000 r = true := by simpa using h4
          refine vss_nil ?_
          walk_at "vv"
          exact ⟨⟨rfl, trivial⟩, w1 ns' (good (by rw [h2', h4']; rfl))⟩
    · refine ⟨⟨rfl, trivial⟩, w2 ?_ ns'⟩
      show (match addN ns "source" n with | some ns' => _ | none => none) = none
      rw [hn]


open PySem PySem.Spec PyProof.Rows L2 Vc
/-! ### check_rules, check_many -/
def errD (d : D) : Bool := match d with
  | .tuple [.int n, .int m] => fracD (.tuple [.int n, .int m]) && (decide (0 ≤ n) && (decide (n < m) && decide (m ≤ 1000)))
  | _ => false
theorem err_no {d : D} (h : fracD d = false) : errD d = false := by
  unfold errD
  split
  · rw [h, Bool.false_and]
  · rfl
def rulesD (d : D) : Bool := match d with
  | .tuple [e, .int l, m, t] => errD e && (wholeD 1 6 (.int l) && (wholeD l 6 m && wholeD 1 40 t))
  | _ => false
theorem rules_tup {d : D} (h : isTupD 4 d = false) : rulesD d = false := by
  unfold rulesD
  split
  · rename_i e l m t
    have q : isTupD 4 (.tuple [e, .int l, m, t]) = true := by
      show decide (((4 : Nat) : Int) = 4) = true
      decide
    rw [q] at h
    cases h
  · rfl
theorem rules_err {e l m t : D} (h : errD e = false) : rulesD (.tuple [e, l, m, t]) = false := by
  cases l with
  | int l =>
    show (errD e && _) = false
    rw [h, Bool.false_and]
  | _ => rfl
theorem rules_least {e l m t : D} (h : wholeD 1 6 l = false) : rulesD (.tuple [e, l, m, t]) = false := by
  cases l with
  | int l =>
    show (errD e && (wholeD 1 6 (.int l) && _)) = false
    rw [h, Bool.false_and, Bool.and_false]
  | _ => rfl
def SRules (CN : Addr) : SX := fun as W WX => ∃ d, as = [.dat d] ∧ okD d = true ∧ (rulesD d = true → W .none [.dat d]) ∧ (rulesD d = false → WX (.ref CN) [.dat d])
theorem fRules {M : Md} {f CN GN fI : Addr} {fd : FuncData} {t1 t2 t3 : Tok} (T : NetTxt M.prog M.K M.mg CN GN fI) (mN : M.mg "MOST_NUMBER" = some (.int 1000 t1)) (mA : M.mg "MOST_AGE" = some (.int 6 t2)) (mT : M.mg "MOST_TICKS" = some (.int 40 t3)) (FT : FnD M 1 "is_tuple" 2 SIsTupA) (FF : FnD M 2 "is_fraction" 1 (SOk1 fracD)) (FW : FnD M 2 "is_whole_number" 3 SWholeA)
    (F : Fun M.K "check_rules" "check_rules" sCheckRules f fd) (hm : M.mg "check_rules" = some (.ref f)) (b : L2.Binds M.K fd ["rules"] []) : FnX M 3 "check_rules" 1 (SRules CN) := by
  refine fnX_mk (k := 2) (NK := nkCheckRules) (G := gCheckRules) F scCheckRules hm b rfl (by decide +kernel) rfl (by decide) fun X C as W WX hl hS => ?_
  obtain ⟨d, rfl, ok, w1, w2⟩ := hS
  show VSs X _ [.dat d, .no, .no, .no, .no] _
  refine vss_cons (vs_if (vt_not (vt_val ?_)))
  refine vd_call C FT (by walk_at "at") ?_
  walk_at "vv"
  refine ⟨rfl, d, 4, rfl, ok_no ok, _, rfl, ?_⟩
  refine ⟨fun h => ?_, fun h => ?_⟩
  · have h' : isTupD 4 d = false := by simpa using h
    refine vss_one (vs_raiseN C T (by walk_at "at") ?_)
    walk_at "vv"
    exact ⟨_, _, rfl, by decide, by decide, trivial, w2 (rules_tup h')⟩
  · have h' : isTupD 4 d = true := by simpa using h
    obtain ⟨e, l, m, t, rfl⟩ := isTup_four h'
    have lo := (ok_tup ok).2
    have oe : okD e = true := okDs_mem lo e (by simp)
    have ol : okD l = true := okDs_mem lo l (by simp)
    have om : okD m = true := okDs_mem lo m (by simp)
    have ot : okD t = true := okDs_mem lo t (by simp)
    refine vss_nil ?_
    walk_at "v"
    refine vs_asg ?_
    walk_at "v"
    refine vg_tup C ?_
    walk_at "v"
    walk_at "v"
    walk_at "v"
    walk_at "v"
    walk_at "v"
    walk_at "v"
    walk_at "v"
    walk_at "v"
    walk_at "v"
    show VSs X _ [.dat (.tuple [e, l, m, t]), .dat e, .dat l, .dat m, .dat t] _
    refine vss_cons (vs_if (vt_not (vt_w (vw_and (vt_val ?_)))))
    refine vd_call C FF (by walk_at "at") ?_
    walk_at "vv"
    refine ⟨rfl, e, rfl, oe, _, rfl, fun h1 => ?_, fun h1 => ⟨fun _ => ?_, fun h => (by cases h)⟩⟩
    · obtain ⟨n, k, rfl⟩ := frac_shape h1
      have e0 : errD (.tuple [.int n, .int k]) = (decide (0 ≤ n) && (decide (n < k) && decide (k ≤ 1000))) := by
        show (fracD _ && _) = _
        rw [h1, Bool.true_and]
      refine vw_and1 (vt_chain3 C ?_)
      walk_at "vv"
      refine ⟨.int n, rfl, ?_⟩
      show _ ∧ _
      refine ⟨fun h2 => ?_, fun h2 => ⟨fun _ => ?_, fun h => (by cases h)⟩⟩
      · walk_at "vv"
        refine ⟨.int k, rfl, ?_⟩
        show _ ∧ _
        refine ⟨fun h3 => ?_, fun h3 => ⟨fun _ => ?_, fun h => (by cases h)⟩⟩
        · refine vd_gint C (by walk_at "at") mN ?_
          refine ⟨fun h4 => ?_, fun h4 => ?_⟩
          · have h4' : decide (k ≤ 1000) = false := by simpa using h4
            refine vss_one (vs_raiseN C T (by walk_at "at") ?_)
            walk_at "vv"
            exact ⟨_, _, rfl, by decide, by decide, trivial, w2 (rules_err (by rw [e0, h4', Bool.and_false, Bool.and_false]))⟩
          · have h4' : decide (k ≤ 1000) = true := by simpa using h4
            have eg : errD (.tuple [.int n, .int k]) = true := by rw [e0, h2, h3, h4']; rfl
            refine vss_nil ?_
            refine vss_cons (vs_if (vt_not (vt_w (vw_and (vt_val ?_)))))
            refine vd_call C FW (by walk_at "at") ?_
            walk_at "vv"
            refine vd_gint C (by walk_at "at") mA ?_
            walk_at "vv"
            refine ⟨rfl, l, 1, 6, rfl, ok_no ol, _, rfl, fun h5 => ?_, fun h5 => ⟨fun _ => ?_, fun h => (by cases h)⟩⟩
            · obtain ⟨i, rfl⟩ : ∃ i, l = .int i := by
                cases l with
                | int i => exact ⟨i, rfl⟩
                | _ => cases h5
              have e9 : rulesD (.tuple [.tuple [.int n, .int k], .int i, m, t]) = (wholeD i 6 m && wholeD 1 40 t) := by
                show (errD _ && (wholeD 1 6 (.int i) && _)) = _
                rw [eg, h5, Bool.true_and, Bool.true_and]
              refine vw_and1 (vt_val ?_)
              refine vd_call C FW (by walk_at "at") ?_
              walk_at "vv"
              refine vd_gint C (by walk_at "at") mA ?_
              walk_at "vv"
              refine ⟨rfl, m, i, 6, rfl, ok_no om, _, rfl, ?_⟩
              refine ⟨fun h6 => ?_, fun h6 => ?_⟩
              · have h6' : wholeD i 6 m = false := by simpa using h6
                refine vss_one (vs_raiseN C T (by walk_at "at") ?_)
                walk_at "vv"
                exact ⟨_, _, rfl, by decide, by decide, trivial, w2 (by rw [e9, h6', Bool.false_and])⟩
              · have h6' : wholeD i 6 m = true := by simpa using h6
                refine vss_nil ?_
                refine vss_cons (vs_if (vt_not (vt_val ?_)))
                refine vd_call C FW (by walk_at "at") ?_
                walk_at "vv"
                refine vd_gint C (by walk_at "at") mT ?_
                walk_at "vv"
                refine ⟨rfl, t, 1, 40, rfl, ok_no ot, _, rfl, ?_⟩
                refine ⟨fun h7 => ?_, fun h7 => ?_⟩
                · have h7' : wholeD 1 40 t = false := by simpa using h7
                  refine vss_one (vs_raiseN C T (by walk_at "at") ?_)
                  walk_at "vv"
                  exact ⟨_, _, rfl, by decide, by decide, trivial, w2 (by rw [e9, h7', Bool.and_false])⟩
                · have h7' : wholeD 1 40 t = true := by simpa using h7
                  refine vss_nil ?_
                  walk_at "vv"
                  exact ⟨trivial, w1 (by rw [e9, h6', h7']; rfl)⟩
            · refine vss_one (vs_raiseN C T (by walk_at "at") ?_)
              walk_at "vv"
              exact ⟨_, _, rfl, by decide, by decide, trivial, w2 (rules_least h5)⟩
        · refine vss_one (vs_raiseN C T (by walk_at "at") ?_)
          walk_at "vv"
          exact ⟨_, _, rfl, by decide, by decide, trivial, w2 (rules_err (by rw [e0, h3, Bool.false_and, Bool.and_false]))⟩
      · refine vss_one (vs_raiseN C T (by walk_at "at") ?_)
        walk_at "vv"
        exact ⟨_, _, rfl, by decide, by decide, trivial, w2 (rules_err (by rw [e0, h2, Bool.false_and]))⟩
    · refine vss_one (vs_raiseN C T (by walk_at "at") ?_)
      walk_at "vv"
      exact ⟨_, _, rfl, by decide, by decide, trivial, w2 (rules_err (err_no h1))⟩


open PySem PySem.Spec PyProof.Rows L2 Vc
/-! ### check_many, check_guard -/
def manyD (lo hi : Int) : D → Bool
  | .tuple ds => decide (lo ≤ (ds.length : Int)) && decide ((ds.length : Int) ≤ hi)
  | _ => false
theorem many_no {lo hi : Int} {d : D} (h : ∀ ds, d ≠ .tuple ds) : manyD lo hi d = false := by
  cases d with
  | tuple l => exact absurd rfl (h l)
  | _ => rfl
theorem few_len {i : Int} (h0 : 0 ≤ i) (h1 : i ≤ 16) : (Str.ofString (toString i)).length ≤ 2 ∧ i.natAbs.log2 < 1920 := by
  have e : ∀ n : _root_.Fin 17, (Str.ofString (toString ((n.val : Nat) : Int))).length ≤ 2 ∧ (((n.val : Nat) : Int)).natAbs.log2 < 1920 := by decide +kernel
  have := e ⟨i.toNat, by omega⟩
  have ei : ((i.toNat : Nat) : Int) = i := Int.toNat_of_nonneg h0
  simp only [ei] at this
  exact this
theorem vj_consL {X : Cx} {e : Expr} {es : List Expr} {acc : Str} {ρ : En} {PS : Str → En → Prop} {n : Nat} (m : Nat) (hn : acc.length ≤ n) (h : VD X e ρ fun d ρ1 => ∃ y : Str, d = .str y ∧ y.length ≤ m ∧ ∀ acc', acc'.length ≤ n + m → VJ X es acc' ρ1 PS) (hb : n + m ≤ 100000 := by decide) : VJ X (e :: es) acc ρ PS :=
  vj_cons (h.imp fun d ρ1 ⟨y, e1, e2, e3⟩ => ⟨y, e1, by rw [Str.length_append]; omega, e3 _ (by rw [Str.length_append]; omega)⟩)
def SMany (CN : Addr) : SX := fun as W WX => ∃ kd d lo hi, as = [.dat (.str kd), .dat d, .dat (.int lo), .dat (.int hi)] ∧ okD d = true ∧ kd.length ≤ 1000 ∧ 0 ≤ lo ∧ lo ≤ 16 ∧ 0 ≤ hi ∧ hi ≤ 16 ∧ (manyD lo hi d = true → W .none as) ∧ (manyD lo hi d = false → WX (.ref CN) as)
theorem fMany {M : Md} {f CN GN fI : Addr} {fd : FuncData} (T : NetTxt M.prog M.K M.mg CN GN fI) (ms : M.mg "isinstance" = none) (mt : M.mg "tuple" = none) (ml : M.mg "len" = none)
    (F : Fun M.K "check_many" "check_many" sCheckMany f fd) (hm : M.mg "check_many" = some (.ref f)) (b : L2.Binds M.K fd ["kind", "things", "least", "most"] []) : FnX M 1 "check_many" 4 (SMany CN) := by
  refine fnX_mk (k := 0) (NK := nkCheckMany) (G := gCheckMany) F scCheckMany hm b rfl (by decide +kernel) rfl (by decide) fun X C as W WX hl hS => ?_
  obtain ⟨kd, d, lo, hi, rfl, ok, lk, a0, a1, b0, b1, w1, w2⟩ := hS
  show VSs X _ [.dat (.str kd), .dat d, .dat (.int lo), .dat (.int hi)] _
  refine vss_cons (vs_if (vt_not (vt_val ?_)))
  refine vd_isi C (T := "tuple") (by walk_at "at") (by walk_at "at") ?_
  walk_at "v"
  rcases kit_tup (ok_no ok) with ⟨ds, rfl, k1⟩ | ⟨k1, k2⟩
  · refine ⟨true, k1, true, rfl, fun h => (by cases h), fun _ => ?_⟩
    refine vss_nil ?_
    refine vss_cons (vs_if (vt_not (vt_chain C ?_)))
    walk_at "v"
    refine vd_callB C (x := "len") does_len (by walk_at "at") ?_
    walk_at "vv"
    refine ⟨ds, .inr rfl, ?_⟩
    show _ ∧ _
    have e0 : manyD lo hi (.tuple ds) = (decide (lo ≤ (ds.length : Int)) && decide ((ds.length : Int) ≤ hi)) := rfl
    refine ⟨fun h1 => ?_, fun h1 => ⟨fun _ => ?_, fun h => (by cases h)⟩⟩
    · walk_at "v"
      refine ⟨fun h2 => ?_, fun h2 => ?_⟩
      · have h2' : decide ((ds.length : Int) ≤ hi) = false := by simpa using h2
        refine vss_one (vs_raiseN C T (by walk_at "at") ?_)
        refine va_cons ?_
        walk_at "v"
        refine va_cons (vd_fs ?_)
        refine vj_consL (n := 0) 4 (by decide) (vd_str ⟨_, rfl, by decide, fun c1 l1 => ?_⟩)
        refine vj_consL 2 l1 (vd_fmt ?_)
        walk_at "v"
        refine .inr ⟨lo, rfl, (few_len a0 a1).2, _, rfl, (few_len a0 a1).1, fun c2 l2 => ?_⟩
        refine vj_consL 4 l2 (vd_str ⟨_, rfl, by decide, fun c3 l3 => ?_⟩)
        refine vj_consL 2 l3 (vd_fmt ?_)
        walk_at "v"
        refine .inr ⟨hi, rfl, (few_len b0 b1).2, _, rfl, (few_len b0 b1).1, fun c4 l4 => ?_⟩
        refine vj_consL 8 l4 (vd_str ⟨_, rfl, by decide, fun c5 l5 => ?_⟩)
        refine vj_nil (va_nil ?_)
        exact ⟨_, _, rfl, by omega, by omega, trivial, w2 (by rw [e0, h2', Bool.and_false])⟩
      · have h2' : decide ((ds.length : Int) ≤ hi) = true := by simpa using h2
        refine vss_nil ?_
        walk_at "vv"
        exact ⟨trivial, w1 (by rw [e0, h1, h2']; rfl)⟩
    · refine vss_one (vs_raiseN C T (by walk_at "at") ?_)
      refine va_cons ?_
      walk_at "v"
      refine va_cons (vd_fs ?_)
      refine vj_consL (n := 0) 4 (by decide) (vd_str ⟨_, rfl, by decide, fun c1 l1 => ?_⟩)
      refine vj_consL 2 l1 (vd_fmt ?_)
      walk_at "v"
      refine .inr ⟨lo, rfl, (few_len a0 a1).2, _, rfl, (few_len a0 a1).1, fun c2 l2 => ?_⟩
      refine vj_consL 4 l2 (vd_str ⟨_, rfl, by decide, fun c3 l3 => ?_⟩)
      refine vj_consL 2 l3 (vd_fmt ?_)
      walk_at "v"
      refine .inr ⟨hi, rfl, (few_len b0 b1).2, _, rfl, (few_len b0 b1).1, fun c4 l4 => ?_⟩
      refine vj_consL 8 l4 (vd_str ⟨_, rfl, by decide, fun c5 l5 => ?_⟩)
      refine vj_nil (va_nil ?_)
      exact ⟨_, _, rfl, by omega, by omega, trivial, w2 (by rw [e0, h1, Bool.false_and])⟩
  · refine ⟨false, k1, false, rfl, fun _ => ?_, fun h => (by cases h)⟩
    refine vss_one (vs_raiseN C T (by walk_at "at") ?_)
    walk_at "vv"
    exact ⟨_, _, rfl, by omega, by decide, trivial, w2 (many_no k2)⟩


open PySem PySem.Spec PyProof.Rows L2 Vc
/-! ### check_guard -/
def asBr : D → Br
  | .tuple [.str x, .int e] => (x, e)
  | _ => ("", 0)
theorem breaker_br {ns : Nm} {d : D} (h : breakerD ns d = true) : d = brD (asBr d) := by
  unfold breakerD at h
  split at h
  · rename_i x e
    cases x with
    | str z => rfl
    | none => simp [knownD] at h
    | bool b => simp [knownD] at h
    | int i => simp [knownD] at h
    | list l => simp [knownD] at h
    | tuple l => simp [knownD] at h
    | dict l => simp [knownD] at h
  · cases h
theorem brs_br {ns : Nm} : ∀ {ds : List D}, ds.all (breakerD ns) = true → ds = (ds.map asBr).map brD
  | [], _ => rfl
  | d :: ds, h => by
    rw [List.all_cons, Bool.and_eq_true] at h
    rw [List.map_cons, List.map_cons, ← breaker_br h.1, ← brs_br h.2]
def opensD (ns : Nm) : D → Bool
  | .tuple ds => !ds.isEmpty && (ds.all (breakerD ns) && asc (ds.map asBr))
  | _ => false
theorem opens_no {ns : Nm} {d : D} (h : ∀ ds, d ≠ .tuple ds) : opensD ns d = false := by
  cases d with
  | tuple l => exact absurd rfl (h l)
  | _ => rfl
def guardN (ns : Nm) : D → Option Nm
  | .tuple [n, t, dl, o] => match addN ns "guard" n with
    | some ns' => if (toldD ns' t && (wholeD 0 20 dl && opensD ns' o)) = true then some ns' else none
    | none => none
  | _ => none
theorem guardN_tup {ns : Nm} {d : D} (h : isTupD 4 d = false) : guardN ns d = none := by
  unfold guardN
  split
  · rename_i n a b r
    have q : isTupD 4 (.tuple [n, a, b, r]) = true := by
      show decide (((4 : Nat) : Int) = 4) = true
      decide
    rw [q] at h
    cases h
  · rfl
theorem fGuardN {M : Md} {f CN GN fI : Addr} {fd : FuncData} {t1 : Tok} (T : NetTxt M.prog M.K M.mg CN GN fI) (ms : M.mg "isinstance" = none) (mt : M.mg "tuple" = none) (ma : M.mg "all" = none) (mD : M.mg "MOST_DELAY" = some (.int 20 t1)) (FT : FnD M 1 "is_tuple" 2 SIsTupA) (FA : FnX M 2 "add_name" 3 (SAddN CN)) (FO : FnX M 4 "is_told" 2 (SBreaker toldD)) (FW : FnD M 2 "is_whole_number" 3 SWholeA) (FB : FnX M 2 "is_breaker" 2 (SBreaker breakerD)) (FC : FnD M 1 "is_ascending" 1 SAsc)
    (F : Fun M.K "check_guard" "check_guard" sCheckGuard f fd) (hm : M.mg "check_guard" = some (.ref f)) (b : L2.Binds M.K fd ["names", "guard"] []) : FnX M 5 "check_guard" 2 (SCheckN CN guardN) := by
  refine fnX_mk (k := 4) (NK := nkCheckGuard) (G := gCheckGuard) F scCheckGuard hm b rfl (by decide +kernel) rfl (by decide) fun X C as W WX hl hS => ?_
  obtain ⟨p, ns, d, rfl, ok, ln, w1, w2⟩ := hS
  show VSs X _ [.own p (.dt (nm ns)), .dat d, .no, .no, .no, .no, .no] _
  refine vss_cons (vs_if (vt_not (vt_val ?_)))
  refine vd_call C FT (by walk_at "at") ?_
  walk_at "vv"
  refine ⟨rfl, d, 4, rfl, ok_no ok, _, rfl, ?_⟩
  refine ⟨fun h => ?_, fun h => ?_⟩
  · have h' : isTupD 4 d = false := by simpa using h
    refine vss_one (vs_raiseN C T (by walk_at "at") ?_)
    walk_at "vv"
    exact ⟨_, _, rfl, by decide, by decide, ⟨rfl, trivial⟩, w2 (guardN_tup h') ns⟩
  · have h' : isTupD 4 d = true := by simpa using h
    obtain ⟨n, t, dl, o, rfl⟩ := isTup_four h'
    have lo := (ok_tup ok).2
    have on : okD n = true := okDs_mem lo n (by simp)
    have ot : okD t = true := okDs_mem lo t (by simp)
    have odl : okD dl = true := okDs_mem lo dl (by simp)
    have oo : okD o = true := okDs_mem lo o (by simp)
    refine vss_nil ?_
    walk_at "v"
    refine vs_asg ?_
    walk_at "v"
    refine vg_tup C ?_
    walk_at "vv"
    show VS X _ [.own p (.dt (nm ns)), .dat (.tuple [n, t, dl, o]), .dat n, .dat t, .dat dl, .dat o, .no] _
    refine vs_callX C FA (by walk_at "at") ?_
    walk_at "own"
    walk_at "v"
    refine vx_cons (vd_str (vx_nil ?_))
    refine ⟨rfl, ⟨⟨_, _, rfl⟩, trivial⟩, rfl, p, ns, n, "guard", rfl, on, by omega, by decide, fun ns' hn => ?_, fun hn ns' => ?_⟩
    · obtain ⟨z, rfl, e', hz, _⟩ := addN_some hn
      have lz := ok_str on
      show VSs X _ [.own p (.dt (nm ns')), .dat (.tuple [.str z, t, dl, o]), .dat (.str z), .dat t, .dat dl, .dat o, .no] _
      have bad : (toldD ns' t && (wholeD 0 20 dl && opensD ns' o)) = false → guardN ns (.tuple [.str z, t, dl, o]) = none := fun q => by
        show (match addN ns "guard" (.str z) with | some ns' => _ | none => none) = none
        rw [hn]
        show (if _ then _ else _) = none
        rw [q, if_neg Bool.false_ne_true]
      have good : (toldD ns' t && (wholeD 0 20 dl && opensD ns' o)) = true → guardN ns (.tuple [.str z, t, dl, o]) = some ns' := fun q => by
        show (match addN ns "guard" (.str z) with | some ns' => _ | none => none) = _
        rw [hn]
        show (if _ then _ else _) = _
        rw [q, if_pos rfl]
      refine vss_cons (vs_if (vt_not (vt_val ?_)))
      refine vd_callX C FO (by walk_at "at") ?_
      walk_at "own"
      walk_at "v"
      refine vx_nil ?_
      refine ⟨rfl, ⟨⟨_, _, rfl⟩, trivial⟩, rfl, p, ns', t, rfl, ot, _, rfl, ?_⟩
      refine ⟨fun h1 => ?_, fun h1 => ?_⟩
      · have h1' : toldD ns' t = false := by simpa using h1
        refine vss_one (vs_raiseN C T (by walk_at "at") ?_)
        walk_at "vv"
        exact ⟨_, _, rfl, by omega, by decide, ⟨rfl, trivial⟩, w2 (bad (by rw [h1']; rfl)) ns'⟩
      · have h1' : toldD ns' t = true := by simpa using h1
        refine vss_nil ?_
        refine vss_cons (vs_if (vt_not (vt_val ?_)))
        refine vd_call C FW (by walk_at "at") ?_
        walk_at "vv"
        refine vd_gint C (by walk_at "at") mD ?_
        walk_at "vv"
        refine ⟨rfl, dl, 0, 20, rfl, ok_no odl, _, rfl, ?_⟩
        refine ⟨fun h2 => ?_, fun h2 => ?_⟩
        · have h2' : wholeD 0 20 dl = false := by simpa using h2
          refine vss_one (vs_raiseN C T (by walk_at "at") ?_)
          walk_at "vv"
          exact ⟨_, _, rfl, by omega, by decide, ⟨rfl, trivial⟩, w2 (bad (by rw [h1', h2']; rfl)) ns'⟩
        · have h2' : wholeD 0 20 dl = true := by simpa using h2
          have bad2 : opensD ns' o = false → guardN ns (.tuple [.str z, t, dl, o]) = none := fun q => bad (by rw [q, Bool.and_false, Bool.and_false])
          refine vss_nil ?_
          refine vss_cons (vs_if (vt_not (vt_w (vw_and (vt_val ?_)))))
          refine vd_isi C (T := "tuple") (by walk_at "at") (by walk_at "at") ?_
          walk_at "v"
          rcases kit_tup (ok_no oo) with ⟨ds, rfl, k1⟩ | ⟨k1, k2⟩
          · refine ⟨true, k1, true, rfl, fun _ => ?_, fun h => (by cases h)⟩
            obtain ⟨ld, ldo⟩ := ok_tup oo
            refine vw_and (vt_tup ?_)
            walk_at "v"
            refine ⟨ds, rfl, fun h3 => ?_, fun h3 => ⟨fun _ => ?_, fun h => (by cases h)⟩⟩
            · have e3 : opensD ns' (.tuple ds) = (ds.all (breakerD ns') && asc (ds.map asBr)) := by
                show (!ds.isEmpty && _) = _
                rw [h3, Bool.true_and]
              refine vw_and1 (vt_val ?_)
              refine vd_callB C (does_all C) (by walk_at "at") ?_
              refine va_cons (vn_vd ?_)
              refine vn_lc C nkCheckGuard0 gCheckGuard0 (i := 6) (by walk_at "at") ?_
              refine vi_tup ?_
              walk_at "v"
              refine ⟨ds, rfl, by omega, fun j acc ρ' => acc = ((ds.take j).map (breakerD ns')).map PyData.bool ∧ ρ' = [.own p (.dt (nm ns')), .dat (.tuple [.str z, t, dl, .tuple ds]), .dat (.str z), .dat t, .dat dl, .dat (.tuple ds), .no], ⟨rfl, rfl⟩, fun j d acc ρ' hj hW X' C' => ?_, fun acc ρ' hW => ?_⟩
              · obtain ⟨rfl, rfl⟩ := hW
                have od : okD d = true := okDs_mem ldo d (List.mem_of_getElem? hj)
                refine vd_callX C' FB (by walk_at "at") ?_
                walk_at "own"
                walk_at "v"
                refine vx_nil ?_
                refine ⟨rfl, ⟨⟨_, _, rfl⟩, trivial⟩, rfl, p, ns', d, rfl, od, ?_, rfl⟩
                rw [List.take_succ, hj, List.map_append, List.map_append]
                rfl
              · obtain ⟨rfl, rfl⟩ := hW
                refine va_nil ?_
                refine ⟨_, rfl, ?_⟩
                rw [List.take_length, List.all_map]
                refine ⟨_, rfl, ?_⟩
                have ea : (ds.all (id ∘ breakerD ns')) = ds.all (breakerD ns') := rfl
                rw [ea]
                refine ⟨fun h4 => ?_, fun h4 => ?_⟩
                · have h4' : ds.all (breakerD ns') = false := by simpa using h4
                  refine vss_one (vs_raiseN C T (by walk_at "at") ?_)
                  walk_at "vv"
                  exact ⟨_, _, rfl, by omega, by decide, ⟨rfl, trivial⟩, w2 (bad2 (by rw [e3, h4', Bool.false_and])) ns'⟩
                · have h4' : ds.all (breakerD ns') = true := by simpa using h4
                  have eb := brs_br h4'
                  have ne : ds.map asBr ≠ [] := fun q => by
                    rw [q] at eb
                    rw [eb] at h3
                    cases h3
                  refine vss_nil ?_
                  refine vss_cons (vs_if (vt_not (vt_val ?_)))
                  refine vd_call C FC (by walk_at "at") ?_
                  walk_at "vv"
                  refine ⟨rfl, ds.map asBr, by rw [← eb], ne, by rw [List.length_map]; exact ld, _, rfl, ?_⟩
                  refine ⟨fun h5 => ?_, fun h5 => ?_⟩
                  · have h5' : asc (ds.map asBr) = false := by simpa using h5
                    refine vss_one (vs_raiseN C T (by walk_at "at") ?_)
                    walk_at "vv"
                    exact ⟨_, _, rfl, by omega, by decide, ⟨rfl, trivial⟩, w2 (bad2 (by rw [e3, h5', Bool.and_false])) ns'⟩
                  · have h5' : asc (ds.map asBr) = true := by simpa using h5
                    refine vss_nil ?_
                    walk_at "vv"
                    exact ⟨⟨rfl, trivial⟩, w1 ns' (good (by rw [h1', h2', e3, h4', h5']; rfl))⟩
            · refine vss_one (vs_raiseN C T (by walk_at "at") ?_)
              walk_at "vv"
              refine ⟨_, _, rfl, by omega, by decide, ⟨rfl, trivial⟩, w2 (bad2 ?_) ns'⟩
              show (!ds.isEmpty && _) = false
              rw [h3, Bool.false_and]
          · refine ⟨false, k1, false, rfl, fun h => (by cases h), fun h => ⟨fun _ => ?_, fun h => (by cases h)⟩⟩
            refine vss_one (vs_raiseN C T (by walk_at "at") ?_)
            walk_at "vv"
            exact ⟨_, _, rfl, by omega, by decide, ⟨rfl, trivial⟩, w2 (bad2 (opens_no k2)) ns'⟩
    · refine ⟨⟨rfl, trivial⟩, w2 ?_ ns'⟩
      show (match addN ns "guard" n with | some ns' => _ | none => none) = none
      rw [hn]


open PySem PySem.Spec PyProof.Rows L2 Vc
/-! ### check_net, is_net -/
def allN (g : Nm → D → Option Nm) : Nm → List D → Option Nm
  | ns, [] => some ns
  | ns, d :: ds => match g ns d with
    | some ns' => allN g ns' ds
    | none => none
theorem allN_snoc {g : Nm → D → Option Nm} {d : D} : ∀ {ds : List D} {ns : Nm}, allN g ns (ds ++ [d]) = match allN g ns ds with
    | some ns' => g ns' d
    | none => none
  | [], ns => by
    show (match g ns d with | some ns' => some ns' | none => none) = g ns d
    cases g ns d <;> rfl
  | e :: ds, ns => by
    show (match g ns e with | some ns' => allN g ns' (ds ++ [d]) | none => none) = match (match g ns e with | some ns' => allN g ns' ds | none => none) with | some ns' => g ns' d | none => none
    cases g ns e with
    | none => rfl
    | some n1 => exact allN_snoc (ds := ds)
theorem allN_app {g : Nm → D → Option Nm} {es : List D} : ∀ {ds : List D} {ns : Nm}, allN g ns ds = none → allN g ns (ds ++ es) = none
  | [], ns, h => by cases h
  | e :: ds, ns, h => by
    have h' : (match g ns e with | some ns' => allN g ns' ds | none => none) = none := h
    show (match g ns e with | some ns' => allN g ns' (ds ++ es) | none => none) = none
    cases q : g ns e with
    | none => rfl
    | some n1 =>
      rw [q] at h'
      exact allN_app (ds := ds) h'
/-- g adds one name at most -/
def One (g : Nm → D → Option Nm) : Prop := ∀ ns d ns', g ns d = some ns' → ns'.length = ns.length + 1
theorem one_add (k : Str) : One fun ns d => addN ns k d := fun ns d ns' h => by
  obtain ⟨z, _, e, _⟩ := addN_some h
  rw [e, List.length_append]
  rfl
theorem one_line : One lineN := fun ns d ns' h => by
  unfold lineN at h
  split at h
  · split at h
    · rename_i n1 hn
      split at h
      · cases h
        exact one_add "line" _ _ _ hn
      · cases h
    · cases h
  · cases h
theorem one_source : One sourceN := fun ns d ns' h => by
  unfold sourceN at h
  split at h
  · split at h
    · rename_i n1 hn
      split at h
      · cases h
        exact one_add "source" _ _ _ hn
      · cases h
    · cases h
  · cases h
theorem one_guard : One guardN := fun ns d ns' h => by
  unfold guardN at h
  split at h
  · split at h
    · rename_i n1 hn
      split at h
      · cases h
        exact one_add "guard" _ _ _ hn
      · cases h
    · cases h
  · cases h
theorem allN_len {g : Nm → D → Option Nm} (o : One g) : ∀ {ds : List D} {ns ns' : Nm}, allN g ns ds = some ns' → ns'.length = ns.length + ds.length
  | [], ns, ns', h => by
    cases h
    rfl
  | e :: ds, ns, ns', h => by
    have h' : (match g ns e with | some ns' => allN g ns' ds | none => none) = some ns' := h
    cases q : g ns e with
    | none =>
      rw [q] at h'
      cases h'
    | some n1 =>
      rw [q] at h'
      have := allN_len o (ds := ds) h'
      have := o _ _ _ q
      rw [List.length_cons]
      omega
def itemsD : D → List D
  | .tuple ds => ds
  | _ => []
def busN (ns : Nm) (d : D) : Option Nm := addN ns "bus" d
theorem one_bus : One busN := one_add "bus"
/-- all names of a net, in their order; some: all of it is well -/
def namesN (b l s g : D) : Option Nm := match allN busN [] (itemsD b) with
  | none => none
  | some n1 => match allN lineN n1 (itemsD l) with
    | none => none
    | some n2 => match allN sourceN n2 (itemsD s) with
      | none => none
      | some n3 => allN guardN n3 (itemsD g)
def netD : D → Bool
  | .tuple [b, l, s, g, r] => manyD 1 6 b && (manyD 0 8 l && (manyD 1 3 s && (manyD 0 16 g && ((namesN b l s g).isSome && rulesD r))))
  | _ => false
theorem net_tup {d : D} (h : isTupD 5 d = false) : netD d = false := by
  unfold netD
  split
  · rename_i b l s g r
    have q : isTupD 5 (.tuple [b, l, s, g, r]) = true := by
      show decide (((5 : Nat) : Int) = 5) = true
      decide
    rw [q] at h
    cases h
  · rfl
theorem isTup_five {d : D} (h : isTupD 5 d = true) : ∃ a b c e f, d = .tuple [a, b, c, e, f] := by
  cases d with
  | tuple ds =>
    have := of_decide_eq_true h
    match ds, this with
    | [a, b, c, e, f], _ => exact ⟨a, b, c, e, f, rfl⟩
    | [], h => simp at h
    | [a], h => simp at h
    | [a, b], h => simp at h
    | [a, b, c], h => simp at h
    | [a, b, c, e], h => simp at h
    | a :: b :: c :: e :: f :: g :: r, h => simp at h; omega
  | _ => cases h
theorem many_tup {lo hi : Int} {d : D} (h : manyD lo hi d = true) : ∃ ds, d = .tuple ds ∧ (ds.length : Int) ≤ hi := by
  cases d with
  | tuple ds =>
    have h' : (decide (lo ≤ (ds.length : Int)) && decide ((ds.length : Int) ≤ hi)) = true := h
    rw [Bool.and_eq_true] at h'
    exact ⟨ds, rfl, of_decide_eq_true h'.2⟩
  | _ => cases h
def SNet (CN : Addr) : SX := fun as W WX => ∃ d, as = [.dat d] ∧ okD d = true ∧ (netD d = true → W .none [.dat d]) ∧ (netD d = false → WX (.ref CN) [.dat d])
theorem fCheckNet {M : Md} {f CN GN fI : Addr} {fd : FuncData} {t1 t2 t3 t4 : Tok} (T : NetTxt M.prog M.K M.mg CN GN fI) (mB : M.mg "MOST_BUSES" = some (.int 6 t1)) (mL : M.mg "MOST_LINES" = some (.int 8 t2)) (mS : M.mg "MOST_SOURCES" = some (.int 3 t3)) (mG : M.mg "MOST_GUARDS" = some (.int 16 t4))
    (FT : FnD M 1 "is_tuple" 2 SIsTupA) (FM : FnX M 1 "check_many" 4 (SMany CN)) (FA : FnX M 2 "add_name" 3 (SAddN CN)) (FL : FnX M 3 "check_line" 2 (SCheckN CN lineN)) (FS : FnX M 3 "check_source" 2 (SCheckN CN sourceN)) (FG : FnX M 5 "check_guard" 2 (SCheckN CN guardN)) (FR : FnX M 3 "check_rules" 1 (SRules CN))
    (F : Fun M.K "check_net" "check_net" sCheckNet f fd) (hm : M.mg "check_net" = some (.ref f)) (b : L2.Binds M.K fd ["net"] []) : FnX M 6 "check_net" 1 (SNet CN) := by
  refine fnX_mk (k := 5) (NK := nkCheckNet) (G := gCheckNet) F scCheckNet hm b rfl (by decide +kernel) rfl (by decide) fun X C as W WX hl hS => ?_
  obtain ⟨d, rfl, ok, w1, w2⟩ := hS
  show VSs X _ [.dat d, .no, .no, .no, .no, .no, .no, .no, .no, .no, .no] _
  refine vss_cons (vs_if (vt_not (vt_val ?_)))
  refine vd_call C FT (by walk_at "at") ?_
  walk_at "vv"
  refine ⟨rfl, d, 5, rfl, ok_no ok, _, rfl, ?_⟩
  refine ⟨fun h => ?_, fun h => ?_⟩
  · have h' : isTupD 5 d = false := by simpa using h
    refine vss_one (vs_raiseN C T (by walk_at "at") ?_)
    walk_at "vv"
    exact ⟨_, _, rfl, by decide, by decide, trivial, w2 (net_tup h')⟩
  · have h' : isTupD 5 d = true := by simpa using h
    obtain ⟨b, l, s, g, r, rfl⟩ := isTup_five h'
    have lo := (ok_tup ok).2
    have ob : okD b = true := okDs_mem lo b (by simp)
    have ol : okD l = true := okDs_mem lo l (by simp)
    have os : okD s = true := okDs_mem lo s (by simp)
    have og : okD g = true := okDs_mem lo g (by simp)
    have or : okD r = true := okDs_mem lo r (by simp)
    have e0 : netD (.tuple [b, l, s, g, r]) = (manyD 1 6 b && (manyD 0 8 l && (manyD 1 3 s && (manyD 0 16 g && ((namesN b l s g).isSome && rulesD r))))) := rfl
    refine vss_nil ?_
    walk_at "v"
    refine vs_asg ?_
    walk_at "v"
    refine vg_tup C ?_
    walk_at "v"
    walk_at "v"
    walk_at "v"
    walk_at "v"
    walk_at "v"
    walk_at "v"
    walk_at "v"
    walk_at "v"
    walk_at "v"
    walk_at "v"
    walk_at "v"
    refine vss_cons (vs_newDt (i := 6) C (by walk_at "at") ?_ fun p => ?_)
    · show 6 < 11
      decide
    show VSs X _ [.dat (.tuple [b, l, s, g, r]), .dat b, .dat l, .dat s, .dat g, .dat r, .own p (.dt (nm [])), .no, .no, .no, .no] _
    -- how many
    refine vss_cons (vs_callX C FM (by walk_at "at") ?_)
    refine vx_cons (vd_str (vx_cons ?_))
    walk_at "v"
    refine vx_cons (vd_int (vx_cons (vd_gint C (by walk_at "at") mB (vx_nil ?_))))
    refine ⟨rfl, trivial, rfl, "buses", b, 1, 6, rfl, ob, by decide, by decide, by decide, by decide, by decide, fun h1 => ?_, fun h1 => ⟨trivial, w2 (by rw [e0, h1, Bool.false_and])⟩⟩
    refine vss_cons (vs_callX C FM (by walk_at "at") ?_)
    refine vx_cons (vd_str (vx_cons ?_))
    walk_at "v"
    refine vx_cons (vd_int (vx_cons (vd_gint C (by walk_at "at") mL (vx_nil ?_))))
    refine ⟨rfl, trivial, rfl, "lines", l, 0, 8, rfl, ol, by decide, by decide, by decide, by decide, by decide, fun h2 => ?_, fun h2 => ⟨trivial, w2 (by rw [e0, h1, h2]; rfl)⟩⟩
    refine vss_cons (vs_callX C FM (by walk_at "at") ?_)
    refine vx_cons (vd_str (vx_cons ?_))
    walk_at "v"
    refine vx_cons (vd_int (vx_cons (vd_gint C (by walk_at "at") mS (vx_nil ?_))))
    refine ⟨rfl, trivial, rfl, "sources", s, 1, 3, rfl, os, by decide, by decide, by decide, by decide, by decide, fun h3 => ?_, fun h3 => ⟨trivial, w2 (by rw [e0, h1, h2, h3]; rfl)⟩⟩
    refine vss_cons (vs_callX C FM (by walk_at "at") ?_)
    refine vx_cons (vd_str (vx_cons ?_))
    walk_at "v"
    refine vx_cons (vd_int (vx_cons (vd_gint C (by walk_at "at") mG (vx_nil ?_))))
    refine ⟨rfl, trivial, rfl, "guards", g, 0, 16, rfl, og, by decide, by decide, by decide, by decide, by decide, fun h4 => ?_, fun h4 => ⟨trivial, w2 (by rw [e0, h1, h2, h3, h4]; rfl)⟩⟩
    obtain ⟨bs, rfl, lb⟩ := many_tup h1
    obtain ⟨ls, rfl, ll⟩ := many_tup h2
    obtain ⟨ss, rfl, ls'⟩ := many_tup h3
    obtain ⟨gs, rfl, lg⟩ := many_tup h4
    have e1 : netD (.tuple [.tuple bs, .tuple ls, .tuple ss, .tuple gs, r]) = ((namesN (.tuple bs) (.tuple ls) (.tuple ss) (.tuple gs)).isSome && rulesD r) := by
      rw [e0, h1, h2, h3, h4]
      rfl
    have badN : namesN (.tuple bs) (.tuple ls) (.tuple ss) (.tuple gs) = none → WX (.ref CN) [.dat (.tuple [.tuple bs, .tuple ls, .tuple ss, .tuple gs, r])] := fun q => w2 (by rw [e1, q]; rfl)
    have okb := (ok_tup ob).2
    have okl := (ok_tup ol).2
    have oks := (ok_tup os).2
    have okg := (ok_tup og).2
    show VSs X _ [.dat (.tuple [.tuple bs, .tuple ls, .tuple ss, .tuple gs, r]), .dat (.tuple bs), .dat (.tuple ls), .dat (.tuple ss), .dat (.tuple gs), .dat r, .own p (.dt (nm [])), .no, .no, .no, .no] _
    -- buses
    refine vss_cons (vs_for C ?_)
    refine vi_tup ?_
    walk_at "v"
    refine ⟨bs, rfl, fun j ρ' => ∃ n s7, allN busN [] (bs.take j) = some n ∧ ρ' = [.dat (.tuple [.tuple bs, .tuple ls, .tuple ss, .tuple gs, r]), .dat (.tuple bs), .dat (.tuple ls), .dat (.tuple ss), .dat (.tuple gs), .dat r, .own p (.dt (nm n)), s7, .no, .no, .no], ⟨[], _, rfl, rfl⟩, fun j d ρ' hj hW => ?_, fun ρ' hW => ?_⟩
    · obtain ⟨n, s7, hn, rfl⟩ := hW
      have od : okD d = true := okDs_mem okb d (List.mem_of_getElem? hj)
      have ln := allN_len one_bus hn
      rw [List.length_nil, List.length_take] at ln
      have step : allN busN [] (bs.take (j + 1)) = addN n "bus" d := by
        rw [List.take_succ, hj]
        show allN busN [] (bs.take j ++ [d]) = _
        rw [allN_snoc, hn]
        rfl
      refine vg_name C (by walk_at "at") ?_
      refine vss_one (vs_callX C FA (by walk_at "at") ?_)
      walk_at "own"
      walk_at "v"
      refine vx_cons (vd_str (vx_nil ?_))
      refine ⟨rfl, ⟨⟨_, _, rfl⟩, trivial⟩, rfl, p, n, d, "bus", rfl, od, by omega, by decide, fun ns' hn' => ⟨ns', _, step.trans hn', rfl⟩, fun hn' ns' => ⟨trivial, badN ?_⟩⟩
      have : allN busN [] bs = none := by
        rw [← List.take_append_drop (j + 1) bs]
        exact allN_app (step.trans hn')
      show (match allN busN [] bs with | none => none | some n1 => _) = none
      rw [this]
    obtain ⟨n1, s7, hn1, rfl⟩ := hW
    rw [List.take_length] at hn1
    have lb1 := allN_len one_bus hn1
    rw [List.length_nil] at lb1
    -- lines
    refine vss_cons (vs_for C ?_)
    refine vi_tup ?_
    walk_at "v"
    refine ⟨ls, rfl, fun j ρ' => ∃ n s8, allN lineN n1 (ls.take j) = some n ∧ ρ' = [.dat (.tuple [.tuple bs, .tuple ls, .tuple ss, .tuple gs, r]), .dat (.tuple bs), .dat (.tuple ls), .dat (.tuple ss), .dat (.tuple gs), .dat r, .own p (.dt (nm n)), s7, s8, .no, .no], ⟨n1, _, rfl, rfl⟩, fun j d ρ' hj hW => ?_, fun ρ' hW => ?_⟩
    · obtain ⟨n, s8, hn, rfl⟩ := hW
      have od : okD d = true := okDs_mem okl d (List.mem_of_getElem? hj)
      have ln := allN_len one_line hn
      rw [List.length_take] at ln
      have step : allN lineN n1 (ls.take (j + 1)) = lineN n d := by
        rw [List.take_succ, hj]
        show allN lineN n1 (ls.take j ++ [d]) = _
        rw [allN_snoc, hn]
      refine vg_name C (by walk_at "at") ?_
      refine vss_one (vs_callX C FL (by walk_at "at") ?_)
      walk_at "own"
      walk_at "v"
      refine vx_nil ?_
      refine ⟨rfl, ⟨⟨_, _, rfl⟩, trivial⟩, rfl, p, n, d, rfl, od, by omega, fun ns' hn' => ⟨ns', _, step.trans hn', rfl⟩, fun hn' ns' => ⟨trivial, badN ?_⟩⟩
      have : allN lineN n1 ls = none := by
        rw [← List.take_append_drop (j + 1) ls]
        exact allN_app (step.trans hn')
      show (match allN busN [] bs with | none => none | some n1 => _) = none
      rw [hn1]
      show (match allN lineN n1 ls with | none => none | some n2 => _) = none
      rw [this]
    obtain ⟨n2, s8, hn2, rfl⟩ := hW
    rw [List.take_length] at hn2
    have lb2 := allN_len one_line hn2
    -- sources
    refine vss_cons (vs_for C ?_)
    refine vi_tup ?_
    walk_at "v"
    refine ⟨ss, rfl, fun j ρ' => ∃ n s9, allN sourceN n2 (ss.take j) = some n ∧ ρ' = [.dat (.tuple [.tuple bs, .tuple ls, .tuple ss, .tuple gs, r]), .dat (.tuple bs), .dat (.tuple ls), .dat (.tuple ss), .dat (.tuple gs), .dat r, .own p (.dt (nm n)), s7, s8, s9, .no], ⟨n2, _, rfl, rfl⟩, fun j d ρ' hj hW => ?_, fun ρ' hW => ?_⟩
    · obtain ⟨n, s9, hn, rfl⟩ := hW
      have od : okD d = true := okDs_mem oks d (List.mem_of_getElem? hj)
      have ln := allN_len one_source hn
      rw [List.length_take] at ln
      have step : allN sourceN n2 (ss.take (j + 1)) = sourceN n d := by
        rw [List.take_succ, hj]
        show allN sourceN n2 (ss.take j ++ [d]) = _
        rw [allN_snoc, hn]
      refine vg_name C (by walk_at "at") ?_
      refine vss_one (vs_callX C FS (by walk_at "at") ?_)
      walk_at "own"
      walk_at "v"
      refine vx_nil ?_
      refine ⟨rfl, ⟨⟨_, _, rfl⟩, trivial⟩, rfl, p, n, d, rfl, od, by omega, fun ns' hn' => ⟨ns', _, step.trans hn', rfl⟩, fun hn' ns' => ⟨trivial, badN ?_⟩⟩
      have : allN sourceN n2 ss = none := by
        rw [← List.take_append_drop (j + 1) ss]
        exact allN_app (step.trans hn')
      show (match allN busN [] bs with | none => none | some n1 => _) = none
      rw [hn1]
      show (match allN lineN n1 ls with | none => none | some n2 => _) = none
      rw [hn2]
      show (match allN sourceN n2 ss with | none => none | some n3 => _) = none
      rw [this]
    obtain ⟨n3, s9, hn3, rfl⟩ := hW
    rw [List.take_length] at hn3
    have lb3 := allN_len one_source hn3
    have eN : namesN (.tuple bs) (.tuple ls) (.tuple ss) (.tuple gs) = allN guardN n3 gs := by
      show (match allN busN [] bs with | none => none | some n1 => _) = _
      rw [hn1]
      show (match allN lineN n1 ls with | none => none | some n2 => _) = _
      rw [hn2]
      show (match allN sourceN n2 ss with | none => none | some n3 => _) = _
      rw [hn3]
      rfl
    -- guards
    refine vss_cons (vs_for C ?_)
    refine vi_tup ?_
    walk_at "v"
    refine ⟨gs, rfl, fun j ρ' => ∃ n s10, allN guardN n3 (gs.take j) = some n ∧ ρ' = [.dat (.tuple [.tuple bs, .tuple ls, .tuple ss, .tuple gs, r]), .dat (.tuple bs), .dat (.tuple ls), .dat (.tuple ss), .dat (.tuple gs), .dat r, .own p (.dt (nm n)), s7, s8, s9, s10], ⟨n3, _, rfl, rfl⟩, fun j d ρ' hj hW => ?_, fun ρ' hW => ?_⟩
    · obtain ⟨n, s10, hn, rfl⟩ := hW
      have od : okD d = true := okDs_mem okg d (List.mem_of_getElem? hj)
      have ln := allN_len one_guard hn
      rw [List.length_take] at ln
      have step : allN guardN n3 (gs.take (j + 1)) = guardN n d := by
        rw [List.take_succ, hj]
        show allN guardN n3 (gs.take j ++ [d]) = _
        rw [allN_snoc, hn]
      refine vg_name C (by walk_at "at") ?_
      refine vss_one (vs_callX C FG (by walk_at "at") ?_)
      walk_at "own"
      walk_at "v"
      refine vx_nil ?_
      refine ⟨rfl, ⟨⟨_, _, rfl⟩, trivial⟩, rfl, p, n, d, rfl, od, by omega, fun ns' hn' => ⟨ns', _, step.trans hn', rfl⟩, fun hn' ns' => ⟨trivial, badN ?_⟩⟩
      rw [eN, ← List.take_append_drop (j + 1) gs]
      exact allN_app (step.trans hn')
    obtain ⟨n4, s10, hn4, rfl⟩ := hW
    rw [List.take_length] at hn4
    have e2 : netD (.tuple [.tuple bs, .tuple ls, .tuple ss, .tuple gs, r]) = rulesD r := by
      rw [e1, eN, hn4]
      exact Bool.true_and _
    refine vss_one (vs_callX C FR (by walk_at "at") ?_)
    refine vx_cons ?_
    walk_at "v"
    refine vx_nil ?_
    exact ⟨rfl, trivial, rfl, r, rfl, or, fun h => ⟨trivial, w1 (by rw [e2, h])⟩, fun h => ⟨trivial, w2 (by rw [e2, h])⟩⟩


open PySem PySem.Spec PyProof.Rows L2 Vc
/-! ### is_net -/
theorem fnX_mkT {M : Md} {x : Str} {st : Stmt} {f : Addr} {fd : FuncData} {N ps : List Str} {NK : List (Str × Bool × Bool)} {G : List Str} {k n : Nat} {S : SX} (F : Fun M.K x x st f fd) (Sc : FnScope N ps (defScope st)) (hm : M.mg x = some (.ref f)) (b : Binds M.K fd ps []) (hN : N = NK.map (·.1)) (hc : chk (defScope st) true NK G = true) (hn : ps.length = n) (hnN : n ≤ N.length)
    (body : ∀ X, Cst X M (defScope st) NK G k → Top X → ∀ as W WX, as.length = n → S as W WX → VSs X (defBody st) (as ++ List.replicate (N.length - n) Sl.no) (finX as W WX)) : FnX M (k + 1) x n S :=
  ⟨f, fd, ps, fnX_mkT0 Top ⟨rfl, rfl⟩ ⟨rfl, rfl⟩ F Sc hN hc hn hnN body, hm, F.kp, b⟩
def SIsNet : SX := fun as W WX => ∃ d, as = [.dat d] ∧ okD d = true ∧ W (.bool (netD d)) [.dat d]
theorem fIsNet {M : Md} {f CN GN fI : Addr} {fd : FuncData} (T : NetTxt M.prog M.K M.mg CN GN fI) (FC : FnX M 6 "check_net" 1 (SNet CN))
    (F : Fun M.K "is_net" "is_net" sIsNet f fd) (hm : M.mg "is_net" = some (.ref f)) (b : L2.Binds M.K fd ["thing"] []) : FnX M 7 "is_net" 1 SIsNet := by
  refine fnX_mkT (k := 6) (NK := nkIsNet) (G := gIsNet) F scIsNet hm b rfl (by decide +kernel) rfl (by decide) fun X C tp as W WX hl hS => ?_
  obtain ⟨d, rfl, ok, w⟩ := hS
  show VSs X _ [.dat d] _
  refine vss_cons (vs_try (x := "BadNet") (c := .ref CN) C tp ⟨C.g (i := 1) (by walk_at "at"), by decide, .inl (C.mg T.gC)⟩ fun X' C' => ?_)
  refine vss_one (vs_callX C' FC (by walk_at "at") ?_)
  refine vx_cons ?_
  walk_at "v"
  refine vx_nil ?_
  refine ⟨rfl, trivial, rfl, d, rfl, ok, fun h => ?_, fun h => ?_⟩
  · refine vss_one (vs_ret (vd_bool ?_))
    rw [h] at w
    exact ⟨trivial, w⟩
  · refine ⟨true, T.te, fun _ X'' _ => ?_, fun h => (by cases h)⟩
    refine vss_one (vs_ret (vd_bool ?_))
    rw [h] at w
    exact ⟨trivial, w⟩

end K5

/-! Vc, part Y: tuple(a list), str(a number), texts joined. -/
namespace Vc
open PySem PySem.Spec PyProof.Rows L2
open Evl (Ex)
section
variable {X : Cx} {M : Md} {sc : Scope} {NK : List (Str × Bool × Bool)} {G : List Str} {k : Nat} {ρ : En} {P : D → En → Prop} {pos : Pos} {a b : Expr}
theorem does_tupleL : Does X (.type "tuple") (fun ds W => ∃ es, ds = [.list es] ∧ W (.tuple es)) := fun B H vs ds W Q e h s q => by
  obtain ⟨es, rfl, w⟩ := s
  cases h with
  | cons h1 h2 =>
    cases h2
    obtain ⟨t, ys, rfl, hT, hy⟩ := dp_lst h1
    refine CallR.sem call_tuple_of ⟨t, ys, rfl, .inl ⟨ex_l e hT, fun l hl => ?_⟩⟩
    have bl : B l = none := by
      cases z : B l with
      | none => rfl
      | some u =>
        rw [e l u z] at hl
        cases hl
    have eB : Ex B (upd B l (.tup ys)) := Evl.Ex.new bl
    refine q _ _ (upd B l (.tup ys)) (upd H l (.tup ys)) w (.tup (.inl (.inl upd_same)) (DpAll.mono eB hy)) eB (fun c u hc => ?_) (Evl.Ex.new hl) fun c hc hb => ?_
    · by_cases z : c = l
      · rw [z, upd_same] at hc ⊢
        exact hc
      · rw [upd_ne z] at hc ⊢
        exact e c u hc
    · rw [upd_ne (fun z => hc (by rw [z]; exact hl))]
      exact hb
theorem does_strI : Does X (.type "str") (fun ds W => ∃ i : Int, ds = [.int i] ∧ i.natAbs.log2 < 1920 ∧ W (.str (toString i))) := fun B H vs ds W Q e h s q => by
  obtain ⟨i, rfl, hi, w⟩ := s
  cases h with
  | cons h1 h2 =>
    cases h2
    exact CallR.sem call_str_int ⟨i, by rw [dp_int h1], hi, q _ _ B H w (.str _) (Ex.refl B) e (Ex.refl H) fun _ _ b => b⟩
/-- a + b, texts -/
theorem vd_addS (h : VD X a ρ fun x ρ1 => VD X b ρ1 fun y ρ2 => ∃ z w : Str, x = .str z ∧ y = .str w ∧ z.length + w.length ≤ 100000 ∧ P (.str (z ++ w)) ρ2) : VD X (.BinOp a .Add b pos) ρ P := VD.mk fun B H σ Q r q => by
  refine PE.sem (pe_op op_add_str pe_sem pe_sem) ?_
  refine h.run B H σ _ r fun vx x B1 H1 ρ1 p1 dx g1 r1 => ?_
  refine p1.run B1 H1 σ _ r1 fun vy y B2 H2 ρ2 p2 dy g2 r2 => ?_
  obtain ⟨z, w, rfl, rfl, hl, pp⟩ := p2
  have sl := sizeLine_eq
  exact ⟨z, w, dp_str dx, dp_str dy, by omega, q _ _ B2 H2 ρ2 pp (.str _) (g1.trans g2) r2⟩
end
end Vc

namespace K5
open PySem PySem.Spec PyProof.Rows L2 Vc
local macro_rules | `(tactic| walk_at "at") => `(tactic| (repeat (first | with_reducible exact At.here | apply At.there)))
local macro_rules | `(tactic| walk_at "v") => `(tactic| first
  | refine vd_bin ?_
  | (refine vd_name (by assumption) (by walk_at "at") rfl ?_)
  | refine vd_int ?_
  | refine vd_bool ?_
  | refine vd_none ?_
  | refine vd_str ?_
  | refine vd_if ?_
  | (refine vd_neg ?_)
  | refine vd_tup ?_
  | refine va_nil ?_
  | refine va_cons ?_
  | refine vs_ret ?_
  | refine vss_nil ?_
  | refine vss_one ?_
  | refine vss_cons ?_
  | refine vs_if ?_
  | refine vt_cmp (by assumption) ?_
  | refine vs_set (by assumption) (by walk_at "at") ?_
  | refine vd_cmp (by assumption) ?_
  | refine vgs_nil ?_
  | refine vgs_cons ?_
  | refine vg_name (by assumption) (by walk_at "at") ?_
  | (refine vd_callT (x := "int") (by assumption) does_int (by walk_at "at") ?_)
  | (refine vd_callB (x := "len") (by assumption) does_len (by walk_at "at") ?_)
  | (refine vd_callB (x := "abs") (by assumption) does_abs (by walk_at "at") ?_)
  | (refine vd_ixo (by assumption) (by walk_at "at") rfl ?_)
  | refine vd_ix ?_)
local macro_rules | `(tactic| walk_at "sw") => `(tactic| (intro env h; cases env; dsimp only at h; subst h; rfl))
local macro_rules | `(tactic| walk_at "vv") => `(tactic| repeat (walk_at "v"))
/-! ### a cell of the script -/
def SCell : List D → (D → Prop) → Prop := fun ds W => ∃ (ns : List Int) (j : Nat), ds = [.list (ns.map PyData.int), .int (j : Int)] ∧ W (.int (ns.getD j 0))
theorem fCell {M : Md} [Cold M] {f : Addr} {fd : FuncData} (ml : M.mg "len" = none) (F : Fun M.K "_law_cell_at" "_law_cell_at" sLCellAt f fd) (hm : M.mg "_law_cell_at" = some (.ref f)) (b : L2.Binds M.K fd ["script", "k"] []) : FnD M 1 "_law_cell_at" 2 SCell := by
  refine fnD_mk (k := 0) (NK := nkLCellAt) (G := gLCellAt) F scLCellAt hm b rfl (by decide +kernel) rfl (by decide) fun X C ds W hl hS => ?_
  obtain ⟨ns, j, rfl, w⟩ := hS
  show VSs X _ [.dat (.list (ns.map PyData.int)), .dat (.int (j : Int))] _
  walk_at "v"
  walk_at "v"
  walk_at "v"
  walk_at "v"
  refine vd_callB C does_len (by walk_at "at") ?_
  walk_at "v"
  walk_at "v"
  walk_at "v"
  refine ⟨_, .inl rfl, ?_⟩
  refine ⟨fun h => ?_, fun h => ?_⟩
  · have h := of_decide_eq_true h
    rw [List.length_map] at h
    have h : j < ns.length := by omega
    walk_at "v"
    walk_at "v"
    walk_at "v"
    walk_at "v"
    walk_at "v"
    refine ⟨.int ns[j], ?_, ?_⟩
    · refine atI_nat ?_
      rw [List.getElem?_map, List.getElem?_eq_getElem h]
      rfl
    · rw [List.getD_eq_getElem?_getD, List.getElem?_eq_getElem h] at w
      exact w
  · have h := of_decide_eq_false h
    rw [List.length_map] at h
    walk_at "v"
    walk_at "v"
    walk_at "v"
    walk_at "v"
    rw [List.getD_eq_getElem?_getD, List.getElem?_eq_none (by omega)] at w
    exact w

/-! ### a draw -/
theorem mulW {i j : Int} (h1 : i.natAbs < 2 ^ 1000) (h2 : j.natAbs < 2 ^ 1000) : CMulW i j := wide_mul h1 h2 (by decide) (by decide) (by decide)
theorem mulW64 {i j : Int} (h1 : i.natAbs < 2 ^ 64) (h2 : j.natAbs < 2 ^ 64) : CMulW i j := wide_mul h1 h2 (by decide) (by decide) (by decide)
theorem divW {i j : Int} (h0 : 0 < j) (h2 : j.natAbs < 2 ^ 1000) : CDivW i j := ⟨h0, Nat.lt_of_lt_of_le (PySem.Flt.log2_lt_of (by decide) h2) (by decide)⟩
theorem divW64 {i j : Int} (h0 : 0 < j) (h2 : j.natAbs < 2 ^ 64) : CDivW i j := ⟨h0, Nat.lt_of_lt_of_le (PySem.Flt.log2_lt_of (by decide) h2) (by decide)⟩
def SDraw : List D → (D → Prop) → Prop := fun ds W => ∃ cell j bound : Int, ds = [.int cell, .int j, .int bound] ∧ cell.natAbs < 2 ^ 64 ∧ j.natAbs < 2 ^ 64 ∧ 0 < bound ∧ ∀ r, 0 ≤ r → r < bound → W (.int r)
theorem primes_at {n : Int} (h0 : 0 ≤ n) (h1 : n < 16) : ∃ p : Int, 0 < p ∧ atI [PyData.int 1000003, .int 1000033, .int 1000037, .int 1000039, .int 1000081, .int 1000099, .int 1000117, .int 1000121, .int 1000133, .int 1000151, .int 1000159, .int 1000171, .int 1000183, .int 1000187, .int 1000193, .int 1000199] n = some (.int p) := by
  have h : n = 0 ∨ n = 1 ∨ n = 2 ∨ n = 3 ∨ n = 4 ∨ n = 5 ∨ n = 6 ∨ n = 7 ∨ n = 8 ∨ n = 9 ∨ n = 10 ∨ n = 11 ∨ n = 12 ∨ n = 13 ∨ n = 14 ∨ n = 15 := by omega
  rcases h with h | h | h | h | h | h | h | h | h | h | h | h | h | h | h | h <;> (subst h; exact ⟨_, by decide, rfl⟩)
theorem fDraw {M : Md} [Cold M] {f : Addr} {fd : FuncData} (mi : M.mg "int" = none) (F : Fun M.K "_law_draw" "_law_draw" sLDraw f fd) (hm : M.mg "_law_draw" = some (.ref f)) (b : L2.Binds M.K fd ["cell", "k", "bound"] []) : FnD M 1 "_law_draw" 3 SDraw := by
  refine fnD_mk (k := 0) (NK := nkLDraw) (G := gLDraw) F scLDraw hm b rfl (by decide +kernel) rfl (by decide) fun X C ds W hl hS => ?_
  obtain ⟨cell, j, bound, rfl, h1, h2, h3, w⟩ := hS
  show VSs X _ [.dat (.int cell), .dat (.int j), .dat (.int bound), .no] _
  walk_at "vv"
  refine ⟨by decide, ?_⟩
  walk_at "vv"
  refine ⟨mulW64 h1 (by decide), ?_⟩
  walk_at "vv"
  refine ⟨mulW64 h2 (by decide), ?_⟩
  walk_at "vv"
  refine ⟨_, rfl, ?_⟩
  walk_at "vv"
  refine ⟨_, rfl, ?_⟩
  walk_at "vv"
  refine ⟨by decide, ?_⟩
  obtain ⟨p, hp, e⟩ := primes_at (n := j % 16) (Int.emod_nonneg _ (by decide)) (Int.emod_lt_of_pos _ (by decide))
  refine ⟨_, e, ?_⟩
  refine ⟨hp, ?_⟩
  walk_at "vv"
  exact ⟨h3, w _ (Int.emod_nonneg _ (by omega)) (Int.emod_lt_of_pos _ h3)⟩
/-! ### a number -/
def SNumber : List D → (D → Prop) → Prop := fun ds W => ∃ cell j bound : Int, ds = [.int cell, .int j, .int bound] ∧ 0 ≤ j ∧ j ≤ 1000 ∧ 0 < bound ∧ ∀ r, 0 ≤ r → r < bound → W (.int r)
theorem pw_pos (i : Nat) : (0 : Int) < 1009 ^ i := Int.pow_pos (by decide)
theorem pw_small {i : Nat} (h : i ≤ 24) : ((1009 : Int) ^ i).natAbs < 2 ^ 1000 := by
  rw [Int.natAbs_pow]
  exact Nat.lt_of_le_of_lt (Nat.pow_le_pow_right (by decide) h) (by decide +kernel)
theorem fNumber {M : Md} [Cold M] {f : Addr} {fd : FuncData} (mi : M.mg "int" = none) (mr : M.mg "range" = none) (FD : FnD M 1 "_law_draw" 3 SDraw) (F : Fun M.K "_law_number" "_law_number" sLNumber f fd) (hm : M.mg "_law_number" = some (.ref f)) (b : L2.Binds M.K fd ["cell", "k", "bound"] []) : FnD M 2 "_law_number" 3 SNumber := by
  refine fnD_mk (k := 1) (NK := nkLNumber) (G := gLNumber) F scLNumber hm b rfl (by decide +kernel) rfl (by decide) fun X C ds W hl hS => ?_
  obtain ⟨cell, j, bound, rfl, h1, h2, h3, w⟩ := hS
  show VSs X _ [.dat (.int cell), .dat (.int j), .dat (.int bound), .no, .no, .no, .no] _
  walk_at "vv"
  refine vs_for C (vi_range C (by walk_at "at") ?_)
  walk_at "vv"
  refine ⟨_, rfl, ?_⟩
  walk_at "vv"
  refine ⟨by decide, ?_⟩
  refine ⟨(j % 24).toNat, by rw [Int.toNat_of_nonneg (Int.emod_nonneg _ (by decide))], by omega, ?_⟩
  refine ⟨fun i ρ' => ∃ s, ρ' = [.dat (.int cell), .dat (.int j), .dat (.int bound), .dat (.int (1009 ^ i)), s, .no, .no], ⟨_, rfl⟩, fun i d ρ' hi hW => ?_, fun ρ' hW => ?_⟩
  · obtain ⟨s, rfl⟩ := hW
    have hi2 : i < (j % 24).toNat := by
      have := (List.getElem?_eq_some_iff.mp hi).1
      rw [List.length_map, List.length_range] at this
      exact this
    have hi3 : i ≤ 24 := by omega
    walk_at "vv"
    refine ⟨mulW (pw_small hi3) (by decide +kernel), ?_⟩
    exact ⟨_, rfl⟩
  · obtain ⟨s, rfl⟩ := hW
    have hp : (j % 24).toNat ≤ 24 := by omega
    rw [List.length_map, List.length_range]
    walk_at "vv"
    refine ⟨⟨by decide, by decide, by decide⟩, ?_⟩
    walk_at "vv"
    refine ⟨divW (pw_pos _) (pw_small hp), ?_⟩
    walk_at "vv"
    refine ⟨fun h => ?_, fun h => ?_⟩
    · walk_at "vv"
      refine ⟨_, rfl, ?_⟩
      walk_at "vv"
      refine ⟨by decide, ?_⟩
      walk_at "vv"
      exact ⟨h3, w _ (Int.emod_nonneg _ (by omega)) (Int.emod_lt_of_pos _ h3)⟩
    · have q0 := Int.emod_nonneg cell (show (1000003 : Int) ≠ 0 by decide)
      have q1 := Int.emod_lt_of_pos cell (show (0 : Int) < 1000003 by decide)
      walk_at "vv"
      refine ⟨_, rfl, ?_⟩
      walk_at "vv"
      refine ⟨by decide, ?_⟩
      walk_at "vv"
      refine vd_call C FD (by walk_at "at") ?_
      walk_at "vv"
      refine ⟨mulW64 (by decide) (by omega), ?_⟩
      walk_at "vv"
      refine ⟨mulW64 (by decide) (by omega), ?_⟩
      walk_at "vv"
      refine ⟨mulW64 (by omega) (by omega), ?_⟩
      walk_at "vv"
      refine ⟨_, rfl, ?_⟩
      walk_at "vv"
      refine ⟨by decide, ?_⟩
      walk_at "vv"
      refine ⟨rfl, _, _, _, rfl, ?_, by omega, by decide, fun r r0 r1 => ?_⟩
      · rw [Int.natAbs_mul]
        exact Nat.lt_of_le_of_lt (Nat.mul_le_mul (show _ ≤ 2 ^ 31 by omega) (show _ ≤ 2 ^ 31 by omega)) (by decide)
      · walk_at "vv"
        exact ⟨h3, w _ (Int.emod_nonneg _ (by omega)) (Int.emod_lt_of_pos _ h3)⟩
/-! ### the next draw -/
/-- what stands in the list of draws: the script, 0, how many were drawn -/
def drw (ns : List Int) (c : Nat) : List D := [.list (ns.map PyData.int), .int 0, .int (c : Int)]
def SNext : List D → List D → (D → List D → Prop) → Prop := fun cs ds W => ∃ (ns : List Int) (c : Nat) (bound : Int), cs = drw ns c ∧ ds = [.int bound] ∧ c ≤ 1000000 ∧ 0 < bound ∧ ∀ r, 0 ≤ r → r < bound → W (.int r) (drw ns (c + 1))
theorem fNext {M : Md} [Cold M] {f : Addr} {fd : FuncData} (mi : M.mg "int" = none) (FC : FnD M 1 "_law_cell_at" 2 SCell) (FN : FnD M 2 "_law_number" 3 SNumber) (F : Fun M.K "_law_next" "_law_next" sLNext f fd) (hm : M.mg "_law_next" = some (.ref f)) (b : L2.Binds M.K fd ["draw", "bound"] []) : FnM M 3 "_law_next" 1 SNext := by
  refine fnM_mk (k := 2) (NK := nkLNext) (G := gLNext) F scLNext hm b rfl (by decide +kernel) rfl (by decide) fun X C p cs ds W hl hS => ?_
  obtain ⟨ns, c, bound, rfl, rfl, hc, hb, w⟩ := hS
  show VSs X _ [.own p (drw ns c), .dat (.int bound), .no, .no] _
  walk_at "vv"
  refine vs_put C (i := 0) At.here rfl ?_
  walk_at "vv"
  refine ⟨_, _, .int (c : Int), rfl, rfl, rfl, ?_⟩
  walk_at "vv"
  refine ⟨_, 2, _, rfl, rfl, rfl, ?_⟩
  show VSs X _ [.own p (drw ns (c + 1)), .dat (.int bound), .no, .no] _
  walk_at "vv"
  refine ⟨_, _, .int ((c + 1 : Nat) : Int), rfl, rfl, rfl, ?_⟩
  walk_at "vv"
  refine ⟨divW64 (by decide) (by decide), ?_⟩
  walk_at "vv"
  refine vd_call C FC (by walk_at "at") ?_
  walk_at "vv"
  refine ⟨_, _, .list (ns.map PyData.int), rfl, rfl, rfl, ?_⟩
  walk_at "vv"
  refine ⟨_, _, .int 0, rfl, rfl, rfl, ?_⟩
  walk_at "vv"
  have e : (0 : Int) + ((c + 1 : Nat) : Int) / 12 = (((c + 1) / 12 : Nat) : Int) := by omega
  refine ⟨rfl, ns, (c + 1) / 12, by rw [e], ?_⟩
  walk_at "vv"
  refine ⟨mulW64 (by decide) (by omega), ?_⟩
  walk_at "vv"
  refine vd_call C FN (by walk_at "at") ?_
  walk_at "vv"
  refine ⟨_, _, .int ((c + 1 : Nat) : Int), rfl, rfl, rfl, ?_⟩
  walk_at "vv"
  refine ⟨_, rfl, ?_⟩
  walk_at "vv"
  refine ⟨by decide, ?_⟩
  walk_at "vv"
  exact ⟨rfl, _, _, _, rfl, by omega, by omega, hb, fun r r0 r1 => ⟨_, rfl, w r r0 r1⟩⟩

/-! ### _law_pick, _law_lines -/
def SPick : List D → List D → (D → List D → Prop) → Prop := fun cs ds W => ∃ (ns : List Int) (c : Nat) (xs : List D), cs = drw ns c ∧ (ds = [.list xs] ∨ ds = [.tuple xs]) ∧ c ≤ 1000000 ∧ 0 < xs.length ∧ ∀ x ∈ xs, W x (drw ns (c + 1))
theorem atI_lt {xs : List D} {r : Int} (h0 : 0 ≤ r) (h1 : r < (xs.length : Int)) : ∃ x, atI xs r = some x ∧ x ∈ xs := by
  have hl : r.toNat < xs.length := by omega
  refine ⟨xs[r.toNat], ?_, List.getElem_mem hl⟩
  unfold atI ixN
  rw [if_pos h0, if_pos h1]
  exact List.getElem?_eq_getElem hl
theorem fPick {M : Md} [Cold M] {f : Addr} {fd : FuncData} (ml : M.mg "len" = none) (FX : FnM M 3 "_law_next" 1 SNext) (F : Fun M.K "_law_pick" "_law_pick" sLPick f fd) (hm : M.mg "_law_pick" = some (.ref f)) (b : L2.Binds M.K fd ["draw", "things"] []) : FnM M 4 "_law_pick" 1 SPick := by
  refine fnM_mk (k := 3) (NK := nkLPick) (G := gLPick) F scLPick hm b rfl (by decide +kernel) rfl (by decide) fun X C p cs ds W hl hS => ?_
  obtain ⟨ns, c, xs, rfl, hd, hc, hp, w⟩ := hS
  rcases hd with rfl | rfl
  · show VSs X _ [.own p (drw ns c), .dat (.list xs)] _
    walk_at "v"
    walk_at "v"
    refine vd_ix ?_
    walk_at "v"
    refine vd_callO C FX (by walk_at "at") (by walk_at "at") rfl ?_
    walk_at "vv"
    refine ⟨xs, .inl rfl, ?_⟩
    walk_at "vv"
    refine ⟨rfl, _, rfl, ns, c, (xs.length : Int), rfl, rfl, hc, by omega, fun r h0 h1 => ?_⟩
    obtain ⟨x, ex, mx⟩ := atI_lt h0 h1
    exact ⟨x, ex, _, rfl, w x mx⟩
  · show VSs X _ [.own p (drw ns c), .dat (.tuple xs)] _
    walk_at "v"
    walk_at "v"
    refine vd_ix ?_
    walk_at "v"
    refine vd_callO C FX (by walk_at "at") (by walk_at "at") rfl ?_
    walk_at "vv"
    refine ⟨xs, .inr rfl, ?_⟩
    walk_at "vv"
    refine ⟨rfl, _, rfl, ns, c, (xs.length : Int), rfl, rfl, hc, by omega, fun r h0 h1 => ?_⟩
    obtain ⟨x, ex, mx⟩ := atI_lt h0 h1
    exact ⟨x, ex, _, rfl, w x mx⟩


open PySem PySem.Spec PyProof.Rows L2 Vc
/-! ### _law_lines -/
structure Ln where
  o : Str
  t : Str
  x : Int
def lname (i : Nat) : Str := "l" ++ Str.ofString (toString (i : Int))
def lnD (i : Nat) (l : Ln) : D := .tuple [.str (lname i), .str l.o, .str l.t, .int l.x]
def lnsFrom : Nat → List Ln → List D
  | _, [] => []
  | i, l :: r => lnD i l :: lnsFrom (i + 1) r
theorem lns_snoc {l : Ln} : ∀ {ls : List Ln} {i : Nat}, lnsFrom i (ls ++ [l]) = lnsFrom i ls ++ [lnD (i + ls.length) l]
  | [], i => rfl
  | a :: ls, i => by
    show lnD i a :: lnsFrom (i + 1) (ls ++ [l]) = lnD i a :: (lnsFrom (i + 1) ls ++ [lnD (i + (ls.length + 1)) l])
    rw [lns_snoc (ls := ls) (i := i + 1), show i + 1 + ls.length = i + (ls.length + 1) by omega]
theorem lns_len : ∀ {ls : List Ln} {i : Nat}, (lnsFrom i ls).length = ls.length
  | [], _ => rfl
  | _ :: ls, i => congrArg (· + 1) (lns_len (ls := ls) (i := i + 1))
structure LnOk (bs : List Str) (l : Ln) : Prop where
  o : l.o ∈ bs
  t : l.t ∈ bs
  ne : l.o ≠ l.t
  x : l.x = 1 ∨ l.x = 2 ∨ l.x = 5 ∨ l.x = 10 ∨ l.x = 30
def SLines : List D → List D → (D → List D → Prop) → Prop := fun cs ds W => ∃ (ns : List Int) (c : Nat) (bs : List Str), cs = drw ns c ∧ ds = [.tuple (bs.map PyData.str)] ∧ c ≤ 900000 ∧ 1 ≤ bs.length ∧ bs.length ≤ 3 ∧ bs.Nodup ∧
  ∀ (ls : List Ln) (c' : Nat), ls.length ≤ 2 → (bs.length = 1 → ls = []) → (∀ l ∈ ls, LnOk bs l) → c' ≤ c + 10 → W (.tuple (lnsFrom 0 ls)) (drw ns c')
theorem str_at {bs : List Str} {r : Int} (h0 : 0 ≤ r) (h1 : r < (bs.length : Int)) : ∃ z, atI (bs.map PyData.str) r = some (.str z) ∧ bs[r.toNat]? = some z := by
  have hl : r.toNat < bs.length := by omega
  refine ⟨bs[r.toNat], ?_, List.getElem?_eq_getElem hl⟩
  unfold atI ixN
  rw [List.length_map, if_pos h0, if_pos h1]
  show (bs.map PyData.str)[r.toNat]? = _
  rw [List.getElem?_map, List.getElem?_eq_getElem hl]
  rfl
theorem fLines {M : Md} [Cold M] {f : Addr} {fd : FuncData} (ml : M.mg "len" = none) (mr : M.mg "range" = none) (ms : M.mg "str" = none) (mt : M.mg "tuple" = none) (FX : FnM M 3 "_law_next" 1 SNext) (FP : FnM M 4 "_law_pick" 1 SPick)
    (F : Fun M.K "_law_lines" "_law_lines" sLLines f fd) (hm : M.mg "_law_lines" = some (.ref f)) (b : L2.Binds M.K fd ["draw", "buses"] []) : FnM M 5 "_law_lines" 1 SLines := by
  refine fnM_mk (k := 4) (NK := nkLLines) (G := gLLines) F scLLines hm b rfl (by decide +kernel) rfl (by decide) fun X C p cs ds W hl hS => ?_
  obtain ⟨ns, c, bs, rfl, rfl, hc, l1, l3, nd, w⟩ := hS
  show VSs X _ [.own p (drw ns c), .dat (.tuple (bs.map PyData.str)), .no, .no, .no, .no, .no] _
  have main : ∀ (m c0 : Nat) (z : Addr), m ≤ 2 → (bs.length = 1 → m = 0) → c0 ≤ c + 1 → VSs X ((defBody sLLines).drop 1) [.own p (drw ns c0), .dat (.tuple (bs.map PyData.str)), .own z (.l []), .dat (.int (m : Int)), .no, .no, .no] { nx := fun ρ' => ∃ cs', ρ'[0]? = some (.own p (.l cs')) ∧ W .none cs', rt := fun d ρ' => ∃ cs', ρ'[0]? = some (.own p (.l cs')) ∧ W d cs' } := fun m c0 z hm2 h1 hc0 => by
    refine vss_cons (vs_for C ?_)
    refine vi_range C (by walk_at "at") ?_
    walk_at "v"
    refine ⟨m, rfl, by omega, ?_⟩
    refine ⟨fun j ρ' => j ≤ m ∧ ∃ (ls : List Ln) (c' : Nat) (s4 s5 s6 : Sl), ls.length = j ∧ (∀ l ∈ ls, LnOk bs l) ∧ c' ≤ c0 + 3 * j ∧ ρ' = [.own p (drw ns c'), .dat (.tuple (bs.map PyData.str)), .own z (.l (lnsFrom 0 ls)), .dat (.int (m : Int)), s4, s5, s6], ⟨Nat.zero_le _, [], c0, _, _, _, rfl, fun l h => (by cases h), by omega, rfl⟩, fun j d ρ' hj hW => ?_, fun ρ' hW => ?_⟩
    · obtain ⟨hjm, ls, c', s4, s5, s6, lj, lok, hc', rfl⟩ := hW
      obtain ⟨jlt, je⟩ := List.getElem?_eq_some_iff.mp hj
      rw [List.length_map, List.length_range] at jlt
      have ed : d = .int (j : Int) := by
        rw [← je, List.getElem_map, List.getElem_range]
      subst ed
      have lb : 2 ≤ bs.length := by
        rcases Nat.lt_or_ge bs.length 2 with q | q
        · have := h1 (by omega)
          omega
        · exact q
      refine vg_name C (by walk_at "at") ?_
      walk_at "v"
      walk_at "v"
      refine vd_callO C FX (by walk_at "at") (by walk_at "at") rfl ?_
      walk_at "vv"
      refine ⟨_, .inr rfl, ?_⟩
      walk_at "vv"
      refine ⟨rfl, _, rfl, ns, c', ((bs.map PyData.str).length : Int), rfl, rfl, by omega, by rw [List.length_map]; omega, fun r r0 r1 => ?_⟩
      rw [List.length_map] at r1
      walk_at "v"
      walk_at "v"
      walk_at "v"
      walk_at "v"
      walk_at "v"
      walk_at "v"
      walk_at "v"
      refine vd_callO C FX (by walk_at "at") (by walk_at "at") rfl ?_
      walk_at "vv"
      refine ⟨_, .inr rfl, ?_⟩
      walk_at "vv"
      refine ⟨rfl, _, rfl, ns, c' + 1, ((bs.map PyData.str).length : Int) - 1, rfl, rfl, by omega, by rw [List.length_map]; omega, fun r' q0 q1 => ?_⟩
      rw [List.length_map] at q1
      refine vd_callB C (x := "len") does_len (by walk_at "at") ?_
      walk_at "vv"
      refine ⟨_, .inr rfl, ?_⟩
      refine ⟨by rw [List.length_map]; omega, ?_⟩
      rw [List.length_map]
      have t0 : 0 ≤ (r + 1 + r') % (bs.length : Int) := Int.emod_nonneg _ (by omega)
      have t1 : (r + 1 + r') % (bs.length : Int) < (bs.length : Int) := Int.emod_lt_of_pos _ (by omega)
      have tne : (r + 1 + r') % (bs.length : Int) ≠ r := fun q => by
        by_cases q2 : r + 1 + r' < (bs.length : Int)
        · rw [Int.emod_eq_of_lt (by omega) q2] at q
          omega
        · have e : (r + 1 + r') % (bs.length : Int) = r + 1 + r' - bs.length := by
            rw [← Int.sub_emod_right, Int.emod_eq_of_lt (by omega) (by omega)]
          omega
      generalize ht : (r + 1 + r') % (bs.length : Int) = t at t0 t1 tne
      obtain ⟨zo, ao, bo⟩ := str_at r0 r1
      obtain ⟨zt, at', bt⟩ := str_at t0 t1
      have lj2 : (toString (j : Int)).length ≤ 10 := by
        have : j = 0 ∨ j = 1 := by omega
        rcases this with rfl | rfl <;> decide
      refine vss_one (vs_append C (by walk_at "at") rfl ?_)
      refine vd_tup (va_cons (vd_addS (vd_str ?_)))
      refine vd_callT C (x := "str") does_strI (by walk_at "at") ?_
      walk_at "vv"
      refine ⟨(j : Int), rfl, ?_, _, _, rfl, rfl, ?_, ?_⟩
      · have : j = 0 ∨ j = 1 := by omega
        rcases this with rfl | rfl <;> decide
      · have : j = 0 ∨ j = 1 := by omega
        rcases this with rfl | rfl <;> decide
      walk_at "v"
      walk_at "v"
      walk_at "v"
      walk_at "v"
      refine ⟨_, ao, ?_⟩
      walk_at "v"
      walk_at "v"
      walk_at "v"
      walk_at "v"
      refine ⟨_, at', ?_⟩
      refine va_cons (vd_callO C FP (by walk_at "at") (by walk_at "at") rfl ?_)
      refine va_cons (vn_vd (vn_lst ?_))
      walk_at "vv"
      refine ⟨by show 5 ≤ 1000; decide, va_nil ⟨rfl, _, rfl, ns, c' + 1 + 1, _, rfl, .inl rfl, by omega, by show 0 < 5; decide, fun x hx => ?_⟩⟩
      obtain ⟨xi, rfl, hxi⟩ : ∃ xi : Int, x = .int xi ∧ (xi = 1 ∨ xi = 2 ∨ xi = 5 ∨ xi = 10 ∨ xi = 30) := by
        simp only [List.mem_cons, List.not_mem_nil, or_false] at hx
        rcases hx with rfl | rfl | rfl | rfl | rfl
        · exact ⟨_, rfl, .inl rfl⟩
        · exact ⟨_, rfl, .inr (.inl rfl)⟩
        · exact ⟨_, rfl, .inr (.inr (.inl rfl))⟩
        · exact ⟨_, rfl, .inr (.inr (.inr (.inl rfl)))⟩
        · exact ⟨_, rfl, .inr (.inr (.inr (.inr rfl)))⟩
      have one : zo ≠ zt := fun q => tne (by
        subst q
        have z1 := (List.getElem?_inj (by omega) nd).mp (bo.trans bt.symm)
        omega)
      refine va_nil ⟨by show 4 ≤ 1000; decide, lnsFrom 0 ls, rfl, by rw [lns_len]; omega, by omega, ls ++ [⟨zo, zt, xi⟩], c' + 1 + 1 + 1, .dat (.int (j : Int)), .dat (.int r), .dat (.int t), by rw [List.length_append, lj]; rfl, fun l hl => ?_, by omega, ?_⟩
      · rcases List.mem_append.mp hl with h | h
        · exact lok l h
        · have e : l = ⟨zo, zt, xi⟩ := by simpa using h
          subst e
          exact ⟨List.mem_of_getElem? bo, List.mem_of_getElem? bt, one, hxi⟩
      · have e := lns_snoc (l := ⟨zo, zt, xi⟩) (ls := ls) (i := 0)
        rw [Nat.zero_add, lj] at e
        rw [e]
        rfl
    · obtain ⟨_, ls, c', s4, s5, s6, lj, lok, hc', rfl⟩ := hW
      rw [List.length_map, List.length_range] at lj hc'
      refine vss_frz (i := 2) rfl ?_
      refine vss_one (vs_ret (vd_callT C (x := "tuple") does_tupleL (by walk_at "at") ?_))
      walk_at "vv"
      refine ⟨lnsFrom 0 ls, rfl, ?_⟩
      refine ⟨_, rfl, w ls c' (by omega) (fun q => ?_) lok (by omega)⟩
      have := h1 q
      exact List.length_eq_zero_iff.mp (by omega)
  refine vss_cons (vs_parN C (by walk_at "at") (by walk_at "at") (by decide) (by show 2 < 7; decide) ?_ (by walk_at "sw"))
  refine vn_lst (va_nil ⟨by decide, ?_⟩)
  refine vd_if (vt_cmp C ?_)
  walk_at "vv"
  refine ⟨_, .inr rfl, ?_⟩
  walk_at "vv"
  rw [List.length_map]
  refine ⟨fun h => ?_, fun h => ?_⟩
  · have h' := of_decide_eq_true h
    walk_at "v"
    walk_at "v"
    refine vd_callO C FX (by walk_at "at") (by walk_at "at") rfl ?_
    walk_at "vv"
    refine ⟨rfl, _, rfl, ns, c, 2, rfl, rfl, by omega, by decide, fun r r0 r1 z => ?_⟩
    have e : (1 + r : Int) = (((1 + r).toNat : Nat) : Int) := by omega
    rw [e]
    exact main _ (c + 1) z (by omega) (fun q => by omega) (by omega)
  · have h' := of_decide_eq_false h
    walk_at "v"
    exact fun z => main 0 c z (by omega) (fun _ => rfl) (by omega)

end K5

/-! Vc, part Z: comprehensions over tuples of names. -/
namespace Vc
open PySem PySem.Spec PyProof.Rows L2
open Evl (Ex)
def setAll : L2.St → List Nat → List V → L2.St
  | σ, i :: is, v :: vs => setAll (σ.set i (some v)) is vs
  | σ, _, _ => σ
def setSl : En → List Nat → List D → En
  | ρ, i :: is, d :: ds => setSl (ρ.set i (.dat d)) is ds
  | ρ, _, _ => ρ
def wipeSl (ρ : En) : List Nat → En
  | [] => ρ
  | i :: is => (wipeSl ρ is).set i .no
theorem wipe_get {σ : L2.St} {k : Nat} : ∀ {is : List Nat}, (wipe σ is)[k]? = if k ∈ is then (σ[k]?).map (fun _ => none) else σ[k]?
  | [] => by simp [wipe]
  | i :: is => by
    show ((wipe σ is).set i none)[k]? = _
    rw [List.getElem?_set, wipe_get (is := is), wipe_length]
    by_cases e : i = k
    · subst e
      rw [if_pos rfl, if_pos List.mem_cons_self]
      by_cases hl : i < σ.length
      · rw [if_pos hl, List.getElem?_eq_getElem hl]
        rfl
      · rw [if_neg hl, List.getElem?_eq_none (by omega)]
        rfl
    · rw [if_neg e]
      by_cases m : k ∈ is
      · rw [if_pos m, if_pos (List.mem_cons_of_mem _ m)]
      · rw [if_neg m, if_neg (by simp only [List.mem_cons, not_or]; exact ⟨fun z => e z.symm, m⟩)]
theorem setAll_len : ∀ {is : List Nat} {σ : L2.St} {vs : List V}, (setAll σ is vs).length = σ.length
  | [], σ, vs => by unfold setAll; rfl
  | i :: is, σ, [] => by unfold setAll; rfl
  | i :: is, σ, v :: vs => by
    unfold setAll
    rw [setAll_len (is := is) (vs := vs), List.length_set]
theorem setAll_off {k : Nat} : ∀ {is : List Nat} {σ : L2.St} {vs : List V}, k ∉ is → (setAll σ is vs)[k]? = σ[k]?
  | [], σ, vs, _ => by unfold setAll; rfl
  | i :: is, σ, [], _ => by unfold setAll; rfl
  | i :: is, σ, v :: vs, h => by
    unfold setAll
    rw [setAll_off (is := is) (vs := vs) (fun z => h (List.mem_cons_of_mem _ z)), List.getElem?_set_ne (fun z => h (by rw [z]; exact List.mem_cons_self))]
theorem wipe_set {is : List Nat} {σ : L2.St} {vs : List V} : wipe (setAll (wipe σ is) is vs) is = wipe σ is := by
  refine List.ext_getElem? fun k => ?_
  rw [wipe_get, wipe_get]
  by_cases m : k ∈ is
  · rw [if_pos m, if_pos m]
    by_cases hl : k < σ.length
    · have h1 : k < (setAll (wipe σ is) is vs).length := by rw [setAll_len, wipe_length]; exact hl
      rw [List.getElem?_eq_getElem h1, List.getElem?_eq_getElem hl]
      rfl
    · have h1 : ¬ k < (setAll (wipe σ is) is vs).length := by rw [setAll_len, wipe_length]; exact hl
      rw [List.getElem?_eq_none (by omega), List.getElem?_eq_none (by omega)]
  · rw [if_neg m, if_neg m, setAll_off m, wipe_get, if_neg m]
theorem rel_wipe {K : Kw} {B H : Hp} {σ : L2.St} {ρ : En} (r : Rel K B H σ ρ) : ∀ (is : List Nat), Rel K B H (wipe σ is) (wipeSl ρ is)
  | [] => r
  | i :: is => rel_no (rel_wipe r is) (show _ = ((wipe σ is).set i none).set i none by rw [List.set_set])
theorem rel_setAll {K : Kw} {B H : Hp} : ∀ {is : List Nat} {σ : L2.St} {ρ : En} {vs : List V} {ds : List D}, Rel K B H σ ρ → DpAll K.K B vs ds → Rel K B H (setAll σ is vs) (setSl ρ is ds)
  | [], σ, ρ, vs, ds, r, d => by unfold setAll setSl; exact r
  | i :: is, σ, ρ, _, _, r, .nil => by unfold setAll setSl; exact r
  | i :: is, σ, ρ, _, _, r, .cons h hs => by
    unfold setAll setSl
    exact rel_setAll (is := is) (rel_set r h) hs
theorem wipeSl_get {ρ : En} {k : Nat} {s : Sl} : ∀ {is : List Nat}, (wipeSl ρ is)[k]? = some s → s = .no ∨ (k ∉ is ∧ ρ[k]? = some s)
  | [], h => .inr ⟨by simp, h⟩
  | i :: is, h => by
    have h' : ((wipeSl ρ is).set i .no)[k]? = some s := h
    rw [List.getElem?_set] at h'
    by_cases e : i = k
    · rw [if_pos e] at h'
      split at h'
      · cases h'
        exact .inl rfl
      · cases h'
    · rw [if_neg e] at h'
      rcases wipeSl_get (is := is) h' with q | ⟨q, q2⟩
      · exact .inl q
      · exact .inr ⟨by simp only [List.mem_cons, not_or]; exact ⟨fun z => e z.symm, q⟩, q2⟩
theorem wipeSl_len {ρ : En} : ∀ {is : List Nat}, (wipeSl ρ is).length = ρ.length
  | [] => rfl
  | i :: is => by
    show ((wipeSl ρ is).set i .no).length = _
    rw [List.length_set, wipeSl_len]
theorem rel_unset {K : Kw} {B H : Hp} {σ σ2 : L2.St} {ρ : En} {is : List Nat} (r : Rel K B H σ2 ρ) (h : wipe σ2 is = wipe σ is) : Rel K B H σ (wipeSl ρ is) := by
  have same : ∀ (k : Nat), k ∉ is → σ[k]? = σ2[k]? := fun k m => by
    have q := congrArg (fun l : L2.St => l[k]?) h
    simp only [wipe_get, if_neg m] at q
    exact q.symm
  have len : σ2.length = σ.length := by
    have q := congrArg List.length h
    rw [wipe_length, wipe_length] at q
    exact q
  refine ⟨r.ex, by rw [wipeSl_len, r.len, len], fun k d hk => ?_, fun k a o hk => ?_, fun k j a o o' hk hj => ?_⟩
  · rcases wipeSl_get hk with q | ⟨q, q2⟩
    · cases q
    · obtain ⟨v, h1, h2⟩ := r.dat k d q2
      exact ⟨v, (same k q).trans h1, h2⟩
  · rcases wipeSl_get hk with q | ⟨q, q2⟩
    · cases q
    · obtain ⟨h1, h2⟩ := r.own k a o q2
      exact ⟨(same k q).trans h1, h2⟩
  · rcases wipeSl_get hk with q | ⟨_, q2⟩
    · cases q
    · rcases wipeSl_get hj with q | ⟨_, q3⟩
      · cases q
      · exact r.dis k j a o o' q2 q3
theorem go_wipe {B H : Hp} {ρ : En} : ∀ {is : List Nat}, Go B H ρ B H (wipeSl ρ is)
  | [] => Go.refl
  | _ :: is => (go_wipe (is := is)).trans go_no
theorem go_setSl {B H : Hp} : ∀ {is : List Nat} {ρ : En} {ds : List D}, Go B H ρ B H (setSl ρ is ds)
  | [], ρ, ds => by unfold setSl; exact Go.refl
  | _ :: is, ρ, [] => by unfold setSl; exact Go.refl
  | _ :: is, ρ, _ :: ds => by
    unfold setSl
    exact go_set.trans (go_setSl (is := is))
/-- what is not there is not a thing of one's own -/
theorem go_not {B H B' H' : Hp} {ρ ρ' : En} (g : Go B H ρ B' H' ρ') {a : Addr} (n : ¬ Own ρ a) (h : H a ≠ none) : ¬ Own ρ' a := fun z => (g.own a z).elim n h
def tN (is : List Nat) : TGs := fun vs σ H Q => vs.length = is.length ∧ Q (setAll σ is vs) H
section
variable {X : Cx} {M : Md} {sc : Scope} {NK : List (Str × Bool × Bool)} {G : List Str} {k : Nat} {ρ : En} {PL : List D → En → Prop} {pos : Pos} {tg : Expr}
theorem pgs_tN0 : PGs X [] (tN []) := ⟨fun pins s σ H vs us Q I r h => by
  obtain ⟨hl, q⟩ := h
  have e : vs = [] := List.length_eq_zero_iff.mp hl
  subst e
  exact pgs_nil.run pins s σ H [] us Q I r ⟨rfl, q⟩⟩
theorem pgs_tN (C : Cst X M sc NK G k) {i : Nat} {y : Str} {v : Bool} {p : Pos} {es : List Expr} {is : List Nat} (h : At NK i (y, v, true)) (hs : PGs X es (tN is)) (ha : (assignEach (.Name y p :: es) X.env).map (·.2) = assign (.Name y p) X.env :: (assignEach es X.env).map (·.2) := by rfl) : PGs X (.Name y p :: es) (tN (i :: is)) := ⟨fun pins s σ H vs us Q I r hh => by
  obtain ⟨hl, q⟩ := hh
  cases vs with
  | nil => cases hl
  | cons v0 vs0 =>
    exact (pgs_cons (pg_name C.nd (C.ix h) (C.lo h) (C.fn h)) hs ha).run pins s σ H (v0 :: vs0) us Q I r ⟨v0, vs0, rfl, Nat.succ.inj hl, q⟩⟩
theorem lcN_read {B H : Hp} {σ : L2.St} {Q : VK} {scope : Scope} {is : List Nat} {elt iter tst : Expr} {Cb : Cx → Prop} (r : Rel (kwOf X) B H σ ρ)
    (cb : ∀ (s : Shared) (H : Hp) (Ca : Addr) (cl : List (Str × Addr)) (fp : List Addr), Cb (X.blk s H scope (compEnvC scope cl Ca X.env) fp))
    (h : VI X tg iter ρ fun ds ρ1 => ds.length ≤ 100000 ∧ ∃ W : Nat → List D → En → Prop, W 0 [] ρ1 ∧
      (∀ (j : Nat) d acc ρ', ds[j]? = some d → W j acc ρ' → ∃ es, d = .tuple es ∧ es.length = is.length ∧ ∀ X', Cb X' → VT X' tst (setSl (wipeSl ρ' is) is es) fun bb ρ3 => (bb = true → ∀ X'', Cb X'' → VD X'' elt ρ3 fun u ρ4 => W (j + 1) (acc ++ [u]) (wipeSl ρ4 is)) ∧ (bb = false → W (j + 1) acc (wipeSl ρ3 is))) ∧
      ∀ acc ρ', W ds.length acc ρ' → PL acc ρ')
    (q : ∀ p vs ds B' H' ρ', PL ds ρ' → H p = none → H' p = some (.lst vs) → B' p = none → ¬ Own ρ' p → DpAll X.K B' vs ds → Go B H ρ B' H' ρ' → Rel (kwOf X) B' H' σ ρ' → Q (.ref p) H') :
    tLc (iSemI X tg iter) (gTup X.K is.length (tN is)) (uTst X scope tst) (uSem X scope elt) is σ H Q := by
  refine h.run B H σ _ r fun J ds B1 H1 ρ1 p1 yl g1 r1 Dl hD => ?_
  obtain ⟨hlen, W, w0, step, done⟩ := p1
  have bD : B1 Dl = none := by
    cases e : B1 Dl with
    | none => rfl
    | some u =>
      rw [r1.ex Dl u e] at hD
      cases hD
  have nD : ¬ Own ρ1 Dl := not_own r1 hD
  refine ⟨fun j m H' => m = ds.length - j ∧ j ≤ ds.length ∧ ∃ acc vs B' ρ', W j acc ρ' ∧ acc.length ≤ j ∧ H' Dl = some (.lst vs) ∧ B' Dl = none ∧ ¬ Own ρ' Dl ∧ DpAll X.K B' vs acc ∧ Go B1 H1 ρ1 B' H' ρ' ∧ Rel (kwOf X) B' H' σ ρ', ⟨ds.length, by omega, by omega, [], [], B1, ρ1, w0, Nat.le_refl _, upd_same, bD, nD, .nil, (acc_put Go.refl r1 hD bD nD).1, (acc_put Go.refl r1 hD bD nD).2⟩, ?_⟩
  rintro j m H' ⟨rfl, hj, acc, vs, B', ρ', w, hacc, hl, bl, nl, dacc, g, r'⟩
  obtain ⟨y1, y2⟩ := yl j B' H' g.ex r'.ex
  have hlN : ∀ {H2 : Hp}, H2 Dl = some (.lst vs) → H2 Dl ≠ none := fun e z => by rw [e] at z; cases z
  by_cases hlt : j < ds.length
  · obtain ⟨go, yy⟩ := y1 hlt
    refine .inr ⟨go, fun H2 => ∃ acc vs B' ρ', W (j + 1) acc ρ' ∧ acc.length ≤ j + 1 ∧ H2 Dl = some (.lst vs) ∧ B' Dl = none ∧ ¬ Own ρ' Dl ∧ DpAll X.K B' vs acc ∧ Go B1 H1 ρ1 B' H2 ρ' ∧ Rel (kwOf X) B' H2 σ ρ', fun H2 hN2 => ⟨ds.length - (j + 1), by omega, rfl, hlt, hN2⟩, fun x H2 hy2 => ?_⟩
    obtain ⟨rfl, d, hd, dx⟩ := yy x H2 hy2
    obtain ⟨es, rfl, el, st⟩ := step j d acc ρ' hd w
    obtain ⟨T, xs, rfl, hT, hx⟩ := dp_tup dx
    have xl : xs.length = is.length := (DpAll.len hx).trans el
    refine ⟨T, xs, rfl, ex_t r'.ex hT, xl, xl, wipe_set, fun s0 H0 Ca cl fp => ?_⟩
    have rw1 : Rel (kwOf X) B' H2 (setAll (wipe σ is) is xs) (setSl (wipeSl ρ' is) is es) := rel_setAll (rel_wipe r' is) hx
    have g0 : Go B' H2 ρ' B' H2 (setSl (wipeSl ρ' is) is es) := go_wipe.trans go_setSl
    have nl2 := go_not g0 nl (hlN hl)
    have vt := st _ (cb s0 H0 Ca cl fp)
    refine vt.run B' H2 _ _ rw1 fun bb B3 H3 ρ3 p3 g3 r3 => ?_
    have gA3 : Go B1 H1 ρ1 B3 H3 ρ3 := (g.trans g0).trans g3
    have hD3 : H3 Dl = some (.lst vs) := g3.keep Dl _ hl nl2
    have bD3 : B3 Dl = none := g3.out Dl (hlN hl) bl nl2
    have nD3 := go_not g3 nl2 (hlN hl)
    cases bb with
    | true =>
      rw [if_pos rfl]
      intro s1 H01 Ca1 cl1 fp1
      have vd := p3.1 rfl _ (cb s1 H01 Ca1 cl1 fp1)
      refine vd.run B3 H3 _ _ r3 fun u du B4 H4 ρ4 p4 dv g4 r4 => ?_
      have gA : Go B1 H1 ρ1 B4 H4 ρ4 := gA3.trans g4
      have hD4 : H4 Dl = some (.lst vs) := g4.keep Dl _ hD3 nD3
      have bD4 : B4 Dl = none := g4.out Dl (hlN hD3) bD3 nD3
      have nD4 := go_not g4 nD3 (hlN hD3)
      have rS : Rel (kwOf X) B4 H4 σ (wipeSl ρ4 is) := rel_unset r4 wipe_set
      have gS : Go B1 H1 ρ1 B4 H4 (wipeSl ρ4 is) := gA.trans go_wipe
      have nS : ¬ Own (wipeSl ρ4 is) Dl := go_not (go_wipe (B := B4) (H := H4)) nD4 (hlN hD4)
      obtain ⟨gF, rF⟩ := acc_put (o := .lst (vs ++ [u])) gS rS hD bD4 nS
      refine ⟨vs, hD4, ?_, acc ++ [du], vs ++ [u], B4, wipeSl ρ4 is, p4, by rw [List.length_append]; exact Nat.add_le_add_right hacc 1, upd_same, bD4, nS, DpAll.app (DpAll.mono (g3.ex.trans g4.ex) dacc) (.cons dv .nil), gF, rF⟩
      rw [DpAll.len dacc]
      exact Nat.lt_of_le_of_lt hacc (Nat.lt_of_lt_of_le hlt (Nat.le_trans hlen (by decide)))
    | false =>
      rw [if_neg Bool.false_ne_true]
      have rS : Rel (kwOf X) B3 H3 σ (wipeSl ρ3 is) := rel_unset r3 wipe_set
      have gS : Go B1 H1 ρ1 B3 H3 (wipeSl ρ3 is) := gA3.trans go_wipe
      have nS : ¬ Own (wipeSl ρ3 is) Dl := go_not (go_wipe (B := B3) (H := H3)) nD3 (hlN hD3)
      exact ⟨acc, vs, B3, wipeSl ρ3 is, p3.2 rfl, by omega, hD3, bD3, nS, DpAll.mono g3.ex dacc, gS, rS⟩
  · have e : j = ds.length := by omega
    subst e
    exact .inl ⟨y2 (Nat.le_refl _), q Dl vs acc B' H' ρ' (done acc ρ' w) (g1.dom Dl hD) hl bl nl dacc (g1.trans g) r'⟩
theorem lcN_read0 {B H : Hp} {σ : L2.St} {Q : VK} {scope : Scope} {is : List Nat} {elt iter : Expr} {Cb : Cx → Prop} (r : Rel (kwOf X) B H σ ρ)
    (cb : ∀ (s : Shared) (H : Hp) (Ca : Addr) (cl : List (Str × Addr)) (fp : List Addr), Cb (X.blk s H scope (compEnvC scope cl Ca X.env) fp))
    (h : VI X tg iter ρ fun ds ρ1 => ds.length ≤ 100000 ∧ ∃ W : Nat → List D → En → Prop, W 0 [] ρ1 ∧
      (∀ (j : Nat) d acc ρ', ds[j]? = some d → W j acc ρ' → ∃ es, d = .tuple es ∧ es.length = is.length ∧ ∀ X', Cb X' → VD X' elt (setSl (wipeSl ρ' is) is es) fun u ρ4 => W (j + 1) (acc ++ [u]) (wipeSl ρ4 is)) ∧
      ∀ acc ρ', W ds.length acc ρ' → PL acc ρ')
    (q : ∀ p vs ds B' H' ρ', PL ds ρ' → H p = none → H' p = some (.lst vs) → B' p = none → ¬ Own ρ' p → DpAll X.K B' vs ds → Go B H ρ B' H' ρ' → Rel (kwOf X) B' H' σ ρ' → Q (.ref p) H') :
    tLc (iSemI X tg iter) (gTup X.K is.length (tN is)) tYes (uSem X scope elt) is σ H Q := by
  refine h.run B H σ _ r fun J ds B1 H1 ρ1 p1 yl g1 r1 Dl hD => ?_
  obtain ⟨hlen, W, w0, step, done⟩ := p1
  have bD : B1 Dl = none := by
    cases e : B1 Dl with
    | none => rfl
    | some u =>
      rw [r1.ex Dl u e] at hD
      cases hD
  have nD : ¬ Own ρ1 Dl := not_own r1 hD
  refine ⟨fun j m H' => m = ds.length - j ∧ j ≤ ds.length ∧ ∃ acc vs B' ρ', W j acc ρ' ∧ acc.length ≤ j ∧ H' Dl = some (.lst vs) ∧ B' Dl = none ∧ ¬ Own ρ' Dl ∧ DpAll X.K B' vs acc ∧ Go B1 H1 ρ1 B' H' ρ' ∧ Rel (kwOf X) B' H' σ ρ', ⟨ds.length, by omega, by omega, [], [], B1, ρ1, w0, Nat.le_refl _, upd_same, bD, nD, .nil, (acc_put Go.refl r1 hD bD nD).1, (acc_put Go.refl r1 hD bD nD).2⟩, ?_⟩
  rintro j m H' ⟨rfl, hj, acc, vs, B', ρ', w, hacc, hl, bl, nl, dacc, g, r'⟩
  obtain ⟨y1, y2⟩ := yl j B' H' g.ex r'.ex
  have hlN : ∀ {H2 : Hp}, H2 Dl = some (.lst vs) → H2 Dl ≠ none := fun e z => by rw [e] at z; cases z
  by_cases hlt : j < ds.length
  · obtain ⟨go, yy⟩ := y1 hlt
    refine .inr ⟨go, fun H2 => ∃ acc vs B' ρ', W (j + 1) acc ρ' ∧ acc.length ≤ j + 1 ∧ H2 Dl = some (.lst vs) ∧ B' Dl = none ∧ ¬ Own ρ' Dl ∧ DpAll X.K B' vs acc ∧ Go B1 H1 ρ1 B' H2 ρ' ∧ Rel (kwOf X) B' H2 σ ρ', fun H2 hN2 => ⟨ds.length - (j + 1), by omega, rfl, hlt, hN2⟩, fun x H2 hy2 => ?_⟩
    obtain ⟨rfl, d, hd, dx⟩ := yy x H2 hy2
    obtain ⟨es, rfl, el, st⟩ := step j d acc ρ' hd w
    obtain ⟨T, xs, rfl, hT, hx⟩ := dp_tup dx
    have xl : xs.length = is.length := (DpAll.len hx).trans el
    refine ⟨T, xs, rfl, ex_t r'.ex hT, xl, xl, wipe_set, fun s0 H0 Ca cl fp => ?_⟩
    have rw1 : Rel (kwOf X) B' H2 (setAll (wipe σ is) is xs) (setSl (wipeSl ρ' is) is es) := rel_setAll (rel_wipe r' is) hx
    have g0 : Go B' H2 ρ' B' H2 (setSl (wipeSl ρ' is) is es) := go_wipe.trans go_setSl
    have nl2 := go_not g0 nl (hlN hl)
    have vd := st _ (cb s0 H0 Ca cl fp)
    refine vd.run B' H2 _ _ rw1 fun u du B4 H4 ρ4 p4 dv g4 r4 => ?_
    have gA : Go B1 H1 ρ1 B4 H4 ρ4 := (g.trans g0).trans g4
    have hD4 : H4 Dl = some (.lst vs) := g4.keep Dl _ hl nl2
    have bD4 : B4 Dl = none := g4.out Dl (hlN hl) bl nl2
    have nD4 := go_not g4 nl2 (hlN hl)
    have rS : Rel (kwOf X) B4 H4 σ (wipeSl ρ4 is) := rel_unset r4 wipe_set
    have gS : Go B1 H1 ρ1 B4 H4 (wipeSl ρ4 is) := gA.trans go_wipe
    have nS : ¬ Own (wipeSl ρ4 is) Dl := go_not (go_wipe (B := B4) (H := H4)) nD4 (hlN hD4)
    obtain ⟨gF, rF⟩ := acc_put (o := .lst (vs ++ [u])) gS rS hD bD4 nS
    refine ⟨vs, hD4, ?_, acc ++ [du], vs ++ [u], B4, wipeSl ρ4 is, p4, by rw [List.length_append]; exact Nat.add_le_add_right hacc 1, upd_same, bD4, nS, DpAll.app (DpAll.mono g4.ex dacc) (.cons dv .nil), gF, rF⟩
    rw [DpAll.len dacc]
    exact Nat.lt_of_le_of_lt hacc (Nat.lt_of_lt_of_le hlt (Nat.le_trans hlen (by decide)))
  · have e : j = ds.length := by omega
    subst e
    exact .inl ⟨y2 (Nat.le_refl _), q Dl vs acc B' H' ρ' (done acc ρ' w) (g1.dom Dl hD) hl bl nl dacc (g1.trans g) r'⟩
/-- [elt for (y, ..) in iter if tst] -/
theorem vn_lcNIf [Cold M] (C : Cst X M sc NK G k) {scope : Scope} {own : List (Str × Nat)} {elt iter tst : Expr} {es : List Expr} {kk : Nat} {tpos : Pos} (NK' : List (Str × Bool × Bool)) (G' : List Str)
    (tgs : ∀ X', Cst X' M (relS scope sc) NK' G' k → PGs X' es (tN (own.map (·.2))))
    (h : VI X (.Tuple es kk tpos) iter ρ fun ds ρ1 => ds.length ≤ 100000 ∧ ∃ W : Nat → List D → En → Prop, W 0 [] ρ1 ∧
      (∀ (j : Nat) d acc ρ', ds[j]? = some d → W j acc ρ' → ∃ es, d = .tuple es ∧ es.length = (own.map (·.2)).length ∧ ∀ X', Cst X' M (relS scope sc) NK' G' k → VT X' tst (setSl (wipeSl ρ' (own.map (·.2))) (own.map (·.2)) es) fun bb ρ3 => (bb = true → ∀ X'', Cst X'' M (relS scope sc) NK' G' k → VD X'' elt ρ3 fun u ρ4 => W (j + 1) (acc ++ [u]) (wipeSl ρ4 (own.map (·.2)))) ∧ (bb = false → W (j + 1) acc (wipeSl ρ3 (own.map (·.2))))) ∧
      ∀ acc ρ', W ds.length acc ρ' → PL acc ρ')
    (hn : ∀ env, (assignEach es env).length = (own.map (·.2)).length := by intro _; rfl) (hst : ∀ env, (assignEach es env).findIdx? (·.1) = none := by intro _; rfl)
    (ok : blkC (NK.map (·.1)) sc scope own = true := by decide +kernel) (hN : NK'.map (·.1) = NK.map (·.1) := by rfl) (hc : chk (relS scope sc) false NK' G' = true := by decide +kernel)
    (hs : ∀ x, foldedSetIterable iter X.env x = pure x := by intro _; rfl) : VN X (.ListComp elt [⟨.Tuple es kk tpos, iter, [tst], 0⟩] scope pos) ρ PL := VN.mk fun B H σ Q r q => by
  have ok' : BlkOk X.N X.env.scope scope own := by
    rw [C.n, C.s]
    exact blkOk_by ok
  have cb : ∀ (s : Shared) (H : Hp) (Ca : Addr) (cl : List (Str × Addr)) (fp : List Addr), Cst (X.blk s H scope (compEnvC scope cl Ca X.env) fp) M (relS scope sc) NK' G' k := fun s H Ca cl fp => cst_blk C C.calm hN hc
  exact PE.sem (pe_lc (g := gTup X.K (own.map (·.2)).length (tN (own.map (·.2)))) (tt := uTst X scope tst) C.calm C.nd (pi_sem C.calm) ok' (fun s H Ca cl fp => pg_tup (cb s H Ca cl fp).calm (tgs _ (cb s H Ca cl fp)) (hn _) (hst _)) pts_uTst pe_uSem hs)
    (lcN_read (Cb := fun X' => Cst X' M (relS scope sc) NK' G' k) r cb h q)
/-- [elt for (y, ..) in iter] -/
theorem vn_lcN [Cold M] (C : Cst X M sc NK G k) {scope : Scope} {own : List (Str × Nat)} {elt iter : Expr} {es : List Expr} {kk : Nat} {tpos : Pos} (NK' : List (Str × Bool × Bool)) (G' : List Str)
    (tgs : ∀ X', Cst X' M (relS scope sc) NK' G' k → PGs X' es (tN (own.map (·.2))))
    (h : VI X (.Tuple es kk tpos) iter ρ fun ds ρ1 => ds.length ≤ 100000 ∧ ∃ W : Nat → List D → En → Prop, W 0 [] ρ1 ∧
      (∀ (j : Nat) d acc ρ', ds[j]? = some d → W j acc ρ' → ∃ es, d = .tuple es ∧ es.length = (own.map (·.2)).length ∧ ∀ X', Cst X' M (relS scope sc) NK' G' k → VD X' elt (setSl (wipeSl ρ' (own.map (·.2))) (own.map (·.2)) es) fun u ρ4 => W (j + 1) (acc ++ [u]) (wipeSl ρ4 (own.map (·.2)))) ∧
      ∀ acc ρ', W ds.length acc ρ' → PL acc ρ')
    (hn : ∀ env, (assignEach es env).length = (own.map (·.2)).length := by intro _; rfl) (hst : ∀ env, (assignEach es env).findIdx? (·.1) = none := by intro _; rfl)
    (ok : blkC (NK.map (·.1)) sc scope own = true := by decide +kernel) (hN : NK'.map (·.1) = NK.map (·.1) := by rfl) (hc : chk (relS scope sc) false NK' G' = true := by decide +kernel)
    (hs : ∀ x, foldedSetIterable iter X.env x = pure x := by intro _; rfl) : VN X (.ListComp elt [⟨.Tuple es kk tpos, iter, [], 0⟩] scope pos) ρ PL := VN.mk fun B H σ Q r q => by
  have ok' : BlkOk X.N X.env.scope scope own := by
    rw [C.n, C.s]
    exact blkOk_by ok
  have cb : ∀ (s : Shared) (H : Hp) (Ca : Addr) (cl : List (Str × Addr)) (fp : List Addr), Cst (X.blk s H scope (compEnvC scope cl Ca X.env) fp) M (relS scope sc) NK' G' k := fun s H Ca cl fp => cst_blk C C.calm hN hc
  exact PE.sem (pe_lc (g := gTup X.K (own.map (·.2)).length (tN (own.map (·.2)))) (tt := tYes) C.calm C.nd (pi_sem C.calm) ok' (fun s H Ca cl fp => pg_tup (cb s H Ca cl fp).calm (tgs _ (cb s H Ca cl fp)) (hn _) (hst _)) (fun _ _ _ _ _ => pts_nil) pe_uSem hs)
    (lcN_read0 (Cb := fun X' => Cst X' M (relS scope sc) NK' G' k) r cb h q)
/-- list(e), e a tuple -/
theorem vn_listT (C : Cst X M sc NK G k) {i : Nat} {p : Pos} {e : Expr} (hg : At G i "list") (h : VD X e ρ fun d ρ1 => ∃ ds : List D, d = .tuple ds ∧ PL ds ρ1) (hm : M.mg "list" = none := by assumption)
    (he : starEach [e] X.env = (false, eval e X.env) :: starEach [] X.env := by rfl) (hpl : (backTo pos (starEach [] X.env)).any (·.1) = false := by rfl) : VN X (.Call (.Name "list" p) [e] [] pos) ρ PL := VN.mk fun B H σ Q r q => by
  refine PE.sem (pe_callTy call_list_of (C.g hg) (C.mg hm) (by decide +kernel) (pa_cons pe_sem pa_nil he) (by decide) (by decide) he hpl) ?_
  refine h.run B H σ _ r fun v d B1 H1 ρ1 p1 dv g1 r1 => ?_
  obtain ⟨ds, rfl, pp⟩ := p1
  obtain ⟨t, vs, rfl, hT, hv⟩ := dp_tup dv
  refine ⟨t, vs, rfl, .inr (ex_t r1.ex hT), fun z hz => ?_⟩
  obtain ⟨r2, g2, bz⟩ := new_one (o := .lst vs) r1 hz
  exact q z _ _ _ _ ρ1 pp (g1.dom z hz) upd_same bz (not_own r1 hz) hv (g1.trans g2) r2
end
end Vc

namespace K5
open PySem PySem.Spec PyProof.Rows L2 Vc
local macro_rules | `(tactic| walk_at "at") => `(tactic| (repeat (first | with_reducible exact At.here | apply At.there)))
local macro_rules | `(tactic| walk_at "v") => `(tactic| first
  | refine vd_bin ?_
  | (refine vd_name (by assumption) (by walk_at "at") rfl ?_)
  | refine vd_int ?_
  | refine vd_bool ?_
  | refine vd_none ?_
  | refine vd_str ?_
  | refine vd_if ?_
  | (refine vd_neg ?_)
  | refine vd_tup ?_
  | refine va_nil ?_
  | refine va_cons ?_
  | refine vs_ret ?_
  | refine vss_nil ?_
  | refine vss_one ?_
  | refine vss_cons ?_
  | refine vs_if ?_
  | refine vt_cmp (by assumption) ?_
  | refine vs_set (by assumption) (by walk_at "at") ?_
  | refine vd_cmp (by assumption) ?_
  | refine vgs_nil ?_
  | refine vgs_cons ?_
  | refine vg_name (by assumption) (by walk_at "at") ?_
  | (refine vd_callT (x := "int") (by assumption) does_int (by walk_at "at") ?_)
  | (refine vd_callB (x := "len") (by assumption) does_len (by walk_at "at") ?_)
  | (refine vd_callB (x := "abs") (by assumption) does_abs (by walk_at "at") ?_)
  | (refine vd_ixo (by assumption) (by walk_at "at") rfl ?_)
  | refine vd_ix ?_)
local macro_rules | `(tactic| walk_at "sw") => `(tactic| (intro env h; cases env; dsimp only at h; subst h; rfl))
local macro_rules | `(tactic| walk_at "vv") => `(tactic| repeat (walk_at "v"))
/-! ### _law_here -/
structure Sr where
  b : Str
  x : Int
def gname (i : Nat) : Str := "g" ++ Str.ofString (toString (i : Int))
def srD (i : Nat) (s : Sr) : D := .tuple [.str (gname i), .str s.b, .int s.x]
def srsFrom : Nat → List Sr → List D
  | _, [] => []
  | i, s :: r => srD i s :: srsFrom (i + 1) r
theorem srs_len : ∀ {ss : List Sr} {i : Nat}, (srsFrom i ss).length = ss.length
  | [], _ => rfl
  | _ :: ss, i => congrArg (· + 1) (srs_len (ss := ss) (i := i + 1))
theorem lns_get {d : D} : ∀ {ls : List Ln} {i j : Nat}, (lnsFrom i ls)[j]? = some d → ∃ l, ls[j]? = some l ∧ d = lnD (i + j) l
  | [], i, j, h => by
    unfold lnsFrom at h
    simp at h
  | l :: ls, i, 0, h => by
    cases h
    exact ⟨l, rfl, rfl⟩
  | l :: ls, i, j + 1, h => by
    obtain ⟨l2, h1, h2⟩ := lns_get (ls := ls) (i := i + 1) (j := j) h
    exact ⟨l2, h1, by rw [h2, show i + 1 + j = i + (j + 1) by omega]⟩
theorem srs_get {d : D} : ∀ {ss : List Sr} {i j : Nat}, (srsFrom i ss)[j]? = some d → ∃ s, ss[j]? = some s ∧ d = srD (i + j) s
  | [], i, j, h => by
    unfold srsFrom at h
    simp at h
  | l :: ls, i, 0, h => by
    cases h
    exact ⟨l, rfl, rfl⟩
  | l :: ls, i, j + 1, h => by
    obtain ⟨l2, h1, h2⟩ := srs_get (ss := ls) (i := i + 1) (j := j) h
    exact ⟨l2, h1, by rw [h2, show i + 1 + j = i + (j + 1) by omega]⟩
def endAt (i : Nat) (l : Ln) (bus : Str) (e : Nat) : List Br := if (if e = 0 then l.o else l.t) = bus then [(lname i, (e : Int))] else []
def hereLn (i : Nat) (l : Ln) (bus : Str) : List Br := endAt i l bus 0 ++ endAt i l bus 1
def hereLs : Nat → List Ln → Str → List Br
  | _, [], _ => []
  | i, l :: r, bus => hereLn i l bus ++ hereLs (i + 1) r bus
theorem hereLs_snoc {l : Ln} {bus : Str} : ∀ {ls : List Ln} {i : Nat}, hereLs i (ls ++ [l]) bus = hereLs i ls bus ++ hereLn (i + ls.length) l bus
  | [], i => by
    show hereLn i l bus ++ [] = [] ++ hereLn i l bus
    rw [List.append_nil, List.nil_append]
  | a :: ls, i => by
    show hereLn i a bus ++ hereLs (i + 1) (ls ++ [l]) bus = (hereLn i a bus ++ hereLs (i + 1) ls bus) ++ hereLn (i + (ls.length + 1)) l bus
    rw [hereLs_snoc (ls := ls) (i := i + 1), List.append_assoc, show i + 1 + ls.length = i + (ls.length + 1) by omega]
def hereSr (i : Nat) (s : Sr) (bus : Str) : List Br := if s.b = bus then [(gname i, 0)] else []
def hereSs : Nat → List Sr → Str → List Br
  | _, [], _ => []
  | i, s :: r, bus => hereSr i s bus ++ hereSs (i + 1) r bus
theorem hereSs_snoc {s : Sr} {bus : Str} : ∀ {ss : List Sr} {i : Nat}, hereSs i (ss ++ [s]) bus = hereSs i ss bus ++ hereSr (i + ss.length) s bus
  | [], i => by
    show hereSr i s bus ++ [] = [] ++ hereSr i s bus
    rw [List.append_nil, List.nil_append]
  | a :: ss, i => by
    show hereSr i a bus ++ hereSs (i + 1) (ss ++ [s]) bus = (hereSr i a bus ++ hereSs (i + 1) ss bus) ++ hereSr (i + (ss.length + 1)) s bus
    rw [hereSs_snoc (ss := ss) (i := i + 1), List.append_assoc, show i + 1 + ss.length = i + (ss.length + 1) by omega]
theorem endAt_len {i : Nat} {l : Ln} {bus : Str} {e : Nat} : (endAt i l bus e).length ≤ 1 := by
  unfold endAt
  by_cases h : (if e = 0 then l.o else l.t) = bus
  · rw [if_pos h]
    exact Nat.le_refl _
  · rw [if_neg h]
    exact Nat.zero_le _
theorem hereLn_len {i : Nat} {l : Ln} {bus : Str} : (hereLn i l bus).length ≤ 2 := by
  unfold hereLn
  rw [List.length_append]
  have h1 := endAt_len (i := i) (l := l) (bus := bus) (e := 0)
  have h2 := endAt_len (i := i) (l := l) (bus := bus) (e := 1)
  omega
theorem hereLs_len {bus : Str} : ∀ {ls : List Ln} {i : Nat}, (hereLs i ls bus).length ≤ 2 * ls.length
  | [], _ => Nat.le_refl _
  | l :: ls, i => by
    have h1 := hereLn_len (i := i) (l := l) (bus := bus)
    have h2 := hereLs_len (bus := bus) (ls := ls) (i := i + 1)
    show (hereLn i l bus ++ hereLs (i + 1) ls bus).length ≤ _
    rw [List.length_append, List.length_cons]
    omega
theorem hereSs_len {bus : Str} : ∀ {ss : List Sr} {i : Nat}, (hereSs i ss bus).length ≤ ss.length
  | [], _ => Nat.le_refl _
  | l :: ls, i => by
    have h1 : (hereSr i l bus).length ≤ 1 := by
      unfold hereSr
      by_cases h : l.b = bus
      · rw [if_pos h]
        exact Nat.le_refl _
      · rw [if_neg h]
        exact Nat.zero_le _
    have h2 := hereSs_len (bus := bus) (ss := ls) (i := i + 1)
    show (hereSr i l bus ++ hereSs (i + 1) ls bus).length ≤ _
    rw [List.length_append, List.length_cons]
    omega
/-- the breakers at a bus, lines' ahead of sources' -/
def hereL (ls : List Ln) (ss : List Sr) (bus : Str) : List Br := hereLs 0 ls bus ++ hereSs 0 ss bus
def SHere : List D → (D → Prop) → Prop := fun ds W => ∃ (bd : D) (ls : List Ln) (ss : List Sr) (bus : Str), ds = [.tuple [bd, .tuple (lnsFrom 0 ls), .tuple (srsFrom 0 ss)], .str bus] ∧ ls.length ≤ 2 ∧ ss.length ≤ 3 ∧ ∀ bs : List Br, bs.Perm (hereL ls ss bus) → Asc bs → W (.tuple (bs.map brD))
theorem fHere {M : Md} [Cold M] {f : Addr} {fd : FuncData} (mt : M.mg "tuple" = none) (mo : M.mg "sorted" = none)
    (F : Fun M.K "_law_here" "_law_here" sLHere f fd) (hm : M.mg "_law_here" = some (.ref f)) (b : L2.Binds M.K fd ["net", "bus"] []) : FnD M 1 "_law_here" 2 SHere := by
  refine fnD_mk (k := 0) (NK := nkLHere) (G := gLHere) F scLHere hm b rfl (by decide +kernel) rfl (by decide) fun X C ds W hl hS => ?_
  obtain ⟨bd, ls, ss, bus, rfl, l2, s3, w⟩ := hS
  show VSs X _ [.dat (.tuple [bd, .tuple (lnsFrom 0 ls), .tuple (srsFrom 0 ss)]), .dat (.str bus), .no, .no, .no, .no, .no, .no, .no] _
  refine vss_cons (vs_new C (i := 2) (by walk_at "at") (by show 2 < 9; decide) (vn_lst (va_nil ⟨by decide, fun z => ?_⟩)))
  show VSs X _ [.dat (.tuple [bd, .tuple (lnsFrom 0 ls), .tuple (srsFrom 0 ss)]), .dat (.str bus), .own z (.l (([] : List Br).map brD)), .no, .no, .no, .no, .no, .no] _
  refine vss_cons (vs_for C ?_)
  refine vi_tup ?_
  walk_at "vv"
  refine ⟨_, rfl, lnsFrom 0 ls, rfl, ?_⟩
  refine ⟨fun j ρ' => ∃ (z : Addr) (s3 s4 s5 s6 : Sl), ρ' = [.dat (.tuple [bd, .tuple (lnsFrom 0 ls), .tuple (srsFrom 0 ss)]), .dat (.str bus), .own z (.l ((hereLs 0 (ls.take j) bus).map brD)), s3, s4, s5, s6, .no, .no], ⟨z, _, _, _, _, rfl⟩, fun j d ρ' hj hW => ?_, fun ρ' hW => ?_⟩
  · obtain ⟨z, s3, s4, s5, s6, rfl⟩ := hW
    obtain ⟨l, hlj, rfl⟩ := lns_get hj
    have jl := (List.getElem?_eq_some_iff.mp hlj).1
    rw [Nat.zero_add] at *
    have step : hereLs 0 (ls.take (j + 1)) bus = hereLs 0 (ls.take j) bus ++ hereLn j l bus := by
      rw [List.take_succ, hlj]
      show hereLs 0 (ls.take j ++ [l]) bus = _
      rw [hereLs_snoc, List.length_take, Nat.min_eq_left (Nat.le_of_lt jl), Nat.zero_add]
    unfold lnD
    refine vg_tup C ?_
    walk_at "v"
    walk_at "v"
    walk_at "v"
    walk_at "v"
    walk_at "v"
    walk_at "v"
    walk_at "v"
    walk_at "v"
    walk_at "v"
    show VSs X _ [.dat (.tuple [bd, .tuple (lnsFrom 0 ls), .tuple (srsFrom 0 ss)]), .dat (.str bus), .own z (.l ((hereLs 0 (ls.take j) bus).map brD)), .dat (.str (lname j)), .dat (.str l.o), .dat (.str l.t), .dat (.int l.x), .no, .no] _
    refine vss_one (vs_new C (i := 2) (by walk_at "at") (by show 2 < 9; decide) (vn_catO C (by walk_at "at") rfl (vn_vd ?_)))
    refine vn_lcIf C nkLHere0 gLHere0 (i := 7) (by walk_at "at") ?_
    refine vi_tup ?_
    walk_at "vv"
    refine ⟨by show 2 ≤ 1000; decide, _, rfl, by show 2 ≤ 100000; decide, fun jj acc ρ' => acc = (if jj = 0 then [] else if jj = 1 then endAt j l bus 0 else hereLn j l bus).map brD ∧ ρ' = [.dat (.tuple [bd, .tuple (lnsFrom 0 ls), .tuple (srsFrom 0 ss)]), .dat (.str bus), .own z (.l ((hereLs 0 (ls.take j) bus).map brD)), .dat (.str (lname j)), .dat (.str l.o), .dat (.str l.t), .dat (.int l.x), .no, .no], ⟨rfl, rfl⟩, fun jj d acc ρ' hj hW X' C' => ?_, fun acc ρ' hW => ?_⟩
    · obtain ⟨rfl, rfl⟩ := hW
      match jj, hj with
      | 0, hj =>
        cases hj
        refine vt_eqS ?_
        walk_at "vv"
        refine ⟨by show 2 ≤ 1000; decide, ?_⟩
        walk_at "vv"
        refine ⟨.str l.o, rfl, ?_⟩
        walk_at "v"
        refine ⟨l.o, bus, rfl, rfl, fun h X'' C'' => ?_, fun h => ?_⟩
        · walk_at "vv"
          refine ⟨by show 2 ≤ 1000; decide, ?_, rfl⟩
          have e : endAt j l bus 0 = [(lname j, 0)] := by
            unfold endAt
            rw [if_pos rfl, if_pos (of_decide_eq_true h)]
            rfl
          show _ = (endAt j l bus 0).map brD
          rw [e]
          rfl
        · refine ⟨?_, rfl⟩
          have e : endAt j l bus 0 = [] := by
            unfold endAt
            rw [if_pos rfl, if_neg (of_decide_eq_false h)]
          show _ = (endAt j l bus 0).map brD
          rw [e]
          rfl
      | 1, hj =>
        cases hj
        refine vt_eqS ?_
        walk_at "vv"
        refine ⟨by show 2 ≤ 1000; decide, ?_⟩
        walk_at "vv"
        refine ⟨.str l.t, rfl, ?_⟩
        walk_at "v"
        refine ⟨l.t, bus, rfl, rfl, fun h X'' C'' => ?_, fun h => ?_⟩
        · walk_at "vv"
          refine ⟨by show 2 ≤ 1000; decide, ?_, rfl⟩
          have e : endAt j l bus 1 = [(lname j, 1)] := by
            unfold endAt
            rw [show (if (1 : Nat) = 0 then l.o else l.t) = l.t from rfl, if_pos (of_decide_eq_true h)]
            rfl
          show (endAt j l bus 0).map brD ++ _ = (hereLn j l bus).map brD
          unfold hereLn
          rw [e, List.map_append]
          rfl
        · refine ⟨?_, rfl⟩
          have e : endAt j l bus 1 = [] := by
            unfold endAt
            rw [show (if (1 : Nat) = 0 then l.o else l.t) = l.t from rfl, if_neg (of_decide_eq_false h)]
          show (endAt j l bus 0).map brD = (hereLn j l bus).map brD
          unfold hereLn
          rw [e, List.append_nil]
      | jj + 2, hj => simp at hj
    · obtain ⟨rfl, rfl⟩ := hW
      refine ⟨(hereLs 0 (ls.take j) bus).map brD, (hereLn j l bus).map brD, rfl, rfl, ?_, fun z => ⟨z, .dat (.str (lname j)), .dat (.str l.o), .dat (.str l.t), .dat (.int l.x), ?_⟩⟩
      · have h1 := hereLs_len (bus := bus) (ls := ls.take j) (i := 0)
        have h2 := hereLn_len (i := j) (l := l) (bus := bus)
        rw [List.length_map, List.length_map]
        rw [List.length_take] at h1
        omega
      · rw [step, List.map_append]
        rfl
  · obtain ⟨z, s3, s4, s5, s6, rfl⟩ := hW
    rw [lns_len, List.take_length]
    refine vss_one (vs_ret (vd_callT C (x := "tuple") does_tupleL (by walk_at "at") (va_cons (vn_vd (vn_sortBr C (by walk_at "at") (vn_vd (vn_catO C (by walk_at "at") rfl (vn_vd ?_))))))))
    refine vn_lcNIf (own := [("name", 3), ("at", 8), ("x", 6)]) C nkLHere1 gLHere1 (fun X' C' => pgs_tN C' (by walk_at "at") (pgs_tN C' (by walk_at "at") (pgs_tN C' (by walk_at "at") pgs_tN0))) ?_
    refine vi_tup ?_
    walk_at "vv"
    refine ⟨_, rfl, srsFrom 0 ss, rfl, by rw [srs_len]; omega, fun j acc ρ' => acc = (hereSs 0 (ss.take j) bus).map brD ∧ ∃ s3 s6 : Sl, ρ' = [.dat (.tuple [bd, .tuple (lnsFrom 0 ls), .tuple (srsFrom 0 ss)]), .dat (.str bus), .own z (.l ((hereLs 0 ls bus).map brD)), s3, s4, s5, s6, .no, .no], ⟨rfl, _, _, rfl⟩, fun j d acc ρ' hj hW => ?_, fun acc ρ' hW => ?_⟩
    · obtain ⟨rfl, s3, s6, rfl⟩ := hW
      obtain ⟨s, hsj, rfl⟩ := srs_get hj
      have jl := (List.getElem?_eq_some_iff.mp hsj).1
      have step : hereSs 0 (ss.take (j + 1)) bus = hereSs 0 (ss.take j) bus ++ hereSr (0 + j) s bus := by
        rw [List.take_succ, hsj]
        show hereSs 0 (ss.take j ++ [s]) bus = _
        rw [hereSs_snoc, List.length_take, Nat.min_eq_left (Nat.le_of_lt jl)]
      refine ⟨_, rfl, rfl, fun X' C' => ?_⟩
      show VT X' _ [.dat (.tuple [bd, .tuple (lnsFrom 0 ls), .tuple (srsFrom 0 ss)]), .dat (.str bus), .own z (.l ((hereLs 0 ls bus).map brD)), .dat (.str (gname (0 + j))), s4, s5, .dat (.int s.x), .no, .dat (.str s.b)] _
      refine vt_eqS ?_
      walk_at "v"
      walk_at "v"
      refine ⟨s.b, bus, rfl, rfl, fun h X'' C'' => ?_, fun h => ?_⟩
      · walk_at "vv"
        refine ⟨by show 2 ≤ 1000; decide, ?_, .no, .no, rfl⟩
        rw [step, List.map_append]
        unfold hereSr
        rw [if_pos (of_decide_eq_true h)]
        rfl
      · refine ⟨?_, .no, .no, rfl⟩
        rw [step]
        unfold hereSr
        rw [if_neg (of_decide_eq_false h), List.append_nil]
    · obtain ⟨rfl, s3, s6, rfl⟩ := hW
      rw [srs_len, List.take_length]
      refine ⟨_, _, rfl, rfl, ?_, hereLs 0 ls bus ++ hereSs 0 ss bus, by rw [List.map_append], ?_, fun bs hp ha => ?_⟩
      · have h1 := hereLs_len (bus := bus) (ls := ls) (i := 0)
        have h2 := hereSs_len (bus := bus) (ss := ss) (i := 0)
        rw [List.length_map, List.length_map]
        omega
      · have h1 := hereLs_len (bus := bus) (ls := ls) (i := 0)
        have h2 := hereSs_len (bus := bus) (ss := ss) (i := 0)
        rw [List.length_append]
        omega
      · exact va_nil ⟨_, rfl, w bs hp ha⟩

end K5

/-! Vc, part dA: tuples joined, cut. -/
namespace Vc
open PySem PySem.Spec PyProof.Rows L2
open Evl (Ex)
section
variable {X : Cx} {ρ : En} {P : D → En → Prop} {pos p2 : Pos} {a b : Expr}
/-- a + b, tuples -/
theorem vd_catA (h : VD X a ρ fun x ρ1 => VD X b ρ1 fun y ρ2 => ∃ xs ys, x = .tuple xs ∧ y = .tuple ys ∧ xs.length + ys.length ≤ 100000 ∧ P (.tuple (xs ++ ys)) ρ2) : VD X (.BinOp a .Add b pos) ρ P := VD.mk fun B H σ Q r q => by
  refine PE.sem (pe_op op_catA pe_sem pe_sem) ?_
  refine h.run B H σ _ r fun vx x B1 H1 ρ1 p1 dx g1 r1 => ?_
  refine p1.run B1 H1 σ _ r1 fun vy y B2 H2 ρ2 p2 dy g2 r2 => ?_
  obtain ⟨xs, ys, rfl, rfl, hz, pp⟩ := p2
  obtain ⟨t, us, rfl, hT, hu⟩ := dp_tup dx
  obtain ⟨t', ws, rfl, hT', hw⟩ := dp_tup dy
  have sl := sizeLine_eq
  have hu2 := DpAll.mono g2.ex hu
  refine ⟨t, t', us, ws, rfl, rfl, ex_t (g2.ex.trans r2.ex) hT, ex_t r2.ex hT', by rw [DpAll.len hu, DpAll.len hw]; omega, fun e => ?_, fun e1 e2 => ?_, fun e1 e2 z hz2 => ?_⟩
  · have ex : xs = [] := List.length_eq_zero_iff.mp (by rw [← DpAll.len hu, e]; rfl)
    rw [ex, List.nil_append] at pp
    exact q _ _ B2 H2 ρ2 pp (.tup hT' hw) (g1.trans g2) r2
  · have ey : ys = [] := List.length_eq_zero_iff.mp (by rw [← DpAll.len hw, e2]; rfl)
    rw [ey, List.append_nil] at pp
    exact q _ _ B2 H2 ρ2 pp (.tup (ex_t g2.ex hT) hu2) (g1.trans g2) r2
  · obtain ⟨r3, g3⟩ := new_both (o := .tup (us ++ ws)) r2 hz2
    exact q _ _ _ _ ρ2 pp (.tup (.inl (.inl upd_same)) (DpAll.mono g3.ex (DpAll.app hu2 hw))) ((g1.trans g2).trans g3) r3
/-- t[:n] -/
theorem vd_takeA (h : VD X a ρ fun d ρ1 => VD X b ρ1 fun y ρ2 => ∃ (ds : List D) (n : Nat), d = .tuple ds ∧ y = .int (n : Int) ∧ P (.tuple (ds.take n)) ρ2) : VD X (.Subscript a (.Slice none (some b) none p2) pos) ρ P := VD.mk fun B H σ Q r q => by
  refine PE.sem (pe_slice sl_tupA pe_sem po_none (po_some pe_sem)) ?_
  refine h.run B H σ _ r fun v d B1 H1 ρ1 p1 dv g1 r1 => ?_
  refine p1.run B1 H1 σ _ r1 fun vy y B2 H2 ρ2 p2 dy g2 r2 => ?_
  obtain ⟨ds, n, rfl, rfl, p⟩ := p2
  obtain ⟨t, vs, rfl, hT, hv⟩ := dp_tup dv
  refine ⟨(n : Int), dp_int dy, t, vs, rfl, ex_t (g2.ex.trans r2.ex) hT, fun z => ?_, fun z w hw => ?_⟩
  · have z2 := z.2
    rw [HT.sIx_nat] at z2
    have hl := DpAll.len hv
    rw [List.take_of_length_le (by omega)] at p
    exact q _ _ B2 H2 ρ2 p (.tup (ex_t g2.ex hT) (DpAll.mono g2.ex hv)) (g1.trans g2) r2
  · rw [cut_take]
    obtain ⟨r3, g3⟩ := new_both (o := .tup (vs.take n)) r2 hw
    exact q _ _ _ _ ρ2 p (.tup (.inl (.inl upd_same)) (DpAll.mono g3.ex (DpAll.take n (DpAll.mono g2.ex hv)))) ((g1.trans g2).trans g3) r3
/-- t[n:] -/
theorem vd_dropA (h : VD X a ρ fun d ρ1 => VD X b ρ1 fun y ρ2 => ∃ (ds : List D) (n : Nat), d = .tuple ds ∧ y = .int (n : Int) ∧ P (.tuple (ds.drop n)) ρ2) : VD X (.Subscript a (.Slice (some b) none none p2) pos) ρ P := VD.mk fun B H σ Q r q => by
  refine PE.sem (pe_slice sl_tupA pe_sem (po_some pe_sem) po_none) ?_
  refine h.run B H σ _ r fun v d B1 H1 ρ1 p1 dv g1 r1 => ?_
  refine p1.run B1 H1 σ _ r1 fun vy y B2 H2 ρ2 p2 dy g2 r2 => ?_
  obtain ⟨ds, n, rfl, rfl, p⟩ := p2
  obtain ⟨t, vs, rfl, hT, hv⟩ := dp_tup dv
  refine ⟨(n : Int), dp_int dy, t, vs, rfl, ex_t (g2.ex.trans r2.ex) hT, fun z => ?_, fun z w hw => ?_⟩
  · have z1 := z.1
    rw [HT.sIx_nat] at z1
    have hl := DpAll.len hv
    have e : ds.drop n = ds := by
      by_cases q : n = 0
      · rw [q]
        rfl
      · have : ds = [] := List.length_eq_zero_iff.mp (by omega)
        rw [this, List.drop_nil]
    rw [e] at p
    exact q _ _ B2 H2 ρ2 p (.tup (ex_t g2.ex hT) (DpAll.mono g2.ex hv)) (g1.trans g2) r2
  · rw [cut_drop]
    obtain ⟨r3, g3⟩ := new_both (o := .tup (vs.drop n)) r2 hw
    exact q _ _ _ _ ρ2 p (.tup (.inl (.inl upd_same)) (DpAll.mono g3.ex (DpAll.drop n (DpAll.mono g2.ex hv)))) ((g1.trans g2).trans g3) r3
end
end Vc

namespace K5
open PySem PySem.Spec PyProof.Rows L2 Vc
local macro_rules | `(tactic| walk_at "at") => `(tactic| (repeat (first | with_reducible exact At.here | apply At.there)))
local macro_rules | `(tactic| walk_at "v") => `(tactic| first
  | refine vd_bin ?_
  | (refine vd_name (by assumption) (by walk_at "at") rfl ?_)
  | refine vd_int ?_
  | refine vd_bool ?_
  | refine vd_none ?_
  | refine vd_str ?_
  | refine vd_if ?_
  | (refine vd_neg ?_)
  | refine vd_tup ?_
  | refine va_nil ?_
  | refine va_cons ?_
  | refine vs_ret ?_
  | refine vss_nil ?_
  | refine vss_one ?_
  | refine vss_cons ?_
  | refine vs_if ?_
  | refine vt_cmp (by assumption) ?_
  | refine vs_set (by assumption) (by walk_at "at") ?_
  | refine vd_cmp (by assumption) ?_
  | refine vgs_nil ?_
  | refine vgs_cons ?_
  | refine vg_name (by assumption) (by walk_at "at") ?_
  | (refine vd_callT (x := "int") (by assumption) does_int (by walk_at "at") ?_)
  | (refine vd_callB (x := "len") (by assumption) does_len (by walk_at "at") ?_)
  | (refine vd_callB (x := "abs") (by assumption) does_abs (by walk_at "at") ?_)
  | (refine vd_ixo (by assumption) (by walk_at "at") rfl ?_)
  | refine vd_ix ?_)
local macro_rules | `(tactic| walk_at "sw") => `(tactic| (intro env h; cases env; dsimp only at h; subst h; rfl))
local macro_rules | `(tactic| walk_at "vv") => `(tactic| repeat (walk_at "v"))
/-! ### _law_looks -/
def fracT (q : Int × Int) : D := .tuple [.int q.1, .int q.2]
def nums9 : List (Int × Int) := [(1, 100), (1, 50), (1, 20), (1, 10), (1, 5), (1, 2), (2, 1), (5, 1), (20, 1)]
def nums5 : List (Int × Int) := [(1, 1), (2, 1), (4, 1), (8, 1), (1, 2)]
/-- names of buses and lines -/
def partsOf (bs : List Str) (m : Nat) : List Str := bs ++ (List.range m).map lname
/-- what a drawn guard looks at -/
inductive LookOk (bs : List Str) (m : Nat) (qs : List Br) : D → Prop where
  | over (q : Br) (n : Int × Int) (b : Bool) (hq : q ∈ qs) (hn : n ∈ nums9) : LookOk bs m qs (.tuple [.str "over", brD q, fracT n, .bool b])
  | reach (q : Br) (n : Int × Int) (hq : q ∈ qs) (hn : n ∈ nums5) : LookOk bs m qs (.tuple [.str "reach", brD q, fracT n])
  | behind (q : Br) (hq : q ∈ qs) : LookOk bs m qs (.tuple [.str "behind", brD q])
  | diff (x : Str) (n : Int × Int) (hx : x ∈ partsOf bs m) (hn : n ∈ (1, 1000) :: nums9) : LookOk bs m qs (.tuple [.str "difference", .str x, fracT n])
def SLooks : List D → List D → (D → List D → Prop) → Prop := fun cs ds W => ∃ (ns : List Int) (c : Nat) (bs : List Str) (ls : List Ln) (sd : D) (qs : List Br), cs = drw ns c ∧ ds = [.tuple [.tuple (bs.map PyData.str), .tuple (lnsFrom 0 ls), sd], .list (qs.map brD)] ∧ c ≤ 900000 ∧ 1 ≤ bs.length ∧ bs.length ≤ 3 ∧ ls.length ≤ 2 ∧ qs ≠ [] ∧
  ∀ (d : D) (c' : Nat), LookOk bs ls.length qs d → c' ≤ c + 10 → W d (drw ns c')
theorem map_mem {α : Type} {g : α → D} {x : D} {l : List α} (h : x ∈ l.map g) : ∃ a, a ∈ l ∧ x = g a := by
  obtain ⟨a, h1, h2⟩ := List.mem_map.mp h
  exact ⟨a, h1, h2.symm⟩
theorem fLooks {M : Md} [Cold M] {f : Addr} {fd : FuncData} (mt : M.mg "list" = none) (FX : FnM M 3 "_law_next" 1 SNext) (FP : FnM M 4 "_law_pick" 1 SPick)
    (F : Fun M.K "_law_looks" "_law_looks" sLLooks f fd) (hm : M.mg "_law_looks" = some (.ref f)) (b : L2.Binds M.K fd ["draw", "net", "breakers"] []) : FnM M 5 "_law_looks" 2 SLooks := by
  refine fnM_mk (k := 4) (NK := nkLLooks) (G := gLLooks) F scLLooks hm b rfl (by decide +kernel) rfl (by decide) fun X C p cs ds W hl hS => ?_
  obtain ⟨ns, c, bs, ls, sd, qs, rfl, rfl, hc, b1, b3, l2, nq, w⟩ := hS
  have lq : 0 < qs.length := List.length_pos_iff.mpr nq
  show VSs X _ [.own p (drw ns c), .dat (.tuple [.tuple (bs.map PyData.str), .tuple (lnsFrom 0 ls), sd]), .dat (.list (qs.map brD)), .no, .no, .no, .no] _
  refine vss_cons (vs_par C (by walk_at "at") (by walk_at "at") (by decide) ?_ (by walk_at "sw"))
  refine vd_callO C FX (by walk_at "at") (by walk_at "at") rfl ?_
  walk_at "vv"
  refine ⟨rfl, _, rfl, ns, c, 6, rfl, rfl, by omega, by decide, fun kd k0 k1 => ?_⟩
  refine vd_callO C FP (by walk_at "at") (by walk_at "at") rfl ?_
  walk_at "vv"
  refine ⟨rfl, _, rfl, ns, c + 1, _, rfl, .inl rfl, by omega, by rw [List.length_map]; exact lq, fun x hx => ?_⟩
  obtain ⟨q, hq, rfl⟩ := map_mem hx
  walk_at "v"
  walk_at "v"
  refine vd_callO C FP (by walk_at "at") (by walk_at "at") rfl ?_
  refine va_cons (vn_vd (vn_lst ?_))
  walk_at "vv"
  iterate 9 (refine ⟨by show 2 ≤ 1000; decide, ?_⟩; walk_at "vv")
  refine ⟨by show 9 ≤ 1000; decide, va_nil ⟨rfl, _, rfl, ns, c + 1 + 1, nums9.map fracT, rfl, .inl rfl, by omega, by decide, fun x hx => ?_⟩⟩
  obtain ⟨n, hn, rfl⟩ := map_mem hx
  show VSs X _ [.own p (drw ns (c + 1 + 1 + 1)), .dat (.tuple [.tuple (bs.map PyData.str), .tuple (lnsFrom 0 ls), sd]), .dat (.list (qs.map brD)), .dat (.int kd), .dat (brD q), .dat (fracT n), .no] _
  refine vss_cons (vs_if (vt_cmp C ?_))
  walk_at "vv"
  refine ⟨fun h => ?_, fun h => ?_⟩
  · walk_at "v"
    walk_at "v"
    refine vd_tup (va_cons (vd_str (va_cons ?_)))
    walk_at "vv"
    refine vd_callO C FX (by walk_at "at") (by walk_at "at") rfl ?_
    walk_at "vv"
    refine ⟨rfl, _, rfl, ns, c + 1 + 1 + 1, 2, rfl, rfl, by omega, by decide, fun r r0 r1 => ?_⟩
    walk_at "vv"
    refine ⟨by show 4 ≤ 1000; decide, _, rfl, w _ _ (.over q n _ hq hn) (by omega)⟩
  · refine vss_nil ?_
    refine vss_cons (vs_if (vt_cmp C ?_))
    walk_at "vv"
    refine ⟨fun h => ?_, fun h => ?_⟩
    · walk_at "v"
      walk_at "v"
      refine vd_tup (va_cons (vd_str (va_cons ?_)))
      walk_at "v"
      refine va_cons (vd_callO C FP (by walk_at "at") (by walk_at "at") rfl ?_)
      refine va_cons (vn_vd (vn_lst ?_))
      walk_at "vv"
      iterate 5 (refine ⟨by show 2 ≤ 1000; decide, ?_⟩; walk_at "vv")
      refine ⟨by show 5 ≤ 1000; decide, va_nil ⟨rfl, _, rfl, ns, c + 1 + 1 + 1, nums5.map fracT, rfl, .inl rfl, by omega, by decide, fun x hx => ?_⟩⟩
      obtain ⟨n5, hn5, rfl⟩ := map_mem hx
      exact va_nil ⟨by show 3 ≤ 1000; decide, _, rfl, w _ _ (.reach q n5 hq hn5) (by omega)⟩
    · refine vss_nil ?_
      refine vss_cons (vs_if (vt_cmp C ?_))
      walk_at "vv"
      refine ⟨fun h => ?_, fun h => ?_⟩
      · walk_at "v"
        walk_at "v"
        refine vd_tup (va_cons (vd_str (va_cons ?_)))
        walk_at "vv"
        exact ⟨by show 2 ≤ 1000; decide, _, rfl, w _ _ (.behind q hq) (by omega)⟩
      · refine vss_nil ?_
        walk_at "v"
        walk_at "v"
        refine vd_tup (va_cons (vd_str (va_cons (vd_callO C FP (by walk_at "at") (by walk_at "at") rfl ?_))))
        refine va_cons (vn_vd (vn_cat (vn_vd (vn_listT C (by walk_at "at") ?_))))
        walk_at "vv"
        refine ⟨_, rfl, ?_⟩
        refine ⟨bs.map PyData.str, rfl, ?_⟩
        refine vn_vd (vn_lc C nkLLooks0 gLLooks0 (i := 6) (by walk_at "at") ?_)
        refine vi_tup ?_
        walk_at "vv"
        refine ⟨_, rfl, lnsFrom 0 ls, rfl, by rw [lns_len]; omega, fun j acc ρ' => acc = ((List.range j).map lname).map PyData.str ∧ ρ' = [.own p (drw ns (c + 1 + 1 + 1)), .dat (.tuple [.tuple (bs.map PyData.str), .tuple (lnsFrom 0 ls), sd]), .dat (.list (qs.map brD)), .dat (.int kd), .dat (brD q), .dat (fracT n), .no], ⟨rfl, rfl⟩, fun j d acc ρ' hj hW X' C' => ?_, fun acc ρ' hW => ?_⟩
        · obtain ⟨rfl, rfl⟩ := hW
          obtain ⟨l, hlj, rfl⟩ := lns_get hj
          walk_at "vv"
          refine ⟨.str (lname (0 + j)), rfl, ?_, rfl⟩
          rw [List.range_succ, List.map_append, List.map_append, Nat.zero_add]
          rfl
        · obtain ⟨rfl, rfl⟩ := hW
          rw [lns_len]
          have ep : bs.map PyData.str ++ ((List.range ls.length).map lname).map PyData.str = (partsOf bs ls.length).map PyData.str := by
            unfold partsOf
            rw [List.map_append]
          refine ⟨bs.map PyData.str, ((List.range ls.length).map lname).map PyData.str, rfl, rfl, by rw [List.length_map, List.length_map, List.length_map, List.length_range]; omega, ?_⟩
          rw [ep]
          refine va_nil ⟨rfl, _, rfl, ns, c + 1 + 1 + 1, _, rfl, .inl rfl, by omega, ?_, fun x hx => ?_⟩
          · unfold partsOf
            rw [List.length_map, List.length_append]
            omega
          obtain ⟨xp, hxp, rfl⟩ := map_mem hx
          refine va_cons (vd_callO C FP (by walk_at "at") (by walk_at "at") rfl ?_)
          refine va_cons (vn_vd (vn_lst ?_))
          walk_at "vv"
          refine ⟨by show 2 ≤ 1000; decide, ?_⟩
          walk_at "vv"
          refine ⟨by show 2 ≤ 1000; decide, ?_⟩
          walk_at "vv"
          refine ⟨by show 3 ≤ 1000; decide, va_nil ⟨rfl, _, rfl, ns, c + 1 + 1 + 1 + 1, [fracT (1, 1000), fracT (1, 100), fracT n], rfl, .inl rfl, by omega, by show 0 < 3; decide, fun x hx => ?_⟩⟩
          obtain ⟨n7, hn7, rfl⟩ : ∃ n7, n7 ∈ (1, 1000) :: nums9 ∧ x = fracT n7 := by
            simp only [List.mem_cons, List.not_mem_nil, or_false] at hx
            rcases hx with rfl | rfl | rfl
            · exact ⟨_, List.mem_cons_self, rfl⟩
            · exact ⟨(1, 100), by decide, rfl⟩
            · exact ⟨n, List.mem_cons_of_mem _ hn, rfl⟩
          exact va_nil ⟨by show 3 ≤ 1000; decide, _, rfl, w _ _ (.diff xp n7 hxp hn7) (by omega)⟩

end K5

/-! Vc, part dF: sorted pairs as a function; rows whose parts may raise. -/
namespace Vc
open PySem PySem.Spec PyProof.Rows L2
open Evl (Ex)
def insB (q : Br) : List Br → List Br
  | [] => [q]
  | r :: l => if ltB r q = true then r :: insB q l else q :: r :: l
def sortB : List Br → List Br
  | [] => []
  | q :: l => insB q (sortB l)
theorem insB_perm (q : Br) : ∀ l : List Br, (insB q l).Perm (q :: l)
  | [] => List.Perm.refl _
  | r :: l => by
    unfold insB
    split
    · exact ((insB_perm q l).cons r).trans (List.Perm.swap q r l)
    · exact List.Perm.refl _
theorem sortB_perm : ∀ l : List Br, (sortB l).Perm l
  | [] => List.Perm.refl _
  | q :: l => (insB_perm q (sortB l)).trans ((sortB_perm l).cons q)
theorem le_trans3 {a b c : Br} (h1 : ltB b a = false) (h2 : ltB c b = false) : ltB c a = false := by
  by_cases e1 : a = b
  · rw [e1]
    exact h2
  · have l1 : ltB a b = true := (ltB_total e1).resolve_right (by rw [h1]; decide)
    by_cases e2 : b = c
    · rw [← e2]
      exact h1
    · have l2 : ltB b c = true := (ltB_total e2).resolve_right (by rw [h2]; decide)
      have l3 := ltB_trans l1 l2
      cases e : ltB c a with
      | false => rfl
      | true =>
        have := ltB_trans l3 e
        rw [ltB_irr] at this
        cases this
theorem insB_asc (q : Br) : ∀ {l : List Br}, Asc l → Asc (insB q l)
  | [], _ => List.pairwise_singleton _ _
  | r :: l, h => by
    obtain ⟨h1, h2⟩ := List.pairwise_cons.mp h
    unfold insB
    split
    · rename_i hl
      refine List.pairwise_cons.mpr ⟨fun x hx => ?_, insB_asc q h2⟩
      rcases List.mem_cons.mp ((insB_perm q l).mem_iff.mp hx) with rfl | hx
      · cases e : ltB x r with
        | false => rfl
        | true =>
          have := ltB_trans hl e
          rw [ltB_irr] at this
          cases this
      · exact h1 x hx
    · rename_i hl
      have hq : ltB r q = false := by simpa using hl
      refine List.pairwise_cons.mpr ⟨fun x hx => ?_, h⟩
      rcases List.mem_cons.mp hx with rfl | hx
      · exact hq
      · exact le_trans3 hq (h1 x hx)
theorem sortB_asc : ∀ l : List Br, Asc (sortB l)
  | [] => List.Pairwise.nil
  | q :: l => insB_asc q (sortB_asc l)
theorem asc_same : ∀ {l m : List Br}, l.Perm m → Asc l → Asc m → l = m
  | [], m, p, _, _ => (List.nil_perm.mp p).symm
  | a :: l, [], p, _, _ => (List.perm_nil.mp p)
  | a :: l, b :: m, p, h1, h2 => by
    obtain ⟨a1, a2⟩ := List.pairwise_cons.mp h1
    obtain ⟨b1, b2⟩ := List.pairwise_cons.mp h2
    have e : a = b := by
      by_cases e : a = b
      · exact e
      · have ha : a ∈ m := by
          rcases List.mem_cons.mp (p.mem_iff.mp List.mem_cons_self) with z | z
          · exact absurd z e
          · exact z
        have hb : b ∈ l := by
          rcases List.mem_cons.mp (p.symm.mem_iff.mp List.mem_cons_self) with z | z
          · exact absurd z.symm e
          · exact z
        rcases ltB_total e with z | z
        · rw [b1 a ha] at z
          cases z
        · rw [a1 b hb] at z
          cases z
    subst e
    rw [asc_same ((List.perm_cons a).mp p) a2 b2]
theorem sortB_uniq {l m : List Br} (p : m.Perm l) (h : Asc m) : m = sortB l := asc_same (p.trans (sortB_perm l).symm) h (sortB_asc l)

open PySem PySem.Spec PyProof.Rows L2
open Evl (Ex)
section
variable {X : Cx} {M : Md} {sc : Scope} {NK : List (Str × Bool × Bool)} {G : List Str} {k : Nat} {ρ : En} {P : D → En → Prop} {PB : Bool → En → Prop} {PL : List D → En → Prop} {PP : List (D × D) → En → Prop} {pos : Pos} {e a b tg : Expr} {x y : Str}
theorem lc_read2If {B H : Hp} {σ : L2.St} {Q : VK} {scope : Scope} {i1 i2 : Nat} {elt iter tst : Expr} {Cb : Cx → Prop} (ne : i1 ≠ i2) (r : Rel (kwOf X) B H σ ρ)
    (cb : ∀ (s : Shared) (H : Hp) (Ca : Addr) (cl : List (Str × Addr)) (fp : List Addr), Cb (X.blk s H scope (compEnvC scope cl Ca X.env) fp))
    (h : VP X tg iter ρ fun ds ρ1 => ds.length ≤ 100000 ∧ ∃ W : Nat → List D → En → Prop, W 0 [] ρ1 ∧
      (∀ (j : Nat) d1 d2 acc ρ', ds[j]? = some (d1, d2) → W j acc ρ' → ∀ X', Cb X' → VT X' tst ((ρ'.set i1 (.dat d1)).set i2 (.dat d2)) fun bb ρ3 => (bb = true → ∀ X'', Cb X'' → VD X'' elt ρ3 fun u ρ4 => W (j + 1) (acc ++ [u]) ((ρ4.set i1 .no).set i2 .no)) ∧ (bb = false → W (j + 1) acc ((ρ3.set i1 .no).set i2 .no))) ∧
      ∀ acc ρ', W ds.length acc ρ' → PL acc ρ')
    (q : ∀ p vs ds B' H' ρ', PL ds ρ' → H p = none → H' p = some (.lst vs) → B' p = none → ¬ Own ρ' p → DpAll X.K B' vs ds → Go B H ρ B' H' ρ' → Rel (kwOf X) B' H' σ ρ' → Q (.ref p) H') :
    tLc (iSemI X tg iter) (gTup X.K 2 (t2 i1 i2)) (uTst X scope tst) (uSem X scope elt) [i1, i2] σ H Q := by
  refine h.run B H σ _ r fun J ds B1 H1 ρ1 p1 yl g1 r1 Dl hD => ?_
  obtain ⟨hlen, W, w0, step, done⟩ := p1
  have bD : B1 Dl = none := by
    cases e : B1 Dl with
    | none => rfl
    | some u =>
      rw [r1.ex Dl u e] at hD
      cases hD
  have nD : ¬ Own ρ1 Dl := fun ⟨j, es, hj⟩ => by
    obtain ⟨_, _, ws, h7, _⟩ := r1.own j Dl es hj
    rw [hD] at h7
    cases h7
  refine ⟨fun j m H' => m = ds.length - j ∧ j ≤ ds.length ∧ ∃ acc vs B' ρ', W j acc ρ' ∧ acc.length ≤ j ∧ H' Dl = some (.lst vs) ∧ B' Dl = none ∧ ¬ Own ρ' Dl ∧ DpAll X.K B' vs acc ∧ Go B1 H1 ρ1 B' H' ρ' ∧ Rel (kwOf X) B' H' σ ρ', ⟨ds.length, by omega, by omega, [], [], B1, ρ1, w0, Nat.le_refl _, upd_same, bD, nD, .nil, (acc_put Go.refl r1 hD bD nD).1, (acc_put Go.refl r1 hD bD nD).2⟩, ?_⟩
  rintro j m H' ⟨rfl, hj, acc, vs, B', ρ', w, hacc, hl, bl, nl, dacc, g, r'⟩
  obtain ⟨y1, y2⟩ := yl j B' H' g.ex r'.ex
  by_cases hlt : j < ds.length
  · obtain ⟨go, yy⟩ := y1 hlt
    refine .inr ⟨go, fun H2 => ∃ acc vs B' ρ', W (j + 1) acc ρ' ∧ acc.length ≤ j + 1 ∧ H2 Dl = some (.lst vs) ∧ B' Dl = none ∧ ¬ Own ρ' Dl ∧ DpAll X.K B' vs acc ∧ Go B1 H1 ρ1 B' H2 ρ' ∧ Rel (kwOf X) B' H2 σ ρ', fun H2 hN2 => ⟨ds.length - (j + 1), by omega, rfl, hlt, hN2⟩, fun x H2 hy2 => ?_⟩
    obtain ⟨T, x1, x2, d1, d2, rfl, alt, hd, dx1, dx2⟩ := yy x H2 hy2
    have st := step j d1 d2 acc ρ' hd w
    -- the pair, old or new
    obtain ⟨B2, r2, g2, sq, hl2, bl2⟩ : ∃ B2, Rel (kwOf X) B2 H2 σ ρ' ∧ Go B' H' ρ' B2 H2 ρ' ∧ SqT X.K B2 T [x1, x2] ∧ H2 Dl = some (.lst vs) ∧ B2 Dl = none := by
      rcases alt with ⟨rfl, sq⟩ | ⟨hT, rfl⟩
      · exact ⟨B', r', Go.refl, sq, hl, bl⟩
      · obtain ⟨r2, g2⟩ := new_both (o := .tup [x1, x2]) r' hT
        have nT : Dl ≠ T := fun e => by
          rw [e, hT] at hl
          cases hl
        exact ⟨_, r2, g2, .inl (.inl upd_same), by rw [upd_ne nT]; exact hl, by rw [upd_ne nT]; exact bl⟩
    have dy1 := Dp.mono g2.ex dx1
    have dy2 := Dp.mono g2.ex dx2
    refine ⟨T, [x1, x2], rfl, ex_t r2.ex sq, rfl, x1, x2, rfl, ?_⟩
    have rw1 : Rel (kwOf X) B2 H2 (((wipe σ [i1, i2]).set i1 (some x1)).set i2 (some x2)) ((ρ'.set i1 (.dat d1)).set i2 (.dat d2)) := by
      have a1 : Rel (kwOf X) B2 H2 (σ.set i2 none) (ρ'.set i2 .no) := rel_no r2 (by rw [List.set_set])
      have a2 : Rel (kwOf X) B2 H2 ((σ.set i2 none).set i1 none) ((ρ'.set i2 .no).set i1 .no) := rel_no a1 (by rw [List.set_set])
      have a3 := rel_set (i := i2) (rel_set (i := i1) a2 dy1) dy2
      have e3 : ((((ρ'.set i2 Sl.no).set i1 Sl.no).set i1 (Sl.dat d1)).set i2 (Sl.dat d2)) = (ρ'.set i1 (.dat d1)).set i2 (.dat d2) := by
        rw [List.set_set, List.set_comm _ _ ne, List.set_set, List.set_comm _ _ ne]
      rw [e3] at a3
      exact a3
    refine ⟨set_none2 ne, fun s0 H0 Ca cl fp => ?_⟩
    have vt := st _ (cb s0 H0 Ca cl fp)
    refine vt.run B2 H2 _ _ rw1 fun bb B3 H3 ρ3 p3 g3 r3 => ?_
    have gA3 : Go B1 H1 ρ1 B3 H3 ρ3 := (((g.trans g2).trans go_set).trans go_set).trans g3
    have nl2 : ¬ Own ((ρ'.set i1 (.dat d1)).set i2 (.dat d2)) Dl := fun z => nl (own_set (own_set z))
    have hlN : ∀ {H2 : Hp}, H2 Dl = some (.lst vs) → H2 Dl ≠ none := fun e z => by rw [e] at z; cases z
    have hD3 : H3 Dl = some (.lst vs) := g3.keep Dl _ hl2 nl2
    have bD3 : B3 Dl = none := g3.out Dl (hlN hl2) bl2 nl2
    have nD3 : ¬ Own ρ3 Dl := fun z => (g3.own Dl z).elim nl2 (hlN hl2)
    have back : ∀ {B4 H4 : Hp} {ρ4 : En}, Rel (kwOf X) B4 H4 (((wipe σ [i1, i2]).set i1 (some x1)).set i2 (some x2)) ρ4 → Rel (kwOf X) B4 H4 σ ((ρ4.set i1 .no).set i2 .no) := fun {B4 H4 ρ4} r4 => by
      have a1 : Rel (kwOf X) B4 H4 (σ.set i2 (some x2)) (ρ4.set i1 .no) := rel_no r4 (by
        show ((((σ.set i2 none).set i1 none).set i1 (some x1)).set i2 (some x2)).set i1 none = (σ.set i2 (some x2)).set i1 none
        rw [List.set_set, List.set_comm _ _ ne.symm, List.set_set, List.set_comm _ _ ne, List.set_set])
      exact rel_no a1 (by rw [List.set_set])
    cases bb with
    | true =>
      rw [if_pos rfl]
      intro s1 H01 Ca1 cl1 fp1
      have vd := p3.1 rfl _ (cb s1 H01 Ca1 cl1 fp1)
      refine vd.run B3 H3 _ _ r3 fun u du B4 H4 ρ4 p4 dv g4 r4 => ?_
      have hD4 : H4 Dl = some (.lst vs) := g4.keep Dl _ hD3 nD3
      have bD4 : B4 Dl = none := g4.out Dl (hlN hD3) bD3 nD3
      have nD4 : ¬ Own ρ4 Dl := fun z => (g4.own Dl z).elim nD3 (hlN hD3)
      have gS : Go B1 H1 ρ1 B4 H4 ((ρ4.set i1 .no).set i2 .no) := ((gA3.trans g4).trans go_no).trans go_no
      have nS : ¬ Own ((ρ4.set i1 .no).set i2 .no) Dl := fun z => nD4 (own_no (own_no z))
      obtain ⟨gF, rF⟩ := acc_put (o := .lst (vs ++ [u])) gS (back r4) hD bD4 nS
      refine ⟨vs, hD4, ?_, acc ++ [du], vs ++ [u], B4, (ρ4.set i1 .no).set i2 .no, p4, by rw [List.length_append]; exact Nat.add_le_add_right hacc 1, upd_same, bD4, nS, DpAll.app (DpAll.mono (g3.ex.trans g4.ex) (DpAll.mono g2.ex dacc)) (.cons dv .nil), gF, rF⟩
      rw [DpAll.len dacc]
      exact Nat.lt_of_le_of_lt hacc (Nat.lt_of_lt_of_le hlt (Nat.le_trans hlen (by decide)))
    | false =>
      rw [if_neg Bool.false_ne_true]
      have gS : Go B1 H1 ρ1 B3 H3 ((ρ3.set i1 .no).set i2 .no) := (gA3.trans go_no).trans go_no
      have nS : ¬ Own ((ρ3.set i1 .no).set i2 .no) Dl := fun z => nD3 (own_no (own_no z))
      exact ⟨acc, vs, B3, (ρ3.set i1 .no).set i2 .no, p3.2 rfl, by omega, hD3, bD3, nS, DpAll.mono g3.ex (DpAll.mono g2.ex dacc), gS, back r3⟩
  · have e : j = ds.length := by omega
    subst e
    exact .inl ⟨y2 (Nat.le_refl _), q Dl vs acc B' H' ρ' (done acc ρ' w) (g1.dom Dl hD) hl bl nl dacc (g1.trans g) r'⟩
/-- [elt for y1, y2 in iter if tst] -/
theorem vn_lc2If [Cold M] (C : Cst X M sc NK G k) {scope : Scope} {i1 i2 : Nat} {y1 y2 : Str} {p1 p2 tpos : Pos} {kk : Nat} {elt iter tst : Expr} {v1 v2 : Bool} (NK' : List (Str × Bool × Bool)) (G' : List Str) (h1 : At NK' i1 (y1, v1, true)) (h2 : At NK' i2 (y2, v2, true)) (ne : i1 ≠ i2)
    (h : VP X (.Tuple [.Name y1 p1, .Name y2 p2] kk tpos) iter ρ fun ds ρ1 => ds.length ≤ 100000 ∧ ∃ W : Nat → List D → En → Prop, W 0 [] ρ1 ∧
      (∀ (j : Nat) d1 d2 acc ρ', ds[j]? = some (d1, d2) → W j acc ρ' → ∀ X', Cst X' M (relS scope sc) NK' G' k → VT X' tst ((ρ'.set i1 (.dat d1)).set i2 (.dat d2)) fun bb ρ3 => (bb = true → ∀ X'', Cst X'' M (relS scope sc) NK' G' k → VD X'' elt ρ3 fun u ρ4 => W (j + 1) (acc ++ [u]) ((ρ4.set i1 .no).set i2 .no)) ∧ (bb = false → W (j + 1) acc ((ρ3.set i1 .no).set i2 .no))) ∧
      ∀ acc ρ', W ds.length acc ρ' → PL acc ρ')
    (ok : blkC (NK.map (·.1)) sc scope [(y1, i1), (y2, i2)] = true := by decide +kernel) (hN : NK'.map (·.1) = NK.map (·.1) := by rfl) (hc : chk (relS scope sc) false NK' G' = true := by decide +kernel)
    (hs : ∀ x, foldedSetIterable iter X.env x = pure x := by intro _; rfl) : VN X (.ListComp elt [⟨.Tuple [.Name y1 p1, .Name y2 p2] kk tpos, iter, [tst], 0⟩] scope pos) ρ PL := VN.mk fun B H σ Q r q => by
  have ok' : BlkOk X.N X.env.scope scope [(y1, i1), (y2, i2)] := by
    rw [C.n, C.s]
    exact blkOk_by ok
  have cb : ∀ (s : Shared) (H : Hp) (Ca : Addr) (cl : List (Str × Addr)) (fp : List Addr), Cst (X.blk s H scope (compEnvC scope cl Ca X.env) fp) M (relS scope sc) NK' G' k := fun s H Ca cl fp => cst_blk C C.calm hN hc
  have tg2 : ∀ (s : Shared) (H : Hp) (Ca : Addr) (cl : List (Str × Addr)) (fp : List Addr), PG (X.blk s H scope (compEnvC scope cl Ca X.env) fp) (.Tuple [.Name y1 p1, .Name y2 p2] kk tpos) (gTup X.K 2 (t2 i1 i2)) := fun s H Ca cl fp => by
    have c := cb s H Ca cl fp
    refine pg_tup C.calm ⟨fun pins s' σ' H' vs us Q' I rv hh => ?_⟩
    obtain ⟨v, w, rfl, qq⟩ := hh
    exact (pgs_cons (pg_name c.nd (c.ix h1) (c.lo h1) (c.fn h1)) (pgs_cons (pg_name c.nd (c.ix h2) (c.lo h2) (c.fn h2)) pgs_nil)).run pins s' σ' H' [v, w] us Q' I rv ⟨v, [w], rfl, w, [], rfl, rfl, qq⟩
  exact PE.sem (pe_lc (g := gTup X.K 2 (t2 i1 i2)) (tt := uTst X scope tst) C.calm C.nd (pi_sem C.calm) ok' tg2 pts_uTst pe_uSem hs)
    (lc_read2If (Cb := fun X' => Cst X' M (relS scope sc) NK' G' k) ne r cb h q)
/-- enumerate(e), e a list -/
theorem vp_enum [Cold M] (C : Cst X M sc NK G k) {i kk : Nat} {p tpos : Pos} {elts : List Expr} (hg : At G i "enumerate") (h : VD X e ρ fun d ρ1 => ∃ xs, d = .list xs ∧ PP (xs.zipIdx.map fun q => (PyData.int (q.2 : Int), q.1)) ρ1) (hm : M.mg "enumerate" = none := by assumption)
    (hs : starEach [e] X.env = [(false, eval e X.env)] := by rfl) : VP X (.Tuple elts kk tpos) (.Call (.Name "enumerate" p) [e] [] pos) ρ PP := VP.mk fun B H σ R r q => by
  refine PI.sem C (pi_enum (C.g hg) (C.mg hm) (pa_cons pe_sem pa_nil hs) hs) ?_
  refine h.run B H σ _ r fun v d B1 H1 ρ1 p1 dv g1 r1 => ?_
  obtain ⟨xs, rfl, pp⟩ := p1
  obtain ⟨t, us, rfl, hT, hu⟩ := dp_lst dv
  have hl : (xs.zipIdx.map fun q => (PyData.int (q.2 : Int), q.1)).length = xs.length := by rw [List.length_map, List.length_zipIdx]
  refine ⟨t, us, rfl, ex_l r1.ex hT, q _ _ B1 H1 ρ1 pp (fun j B2 H2 e1 e2 => ⟨fun hj => ?_, fun hj => ?_⟩) g1 r1⟩
  · rw [hl] at hj
    have l1 : j < us.length := by rw [DpAll.len hu]; exact hj
    have s1 := ex_l (e1.trans e2) hT
    refine ⟨⟨us, us[j], s1, List.getElem?_eq_getElem l1⟩, fun x H' y => ?_⟩
    obtain ⟨T, x1, rfl, hT0, rfl, f1⟩ := y
    obtain ⟨d1, k1, k2⟩ := DpAll.getV hu (f1 us s1)
    refine ⟨T, .int (j : Int), x1, .int (j : Int), d1, rfl, .inr ⟨hT0, rfl⟩, ?_, .int _, Dp.mono e1 k2⟩
    rw [List.getElem?_map, List.getElem?_zipIdx, k1, Nat.zero_add]
    rfl
  · rw [hl] at hj
    exact ⟨us, ex_l (e1.trans e2) hT, by rw [DpAll.len hu]; exact hj⟩
end
end Vc

namespace K5
open PySem PySem.Spec PyProof.Rows L2 Vc
local macro_rules | `(tactic| walk_at "at") => `(tactic| (repeat (first | with_reducible exact At.here | apply At.there)))
local macro_rules | `(tactic| walk_at "v") => `(tactic| first
  | refine vd_bin ?_
  | (refine vd_name (by assumption) (by walk_at "at") rfl ?_)
  | refine vd_int ?_
  | refine vd_bool ?_
  | refine vd_none ?_
  | refine vd_str ?_
  | refine vd_if ?_
  | (refine vd_neg ?_)
  | refine vd_tup ?_
  | refine va_nil ?_
  | refine va_cons ?_
  | refine vs_ret ?_
  | refine vss_nil ?_
  | refine vss_one ?_
  | refine vss_cons ?_
  | refine vs_if ?_
  | refine vt_cmp (by assumption) ?_
  | refine vs_set (by assumption) (by walk_at "at") ?_
  | refine vd_cmp (by assumption) ?_
  | refine vgs_nil ?_
  | refine vgs_cons ?_
  | refine vg_name (by assumption) (by walk_at "at") ?_
  | (refine vd_callT (x := "int") (by assumption) does_int (by walk_at "at") ?_)
  | (refine vd_callB (x := "len") (by assumption) does_len (by walk_at "at") ?_)
  | (refine vd_callB (x := "abs") (by assumption) does_abs (by walk_at "at") ?_)
  | (refine vd_ixo (by assumption) (by walk_at "at") rfl ?_)
  | refine vd_ix ?_)
local macro_rules | `(tactic| walk_at "sw") => `(tactic| (intro env h; cases env; dsimp only at h; subst h; rfl))
local macro_rules | `(tactic| walk_at "vv") => `(tactic| repeat (walk_at "v"))
local macro_rules | `(tactic| walk_at "kk") => `(tactic| repeat (first | refine va_cons ?_ | refine vd_tup ?_ | refine vd_str ?_ | refine vd_int ?_ | refine vd_name (by assumption) (by walk_at "at") rfl ?_ | refine va_nil ⟨by simp, ?_⟩))
/-! ### _law_good -/
def dn (n : Nat) : Str := "d" ++ Str.ofString (toString (n : Int))
def en (n : Nat) : Str := "e" ++ Str.ofString (toString (n : Int))
def fn (n e : Nat) : Str := "f" ++ Str.ofString (toString (n : Int)) ++ Str.ofString (toString (e : Int))
def gdD (nm : Str) (told : D) (dl : Int) (ops : List Br) : D := .tuple [.str nm, told, .int dl, .tuple (ops.map brD)]
def diffD (part : Str) : D := .tuple [.str "difference", .str part, .tuple [.int 1, .int 1000]]
def behD (b : Br) : D := .tuple [.str "behind", brD b]
/-- without what stands ahead already, of the first j -/
def dupT (l : List Br) : Nat → List Br
  | 0 => []
  | j + 1 => match l[j]? with
    | some b => if b ∈ l.take j then dupT l j else dupT l j ++ [b]
    | none => dupT l j
def dedupB (l : List Br) : List Br := dupT l l.length
def beB (l : Ln) (e : Nat) : Str := if e = 0 then l.o else l.t
def rawL (ls : List Ln) (ss : List Sr) (i : Nat) (l : Ln) (e : Nat) : List Br := sortB (hereL ls ss (beB l e)) ++ [(lname i, 1 - (e : Int))]
def opsL (ls : List Ln) (ss : List Sr) (i : Nat) (l : Ln) (e : Nat) : List Br := dedupB (sortB (rawL ls ss i l e))
def lineG (ls : List Ln) (ss : List Sr) (late : Int) (i : Nat) (l : Ln) : List D :=
  [gdD (dn (2 * i)) (diffD (lname i)) 0 [(lname i, 0), (lname i, 1)], gdD (dn (2 * i + 1)) (diffD (lname i)) 0 [(lname i, 0), (lname i, 1)],
   gdD (fn (2 * i + 2) 0) (behD (lname i, 0)) late (opsL ls ss i l 0), gdD (fn (2 * i + 2) 1) (behD (lname i, 1)) late (opsL ls ss i l 1)]
def busG (ls : List Ln) (ss : List Sr) (n : Nat) (bus : Str) : List D := if hereL ls ss bus = [] then [] else
  [gdD (en n) (diffD bus) 0 (sortB (hereL ls ss bus)), gdD (en (n + 1)) (diffD bus) 0 (sortB (hereL ls ss bus))]
def linesG (ls : List Ln) (ss : List Sr) (late : Int) : Nat → List Ln → List D
  | _, [] => []
  | i, l :: r => lineG ls ss late i l ++ linesG ls ss late (i + 1) r
def busesG (ls : List Ln) (ss : List Sr) : Nat → List Str → List D
  | _, [] => []
  | n, b :: r => busG ls ss n b ++ busesG ls ss (n + 2) r
theorem linesG_snoc {ls : List Ln} {ss : List Sr} {late : Int} {l : Ln} : ∀ {r : List Ln} {i : Nat}, linesG ls ss late i (r ++ [l]) = linesG ls ss late i r ++ lineG ls ss late (i + r.length) l
  | [], i => by
    show lineG ls ss late i l ++ [] = [] ++ lineG ls ss late i l
    rw [List.append_nil, List.nil_append]
  | a :: r, i => by
    show lineG ls ss late i a ++ linesG ls ss late (i + 1) (r ++ [l]) = (lineG ls ss late i a ++ linesG ls ss late (i + 1) r) ++ lineG ls ss late (i + (r.length + 1)) l
    rw [linesG_snoc (r := r) (i := i + 1), List.append_assoc, show i + 1 + r.length = i + (r.length + 1) by omega]
theorem busesG_snoc {ls : List Ln} {ss : List Sr} {b : Str} : ∀ {r : List Str} {n : Nat}, busesG ls ss n (r ++ [b]) = busesG ls ss n r ++ busG ls ss (n + 2 * r.length) b
  | [], n => by
    show busG ls ss n b ++ [] = [] ++ busG ls ss n b
    rw [List.append_nil, List.nil_append]
  | a :: r, n => by
    show busG ls ss n a ++ busesG ls ss (n + 2) (r ++ [b]) = (busG ls ss n a ++ busesG ls ss (n + 2) r) ++ busG ls ss (n + 2 * (r.length + 1)) b
    rw [busesG_snoc (r := r) (n := n + 2), List.append_assoc, show n + 2 + 2 * r.length = n + 2 * (r.length + 1) by omega]
theorem linesG_len {ls : List Ln} {ss : List Sr} {late : Int} : ∀ {r : List Ln} {i : Nat}, (linesG ls ss late i r).length = 4 * r.length
  | [], _ => rfl
  | a :: r, i => by
    show (lineG ls ss late i a ++ linesG ls ss late (i + 1) r).length = _
    rw [List.length_append, linesG_len, List.length_cons]
    show 4 + _ = _
    omega
theorem busG_len {ls : List Ln} {ss : List Sr} {n : Nat} {b : Str} : (busG ls ss n b).length ≤ 2 := by
  unfold busG
  split
  · exact Nat.zero_le _
  · exact Nat.le_refl _
theorem busesG_len {ls : List Ln} {ss : List Sr} : ∀ {r : List Str} {n : Nat}, (busesG ls ss n r).length ≤ 2 * r.length
  | [], _ => Nat.le_refl _
  | a :: r, n => by
    show (busG ls ss n a ++ busesG ls ss (n + 2) r).length ≤ _
    have h1 := busG_len (ls := ls) (ss := ss) (n := n) (b := a)
    have h2 := busesG_len (ls := ls) (ss := ss) (r := r) (n := n + 2)
    rw [List.length_append, List.length_cons]
    omega
/-- the names that parts bear -/
def okNm : List Str := [lname 0, lname 1, gname 0, gname 1, gname 2]
theorem nm_shaped : ∀ z ∈ okNm, SeqAt.shaped (.str z) = true := by decide +kernel
theorem br_lay {b : Br} (h : b.1 ∈ okNm) : PyData.canLay0 (brD b) = true ∧ PyData.depth (brD b) ≤ 2 := by
  have la := SeqAt.canLay_of_shaped (nm_shaped b.1 h)
  unfold brD
  refine ⟨?_, ?_⟩
  · simp [PyData.canLay0, PyData.canLayAll0] at la ⊢
    exact la
  · simp [PyData.depth, PyData.depthAll]
theorem brs_lay : ∀ {bs : List Br}, (∀ b ∈ bs, b.1 ∈ okNm) → PyData.canLayAll0 (bs.map brD) = true ∧ PyData.depthAll (bs.map brD) ≤ 2
  | [], _ => ⟨rfl, Nat.zero_le _⟩
  | b :: bs, h => by
    have a := br_lay (h b (by simp))
    have c := brs_lay (bs := bs) fun y hy => h y (by simp [hy])
    refine ⟨?_, ?_⟩
    · simp [PyData.canLayAll0, a.1, c.1]
    · have e : PyData.depthAll (brD b :: bs.map brD) = max (brD b).depth (PyData.depthAll (bs.map brD)) := by simp [PyData.depthAll]
      rw [List.map_cons, e]
      omega
theorem shaped_brs {bs : List Br} (h : ∀ b ∈ bs, b.1 ∈ okNm) : SeqAt.shaped (.list (bs.map brD)) = true ∧ SeqAt.shaped (.tuple (bs.map brD)) = true := by
  have a := brs_lay h
  refine ⟨?_, ?_⟩
  · have e : PyData.depth (.list (bs.map brD)) = PyData.depthAll (bs.map brD) + 1 := by simp [PyData.depth]
    have e2 : PyData.canLay0 (.list (bs.map brD)) = PyData.canLayAll0 (bs.map brD) := by simp [PyData.canLay0]
    unfold SeqAt.shaped
    rw [e, e2, a.1, Bool.true_and]
    exact decide_eq_true (by omega)
  · have e : PyData.depth (.tuple (bs.map brD)) = PyData.depthAll (bs.map brD) + 1 := by simp [PyData.depth]
    have e2 : PyData.canLay0 (.tuple (bs.map brD)) = PyData.canLayAll0 (bs.map brD) := by simp [PyData.canLay0]
    unfold SeqAt.shaped
    rw [e, e2, a.1, Bool.true_and]
    exact decide_eq_true (by omega)
theorem shaped_br {b : Br} (h : b.1 ∈ okNm) : SeqAt.shaped (brD b) = true := by
  have a := br_lay h
  unfold SeqAt.shaped
  rw [a.1, Bool.true_and]
  exact decide_eq_true (by omega)
theorem eqv_br (a b : Br) : PyData.eqv (brD a) (brD b) = decide (a = b) := by
  obtain ⟨a1, a2⟩ := a
  obtain ⟨b1, b2⟩ := b
  unfold brD
  by_cases h1 : a1 = b1
  · by_cases h2 : a2 = b2
    · rw [decide_eq_true (by rw [h1, h2])]
      simp [PyData.eqv, PyData.eqvAll, h1, h2]
    · rw [decide_eq_false (fun z => h2 (congrArg (·.2) z))]
      simp [PyData.eqv, PyData.eqvAll, h2]
  · rw [decide_eq_false (fun z => h1 (congrArg (·.1) z))]
    simp [PyData.eqv, PyData.eqvAll, h1]
theorem any_br (b : Br) : ∀ l : List Br, ((l.map brD).any fun z => PyData.eqv z (brD b)) = decide (b ∈ l)
  | [] => by simp
  | a :: l => by
    rw [List.map_cons, List.any_cons, any_br b l, eqv_br]
    by_cases h : a = b
    · simp [h]
    · have : ¬ b = a := fun z => h z.symm
      simp [h, this]
theorem nm_l {i : Nat} (h : i < 2) : lname i ∈ okNm := by
  rcases (show i = 0 ∨ i = 1 by omega) with rfl | rfl <;> simp [okNm]
theorem nm_g {i : Nat} (h : i < 3) : gname i ∈ okNm := by
  rcases (show i = 0 ∨ i = 1 ∨ i = 2 by omega) with rfl | rfl | rfl <;> simp [okNm]
theorem endAt_nm {i : Nat} {l : Ln} {bus : Str} {e : Nat} (h : i < 2) : ∀ b ∈ endAt i l bus e, b.1 ∈ okNm := fun b hb => by
  unfold endAt at hb
  by_cases q : (if e = 0 then l.o else l.t) = bus
  · rw [if_pos q, List.mem_singleton] at hb
    rw [hb]
    exact nm_l h
  · rw [if_neg q] at hb
    cases hb
theorem hereLs_nm {bus : Str} : ∀ {ls : List Ln} {i : Nat}, i + ls.length ≤ 2 → ∀ b ∈ hereLs i ls bus, b.1 ∈ okNm
  | [], i, _, b, hb => by cases hb
  | l :: ls, i, h, b, hb => by
    have h' : i + (ls.length + 1) ≤ 2 := h
    rcases List.mem_append.mp (show b ∈ hereLn i l bus ++ hereLs (i + 1) ls bus from hb) with z | z
    · rcases List.mem_append.mp (show b ∈ endAt i l bus 0 ++ endAt i l bus 1 from z) with z | z
      · exact endAt_nm (by omega) b z
      · exact endAt_nm (by omega) b z
    · exact hereLs_nm (ls := ls) (i := i + 1) (by omega) b z
theorem hereSs_nm {bus : Str} : ∀ {ss : List Sr} {i : Nat}, i + ss.length ≤ 3 → ∀ b ∈ hereSs i ss bus, b.1 ∈ okNm
  | [], i, _, b, hb => by cases hb
  | s :: ss, i, h, b, hb => by
    have h' : i + (ss.length + 1) ≤ 3 := h
    rcases List.mem_append.mp (show b ∈ hereSr i s bus ++ hereSs (i + 1) ss bus from hb) with z | z
    · unfold hereSr at z
      by_cases q : s.b = bus
      · rw [if_pos q, List.mem_singleton] at z
        rw [z]
        exact nm_g (by omega)
      · rw [if_neg q] at z
        cases z
    · exact hereSs_nm (ss := ss) (i := i + 1) (by omega) b z
theorem hereL_nm {ls : List Ln} {ss : List Sr} {bus : Str} (h1 : ls.length ≤ 2) (h2 : ss.length ≤ 3) : ∀ b ∈ hereL ls ss bus, b.1 ∈ okNm := fun b hb => by
  rcases List.mem_append.mp (show b ∈ hereLs 0 ls bus ++ hereSs 0 ss bus from hb) with z | z
  · exact hereLs_nm (by omega) b z
  · exact hereSs_nm (by omega) b z
theorem hereL_len {ls : List Ln} {ss : List Sr} {bus : Str} (h1 : ls.length ≤ 2) (h2 : ss.length ≤ 3) : (hereL ls ss bus).length ≤ 7 := by
  have a := hereLs_len (bus := bus) (ls := ls) (i := 0)
  have c := hereSs_len (bus := bus) (ss := ss) (i := 0)
  unfold hereL
  rw [List.length_append]
  omega
theorem dig_len : ∀ n : Nat, n < 20 → (Str.ofString (toString (n : Int))).length ≤ 10 ∧ (n : Int).natAbs.log2 < 1920 := by decide +kernel
theorem sw_cellL {elt : Expr} {gs : List Comprehension} {scope : Scope} {pos py : Pos} {y : Str} {l : Nat} {env : Env} (hy : env.scope.names.lookup y = some .cell) : swapsWith (.ListComp elt gs scope pos) (some (.Name y py)) l env = pure false := by
  have ky : env.kindOf y = some .cell := hy
  unfold swapsWith
  simp only [ky]
  have : (some NameKind.cell == some NameKind.local) = false := by decide
  rw [this, Bool.and_false, Bool.false_and, Bool.false_and]
def SGood : List D → (D → Prop) → Prop := fun ds W => ∃ (bs : List Str) (ls : List Ln) (ss : List Sr) (late : Int), ds = [.tuple [.tuple (bs.map PyData.str), .tuple (lnsFrom 0 ls), .tuple (srsFrom 0 ss)], .int late] ∧ bs.length ≤ 3 ∧ ls.length ≤ 2 ∧ ss.length ≤ 3 ∧ W (.list (linesG ls ss late 0 ls ++ busesG ls ss (2 * ls.length) bs))
abbrev enG (nt lt : D) (z : Addr) (fs : List D) (n : Int) (s4 s5 s6 s7 s8 s9 s10 s11 : Sl) : En := [.dat nt, .dat lt, .own z (.l fs), .dat (.int n), s4, s5, s6, s7, s8, s9, s10, s11, .no, .no]
theorem fGood {M : Md} [Cold M] {f : Addr} {fd : FuncData} (mr : M.mg "range" = none) (ms : M.mg "str" = none) (mo : M.mg "sorted" = none) (ml : M.mg "list" = none) (me : M.mg "enumerate" = none) (mt : M.mg "tuple" = none) (FH : FnD M 1 "_law_here" 2 SHere)
    (F : Fun M.K "_law_good" "_law_good" sLGood f fd) (hm : M.mg "_law_good" = some (.ref f)) (b : L2.Binds M.K fd ["net", "late"] []) : FnD M 2 "_law_good" 2 SGood := by
  refine fnD_mk (k := 1) (NK := nkLGood) (G := gLGood) F scLGood hm b rfl (by decide +kernel) rfl (by decide) fun X C ds W hl hS => ?_
  obtain ⟨bs, ls, ss, late, rfl, lb, l2, s3, w⟩ := hS
  have here : ∀ (bus : Str) (P : D → Prop), P (.tuple ((sortB (hereL ls ss bus)).map brD)) → SHere [.tuple [.tuple (bs.map PyData.str), .tuple (lnsFrom 0 ls), .tuple (srsFrom 0 ss)], .str bus] P := fun bus P h => ⟨_, ls, ss, bus, rfl, l2, s3, fun bs' hp ha => by rw [sortB_uniq hp ha]; exact h⟩
  generalize hnt : PyData.tuple [.tuple (bs.map PyData.str), .tuple (lnsFrom 0 ls), .tuple (srsFrom 0 ss)] = nt at here
  show VSs X _ [.dat nt, .dat (.int late), .no, .no, .no, .no, .no, .no, .no, .no, .no, .no, .no, .no] _
  refine vss_cons (vs_parN C (i := 2) (j := 3) (by walk_at "at") (by walk_at "at") (by decide) (by show 2 < 14; decide) (vn_lst (va_nil ⟨by decide, vd_int fun z => ?_⟩)) (by walk_at "sw"))
  show VSs X _ (enG nt (.int late) z [] 0 .no .no .no .no .no .no .no .no) _
  refine vss_cons (vs_for C (vi_tup (vd_ix (vd_name C (by walk_at "at") rfl (vd_int ?_)))))
  rw [← hnt]
  refine ⟨_, atI_nat (j := 1) rfl, lnsFrom 0 ls, rfl, ?_⟩
  rw [hnt]
  refine ⟨fun j ρ' => ∃ s4 s5 s6 s7 s8 s9 s10 s11, ρ' = enG nt (.int late) z (linesG ls ss late 0 (ls.take j)) ((2 * j : Nat) : Int) s4 s5 s6 s7 s8 s9 s10 s11, ⟨_, _, _, _, _, _, _, _, rfl⟩, fun j d ρ' hj hW => ?_, fun ρ' hW => ?_⟩
  · obtain ⟨s4, s5, s6, s7, s8, s9, s10, s11, rfl⟩ := hW
    obtain ⟨l, hlj, rfl⟩ := lns_get hj
    have jl := (List.getElem?_eq_some_iff.mp hlj).1
    rw [Nat.zero_add]
    unfold lnD
    refine vg_tup C (vgs_cons (vg_name C (by walk_at "at") (vgs_cons (vg_name C (by walk_at "at") (vgs_cons (vg_name C (by walk_at "at") (vgs_cons (vg_name C (by walk_at "at") (vgs_nil ?_)))))))))
    have hlen : (linesG ls ss late 0 (ls.take j)).length ≤ 8 := by
      rw [linesG_len, List.length_take]
      omega
    generalize hbase : linesG ls ss late 0 (ls.take j) = base at hlen
    show VSs X _ (enG nt (.int late) z base ((2 * j : Nat) : Int) (.dat (.str (lname j))) (.dat (.str l.o)) (.dat (.str l.t)) (.dat (.int l.x)) s8 s9 s10 s11) _
    have n2 : j < 2 := by omega
    -- two that look at the line's difference
    refine vss_cons (vs_for C (vi_range C (by walk_at "at") (vd_int ⟨2, rfl, by decide, ?_⟩)))
    refine ⟨fun t ρ' => t ≤ 2 ∧ ∃ s8, ρ' = enG nt (.int late) z (base ++ ([gdD (dn (2 * j)) (diffD (lname j)) 0 [(lname j, 0), (lname j, 1)], gdD (dn (2 * j + 1)) (diffD (lname j)) 0 [(lname j, 0), (lname j, 1)]] : List D).take t) ((2 * j + t : Nat) : Int) (.dat (.str (lname j))) (.dat (.str l.o)) (.dat (.str l.t)) (.dat (.int l.x)) s8 s9 s10 s11, ⟨by decide, _, by rw [List.take_zero, List.append_nil]; rfl⟩, fun t d ρ' ht hW => ?_, fun ρ' hW => ?_⟩
    · obtain ⟨ht2, s8, rfl⟩ := hW
      have htl : t < 2 := by
        have := (List.getElem?_eq_some_iff.mp ht).1
        rw [List.length_map, List.length_range] at this
        exact this
      refine vg_name C (by walk_at "at") ?_
      show VSs X _ (enG nt (.int late) z (base ++ ([gdD (dn (2 * j)) (diffD (lname j)) 0 [(lname j, 0), (lname j, 1)], gdD (dn (2 * j + 1)) (diffD (lname j)) 0 [(lname j, 0), (lname j, 1)]] : List D).take t) ((2 * j + t : Nat) : Int) (.dat (.str (lname j))) (.dat (.str l.o)) (.dat (.str l.t)) (.dat (.int l.x)) (.dat d) s9 s10 s11) _
      obtain ⟨dl, dg⟩ := dig_len (2 * j + t) (by omega)
      refine vss_cons (vs_append C (by walk_at "at") rfl (vd_tup (va_cons (vd_addS (vd_str (vd_callT C (x := "str") does_strI (by walk_at "at") (va_cons (vd_name C (by walk_at "at") rfl (va_nil ⟨_, rfl, dg, _, _, rfl, rfl, ?_, ?_⟩)))))))))
      · show 1 + _ ≤ _
        omega
      walk_at "kk"
      refine ⟨_, rfl, ?_, ?_⟩
      · rw [List.length_append, List.length_take]
        show _ + min t 2 ≤ _
        omega
      refine vss_one (vs_set C (by walk_at "at") (vd_bin (vd_name C (by walk_at "at") rfl (vd_int ?_))))
      refine ⟨by omega, .dat d, ?_⟩
      rcases (show t = 0 ∨ t = 1 by omega) with rfl | rfl
      · show enG nt (.int late) z ((base ++ []) ++ _) _ _ _ _ _ _ _ _ _ = _
        rw [List.append_nil]
        rfl
      · show enG nt (.int late) z ((base ++ _) ++ _) _ _ _ _ _ _ _ _ _ = _
        rw [List.append_assoc]
        rfl
    obtain ⟨_, s8, rfl⟩ := hW
    show VSs X _ (enG nt (.int late) z (base ++ [gdD (dn (2 * j)) (diffD (lname j)) 0 [(lname j, 0), (lname j, 1)], gdD (dn (2 * j + 1)) (diffD (lname j)) 0 [(lname j, 0), (lname j, 1)]]) ((2 * j + 2 : Nat) : Int) (.dat (.str (lname j))) (.dat (.str l.o)) (.dat (.str l.t)) (.dat (.int l.x)) s8 s9 s10 s11) _
    generalize hb2 : base ++ [gdD (dn (2 * j)) (diffD (lname j)) 0 [(lname j, 0), (lname j, 1)], gdD (dn (2 * j + 1)) (diffD (lname j)) 0 [(lname j, 0), (lname j, 1)]] = base2
    have hlen2 : base2.length ≤ 10 := by
      rw [← hb2, List.length_append]
      show _ + 2 ≤ _
      omega
    -- two that look behind a breaker of it
    refine vss_one (vs_for C (vi_tup (vd_tup (va_cons (vd_int (va_cons (vd_int (va_nil ⟨by simp, ?_⟩))))))))
    refine ⟨_, rfl, fun t ρ' => ∃ s9 s10, ρ' = enG nt (.int late) z (base2 ++ ([gdD (fn (2 * j + 2) 0) (behD (lname j, 0)) late (opsL ls ss j l 0), gdD (fn (2 * j + 2) 1) (behD (lname j, 1)) late (opsL ls ss j l 1)] : List D).take t) ((2 * j + 2 : Nat) : Int) (.dat (.str (lname j))) (.dat (.str l.o)) (.dat (.str l.t)) (.dat (.int l.x)) s8 s9 s10 s11, ⟨_, _, by rw [List.take_zero, List.append_nil]⟩, fun t d ρ' ht hW => ?_, fun ρ' hW => ?_⟩
    · obtain ⟨s9, s10, rfl⟩ := hW
      have ht2 : t < 2 := (List.getElem?_eq_some_iff.mp ht).1
      have hd : d = .int (t : Int) := by
        rcases (show t = 0 ∨ t = 1 by omega) with rfl | rfl <;> cases ht <;> rfl
      subst hd
      have hat : atI ([.str l.o, .str l.t] : List D) (t : Int) = some (.str (beB l t)) := by
        rcases (show t = 0 ∨ t = 1 by omega) with rfl | rfl <;> rfl
      refine vg_name C (by walk_at "at") ?_
      generalize hb3 : base2 ++ ([gdD (fn (2 * j + 2) 0) (behD (lname j, 0)) late (opsL ls ss j l 0), gdD (fn (2 * j + 2) 1) (behD (lname j, 1)) late (opsL ls ss j l 1)] : List D).take t = base3
      have hlen3 : base3.length ≤ 12 := by
        rw [← hb3, List.length_append, List.length_take]
        show _ + min t 2 ≤ _
        omega
      show VSs X _ (enG nt (.int late) z base3 ((2 * j + 2 : Nat) : Int) (.dat (.str (lname j))) (.dat (.str l.o)) (.dat (.str l.t)) (.dat (.int l.x)) s8 (.dat (.int (t : Int))) s10 s11) _
      have hnm : ∀ y ∈ rawL ls ss j l t, y.1 ∈ okNm := fun y hy => by
        rcases List.mem_append.mp (show y ∈ sortB (hereL ls ss (beB l t)) ++ [(lname j, 1 - (t : Int))] from hy) with q | q
        · exact hereL_nm l2 s3 y ((sortB_perm _).mem_iff.mp q)
        · rw [List.mem_singleton.mp q]
          exact nm_l n2
      have hln : (sortB (hereL ls ss (beB l t))).length ≤ 7 := by
        rw [(sortB_perm _).length_eq]
        exact hereL_len l2 s3
      have hrl : (rawL ls ss j l t).length ≤ 8 := by
        show (sortB (hereL ls ss (beB l t)) ++ [(lname j, 1 - (t : Int))]).length ≤ 8
        rw [List.length_append]
        show _ + 1 ≤ _
        omega
      refine vss_cons (vs_set C (by walk_at "at") (vn_vd (vn_sortBr C (by walk_at "at") (vn_vd (vn_cat (vn_vd (vn_listT C (by walk_at "at") (vd_call C FH (by walk_at "at") (va_cons (vd_name C (by walk_at "at") rfl (va_cons (vd_ix (vd_tup (va_cons (vd_name C (by walk_at "at") rfl (va_cons (vd_name C (by walk_at "at") rfl (va_nil ⟨by simp, ?_⟩))))))))))))))))))
      refine vd_name C (by walk_at "at") rfl ?_
      refine ⟨_, hat, va_nil ⟨rfl, here _ _ ⟨_, rfl, ?_⟩⟩⟩
      refine vn_vd (vn_lst ?_)
      walk_at "kk"
      refine vd_bin (vd_int (vd_name C (by walk_at "at") rfl ?_))
      walk_at "kk"
      refine ⟨_, _, rfl, rfl, ?_, rawL ls ss j l t, ?_, by omega, fun bs' hp ha => ?_⟩
      · rw [List.length_map]
        show _ + 1 ≤ _
        omega
      · show _ = PyData.list ((sortB (hereL ls ss (beB l t)) ++ [(lname j, 1 - (t : Int))]).map brD)
        rw [List.map_append]
        rfl
      rw [sortB_uniq hp ha]
      have hnm2 : ∀ y ∈ sortB (rawL ls ss j l t), y.1 ∈ okNm := fun y hy => hnm y ((sortB_perm _).mem_iff.mp hy)
      have hrl2 : (sortB (rawL ls ss j l t)).length ≤ 8 := by
        rw [(sortB_perm _).length_eq]
        exact hrl
      have hops : opsL ls ss j l t = dedupB (sortB (rawL ls ss j l t)) := rfl
      generalize sortB (rawL ls ss j l t) = q at hnm2 hrl2 hops
      show VSs X _ (enG nt (.int late) z base3 ((2 * j + 2 : Nat) : Int) (.dat (.str (lname j))) (.dat (.str l.o)) (.dat (.str l.t)) (.dat (.int l.x)) s8 (.dat (.int (t : Int))) (.dat (.list (q.map brD))) s11) _
      refine vss_cons (vs_set C (by walk_at "at") (vn_vd (vn_lc2If C (i1 := 12) (i2 := 13) nkLGood0 gLGood0 (by walk_at "at") (by walk_at "at") (by decide) (vp_enum C (by walk_at "at") (vd_name C (by walk_at "at") rfl ⟨_, rfl, ?_⟩)))) (hs := sw_cellL (by rw [C.s]; decide +kernel)))
      have el : (((q.map brD).zipIdx.map fun r => (PyData.int (r.2 : Int), r.1))).length = q.length := by simp
      refine ⟨by rw [el]; omega, fun jj acc ρ' => ρ' = enG nt (.int late) z base3 ((2 * j + 2 : Nat) : Int) (.dat (.str (lname j))) (.dat (.str l.o)) (.dat (.str l.t)) (.dat (.int l.x)) s8 (.dat (.int (t : Int))) (.dat (.list (q.map brD))) s11 ∧ acc = (dupT q jj).map brD, ⟨rfl, rfl⟩, fun jj d1 d2 acc ρ' hjj ⟨hρ, ha2⟩ X' C' => ?_, fun acc ρ' ⟨hρ, ha2⟩ => ?_⟩
      · subst hρ
        have hlt : jj < q.length := by
          have := (List.getElem?_eq_some_iff.mp hjj).1
          rw [el] at this
          exact this
        obtain ⟨e1, e2⟩ : d1 = .int (jj : Nat) ∧ d2 = brD q[jj] := by
          rw [List.getElem?_map, List.getElem?_zipIdx, List.getElem?_map, List.getElem?_eq_getElem hlt] at hjj
          have hj' := Option.some.inj hjj
          cases hj'
          exact ⟨by simp, rfl⟩
        subst e1 e2
        have stp : dupT q (jj + 1) = if q[jj] ∈ q.take jj then dupT q jj else dupT q jj ++ [q[jj]] := by
          show (match q[jj]? with | some b => if b ∈ q.take jj then dupT q jj else dupT q jj ++ [b] | none => dupT q jj) = _
          rw [List.getElem?_eq_getElem hlt]
        show VT X' _ [.dat nt, .dat (.int late), .own z (.l base3), .dat (.int ((2 * j + 2 : Nat) : Int)), .dat (.str (lname j)), .dat (.str l.o), .dat (.str l.t), .dat (.int l.x), s8, .dat (.int (t : Int)), .dat (.list (q.map brD)), s11, .dat (.int (jj : Nat)), .dat (brD q[jj])] _
        refine vt_cmp C' (vd_name C' (by walk_at "at") rfl (vn_vd (vn_takeE (vd_name C' (by walk_at "at") rfl (vd_name C' (by walk_at "at") rfl ⟨_, jj, rfl, rfl, ?_⟩)))))
        rw [← List.map_take]
        refine ⟨shaped_br (hnm2 _ (List.getElem_mem hlt)), (shaped_brs fun y hy => hnm2 y (List.mem_of_mem_take hy)).1, ?_⟩
        rw [any_br]
        refine ⟨fun e X'' C'' => ?_, fun e => ?_⟩
        · have e' : ¬ q[jj] ∈ q.take jj := by simpa using e
          refine vd_name C'' (by walk_at "at") rfl ⟨rfl, ?_⟩
          rw [stp, if_neg e', ha2, List.map_append]
          rfl
        · have e' : q[jj] ∈ q.take jj := by simpa using e
          refine ⟨rfl, ?_⟩
          rw [stp, if_pos e']
          exact ha2
      · subst hρ ha2
        rw [el]
        show VSs X _ (enG nt (.int late) z base3 ((2 * j + 2 : Nat) : Int) (.dat (.str (lname j))) (.dat (.str l.o)) (.dat (.str l.t)) (.dat (.int l.x)) s8 (.dat (.int (t : Int))) (.dat (.list ((dedupB q).map brD))) s11) _
        rw [← hops]
        obtain ⟨dl, dg⟩ := dig_len (2 * j + 2) (by omega)
        obtain ⟨dl2, dg2⟩ := dig_len t (by omega)
        refine vss_one (vs_append C (by walk_at "at") rfl (vd_tup (va_cons (vd_addS (vd_addS (vd_str (vd_callT C (x := "str") does_strI (by walk_at "at") (va_cons (vd_name C (by walk_at "at") rfl (va_nil ⟨_, rfl, dg, _, _, rfl, rfl, ?_, ?_⟩))))))))))
        · show 1 + _ ≤ _
          omega
        refine vd_callT C (x := "str") does_strI (by walk_at "at") (va_cons (vd_name C (by walk_at "at") rfl (va_nil ⟨_, rfl, dg2, _, _, rfl, rfl, ?_, ?_⟩)))
        · have : ("f" ++ Str.ofString (toString ((2 * j + 2 : Nat) : Int)) : Str).length = 1 + (Str.ofString (toString ((2 * j + 2 : Nat) : Int))).length := by
            show ((#[102] : Array Nat) ++ (Str.ofString (toString ((2 * j + 2 : Nat) : Int))).cps).size = _
            rw [Array.size_append]
            rfl
          omega
        walk_at "kk"
        refine vd_callT C (x := "tuple") does_tupleL (by walk_at "at") (va_cons (vd_name C (by walk_at "at") rfl (va_nil ⟨_, rfl, va_nil ⟨by simp, _, rfl, ?_, .dat (.int (t : Int)), .dat (.list ((opsL ls ss j l t).map brD)), ?_⟩⟩)))
        · omega
        · rw [← hb3, List.append_assoc]
          rcases (show t = 0 ∨ t = 1 by omega) with rfl | rfl <;> rfl
    · obtain ⟨s9, s10, rfl⟩ := hW
      refine ⟨.dat (.str (lname j)), .dat (.str l.o), .dat (.str l.t), .dat (.int l.x), s8, s9, s10, s11, ?_⟩
      have e : linesG ls ss late 0 (ls.take (j + 1)) = base ++ lineG ls ss late j l := by
        rw [List.take_succ, hlj]
        show linesG ls ss late 0 (ls.take j ++ [l]) = _
        rw [linesG_snoc, List.length_take, Nat.min_eq_left (Nat.le_of_lt jl), Nat.zero_add, hbase]
      rw [e, ← hb2, List.append_assoc]
      rfl
  · obtain ⟨s4, s5, s6, s7, s8, s9, s10, s11, rfl⟩ := hW
    rw [lns_len, List.take_length]
    have hlen : (linesG ls ss late 0 ls).length ≤ 8 := by
      rw [linesG_len]
      omega
    generalize hLg : linesG ls ss late 0 ls = Lg at hlen w
    refine vss_cons (vs_for C (vi_tup (vd_ix (vd_name C (by walk_at "at") rfl (vd_int ?_)))))
    rw [← hnt]
    refine ⟨_, atI_nat (j := 0) rfl, bs.map PyData.str, rfl, ?_⟩
    rw [hnt]
    refine ⟨fun k ρ' => ∃ s8 s11, ρ' = enG nt (.int late) z (Lg ++ busesG ls ss (2 * ls.length) (bs.take k)) ((2 * ls.length + 2 * k : Nat) : Int) s4 s5 s6 s7 s8 s9 s10 s11, ⟨_, _, by rw [List.take_zero]; show _ = enG nt (.int late) z (Lg ++ []) _ _ _ _ _ _ _ _ _; rw [List.append_nil]; rfl⟩, fun k d ρ' hk hW => ?_, fun ρ' hW => ?_⟩
    · obtain ⟨s8, s11, rfl⟩ := hW
      rw [List.getElem?_map] at hk
      obtain ⟨bus, hbus, rfl⟩ : ∃ bus, bs[k]? = some bus ∧ PyData.str bus = d := by
        cases e : bs[k]? with
        | none =>
          rw [e] at hk
          cases hk
        | some y =>
          rw [e] at hk
          exact ⟨y, rfl, by simpa using hk⟩
      have kl := (List.getElem?_eq_some_iff.mp hbus).1
      refine vg_name C (by walk_at "at") ?_
      have hl4 : (busesG ls ss (2 * ls.length) (bs.take k)).length ≤ 6 := by
        have := busesG_len (ls := ls) (ss := ss) (r := bs.take k) (n := 2 * ls.length)
        rw [List.length_take] at this
        omega
      have hl5 : (Lg ++ busesG ls ss (2 * ls.length) (bs.take k)).length ≤ 14 := by
        rw [List.length_append]
        omega
      generalize hb6 : Lg ++ busesG ls ss (2 * ls.length) (bs.take k) = base at hl5
      show VSs X _ (enG nt (.int late) z base ((2 * ls.length + 2 * k : Nat) : Int) s4 s5 s6 s7 s8 s9 s10 (.dat (.str bus))) _
      refine vss_one (vs_for C (vi_range C (by walk_at "at") (vd_int ⟨2, rfl, by decide, ?_⟩)))
      have hnx : ∀ (s8 : Sl), ∃ s8' s11', enG nt (.int late) z (base ++ (busG ls ss (2 * ls.length + 2 * k) bus).take 2) ((2 * ls.length + 2 * k + 2 : Nat) : Int) s4 s5 s6 s7 s8 s9 s10 (.dat (.str bus)) = enG nt (.int late) z (Lg ++ busesG ls ss (2 * ls.length) (bs.take (k + 1))) ((2 * ls.length + 2 * (k + 1) : Nat) : Int) s4 s5 s6 s7 s8' s9 s10 s11' := fun s8 => by
        refine ⟨s8, .dat (.str bus), ?_⟩
        have e : busesG ls ss (2 * ls.length) (bs.take (k + 1)) = busesG ls ss (2 * ls.length) (bs.take k) ++ busG ls ss (2 * ls.length + 2 * k) bus := by
          rw [List.take_succ, hbus]
          show busesG ls ss (2 * ls.length) (bs.take k ++ [bus]) = _
          rw [busesG_snoc, List.length_take, Nat.min_eq_left (Nat.le_of_lt kl)]
        rw [e, ← List.append_assoc, hb6, List.take_of_length_le busG_len]
        rfl
      by_cases hnil : hereL ls ss bus = []
      · have hg : busG ls ss (2 * ls.length + 2 * k) bus = [] := if_pos hnil
        refine ⟨fun t ρ' => t ≤ 2 ∧ ∃ s8, ρ' = enG nt (.int late) z base ((2 * ls.length + 2 * k + t : Nat) : Int) s4 s5 s6 s7 s8 s9 s10 (.dat (.str bus)), ⟨by decide, _, rfl⟩, fun t d ρ' ht hW => ?_, fun ρ' hW => ?_⟩
        · obtain ⟨ht2, s8, rfl⟩ := hW
          have htl : t < 2 := by
            have := (List.getElem?_eq_some_iff.mp ht).1
            rw [List.length_map, List.length_range] at this
            exact this
          refine vg_name C (by walk_at "at") ?_
          show VSs X _ (enG nt (.int late) z base ((2 * ls.length + 2 * k + t : Nat) : Int) s4 s5 s6 s7 (.dat d) s9 s10 (.dat (.str bus))) _
          refine vss_cons (vs_if (vt_cmp C (vd_call C FH (by walk_at "at") (va_cons (vd_name C (by walk_at "at") rfl (va_cons (vd_name C (by walk_at "at") rfl (va_nil ⟨rfl, here _ _ ?_⟩))))))))
          rw [hnil]
          refine vd_tup (va_nil ⟨by simp, by decide, by decide, fun e => (by cases e), fun _ => vss_nil ?_⟩)
          refine vss_one (vs_set C (by walk_at "at") (vd_bin (vd_name C (by walk_at "at") rfl (vd_int ?_))))
          exact ⟨by omega, .dat d, rfl⟩
        · obtain ⟨_, s8, rfl⟩ := hW
          have := hnx s8
          rw [hg] at this
          show ∃ s8' s11', enG nt (.int late) z base ((2 * ls.length + 2 * k + 2 : Nat) : Int) s4 s5 s6 s7 s8 s9 s10 (.dat (.str bus)) = _
          rw [List.take_nil, List.append_nil] at this
          exact this
      · have hg : busG ls ss (2 * ls.length + 2 * k) bus = [gdD (en (2 * ls.length + 2 * k)) (diffD bus) 0 (sortB (hereL ls ss bus)), gdD (en (2 * ls.length + 2 * k + 1)) (diffD bus) 0 (sortB (hereL ls ss bus))] := if_neg hnil
        have hsnil : sortB (hereL ls ss bus) ≠ [] := fun e => by
          have := (sortB_perm (hereL ls ss bus)).length_eq
          rw [e] at this
          exact hnil (List.length_eq_zero_iff.mp this.symm)
        have hsnm : ∀ y ∈ sortB (hereL ls ss bus), y.1 ∈ okNm := fun y hy => hereL_nm l2 s3 y ((sortB_perm _).mem_iff.mp hy)
        refine ⟨fun t ρ' => t ≤ 2 ∧ ∃ s8, ρ' = enG nt (.int late) z (base ++ (busG ls ss (2 * ls.length + 2 * k) bus).take t) ((2 * ls.length + 2 * k + t : Nat) : Int) s4 s5 s6 s7 s8 s9 s10 (.dat (.str bus)), ⟨by decide, _, by rw [List.take_zero, List.append_nil]; rfl⟩, fun t d ρ' ht hW => ?_, fun ρ' hW => ?_⟩
        · obtain ⟨ht2, s8, rfl⟩ := hW
          have htl : t < 2 := by
            have := (List.getElem?_eq_some_iff.mp ht).1
            rw [List.length_map, List.length_range] at this
            exact this
          refine vg_name C (by walk_at "at") ?_
          have hl7 : (base ++ (busG ls ss (2 * ls.length + 2 * k) bus).take t).length ≤ 20 := by
            have := busG_len (ls := ls) (ss := ss) (n := 2 * ls.length + 2 * k) (b := bus)
            rw [List.length_append, List.length_take]
            omega
          show VSs X _ (enG nt (.int late) z (base ++ (busG ls ss (2 * ls.length + 2 * k) bus).take t) ((2 * ls.length + 2 * k + t : Nat) : Int) s4 s5 s6 s7 (.dat d) s9 s10 (.dat (.str bus))) _
          refine vss_cons (vs_if (vt_cmp C (vd_call C FH (by walk_at "at") (va_cons (vd_name C (by walk_at "at") rfl (va_cons (vd_name C (by walk_at "at") rfl (va_nil ⟨rfl, here _ _ ?_⟩))))))))
          refine vd_tup (va_nil ⟨by simp, (shaped_brs hsnm).2, by decide, ?_⟩)
          have ene : (!PyData.eqv (.tuple ((sortB (hereL ls ss bus)).map brD)) (.tuple [])) = true := by
            cases h : sortB (hereL ls ss bus) with
            | nil => exact absurd h hsnil
            | cons y r => simp [PyData.eqv, PyData.eqvAll]
          rw [ene]
          refine ⟨fun _ => ?_, fun e => (by cases e)⟩
          obtain ⟨dl, dg⟩ := dig_len (2 * ls.length + 2 * k + t) (by omega)
          refine vss_one (vs_append C (by walk_at "at") rfl (vd_tup (va_cons (vd_addS (vd_str (vd_callT C (x := "str") does_strI (by walk_at "at") (va_cons (vd_name C (by walk_at "at") rfl (va_nil ⟨_, rfl, dg, _, _, rfl, rfl, ?_, ?_⟩)))))))))
          · show 1 + _ ≤ _
            omega
          walk_at "kk"
          refine vd_call C FH (by walk_at "at") (va_cons (vd_name C (by walk_at "at") rfl (va_cons (vd_name C (by walk_at "at") rfl (va_nil ⟨rfl, here _ _ ?_⟩)))))
          refine va_nil ⟨by simp, _, rfl, by omega, ?_⟩
          refine vss_one (vs_set C (by walk_at "at") (vd_bin (vd_name C (by walk_at "at") rfl (vd_int ?_))))
          refine ⟨by omega, .dat d, ?_⟩
          rw [hg, List.append_assoc]
          rcases (show t = 0 ∨ t = 1 by omega) with rfl | rfl <;> rfl
        · obtain ⟨_, s8, rfl⟩ := hW
          exact hnx s8
    · obtain ⟨s8, s11, rfl⟩ := hW
      rw [List.length_map, List.take_length]
      refine vss_frz (i := 2) rfl ?_
      show VSs X _ [.dat nt, .dat (.int late), .dat (.list (Lg ++ busesG ls ss (2 * ls.length) bs)), .dat (.int ((2 * ls.length + 2 * bs.length : Nat) : Int)), s4, s5, s6, s7, s8, s9, s10, s11, .no, .no] _
      exact vss_one (vs_ret (vd_name C (by walk_at "at") rfl w))


open PySem PySem.Spec PyProof.Rows L2 Vc
/-! ### _law_net -/
/-- the breakers: lines' ends 0, lines' ends 1, sources' -/
def brks (m s : Nat) : List Br := (List.range m).map (fun i => (lname i, (0 : Int))) ++ (List.range m).map (fun i => (lname i, (1 : Int))) ++ (List.range s).map (fun i => (gname i, (0 : Int)))
def qn (n : Nat) : Str := "q" ++ Str.ofString (toString (n : Int))
structure Qg where
  told : D
  delay : Int
  opens : List Br
def qgD (i : Nat) (g : Qg) : D := gdD (qn i) g.told g.delay g.opens
def qgsFrom : Nat → List Qg → List D
  | _, [] => []
  | i, g :: r => qgD i g :: qgsFrom (i + 1) r
theorem qgs_snoc {g : Qg} : ∀ {gs : List Qg} {i : Nat}, qgsFrom i (gs ++ [g]) = qgsFrom i gs ++ [qgD (i + gs.length) g]
  | [], i => rfl
  | a :: gs, i => by
    show qgD i a :: qgsFrom (i + 1) (gs ++ [g]) = qgD i a :: (qgsFrom (i + 1) gs ++ [qgD (i + (gs.length + 1)) g])
    rw [qgs_snoc (gs := gs) (i := i + 1), show i + 1 + gs.length = i + (gs.length + 1) by omega]
theorem qgs_len : ∀ {gs : List Qg} {i : Nat}, (qgsFrom i gs).length = gs.length
  | [], _ => rfl
  | _ :: gs, i => congrArg (· + 1) (qgs_len (gs := gs) (i := i + 1))
structure QgOk (bs : List Str) (m s : Nat) (g : Qg) : Prop where
  told : LookOk bs m (brks m s) g.told
  d0 : 0 ≤ g.delay
  d3 : g.delay ≤ 3
  opens : ∃ sub, sub.Sublist (brks m s) ∧ sub ≠ [] ∧ g.opens = sortB sub
def goodG (bs : List Str) (ls : List Ln) (ss : List Sr) (late : Int) : List D := linesG ls ss late 0 ls ++ busesG ls ss (2 * ls.length) bs
/-- the guards of a drawn net, its ticks -/
inductive GsOk (bs : List Str) (ls : List Ln) (ss : List Sr) (most : Int) : List D → Int → Prop where
  | good (late : Int) (gs : List D) (h : late = most ∨ late = most - 1) (hl : ls.length < 2) (hg : gs = goodG bs ls ss late ∨ ∃ n, n < (goodG bs ls ss late).length ∧ gs = (goodG bs ls ss late).take n ++ (goodG bs ls ss late).drop (n + 1)) : GsOk bs ls ss most gs (3 * most + 4)
  | drawn (ticks : Int) (qs : List Qg) (t3 : 3 ≤ ticks) (t11 : ticks ≤ 11) (q1 : 1 ≤ qs.length) (q4 : qs.length ≤ 4) (ok : ∀ g ∈ qs, QgOk bs ls.length ss.length g) : GsOk bs ls ss most (qgsFrom 0 qs) ticks
structure SrOk (bs : List Str) (s : Sr) : Prop where
  hb : s.b ∈ bs
  hx : s.x = 1 ∨ s.x = 3 ∨ s.x = 10
def errs : List (Int × Int) := [(0, 1), (0, 1), (1, 10), (1, 4)]
structure Drawn (bs : List Str) (ls : List Ln) (ss : List Sr) (gs : List D) (e : Int × Int) (least most ticks : Int) : Prop where
  hbs : ∃ n, 1 ≤ n ∧ n ≤ 3 ∧ bs = (["a", "b", "c"] : List Str).take n
  l2 : ls.length ≤ 2
  l1 : bs.length = 1 → ls = []
  lok : ∀ l ∈ ls, LnOk bs l
  s1 : 1 ≤ ss.length
  s2 : ss.length ≤ 2
  sok : ∀ s ∈ ss, SrOk bs s
  he : e ∈ errs
  a1 : 1 ≤ least
  a2 : least ≤ 2
  m1 : least ≤ most
  m2 : most ≤ least + 1
  hgs : GsOk bs ls ss most gs ticks
def netT (bs : List Str) (ls : List Ln) (ss : List Sr) (gs : List D) (e : Int × Int) (least most ticks : Int) : D :=
  .tuple [.tuple (bs.map PyData.str), .tuple (lnsFrom 0 ls), .tuple (srsFrom 0 ss), .tuple gs, .tuple [fracT e, .int least, .int most, .int ticks]]
def SDNet : List D → List D → (D → List D → Prop) → Prop := fun cs ds W => ∃ (ns : List Int) (c : Nat), cs = drw ns c ∧ ds = [] ∧ c ≤ 800000 ∧
  ∀ bs ls ss gs e least most ticks c', Drawn bs ls ss gs e least most ticks → c' ≤ c + 200 → W (netT bs ls ss gs e least most ticks) (drw ns c')
theorem goodG_len {bs : List Str} {ls : List Ln} {ss : List Sr} {late : Int} (lb : bs.length ≤ 3) (l1 : ls.length < 2) : (goodG bs ls ss late).length ≤ 10 := by
  unfold goodG
  rw [List.length_append, linesG_len]
  have := busesG_len (ls := ls) (ss := ss) (r := bs) (n := 2 * ls.length)
  omega
theorem hereL_ne {ls : List Ln} {ss : List Sr} {s : Sr} (hs : s ∈ ss) : hereL ls ss s.b ≠ [] := by
  have main : ∀ (r : List Sr) (i : Nat), s ∈ r → hereSs i r s.b ≠ [] := fun r => by
    induction r with
    | nil => exact fun i h => (by cases h)
    | cons a r ih =>
      intro i h e
      have e' : hereSr i a s.b ++ hereSs (i + 1) r s.b = [] := e
      obtain ⟨e1, e2⟩ := List.append_eq_nil_iff.mp e'
      rcases List.mem_cons.mp h with rfl | h
      · unfold hereSr at e1
        rw [if_pos rfl] at e1
        cases e1
      · exact ih (i + 1) h e2
  intro e
  exact main ss 0 hs (List.append_eq_nil_iff.mp e).2
theorem busesG_pos {ls : List Ln} {ss : List Sr} {bus : Str} (hne : hereL ls ss bus ≠ []) : ∀ {r : List Str} {n : Nat}, bus ∈ r → 0 < (busesG ls ss n r).length
  | [], n, h => by cases h
  | a :: r, n, h => by
    show 0 < (busG ls ss n a ++ busesG ls ss (n + 2) r).length
    rw [List.length_append]
    rcases List.mem_cons.mp h with rfl | h
    · have : (busG ls ss n bus).length = 2 := by
        unfold busG
        rw [if_neg hne]
        rfl
      omega
    · have := busesG_pos hne (r := r) (n := n + 2) h
      omega
theorem abc_ok {n : Nat} (h1 : 1 ≤ n) (h3 : n ≤ 3) : ((["a", "b", "c"] : List Str).take n).length = n ∧ ((["a", "b", "c"] : List Str).take n).Nodup := by
  rcases (show n = 1 ∨ n = 2 ∨ n = 3 by omega) with rfl | rfl | rfl <;> exact ⟨rfl, by decide +kernel⟩
abbrev enL (p : Addr) (dr : List D) (s1 s2 s3 s4 s5 s6 s7 s8 s9 s10 s11 s12 s13 s14 : Sl) : En := [.own p (.l dr), s1, s2, s3, s4, s5, s6, s7, s8, s9, s10, s11, s12, s13, s14, .no, .no, .no]
abbrev enM (p : Addr) (dr : List D) (B L S : D) (le mo : Int) (nt : D) (s3 s8 s9 s10 s11 s12 s13 s14 : Sl) : En := enL p dr (.dat B) (.dat L) s3 (.dat S) (.dat (.int le)) (.dat (.int mo)) (.dat nt) s8 s9 s10 s11 s12 s13 s14
theorem fDNet {M : Md} [Cold M] {f : Addr} {fd : FuncData} (ml : M.mg "len" = none) (mr : M.mg "range" = none) (ms : M.mg "str" = none) (mt : M.mg "tuple" = none) (mo : M.mg "sorted" = none) (FX : FnM M 3 "_law_next" 1 SNext) (FP : FnM M 4 "_law_pick" 1 SPick)
    (FL : FnM M 5 "_law_lines" 1 SLines) (FK : FnM M 5 "_law_looks" 2 SLooks) (FG : FnD M 2 "_law_good" 2 SGood)
    (F : Fun M.K "_law_net" "_law_net" sLNet f fd) (hm : M.mg "_law_net" = some (.ref f)) (b : L2.Binds M.K fd ["draw"] []) : FnM M 6 "_law_net" 0 SDNet := by
  refine fnM_mk (k := 5) (NK := nkLNet) (G := gLNet) F scLNet hm b rfl (by decide +kernel) rfl (by decide) fun X C p cs ds W hl hS => ?_
  obtain ⟨ns, c, rfl, rfl, hc, w⟩ := hS
  show VSs X _ (enL p (drw ns c) .no .no .no .no .no .no .no .no .no .no .no .no .no .no) _
  refine vss_cons (vs_set C (by walk_at "at") (vd_takeA (vd_tup (va_cons (vd_str (va_cons (vd_str (va_cons (vd_str (va_nil ⟨by simp, ?_⟩))))))))))
  refine vd_bin (vd_int (vd_callO C FX (by walk_at "at") (by walk_at "at") rfl (va_cons (vd_int (va_nil ?_)))))
  refine ⟨rfl, _, rfl, ns, c, 3, rfl, rfl, by omega, by decide, fun r r0 r1 => ?_⟩
  obtain ⟨nb, b1, b3, eb⟩ : ∃ nb : Nat, 1 ≤ nb ∧ nb ≤ 3 ∧ (1 + r) = (nb : Int) := ⟨(1 + r).toNat, by omega, by omega, by omega⟩
  obtain ⟨hbl, hbn⟩ := abc_ok b1 b3
  refine ⟨_, nb, rfl, by rw [eb], ?_⟩
  have ebs : ([.str "a", .str "b", .str "c"] : List D).take nb = ((["a", "b", "c"] : List Str).take nb).map PyData.str := by
    rw [List.map_take]
    rfl
  rw [ebs]
  have hbs : ∃ n, 1 ≤ n ∧ n ≤ 3 ∧ ((["a", "b", "c"] : List Str).take nb) = (["a", "b", "c"] : List Str).take n := ⟨nb, b1, b3, rfl⟩
  generalize (["a", "b", "c"] : List Str).take nb = bs at hbl hbn hbs
  show VSs X _ (enL p (drw ns (c + 1)) (.dat (.tuple (bs.map PyData.str))) .no .no .no .no .no .no .no .no .no .no .no .no .no) _
  refine vss_cons (vs_set C (by walk_at "at") (vd_callO C FL (by walk_at "at") (by walk_at "at") rfl (va_cons (vd_name C (by walk_at "at") rfl (va_nil ?_)))))
  refine ⟨rfl, _, rfl, ns, c + 1, bs, rfl, rfl, by omega, by omega, by omega, hbn, fun ls c1 hl2 hl1 hlok hc1 => ?_⟩
  show VSs X _ (enL p (drw ns c1) (.dat (.tuple (bs.map PyData.str))) (.dat (.tuple (lnsFrom 0 ls))) .no .no .no .no .no .no .no .no .no .no .no .no) _
  -- the sources
  refine vss_cons (vs_set C (by walk_at "at") (vd_callT C (x := "tuple") does_tupleL (by walk_at "at") (va_cons (vn_vd (vn_lc C nkLNet0 gLNet0 (i := 3) (by walk_at "at") (vi_range C (by walk_at "at") (vd_bin (vd_int (vd_callO C FX (by walk_at "at") (by walk_at "at") rfl (va_cons (vd_int (va_nil ?_))))))))))))
  refine ⟨rfl, _, rfl, ns, c1, 2, rfl, rfl, by omega, by decide, fun r r0 r1 => ?_⟩
  obtain ⟨m, m1, m2, em⟩ : ∃ m : Nat, 1 ≤ m ∧ m ≤ 2 ∧ (1 + r) = (m : Int) := ⟨(1 + r).toNat, by omega, by omega, by omega⟩
  refine ⟨m, by rw [em], by omega, ?_⟩
  refine ⟨by rw [List.length_map, List.length_range]; omega, fun j acc ρ' => ∃ (sl : List Sr) (c' : Nat), acc = srsFrom 0 sl ∧ sl.length = j ∧ (∀ s ∈ sl, SrOk bs s) ∧ c' ≤ c1 + 1 + 2 * j ∧ ρ' = enL p (drw ns c') (.dat (.tuple (bs.map PyData.str))) (.dat (.tuple (lnsFrom 0 ls))) .no .no .no .no .no .no .no .no .no .no .no .no, ⟨[], c1 + 1, rfl, rfl, (fun _ h => (nomatch h)), by omega, rfl⟩, fun j d acc ρ' hj hW X' C' => ?_, fun acc ρ' hW => ?_⟩
  · obtain ⟨sl, c', rfl, hsl, hsok, hc', rfl⟩ := hW
    obtain ⟨jlt, je⟩ := List.getElem?_eq_some_iff.mp hj
    rw [List.length_map, List.length_range] at jlt
    have ed : d = .int (j : Int) := by
      rw [← je, List.getElem_map, List.getElem_range]
    subst ed
    obtain ⟨dl, dg⟩ := dig_len j (by omega)
    refine vd_tup (va_cons (vd_addS (vd_str (vd_callT C' (x := "str") does_strI (by walk_at "at") (va_cons (vd_name C' (by walk_at "at") rfl (va_nil ⟨_, rfl, dg, _, _, rfl, rfl, ?_, ?_⟩)))))))
    · show 1 + _ ≤ _
      omega
    refine va_cons (vd_callO C' FP (m := 0) (by walk_at "at") (by walk_at "at") rfl (va_cons (vd_name C' (by walk_at "at") rfl (va_nil ?_))))
    refine ⟨rfl, _, rfl, ns, c', bs.map PyData.str, rfl, .inr rfl, by omega, by rw [List.length_map]; omega, fun y hy => ?_⟩
    obtain ⟨bus, hbus, rfl⟩ := map_mem hy
    refine va_cons (vd_callO C' FP (m := 0) (by walk_at "at") (by walk_at "at") rfl (va_cons (vn_vd (vn_lst ?_))))
    walk_at "kk"
    refine ⟨_, rfl, ns, c' + 1, [.int 1, .int 3, .int 10], rfl, .inl rfl, by omega, by decide, fun y hy => ?_⟩
    obtain ⟨x, hx, rfl⟩ : ∃ x : Int, (x = 1 ∨ x = 3 ∨ x = 10) ∧ y = .int x := by
      simp only [List.mem_cons, List.not_mem_nil, or_false] at hy
      rcases hy with rfl | rfl | rfl
      · exact ⟨1, .inl rfl, rfl⟩
      · exact ⟨3, .inr (.inl rfl), rfl⟩
      · exact ⟨10, .inr (.inr rfl), rfl⟩
    refine va_nil ⟨by simp, sl ++ [⟨bus, x⟩], c' + 1 + 1, ?_, by rw [List.length_append, hsl]; rfl, fun s hs => ?_, by omega, rfl⟩
    · have e : ∀ (r : List Sr) (i : Nat) (s : Sr), srsFrom i (r ++ [s]) = srsFrom i r ++ [srD (i + r.length) s] := fun r => by
        induction r with
        | nil => exact fun i s => rfl
        | cons a r ih =>
          intro i s
          show srD i a :: srsFrom (i + 1) (r ++ [s]) = srD i a :: (srsFrom (i + 1) r ++ [srD (i + (r.length + 1)) s])
          rw [ih, show i + 1 + r.length = i + (r.length + 1) by omega]
      rw [e, hsl, Nat.zero_add]
      rfl
    · rcases List.mem_append.mp hs with q | q
      · exact hsok s q
      · rw [List.mem_singleton.mp q]
        exact ⟨hbus, hx⟩
  obtain ⟨ss, c2, rfl, hsl, hsok, hc2, rfl⟩ := hW
  rw [List.length_map, List.length_range] at hsl hc2
  refine va_nil ⟨_, rfl, ?_⟩
  show VSs X _ (enL p (drw ns c2) (.dat (.tuple (bs.map PyData.str))) (.dat (.tuple (lnsFrom 0 ls))) .no (.dat (.tuple (srsFrom 0 ss))) .no .no .no .no .no .no .no .no .no .no) _
  -- the times
  refine vss_cons (vs_set C (by walk_at "at") (vd_bin (vd_int (vd_callO C FX (by walk_at "at") (by walk_at "at") rfl (va_cons (vd_int (va_nil ?_)))))))
  refine ⟨rfl, _, rfl, ns, c2, 2, rfl, rfl, by omega, by decide, fun r r0 r1 => ?_⟩
  obtain ⟨least, a1, a2, el⟩ : ∃ n : Int, 1 ≤ n ∧ n ≤ 2 ∧ 1 + r = n := ⟨_, by omega, by omega, rfl⟩
  simp only [binD, el]
  show VSs X _ (enL p (drw ns (c2 + 1)) (.dat (.tuple (bs.map PyData.str))) (.dat (.tuple (lnsFrom 0 ls))) .no (.dat (.tuple (srsFrom 0 ss))) (.dat (.int least)) .no .no .no .no .no .no .no .no .no) _
  refine vss_cons (vs_set C (by walk_at "at") (vd_bin (vd_name C (by walk_at "at") rfl (vd_callO C FX (by walk_at "at") (by walk_at "at") rfl (va_cons (vd_int (va_nil ?_)))))))
  refine ⟨rfl, _, rfl, ns, c2 + 1, 2, rfl, rfl, by omega, by decide, fun r r0 r1 => ?_⟩
  obtain ⟨most, q1, q2, em⟩ : ∃ n : Int, least ≤ n ∧ n ≤ least + 1 ∧ least + r = n := ⟨_, by omega, by omega, rfl⟩
  simp only [binD, em]
  show VSs X _ (enL p (drw ns (c2 + 1 + 1)) (.dat (.tuple (bs.map PyData.str))) (.dat (.tuple (lnsFrom 0 ls))) .no (.dat (.tuple (srsFrom 0 ss))) (.dat (.int least)) (.dat (.int most)) .no .no .no .no .no .no .no .no) _
  refine vss_cons (vs_set C (by walk_at "at") (vd_tup ?_))
  walk_at "kk"
  have hnet : ∃ nt, nt = PyData.tuple [.tuple (bs.map PyData.str), .tuple (lnsFrom 0 ls), .tuple (srsFrom 0 ss)] := ⟨_, rfl⟩
  obtain ⟨nt, hnt⟩ := hnet
  rw [← hnt]
  show VSs X _ (enM p (drw ns (c2 + 1 + 1)) (.tuple (bs.map PyData.str)) (.tuple (lnsFrom 0 ls)) (.tuple (srsFrom 0 ss)) least most nt .no .no .no .no .no .no .no .no) _
  refine vss_cons (vs_set C (by walk_at "at") (vn_vd (vn_cat (vn_vd (vn_cat (vn_vd (vn_lc C nkLNet1 gLNet1 (i := 15) (by walk_at "at") (vi_tup (vd_name C (by walk_at "at") rfl ⟨_, rfl, ?_⟩)))))))))
  refine ⟨by rw [lns_len]; omega, fun j acc ρ' => ρ' = (enM p (drw ns (c2 + 1 + 1)) (.tuple (bs.map PyData.str)) (.tuple (lnsFrom 0 ls)) (.tuple (srsFrom 0 ss)) least most nt .no .no .no .no .no .no .no .no) ∧ acc = ((List.range j).map fun i => (lname i, (0 : Int))).map brD, ⟨rfl, rfl⟩, fun j d acc ρ' hj ⟨hρ, ha⟩ X' C' => ?_, fun acc ρ' ⟨hρ, ha⟩ => ?_⟩
  · subst hρ
    obtain ⟨l, hl, rfl⟩ := lns_get hj
    rw [Nat.zero_add]
    refine vd_tup (va_cons (vd_ix (vd_name C' (by walk_at "at") rfl (vd_int ?_))))
    refine ⟨.str (lname j), atI_nat (j := 0) rfl, va_cons (vd_int (va_nil ⟨by simp, rfl, ?_⟩))⟩
    rw [ha, List.range_succ, List.map_append, List.map_append]
    rfl
  subst hρ ha
  rw [lns_len]
  refine vn_vd (vn_lc C nkLNet2 gLNet2 (i := 15) (by walk_at "at") (vi_tup (vd_name C (by walk_at "at") rfl ⟨_, rfl, ?_⟩)))
  refine ⟨by rw [lns_len]; omega, fun j acc ρ' => ρ' = (enM p (drw ns (c2 + 1 + 1)) (.tuple (bs.map PyData.str)) (.tuple (lnsFrom 0 ls)) (.tuple (srsFrom 0 ss)) least most nt .no .no .no .no .no .no .no .no) ∧ acc = ((List.range j).map fun i => (lname i, (1 : Int))).map brD, ⟨rfl, rfl⟩, fun j d acc ρ' hj ⟨hρ, ha⟩ X' C' => ?_, fun acc ρ' ⟨hρ, ha⟩ => ?_⟩
  · subst hρ
    obtain ⟨l, hl, rfl⟩ := lns_get hj
    rw [Nat.zero_add]
    refine vd_tup (va_cons (vd_ix (vd_name C' (by walk_at "at") rfl (vd_int ?_))))
    refine ⟨.str (lname j), atI_nat (j := 0) rfl, va_cons (vd_int (va_nil ⟨by simp, rfl, ?_⟩))⟩
    rw [ha, List.range_succ, List.map_append, List.map_append]
    rfl
  subst hρ ha
  rw [lns_len]
  refine ⟨_, _, rfl, rfl, by rw [List.length_map, List.length_map, List.length_map, List.length_map, List.length_range]; omega, ?_⟩
  refine vn_vd (vn_lc C nkLNet3 gLNet3 (i := 16) (by walk_at "at") (vi_tup (vd_name C (by walk_at "at") rfl ⟨_, rfl, ?_⟩)))
  refine ⟨by rw [srs_len]; omega, fun j acc ρ' => ρ' = (enM p (drw ns (c2 + 1 + 1)) (.tuple (bs.map PyData.str)) (.tuple (lnsFrom 0 ls)) (.tuple (srsFrom 0 ss)) least most nt .no .no .no .no .no .no .no .no) ∧ acc = ((List.range j).map fun i => (gname i, (0 : Int))).map brD, ⟨rfl, rfl⟩, fun j d acc ρ' hj ⟨hρ, ha⟩ X' C' => ?_, fun acc ρ' ⟨hρ, ha⟩ => ?_⟩
  · subst hρ
    obtain ⟨l, hl, rfl⟩ := srs_get hj
    rw [Nat.zero_add]
    refine vd_tup (va_cons (vd_ix (vd_name C' (by walk_at "at") rfl (vd_int ?_))))
    refine ⟨.str (gname j), atI_nat (j := 0) rfl, va_cons (vd_int (va_nil ⟨by simp, rfl, ?_⟩))⟩
    rw [ha, List.range_succ, List.map_append, List.map_append]
    rfl
  subst hρ ha
  rw [srs_len]
  refine ⟨_, _, rfl, rfl, by simp only [List.length_append, List.length_map, List.length_range]; omega, ?_⟩
  have ebr : (((List.range ls.length).map fun i => (lname i, (0 : Int))).map brD ++ ((List.range ls.length).map fun i => (lname i, (1 : Int))).map brD) ++ ((List.range ss.length).map fun i => (gname i, (0 : Int))).map brD = (brks ls.length ss.length).map brD := by
    unfold brks
    rw [List.map_append, List.map_append]
  rw [ebr]
  have hql : (brks ls.length ss.length).length ≤ 6 := by
    unfold brks
    simp only [List.length_append, List.length_map, List.length_range]
    omega
  have hqn : brks ls.length ss.length ≠ [] := by
    unfold brks
    intro e
    have := congrArg List.length e
    simp only [List.length_append, List.length_map, List.length_range, List.length_nil] at this
    omega
  show VSs X _ (enM p (drw ns (c2 + 1 + 1)) (.tuple (bs.map PyData.str)) (.tuple (lnsFrom 0 ls)) (.tuple (srsFrom 0 ss)) least most nt .no (.dat (.list ((brks ls.length ss.length).map brD))) .no .no .no .no .no .no) _
  -- the error; the net
  have fin : ∀ (gs : List D) (ticks : Int) (c3 : Nat) (s3 s11 s12 s13 : Sl), GsOk bs ls ss most gs ticks → gs.length ≤ 16 → c3 ≤ c + 150 → VSs X ((defBody sLNet).drop 8) (enM p (drw ns c3) (.tuple (bs.map PyData.str)) (.tuple (lnsFrom 0 ls)) (.tuple (srsFrom 0 ss)) least most nt s3 (.dat (.list ((brks ls.length ss.length).map brD))) (.dat (.list gs)) (.dat (.int ticks)) s11 s12 s13 .no) { nx := fun ρ' => ∃ cs', ρ'[0]? = some (.own p (.l cs')) ∧ W .none cs', rt := fun d ρ' => ∃ cs', ρ'[0]? = some (.own p (.l cs')) ∧ W d cs' } := fun gs ticks c3 s3 s11 s12 s13 hgs hgl hc3 => by
    refine vss_cons (vs_set C (by walk_at "at") (vd_callO C FP (by walk_at "at") (by walk_at "at") rfl (va_cons (vn_vd (vn_lst ?_)))))
    walk_at "kk"
    refine ⟨_, rfl, ns, c3, [.tuple [.int 0, .int 1], .tuple [.int 0, .int 1], .tuple [.int 1, .int 10], .tuple [.int 1, .int 4]], rfl, .inl rfl, by omega, by decide, fun y hy => ?_⟩
    obtain ⟨e, he, rfl⟩ : ∃ e, e ∈ errs ∧ y = fracT e := by
      simp only [List.mem_cons, List.not_mem_nil, or_false] at hy
      rcases hy with rfl | rfl | rfl | rfl
      · exact ⟨(0, 1), by decide, rfl⟩
      · exact ⟨(0, 1), by decide, rfl⟩
      · exact ⟨(1, 10), by decide, rfl⟩
      · exact ⟨(1, 4), by decide, rfl⟩
    show VSs X _ (enM p (drw ns (c3 + 1)) (.tuple (bs.map PyData.str)) (.tuple (lnsFrom 0 ls)) (.tuple (srsFrom 0 ss)) least most nt s3 (.dat (.list ((brks ls.length ss.length).map brD))) (.dat (.list gs)) (.dat (.int ticks)) s11 s12 s13 (.dat (fracT e))) _
    refine vss_one (vs_ret (vd_catA (vd_name C (by walk_at "at") rfl (vd_tup (va_cons (vd_callT C (x := "tuple") does_tupleL (by walk_at "at") (va_cons (vn_vd (vn_take (n := 16) (vd_name C (by walk_at "at") rfl ⟨_, rfl, va_nil ⟨_, rfl, ?_⟩⟩))))))))))
    walk_at "kk"
    rw [List.take_of_length_le hgl, hnt]
    refine ⟨_, _, rfl, rfl, by simp, _, rfl, ?_⟩
    exact w bs ls ss gs e least most ticks (c3 + 1) ⟨hbs, hl2, hl1, hlok, by omega, by omega, hsok, he, a1, a2, q1, q2, hgs⟩ (by omega)
  refine vss_cons (vs_if (vt_w (vw_and (vt_cmp C (vd_callO C FX (by walk_at "at") (by walk_at "at") rfl (va_cons (vd_int (va_nil ?_))))))))
  refine ⟨rfl, _, rfl, ns, c2 + 1 + 1, 3, rfl, rfl, by omega, by decide, fun r r0 r1 => ?_⟩
  have other : ∀ c4, c4 ≤ c + 40 → VSs X (match (defBody sLNet).getD 7 (.Pass ⟨0, 0, 0, 0⟩) with | .If _ _ u _ => u | _ => []) (enM p (drw ns c4) (.tuple (bs.map PyData.str)) (.tuple (lnsFrom 0 ls)) (.tuple (srsFrom 0 ss)) least most nt .no (.dat (.list ((brks ls.length ss.length).map brD))) .no .no .no .no .no .no) { nx := fun ρ1 => VSs X ((defBody sLNet).drop 8) ρ1 { nx := fun ρ' => ∃ cs', ρ'[0]? = some (.own p (.l cs')) ∧ W .none cs', rt := fun d ρ' => ∃ cs', ρ'[0]? = some (.own p (.l cs')) ∧ W d cs' }, rt := fun d ρ' => ∃ cs', ρ'[0]? = some (.own p (.l cs')) ∧ W d cs' } := fun c4 hc4 => by
    refine vss_cons (vs_parN C (i := 9) (j := 10) (by walk_at "at") (by walk_at "at") (by decide) (by show 9 < 18; decide) (vn_lst (va_nil ⟨by decide, vd_bin (vd_int (vd_callO C FX (m := 0) (by walk_at "at") (by walk_at "at") rfl (va_cons (vd_int (va_nil ?_)))))⟩)) (by walk_at "sw"))
    refine ⟨rfl, _, rfl, ns, c4, 9, rfl, rfl, by omega, by decide, fun r r0 r1 z => ?_⟩
    obtain ⟨ticks, t3, t11, et⟩ : ∃ n : Int, 3 ≤ n ∧ n ≤ 11 ∧ 3 + r = n := ⟨_, by omega, by omega, rfl⟩
    rw [et]
    show VSs X _ (enM p (drw ns (c4 + 1)) (.tuple (bs.map PyData.str)) (.tuple (lnsFrom 0 ls)) (.tuple (srsFrom 0 ss)) least most nt .no (.dat (.list ((brks ls.length ss.length).map brD))) (.own z (.l [])) (.dat (.int ticks)) .no .no .no .no) _
    refine vss_one (vs_for C (vi_range C (by walk_at "at") (vd_bin (vd_int (vd_callO C FX (by walk_at "at") (by walk_at "at") rfl (va_cons (vd_int (va_nil ?_))))))))
    refine ⟨rfl, _, rfl, ns, c4 + 1, 4, rfl, rfl, by omega, by decide, fun r r0 r1 => ?_⟩
    obtain ⟨m, m1, m4, em⟩ : ∃ m : Nat, 1 ≤ m ∧ m ≤ 4 ∧ (1 + r) = (m : Int) := ⟨(1 + r).toNat, by omega, by omega, by omega⟩
    refine ⟨m, by rw [em], by omega, ?_⟩
    refine ⟨fun j ρ' => ∃ (qs : List Qg) (c5 : Nat) (s11 s12 s13 : Sl), qs.length = j ∧ (∀ g ∈ qs, QgOk bs ls.length ss.length g) ∧ c5 ≤ c4 + 2 + 20 * j ∧ ρ' = enM p (drw ns c5) (.tuple (bs.map PyData.str)) (.tuple (lnsFrom 0 ls)) (.tuple (srsFrom 0 ss)) least most nt .no (.dat (.list ((brks ls.length ss.length).map brD))) (.own z (.l (qgsFrom 0 qs))) (.dat (.int ticks)) s11 s12 s13 .no, ⟨[], c4 + 2, _, _, _, rfl, (fun _ h => (nomatch h)), by omega, rfl⟩, fun j d ρ' hj hW => ?_, fun ρ' hW => ?_⟩
    · obtain ⟨qs, c5, s11, s12, s13, hqs, hqok, hc5, rfl⟩ := hW
      obtain ⟨jlt, je⟩ := List.getElem?_eq_some_iff.mp hj
      rw [List.length_map, List.length_range] at jlt
      have ed : d = .int (j : Int) := by
        rw [← je, List.getElem_map, List.getElem_range]
      subst ed
      refine vg_name C (by walk_at "at") ?_
      show VSs X _ (enM p (drw ns c5) (.tuple (bs.map PyData.str)) (.tuple (lnsFrom 0 ls)) (.tuple (srsFrom 0 ss)) least most nt .no (.dat (.list ((brks ls.length ss.length).map brD))) (.own z (.l (qgsFrom 0 qs))) (.dat (.int ticks)) (.dat (.int (j : Int))) s12 s13 .no) _
      refine vss_cons (vs_setLcIf C nkLNet4 gLNet4 (i := 17) (m := 12) (by walk_at "at") (by walk_at "at") (vi_lst (vd_name C (by walk_at "at") rfl ⟨_, rfl, ?_⟩)))
      refine ⟨by rw [List.length_map]; omega, fun jj acc ρ' => ∃ (sub : List Br) (c6 : Nat) (s12 : Sl), acc = sub.map brD ∧ sub.Sublist ((brks ls.length ss.length).take jj) ∧ c6 ≤ c5 + jj ∧ ρ' = enM p (drw ns c6) (.tuple (bs.map PyData.str)) (.tuple (lnsFrom 0 ls)) (.tuple (srsFrom 0 ss)) least most nt .no (.dat (.list ((brks ls.length ss.length).map brD))) (.own z (.l (qgsFrom 0 qs))) (.dat (.int ticks)) (.dat (.int (j : Int))) s12 s13 .no, ⟨[], c5, _, rfl, List.Sublist.refl _, by omega, rfl⟩, fun jj d acc ρ' hjj hW X' C' => ?_, fun acc ρ' hW => ?_⟩
      · obtain ⟨sub, c6, s12, rfl, hsub, hc6, rfl⟩ := hW
        rw [List.getElem?_map] at hjj
        obtain ⟨q, hq, rfl⟩ : ∃ q, (brks ls.length ss.length)[jj]? = some q ∧ brD q = d := by
          cases e : (brks ls.length ss.length)[jj]? with
          | none =>
            rw [e] at hjj
            cases hjj
          | some q =>
            rw [e] at hjj
            exact ⟨q, rfl, by simpa using hjj⟩
        have jjl := (List.getElem?_eq_some_iff.mp hq).1
        have etk : (brks ls.length ss.length).take (jj + 1) = (brks ls.length ss.length).take jj ++ [q] := by
          rw [List.take_succ, hq]
          rfl
        refine vt_cmp C' (vd_callO C' FX (m := 0) (by walk_at "at") (by walk_at "at") rfl (va_cons (vd_int (va_nil ?_))))
        refine ⟨rfl, _, rfl, ns, c6, 3, rfl, rfl, by omega, by decide, fun r r0 r1 => ?_⟩
        refine vd_int ⟨fun e X'' C'' => ?_, fun e => ?_⟩
        · refine vd_name C'' (by walk_at "at") rfl ⟨sub ++ [q], c6 + 1, s12, by rw [List.map_append]; rfl, ?_, by omega, rfl⟩
          rw [etk]
          exact hsub.append (List.Sublist.refl _)
        · refine ⟨sub, c6 + 1, s12, rfl, ?_, by omega, rfl⟩
          rw [etk]
          exact hsub.trans (List.sublist_append_left _ _)
      · obtain ⟨sub, c6, s12, rfl, hsub, hc6, rfl⟩ := hW
        rw [List.length_map, List.take_length] at hsub
        rw [List.length_map] at hc6
        have hbnm : ∀ y ∈ brks ls.length ss.length, y.1 ∈ okNm := fun y hy => by
          unfold brks at hy
          rcases List.mem_append.mp hy with hy | hy
          · rcases List.mem_append.mp hy with hy | hy <;> obtain ⟨i, hi, rfl⟩ := List.mem_map.mp hy <;> exact nm_l (by have := List.mem_range.mp hi; omega)
          · obtain ⟨i, hi, rfl⟩ := List.mem_map.mp hy
            exact nm_g (by have := List.mem_range.mp hi; omega)
        have hsl6 : sub.length ≤ 6 := Nat.le_trans hsub.length_le hql
        show VSs X _ (enM p (drw ns c6) (.tuple (bs.map PyData.str)) (.tuple (lnsFrom 0 ls)) (.tuple (srsFrom 0 ss)) least most nt .no (.dat (.list ((brks ls.length ss.length).map brD))) (.own z (.l (qgsFrom 0 qs))) (.dat (.int ticks)) (.dat (.int (j : Int))) (.dat (.list (sub.map brD))) s13 .no) _
        refine vss_cons (vs_set C (by walk_at "at") (vd_callO C FK (by walk_at "at") (by walk_at "at") rfl (va_cons (vd_name C (by walk_at "at") rfl (va_cons (vd_name C (by walk_at "at") rfl (va_nil ?_)))))))
        refine ⟨rfl, _, rfl, ns, c6, bs, ls, .tuple (srsFrom 0 ss), brks ls.length ss.length, rfl, by rw [hnt], by omega, by omega, by omega, hl2, hqn, fun told c7 hlook hc7 => ?_⟩
        show VSs X _ (enM p (drw ns c7) (.tuple (bs.map PyData.str)) (.tuple (lnsFrom 0 ls)) (.tuple (srsFrom 0 ss)) least most nt .no (.dat (.list ((brks ls.length ss.length).map brD))) (.own z (.l (qgsFrom 0 qs))) (.dat (.int ticks)) (.dat (.int (j : Int))) (.dat (.list (sub.map brD))) (.dat told) .no) _
        -- what it opens
        refine vss_cons (vs_set C (by walk_at "at") (VD.imp (P := fun d ρ' => ∃ (sub : List Br) (c8 : Nat) (s12 : Sl), sub.Sublist (brks ls.length ss.length) ∧ sub ≠ [] ∧ c8 ≤ c7 + 1 ∧ d = .list (sub.map brD) ∧ ρ' = enM p (drw ns c8) (.tuple (bs.map PyData.str)) (.tuple (lnsFrom 0 ls)) (.tuple (srsFrom 0 ss)) least most nt .no (.dat (.list ((brks ls.length ss.length).map brD))) (.own z (.l (qgsFrom 0 qs))) (.dat (.int ticks)) (.dat (.int (j : Int))) s12 (.dat told) .no) ?_ fun d ρ' hP => ?_))
        · refine vd_if (vt_cmp C (vd_name C (by walk_at "at") rfl (vn_vd (vn_lst (va_nil ⟨by decide, ?_⟩)))))
          refine ⟨(shaped_brs fun y hy => hbnm y (hsub.subset hy)).1, by decide, ?_⟩
          have ene : (!PyData.eqv (.list (sub.map brD)) (.list [])) = !sub.isEmpty := by
            cases sub with
            | nil => decide
            | cons y r => simp [PyData.eqv, PyData.eqvAll]
          rw [ene]
          refine ⟨fun e => ?_, fun e => ?_⟩
          · refine vd_name C (by walk_at "at") rfl ⟨sub, c7, _, hsub, ?_, by omega, rfl, rfl⟩
            intro q
            rw [q] at e
            cases e
          · refine vn_vd (vn_lst (va_cons (vd_callO C FP (m := 0) (by walk_at "at") (by walk_at "at") rfl (va_cons (vd_name C (by walk_at "at") rfl (va_nil ?_))))))
            refine ⟨rfl, _, rfl, ns, c7, (brks ls.length ss.length).map brD, rfl, .inl rfl, by omega, by rw [List.length_map]; exact List.length_pos_iff.mpr hqn, fun y hy => ?_⟩
            obtain ⟨q, hq, rfl⟩ := map_mem hy
            exact va_nil ⟨by simp, [q], c7 + 1, _, List.singleton_sublist.mpr hq, by simp, by omega, rfl, rfl⟩
        obtain ⟨sub, c8, s12, hsub, hne, hc8, rfl, rfl⟩ := hP
        have hsl6 : sub.length ≤ 6 := Nat.le_trans hsub.length_le hql
        show VSs X _ (enM p (drw ns c8) (.tuple (bs.map PyData.str)) (.tuple (lnsFrom 0 ls)) (.tuple (srsFrom 0 ss)) least most nt .no (.dat (.list ((brks ls.length ss.length).map brD))) (.own z (.l (qgsFrom 0 qs))) (.dat (.int ticks)) (.dat (.int (j : Int))) (.dat (.list (sub.map brD))) (.dat told) .no) _
        obtain ⟨dl, dg⟩ := dig_len j (by omega)
        refine vss_one (vs_append C (by walk_at "at") rfl (vd_tup (va_cons (vd_addS (vd_str (vd_callT C (x := "str") does_strI (by walk_at "at") (va_cons (vd_name C (by walk_at "at") rfl (va_nil ⟨_, rfl, dg, _, _, rfl, rfl, ?_, ?_⟩)))))))))
        · show 1 + _ ≤ _
          omega
        refine va_cons (vd_name C (by walk_at "at") rfl (va_cons (vd_callO C FX (m := 0) (by walk_at "at") (by walk_at "at") rfl (va_cons (vd_int (va_nil ?_))))))
        refine ⟨rfl, _, rfl, ns, c8, 4, rfl, rfl, by omega, by decide, fun r r0 r1 => ?_⟩
        refine va_cons (vd_callT C (x := "tuple") does_tupleL (by walk_at "at") (va_cons (vn_vd (vn_sortBr C (by walk_at "at") (vd_name C (by walk_at "at") rfl ⟨sub, rfl, by omega, fun bs' hp ha => va_nil ⟨_, rfl, va_nil ⟨by simp, _, rfl, ?_, ?_⟩⟩⟩)))))
        · rw [qgs_len]
          omega
        rw [sortB_uniq hp ha]
        refine ⟨qs ++ [⟨told, r, sortB sub⟩], c8 + 1, .dat (.int (j : Int)), .dat (.list (sub.map brD)), .dat told, by rw [List.length_append, hqs]; rfl, fun g hg => ?_, by omega, ?_⟩
        · rcases List.mem_append.mp hg with q | q
          · exact hqok g q
          · rw [List.mem_singleton.mp q]
            exact ⟨hlook, r0, by show r ≤ 3; omega, sub, hsub, hne, rfl⟩
        · rw [qgs_snoc, hqs, show 0 + j = j from Nat.zero_add j]
          rfl
    · obtain ⟨qs, c5, s11, s12, s13, hqs, hqok, hc5, rfl⟩ := hW
      rw [List.length_map, List.length_range] at hqs hc5
      refine vss_frz (i := 9) rfl ?_
      exact fin (qgsFrom 0 qs) ticks c5 .no s11 s12 s13 (GsOk.drawn ticks qs t3 t11 (by omega) (by omega) hqok) (by rw [qgs_len]; omega) (by omega)
  refine vd_int ⟨fun e => ?_, fun e => ⟨fun e' => (by cases e'), fun _ => other _ (by omega)⟩⟩
  refine vw_and1 (vt_cmp C (vd_callB C (x := "len") does_len (by walk_at "at") (va_cons (vd_name C (by walk_at "at") rfl (va_nil ?_)))))
  refine ⟨_, .inr rfl, ?_⟩
  rw [lns_len]
  refine vd_int ⟨fun e => ?_, fun e => other _ (by omega)⟩
  have hl1' : ls.length < 2 := by
    have := of_decide_eq_true e
    omega
  -- the good guards, perhaps one left out
  have good : ∀ (late : Int) (c5 : Nat), (late = most ∨ late = most - 1) → c5 ≤ c + 50 → VSs X ((match (defBody sLNet).getD 7 (.Pass ⟨0, 0, 0, 0⟩) with | .If _ t _ _ => t | _ => []).drop 1) (enM p (drw ns c5) (.tuple (bs.map PyData.str)) (.tuple (lnsFrom 0 ls)) (.tuple (srsFrom 0 ss)) least most nt .no (.dat (.list ((brks ls.length ss.length).map brD))) (.dat (.list (goodG bs ls ss late))) .no .no .no .no .no) { nx := fun ρ1 => VSs X ((defBody sLNet).drop 8) ρ1 { nx := fun ρ' => ∃ cs', ρ'[0]? = some (.own p (.l cs')) ∧ W .none cs', rt := fun d ρ' => ∃ cs', ρ'[0]? = some (.own p (.l cs')) ∧ W d cs' }, rt := fun d ρ' => ∃ cs', ρ'[0]? = some (.own p (.l cs')) ∧ W d cs' } := fun late c5 hlate hc5 => by
    have hgl := goodG_len (bs := bs) (ls := ls) (ss := ss) (late := late) (by omega) hl1'
    have hgp : 0 < (goodG bs ls ss late).length := by
      cases hss : ss with
      | nil =>
        rw [hss] at hsl
        simp at hsl
        omega
      | cons s r =>
        have hm : s ∈ ss := by rw [hss]; exact List.mem_cons_self
        rw [← hss]
        unfold goodG
        rw [List.length_append]
        have := busesG_pos (ls := ls) (ss := ss) (n := 2 * ls.length) (hereL_ne (ls := ls) hm) (hsok s hm).hb
        omega
    refine vss_cons (vs_if (vt_cmp C (vd_callO C FX (by walk_at "at") (by walk_at "at") rfl (va_cons (vd_int (va_nil ?_))))))
    refine ⟨rfl, _, rfl, ns, c5, 3, rfl, rfl, by omega, by decide, fun r r0 r1 => ?_⟩
    refine vd_int ⟨fun e => ?_, fun e => vss_nil ?_⟩
    · refine vss_cons (vs_set C (by walk_at "at") (vd_callO C FX (by walk_at "at") (by walk_at "at") rfl (va_cons (vd_callB C (x := "len") does_len (by walk_at "at") (va_cons (vd_name C (by walk_at "at") rfl (va_nil ⟨_, .inl rfl, va_nil ?_⟩)))))))
      refine ⟨rfl, _, rfl, ns, c5 + 1, ((goodG bs ls ss late).length : Int), rfl, rfl, by omega, by omega, fun r' q0 q1' => ?_⟩
      obtain ⟨n, rfl⟩ := Int.eq_ofNat_of_zero_le q0
      have hn : n < (goodG bs ls ss late).length := by omega
      show VSs X _ (enM p (drw ns (c5 + 1 + 1)) (.tuple (bs.map PyData.str)) (.tuple (lnsFrom 0 ls)) (.tuple (srsFrom 0 ss)) least most nt (.dat (.int (n : Int))) (.dat (.list ((brks ls.length ss.length).map brD))) (.dat (.list (goodG bs ls ss late))) .no .no .no .no .no) _
      refine vss_one (vs_set C (by walk_at "at") (vn_vd (vn_cat (vn_vd (vn_takeE (vd_name C (by walk_at "at") rfl (vd_name C (by walk_at "at") rfl ⟨_, n, rfl, rfl, ?_⟩)))))))
      refine vn_vd (vn_dropE (vd_name C (by walk_at "at") rfl (vd_bin (vd_name C (by walk_at "at") rfl (vd_int ?_)))))
      refine ⟨_, n + 1, rfl, rfl, ?_⟩
      refine ⟨_, _, rfl, rfl, by rw [List.length_take, List.length_drop]; omega, ?_⟩
      refine vss_one (vs_set C (by walk_at "at") (vd_bin (vd_bin (vd_int (vd_name C (by walk_at "at") rfl ?_)))))
      refine ⟨mulW64 (by decide) (by omega), vd_int ?_⟩
      refine fin _ _ _ _ _ _ _ (GsOk.good late _ hlate hl1' (.inr ⟨n, hn, rfl⟩)) ?_ (by omega)
      rw [List.length_append, List.length_take, List.length_drop]
      omega
    · refine vss_one (vs_set C (by walk_at "at") (vd_bin (vd_bin (vd_int (vd_name C (by walk_at "at") rfl ?_)))))
      refine ⟨mulW64 (by decide) (by omega), vd_int ?_⟩
      exact fin _ _ _ _ _ _ _ (GsOk.good late _ hlate hl1' (.inl rfl)) (by omega) (by omega)
  refine vss_cons (vs_set C (by walk_at "at") (vd_call C FG (by walk_at "at") (va_cons (vd_name C (by walk_at "at") rfl (va_cons (vd_if (vt_cmp C (vd_callO C FX (by walk_at "at") (by walk_at "at") rfl (va_cons (vd_int (va_nil ?_)))))))))))
  refine ⟨rfl, _, rfl, ns, c2 + 1 + 1 + 1, 4, rfl, rfl, by omega, by decide, fun r' r0' r1' => ?_⟩
  refine vd_int ⟨fun e => ?_, fun e => ?_⟩
  · refine vd_name C (by walk_at "at") rfl (va_nil ⟨rfl, bs, ls, ss, most, ?_, by omega, by omega, by omega, ?_⟩)
    · rw [hnt]
    · exact good most _ (.inl rfl) (by omega)
  · refine vd_bin (vd_name C (by walk_at "at") rfl (vd_int ?_))
    refine va_nil ⟨rfl, bs, ls, ss, most - 1, ?_, by omega, by omega, by omega, ?_⟩
    · rw [hnt]
    · exact good (most - 1) _ (.inr rfl) (by omega)


open PySem PySem.Spec PyProof.Rows L2 Vc
/-! ### _law_put -/
def SPut : List D → (D → Prop) → Prop := fun ds W => ∃ (xs : List D) (n : Nat) (t : D), ds = [.tuple xs, .int (n : Int), t] ∧ xs.length ≤ 1000 ∧ n ≤ 1000 ∧ W (.tuple (xs.take n ++ [t] ++ xs.drop (n + 1)))
theorem fPut {M : Md} [Cold M] {f : Addr} {fd : FuncData} (F : Fun M.K "_law_put" "_law_put" sLPut f fd) (hm : M.mg "_law_put" = some (.ref f)) (b : L2.Binds M.K fd ["net", "at", "thing"] []) : FnD M 1 "_law_put" 3 SPut := by
  refine fnD_mk (k := 0) (NK := nkLPut) (G := gLPut) F scLPut hm b rfl (by decide +kernel) rfl (by decide) fun X C ds W hl hS => ?_
  obtain ⟨xs, n, t, rfl, lx, ln, w⟩ := hS
  show VSs X _ [.dat (.tuple xs), .dat (.int (n : Int)), .dat t] _
  walk_at "v"
  walk_at "v"
  refine vd_catA (vd_catA (vd_takeA ?_))
  walk_at "v"
  walk_at "v"
  refine ⟨xs, n, rfl, rfl, ?_⟩
  walk_at "vv"
  refine ⟨by show 1 ≤ 1000; decide, xs.take n, [t], rfl, rfl, by rw [List.length_take]; show _ + 1 ≤ _; omega, ?_⟩
  refine vd_dropA ?_
  walk_at "vv"
  refine ⟨xs, n + 1, rfl, rfl, xs.take n ++ [t], xs.drop (n + 1), rfl, rfl, ?_, w⟩
  rw [List.length_append, List.length_take, List.length_drop]
  show _ + 1 + _ ≤ _
  omega


open PySem PySem.Spec PyProof.Rows L2 Vc
/-! ### a drawn net is a net -/
abbrev abc (n : Nat) : List Str := (["a", "b", "c"] : List Str).take n
def nmB (n : Nat) : Nm := (abc n).map fun z => (z, ("bus" : Str))
def nmL (m : Nat) : Nm := (List.range m).map fun i => (lname i, ("line" : Str))
def nmS (s : Nat) : Nm := (List.range s).map fun i => (gname i, ("source" : Str))
def nm0 (n m s : Nat) : Nm := nmB n ++ (nmL m ++ nmS s)
def allLn (n : Nat) : List Ln := (abc n).flatMap fun o => (abc n).flatMap fun t => if o = t then [] else [⟨o, t, 1⟩, ⟨o, t, 2⟩, ⟨o, t, 5⟩, ⟨o, t, 10⟩, ⟨o, t, 30⟩]
def allSr (n : Nat) : List Sr := (abc n).flatMap fun b => [⟨b, 1⟩, ⟨b, 3⟩, ⟨b, 10⟩]
theorem in_allLn {n : Nat} {l : Ln} (h : LnOk (abc n) l) : l ∈ allLn n := by
  unfold allLn
  rw [List.mem_flatMap]
  refine ⟨l.o, h.o, ?_⟩
  rw [List.mem_flatMap]
  refine ⟨l.t, h.t, ?_⟩
  rw [if_neg h.ne]
  obtain ⟨o, t, x⟩ := l
  have hx := h.x
  simp only [List.mem_cons, List.not_mem_nil, or_false, Ln.mk.injEq, true_and]
  exact hx
theorem in_allSr {n : Nat} {s : Sr} (h : SrOk (abc n) s) : s ∈ allSr n := by
  unfold allSr
  rw [List.mem_flatMap]
  refine ⟨s.b, h.hb, ?_⟩
  obtain ⟨b, x⟩ := s
  have hx := h.hx
  simp only [List.mem_cons, List.not_mem_nil, or_false, Sr.mk.injEq, true_and]
  exact hx
theorem buses_n : ∀ n < 4, allN busN [] ((abc n).map PyData.str) = some (nmB n) := by decide +kernel
theorem line_n : ∀ n < 4, ∀ i < 2, ∀ l ∈ allLn n, lineN (nmB n ++ nmL i) (lnD i l) = some (nmB n ++ nmL (i + 1)) := by decide +kernel
theorem source_b : ((List.range 4).all fun n => (List.range 3).all fun m => (List.range 2).all fun i => (allSr n).all fun s => decide (sourceN (nm0 n m i) (srD i s) = some (nm0 n m (i + 1)))) = true := by decide +kernel
theorem source_n (n : Nat) (hn : n < 4) (m : Nat) (hm : m < 3) (i : Nat) (hi : i < 2) (s : Sr) (hs : s ∈ allSr n) : sourceN (nm0 n m i) (srD i s) = some (nm0 n m (i + 1)) := by
  have h1 := List.all_eq_true.mp source_b n (List.mem_range.mpr hn)
  have h2 := List.all_eq_true.mp h1 m (List.mem_range.mpr hm)
  have h3 := List.all_eq_true.mp h2 i (List.mem_range.mpr hi)
  exact of_decide_eq_true (List.all_eq_true.mp h3 s hs)
theorem lines_n {n : Nat} (hn : n < 4) : ∀ {r : List Ln} {i : Nat}, i + r.length ≤ 2 → (∀ l ∈ r, LnOk (abc n) l) → allN lineN (nmB n ++ nmL i) (lnsFrom i r) = some (nmB n ++ nmL (i + r.length))
  | [], i, _, _ => rfl
  | l :: r, i, h, ok => by
    have h' : i + (r.length + 1) ≤ 2 := h
    show (match lineN (nmB n ++ nmL i) (lnD i l) with | some ns' => allN lineN ns' (lnsFrom (i + 1) r) | none => none) = _
    rw [line_n n hn i (by omega) l (in_allLn (ok l List.mem_cons_self))]
    show allN lineN (nmB n ++ nmL (i + 1)) (lnsFrom (i + 1) r) = _
    rw [lines_n hn (r := r) (i := i + 1) (by omega) fun l' hl => ok l' (List.mem_cons_of_mem _ hl), List.length_cons, show i + 1 + r.length = i + (r.length + 1) by omega]
theorem sources_n {n m : Nat} (hn : n < 4) (hm : m < 3) : ∀ {r : List Sr} {i : Nat}, i + r.length ≤ 2 → (∀ s ∈ r, SrOk (abc n) s) → allN sourceN (nm0 n m i) (srsFrom i r) = some (nm0 n m (i + r.length))
  | [], i, _, _ => rfl
  | s :: r, i, h, ok => by
    have h' : i + (r.length + 1) ≤ 2 := h
    show (match sourceN (nm0 n m i) (srD i s) with | some ns' => allN sourceN ns' (srsFrom (i + 1) r) | none => none) = _
    rw [source_n n hn m hm i (by omega) s (in_allSr (ok s List.mem_cons_self))]
    show allN sourceN (nm0 n m (i + 1)) (srsFrom (i + 1) r) = _
    rw [sources_n hn hm (r := r) (i := i + 1) (by omega) fun s' hs => ok s' (List.mem_cons_of_mem _ hs), List.length_cons, show i + 1 + r.length = i + (r.length + 1) by omega]
/-! what is known stays known -/
theorem kind_app {ns ms : Nm} {z k : Str} (h : kindOf ns z = some k) : kindOf (ns ++ ms) z = some k := by
  unfold kindOf at h ⊢
  rw [List.find?_append]
  cases e : ns.find? fun e => decide (e.1 = z) with
  | none =>
    rw [e] at h
    cases h
  | some q =>
    rw [e] at h
    exact h
theorem known_app {ns ms : Nm} {ks : List Str} {d : D} (h : knownD ns ks d = true) : knownD (ns ++ ms) ks d = true := by
  cases d with
  | str z =>
    have h' : (match kindOf ns z with | some k => decide (k ∈ ks) | none => false) = true := h
    show (match kindOf (ns ++ ms) z with | some k => decide (k ∈ ks) | none => false) = true
    cases e : kindOf ns z with
    | none =>
      rw [e] at h'
      cases h'
    | some k =>
      rw [e] at h'
      rw [kind_app e]
      exact h'
  | _ => cases h
theorem breaker_app {ns ms : Nm} {d : D} (h : breakerD ns d = true) : breakerD (ns ++ ms) d = true := by
  unfold breakerD at h ⊢
  split at h
  · rename_i x e
    rw [Bool.or_eq_true, Bool.and_eq_true, Bool.and_eq_true] at h ⊢
    rcases h with ⟨h1, h2⟩ | ⟨h1, h2⟩
    · exact .inl ⟨h1, known_app h2⟩
    · exact .inr ⟨h1, known_app h2⟩
  · cases h
theorem told_app {ns ms : Nm} {d : D} (h : toldD ns d = true) : toldD (ns ++ ms) d = true := by
  unfold toldD at h ⊢
  split at h
  · rename_i k more
    unfold toldS at h ⊢
    split at h
    · rename_i hk
      rw [if_pos hk]
      unfold moreOver at h ⊢
      split at h
      · rw [Bool.and_eq_true] at h ⊢
        exact ⟨breaker_app h.1, h.2⟩
      · cases h
    · rename_i hk
      rw [if_neg hk]
      split at h
      · rename_i hk2
        rw [if_pos hk2]
        unfold moreReach at h ⊢
        split at h
        · rw [Bool.and_eq_true] at h ⊢
          exact ⟨breaker_app h.1, h.2⟩
        · cases h
      · rename_i hk2
        rw [if_neg hk2]
        split at h
        · rename_i hk3
          rw [if_pos hk3]
          unfold moreDiff at h ⊢
          split at h
          · rw [Bool.and_eq_true] at h ⊢
            exact ⟨known_app h.1, h.2⟩
          · cases h
        · rename_i hk3
          rw [if_neg hk3]
          rw [Bool.and_eq_true] at h ⊢
          refine ⟨h.1, ?_⟩
          have h2 := h.2
          unfold moreBehind at h2 ⊢
          split at h2
          · exact breaker_app h2
          · cases h2
  · cases h
theorem asBr_br : ∀ l : List Br, (l.map brD).map asBr = l
  | [] => rfl
  | b :: l => by
    rw [List.map_cons, List.map_cons, asBr_br l]
    rfl
theorem asc_of : ∀ {l : List Br}, Asc l → l.Nodup → asc l = true
  | [], _, _ => rfl
  | [a], _, _ => rfl
  | a :: b :: l, h, nd => by
    have h1 := List.pairwise_cons.mp h
    have n1 := List.nodup_cons.mp nd
    have ih := asc_of (l := b :: l) h1.2 n1.2
    have hne : a ≠ b := fun e => n1.1 (e ▸ List.mem_cons_self)
    have hlt : ltB a b = true := (ltB_total hne).resolve_right (by rw [h1.1 b List.mem_cons_self]; decide)
    show (ltB a b && _) = true
    rw [hlt, Bool.true_and]
    exact ih
theorem opens_ok {ns ms : Nm} {ops : List Br} (hne : ops ≠ []) (hb : ∀ b ∈ ops, breakerD ns (brD b) = true) (ha : Asc ops) (nd : ops.Nodup) : opensD (ns ++ ms) (.tuple (ops.map brD)) = true := by
  show (!(ops.map brD).isEmpty && ((ops.map brD).all (breakerD (ns ++ ms)) && asc ((ops.map brD).map asBr))) = true
  rw [asBr_br, asc_of ha nd, Bool.and_true, Bool.and_eq_true]
  refine ⟨?_, ?_⟩
  · cases ops with
    | nil => exact absurd rfl hne
    | cons b l => rfl
  · rw [List.all_eq_true]
    intro d hd
    obtain ⟨b, h1, rfl⟩ := List.mem_map.mp hd
    exact breaker_app (hb b h1)
/-! guards, one after another -/
structure Gd where
  nm : Str
  told : D
  dl : Int
  ops : List Br
def gdR (g : Gd) : D := gdD g.nm g.told g.dl g.ops
structure GdOk (ns : Nm) (g : Gd) : Prop where
  told : toldD ns g.told = true
  d0 : 0 ≤ g.dl
  d20 : g.dl ≤ 20
  ne : g.ops ≠ []
  br : ∀ b ∈ g.ops, breakerD ns (brD b) = true
  asc : Asc g.ops
  nd : g.ops.Nodup
def nmG (l : List Str) : Nm := l.map fun z => (z, ("guard" : Str))
theorem kind_none {ns : Nm} {z : Str} (h : ∀ e ∈ ns, e.1 ≠ z) : kindOf ns z = none := by
  unfold kindOf
  rw [List.find?_eq_none.mpr fun e he => by simpa using h e he]
  rfl
theorem guards_n {ns : Nm} : ∀ {gs : List Gd} {seen : List Str}, (seen ++ gs.map (·.nm)).Nodup → (∀ g ∈ gs, nameS g.nm = true ∧ ∀ e ∈ ns, e.1 ≠ g.nm) → (∀ g ∈ gs, GdOk ns g) → allN guardN (ns ++ nmG seen) (gs.map gdR) = some (ns ++ nmG (seen ++ gs.map (·.nm)))
  | [], seen, _, _, _ => by
    show some _ = some (ns ++ nmG (seen ++ []))
    rw [List.append_nil]
  | g :: gs, seen, nd, hn, ok => by
    obtain ⟨n1, n2⟩ := hn g List.mem_cons_self
    have o := ok g List.mem_cons_self
    have hnew : kindOf (ns ++ nmG seen) g.nm = none := by
      refine kind_none fun e he => ?_
      rcases List.mem_append.mp he with q | q
      · exact n2 e q
      · obtain ⟨z, hz, rfl⟩ := List.mem_map.mp q
        intro ez
        have := (List.nodup_append.mp nd).2.2 z hz g.nm (by simp)
        exact this ez
    have hadd : addN (ns ++ nmG seen) "guard" (.str g.nm) = some (ns ++ nmG (seen ++ [g.nm])) := by
      show (if nameS g.nm = true ∧ kindOf (ns ++ nmG seen) g.nm = none then some ((ns ++ nmG seen) ++ [(g.nm, ("guard" : Str))]) else none) = _
      rw [if_pos ⟨n1, hnew⟩, List.append_assoc]
      show _ = some (ns ++ (seen ++ [g.nm]).map _)
      rw [List.map_append]
      rfl
    have hstep : guardN (ns ++ nmG seen) (gdR g) = some (ns ++ nmG (seen ++ [g.nm])) := by
      show (match addN (ns ++ nmG seen) "guard" (.str g.nm) with | some ns' => if (toldD ns' g.told && (wholeD 0 20 (.int g.dl) && opensD ns' (.tuple (g.ops.map brD)))) = true then some ns' else none | none => none) = _
      rw [hadd]
      show (if _ then _ else _) = _
      rw [if_pos]
      rw [told_app o.told, opens_ok o.ne o.br o.asc o.nd, Bool.true_and, Bool.and_true]
      show (decide (0 ≤ g.dl) && decide (g.dl ≤ 20)) = true
      rw [decide_eq_true o.d0, decide_eq_true o.d20]
      rfl
    show (match guardN (ns ++ nmG seen) (gdR g) with | some ns' => allN guardN ns' (gs.map gdR) | none => none) = _
    rw [hstep]
    show allN guardN (ns ++ nmG (seen ++ [g.nm])) (gs.map gdR) = _
    have nd2 : ((seen ++ [g.nm]) ++ gs.map (·.nm)).Nodup := by
      rw [List.append_assoc]
      exact nd
    rw [guards_n nd2 (fun g' hg => hn g' (List.mem_cons_of_mem _ hg)) fun g' hg => ok g' (List.mem_cons_of_mem _ hg), List.append_assoc]
    rfl


open PySem PySem.Spec PyProof.Rows L2 Vc
/-! ### a drawn net is a net: its guards -/
theorem brk_b : ((List.range 4).all fun n => (List.range 3).all fun m => (List.range 3).all fun s => (brks m s).all fun q => breakerD (nm0 n m s) (brD q)) = true := by decide +kernel
theorem brk_ok {n m s : Nat} (hn : n < 4) (hm : m < 3) (hs : s < 3) {q : Br} (hq : q ∈ brks m s) : breakerD (nm0 n m s) (brD q) = true := by
  have h1 := List.all_eq_true.mp brk_b n (List.mem_range.mpr hn)
  have h2 := List.all_eq_true.mp h1 m (List.mem_range.mpr hm)
  have h3 := List.all_eq_true.mp h2 s (List.mem_range.mpr hs)
  exact List.all_eq_true.mp h3 q hq
theorem part_b : ((List.range 4).all fun n => (List.range 3).all fun m => (List.range 3).all fun s => (partsOf (abc n) m).all fun x => knownD (nm0 n m s) ["bus", "line"] (.str x)) = true := by decide +kernel
theorem part_ok {n m s : Nat} (hn : n < 4) (hm : m < 3) (hs : s < 3) {x : Str} (hx : x ∈ partsOf (abc n) m) : knownD (nm0 n m s) ["bus", "line"] (.str x) = true := by
  have h1 := List.all_eq_true.mp part_b n (List.mem_range.mpr hn)
  have h2 := List.all_eq_true.mp h1 m (List.mem_range.mpr hm)
  have h3 := List.all_eq_true.mp h2 s (List.mem_range.mpr hs)
  exact List.all_eq_true.mp h3 x hx
theorem num9_ok : ∀ f ∈ (1, 1000) :: nums9, boundD (fracT f) = true := by decide +kernel
theorem num5_ok : ∀ f ∈ nums5, boundD (fracT f) = true := by decide +kernel
theorem look_told {n m s : Nat} (hn : n < 4) (hm : m < 3) (hs : s < 3) {d : D} (h : LookOk (abc n) m (brks m s) d) : toldD (nm0 n m s) d = true := by
  have r1 : ¬ (("reach" : Str) = "over") := by decide +kernel
  have b1 : ¬ (("behind" : Str) = "over") := by decide +kernel
  have b2 : ¬ (("behind" : Str) = "reach") := by decide +kernel
  have b3 : ¬ (("behind" : Str) = "difference") := by decide +kernel
  have d1 : ¬ (("difference" : Str) = "over") := by decide +kernel
  have d2 : ¬ (("difference" : Str) = "reach") := by decide +kernel
  cases h with
  | over q f b hq hf =>
    show toldS (nm0 n m s) "over" [brD q, fracT f, .bool b] = true
    unfold toldS
    rw [if_pos rfl]
    show (breakerD (nm0 n m s) (brD q) && (boundD (fracT f) && true)) = true
    rw [brk_ok hn hm hs hq, num9_ok f (List.mem_cons_of_mem _ hf)]
    rfl
  | reach q f hq hf =>
    show toldS (nm0 n m s) "reach" [brD q, fracT f] = true
    unfold toldS
    rw [if_neg r1, if_pos rfl]
    show (breakerD (nm0 n m s) (brD q) && boundD (fracT f)) = true
    rw [brk_ok hn hm hs hq, num5_ok f hf]
    rfl
  | behind q hq =>
    show toldS (nm0 n m s) "behind" [brD q] = true
    unfold toldS
    rw [if_neg b1, if_neg b2, if_neg b3, decide_eq_true rfl, Bool.true_and]
    exact brk_ok hn hm hs hq
  | diff x f hx hf =>
    show toldS (nm0 n m s) "difference" [.str x, fracT f] = true
    unfold toldS
    rw [if_neg d1, if_neg d2, if_pos rfl]
    show (knownD (nm0 n m s) ["bus", "line"] (.str x) && boundD (fracT f)) = true
    rw [part_ok hn hm hs hx, num9_ok f hf]
    rfl
theorem brks_nd : ((List.range 3).all fun m => (List.range 3).all fun s => decide (brks m s).Nodup) = true := by decide +kernel
theorem brk_nd {m s : Nat} (hm : m < 3) (hs : s < 3) : (brks m s).Nodup := of_decide_eq_true (List.all_eq_true.mp (List.all_eq_true.mp brks_nd m (List.mem_range.mpr hm)) s (List.mem_range.mpr hs))
/-! the breakers at a bus -/
def pairsL : Nat → Nat → List Br
  | _, 0 => []
  | i, k + 1 => (lname i, 0) :: (lname i, 1) :: pairsL (i + 1) k
def onesS : Nat → Nat → List Br
  | _, 0 => []
  | i, k + 1 => (gname i, 0) :: onesS (i + 1) k
theorem endAt_sub {i : Nat} {l : Ln} {bus : Str} {e : Nat} : (endAt i l bus e).Sublist [(lname i, (e : Int))] := by
  unfold endAt
  by_cases h : (if e = 0 then l.o else l.t) = bus
  · rw [if_pos h]
    exact List.Sublist.refl _
  · rw [if_neg h]
    exact List.nil_sublist _
theorem hereLs_sub {bus : Str} : ∀ {r : List Ln} {i : Nat}, (hereLs i r bus).Sublist (pairsL i r.length)
  | [], _ => List.Sublist.refl _
  | l :: r, i => (endAt_sub (i := i) (l := l) (bus := bus) (e := 0)).append (endAt_sub (i := i) (l := l) (bus := bus) (e := 1)) |>.append (hereLs_sub (r := r) (i := i + 1))
theorem hereSs_sub {bus : Str} : ∀ {r : List Sr} {i : Nat}, (hereSs i r bus).Sublist (onesS i r.length)
  | [], _ => List.Sublist.refl _
  | s :: r, i => by
    have h1 : (hereSr i s bus).Sublist [(gname i, 0)] := by
      unfold hereSr
      by_cases h : s.b = bus
      · rw [if_pos h]
        exact List.Sublist.refl _
      · rw [if_neg h]
        exact List.nil_sublist _
    exact h1.append (hereSs_sub (r := r) (i := i + 1))
theorem here_b : ((List.range 3).all fun m => (List.range 3).all fun s => decide (pairsL 0 m ++ onesS 0 s).Nodup && (pairsL 0 m ++ onesS 0 s).all fun q => decide (q ∈ brks m s)) = true := by decide +kernel
theorem here_ok {ls : List Ln} {ss : List Sr} {bus : Str} (hm : ls.length < 3) (hs : ss.length < 3) : (hereL ls ss bus).Nodup ∧ ∀ q ∈ hereL ls ss bus, q ∈ brks ls.length ss.length := by
  have h := List.all_eq_true.mp (List.all_eq_true.mp here_b _ (List.mem_range.mpr hm)) _ (List.mem_range.mpr hs)
  rw [Bool.and_eq_true, List.all_eq_true] at h
  have sub : (hereL ls ss bus).Sublist (pairsL 0 ls.length ++ onesS 0 ss.length) := hereLs_sub.append hereSs_sub
  exact ⟨sub.nodup (of_decide_eq_true h.1), fun q hq => of_decide_eq_true (h.2 q (sub.subset hq))⟩
theorem sort_ok {l : List Br} (nd : l.Nodup) : (sortB l).Nodup ∧ Asc (sortB l) := ⟨(sortB_perm l).nodup_iff.mpr nd, sortB_asc l⟩
/-! what stands once -/
theorem dup_sub (l : List Br) : ∀ j, (dupT l j).Sublist (l.take j)
  | 0 => List.nil_sublist _
  | j + 1 => by
    show (match l[j]? with | some b => if b ∈ l.take j then dupT l j else dupT l j ++ [b] | none => dupT l j).Sublist _
    rw [List.take_succ]
    cases e : l[j]? with
    | none =>
      show (dupT l j).Sublist (l.take j ++ [])
      rw [List.append_nil]
      exact dup_sub l j
    | some b =>
      show (if b ∈ l.take j then dupT l j else dupT l j ++ [b]).Sublist (l.take j ++ [b])
      split
      · exact (dup_sub l j).trans (List.sublist_append_left _ _)
      · exact (dup_sub l j).append (List.Sublist.refl _)
theorem dup_nd (l : List Br) : ∀ j, (dupT l j).Nodup
  | 0 => List.nodup_nil
  | j + 1 => by
    show (match l[j]? with | some b => if b ∈ l.take j then dupT l j else dupT l j ++ [b] | none => dupT l j).Nodup
    cases e : l[j]? with
    | none => exact dup_nd l j
    | some b =>
      show (if b ∈ l.take j then dupT l j else dupT l j ++ [b]).Nodup
      split
      · exact dup_nd l j
      · rename_i hb
        rw [List.nodup_append]
        exact ⟨dup_nd l j, by simp, fun a ha c hc => by
          rw [List.mem_singleton.mp hc]
          exact fun e => hb (e ▸ (dup_sub l j).subset ha)⟩
theorem dup_ne {b : Br} {l : List Br} : ∀ j, dupT (b :: l) (j + 1) ≠ []
  | 0 => by
    show (if b ∈ ([] : List Br) then dupT (b :: l) 0 else dupT (b :: l) 0 ++ [b]) ≠ []
    rw [if_neg (by simp)]
    simp
  | j + 1 => by
    show (match (b :: l)[j + 1]? with | some c => if c ∈ (b :: l).take (j + 1) then dupT (b :: l) (j + 1) else dupT (b :: l) (j + 1) ++ [c] | none => dupT (b :: l) (j + 1)) ≠ []
    cases e : (b :: l)[j + 1]? with
    | none => exact dup_ne j
    | some c =>
      show (if c ∈ (b :: l).take (j + 1) then dupT (b :: l) (j + 1) else dupT (b :: l) (j + 1) ++ [c]) ≠ []
      split
      · exact dup_ne j
      · simp
theorem opsL_ok {n : Nat} {ls : List Ln} {ss : List Sr} {i : Nat} {l : Ln} {e : Nat} (hn : n < 4) (hm : ls.length < 3) (hs : ss.length < 3) (hb : (lname i, 1 - (e : Int)) ∈ brks ls.length ss.length) :
    opsL ls ss i l e ≠ [] ∧ (∀ b ∈ opsL ls ss i l e, breakerD (nm0 n ls.length ss.length) (brD b) = true) ∧ Asc (opsL ls ss i l e) ∧ (opsL ls ss i l e).Nodup := by
  have sub : (opsL ls ss i l e).Sublist (sortB (rawL ls ss i l e)) := by
    have := dup_sub (sortB (rawL ls ss i l e)) (sortB (rawL ls ss i l e)).length
    rw [List.take_length] at this
    exact this
  refine ⟨?_, fun b hb' => ?_, (sortB_asc _).sublist sub, dup_nd _ _⟩
  · have hl : (sortB (rawL ls ss i l e)).length = (sortB (hereL ls ss (beB l e))).length + 1 := by
      rw [(sortB_perm _).length_eq]
      show (sortB (hereL ls ss (beB l e)) ++ [_]).length = _
      rw [List.length_append]
      rfl
    show dedupB (sortB (rawL ls ss i l e)) ≠ []
    unfold dedupB
    cases h : sortB (rawL ls ss i l e) with
    | nil =>
      rw [h] at hl
      simp at hl
    | cons b r => exact dup_ne r.length
  · have h1 := (sortB_perm _).mem_iff.mp (sub.subset hb')
    refine brk_ok hn hm hs ?_
    rcases List.mem_append.mp (show b ∈ sortB (hereL ls ss (beB l e)) ++ [(lname i, 1 - (e : Int))] from h1) with q | q
    · exact (here_ok hm hs).2 b ((sortB_perm _).mem_iff.mp q)
    · rw [List.mem_singleton.mp q]
      exact hb


open PySem PySem.Spec PyProof.Rows L2 Vc
/-! ### a drawn net is a net -/
theorem cut_sub {α : Type} (l : List α) (n : Nat) : (l.take n ++ l.drop (n + 1)).Sublist l := by
  have h : (l.take n ++ l.drop (n + 1)).Sublist (l.take n ++ l.drop n) := (List.Sublist.refl _).append (List.drop_sublist_drop_left l (Nat.le_succ n))
  rwa [List.take_append_drop] at h
def lineR (ls : List Ln) (ss : List Sr) (late : Int) (i : Nat) (l : Ln) : List Gd :=
  [⟨dn (2 * i), diffD (lname i), 0, [(lname i, 0), (lname i, 1)]⟩, ⟨dn (2 * i + 1), diffD (lname i), 0, [(lname i, 0), (lname i, 1)]⟩,
   ⟨fn (2 * i + 2) 0, behD (lname i, 0), late, opsL ls ss i l 0⟩, ⟨fn (2 * i + 2) 1, behD (lname i, 1), late, opsL ls ss i l 1⟩]
def busR (ls : List Ln) (ss : List Sr) (n : Nat) (bus : Str) : List Gd := if hereL ls ss bus = [] then [] else
  [⟨en n, diffD bus, 0, sortB (hereL ls ss bus)⟩, ⟨en (n + 1), diffD bus, 0, sortB (hereL ls ss bus)⟩]
def linesR (ls : List Ln) (ss : List Sr) (late : Int) : Nat → List Ln → List Gd
  | _, [] => []
  | i, l :: r => lineR ls ss late i l ++ linesR ls ss late (i + 1) r
def busesR (ls : List Ln) (ss : List Sr) : Nat → List Str → List Gd
  | _, [] => []
  | n, b :: r => busR ls ss n b ++ busesR ls ss (n + 2) r
def goodR (bs : List Str) (ls : List Ln) (ss : List Sr) (late : Int) : List Gd := linesR ls ss late 0 ls ++ busesR ls ss (2 * ls.length) bs
theorem busR_map {ls : List Ln} {ss : List Sr} {n : Nat} {bus : Str} : (busR ls ss n bus).map gdR = busG ls ss n bus := by
  unfold busR busG
  split <;> rfl
theorem linesR_map {ls : List Ln} {ss : List Sr} {late : Int} : ∀ {r : List Ln} {i : Nat}, (linesR ls ss late i r).map gdR = linesG ls ss late i r
  | [], _ => rfl
  | l :: r, i => by
    show (lineR ls ss late i l ++ linesR ls ss late (i + 1) r).map gdR = lineG ls ss late i l ++ linesG ls ss late (i + 1) r
    rw [List.map_append, linesR_map]
    rfl
theorem busesR_map {ls : List Ln} {ss : List Sr} : ∀ {r : List Str} {n : Nat}, (busesR ls ss n r).map gdR = busesG ls ss n r
  | [], _ => rfl
  | b :: r, n => by
    show (busR ls ss n b ++ busesR ls ss (n + 2) r).map gdR = busG ls ss n b ++ busesG ls ss (n + 2) r
    rw [List.map_append, busesR_map, busR_map]
theorem goodR_map {bs : List Str} {ls : List Ln} {ss : List Sr} {late : Int} : (goodR bs ls ss late).map gdR = goodG bs ls ss late := by
  unfold goodR goodG
  rw [List.map_append, linesR_map, busesR_map]
/-! names -/
def lnN : Nat → Nat → List Str
  | _, 0 => []
  | i, k + 1 => [dn (2 * i), dn (2 * i + 1), fn (2 * i + 2) 0, fn (2 * i + 2) 1] ++ lnN (i + 1) k
def buN : Nat → Nat → List Str
  | _, 0 => []
  | n, k + 1 => [en n, en (n + 1)] ++ buN (n + 2) k
theorem linesR_nm {ls : List Ln} {ss : List Sr} {late : Int} : ∀ {r : List Ln} {i : Nat}, (linesR ls ss late i r).map (·.nm) = lnN i r.length
  | [], _ => rfl
  | l :: r, i => by
    show (lineR ls ss late i l ++ linesR ls ss late (i + 1) r).map (·.nm) = _ ++ lnN (i + 1) r.length
    rw [List.map_append, linesR_nm]
    rfl
theorem busesR_nm {ls : List Ln} {ss : List Sr} : ∀ {r : List Str} {n : Nat}, ((busesR ls ss n r).map (·.nm)).Sublist (buN n r.length)
  | [], _ => List.Sublist.refl _
  | b :: r, n => by
    show ((busR ls ss n b ++ busesR ls ss (n + 2) r).map (·.nm)).Sublist ([en n, en (n + 1)] ++ buN (n + 2) r.length)
    rw [List.map_append]
    refine List.Sublist.append ?_ busesR_nm
    unfold busR
    split
    · exact List.nil_sublist _
    · exact List.Sublist.refl _
theorem goodR_nm {bs : List Str} {ls : List Ln} {ss : List Sr} {late : Int} : ((goodR bs ls ss late).map (·.nm)).Sublist (lnN 0 ls.length ++ buN (2 * ls.length) bs.length) := by
  unfold goodR
  rw [List.map_append, linesR_nm]
  exact (List.Sublist.refl _).append busesR_nm
def freeN (ns : Nm) (l : List Str) : Bool := decide l.Nodup && l.all fun z => nameS z && (decide (z.length ≤ 1000) && ns.all fun e => decide (e.1 ≠ z))
theorem good_free : ((List.range 4).all fun n => (List.range 2).all fun m => (List.range 3).all fun s => (List.range 4).all fun b => freeN (nm0 n m s) (lnN 0 m ++ buN (2 * m) b)) = true := by decide +kernel
theorem qs_free : ((List.range 4).all fun n => (List.range 3).all fun m => (List.range 3).all fun s => freeN (nm0 n m s) [qn 0, qn 1, qn 2, qn 3]) = true := by decide +kernel
theorem free_of {ns : Nm} {l l' : List Str} (h : freeN ns l = true) (hs : l'.Sublist l) : l'.Nodup ∧ ∀ z ∈ l', nameS z = true ∧ z.length ≤ 1000 ∧ ∀ e ∈ ns, e.1 ≠ z := by
  unfold freeN at h
  rw [Bool.and_eq_true] at h
  refine ⟨(of_decide_eq_true h.1).sublist hs, fun z hz => ?_⟩
  have h2 := List.all_eq_true.mp h.2 z (hs.subset hz)
  rw [Bool.and_eq_true, Bool.and_eq_true] at h2
  exact ⟨h2.1, of_decide_eq_true h2.2.1, fun e he => of_decide_eq_true (List.all_eq_true.mp h2.2.2 e he)⟩
/-! what they look at, what they open -/
theorem end_brk {m s i : Nat} (h : i < m) : (lname i, (0 : Int)) ∈ brks m s ∧ (lname i, (1 : Int)) ∈ brks m s := by
  unfold brks
  exact ⟨List.mem_append.mpr (.inl (List.mem_append.mpr (.inl (List.mem_map.mpr ⟨i, List.mem_range.mpr h, rfl⟩)))), List.mem_append.mpr (.inl (List.mem_append.mpr (.inr (List.mem_map.mpr ⟨i, List.mem_range.mpr h, rfl⟩))))⟩
theorem diff_ok {n m s : Nat} (hn : n < 4) (hm : m < 3) (hs : s < 3) {x : Str} (hx : x ∈ partsOf (abc n) m) : toldD (nm0 n m s) (diffD x) = true :=
  look_told hn hm hs (LookOk.diff x (1, 1000) hx List.mem_cons_self)
theorem beh_ok {n m s : Nat} (hn : n < 4) (hm : m < 3) (hs : s < 3) {q : Br} (hq : q ∈ brks m s) : toldD (nm0 n m s) (behD q) = true :=
  look_told hn hm hs (LookOk.behind q hq)
theorem line_part {bs : List Str} {m i : Nat} (h : i < m) : lname i ∈ partsOf bs m := List.mem_append.mpr (.inr (List.mem_map.mpr ⟨i, List.mem_range.mpr h, rfl⟩))
theorem two_b : ((List.range 3).all fun i => decide ((ltB (lname i, 1) (lname i, 0) = false) ∧ (lname i, (0 : Int)) ≠ (lname i, (1 : Int)))) = true := by decide +kernel
theorem two_ok {i : Nat} (h : i < 3) : Asc [(lname i, (0 : Int)), (lname i, (1 : Int))] ∧ [(lname i, (0 : Int)), (lname i, (1 : Int))].Nodup := by
  have := of_decide_eq_true (List.all_eq_true.mp two_b i (List.mem_range.mpr h))
  exact ⟨List.Pairwise.cons (fun b hb => by rw [List.mem_singleton.mp hb]; exact this.1) (List.pairwise_singleton _ _), List.nodup_cons.mpr ⟨fun q => this.2 (List.mem_singleton.mp q), by simp⟩⟩
theorem lineR_ok {n : Nat} {ls : List Ln} {ss : List Sr} {late : Int} {i : Nat} {l : Ln} (hn : n < 4) (hm : ls.length < 3) (hs : ss.length < 3) (h0 : 0 ≤ late) (h20 : late ≤ 20) (hi : i < ls.length) :
    ∀ g ∈ lineR ls ss late i l, GdOk (nm0 n ls.length ss.length) g := by
  obtain ⟨e0, e1⟩ := end_brk (s := ss.length) hi
  obtain ⟨t1, t2⟩ := two_ok (i := i) (by omega)
  have k0 := opsL_ok (n := n) (ls := ls) (ss := ss) (i := i) (l := l) (e := 0) hn hm hs e1
  have k1 := opsL_ok (n := n) (ls := ls) (ss := ss) (i := i) (l := l) (e := 1) hn hm hs e0
  have hd : ∀ nm : Str, GdOk (nm0 n ls.length ss.length) ⟨nm, diffD (lname i), 0, [(lname i, 0), (lname i, 1)]⟩ := fun nm =>
    ⟨diff_ok hn hm hs (line_part hi), Int.le_refl 0, (by decide : (0 : Int) ≤ 20), (fun q => nomatch q), (fun b hb => by
      rcases List.mem_cons.mp hb with rfl | hb
      · exact brk_ok hn hm hs e0
      · rw [List.mem_singleton.mp hb]
        exact brk_ok hn hm hs e1), t1, t2⟩
  intro g hg
  rcases List.mem_cons.mp hg with rfl | hg
  · exact hd _
  rcases List.mem_cons.mp hg with rfl | hg
  · exact hd _
  rcases List.mem_cons.mp hg with rfl | hg
  · exact ⟨beh_ok hn hm hs e0, h0, h20, k0.1, k0.2.1, k0.2.2.1, k0.2.2.2⟩
  · rw [List.mem_singleton.mp hg]
    exact ⟨beh_ok hn hm hs e1, h0, h20, k1.1, k1.2.1, k1.2.2.1, k1.2.2.2⟩
theorem busR_ok {n k : Nat} {ls : List Ln} {ss : List Sr} {bus : Str} (hn : n < 4) (hm : ls.length < 3) (hs : ss.length < 3) (hb : bus ∈ abc n) :
    ∀ g ∈ busR ls ss k bus, GdOk (nm0 n ls.length ss.length) g := by
  obtain ⟨q1, q2⟩ := here_ok (bus := bus) hm hs
  obtain ⟨s1, s2⟩ := sort_ok q1
  unfold busR
  split
  · exact fun g hg => nomatch hg
  · rename_i hne
    have hd : ∀ nm : Str, GdOk (nm0 n ls.length ss.length) ⟨nm, diffD bus, 0, sortB (hereL ls ss bus)⟩ := fun nm =>
      ⟨diff_ok hn hm hs (List.mem_append.mpr (.inl hb)), Int.le_refl 0, (by decide : (0 : Int) ≤ 20), (fun q => hne (by
        have := (sortB_perm (hereL ls ss bus)).length_eq
        rw [show sortB (hereL ls ss bus) = [] from q] at this
        exact List.length_eq_zero_iff.mp this.symm)), (fun b hb' => brk_ok hn hm hs (q2 b ((sortB_perm _).mem_iff.mp hb'))), s2, s1⟩
    intro g hg
    rcases List.mem_cons.mp hg with rfl | hg
    · exact hd _
    · rw [List.mem_singleton.mp hg]
      exact hd _
theorem linesR_ok {n : Nat} {ls : List Ln} {ss : List Sr} {late : Int} (hn : n < 4) (hm : ls.length < 3) (hs : ss.length < 3) (h0 : 0 ≤ late) (h20 : late ≤ 20) : ∀ {r : List Ln} {i : Nat}, i + r.length ≤ ls.length → ∀ g ∈ linesR ls ss late i r, GdOk (nm0 n ls.length ss.length) g
  | [], _, _, g, hg => nomatch hg
  | l :: r, i, h, g, hg => by
    have h' : i + (r.length + 1) ≤ ls.length := h
    rcases List.mem_append.mp (show g ∈ lineR ls ss late i l ++ linesR ls ss late (i + 1) r from hg) with q | q
    · exact lineR_ok hn hm hs h0 h20 (by omega) g q
    · exact linesR_ok hn hm hs h0 h20 (by omega) g q
theorem busesR_ok {n : Nat} {ls : List Ln} {ss : List Sr} (hn : n < 4) (hm : ls.length < 3) (hs : ss.length < 3) : ∀ {r : List Str} {k : Nat}, (∀ b ∈ r, b ∈ abc n) → ∀ g ∈ busesR ls ss k r, GdOk (nm0 n ls.length ss.length) g
  | [], _, _, g, hg => nomatch hg
  | b :: r, k, h, g, hg => by
    rcases List.mem_append.mp (show g ∈ busR ls ss k b ++ busesR ls ss (k + 2) r from hg) with q | q
    · exact busR_ok hn hm hs (h b List.mem_cons_self) g q
    · exact busesR_ok hn hm hs (fun b' hb => h b' (List.mem_cons_of_mem _ hb)) g q
theorem goodR_ok {n : Nat} {ls : List Ln} {ss : List Sr} {late : Int} (hn : n < 4) (hm : ls.length < 3) (hs : ss.length < 3) (h0 : 0 ≤ late) (h20 : late ≤ 20) : ∀ g ∈ goodR (abc n) ls ss late, GdOk (nm0 n ls.length ss.length) g := fun g hg => by
  rcases List.mem_append.mp (show g ∈ linesR ls ss late 0 ls ++ busesR ls ss (2 * ls.length) (abc n) from hg) with q | q
  · exact linesR_ok hn hm hs h0 h20 (by omega) g q
  · exact busesR_ok hn hm hs (fun b hb => hb) g q
/-! drawn guards -/
def qgRec (i : Nat) (g : Qg) : Gd := ⟨qn i, g.told, g.delay, g.opens⟩
def qgsR : Nat → List Qg → List Gd
  | _, [] => []
  | i, g :: r => qgRec i g :: qgsR (i + 1) r
theorem qgsR_map : ∀ {r : List Qg} {i : Nat}, (qgsR i r).map gdR = qgsFrom i r
  | [], _ => rfl
  | g :: r, i => by
    show gdR (qgRec i g) :: (qgsR (i + 1) r).map gdR = qgD i g :: qgsFrom (i + 1) r
    rw [qgsR_map]
    rfl
def qN : Nat → Nat → List Str
  | _, 0 => []
  | i, k + 1 => qn i :: qN (i + 1) k
theorem qgsR_nm : ∀ {r : List Qg} {i : Nat}, (qgsR i r).map (·.nm) = qN i r.length
  | [], _ => rfl
  | g :: r, i => by
    show qn i :: (qgsR (i + 1) r).map (·.nm) = qn i :: qN (i + 1) r.length
    rw [qgsR_nm]
theorem qN_sub : ∀ k < 5, (qN 0 k).Sublist [qn 0, qn 1, qn 2, qn 3] := by decide +kernel
theorem qg_ok {n m s i : Nat} (hn : n < 4) (hm : m < 3) (hs : s < 3) {g : Qg} (h : QgOk (abc n) m s g) : GdOk (nm0 n m s) (qgRec i g) := by
  obtain ⟨sub, hsub, hne, he⟩ := h.opens
  obtain ⟨s1, s2⟩ := sort_ok ((brk_nd hm hs).sublist hsub)
  have d3 := h.d3
  refine ⟨look_told hn hm hs h.told, h.d0, show g.delay ≤ 20 by omega, ?_, ?_, ?_, ?_⟩
  · show g.opens ≠ []
    rw [he]
    intro q
    have := (sortB_perm sub).length_eq
    rw [q] at this
    exact hne (List.length_eq_zero_iff.mp this.symm)
  · show ∀ b ∈ g.opens, _
    rw [he]
    exact fun b hb => brk_ok hn hm hs (hsub.subset ((sortB_perm _).mem_iff.mp hb))
  · show Asc g.opens
    rw [he]
    exact s2
  · show g.opens.Nodup
    rw [he]
    exact s1
theorem qgsR_ok {n m s : Nat} (hn : n < 4) (hm : m < 3) (hs : s < 3) : ∀ {r : List Qg} {i : Nat}, (∀ g ∈ r, QgOk (abc n) m s g) → ∀ g ∈ qgsR i r, GdOk (nm0 n m s) g
  | [], _, _, g, hg => nomatch hg
  | a :: r, i, h, g, hg => by
    rcases List.mem_cons.mp (show g ∈ qgRec i a :: qgsR (i + 1) r from hg) with rfl | q
    · exact qg_ok hn hm hs (h a List.mem_cons_self)
    · exact qgsR_ok hn hm hs (fun b hb => h b (List.mem_cons_of_mem _ hb)) g q
theorem qgsR_len : ∀ {r : List Qg} {i : Nat}, (qgsR i r).length = r.length
  | [], _ => rfl
  | g :: r, i => congrArg (· + 1) (qgsR_len (r := r) (i := i + 1))
structure Gds (ns : Nm) (gs : List D) (gr : List Gd) : Prop where
  map : gs = gr.map gdR
  len : gr.length ≤ 16
  nd : (gr.map (·.nm)).Nodup
  free : ∀ g ∈ gr, nameS g.nm = true ∧ g.nm.length ≤ 1000 ∧ ∀ e ∈ ns, e.1 ≠ g.nm
  ok : ∀ g ∈ gr, GdOk ns g
theorem gs_gr {n : Nat} {ls : List Ln} {ss : List Sr} {most ticks : Int} {gs : List D} (hn : n < 4) (hm : ls.length < 3) (hs : ss.length < 3) (m1 : 1 ≤ most) (m3 : most ≤ 3) (h : GsOk (abc n) ls ss most gs ticks) :
    (∃ gr, Gds (nm0 n ls.length ss.length) gs gr) ∧ 1 ≤ ticks ∧ ticks ≤ 40 := by
  have ha : (abc n).length < 4 := by
    show ((["a", "b", "c"] : List Str).take n).length < 4
    rw [List.length_take]
    show min n 3 < 4
    omega
  cases h with
  | good late gs h hl hg =>
    have hF := List.all_eq_true.mp (List.all_eq_true.mp (List.all_eq_true.mp (List.all_eq_true.mp good_free n (List.mem_range.mpr hn)) ls.length (List.mem_range.mpr hl)) ss.length (List.mem_range.mpr hs)) (abc n).length (List.mem_range.mpr ha)
    have hok := goodR_ok (n := n) (ls := ls) (ss := ss) (late := late) hn hm hs (by omega) (by omega)
    have hlen : (goodR (abc n) ls ss late).length ≤ 16 := by
      have h1 := goodG_len (bs := abc n) (ls := ls) (ss := ss) (late := late) (by omega) hl
      rw [← goodR_map, List.length_map] at h1
      omega
    have key : ∀ gr : List Gd, gr.Sublist (goodR (abc n) ls ss late) → gs = gr.map gdR → ∃ gr, Gds (nm0 n ls.length ss.length) gs gr := fun gr hsub hmap => by
      have hfree := free_of hF ((hsub.map (·.nm)).trans goodR_nm)
      exact ⟨gr, hmap, Nat.le_trans hsub.length_le hlen, hfree.1, fun g hg => hfree.2 g.nm (List.mem_map.mpr ⟨g, hg, rfl⟩), fun g hg => hok g (hsub.subset hg)⟩
    refine ⟨?_, by omega, by omega⟩
    rcases hg with e | ⟨k, hk, e⟩
    · exact key _ (List.Sublist.refl _) (e.trans goodR_map.symm)
    · refine key _ (cut_sub _ k) ?_
      rw [e, ← goodR_map, List.map_append, List.map_take, List.map_drop]
  | drawn ticks qs t3 t11 q1 q4 ok =>
    have hF := List.all_eq_true.mp (List.all_eq_true.mp (List.all_eq_true.mp qs_free n (List.mem_range.mpr hn)) ls.length (List.mem_range.mpr hm)) ss.length (List.mem_range.mpr hs)
    have hfree := free_of hF (qN_sub qs.length (by omega))
    refine ⟨⟨qgsR 0 qs, qgsR_map.symm, by rw [qgsR_len]; omega, by rw [qgsR_nm]; exact hfree.1, fun g hg => hfree.2 g.nm ?_, qgsR_ok hn hm hs ok⟩, by omega, by omega⟩
    rw [← qgsR_nm]
    exact List.mem_map.mpr ⟨g, hg, rfl⟩
theorem rules_drawn {e : Int × Int} {least most ticks : Int} (he : e ∈ errs) (a1 : 1 ≤ least) (a2 : least ≤ 2) (m1 : least ≤ most) (m2 : most ≤ least + 1) (t1 : 1 ≤ ticks) (t40 : ticks ≤ 40) : rulesD (.tuple [fracT e, .int least, .int most, .int ticks]) = true := by
  have hE : ∀ e ∈ errs, errD (fracT e) = true := by decide +kernel
  show (errD (fracT e) && ((decide (1 ≤ least) && decide (least ≤ 6)) && ((decide (least ≤ most) && decide (most ≤ 6)) && (decide (1 ≤ ticks) && decide (ticks ≤ 40))))) = true
  rw [hE e he, decide_eq_true a1, decide_eq_true m1, decide_eq_true t1, decide_eq_true t40, decide_eq_true (show least ≤ 6 by omega), decide_eq_true (show most ≤ 6 by omega)]
  rfl
theorem many_ok {lo hi : Int} {ds : List D} (h1 : lo ≤ (ds.length : Int)) (h2 : (ds.length : Int) ≤ hi) : manyD lo hi (.tuple ds) = true := by
  show (decide (lo ≤ (ds.length : Int)) && decide ((ds.length : Int) ≤ hi)) = true
  rw [decide_eq_true h1, decide_eq_true h2]
  rfl
theorem drawn_net {bs : List Str} {ls : List Ln} {ss : List Sr} {gs : List D} {e : Int × Int} {least most ticks : Int} (h : Drawn bs ls ss gs e least most ticks) : netD (netT bs ls ss gs e least most ticks) = true := by
  obtain ⟨n, n1, n3, rfl⟩ := h.hbs
  have hl2 := h.l2
  have hs1 := h.s1
  have hs2 := h.s2
  have a1 := h.a1
  have a2 := h.a2
  have m1 := h.m1
  have m2 := h.m2
  obtain ⟨⟨gr, hg⟩, t1, t40⟩ := gs_gr (n := n) (by omega) (by omega) (by omega) (by omega) (by omega) h.hgs
  have gl := hg.len
  have lb : (((abc n).map PyData.str).length : Int) = n := by
    rw [List.length_map]
    show ((((["a", "b", "c"] : List Str).take n).length : Nat) : Int) = n
    rw [List.length_take]
    show ((min n 3 : Nat) : Int) = n
    omega
  show (manyD 1 6 (.tuple ((abc n).map PyData.str)) && (manyD 0 8 (.tuple (lnsFrom 0 ls)) && (manyD 1 3 (.tuple (srsFrom 0 ss)) && (manyD 0 16 (.tuple gs) && ((namesN (.tuple ((abc n).map PyData.str)) (.tuple (lnsFrom 0 ls)) (.tuple (srsFrom 0 ss)) (.tuple gs)).isSome && rulesD (.tuple [fracT e, .int least, .int most, .int ticks])))))) = true
  rw [many_ok (by rw [lb]; omega) (by rw [lb]; omega), many_ok (ds := lnsFrom 0 ls) (by rw [lns_len]; omega) (by rw [lns_len]; omega), many_ok (ds := srsFrom 0 ss) (by rw [srs_len]; omega) (by rw [srs_len]; omega), many_ok (ds := gs) (by rw [hg.map, List.length_map]; omega) (by rw [hg.map, List.length_map]; omega), rules_drawn h.he a1 a2 m1 m2 t1 t40]
  have hN : namesN (.tuple ((abc n).map PyData.str)) (.tuple (lnsFrom 0 ls)) (.tuple (srsFrom 0 ss)) (.tuple gs) = some (nm0 n ls.length ss.length ++ nmG (gr.map (·.nm))) := by
    unfold namesN
    show (match allN busN [] ((abc n).map PyData.str) with
      | none => none
      | some n1 => match allN lineN n1 (lnsFrom 0 ls) with
        | none => none
        | some n2 => match allN sourceN n2 (srsFrom 0 ss) with
          | none => none
          | some n3 => allN guardN n3 gs) = _
    rw [buses_n n (by omega)]
    have h1 := lines_n (n := n) (by omega) (r := ls) (i := 0) (by omega) h.lok
    rw [show nmL 0 = [] from rfl, List.append_nil, Nat.zero_add] at h1
    show (match allN lineN (nmB n) (lnsFrom 0 ls) with
        | none => none
        | some n2 => match allN sourceN n2 (srsFrom 0 ss) with
          | none => none
          | some n3 => allN guardN n3 gs) = _
    rw [h1]
    have h2 := sources_n (n := n) (m := ls.length) (by omega) (by omega) (r := ss) (i := 0) (by omega) h.sok
    rw [Nat.zero_add, show nm0 n ls.length 0 = nmB n ++ nmL ls.length by unfold nm0; rw [show nmS 0 = [] from rfl, List.append_nil]] at h2
    show (match allN sourceN (nmB n ++ nmL ls.length) (srsFrom 0 ss) with
          | none => none
          | some n3 => allN guardN n3 gs) = _
    rw [h2]
    show allN guardN (nm0 n ls.length ss.length) gs = _
    have h3 := guards_n (ns := nm0 n ls.length ss.length) (gs := gr) (seen := []) (by rw [List.nil_append]; exact hg.nd) (fun g q => ⟨(hg.free g q).1, (hg.free g q).2.2⟩) hg.ok
    rw [show nmG [] = [] from rfl, List.append_nil, List.nil_append] at h3
    rw [hg.map]
    exact h3
  rw [hN]
  rfl


open PySem PySem.Spec PyProof.Rows L2 Vc
/-! ### the rows of a drawn net -/
structure GdW (bs : List Str) (m s : Nat) (g : Gd) : Prop where
  look : LookOk bs m (brks m s) g.told
  brs : ∀ b ∈ g.ops, b ∈ brks m s
  len : g.ops.length ≤ 7
def GdP (bs : List Str) (m s : Nat) (d : D) : Prop := ∃ g, d = gdR g ∧ GdW bs m s g
theorem gdR_inj {a b : Gd} (h : gdR a = gdR b) : a = b := by
  obtain ⟨n1, t1, d1, o1⟩ := a
  obtain ⟨n2, t2, d2, o2⟩ := b
  have h1 : (PyData.tuple [.str n1, t1, .int d1, .tuple (o1.map brD)]) = .tuple [.str n2, t2, .int d2, .tuple (o2.map brD)] := h
  have h2 := PyData.tuple.inj h1
  obtain ⟨a1, h3⟩ := List.cons.inj h2
  obtain ⟨a2, h4⟩ := List.cons.inj h3
  obtain ⟨a3, h5⟩ := List.cons.inj h4
  obtain ⟨a4, _⟩ := List.cons.inj h5
  have e1 := PyData.str.inj a1
  have e3 := PyData.int.inj a3
  have e4 : o1 = o2 := by
    have := congrArg (List.map asBr) (PyData.tuple.inj a4)
    rw [asBr_br, asBr_br] at this
    exact this
  subst e1 a2 e3 e4
  rfl
theorem two_len : ((List.range 3).all fun m => (List.range 3).all fun s => decide ((pairsL 0 m ++ onesS 0 s).length ≤ 6) && decide ((brks m s).length ≤ 6)) = true := by decide +kernel
theorem two_lens {m s : Nat} (hm : m < 3) (hs : s < 3) : (pairsL 0 m ++ onesS 0 s).length ≤ 6 ∧ (brks m s).length ≤ 6 := by
  have := List.all_eq_true.mp (List.all_eq_true.mp two_len m (List.mem_range.mpr hm)) s (List.mem_range.mpr hs)
  rw [Bool.and_eq_true] at this
  exact ⟨of_decide_eq_true this.1, of_decide_eq_true this.2⟩
theorem here_len {ls : List Ln} {ss : List Sr} {bus : Str} (hm : ls.length < 3) (hs : ss.length < 3) : (hereL ls ss bus).length ≤ 6 := by
  have sub : (hereL ls ss bus).Sublist (pairsL 0 ls.length ++ onesS 0 ss.length) := hereLs_sub.append hereSs_sub
  exact Nat.le_trans sub.length_le (two_lens hm hs).1
theorem opsL_sub {ls : List Ln} {ss : List Sr} {i : Nat} {l : Ln} {e : Nat} : (opsL ls ss i l e).Sublist (sortB (rawL ls ss i l e)) := by
  have := dup_sub (sortB (rawL ls ss i l e)) (sortB (rawL ls ss i l e)).length
  rw [List.take_length] at this
  exact this
theorem opsL_w {ls : List Ln} {ss : List Sr} {i : Nat} {l : Ln} {e : Nat} (hm : ls.length < 3) (hs : ss.length < 3) (hb : (lname i, 1 - (e : Int)) ∈ brks ls.length ss.length) : (∀ b ∈ opsL ls ss i l e, b ∈ brks ls.length ss.length) ∧ (opsL ls ss i l e).length ≤ 7 := by
  refine ⟨fun b hb' => ?_, ?_⟩
  · have h1 := (sortB_perm _).mem_iff.mp (opsL_sub.subset hb')
    rcases List.mem_append.mp (show b ∈ sortB (hereL ls ss (beB l e)) ++ [(lname i, 1 - (e : Int))] from h1) with q | q
    · exact (here_ok hm hs).2 b ((sortB_perm _).mem_iff.mp q)
    · rw [List.mem_singleton.mp q]
      exact hb
  · have h1 := opsL_sub.length_le (l₁ := opsL ls ss i l e)
    rw [(sortB_perm _).length_eq] at h1
    have h2 : (rawL ls ss i l e).length = (hereL ls ss (beB l e)).length + 1 := by
      show (sortB (hereL ls ss (beB l e)) ++ [_]).length = _
      rw [List.length_append, (sortB_perm _).length_eq]
      rfl
    have := here_len (bus := beB l e) hm hs
    omega
theorem lineG_w {bs : List Str} {ls : List Ln} {ss : List Sr} {late : Int} {i : Nat} {l : Ln} (hm : ls.length < 3) (hs : ss.length < 3) (hi : i < ls.length) : ∀ d ∈ lineG ls ss late i l, GdP bs ls.length ss.length d := fun d hd => by
  obtain ⟨e0, e1⟩ := end_brk (s := ss.length) hi
  obtain ⟨a1, a2⟩ := opsL_w (l := l) (e := 0) hm hs e1
  obtain ⟨b1, b2⟩ := opsL_w (l := l) (e := 1) hm hs e0
  have two : ∀ nm : Str, GdP bs ls.length ss.length (gdD nm (diffD (lname i)) 0 [(lname i, 0), (lname i, 1)]) := fun nm => ⟨⟨nm, diffD (lname i), 0, [(lname i, 0), (lname i, 1)]⟩, rfl, LookOk.diff (lname i) (1, 1000) (line_part hi) List.mem_cons_self, (fun b hb => by
      rcases List.mem_cons.mp hb with rfl | hb
      · exact e0
      · rw [List.mem_singleton.mp hb]
        exact e1), (by decide : (2 : Nat) ≤ 7)⟩
  rcases List.mem_cons.mp hd with rfl | hd
  · exact two _
  rcases List.mem_cons.mp hd with rfl | hd
  · exact two _
  rcases List.mem_cons.mp hd with rfl | hd
  · exact ⟨⟨_, behD (lname i, 0), late, opsL ls ss i l 0⟩, rfl, LookOk.behind _ e0, a1, a2⟩
  · rw [List.mem_singleton.mp hd]
    exact ⟨⟨_, behD (lname i, 1), late, opsL ls ss i l 1⟩, rfl, LookOk.behind _ e1, b1, b2⟩
theorem busG_w {bs : List Str} {ls : List Ln} {ss : List Sr} {n : Nat} {bus : Str} (hm : ls.length < 3) (hs : ss.length < 3) (hb : bus ∈ bs) : ∀ d ∈ busG ls ss n bus, GdP bs ls.length ss.length d := by
  unfold busG
  split
  · exact fun d hd => nomatch hd
  · have two : ∀ nm : Str, GdP bs ls.length ss.length (gdD nm (diffD bus) 0 (sortB (hereL ls ss bus))) := fun nm => ⟨⟨nm, diffD bus, 0, sortB (hereL ls ss bus)⟩, rfl, LookOk.diff bus (1, 1000) (List.mem_append.mpr (.inl hb)) List.mem_cons_self, (fun b hb' => (here_ok hm hs).2 b ((sortB_perm _).mem_iff.mp hb')), (by
        show (sortB (hereL ls ss bus)).length ≤ 7
        rw [(sortB_perm _).length_eq]
        exact Nat.le_trans (here_len hm hs) (by decide))⟩
    intro d hd
    rcases List.mem_cons.mp hd with rfl | hd
    · exact two _
    · rw [List.mem_singleton.mp hd]
      exact two _
theorem linesG_w {bs : List Str} {ls : List Ln} {ss : List Sr} {late : Int} (hm : ls.length < 3) (hs : ss.length < 3) : ∀ {r : List Ln} {i : Nat}, i + r.length ≤ ls.length → ∀ d ∈ linesG ls ss late i r, GdP bs ls.length ss.length d
  | [], _, _, d, hd => nomatch hd
  | l :: r, i, h, d, hd => by
    have h' : i + (r.length + 1) ≤ ls.length := h
    rcases List.mem_append.mp (show d ∈ lineG ls ss late i l ++ linesG ls ss late (i + 1) r from hd) with q | q
    · exact lineG_w hm hs (by omega) d q
    · exact linesG_w hm hs (by omega) d q
theorem busesG_w {bs : List Str} {ls : List Ln} {ss : List Sr} (hm : ls.length < 3) (hs : ss.length < 3) : ∀ {r : List Str} {n : Nat}, (∀ b ∈ r, b ∈ bs) → ∀ d ∈ busesG ls ss n r, GdP bs ls.length ss.length d
  | [], _, _, d, hd => nomatch hd
  | b :: r, n, h, d, hd => by
    rcases List.mem_append.mp (show d ∈ busG ls ss n b ++ busesG ls ss (n + 2) r from hd) with q | q
    · exact busG_w hm hs (h b List.mem_cons_self) d q
    · exact busesG_w hm hs (fun b' hb => h b' (List.mem_cons_of_mem _ hb)) d q
theorem qgs_w {bs : List Str} {m s : Nat} (hm : m < 3) (hs : s < 3) : ∀ {r : List Qg} {i : Nat}, (∀ g ∈ r, QgOk bs m s g) → ∀ d ∈ qgsFrom i r, GdP bs m s d
  | [], _, _, d, hd => nomatch hd
  | g :: r, i, h, d, hd => by
    rcases List.mem_cons.mp (show d ∈ qgD i g :: qgsFrom (i + 1) r from hd) with rfl | q
    · have o := h g List.mem_cons_self
      obtain ⟨sub, hsub, hne, he⟩ := o.opens
      refine ⟨qgRec i g, rfl, o.told, fun b hb => ?_, ?_⟩
      · have hb' : b ∈ g.opens := hb
        rw [he] at hb'
        exact hsub.subset ((sortB_perm _).mem_iff.mp hb')
      · show g.opens.length ≤ 7
        rw [he, (sortB_perm _).length_eq]
        have h1 := hsub.length_le
        have h2 := (two_lens hm hs).2
        omega
    · exact qgs_w hm hs (fun b hb => h b (List.mem_cons_of_mem _ hb)) d q
theorem gs_w {bs : List Str} {ls : List Ln} {ss : List Sr} {most ticks : Int} {gs : List D} (hm : ls.length < 3) (hs : ss.length < 3) (h : GsOk bs ls ss most gs ticks) : ∀ d ∈ gs, GdP bs ls.length ss.length d := by
  cases h with
  | good late gs h hl hg =>
    have hG : ∀ d ∈ goodG bs ls ss late, GdP bs ls.length ss.length d := fun d hd => by
      rcases List.mem_append.mp (show d ∈ linesG ls ss late 0 ls ++ busesG ls ss (2 * ls.length) bs from hd) with q | q
      · exact linesG_w hm hs (by omega) d q
      · exact busesG_w hm hs (fun b hb => hb) d q
    rcases hg with e | ⟨k, hk, e⟩
    · rw [e]
      exact hG
    · rw [e]
      exact fun d hd => hG d ((cut_sub _ k).subset hd)
  | drawn ticks qs t3 t11 q1 q4 ok => exact qgs_w hm hs ok
theorem gr_w {bs : List Str} {ls : List Ln} {ss : List Sr} {most ticks : Int} {gr : List Gd} (hm : ls.length < 3) (hs : ss.length < 3) (h : GsOk bs ls ss most (gr.map gdR) ticks) : ∀ g ∈ gr, GdW bs ls.length ss.length g := fun g hg => by
  obtain ⟨g', h1, h2⟩ := gs_w hm hs h (gdR g) (List.mem_map.mpr ⟨g, hg, rfl⟩)
  rw [gdR_inj h1]
  exact h2
/-! its rows -/

/-! ### the net of a text of rows -/
theorem okDs_of : ∀ {ds : List D}, (∀ d ∈ ds, okD d = true) → okDs ds = true
  | [], _ => by
    unfold okDs
    rfl
  | d :: ds, h => by
    unfold okDs
    rw [h d List.mem_cons_self, okDs_of fun e he => h e (List.mem_cons_of_mem _ he)]
    rfl
theorem okD_tup {ds : List D} (hl : ds.length ≤ 1000) (h : ∀ d ∈ ds, okD d = true) : okD (.tuple ds) = true := by
  unfold okD
  rw [decide_eq_true hl, okDs_of h]
  rfl
theorem okD_int {i : Int} : okD (.int i) = true := by
  unfold okD
  rfl
theorem okD_bool {i : Bool} : okD (.bool i) = true := by
  unfold okD
  rfl
theorem okD_str {z : Str} (h : z.length ≤ 1000) : okD (.str z) = true := by
  unfold okD
  exact decide_eq_true h
theorem okD_name {z : Str} (h : nameS z = true) : okD (.str z) = true := by
  refine okD_str ?_
  unfold nameS at h
  simp only [Bool.and_eq_true] at h
  have := of_decide_eq_true h.2.1
  omega
theorem all2 {P : D → Prop} {a b : D} (ha : P a) (hb : P b) : ∀ d ∈ [a, b], P d := fun d hd => by
  rcases List.mem_cons.mp hd with rfl | hd
  · exact ha
  · rw [List.mem_singleton.mp hd]
    exact hb
theorem all3 {P : D → Prop} {a b c : D} (ha : P a) (hb : P b) (hc : P c) : ∀ d ∈ [a, b, c], P d := fun d hd => by
  rcases List.mem_cons.mp hd with rfl | hd
  · exact ha
  · exact all2 hb hc d hd
theorem all4 {P : D → Prop} {a b c e : D} (ha : P a) (hb : P b) (hc : P c) (he : P e) : ∀ d ∈ [a, b, c, e], P d := fun d hd => by
  rcases List.mem_cons.mp hd with rfl | hd
  · exact ha
  · exact all3 hb hc he d hd
theorem okD_frac {f : Int × Int} : okD (fracT f) = true := okD_tup (by decide : (2 : Nat) ≤ 1000) (all2 okD_int okD_int)

/-! ### the drawn net is plain data -/
structure Lay (k : Nat) (d : D) : Prop where
  lay : d.canLay0 = true
  dep : d.depth ≤ k
theorem lay_all {k : Nat} : ∀ {ds : List D}, (∀ d ∈ ds, Lay k d) → PyData.canLayAll0 ds = true ∧ PyData.depthAll ds ≤ k
  | [], _ => ⟨rfl, Nat.zero_le _⟩
  | d :: ds, h => by
    obtain ⟨a, b⟩ := lay_all (ds := ds) fun e he => h e (List.mem_cons_of_mem _ he)
    have hd := h d List.mem_cons_self
    have e1 : PyData.canLayAll0 (d :: ds) = (d.canLay0 && PyData.canLayAll0 ds) := by simp [PyData.canLayAll0]
    have e2 : PyData.depthAll (d :: ds) = max d.depth (PyData.depthAll ds) := by simp [PyData.depthAll]
    have := hd.dep
    rw [e1, e2, hd.lay, a]
    exact ⟨rfl, by omega⟩
theorem lay_tup {k : Nat} {ds : List D} (h : ∀ d ∈ ds, Lay k d) : Lay (k + 1) (.tuple ds) := by
  obtain ⟨a, b⟩ := lay_all h
  have e : PyData.depth (.tuple ds) = PyData.depthAll ds + 1 := by simp [PyData.depth]
  have e2 : PyData.canLay0 (.tuple ds) = PyData.canLayAll0 ds := by simp [PyData.canLay0]
  exact ⟨by rw [e2, a], by omega⟩
theorem lay_int {k : Nat} {i : Int} : Lay k (.int i) := ⟨by simp [PyData.canLay0], by simp [PyData.depth]⟩
theorem lay_bool {k : Nat} {i : Bool} : Lay k (.bool i) := ⟨by simp [PyData.canLay0], by simp [PyData.depth]⟩

/-! ### nets with one thing wrong -/
theorem brk_facts : ((List.range 3).all fun m => (List.range 3).all fun s => (brks m s).all fun q => okD (brD q) && (PyData.strOk q.1 && decide (q.1.length ≤ 8))) = true := by decide +kernel
theorem brk_fact {m s : Nat} (hm : m < 3) (hs : s < 3) {q : Br} (hq : q ∈ brks m s) : okD (brD q) = true ∧ PyData.strOk q.1 = true := by
  have := List.all_eq_true.mp (List.all_eq_true.mp (List.all_eq_true.mp brk_facts m (List.mem_range.mpr hm)) s (List.mem_range.mpr hs)) q hq
  rw [Bool.and_eq_true, Bool.and_eq_true] at this
  exact ⟨this.1, this.2.1⟩
theorem part_facts : ((List.range 4).all fun n => (List.range 3).all fun m => (partsOf (abc n) m).all fun x => decide (x.length ≤ 1000) && PyData.strOk x) = true := by decide +kernel
theorem part_fact {n m : Nat} (hn : n < 4) (hm : m < 3) {x : Str} (hx : x ∈ partsOf (abc n) m) : x.length ≤ 1000 ∧ PyData.strOk x = true := by
  have := List.all_eq_true.mp (List.all_eq_true.mp (List.all_eq_true.mp part_facts n (List.mem_range.mpr hn)) m (List.mem_range.mpr hm)) x hx
  rw [Bool.and_eq_true] at this
  exact ⟨of_decide_eq_true this.1, this.2⟩
theorem kd_len : ("over" : Str).length ≤ 1000 ∧ ("reach" : Str).length ≤ 1000 ∧ ("behind" : Str).length ≤ 1000 ∧ ("difference" : Str).length ≤ 1000 ∧ ("near" : Str).length ≤ 1000 ∧ ("zz" : Str).length ≤ 1000 := by decide +kernel
theorem kd_lay : PyData.strOk "over" = true ∧ PyData.strOk "reach" = true ∧ PyData.strOk "behind" = true ∧ PyData.strOk "difference" = true := by decide +kernel
theorem lay_str {k : Nat} {z : Str} (h : PyData.strOk z = true) : Lay k (.str z) := ⟨by simp only [PyData.canLay0]; exact h, by simp [PyData.depth]⟩
theorem lay_frac {k : Nat} {f : Int × Int} : Lay (k + 1) (fracT f) := lay_tup (all2 lay_int lay_int)
theorem lay_brk {m s k : Nat} (hm : m < 3) (hs : s < 3) {q : Br} (hq : q ∈ brks m s) : Lay (k + 1) (brD q) := lay_tup (all2 (lay_str (brk_fact hm hs hq).2) lay_int)
theorem look_fact {n m s : Nat} (hn : n < 4) (hm : m < 3) (hs : s < 3) {d : D} (h : LookOk (abc n) m (brks m s) d) : okD d = true ∧ Lay 2 d := by
  obtain ⟨k1, k2, k3, k4, _, _⟩ := kd_len
  obtain ⟨y1, y2, y3, y4⟩ := kd_lay
  cases h with
  | over q f b hq hf => exact ⟨okD_tup (by decide : (4 : Nat) ≤ 1000) (all4 (okD_str k1) (brk_fact hm hs hq).1 okD_frac okD_bool), lay_tup (all4 (lay_str y1) (lay_brk hm hs hq) lay_frac lay_bool)⟩
  | reach q f hq hf => exact ⟨okD_tup (by decide : (3 : Nat) ≤ 1000) (all3 (okD_str k2) (brk_fact hm hs hq).1 okD_frac), lay_tup (all3 (lay_str y2) (lay_brk hm hs hq) lay_frac)⟩
  | behind q hq => exact ⟨okD_tup (by decide : (2 : Nat) ≤ 1000) (all2 (okD_str k3) (brk_fact hm hs hq).1), lay_tup (all2 (lay_str y3) (lay_brk hm hs hq))⟩
  | diff x f hx hf => exact ⟨okD_tup (by decide : (3 : Nat) ≤ 1000) (all3 (okD_str k4) (okD_str (part_fact hn hm hx).1) okD_frac), lay_tup (all3 (lay_str y4) (lay_str (part_fact hn hm hx).2) lay_frac)⟩
/-- a guard of a drawn net -/
structure Gf (n m s : Nat) (g : Gd) : Prop where
  nm : g.nm.length ≤ 1000
  told : okD g.told = true
  ops : ∀ b ∈ g.ops, okD (brD b) = true
  len : g.ops.length ≤ 7
  ne : g.ops ≠ []
  asc : Asc g.ops
  lay : Lay 4 (gdR g)
theorem signs_ok : ∀ c ∈ signsS.cps.toList, c < 0x110000 := by decide +kernel
theorem name_ok {z : Str} (h : nameS z = true) : PyData.strOk z = true := by
  unfold nameS at h
  simp only [Bool.and_eq_true] at h
  obtain ⟨_, _, _, h4, _⟩ := h
  unfold PyData.strOk
  rw [← Array.all_toList, List.all_eq_true]
  intro c hc
  have := List.all_eq_true.mp h4 c hc
  exact decide_eq_true (signs_ok c (of_decide_eq_true this))
theorem gf_of {n : Nat} {ls : List Ln} {ss : List Sr} {g : Gd} (hn : n < 4) (hm : ls.length < 3) (hs : ss.length < 3) (o : GdOk (nm0 n ls.length ss.length) g) (w : GdW (abc n) ls.length ss.length g) (hnm : nameS g.nm = true) (hl : g.nm.length ≤ 1000) : Gf n ls.length ss.length g := by
  obtain ⟨t1, t2⟩ := look_fact hn hm hs w.look
  refine ⟨hl, t1, fun b hb => (brk_fact hm hs (w.brs b hb)).1, w.len, o.ne, o.asc, ?_⟩
  refine lay_tup (k := 3) (all4 (lay_str (name_ok hnm)) (Lay.mk t2.lay (by have := t2.dep; omega)) lay_int (lay_tup (k := 2) fun d hd => ?_))
  obtain ⟨q, hq, rfl⟩ := List.mem_map.mp hd
  exact lay_brk (k := 1) hm hs (w.brs q hq)
theorem ok_guard {n m s : Nat} {g : Gd} (f : Gf n m s g) : okD (gdR g) = true := okD_tup (by decide : (4 : Nat) ≤ 1000) (all4 (okD_str f.nm) f.told okD_int (okD_tup (by rw [List.length_map]; have := f.len; omega) fun d hd => by
  obtain ⟨q, hq, rfl⟩ := List.mem_map.mp hd
  exact f.ops q hq))
/-! what is wrong of a guard -/
theorem guard_bad {ns : Nm} {n t dl o : D} (h : ∀ ns', (toldD ns' t && (wholeD 0 20 dl && opensD ns' o)) = false) : guardN ns (.tuple [n, t, dl, o]) = none := by
  show (match addN ns "guard" n with | some ns' => if (toldD ns' t && (wholeD 0 20 dl && opensD ns' o)) = true then some ns' else none | none => none) = none
  cases addN ns "guard" n with
  | none => rfl
  | some ns' => exact if_neg (by rw [h ns']; decide)
theorem last_back {b : Br} {l : List Br} (h : Asc (b :: l)) : asc ((b :: l) ++ [b]) = false := by
  have key : ∀ {l : List Br} {c : Br}, (∀ q ∈ c :: l, ltB q b = false) → asc ((c :: l) ++ [b]) = false := fun {l c} hq => by
    induction l generalizing c with
    | nil =>
      show (([c, b] : List Br).zip [b]).all _ = false
      show (ltB c b && true) = false
      rw [hq c List.mem_cons_self]
      rfl
    | cons d l ih =>
      have := ih (c := d) fun q hm => hq q (List.mem_cons_of_mem _ hm)
      show (ltB c d && asc ((d :: l) ++ [b])) = false
      rw [this, Bool.and_false]
  refine key fun q hq => ?_
  rcases List.mem_cons.mp hq with rfl | hq
  · exact ltB_irr _
  · exact (List.pairwise_cons.mp h).1 q hq
theorem opens_bad {ns : Nm} {b : Br} {l : List Br} (h : Asc (b :: l)) : opensD ns (.tuple ((b :: l).map brD ++ [brD b])) = false := by
  show (!((b :: l).map brD ++ [brD b]).isEmpty && (((b :: l).map brD ++ [brD b]).all (breakerD ns) && asc (((b :: l).map brD ++ [brD b]).map asBr))) = false
  have e : ((b :: l).map brD ++ [brD b]).map asBr = (b :: l) ++ [b] := by
    have : (b :: l).map brD ++ [brD b] = ((b :: l) ++ [b]).map brD := by rw [List.map_append]; rfl
    rw [this, asBr_br]
  rw [e, last_back h, Bool.and_false, Bool.and_false]
theorem near_bad {ns : Nm} {d : D} : toldD ns (.tuple [.str "near", d]) = false := by
  show toldS ns "near" [d] = false
  unfold toldS
  rw [if_neg (by decide +kernel), if_neg (by decide +kernel), if_neg (by decide +kernel), decide_eq_false (by decide +kernel)]
  rfl
theorem reach_bad {ns : Nm} {d : D} : toldD ns (.tuple [.str "reach", d, .tuple [.int 2, .int 4]]) = false := by
  show toldS ns "reach" [d, .tuple [.int 2, .int 4]] = false
  unfold toldS
  rw [if_neg (by decide +kernel), if_pos rfl]
  show (breakerD ns d && boundD (.tuple [.int 2, .int 4])) = false
  rw [show boundD (.tuple [.int 2, .int 4]) = false by decide +kernel, Bool.and_false]
theorem over_bad {ns : Nm} {d e : D} : toldD ns (.tuple [.str "over", d, .tuple [.int 0, .int 1], e]) = false := by
  show toldS ns "over" [d, .tuple [.int 0, .int 1], e] = false
  unfold toldS
  rw [if_pos rfl]
  show (breakerD ns d && (boundD (.tuple [.int 0, .int 1]) && isBoolD e)) = false
  rw [show boundD (.tuple [.int 0, .int 1]) = false by decide +kernel, Bool.false_and, Bool.and_false]
/-- the guards' names are guards' names -/
theorem guards_more : ∀ {ds : List D} {ns ns' : Nm}, allN guardN ns ds = some ns' → ∃ l, ns' = ns ++ nmG l
  | [], ns, ns', h => ⟨[], by rw [show nmG [] = [] from rfl, List.append_nil]; exact (Option.some.inj h).symm⟩
  | d :: ds, ns, ns', h => by
    replace h : (match guardN ns d with | some n1 => allN guardN n1 ds | none => none) = some ns' := h
    cases e : guardN ns d with
    | none =>
      rw [e] at h
      cases h
    | some n1 =>
      rw [e] at h
      obtain ⟨l, hl⟩ := guards_more (ds := ds) h
      have : ∃ z, n1 = ns ++ [(z, ("guard" : Str))] := by
        unfold guardN at e
        split at e
        · rename_i n t dl o
          split at e
          · rename_i n2 e2
            split at e
            · cases e
              unfold addN at e2
              split at e2
              · split at e2
                · cases e2
                  exact ⟨_, rfl⟩
                · cases e2
              · cases e2
            · cases e
          · cases e
        · cases e
      obtain ⟨z, rfl⟩ := this
      exact ⟨z :: l, by rw [hl, List.append_assoc]; rfl⟩
theorem kind_guard {ns : Nm} {l : List Str} {z : Str} (h : kindOf ns z = none) : kindOf (ns ++ nmG l) z = none ∨ kindOf (ns ++ nmG l) z = some ("guard" : Str) := by
  unfold kindOf at h ⊢
  rw [List.find?_append]
  have h1 : (ns.find? fun e => decide (e.1 = z)) = none := by
    cases e : ns.find? fun e => decide (e.1 = z) with
    | none => rfl
    | some q =>
      rw [e] at h
      cases h
  rw [h1]
  cases e : (nmG l).find? fun e => decide (e.1 = z) with
  | none => exact .inl rfl
  | some q =>
    have hm := List.mem_of_find?_eq_some e
    obtain ⟨y, _, rfl⟩ := List.mem_map.mp hm
    exact .inr rfl
theorem zz_free : ((List.range 4).all fun n => (List.range 3).all fun m => (List.range 3).all fun s => decide (kindOf (nm0 n m s) "zz" = none)) = true := by decide +kernel
theorem zz_known {n m s : Nat} (hn : n < 4) (hm : m < 3) (hs : s < 3) {l : List Str} {ks : List Str} (hk : ("guard" : Str) ∉ ks) : knownD (nm0 n m s ++ nmG l) ks (.str "zz") = false := by
  have h0 := of_decide_eq_true (List.all_eq_true.mp (List.all_eq_true.mp (List.all_eq_true.mp zz_free n (List.mem_range.mpr hn)) m (List.mem_range.mpr hm)) s (List.mem_range.mpr hs))
  show (match kindOf (nm0 n m s ++ nmG l) "zz" with | some k => decide (k ∈ ks) | none => false) = false
  rcases kind_guard (l := l) h0 with e | e
  · rw [e]
  · rw [e]
    exact decide_eq_false hk
theorem zz_behind {n m s : Nat} (hn : n < 4) (hm : m < 3) (hs : s < 3) {l : List Str} : toldD (nm0 n m s ++ nmG l) (.tuple [.str "behind", .tuple [.str "zz", .int 0]]) = false := by
  show toldS _ "behind" [.tuple [.str "zz", .int 0]] = false
  unfold toldS
  rw [if_neg (by decide +kernel), if_neg (by decide +kernel), if_neg (by decide +kernel)]
  show (decide (("behind" : Str) = "behind") && ((decide ((0 : Int) ∈ [0, 1]) && knownD _ ["line"] (.str "zz")) || (decide ((0 : Int) = 0) && knownD _ ["source"] (.str "zz")))) = false
  rw [zz_known hn hm hs (by decide +kernel), zz_known hn hm hs (by decide +kernel)]
  simp
theorem zz_diff {n m s : Nat} (hn : n < 4) (hm : m < 3) (hs : s < 3) {l : List Str} {f : D} : toldD (nm0 n m s ++ nmG l) (.tuple [.str "difference", .str "zz", f]) = false := by
  show toldS _ "difference" [.str "zz", f] = false
  unfold toldS
  rw [if_neg (by decide +kernel), if_neg (by decide +kernel), if_pos rfl]
  show (knownD _ ["bus", "line"] (.str "zz") && boundD f) = false
  rw [zz_known hn hm hs (by decide +kernel), Bool.false_and]
/-- a guard more that is wrong -/
theorem guards_bad {ns : Nm} {ds : List D} {d : D} (h : ∀ l, guardN (ns ++ nmG l) d = none) : allN guardN ns (ds ++ [d]) = none := by
  rw [allN_snoc]
  cases e : allN guardN ns ds with
  | none => rfl
  | some ns' =>
    obtain ⟨l, rfl⟩ := guards_more e
    exact h l
theorem guard_told {n m s : Nat} {l : List Str} {nm : Str} {t dl o : D} (h : ∀ l, toldD (nm0 n m s ++ nmG l) t = false) : guardN (nm0 n m s ++ nmG l) (.tuple [.str nm, t, dl, o]) = none := by
  show (match addN (nm0 n m s ++ nmG l) "guard" (.str nm) with | some ns' => if (toldD ns' t && (wholeD 0 20 dl && opensD ns' o)) = true then some ns' else none | none => none) = none
  cases e : addN (nm0 n m s ++ nmG l) "guard" (.str nm) with
  | none => rfl
  | some ns' =>
    have : ns' = nm0 n m s ++ nmG (l ++ [nm]) := by
      unfold addN at e
      dsimp only at e
      split at e
      · cases e
        rw [List.append_assoc]
        show _ = _ ++ (l ++ [nm]).map _
        rw [List.map_append]
        rfl
      · cases e
    subst this
    exact if_neg (by rw [h, Bool.false_and]; decide)


open PySem PySem.Spec PyProof.Rows L2 Vc
/-! ### wrong nets -/
theorem net_names {b l s g r : D} (h : namesN b l s g = none) : netD (.tuple [b, l, s, g, r]) = false := by
  show (manyD 1 6 b && (manyD 0 8 l && (manyD 1 3 s && (manyD 0 16 g && ((namesN b l s g).isSome && rulesD r))))) = false
  rw [h, Option.isSome_none, Bool.false_and, Bool.and_false, Bool.and_false, Bool.and_false, Bool.and_false]
theorem net_rules {b l s g r : D} (h : rulesD r = false) : netD (.tuple [b, l, s, g, r]) = false := by
  show (manyD 1 6 b && (manyD 0 8 l && (manyD 1 3 s && (manyD 0 16 g && ((namesN b l s g).isSome && rulesD r))))) = false
  rw [h, Bool.and_false, Bool.and_false, Bool.and_false, Bool.and_false, Bool.and_false]
theorem net_srcs {b l s g r : D} (h : manyD 1 3 s = false) : netD (.tuple [b, l, s, g, r]) = false := by
  show (manyD 1 6 b && (manyD 0 8 l && (manyD 1 3 s && (manyD 0 16 g && ((namesN b l s g).isSome && rulesD r))))) = false
  rw [h, Bool.false_and, Bool.and_false, Bool.and_false]
theorem net_buss {b l s g r : D} (h : manyD 1 6 b = false) : netD (.tuple [b, l, s, g, r]) = false := by
  show (manyD 1 6 b && (manyD 0 8 l && (manyD 1 3 s && (manyD 0 16 g && ((namesN b l s g).isSome && rulesD r))))) = false
  rw [h, Bool.false_and]
theorem names_bl {n : Nat} {xs ss gs : List D} (hn : n < 4) : namesN (.tuple ((abc n).map PyData.str)) (.tuple xs) (.tuple ss) (.tuple gs) = match allN lineN (nmB n) xs with
    | none => none
    | some n2 => match allN sourceN n2 ss with
      | none => none
      | some n3 => allN guardN n3 gs := by
  show (match allN busN [] ((abc n).map PyData.str) with
      | none => none
      | some n1 => match allN lineN n1 xs with
        | none => none
        | some n2 => match allN sourceN n2 ss with
          | none => none
          | some n3 => allN guardN n3 gs) = _
  rw [buses_n n hn]
theorem names_ls {n : Nat} {ls : List Ln} {xs gs : List D} (hn : n < 4) (l2 : ls.length ≤ 2) (lok : ∀ l ∈ ls, LnOk (abc n) l) : namesN (.tuple ((abc n).map PyData.str)) (.tuple (lnsFrom 0 ls)) (.tuple xs) (.tuple gs) = match allN sourceN (nm0 n ls.length 0) xs with
    | none => none
    | some n3 => allN guardN n3 gs := by
  rw [names_bl hn]
  have h1 := lines_n (n := n) hn (r := ls) (i := 0) (by omega) lok
  rw [show nmL 0 = [] from rfl, List.append_nil, Nat.zero_add] at h1
  rw [h1, show nm0 n ls.length 0 = nmB n ++ nmL ls.length by unfold nm0; rw [show nmS 0 = [] from rfl, List.append_nil]]
theorem names_sg {n : Nat} {ls : List Ln} {ss : List Sr} {gs : List D} (hn : n < 4) (l2 : ls.length ≤ 2) (lok : ∀ l ∈ ls, LnOk (abc n) l) (s2 : ss.length ≤ 2) (sok : ∀ s ∈ ss, SrOk (abc n) s) : namesN (.tuple ((abc n).map PyData.str)) (.tuple (lnsFrom 0 ls)) (.tuple (srsFrom 0 ss)) (.tuple gs) = allN guardN (nm0 n ls.length ss.length) gs := by
  rw [names_ls hn l2 lok]
  have h2 := sources_n (n := n) (m := ls.length) hn (by omega) (r := ss) (i := 0) (by omega) sok
  rw [Nat.zero_add] at h2
  rw [h2]
theorem src_zz : ((List.range 4).all fun n => (List.range 3).all fun m => decide (allN sourceN (nm0 n m 0) [.tuple [.str "g9", .str "zz", .int 3]] = none) && (decide (allN sourceN (nm0 n m 0) [.tuple [.str "g9", .str "a", .int 0]] = none) && ((allSr n).all fun s => decide (allN sourceN (nm0 n m 0) [srD 0 s, srD 0 s] = none)))) = true := by decide +kernel
theorem src_bad {n m : Nat} (hn : n < 4) (hm : m < 3) : allN sourceN (nm0 n m 0) [.tuple [.str "g9", .str "zz", .int 3]] = none ∧ allN sourceN (nm0 n m 0) [.tuple [.str "g9", .str "a", .int 0]] = none ∧ ∀ s ∈ allSr n, allN sourceN (nm0 n m 0) [srD 0 s, srD 0 s] = none := by
  have h := List.all_eq_true.mp (List.all_eq_true.mp src_zz n (List.mem_range.mpr hn)) m (List.mem_range.mpr hm)
  rw [Bool.and_eq_true, Bool.and_eq_true, List.all_eq_true] at h
  exact ⟨of_decide_eq_true h.1, of_decide_eq_true h.2.1, fun s hs => of_decide_eq_true (h.2.2 s hs)⟩
theorem bus_twice : ∀ n < 4, n ≠ 0 → allN busN [] ((abc n).map PyData.str ++ [.str "a"]) = none := by decide +kernel
/-- the lines that a law adds -/
def moreL (n : Nat) : List D := [.tuple [.str "k", .str "a", .str "a", .int 3], .tuple [.str "k", .str "a", .str "zz", .int 3], .tuple [.str "k", .str "a", .str ((abc n).getLastD ""), .int 1001],
  .tuple [.str "ticks", .str "a", .str ((abc n).getLastD ""), .int 3], .tuple [.str "nine90123", .str "a", .str ((abc n).getLastD ""), .int 3]]
theorem more_bad : ((List.range 4).all fun n => (List.range 3).all fun m => (moreL n).all fun d => okD d && decide (lineN (nmB n ++ nmL m) d = none)) = true := by decide +kernel
theorem more_line {n m : Nat} (hn : n < 4) (hm : m < 3) {d : D} (hd : d ∈ moreL n) : okD d = true ∧ lineN (nmB n ++ nmL m) d = none := by
  have h := List.all_eq_true.mp (List.all_eq_true.mp (List.all_eq_true.mp more_bad n (List.mem_range.mpr hn)) m (List.mem_range.mpr hm)) d hd
  rw [Bool.and_eq_true] at h
  exact ⟨h.1, of_decide_eq_true h.2⟩
/-! ### what a drawn net is -/
structure Nf (n : Nat) (ls : List Ln) (ss : List Sr) (gr : List Gd) (e : Int × Int) (least most ticks : Int) : Prop where
  n1 : 1 ≤ n
  n4 : n < 4
  l2 : ls.length ≤ 2
  lok : ∀ l ∈ ls, LnOk (abc n) l
  s1 : 1 ≤ ss.length
  s2 : ss.length ≤ 2
  sok : ∀ s ∈ ss, SrOk (abc n) s
  he : e ∈ errs
  a1 : 1 ≤ least
  a2 : least ≤ 2
  m1 : least ≤ most
  m3 : most ≤ 3
  t1 : 1 ≤ ticks
  t40 : ticks ≤ 40
  len : gr.length ≤ 16
  gf : ∀ g ∈ gr, Gf n ls.length ss.length g
abbrev netF (n : Nat) (ls : List Ln) (ss : List Sr) (gr : List Gd) (e : Int × Int) (least most ticks : Int) : D := netT (abc n) ls ss (gr.map gdR) e least most ticks
theorem nf_of {bs : List Str} {ls : List Ln} {ss : List Sr} {gs : List D} {e : Int × Int} {least most ticks : Int} (h : Drawn bs ls ss gs e least most ticks) : ∃ n gr, Nf n ls ss gr e least most ticks ∧ bs = abc n ∧ gs = gr.map gdR := by
  obtain ⟨n, n1, n3, rfl⟩ := h.hbs
  have hl2 := h.l2
  have hs1 := h.s1
  have hs2 := h.s2
  have a1 := h.a1
  have a2 := h.a2
  have m1 := h.m1
  have m2 := h.m2
  obtain ⟨⟨gr, hg⟩, t1, t40⟩ := gs_gr (n := n) (by omega) (by omega) (by omega) (by omega) (by omega) h.hgs
  have hgs := h.hgs
  rw [hg.map] at hgs
  have hw := gr_w (by omega) (by omega) hgs
  exact ⟨n, gr, ⟨n1, by omega, hl2, h.lok, hs1, hs2, h.sok, h.he, a1, a2, m1, by omega, t1, t40, hg.len, fun g q => gf_of (by omega) (by omega) (by omega) (hg.ok g q) (hw g q) (hg.free g q).1 (hg.free g q).2.1⟩, rfl, hg.map⟩
section
variable {n : Nat} {ls : List Ln} {ss : List Sr} {gr : List Gd} {e : Int × Int} {least most ticks : Int}
theorem abc_len (hn : n < 4) : (abc n).length = n := by
  show ((["a", "b", "c"] : List Str).take n).length = n
  rw [List.length_take]
  show min n 3 = n
  omega
theorem okS_a : (["a", "b", "c"] : List Str).all (fun z => decide (z.length ≤ 1000)) = true := by decide +kernel
theorem ok_abc {z : Str} (h : z ∈ abc n) : okD (.str z) = true := okD_str (of_decide_eq_true (List.all_eq_true.mp okS_a z (List.mem_of_mem_take h)))
theorem okB (hn : n < 4) : okD (.tuple ((abc n).map PyData.str)) = true := okD_tup (by rw [List.length_map, abc_len hn]; omega) fun d hd => by
  obtain ⟨z, hz, rfl⟩ := List.mem_map.mp hd
  exact ok_abc hz
theorem nm_short : ∀ i < 2, (lname i).length ≤ 1000 ∧ (gname i).length ≤ 1000 := by decide +kernel
theorem okLn {l : Ln} {i : Nat} (hi : i < 2) (h : LnOk (abc n) l) : okD (lnD i l) = true := okD_tup (by decide : (4 : Nat) ≤ 1000) (all4 (okD_str (nm_short i hi).1) (ok_abc h.o) (ok_abc h.t) okD_int)
theorem okSr {s : Sr} {i : Nat} (hi : i < 2) (h : SrOk (abc n) s) : okD (srD i s) = true := okD_tup (by decide : (3 : Nat) ≤ 1000) (all3 (okD_str (nm_short i hi).2) (ok_abc h.hb) okD_int)
theorem okLs : ∀ {r : List Ln} {i : Nat}, i + r.length ≤ 2 → (∀ l ∈ r, LnOk (abc n) l) → ∀ d ∈ lnsFrom i r, okD d = true
  | [], _, _, _, _, hd => nomatch hd
  | l :: r, i, h, ok, d, hd => by
    have h' : i + (r.length + 1) ≤ 2 := h
    rcases List.mem_cons.mp (show d ∈ lnD i l :: lnsFrom (i + 1) r from hd) with rfl | q
    · exact okLn (by omega) (ok l List.mem_cons_self)
    · exact okLs (by omega) (fun l' hl => ok l' (List.mem_cons_of_mem _ hl)) d q
theorem okSs : ∀ {r : List Sr} {i : Nat}, i + r.length ≤ 2 → (∀ s ∈ r, SrOk (abc n) s) → ∀ d ∈ srsFrom i r, okD d = true
  | [], _, _, _, _, hd => nomatch hd
  | s :: r, i, h, ok, d, hd => by
    have h' : i + (r.length + 1) ≤ 2 := h
    rcases List.mem_cons.mp (show d ∈ srD i s :: srsFrom (i + 1) r from hd) with rfl | q
    · exact okSr (by omega) (ok s List.mem_cons_self)
    · exact okSs (by omega) (fun l' hl => ok l' (List.mem_cons_of_mem _ hl)) d q
theorem all5 {P : D → Prop} {a b c e f : D} (ha : P a) (hb : P b) (hc : P c) (he : P e) (hf : P f) : ∀ d ∈ [a, b, c, e, f], P d := fun d hd => by
  rcases List.mem_cons.mp hd with rfl | hd
  · exact ha
  · exact all4 hb hc he hf d hd
theorem okGs (h : ∀ g ∈ gr, Gf n ls.length ss.length g) : ∀ d ∈ gr.map gdR, okD d = true := fun d hd => by
  obtain ⟨g, hg, rfl⟩ := List.mem_map.mp hd
  exact ok_guard (h g hg)
theorem okRl : okD (.tuple [fracT e, .int least, .int most, .int ticks]) = true := okD_tup (by decide : (4 : Nat) ≤ 1000) (all4 okD_frac okD_int okD_int okD_int)
/-- the parts of a drawn net -/
theorem Nf.parts (f : Nf n ls ss gr e least most ticks) : okD (.tuple ((abc n).map PyData.str)) = true ∧ (∀ d ∈ lnsFrom 0 ls, okD d = true) ∧ (∀ d ∈ srsFrom 0 ss, okD d = true) ∧ (∀ d ∈ gr.map gdR, okD d = true) :=
  ⟨okB f.n4, okLs (by have := f.l2; omega) f.lok, okSs (by have := f.s2; omega) f.sok, okGs f.gf⟩
theorem lns_len' {ls : List Ln} {i : Nat} : (lnsFrom i ls).length = ls.length := lns_len
theorem okNet5 (f : Nf n ls ss gr e least most ticks) {b l s g r : D} (hb : okD b = true) (hl : okD l = true) (hs : okD s = true) (hg : okD g = true) (hr : okD r = true) : okD (.tuple [b, l, s, g, r]) = true := okD_tup (by decide : (5 : Nat) ≤ 1000) (all5 hb hl hs hg hr)
theorem Nf.okL (f : Nf n ls ss gr e least most ticks) : okD (.tuple (lnsFrom 0 ls)) = true := okD_tup (by rw [lns_len]; have := f.l2; omega) f.parts.2.1
theorem Nf.okS (f : Nf n ls ss gr e least most ticks) : okD (.tuple (srsFrom 0 ss)) = true := okD_tup (by rw [srs_len]; have := f.s2; omega) f.parts.2.2.1
theorem Nf.okG (f : Nf n ls ss gr e least most ticks) : okD (.tuple (gr.map gdR)) = true := okD_tup (by rw [List.length_map]; have := f.len; omega) f.parts.2.2.2
theorem Nf.ok (f : Nf n ls ss gr e least most ticks) : okD (netF n ls ss gr e least most ticks) = true := okNet5 f f.parts.1 f.okL f.okS f.okG okRl
/-- another last guard -/
theorem Nf.bad3 (f : Nf n ls ss gr e least most ticks) {rest : List D} {late : D} (hr : ∀ d ∈ rest, okD d = true) (lr : rest.length ≤ 16) (hl : okD late = true) (h : ∀ l, guardN (nm0 n ls.length ss.length ++ nmG l) late = none) {r : D} (hk : okD r = true) :
    okD (.tuple [.tuple ((abc n).map PyData.str), .tuple (lnsFrom 0 ls), .tuple (srsFrom 0 ss), .tuple (rest ++ [late]), r]) = true ∧ netD (.tuple [.tuple ((abc n).map PyData.str), .tuple (lnsFrom 0 ls), .tuple (srsFrom 0 ss), .tuple (rest ++ [late]), r]) = false :=
  ⟨okNet5 f f.parts.1 f.okL f.okS (okD_tup (by rw [List.length_append]; show rest.length + 1 ≤ _; omega) fun d hd => by
    rcases List.mem_append.mp hd with q | q
    · exact hr d q
    · rw [List.mem_singleton.mp q]
      exact hl) hk, net_names (by rw [names_sg f.n4 f.l2 f.lok f.s2 f.sok, guards_bad h])⟩
theorem Nf.bad4 (f : Nf n ls ss gr e least most ticks) {r : D} (hk : okD r = true) (h : rulesD r = false) :
    okD (.tuple [.tuple ((abc n).map PyData.str), .tuple (lnsFrom 0 ls), .tuple (srsFrom 0 ss), .tuple (gr.map gdR), r]) = true ∧ netD (.tuple [.tuple ((abc n).map PyData.str), .tuple (lnsFrom 0 ls), .tuple (srsFrom 0 ss), .tuple (gr.map gdR), r]) = false :=
  ⟨okNet5 f f.parts.1 f.okL f.okS f.okG hk, net_rules h⟩
theorem Nf.bad2 (f : Nf n ls ss gr e least most ticks) {xs : List D} (ox : ∀ d ∈ xs, okD d = true) (lx : xs.length ≤ 16) (h : manyD 1 3 (.tuple xs) = false ∨ allN sourceN (nm0 n ls.length 0) xs = none) :
    okD (.tuple [.tuple ((abc n).map PyData.str), .tuple (lnsFrom 0 ls), .tuple xs, .tuple (gr.map gdR), .tuple [fracT e, .int least, .int most, .int ticks]]) = true ∧ netD (.tuple [.tuple ((abc n).map PyData.str), .tuple (lnsFrom 0 ls), .tuple xs, .tuple (gr.map gdR), .tuple [fracT e, .int least, .int most, .int ticks]]) = false :=
  ⟨okNet5 f f.parts.1 f.okL (okD_tup (by omega) ox) f.okG okRl, h.elim net_srcs fun q => net_names (by rw [names_ls f.n4 f.l2 f.lok, q])⟩
theorem Nf.bad1 (f : Nf n ls ss gr e least most ticks) {d : D} (hd : d ∈ moreL n) :
    okD (.tuple [.tuple ((abc n).map PyData.str), .tuple (lnsFrom 0 ls ++ [d]), .tuple (srsFrom 0 ss), .tuple (gr.map gdR), .tuple [fracT e, .int least, .int most, .int ticks]]) = true ∧ netD (.tuple [.tuple ((abc n).map PyData.str), .tuple (lnsFrom 0 ls ++ [d]), .tuple (srsFrom 0 ss), .tuple (gr.map gdR), .tuple [fracT e, .int least, .int most, .int ticks]]) = false := by
  have l2 := f.l2
  obtain ⟨q1, q2⟩ := more_line (m := ls.length) f.n4 (by omega) hd
  refine ⟨okNet5 f f.parts.1 (okD_tup (by rw [List.length_append, lns_len]; show _ + 1 ≤ _; omega) fun x hx => ?_) f.okS f.okG okRl, net_names ?_⟩
  · rcases List.mem_append.mp hx with q | q
    · exact f.parts.2.1 x q
    · rw [List.mem_singleton.mp q]
      exact q1
  · have h1 := lines_n (n := n) f.n4 (r := ls) (i := 0) (by omega) f.lok
    rw [show nmL 0 = [] from rfl, List.append_nil, Nat.zero_add] at h1
    rw [names_bl f.n4, allN_snoc, h1]
    dsimp only
    rw [q2]
theorem Nf.bad0 (f : Nf n ls ss gr e least most ticks) {xs : List D} (ox : ∀ d ∈ xs, okD d = true) (lx : xs.length ≤ 16) (h : manyD 1 6 (.tuple xs) = false ∨ allN busN [] xs = none) :
    okD (.tuple [.tuple xs, .tuple (lnsFrom 0 ls), .tuple (srsFrom 0 ss), .tuple (gr.map gdR), .tuple [fracT e, .int least, .int most, .int ticks]]) = true ∧ netD (.tuple [.tuple xs, .tuple (lnsFrom 0 ls), .tuple (srsFrom 0 ss), .tuple (gr.map gdR), .tuple [fracT e, .int least, .int most, .int ticks]]) = false :=
  ⟨okNet5 f (okD_tup (by omega) ox) f.okL f.okS f.okG okRl, h.elim net_buss fun q => net_names (by
    show (match allN busN [] xs with
      | none => none
      | some n1 => match allN lineN n1 (lnsFrom 0 ls) with
        | none => none
        | some n2 => match allN sourceN n2 (srsFrom 0 ss) with
          | none => none
          | some n3 => allN guardN n3 (gr.map gdR)) = none
    rw [q])⟩
end


open PySem PySem.Spec PyProof.Rows L2 Vc
/-! ### _law_wrong -/
theorem okD_lst {ds : List D} (hl : ds.length ≤ 1000) (h : ∀ d ∈ ds, okD d = true) : okD (.list ds) = true := by
  unfold okD
  rw [decide_eq_true hl, okDs_of h]
  rfl
theorem at5 {a b c d e : D} {i : Int} {P : D → Prop} (R : Nat → D → Prop) (h0 : 0 ≤ i) (h5 : i < 5) (k : ∀ (j : Nat) x, (j : Int) = i → R j x → P x) (ha : R 0 a) (hb : R 1 b) (hc : R 2 c) (hd : R 3 d) (he : R 4 e) : ∃ x, atI [a, b, c, d, e] i = some x ∧ P x := by
  rcases (show i = 0 ∨ i = 1 ∨ i = 2 ∨ i = 3 ∨ i = 4 by omega) with rfl | rfl | rfl | rfl | rfl
  · exact ⟨a, rfl, k 0 a rfl ha⟩
  · exact ⟨b, rfl, k 1 b rfl hb⟩
  · exact ⟨c, rfl, k 2 c rfl hc⟩
  · exact ⟨d, rfl, k 3 d rfl hd⟩
  · exact ⟨e, rfl, k 4 e rfl he⟩
theorem at4 {a b c d : D} {i : Int} {P : D → Prop} (R : D → Prop) (h0 : 0 ≤ i) (h4 : i < 4) (k : ∀ x, R x → P x) (ha : R a) (hb : R b) (hc : R c) (hd : R d) : ∃ x, atI [a, b, c, d] i = some x ∧ P x := by
  rcases (show i = 0 ∨ i = 1 ∨ i = 2 ∨ i = 3 by omega) with rfl | rfl | rfl | rfl
  · exact ⟨a, rfl, k a ha⟩
  · exact ⟨b, rfl, k b hb⟩
  · exact ⟨c, rfl, k c hc⟩
  · exact ⟨d, rfl, k d hd⟩
theorem at3 {a b c : D} {i : Int} {P : D → Prop} (R : D → Prop) (h0 : 0 ≤ i) (h3 : i < 3) (k : ∀ x, R x → P x) (ha : R a) (hb : R b) (hc : R c) : ∃ x, atI [a, b, c] i = some x ∧ P x := by
  rcases (show i = 0 ∨ i = 1 ∨ i = 2 by omega) with rfl | rfl | rfl
  · exact ⟨a, rfl, k a ha⟩
  · exact ⟨b, rfl, k b hb⟩
  · exact ⟨c, rfl, k c hc⟩
theorem at2 {a b : D} {i : Int} {P : D → Prop} (R : D → Prop) (h0 : 0 ≤ i) (h2 : i < 2) (k : ∀ x, R x → P x) (ha : R a) (hb : R b) : ∃ x, atI [a, b] i = some x ∧ P x := by
  rcases (show i = 0 ∨ i = 1 by omega) with rfl | rfl
  · exact ⟨a, rfl, k a ha⟩
  · exact ⟨b, rfl, k b hb⟩
theorem shp {k : Nat} {d : D} (h : Lay k d) (hk : k ≤ 64) : SeqAt.shaped d = true := by
  unfold SeqAt.shaped
  rw [h.lay, Bool.true_and]
  exact decide_eq_true (by have := h.dep; omega)
theorem kw_len : ("over" : Str).length ≤ 1000 ∧ ("reach" : Str).length ≤ 1000 ∧ ("behind" : Str).length ≤ 1000 ∧ ("difference" : Str).length ≤ 1000 ∧ ("near" : Str).length ≤ 1000 ∧ ("zz" : Str).length ≤ 1000 ∧ ("g9" : Str).length ≤ 1000 ∧ ("a" : Str).length ≤ 1000 := by decide +kernel
theorem err_11 : errD (.tuple [.int 1, .int 1]) = false := by decide +kernel
def SWrong : List D → List D → (D → List D → Prop) → Prop := fun cs ds W => ∃ (ns : List Int) (c n : Nat) (ls : List Ln) (ss : List Sr) (gr : List Gd) (e : Int × Int) (least most ticks : Int), cs = drw ns c ∧ ds = [netF n ls ss gr e least most ticks] ∧ c ≤ 850000 ∧ Nf n ls ss gr e least most ticks ∧ gr ≠ [] ∧
  ∀ bad : D, okD bad = true → netD bad = false → W bad (drw ns (c + 2))
abbrev enW (p : Addr) (dr : List D) (nt B L S G R : D) (s7 s8 s9 s10 s11 s12 s13 s14 s15 s16 s17 s18 s19 : Sl) : En := [.own p (.l dr), .dat nt, .dat B, .dat L, .dat S, .dat G, .dat R, s7, s8, s9, s10, s11, s12, s13, s14, s15, s16, s17, s18, s19, .no, .no]
local macro_rules | `(tactic| walk_at "kk") => `(tactic| repeat (first | refine va_cons ?_ | refine vd_tup ?_ | refine vd_str ?_ | refine vd_int ?_ | refine vd_bool ?_ | refine vd_neg (vd_int ⟨_, rfl, ?_⟩) | refine vd_name (by assumption) (by walk_at "at") rfl ?_ | refine va_nil ⟨by simp, ?_⟩))
theorem fWrong {M : Md} [Cold M] {f : Addr} {fd : FuncData} (ml : M.mg "len" = none) (mr : M.mg "range" = none) (ms : M.mg "str" = none) (mt : M.mg "tuple" = none) (mi : M.mg "list" = none) (FX : FnM M 3 "_law_next" 1 SNext) (FP : FnD M 1 "_law_put" 3 SPut)
    (F : Fun M.K "_law_wrong" "_law_wrong" sLWrong f fd) (hm : M.mg "_law_wrong" = some (.ref f)) (b : L2.Binds M.K fd ["draw", "net"] []) : FnM M 4 "_law_wrong" 1 SWrong := by
  refine fnM_mk (k := 3) (NK := nkLWrong) (G := gLWrong) F scLWrong hm b rfl (by decide +kernel) rfl (by decide) fun X C p cs ds W hl hS => ?_
  obtain ⟨ns, c, n, ls, ss, gr, e, least, most, ticks, rfl, rfl, hc, f, gne, w⟩ := hS
  have lg := f.len
  have l2 := f.l2
  have s1 := f.s1
  have s2 := f.s2
  have n1 := f.n1
  have n4 := f.n4
  have gpos : 0 < gr.length := List.length_pos_iff.mpr gne
  obtain ⟨oB, oL, oS, oG⟩ := f.parts
  obtain ⟨nt, hnt⟩ : ∃ nt, nt = netF n ls ss gr e least most ticks := ⟨_, rfl⟩
  show VSs X _ (.own p (.l (drw ns c)) :: .dat (netF n ls ss gr e least most ticks) :: List.replicate 20 .no) _
  rw [← hnt]
  refine vss_cons (vs_asg (vd_name C (by walk_at "at") rfl ?_))
  rw [hnt]
  refine vg_tup C (vgs_cons (vg_name C (by walk_at "at") (vgs_cons (vg_name C (by walk_at "at") (vgs_cons (vg_name C (by walk_at "at") (vgs_cons (vg_name C (by walk_at "at") (vgs_cons (vg_name C (by walk_at "at") (vgs_nil ?_)))))))))))
  rw [← hnt]
  show VSs X _ (enW p (drw ns c) nt (.tuple ((abc n).map PyData.str)) (.tuple (lnsFrom 0 ls)) (.tuple (srsFrom 0 ss)) (.tuple (gr.map gdR)) (.tuple [fracT e, .int least, .int most, .int ticks]) .no .no .no .no .no .no .no .no .no .no .no .no .no) _
  -- a guard, a number
  refine vss_cons (vs_asg ?_ (hw := (show ∀ env : Env, env.scope = defScope sLWrong → swappedStores _ _ env = pure none by walk_at "sw") _ C.s))
  refine vd_tup (va_cons ?_)
  refine vd_ix (vd_name C (by walk_at "at") rfl (vd_callO C FX (by walk_at "at") (by walk_at "at") rfl (va_cons (vd_callB C (x := "len") does_len (by walk_at "at") (va_cons (vd_name C (by walk_at "at") rfl (va_nil ⟨_, .inr rfl, va_nil ?_⟩)))))))
  refine ⟨rfl, _, rfl, ns, c, ((gr.map gdR).length : Int), rfl, rfl, by omega, by rw [List.length_map]; omega, fun r r0 r1 => ?_⟩
  rw [List.length_map] at r1
  obtain ⟨i, rfl⟩ := Int.eq_ofNat_of_zero_le r0
  have hi : i < gr.length := by omega
  have gf := f.gf gr[i] (List.getElem_mem hi)
  refine ⟨gdR gr[i], atI_nat (by rw [List.getElem?_map, List.getElem?_eq_getElem hi]; rfl), ?_⟩
  generalize hgg : gr[i] = g at gf
  refine va_cons (vd_callO C FX (by walk_at "at") (by walk_at "at") rfl (va_cons (vd_int (va_nil ?_))))
  refine ⟨rfl, _, rfl, ns, c + 1, 24, rfl, rfl, by omega, by decide, fun m m0 m24 => ?_⟩
  refine va_nil ⟨by simp, ?_⟩
  refine vg_tup C (vgs_cons (vg_name C (by walk_at "at") (vgs_cons (vg_name C (by walk_at "at") (vgs_nil ?_)))))
  obtain ⟨nm, told, dl, ops⟩ := g
  have hne := gf.ne
  cases ops with
  | nil => exact absurd rfl hne
  | cons b0 ops =>
  have lops : (b0 :: ops).length ≤ 7 := gf.len
  have lops' : ops.length ≤ 6 := by simpa using lops
  have onm : okD (.str nm) = true := okD_str gf.nm
  have otl : okD told = true := gf.told
  have ob0 : okD (brD b0) = true := gf.ops b0 List.mem_cons_self
  have oop : okD (.tuple ((b0 :: ops).map brD)) = true := okD_tup (by rw [List.length_map]; omega) fun d hd => by
    obtain ⟨q, hq, rfl⟩ := List.mem_map.mp hd
    exact gf.ops q hq
  have shG : ∀ g' ∈ gr, SeqAt.shaped (gdR g') = true := fun g' hg => shp (f.gf g' hg).lay (by decide)
  have shg : SeqAt.shaped (gdR ⟨nm, told, dl, b0 :: ops⟩) = true := by
    rw [← hgg]
    exact shG _ (List.getElem_mem hi)
  show VSs X _ (enW p (drw ns (c + 1 + 1)) nt (.tuple ((abc n).map PyData.str)) (.tuple (lnsFrom 0 ls)) (.tuple (srsFrom 0 ss)) (.tuple (gr.map gdR)) (.tuple [fracT e, .int least, .int most, .int ticks]) (.dat (gdR ⟨nm, told, dl, b0 :: ops⟩)) (.dat (.int m)) .no .no .no .no .no .no .no .no .no .no .no) _
  refine vss_cons (vs_asg (vd_name C (by walk_at "at") rfl ?_))
  refine vg_tup C (ds := [.str nm, told, .int dl, .tuple ((b0 :: ops).map brD)]) (vgs_cons (vg_name C (by walk_at "at") (vgs_cons (vg_name C (by walk_at "at") (vgs_cons (vg_name C (by walk_at "at") (vgs_cons (vg_name C (by walk_at "at") (vgs_nil ?_)))))))))
  generalize hgd : gdR ⟨nm, told, dl, b0 :: ops⟩ = gd at shg
  obtain ⟨OP, hOP⟩ : ∃ OP, OP = PyData.tuple ((b0 :: ops).map brD) := ⟨_, rfl⟩
  rw [← hOP]
  show VSs X _ (enW p (drw ns (c + 1 + 1)) nt (.tuple ((abc n).map PyData.str)) (.tuple (lnsFrom 0 ls)) (.tuple (srsFrom 0 ss)) (.tuple (gr.map gdR)) (.tuple [fracT e, .int least, .int most, .int ticks]) (.dat gd) (.dat (.int m)) (.dat (.str nm)) (.dat told) (.dat (.int dl)) (.dat OP) .no .no .no .no .no .no .no) _
  -- the rest
  refine vss_cons (vs_set C (by walk_at "at") (vd_callT C (x := "tuple") does_tupleL (by walk_at "at") (va_cons (vn_vd (vn_lcIf C nkLWrong0 gLWrong0 (i := 20) (by walk_at "at") (vi_tup (vd_name C (by walk_at "at") rfl ⟨_, rfl, ?_⟩)))))))
  refine ⟨by rw [List.length_map]; omega, fun j acc ρ' => (∀ d ∈ acc, d ∈ gr.map gdR) ∧ acc.length ≤ j ∧ ρ' = (enW p (drw ns (c + 1 + 1)) nt (.tuple ((abc n).map PyData.str)) (.tuple (lnsFrom 0 ls)) (.tuple (srsFrom 0 ss)) (.tuple (gr.map gdR)) (.tuple [fracT e, .int least, .int most, .int ticks]) (.dat gd) (.dat (.int m)) (.dat (.str nm)) (.dat told) (.dat (.int dl)) (.dat OP) .no .no .no .no .no .no .no), ⟨(fun d hd => by cases hd), Nat.le_refl _, rfl⟩, fun j d acc ρ' hj ⟨ha, hla, hρ⟩ X' C' => ?_, fun acc ρ' ⟨ha, hla, hρ⟩ => ?_⟩
  · subst hρ
    have hd := List.mem_of_getElem? hj
    obtain ⟨g', hg', rfl⟩ := List.mem_map.mp hd
    refine vt_cmp C' (vd_name C' (by walk_at "at") rfl (vd_name C' (by walk_at "at") rfl ?_))
    refine ⟨shG g' hg', shg, fun q X'' C'' => ?_, fun q => ?_⟩
    · refine vd_name C'' (by walk_at "at") rfl ⟨fun d' hd' => ?_, by rw [List.length_append]; show acc.length + 1 ≤ _; omega, rfl⟩
      rcases List.mem_append.mp hd' with q | q
      · exact ha d' q
      · rw [List.mem_singleton.mp q]
        exact hd
    · exact ⟨ha, by omega, rfl⟩
  subst hρ
  rw [List.length_map] at hla
  have orest : ∀ d ∈ acc, okD d = true := fun d hd => oG d (ha d hd)
  refine va_nil ⟨_, rfl, ?_⟩
  show VSs X _ (enW p (drw ns (c + 1 + 1)) nt (.tuple ((abc n).map PyData.str)) (.tuple (lnsFrom 0 ls)) (.tuple (srsFrom 0 ss)) (.tuple (gr.map gdR)) (.tuple [fracT e, .int least, .int most, .int ticks]) (.dat gd) (.dat (.int m)) (.dat (.str nm)) (.dat told) (.dat (.int dl)) (.dat OP) (.dat (.tuple acc)) .no .no .no .no .no .no) _
  have key : ∀ late : D, okD late = true → (∀ l, guardN (nm0 n ls.length ss.length ++ nmG l) late = none) → W (.tuple [.tuple ((abc n).map PyData.str), .tuple (lnsFrom 0 ls), .tuple (srsFrom 0 ss), .tuple (acc ++ [late]), .tuple [fracT e, .int least, .int most, .int ticks]]) (drw ns (c + 2)) := fun late h1 h2 => by
    obtain ⟨q1, q2⟩ := f.bad3 orest (by omega) h1 h2 (r := .tuple [fracT e, .int least, .int most, .int ticks]) okRl
    exact w _ q1 q2
  obtain ⟨k1, k2, k3, k4, k5, k6, k7, k8⟩ := kw_len
  have ntl : nt = .tuple [.tuple ((abc n).map PyData.str), .tuple (lnsFrom 0 ls), .tuple (srsFrom 0 ss), .tuple (gr.map gdR), .tuple [fracT e, .int least, .int most, .int ticks]] := hnt
  -- a late guard
  refine vss_cons (vs_if (vt_cmp C (vd_name C (by walk_at "at") rfl (vd_int ?_))))
  refine ⟨fun q => ?_, fun q => vss_nil ?_⟩
  · have m5 : m < 5 := of_decide_eq_true q
    refine vss_cons (vs_set C (by walk_at "at") (vd_ix ?_))
    walk_at "kk"
    refine vd_catA (vd_name C (by walk_at "at") rfl (vd_takeA (vd_name C (by walk_at "at") rfl (vd_int ⟨(b0 :: ops).map brD, 1, hOP, rfl, (b0 :: ops).map brD, [brD b0], hOP, rfl, by rw [List.length_map]; show _ + 1 ≤ _; omega, ?_⟩))))
    walk_at "kk"
    refine vd_ix (vd_name C (by walk_at "at") rfl (vd_int ?_))
    rw [hOP]
    refine ⟨brD b0, atI_nat (j := 0) rfl, ?_⟩
    rw [← hOP]
    walk_at "kk"
    refine at5 (fun _ x => okD x = true ∧ ∀ l, guardN (nm0 n ls.length ss.length ++ nmG l) x = none) m0 m5 (fun _ late _ hR => ?_) ?_ ?_ ?_ ?_ ?_
    · refine vss_one (vs_ret (vd_call C FP (by walk_at "at") (va_cons (vd_name C (by walk_at "at") rfl (va_cons (vd_int (va_cons (vd_catA (vd_name C (by walk_at "at") rfl (vd_tup (va_cons (vd_name C (by walk_at "at") rfl (va_nil ⟨by simp, ?_⟩)))))))))))))
      refine ⟨acc, [late], rfl, rfl, by show _ + 1 ≤ _; omega, va_nil ⟨rfl, _, 3, _, by rw [ntl]; rfl, (by show 5 ≤ 1000; decide), by decide, ?_⟩⟩
      exact ⟨_, rfl, key late hR.1 hR.2⟩
    · exact ⟨okD_tup (by decide : (4 : Nat) ≤ 1000) (all4 onm otl okD_int (hOP ▸ oop)), fun l => guard_bad fun ns' => by
        rw [show wholeD 0 20 (.int (-1)) = false by decide +kernel, Bool.false_and, Bool.and_false]⟩
    · exact ⟨okD_tup (by decide : (4 : Nat) ≤ 1000) (all4 onm otl okD_int (hOP ▸ oop)), fun l => guard_bad fun ns' => by
        rw [show wholeD 0 20 (.int 21) = false by decide +kernel, Bool.false_and, Bool.and_false]⟩
    · exact ⟨okD_tup (by decide : (4 : Nat) ≤ 1000) (all4 onm otl okD_int (okD_tup (by decide : (0 : Nat) ≤ 1000) fun d hd => nomatch hd)), fun l => guard_bad fun ns' => by
        rw [show opensD ns' (.tuple []) = false from rfl, Bool.and_false, Bool.and_false]⟩
    · refine ⟨okD_tup (by decide : (4 : Nat) ≤ 1000) (all4 onm otl okD_int (okD_tup (by rw [List.length_append, List.length_map]; show _ + 1 ≤ _; omega) fun d hd => ?_)), fun l => guard_bad fun ns' => by
        rw [opens_bad gf.asc, Bool.and_false, Bool.and_false]⟩
      rcases List.mem_append.mp hd with z | z
      · obtain ⟨q, hq, rfl⟩ := List.mem_map.mp z
        exact gf.ops q hq
      · rw [List.mem_singleton.mp z]
        exact ob0
    · exact ⟨okD_tup (by decide : (4 : Nat) ≤ 1000) (all4 onm (okD_tup (by decide : (4 : Nat) ≤ 1000) (all4 (okD_str k1) ob0 (okD_frac (f := (0, 1))) okD_bool)) okD_int (hOP ▸ oop)), fun l => guard_bad fun ns' => by
        rw [over_bad, Bool.false_and]⟩
  have m5 : ¬ m < 5 := of_decide_eq_false q
  -- what it looks at
  refine vss_cons (vs_if (vt_cmp C (vd_name C (by walk_at "at") rfl (vd_int ?_))))
  refine ⟨fun q => ?_, fun q => vss_nil ?_⟩
  · have m10 : m < 10 := of_decide_eq_true q
    refine vss_cons (vs_set C (by walk_at "at") (vd_ix ?_))
    walk_at "kk"
    refine vd_ix (vd_name C (by walk_at "at") rfl (vd_int ?_))
    rw [hOP]
    refine ⟨brD b0, atI_nat (j := 0) rfl, ?_⟩
    rw [← hOP]
    walk_at "kk"
    refine vd_ix (vd_name C (by walk_at "at") rfl (vd_int ?_))
    rw [hOP]
    refine ⟨brD b0, atI_nat (j := 0) rfl, ?_⟩
    rw [← hOP]
    walk_at "kk"
    refine vd_bin (vd_name C (by walk_at "at") rfl (vd_int ?_))
    refine at5 (fun (j : Nat) x => okD x = true ∧ (j < 4 → ∀ l, toldD (nm0 n ls.length ss.length ++ nmG l) x = false)) (i := m - 5) (by omega) (by omega) (fun j looks hj hR => ?_) ?_ ?_ ?_ ?_ ?_
    · have fin : ∀ o : D, okD o = true → (m < 9 ∨ ∃ ds, o = .list ds) → W (.tuple [.tuple ((abc n).map PyData.str), .tuple (lnsFrom 0 ls), .tuple (srsFrom 0 ss), .tuple (acc ++ [.tuple [.str nm, looks, .int 1, o]]), .tuple [fracT e, .int least, .int most, .int ticks]]) (drw ns (c + 2)) := fun o ho hm => by
        refine key _ (okD_tup (by decide : (4 : Nat) ≤ 1000) (all4 onm hR.1 okD_int ho)) fun l => ?_
        rcases hm with hm | ⟨ds, rfl⟩
        · exact guard_told (hR.2 (by omega))
        · exact guard_bad fun ns' => by rw [show opensD ns' (.list ds) = false from rfl, Bool.and_false, Bool.and_false]
      show VSs X _ (enW p (drw ns (c + 1 + 1)) nt (.tuple ((abc n).map PyData.str)) (.tuple (lnsFrom 0 ls)) (.tuple (srsFrom 0 ss)) (.tuple (gr.map gdR)) (.tuple [fracT e, .int least, .int most, .int ticks]) (.dat gd) (.dat (.int m)) (.dat (.str nm)) (.dat told) (.dat (.int dl)) (.dat OP) (.dat (.tuple acc)) .no (.dat looks) .no .no .no .no) _
      have ret : ∀ o : D, okD o = true → (m < 9 ∨ ∃ ds, o = .list ds) → VSs X ((match (defBody sLWrong).getD 5 (.Pass ⟨0, 0, 0, 0⟩) with | .If _ t _ _ => t | _ => []).drop 2) (enW p (drw ns (c + 1 + 1)) nt (.tuple ((abc n).map PyData.str)) (.tuple (lnsFrom 0 ls)) (.tuple (srsFrom 0 ss)) (.tuple (gr.map gdR)) (.tuple [fracT e, .int least, .int most, .int ticks]) (.dat gd) (.dat (.int m)) (.dat (.str nm)) (.dat told) (.dat (.int dl)) (.dat OP) (.dat (.tuple acc)) (.dat (.tuple [.str nm, looks, .int 1, o])) (.dat looks) .no .no .no .no) { nx := fun ρ1 => VSs X ((defBody sLWrong).drop 6) ρ1 { nx := fun ρ' => ∃ cs', ρ'[0]? = some (.own p (.l cs')) ∧ W .none cs', rt := fun d ρ' => ∃ cs', ρ'[0]? = some (.own p (.l cs')) ∧ W d cs' }, rt := fun d ρ' => ∃ cs', ρ'[0]? = some (.own p (.l cs')) ∧ W d cs' } := fun o ho hm => by
        refine vss_one (vs_ret (vd_call C FP (by walk_at "at") (va_cons (vd_name C (by walk_at "at") rfl (va_cons (vd_int (va_cons (vd_catA (vd_name C (by walk_at "at") rfl (vd_tup (va_cons (vd_name C (by walk_at "at") rfl (va_nil ⟨by simp, ?_⟩)))))))))))))
        refine ⟨acc, [.tuple [.str nm, looks, .int 1, o]], rfl, rfl, by show _ + 1 ≤ _; omega, va_nil ⟨rfl, _, 3, _, by rw [ntl]; rfl, (by show 5 ≤ 1000; decide), by decide, ?_⟩⟩
        exact ⟨_, rfl, fin o ho hm⟩
      refine vss_cons (vs_set C (by walk_at "at") (vd_tup ?_))
      walk_at "kk"
      refine vd_if (vt_cmp C (vd_name C (by walk_at "at") rfl (vd_int ?_)))
      refine ⟨fun q9 => ?_, fun q9 => ?_⟩
      · refine vd_name C (by walk_at "at") rfl (va_nil ⟨by simp, ?_⟩)
        exact ret OP (hOP ▸ oop) (.inl (of_decide_eq_true q9))
      · refine vn_vd (vn_lst (va_cons (vd_ix (vd_name C (by walk_at "at") rfl (vd_int ?_)))))
        rw [hOP]
        refine ⟨brD b0, atI_nat (j := 0) rfl, ?_⟩
        rw [← hOP]
        refine va_nil ⟨by simp, va_nil ⟨by simp, ?_⟩⟩
        exact ret (.list [brD b0]) (okD_lst (by decide : (1 : Nat) ≤ 1000) fun d hd => by rw [List.mem_singleton.mp hd]; exact ob0) (.inr ⟨_, rfl⟩)
    · exact ⟨okD_tup (by decide : (2 : Nat) ≤ 1000) (all2 (okD_str k5) ob0), fun _ l => near_bad⟩
    · exact ⟨okD_tup (by decide : (3 : Nat) ≤ 1000) (all3 (okD_str k2) ob0 (okD_frac (f := (2, 4)))), fun _ l => reach_bad⟩
    · exact ⟨okD_tup (by decide : (2 : Nat) ≤ 1000) (all2 (okD_str k3) (okD_tup (by decide : (2 : Nat) ≤ 1000) (all2 (okD_str k6) okD_int))), fun _ l => zz_behind n4 (by omega) (by omega)⟩
    · exact ⟨okD_tup (by decide : (3 : Nat) ≤ 1000) (all3 (okD_str k4) (okD_str k6) (okD_frac (f := (1, 2)))), fun _ l => zz_diff n4 (by omega) (by omega)⟩
    · exact ⟨otl, fun h => absurd h (by decide)⟩
  have m10 : ¬ m < 10 := of_decide_eq_false q
  -- the rules
  refine vss_cons (vs_if (vt_cmp C (vd_name C (by walk_at "at") rfl (vd_int ?_))))
  refine ⟨fun q => ?_, fun q => vss_nil ?_⟩
  · have m15 : m < 15 := of_decide_eq_true q
    refine vss_cons (vs_asg (vd_name C (by walk_at "at") rfl ?_))
    refine vg_tup C (vgs_cons (vg_name C (by walk_at "at") (vgs_cons (vg_name C (by walk_at "at") (vgs_cons (vg_name C (by walk_at "at") (vgs_cons (vg_name C (by walk_at "at") (vgs_nil ?_)))))))))
    show VSs X _ (enW p (drw ns (c + 1 + 1)) nt (.tuple ((abc n).map PyData.str)) (.tuple (lnsFrom 0 ls)) (.tuple (srsFrom 0 ss)) (.tuple (gr.map gdR)) (.tuple [fracT e, .int least, .int most, .int ticks]) (.dat gd) (.dat (.int m)) (.dat (.str nm)) (.dat told) (.dat (.int dl)) (.dat OP) (.dat (.tuple acc)) .no .no (.dat (fracT e)) (.dat (.int least)) (.dat (.int most)) (.dat (.int ticks))) _
    refine vss_one (vs_ret (vd_call C FP (by walk_at "at") (va_cons (vd_name C (by walk_at "at") rfl (va_cons (vd_int (va_cons (vd_ix ?_))))))))
    walk_at "kk"
    refine vd_bin (vd_name C (by walk_at "at") rfl (vd_int ?_))
    walk_at "kk"
    refine vd_bin (vd_name C (by walk_at "at") rfl (vd_int ?_))
    refine at5 (fun _ x => okD x = true ∧ rulesD x = false) (i := m - 10) (by omega) (by omega) (fun j r hj hR => ?_) ?_ ?_ ?_ ?_ ?_
    · refine va_nil ⟨rfl, _, 4, _, by rw [ntl]; rfl, (by show 5 ≤ 1000; decide), by decide, ?_⟩
      obtain ⟨q1, q2⟩ := f.bad4 hR.1 hR.2
      exact ⟨_, rfl, w _ q1 q2⟩
    · refine ⟨okD_tup (by decide : (4 : Nat) ≤ 1000) (all4 okD_frac okD_int okD_int okD_int), ?_⟩
      show (errD (fracT e) && (wholeD 1 6 (.int least) && ((decide (least ≤ least - 1) && decide (least - 1 ≤ 6)) && wholeD 1 40 (.int ticks)))) = false
      rw [decide_eq_false (show ¬ least ≤ least - 1 by omega), Bool.false_and, Bool.false_and, Bool.and_false, Bool.and_false]
    · exact ⟨okD_tup (by decide : (4 : Nat) ≤ 1000) (all4 okD_frac okD_int okD_int okD_int), rules_least (by decide +kernel)⟩
    · refine ⟨okD_tup (by decide : (4 : Nat) ≤ 1000) (all4 okD_frac okD_int okD_int okD_int), ?_⟩
      show (errD (fracT e) && (wholeD 1 6 (.int least) && ((decide (least ≤ 7) && decide ((7 : Int) ≤ 6)) && wholeD 1 40 (.int ticks)))) = false
      rw [decide_eq_false (show ¬ (7 : Int) ≤ 6 by decide), Bool.and_false, Bool.false_and, Bool.and_false, Bool.and_false]
    · exact ⟨okD_tup (by decide : (4 : Nat) ≤ 1000) (all4 (okD_frac (f := (1, 1))) okD_int okD_int okD_int), rules_err err_11⟩
    · refine ⟨okD_tup (by decide : (4 : Nat) ≤ 1000) (all4 okD_frac okD_int okD_int okD_int), ?_⟩
      show (errD (fracT e) && (wholeD 1 6 (.int least) && (wholeD least 6 (.int most) && (decide ((1 : Int) ≤ 41) && decide ((41 : Int) ≤ 40))))) = false
      rw [decide_eq_false (show ¬ (41 : Int) ≤ 40 by decide), Bool.and_false, Bool.and_false, Bool.and_false, Bool.and_false]
  have m15 : ¬ m < 15 := of_decide_eq_false q
  have hb0 : ((abc n).map PyData.str)[0]? = some (.str "a") := by
    rcases (show n = 1 ∨ n = 2 ∨ n = 3 by omega) with rfl | rfl | rfl <;> rfl
  -- the sources
  refine vss_cons (vs_if (vt_cmp C (vd_name C (by walk_at "at") rfl (vd_int ?_))))
  refine ⟨fun q => ?_, fun q => vss_nil ?_⟩
  · have m19 : m < 19 := of_decide_eq_true q
    refine vss_one (vs_ret (vd_call C FP (by walk_at "at") (va_cons (vd_name C (by walk_at "at") rfl (va_cons (vd_int (va_cons (vd_ix ?_))))))))
    walk_at "kk"
    refine vd_catA (vd_name C (by walk_at "at") rfl (vd_name C (by walk_at "at") rfl ⟨_, _, rfl, rfl, by rw [srs_len]; omega, ?_⟩))
    walk_at "kk"
    refine vd_ix (vd_name C (by walk_at "at") rfl (vd_int ?_))
    refine ⟨.str "a", atI_nat (j := 0) hb0, ?_⟩
    walk_at "kk"
    refine vd_bin (vd_name C (by walk_at "at") rfl (vd_int ?_))
    refine at4 (fun x => ∃ xs, x = .tuple xs ∧ (∀ d ∈ xs, okD d = true) ∧ xs.length ≤ 16 ∧ (manyD 1 3 (.tuple xs) = false ∨ allN sourceN (nm0 n ls.length 0) xs = none)) (i := m - 15) (by omega) (by omega) (fun r hR => ?_) ?_ ?_ ?_ ?_
    · obtain ⟨xs, rfl, x1, x2, x3⟩ := hR
      refine va_nil ⟨rfl, _, 2, _, by rw [ntl]; rfl, (by show 5 ≤ 1000; decide), by decide, ?_⟩
      obtain ⟨q1, q2⟩ := f.bad2 x1 x2 x3
      exact ⟨_, rfl, w _ q1 q2⟩
    · exact ⟨[], rfl, (fun d hd => nomatch hd), by decide, .inl rfl⟩
    · refine ⟨_, rfl, fun d hd => (List.mem_append.mp hd).elim (oS d) (oS d), by rw [List.length_append, srs_len]; omega, ?_⟩
      match ss, s1, s2, f.sok with
      | [s], _, _, sok => exact .inr ((src_bad (m := ls.length) n4 (by omega)).2.2 s (in_allSr (sok s List.mem_cons_self)))
      | [s, s'], _, _, _ => exact .inl rfl
    · exact ⟨_, rfl, fun d hd => by
        rw [List.mem_singleton.mp hd]
        exact okD_tup (by decide : (3 : Nat) ≤ 1000) (all3 (okD_str k7) (okD_str k6) okD_int), by decide, .inr (src_bad (m := ls.length) n4 (by omega)).1⟩
    · exact ⟨_, rfl, fun d hd => by
        rw [List.mem_singleton.mp hd]
        exact okD_tup (by decide : (3 : Nat) ≤ 1000) (all3 (okD_str k7) (okD_str k8) okD_int), by decide, .inr (src_bad (m := ls.length) n4 (by omega)).2.1⟩
  have m19 : ¬ m < 19 := of_decide_eq_false q
  -- the buses
  refine vss_cons (vs_if (vt_cmp C (vd_name C (by walk_at "at") rfl (vd_int ?_))))
  refine ⟨fun q => ?_, fun q => vss_nil ?_⟩
  · have m22 : m < 22 := of_decide_eq_true q
    refine vss_one (vs_ret (vd_call C FP (by walk_at "at") (va_cons (vd_name C (by walk_at "at") rfl (va_cons (vd_int (va_cons (vd_ix ?_))))))))
    walk_at "kk"
    have hlB := abc_len n4
    refine vd_catA (vd_name C (by walk_at "at") rfl (vd_takeA (vd_name C (by walk_at "at") rfl (vd_int ⟨(abc n).map PyData.str, 1, rfl, rfl, (abc n).map PyData.str, [.str "a"], rfl, ?_, by rw [List.length_map]; show _ + 1 ≤ _; omega, ?_⟩))))
    · rcases (show n = 1 ∨ n = 2 ∨ n = 3 by omega) with rfl | rfl | rfl <;> rfl
    refine va_cons (vd_callT C (x := "tuple") does_tupleL (by walk_at "at") (va_cons (vn_vd (vn_lc C nkLWrong1 gLWrong1 (i := 21) (by walk_at "at") (vi_range C (by walk_at "at") (vd_int ⟨7, rfl, by decide, ?_⟩))))))
    refine ⟨by decide, fun j acc2 ρ' => (∀ d ∈ acc2, okD d = true) ∧ acc2.length = j ∧ ρ' = (enW p (drw ns (c + 1 + 1)) nt (.tuple ((abc n).map PyData.str)) (.tuple (lnsFrom 0 ls)) (.tuple (srsFrom 0 ss)) (.tuple (gr.map gdR)) (.tuple [fracT e, .int least, .int most, .int ticks]) (.dat gd) (.dat (.int m)) (.dat (.str nm)) (.dat told) (.dat (.int dl)) (.dat OP) (.dat (.tuple acc)) .no .no .no .no .no .no), ⟨fun d hd => (by cases hd), rfl, rfl⟩, fun j d acc2 ρ' hj ⟨hA, hL, hρ⟩ X' C' => ?_, fun acc2 ρ' ⟨hA, hL, hρ⟩ => ?_⟩
    · subst hρ
      obtain ⟨jlt, je⟩ := List.getElem?_eq_some_iff.mp hj
      rw [List.length_map, List.length_range] at jlt
      have ed : d = .int (j : Int) := by
        rw [← je, List.getElem_map, List.getElem_range]
      subst ed
      obtain ⟨dl1, dg⟩ := dig_len j (by omega)
      refine vd_addS (vd_str (vd_callT C' (x := "str") does_strI (by walk_at "at") (va_cons (vd_name C' (by walk_at "at") rfl (va_nil ⟨_, rfl, dg, _, _, rfl, rfl, ?_, ?_⟩)))))
      · show 1 + _ ≤ _
        omega
      · refine ⟨fun d' hd' => ?_, by rw [List.length_append, hL]; rfl, rfl⟩
        rcases List.mem_append.mp hd' with z | z
        · exact hA d' z
        · rw [List.mem_singleton.mp z]
          refine okD_str ?_
          rw [Str.length_append]
          show 1 + _ ≤ _
          omega
    · subst hρ
      replace hL : acc2.length = 7 := hL
      refine va_nil ⟨_, rfl, ?_⟩
      walk_at "kk"
      refine vd_bin (vd_name C (by walk_at "at") rfl (vd_int ?_))
      refine at3 (fun x => ∃ xs, x = .tuple xs ∧ (∀ d ∈ xs, okD d = true) ∧ xs.length ≤ 16 ∧ (manyD 1 6 (.tuple xs) = false ∨ allN busN [] xs = none)) (i := m - 19) (by omega) (by omega) (fun r hR => ?_) ?_ ?_ ?_
      · obtain ⟨xs, rfl, x1, x2, x3⟩ := hR
        refine va_nil ⟨rfl, _, 0, _, by rw [ntl]; rfl, (by show 5 ≤ 1000; decide), by decide, ?_⟩
        obtain ⟨q1, q2⟩ := f.bad0 x1 x2 x3
        exact ⟨_, rfl, w _ q1 q2⟩
      · exact ⟨[], rfl, (fun d hd => nomatch hd), by decide, .inl rfl⟩
      · refine ⟨_, rfl, fun d hd => ?_, by rw [List.length_append, List.length_map]; show _ + 1 ≤ _; omega, .inr (bus_twice n n4 (by omega))⟩
        rcases List.mem_append.mp hd with z | z
        · obtain ⟨y, hy, rfl⟩ := List.mem_map.mp z
          exact ok_abc hy
        · rw [List.mem_singleton.mp z]
          exact okD_str k8
      · refine ⟨acc2, rfl, hA, by omega, .inl ?_⟩
        show (decide ((1 : Int) ≤ (acc2.length : Int)) && decide ((acc2.length : Int) ≤ 6)) = false
        rw [decide_eq_false (show ¬ (acc2.length : Int) ≤ 6 by omega), Bool.and_false]
  have m22 : ¬ m < 22 := of_decide_eq_false q
  refine vss_one (vs_ret (vd_ix (vd_tup (va_cons (vd_catA (vd_name C (by walk_at "at") rfl ?_))))))
  rw [ntl]
  walk_at "kk"
  refine ⟨_, [.int 0], rfl, rfl, (by show 6 ≤ 100000; decide), ?_⟩
  refine va_cons (vn_vd (vn_listT C (by walk_at "at") (vd_name C (by walk_at "at") rfl ⟨_, rfl, ?_⟩)))
  walk_at "kk"
  refine vd_bin (vd_name C (by walk_at "at") rfl (vd_int ?_))
  have okR : okD (.tuple [fracT e, .int least, .int most, .int ticks]) = true := okRl
  refine at2 (fun x => okD x = true ∧ netD x = false) (i := m - 22) (by omega) (by omega) (fun r hR => ⟨_, rfl, w _ hR.1 hR.2⟩) ?_ ?_
  · refine ⟨okD_tup (by decide : (6 : Nat) ≤ 1000) fun d hd => ?_, rfl⟩
    rcases List.mem_append.mp hd with z | z
    · exact all5 (P := fun x => okD x = true) oB f.okL f.okS f.okG okR d z
    · rw [List.mem_singleton.mp z]
      exact okD_int
  · exact ⟨okD_lst (by decide : (5 : Nat) ≤ 1000) (all5 oB f.okL f.okS f.okG okR), rfl⟩


open PySem PySem.Spec PyProof.Rows L2 Vc
/-! ### law -/
theorem fnOk_mkT {M : Md} [cM : Cold M] {x : Str} {st : Stmt} {f : Addr} {fd : FuncData} {N ps : List Str} {NK : List (Str × Bool × Bool)} {G : List Str} {k n : Nat} {S : List D → (D → Prop) → Prop} (F : Fun M.K x x st f fd) (Sc : FnScope N ps (defScope st)) (hN : N = NK.map (·.1)) (hc : chk (defScope st) true NK G = true) (hn : ps.length = n) (hnN : n ≤ N.length)
    (body : ∀ X, Cst X M (defScope st) NK G k → Top X → ∀ ds W, ds.length = n → S ds W → VSs X (defBody st) (ds.map Sl.dat ++ List.replicate (N.length - n) Sl.no) { nx := fun _ => W .none, rt := fun d _ => W d }) : FnOk M.prog M.w M.K M.mg M.base CX0 (k + 1) f fd ps (DS M.K n S) := by
  refine F.ok Sc (fun vs H Q E h => ?_) (fun cdv A outer s H vs Q E hr h => ?_)
  · obtain ⟨B, ds, W, e, d, hl, _⟩ := h
    rw [DpAll.len d, hl, hn]
  · obtain ⟨B, ds, W, e, d, hl, hS, q⟩ := h
    have C : Cst (cxOf CX0 M.prog M.w M.K M.mg M.base N x (defScope st) f cdv A outer s H E).nox M (defScope st) NK G k := by
      rw [md_cold cM.no]
      exact cst_def hN Sc.nd hc hr
    exact ⟨_, pss_sem, body_data (S := S) (n := n) rfl rfl hnN e d hl (body _ C ⟨rfl, rfl⟩ ds W hl hS) q⟩
theorem busesG_two {ls : List Ln} {ss : List Sr} {bus : Str} (hne : hereL ls ss bus ≠ []) : ∀ {r : List Str} {n : Nat}, bus ∈ r → 2 ≤ (busesG ls ss n r).length
  | [], n, h => by cases h
  | a :: r, n, h => by
    show 2 ≤ (busG ls ss n a ++ busesG ls ss (n + 2) r).length
    rw [List.length_append]
    rcases List.mem_cons.mp h with rfl | h
    · have : (busG ls ss n bus).length = 2 := by
        unfold busG
        rw [if_neg hne]
        rfl
      omega
    · have := busesG_two hne (r := r) (n := n + 2) h
      omega
theorem gs_ne {bs : List Str} {ls : List Ln} {ss : List Sr} {most ticks : Int} {gs : List D} (hs : 1 ≤ ss.length) (sok : ∀ s ∈ ss, SrOk bs s) (h : GsOk bs ls ss most gs ticks) : gs ≠ [] := by
  cases h with
  | good late gs h hl hg =>
    have h2 : 2 ≤ (goodG bs ls ss late).length := by
      match ss, hs, sok with
      | s :: r, _, sok =>
        unfold goodG
        rw [List.length_append]
        have := busesG_two (ls := ls) (ss := s :: r) (n := 2 * ls.length) (hereL_ne (ls := ls) (ss := s :: r) List.mem_cons_self) (sok s List.mem_cons_self).hb
        omega
    intro e
    rcases hg with q | ⟨n, hn, q⟩
    · rw [← q, e] at h2
      cases h2
    · have : gs.length = 0 := by rw [e]; rfl
      rw [q, List.length_append, List.length_take, List.length_drop] at this
      omega
  | drawn ticks qs t3 t11 q1 q4 ok =>
    intro e
    have : (qgsFrom 0 qs).length = 0 := by rw [e]; rfl
    rw [qgs_len] at this
    omega
theorem moreL_nm {n : Nat} (h1 : 1 ≤ n) (h4 : n < 4) : ((abc n).map PyData.str)[0]? = some (.str "a") ∧ atI ((abc n).map PyData.str) (-1) = some (.str ((abc n).getLastD "")) := by
  rcases (show n = 1 ∨ n = 2 ∨ n = 3 by omega) with rfl | rfl | rfl <;> exact ⟨rfl, rfl⟩
theorem fLaw {M : Md} [Cold M] {f CN GN fI : Addr} {fd : FuncData} (ma : M.mg "any" = none) (mr : M.mg "range" = none) (T : NetTxt M.prog M.K M.mg CN GN fI) (FE : FnM M 6 "_law_net" 0 SDNet) (FC : FnX M 6 "check_net" 1 (SNet CN)) (FI : FnX M 7 "is_net" 1 SIsNet) (FH : FnX M.heat 7 "is_net" 1 SIsNet) (FW : FnM M 4 "_law_wrong" 1 SWrong) (FP : FnD M 1 "_law_put" 3 SPut)
    (F : Fun M.K "law" "law" sLaw f fd) : FnOk M.prog M.w M.K M.mg M.base CX0 9 f fd ["script"] (DS M.K 1 (LawS 63)) := by
  refine fnOk_mkT (k := 8) (NK := nkLaw) (G := gLaw) F scLaw rfl (by decide +kernel) rfl (by decide) fun X C tp ds W hl hS => ?_
  obtain ⟨ns, rfl, hns, w⟩ := hS
  show VSs X _ [.dat (.list (ns.map PyData.int)), .no, .no, .no, .no, .no, .no] _
  refine vss_cons (vs_new C (i := 1) (by walk_at "at") (by show 1 < 7; decide) (vn_lst (va_cons (vn_vd (vn_take (n := 63) ?_)))))
  walk_at "v"
  refine ⟨_, rfl, ?_⟩
  walk_at "vv"
  refine ⟨by show 3 ≤ 1000; decide, fun p => ?_⟩
  rw [← List.map_take]
  generalize ns.take 63 = ms
  generalize PyData.list (ns.map PyData.int) = scr
  show VSs X _ [.dat scr, .own p (.l (drw ms 0)), .no, .no, .no, .no, .no] _
  refine vss_cons (vs_set C (by walk_at "at") (vd_callO C FE (m := 1) (by walk_at "at") (by walk_at "at") rfl (va_nil ?_)))
  refine ⟨rfl, _, rfl, ms, 0, rfl, rfl, by decide, fun bs ls ss gs e least most ticks c0 hD hc0 => ?_⟩
  have hne : gs ≠ [] := gs_ne hD.s1 hD.sok hD.hgs
  obtain ⟨n, gr, f, rfl, rfl⟩ := nf_of hD
  have hgne : gr ≠ [] := fun e => hne (by rw [e]; rfl)
  have hnet : netD (netF n ls ss gr e least most ticks) = true := drawn_net hD
  have okn := f.ok
  obtain ⟨nt, hnt⟩ : ∃ nt, nt = netF n ls ss gr e least most ticks := ⟨_, rfl⟩
  show VSs X _ [.dat scr, .own p (.l (drw ms c0)), .dat (netF n ls ss gr e least most ticks), .no, .no, .no, .no] _
  rw [← hnt] at hnet okn
  rw [← hnt]
  -- the net is a net
  refine vss_cons (vs_callX C FC (by walk_at "at") (vx_cons (vd_name C (by walk_at "at") rfl (vx_nil ?_))))
  refine ⟨rfl, trivial, rfl, nt, rfl, okn, fun _ => ?_, fun h => absurd (h.symm.trans hnet) (by decide)⟩
  refine vss_cons (vs_if (vt_w (vw_or (vt_not (vt_val (vd_callX C FI (by walk_at "at") (vx_cons (vd_name C (by walk_at "at") rfl (vx_nil ?_)))))))))
  refine ⟨rfl, trivial, rfl, nt, rfl, okn, ?_⟩
  rw [hnet]
  refine ⟨true, rfl, fun h => absurd h (by decide), fun _ => ?_⟩
  refine vw_or1 (vt_cmp C (vd_ix (vd_name C (by walk_at "at") rfl (vd_int ?_))))
  rw [hnt]
  refine ⟨.tuple (gr.map gdR), atI_nat (j := 3) rfl, vd_tup (va_nil ⟨by simp, ?_⟩)⟩
  rw [← hnt]
  have shg : SeqAt.shaped (.tuple (gr.map gdR)) = true := shp (lay_tup (k := 4) fun d hd => by
    obtain ⟨g, hg, rfl⟩ := List.mem_map.mp hd
    exact (f.gf g hg).lay) (by decide)
  have ene : PyData.eqv (.tuple (gr.map gdR)) (.tuple []) = false := by
    cases h : gr with
    | nil => exact absurd h hgne
    | cons y r => simp [PyData.eqv, PyData.eqvAll]
  refine ⟨shg, by decide, ?_⟩
  rw [ene]
  refine ⟨fun h => absurd h (by decide), fun _ => vss_nil ?_⟩
  show VSs X _ [.dat scr, .own p (.l (drw ms c0)), .dat nt, .no, .no, .no, .no] _
  -- wrong nets
  refine vss_cons (vs_for C (vi_range C (by walk_at "at") (vd_int ⟨4, rfl, by decide, ?_⟩)))
  refine ⟨fun j ρ' => ∃ (c : Nat) (s3 s4 : Sl), c ≤ c0 + 2 * j ∧ ρ' = [.dat scr, .own p (.l (drw ms c)), .dat nt, s3, s4, .no, .no], ⟨c0, _, _, by omega, rfl⟩, fun j d ρ' hj ⟨c, s3, s4, hc, hρ⟩ => ?_, fun ρ' ⟨c, s3, s4, hc, hρ⟩ => ?_⟩
  · subst hρ
    have hj4 : j < 4 := by
      have := (List.getElem?_eq_some_iff.mp hj).1
      rwa [List.length_map, List.length_range] at this
    refine vg_name C (by walk_at "at") ?_
    show VSs X _ [.dat scr, .own p (.l (drw ms c)), .dat nt, .dat d, s4, .no, .no] _
    refine vss_cons (vs_set C (by walk_at "at") (vd_callO C FW (m := 1) (by walk_at "at") (by walk_at "at") rfl (va_cons (vd_name C (by walk_at "at") rfl (va_nil ?_)))))
    refine ⟨rfl, _, rfl, ms, c, n, ls, ss, gr, e, least, most, ticks, rfl, by rw [hnt], by omega, f, hgne, fun bad okb nb => ?_⟩
    show VSs X _ [.dat scr, .own p (.l (drw ms (c + 2))), .dat nt, .dat d, .dat bad, .no, .no] _
    refine vss_one (vs_tryHot (x := "BadNet") (c := .ref CN) C tp ⟨C.g (i := 5) (by walk_at "at"), by decide, .inl (C.mg T.gC)⟩ fun X' C' => ?_)
    refine vss_cons (vs_callX C' FC (by walk_at "at") (vx_cons (vd_name C' (by walk_at "at") rfl (vx_nil ?_))))
    refine ⟨rfl, trivial, rfl, bad, rfl, okb, fun h => absurd (h.symm.trans nb) (by decide), fun _ => ?_⟩
    refine ⟨true, T.te, fun _ X'' C'' => ?_, fun h => (by cases h)⟩
    refine vss_one (vs_if (vt_val (vd_callX C'' FH (by walk_at "at") (vx_cons (vd_name C'' (by walk_at "at") rfl (vx_nil ?_))))))
    refine ⟨rfl, trivial, rfl, bad, rfl, okb, ?_⟩
    rw [nb]
    exact ⟨false, rfl, fun h => absurd h (by decide), fun _ => vss_nil ⟨c + 2, _, _, by omega, rfl⟩⟩
  subst hρ
  obtain ⟨hb0, hbl⟩ := moreL_nm f.n1 f.n4
  have ix0 : ∀ {P : D → Prop}, P (.tuple ((abc n).map PyData.str)) → ixD nt (.int 0) P := fun {P} h => by
    rw [hnt]
    exact ⟨_, atI_nat (j := 0) rfl, h⟩
  -- lines more
  refine vss_cons (vs_set C (by walk_at "at") (vn_vd (vn_lst ?_)))
  iterate 5
    refine va_cons (vd_tup (va_cons (vd_str (va_cons (vd_ix (vd_ix (vd_name C (by walk_at "at") rfl (vd_int (ix0 ?_)))))))))
    refine vd_int ⟨_, atI_nat (j := 0) hb0, ?_⟩
    first
      | refine va_cons (vd_str (va_cons (vd_int (va_nil ⟨by simp, ?_⟩))))
      | (refine va_cons (vd_ix (vd_ix (vd_name C (by walk_at "at") rfl (vd_int (ix0 ?_)))))
         first
           | (refine vd_neg (vd_int ⟨_, rfl, ?_⟩)
              refine ⟨_, hbl, va_cons (vd_int (va_nil ⟨by simp, ?_⟩))⟩)
           | (refine vd_int ⟨_, atI_nat (j := 0) hb0, va_cons (vd_int (va_nil ⟨by simp, ?_⟩))⟩))
  refine va_nil ⟨by simp, ?_⟩
  show VSs X _ [.dat scr, .own p (.l (drw ms c)), .dat nt, s3, s4, .dat (.list (moreL n)), .no] _
  refine vss_one (vs_ret (vd_and (vd_not (vd_callB C (x := "any") (does_any C) (by walk_at "at") (va_cons (vn_vd (vn_lc C nkLaw0 gLaw0 (i := 6) (by walk_at "at") ?_)))))))
  refine vi_lst (vd_name C (by walk_at "at") rfl ⟨_, rfl, ?_⟩)
  refine ⟨by show 5 ≤ 100000; decide, fun j acc ρ' => acc = (List.replicate j false).map PyData.bool ∧ ρ' = [.dat scr, .own p (.l (drw ms c)), .dat nt, s3, s4, .dat (.list (moreL n)), .no], ⟨rfl, rfl⟩, fun j d acc ρ' hj ⟨ha, hρ⟩ X' C' => ?_, fun acc ρ' ⟨ha, hρ⟩ => ?_⟩
  · subst hρ
    obtain ⟨q1, q2⟩ := f.bad1 (List.mem_of_getElem? hj)
    refine vd_callX C' FI (by walk_at "at") (vx_cons (vd_call C' FP (by walk_at "at") (va_cons (vd_name C' (by walk_at "at") rfl (va_cons (vd_int (va_cons (vd_catA (vd_ix (vd_name C' (by walk_at "at") rfl (vd_int ?_)))))))))))
    rw [hnt]
    refine ⟨.tuple (lnsFrom 0 ls), atI_nat (j := 1) rfl, vd_tup (va_cons (vd_name C' (by walk_at "at") rfl (va_nil ⟨by simp, ?_⟩)))⟩
    have l2 := f.l2
    refine ⟨_, [d], rfl, rfl, by rw [lns_len]; show _ + 1 ≤ _; omega, va_nil ⟨rfl, _, 1, _, rfl, (by show 5 ≤ 1000; decide), by decide, vx_nil ?_⟩⟩
    refine ⟨rfl, trivial, rfl, _, rfl, q1, ?_⟩
    show _ = _ ∧ _
    refine ⟨?_, rfl⟩
    refine (congrArg (fun z => acc ++ [PyData.bool z]) q2).trans ?_
    rw [ha, List.replicate_succ', List.map_append]
    rfl
  subst hρ ha
  refine va_nil ⟨_, rfl, _, rfl, ?_⟩
  have hany : ((List.replicate (moreL n).length false).any id) = false := rfl
  rw [hany]
  refine ⟨true, rfl, fun _ => ?_, fun h => absurd h (by decide)⟩
  refine vd_and (vd_not (vd_callX C FI (by walk_at "at") (vx_cons (vd_none (vx_nil ⟨rfl, trivial, rfl, .none, rfl, by decide +kernel, ?_⟩)))))
  refine ⟨_, rfl, _, rfl, fun _ => ?_, fun h => absurd h (by decide)⟩
  refine vd_one (vd_not (vd_callX C FI (by walk_at "at") (vx_cons (vd_tup (va_nil ⟨by simp, vx_nil ⟨rfl, trivial, rfl, .tuple [], rfl, by decide +kernel, ?_⟩⟩)))))
  exact ⟨_, rfl, w⟩


open PySem PySem.Spec PyProof.Rows L2 Vc
/-- what a class's own chain finds -/
theorem along_of {K : PySem.W.Frag} {G N : Addr} {nm q : Str} {bs tl : List Value} {hd : Bool} {sn : List Str} {sub : List Value} {ab : Bool} {col : Option Bool} {dd : Option Addr} {k0 k1 k2 k3 k5 : Option Value} {mk : String} {x : Str} {v : Option Value}
    (h : K.lookup G = some (excClassObj nm q G N bs tl hd sn sub ab col dd k0 k1 k2 k3 k5 mk)) (e : PySem.W.findIn K (.ref G) x = some v) : PySem.W.alongIn K x (.ref G :: tl) = some v := by
  unfold PySem.W.findIn at e
  dsimp only at e
  rw [h] at e
  exact e
/-! ### what the top has written; the law's own head -/
theorem dps_strs {K : PySem.W.Frag} (B : Hp) : ∀ l : List Str, DpAll K B (l.map V.str) (l.map PyData.str)
  | [] => .nil
  | z :: l => .cons (.str z) (dps_strs B l)
theorem exm_of {K : PySem.W.Frag} {S T : Addr} {r : Bool} (h1 : PySem.W.subIn K (.ref T) (.type "BaseException") = some true) (h2 : PySem.W.isClsIn K T = true) (h3 : PySem.W.typeIn K (.ref T) = some (.type "type")) (h4 : PySem.W.subIn K (.ref S) (.ref T) = some r) : PySem.W.exmOne K (.ref S) (.ref T) = some r := by
  show (if (PySem.W.subIn K (.ref T) (.type "BaseException") == some true) = true then (if ((PySem.W.clsIn K T).isSome && PySem.W.typeIn K (.ref T) == some (.type "type")) = true then PySem.W.subIn K (.ref S) (.ref T) else none) else none) = some r
  have q : (PySem.W.clsIn K T).isSome = true := h2
  have e1 : (PySem.W.subIn K (.ref T) (.type "BaseException") == some true) = true := by rw [h1]; rfl
  have e2 : ((PySem.W.clsIn K T).isSome && PySem.W.typeIn K (.ref T) == some (.type "type")) = true := by rw [q, h3]; rfl
  rw [if_pos e1, if_pos e2]
  exact h4
theorem all_mk {l : PySem.W.OpenLaw} {w : World} {K : PySem.W.Frag} {h : Heap} {mg : Str → Option Value} {fa f0 f1 f2 f3 f4 f5 f6 f7 f8 f9 f10 f11 f12 f13 f14 f15 f16 f17 f18 f19 f20 f21 f22 f23 f24 f25 f26 f27 f28 f29 f30 : Addr} (X : K.In h) (G : h.Ns mainGlobals mg) (hfa : mg "law" = some (.ref fa))
    {od0 an0 od1 an1 od2 an2 od3 an3 od4 an4 od5 an5 od6 an6 od7 an7 od8 an8 od9 an9 od10 an10 od11 an11 od12 an12 od13 an13 od14 an14 od15 an15 od16 an16 od17 an17 od18 an18 od19 an19 od20 an20 od21 an21 od22 an22 od23 an23 od24 an24 od25 an25 od26 an26 od27 an27 od28 an28 od29 an29 od30 an30 : Option Addr} {sl0 sl1 sl2 sl3 sl4 sl5 sl6 sl7 sl8 sl9 sl10 sl11 sl12 sl13 sl14 sl15 sl16 sl17 sl18 sl19 sl20 sl21 sl22 sl23 sl24 sl25 sl26 sl27 sl28 sl29 sl30 : Array (Option Value)} {oc0 kV0 dc0 pm0 cd0 ct0 oc1 kV1 dc1 pm1 cd1 ct1 oc2 kV2 dc2 pm2 cd2 ct2 oc3 kV3 dc3 pm3 cd3 ct3 oc4 kV4 dc4 pm4 cd4 ct4 oc5 kV5 dc5 pm5 cd5 ct5 oc6 kV6 dc6 pm6 cd6 ct6 oc7 kV7 dc7 pm7 cd7 ct7 oc8 kV8 dc8 pm8 cd8 ct8 oc9 kV9 dc9 pm9 cd9 ct9 oc10 kV10 dc10 pm10 cd10 ct10 oc11 kV11 dc11 pm11 cd11 ct11 oc12 kV12 dc12 pm12 cd12 ct12 oc13 kV13 dc13 pm13 cd13 ct13 oc14 kV14 dc14 pm14 cd14 ct14 oc15 kV15 dc15 pm15 cd15 ct15 oc16 kV16 dc16 pm16 cd16 ct16 oc17 kV17 dc17 pm17 cd17 ct17 oc18 kV18 dc18 pm18 cd18 ct18 oc19 kV19 dc19 pm19 cd19 ct19 oc20 kV20 dc20 pm20 cd20 ct20 oc21 kV21 dc21 pm21 cd21 ct21 oc22 kV22 dc22 pm22 cd22 ct22 oc23 kV23 dc23 pm23 cd23 ct23 oc24 kV24 dc24 pm24 cd24 ct24 oc25 kV25 dc25 pm25 cd25 ct25 oc26 kV26 dc26 pm26 cd26 ct26 oc27 kV27 dc27 pm27 cd27 ct27 oc28 kV28 dc28 pm28 cd28 ct28 oc29 kV29 dc29 pm29 cd29 ct29 oc30 kV30 dc30 pm30 cd30 ct30 : Value}
    {CN : Addr} (aCN : PySem.W.nsIn K mainGlobals "BadNet" = some (some (.ref CN)))
    (a0 : PySem.W.nsIn K mainGlobals "is_int" = some (some (.ref f0)))
    (l0 : K.lookup f0 = some ⟨oc0, od0, .func (PySem.W.fnOf "is_int" "is_int" (defArgs sIsInt) (defBody sIsInt) (defScope sIsInt) .none kV0 dc0 pm0 an0 cd0 ct0), sl0⟩) (c0 : PySem.W.codeIn K cd0 "is_int" = true) (k0 : PySem.W.keepIn K (.ref f0) = true)
    (a1 : PySem.W.nsIn K mainGlobals "is_net" = some (some (.ref f1)))
    (l1 : K.lookup f1 = some ⟨oc1, od1, .func (PySem.W.fnOf "is_net" "is_net" (defArgs sIsNet) (defBody sIsNet) (defScope sIsNet) .none kV1 dc1 pm1 an1 cd1 ct1), sl1⟩) (c1 : PySem.W.codeIn K cd1 "is_net" = true) (k1 : PySem.W.keepIn K (.ref f1) = true)
    (a2 : PySem.W.nsIn K mainGlobals "check_net" = some (some (.ref f2)))
    (l2 : K.lookup f2 = some ⟨oc2, od2, .func (PySem.W.fnOf "check_net" "check_net" (defArgs sCheckNet) (defBody sCheckNet) (defScope sCheckNet) .none kV2 dc2 pm2 an2 cd2 ct2), sl2⟩) (c2 : PySem.W.codeIn K cd2 "check_net" = true) (k2 : PySem.W.keepIn K (.ref f2) = true)
    (a3 : PySem.W.nsIn K mainGlobals "check_many" = some (some (.ref f3)))
    (l3 : K.lookup f3 = some ⟨oc3, od3, .func (PySem.W.fnOf "check_many" "check_many" (defArgs sCheckMany) (defBody sCheckMany) (defScope sCheckMany) .none kV3 dc3 pm3 an3 cd3 ct3), sl3⟩) (c3 : PySem.W.codeIn K cd3 "check_many" = true) (k3 : PySem.W.keepIn K (.ref f3) = true)
    (a4 : PySem.W.nsIn K mainGlobals "is_tuple" = some (some (.ref f4)))
    (l4 : K.lookup f4 = some ⟨oc4, od4, .func (PySem.W.fnOf "is_tuple" "is_tuple" (defArgs sIsTuple) (defBody sIsTuple) (defScope sIsTuple) .none kV4 dc4 pm4 an4 cd4 ct4), sl4⟩) (c4 : PySem.W.codeIn K cd4 "is_tuple" = true) (k4 : PySem.W.keepIn K (.ref f4) = true)
    (a5 : PySem.W.nsIn K mainGlobals "is_whole_number" = some (some (.ref f5)))
    (l5 : K.lookup f5 = some ⟨oc5, od5, .func (PySem.W.fnOf "is_whole_number" "is_whole_number" (defArgs sIsWholeNumber) (defBody sIsWholeNumber) (defScope sIsWholeNumber) .none kV5 dc5 pm5 an5 cd5 ct5), sl5⟩) (c5 : PySem.W.codeIn K cd5 "is_whole_number" = true) (k5 : PySem.W.keepIn K (.ref f5) = true)
    (a6 : PySem.W.nsIn K mainGlobals "is_fraction" = some (some (.ref f6)))
    (l6 : K.lookup f6 = some ⟨oc6, od6, .func (PySem.W.fnOf "is_fraction" "is_fraction" (defArgs sIsFraction) (defBody sIsFraction) (defScope sIsFraction) .none kV6 dc6 pm6 an6 cd6 ct6), sl6⟩) (c6 : PySem.W.codeIn K cd6 "is_fraction" = true) (k6 : PySem.W.keepIn K (.ref f6) = true)
    (a7 : PySem.W.nsIn K mainGlobals "is_name" = some (some (.ref f7)))
    (l7 : K.lookup f7 = some ⟨oc7, od7, .func (PySem.W.fnOf "is_name" "is_name" (defArgs sIsName) (defBody sIsName) (defScope sIsName) .none kV7 dc7 pm7 an7 cd7 ct7), sl7⟩) (c7 : PySem.W.codeIn K cd7 "is_name" = true) (k7 : PySem.W.keepIn K (.ref f7) = true)
    (a8 : PySem.W.nsIn K mainGlobals "is_known" = some (some (.ref f8)))
    (l8 : K.lookup f8 = some ⟨oc8, od8, .func (PySem.W.fnOf "is_known" "is_known" (defArgs sIsKnown) (defBody sIsKnown) (defScope sIsKnown) .none kV8 dc8 pm8 an8 cd8 ct8), sl8⟩) (c8 : PySem.W.codeIn K cd8 "is_known" = true) (k8 : PySem.W.keepIn K (.ref f8) = true)
    (a9 : PySem.W.nsIn K mainGlobals "add_name" = some (some (.ref f9)))
    (l9 : K.lookup f9 = some ⟨oc9, od9, .func (PySem.W.fnOf "add_name" "add_name" (defArgs sAddName) (defBody sAddName) (defScope sAddName) .none kV9 dc9 pm9 an9 cd9 ct9), sl9⟩) (c9 : PySem.W.codeIn K cd9 "add_name" = true) (k9 : PySem.W.keepIn K (.ref f9) = true)
    (a10 : PySem.W.nsIn K mainGlobals "check_line" = some (some (.ref f10)))
    (l10 : K.lookup f10 = some ⟨oc10, od10, .func (PySem.W.fnOf "check_line" "check_line" (defArgs sCheckLine) (defBody sCheckLine) (defScope sCheckLine) .none kV10 dc10 pm10 an10 cd10 ct10), sl10⟩) (c10 : PySem.W.codeIn K cd10 "check_line" = true) (k10 : PySem.W.keepIn K (.ref f10) = true)
    (a11 : PySem.W.nsIn K mainGlobals "check_source" = some (some (.ref f11)))
    (l11 : K.lookup f11 = some ⟨oc11, od11, .func (PySem.W.fnOf "check_source" "check_source" (defArgs sCheckSource) (defBody sCheckSource) (defScope sCheckSource) .none kV11 dc11 pm11 an11 cd11 ct11), sl11⟩) (c11 : PySem.W.codeIn K cd11 "check_source" = true) (k11 : PySem.W.keepIn K (.ref f11) = true)
    (a12 : PySem.W.nsIn K mainGlobals "is_breaker" = some (some (.ref f12)))
    (l12 : K.lookup f12 = some ⟨oc12, od12, .func (PySem.W.fnOf "is_breaker" "is_breaker" (defArgs sIsBreaker) (defBody sIsBreaker) (defScope sIsBreaker) .none kV12 dc12 pm12 an12 cd12 ct12), sl12⟩) (c12 : PySem.W.codeIn K cd12 "is_breaker" = true) (k12 : PySem.W.keepIn K (.ref f12) = true)
    (a13 : PySem.W.nsIn K mainGlobals "is_ascending" = some (some (.ref f13)))
    (l13 : K.lookup f13 = some ⟨oc13, od13, .func (PySem.W.fnOf "is_ascending" "is_ascending" (defArgs sIsAscending) (defBody sIsAscending) (defScope sIsAscending) .none kV13 dc13 pm13 an13 cd13 ct13), sl13⟩) (c13 : PySem.W.codeIn K cd13 "is_ascending" = true) (k13 : PySem.W.keepIn K (.ref f13) = true)
    (a14 : PySem.W.nsIn K mainGlobals "check_guard" = some (some (.ref f14)))
    (l14 : K.lookup f14 = some ⟨oc14, od14, .func (PySem.W.fnOf "check_guard" "check_guard" (defArgs sCheckGuard) (defBody sCheckGuard) (defScope sCheckGuard) .none kV14 dc14 pm14 an14 cd14 ct14), sl14⟩) (c14 : PySem.W.codeIn K cd14 "check_guard" = true) (k14 : PySem.W.keepIn K (.ref f14) = true)
    (a15 : PySem.W.nsIn K mainGlobals "is_told" = some (some (.ref f15)))
    (l15 : K.lookup f15 = some ⟨oc15, od15, .func (PySem.W.fnOf "is_told" "is_told" (defArgs sIsTold) (defBody sIsTold) (defScope sIsTold) .none kV15 dc15 pm15 an15 cd15 ct15), sl15⟩) (c15 : PySem.W.codeIn K cd15 "is_told" = true) (k15 : PySem.W.keepIn K (.ref f15) = true)
    (a16 : PySem.W.nsIn K mainGlobals "is_bound" = some (some (.ref f16)))
    (l16 : K.lookup f16 = some ⟨oc16, od16, .func (PySem.W.fnOf "is_bound" "is_bound" (defArgs sIsBound) (defBody sIsBound) (defScope sIsBound) .none kV16 dc16 pm16 an16 cd16 ct16), sl16⟩) (c16 : PySem.W.codeIn K cd16 "is_bound" = true) (k16 : PySem.W.keepIn K (.ref f16) = true)
    (a17 : PySem.W.nsIn K mainGlobals "check_rules" = some (some (.ref f17)))
    (l17 : K.lookup f17 = some ⟨oc17, od17, .func (PySem.W.fnOf "check_rules" "check_rules" (defArgs sCheckRules) (defBody sCheckRules) (defScope sCheckRules) .none kV17 dc17 pm17 an17 cd17 ct17), sl17⟩) (c17 : PySem.W.codeIn K cd17 "check_rules" = true) (k17 : PySem.W.keepIn K (.ref f17) = true)
    (a18 : PySem.W.nsIn K mainGlobals "_law_cell_at" = some (some (.ref f18)))
    (l18 : K.lookup f18 = some ⟨oc18, od18, .func (PySem.W.fnOf "_law_cell_at" "_law_cell_at" (defArgs sLCellAt) (defBody sLCellAt) (defScope sLCellAt) .none kV18 dc18 pm18 an18 cd18 ct18), sl18⟩) (c18 : PySem.W.codeIn K cd18 "_law_cell_at" = true) (k18 : PySem.W.keepIn K (.ref f18) = true)
    (a19 : PySem.W.nsIn K mainGlobals "_law_draw" = some (some (.ref f19)))
    (l19 : K.lookup f19 = some ⟨oc19, od19, .func (PySem.W.fnOf "_law_draw" "_law_draw" (defArgs sLDraw) (defBody sLDraw) (defScope sLDraw) .none kV19 dc19 pm19 an19 cd19 ct19), sl19⟩) (c19 : PySem.W.codeIn K cd19 "_law_draw" = true) (k19 : PySem.W.keepIn K (.ref f19) = true)
    (a20 : PySem.W.nsIn K mainGlobals "_law_number" = some (some (.ref f20)))
    (l20 : K.lookup f20 = some ⟨oc20, od20, .func (PySem.W.fnOf "_law_number" "_law_number" (defArgs sLNumber) (defBody sLNumber) (defScope sLNumber) .none kV20 dc20 pm20 an20 cd20 ct20), sl20⟩) (c20 : PySem.W.codeIn K cd20 "_law_number" = true) (k20 : PySem.W.keepIn K (.ref f20) = true)
    (a21 : PySem.W.nsIn K mainGlobals "_law_next" = some (some (.ref f21)))
    (l21 : K.lookup f21 = some ⟨oc21, od21, .func (PySem.W.fnOf "_law_next" "_law_next" (defArgs sLNext) (defBody sLNext) (defScope sLNext) .none kV21 dc21 pm21 an21 cd21 ct21), sl21⟩) (c21 : PySem.W.codeIn K cd21 "_law_next" = true) (k21 : PySem.W.keepIn K (.ref f21) = true)
    (a22 : PySem.W.nsIn K mainGlobals "_law_pick" = some (some (.ref f22)))
    (l22 : K.lookup f22 = some ⟨oc22, od22, .func (PySem.W.fnOf "_law_pick" "_law_pick" (defArgs sLPick) (defBody sLPick) (defScope sLPick) .none kV22 dc22 pm22 an22 cd22 ct22), sl22⟩) (c22 : PySem.W.codeIn K cd22 "_law_pick" = true) (k22 : PySem.W.keepIn K (.ref f22) = true)
    (a23 : PySem.W.nsIn K mainGlobals "_law_lines" = some (some (.ref f23)))
    (l23 : K.lookup f23 = some ⟨oc23, od23, .func (PySem.W.fnOf "_law_lines" "_law_lines" (defArgs sLLines) (defBody sLLines) (defScope sLLines) .none kV23 dc23 pm23 an23 cd23 ct23), sl23⟩) (c23 : PySem.W.codeIn K cd23 "_law_lines" = true) (k23 : PySem.W.keepIn K (.ref f23) = true)
    (a24 : PySem.W.nsIn K mainGlobals "_law_here" = some (some (.ref f24)))
    (l24 : K.lookup f24 = some ⟨oc24, od24, .func (PySem.W.fnOf "_law_here" "_law_here" (defArgs sLHere) (defBody sLHere) (defScope sLHere) .none kV24 dc24 pm24 an24 cd24 ct24), sl24⟩) (c24 : PySem.W.codeIn K cd24 "_law_here" = true) (k24 : PySem.W.keepIn K (.ref f24) = true)
    (a25 : PySem.W.nsIn K mainGlobals "_law_looks" = some (some (.ref f25)))
    (l25 : K.lookup f25 = some ⟨oc25, od25, .func (PySem.W.fnOf "_law_looks" "_law_looks" (defArgs sLLooks) (defBody sLLooks) (defScope sLLooks) .none kV25 dc25 pm25 an25 cd25 ct25), sl25⟩) (c25 : PySem.W.codeIn K cd25 "_law_looks" = true) (k25 : PySem.W.keepIn K (.ref f25) = true)
    (a26 : PySem.W.nsIn K mainGlobals "_law_good" = some (some (.ref f26)))
    (l26 : K.lookup f26 = some ⟨oc26, od26, .func (PySem.W.fnOf "_law_good" "_law_good" (defArgs sLGood) (defBody sLGood) (defScope sLGood) .none kV26 dc26 pm26 an26 cd26 ct26), sl26⟩) (c26 : PySem.W.codeIn K cd26 "_law_good" = true) (k26 : PySem.W.keepIn K (.ref f26) = true)
    (a27 : PySem.W.nsIn K mainGlobals "_law_net" = some (some (.ref f27)))
    (l27 : K.lookup f27 = some ⟨oc27, od27, .func (PySem.W.fnOf "_law_net" "_law_net" (defArgs sLNet) (defBody sLNet) (defScope sLNet) .none kV27 dc27 pm27 an27 cd27 ct27), sl27⟩) (c27 : PySem.W.codeIn K cd27 "_law_net" = true) (k27 : PySem.W.keepIn K (.ref f27) = true)
    (a28 : PySem.W.nsIn K mainGlobals "_law_put" = some (some (.ref f28)))
    (l28 : K.lookup f28 = some ⟨oc28, od28, .func (PySem.W.fnOf "_law_put" "_law_put" (defArgs sLPut) (defBody sLPut) (defScope sLPut) .none kV28 dc28 pm28 an28 cd28 ct28), sl28⟩) (c28 : PySem.W.codeIn K cd28 "_law_put" = true) (k28 : PySem.W.keepIn K (.ref f28) = true)
    (a29 : PySem.W.nsIn K mainGlobals "_law_wrong" = some (some (.ref f29)))
    (l29 : K.lookup f29 = some ⟨oc29, od29, .func (PySem.W.fnOf "_law_wrong" "_law_wrong" (defArgs sLWrong) (defBody sLWrong) (defScope sLWrong) .none kV29 dc29 pm29 an29 cd29 ct29), sl29⟩) (c29 : PySem.W.codeIn K cd29 "_law_wrong" = true) (k29 : PySem.W.keepIn K (.ref f29) = true)
    (a30 : PySem.W.nsIn K mainGlobals "law" = some (some (.ref f30)))
    (l30 : K.lookup f30 = some ⟨oc30, od30, .func (PySem.W.fnOf "law" "law" (defArgs sLaw) (defBody sLaw) (defScope sLaw) .none kV30 dc30 pm30 an30 cd30 ct30), sl30⟩) (c30 : PySem.W.codeIn K cd30 "law" = true) (k30 : PySem.W.keepIn K (.ref f30) = true)
    (z_isinstance : PySem.W.nsIn K mainGlobals "isinstance" = some none)
    (z_int : PySem.W.nsIn K mainGlobals "int" = some none)
    (z_bool : PySem.W.nsIn K mainGlobals "bool" = some none)
    (z_tuple : PySem.W.nsIn K mainGlobals "tuple" = some none)
    (z_len : PySem.W.nsIn K mainGlobals "len" = some none)
    (z_str : PySem.W.nsIn K mainGlobals "str" = some none)
    (z_all : PySem.W.nsIn K mainGlobals "all" = some none)
    (z_zip : PySem.W.nsIn K mainGlobals "zip" = some none)
    (z_sorted : PySem.W.nsIn K mainGlobals "sorted" = some none)
    (z_enumerate : PySem.W.nsIn K mainGlobals "enumerate" = some none)
    (z_range : PySem.W.nsIn K mainGlobals "range" = some none)
    (z_list : PySem.W.nsIn K mainGlobals "list" = some none)
    (z_any : PySem.W.nsIn K mainGlobals "any" = some none)
    (z_super : PySem.W.nsIn K mainGlobals "super" = some none)
    (z_gcd : PySem.W.nsIn K mainGlobals "gcd" = some (some (.builtin "math.gcd")))
    {tk_MOST_SIGNS : Tok} (z_MOST_SIGNS : PySem.W.nsIn K mainGlobals "MOST_SIGNS" = some (some (.int 8 tk_MOST_SIGNS)))
    {tk_MOST_NUMBER : Tok} (z_MOST_NUMBER : PySem.W.nsIn K mainGlobals "MOST_NUMBER" = some (some (.int 1000 tk_MOST_NUMBER)))
    {tk_MOST_AGE : Tok} (z_MOST_AGE : PySem.W.nsIn K mainGlobals "MOST_AGE" = some (some (.int 6 tk_MOST_AGE)))
    {tk_MOST_TICKS : Tok} (z_MOST_TICKS : PySem.W.nsIn K mainGlobals "MOST_TICKS" = some (some (.int 40 tk_MOST_TICKS)))
    {tk_MOST_DELAY : Tok} (z_MOST_DELAY : PySem.W.nsIn K mainGlobals "MOST_DELAY" = some (some (.int 20 tk_MOST_DELAY)))
    {tk_MOST_BUSES : Tok} (z_MOST_BUSES : PySem.W.nsIn K mainGlobals "MOST_BUSES" = some (some (.int 6 tk_MOST_BUSES)))
    {tk_MOST_LINES : Tok} (z_MOST_LINES : PySem.W.nsIn K mainGlobals "MOST_LINES" = some (some (.int 8 tk_MOST_LINES)))
    {tk_MOST_SOURCES : Tok} (z_MOST_SOURCES : PySem.W.nsIn K mainGlobals "MOST_SOURCES" = some (some (.int 3 tk_MOST_SOURCES)))
    {tk_MOST_GUARDS : Tok} (z_MOST_GUARDS : PySem.W.nsIn K mainGlobals "MOST_GUARDS" = some (some (.int 16 tk_MOST_GUARDS)))
    {tk_LETTERS : Tok} (z_LETTERS : PySem.W.nsIn K mainGlobals "LETTERS" = some (some (.str lettersS tk_LETTERS)))
    {tk_SIGNS : Tok} (z_SIGNS : PySem.W.nsIn K mainGlobals "SIGNS" = some (some (.str signsS tk_SIGNS)))
    {a_WORDS : Addr} {ob_WORDS : Obj} {it_WORDS : Array Value} {nn_WORDS : Nat} (z_WORDS : PySem.W.nsIn K mainGlobals "WORDS" = some (some (.ref a_WORDS))) (y_WORDS : K.lookup a_WORDS = some ob_WORDS) (w_WORDS : ob_WORDS.cls = .type "tuple") (v_WORDS : ob_WORDS.data = .seq it_WORDS nn_WORDS) (u_WORDS : it_WORDS.size ≤ sizeLine) (t_WORDS : L2.Vals (wordsS.map V.str) it_WORDS.toList)
    (top : (l.prog.main.scope.names.lookup ("super" : Str)).isSome = false)
    (op : PySem.W.nsIn K cStatics "thirdparty.any" = some none)
    {GN fNI : Addr} {nmN qN : Str} {NN : Addr} {bsN : List Value} {snN : List Str} {subN : List Value} {abN : Bool} {colN : Option Bool} {ddN : Option Addr} {k0N k1N k2N k3N k5N : Option Value}
    (xN : K.lookup CN = some (excClassObj nmN qN CN NN bsN [.ref GN, .type "Exception", .type "BaseException", .type "object"] true snN subN abN colN ddN k0N k1N k2N k3N k5N "Exception.__new__"))
    (saN : PySem.W.findIn K (.ref CN) "__setattr__" = some (some (.builtin "object.__setattr__")))
    (iN : PySem.W.findIn K (.ref CN) "__init__" = some (some (.ref fNI)))
    (tiN : PySem.W.typeIn K (.ref fNI) = some (.type "function"))
    (t1N : PySem.W.takerIn K CN "name" = some none)
    (t2N : PySem.W.takerIn K CN "why" = some none)
    {nmGN qGN : Str} {NGN : Addr} {bsGN : List Value} {hdGN : Bool} {snGN : List Str} {subGN : List Value} {abGN : Bool} {colGN : Option Bool} {ddGN : Option Addr} {k0GN k1GN k2GN k3GN k5GN : Option Value}
    (xGN : K.lookup GN = some (excClassObj nmGN qGN GN NGN bsGN [.type "Exception", .type "BaseException", .type "object"] hdGN snGN subGN abGN colGN ddGN k0GN k1GN k2GN k3GN k5GN "Exception.__new__"))
    (iGN : PySem.W.findIn K (.ref GN) "__init__" = some (some (.builtin "Exception.__init__")))
    (mEN : PySem.W.mroIn K CN (.type "Exception") = some true)
    (mCN : PySem.W.mroIn K CN (.ref CN) = some true)
    (kCN : PySem.W.keepIn K (.ref CN) = true)
    (eCN : PySem.W.subIn K (.ref CN) (.type "BaseException") = some true)
    (tyN : PySem.W.typeIn K (.ref CN) = some (.type "type"))
    (isN : PySem.W.isClsIn K CN = true)
    (seN : PySem.W.subIn K (.ref CN) (.ref CN) = some true)
    {ocN kVN docN pmN ctN cclN clN : Value} {odN anN cddN cldN : Option Addr} {oslN ccsN cslN : Array (Option Value)} {cdaN ccN : Addr} {vsN : Array Value} {fileN : Str} {tfN : Tok}
    (lN : K.lookup fNI = some ⟨ocN, odN, .func (PySem.W.ksFn "__init__" "BadNet.__init__" (defArgs sInit) (defBody sInit) (defScope sInit) .none kVN docN pmN anN (.ref cdaN) ctN ccN), oslN⟩)
    (cN : PySem.W.codeIn K (.ref cdaN) "BadNet.__init__" = true)
    (lcN : K.lookup cdaN = some ⟨cclN, cddN, .fields vsN, ccsN⟩)
    (fiN : vsN[2]? = some (.str fileN tfN))
    (eqN : ((l.prog.main.file : Str) == fileN) = true)
    (llN : K.lookup ccN = some ⟨clN, cldN, .cell (some (.ref CN)), cslN⟩)
    : ∃ fd : FuncData, (∀ (s : Shared) (v : Value), BindsTo s fd ⟨[v], []⟩ [("script", v)]) ∧ ∀ base : Heap, K.In base → base.Ns mainGlobals mg → FnOk l.prog w K mg base CX0 9 fa fd ["script"] (DS K 1 (LawS 63)) := by
  have e := hfa.symm.trans (PySem.W.mg_of X G a30)
  cases e
  have m_CN := PySem.W.mg_of X G aCN
  have F_IsInt := fun_mk (st := sIsInt) l0 c0 k0
  have b_IsInt := F_IsInt.binds (ps := ["thing"]) fun _ _ _ _ _ _ us hl => match us, hl with | [_], _ => rfl
  have m_IsInt := PySem.W.mg_of X G a0
  have F_IsNet := fun_mk (st := sIsNet) l1 c1 k1
  have b_IsNet := F_IsNet.binds (ps := ["thing"]) fun _ _ _ _ _ _ us hl => match us, hl with | [_], _ => rfl
  have m_IsNet := PySem.W.mg_of X G a1
  have F_CheckNet := fun_mk (st := sCheckNet) l2 c2 k2
  have b_CheckNet := F_CheckNet.binds (ps := ["net"]) fun _ _ _ _ _ _ us hl => match us, hl with | [_], _ => rfl
  have m_CheckNet := PySem.W.mg_of X G a2
  have F_CheckMany := fun_mk (st := sCheckMany) l3 c3 k3
  have b_CheckMany := F_CheckMany.binds (ps := ["kind", "things", "least", "most"]) fun _ _ _ _ _ _ us hl => match us, hl with | [_, _, _, _], _ => rfl
  have m_CheckMany := PySem.W.mg_of X G a3
  have F_IsTuple := fun_mk (st := sIsTuple) l4 c4 k4
  have b_IsTuple := F_IsTuple.binds (ps := ["thing", "size"]) fun _ _ _ _ _ _ us hl => match us, hl with | [_, _], _ => rfl
  have m_IsTuple := PySem.W.mg_of X G a4
  have F_IsWholeNumber := fun_mk (st := sIsWholeNumber) l5 c5 k5
  have b_IsWholeNumber := F_IsWholeNumber.binds (ps := ["thing", "least", "most"]) fun _ _ _ _ _ _ us hl => match us, hl with | [_, _, _], _ => rfl
  have m_IsWholeNumber := PySem.W.mg_of X G a5
  have F_IsFraction := fun_mk (st := sIsFraction) l6 c6 k6
  have b_IsFraction := F_IsFraction.binds (ps := ["thing"]) fun _ _ _ _ _ _ us hl => match us, hl with | [_], _ => rfl
  have m_IsFraction := PySem.W.mg_of X G a6
  have F_IsName := fun_mk (st := sIsName) l7 c7 k7
  have b_IsName := F_IsName.binds (ps := ["thing"]) fun _ _ _ _ _ _ us hl => match us, hl with | [_], _ => rfl
  have m_IsName := PySem.W.mg_of X G a7
  have F_IsKnown := fun_mk (st := sIsKnown) l8 c8 k8
  have m_IsKnown := PySem.W.mg_of X G a8
  have F_AddName := fun_mk (st := sAddName) l9 c9 k9
  have b_AddName := F_AddName.binds (ps := ["names", "thing", "kind"]) fun _ _ _ _ _ _ us hl => match us, hl with | [_, _, _], _ => rfl
  have m_AddName := PySem.W.mg_of X G a9
  have F_CheckLine := fun_mk (st := sCheckLine) l10 c10 k10
  have b_CheckLine := F_CheckLine.binds (ps := ["names", "line"]) fun _ _ _ _ _ _ us hl => match us, hl with | [_, _], _ => rfl
  have m_CheckLine := PySem.W.mg_of X G a10
  have F_CheckSource := fun_mk (st := sCheckSource) l11 c11 k11
  have b_CheckSource := F_CheckSource.binds (ps := ["names", "source"]) fun _ _ _ _ _ _ us hl => match us, hl with | [_, _], _ => rfl
  have m_CheckSource := PySem.W.mg_of X G a11
  have F_IsBreaker := fun_mk (st := sIsBreaker) l12 c12 k12
  have b_IsBreaker := F_IsBreaker.binds (ps := ["names", "thing"]) fun _ _ _ _ _ _ us hl => match us, hl with | [_, _], _ => rfl
  have m_IsBreaker := PySem.W.mg_of X G a12
  have F_IsAscending := fun_mk (st := sIsAscending) l13 c13 k13
  have b_IsAscending := F_IsAscending.binds (ps := ["things"]) fun _ _ _ _ _ _ us hl => match us, hl with | [_], _ => rfl
  have m_IsAscending := PySem.W.mg_of X G a13
  have F_CheckGuard := fun_mk (st := sCheckGuard) l14 c14 k14
  have b_CheckGuard := F_CheckGuard.binds (ps := ["names", "guard"]) fun _ _ _ _ _ _ us hl => match us, hl with | [_, _], _ => rfl
  have m_CheckGuard := PySem.W.mg_of X G a14
  have F_IsTold := fun_mk (st := sIsTold) l15 c15 k15
  have b_IsTold := F_IsTold.binds (ps := ["names", "thing"]) fun _ _ _ _ _ _ us hl => match us, hl with | [_, _], _ => rfl
  have m_IsTold := PySem.W.mg_of X G a15
  have F_IsBound := fun_mk (st := sIsBound) l16 c16 k16
  have b_IsBound := F_IsBound.binds (ps := ["thing"]) fun _ _ _ _ _ _ us hl => match us, hl with | [_], _ => rfl
  have m_IsBound := PySem.W.mg_of X G a16
  have F_CheckRules := fun_mk (st := sCheckRules) l17 c17 k17
  have b_CheckRules := F_CheckRules.binds (ps := ["rules"]) fun _ _ _ _ _ _ us hl => match us, hl with | [_], _ => rfl
  have m_CheckRules := PySem.W.mg_of X G a17
  have F_LCellAt := fun_mk (st := sLCellAt) l18 c18 k18
  have b_LCellAt := F_LCellAt.binds (ps := ["script", "k"]) fun _ _ _ _ _ _ us hl => match us, hl with | [_, _], _ => rfl
  have m_LCellAt := PySem.W.mg_of X G a18
  have F_LDraw := fun_mk (st := sLDraw) l19 c19 k19
  have b_LDraw := F_LDraw.binds (ps := ["cell", "k", "bound"]) fun _ _ _ _ _ _ us hl => match us, hl with | [_, _, _], _ => rfl
  have m_LDraw := PySem.W.mg_of X G a19
  have F_LNumber := fun_mk (st := sLNumber) l20 c20 k20
  have b_LNumber := F_LNumber.binds (ps := ["cell", "k", "bound"]) fun _ _ _ _ _ _ us hl => match us, hl with | [_, _, _], _ => rfl
  have m_LNumber := PySem.W.mg_of X G a20
  have F_LNext := fun_mk (st := sLNext) l21 c21 k21
  have b_LNext := F_LNext.binds (ps := ["draw", "bound"]) fun _ _ _ _ _ _ us hl => match us, hl with | [_, _], _ => rfl
  have m_LNext := PySem.W.mg_of X G a21
  have F_LPick := fun_mk (st := sLPick) l22 c22 k22
  have b_LPick := F_LPick.binds (ps := ["draw", "things"]) fun _ _ _ _ _ _ us hl => match us, hl with | [_, _], _ => rfl
  have m_LPick := PySem.W.mg_of X G a22
  have F_LLines := fun_mk (st := sLLines) l23 c23 k23
  have b_LLines := F_LLines.binds (ps := ["draw", "buses"]) fun _ _ _ _ _ _ us hl => match us, hl with | [_, _], _ => rfl
  have m_LLines := PySem.W.mg_of X G a23
  have F_LHere := fun_mk (st := sLHere) l24 c24 k24
  have b_LHere := F_LHere.binds (ps := ["net", "bus"]) fun _ _ _ _ _ _ us hl => match us, hl with | [_, _], _ => rfl
  have m_LHere := PySem.W.mg_of X G a24
  have F_LLooks := fun_mk (st := sLLooks) l25 c25 k25
  have b_LLooks := F_LLooks.binds (ps := ["draw", "net", "breakers"]) fun _ _ _ _ _ _ us hl => match us, hl with | [_, _, _], _ => rfl
  have m_LLooks := PySem.W.mg_of X G a25
  have F_LGood := fun_mk (st := sLGood) l26 c26 k26
  have b_LGood := F_LGood.binds (ps := ["net", "late"]) fun _ _ _ _ _ _ us hl => match us, hl with | [_, _], _ => rfl
  have m_LGood := PySem.W.mg_of X G a26
  have F_LNet := fun_mk (st := sLNet) l27 c27 k27
  have b_LNet := F_LNet.binds (ps := ["draw"]) fun _ _ _ _ _ _ us hl => match us, hl with | [_], _ => rfl
  have m_LNet := PySem.W.mg_of X G a27
  have F_LPut := fun_mk (st := sLPut) l28 c28 k28
  have b_LPut := F_LPut.binds (ps := ["net", "at", "thing"]) fun _ _ _ _ _ _ us hl => match us, hl with | [_, _, _], _ => rfl
  have m_LPut := PySem.W.mg_of X G a28
  have F_LWrong := fun_mk (st := sLWrong) l29 c29 k29
  have b_LWrong := F_LWrong.binds (ps := ["draw", "net"]) fun _ _ _ _ _ _ us hl => match us, hl with | [_, _], _ => rfl
  have m_LWrong := PySem.W.mg_of X G a29
  have F_Law := fun_mk (st := sLaw) l30 c30 k30
  have b_Law := F_Law.binds (ps := ["script"]) fun _ _ _ _ _ _ us hl => match us, hl with | [_], _ => rfl
  have m_Law := PySem.W.mg_of X G a30
  have n_isinstance := PySem.W.mg_none_of X G z_isinstance
  have n_int := PySem.W.mg_none_of X G z_int
  have n_bool := PySem.W.mg_none_of X G z_bool
  have n_tuple := PySem.W.mg_none_of X G z_tuple
  have n_len := PySem.W.mg_none_of X G z_len
  have n_str := PySem.W.mg_none_of X G z_str
  have n_all := PySem.W.mg_none_of X G z_all
  have n_zip := PySem.W.mg_none_of X G z_zip
  have n_sorted := PySem.W.mg_none_of X G z_sorted
  have n_enumerate := PySem.W.mg_none_of X G z_enumerate
  have n_range := PySem.W.mg_none_of X G z_range
  have n_list := PySem.W.mg_none_of X G z_list
  have n_any := PySem.W.mg_none_of X G z_any
  have n_super := PySem.W.mg_none_of X G z_super
  have n_gcd := PySem.W.mg_of X G z_gcd
  have n_MOST_SIGNS := PySem.W.mg_of X G z_MOST_SIGNS
  have n_MOST_NUMBER := PySem.W.mg_of X G z_MOST_NUMBER
  have n_MOST_AGE := PySem.W.mg_of X G z_MOST_AGE
  have n_MOST_TICKS := PySem.W.mg_of X G z_MOST_TICKS
  have n_MOST_DELAY := PySem.W.mg_of X G z_MOST_DELAY
  have n_MOST_BUSES := PySem.W.mg_of X G z_MOST_BUSES
  have n_MOST_LINES := PySem.W.mg_of X G z_MOST_LINES
  have n_MOST_SOURCES := PySem.W.mg_of X G z_MOST_SOURCES
  have n_MOST_GUARDS := PySem.W.mg_of X G z_MOST_GUARDS
  have n_LETTERS := PySem.W.mg_of X G z_LETTERS
  have n_SIGNS := PySem.W.mg_of X G z_SIGNS
  have n_WORDS := PySem.W.mg_of X G z_WORDS
  have d_WORDS : ∀ B, Dp K B (.ref a_WORDS) (.tuple (wordsS.map PyData.str)) := fun B => .tup (.inr ⟨ob_WORDS, it_WORDS, nn_WORDS, y_WORDS, w_WORDS, v_WORDS, u_WORDS, t_WORDS⟩) (dps_strs B wordsS)
  refine ⟨PySem.W.fnOf "law" "law" (defArgs sLaw) (defBody sLaw) (defScope sLaw) .none kV30 dc30 pm30 an30 cd30 ct30, fun s v => .of_eq rfl, fun base _ _ => ?_⟩
  let M : Md := ⟨l.prog, w, K, mg, base, false⟩
  have cM : Cold M := ⟨rfl⟩
  have key : ∀ hot : Bool, NetTxt l.prog K mg CN GN fNI ∧ FnX (Md.mk l.prog w K mg base hot) 6 "check_net" 1 (SNet CN) ∧ FnX (Md.mk l.prog w K mg base hot) 7 "is_net" 1 SIsNet := fun hot => by
    let M : Md := ⟨l.prog, w, K, mg, base, hot⟩
    have TN : NetTxt M.prog M.K M.mg CN GN fNI :=
      { gC := m_CN, cls := ⟨_, _, _, _, _, _, _, _, _, _, _, _, _, _, xN⟩, sa := saN, iC := iN, tI := tiN, t1 := t1N, t2 := t2N, al := along_of xGN iGN, mE := mEN, mC := mCN, op := op, kC := kCN, exC := eCN, tyC := tyN,
        te := exm_of eCN isN tyN seN, sup := n_super, top := top, fn := ⟨_, _, _, _, _, _, _, _, _, _, _, _, _, _, _, _, _, _, _, lN, cN, lcN, fiN, eqN, llN⟩ }
    have tI : FnD M 1 "is_int" 1 SIsIntA := fIsIntA n_isinstance n_int n_bool F_IsInt m_IsInt b_IsInt
    have tT : FnD M 1 "is_tuple" 2 SIsTupA := fIsTupA n_isinstance n_tuple n_len F_IsTuple m_IsTuple b_IsTuple
    have tW : FnD M 2 "is_whole_number" 3 SWholeA := fWholeA tI F_IsWholeNumber m_IsWholeNumber b_IsWholeNumber
    have tF : FnD M 2 "is_fraction" 1 (SOk1 fracD) := fFracA n_gcd tI tT F_IsFraction m_IsFraction b_IsFraction
    have tN : FnD M 1 "is_name" 1 (SOk1 nameD) := fNameA n_isinstance n_str n_len n_all n_MOST_SIGNS n_LETTERS n_SIGNS n_WORDS d_WORDS F_IsName m_IsName b_IsName
    have tK : FnV M 1 "is_known" 2 SKnown := fKnown n_isinstance n_str F_IsKnown m_IsKnown
    have tA : FnX M 2 "add_name" 3 (SAddN CN) := fAddN TN tN F_AddName m_AddName b_AddName
    have tB : FnD M 3 "is_bound" 1 (SOk1 boundD) := fBoundA n_MOST_NUMBER tF F_IsBound m_IsBound b_IsBound
    have tR : FnX M 2 "is_breaker" 2 (SBreaker breakerD) := fBreaker tT tI tK F_IsBreaker m_IsBreaker b_IsBreaker
    have tC : FnD M 1 "is_ascending" 1 SAsc := fAsc n_all n_zip F_IsAscending m_IsAscending b_IsAscending
    have tO : FnX M 4 "is_told" 2 (SBreaker toldD) := fTold n_isinstance n_tuple n_str n_len n_bool tK tR tB F_IsTold m_IsTold b_IsTold
    have tL : FnX M 3 "check_line" 2 (SCheckN CN lineN) := fLineN TN n_MOST_NUMBER tT tA tK tW F_CheckLine m_CheckLine b_CheckLine
    have tS : FnX M 3 "check_source" 2 (SCheckN CN sourceN) := fSourceN TN n_MOST_NUMBER tT tA tK tW F_CheckSource m_CheckSource b_CheckSource
    have tU : FnX M 3 "check_rules" 1 (SRules CN) := fRules TN n_MOST_NUMBER n_MOST_AGE n_MOST_TICKS tT tF tW F_CheckRules m_CheckRules b_CheckRules
    have tM : FnX M 1 "check_many" 4 (SMany CN) := fMany TN n_isinstance n_tuple n_len F_CheckMany m_CheckMany b_CheckMany
    have tG : FnX M 5 "check_guard" 2 (SCheckN CN guardN) := fGuardN TN n_isinstance n_tuple n_all n_MOST_DELAY tT tA tO tW tR tC F_CheckGuard m_CheckGuard b_CheckGuard
    have tQ : FnX M 6 "check_net" 1 (SNet CN) := fCheckNet TN n_MOST_BUSES n_MOST_LINES n_MOST_SOURCES n_MOST_GUARDS tT tM tA tL tS tG tU F_CheckNet m_CheckNet b_CheckNet
    have tX : FnX M 7 "is_net" 1 SIsNet := fIsNet TN tQ F_IsNet m_IsNet b_IsNet
    exact ⟨TN, tQ, tX⟩
  obtain ⟨TN, tQ, tX⟩ := key false
  obtain ⟨_, _, tH⟩ := key true
  have lC : FnD M 1 "_law_cell_at" 2 SCell := fCell n_len F_LCellAt m_LCellAt b_LCellAt
  have lD : FnD M 1 "_law_draw" 3 SDraw := fDraw n_int F_LDraw m_LDraw b_LDraw
  have lN : FnD M 2 "_law_number" 3 SNumber := fNumber n_int n_range lD F_LNumber m_LNumber b_LNumber
  have lX : FnM M 3 "_law_next" 1 SNext := fNext n_int lC lN F_LNext m_LNext b_LNext
  have lP : FnM M 4 "_law_pick" 1 SPick := fPick n_len lX F_LPick m_LPick b_LPick
  have lL : FnM M 5 "_law_lines" 1 SLines := fLines n_len n_range n_str n_tuple lX lP F_LLines m_LLines b_LLines
  have lH : FnD M 1 "_law_here" 2 SHere := fHere n_tuple n_sorted F_LHere m_LHere b_LHere
  have lK : FnM M 5 "_law_looks" 2 SLooks := fLooks n_list lX lP F_LLooks m_LLooks b_LLooks
  have lG : FnD M 2 "_law_good" 2 SGood := fGood n_range n_str n_sorted n_list n_enumerate n_tuple lH F_LGood m_LGood b_LGood
  have lE : FnM M 6 "_law_net" 0 SDNet := fDNet n_len n_range n_str n_tuple n_sorted lX lP lL lK lG F_LNet m_LNet b_LNet
  have lQ : FnD M 1 "_law_put" 3 SPut := fPut F_LPut m_LPut b_LPut
  have lW : FnM M 4 "_law_wrong" 1 SWrong := fWrong n_len n_range n_str n_tuple n_list lX lQ F_LWrong m_LWrong b_LWrong
  exact fLaw (M := M) n_any n_range TN lE tQ tX tH lW lQ F_Law
end K5
open PySem PySem.W PyProof.Rows
set_option maxHeartbeats 0 in
theorem PySem.Challenge.cw_justthepart_k05_taken_nets_holds : PySem.Challenge.rw_justthepart_k05_taken_nets.Holds := by
  w_on; o_law; k_head; (case hw => w_witness2)
  k_fill
  refine L2.walk_of (l := PySem.Challenge.rw_justthepart_k05_taken_nets) (n := 63) (k := 9) (x := "script") (CX := fun _ => L2.CX0) (sp := fun w => Vc.DS _ 1 (Vc.LawS 63)) rfl (by decide) rfl ⟨rfl, by decide, by decide⟩ (fun w h Y => PySem.W.kIn_of Y) ?F (fun _ _ a ns hl _ hS => Vc.law_sp hl hS) (fun _ _ _ _ _ h => h)
  case F =>
    intro w mg fa h KX G hmg
    refine' K5.all_mk KX G hmg ?aCN ?a0 ?l0 ?c0 ?k0 ?a1 ?l1 ?c1 ?k1 ?a2 ?l2 ?c2 ?k2 ?a3 ?l3 ?c3 ?k3 ?a4 ?l4 ?c4 ?k4 ?a5 ?l5 ?c5 ?k5 ?a6 ?l6 ?c6 ?k6 ?a7 ?l7 ?c7 ?k7 ?a8 ?l8 ?c8 ?k8 ?a9 ?l9 ?c9 ?k9 ?a10 ?l10 ?c10 ?k10 ?a11 ?l11 ?c11 ?k11 ?a12 ?l12 ?c12 ?k12 ?a13 ?l13 ?c13 ?k13 ?a14 ?l14 ?c14 ?k14 ?a15 ?l15 ?c15 ?k15 ?a16 ?l16 ?c16 ?k16 ?a17 ?l17 ?c17 ?k17 ?a18 ?l18 ?c18 ?k18 ?a19 ?l19 ?c19 ?k19 ?a20 ?l20 ?c20 ?k20 ?a21 ?l21 ?c21 ?k21 ?a22 ?l22 ?c22 ?k22 ?a23 ?l23 ?c23 ?k23 ?a24 ?l24 ?c24 ?k24 ?a25 ?l25 ?c25 ?k25 ?a26 ?l26 ?c26 ?k26 ?a27 ?l27 ?c27 ?k27 ?a28 ?l28 ?c28 ?k28 ?a29 ?l29 ?c29 ?k29 ?a30 ?l30 ?c30 ?k30 ?z_isinstance ?z_int ?z_bool ?z_tuple ?z_len ?z_str ?z_all ?z_zip ?z_sorted ?z_enumerate ?z_range ?z_list ?z_any ?z_super ?z_gcd ?z_MOST_SIGNS ?z_MOST_NUMBER ?z_MOST_AGE ?z_MOST_TICKS ?z_MOST_DELAY ?z_MOST_BUSES ?z_MOST_LINES ?z_MOST_SOURCES ?z_MOST_GUARDS ?z_LETTERS ?z_SIGNS ?z_WORDS ?y_WORDS ?w_WORDS ?v_WORDS ?u_WORDS ?t_WORDS ?top ?op ?xN ?saN ?iN ?tiN ?t1N ?t2N ?xGN ?iGN ?mEN ?mCN ?kCN ?eCN ?tyN ?isN ?seN ?lN ?cN ?lcN ?fiN ?eqN ?llN
    (case aCN => k_is)
    (case a0 => k_is)
    (case l0 => k_is)
    (case c0 => k_is)
    (case k0 => k_is)
    (case a1 => k_is)
    (case l1 => k_is)
    (case c1 => k_is)
    (case k1 => k_is)
    (case a2 => k_is)
    (case l2 => k_is)
    (case c2 => k_is)
    (case k2 => k_is)
    (case a3 => k_is)
    (case l3 => k_is)
    (case c3 => k_is)
    (case k3 => k_is)
    (case a4 => k_is)
    (case l4 => k_is)
    (case c4 => k_is)
    (case k4 => k_is)
    (case a5 => k_is)
    (case l5 => k_is)
    (case c5 => k_is)
    (case k5 => k_is)
    (case a6 => k_is)
    (case l6 => k_is)
    (case c6 => k_is)
    (case k6 => k_is)
    (case a7 => k_is)
    (case l7 => k_is)
    (case c7 => k_is)
    (case k7 => k_is)
    (case a8 => k_is)
    (case l8 => k_is)
    (case c8 => k_is)
    (case k8 => k_is)
    (case a9 => k_is)
    (case l9 => k_is)
    (case c9 => k_is)
    (case k9 => k_is)
    (case a10 => k_is)
    (case l10 => k_is)
    (case c10 => k_is)
    (case k10 => k_is)
    (case a11 => k_is)
    (case l11 => k_is)
    (case c11 => k_is)
    (case k11 => k_is)
    (case a12 => k_is)
    (case l12 => k_is)
    (case c12 => k_is)
    (case k12 => k_is)
    (case a13 => k_is)
    (case l13 => k_is)
    (case c13 => k_is)
    (case k13 => k_is)
    (case a14 => k_is)
    (case l14 => k_is)
    (case c14 => k_is)
    (case k14 => k_is)
    (case a15 => k_is)
    (case l15 => k_is)
    (case c15 => k_is)
    (case k15 => k_is)
    (case a16 => k_is)
    (case l16 => k_is)
    (case c16 => k_is)
    (case k16 => k_is)
    (case a17 => k_is)
    (case l17 => k_is)
    (case c17 => k_is)
    (case k17 => k_is)
    (case a18 => k_is)
    (case l18 => k_is)
    (case c18 => k_is)
    (case k18 => k_is)
    (case a19 => k_is)
    (case l19 => k_is)
    (case c19 => k_is)
    (case k19 => k_is)
    (case a20 => k_is)
    (case l20 => k_is)
    (case c20 => k_is)
    (case k20 => k_is)
    (case a21 => k_is)
    (case l21 => k_is)
    (case c21 => k_is)
    (case k21 => k_is)
    (case a22 => k_is)
    (case l22 => k_is)
    (case c22 => k_is)
    (case k22 => k_is)
    (case a23 => k_is)
    (case l23 => k_is)
    (case c23 => k_is)
    (case k23 => k_is)
    (case a24 => k_is)
    (case l24 => k_is)
    (case c24 => k_is)
    (case k24 => k_is)
    (case a25 => k_is)
    (case l25 => k_is)
    (case c25 => k_is)
    (case k25 => k_is)
    (case a26 => k_is)
    (case l26 => k_is)
    (case c26 => k_is)
    (case k26 => k_is)
    (case a27 => k_is)
    (case l27 => k_is)
    (case c27 => k_is)
    (case k27 => k_is)
    (case a28 => k_is)
    (case l28 => k_is)
    (case c28 => k_is)
    (case k28 => k_is)
    (case a29 => k_is)
    (case l29 => k_is)
    (case c29 => k_is)
    (case k29 => k_is)
    (case a30 => k_is)
    (case l30 => k_is)
    (case c30 => k_is)
    (case k30 => k_is)
    (case z_isinstance => k_is)
    (case z_int => k_is)
    (case z_bool => k_is)
    (case z_tuple => k_is)
    (case z_len => k_is)
    (case z_str => k_is)
    (case z_all => k_is)
    (case z_zip => k_is)
    (case z_sorted => k_is)
    (case z_enumerate => k_is)
    (case z_range => k_is)
    (case z_list => k_is)
    (case z_any => k_is)
    (case z_super => k_is)
    (case z_gcd => k_is)
    (case z_MOST_SIGNS => k_is)
    (case z_MOST_NUMBER => k_is)
    (case z_MOST_AGE => k_is)
    (case z_MOST_TICKS => k_is)
    (case z_MOST_DELAY => k_is)
    (case z_MOST_BUSES => k_is)
    (case z_MOST_LINES => k_is)
    (case z_MOST_SOURCES => k_is)
    (case z_MOST_GUARDS => k_is)
    (case z_LETTERS => k_is)
    (case z_SIGNS => k_is)
    (case z_WORDS => k_is)
    (case y_WORDS => k_is)
    (case w_WORDS => rfl)
    (case v_WORDS => rfl)
    (case u_WORDS => decide)
    (case t_WORDS => repeat (first | exact .nil | refine .cons ⟨_, rfl⟩ ?_))
    (case top => (first | rfl | decide +kernel))
    (case op => k_is)
    (case xN => k_is)
    (case saN => k_is)
    (case iN => k_is)
    (case tiN => k_is)
    (case t1N => k_is)
    (case t2N => k_is)
    (case xGN => k_is)
    (case iGN => k_is)
    (case mEN => k_is)
    (case mCN => k_is)
    (case kCN => k_is)
    (case eCN => k_is)
    (case tyN => k_is)
    (case isN => k_is)
    (case seN => k_is)
    (case lN => k_is)
    (case cN => k_is)
    (case lcN => k_is)
    (case fiN => rfl)
    (case eqN => (first | rfl | decide +kernel))
    (case llN => k_is)
