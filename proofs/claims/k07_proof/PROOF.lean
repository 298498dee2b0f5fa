import PyProof.Rows.All
import Wide.All
import OpenK.AllK
import Wide.FinOn
import HandS.ForMost
import HandS.Evl
import HandS.Wide
import HandS.NoneIn
import HandS.IsInst
import HandS.Gcd
import HandS.Deep
import HandS.Flow
import HandS.Style
import KE.KTupSum
import KE.KDictKeyed
import KE.KDictCopyH
import HandS.ForExc
import KE.KMathGC
import HandS.SetKeys
import HandS.More
import HandS.Conv
import HandS.ExcOwn
import HandS.WordsExc
import HandS.TryOnly
import HandS.Dict
import HandS.Small
import HandS.Text
import HandS.Iter
import HandS.DictTup
import PyProof.WalksMore
import PyProof.CollectIter
import PyProof.MakeMany
import HandS.Star
import HandS.ExcSuper
import HandS.FStr
import KE.KExcInit
import KE.KExcSuper
import KE.KSuper
import HandS.Zip
import HandS.TupSets
import PyProof.Rows.SortKeyStr
import HandS.TupAny
import HandS.Codes
import HandS.DictComp
import HandS.CallLocal
import HandS.WrittenGet
import KE.DataAny
import HandS.Exc
import HandS.ExcField
import PyProof.StrOps2
import PySem.Challenge.RW_justthepart_k07_wrong_texts
set_option Elab.async false
set_option linter.all false
set_option maxRecDepth 100000
set_option maxHeartbeats 4000000
/-! Vc: a calculus of what is wanted behind a piece of a program, over data (own work). -/
namespace Vc
open PySem PySem.Spec PyProof.Rows L2
open Evl (Ex)

abbrev D := PyData
/-- what a room's own thing is: a list; a dict by whole numbers -/
inductive OD where
  | l (ds : List D)
  | di (es : List (Int × D))
  /-- a dict by tuples -/
  | dn (es : List (D × D))
  /-- a dict by texts -/
  | dt (es : List (Str × D))
  /-- an instance of the class at C, its attributes -/
  | ob (C : Addr) (fs : List (Str × D))
  /-- a list of things that stand at these addresses -/
  | lr (as : List Addr)
  /-- a dict of things that stand at these addresses -/
  | dr (es : List (Str × Addr))
instance : Coe (List D) OD := ⟨OD.l⟩
/-- what a slot holds: nothing known, data that nobody changes, a thing of its own -/
inductive Sl where
  | no
  | dat (d : D)
  | own (a : Addr) (o : OD)
abbrev En := List Sl
def Own (ρ : En) (a : Addr) : Prop := ∃ (i : Nat) (o : OD), ρ[i]? = some (Sl.own a o)

/-! ### data in a growing heap -/
theorem ex_l {K : PySem.W.Frag} {H H' : Hp} {a : Addr} {xs : List V} (e : Ex H H') (h : SqL K H a xs) : SqL K H' a xs := Evl.ex_l e h
theorem ex_t {K : PySem.W.Frag} {H H' : Hp} {a : Addr} {xs : List V} (e : Ex H H') (h : SqT K H a xs) : SqT K H' a xs := Evl.ex_t e h
mutual
theorem Dp.mono {K : PySem.W.Frag} {H H' : Hp} (e : Ex H H') : ∀ {v : V} {d : D}, Dp K H v d → Dp K H' v d
  | _, _, .non => .non
  | _, _, .bl b => .bl b
  | _, _, .int i => .int i
  | _, _, .str x => .str x
  | _, _, .lst h hs => .lst (ex_l e h) (DpAll.mono e hs)
  | _, _, .tup h hs => .tup (ex_t e h) (DpAll.mono e hs)
theorem DpAll.mono {K : PySem.W.Frag} {H H' : Hp} (e : Ex H H') : ∀ {vs : List V} {ds : List D}, DpAll K H vs ds → DpAll K H' vs ds
  | _, _, .nil => .nil
  | _, _, .cons h hs => .cons (Dp.mono e h) (DpAll.mono e hs)
end
theorem DpAll.len {K : PySem.W.Frag} {H : Hp} : ∀ {vs : List V} {ds : List D}, DpAll K H vs ds → vs.length = ds.length
  | _, _, .nil => rfl
  | _, _, .cons _ hs => congrArg (· + 1) (DpAll.len hs)
theorem DpAll.get {K : PySem.W.Frag} {H : Hp} : ∀ {vs : List V} {ds : List D} {i : Nat} {d : D}, DpAll K H vs ds → ds[i]? = some d → ∃ v, vs[i]? = some v ∧ Dp K H v d
  | _, _, _, _, .nil, h => by simp at h
  | _, _, 0, _, .cons (v := v) h _, e => ⟨v, rfl, by cases e; exact h⟩
  | _, _, i + 1, _, .cons _ hs, e => by
    obtain ⟨v, h1, h2⟩ := DpAll.get (i := i) hs (by simpa using e)
    exact ⟨v, by simpa using h1, h2⟩
theorem DpAll.getV {K : PySem.W.Frag} {H : Hp} : ∀ {vs : List V} {ds : List D} {i : Nat} {v : V}, DpAll K H vs ds → vs[i]? = some v → ∃ d, ds[i]? = some d ∧ Dp K H v d
  | _, _, _, _, .nil, h => by simp at h
  | _, _, 0, _, .cons (d := d) h _, e => ⟨d, rfl, by cases e; exact h⟩
  | _, _, i + 1, _, .cons _ hs, e => by
    obtain ⟨v, h1, h2⟩ := DpAll.getV (i := i) hs (by simpa using e)
    exact ⟨v, by simpa using h1, h2⟩
theorem DpAll.app {K : PySem.W.Frag} {H : Hp} : ∀ {vs ws : List V} {ds es : List D}, DpAll K H vs ds → DpAll K H ws es → DpAll K H (vs ++ ws) (ds ++ es)
  | _, _, _, _, .nil, h => h
  | _, _, _, _, .cons h hs, k => .cons h (DpAll.app hs k)
theorem DpAll.set {K : PySem.W.Frag} {H : Hp} {v : V} {d : D} (hd : Dp K H v d) : ∀ {vs : List V} {ds : List D} (i : Nat), DpAll K H vs ds → DpAll K H (vs.set i v) (ds.set i d)
  | _, _, _, .nil => .nil
  | _, _, 0, .cons _ hs => .cons hd hs
  | _, _, i + 1, .cons h hs => .cons h (DpAll.set hd i hs)
theorem DpAll.take {K : PySem.W.Frag} {H : Hp} : ∀ {vs : List V} {ds : List D} (n : Nat), DpAll K H vs ds → DpAll K H (vs.take n) (ds.take n)
  | _, _, 0, _ => .nil
  | _, _, _ + 1, .nil => .nil
  | _, _, n + 1, .cons h hs => .cons h (DpAll.take n hs)
theorem DpAll.drop {K : PySem.W.Frag} {H : Hp} : ∀ {vs : List V} {ds : List D} (n : Nat), DpAll K H vs ds → DpAll K H (vs.drop n) (ds.drop n)
  | _, _, 0, h => h
  | _, _, _ + 1, .nil => .nil
  | _, _, n + 1, .cons _ hs => DpAll.drop n hs
theorem dp_int {K : PySem.W.Frag} {H : Hp} {v : V} {i : Int} (h : Dp K H v (.int i)) : v = .int i := by cases h; rfl
theorem dp_bool {K : PySem.W.Frag} {H : Hp} {v : V} {b : Bool} (h : Dp K H v (.bool b)) : v = .bl b := by cases h; rfl
theorem dp_str {K : PySem.W.Frag} {H : Hp} {v : V} {x : Str} (h : Dp K H v (.str x)) : v = .str x := by cases h; rfl
theorem dp_tup {K : PySem.W.Frag} {H : Hp} {v : V} {ds : List D} (h : Dp K H v (.tuple ds)) : ∃ a xs, v = .ref a ∧ SqT K H a xs ∧ DpAll K H xs ds := by
  cases h with
  | tup h hs => exact ⟨_, _, rfl, h, hs⟩
theorem dp_lst {K : PySem.W.Frag} {H : Hp} {v : V} {ds : List D} (h : Dp K H v (.list ds)) : ∃ a xs, v = .ref a ∧ SqL K H a xs ∧ DpAll K H xs ds := by
  cases h with
  | lst h hs => exact ⟨_, _, rfl, h, hs⟩
theorem dp_ints {K : PySem.W.Frag} {H : Hp} : ∀ (ns : List Int), DpAll K H (ns.map V.int) (ns.map PyData.int)
  | [] => .nil
  | n :: r => .cons (.int n) (dp_ints r)

/-! ### what holds between the slots, the heap and what is known -/
/-- what stays through a whole law -/
structure Kw where
  K : PySem.W.Frag
  P : Program
  w : World
instance : CoeOut Kw PySem.W.Frag := ⟨Kw.K⟩
abbrev kwOf (X : Cx) : Kw := ⟨X.K, X.prog, X.w⟩
mutual
/-- data as a key -/
def nkD : D → NestedKey
  | .none => .none
  | .bool b => .num (if b = true then 1 else 0)
  | .int i => .num i
  | .str x => .text x
  | .tuple ds => .tup (nkDs ds)
  | .list _ => .none
  | .dict _ => .none
def nkDs : List D → List NestedKey
  | [] => []
  | d :: ds => nkD d :: nkDs ds
end
mutual
/-- data that may be a key -/
def kyD : D → Bool
  | .tuple ds => kyDs ds
  | .list _ => false
  | .dict _ => false
  | _ => true
def kyDs : List D → Bool
  | [] => true
  | d :: ds => kyD d && kyDs ds
end
/-- an entry: its key's data and value's data; the raw one -/
structure EntD (K : Kw) (B : Hp) (e : D × D) (x : NestedKey × Addr × Value) : Prop where
  key : x.1 = nkD e.1
  ky : kyD e.1 = true
  dp : (nkD e.1).depth ≤ 8
  adr : Dp K.K B (.ref x.2.1) e.1
  val : ∃ v, RelV v x.2.2 ∧ Dp K.K B v e.2
theorem EntD.mono {K : Kw} {B B' : Hp} (q : Ex B B') {e : D × D} {x : NestedKey × Addr × Value} (h : EntD K B e x) : EntD K B' e x := ⟨h.key, h.ky, h.dp, Dp.mono q h.adr, let ⟨v, h1, h2⟩ := h.val; ⟨v, h1, Dp.mono q h2⟩⟩
/-- the one object at a is a dict with these raw entries -/
def ndRaw (K : Kw) (a : Addr) (xs : List (NestedKey × Addr × Value)) (h : Heap) : Prop :=
  (a == sysModules) = false ∧ xs.length ≤ sizeLine ∧ ∃ o es ep, h.get? a = some o ∧ o.ExactDict ∧ o.data = .dict es ep ∧ es.toList = xs.map (entryOfKey (nestedKind K.P K.w)) ∧ (xs.map (·.1)).Nodup
def OD.is (K : Kw) (B : Hp) (a : Addr) (u : HO) : OD → Prop
  | .l ds => ∃ vs, u = .lst vs ∧ DpAll K.K B vs ds
  | .di es => ∃ vs, DpAll K.K B vs (es.map (·.2)) ∧ u = .dK (List.zipWith (fun e v => (Sum.inl e.1, v)) es vs)
  | .dn es => ∃ xs, u = .ext (ndRaw K a xs) ∧ Paired (EntD K B) es xs
  | .dt es => ∃ vs, DpAll K.K B vs (es.map (·.2)) ∧ u = .dK (List.zipWith (fun e v => (Sum.inr e.1, v)) es vs)
  | .ob C fs => ∃ dx vs, DpAll K.K B vs (fs.map (·.2)) ∧ u = .ins C dx (List.zipWith (fun e v => (e.1, v)) fs vs)
  | .lr as => u = .lst (as.map V.ref)
  | .dr es => u = .dK (es.map fun e => (Sum.inr e.1, V.ref e.2))
theorem OD.mono {K : Kw} {B B' : Hp} {a : Addr} {u : HO} (e : Ex B B') : ∀ {o : OD}, o.is K B a u → o.is K B' a u
  | .l _, ⟨vs, h1, h2⟩ => ⟨vs, h1, DpAll.mono e h2⟩
  | .di _, ⟨vs, h1, h2⟩ => ⟨vs, DpAll.mono e h1, h2⟩
  | .dn _, ⟨xs, h1, h2⟩ => ⟨xs, h1, Paired.mapP h2 fun _ _ q => q.mono e⟩
  | .dt _, ⟨vs, h1, h2⟩ => ⟨vs, DpAll.mono e h1, h2⟩
  | .ob _ _, ⟨dx, vs, h1, h2⟩ => ⟨dx, vs, DpAll.mono e h1, h2⟩
  | .lr _, h => h
  | .dr _, h => h
structure Rel (K : Kw) (B H : Hp) (σ : L2.St) (ρ : En) : Prop where
  ex : Ex B H
  len : ρ.length = σ.length
  dat : ∀ (i : Nat) d, ρ[i]? = some (Sl.dat d) → ∃ v, σ[i]? = some (some v) ∧ Dp K B v d
  own : ∀ (i : Nat) a o, ρ[i]? = some (Sl.own a o) → σ[i]? = some (some (V.ref a)) ∧ B a = none ∧ ∃ u, H a = some u ∧ OD.is K B a u o
  dis : ∀ (i j : Nat) a ds es, ρ[i]? = some (Sl.own a ds) → ρ[j]? = some (Sl.own a es) → i = j
/-- from (B, H, ρ) to (B', H', ρ') -/
structure Go (B H : Hp) (ρ : En) (B' H' : Hp) (ρ' : En) : Prop where
  ex : Ex B B'
  keep : ∀ a o, H a = some o → ¬ Own ρ a → H' a = some o
  out : ∀ a, H a ≠ none → B a = none → ¬ Own ρ a → B' a = none
  own : ∀ a, Own ρ' a → Own ρ a ∨ H a = none
  dom : ∀ a, H' a = none → H a = none
theorem Go.refl {B H : Hp} {ρ : En} : Go B H ρ B H ρ := ⟨Evl.Ex.refl B, fun _ _ h _ => h, fun _ _ h _ => h, fun _ h => .inl h, fun _ h => h⟩
theorem Go.trans {B H B1 H1 B2 H2 : Hp} {ρ ρ1 ρ2 : En} (p : Go B H ρ B1 H1 ρ1) (q : Go B1 H1 ρ1 B2 H2 ρ2) : Go B H ρ B2 H2 ρ2 where
  ex := p.ex.trans q.ex
  keep := fun a o h n => q.keep a o (p.keep a o h n) fun z => (p.own a z).elim n fun e => by rw [e] at h; cases h
  out := fun a h b n => by
    obtain ⟨o, ho⟩ := Option.ne_none_iff_exists'.mp h
    refine q.out a ?_ (p.out a h b n) fun z => (p.own a z).elim n fun e => h e
    rw [p.keep a o ho n]
    exact fun z => by cases z
  own := fun a z => by
    rcases q.own a z with z | z
    · exact p.own a z
    · exact .inr (p.dom a z)
  dom := fun a z => p.dom a (q.dom a z)
/-- what is known grows, the heap grows, nothing else -/
theorem Rel.grow {K : Kw} {B H B' H' : Hp} {σ : L2.St} {ρ : En} (r : Rel K B H σ ρ) (eB : Ex B B') (e : Ex B' H') (eH : Ex H H') (out : ∀ a, H a ≠ none → B a = none → B' a = none) : Rel K B' H' σ ρ where
  ex := e
  len := r.len
  dat := fun i d h => let ⟨v, h1, h2⟩ := r.dat i d h; ⟨v, h1, Dp.mono eB h2⟩
  own := fun i a ds h => by
    obtain ⟨h1, h2, vs, h3, h4⟩ := r.own i a ds h
    exact ⟨h1, out a (by rw [h3]; exact fun z => by cases z) h2, vs, eH a _ h3, OD.mono eB h4⟩
  dis := r.dis
theorem Go.grow {B H B' H' : Hp} {ρ : En} (eB : Ex B B') (eH : Ex H H') (out : ∀ a, H a ≠ none → B a = none → B' a = none) : Go B H ρ B' H' ρ := ⟨eB, fun a o h _ => eH a o h, fun a h b _ => out a h b, fun _ z => .inl z, fun a z => by
  cases e : H a with
  | none => rfl
  | some u =>
    rw [eH a u e] at z
    cases z⟩
/-- a new object comes into the heap and into what is known -/
theorem new_both {K : Kw} {B H : Hp} {σ : L2.St} {ρ : En} {p : Addr} {o : HO} (r : Rel K B H σ ρ) (hp : H p = none) : Rel K (upd B p o) (upd H p o) σ ρ ∧ Go B H ρ (upd B p o) (upd H p o) ρ := by
  have bp : B p = none := by
    cases e : B p with
    | none => rfl
    | some u =>
      rw [r.ex p u e] at hp
      cases hp
  have eB : Ex B (upd B p o) := Evl.Ex.new bp
  have eH : Ex H (upd H p o) := Evl.Ex.new hp
  have out : ∀ a, H a ≠ none → B a = none → upd B p o a = none := fun a h b => by
    rw [upd_ne (fun z => h (by rw [z]; exact hp))]
    exact b
  refine ⟨r.grow eB (fun a u h => ?_) eH out, Go.grow eB eH out⟩
  by_cases z : a = p
  · rw [z, upd_same] at h ⊢
    exact h
  · rw [upd_ne z] at h ⊢
    exact r.ex a u h
/-- a new object comes into the heap alone -/
theorem new_one {K : Kw} {B H : Hp} {σ : L2.St} {ρ : En} {p : Addr} {o : HO} (r : Rel K B H σ ρ) (hp : H p = none) : Rel K B (upd H p o) σ ρ ∧ Go B H ρ B (upd H p o) ρ ∧ B p = none := by
  have bp : B p = none := by
    cases e : B p with
    | none => rfl
    | some u =>
      rw [r.ex p u e] at hp
      cases hp
  have eH : Ex H (upd H p o) := Evl.Ex.new hp
  exact ⟨r.grow (Evl.Ex.refl B) (r.ex.trans eH) eH (fun a _ b => b), Go.grow (Evl.Ex.refl B) eH (fun a _ b => b), bp⟩

/-! ### readings by themselves -/
def eSem (X : Cx) (e : Expr) : TE := fun σ H Q => ∀ pins s, Inv X pins σ H s → wpAny (model X.prog X.w) X.A (eval e X.env) (EP X pins σ Q) X.xe s
def bSem (X : Cx) (e : Expr) : TT := fun σ H Q => ∀ pins s, Inv X pins σ H s → wpAny (model X.prog X.w) X.A (isTrue e X.env (eval e X.env)) (TP X pins σ Q) X.xe s
def wSem (X : Cx) (e : Expr) : TT := fun σ H Q => ∀ whole pins s, Inv X pins σ H s → wpAny (model X.prog X.w) X.A (isTrue e X.env whole) (TP X pins σ Q) X.xe s
def aSem (X : Cx) (es : List Expr) : TA := fun σ H Q => ∀ pos pins s, Inv X pins σ H s → wpAny (model X.prog X.w) X.A (spliced (backTo pos (starEach es X.env))) (AP X pins σ Q) X.xe s
def sSem (X : Cx) (st : Stmt) : TS := fun Z σ H => ∀ pins s, Inv X pins σ H s → wpAny (model X.prog X.w) X.A (exec st X.env) (SP X pins Z) X.xe s
def ssSem (X : Cx) (st : List Stmt) : TS := fun Z σ H => ∀ pins s, Inv X pins σ H s → wpAny (model X.prog X.w) X.A (execs st X.env) (SP X pins Z) X.xe s
def gSem (X : Cx) (tg : Expr) : TG := fun v σ H Q => ∀ pins s u, Inv X pins σ H s → RelV v u → wpAny (model X.prog X.w) X.A (assign tg X.env u) (fun _ s' => ∃ σ' H', Inv X pins σ' H' s' ∧ Q σ' H') X.xe s
def gsSem (X : Cx) (ts : List Expr) : TGs := fun vs σ H Q => ∀ pins s us, Inv X pins σ H s → Vals vs us → wpAny (model X.prog X.w) X.A (assignInOrder ((assignEach ts X.env).map (·.2)) us) (fun _ s' => ∃ σ' H', Inv X pins σ' H' s' ∧ Q σ' H') X.xe s
section
variable {X : Cx} {e : Expr} {es : List Expr} {st : Stmt} {sts : List Stmt}
theorem pe_sem : PE X e (eSem X e) := ⟨fun pins s σ H Q I h => h pins s I⟩
theorem pb_sem : PT X e (bSem X e) := ⟨fun pins s σ H Q I h => h pins s I⟩
theorem pw_sem : PW X e (wSem X e) := ⟨fun wh pins s σ H Q I h => h wh pins s I⟩
theorem pa_sem : PA X es (aSem X es) := ⟨fun pos pins s σ H Q I h => h pos pins s I⟩
theorem ps_sem : PS X st (sSem X st) := ⟨fun pins s σ H Q I h => h pins s I⟩
theorem pss_sem : PSs X sts (ssSem X sts) := ⟨fun pins s σ H Q I h => h pins s I⟩
theorem pg_sem : PG X e (gSem X e) := ⟨fun pins s σ H v u Q I r h => h pins s u I r⟩
theorem pgs_sem : PGs X es (gsSem X es) := ⟨fun pins s σ H v u Q I r h => h pins s u I r⟩
theorem PE.sem {t : TE} (h : PE X e t) {σ : L2.St} {H : Hp} {Q : VK} (q : t σ H Q) : eSem X e σ H Q := fun pins s I => h.run pins s σ H Q I q
theorem PT.sem {t : TT} (h : PT X e t) {σ : L2.St} {H : Hp} {Q : Bool → Hp → Prop} (q : t σ H Q) : bSem X e σ H Q := fun pins s I => h.run pins s σ H Q I q
theorem PW.sem {t : TT} (h : PW X e t) {σ : L2.St} {H : Hp} {Q : Bool → Hp → Prop} (q : t σ H Q) : wSem X e σ H Q := fun wh pins s I => h.run wh pins s σ H Q I q
theorem PA.sem {t : TA} (h : PA X es t) {σ : L2.St} {H : Hp} {Q : List V → Hp → Prop} (q : t σ H Q) : aSem X es σ H Q := fun pos pins s I => h.run pos pins s σ H Q I q
theorem PS.sem {t : TS} (h : PS X st t) {σ : L2.St} {H : Hp} {Z : Ends} (q : t Z σ H) : sSem X st Z σ H := fun pins s I => h.run pins s σ H Z I q
theorem PSs.sem {t : TS} (h : PSs X sts t) {σ : L2.St} {H : Hp} {Z : Ends} (q : t Z σ H) : ssSem X sts Z σ H := fun pins s I => h.run pins s σ H Z I q
theorem PG.sem {t : TG} (h : PG X e t) {σ : L2.St} {H : Hp} {v : V} {Q : L2.St → Hp → Prop} (q : t v σ H Q) : gSem X e v σ H Q := fun pins s u I r => h.run pins s σ H v u Q I r q
theorem PGs.sem {t : TGs} (h : PGs X es t) {σ : L2.St} {H : Hp} {vs : List V} {Q : L2.St → Hp → Prop} (q : t vs σ H Q) : gsSem X es vs σ H Q := fun pins s u I r => h.run pins s σ H vs u Q I r q
end

/-! ### the judgements -/
/-- an expression's value, as data; what is behind it -/
structure VD (X : Cx) (e : Expr) (ρ : En) (P : D → En → Prop) : Prop where
  run : ∀ B H σ (Q : VK), Rel (kwOf X) B H σ ρ →
  (∀ v d B' H' ρ', P d ρ' → Dp X.K B' v d → Go B H ρ B' H' ρ' → Rel (kwOf X) B' H' σ ρ' → Q v H') → eSem X e σ H Q
/-- a list that was just made -/
structure VN (X : Cx) (e : Expr) (ρ : En) (P : List D → En → Prop) : Prop where
  run : ∀ B H σ (Q : VK), Rel (kwOf X) B H σ ρ →
  (∀ p vs ds B' H' ρ', P ds ρ' → H p = none → H' p = some (.lst vs) → B' p = none → ¬ Own ρ' p → DpAll X.K B' vs ds → Go B H ρ B' H' ρ' → Rel (kwOf X) B' H' σ ρ' → Q (.ref p) H') → eSem X e σ H Q
structure VT (X : Cx) (e : Expr) (ρ : En) (P : Bool → En → Prop) : Prop where
  run : ∀ B H σ (Q : Bool → Hp → Prop), Rel (kwOf X) B H σ ρ →
  (∀ b B' H' ρ', P b ρ' → Go B H ρ B' H' ρ' → Rel (kwOf X) B' H' σ ρ' → Q b H') → bSem X e σ H Q
structure VW (X : Cx) (e : Expr) (ρ : En) (P : Bool → En → Prop) : Prop where
  run : ∀ B H σ (Q : Bool → Hp → Prop), Rel (kwOf X) B H σ ρ →
  (∀ b B' H' ρ', P b ρ' → Go B H ρ B' H' ρ' → Rel (kwOf X) B' H' σ ρ' → Q b H') → wSem X e σ H Q
structure VA (X : Cx) (es : List Expr) (ρ : En) (P : List D → En → Prop) : Prop where
  run : ∀ B H σ (Q : List V → Hp → Prop), Rel (kwOf X) B H σ ρ →
  (∀ vs ds B' H' ρ', P ds ρ' → DpAll X.K B' vs ds → Go B H ρ B' H' ρ' → Rel (kwOf X) B' H' σ ρ' → Q vs H') → aSem X es σ H Q
/-- an error: its class, what stands in it (where that is told) -/
structure Er where
  c : Value
  fs : Option (List (Str × D)) := none
/-- an error of one's own class, what stands in it is left open -/
def Er.ref (a : Addr) : Er := ⟨.ref a, none⟩
def ErOk (K : PySem.W.Frag) (B H : Hp) (dx : Option Addr) (e : Er) : Prop := ∀ fs, e.fs = some fs → ∃ d vs, dx = some d ∧ H d = some (.xd (List.zipWith (fun e v => (e.1, v)) fs vs)) ∧ DpAll K B vs (fs.map (·.2))
theorem erOk_none {K : PySem.W.Frag} {B H : Hp} {dx : Option Addr} {c : Value} : ErOk K B H dx ⟨c, none⟩ := fun _ h => nomatch h
/-- the ends of a block -/
structure Fin where
  nx : En → Prop
  rt : D → En → Prop
  bk : En → Prop := fun _ => False
  ct : En → Prop := fun _ => False
  /-- an error of a class is let out -/
  ex : Er → En → Prop := fun _ _ => False
/-- what is wanted behind a block, also of errors -/
structure EZ (X : Cx) where
  z : Ends
  e : WX
  tk : Takes X e
structure FinOk {X : Cx} (K : Kw) (B H : Hp) (ρ : En) (F : Fin) (Z : EZ X) : Prop where
  nx : ∀ B' H' σ' ρ', F.nx ρ' → Go B H ρ B' H' ρ' → Rel K B' H' σ' ρ' → Z.z.nx σ' H'
  rt : ∀ v d B' H' σ' ρ', F.rt d ρ' → Dp K B' v d → Go B H ρ B' H' ρ' → Rel K B' H' σ' ρ' → Z.z.rt v H'
  bk : ∀ B' H' σ' ρ', F.bk ρ' → Go B H ρ B' H' ρ' → Rel K B' H' σ' ρ' → Z.z.bk σ' H'
  ct : ∀ B' H' σ' ρ', F.ct ρ' → Go B H ρ B' H' ρ' → Rel K B' H' σ' ρ' → Z.z.ct σ' H'
  ex : ∀ (c : Er) dx B' H' σ' ρ', F.ex c ρ' → ErOk K.K B' H' dx c → Go B H ρ B' H' ρ' → Rel K B' H' σ' ρ' → Z.e c.c dx σ' H'
structure VS (X : Cx) (st : Stmt) (ρ : En) (F : Fin) : Prop where
  run : ∀ B H σ (Z : EZ X), Rel (kwOf X) B H σ ρ → FinOk (kwOf X) B H ρ F Z → sSem X st Z.z σ H
structure VSs (X : Cx) (sts : List Stmt) (ρ : En) (F : Fin) : Prop where
  run : ∀ B H σ (Z : EZ X), Rel (kwOf X) B H σ ρ → FinOk (kwOf X) B H ρ F Z → ssSem X sts Z.z σ H
/-- data into a target -/
structure VG (X : Cx) (tg : Expr) (d : D) (ρ : En) (P : En → Prop) : Prop where
  run : ∀ v B H σ (Q : L2.St → Hp → Prop), Rel (kwOf X) B H σ ρ → Dp X.K B v d →
  (∀ B' H' σ' ρ', P ρ' → Go B H ρ B' H' ρ' → Rel (kwOf X) B' H' σ' ρ' → Q σ' H') → gSem X tg v σ H Q
structure VGs (X : Cx) (tg : List Expr) (ds : List D) (ρ : En) (P : En → Prop) : Prop where
  run : ∀ vs B H σ (Q : L2.St → Hp → Prop), Rel (kwOf X) B H σ ρ → DpAll X.K B vs ds →
  (∀ B' H' σ' ρ', P ρ' → Go B H ρ B' H' ρ' → Rel (kwOf X) B' H' σ' ρ' → Q σ' H') → gsSem X tg vs σ H Q

theorem FinOk.go {X : Cx} {K : Kw} {B H B1 H1 : Hp} {ρ ρ1 : En} {F : Fin} {Z : EZ X} (f : FinOk K B H ρ F Z) (g : Go B H ρ B1 H1 ρ1) : FinOk K B1 H1 ρ1 F Z where
  nx := fun B' H' σ' ρ' p q r => f.nx B' H' σ' ρ' p (g.trans q) r
  rt := fun v d B' H' σ' ρ' p h q r => f.rt v d B' H' σ' ρ' p h (g.trans q) r
  bk := fun B' H' σ' ρ' p q r => f.bk B' H' σ' ρ' p (g.trans q) r
  ct := fun B' H' σ' ρ' p q r => f.ct B' H' σ' ρ' p (g.trans q) r
  ex := fun c dx B' H' σ' ρ' p k q r => f.ex c dx B' H' σ' ρ' p k (g.trans q) r

/-! ### the context -/
inductive At {α : Type} : List α → Nat → α → Prop where
  | here {x : α} {l : List α} : At (x :: l) 0 x
  | there {x y : α} {l : List α} {i : Nat} : At l i x → At (y :: l) (i + 1) x
theorem At.get {α : Type} {l : List α} {i : Nat} {x : α} (h : At l i x) : l[i]? = some x := by
  induction h with
  | here => rfl
  | there _ ih => simpa using ih
theorem At.mem {α : Type} {l : List α} {i : Nat} {x : α} (h : At l i x) : x ∈ l := by
  induction h with
  | here => exact List.mem_cons_self
  | there _ ih => exact List.mem_cons_of_mem _ ih
/-- the program -/
structure Md where
  prog : Program
  w : World
  K : PySem.W.Frag
  mg : Str → Option Value
  base : Heap
abbrev kwM (M : Md) : Kw := ⟨M.K, M.prog, M.w⟩
def mdOf (X : Cx) : Md := ⟨X.prog, X.w, X.K, X.mg, X.base⟩
/-- a def's scope, its names by slot (seen in its body or not, stored there or not), its global names -/
structure Cst (X : Cx) (M : Md) (sc : Scope) (NK : List (Str × Bool × Bool)) (G : List Str) (k : Nat) : Prop where
  m : mdOf X = M
  s : X.env.scope = sc
  n : X.N = NK.map (·.1)
  vis : ∀ (i : Nat) x l, NK[i]? = some (x, true, l) → Vis X.env.scope x
  loc : ∀ (i : Nat) x v, NK[i]? = some (x, v, true) → L2.Loc X.env.scope x ∧ (X.fn x = true ∨ X.env.scope.names.lookup x = some .local)
  gl : ∀ x ∈ G, Gl X x
  nd : X.N.Nodup
  calm : X.calm = true
  room : Room k X.A
  po : PassesOwn (model X.prog X.w) X.A X.env X.xe
def kindOk (sc : Scope) (d : Bool) (q : Str × Bool × Bool) : Bool :=
  (!q.2.1 || (match sc.names.lookup q.1 with | some .local => true | some .cell => true | some .free => true | _ => false)) &&
  (!q.2.2 || (match sc.names.lookup q.1 with | some .local => true | some .cell => d | _ => false))
def chk (sc : Scope) (d : Bool) (NK : List (Str × Bool × Bool)) (G : List Str) : Bool :=
  NK.all (kindOk sc d) && G.all (fun x => match sc.names.lookup x with | some .globalImplicit => true | _ => false)
section
variable {X : Cx} {M : Md} {sc : Scope} {NK : List (Str × Bool × Bool)} {G : List Str} {k : Nat}
theorem chk_vis {sc : Scope} {d : Bool} (h : chk sc d NK G = true) (i : Nat) (x : Str) (l : Bool) (e : NK[i]? = some (x, true, l)) : Vis sc x := by
  unfold chk at h
  rw [Bool.and_eq_true, List.all_eq_true] at h
  have q := h.1 _ (List.mem_of_getElem? e)
  unfold kindOk at q
  rw [Bool.and_eq_true] at q
  have q1 := q.1
  simp only [Bool.not_true, Bool.false_or] at q1
  unfold Vis
  split at q1 <;> first
    | (rename_i e; exact .inl e)
    | (rename_i e; exact .inr (.inl e))
    | (rename_i e; exact .inr (.inr e))
    | cases q1
theorem chk_loc {sc : Scope} {d : Bool} (h : chk sc d NK G = true) (i : Nat) (x : Str) (v : Bool) (e : NK[i]? = some (x, v, true)) : L2.Loc sc x ∧ (d = true ∨ sc.names.lookup x = some .local) := by
  unfold chk at h
  rw [Bool.and_eq_true, List.all_eq_true] at h
  have q := h.1 _ (List.mem_of_getElem? e)
  unfold kindOk at q
  rw [Bool.and_eq_true] at q
  have q1 := q.2
  simp only [Bool.not_true, Bool.false_or] at q1
  unfold L2.Loc
  split at q1 <;> first
    | (rename_i e; exact ⟨.inl e, .inr e⟩)
    | (rename_i e; exact ⟨.inr e, .inl q1⟩)
    | cases q1
theorem chk_gl {sc : Scope} {d : Bool} (h : chk sc d NK G = true) (x : Str) (e : x ∈ G) : sc.names.lookup x = some .globalImplicit := by
  unfold chk at h
  rw [Bool.and_eq_true, List.all_eq_true, List.all_eq_true] at h
  have q := h.2 _ e
  split at q
  · assumption
  · cases q
theorem Cst.ix (C : Cst X M sc NK G k) {i : Nat} {x : Str} {v l : Bool} (h : At NK i (x, v, l)) : X.N[i]? = some x := by
  rw [C.n, List.getElem?_map, h.get]
  rfl
theorem Cst.vi (C : Cst X M sc NK G k) {i : Nat} {x : Str} {l : Bool} (h : At NK i (x, true, l)) : Vis X.env.scope x := C.vis i x l h.get
theorem Cst.lo (C : Cst X M sc NK G k) {i : Nat} {x : Str} {v : Bool} (h : At NK i (x, v, true)) : L2.Loc X.env.scope x := (C.loc i x v h.get).1
theorem Cst.fn (C : Cst X M sc NK G k) {i : Nat} {x : Str} {v : Bool} (h : At NK i (x, v, true)) : X.fn x = true ∨ X.env.scope.names.lookup x = some .local := (C.loc i x v h.get).2
theorem Cst.g (C : Cst X M sc NK G k) {i : Nat} {x : Str} (h : At G i x) : Gl X x := C.gl x h.mem
theorem Cst.hu (C : Cst X M sc NK G k) : X.A.units + 64 < cLine := C.room.units
theorem Cst.hu1 (C : Cst X M sc NK G k) : X.A.units + 65 < cLine := by
  have := C.room.un
  omega
theorem Cst.mg (C : Cst X M sc NK G k) {x : Str} {o : Option Value} (h : M.mg x = o) : X.mg x = o := by
  have e := C.m
  subst e
  exact h
theorem Cst.never (C : Cst X M sc NK G k) : PassesOwn (model X.prog X.w) X.A X.env X.xe := C.po
/-- a def's own body -/
theorem cst_def {P : Program} {w : World} {K : PySem.W.Frag} {mg : Str → Option Value} {base : Heap} {N : List Str} {qual : Str} {sc : Scope} {f : Addr} {cdv : Value} {A : Around} {outer : List Env} {s : Shared} {H : Hp} {E : XK}
    (hN : N = NK.map (·.1)) (nd : N.Nodup) (h : chk sc true NK G = true) (hr : Room k (A.deeper (envOfC qual sc s.heap.objs.size f cdv))) : Cst (cxOf CX0 P w K mg base N qual sc f cdv A outer s H E).nox ⟨P, w, K, mg, base⟩ sc NK G k where
  m := rfl
  s := rfl
  n := hN
  vis := chk_vis h
  loc := fun i x v e => ⟨(chk_loc h i x v e).1, .inl rfl⟩
  gl := fun x e => chk_gl h x e
  nd := nd
  calm := rfl
  room := hr
  po := PassesOwn.never
/-- a comprehension's block -/
theorem cst_blk {scope : Scope} {s : Shared} {H : Hp} {C : Addr} {cl : List (Str × Addr)} {fp : List Addr} {NK' : List (Str × Bool × Bool)} {G' : List Str} (c : Cst X M sc NK G k) 
    (hN : NK'.map (·.1) = NK.map (·.1)) (h : chk (relS scope sc) false NK' G' = true) : Cst (X.blk s H scope (compEnvC scope cl C X.env) fp) M (relS scope sc) NK' G' k where
  m := c.m
  s := by
    rw [← c.s]
    rfl
  n := c.n.trans hN.symm
  vis := fun i x l e => by
    have q := chk_vis h i x l e
    rw [← c.s] at q
    exact q
  loc := fun i x v e => by
    have q := chk_loc h i x v e
    rw [← c.s] at q
    refine ⟨q.1, .inr ?_⟩
    rcases q.2 with z | z
    · cases z
    · exact z
  gl := fun x e => by
    have q := chk_gl h x e
    rw [← c.s] at q
    exact q
  nd := c.nd
  calm := c.calm
  room := c.room
  po := PassesOwn.never
end

open PySem PySem.Spec PyProof.Rows L2
open Evl (Ex)

/-! ### operators on data -/
def binD : Operator → D → D → (D → Prop) → Prop
  | .Add, .int i, .int j, k => k (.int (i + j))
  | .Sub, .int i, .int j, k => k (.int (i - j))
  | .Sub, .bool p, .bool q, k => k (.int (PyProof.Rows.b2i p - PyProof.Rows.b2i q))
  | .Mult, .int i, .int j, k => CMulW i j ∧ k (.int (i * j))
  | .FloorDiv, .int i, .int j, k => CDivW i j ∧ k (.int (i / j))
  | .Mod, .int i, .int j, k => 0 < j ∧ k (.int (i % j))
  | .Pow, .int i, .int j, k => CPow i j ∧ k (.int (i ^ j.toNat))
  | .LShift, .int i, .int j, k => CPow i j ∧ k (.int (i * 2 ^ j.toNat))
  | _, _, _, _ => False
def unD : UnaryOp → D → (D → Prop) → Prop
  | .USub, .int i, k => k (.int (-i))
  | _, _, _ => False
def cmpD : CmpOp → D → D → (Bool → Prop) → Prop
  | .Lt, .int i, .int j, k => k (decide (i < j))
  | .LtE, .int i, .int j, k => k (decide (i ≤ j))
  | .Gt, .int i, .int j, k => k (decide (j < i))
  | .GtE, .int i, .int j, k => k (decide (j ≤ i))
  | .Eq, .int i, .int j, k => k (decide (i = j))
  | .NotEq, .int i, .int j, k => k (!decide (i = j))
  | .Eq, x, y, k => SeqAt.shaped x = true ∧ SeqAt.shaped y = true ∧ k (PyData.eqv x y)
  | .NotEq, x, y, k => SeqAt.shaped x = true ∧ SeqAt.shaped y = true ∧ k (!PyData.eqv x y)
  | .In, .int i, .tuple ys, k => ∃ js : List Int, ys = js.map PyData.int ∧ k (decide (i ∈ js))
  | .NotIn, .int i, .tuple ys, k => ∃ js : List Int, ys = js.map PyData.int ∧ k (!decide (i ∈ js))
  | .In, .int i, .list ys, k => ∃ js : List Int, ys = js.map PyData.int ∧ k (decide (i ∈ js))
  | .NotIn, .int i, .list ys, k => ∃ js : List Int, ys = js.map PyData.int ∧ k (!decide (i ∈ js))
  | .In, x, .list ys, k => SeqAt.shaped x = true ∧ SeqAt.shaped (.list ys) = true ∧ k (ys.any fun z => PyData.eqv z x)
  | .NotIn, x, .list ys, k => SeqAt.shaped x = true ∧ SeqAt.shaped (.list ys) = true ∧ k (!ys.any fun z => PyData.eqv z x)
  | _, _, _, _ => False
def ixD : D → D → (D → Prop) → Prop
  | .tuple ds, .int n, k => ∃ d, atI ds n = some d ∧ k d
  | .list ds, .int n, k => ∃ d, atI ds n = some d ∧ k d
  | _, _, _ => False
/-- a two-place step by itself -/
def oSem (X : Cx) (f : Value → Value → Sem Value) : R2 := fun x y H Q => ∀ pins s σ v u, Inv X pins σ H s → RelV x v → RelV y u → wpAny (model X.prog X.w) X.A (f v u) (EP X pins σ Q) X.xe s
theorem or_sem {X : Cx} {f : Value → Value → Sem Value} : OpR X f (oSem X f) := fun pins s σ H x y v u Q I rx ry h => h pins s σ v u I rx ry
theorem OpR.sem {X : Cx} {f : Value → Value → Sem Value} {r : R2} (h : OpR X f r) {x y : V} {H : Hp} {Q : VK} (q : r x y H Q) : oSem X f x y H Q := fun pins s σ v u I rx ry => h pins s σ H x y v u Q I rx ry q

section
variable {X : Cx} {M : Md} {sc : Scope} {NK : List (Str × Bool × Bool)} {G : List Str} {k : Nat} {ρ : En} {P : D → En → Prop} {PB : Bool → En → Prop} {PL : List D → En → Prop} {pos : Pos} {a b c e : Expr} {es rest : List Expr} {x : Str}

/-! ### names, constants -/
theorem vd_name (C : Cst X M sc NK G k) {i : Nat} {l : Bool} {d : D} (ha : At NK i (x, true, l)) (h : ρ[i]? = some (.dat d)) (p : P d ρ) (hd : (x == ("__debug__" : Str)) = false := by decide) (hcd : (x == ("__classdict__" : Str)) = false := by decide) : VD X (.Name x pos) ρ P := VD.mk fun B H σ Q r q => by
  obtain ⟨v, h1, h2⟩ := r.dat i d h
  exact PE.sem (pe_var (C.ix ha) (C.vi ha) hd hcd) ⟨v, h1, q v d B H ρ p h2 Go.refl r⟩
theorem vd_int {i : Int} {j : Nat} (p : P (.int i) ρ) : VD X (.Constant (.int i) j pos) ρ P := VD.mk fun B H σ Q r q => PE.sem pe_int (q _ _ B H ρ p (.int i) Go.refl r)
theorem vd_bool {i : Bool} {j : Nat} (p : P (.bool i) ρ) : VD X (.Constant (.bool i) j pos) ρ P := VD.mk fun B H σ Q r q => PE.sem pe_bl (q _ _ B H ρ p (.bl i) Go.refl r)
theorem vd_none {j : Nat} (p : P .none ρ) : VD X (.Constant .none j pos) ρ P := VD.mk fun B H σ Q r q => PE.sem pe_non (q _ _ B H ρ p .non Go.refl r)
theorem vd_str {z : Str} {j : Nat} (p : P (.str z) ρ) : VD X (.Constant (.str z) j pos) ρ P := VD.mk fun B H σ Q r q => PE.sem pe_str (q _ _ B H ρ p (.str z) Go.refl r)
theorem VD.imp {P' : D → En → Prop} (h : VD X e ρ P) (w : ∀ d ρ', P d ρ' → P' d ρ') : VD X e ρ P' := VD.mk fun B H σ Q r q => h.run B H σ Q r fun v d B' H' ρ' p => q v d B' H' ρ' (w d ρ' p)
theorem VN.imp {P' : List D → En → Prop} (h : VN X e ρ PL) (w : ∀ d ρ', PL d ρ' → P' d ρ') : VN X e ρ P' := VN.mk fun B H σ Q r q => h.run B H σ Q r fun p vs d B' H' ρ' pp => q p vs d B' H' ρ' (w d ρ' pp)

/-! ### operators -/
theorem op_bsub : OpR X (binaryOp .Sub) (fun x y H Q => ∃ p q, x = .bl p ∧ y = .bl q ∧ Q (.int (PyProof.Rows.b2i p - PyProof.Rows.b2i q)) H) := by
  intro pins s σ H x y v u Q I rx ry h
  obtain ⟨p, q, rfl, rfl, w⟩ := h
  cases rx
  cases ry
  exact PyProof.Rows.sub_bool ⟨.int _, H, I.tok _, ⟨_, rfl⟩, w⟩
theorem bin_ok {op : Operator} {x y : D} {vx vy : V} {B H : Hp} {σ : L2.St} {K : D → Prop} {Q : VK} (h : binD op x y K) (dx : Dp X.K B vx x) (dy : Dp X.K B vy y) (q : ∀ v d, K d → Dp X.K B v d → Q v H) : oSem X (binaryOp op) vx vy H Q := by
  unfold binD at h
  split at h <;> first
    | exact h.elim
    | (rw [dp_int dx, dp_int dy]; first
        | exact OpR.sem op_add ⟨_, _, rfl, rfl, q _ _ h (.int _)⟩
        | exact OpR.sem op_sub ⟨_, _, rfl, rfl, q _ _ h (.int _)⟩
        | exact OpR.sem op_mulW ⟨_, _, rfl, rfl, h.1, q _ _ h.2 (.int _)⟩
        | exact OpR.sem op_fdivW ⟨_, _, rfl, rfl, h.1, q _ _ h.2 (.int _)⟩
        | exact OpR.sem op_mod ⟨_, _, rfl, rfl, h.1, q _ _ h.2 (.int _)⟩
        | exact OpR.sem op_pow ⟨_, _, rfl, rfl, h.1, q _ _ h.2 (.int _)⟩
        | exact OpR.sem op_shl ⟨_, _, rfl, rfl, h.1, q _ _ h.2 (.int _)⟩)
    | (rw [dp_bool dx, dp_bool dy]; exact OpR.sem op_bsub ⟨_, _, rfl, rfl, q _ _ h (.int _)⟩)
theorem vd_bin {op : Operator} (h : VD X a ρ fun x ρ1 => VD X b ρ1 fun y ρ2 => binD op x y fun d => P d ρ2) : VD X (.BinOp a op b pos) ρ P := VD.mk fun B H σ Q r q => by
  refine PE.sem (pe_op or_sem pe_sem pe_sem) ?_
  refine h.run B H σ _ r fun vx x B1 H1 ρ1 p1 dx g1 r1 => ?_
  refine p1.run B1 H1 σ _ r1 fun vy y B2 H2 ρ2 p2 dy g2 r2 => ?_
  exact bin_ok (σ := σ) p2 (Dp.mono g2.ex dx) dy fun v d kd dv => q v d B2 H2 ρ2 kd dv (g1.trans g2) r2
theorem vd_neg (h : VD X a ρ fun x ρ1 => ∃ i, x = .int i ∧ P (.int (-i)) ρ1) : VD X (.UnaryOp .USub a pos) ρ P := VD.mk fun B H σ Q r q => by
  refine PE.sem (pe_un un_neg pe_sem) ?_
  refine h.run B H σ _ r fun vx x B1 H1 ρ1 p1 dx g1 r1 => ?_
  obtain ⟨i, rfl, p⟩ := p1
  exact ⟨i, dp_int dx, q _ _ B1 H1 ρ1 p (.int _) g1 r1⟩
theorem eqV_int {K : PySem.W.Frag} {B : Hp} {i : Int} : ∀ {js : List Int} {xs : List V}, DpAll K B xs (js.map PyData.int) → inV (.int i) xs = decide (i ∈ js) ∧ xs.all flatV = true
  | [], _, .nil => ⟨by unfold inV; simp, rfl⟩
  | j :: js, _, .cons (v := v) h hs => by
    obtain ⟨h1, h2⟩ := eqV_int (i := i) hs
    have hv := dp_int h
    subst hv
    refine ⟨?_, ?_⟩
    · unfold inV at h1 ⊢
      rw [List.any_cons, h1]
      by_cases e : j = i
      · subst e
        simp [eqV]
      · have e2 : ¬ i = j := fun z => e z.symm
        simp [eqV, e, e2]
    · rw [List.all_cons, h2]
      rfl
theorem cmp_ok (C : Cst X M sc NK G k) {op : CmpOp} {x y : D} {vx vy : V} {B H : Hp} (eB : Ex B H) {K : Bool → Prop} {Q : VK} (h : cmpD op x y K) (dx : Dp X.K B vx x) (dy : Dp X.K B vy y) (q : ∀ b, K b → Q (.bl b) H) : oSem X (compareOp op) vx vy H Q := by
  unfold cmpD at h
  split at h
  · rw [dp_int dx, dp_int dy]; exact OpR.sem op_lt ⟨_, _, rfl, rfl, q _ h⟩
  · rw [dp_int dx, dp_int dy]; exact OpR.sem op_le ⟨_, _, rfl, rfl, q _ h⟩
  · rw [dp_int dx, dp_int dy]; exact OpR.sem op_gt ⟨_, _, rfl, rfl, q _ h⟩
  · rw [dp_int dx, dp_int dy]; exact OpR.sem op_ge ⟨_, _, rfl, rfl, q _ h⟩
  · rename_i i j
    rw [dp_int dx, dp_int dy]
    refine OpR.sem op_eq ⟨rfl, ?_⟩
    have e : decide (V.int i = V.int j) = decide (i = j) := by
      by_cases z : i = j
      · rw [z, decide_eq_true rfl, decide_eq_true rfl]
      · rw [decide_eq_false z, decide_eq_false (fun w => z (V.int.inj w))]
    rw [e]
    exact q _ h
  · rename_i i j
    rw [dp_int dx, dp_int dy]
    refine OpR.sem op_ne ⟨rfl, ?_⟩
    have e : decide (V.int i = V.int j) = decide (i = j) := by
      by_cases z : i = j
      · rw [z, decide_eq_true rfl, decide_eq_true rfl]
      · rw [decide_eq_false z, decide_eq_false (fun w => z (V.int.inj w))]
    rw [e]
    exact q _ h
  · exact OpR.sem (op_eqD C.hu) ⟨_, _, Dp.mono eB dx, Dp.mono eB dy, h.1, h.2.1, q _ h.2.2⟩
  · exact OpR.sem (op_neD C.hu) ⟨_, _, Dp.mono eB dx, Dp.mono eB dy, h.1, h.2.1, q _ h.2.2⟩
  · obtain ⟨js, rfl, kk⟩ := h
    obtain ⟨t, xs, rfl, hT, hx⟩ := dp_tup dy
    obtain ⟨e1, e2⟩ := eqV_int (i := by assumption) hx
    rw [dp_int dx]
    refine OpR.sem op_in_seq ⟨t, xs, rfl, .inr (ex_t eB hT), rfl, e2, ?_⟩
    rw [if_neg Bool.false_ne_true, e1]
    exact q _ kk
  · obtain ⟨js, rfl, kk⟩ := h
    obtain ⟨t, xs, rfl, hT, hx⟩ := dp_tup dy
    obtain ⟨e1, e2⟩ := eqV_int (i := by assumption) hx
    rw [dp_int dx]
    refine OpR.sem op_notIn_seq ⟨t, xs, rfl, .inr (ex_t eB hT), rfl, e2, ?_⟩
    rw [if_pos rfl, e1]
    exact q _ kk
  · obtain ⟨js, rfl, kk⟩ := h
    obtain ⟨t, xs, rfl, hT, hx⟩ := dp_lst dy
    obtain ⟨e1, e2⟩ := eqV_int (i := by assumption) hx
    rw [dp_int dx]
    refine OpR.sem op_in_seq ⟨t, xs, rfl, .inl (ex_l eB hT), rfl, e2, ?_⟩
    rw [if_neg Bool.false_ne_true, e1]
    exact q _ kk
  · obtain ⟨js, rfl, kk⟩ := h
    obtain ⟨t, xs, rfl, hT, hx⟩ := dp_lst dy
    obtain ⟨e1, e2⟩ := eqV_int (i := by assumption) hx
    rw [dp_int dx]
    refine OpR.sem op_notIn_seq ⟨t, xs, rfl, .inl (ex_l eB hT), rfl, e2, ?_⟩
    rw [if_pos rfl, e1]
    exact q _ kk
  · exact OpR.sem (op_inD C.hu1) ⟨_, _, Dp.mono eB dx, Dp.mono eB dy, h.1, h.2.1, q _ h.2.2⟩
  · exact OpR.sem (op_notInD C.hu1) ⟨_, _, Dp.mono eB dx, Dp.mono eB dy, h.1, h.2.1, q _ h.2.2⟩
  · exact h.elim
theorem vd_cmp (C : Cst X M sc NK G k) {op : CmpOp} (h : VD X a ρ fun x ρ1 => VD X b ρ1 fun y ρ2 => cmpD op x y fun bb => P (.bool bb) ρ2) (hm : behindInMarks op b = false := by first | exact nobehind _ (by decide) (by decide) | rfl) : VD X (.Compare a [op] [b] pos) ρ P := VD.mk fun B H σ Q r q => by
  refine PE.sem (pe_cmpR or_sem pe_sem pe_sem hm) ?_
  refine h.run B H σ _ r fun vx x B1 H1 ρ1 p1 dx g1 r1 => ?_
  refine p1.run B1 H1 σ _ r1 fun vy y B2 H2 ρ2 p2 dy g2 r2 => ?_
  exact cmp_ok C r2.ex p2 (Dp.mono g2.ex dx) dy fun bb kb => q _ _ B2 H2 ρ2 kb (.bl bb) (g1.trans g2) r2

/-! ### tests -/
theorem vt_cmp (C : Cst X M sc NK G k) {op : CmpOp} (h : VD X a ρ fun x ρ1 => VD X b ρ1 fun y ρ2 => cmpD op x y fun bb => PB bb ρ2) (hm : behindInMarks op b = false := by first | exact nobehind _ (by decide) (by decide) | rfl) : VT X (.Compare a [op] [b] pos) ρ PB := VT.mk fun B H σ Q r q => by
  refine PT.sem (pt_cmpR or_sem pe_sem pe_sem hm) ?_
  refine h.run B H σ _ r fun vx x B1 H1 ρ1 p1 dx g1 r1 => ?_
  refine p1.run B1 H1 σ _ r1 fun vy y B2 H2 ρ2 p2 dy g2 r2 => ?_
  exact cmp_ok C r2.ex p2 (Dp.mono g2.ex dx) dy fun bb kb => ⟨bb, rfl, q bb B2 H2 ρ2 kb (g1.trans g2) r2⟩
theorem vt_val (h : VD X e ρ fun d ρ1 => ∃ bb, d = .bool bb ∧ PB bb ρ1) (he : ∀ whole, isTrue e X.env whole = (do let v ← whole; standAt e.pos; holding [v] (truthy v)) := by intro _; rfl) : VT X e ρ PB := VT.mk fun B H σ Q r q => by
  refine PT.sem (pt_val pe_sem he) ?_
  refine h.run B H σ _ r fun v d B1 H1 ρ1 p1 dx g1 r1 => ?_
  obtain ⟨bb, rfl, p⟩ := p1
  exact ⟨bb, dp_bool dx, q bb B1 H1 ρ1 p g1 r1⟩
theorem vt_w (h : VW X e ρ PB) : VT X e ρ PB := VT.mk fun B H σ Q r q => PT.sem (PW.pt pw_sem) (h.run B H σ Q r q)
theorem vt_not (h : VT X a ρ fun bb ρ1 => PB (!bb) ρ1) : VT X (.UnaryOp .Not a pos) ρ PB := VT.mk fun B H σ Q r q => PT.sem (pt_not pb_sem) (h.run B H σ _ r fun bb B1 H1 ρ1 p g r1 => q (!bb) B1 H1 ρ1 p g r1)
theorem vw_and1 (h : VT X a ρ PB) : VW X (.BoolOp .And [a] pos) ρ PB := VW.mk fun B H σ Q r q => PW.sem (pw_and1 pb_sem) (h.run B H σ Q r q)
theorem vw_or1 (h : VT X a ρ PB) : VW X (.BoolOp .Or [a] pos) ρ PB := VW.mk fun B H σ Q r q => PW.sem (pw_or1 pb_sem) (h.run B H σ Q r q)
theorem vw_and (h : VT X a ρ fun bb ρ1 => (bb = true → VW X (.BoolOp .And (b :: rest) pos) ρ1 PB) ∧ (bb = false → PB false ρ1)) : VW X (.BoolOp .And (a :: b :: rest) pos) ρ PB := VW.mk fun B H σ Q r q => by
  refine PW.sem (pw_and pb_sem pw_sem) ?_
  refine h.run B H σ _ r fun bb B1 H1 ρ1 p g1 r1 => ?_
  cases bb with
  | true => exact (p.1 rfl).run B1 H1 σ Q r1 fun b2 B2 H2 ρ2 p2 g2 r2 => q b2 B2 H2 ρ2 p2 (g1.trans g2) r2
  | false => exact q false B1 H1 ρ1 (p.2 rfl) g1 r1
theorem vw_or (h : VT X a ρ fun bb ρ1 => (bb = true → PB true ρ1) ∧ (bb = false → VW X (.BoolOp .Or (b :: rest) pos) ρ1 PB)) : VW X (.BoolOp .Or (a :: b :: rest) pos) ρ PB := VW.mk fun B H σ Q r q => by
  refine PW.sem (pw_or pb_sem pw_sem) ?_
  refine h.run B H σ _ r fun bb B1 H1 ρ1 p g1 r1 => ?_
  cases bb with
  | true => exact q true B1 H1 ρ1 (p.1 rfl) g1 r1
  | false => exact (p.2 rfl).run B1 H1 σ Q r1 fun b2 B2 H2 ρ2 p2 g2 r2 => q b2 B2 H2 ρ2 p2 (g1.trans g2) r2
theorem vd_if (h : VT X c ρ fun bb ρ1 => (bb = true → VD X a ρ1 P) ∧ (bb = false → VD X b ρ1 P)) : VD X (.IfExp c a b pos) ρ P := VD.mk fun B H σ Q r q => by
  refine PE.sem (pe_ifExp pb_sem pe_sem pe_sem) ?_
  refine h.run B H σ _ r fun bb B1 H1 ρ1 p g1 r1 => ?_
  cases bb with
  | true => exact (p.1 rfl).run B1 H1 σ Q r1 fun v d B2 H2 ρ2 p2 dd g2 r2 => q v d B2 H2 ρ2 p2 dd (g1.trans g2) r2
  | false => exact (p.2 rfl).run B1 H1 σ Q r1 fun v d B2 H2 ρ2 p2 dd g2 r2 => q v d B2 H2 ρ2 p2 dd (g1.trans g2) r2
theorem vd_one {op : BoolOp} (h : VD X a ρ P) : VD X (.BoolOp op [a] pos) ρ P := VD.mk fun B H σ Q r q => PE.sem (pe_one pe_sem) (h.run B H σ Q r q)
theorem vd_and (h : VD X a ρ fun d ρ1 => ∃ bb, d = .bool bb ∧ (bb = true → VD X (.BoolOp .And (b :: rest) pos) ρ1 P) ∧ (bb = false → P (.bool false) ρ1)) : VD X (.BoolOp .And (a :: b :: rest) pos) ρ P := VD.mk fun B H σ Q r q => by
  refine PE.sem (pe_and pe_sem pe_sem) ?_
  refine h.run B H σ _ r fun v d B1 H1 ρ1 p dx g1 r1 => ?_
  obtain ⟨bb, rfl, p1, p2⟩ := p
  refine ⟨bb, dp_bool dx, ?_⟩
  cases bb with
  | true => exact (p1 rfl).run B1 H1 σ Q r1 fun v d B2 H2 ρ2 p2 dd g2 r2 => q v d B2 H2 ρ2 p2 dd (g1.trans g2) r2
  | false => exact q _ _ B1 H1 ρ1 (p2 rfl) (.bl false) g1 r1
theorem vd_or (h : VD X a ρ fun d ρ1 => ∃ bb, d = .bool bb ∧ (bb = true → P (.bool true) ρ1) ∧ (bb = false → VD X (.BoolOp .Or (b :: rest) pos) ρ1 P)) : VD X (.BoolOp .Or (a :: b :: rest) pos) ρ P := VD.mk fun B H σ Q r q => by
  refine PE.sem (pe_or pe_sem pe_sem) ?_
  refine h.run B H σ _ r fun v d B1 H1 ρ1 p dx g1 r1 => ?_
  obtain ⟨bb, rfl, p1, p2⟩ := p
  refine ⟨bb, dp_bool dx, ?_⟩
  cases bb with
  | true => exact q _ _ B1 H1 ρ1 (p1 rfl) (.bl true) g1 r1
  | false => exact (p2 rfl).run B1 H1 σ Q r1 fun v d B2 H2 ρ2 p2 dd g2 r2 => q v d B2 H2 ρ2 p2 dd (g1.trans g2) r2
theorem vd_not (h : VD X a ρ fun d ρ1 => ∃ bb, d = .bool bb ∧ P (.bool (!bb)) ρ1) : VD X (.UnaryOp .Not a pos) ρ P := VD.mk fun B H σ Q r q => by
  refine PE.sem (pe_not pe_sem) ?_
  refine h.run B H σ _ r fun v d B1 H1 ρ1 p dx g1 r1 => ?_
  obtain ⟨bb, rfl, p1⟩ := p
  exact ⟨bb, dp_bool dx, q _ _ B1 H1 ρ1 p1 (.bl _) g1 r1⟩

/-! ### lists of arguments, displays -/
theorem va_nil (p : PL [] ρ) : VA X [] ρ PL := VA.mk fun B H σ Q r q => PA.sem pa_nil (q [] [] B H ρ p .nil Go.refl r)
theorem va_cons (h : VD X e ρ fun d ρ1 => VA X es ρ1 fun ds ρ2 => PL (d :: ds) ρ2) (hs : starEach (e :: es) X.env = (false, eval e X.env) :: starEach es X.env := by rfl) : VA X (e :: es) ρ PL := VA.mk fun B H σ Q r q => by
  refine PA.sem (pa_cons pe_sem pa_sem hs) ?_
  refine h.run B H σ _ r fun v d B1 H1 ρ1 p1 dv g1 r1 => ?_
  exact p1.run B1 H1 σ _ r1 fun vs ds B2 H2 ρ2 p2 dvs g2 r2 => q (v :: vs) (d :: ds) B2 H2 ρ2 p2 (.cons (Dp.mono g2.ex dv) dvs) (g1.trans g2) r2
theorem vd_tup {kk : Nat} (h : VA X es ρ fun ds ρ1 => ds.length ≤ 1000 ∧ P (.tuple ds) ρ1) : VD X (.Tuple es kk pos) ρ P := VD.mk fun B H σ Q r q => by
  refine PE.sem (pe_tup pa_sem) ?_
  refine h.run B H σ _ r fun vs ds B1 H1 ρ1 p1 dvs g1 r1 => ⟨?_, fun p hp => ?_⟩
  · rw [DpAll.len dvs]
    exact Nat.le_trans p1.1 (by decide)
  · obtain ⟨r2, g2⟩ := new_both (o := .tup vs) r1 hp
    exact q _ _ _ _ ρ1 p1.2 (.tup (.inl (.inl upd_same)) (DpAll.mono g2.ex dvs)) (g1.trans g2) r2
theorem vn_lst (h : VA X es ρ fun ds ρ1 => ds.length ≤ 1000 ∧ PL ds ρ1) : VN X (.List es pos) ρ PL := VN.mk fun B H σ Q r q => by
  refine PE.sem (pe_lst pa_sem) ?_
  refine h.run B H σ _ r fun vs ds B1 H1 ρ1 p1 dvs g1 r1 => ⟨?_, fun p hp => ?_⟩
  · rw [DpAll.len dvs]
    exact Nat.le_trans p1.1 (by decide)
  · obtain ⟨r2, g2, bp⟩ := new_one (o := .lst vs) r1 hp
    refine q p vs ds _ _ ρ1 p1.2 ?_ upd_same bp (fun z => ?_) dvs (g1.trans g2) r2
    · exact g1.dom p hp
    · obtain ⟨i, fs, hf⟩ := z
      obtain ⟨_, _, ws, h5, _⟩ := r1.own i p fs hf
      rw [hp] at h5
      cases h5
end

open PySem PySem.Spec PyProof.Rows L2
open Evl (Ex)

section
variable {X : Cx} {M : Md} {sc : Scope} {NK : List (Str × Bool × Bool)} {G : List Str} {k : Nat} {ρ : En} {P : D → En → Prop} {PB : Bool → En → Prop} {PL : List D → En → Prop} {pos : Pos} {a b c e : Expr} {es rest : List Expr} {x : Str}

/-- a new list as data that stays -/
theorem vn_vd (h : VN X e ρ fun ds ρ1 => P (.list ds) ρ1) : VD X e ρ P := VD.mk fun B H σ Q r q => by
  refine h.run B H σ Q r fun p vs ds B1 H1 ρ1 p1 hp h1 bp no dvs g1 r1 => ?_
  have eB : Ex B1 (upd B1 p (.lst vs)) := Evl.Ex.new bp
  have ne : ∀ a, Own ρ1 a → a ≠ p := fun a z e => no (e ▸ z)
  refine q _ _ (upd B1 p (.lst vs)) H1 ρ1 p1 (.lst (.inl (.inl upd_same)) (DpAll.mono eB dvs)) ⟨g1.ex.trans eB, g1.keep, fun a h1 h2 h3 => ?_, g1.own, g1.dom⟩ ⟨fun a u ha => ?_, r1.len, fun i d hi => ?_, fun i a ds' hi => ?_, r1.dis⟩
  · rw [upd_ne (fun z => h1 (by rw [z]; exact hp))]
    exact g1.out a h1 h2 h3
  · by_cases z : a = p
    · rw [z, upd_same] at ha
      rw [z, h1]
      exact ha
    · rw [upd_ne z] at ha
      exact r1.ex a u ha
  · obtain ⟨v, h1, h2⟩ := r1.dat i d hi
    exact ⟨v, h1, Dp.mono eB h2⟩
  · obtain ⟨h1, h2, ws, h3, h4⟩ := r1.own i a ds' hi
    refine ⟨h1, ?_, ws, h3, OD.mono eB h4⟩
    rw [upd_ne (ne a ⟨i, ds', hi⟩)]
    exact h2

/-! ### subscripts -/
def iSem (X : Cx) : R2 := fun x y H Q => ∀ value slice pins s σ v u, Inv X pins σ H s → RelV x v → RelV y u → subscripted slice false v u = operate [v, u] (getItem v u) → wpAny (model X.prog X.w) X.A (subscriptTail value slice v u) (EP X pins σ Q) X.xe s
theorem ir_sem : IxR X (iSem X) := fun value slice pins s σ H x y v u Q I rx ry h hs => h value slice pins s σ v u I rx ry hs
theorem IxR.sem {r : R2} (h : IxR X r) {x y : V} {H : Hp} {Q : VK} (q : r x y H Q) : iSem X x y H Q := fun value slice pins s σ v u I rx ry hs => h value slice pins s σ H x y v u Q I rx ry q hs
theorem atI_dp {K : PySem.W.Frag} {B : Hp} {vs : List V} {ds : List D} {n : Int} {d : D} (h : DpAll K B vs ds) (e : atI ds n = some d) : ∃ v, atI vs n = some v ∧ Dp K B v d := by
  unfold atI at e ⊢
  rw [DpAll.len h]
  cases q : ixN ds.length n with
  | none =>
    rw [q] at e
    cases e
  | some j =>
    rw [q] at e
    have e' : ds[j]? = some d := e
    exact DpAll.get h e'
theorem vd_ix (h : VD X a ρ fun x ρ1 => VD X b ρ1 fun y ρ2 => ixD x y fun d => P d ρ2) (hs : PlainIx b := by exact fun _ _ => rfl) : VD X (.Subscript a b pos) ρ P := VD.mk fun B H σ Q r q => by
  refine PE.sem (pe_ix ir_sem pe_sem pe_sem hs) ?_
  refine h.run B H σ _ r fun vx x B1 H1 ρ1 p1 dx g1 r1 => ?_
  refine p1.run B1 H1 σ _ r1 fun vy y B2 H2 ρ2 p2 dy g2 r2 => ?_
  replace p2 : ixD x y (fun d => P d ρ2) := p2
  unfold ixD at p2
  split at p2
  · obtain ⟨d, e, p⟩ := p2
    obtain ⟨t, vs, rfl, hT, hv⟩ := dp_tup dx
    obtain ⟨v, ev, dv⟩ := atI_dp hv e
    rw [dp_int dy]
    exact IxR.sem ix_tup ⟨t, vs, _, v, rfl, rfl, ex_t (g2.ex.trans r2.ex) hT, ev, q v d B2 H2 ρ2 p (Dp.mono g2.ex dv) (g1.trans g2) r2⟩
  · obtain ⟨d, e, p⟩ := p2
    obtain ⟨t, vs, rfl, hT, hv⟩ := dp_lst dx
    obtain ⟨v, ev, dv⟩ := atI_dp hv e
    rw [dp_int dy]
    exact IxR.sem ix_list ⟨t, vs, _, v, rfl, rfl, ex_l (g2.ex.trans r2.ex) hT, ev, q v d B2 H2 ρ2 p (Dp.mono g2.ex dv) (g1.trans g2) r2⟩
  · exact p2.elim
/-- xs[i], xs a list of one's own -/
theorem vd_ixo (C : Cst X M sc NK G k) {i : Nat} {l : Bool} {p : Addr} {cs : List D} {px : Pos} (ha : At NK i (x, true, l)) (ho : ρ[i]? = some (.own p cs))
    (h : VD X b ρ fun y ρ1 => ∃ (n : Int) (cs1 : List D) (d : D), y = .int n ∧ ρ1[i]? = some (.own p cs1) ∧ atI cs1 n = some d ∧ P d ρ1) (hs : PlainIx b := by exact fun _ _ => rfl) (hd : (x == ("__debug__" : Str)) = false := by decide) (hcd : (x == ("__classdict__" : Str)) = false := by decide) : VD X (.Subscript (.Name x px) b pos) ρ P := VD.mk fun B H σ Q r q => by
  refine PE.sem (pe_ix ix_list (pe_var (C.ix ha) (C.vi ha) hd hcd) pe_sem hs) ?_
  refine ⟨.ref p, (r.own i p cs ho).1, ?_⟩
  refine h.run B H σ _ r fun vy y B1 H1 ρ1 p1 dy g1 r1 => ?_
  obtain ⟨n, cs1, d, rfl, ho1, e, pp⟩ := p1
  obtain ⟨_, _, _, h3, vs, rfl, h4⟩ := r1.own i p cs1 ho1
  obtain ⟨v, ev, dv⟩ := atI_dp h4 e
  exact ⟨p, vs, n, v, rfl, dp_int dy, .inl (.inl h3), ev, q v d B1 H1 ρ1 pp dv g1 r1⟩
theorem cut_take {vs : List V} (n : Nat) : cutV vs none (some (n : Int)) = vs.take n := by
  unfold cutV
  rw [HT.sIx_none, HT.sIx_nat, Nat.sub_zero, List.drop_zero]
  by_cases h : n ≤ vs.length
  · rw [Nat.min_eq_left h]
  · rw [Nat.min_eq_right (by omega), List.take_length, List.take_of_length_le (by omega)]
theorem cut_drop {vs : List V} (n : Nat) : cutV vs (some (n : Int)) none = vs.drop n := by
  unfold cutV
  rw [HT.sIx_none, HT.sIx_nat]
  by_cases h : n ≤ vs.length
  · rw [Nat.min_eq_left h, List.take_of_length_le (by rw [List.length_drop]; omega)]
  · rw [Nat.min_eq_right (by omega), List.drop_length, List.drop_of_length_le (by omega), List.take_nil]
/-- xs[:n], n written -/
theorem vn_take {n j : Nat} {pc p2 : Pos} (h : VD X a ρ fun d ρ1 => ∃ ds, d = .list ds ∧ PL (ds.take n) ρ1) : VN X (.Subscript a (.Slice none (some (.Constant (.int (n : Int)) j pc)) none p2) pos) ρ PL := VN.mk fun B H σ Q r q => by
  refine PE.sem (pe_slice sl_list pe_sem po_none (po_some pe_int)) ?_
  refine h.run B H σ _ r fun v d B1 H1 ρ1 p1 dv g1 r1 => ?_
  obtain ⟨ds, rfl, p⟩ := p1
  obtain ⟨t, vs, rfl, hT, hv⟩ := dp_lst dv
  refine ⟨(n : Int), rfl, t, vs, rfl, ex_l r1.ex hT, fun z hz => ?_⟩
  rw [cut_take]
  obtain ⟨r2, g2, bp⟩ := new_one (o := .lst (vs.take n)) r1 hz
  refine q z _ _ _ _ ρ1 p (g1.dom z hz) upd_same bp (fun w => ?_) (DpAll.take n hv) (g1.trans g2) r2
  obtain ⟨i, fs, hf⟩ := w
  obtain ⟨_, _, ws, h5, _⟩ := r1.own i z fs hf
  rw [hz] at h5
  cases h5

/-! ### built-in functions -/
def cSem (X : Cx) (f : Value) : List V → Hp → VK → Prop := fun vs H Q => ∀ pins s σ us, Inv X pins σ H s → Vals vs us → wpAny (model X.prog X.w) X.A (call f us) (EP X pins σ Q) X.xe s
theorem cr_sem {f : Value} : CallR X f (cSem X f) := fun pins s σ H xs us Q I r h => h pins s σ us I r
theorem CallR.sem {f : Value} {r : List V → Hp → VK → Prop} (h : CallR X f r) {xs : List V} {H : Hp} {Q : VK} (q : r xs H Q) : cSem X f xs H Q := fun pins s σ us I rv => h pins s σ H xs us Q I rv q
/-- what a built-in does with data -/
def Does (X : Cx) (f : Value) (S : List D → (D → Prop) → Prop) : Prop := ∀ (B H : Hp) (vs : List V) (ds : List D) (W : D → Prop) (Q : VK), Ex B H → DpAll X.K B vs ds → S ds W →
  (∀ v d B' H', W d → Dp X.K B' v d → Ex B B' → Ex B' H' → Ex H H' → (∀ a, H a ≠ none → B a = none → B' a = none) → Q v H') → cSem X f vs H Q
theorem vd_call_with {f : Value} {S : List D → (D → Prop) → Prop} {nm : Expr} (hp : ∀ t, PA X (e :: es) t → PE X (.Call nm (e :: es) [] pos) (tCB (cSem X f) t)) (hS : Does X f S)
    (h : VA X (e :: es) ρ fun ds ρ1 => S ds fun d => P d ρ1) : VD X (.Call nm (e :: es) [] pos) ρ P := VD.mk fun B H σ Q r q => by
  refine PE.sem (hp _ pa_sem) ?_
  refine h.run B H σ _ r fun vs ds B1 H1 ρ1 p1 dvs g1 r1 => ?_
  refine hS B1 H1 vs ds _ Q r1.ex dvs p1 fun v d B2 H2 p2 dv eB e2 eH out => ?_
  exact q v d B2 H2 ρ1 p2 dv (g1.trans (Go.grow eB eH out)) (r1.grow eB e2 eH out)
theorem vd_callB (C : Cst X M sc NK G k) {id : String} {S : List D → (D → Prop) → Prop} {i : Nat} {p : Pos} (hS : Does X (.builtin id) S) (hg : At G i x) (h : VA X (e :: es) ρ fun ds ρ1 => S ds fun d => P d ρ1) (hm : M.mg x = none := by assumption) (hv : bootBuiltins x = some (.builtin id) := by decide +kernel)
    (hn : x ≠ "__name__" := by decide) (hdb : (x == ("__debug__" : Str)) = false := by decide) (he : starEach (e :: es) X.env = (false, eval e X.env) :: starEach es X.env := by rfl) (hpl : (backTo pos (starEach es X.env)).any (·.1) = false := by rfl) : VD X (.Call (.Name x p) (e :: es) [] pos) ρ P :=
  vd_call_with (fun t ht => pe_callB cr_sem (C.g hg) (C.mg hm) hv ht hn hdb he hpl) hS h
theorem vd_callT (C : Cst X M sc NK G k) {T : String} {S : List D → (D → Prop) → Prop} {i : Nat} {p : Pos} (hS : Does X (.type T) S) (hg : At G i x) (h : VA X (e :: es) ρ fun ds ρ1 => S ds fun d => P d ρ1) (hm : M.mg x = none := by assumption) (hv : bootBuiltins x = some (.type T) := by decide +kernel)
    (hn : x ≠ "__name__" := by decide) (hdb : (x == ("__debug__" : Str)) = false := by decide) (he : starEach (e :: es) X.env = (false, eval e X.env) :: starEach es X.env := by rfl) (hpl : (backTo pos (starEach es X.env)).any (·.1) = false := by rfl) : VD X (.Call (.Name x p) (e :: es) [] pos) ρ P :=
  vd_call_with (fun t ht => pe_callTy cr_sem (C.g hg) (C.mg hm) hv ht hn hdb he hpl) hS h
/-- a built-in that the module imports -/
theorem vd_callM (C : Cst X M sc NK G k) {id : String} {S : List D → (D → Prop) → Prop} {i : Nat} {p : Pos} (hS : Does X (.builtin id) S) (hg : At G i x) (h : VA X (e :: es) ρ fun ds ρ1 => S ds fun d => P d ρ1) (hm : M.mg x = some (.builtin id) := by assumption)
    (hdb : (x == ("__debug__" : Str)) = false := by decide) (he : starEach (e :: es) X.env = (false, eval e X.env) :: starEach es X.env := by rfl) (hpl : (backTo pos (starEach es X.env)).any (·.1) = false := by rfl) : VD X (.Call (.Name x p) (e :: es) [] pos) ρ P :=
  vd_call_with (fun t ht => pe_callBfun cr_sem (C.g hg) (C.mg hm) ht hdb he hpl) hS h
/-- a def of one's own, by what it does with data -/
def DS (K : PySem.W.Frag) (n : Nat) (S : List D → (D → Prop) → Prop) : Sp := fun vs H Q _ => ∃ B ds W, Ex B H ∧ DpAll K B vs ds ∧ ds.length = n ∧ S ds W ∧
  ∀ v d B' H', W d → Dp K B' v d → Ex B B' → Ex B' H' → Ex H H' → (∀ a, H a ≠ none → B a = none → B' a = none) → Q v H'
structure FnD (M : Md) (j : Nat) (x : Str) (n : Nat) (S : List D → (D → Prop) → Prop) : Prop where
  ex : ∃ f fd ps, FnOk M.prog M.w M.K M.mg M.base CX0 j f fd ps (DS M.K n S) ∧ M.mg x = some (.ref f) ∧ PySem.W.keepIn M.K (.ref f) = true ∧ Binds M.K fd ps []
theorem vd_call (C : Cst X M sc NK G k) {j n : Nat} {S : List D → (D → Prop) → Prop} {i : Nat} {p : Pos} (F : FnD M j x n S) (hg : At G i x) (h : VA X (e :: es) ρ fun ds ρ1 => ds.length = n ∧ S ds fun d => P d ρ1) (hj : j ≤ k := by decide)
    (hdb : (x == ("__debug__" : Str)) = false := by decide) (he : starEach (e :: es) X.env = (false, eval e X.env) :: starEach es X.env := by rfl) (hpl : (backTo pos (starEach es X.env)).any (·.1) = false := by rfl) : VD X (.Call (.Name x p) (e :: es) [] pos) ρ P := VD.mk fun B H σ Q r q => by
  have eM := C.m
  subst eM
  obtain ⟨f, fd, ps, F, hm, hk, hb⟩ := F.ex
  refine PE.sem (pe_call (E := E0) F (C.room.mono hj) (C.g hg) hm hk hb .nil pass0 pa_sem hdb he hpl) ?_
  refine h.run B H σ _ r fun vs ds B1 H1 ρ1 p1 dvs g1 r1 => ?_
  show DS X.K n S (vs ++ []) H1 Q _
  rw [List.append_nil]
  refine ⟨B1, ds, _, r1.ex, dvs, p1.1, p1.2, fun v d B2 H2 p2 dv eB e2 eH out => ?_⟩
  exact q v d B2 H2 ρ1 p2 dv (g1.trans (Go.grow eB eH out)) (r1.grow eB e2 eH out)
/-- a def that changes the list of one's own which it is handed first: what stands in it, the other arguments; its value, what stands in it behind -/
def DSm (K : PySem.W.Frag) (n : Nat) (S : List D → List D → (D → List D → Prop) → Prop) : Sp := fun vs H Q _ => ∃ B p xs cs ws ds W, vs = .ref p :: ws ∧ Ex B H ∧ B p = none ∧ H p = some (.lst xs) ∧ DpAll K B xs cs ∧ DpAll K B ws ds ∧ ds.length = n ∧ S cs ds W ∧
  ∀ v d B' H' xs' cs', W d cs' → Dp K B' v d → Ex B B' → Ex B' H' → B' p = none → H' p = some (.lst xs') → DpAll K B' xs' cs' → (∀ a o, a ≠ p → H a = some o → H' a = some o) → (∀ a, a ≠ p → H a ≠ none → B a = none → B' a = none) → Q v H'
structure FnM (M : Md) (j : Nat) (x : Str) (n : Nat) (S : List D → List D → (D → List D → Prop) → Prop) : Prop where
  ex : ∃ f fd ps, FnOk M.prog M.w M.K M.mg M.base CX0 j f fd ps (DSm M.K n S) ∧ M.mg x = some (.ref f) ∧ PySem.W.keepIn M.K (.ref f) = true ∧ Binds M.K fd ps []
theorem getElem?_set_own {ρ : En} {i : Nat} {s u : Sl} (h : ρ[i]? = some s) : (ρ.set i u)[i]? = some u := by
  obtain ⟨hl, _⟩ := List.getElem?_eq_some_iff.mp h
  rw [List.getElem?_set_self hl]
theorem vd_callO (C : Cst X M sc NK G k) {j n : Nat} {S : List D → List D → (D → List D → Prop) → Prop} {i m : Nat} {l : Bool} {y : Str} {p py : Pos} {q0 : Addr} {cs0 : List D} (F : FnM M j x n S) (hg : At G i x) (ha : At NK m (y, true, l)) (ho : ρ[m]? = some (.own q0 cs0))
    (h : VA X es ρ fun ds ρ1 => ds.length = n ∧ ∃ cs : List D, ρ1[m]? = some (.own q0 cs) ∧ S cs ds fun d cs' => P d (ρ1.set m (.own q0 cs'))) (hj : j ≤ k := by decide)
    (hdb : (x == ("__debug__" : Str)) = false := by decide) (he : starEach (.Name y py :: es) X.env = (false, eval (.Name y py) X.env) :: starEach es X.env := by rfl) (hpl : (backTo pos (starEach es X.env)).any (·.1) = false := by rfl)
    (hd : (y == ("__debug__" : Str)) = false := by decide) (hcd : (y == ("__classdict__" : Str)) = false := by decide) : VD X (.Call (.Name x p) (.Name y py :: es) [] pos) ρ P := VD.mk fun B H σ Q r q => by
  have eM := C.m
  subst eM
  obtain ⟨f, fd, ps, F, hm, hk, hb⟩ := F.ex
  refine PE.sem (pe_call (E := E0) F (C.room.mono hj) (C.g hg) hm hk hb .nil pass0 (pa_cons (pe_var (C.ix ha) (C.vi ha) hd hcd) pa_sem he) hdb he hpl) ?_
  refine ⟨.ref q0, (r.own m q0 cs0 ho).1, ?_⟩
  refine h.run B H σ _ r fun ws ds B1 H1 ρ1 p1 dws g1 r1 => ?_
  obtain ⟨hl, cs, ho1, hS⟩ := p1
  obtain ⟨hs1, hB1, _, hx, xs, rfl, dxs⟩ := r1.own m q0 cs ho1
  show DSm X.K n S ((.ref q0 :: ws) ++ []) H1 Q _
  rw [List.append_nil]
  refine ⟨B1, q0, xs, cs, ws, ds, _, rfl, r1.ex, hB1, hx, dxs, dws, hl, hS, fun v d B2 H2 xs' cs' p2 dv eB e2 b2 h2 dx2 keep out => ?_⟩
  have hlt := (List.getElem?_eq_some_iff.mp ho1).1
  have own_of : ∀ a, Own (ρ1.set m (.own q0 (.l cs'))) a → Own ρ1 a := fun a ⟨j, fs, hf⟩ => by
    by_cases z : m = j
    · subst z
      rw [List.getElem?_set_self hlt] at hf
      cases hf
      exact ⟨m, cs, ho1⟩
    · rw [List.getElem?_set_ne z] at hf
      exact ⟨j, fs, hf⟩
  refine q v d B2 H2 _ p2 dv (g1.trans ⟨eB, fun a o h n => keep a o (fun z => n ⟨m, cs, z ▸ ho1⟩) h, fun a h1 h2 h3 => out a (fun z => h3 ⟨m, cs, z ▸ ho1⟩) h1 h2, fun a z => .inl (own_of a z), fun a z => ?_⟩) ⟨e2, by rw [List.length_set]; exact r1.len, fun j d' hj => ?_, fun j a fs hf => ?_, fun j j' a fs gs hj hj' => ?_⟩
  · cases e : H1 a with
    | none => rfl
    | some u =>
      by_cases w : a = q0
      · rw [w, h2] at z
        cases z
      · rw [keep a u w e] at z
        cases z
  · by_cases z : m = j
    · subst z
      rw [List.getElem?_set_self hlt] at hj
      cases hj
    · rw [List.getElem?_set_ne z] at hj
      obtain ⟨v', h5, h6⟩ := r1.dat j d' hj
      exact ⟨v', h5, Dp.mono eB h6⟩
  · by_cases z : m = j
    · subst z
      rw [List.getElem?_set_self hlt] at hf
      cases hf
      exact ⟨hs1, b2, _, h2, xs', rfl, dx2⟩
    · rw [List.getElem?_set_ne z] at hf
      obtain ⟨h5, h6, ys, h7, h8⟩ := r1.own j a fs hf
      have na : a ≠ q0 := fun w => z (r1.dis m j q0 cs fs ho1 (w ▸ hf))
      exact ⟨h5, out a na (by rw [h7]; exact fun z => by cases z) h6, ys, keep a _ na h7, OD.mono eB h8⟩
  · have back : ∀ (j : Nat) gs, (ρ1.set m (.own q0 (.l cs')))[j]? = some (.own a gs) → ∃ hs, ρ1[j]? = some (.own a hs) := fun j gs hj => by
      by_cases z : m = j
      · subst z
        rw [List.getElem?_set_self hlt] at hj
        cases hj
        exact ⟨cs, ho1⟩
      · rw [List.getElem?_set_ne z] at hj
        exact ⟨gs, hj⟩
    obtain ⟨h5, e5⟩ := back j fs hj
    obtain ⟨h6, e6⟩ := back j' gs hj'
    exact r1.dis j j' a h5 h6 e5 e6

/-! ### what some built-ins do -/
theorem does_int : Does X (.type "int") (fun ds W => ∃ i, ds = [.int i] ∧ W (.int i)) := fun B H vs ds W Q e h s q => by
  obtain ⟨i, rfl, w⟩ := s
  cases h with
  | cons h1 h2 =>
    cases h2
    rw [dp_int h1]
    exact CallR.sem call_int1 (.inl ⟨i, rfl, q _ _ B H w (.int i) (Evl.Ex.refl B) e (Evl.Ex.refl H) fun _ _ b => b⟩)
theorem does_abs : Does X (.builtin "abs") (fun ds W => ∃ i, ds = [.int i] ∧ W (.int (if i < 0 then -i else i))) := fun B H vs ds W Q e h s q => by
  obtain ⟨i, rfl, w⟩ := s
  cases h with
  | cons h1 h2 =>
    cases h2
    rw [dp_int h1]
    exact CallR.sem call_abs ⟨i, rfl, q _ _ B H w (.int _) (Evl.Ex.refl B) e (Evl.Ex.refl H) fun _ _ b => b⟩
theorem does_len : Does X (.builtin "len") (fun ds W => ∃ es, (ds = [.list es] ∨ ds = [.tuple es]) ∧ W (.int es.length)) := fun B H vs ds W Q e h s q => by
  obtain ⟨es, z, w⟩ := s
  rcases z with rfl | rfl
  · cases h with
    | cons h1 h2 =>
      cases h2
      obtain ⟨t, ys, rfl, hT, hy⟩ := dp_lst h1
      refine CallR.sem call_len_seq ⟨t, ys, rfl, .inl (ex_l e hT), q _ _ B H w ?_ (Evl.Ex.refl B) e (Evl.Ex.refl H) fun _ _ b => b⟩
      rw [DpAll.len hy]
      exact .int _
  · cases h with
    | cons h1 h2 =>
      cases h2
      obtain ⟨t, ys, rfl, hT, hy⟩ := dp_tup h1
      refine CallR.sem call_len_seq ⟨t, ys, rfl, .inr (ex_t e hT), q _ _ B H w ?_ (Evl.Ex.refl B) e (Evl.Ex.refl H) fun _ _ b => b⟩
      rw [DpAll.len hy]
      exact .int _
/-- tuple(a new list) -/
theorem vd_tupleN (C : Cst X M sc NK G k) {i : Nat} {p : Pos} (hg : At G i "tuple") (h : VN X e ρ fun ds ρ1 => P (.tuple ds) ρ1) (hm : M.mg "tuple" = none := by assumption)
    (he : starEach [e] X.env = (false, eval e X.env) :: starEach [] X.env := by rfl) (hpl : (backTo pos (starEach [] X.env)).any (·.1) = false := by rfl) : VD X (.Call (.Name "tuple" p) [e] [] pos) ρ P := VD.mk fun B H σ Q r q => by
  refine PE.sem (pe_callTy call_tuple_of (C.g hg) (C.mg hm) (by decide +kernel) (pa_cons pe_sem pa_nil he) (by decide) (by decide) he hpl) ?_
  refine h.run B H σ _ r fun z vs ds B1 H1 ρ1 p1 hz h1 bz no dvs g1 r1 => ?_
  refine ⟨z, vs, rfl, .inl ⟨.inl (.inl h1), fun l hl => ?_⟩⟩
  obtain ⟨r2, g2⟩ := new_both (o := .tup vs) r1 hl
  exact q _ _ _ _ ρ1 p1 (.tup (.inl (.inl upd_same)) (DpAll.mono g2.ex dvs)) (g1.trans g2) r2
def tyN : D → String
  | .none => "NoneType"
  | .bool _ => "bool"
  | .int _ => "int"
  | .str _ => "str"
  | .list _ => "list"
  | .tuple _ => "tuple"
  | .dict _ => "dict"
theorem ty_dp {K : PySem.W.Frag} {B H : Hp} (e : Ex B H) {v : V} {d : D} (h : Dp K B v d) : TyX K H v (.type (tyN d)) := by
  cases h with
  | non => exact .base .non
  | bl b => exact .base (.bl b)
  | int i => exact .base (.int i)
  | str x => exact .base (.str x)
  | lst h hs =>
    rcases h with (h | ⟨o, h⟩) | ⟨o, _, _, h1, h2, _⟩
    · exact .base (.lst (e _ _ h))
    · exact .base (.frz (e _ _ h))
    · exact .kList h1 h2
  | tup h hs =>
    rcases h with (h | ⟨o, h⟩) | ⟨o, _, _, h1, h2, _⟩
    · exact .base (.tup (e _ _ h))
    · exact .fTuple (e _ _ h)
    · exact .kTuple h1 h2
/-- isinstance(e, T), T a built-in class -/
theorem vd_isi (C : Cst X M sc NK G k) {i j : Nat} {T : String} {p pT : Pos} (hg : At G i "isinstance") (hgT : At G j x) (h : VD X e ρ fun d ρ1 => ∃ b, kitB (tyN d) T = some b ∧ P (.bool b) ρ1)
    (hm : M.mg "isinstance" = none := by assumption) (hmT : M.mg x = none := by assumption) (hv : bootBuiltins x = some (.type T) := by decide +kernel)
    (hn : x ≠ "__name__" := by decide) (hdb : (x == ("__debug__" : Str)) = false := by decide)
    (he : starEach [e, .Name x pT] X.env = (false, eval e X.env) :: starEach [.Name x pT] X.env := by rfl) (he2 : starEach [.Name x pT] X.env = (false, eval (.Name x pT) X.env) :: starEach [] X.env := by rfl) (hpl : (backTo pos (starEach [.Name x pT] X.env)).any (·.1) = false := by rfl) :
    VD X (.Call (.Name "isinstance" p) [e, .Name x pT] [] pos) ρ P := VD.mk fun B H σ Q r q => by
  refine PE.sem (pe_callB call_isi (C.g hg) (C.mg hm) (by decide +kernel) (pa_cons pe_sem (pa_cons (pe_bltn (v := .ty T) (C.g hgT) (C.mg hmT) hv rfl hn hdb) pa_nil he2) he) (by decide) (by decide) he hpl) ?_
  refine h.run B H σ _ r fun v d B1 H1 ρ1 p1 dv g1 r1 => ?_
  obtain ⟨b, hb, pp⟩ := p1
  exact ⟨v, .ty T, _, _, b, rfl, .ty T, ty_dp r1.ex dv, kit_ty hb, q _ _ B1 H1 ρ1 pp (.bl b) g1 r1⟩
end

open PySem PySem.Spec PyProof.Rows L2
open Evl (Ex)

section
variable {X : Cx} {M : Md} {sc : Scope} {NK : List (Str × Bool × Bool)} {G : List Str} {k : Nat} {ρ : En} {P : D → En → Prop} {PN : En → Prop} {PB : Bool → En → Prop} {PL : List D → En → Prop} {pos : Pos} {a b c e tg : Expr} {es rest : List Expr} {x : Str} {F : Fin} {st : Stmt} {sts : List Stmt}

/-! ### storing -/
theorem own_set {ρ : En} {i : Nat} {d : D} {a : Addr} (h : Own (ρ.set i (.dat d)) a) : Own ρ a := by
  obtain ⟨j, ds, hj⟩ := h
  by_cases z : i = j
  · subst z
    by_cases hl : i < ρ.length
    · rw [List.getElem?_set_self hl] at hj
      cases hj
    · rw [List.getElem?_eq_none (by rw [List.length_set]; omega)] at hj
      cases hj
  · rw [List.getElem?_set_ne z] at hj
    exact ⟨j, ds, hj⟩
theorem rel_set {K : Kw} {B H : Hp} {σ : L2.St} {ρ : En} (r : Rel K B H σ ρ) {i : Nat} {v : V} {d : D} (hd : Dp K B v d) : Rel K B H (σ.set i (some v)) (ρ.set i (.dat d)) := by
  refine ⟨r.ex, by rw [List.length_set, List.length_set]; exact r.len, fun j d' hj => ?_, fun j a ds hj => ?_, fun j j' a ds es hj hj' => ?_⟩
  · by_cases z : i = j
    · subst z
      by_cases hl : i < ρ.length
      · rw [List.getElem?_set_self hl] at hj
        cases hj
        exact ⟨v, by rw [List.getElem?_set_self (by rw [← r.len]; exact hl)], hd⟩
      · rw [List.getElem?_eq_none (by rw [List.length_set]; omega)] at hj
        cases hj
    · rw [List.getElem?_set_ne z] at hj ⊢
      exact r.dat j d' hj
  · by_cases z : i = j
    · subst z
      by_cases hl : i < ρ.length
      · rw [List.getElem?_set_self hl] at hj
        cases hj
      · rw [List.getElem?_eq_none (by rw [List.length_set]; omega)] at hj
        cases hj
    · rw [List.getElem?_set_ne z] at hj ⊢
      exact r.own j a ds hj
  · have back : ∀ (j : Nat) gs, (ρ.set i (.dat d))[j]? = some (.own a gs) → ρ[j]? = some (.own a gs) := fun j gs hj => by
      by_cases z : i = j
      · subst z
        by_cases hl : i < ρ.length
        · rw [List.getElem?_set_self hl] at hj
          cases hj
        · rw [List.getElem?_eq_none (by rw [List.length_set]; omega)] at hj
          cases hj
      · rw [List.getElem?_set_ne z] at hj
        exact hj
    exact r.dis j j' a ds es (back j ds hj) (back j' es hj')
theorem go_set {B H : Hp} {ρ : En} {i : Nat} {d : D} : Go B H ρ B H (ρ.set i (.dat d)) := ⟨Evl.Ex.refl B, fun _ _ h _ => h, fun _ _ h _ => h, fun _ h => .inl (own_set h), fun _ h => h⟩
theorem FinOk.nxGo {X : Cx} {K : Kw} {B H : Hp} {Z : EZ X} (f : FinOk K B H ρ F Z) {B' H' : Hp} {σ' : L2.St} {ρ' : En} (p : F.nx ρ') (g : Go B H ρ B' H' ρ') (r : Rel K B' H' σ' ρ') : Z.z.nx σ' H' := f.nx B' H' σ' ρ' p g r

/-! ### targets -/
theorem vg_name (C : Cst X M sc NK G k) {i : Nat} {v : Bool} {d : D} {p : Pos} (ha : At NK i (x, v, true)) (h : PN (ρ.set i (.dat d))) : VG X (.Name x p) d ρ PN := VG.mk fun vv B H σ Q r dv q =>
  PG.sem (pg_name C.nd (C.ix ha) (C.lo ha) (C.fn ha)) (q B H _ _ h go_set (rel_set r dv))
theorem vgs_nil (h : PN ρ) : VGs X [] [] ρ PN := VGs.mk fun vs B H σ Q r dv q => PGs.sem pgs_nil (by
  cases dv
  exact ⟨rfl, q B H σ ρ h Go.refl r⟩)
theorem vgs_cons {d : D} {ds : List D} (h : VG X e d ρ fun ρ1 => VGs X es ds ρ1 PN) (hs : (assignEach (e :: es) X.env).map (·.2) = assign e X.env :: (assignEach es X.env).map (·.2) := by rfl) : VGs X (e :: es) (d :: ds) ρ PN := VGs.mk fun vs B H σ Q r dv q => by
  refine PGs.sem (pgs_cons pg_sem pgs_sem hs) ?_
  cases dv with
  | cons d1 d2 =>
    refine ⟨_, _, rfl, h.run _ B H σ _ r d1 fun B1 H1 σ1 ρ1 p1 g1 r1 => ?_⟩
    exact p1.run _ B1 H1 σ1 Q r1 (DpAll.mono g1.ex d2) fun B2 H2 σ2 ρ2 p2 g2 r2 => q B2 H2 σ2 ρ2 p2 (g1.trans g2) r2
theorem vg_tup (C : Cst X M sc NK G k) {kk : Nat} {ds : List D} (h : VGs X es ds ρ PN) (hl : ds.length = es.length := by rfl) (hn : (assignEach es X.env).length = es.length := by rfl) (hst : (assignEach es X.env).findIdx? (·.1) = none := by rfl) : VG X (.Tuple es kk pos) (.tuple ds) ρ PN := VG.mk fun vv B H σ Q r dv q => by
  obtain ⟨t, vs, rfl, hT, hv⟩ := dp_tup dv
  exact PG.sem (pg_tup C.calm pgs_sem hn hst) ⟨t, vs, rfl, ex_t r.ex hT, (DpAll.len hv).trans hl, h.run vs B H σ Q r hv q⟩
theorem vg_lst (C : Cst X M sc NK G k) {kk : Nat} {ds : List D} (h : VGs X es ds ρ PN) (hl : ds.length = es.length := by rfl) (hn : (assignEach es X.env).length = es.length := by rfl) (hst : (assignEach es X.env).findIdx? (·.1) = none := by rfl) : VG X (.Tuple es kk pos) (.list ds) ρ PN := VG.mk fun vv B H σ Q r dv q => by
  obtain ⟨t, vs, rfl, hT, hv⟩ := dp_lst dv
  exact PG.sem (pg_unl C.calm pgs_sem hn hst) ⟨t, vs, rfl, ex_l r.ex hT, (DpAll.len hv).trans hl, h.run vs B H σ Q r hv q⟩

/-! ### statements -/
theorem vss_nil (h : F.nx ρ) : VSs X [] ρ F := VSs.mk fun B H σ Z r f => PSs.sem pss_nil (f.nx B H σ ρ h Go.refl r)
theorem vss_one (h : VS X st ρ F) : VSs X [st] ρ F := VSs.mk fun B H σ Z r f => PSs.sem (pss_one ps_sem) (h.run B H σ Z r f)
theorem vss_cons (h : VS X st ρ { F with nx := fun ρ1 => VSs X sts ρ1 F }) : VSs X (st :: sts) ρ F := VSs.mk fun B H σ Z r f => by
  refine PSs.sem (pss_cons ps_sem pss_sem) ?_
  exact h.run B H σ ⟨{ Z.z with nx := ssSem X sts Z.z }, Z.e, Z.tk⟩ r ⟨fun B1 H1 σ1 ρ1 p g r1 => p.run B1 H1 σ1 Z r1 (f.go g), f.rt, f.bk, f.ct, f.ex⟩
theorem vs_pass (h : F.nx ρ) : VS X (.Pass pos) ρ F := VS.mk fun B H σ Z r f => PS.sem ps_pass (f.nx B H σ ρ h Go.refl r)
theorem vs_break (h : F.bk ρ) : VS X (.Break pos) ρ F := VS.mk fun B H σ Z r f => PS.sem ps_break (f.bk B H σ ρ h Go.refl r)
theorem vs_cont (h : F.ct ρ) : VS X (.Continue pos) ρ F := VS.mk fun B H σ Z r f => PS.sem ps_continue (f.ct B H σ ρ h Go.refl r)
theorem vs_ret (h : VD X e ρ F.rt) : VS X (.Return (some e) pos) ρ F := VS.mk fun B H σ Z r f => PS.sem (ps_ret pe_sem) (h.run B H σ _ r fun v d B1 H1 ρ1 p dv g r1 => f.rt v d B1 H1 σ ρ1 p dv g r1)
theorem vs_retN (h : F.rt .none ρ) : VS X (.Return none pos) ρ F := VS.mk fun B H σ Z r f => PS.sem ps_retN (f.rt .non .none B H σ ρ h .non Go.refl r)
theorem vs_if {u v : List Stmt} (h : VT X c ρ fun bb ρ1 => (bb = true → VSs X u ρ1 F) ∧ (bb = false → VSs X v ρ1 F)) : VS X (.If c u v pos) ρ F := VS.mk fun B H σ Z r f => by
  refine PS.sem (ps_if pb_sem pss_sem pss_sem) ?_
  refine h.run B H σ _ r fun bb B1 H1 ρ1 p g r1 => ?_
  cases bb with
  | true => exact (p.1 rfl).run B1 H1 σ Z r1 (f.go g)
  | false => exact (p.2 rfl).run B1 H1 σ Z r1 (f.go g)
theorem vs_expr (h : VD X e ρ fun _ ρ1 => F.nx ρ1) (hs : swapsWith e none pos.line X.env = pure false := by rfl) : VS X (.Expr e pos) ρ F := VS.mk fun B H σ Z r f =>
  PS.sem (ps_expr pe_sem hs) (h.run B H σ _ r fun v d B1 H1 ρ1 p dv g r1 => f.nx B1 H1 σ ρ1 p g r1)
/-- name = e -/
theorem vs_set (C : Cst X M sc NK G k) {i : Nat} {v : Bool} {p : Pos} (ha : At NK i (x, v, true)) (h : VD X e ρ fun d ρ1 => F.nx (ρ1.set i (.dat d))) (hs : swapsWith e (some (.Name x p)) pos.line X.env = pure false := by rfl) : VS X (.Assign [.Name x p] e pos) ρ F := VS.mk fun B H σ Z r f => by
  refine PS.sem (ps_set C.nd (C.ix ha) (C.lo ha) pe_sem hs (C.fn ha)) ?_
  exact h.run B H σ _ r fun w d B1 H1 ρ1 p1 dv g1 r1 => f.nx B1 H1 _ _ p1 (g1.trans go_set) (rel_set r1 dv)
/-- (a, ..) = e -/
theorem vs_asg {tg : Expr} (h : VD X e ρ fun d ρ1 => VG X tg d ρ1 F.nx) (hs : swapsWithSole [tg] e pos.line X.env = pure false := by rfl) (hw : swappedStores [tg] e X.env = pure none := by rfl)
    (h1 : (assignEach [tg] X.env).map (·.2) = [assign tg X.env] := by rfl) : VS X (.Assign [tg] e pos) ρ F := VS.mk fun B H σ Z r f => by
  refine PS.sem (ps_asg pe_sem pg_sem hs hw h1) ?_
  refine h.run B H σ _ r fun v d B1 H1 ρ1 p1 dv g1 r1 => ?_
  exact p1.run v B1 H1 σ _ r1 dv fun B2 H2 σ2 ρ2 p2 g2 r2 => f.nx B2 H2 σ2 ρ2 p2 (g1.trans g2) r2
theorem sw_env {env env' : Env} {ts : List Expr} {v : Expr} (h : env.scope = env'.scope) : swappedStores ts v env = swappedStores ts v env' := by
  unfold swappedStores Env.blockKind Env.kindOf
  rw [h]
/-- a, b = e1, e2 -/
theorem vs_par (C : Cst X M sc NK G k) {i j : Nat} {v w : Bool} {y : Str} {px py pt : Pos} {kt k2 pt2} (hi : At NK i (x, v, true)) (hj : At NK j (y, w, true)) (hij : i ≠ j)
    (h : VD X a ρ fun d ρ1 => VD X b ρ1 fun d2 ρ2 => F.nx ((ρ2.set i (.dat d)).set j (.dat d2)))
    (hw : ∀ env : Env, env.scope = sc → swappedStores [.Tuple [.Name x px, .Name y py] kt pt] (.Tuple [a, b] k2 pt2) env = pure (some [x, y])) (hx : sc.names.lookup x = some .local := by decide +kernel) (hy : sc.names.lookup y = some .local := by decide +kernel)
    (hs : swapsWithSole [.Tuple [.Name x px, .Name y py] kt pt] (.Tuple [a, b] k2 pt2) pos.line X.env = pure false := by rfl)
    (he : starEach [a, b] X.env = (false, eval a X.env) :: starEach [b] X.env := by rfl) (he2 : starEach [b] X.env = (false, eval b X.env) :: starEach [] X.env := by rfl) :
    VS X (.Assign [.Tuple [.Name x px, .Name y py] kt pt] (.Tuple [a, b] k2 pt2) pos) ρ F := VS.mk fun B H σ Z r f => by
  refine PS.sem (ps_par C.calm C.nd (C.ix hi) (C.ix hj) hij (by rw [C.s]; exact hx) (by rw [C.s]; exact hy) (pa_cons pe_sem (pa_cons pe_sem pa_nil he2) he) (hw _ C.s) hs) ?_
  refine h.run B H σ _ r fun vv d B1 H1 ρ1 p1 dv g1 r1 => ?_
  refine p1.run B1 H1 σ _ r1 fun ww d2 B2 H2 ρ2 p2 dw g2 r2 => ⟨vv, ww, rfl, ?_⟩
  exact f.nx B2 H2 _ _ p2 (((g1.trans g2).trans go_set).trans go_set) (rel_set (rel_set r2 (Dp.mono g2.ex dv)) dw)
/-- name = a new list: it is the name's own -/
theorem vs_new (C : Cst X M sc NK G k) {i : Nat} {v : Bool} {p : Pos} (ha : At NK i (x, v, true)) (hi : i < ρ.length) (h : VN X e ρ fun ds ρ1 => ∀ z, F.nx (ρ1.set i (.own z ds))) (hs : swapsWith e (some (.Name x p)) pos.line X.env = pure false := by rfl) : VS X (.Assign [.Name x p] e pos) ρ F := VS.mk fun B H σ Z r f => by
  refine PS.sem (ps_set C.nd (C.ix ha) (C.lo ha) pe_sem hs (C.fn ha)) ?_
  refine h.run B H σ _ r fun z vs ds B1 H1 ρ1 p1 hz h1 bz no dvs g1 r1 => ?_
  have hl : i < ρ1.length := by rw [r1.len, ← r.len]; exact hi
  have own_of : ∀ (j : Nat) a es, (ρ1.set i (.own z ds))[j]? = some (.own a es) → (j = i ∧ a = z ∧ es = ds) ∨ (j ≠ i ∧ ρ1[j]? = some (.own a es)) := fun j a es hj => by
    by_cases w : i = j
    · subst w
      rw [List.getElem?_set_self hl] at hj
      cases hj
      exact .inl ⟨rfl, rfl, rfl⟩
    · rw [List.getElem?_set_ne w] at hj
      exact .inr ⟨fun q => w q.symm, hj⟩
  refine f.nx B1 H1 _ _ (p1 z) ⟨g1.ex, g1.keep, g1.out, fun a ⟨j, es, hj⟩ => ?_, g1.dom⟩ ⟨r1.ex, by rw [List.length_set, List.length_set]; exact r1.len, fun j d hj => ?_, fun j a es hj => ?_, fun j j' a es fs hj hj' => ?_⟩
  · rcases own_of j a es hj with ⟨_, rfl, _⟩ | ⟨_, q⟩
    · exact .inr hz
    · exact g1.own a ⟨j, es, q⟩
  · by_cases w : i = j
    · subst w
      rw [List.getElem?_set_self hl] at hj
      cases hj
    · rw [List.getElem?_set_ne w] at hj ⊢
      exact r1.dat j d hj
  · rcases own_of j a es hj with ⟨rfl, rfl, rfl⟩ | ⟨w, q⟩
    · exact ⟨by rw [List.getElem?_set_self (by rw [← r1.len]; exact hl)], bz, _, h1, vs, rfl, dvs⟩
    · rw [List.getElem?_set_ne (fun q => w q.symm)]
      exact r1.own j a es q
  · rcases own_of j a es hj with ⟨rfl, rfl, rfl⟩ | ⟨w, q⟩
    · rcases own_of j' a fs hj' with ⟨rfl, _, _⟩ | ⟨w', q'⟩
      · rfl
      · exact absurd ⟨j', fs, q'⟩ no
    · rcases own_of j' a fs hj' with ⟨rfl, rfl, _⟩ | ⟨w', q'⟩
      · exact absurd ⟨j, es, q⟩ no
      · exact r1.dis j j' a es fs q q'
/-- a list of one's own is written -/
theorem own_writeO {K : Kw} {B H : Hp} {σ : L2.St} {ρ : En} (r : Rel K B H σ ρ) {i : Nat} {p : Addr} {cs cs' : OD} {u' : HO} (ho : ρ[i]? = some (.own p cs)) (hd : OD.is K B p u' cs') : Rel K B (upd H p u') σ (ρ.set i (.own p cs')) ∧ Go B H ρ B (upd H p u') (ρ.set i (.own p cs')) := by
  obtain ⟨h1, h2, vs, h3, h4⟩ := r.own i p cs ho
  have hlt := (List.getElem?_eq_some_iff.mp ho).1
  have own_of : ∀ (j : Nat) a es, (ρ.set i (.own p cs'))[j]? = some (.own a es) → (j = i ∧ a = p ∧ es = cs') ∨ (j ≠ i ∧ ρ[j]? = some (.own a es)) := fun j a es hj => by
    by_cases w : i = j
    · subst w
      rw [List.getElem?_set_self hlt] at hj
      cases hj
      exact .inl ⟨rfl, rfl, rfl⟩
    · rw [List.getElem?_set_ne w] at hj
      exact .inr ⟨fun q => w q.symm, hj⟩
  have ne : ∀ (j : Nat) a es, j ≠ i → ρ[j]? = some (.own a es) → a ≠ p := fun j a es w q z => w (r.dis j i p es cs (z ▸ q) ho)
  refine ⟨⟨Evl.Ex.mut r.ex h2, by rw [List.length_set]; exact r.len, fun j d hj => ?_, fun j a es hj => ?_, fun j j' a es fs hj hj' => ?_⟩, ⟨Evl.Ex.refl B, fun a o h n => ?_, fun _ _ h _ => h, fun a ⟨j, es, hj⟩ => ?_, fun a z => ?_⟩⟩
  · by_cases w : i = j
    · subst w
      rw [List.getElem?_set_self hlt] at hj
      cases hj
    · rw [List.getElem?_set_ne w] at hj
      exact r.dat j d hj
  · rcases own_of j a es hj with ⟨rfl, rfl, rfl⟩ | ⟨w, q⟩
    · exact ⟨h1, h2, u', upd_same, hd⟩
    · obtain ⟨h5, h6, ws, h7, h8⟩ := r.own j a es q
      exact ⟨h5, h6, ws, by rw [upd_ne (ne j a es w q)]; exact h7, h8⟩
  · rcases own_of j a es hj with ⟨rfl, rfl, rfl⟩ | ⟨w, q⟩
    · rcases own_of j' a fs hj' with ⟨rfl, _, _⟩ | ⟨w', q'⟩
      · rfl
      · exact absurd rfl (ne j' a fs w' q')
    · rcases own_of j' a fs hj' with ⟨rfl, rfl, _⟩ | ⟨w', q'⟩
      · exact absurd rfl (ne j a es w q)
      · exact r.dis j j' a es fs q q'
  · rw [upd_ne (fun z => n ⟨i, cs, by rw [z]; exact ho⟩)]
    exact h
  · rcases own_of j a es hj with ⟨rfl, rfl, rfl⟩ | ⟨w, q⟩
    · exact .inl ⟨_, cs, ho⟩
    · exact .inl ⟨j, es, q⟩
  · by_cases w : a = p
    · rw [w, upd_same] at z
      cases z
    · rw [upd_ne w] at z
      exact z
theorem own_write {K : Kw} {B H : Hp} {σ : L2.St} {ρ : En} (r : Rel K B H σ ρ) {i : Nat} {p : Addr} {cs cs' : List D} {vs' : List V} (ho : ρ[i]? = some (.own p cs)) (hd : DpAll K B vs' cs') : Rel K B (upd H p (.lst vs')) σ (ρ.set i (.own p cs')) ∧ Go B H ρ B (upd H p (.lst vs')) (ρ.set i (.own p cs')) :=
  own_writeO r ho ⟨vs', rfl, hd⟩
/-- xs[j] = e, xs a list of one's own -/
theorem vs_put (C : Cst X M sc NK G k) {i : Nat} {l : Bool} {p : Addr} {cs0 : List D} {px p2 : Pos} (ha : At NK i (x, true, l)) (ho : ρ[i]? = some (.own p cs0))
    (h : VD X e ρ fun d ρ1 => VD X b ρ1 fun y ρ2 => ∃ (n : Int) (j : Nat) (cs : List D), y = .int n ∧ ρ2[i]? = some (.own p cs) ∧ ixN cs.length n = some j ∧ F.nx (ρ2.set i (.own p (cs.set j d))))
    (hs : swapsWithSole [.Subscript (.Name x px) b p2] e pos.line X.env = pure false := by rfl) (hw : swappedStores [.Subscript (.Name x px) b p2] e X.env = pure none := by rfl) (h1 : (assignEach [.Subscript (.Name x px) b p2] X.env).map (·.2) = [assign (.Subscript (.Name x px) b p2) X.env] := by rfl)
    (hd : (x == ("__debug__" : Str)) = false := by decide) (hcd : (x == ("__classdict__" : Str)) = false := by decide)
    (hg : ∀ v, assign (.Subscript (.Name x px) b p2) X.env v = (do
      let ov ← holding [v] (eval (.Name x px) X.env)
      let iv ← holding [v, ov] (eval b X.env)
      standAt p2
      holding [v, ov, iv] (setItem ov iv v)
      release [v, ov, iv] []) := by intro _; rfl) : VS X (.Assign [.Subscript (.Name x px) b p2] e pos) ρ F := VS.mk fun B H σ Z r f => by
  refine PS.sem (ps_asg pe_sem (pg_sub (pe_var (C.ix ha) (C.vi ha) hd hcd) pe_sem set_list hg) hs hw h1) ?_
  refine h.run B H σ _ r fun v d B1 H1 ρ1 p1 dv g1 r1 => ⟨.ref p, (r.own i p cs0 ho).1, ?_⟩
  refine p1.run B1 H1 σ _ r1 fun vy y B2 H2 ρ2 p2 dy g2 r2 => ?_
  obtain ⟨n, j, cs, rfl, ho2, hj, pp⟩ := p2
  obtain ⟨_, _, _, h3, vs, rfl, h4⟩ := r2.own i p cs ho2
  obtain ⟨r3, g3⟩ := own_write r2 ho2 (DpAll.set (Dp.mono g2.ex dv) j h4)
  exact ⟨p, vs, n, j, rfl, dp_int dy, h3, by rw [DpAll.len h4]; exact hj, f.nx B2 _ σ _ pp ((g1.trans g2).trans g3) r3⟩

/-! ### what is walked -/
/-- the iterator's turns give these data -/
def Yields (K : PySem.W.Frag) (J : It) (B : Hp) (ds : List D) : Prop := ∀ (i : Nat) (B1 H1 : Hp), Ex B B1 → Ex B1 H1 →
  (i < ds.length → J.go i H1 ∧ ∀ x H', J.yld i H1 x H' → H' = H1 ∧ ∃ d, ds[i]? = some d ∧ Dp K B1 x d) ∧ (ds.length ≤ i → J.stop i H1)
def iSemI (X : Cx) (tg iter : Expr) : TI := fun σ H R => ∀ pins s, Inv X pins σ H s → wpAny (model X.prog X.w) X.A (eval iter X.env) (fun v s1 => wpAny (model X.prog X.w) X.A (pyIter v) (PIE X pins σ tg R) X.xe s1) X.xe s
theorem pi_sem : PI X tg e (iSemI X tg e) := ⟨fun pins s σ H R I h => h pins s I⟩
theorem PI.sem {wi : TI} (h : PI X tg e wi) {σ : L2.St} {H : Hp} {R : It → Hp → Prop} (q : wi σ H R) : iSemI X tg e σ H R := fun pins s I => h.run pins s σ H R I q
structure VI (X : Cx) (tg iter : Expr) (ρ : En) (P : List D → En → Prop) : Prop where
  run : ∀ B H σ (R : It → Hp → Prop), Rel (kwOf X) B H σ ρ →
  (∀ J ds B' H' ρ', P ds ρ' → Yields X.K J B' ds → Go B H ρ B' H' ρ' → Rel (kwOf X) B' H' σ ρ' → R J H') → iSemI X tg iter σ H R
theorem vi_range {i : Nat} {p : Pos} (C : Cst X M sc NK G k) (hg : At G i "range") (h : VD X a ρ fun d ρ1 => ∃ n : Nat, d = .int (n : Int) ∧ n < 2 ^ 62 ∧ PL ((List.range n).map fun (j : Nat) => PyData.int (j : Int)) ρ1) (hm : M.mg "range" = none := by assumption)
    (hs : starEach [a] X.env = [(false, eval a X.env)] := by rfl) : VI X tg (.Call (.Name "range" p) [a] [] pos) ρ PL := VI.mk fun B H σ R r q => by
  refine PI.sem (pi_range1 (C.g hg) (C.mg hm) (pa_cons pe_sem pa_nil hs) hs) ?_
  refine h.run B H σ _ r fun v d B1 H1 ρ1 p1 dv g1 r1 => ?_
  obtain ⟨n, rfl, hn, pp⟩ := p1
  refine ⟨(n : Int), by rw [dp_int dv], by omega, by omega, q _ _ B1 H1 ρ1 pp (fun j B2 H2 e1 e2 => ⟨fun hj => ⟨?_, fun x H' y => ?_⟩, fun hj => ?_⟩) g1 r1⟩
  · rw [List.length_map, List.length_range] at hj
    show j < (n : Int).toNat
    rw [Int.toNat_natCast]
    exact hj
  · obtain ⟨rfl, rfl⟩ := y
    rw [List.length_map, List.length_range] at hj
    refine ⟨rfl, .int (j : Int), ?_, ?_⟩
    · rw [List.getElem?_map, List.getElem?_range hj]
      rfl
    · rw [Int.zero_add]
      exact .int _
  · rw [List.length_map, List.length_range] at hj
    show (n : Int).toNat ≤ j
    rw [Int.toNat_natCast]
    exact hj
theorem vi_tup (h : VD X e ρ fun d ρ1 => ∃ ds, d = .tuple ds ∧ PL ds ρ1) : VI X tg e ρ PL := VI.mk fun B H σ R r q => by
  refine PI.sem (pi_tup pe_sem) ?_
  refine h.run B H σ _ r fun v d B1 H1 ρ1 p1 dv g1 r1 => ?_
  obtain ⟨ds, rfl, pp⟩ := p1
  obtain ⟨t, vs, rfl, hT, hv⟩ := dp_tup dv
  refine ⟨t, rfl, ⟨vs, ex_t r1.ex hT⟩, q _ ds B1 H1 ρ1 pp (fun j B2 H2 e1 e2 => ⟨fun hj => ?_, fun hj => ⟨vs, ex_t (e1.trans e2) hT, by rw [DpAll.len hv]; exact hj⟩⟩) g1 r1⟩
  have hj' : j < vs.length := by rw [DpAll.len hv]; exact hj
  refine ⟨⟨vs, vs[j], ex_t (e1.trans e2) hT, List.getElem?_eq_getElem hj'⟩, fun x H' y => ?_⟩
  obtain ⟨rfl, y2⟩ := y
  refine ⟨rfl, ?_⟩
  obtain ⟨d, h1, h2⟩ := DpAll.getV hv (y2 vs (ex_t (e1.trans e2) hT))
  exact ⟨d, h1, Dp.mono e1 h2⟩
theorem vi_lst (h : VD X e ρ fun d ρ1 => ∃ ds, d = .list ds ∧ PL ds ρ1) : VI X tg e ρ PL := VI.mk fun B H σ R r q => by
  refine PI.sem (pi_list pe_sem) ?_
  refine h.run B H σ _ r fun v d B1 H1 ρ1 p1 dv g1 r1 => ?_
  obtain ⟨ds, rfl, pp⟩ := p1
  obtain ⟨t, vs, rfl, hT, hv⟩ := dp_lst dv
  refine ⟨t, rfl, ⟨vs, ex_l r1.ex hT⟩, q _ ds B1 H1 ρ1 pp (fun j B2 H2 e1 e2 => ⟨fun hj => ?_, fun hj => ⟨vs, ex_l (e1.trans e2) hT, by rw [DpAll.len hv]; exact hj⟩⟩) g1 r1⟩
  have hj' : j < vs.length := by rw [DpAll.len hv]; exact hj
  refine ⟨⟨vs, vs[j], ex_l (e1.trans e2) hT, List.getElem?_eq_getElem hj'⟩, fun x H' y => ?_⟩
  obtain ⟨rfl, y2⟩ := y
  refine ⟨rfl, ?_⟩
  obtain ⟨d, h1, h2⟩ := DpAll.getV hv (y2 vs (ex_l (e1.trans e2) hT))
  exact ⟨d, h1, Dp.mono e1 h2⟩

/-! ### for -/
theorem vs_for (C : Cst X M sc NK G k) {body : List Stmt} (h : VI X tg e ρ fun ds ρ1 => ∃ W : Nat → En → Prop, W 0 ρ1 ∧
      (∀ (i : Nat) d ρ', ds[i]? = some d → W i ρ' → VG X tg d ρ' fun ρ2 => VSs X body ρ2 { nx := W (i + 1), rt := F.rt, bk := F.nx, ct := W (i + 1), ex := F.ex }) ∧ ∀ ρ', W ds.length ρ' → F.nx ρ')
    (hs : ∀ x, foldedSetIterable e X.env x = pure x := by intro _; rfl) : VS X (.For tg e body [] pos) ρ F := VS.mk fun B H σ Z r f => by
  refine PS.sem (ps_for C.never C.calm pi_sem pg_sem pss_sem hs) ?_
  refine h.run B H σ _ r fun J ds B1 H1 ρ1 p1 yl g1 r1 => ?_
  obtain ⟨W, w0, step, done⟩ := p1
  refine ⟨fun i m σ' H' => m = ds.length - i ∧ i ≤ ds.length ∧ ∃ B' ρ', W i ρ' ∧ Go B1 H1 ρ1 B' H' ρ' ∧ Rel (kwOf X) B' H' σ' ρ', ⟨ds.length, by omega, by omega, B1, ρ1, w0, Go.refl, r1⟩, ?_⟩
  rintro i m σ' H' ⟨rfl, hi, B', ρ', w, g, r'⟩
  obtain ⟨y1, y2⟩ := yl i B' H' g.ex r'.ex
  by_cases hlt : i < ds.length
  · obtain ⟨go, y⟩ := y1 hlt
    refine .inr ⟨go, fun σ2 H2 => ∃ B2 ρ2, W (i + 1) ρ2 ∧ Go B1 H1 ρ1 B2 H2 ρ2 ∧ Rel (kwOf X) B2 H2 σ2 ρ2, fun σ2 H2 ⟨B2, ρ2, w2, g2, r2⟩ => ⟨ds.length - (i + 1), by omega, rfl, hlt, B2, ρ2, w2, g2, r2⟩, fun x H2 hy => ?_⟩
    obtain ⟨rfl, d, hd, dx⟩ := y x H2 hy
    refine (step i d ρ' hd w).run x B' H2 σ' _ r' dx fun B2 H3 σ2 ρ2 p2 g2 r2 => ?_
    refine p2.run B2 H3 σ2 ⟨_, Z.e, Z.tk⟩ r2 ⟨fun B3 H4 σ3 ρ3 p3 g3 r3 => ⟨B3, ρ3, p3, (g.trans g2).trans g3, r3⟩, fun v d B3 H4 σ3 ρ3 p3 dv g3 r3 => f.rt v d B3 H4 σ3 ρ3 p3 dv (g1.trans ((g.trans g2).trans g3)) r3, fun B3 H4 σ3 ρ3 p3 g3 r3 => f.nx B3 H4 σ3 ρ3 p3 (g1.trans ((g.trans g2).trans g3)) r3, fun B3 H4 σ3 ρ3 p3 g3 r3 => ⟨B3, ρ3, p3, (g.trans g2).trans g3, r3⟩, fun c dx B3 H4 σ3 ρ3 p3 k3 g3 r3 => f.ex c dx B3 H4 σ3 ρ3 p3 k3 (g1.trans ((g.trans g2).trans g3)) r3⟩
  · have e : i = ds.length := by omega
    subst e
    exact .inl ⟨y2 (Nat.le_refl _), f.nx B' H' σ' ρ' (done ρ' w) (g1.trans g) r'⟩
theorem vs_while (C : Cst X M sc NK G k) {body : List Stmt} (W : Nat → En → Prop) (m0 : Nat) (h0 : W m0 ρ)
    (h : ∀ m ρ', W m ρ' → VT X c ρ' fun bb ρ1 => (bb = true → VSs X body ρ1 { nx := fun ρ2 => ∃ m', m' < m ∧ W m' ρ2, rt := F.rt, bk := F.nx, ct := fun ρ2 => ∃ m', m' < m ∧ W m' ρ2, ex := F.ex }) ∧ (bb = false → F.nx ρ1)) : VS X (.While c body [] pos) ρ F := VS.mk fun B H σ Z r f => by
  refine PS.sem (ps_while C.never pb_sem pss_sem) ?_
  refine ⟨fun m σ' H' => ∃ B' ρ', W m ρ' ∧ Go B H ρ B' H' ρ' ∧ Rel (kwOf X) B' H' σ' ρ', ⟨m0, B, ρ, h0, Go.refl, r⟩, fun m σ' H' ⟨B', ρ', w, g, r'⟩ => ?_⟩
  refine (h m ρ' w).run B' H' σ' _ r' fun bb B1 H1 ρ1 p1 g1 r1 => ?_
  cases bb with
  | true =>
    rw [if_pos rfl]
    refine ⟨fun σ2 H2 => ∃ m', m' < m ∧ ∃ B' ρ', W m' ρ' ∧ Go B H ρ B' H2 ρ' ∧ Rel (kwOf X) B' H2 σ2 ρ', fun σ2 H2 ⟨m', hm, q⟩ => ⟨m', hm, q⟩, (p1.1 rfl).run B1 H1 σ' ⟨_, Z.e, Z.tk⟩ r1 ⟨fun B3 H4 σ3 ρ3 p3 g3 r3 => ?_, fun v d B3 H4 σ3 ρ3 p3 dv g3 r3 => f.rt v d B3 H4 σ3 ρ3 p3 dv ((g.trans g1).trans g3) r3, fun B3 H4 σ3 ρ3 p3 g3 r3 => f.nx B3 H4 σ3 ρ3 p3 ((g.trans g1).trans g3) r3, fun B3 H4 σ3 ρ3 p3 g3 r3 => ?_, fun c dx B3 H4 σ3 ρ3 p3 k3 g3 r3 => f.ex c dx B3 H4 σ3 ρ3 p3 k3 ((g.trans g1).trans g3) r3⟩⟩
    · obtain ⟨m', hm, w'⟩ := p3
      exact ⟨m', hm, B3, ρ3, w', (g.trans g1).trans g3, r3⟩
    · obtain ⟨m', hm, w'⟩ := p3
      exact ⟨m', hm, B3, ρ3, w', (g.trans g1).trans g3, r3⟩
  | false =>
    rw [if_neg Bool.false_ne_true]
    exact f.nx B1 H1 σ' ρ1 (p1.2 rfl) (g.trans g1) r1
end

open PySem PySem.Spec PyProof.Rows L2
open Evl (Ex)

section
variable {X : Cx} {M : Md} {sc : Scope} {NK : List (Str × Bool × Bool)} {G : List Str} {k : Nat} {ρ : En} {P : D → En → Prop} {PL : List D → En → Prop} {pos : Pos} {e : Expr}

/-! ### comprehensions -/
def uSem (X : Cx) (scope : Scope) (e : Expr) : TE := fun σ H Q => ∀ s H0 C cl fp, eSem (X.blk s H0 scope (compEnvC scope cl C X.env) fp) e σ H Q
theorem pe_uSem {scope : Scope} : ∀ (s : Shared) (H : Hp) (C : Addr) (cl : List (Str × Addr)) (fp : List Addr), PE (X.blk s H scope (compEnvC scope cl C X.env) fp) e (uSem X scope e) :=
  fun s H C cl fp => ⟨fun pins s' σ H' Q I h => h s H C cl fp pins s' I⟩
theorem rel_no {K : Kw} {B H : Hp} {σ σ2 : L2.St} {ρ : En} {i : Nat} (r : Rel K B H σ2 ρ) (h : σ2.set i none = σ.set i none) : Rel K B H σ (ρ.set i .no) := by
  have hl : σ2.length = σ.length := by
    have := congrArg List.length h
    rw [List.length_set, List.length_set] at this
    exact this
  have back : ∀ (j : Nat) s, s ≠ Sl.no → (ρ.set i .no)[j]? = some s → j ≠ i ∧ ρ[j]? = some s := fun j s hs hj => by
    by_cases z : i = j
    · subst z
      by_cases hi : i < ρ.length
      · rw [List.getElem?_set_self hi] at hj
        exact absurd (Option.some.inj hj).symm hs
      · rw [List.getElem?_eq_none (by rw [List.length_set]; omega)] at hj
        cases hj
    · rw [List.getElem?_set_ne z] at hj
      exact ⟨fun q => z q.symm, hj⟩
  have eq : ∀ j, j ≠ i → σ2[j]? = σ[j]? := fun j hj => by
    have := congrArg (fun l : L2.St => l[j]?) h
    simp only [List.getElem?_set_ne (Ne.symm hj)] at this
    exact this
  refine ⟨r.ex, by rw [List.length_set, r.len, hl], fun j d hj => ?_, fun j a ds hj => ?_, fun j j' a ds es hj hj' => ?_⟩
  · obtain ⟨h1, h2⟩ := back j (.dat d) (by intro z; cases z) hj
    rw [← eq j h1]
    exact r.dat j d h2
  · obtain ⟨h1, h2⟩ := back j (.own a ds) (by intro z; cases z) hj
    rw [← eq j h1]
    exact r.own j a ds h2
  · exact r.dis j j' a ds es (back j (.own a ds) (by intro z; cases z) hj).2 (back j' (.own a es) (by intro z; cases z) hj').2
theorem own_no {ρ : En} {i : Nat} {a : Addr} (h : Own (ρ.set i .no) a) : Own ρ a := by
  obtain ⟨j, ds, hj⟩ := h
  by_cases z : i = j
  · subst z
    by_cases hl : i < ρ.length
    · rw [List.getElem?_set_self hl] at hj
      cases hj
    · rw [List.getElem?_eq_none (by rw [List.length_set]; omega)] at hj
      cases hj
  · rw [List.getElem?_set_ne z] at hj
    exact ⟨j, ds, hj⟩
theorem go_no {B H : Hp} {ρ : En} {i : Nat} : Go B H ρ B H (ρ.set i .no) := ⟨Evl.Ex.refl B, fun _ _ h _ => h, fun _ _ h _ => h, fun _ h => .inl (own_no h), fun _ h => h⟩
/-- the list that is being made, one more -/
theorem acc_put {K : Kw} {B H B1 H1 : Hp} {σ : L2.St} {ρ ρ1 : En} {p : Addr} {o : HO} (g : Go B H ρ B1 H1 ρ1) (r : Rel K B1 H1 σ ρ1) (hp : H p = none) (bp : B1 p = none) (no : ¬ Own ρ1 p) : Go B H ρ B1 (upd H1 p o) ρ1 ∧ Rel K B1 (upd H1 p o) σ ρ1 := by
  refine ⟨⟨g.ex, fun a u h n => ?_, g.out, g.own, fun a z => ?_⟩, ⟨Evl.Ex.mut r.ex bp, r.len, r.dat, fun i a ds h => ?_, r.dis⟩⟩
  · rw [upd_ne (ne_of_none h hp)]
    exact g.keep a u h n
  · by_cases w : a = p
    · rw [w]
      exact hp
    · rw [upd_ne w] at z
      exact g.dom a z
  · obtain ⟨h1, h2, vs, h3, h4⟩ := r.own i a ds h
    exact ⟨h1, h2, vs, by rw [upd_ne (fun z => no ⟨i, ds, by rw [← z]; exact h⟩)]; exact h3, h4⟩
/-- what a comprehension's reading asks -/
theorem lc_read {B H : Hp} {σ : L2.St} {Q : VK} {scope : Scope} {i : Nat} {y : Str} {py : Pos} {elt iter : Expr} {Cb : Cx → Prop} (r : Rel (kwOf X) B H σ ρ)
    (cb : ∀ (s : Shared) (H : Hp) (Ca : Addr) (cl : List (Str × Addr)) (fp : List Addr), Cb (X.blk s H scope (compEnvC scope cl Ca X.env) fp))
    (h : VI X (.Name y py) iter ρ fun ds ρ1 => ds.length ≤ 100000 ∧ ∃ W : Nat → List D → En → Prop, W 0 [] ρ1 ∧
      (∀ (j : Nat) d acc ρ', ds[j]? = some d → W j acc ρ' → ∀ X', Cb X' → VD X' elt (ρ'.set i (.dat d)) fun u ρ4 => W (j + 1) (acc ++ [u]) (ρ4.set i .no)) ∧
      ∀ acc ρ', W ds.length acc ρ' → PL acc ρ')
    (q : ∀ p vs ds B' H' ρ', PL ds ρ' → H p = none → H' p = some (.lst vs) → B' p = none → ¬ Own ρ' p → DpAll X.K B' vs ds → Go B H ρ B' H' ρ' → Rel (kwOf X) B' H' σ ρ' → Q (.ref p) H') :
    tLc (iSemI X (.Name y py) iter) (gName i) tYes (uSem X scope elt) [i] σ H Q := by
  refine h.run B H σ _ r fun J ds B1 H1 ρ1 p1 yl g1 r1 Dl hD => ?_
  obtain ⟨hlen, W, w0, step, done⟩ := p1
  have bD : B1 Dl = none := by
    cases e : B1 Dl with
    | none => rfl
    | some u =>
      rw [r1.ex Dl u e] at hD
      cases hD
  have nD : ¬ Own ρ1 Dl := fun ⟨j, es, hj⟩ => by
    obtain ⟨_, _, ws, h7, _⟩ := r1.own j Dl es hj
    rw [hD] at h7
    cases h7
  refine ⟨fun j m H' => m = ds.length - j ∧ j ≤ ds.length ∧ ∃ acc vs B' ρ', W j acc ρ' ∧ acc.length = j ∧ H' Dl = some (.lst vs) ∧ B' Dl = none ∧ ¬ Own ρ' Dl ∧ DpAll X.K B' vs acc ∧ Go B1 H1 ρ1 B' H' ρ' ∧ Rel (kwOf X) B' H' σ ρ', ⟨ds.length, by omega, by omega, [], [], B1, ρ1, w0, rfl, upd_same, bD, nD, .nil, (acc_put Go.refl r1 hD bD nD).1, (acc_put Go.refl r1 hD bD nD).2⟩, ?_⟩
  rintro j m H' ⟨rfl, hj, acc, vs, B', ρ', w, hacc, hl, bl, nl, dacc, g, r'⟩
  obtain ⟨y1, y2⟩ := yl j B' H' g.ex r'.ex
  by_cases hlt : j < ds.length
  · obtain ⟨go, yy⟩ := y1 hlt
    refine .inr ⟨go, fun H2 => ∃ acc vs B' ρ', W (j + 1) acc ρ' ∧ acc.length = j + 1 ∧ H2 Dl = some (.lst vs) ∧ B' Dl = none ∧ ¬ Own ρ' Dl ∧ DpAll X.K B' vs acc ∧ Go B1 H1 ρ1 B' H2 ρ' ∧ Rel (kwOf X) B' H2 σ ρ', fun H2 hN2 => ⟨ds.length - (j + 1), by omega, rfl, hlt, hN2⟩, fun x H2 hy2 => ?_⟩
    obtain ⟨rfl, d, hd, dx⟩ := yy x H2 hy2
    have st := step j d acc ρ' hd w
    -- the block's slots
    have rw0 : Rel (kwOf X) B' H2 (σ.set i none) (ρ'.set i .no) := rel_no r' (by rw [List.set_set])
    have rw1 : Rel (kwOf X) B' H2 ((wipe σ [i]).set i (some x)) (ρ'.set i (.dat d)) := by
      have q1 : Rel (kwOf X) B' H2 ((σ.set i none).set i (some x)) ((ρ'.set i .no).set i (.dat d)) := rel_set (i := i) rw0 dx
      have q2 : (ρ'.set i .no).set i (Sl.dat d) = ρ'.set i (.dat d) := List.set_set ..
      rw [q2] at q1
      exact q1
    refine ⟨?_, fun s0 H0 Ca cl fp => ?_⟩
    · show (((σ.set i none).set i (some x)).set i none) = σ.set i none
      rw [List.set_set, List.set_set]
    · have vd := st _ (cb s0 H0 Ca cl fp)
      refine vd.run B' H2 ((wipe σ [i]).set i (some x)) _ rw1 fun u du B4 H4 ρ4 p4 dv g4 r4 => ?_
      have gA : Go B1 H1 ρ1 B4 H4 ρ4 := (g.trans go_set).trans g4
      have nl2 : ¬ Own (ρ'.set i (.dat d)) Dl := fun z => nl (own_set z)
      have hD4 : H4 Dl = some (.lst vs) := g4.keep Dl _ hl nl2
      have bD4 : B4 Dl = none := g4.out Dl (by rw [hl]; exact fun z => by cases z) bl nl2
      have nD4 : ¬ Own ρ4 Dl := fun z => (g4.own Dl z).elim nl2 fun e => by rw [hl] at e; cases e
      have rS : Rel (kwOf X) B4 H4 σ (ρ4.set i .no) := rel_no r4 (by
        show ((σ.set i none).set i (some x)).set i none = σ.set i none
        rw [List.set_set, List.set_set])
      have gS : Go B1 H1 ρ1 B4 H4 (ρ4.set i .no) := gA.trans go_no
      have nS : ¬ Own (ρ4.set i .no) Dl := fun z => nD4 (own_no z)
      obtain ⟨gF, rF⟩ := acc_put (o := .lst (vs ++ [u])) gS rS hD bD4 nS
      refine ⟨vs, hD4, ?_, acc ++ [du], vs ++ [u], B4, ρ4.set i .no, p4, by rw [List.length_append, hacc]; rfl, upd_same, bD4, nS, DpAll.app (DpAll.mono g4.ex dacc) (.cons dv .nil), gF, rF⟩
      rw [DpAll.len dacc, hacc]
      exact Nat.lt_of_lt_of_le hlt (Nat.le_trans hlen (by decide))
  · have e : j = ds.length := by omega
    subst e
    exact .inl ⟨y2 (Nat.le_refl _), q Dl vs acc B' H' ρ' (done acc ρ' w) (g1.dom Dl hD) hl bl nl dacc (g1.trans g) r'⟩
/-- [elt for y in iter] -/
theorem vn_lc (C : Cst X M sc NK G k) {scope : Scope} {i : Nat} {y : Str} {py : Pos} {elt iter : Expr} {v : Bool} (NK' : List (Str × Bool × Bool)) (G' : List Str) (hy : At NK' i (y, v, true))
    (h : VI X (.Name y py) iter ρ fun ds ρ1 => ds.length ≤ 100000 ∧ ∃ W : Nat → List D → En → Prop, W 0 [] ρ1 ∧
      (∀ (j : Nat) d acc ρ', ds[j]? = some d → W j acc ρ' → ∀ X', Cst X' M (relS scope sc) NK' G' k → VD X' elt (ρ'.set i (.dat d)) fun u ρ4 => W (j + 1) (acc ++ [u]) (ρ4.set i .no)) ∧
      ∀ acc ρ', W ds.length acc ρ' → PL acc ρ')
    (ok : blkC (NK.map (·.1)) sc scope [(y, i)] = true := by decide +kernel) (hN : NK'.map (·.1) = NK.map (·.1) := by rfl) (hc : chk (relS scope sc) false NK' G' = true := by decide +kernel)
    (hs : ∀ x, foldedSetIterable iter X.env x = pure x := by intro _; rfl) : VN X (.ListComp elt [⟨.Name y py, iter, [], 0⟩] scope pos) ρ PL := VN.mk fun B H σ Q r q => by
  have ok' : BlkOk X.N X.env.scope scope [(y, i)] := by
    rw [C.n, C.s]
    exact blkOk_by ok
  have cb : ∀ (s : Shared) (H : Hp) (Ca : Addr) (cl : List (Str × Addr)) (fp : List Addr), Cst (X.blk s H scope (compEnvC scope cl Ca X.env) fp) M (relS scope sc) NK' G' k := fun s H Ca cl fp => cst_blk C hN hc
  exact PE.sem (pe_lc (g := gName i) (tt := tYes) C.calm C.nd pi_sem ok' (fun s H Ca cl fp => pg_name (cb s H Ca cl fp).nd ((cb s H Ca cl fp).ix hy) ((cb s H Ca cl fp).lo hy) ((cb s H Ca cl fp).fn hy)) (fun _ _ _ _ _ => pts_nil) pe_uSem hs)
    (lc_read (Cb := fun X' => Cst X' M (relS scope sc) NK' G' k) r cb h q)
/-- a new list into a slot: as one's own -/
theorem own_newO {K : Kw} {B H B1 H1 : Hp} {σ : L2.St} {ρ ρ1 : En} {i : Nat} {z : Addr} {u : HO} {ds : OD} (hl : i < ρ1.length) (hz : H z = none) (h1 : H1 z = some u) (bz : B1 z = none) (no : ¬ Own ρ1 z) (dvs : OD.is K B1 z u ds) (g1 : Go B H ρ B1 H1 ρ1) (r1 : Rel K B1 H1 σ ρ1) :
    Go B H ρ B1 H1 (ρ1.set i (.own z ds)) ∧ Rel K B1 H1 (σ.set i (some (.ref z))) (ρ1.set i (.own z ds)) := by
  have own_of : ∀ (j : Nat) a es, (ρ1.set i (.own z ds))[j]? = some (.own a es) → (j = i ∧ a = z ∧ es = ds) ∨ (j ≠ i ∧ ρ1[j]? = some (.own a es)) := fun j a es hj => by
    by_cases w : i = j
    · subst w
      rw [List.getElem?_set_self hl] at hj
      cases hj
      exact .inl ⟨rfl, rfl, rfl⟩
    · rw [List.getElem?_set_ne w] at hj
      exact .inr ⟨fun q => w q.symm, hj⟩
  refine ⟨⟨g1.ex, g1.keep, g1.out, fun a ⟨j, es, hj⟩ => ?_, g1.dom⟩, ⟨r1.ex, by rw [List.length_set, List.length_set]; exact r1.len, fun j d hj => ?_, fun j a es hj => ?_, fun j j' a es fs hj hj' => ?_⟩⟩
  · rcases own_of j a es hj with ⟨_, rfl, _⟩ | ⟨_, q⟩
    · exact .inr hz
    · exact g1.own a ⟨j, es, q⟩
  · by_cases w : i = j
    · subst w
      rw [List.getElem?_set_self hl] at hj
      cases hj
    · rw [List.getElem?_set_ne w] at hj ⊢
      exact r1.dat j d hj
  · rcases own_of j a es hj with ⟨rfl, rfl, rfl⟩ | ⟨w, q⟩
    · exact ⟨by rw [List.getElem?_set_self (by rw [← r1.len]; exact hl)], bz, u, h1, dvs⟩
    · rw [List.getElem?_set_ne (fun q => w q.symm)]
      exact r1.own j a es q
  · rcases own_of j a es hj with ⟨rfl, rfl, rfl⟩ | ⟨w, q⟩
    · rcases own_of j' a fs hj' with ⟨rfl, _, _⟩ | ⟨w', q'⟩
      · rfl
      · exact absurd ⟨j', fs, q'⟩ no
    · rcases own_of j' a fs hj' with ⟨rfl, rfl, _⟩ | ⟨w', q'⟩
      · exact absurd ⟨j, es, q⟩ no
      · exact r1.dis j j' a es fs q q'
theorem own_new {K : Kw} {B H B1 H1 : Hp} {σ : L2.St} {ρ ρ1 : En} {i : Nat} {z : Addr} {vs : List V} {ds : List D} (hl : i < ρ1.length) (hz : H z = none) (h1 : H1 z = some (.lst vs)) (bz : B1 z = none) (no : ¬ Own ρ1 z) (dvs : DpAll K B1 vs ds) (g1 : Go B H ρ B1 H1 ρ1) (r1 : Rel K B1 H1 σ ρ1) :
    Go B H ρ B1 H1 (ρ1.set i (.own z ds)) ∧ Rel K B1 H1 (σ.set i (some (.ref z))) (ρ1.set i (.own z ds)) := own_newO hl hz h1 bz no ⟨vs, rfl, dvs⟩ g1 r1
/-- a slot's own list is told as data that stays -/
theorem own_frz {K : Kw} {B H B1 H1 : Hp} {σ : L2.St} {ρ ρ1 : En} {z : Addr} {vs : List V} {ds : List D} (hz : H z = none) (h1 : H1 z = some (.lst vs)) (bz : B1 z = none) (no : ¬ Own ρ1 z) (dvs : DpAll K B1 vs ds) (g1 : Go B H ρ B1 H1 ρ1) (r1 : Rel K B1 H1 σ ρ1) :
    Go B H ρ (upd B1 z (.lst vs)) H1 ρ1 ∧ Rel K (upd B1 z (.lst vs)) H1 σ ρ1 ∧ Dp K (upd B1 z (.lst vs)) (.ref z) (.list ds) := by
  have eB : Ex B1 (upd B1 z (.lst vs)) := Evl.Ex.new bz
  have ne : ∀ a, Own ρ1 a → a ≠ z := fun a w e => no (by rw [← e]; exact w)
  refine ⟨⟨g1.ex.trans eB, g1.keep, fun a h1 h2 h3 => ?_, g1.own, g1.dom⟩, ⟨fun a u ha => ?_, r1.len, fun i d hi => ?_, fun i a ds' hi => ?_, r1.dis⟩, .lst (.inl (.inl upd_same)) (DpAll.mono eB dvs)⟩
  · rw [upd_ne (fun w => h1 (by rw [w]; exact hz))]
    exact g1.out a h1 h2 h3
  · by_cases w : a = z
    · rw [w, upd_same] at ha
      rw [w, h1]
      exact ha
    · rw [upd_ne w] at ha
      exact r1.ex a u ha
  · obtain ⟨v, h1, h2⟩ := r1.dat i d hi
    exact ⟨v, h1, Dp.mono eB h2⟩
  · obtain ⟨h1, h2, ws, h3, h4⟩ := r1.own i a ds' hi
    refine ⟨h1, ?_, ws, h3, OD.mono eB h4⟩
    rw [upd_ne (ne a ⟨i, ds', hi⟩)]
    exact h2
/-- name = [elt for y in iter], on one line, as data that stays -/
theorem vs_setLc (C : Cst X M sc NK G k) {F : Fin} {scope : Scope} {i m : Nat} {x y : Str} {px py spos : Pos} {elt iter : Expr} {v v2 : Bool} (NK' : List (Str × Bool × Bool)) (G' : List Str) (hx : At NK m (x, v2, true)) (hy : At NK' i (y, v, true))
    (h : VI X (.Name y py) iter ρ fun ds ρ1 => ds.length ≤ 100000 ∧ ∃ W : Nat → List D → En → Prop, W 0 [] ρ1 ∧
      (∀ (j : Nat) d acc ρ', ds[j]? = some d → W j acc ρ' → ∀ X', Cst X' M (relS scope sc) NK' G' k → VD X' elt (ρ'.set i (.dat d)) fun u ρ4 => W (j + 1) (acc ++ [u]) (ρ4.set i .no)) ∧
      ∀ acc ρ', W ds.length acc ρ' → F.nx (ρ'.set m (.dat (.list acc))))
    (hk : sc.kind = .function := by rfl) (hxl : sc.names.lookup x = some .local := by decide +kernel) (hpl : (px.line == pos.line) = true := by rfl) (hpa : (scope.names.any fun (n, k) => n == x && (k == .local || k == .cell)) = false := by decide +kernel)
    (ok : blkC (NK.map (·.1)) sc scope [(y, i)] = true := by decide +kernel) (hN : NK'.map (·.1) = NK.map (·.1) := by rfl) (hc : chk (relS scope sc) false NK' G' = true := by decide +kernel)
    (hs : ∀ x, foldedSetIterable iter X.env x = pure x := by intro _; rfl) : VS X (.Assign [.Name x px] (.ListComp elt [⟨.Name y py, iter, [], 0⟩] scope pos) spos) ρ F := VS.mk fun B H σ Z r f => by
  have ok' : BlkOk X.N X.env.scope scope [(y, i)] := by
    rw [C.n, C.s]
    exact blkOk_by ok
  have cb : ∀ (s : Shared) (H : Hp) (Ca : Addr) (cl : List (Str × Addr)) (fp : List Addr), Cst (X.blk s H scope (compEnvC scope cl Ca X.env) fp) M (relS scope sc) NK' G' k := fun s H Ca cl fp => cst_blk C hN hc
  refine PS.sem (ps_setLc (g := gName i) (tt := tYes) (i := m) C.calm C.nd (C.ix hx) (by rw [C.s]; exact hxl) (sw_true (by rw [C.s]; exact hk) (by rw [C.s]; exact hxl) hpl hpa) pi_sem ok' (fun s H Ca cl fp => pg_name (cb s H Ca cl fp).nd ((cb s H Ca cl fp).ix hy) ((cb s H Ca cl fp).lo hy) ((cb s H Ca cl fp).fn hy)) (fun _ _ _ _ _ => pts_nil) pe_uSem hs) ?_
  refine lc_read (Cb := fun X' => Cst X' M (relS scope sc) NK' G' k) (PL := fun acc ρ' => F.nx (ρ'.set m (.dat (.list acc)))) r cb h fun z vs ds B1 H1 ρ1 p hz h1 bz no dvs g1 r1 => ?_
  obtain ⟨g2, r2, d2⟩ := own_frz hz h1 bz no dvs g1 r1
  exact f.nx _ H1 _ _ p (g2.trans go_set) (rel_set r2 d2)
end

/-! ### defs -/
section
variable {M : Md} {x : Str} {st : Stmt} {f : Addr} {fd : FuncData} {N ps : List Str} {NK : List (Str × Bool × Bool)} {G : List Str} {k n : Nat}
theorem start_get {vs : List V} {N : List Str} {i : Nat} {v : V} (h : vs[i]? = some v) : (L2.start N vs)[i]? = some (some v) := by
  unfold L2.start
  rw [List.getElem?_append_left (by rw [List.length_map]; exact (List.getElem?_eq_some_iff.mp h).1), List.getElem?_map, h]
  rfl
theorem slots_get {ds : List D} {m i : Nat} {s : Sl} (h : (ds.map Sl.dat ++ List.replicate m Sl.no)[i]? = some s) : (∃ d, s = .dat d ∧ ds[i]? = some d) ∨ s = .no := by
  by_cases hi : i < ds.length
  · rw [List.getElem?_append_left (by rw [List.length_map]; exact hi), List.getElem?_map] at h
    cases e : ds[i]? with
    | none =>
      rw [e] at h
      cases h
    | some d =>
      rw [e] at h
      cases h
      exact .inl ⟨d, rfl, rfl⟩
  · rw [List.getElem?_append_right (by rw [List.length_map]; omega), List.getElem?_replicate] at h
    split at h
    · cases h
      exact .inr rfl
    · cases h
theorem rel_start {K : Kw} {B H : Hp} {vs : List V} {ds : List D} (e : Ex B H) (h : DpAll K B vs ds) (hl : ds.length ≤ N.length) : Rel K B H (L2.start N vs) (ds.map Sl.dat ++ List.replicate (N.length - ds.length) Sl.no) := by
  refine ⟨e, ?_, fun i d hi => ?_, fun i a es hi => ?_, fun i j a es fs hi _ => ?_⟩
  · unfold L2.start
    rw [List.length_append, List.length_append, List.length_map, List.length_map, List.length_replicate, List.length_replicate, DpAll.len h]
  · rcases slots_get hi with ⟨d', e1, e2⟩ | e1
    · cases e1
      obtain ⟨v, h1, h2⟩ := DpAll.get h e2
      exact ⟨v, start_get h1, h2⟩
    · cases e1
  · rcases slots_get hi with ⟨d', e1, e2⟩ | e1 <;> cases e1
  · rcases slots_get hi with ⟨d', e1, e2⟩ | e1 <;> cases e1
theorem fnOk_mk {S : List D → (D → Prop) → Prop} (F : Fun M.K x x st f fd) (Sc : FnScope N ps (defScope st)) (hN : N = NK.map (·.1)) (hc : chk (defScope st) true NK G = true) (hn : ps.length = n) (hnN : n ≤ N.length)
    (body : ∀ X, Cst X M (defScope st) NK G k → ∀ ds W, ds.length = n → S ds W → VSs X (defBody st) (ds.map Sl.dat ++ List.replicate (N.length - n) Sl.no) { nx := fun _ => W .none, rt := fun d _ => W d }) : FnOk M.prog M.w M.K M.mg M.base CX0 (k + 1) f fd ps (DS M.K n S) := by
  refine F.ok Sc (fun vs H Q E h => ?_) (fun cdv A outer s H vs Q E hr h => ?_)
  · obtain ⟨B, ds, W, e, d, hl, _⟩ := h
    rw [DpAll.len d, hl, hn]
  · obtain ⟨B, ds, W, e, d, hl, hS, q⟩ := h
    have C : Cst (cxOf CX0 M.prog M.w M.K M.mg M.base N x (defScope st) f cdv A outer s H E).nox M (defScope st) NK G k := cst_def hN Sc.nd hc hr
    refine ⟨_, pss_sem, ?_⟩
    have bd := body _ C ds W hl hS
    have r0 := rel_start (K := kwM M) (N := N) (ds := ds) e d (by omega)
    rw [hl] at r0
    have no0 : ∀ a, ¬ Own (ds.map Sl.dat ++ List.replicate (N.length - n) Sl.no) a := fun a ⟨i, es, hi⟩ => by
      rcases slots_get hi with ⟨d', e1, e2⟩ | e1 <;> cases e1
    refine bd.run B H _ ⟨_, fun _ _ _ _ => False, takes0⟩ r0 ⟨fun B' H' σ' ρ' p g r => ?_, fun v dd B' H' σ' ρ' p dv g r => ?_, fun _ _ _ _ p => p.elim, fun _ _ _ _ p => p.elim, fun _ _ _ _ _ _ p => p.elim⟩
    · exact q .non .none B' H' p .non g.ex r.ex (fun a o h => g.keep a o h (no0 a)) fun a h1 h2 => g.out a h1 h2 (no0 a)
    · exact q v dd B' H' p dv g.ex r.ex (fun a o h => g.keep a o h (no0 a)) fun a h1 h2 => g.out a h1 h2 (no0 a)
theorem fnD_mk {S : List D → (D → Prop) → Prop} (F : Fun M.K x x st f fd) (Sc : FnScope N ps (defScope st)) (hm : M.mg x = some (.ref f)) (b : Binds M.K fd ps []) (hN : N = NK.map (·.1)) (hc : chk (defScope st) true NK G = true) (hn : ps.length = n) (hnN : n ≤ N.length)
    (body : ∀ X, Cst X M (defScope st) NK G k → ∀ ds W, ds.length = n → S ds W → VSs X (defBody st) (ds.map Sl.dat ++ List.replicate (N.length - n) Sl.no) { nx := fun _ => W .none, rt := fun d _ => W d }) : FnD M (k + 1) x n S :=
  ⟨f, fd, ps, fnOk_mk F Sc hN hc hn hnN body, hm, F.kp, b⟩
theorem fnM_mk {S : List D → List D → (D → List D → Prop) → Prop} (F : Fun M.K x x st f fd) (Sc : FnScope N ps (defScope st)) (hm : M.mg x = some (.ref f)) (b : Binds M.K fd ps []) (hN : N = NK.map (·.1)) (hc : chk (defScope st) true NK G = true) (hn : ps.length = n + 1) (hnN : n + 1 ≤ N.length)
    (body : ∀ X, Cst X M (defScope st) NK G k → ∀ p cs ds W, ds.length = n → S cs ds W → VSs X (defBody st) (.own p cs :: (ds.map Sl.dat ++ List.replicate (N.length - (n + 1)) Sl.no)) { nx := fun ρ' => ∃ cs', ρ'[0]? = some (.own p cs') ∧ W .none cs', rt := fun d ρ' => ∃ cs', ρ'[0]? = some (.own p cs') ∧ W d cs' }) : FnM M (k + 1) x n S := by
  refine ⟨f, fd, ps, ?_, hm, F.kp, b⟩
  refine F.ok Sc (fun vs H Q E h => ?_) (fun cdv A outer s H vs Q E hr h => ?_)
  · obtain ⟨B, p, xs, cs, ws, ds, W, rfl, e, bp, hp, dx, d, hl, _⟩ := h
    rw [List.length_cons, DpAll.len d, hl, hn]
  · obtain ⟨B, p, xs, cs, ws, ds, W, rfl, e, bp, hp, dx, d, hl, hS, q⟩ := h
    have C : Cst (cxOf CX0 M.prog M.w M.K M.mg M.base N x (defScope st) f cdv A outer s H E).nox M (defScope st) NK G k := cst_def hN Sc.nd hc hr
    refine ⟨_, pss_sem, ?_⟩
    have bd := body _ C p cs ds W hl hS
    have own0 : ∀ a, Own (.own p cs :: (ds.map Sl.dat ++ List.replicate (N.length - (n + 1)) Sl.no)) a → a = p := fun a ⟨i, es, hi⟩ => by
      cases i with
      | zero => cases hi; rfl
      | succ i =>
        rw [List.getElem?_cons_succ] at hi
        rcases slots_get hi with ⟨d', e1, e2⟩ | e1 <;> cases e1
    have r0 : Rel (kwM M) B H (L2.start N (.ref p :: ws)) (.own p cs :: (ds.map Sl.dat ++ List.replicate (N.length - (n + 1)) Sl.no)) := by
      refine ⟨e, ?_, fun i dd hi => ?_, fun i a es hi => ?_, fun i j a es fs hi hj => ?_⟩
      · unfold L2.start
        simp only [List.length_cons, List.length_append, List.length_map, List.length_replicate, DpAll.len d, hl]
        omega
      · cases i with
        | zero => cases hi
        | succ i =>
          rw [List.getElem?_cons_succ] at hi
          rcases slots_get hi with ⟨d', e1, e2⟩ | e1
          · cases e1
            obtain ⟨v, h1, h2⟩ := DpAll.get d e2
            exact ⟨v, start_get (by rw [List.getElem?_cons_succ]; exact h1), h2⟩
          · cases e1
      · cases i with
        | zero =>
          cases hi
          exact ⟨start_get rfl, bp, _, hp, xs, rfl, dx⟩
        | succ i =>
          rw [List.getElem?_cons_succ] at hi
          rcases slots_get hi with ⟨d', e1, e2⟩ | e1 <;> cases e1
      · cases i with
        | zero =>
          cases j with
          | zero => rfl
          | succ j =>
            rw [List.getElem?_cons_succ] at hj
            rcases slots_get hj with ⟨d', e1, e2⟩ | e1 <;> cases e1
        | succ i =>
          rw [List.getElem?_cons_succ] at hi
          rcases slots_get hi with ⟨d', e1, e2⟩ | e1 <;> cases e1
    have fin : ∀ v dd B' H' σ' ρ', (∃ cs', ρ'[0]? = some (.own p cs') ∧ W dd cs') → Dp M.K B' v dd → Go B H (.own p cs :: (ds.map Sl.dat ++ List.replicate (N.length - (n + 1)) Sl.no)) B' H' ρ' → Rel (kwM M) B' H' σ' ρ' → Q v H' := fun v dd B' H' σ' ρ' ⟨cs', h0, w⟩ dv g r => by
      obtain ⟨_, h2, _, h3, vs', rfl, h4⟩ := r.own 0 p cs' h0
      exact q v dd B' H' vs' cs' w dv g.ex r.ex h2 h3 h4 (fun a o hne h => g.keep a o h fun z => hne (own0 a z)) fun a hne h1 h2 => g.out a h1 h2 fun z => hne (own0 a z)
    refine bd.run B H _ ⟨_, fun _ _ _ _ => False, takes0⟩ r0 ⟨fun B' H' σ' ρ' p' g r => fin .non .none B' H' σ' ρ' p' .non g r, fun v dd B' H' σ' ρ' p' dv g r => fin v dd B' H' σ' ρ' p' dv g r, fun _ _ _ _ p => p.elim, fun _ _ _ _ p => p.elim, fun _ _ _ _ _ _ p => p.elim⟩
end
/-- a law: of every script of at most n numbers it says True -/
def LawS (n : Nat) : List D → (D → Prop) → Prop := fun ds W => ∃ ns : List Int, ds = [.list (ns.map PyData.int)] ∧ ns.length ≤ n ∧ W (.bool true)
theorem law_sp {K : PySem.W.Frag} {H : Hp} {a : Addr} {ns : List Int} {n : Nat} (hl : ns.length ≤ n) (h : SqL K H a (ns.map V.int)) : DS K 1 (LawS n) [.ref a] H (fun v _ => v = .bl true) fun _ _ _ => False :=
  ⟨H, [.list (ns.map PyData.int)], fun d => d = .bool true, Evl.Ex.refl H, .cons (.lst h (dp_ints ns)) .nil, rfl, ⟨ns, rfl, hl, rfl⟩, fun v d B' H' w dv _ _ _ _ => by
    subst w
    exact dp_bool dv⟩

open PySem PySem.Calls PySem.W
theorem args_gcd3 (a b c : Value) : argsOk "math.gcd" ⟨[a, b, c], []⟩ := by unfold argsOk; kernel_rfl
theorem args_lcm3 (a b c : Value) : argsOk "math.lcm" ⟨[a, b, c], []⟩ := by unfold argsOk; kernel_rfl
theorem run_gcd3 (a : Int) (t : Tok) (b : Int) (u : Tok) (c : Int) (v : Tok) :
    Gives (Builtin.«math.gcd» ⟨[.int a t, .int b u, .int c v], []⟩) (.int (((((Nat.gcd 0 a.natAbs).gcd b.natAbs).gcd c.natAbs : Nat) : Int))) :=
  .of_wp fun M A E s Q h => by obtain ⟨hp, g, d, tk, os⟩ := s; wp_walk; exact ⟨_, rfl, h⟩
theorem run_lcm3 (a : Int) (t : Tok) (b : Int) (u : Tok) (c : Int) (v : Tok) (hc0 : ¬(max 1 a.natAbs).log2 / 30 + 1 > 450) (hc1 : ¬(max (Nat.lcm 1 a.natAbs) b.natAbs).log2 / 30 + 1 > 450) (hc2 : ¬(max ((Nat.lcm 1 a.natAbs).lcm b.natAbs) c.natAbs).log2 / 30 + 1 > 450) (hsz : (((((Nat.lcm 1 a.natAbs).lcm b.natAbs).lcm c.natAbs : Nat) : Int)).natAbs.log2 < bitsLine) :
    Gives (Builtin.«math.lcm» ⟨[.int a t, .int b u, .int c v], []⟩) (.int (((((Nat.lcm 1 a.natAbs).lcm b.natAbs).lcm c.natAbs : Nat) : Int))) :=
  .of_wp fun M A E s Q h => by obtain ⟨hp, g, d, tk, os⟩ := s; wp_walk; rw [if_neg hc1]; wp_walk; (try rw [if_neg hc2]); (try wp_walk); (try (refine wpAny_ite_false (decide_eq_false (Nat.not_le.mpr hsz)) ?_; wp_walk)); exact ⟨_, rfl, h⟩
theorem lcm_le (m n : Nat) : m.lcm n ≤ m * n := mc_lcm_le m n
open L2 PyProof.Rows Evl
section
variable {X : Cx}
theorem does_gcd3 : Does X (.builtin "math.gcd") (fun ds W => ∃ a b c : Int, ds = [.int a, .int b, .int c] ∧ W (.int ((Nat.gcd (Nat.gcd a.natAbs b.natAbs) c.natAbs : Nat) : Int))) := fun B H vs ds W Q e h s q => by
  obtain ⟨a, b, c, rfl, w⟩ := s
  cases h with
  | cons h1 h2 =>
    cases h2 with
    | cons h2 h3 =>
      cases h3 with
      | cons h3 h4 =>
        cases h4
        rw [dp_int h1, dp_int h2, dp_int h3]
        intro pins s σ us I rv
        cases rv with
        | cons r1 rv =>
          cases rv with
          | cons r2 rv =>
            cases rv with
            | cons r3 rv =>
              cases rv
              obtain ⟨t, rfl⟩ := r1
              obtain ⟨u, rfl⟩ := r2
              obtain ⟨v, rfl⟩ := r3
              have g := run_gcd3 a t b u c v
              rw [Nat.gcd_zero_left] at g
              exact call_function_meets MGF.kind_gcd MGF.plain_gcd MGF.entry_gcd (args_gcd3 _ _ _) g.meets ⟨.int _, H, I.tok _, ⟨_, rfl⟩, q _ _ B H w (.int _) (Ex.refl B) e (Ex.refl H) fun _ _ b => b⟩
theorem does_lcm3 : Does X (.builtin "math.lcm") (fun ds W => ∃ a b c : Int, ds = [.int a, .int b, .int c] ∧ a.natAbs < 2 ^ 64 ∧ b.natAbs < 2 ^ 64 ∧ c.natAbs < 2 ^ 64 ∧ W (.int ((Nat.lcm (Nat.lcm a.natAbs b.natAbs) c.natAbs : Nat) : Int))) := fun B H vs ds W Q e h s q => by
  obtain ⟨a, b, c, rfl, ha, hb, hc, w⟩ := s
  cases h with
  | cons h1 h2 =>
    cases h2 with
    | cons h2 h3 =>
      cases h3 with
      | cons h3 h4 =>
        cases h4
        rw [dp_int h1, dp_int h2, dp_int h3]
        intro pins s σ us I rv
        cases rv with
        | cons r1 rv =>
          cases rv with
          | cons r2 rv =>
            cases rv with
            | cons r3 rv =>
              cases rv
              obtain ⟨t, rfl⟩ := r1
              obtain ⟨u, rfl⟩ := r2
              obtain ⟨v, rfl⟩ := r3
              have l1 : Nat.lcm 1 a.natAbs = a.natAbs := mc_lcm_one _
              have l2 : Nat.lcm a.natAbs b.natAbs < 2 ^ 128 := Nat.lt_of_le_of_lt (lcm_le _ _) (by
                have := Nat.mul_le_mul (Nat.le_of_lt ha) (Nat.le_of_lt hb)
                rcases Nat.lt_or_ge (a.natAbs * b.natAbs) (2 ^ 128) with z | z
                · exact z
                · have h3 : a.natAbs * b.natAbs ≤ (2 ^ 64 - 1) * (2 ^ 64 - 1) := Nat.mul_le_mul (by omega) (by omega)
                  exact Nat.lt_of_le_of_lt h3 (by decide))
              have l3 : Nat.lcm (Nat.lcm a.natAbs b.natAbs) c.natAbs < 2 ^ 192 := Nat.lt_of_le_of_lt (lcm_le _ _) (by
                have h3 : Nat.lcm a.natAbs b.natAbs * c.natAbs ≤ (2 ^ 128 - 1) * (2 ^ 64 - 1) := Nat.mul_le_mul (by omega) (by omega)
                exact Nat.lt_of_le_of_lt h3 (by decide))
              have g := run_lcm3 a t b u c v (by have := mg_log (n := max 1 a.natAbs) (k := 200) (by omega); omega) (by rw [l1]; have := mg_log (n := max a.natAbs b.natAbs) (k := 200) (by omega); omega)
                (by rw [l1]; have := mg_log (n := max (Nat.lcm a.natAbs b.natAbs) c.natAbs) (k := 200) (by omega); omega)
                (by rw [l1, Int.natAbs_natCast]; have := mg_log (n := Nat.lcm (Nat.lcm a.natAbs b.natAbs) c.natAbs) (k := 200) (by omega); rw [bitsLine_eq]; omega)
              rw [l1] at g
              exact call_function_meets MGF.kind_lcm MGF.plain_lcm MGF.entry_lcm (args_lcm3 _ _ _) g.meets ⟨.int _, H, I.tok _, ⟨_, rfl⟩, q _ _ B H w (.int _) (Ex.refl B) e (Ex.refl H) fun _ _ b => b⟩
end

open PySem
/-! ### the integer square root -/
def IsRoot (n r : Nat) : Prop := r * r ≤ n ∧ n < (r + 1) * (r + 1)
theorem below8 {n : Nat} (h : n < 8) : IsRoot n (Float64.rootBelow8 n) := by
  have : n = 0 ∨ n = 1 ∨ n = 2 ∨ n = 3 ∨ n = 4 ∨ n = 5 ∨ n = 6 ∨ n = 7 := by omega
  rcases this with h | h | h | h | h | h | h | h <;> (subst h; exact ⟨by decide, by decide⟩)
theorem newton {n r P m : Nat} (hP : 2 ≤ P) (h1 : P * P * m ≤ n) (h2 : n < P * P * (m + 1)) (h3 : P * P * (P * P) ≤ 2 * n) (hr : IsRoot m r) (h8 : 8 ≤ n) :
    IsRoot n (if ((r + 1) * P + n / ((r + 1) * P)) / 2 * (((r + 1) * P + n / ((r + 1) * P)) / 2) > n then ((r + 1) * P + n / ((r + 1) * P)) / 2 - 1 else ((r + 1) * P + n / ((r + 1) * P)) / 2) := by
  obtain ⟨r1, r2⟩ := hr
  have hx0 : 0 < (r + 1) * P := Nat.mul_pos (by omega) (by omega)
  -- x x > n
  have hxx : n < ((r + 1) * P) * ((r + 1) * P) := by
    have e : P * P * (m + 1) ≤ P * P * ((r + 1) * (r + 1)) := Nat.mul_le_mul_left _ r2
    have e2 : P * P * ((r + 1) * (r + 1)) = ((r + 1) * P) * ((r + 1) * P) := by grind
    omega
  have hrp : (r * P) * (r * P) ≤ n := by
    have e : P * P * (r * r) ≤ P * P * m := Nat.mul_le_mul_left _ r1
    have e2 : P * P * (r * r) = (r * P) * (r * P) := by grind
    omega
  have hxr : (r + 1) * P = r * P + P := by grind
  generalize hx : (r + 1) * P = x at *
  have q1 : x * (n / x) ≤ n := Nat.mul_div_le n x
  have q2 : n < x * (n / x + 1) := Nat.lt_mul_div_succ n hx0
  generalize n / x = q at *
  have hqx : q < x := by
    rcases Nat.lt_or_ge q x with z | z
    · exact z
    · have := Nat.mul_le_mul_left x z
      omega
  generalize hy : (x + q) / 2 = y at *
  have y1 : 2 * y ≤ x + q := by omega
  have y2 : x + q ≤ 2 * y + 1 := by omega
  have hA : n < (y + 1) * (y + 1) := by
    have e1 : (x + q + 1) * (x + q + 1) ≤ (2 * y + 2) * (2 * y + 2) := Nat.mul_le_mul (by omega) (by omega)
    have e2 : (2 * y + 2) * (2 * y + 2) = 4 * ((y + 1) * (y + 1)) := by grind
    have e3 : 4 * (x * (q + 1)) ≤ (x + q + 1) * (x + q + 1) := by
      obtain ⟨t, rfl⟩ : ∃ t, x = q + 1 + t := ⟨x - (q + 1), by omega⟩
      have : (q + 1 + t + q + 1) * (q + 1 + t + q + 1) = 4 * ((q + 1 + t) * (q + 1)) + t * t := by grind
      omega
    omega
  have hB : n < y * y → (y - 1) * (y - 1) ≤ n := by
    intro hyn
    rcases Nat.lt_or_ge n ((y - 1) * (y - 1)) with z | z
    · exfalso
      have hy1 : 1 ≤ y := by
        rcases Nat.eq_zero_or_pos y with w | w
        · rw [w] at hyn; omega
        · exact w
      obtain ⟨u, rfl⟩ : ∃ u, y = u + 1 := ⟨y - 1, by omega⟩
      have z : n < u * u := z
      have hux : u < x := by omega
      obtain ⟨v, hv⟩ : ∃ v, x = u + v := ⟨x - u, by omega⟩
      have hur : r * P < u := by
        rcases Nat.lt_or_ge (r * P) u with w | w
        · exact w
        · have := Nat.mul_le_mul w w
          omega
      have hvP : v + 1 ≤ P := by omega
      -- v v > 2 x
      have e1 : x * (2 * u + 2) ≤ x * x + n := by
        have : x * (2 * u + 2) ≤ x * (x + q) := Nat.mul_le_mul_left _ (by omega)
        have e : x * (x + q) = x * x + x * q := Nat.mul_add _ _ _
        omega
      have e2 : 2 * x < v * v := by
        subst hv
        have : (u + v) * (u + v) + u * u = (u + v) * (2 * u) + v * v := by grind
        have e3 : (u + v) * (2 * u + 2) = (u + v) * (2 * u) + 2 * (u + v) := by grind
        omega
      have e4 : v * v ≤ P * P := Nat.mul_le_mul (by omega) (by omega)
      -- 2 (r + 1) < P
      have e5 : 2 * (r + 1) < P := by
        rcases Nat.lt_or_ge (2 * (r + 1)) P with w | w
        · exact w
        · have : P * P ≤ 2 * (r + 1) * P := Nat.mul_le_mul_right _ w
          have e : 2 * (r + 1) * P = 2 * ((r + 1) * P) := Nat.mul_assoc _ _ _
          omega
      have e6 : (2 * (r + 1)) * (2 * (r + 1)) ≤ P * P := Nat.mul_le_mul (by omega) (by omega)
      have e7 : P * P * ((2 * (r + 1)) * (2 * (r + 1))) ≤ P * P * (P * P) := Nat.mul_le_mul_left _ e6
      have e8 : P * P * ((2 * (r + 1)) * (2 * (r + 1))) = 4 * (((r + 1) * P) * ((r + 1) * P)) := by grind
      rw [hx] at e8
      omega
    · exact z
  by_cases h : y * y > n
  · rw [if_pos h]
    refine ⟨hB h, ?_⟩
    have hy1 : 1 ≤ y := by
      rcases Nat.eq_zero_or_pos y with w | w
      · rw [w] at h; omega
      · exact w
    rw [Nat.sub_add_cancel hy1]
    exact h
  · rw [if_neg h]
    exact ⟨by omega, hA⟩
theorem byHalves : ∀ (lv n : Nat), n.log2 ≤ lv → IsRoot n (Float64.rootByHalves lv n)
  | 0, n, h => by
    refine below8 ?_
    by_cases z : n = 0
    · omega
    · have := (Nat.log2_lt (k := 1) z).mp (by omega)
      omega
  | lv + 1, n, h => by
    unfold Float64.rootByHalves
    by_cases h8 : n < 8
    · rw [if_pos h8]
      exact below8 h8
    · rw [if_neg h8]
      have hn : n ≠ 0 := by omega
      have hL : 3 ≤ n.log2 := by
        rcases Nat.lt_or_ge n.log2 3 with z | z
        · have := (Nat.log2_lt (k := 3) hn).mp z
          omega
        · exact z
      have hk : 1 ≤ (n.log2 + 1) / 4 := by omega
      generalize hkk : (n.log2 + 1) / 4 = k at *
      have h4k : 4 * k ≤ n.log2 + 1 := by omega
      have e4 : (4 : Nat) ^ k = 2 ^ k * 2 ^ k := by
        rw [show (4 : Nat) = 2 * 2 from rfl, Nat.mul_pow]
      have hP : 2 ≤ 2 ^ k := by
        have := Nat.pow_le_pow_right (n := 2) (by decide) hk
        omega
      have hpp : 2 ^ k * 2 ^ k * (2 ^ k * 2 ^ k) ≤ 2 * n := by
        have e1 : (2 : Nat) ^ (4 * k) ≤ 2 ^ (n.log2 + 1) := Nat.pow_le_pow_right (by decide) h4k
        have e2 : (2 : Nat) ^ (4 * k) = 2 ^ k * 2 ^ k * (2 ^ k * 2 ^ k) := by
          rw [show 4 * k = (k + k) + (k + k) by omega, Nat.pow_add, Nat.pow_add]
        have e3 : (2 : Nat) ^ (n.log2 + 1) = 2 ^ n.log2 * 2 := Nat.pow_succ ..
        have e5 := Nat.log2_self_le hn
        omega
      have hpos : 0 < 2 ^ k * 2 ^ k := Nat.mul_pos (by omega) (by omega)
      have m1 : 2 ^ k * 2 ^ k * (n / 4 ^ k) ≤ n := by
        rw [e4]
        exact Nat.mul_div_le _ _
      have m2 : n < 2 ^ k * 2 ^ k * (n / 4 ^ k + 1) := by
        rw [e4]
        exact Nat.lt_mul_div_succ _ hpos
      have hlog : (n / 4 ^ k).log2 ≤ lv := by
        by_cases z : n / 4 ^ k = 0
        · rw [z]
          exact Nat.zero_le _
        · have hb : n < 2 ^ (lv + 2) := (Nat.log2_lt hn).mp (by omega)
          have hq : 4 * (n / 4 ^ k) ≤ n := by
            have : 4 * (n / 4 ^ k) ≤ 2 ^ k * 2 ^ k * (n / 4 ^ k) := Nat.mul_le_mul_right _ (by
              have := Nat.mul_le_mul hP hP
              omega)
            omega
          have hc : n / 4 ^ k < 2 ^ (lv + 1) := by
            have e : (2 : Nat) ^ (lv + 2) = 2 ^ (lv + 1) * 2 := Nat.pow_succ ..
            omega
          have := (Nat.log2_lt z).mpr hc
          omega
      exact newton hP m1 m2 hpp (byHalves lv _ hlog) (by omega)
theorem isqrt_root (n : Nat) : IsRoot n (Float64.isqrt n) := byHalves _ n (Nat.le_refl _)
theorem IsRoot.uniq {n a b : Nat} (h1 : IsRoot n a) (h2 : IsRoot n b) : a = b := by
  rcases Nat.lt_trichotomy a b with z | z | z
  · have := Nat.mul_le_mul (show a + 1 ≤ b from z) (show a + 1 ≤ b from z)
    have := h1.2
    have := h2.1
    omega
  · exact z
  · have := Nat.mul_le_mul (show b + 1 ≤ a from z) (show b + 1 ≤ a from z)
    have := h2.2
    have := h1.1
    omega

open PySem PySem.Spec PyProof.Rows L2
open Evl (Ex)

section
variable {X : Cx} {M : Md} {sc : Scope} {NK : List (Str × Bool × Bool)} {G : List Str} {k : Nat} {ρ : En} {P : D → En → Prop} {PL : List D → En → Prop} {pos : Pos} {a b c e : Expr} {es rest : List Expr} {x : Str}

/-- a // b, b of either sign -/
theorem vd_fdivN (h : VD X a ρ fun x ρ1 => VD X b ρ1 fun y ρ2 => ∃ i j, x = .int i ∧ y = .int j ∧ CDivN i j ∧ P (.int (i.fdiv j)) ρ2) : VD X (.BinOp a .FloorDiv b pos) ρ P := VD.mk fun B H σ Q r q => by
  refine PE.sem (pe_op or_sem pe_sem pe_sem) ?_
  refine h.run B H σ _ r fun vx x B1 H1 ρ1 p1 dx g1 r1 => ?_
  refine p1.run B1 H1 σ _ r1 fun vy y B2 H2 ρ2 p2 dy g2 r2 => ?_
  obtain ⟨i, j, rfl, rfl, hc, pp⟩ := p2
  rw [dp_int dx, dp_int dy]
  exact OpR.sem op_fdivN ⟨_, _, rfl, rfl, hc, q _ _ B2 H2 ρ2 pp (.int _) (g1.trans g2) r2⟩
/-- x or y, x a number -/
theorem vd_orI (h : VD X a ρ fun d ρ1 => ∃ i, d = .int i ∧ (i ≠ 0 → P (.int i) ρ1) ∧ (i = 0 → VD X (.BoolOp .Or (b :: rest) pos) ρ1 P)) : VD X (.BoolOp .Or (a :: b :: rest) pos) ρ P := VD.mk fun B H σ Q r q => by
  refine PE.sem (pe_orT pe_sem pe_sem) ?_
  refine h.run B H σ _ r fun v d B1 H1 ρ1 p dx g1 r1 => ?_
  obtain ⟨i, rfl, p1, p2⟩ := p
  rw [dp_int dx]
  refine ⟨i != 0, rfl, ?_⟩
  by_cases z : i = 0
  · subst z
    exact (p2 rfl).run B1 H1 σ Q r1 fun v d B2 H2 ρ2 p2 dd g2 r2 => q v d B2 H2 ρ2 p2 dd (g1.trans g2) r2
  · have e : (i != 0) = true := bne_iff_ne.mpr z
    rw [e, if_pos rfl]
    exact q _ _ B1 H1 ρ1 (p1 z) (.int i) g1 r1
theorem does_gcd2 : Does X (.builtin "math.gcd") (fun ds W => ∃ a b : Int, ds = [.int a, .int b] ∧ W (.int ((Nat.gcd a.natAbs b.natAbs : Nat) : Int))) := fun B H vs ds W Q e h s q => by
  obtain ⟨a, b, rfl, w⟩ := s
  cases h with
  | cons h1 h2 =>
    cases h2 with
    | cons h2 h3 =>
      cases h3
      rw [dp_int h1, dp_int h2]
      exact CallR.sem cr_gcd ⟨a, b, rfl, q _ _ B H w (.int _) (Ex.refl B) e (Ex.refl H) fun _ _ b => b⟩
theorem does_isqrt : Does X (.builtin "math.isqrt") (fun ds W => ∃ a : Int, ds = [.int a] ∧ 0 ≤ a ∧ a.natAbs < 2 ^ 9000 ∧ ∀ r : Nat, IsRoot a.natAbs r → W (.int (r : Int))) := fun B H vs ds W Q e h s q => by
  obtain ⟨a, rfl, h0, ha, w⟩ := s
  cases h with
  | cons h1 h2 =>
    cases h2
    rw [dp_int h1]
    intro pins s σ us I rv
    cases rv with
    | cons r1 rv =>
      cases rv
      obtain ⟨t, rfl⟩ := r1
      have et : a.toNat = a.natAbs := by omega
      have hl : a.toNat.log2 ≤ 9000 := PySem.W.mg_log (by
        rw [et, Nat.pow_succ]
        omega)
      exact call_function_meets PySem.W.MGF.kind_isqrt PySem.W.MGF.plain_isqrt PySem.W.MGF.entry_isqrt (PySem.W.MGF.args_isqrt _) (PySem.W.mg_run_isqrt a t (by omega) (by omega) (by omega)).meets
        ⟨.int _, H, I.tok _, ⟨_, rfl⟩, q _ _ B H (w _ (by rw [et]; exact isqrt_root _)) (.int _) (Ex.refl B) e (Ex.refl H) fun _ _ b => b⟩
theorem dps_ints {K : PySem.W.Frag} {B : Hp} : ∀ {ns : List Int} {xs : List V}, DpAll K B xs (ns.map PyData.int) → xs = ns.map V.int
  | [], _, .nil => rfl
  | n :: ns, _, .cons h hs => by
    rw [dp_int h, dps_ints hs]
    rfl
theorem does_max (C : Cst X M sc NK G k) : Does X (.builtin "max") (fun ds W => ∃ ns : List Int, ds = [.list (ns.map PyData.int)] ∧ 0 < ns.length ∧ ∀ m, m ∈ ns → (∀ y, y ∈ ns → y ≤ m) → W (.int m)) := fun B H vs ds W Q e h s q => by
  obtain ⟨ns, rfl, hl, w⟩ := s
  cases h with
  | cons h1 h2 =>
    cases h2
    obtain ⟨t, xs, rfl, hT, hx⟩ := dp_lst h1
    have ex := dps_ints hx
    subst ex
    exact CallR.sem (cr_max C.calm) ⟨t, ns, rfl, ex_l e hT, hl, fun m m1 m2 => q _ _ B H (w m m1 m2) (.int _) (Ex.refl B) e (Ex.refl H) fun _ _ b => b⟩
theorem does_sumT (C : Cst X M sc NK G k) : Does X (.builtin "sum") (fun ds W => ∃ ns : List Int, ds = [.tuple (ns.map PyData.int)] ∧ W (.int ns.sum)) := fun B H vs ds W Q e h s q => by
  obtain ⟨ns, rfl, w⟩ := s
  cases h with
  | cons h1 h2 =>
    cases h2
    obtain ⟨t, xs, rfl, hT, hx⟩ := dp_tup h1
    have ex := dps_ints hx
    subst ex
    intro pins s σ us I rv
    obtain ⟨its, r, pl, hz⟩ := I.tuple (ex_t e hT)
    rw [Vals.ref1 rv]
    have hi := r.ints
    obtain ⟨ys, hy⟩ := hi.allInts.items
    have hn : numsOf its.toArray.toList = ns := by
      rw [show its.toArray.toList = its from rfl, hi.numsOf]
    have pl' : s.heap.IsTuple t its.toArray := pl
    rw [hy] at pl' hn
    rw [nums_intItems] at hn
    refine PySem.W.ktm_sumG (I.ok.hd C.calm) pl' fun h' tk t' hk => ?_
    rw [PySem.preSum_eq, List.take_of_length_le (by simp), hn]
    exact ⟨.int _, H, I.kept hk, ⟨_, rfl⟩, q _ _ B H w (.int _) (Ex.refl B) e (Ex.refl H) fun _ _ b => b⟩

/-! ### xs + ys -/
theorem meets_cat (l : Addr) (xs : Array Value) (n : Nat) (t : Array (Option Value)) (b : Addr) (ys : Array Value) (m : Nat) (u : Array (Option Value)) (hz : xs.size + ys.size ≤ sizeLine) :
    Meets (Builtin.«list.__add__» ⟨[.ref l, .ref b], []⟩) (fun _ R s => s.heap.get? l = some ⟨.type "list", none, .seq xs n, t⟩ ∧ s.heap.get? b = some ⟨.type "list", none, .seq ys m, u⟩ ∧
      R (.ok (.ret (Value.ref s.heap.objs.size))) { s with heap := s.heap.push { cls := Value.type "list", data := Data.seq (xs ++ ys) }, toks := s.toks }) :=
  .of_wp fun prog w A R s h => by
    obtain ⟨hp, g, d, tk, os⟩ := s
    obtain ⟨h1, h2, h⟩ := h
    have f1 := PySem.AutoSeq1.idx_int
    have f2 := PySem.AutoSeq1.sub_tuple_tuple
    have f3 := PySem.AutoSeq1.sub_list_list
    have f4 := PySem.AutoSeq1.sub_tuple_list
    have f5 := PySem.AutoSeq1.sub_list_tuple
    wp_walk using PySem.AutoSeq1.wpAny_loadPart' h1, PySem.AutoSeq1.wpAny_loadPart' h2
    exact ⟨_, rfl, h⟩
def rCatS (K : PySem.W.Frag) : R2 := fun x y H Q => ∃ l b xs ys, x = V.ref l ∧ y = V.ref b ∧ SqL K H l xs ∧ SqL K H b ys ∧ xs.length + ys.length ≤ sizeLine ∧ ∀ p, H p = none → Q (.ref p) (upd H p (.lst (xs ++ ys)))
theorem op_catS : OpR X (binaryOp .Add) (rCatS X.K) := by
  intro pins s σ H x y v u Q I rx ry h
  obtain ⟨l, b, xs, ys, rfl, rfl, h1, h2, hz, q⟩ := h
  cases rx
  cases ry
  obtain ⟨its, r, ⟨⟨c1, d1, q1, s1⟩, n, e1, e2, e3, e4⟩, z1⟩ := I.list h1
  obtain ⟨jts, r', ⟨⟨c2, d2, q2, s2⟩, m, g1, g2, g3, g4⟩, z2⟩ := I.list h2
  simp only at e2 e3 e4 g2 g3 g4
  subst e2 e3 e4 g2 g3 g4
  have l1 := r.length
  have l2 := r'.length
  refine concat_meets ⟨_, e1, rfl⟩ ⟨_, g1, rfl⟩ noFill_list_add seq_list_add F.slot_list_add F.entry_list_add (F.args_list_add_2 _ _) (meets_cat l its.toArray n s1 b jts.toArray m s2 (by rw [List.size_toArray, List.size_toArray]; omega)) ⟨e1, g1, ?_⟩
  have ea : its.toArray ++ jts.toArray = (its ++ jts).toArray := by simp
  rw [ea]
  exact ⟨.ref _, _, I.lnew (t' := s.toks) (r.append r') (by rw [List.length_append]; omega), rfl, q _ I.fresh⟩
theorem vn_cat (h : VD X a ρ fun x ρ1 => VD X b ρ1 fun y ρ2 => ∃ xs ys, x = .list xs ∧ y = .list ys ∧ xs.length + ys.length ≤ 100000 ∧ PL (xs ++ ys) ρ2) : VN X (.BinOp a .Add b pos) ρ PL := VN.mk fun B H σ Q r q => by
  refine PE.sem (pe_op or_sem pe_sem pe_sem) ?_
  refine h.run B H σ _ r fun vx x B1 H1 ρ1 p1 dx g1 r1 => ?_
  refine p1.run B1 H1 σ _ r1 fun vy y B2 H2 ρ2 p2 dy g2 r2 => ?_
  obtain ⟨xs, ys, rfl, rfl, hz, pp⟩ := p2
  obtain ⟨l1, us, rfl, hT, hu⟩ := dp_lst dx
  obtain ⟨l2, ws, rfl, hT2, hw⟩ := dp_lst dy
  refine OpR.sem op_catS ⟨l1, l2, us, ws, rfl, rfl, ex_l (g2.ex.trans r2.ex) hT, ex_l r2.ex hT2, ?_, fun z hz2 => ?_⟩
  · rw [DpAll.len hu, DpAll.len hw]
    exact Nat.le_trans hz (by decide)
  · obtain ⟨r3, g3, bp⟩ := new_one (o := .lst (us ++ ws)) r2 hz2
    refine q z _ _ _ _ ρ2 pp (g1.dom z (g2.dom z hz2)) upd_same bp (fun w => ?_) (DpAll.app (DpAll.mono g2.ex hu) hw) ((g1.trans g2).trans g3) r3
    obtain ⟨i, fs, hf⟩ := w
    obtain ⟨_, _, vs, h5, _⟩ := r2.own i z fs hf
    rw [hz2] at h5
    cases h5

/-- a, b, c = e1, e2, e3 -/
theorem vs_par3 (C : Cst X M sc NK G k) {F : Fin} {i j l : Nat} {v1 v2 v3 : Bool} {y z : Str} {px py pz pt : Pos} {kt k2 pt2} (hi : At NK i (x, v1, true)) (hj : At NK j (y, v2, true)) (hl : At NK l (z, v3, true)) (hij : i ≠ j) (hil : i ≠ l) (hjl : j ≠ l)
    (h : VD X a ρ fun d ρ1 => VD X b ρ1 fun d2 ρ2 => VD X c ρ2 fun d3 ρ3 => F.nx (((ρ3.set i (.dat d)).set j (.dat d2)).set l (.dat d3)))
    (hw : ∀ env : Env, env.scope = sc → swappedStores [.Tuple [.Name x px, .Name y py, .Name z pz] kt pt] (.Tuple [a, b, c] k2 pt2) env = pure (some [x, y, z])) (hx : sc.names.lookup x = some .local := by decide +kernel) (hy : sc.names.lookup y = some .local := by decide +kernel) (hz : sc.names.lookup z = some .local := by decide +kernel)
    (hs : swapsWithSole [.Tuple [.Name x px, .Name y py, .Name z pz] kt pt] (.Tuple [a, b, c] k2 pt2) pos.line X.env = pure false := by rfl)
    (he : starEach [a, b, c] X.env = (false, eval a X.env) :: starEach [b, c] X.env := by rfl) (he2 : starEach [b, c] X.env = (false, eval b X.env) :: starEach [c] X.env := by rfl) (he3 : starEach [c] X.env = (false, eval c X.env) :: starEach [] X.env := by rfl) :
    VS X (.Assign [.Tuple [.Name x px, .Name y py, .Name z pz] kt pt] (.Tuple [a, b, c] k2 pt2) pos) ρ F := VS.mk fun B H σ Z r f => by
  refine PS.sem (ps_par3 C.calm C.nd (C.ix hi) (C.ix hj) (C.ix hl) hij hil hjl (by rw [C.s]; exact hx) (by rw [C.s]; exact hy) (by rw [C.s]; exact hz) (pa_cons pe_sem (pa_cons pe_sem (pa_cons pe_sem pa_nil he3) he2) he) (hw _ C.s) hs) ?_
  refine h.run B H σ _ r fun vv d B1 H1 ρ1 p1 dv g1 r1 => ?_
  refine p1.run B1 H1 σ _ r1 fun ww d2 B2 H2 ρ2 p2 dw g2 r2 => ?_
  refine p2.run B2 H2 σ _ r2 fun uu d3 B3 H3 ρ3 p3 du g3 r3 => ⟨vv, ww, uu, rfl, ?_⟩
  exact f.nx B3 H3 _ _ p3 (((((g1.trans g2).trans g3).trans go_set).trans go_set).trans go_set) (rel_set (rel_set (rel_set r3 (Dp.mono g3.ex (Dp.mono g2.ex dv))) (Dp.mono g3.ex dw)) du)

/-! ### lists of one's own -/
/-- name = [elt for y in iter], on one line, the name's own list -/
theorem vs_ownLc (C : Cst X M sc NK G k) {F : Fin} {scope : Scope} {i m : Nat} {x y : Str} {px py spos : Pos} {elt iter : Expr} {v v2 : Bool} (NK' : List (Str × Bool × Bool)) (G' : List Str) (hx : At NK m (x, v2, true)) (hy : At NK' i (y, v, true)) (hm : m < ρ.length)
    (h : VI X (.Name y py) iter ρ fun ds ρ1 => ds.length ≤ 100000 ∧ ∃ W : Nat → List D → En → Prop, W 0 [] ρ1 ∧
      (∀ (j : Nat) d acc ρ', ds[j]? = some d → W j acc ρ' → ∀ X', Cst X' M (relS scope sc) NK' G' k → VD X' elt (ρ'.set i (.dat d)) fun u ρ4 => W (j + 1) (acc ++ [u]) (ρ4.set i .no)) ∧
      ∀ acc ρ', W ds.length acc ρ' → ∀ z, F.nx (ρ'.set m (.own z acc)))
    (hk : sc.kind = .function := by rfl) (hxl : sc.names.lookup x = some .local := by decide +kernel) (hpl : (px.line == pos.line) = true := by rfl) (hpa : (scope.names.any fun (n, k) => n == x && (k == .local || k == .cell)) = false := by decide +kernel)
    (ok : blkC (NK.map (·.1)) sc scope [(y, i)] = true := by decide +kernel) (hN : NK'.map (·.1) = NK.map (·.1) := by rfl) (hc : chk (relS scope sc) false NK' G' = true := by decide +kernel)
    (hs : ∀ x, foldedSetIterable iter X.env x = pure x := by intro _; rfl) : VS X (.Assign [.Name x px] (.ListComp elt [⟨.Name y py, iter, [], 0⟩] scope pos) spos) ρ F := VS.mk fun B H σ Z r f => by
  have ok' : BlkOk X.N X.env.scope scope [(y, i)] := by
    rw [C.n, C.s]
    exact blkOk_by ok
  have cb : ∀ (s : Shared) (H : Hp) (Ca : Addr) (cl : List (Str × Addr)) (fp : List Addr), Cst (X.blk s H scope (compEnvC scope cl Ca X.env) fp) M (relS scope sc) NK' G' k := fun s H Ca cl fp => cst_blk C hN hc
  refine PS.sem (ps_setLc (g := gName i) (tt := tYes) (i := m) C.calm C.nd (C.ix hx) (by rw [C.s]; exact hxl) (sw_true (by rw [C.s]; exact hk) (by rw [C.s]; exact hxl) hpl hpa) pi_sem ok' (fun s H Ca cl fp => pg_name (cb s H Ca cl fp).nd ((cb s H Ca cl fp).ix hy) ((cb s H Ca cl fp).lo hy) ((cb s H Ca cl fp).fn hy)) (fun _ _ _ _ _ => pts_nil) pe_uSem hs) ?_
  refine lc_read (Cb := fun X' => Cst X' M (relS scope sc) NK' G' k) (PL := fun acc ρ' => ∀ z, F.nx (ρ'.set m (.own z acc))) r cb h fun z vs ds B1 H1 ρ1 p hz h1 bz no dvs g1 r1 => ?_
  have hl : m < ρ1.length := by rw [r1.len, ← r.len]; exact hm
  obtain ⟨g2, r2⟩ := own_new (i := m) hl hz h1 bz no dvs g1 r1
  exact f.nx _ H1 _ _ (p z) g2 r2
end

open PySem PySem.Spec PyProof.Rows L2
open Evl (Ex)
section
variable {X : Cx} {sts : List Stmt} {ρ : En} {F : Fin}
/-- from here on a slot's own list is told as data -/
theorem vss_frz {i : Nat} {p : Addr} {ds : List D} (ho : ρ[i]? = some (.own p ds)) (h : VSs X sts (ρ.set i (.dat (.list ds))) F) : VSs X sts ρ F := VSs.mk fun B H σ Z r f => by
  obtain ⟨h1, h2, _, h3, vs, rfl, h4⟩ := r.own i p ds ho
  have hlt := (List.getElem?_eq_some_iff.mp ho).1
  have eB : Ex B (upd B p (.lst vs)) := Evl.Ex.new h2
  have at_ : ∀ (j : Nat) s, (ρ.set i (.dat (.list ds)))[j]? = some s → (j = i ∧ s = .dat (.list ds)) ∨ (j ≠ i ∧ ρ[j]? = some s) := fun j s hj => by
    by_cases w : i = j
    · subst w
      rw [List.getElem?_set_self hlt] at hj
      exact .inl ⟨rfl, (Option.some.inj hj).symm⟩
    · rw [List.getElem?_set_ne w] at hj
      exact .inr ⟨fun z => w z.symm, hj⟩
  have ne : ∀ (j : Nat) a es, j ≠ i → ρ[j]? = some (.own a es) → a ≠ p := fun j a es w hj e => by
    subst e
    exact w (r.dis j i a es ds hj ho)
  have r2 : Rel (kwOf X) (upd B p (.lst vs)) H σ (ρ.set i (.dat (.list ds))) := by
    refine ⟨fun a u ha => ?_, by rw [List.length_set]; exact r.len, fun j d hj => ?_, fun j a es hj => ?_, fun j j' a es fs hj hj' => ?_⟩
    · by_cases w : a = p
      · rw [w, upd_same] at ha
        rw [w, h3]
        exact ha
      · rw [upd_ne w] at ha
        exact r.ex a u ha
    · rcases at_ j _ hj with ⟨rfl, e⟩ | ⟨_, hj⟩
      · cases e
        exact ⟨_, h1, .lst (.inl (.inl upd_same)) (DpAll.mono eB h4)⟩
      · obtain ⟨v, q1, q2⟩ := r.dat j d hj
        exact ⟨v, q1, Dp.mono eB q2⟩
    · rcases at_ j _ hj with ⟨_, e⟩ | ⟨w, hj⟩
      · cases e
      · obtain ⟨q1, q2, ws, q3, q4⟩ := r.own j a es hj
        refine ⟨q1, ?_, ws, q3, OD.mono eB q4⟩
        rw [upd_ne (ne j a es w hj)]
        exact q2
    · rcases at_ j _ hj with ⟨_, e⟩ | ⟨w, hj⟩
      · cases e
      · rcases at_ j' _ hj' with ⟨_, e⟩ | ⟨w', hj'⟩
        · cases e
        · exact r.dis j j' a es fs hj hj'
  have g2 : Go B H ρ (upd B p (.lst vs)) H (ρ.set i (.dat (.list ds))) := by
    refine ⟨eB, fun _ _ q _ => q, fun a q1 q2 q3 => ?_, fun a ⟨j, es, hj⟩ => ?_, fun _ q => q⟩
    · rw [upd_ne (fun e => q3 (by rw [e]; exact ⟨i, ds, ho⟩))]
      exact q2
    · rcases at_ j _ hj with ⟨_, e⟩ | ⟨w, hj⟩
      · cases e
      · exact .inl ⟨j, es, hj⟩
  exact h.run _ H σ Z r2 (f.go g2)
end

open PySem PySem.Spec PyProof.Rows L2
open Evl (Ex)
section
variable {X : Cx} {M : Md} {sc : Scope} {NK : List (Str × Bool × Bool)} {G : List Str} {k : Nat} {a b c : Expr} {ρ : En} {P : D → En → Prop} {pos : Pos}
theorem vd_chain (C : Cst X M sc NK G k) {op op' : CmpOp} (h : VD X a ρ fun x ρ1 => VD X b ρ1 fun y ρ2 => cmpD op x y fun bb => (bb = true → VD X c ρ2 fun z ρ3 => cmpD op' y z fun b2 => P (.bool b2) ρ3) ∧ (bb = false → P (.bool false) ρ2)) (hm : lastMarks [op, op'] [b, c] = false := by rfl) : VD X (.Compare a [op, op'] [b, c] pos) ρ P := VD.mk fun B H σ Q r q => by
  refine PE.sem (pe_chain or_sem or_sem pe_sem pe_sem pe_sem hm) ?_
  refine h.run B H σ _ r fun vx x B1 H1 ρ1 p1 dx g1 r1 => ?_
  refine p1.run B1 H1 σ _ r1 fun vy y B2 H2 ρ2 p2 dy g2 r2 => ?_
  refine cmp_ok C r2.ex p2 (Dp.mono g2.ex dx) dy fun bb kb => ⟨bb, rfl, ?_⟩
  cases bb with
  | true =>
    rw [if_pos rfl]
    refine (kb.1 rfl).run B2 H2 σ _ r2 fun vz z B3 H3 ρ3 p3 dz g3 r3 => ?_
    exact cmp_ok C r3.ex p3 (Dp.mono g3.ex dy) dz fun b2 kb2 => q _ _ B3 H3 ρ3 kb2 (.bl b2) ((g1.trans g2).trans g3) r3
  | false =>
    rw [if_neg Bool.false_ne_true]
    exact q _ _ B2 H2 ρ2 (kb.2 rfl) (.bl false) (g1.trans g2) r2
theorem dps_bools {K : PySem.W.Frag} {B : Hp} : ∀ {ns : List Bool} {xs : List V}, DpAll K B xs (ns.map PyData.bool) → xs = ns.map V.bl
  | [], _, .nil => rfl
  | n :: ns, _, .cons h hs => by
    rw [dp_bool h, dps_bools hs]
    rfl
theorem does_all (C : Cst X M sc NK G k) : Does X (.builtin "all") (fun ds W => ∃ ns : List Bool, ds = [.list (ns.map PyData.bool)] ∧ W (.bool (ns.all id))) := fun B H vs ds W Q e h s q => by
  obtain ⟨ns, rfl, w⟩ := s
  cases h with
  | cons h1 h2 =>
    cases h2
    obtain ⟨t, xs, rfl, hT, hx⟩ := dp_lst h1
    have ex := dps_bools hx
    subst ex
    exact CallR.sem (cr_all C.calm) ⟨t, ns, rfl, ex_l e hT, q _ _ B H w (.bl _) (Ex.refl B) e (Ex.refl H) fun _ _ b => b⟩
theorem does_any (C : Cst X M sc NK G k) : Does X (.builtin "any") (fun ds W => ∃ ns : List Bool, ds = [.list (ns.map PyData.bool)] ∧ W (.bool (ns.any id))) := fun B H vs ds W Q e h s q => by
  obtain ⟨ns, rfl, w⟩ := s
  cases h with
  | cons h1 h2 =>
    cases h2
    obtain ⟨t, xs, rfl, hT, hx⟩ := dp_lst h1
    have ex := dps_bools hx
    subst ex
    exact CallR.sem (cr_any C.calm) ⟨t, ns, rfl, ex_l e hT, q _ _ B H w (.bl _) (Ex.refl B) e (Ex.refl H) fun _ _ b => b⟩
end

open PySem PySem.Spec PyProof.Rows L2
open Evl (Ex)
section
variable {X : Cx} {M : Md} {sc : Scope} {NK : List (Str × Bool × Bool)} {G : List Str} {k : Nat} {ρ : En} {P : D → En → Prop} {PL : List D → En → Prop} {pos : Pos} {e a b : Expr} {x : Str}
def uTst (X : Cx) (scope : Scope) (e : Expr) : TT := fun σ H Q => ∀ s H0 C cl fp, bSem (X.blk s H0 scope (compEnvC scope cl C X.env) fp) e σ H Q
theorem pts_uTst {scope : Scope} : ∀ (s : Shared) (H : Hp) (C : Addr) (cl : List (Str × Addr)) (fp : List Addr), PTs (X.blk s H scope (compEnvC scope cl C X.env) fp) [e] (uTst X scope e) :=
  fun s H C cl fp => pts_one ⟨fun pins s' σ H' Q I h => h s H C cl fp pins s' I⟩
theorem lcIf_read {B H : Hp} {σ : L2.St} {Q : VK} {scope : Scope} {i : Nat} {y : Str} {py : Pos} {elt iter tst : Expr} {Cb : Cx → Prop} (r : Rel (kwOf X) B H σ ρ)
    (cb : ∀ (s : Shared) (H : Hp) (Ca : Addr) (cl : List (Str × Addr)) (fp : List Addr), Cb (X.blk s H scope (compEnvC scope cl Ca X.env) fp))
    (h : VI X (.Name y py) iter ρ fun ds ρ1 => ds.length ≤ 100000 ∧ ∃ W : Nat → List D → En → Prop, W 0 [] ρ1 ∧
      (∀ (j : Nat) d acc ρ', ds[j]? = some d → W j acc ρ' → ∀ X', Cb X' → VT X' tst (ρ'.set i (.dat d)) fun bb ρ3 => (bb = true → ∀ X'', Cb X'' → VD X'' elt ρ3 fun u ρ4 => W (j + 1) (acc ++ [u]) (ρ4.set i .no)) ∧ (bb = false → W (j + 1) acc (ρ3.set i .no))) ∧
      ∀ acc ρ', W ds.length acc ρ' → PL acc ρ')
    (q : ∀ p vs ds B' H' ρ', PL ds ρ' → H p = none → H' p = some (.lst vs) → B' p = none → ¬ Own ρ' p → DpAll X.K B' vs ds → Go B H ρ B' H' ρ' → Rel (kwOf X) B' H' σ ρ' → Q (.ref p) H') :
    tLc (iSemI X (.Name y py) iter) (gName i) (uTst X scope tst) (uSem X scope elt) [i] σ H Q := by
  refine h.run B H σ _ r fun J ds B1 H1 ρ1 p1 yl g1 r1 Dl hD => ?_
  obtain ⟨hlen, W, w0, step, done⟩ := p1
  have bD : B1 Dl = none := by
    cases e : B1 Dl with
    | none => rfl
    | some u =>
      rw [r1.ex Dl u e] at hD
      cases hD
  have nD : ¬ Own ρ1 Dl := fun ⟨j, es, hj⟩ => by
    obtain ⟨_, _, ws, h7, _⟩ := r1.own j Dl es hj
    rw [hD] at h7
    cases h7
  refine ⟨fun j m H' => m = ds.length - j ∧ j ≤ ds.length ∧ ∃ acc vs B' ρ', W j acc ρ' ∧ acc.length ≤ j ∧ H' Dl = some (.lst vs) ∧ B' Dl = none ∧ ¬ Own ρ' Dl ∧ DpAll X.K B' vs acc ∧ Go B1 H1 ρ1 B' H' ρ' ∧ Rel (kwOf X) B' H' σ ρ', ⟨ds.length, by omega, by omega, [], [], B1, ρ1, w0, Nat.le_refl _, upd_same, bD, nD, .nil, (acc_put Go.refl r1 hD bD nD).1, (acc_put Go.refl r1 hD bD nD).2⟩, ?_⟩
  rintro j m H' ⟨rfl, hj, acc, vs, B', ρ', w, hacc, hl, bl, nl, dacc, g, r'⟩
  obtain ⟨y1, y2⟩ := yl j B' H' g.ex r'.ex
  by_cases hlt : j < ds.length
  · obtain ⟨go, yy⟩ := y1 hlt
    refine .inr ⟨go, fun H2 => ∃ acc vs B' ρ', W (j + 1) acc ρ' ∧ acc.length ≤ j + 1 ∧ H2 Dl = some (.lst vs) ∧ B' Dl = none ∧ ¬ Own ρ' Dl ∧ DpAll X.K B' vs acc ∧ Go B1 H1 ρ1 B' H2 ρ' ∧ Rel (kwOf X) B' H2 σ ρ', fun H2 hN2 => ⟨ds.length - (j + 1), by omega, rfl, hlt, hN2⟩, fun x H2 hy2 => ?_⟩
    obtain ⟨rfl, d, hd, dx⟩ := yy x H2 hy2
    have st := step j d acc ρ' hd w
    have rw0 : Rel (kwOf X) B' H2 (σ.set i none) (ρ'.set i .no) := rel_no r' (by rw [List.set_set])
    have rw1 : Rel (kwOf X) B' H2 ((wipe σ [i]).set i (some x)) (ρ'.set i (.dat d)) := by
      have q1 : Rel (kwOf X) B' H2 ((σ.set i none).set i (some x)) ((ρ'.set i .no).set i (.dat d)) := rel_set (i := i) rw0 dx
      have q2 : (ρ'.set i .no).set i (Sl.dat d) = ρ'.set i (.dat d) := List.set_set ..
      rw [q2] at q1
      exact q1
    have sset : ((σ.set i none).set i (some x)).set i none = σ.set i none := by rw [List.set_set, List.set_set]
    have nl2 : ¬ Own (ρ'.set i (.dat d)) Dl := fun z => nl (own_set z)
    refine ⟨sset, fun s0 H0 Ca cl fp => ?_⟩
    have vt := st _ (cb s0 H0 Ca cl fp)
    refine vt.run B' H2 ((wipe σ [i]).set i (some x)) _ rw1 fun bb B3 H3 ρ3 p3 g3 r3 => ?_
    have gA3 : Go B1 H1 ρ1 B3 H3 ρ3 := (g.trans go_set).trans g3
    have hD3 : H3 Dl = some (.lst vs) := g3.keep Dl _ hl nl2
    have bD3 : B3 Dl = none := g3.out Dl (by rw [hl]; exact fun z => by cases z) bl nl2
    have nD3 : ¬ Own ρ3 Dl := fun z => (g3.own Dl z).elim nl2 fun e => by rw [hl] at e; cases e
    cases bb with
    | true =>
      rw [if_pos rfl]
      intro s1 H01 Ca1 cl1 fp1
      have vd := p3.1 rfl _ (cb s1 H01 Ca1 cl1 fp1)
      refine vd.run B3 H3 ((wipe σ [i]).set i (some x)) _ r3 fun u du B4 H4 ρ4 p4 dv g4 r4 => ?_
      have gA : Go B1 H1 ρ1 B4 H4 ρ4 := gA3.trans g4
      have hD4 : H4 Dl = some (.lst vs) := g4.keep Dl _ hD3 nD3
      have bD4 : B4 Dl = none := g4.out Dl (by rw [hD3]; exact fun z => by cases z) bD3 nD3
      have nD4 : ¬ Own ρ4 Dl := fun z => (g4.own Dl z).elim nD3 fun e => by rw [hD3] at e; cases e
      have rS : Rel (kwOf X) B4 H4 σ (ρ4.set i .no) := rel_no r4 (by
        show ((σ.set i none).set i (some x)).set i none = σ.set i none
        exact sset)
      have gS : Go B1 H1 ρ1 B4 H4 (ρ4.set i .no) := gA.trans go_no
      have nS : ¬ Own (ρ4.set i .no) Dl := fun z => nD4 (own_no z)
      obtain ⟨gF, rF⟩ := acc_put (o := .lst (vs ++ [u])) gS rS hD bD4 nS
      refine ⟨vs, hD4, ?_, acc ++ [du], vs ++ [u], B4, ρ4.set i .no, p4, by rw [List.length_append]; exact Nat.add_le_add_right hacc 1, upd_same, bD4, nS, DpAll.app (DpAll.mono (g3.ex.trans g4.ex) dacc) (.cons dv .nil), gF, rF⟩
      rw [DpAll.len dacc]
      exact Nat.lt_of_le_of_lt hacc (Nat.lt_of_lt_of_le hlt (Nat.le_trans hlen (by decide)))
    | false =>
      rw [if_neg Bool.false_ne_true]
      have rS : Rel (kwOf X) B3 H3 σ (ρ3.set i .no) := rel_no r3 (by
        show ((σ.set i none).set i (some x)).set i none = σ.set i none
        exact sset)
      have gS : Go B1 H1 ρ1 B3 H3 (ρ3.set i .no) := gA3.trans go_no
      have nS : ¬ Own (ρ3.set i .no) Dl := fun z => nD3 (own_no z)
      exact ⟨acc, vs, B3, ρ3.set i .no, p3.2 rfl, by omega, hD3, bD3, nS, DpAll.mono g3.ex dacc, gS, rS⟩
  · have e : j = ds.length := by omega
    subst e
    exact .inl ⟨y2 (Nat.le_refl _), q Dl vs acc B' H' ρ' (done acc ρ' w) (g1.dom Dl hD) hl bl nl dacc (g1.trans g) r'⟩
/-- [elt for y in iter if tst] -/
theorem vn_lcIf (C : Cst X M sc NK G k) {scope : Scope} {i : Nat} {y : Str} {py : Pos} {elt iter tst : Expr} {v : Bool} (NK' : List (Str × Bool × Bool)) (G' : List Str) (hy : At NK' i (y, v, true))
    (h : VI X (.Name y py) iter ρ fun ds ρ1 => ds.length ≤ 100000 ∧ ∃ W : Nat → List D → En → Prop, W 0 [] ρ1 ∧
      (∀ (j : Nat) d acc ρ', ds[j]? = some d → W j acc ρ' → ∀ X', Cst X' M (relS scope sc) NK' G' k → VT X' tst (ρ'.set i (.dat d)) fun bb ρ3 => (bb = true → ∀ X'', Cst X'' M (relS scope sc) NK' G' k → VD X'' elt ρ3 fun u ρ4 => W (j + 1) (acc ++ [u]) (ρ4.set i .no)) ∧ (bb = false → W (j + 1) acc (ρ3.set i .no))) ∧
      ∀ acc ρ', W ds.length acc ρ' → PL acc ρ')
    (ok : blkC (NK.map (·.1)) sc scope [(y, i)] = true := by decide +kernel) (hN : NK'.map (·.1) = NK.map (·.1) := by rfl) (hc : chk (relS scope sc) false NK' G' = true := by decide +kernel)
    (hs : ∀ x, foldedSetIterable iter X.env x = pure x := by intro _; rfl) : VN X (.ListComp elt [⟨.Name y py, iter, [tst], 0⟩] scope pos) ρ PL := VN.mk fun B H σ Q r q => by
  have ok' : BlkOk X.N X.env.scope scope [(y, i)] := by
    rw [C.n, C.s]
    exact blkOk_by ok
  have cb : ∀ (s : Shared) (H : Hp) (Ca : Addr) (cl : List (Str × Addr)) (fp : List Addr), Cst (X.blk s H scope (compEnvC scope cl Ca X.env) fp) M (relS scope sc) NK' G' k := fun s H Ca cl fp => cst_blk C hN hc
  exact PE.sem (pe_lc (g := gName i) (tt := uTst X scope tst) C.calm C.nd pi_sem ok' (fun s H Ca cl fp => pg_name (cb s H Ca cl fp).nd ((cb s H Ca cl fp).ix hy) ((cb s H Ca cl fp).lo hy) ((cb s H Ca cl fp).fn hy)) pts_uTst pe_uSem hs)
    (lcIf_read (Cb := fun X' => Cst X' M (relS scope sc) NK' G' k) r cb h q)
/-- xs[:e] -/
theorem vn_takeE {p2 : Pos} (h : VD X a ρ fun d ρ1 => VD X b ρ1 fun y ρ2 => ∃ (ds : List D) (n : Nat), d = .list ds ∧ y = .int (n : Int) ∧ PL (ds.take n) ρ2) : VN X (.Subscript a (.Slice none (some b) none p2) pos) ρ PL := VN.mk fun B H σ Q r q => by
  refine PE.sem (pe_slice sl_list pe_sem po_none (po_some pe_sem)) ?_
  refine h.run B H σ _ r fun v d B1 H1 ρ1 p1 dv g1 r1 => ?_
  refine p1.run B1 H1 σ _ r1 fun vy y B2 H2 ρ2 p2 dy g2 r2 => ?_
  obtain ⟨ds, n, rfl, rfl, p⟩ := p2
  obtain ⟨t, vs, rfl, hT, hv⟩ := dp_lst dv
  refine ⟨(n : Int), dp_int dy, t, vs, rfl, ex_l (g2.ex.trans r2.ex) hT, fun z hz => ?_⟩
  rw [cut_take]
  obtain ⟨r3, g3, bp⟩ := new_one (o := .lst (vs.take n)) r2 hz
  refine q z _ _ _ _ ρ2 p (g1.dom z (g2.dom z hz)) upd_same bp (fun w => ?_) (DpAll.take n (DpAll.mono g2.ex hv)) ((g1.trans g2).trans g3) r3
  obtain ⟨i, fs, hf⟩ := w
  obtain ⟨_, _, ws, h5, _⟩ := r2.own i z fs hf
  rw [hz] at h5
  cases h5
/-- xs[e:] -/
theorem vn_dropE {p2 : Pos} (h : VD X a ρ fun d ρ1 => VD X b ρ1 fun y ρ2 => ∃ (ds : List D) (n : Nat), d = .list ds ∧ y = .int (n : Int) ∧ PL (ds.drop n) ρ2) : VN X (.Subscript a (.Slice (some b) none none p2) pos) ρ PL := VN.mk fun B H σ Q r q => by
  refine PE.sem (pe_slice sl_list pe_sem (po_some pe_sem) po_none) ?_
  refine h.run B H σ _ r fun v d B1 H1 ρ1 p1 dv g1 r1 => ?_
  refine p1.run B1 H1 σ _ r1 fun vy y B2 H2 ρ2 p2 dy g2 r2 => ?_
  obtain ⟨ds, n, rfl, rfl, p⟩ := p2
  obtain ⟨t, vs, rfl, hT, hv⟩ := dp_lst dv
  refine ⟨(n : Int), dp_int dy, t, vs, rfl, ex_l (g2.ex.trans r2.ex) hT, fun z hz => ?_⟩
  rw [cut_drop]
  obtain ⟨r3, g3, bp⟩ := new_one (o := .lst (vs.drop n)) r2 hz
  refine q z _ _ _ _ ρ2 p (g1.dom z (g2.dom z hz)) upd_same bp (fun w => ?_) (DpAll.drop n (DpAll.mono g2.ex hv)) ((g1.trans g2).trans g3) r3
  obtain ⟨i, fs, hf⟩ := w
  obtain ⟨_, _, ws, h5, _⟩ := r2.own i z fs hf
  rw [hz] at h5
  cases h5
/-- a number that stands at the top -/
theorem vd_gint (C : Cst X M sc NK G k) {i : Nat} {n : Int} {t : Tok} (hg : At G i x) (hm : M.mg x = some (.int n t)) (p : P (.int n) ρ) (hd : (x == ("__debug__" : Str)) = false := by decide) : VD X (.Name x pos) ρ P := VD.mk fun B H σ Q r q =>
  PE.sem (pe_glob (C.g hg) (C.mg hm) (v := .int n) ⟨t, rfl⟩ hd) (q _ _ B H ρ p (.int n) Go.refl r)
end

open PySem PySem.Spec PyProof.Rows L2
open Evl (Ex)
section
variable {X : Cx} {M : Md} {sc : Scope} {NK : List (Str × Bool × Bool)} {G : List Str} {k : Nat} {ρ : En} {P : D → En → Prop} {PL : List D → En → Prop} {pos : Pos} {e a b : Expr} {x : Str}
theorem DpAll_rev {K : PySem.W.Frag} {H : Hp} : ∀ {vs : List V} {ds : List D}, DpAll K H vs ds → DpAll K H vs.reverse ds.reverse
  | [], _, .nil => .nil
  | v :: vs, _, .cons h hs => by
    rw [List.reverse_cons, List.reverse_cons]
    exact DpAll.app (DpAll_rev hs) (.cons h .nil)
theorem vn_rev {kk : Nat} {p1 p2 p3 : Pos} (h : VD X a ρ fun d ρ1 => ∃ ds : List D, d = .list ds ∧ PL ds.reverse ρ1) : VN X (.Subscript a (.Slice none none (some (.UnaryOp .USub (.Constant (.int 1) kk p1) p2)) p3) pos) ρ PL := VN.mk fun B H σ Q r q => by
  refine PE.sem (pe_revL pe_sem) ?_
  refine h.run B H σ _ r fun v d B1 H1 ρ1 p1 dv g1 r1 => ?_
  obtain ⟨ds, rfl, p⟩ := p1
  obtain ⟨t, vs, rfl, hT, hv⟩ := dp_lst dv
  refine ⟨t, vs, rfl, ex_l r1.ex hT, fun z hz => ?_⟩
  obtain ⟨r3, g3, bp⟩ := new_one (o := .lst vs.reverse) r1 hz
  refine q z _ _ _ _ ρ1 p (g1.dom z hz) upd_same bp (fun w => ?_) (DpAll_rev hv) (g1.trans g3) r3
  obtain ⟨i, fs, hf⟩ := w
  obtain ⟨_, _, ws, h5, _⟩ := r1.own i z fs hf
  rw [hz] at h5
  cases h5
theorem vn_list (C : Cst X M sc NK G k) {i : Nat} {p : Pos} (hg : At G i "list") (h : VD X e ρ fun d ρ1 => ∃ ds : List D, d = .list ds ∧ PL ds ρ1) (hm : M.mg "list" = none := by assumption)
    (he : starEach [e] X.env = (false, eval e X.env) :: starEach [] X.env := by rfl) (hpl : (backTo pos (starEach [] X.env)).any (·.1) = false := by rfl) : VN X (.Call (.Name "list" p) [e] [] pos) ρ PL := VN.mk fun B H σ Q r q => by
  refine PE.sem (pe_callTy call_list_of (C.g hg) (C.mg hm) (by decide +kernel) (pa_cons pe_sem pa_nil he) (by decide) (by decide) he hpl) ?_
  refine h.run B H σ _ r fun v d B1 H1 ρ1 p1 dv g1 r1 => ?_
  obtain ⟨ds, rfl, p⟩ := p1
  obtain ⟨t, vs, rfl, hT, hv⟩ := dp_lst dv
  refine ⟨t, vs, rfl, .inl (ex_l r1.ex hT), fun z hz => ?_⟩
  obtain ⟨r3, g3, bp⟩ := new_one (o := .lst vs) r1 hz
  refine q z _ _ _ _ ρ1 p (g1.dom z hz) upd_same bp (fun w => ?_) hv (g1.trans g3) r3
  obtain ⟨i, fs, hf⟩ := w
  obtain ⟨_, _, ws, h5, _⟩ := r1.own i z fs hf
  rw [hz] at h5
  cases h5
end

open PySem PySem.Spec PyProof.Rows L2
open Evl (Ex)
section
variable {X : Cx} {M : Md} {sc : Scope} {NK : List (Str × Bool × Bool)} {G : List Str} {k : Nat} {ρ : En} {P : D → En → Prop} {PL : List D → En → Prop} {pos : Pos} {e a b : Expr} {x y : Str} {F : Fin}
theorem not_own {K : Kw} {B H : Hp} {σ : L2.St} {ρ : En} {z : Addr} (r : Rel K B H σ ρ) (hz : H z = none) : ¬ Own ρ z := fun ⟨i, o, hf⟩ => by
  obtain ⟨_, _, ws, h5, _⟩ := r.own i z o hf
  rw [hz] at h5
  cases h5
/-- name = {} -/
theorem vs_newDi (C : Cst X M sc NK G k) {i : Nat} {v : Bool} {p dpos : Pos} (ha : At NK i (x, v, true)) (hi : i < ρ.length) (h : ∀ z, F.nx (ρ.set i (.own z (.di []))))
    (hs : swapsWith (.Dict [] [] dpos) (some (.Name x p)) pos.line X.env = pure false := by rfl) : VS X (.Assign [.Name x p] (.Dict [] [] dpos) pos) ρ F := VS.mk fun B H σ Z r f => by
  refine PS.sem (ps_set C.nd (C.ix ha) (C.lo ha) pe_dnewK hs (C.fn ha)) ?_
  intro z hz
  obtain ⟨r1, g1, bz⟩ := new_one (o := .dK []) r hz
  obtain ⟨g2, r2⟩ := own_newO (i := i) (ds := .di []) hi hz upd_same bz (not_own r hz) ⟨[], .nil, rfl⟩ g1 r1
  exact f.nx _ _ _ _ (h z) g2 r2
/-! ### xs.extend(ys) -/
theorem meets_ext (l : Addr) (us : Array Value) (n : Nat) (b : Addr) (ws : Array Value) (m : Nat) (sl : Array (Option Value)) (notLong : ¬(!us.isEmpty && Builtin.List.listTooLong (us.size + ws.size)) = true) (fits : us.size ≤ sizeLine) (both : us.size + ws.size ≤ sizeLine + 1) :
    Meets (Builtin.«list.extend» ⟨[.ref l, .ref b], []⟩) (fun _ R t => t.heap.get? l = some ⟨.type "list", none, .seq us n, #[]⟩ ∧ t.heap.get? b = some ⟨.type "list", none, .seq ws m, sl⟩ ∧
      R (.ok (.ret Value.none)) { t with heap := t.heap.update l (Obj.mapSeq fun z => z ++ ws), toks := t.toks }) :=
  .of_wp fun prog w A R t q => by
    obtain ⟨hh, gg, dd, tt, oo⟩ := t
    obtain ⟨q1, q2, q3⟩ := q
    have k1 := PySem.AutoSeq1.idx_int
    have k2 := PySem.AutoSeq1.sub_tuple_tuple
    have k3 := PySem.AutoSeq1.sub_list_list
    have k4 := PySem.AutoSeq1.sub_tuple_list
    have k5 := PySem.AutoSeq1.sub_list_tuple
    have grown : (us ++ ws).size ≤ sizeLine + 1 := by
      rw [Array.size_append]
      exact both
    wp_walk using (PySem.wpAny_updateSeq q1 rfl (hz := fits) (_hz' := grown)), PySem.AutoSeq1.wpAny_loadPart' q1, PySem.AutoSeq1.wpAny_loadPart' q2
    exact ⟨_, rfl, q3⟩
def rExtS (K : PySem.W.Frag) : V → List V → Hp → VK → Prop := fun x vs H Q => ∃ l b xs zs, x = .ref l ∧ vs = [.ref b] ∧ H l = some (.lst xs) ∧ SqL K H b zs ∧ xs.length + zs.length ≤ 200000 ∧ Q .non (upd H l (.lst (xs ++ zs)))
theorem mt_extS : MtM X "list.extend" (rExtS X.K) := by
  intro pins t σ H x vs v us Q I rx rv hh
  obtain ⟨l, b, xs, zs, rfl, rfl, mine, other, fits, q⟩ := hh
  cases rx
  obtain ⟨u, rfl, ru⟩ := rv.one
  cases ru
  obtain ⟨_, has, n, rel, len1, at1⟩ := I.lstM mine
  obtain ⟨hbs, rel2, ⟨⟨cl, dt, da, sl⟩, m, g1, g2, g3, g4⟩, len2⟩ := I.list other
  simp only at g2 g3 g4
  subst g2 g3 g4
  have le2 := rel2.length
  have big := sizeLine_eq
  have sum : has.toArray.size + hbs.toArray.size ≤ sizeLine := by
    rw [List.size_toArray, List.size_toArray]
    omega
  have short : ¬ (!has.toArray.isEmpty && Builtin.List.listTooLong (has.toArray.size + hbs.toArray.size)) = true := by
    rw [notLongL sum, Bool.and_false]
    decide
  refine call_meets PySem.F.slot_list_extend ⟨_, at1, rfl⟩ PySem.F.entry_list_extend (PySem.F.args_list_extend_2 _ _) (meets_ext l has.toArray n b hbs.toArray m sl short (by omega) (by omega)) ⟨at1, g1, ?_⟩
  refine ⟨.non, _, I.lset (its' := has ++ hbs) mine at1 (by simp) (rel.append rel2) ?_, rfl, q⟩
  rw [List.length_append]
  omega
/-- xs.extend(e), xs a list of one's own -/
theorem vs_extend (C : Cst X M sc NK G k) {i : Nat} {l : Bool} {p : Addr} {cs0 : List D} {px ap cp : Pos} (ha : At NK i (x, true, l)) (ho : ρ[i]? = some (.own p cs0))
    (h : VD X e ρ fun d ρ1 => ∃ (xs cs : List D), d = .list xs ∧ ρ1[i]? = some (.own p cs) ∧ cs.length + xs.length ≤ 100000 ∧ F.nx (ρ1.set i (.own p (.l (cs ++ xs)))))
    (hbase : attributeBase (.Name x px) "extend" X.env (eval (.Name x px) X.env) = eval (.Name x px) X.env := by rfl)
    (hfew : ((backTo cp (starEach [e] X.env)).all (fun x => !x.1) && (backToKw cp (keywordEach [] X.env)).all (fun x => x.1.isSome) && decide (([e] : List Expr).length + ([] : List Keyword).length + (if ([] : List Keyword).isEmpty then 0 else 1) < 30)) = true := by rfl)
    (hline : (ap.endLine == cp.line) = true := by rfl) (he : starEach [e] X.env = (false, eval e X.env) :: starEach [] X.env := by rfl) (hpl : (backTo cp (starEach [] X.env)).any (·.1) = false := by rfl)
    (hs : swapsWith (.Call (.Attribute (.Name x px) "extend" ap) [e] [] cp) none pos.line X.env = pure false := by rfl) (hd : (x == ("__debug__" : Str)) = false := by decide) (hcd : (x == ("__classdict__" : Str)) = false := by decide) :
    VS X (.Expr (.Call (.Attribute (.Name x px) "extend" ap) [e] [] cp) pos) ρ F := VS.mk fun B H σ Z r f => by
  refine PS.sem (ps_expr (pe_bm PySem.F.plainAttrs_list PySem.F.slot_list_extend PySem.F.type_list_extend mt_extS (pe_var (C.ix ha) (C.vi ha) hd hcd) (pa_cons pe_sem pa_nil he) hbase hfew hline he hpl) hs) ?_
  obtain ⟨s1, b1, _, h3, ws, rfl, d3⟩ := r.own i p cs0 ho
  refine ⟨.ref p, s1, .inl ⟨rfl, ws, .inl (.inl h3)⟩, ?_⟩
  refine h.run B H σ _ r fun v d B1 H1 ρ1 p1 dv g1 r1 => ?_
  obtain ⟨xs, cs, rfl, ho1, hlen, pp⟩ := p1
  obtain ⟨_, bp, _, h5, us, rfl, d5⟩ := r1.own i p cs ho1
  obtain ⟨t, vs, rfl, hT, hv⟩ := dp_lst dv
  obtain ⟨r2, g2⟩ := own_write (vs' := us ++ vs) (cs' := cs ++ xs) r1 ho1 (DpAll.app d5 hv)
  refine ⟨p, t, us, vs, rfl, rfl, h5, ex_l r1.ex hT, ?_, f.nx B1 _ σ _ pp (g1.trans g2) r2⟩
  rw [DpAll.len d5, DpAll.len hv]
  omega
/-! ### d[k], sorted(d) -/
theorem valV_at {es : List (Int × D)} {kk : Int} {d : D} {K : PySem.W.Frag} {B : Hp} : ∀ {es : List (Int × D)} {vs : List V}, DpAll K B vs (es.map (·.2)) → es.find? (fun e => decide (e.1 = kk)) = some (kk, d) →
    ∃ v, valV (List.zipWith (fun e v => ((Sum.inl e.1 : Key), v)) es vs) (.inl kk) = some v ∧ Dp K B v d
  | [], _, _, h => nomatch h
  | e :: es, v :: vs, .cons h1 h2, h => by
    rw [List.find?_cons] at h
    unfold valV
    rw [List.zipWith_cons_cons, List.find?_cons]
    by_cases q : e.1 = kk
    · rw [decide_eq_true q] at h
      have e2 : decide ((Sum.inl e.1 : Key) = Sum.inl kk) = true := decide_eq_true (by rw [q])
      rw [e2]
      have e3 : e = (kk, d) := Option.some.inj h
      rw [e3] at h1
      exact ⟨v, rfl, h1⟩
    · rw [decide_eq_false q] at h
      have e2 : decide ((Sum.inl e.1 : Key) = Sum.inl kk) = false := decide_eq_false fun z => q (Sum.inl.inj z)
      rw [e2]
      exact valV_at (es := es) h2 h
/-- d[e], d a dict of one's own, the key there -/
theorem vd_dgetDi (C : Cst X M sc NK G k) {i : Nat} {l : Bool} {p : Addr} {es0 : List (Int × D)} {px : Pos} (ha : At NK i (x, true, l)) (ho : ρ[i]? = some (.own p (.di es0)))
    (h : VD X b ρ fun y ρ1 => ∃ (kk : Int) (es : List (Int × D)) (d : D), y = .int kk ∧ ρ1[i]? = some (.own p (.di es)) ∧ es.find? (fun e => decide (e.1 = kk)) = some (kk, d) ∧ P d ρ1) (hs : NoSl b := by exact fun _ _ => rfl) (hd : (x == ("__debug__" : Str)) = false := by decide) (hcd : (x == ("__classdict__" : Str)) = false := by decide) : VD X (.Subscript (.Name x px) b pos) ρ P := VD.mk fun B H σ Q r q => by
  have hu := C.hu
  refine PE.sem (pe_dget (by omega) (pe_var (C.ix ha) (C.vi ha) hd hcd) pe_sem hs) ?_
  refine ⟨.ref p, (r.own i p _ ho).1, ?_⟩
  refine h.run B H σ _ r fun vy y B1 H1 ρ1 p1 dy g1 r1 => ?_
  obtain ⟨kk, es, d, rfl, ho1, hf, pp⟩ := p1
  obtain ⟨_, _, _, h3, vs, dvs, rfl⟩ := r1.own i p _ ho1
  obtain ⟨v, hv, dv⟩ := valV_at (es := es) dvs hf
  exact ⟨p, v, rfl, .inl ⟨_, .inl kk, .inl h3, dp_int dy, hv.symm⟩, q v d B1 H1 ρ1 pp dv g1 r1⟩
end

open PySem PySem.Spec PyProof.Rows L2
open Evl (Ex)
section
variable {X : Cx} {M : Md} {sc : Scope} {NK : List (Str × Bool × Bool)} {G : List Str} {k : Nat} {ρ : En} {P : D → En → Prop} {PL : List D → En → Prop} {pos : Pos} {e a b ke : Expr} {x y : Str} {F : Fin}
theorem zip_keys {K : PySem.W.Frag} {B : Hp} : ∀ {es : List (Int × D)} {vs : List V}, DpAll K B vs (es.map (·.2)) → (List.zipWith (fun e v => ((Sum.inl e.1 : Key), v)) es vs).map (·.1) = (es.map (·.1)).map Sum.inl
  | [], [], .nil => rfl
  | e :: es, v :: vs, .cons h1 h2 => by
    rw [List.zipWith_cons_cons, List.map_cons, List.map_cons, List.map_cons, zip_keys h2]
/-- sorted(d), d a dict of one's own -/
theorem vn_sortedDi (C : Cst X M sc NK G k) {i j : Nat} {l : Bool} {p : Addr} {es : List (Int × D)} {px pn : Pos} (hg : At G j "sorted") (ha : At NK i (x, true, l)) (ho : ρ[i]? = some (.own p (.di es))) (hl : es.length < 64)
    (h : ∀ ys : List Int, ys.Perm (es.map (·.1)) → ys.Pairwise (· ≤ ·) → PL (ys.map PyData.int) ρ) (hm : M.mg "sorted" = none := by assumption) (hv : bootBuiltins "sorted" = some (.builtin "sorted") := by decide +kernel)
    (he : starEach [.Name x px] X.env = (false, eval (.Name x px) X.env) :: starEach [] X.env := by rfl) (hpl : (backTo pos (starEach [] X.env)).any (·.1) = false := by rfl) (hd : (x == ("__debug__" : Str)) = false := by decide) (hcd : (x == ("__classdict__" : Str)) = false := by decide) :
    VN X (.Call (.Name "sorted" pn) [.Name x px] [] pos) ρ PL := VN.mk fun B H σ Q r q => by
  refine PE.sem (pe_callB (call_sortedDI C.calm) (C.g hg) (C.mg hm) hv (pa_cons (pe_var (C.ix ha) (C.vi ha) hd hcd) pa_nil he) (by decide) (by decide) he hpl) ?_
  obtain ⟨s1, b1, _, h3, vs, dvs, rfl⟩ := r.own i p _ ho
  refine ⟨.ref p, s1, p, _, es.map (·.1), rfl, .inl h3, zip_keys dvs, by rw [List.length_map]; exact hl, fun ys z hperm hpw hz => ?_⟩
  obtain ⟨r1, g1, bz⟩ := new_one (o := .lst (ys.map V.int)) r hz
  exact q z _ _ _ _ ρ (h ys hperm hpw) hz upd_same bz (not_own r hz) (dp_ints ys) g1 r1
theorem upd_comm {H : Hp} {p q : Addr} {o u : HO} (h : p ≠ q) : upd (upd H p o) q u = upd (upd H q u) p o := by
  funext a
  unfold upd
  by_cases h1 : a = q
  · subst h1
    rw [if_pos rfl, if_neg (fun z => h z.symm), if_pos rfl]
  · rw [if_neg h1, if_neg h1]
theorem upd_twice {H : Hp} {p : Addr} {o u : HO} : upd (upd H p o) p u = upd H p u := by
  funext a
  unfold upd
  by_cases h1 : a = p
  · rw [if_pos h1, if_pos h1]
  · rw [if_neg h1, if_neg h1, if_neg h1]
theorem zip_any {K : PySem.W.Frag} {B : Hp} {kk : Int} : ∀ {es : List (Int × D)} {vs : List V}, DpAll K B vs (es.map (·.2)) → (∀ e ∈ es, e.1 ≠ kk) →
    ((List.zipWith (fun e v => ((Sum.inl e.1 : Key), v)) es vs).any fun kv => decide (kv.1 = Sum.inl kk)) = false
  | [], [], .nil, _ => rfl
  | e :: es, v :: vs, .cons h1 h2, h => by
    rw [List.zipWith_cons_cons, List.any_cons, zip_any h2 fun e' he => h e' (by simp [he])]
    have : decide ((Sum.inl e.1 : Key) = Sum.inl kk) = false := decide_eq_false fun z => h e (by simp) (Sum.inl.inj z)
    rw [this]
    rfl
theorem zip_app {K : PySem.W.Frag} {B : Hp} {e0 : Int × D} {v0 : V} : ∀ {es : List (Int × D)} {vs : List V}, DpAll K B vs (es.map (·.2)) →
    List.zipWith (fun e v => ((Sum.inl e.1 : Key), v)) es vs ++ [(Sum.inl e0.1, v0)] = List.zipWith (fun e v => ((Sum.inl e.1 : Key), v)) (es ++ [e0]) (vs ++ [v0])
  | [], [], .nil => rfl
  | e :: es, v :: vs, .cons h1 h2 => by
    rw [List.zipWith_cons_cons, List.cons_append, zip_app h2]
    rfl
theorem valV_none {K : List (Key × V)} {kk : Int} (h : (K.any fun kv => decide (kv.1 = Sum.inl kk)) = false) : valV K (.inl kk) = none := by
  unfold valV
  rw [List.find?_eq_none.mpr fun z hz => ?_]
  · rfl
  · have := List.any_eq_false.mp h z hz
    exact this
/-- d.setdefault(k, []).append(name), the key not there -/
theorem vs_dapp (C : Cst X M sc NK G k) {i j : Nat} {l l2 : Bool} {p : Addr} {es0 : List (Int × D)} {px py lp a1 a2 c1 c2 : Pos} (ha : At NK i (x, true, l)) (ho : ρ[i]? = some (.own p (.di es0))) (hy : At NK j (y, true, l2))
    (h : VD X ke ρ fun d ρ1 => ∃ (kk : Int) (es : List (Int × D)) (w : D), d = .int kk ∧ ρ1[i]? = some (.own p (.di es)) ∧ ρ1[j]? = some (.dat w) ∧ (∀ e ∈ es, e.1 ≠ kk) ∧ es.length ≤ 100000 ∧ F.nx (ρ1.set i (.own p (.di (es ++ [(kk, .list [w])])))))
    (m2 : M2 X (.Name x px) "setdefault" a1 ke (.List [] lp) c1 := by exact ⟨rfl, rfl, rfl, rfl⟩)
    (hbase : attributeBase (.Call (.Attribute (.Name x px) "setdefault" a1) [ke, .List [] lp] [] c1) "append" X.env (eval (.Call (.Attribute (.Name x px) "setdefault" a1) [ke, .List [] lp] [] c1) X.env) = eval (.Call (.Attribute (.Name x px) "setdefault" a1) [ke, .List [] lp] [] c1) X.env := by rfl)
    (hfew : ((backTo c2 (starEach [.Name y py] X.env)).all (fun x => !x.1) && (backToKw c2 (keywordEach [] X.env)).all (fun x => x.1.isSome) && decide (([.Name y py] : List Expr).length + ([] : List Keyword).length + (if ([] : List Keyword).isEmpty then 0 else 1) < 30)) = true := by rfl)
    (hline : (a2.endLine == c2.line) = true := by rfl) (he : starEach [.Name y py] X.env = (false, eval (.Name y py) X.env) :: starEach [] X.env := by rfl) (hpl : (backTo c2 (starEach [] X.env)).any (·.1) = false := by rfl)
    (hs : swapsWith (.Call (.Attribute (.Call (.Attribute (.Name x px) "setdefault" a1) [ke, .List [] lp] [] c1) "append" a2) [.Name y py] [] c2) none pos.line X.env = pure false := by rfl)
    (hd : (x == ("__debug__" : Str)) = false := by decide) (hcd : (x == ("__classdict__" : Str)) = false := by decide) (hd2 : (y == ("__debug__" : Str)) = false := by decide) (hcd2 : (y == ("__classdict__" : Str)) = false := by decide) :
    VS X (.Expr (.Call (.Attribute (.Call (.Attribute (.Name x px) "setdefault" a1) [ke, .List [] lp] [] c1) "append" a2) [.Name y py] [] c2) pos) ρ F := VS.mk fun B H σ Z r f => by
  refine PS.sem (ps_expr (pe_bm PySem.F.plainAttrs_list PySem.F.slot_list_append PySem.F.type_list_append mt_append (pe_dsetd (pe_var (C.ix ha) (C.vi ha) hd hcd) pe_sem (pe_lst pa_nil) m2) (pa_cons (pe_var (C.ix hy) (C.vi hy) hd2 hcd2) pa_nil he) hbase hfew hline he hpl) hs) ?_
  obtain ⟨s1, b1, _, h3, ws, dws, rfl⟩ := r.own i p _ ho
  refine ⟨.ref p, s1, p, rfl, .inl ⟨_, .inl h3⟩, ?_⟩
  refine h.run B H σ _ r fun v d B1 H1 ρ1 p1 dv g1 r1 => ?_
  obtain ⟨kk, es, w, rfl, ho1, hw, hno, hlen, pp⟩ := p1
  obtain ⟨s2, bp, _, h5, us, dus, rfl⟩ := r1.own i p _ ho1
  obtain ⟨vw, sw, dw⟩ := r1.dat j w hw
  have sl := sizeLine_eq
  refine ⟨by show 0 ≤ sizeLine; omega, fun z hz => ?_⟩
  have zp : z ≠ p := fun e => by rw [e, h5] at hz; cases hz
  have any0 := zip_any dus hno
  have hlz : (List.zipWith (fun e v => ((Sum.inl e.1 : Key), v)) es us).length ≤ 100000 := by
    rw [List.length_zipWith]
    omega
  refine ⟨_, .inl kk, by rw [upd_ne (fun e => zp e.symm)]; exact h5, dp_int dv, by omega, fun v hv => ?_, fun _ => ?_⟩
  · rw [valV_none any0] at hv
    cases hv
  · have eput : putK (List.zipWith (fun e v => ((Sum.inl e.1 : Key), v)) es us) (.inl kk) (.ref z) = List.zipWith (fun e v => ((Sum.inl e.1 : Key), v)) (es ++ [(kk, .list [w])]) (us ++ [.ref z]) := by
      unfold putK
      rw [any0, if_neg (by decide)]
      exact zip_app (e0 := (kk, .list [w])) dus
    rw [eput]
    have hq : upd (upd H1 z (.lst [])) p (.dK (List.zipWith (fun e v => ((Sum.inl e.1 : Key), v)) (es ++ [(kk, .list [w])]) (us ++ [.ref z]))) z = some (.lst []) := by
      rw [upd_ne zp]
      exact upd_same
    refine ⟨.inl ⟨rfl, [], .inl (.inl hq)⟩, ?_⟩
    refine ⟨vw, sw, ?_⟩
    refine ⟨z, [], vw, rfl, rfl, hq, by show 0 < sizeLine; omega, ?_⟩
    obtain ⟨r2, g2⟩ := new_both (o := .lst [vw]) r1 hz
    have eB : Ex B1 (upd B1 z (.lst [vw])) := g2.ex
    obtain ⟨r3, g3⟩ := own_writeO (u' := .dK (List.zipWith (fun e v => ((Sum.inl e.1 : Key), v)) (es ++ [(kk, .list [w])]) (us ++ [.ref z]))) (cs' := .di (es ++ [(kk, .list [w])])) r2 ho1 ⟨us ++ [.ref z], by
      rw [List.map_append]
      exact DpAll.app (DpAll.mono eB dus) (.cons (.lst (.inl (.inl upd_same)) (.cons (Dp.mono eB dw) .nil)) .nil), rfl⟩
    have eH : upd (upd (upd H1 z (.lst [])) p (.dK (List.zipWith (fun e v => ((Sum.inl e.1 : Key), v)) (es ++ [(kk, .list [w])]) (us ++ [.ref z])))) z (.lst ([] ++ [vw])) = upd (upd H1 z (.lst [vw])) p (.dK (List.zipWith (fun e v => ((Sum.inl e.1 : Key), v)) (es ++ [(kk, .list [w])]) (us ++ [.ref z]))) := by
      rw [upd_comm (fun e => zp e.symm), upd_twice]
      rfl
    rw [eH]
    exact f.nx _ _ σ _ pp ((g1.trans g2).trans g3) r3
end

open PySem PySem.Spec PyProof.Rows L2
open Evl (Ex)
section
variable {X : Cx} {M : Md} {sc : Scope} {NK : List (Str × Bool × Bool)} {G : List Str} {k : Nat} {ρ : En} {P : D → En → Prop} {PL : List D → En → Prop} {pos : Pos} {e a b ke : Expr} {x y : Str} {F : Fin}
/-! ### data as keys -/
mutual
theorem nested_of {pins : List (Addr × Obj)} {σ : L2.St} {B H : Hp} {s : Shared} (I : Inv X pins σ H s) (eB : Ex B H) : ∀ {v : V} {d : D} {u : Value}, Dp X.K B v d → kyD d = true → RelV v u → NestedIs s.heap (nkD d) u
  | _, _, _, .non, _, r => by cases r; exact .none
  | _, _, _, .bl b, _, r => by cases r; exact .bool rfl
  | _, _, _, .int i, _, r => by obtain ⟨t, rfl⟩ := r; exact .int _ _
  | _, _, _, .str x, _, r => by obtain ⟨t, rfl⟩ := r; exact .text _ _
  | _, _, _, .lst _ _, h, _ => by cases h
  | _, _, _, .tup h hs, ky, r => by
    cases r
    obtain ⟨its, rv, ⟨o, ho, hc, n, hd⟩, _⟩ := I.tuple (ex_t eB h)
    exact .tup ho hc hd (by rw [List.toList_toArray]; exact nesteds_of I eB hs ky rv)
theorem nesteds_of {pins : List (Addr × Obj)} {σ : L2.St} {B H : Hp} {s : Shared} (I : Inv X pins σ H s) (eB : Ex B H) : ∀ {vs : List V} {ds : List D} {us : List Value}, DpAll X.K B vs ds → kyDs ds = true → Vals vs us → NestedAll s.heap (nkDs ds) us
  | _, _, _, .nil, _, r => by cases r; exact .nil
  | _, _, _, .cons h hs, ky, r => by
    cases r with
    | cons r1 r2 =>
      unfold kyDs at ky
      rw [Bool.and_eq_true] at ky
      exact .cons (nested_of I eB h ky.1 r1) (nesteds_of I eB hs ky.2 r2)
end
theorem ent_is {pins : List (Addr × Obj)} {σ : L2.St} {B H : Hp} {s : Shared} (I : Inv X pins σ H s) (eB : Ex B H) {e : D × D} {q : NestedKey × Addr × Value} (h : EntD (kwOf X) B e q) : (nestedKind X.prog X.w).is s.heap q.1 q.2.1 := by
  rw [h.key]
  exact ⟨nested_of (X := X) I eB h.adr h.ky rfl, h.dp⟩
theorem paired_right {α β : Type} {R : α → β → Prop} {T : β → Prop} (w : ∀ a b, R a b → T b) : ∀ {l : List α} {m : List β}, Paired R l m → ∀ x ∈ m, T x
  | _, _, .nil, _, h => nomatch h
  | _, _, .cons r t, x, h => by
    rcases List.mem_cons.mp h with rfl | h
    · exact w _ _ r
    · exact paired_right w t x h
/-- {}, to be a dict by tuples -/
def tDNewN (K : Kw) : TE := fun _ H Q => ∀ p, H p = none → Q (.ref p) (upd H p (.ext (ndRaw K p [])))
theorem nd_keep {K : Kw} {a : Addr} {xs : List (NestedKey × Addr × Value)} {h : Heap} (q : ndRaw K a xs h) : (∃ o, h.get? a = some o) ∧ ∀ h1 h2 : Heap, ndRaw K a xs h1 → (∀ o, h1.get? a = some o → h2.get? a = some o) → ndRaw K a xs h2 :=
  ⟨let ⟨_, _, o, _, _, e, _⟩ := q; ⟨o, e⟩, fun _ _ ⟨h1, h2, o, es, ep, e, r⟩ w => ⟨h1, h2, o, es, ep, w o e, r⟩⟩
theorem pe_dnewN : PE X (.Dict [] [] pos) (tDNewN (kwOf X)) := ⟨fun pins s σ H Q I h =>
  wpAny_Dict_empty ⟨.ref s.heap.objs.size, _, I.laid (a := s.heap.objs.size) (o := .ext (ndRaw (kwOf X) s.heap.objs.size [])) (t' := s.toks) (fun _ _ q => Heap.get?_push_of_some _ q) (Nat.le_refl _) (by
    have q : ndRaw (kwOf X) s.heap.objs.size [] (s.heap.push { cls := .type "dict", data := .dict #[] }) :=
      ⟨beq_eq_false_iff_ne.mpr (Ne.symm (Nat.ne_of_lt I.big)), Nat.zero_le _, _, #[], 0, Heap.get?_push_size _ rfl, ⟨rfl, rfl, rfl⟩, rfl, rfl, List.nodup_nil⟩
    exact ⟨q, nd_keep q⟩), rfl, h _ (I.hok.fresh (Nat.le_refl _))⟩⟩
/-- name = {}, a dict by tuples -/
theorem vs_newDn (C : Cst X M sc NK G k) {i : Nat} {v : Bool} {p dpos : Pos} (ha : At NK i (x, v, true)) (hi : i < ρ.length) (h : ∀ z, F.nx (ρ.set i (.own z (.dn []))))
    (hs : swapsWith (.Dict [] [] dpos) (some (.Name x p)) pos.line X.env = pure false := by rfl) : VS X (.Assign [.Name x p] (.Dict [] [] dpos) pos) ρ F := VS.mk fun B H σ Z r f => by
  refine PS.sem (ps_set C.nd (C.ix ha) (C.lo ha) pe_dnewN hs (C.fn ha)) ?_
  intro z hz
  obtain ⟨r1, g1, bz⟩ := new_one (o := .ext (ndRaw (kwOf X) z [])) r hz
  obtain ⟨g2, r2⟩ := own_newO (i := i) (ds := .dn []) hi hz upd_same bz (not_own r hz) ⟨[], rfl, .nil⟩ g1 r1
  exact f.nx _ _ _ _ (h z) g2 r2
/-! ### d[k] = e -/
def rSetN (K : Kw) : V → V → V → Hp → (Hp → Prop) → Prop := fun o i v H Q => ∃ (p b : Addr) (B : Hp) (y : D) (es : List (D × D)) (xs : List (NestedKey × Addr × Value)), o = .ref p ∧ i = .ref b ∧ H p = some (.ext (ndRaw K p xs)) ∧ Ex B H ∧ Dp K.K B (.ref b) y ∧ kyD y = true ∧ (nkD y).depth ≤ 8 ∧ Paired (EntD K B) es xs ∧ es.length < sizeLine ∧
  ∀ u, RelV v u → Q (upd H p (.ext (ndRaw K p (storedH xs (nkD y) b u))))
theorem storedH_len (xs : List (NestedKey × Addr × Value)) (kk : NestedKey) (b : Addr) (u : Value) : (storedH xs kk b u).length ≤ xs.length + 1 := by
  unfold storedH
  split
  · rw [List.length_map]; omega
  · rw [List.length_append]; exact Nat.le_refl _
theorem set_nd (hu : X.A.units + 64 < cLine) : PSet X (rSetN (kwOf X)) := by
  intro pins s σ H o i v ov iv u Q I ro ri rv h
  obtain ⟨p, b, B, y, es, xs, rfl, rfl, hp, eB, dy, ky, dpt, pr, hl, q⟩ := h
  cases ro
  cases ri
  obtain ⟨⟨q1, q2, ob, es0, ep, g1, g2, g3, g4, g5⟩, _⟩ := (show ObjOk X.prog X.w H s.heap p (.ext (ndRaw (kwOf X) p xs)) from I.hok p _ hp)
  have hx : s.heap.DictOfH (nestedKind X.prog X.w) p xs := ⟨ob, es0, ep, g1, g2, g3, g4, paired_right (fun a b q => ent_is I eB q) pr, g5⟩
  have ll : es.length = xs.length := Paired.length pr
  refine wpAny_setItem_heap (knd := nestedKind X.prog X.w) (hsz := by omega) (show X.A.in1.units + 8 < cLine by rw [Around.in1_units]; omega) ⟨nested_of (X := X) I eB dy ky rfl, dpt⟩ hx fun h' hm' hs => ?_
  obtain ⟨o', es', ep', k1, k2, k3, k4, k5, k6⟩ := hm'
  have rw' : ndRaw (kwOf X) p (storedH xs (nkD y) b u) h' := ⟨q1, by have := storedH_len xs (nkD y) b u; omega, o', es', ep', k1, k2, k3, k4, k6⟩
  exact ⟨_, I.write (x := p) (e := p) (o := .ext (ndRaw (kwOf X) p (storedH xs (nkD y) b u))) (by rw [hp]; trivial) (.inl rfl) (fun c z hc e => (hs.2 c hc).trans e) ⟨o', k1⟩ ⟨rw', nd_keep rw'⟩, q u rv⟩
/-- the entries behind a store -/
def putN (es : List (D × D)) (y d : D) : List (D × D) := if es.any (fun e => decide (nkD e.1 = nkD y)) then es.map (fun e => if nkD e.1 = nkD y then (e.1, d) else e) else es ++ [(y, d)]
theorem any_atKey {K : Kw} {B : Hp} {kk : NestedKey} : ∀ {es : List (D × D)} {xs : List (NestedKey × Addr × Value)}, Paired (EntD K B) es xs → (es.any fun e => decide (nkD e.1 = kk)) = (atKey xs kk).isSome
  | _, _, .nil => rfl
  | _, _, .cons (a := e) (b := x) r t => by
    rw [List.any_cons, any_atKey t]
    by_cases q : x.1 = kk
    · have : nkD e.1 = kk := by rw [← r.key]; exact q
      rw [decide_eq_true this]
      simp [atKey, q]
    · have : ¬ nkD e.1 = kk := by rw [← r.key]; exact q
      rw [decide_eq_false this]
      simp [atKey, q]
theorem put_ent {K : Kw} {B : Hp} {y d : D} {b : Addr} {v : V} {u : Value} (dy : Dp K.K B (.ref b) y) (ky : kyD y = true) (dpt : (nkD y).depth ≤ 8) (rv : RelV v u) (dv : Dp K.K B v d) {es : List (D × D)} {xs : List (NestedKey × Addr × Value)} (pr : Paired (EntD K B) es xs) :
    Paired (EntD K B) (putN es y d) (storedH xs (nkD y) b u) := by
  unfold putN storedH
  rw [any_atKey pr]
  by_cases h : (atKey xs (nkD y)).isSome = true
  · rw [if_pos h, if_pos h]
    clear h
    induction pr with
    | nil => exact .nil
    | @cons e x _ _ r t ih =>
      rw [List.map_cons, List.map_cons]
      refine .cons ?_ ih
      unfold putAt
      by_cases q : x.1 = nkD y
      · rw [if_pos q, if_pos (by rw [← r.key]; exact q)]
        exact ⟨r.key, r.ky, r.dp, r.adr, v, rv, dv⟩
      · rw [if_neg q, if_neg (by rw [← r.key]; exact q)]
        exact r
  · rw [if_neg h, if_neg h]
    clear h
    induction pr with
    | nil => exact .cons ⟨rfl, ky, dpt, dy, v, rv, dv⟩ .nil
    | cons r t ih => exact .cons r ih
/-- name[b] = e, name a dict of one's own by tuples -/
theorem vs_putN (C : Cst X M sc NK G k) {i : Nat} {l : Bool} {p : Addr} {es0 : List (D × D)} {px p2 : Pos} (ha : At NK i (x, true, l)) (ho : ρ[i]? = some (.own p (.dn es0)))
    (h : VD X e ρ fun d ρ1 => VD X b ρ1 fun y ρ2 => ∃ (es : List (D × D)) (ys : List D), y = .tuple ys ∧ ρ2[i]? = some (.own p (.dn es)) ∧ kyD y = true ∧ (nkD y).depth ≤ 8 ∧ es.length ≤ 100000 ∧ F.nx (ρ2.set i (.own p (.dn (putN es y d)))))
    (hs : swapsWithSole [.Subscript (.Name x px) b p2] e pos.line X.env = pure false := by rfl) (hw : swappedStores [.Subscript (.Name x px) b p2] e X.env = pure none := by rfl) (h1 : (assignEach [.Subscript (.Name x px) b p2] X.env).map (·.2) = [assign (.Subscript (.Name x px) b p2) X.env] := by rfl)
    (hd : (x == ("__debug__" : Str)) = false := by decide) (hcd : (x == ("__classdict__" : Str)) = false := by decide)
    (hg : ∀ v, assign (.Subscript (.Name x px) b p2) X.env v = (do
      let ov ← holding [v] (eval (.Name x px) X.env)
      let iv ← holding [v, ov] (eval b X.env)
      standAt p2
      holding [v, ov, iv] (setItem ov iv v)
      release [v, ov, iv] []) := by intro _; rfl) : VS X (.Assign [.Subscript (.Name x px) b p2] e pos) ρ F := VS.mk fun B H σ Z r f => by
  refine PS.sem (ps_asg pe_sem (pg_sub (pe_var (C.ix ha) (C.vi ha) hd hcd) pe_sem (set_nd C.hu) hg) hs hw h1) ?_
  refine h.run B H σ _ r fun v d B1 H1 ρ1 p1 dv g1 r1 => ⟨.ref p, (r.own i p _ ho).1, ?_⟩
  refine p1.run B1 H1 σ _ r1 fun vy y B2 H2 ρ2 p2 dy g2 r2 => ?_
  obtain ⟨es, ys, rfl, ho2, ky, dpt, hl, pp⟩ := p2
  obtain ⟨t, ts, rfl, hT, hv⟩ := dp_tup dy
  obtain ⟨_, bp, _, h3, xs, rfl, pr⟩ := r2.own i p _ ho2
  have sl := sizeLine_eq
  refine ⟨p, t, B2, _, es, xs, rfl, rfl, h3, r2.ex, dy, ky, dpt, pr, by omega, fun u ru => ?_⟩
  obtain ⟨r3, g3⟩ := own_writeO (u' := .ext (ndRaw (kwOf X) p (storedH xs (nkD (.tuple ys)) t u))) (cs' := .dn (putN es (.tuple ys) d)) r2 ho2 ⟨_, rfl, put_ent dy ky dpt ru (Dp.mono g2.ex dv) pr⟩
  exact f.nx B2 _ σ _ pp ((g1.trans g2).trans g3) r3
/-! ### list(d) -/
theorem call_list_nd (hc : X.calm = true) : CallR X (.type "list") (fun xs H Q => ∃ d ks, xs = [V.ref d] ∧ H d = some (.ext (ndRaw (kwOf X) d ks)) ∧ ∀ p, H p = none → Q (.ref p) (upd H p (.lst (ks.map fun x => V.ref x.2.1)))) := by
  intro pins s σ H xs us Q I r h
  obtain ⟨d, ks, rfl, hd, q⟩ := h
  obtain ⟨u, rfl, rx⟩ := r.one
  cases rx
  obtain ⟨⟨hs, z, o, es, ep, ho, hx, hdt, he, hn⟩, _⟩ := (show ObjOk X.prog X.w H s.heap d (.ext (ndRaw (kwOf X) d ks)) from I.hok d _ hd)
  have l1 : es.size = ks.length := size_of_entries he
  refine PySem.W.kdl_call (kdl_raw hs hx hdt) (I.ok.hd hc) ho (by omega) fun h' tk acc' c' kp e it => ?_
  have ea : acc'.toList = ks.map fun x => Value.ref x.2.1 := by
    have hl : acc'.toList.length = ks.length := by rw [Array.length_toList, it.1]; exact l1
    refine List.ext_getElem? fun j => ?_
    rw [List.getElem?_map]
    cases hb : ks[j]? with
    | none =>
      have h1 := List.getElem?_eq_none_iff.mp hb
      exact List.getElem?_eq_none (by omega)
    | some b =>
      have hj : j < acc'.toList.length := by
        rw [hl]
        exact (List.getElem?_eq_some_iff.mp hb).1
      have ev := List.getElem?_eq_getElem hj
      rw [ev]
      obtain ⟨en, hen, hv⟩ := it.2 j _ (by rw [← Array.getElem?_toList]; exact ev)
      have qe := entry_at he j
      rw [hen, hb] at qe
      rw [hv, Option.some.inj qe]
      rfl
  have eb : acc'.toList = (ks.map fun x => x.2.1).map Value.ref := by rw [ea, List.map_map]; rfl
  have ec : (ks.map fun x => V.ref x.2.1) = (ks.map fun x => x.2.1).map V.ref := by rw [List.map_map]; rfl
  have rv : Vals (ks.map fun x => V.ref x.2.1) acc'.toList := by rw [eb, ec]; exact vals_refs _
  refine ⟨.ref s.heap.objs.size, _, I.laid (t' := tk) (o := .lst (ks.map fun x => V.ref x.2.1)) kp (Nat.le_refl _) ?_, rfl, q _ (I.hok.fresh (Nat.le_refl _))⟩
  exact ⟨by rw [List.length_map]; exact z, acc'.toList, c', rv, by rw [Array.toArray_toList]; exact e⟩
theorem ents_keys {K : Kw} {B : Hp} : ∀ {es : List (D × D)} {xs : List (NestedKey × Addr × Value)}, Paired (EntD K B) es xs → DpAll K.K B (xs.map fun x => V.ref x.2.1) (es.map (·.1))
  | _, _, .nil => .nil
  | _, _, .cons r t => .cons r.adr (ents_keys t)
/-- list(d), d a dict of one's own by tuples -/
theorem vn_listDn (C : Cst X M sc NK G k) {i j : Nat} {l : Bool} {p : Addr} {es : List (D × D)} {px pn : Pos} (hg : At G j "list") (ha : At NK i (x, true, l)) (ho : ρ[i]? = some (.own p (.dn es)))
    (h : PL (es.map (·.1)) ρ) (hm : M.mg "list" = none := by assumption)
    (he : starEach [.Name x px] X.env = (false, eval (.Name x px) X.env) :: starEach [] X.env := by rfl) (hpl : (backTo pos (starEach [] X.env)).any (·.1) = false := by rfl) (hd : (x == ("__debug__" : Str)) = false := by decide) (hcd : (x == ("__classdict__" : Str)) = false := by decide) :
    VN X (.Call (.Name "list" pn) [.Name x px] [] pos) ρ PL := VN.mk fun B H σ Q r q => by
  refine PE.sem (pe_callTy (call_list_nd C.calm) (C.g hg) (C.mg hm) (by decide +kernel) (pa_cons (pe_var (C.ix ha) (C.vi ha) hd hcd) pa_nil he) (by decide) (by decide) he hpl) ?_
  obtain ⟨s1, b1, _, h3, xs, rfl, pr⟩ := r.own i p _ ho
  refine ⟨.ref p, s1, p, xs, rfl, h3, fun z hz => ?_⟩
  obtain ⟨r1, g1, bz⟩ := new_one (o := .lst (xs.map fun x => V.ref x.2.1)) r hz
  exact q z _ _ _ _ ρ h hz upd_same bz (not_own r hz) (ents_keys pr) g1 r1
end

open PySem PySem.Spec PyProof.Rows L2
open Evl (Ex)
section
variable {X : Cx} {M : Md} {sc : Scope} {NK : List (Str × Bool × Bool)} {G : List Str} {k : Nat} {ρ : En} {P : D → En → Prop} {PL : List D → En → Prop} {pos : Pos} {e a b : Expr} {x y : Str} {F : Fin}
/-- xs.append(e), xs a list of one's own -/
theorem vs_append (C : Cst X M sc NK G k) {i : Nat} {l : Bool} {p : Addr} {cs0 : List D} {px ap cp : Pos} (ha : At NK i (x, true, l)) (ho : ρ[i]? = some (.own p cs0))
    (h : VD X e ρ fun d ρ1 => ∃ (cs : List D), ρ1[i]? = some (.own p cs) ∧ cs.length ≤ 100000 ∧ F.nx (ρ1.set i (.own p (.l (cs ++ [d])))))
    (hbase : attributeBase (.Name x px) "append" X.env (eval (.Name x px) X.env) = eval (.Name x px) X.env := by rfl)
    (hfew : ((backTo cp (starEach [e] X.env)).all (fun x => !x.1) && (backToKw cp (keywordEach [] X.env)).all (fun x => x.1.isSome) && decide (([e] : List Expr).length + ([] : List Keyword).length + (if ([] : List Keyword).isEmpty then 0 else 1) < 30)) = true := by rfl)
    (hline : (ap.endLine == cp.line) = true := by rfl) (he : starEach [e] X.env = (false, eval e X.env) :: starEach [] X.env := by rfl) (hpl : (backTo cp (starEach [] X.env)).any (·.1) = false := by rfl)
    (hs : swapsWith (.Call (.Attribute (.Name x px) "append" ap) [e] [] cp) none pos.line X.env = pure false := by rfl) (hd : (x == ("__debug__" : Str)) = false := by decide) (hcd : (x == ("__classdict__" : Str)) = false := by decide) :
    VS X (.Expr (.Call (.Attribute (.Name x px) "append" ap) [e] [] cp) pos) ρ F := VS.mk fun B H σ Z r f => by
  refine PS.sem (ps_expr (pe_bm PySem.F.plainAttrs_list PySem.F.slot_list_append PySem.F.type_list_append mt_append (pe_var (C.ix ha) (C.vi ha) hd hcd) (pa_cons pe_sem pa_nil he) hbase hfew hline he hpl) hs) ?_
  obtain ⟨s1, b1, _, h3, ws, rfl, d3⟩ := r.own i p cs0 ho
  refine ⟨.ref p, s1, .inl ⟨rfl, ws, .inl (.inl h3)⟩, ?_⟩
  refine h.run B H σ _ r fun v d B1 H1 ρ1 p1 dv g1 r1 => ?_
  obtain ⟨cs, ho1, hlen, pp⟩ := p1
  obtain ⟨_, bp, _, h5, us, rfl, d5⟩ := r1.own i p cs ho1
  have sl := sizeLine_eq
  obtain ⟨r2, g2⟩ := own_write (vs' := us ++ [v]) (cs' := cs ++ [d]) r1 ho1 (DpAll.app d5 (.cons dv .nil))
  refine ⟨p, us, v, rfl, rfl, h5, ?_, f.nx B1 _ σ _ pp (g1.trans g2) r2⟩
  rw [DpAll.len d5]
  omega
/-- xs + e, xs a list of one's own -/
theorem vn_catO (C : Cst X M sc NK G k) {i : Nat} {l : Bool} {p : Addr} {cs0 : List D} {px : Pos} (ha : At NK i (x, true, l)) (ho : ρ[i]? = some (.own p cs0))
    (h : VD X b ρ fun y ρ1 => ∃ (cs ys : List D), ρ1[i]? = some (.own p cs) ∧ y = .list ys ∧ cs.length + ys.length ≤ 100000 ∧ PL (cs ++ ys) ρ1) (hd : (x == ("__debug__" : Str)) = false := by decide) (hcd : (x == ("__classdict__" : Str)) = false := by decide) : VN X (.BinOp (.Name x px) .Add b pos) ρ PL := VN.mk fun B H σ Q r q => by
  refine PE.sem (pe_op or_sem (pe_var (C.ix ha) (C.vi ha) hd hcd) pe_sem) ?_
  refine ⟨.ref p, (r.own i p _ ho).1, ?_⟩
  refine h.run B H σ _ r fun vy y B2 H2 ρ2 p2 dy g2 r2 => ?_
  obtain ⟨cs, ys, ho1, rfl, hz, pp⟩ := p2
  obtain ⟨_, bp, _, h5, us, rfl, hu⟩ := r2.own i p cs ho1
  obtain ⟨l2, ws, rfl, hT2, hw⟩ := dp_lst dy
  refine OpR.sem op_catS ⟨p, l2, us, ws, rfl, rfl, .inl (.inl h5), ex_l r2.ex hT2, ?_, fun z hz2 => ?_⟩
  · rw [DpAll.len hu, DpAll.len hw]
    exact Nat.le_trans hz (by decide)
  · obtain ⟨r3, g3, bp⟩ := new_one (o := .lst (us ++ ws)) r2 hz2
    exact q z _ _ _ _ ρ2 pp (g2.dom z hz2) upd_same bp (not_own r2 hz2) (DpAll.app hu hw) (g2.trans g3) r3
/-- a, b = a new list, e: the list is the first name's own -/
theorem vs_parN (C : Cst X M sc NK G k) {i j : Nat} {v w : Bool} {px py pt : Pos} {kt k2 pt2} (hi : At NK i (x, v, true)) (hj : At NK j (y, w, true)) (hij : i ≠ j) (hil : i < ρ.length)
    (h : VN X a ρ fun ds ρ1 => VD X b ρ1 fun d2 ρ2 => ∀ z, F.nx ((ρ2.set i (.own z ds)).set j (.dat d2)))
    (hw : ∀ env : Env, env.scope = sc → swappedStores [.Tuple [.Name x px, .Name y py] kt pt] (.Tuple [a, b] k2 pt2) env = pure (some [x, y])) (hx : sc.names.lookup x = some .local := by decide +kernel) (hy : sc.names.lookup y = some .local := by decide +kernel)
    (hs : swapsWithSole [.Tuple [.Name x px, .Name y py] kt pt] (.Tuple [a, b] k2 pt2) pos.line X.env = pure false := by rfl)
    (he : starEach [a, b] X.env = (false, eval a X.env) :: starEach [b] X.env := by rfl) (he2 : starEach [b] X.env = (false, eval b X.env) :: starEach [] X.env := by rfl) :
    VS X (.Assign [.Tuple [.Name x px, .Name y py] kt pt] (.Tuple [a, b] k2 pt2) pos) ρ F := VS.mk fun B H σ Z r f => by
  refine PS.sem (ps_par C.calm C.nd (C.ix hi) (C.ix hj) hij (by rw [C.s]; exact hx) (by rw [C.s]; exact hy) (pa_cons pe_sem (pa_cons pe_sem pa_nil he2) he) (hw _ C.s) hs) ?_
  refine h.run B H σ _ r fun z vs ds B1 H1 ρ1 p1 hz h1 bz no dvs g1 r1 => ?_
  refine p1.run B1 H1 σ _ r1 fun ww d2 B2 H2 ρ2 p2 dw g2 r2 => ⟨.ref z, ww, rfl, ?_⟩
  have no2 : ¬ Own ρ2 z := fun q => (g2.own z q).elim no fun e => by rw [h1] at e; cases e
  have h2 := g2.keep z _ h1 no
  have b2 := g2.out z (by rw [h1]; exact fun e => by cases e) bz no
  have hl : i < ρ2.length := by rw [r2.len, ← r.len]; exact hil
  obtain ⟨g3, r3⟩ := own_new (i := i) hl hz h2 b2 no2 (DpAll.mono g2.ex dvs) (g1.trans g2) r2
  exact f.nx B2 H2 _ _ (p2 z) (g3.trans go_set) (rel_set r3 dw)
end

open PySem PySem.Spec PyProof.Rows L2
open Evl (Ex)
section
variable {X : Cx} {M : Md} {sc : Scope} {NK : List (Str × Bool × Bool)} {G : List Str} {k : Nat} {a b c : Expr} {ρ : En} {P : Bool → En → Prop} {pos : Pos}
theorem vt_chain (C : Cst X M sc NK G k) {op op' : CmpOp} (h : VD X a ρ fun x ρ1 => VD X b ρ1 fun y ρ2 => cmpD op x y fun bb => (bb = true → VD X c ρ2 fun z ρ3 => cmpD op' y z fun b2 => P b2 ρ3) ∧ (bb = false → P false ρ2)) (hm : lastMarks [op, op'] [b, c] = false := by rfl) : VT X (.Compare a [op, op'] [b, c] pos) ρ P := VT.mk fun B H σ Q r q => by
  refine PT.sem (pt_chain or_sem or_sem pe_sem pe_sem pe_sem hm) ?_
  refine h.run B H σ _ r fun vx x B1 H1 ρ1 p1 dx g1 r1 => ?_
  refine p1.run B1 H1 σ _ r1 fun vy y B2 H2 ρ2 p2 dy g2 r2 => ?_
  refine cmp_ok C r2.ex p2 (Dp.mono g2.ex dx) dy fun bb kb => ⟨bb, rfl, ?_⟩
  cases bb with
  | true =>
    rw [if_pos rfl]
    refine (kb.1 rfl).run B2 H2 σ _ r2 fun vz z B3 H3 ρ3 p3 dz g3 r3 => ?_
    exact cmp_ok C r3.ex p3 (Dp.mono g3.ex dy) dz fun b2 kb2 => ⟨b2, rfl, q _ B3 H3 ρ3 kb2 ((g1.trans g2).trans g3) r3⟩
  | false =>
    rw [if_neg Bool.false_ne_true]
    exact ⟨false, rfl, q _ B2 H2 ρ2 (kb.2 rfl) (g1.trans g2) r2⟩
/-- name = [elt for y in iter if tst], on one line, as data that stays -/
theorem vs_setLcIf (C : Cst X M sc NK G k) {F : Fin} {scope : Scope} {i m : Nat} {x y : Str} {px py spos : Pos} {elt iter tst : Expr} {v v2 : Bool} (NK' : List (Str × Bool × Bool)) (G' : List Str) (hx : At NK m (x, v2, true)) (hy : At NK' i (y, v, true))
    (h : VI X (.Name y py) iter ρ fun ds ρ1 => ds.length ≤ 100000 ∧ ∃ W : Nat → List D → En → Prop, W 0 [] ρ1 ∧
      (∀ (j : Nat) d acc ρ', ds[j]? = some d → W j acc ρ' → ∀ X', Cst X' M (relS scope sc) NK' G' k → VT X' tst (ρ'.set i (.dat d)) fun bb ρ3 => (bb = true → ∀ X'', Cst X'' M (relS scope sc) NK' G' k → VD X'' elt ρ3 fun u ρ4 => W (j + 1) (acc ++ [u]) (ρ4.set i .no)) ∧ (bb = false → W (j + 1) acc (ρ3.set i .no))) ∧
      ∀ acc ρ', W ds.length acc ρ' → F.nx (ρ'.set m (.dat (.list acc))))
    (hk : sc.kind = .function := by rfl) (hxl : sc.names.lookup x = some .local := by decide +kernel) (hpl : (px.line == pos.line) = true := by rfl) (hpa : (scope.names.any fun (n, k) => n == x && (k == .local || k == .cell)) = false := by decide +kernel)
    (ok : blkC (NK.map (·.1)) sc scope [(y, i)] = true := by decide +kernel) (hN : NK'.map (·.1) = NK.map (·.1) := by rfl) (hc : chk (relS scope sc) false NK' G' = true := by decide +kernel)
    (hs : ∀ x, foldedSetIterable iter X.env x = pure x := by intro _; rfl) : VS X (.Assign [.Name x px] (.ListComp elt [⟨.Name y py, iter, [tst], 0⟩] scope pos) spos) ρ F := VS.mk fun B H σ Z r f => by
  have ok' : BlkOk X.N X.env.scope scope [(y, i)] := by
    rw [C.n, C.s]
    exact blkOk_by ok
  have cb : ∀ (s : Shared) (H : Hp) (Ca : Addr) (cl : List (Str × Addr)) (fp : List Addr), Cst (X.blk s H scope (compEnvC scope cl Ca X.env) fp) M (relS scope sc) NK' G' k := fun s H Ca cl fp => cst_blk C hN hc
  refine PS.sem (ps_setLc (g := gName i) (tt := uTst X scope tst) (i := m) C.calm C.nd (C.ix hx) (by rw [C.s]; exact hxl) (sw_true (by rw [C.s]; exact hk) (by rw [C.s]; exact hxl) hpl hpa) pi_sem ok' (fun s H Ca cl fp => pg_name (cb s H Ca cl fp).nd ((cb s H Ca cl fp).ix hy) ((cb s H Ca cl fp).lo hy) ((cb s H Ca cl fp).fn hy)) pts_uTst pe_uSem hs) ?_
  refine lcIf_read (Cb := fun X' => Cst X' M (relS scope sc) NK' G' k) (PL := fun acc ρ' => F.nx (ρ'.set m (.dat (.list acc)))) r cb h fun z vs ds B1 H1 ρ1 p hz h1 bz no dvs g1 r1 => ?_
  obtain ⟨g2, r2, d2⟩ := own_frz hz h1 bz no dvs g1 r1
  exact f.nx _ H1 _ _ p (g2.trans go_set) (rel_set r2 d2)
end

open PySem PySem.Spec PyProof.Rows L2
open Evl (Ex)

/-- an argument: data; the own thing of the caller's slot -/
inductive Ar where
  | da (d : D)
  | ow (m : Nat)
def Ar.sl (ρ : En) : Ar → Sl
  | .da d => .dat d
  | .ow m => (ρ[m]?).getD .no
def put : En → List Ar → List Sl → En
  | ρ, .ow m :: r, s :: t => put (ρ.set m s) r t
  | ρ, .da _ :: r, _ :: t => put ρ r t
  | ρ, _, _ => ρ
def ownIx : List Ar → List Nat
  | [] => []
  | .ow m :: r => m :: ownIx r
  | .da _ :: r => ownIx r
def dist : List Ar → Bool
  | [] => true
  | .ow m :: r => !(ownIx r).contains m && dist r
  | .da _ :: r => dist r
def ownAll (ρ : En) : List Ar → Prop
  | [] => True
  | .ow m :: r => (∃ a o, ρ[m]? = some (.own a o)) ∧ ownAll ρ r
  | .da _ :: r => ownAll ρ r
/-- own things may have changed, nothing else -/
structure Upd (as as' : List Sl) : Prop where
  len : as'.length = as.length
  get : ∀ (i : Nat) s', as'[i]? = some s' → (∃ a o o', s' = .own a o' ∧ as[i]? = some (.own a o)) ∨ (as[i]? = some s' ∧ ∀ a o, s' ≠ .own a o)
/-- own parameters still hold their things -/
def kept : List Sl → En → Prop
  | [], _ => True
  | .own a _ :: r, .own b _ :: t => a = b ∧ kept r t
  | .own _ _ :: _, _ => False
  | _ :: r, _ :: t => kept r t
  | _ :: r, [] => kept r []
def endOf : List Sl → En → List Sl
  | [], _ => []
  | .own a _ :: r, .own _ o' :: t => .own a o' :: endOf r t
  | s :: r, _ :: t => s :: endOf r t
  | s :: r, [] => s :: endOf r []
theorem end_get : ∀ {as : List Sl} {ρ : En}, kept as ρ → ∀ (i : Nat) s', (endOf as ρ)[i]? = some s' → (∃ a o o', s' = .own a o' ∧ as[i]? = some (.own a o) ∧ ρ[i]? = some (.own a o')) ∨ (as[i]? = some s' ∧ ∀ a o, s' ≠ .own a o)
  | [], _, _, i, s', h => by
    unfold endOf at h
    simp at h
  | .own a o :: r, .own b o' :: t, k, i, s', h => by
    obtain ⟨rfl, k1⟩ := (show a = b ∧ kept r t from k)
    cases i with
    | zero =>
      cases h
      exact .inl ⟨a, o, o', rfl, rfl, rfl⟩
    | succ i =>
      rcases end_get (as := r) (ρ := t) k1 i s' h with ⟨a1, o1, o2, h1, h2, h3⟩ | h1
      · exact .inl ⟨a1, o1, o2, h1, h2, h3⟩
      · exact .inr h1
  | .own a o :: r, .no :: t, k, _, _, _ => (show False from k).elim
  | .own a o :: r, .dat _ :: t, k, _, _, _ => (show False from k).elim
  | .own a o :: r, [], k, _, _, _ => (show False from k).elim
  | .no :: r, x :: t, k, i, s', h => by
    cases i with
    | zero =>
      cases h
      exact .inr ⟨rfl, fun _ _ z => by cases z⟩
    | succ i =>
      rcases end_get (as := r) (ρ := t) k i s' h with ⟨a1, o1, o2, h1, h2, h3⟩ | h1
      · exact .inl ⟨a1, o1, o2, h1, h2, h3⟩
      · exact .inr h1
  | .dat d :: r, x :: t, k, i, s', h => by
    cases i with
    | zero =>
      cases h
      exact .inr ⟨rfl, fun _ _ z => by cases z⟩
    | succ i =>
      rcases end_get (as := r) (ρ := t) k i s' h with ⟨a1, o1, o2, h1, h2, h3⟩ | h1
      · exact .inl ⟨a1, o1, o2, h1, h2, h3⟩
      · exact .inr h1
  | .no :: r, [], k, i, s', h => by
    cases i with
    | zero =>
      cases h
      exact .inr ⟨rfl, fun _ _ z => by cases z⟩
    | succ i =>
      rcases end_get (as := r) (ρ := []) k i s' h with ⟨a1, o1, o2, h1, h2, h3⟩ | h1
      · simp at h3
      · exact .inr h1
  | .dat d :: r, [], k, i, s', h => by
    cases i with
    | zero =>
      cases h
      exact .inr ⟨rfl, fun _ _ z => by cases z⟩
    | succ i =>
      rcases end_get (as := r) (ρ := []) k i s' h with ⟨a1, o1, o2, h1, h2, h3⟩ | h1
      · simp at h3
      · exact .inr h1
theorem end_len : ∀ {as : List Sl} {ρ : En}, (endOf as ρ).length = as.length
  | [], ρ => by unfold endOf; rfl
  | s :: r, x :: t => by cases s <;> cases x <;> exact congrArg (· + 1) (end_len (as := r) (ρ := t))
  | s :: r, [] => by cases s <;> exact congrArg (· + 1) (end_len (as := r) (ρ := []))
theorem end_upd {as : List Sl} {ρ : En} (k : kept as ρ) : Upd as (endOf as ρ) := ⟨end_len, fun i s' h => by
  rcases end_get k i s' h with ⟨a, o, o', h1, h2, _⟩ | h1
  · exact .inl ⟨a, o, o', h1, h2⟩
  · exact .inr h1⟩
theorem put_len : ∀ {ars : List Ar} {ρ : En} {as : List Sl}, (put ρ ars as).length = ρ.length
  | [], ρ, as => by unfold put; rfl
  | .ow m :: r, ρ, s :: t => by
    unfold put
    rw [put_len, List.length_set]
  | .da _ :: r, ρ, s :: t => by
    unfold put
    exact put_len (ars := r) (as := t)
  | .ow m :: r, ρ, [] => by unfold put; rfl
  | .da _ :: r, ρ, [] => by unfold put; rfl
theorem put_get : ∀ {ars : List Ar} {ρ : En} {as : List Sl}, as.length = ars.length → ∀ (i : Nat) s, (put ρ ars as)[i]? = some s → (∃ j : Nat, ars[j]? = some (Ar.ow i) ∧ as[j]? = some s) ∨ ((∀ j : Nat, ars[j]? ≠ some (Ar.ow i)) ∧ ρ[i]? = some s)
  | [], ρ, as, _, i, s, h => by
    unfold put at h
    exact .inr ⟨fun j => by simp, h⟩
  | .ow m :: r, ρ, s0 :: t, hl, i, s, h => by
    unfold put at h
    rcases put_get (ars := r) (as := t) (by simpa using hl) i s h with ⟨j, h1, h2⟩ | ⟨h1, h2⟩
    · exact .inl ⟨j + 1, h1, h2⟩
    · by_cases e : m = i
      · subst e
        have hm : m < ρ.length := by
          by_cases q : m < ρ.length
          · exact q
          · rw [List.getElem?_eq_none (by rw [List.length_set]; omega)] at h2
            cases h2
        rw [List.getElem?_set_self hm] at h2
        exact .inl ⟨0, rfl, h2⟩
      · rw [List.getElem?_set_ne e] at h2
        refine .inr ⟨fun j => ?_, h2⟩
        cases j with
        | zero => exact fun z => e (by cases z; rfl)
        | succ j => exact h1 j
  | .da d :: r, ρ, s0 :: t, hl, i, s, h => by
    unfold put at h
    rcases put_get (ars := r) (as := t) (by simpa using hl) i s h with ⟨j, h1, h2⟩ | ⟨h1, h2⟩
    · exact .inl ⟨j + 1, h1, h2⟩
    · refine .inr ⟨fun j => ?_, h2⟩
      cases j with
      | zero => exact fun z => by cases z
      | succ j => exact h1 j
  | .ow m :: r, ρ, [], hl, _, _, _ => by simp at hl
  | .da m :: r, ρ, [], hl, _, _, _ => by simp at hl
theorem ix_mem : ∀ {ars : List Ar} {j m : Nat}, ars[j]? = some (Ar.ow m) → m ∈ ownIx ars
  | [], j, m, h => by simp at h
  | .ow x :: r, 0, m, h => by
    cases h
    exact List.mem_cons_self
  | .da x :: r, 0, m, h => by cases h
  | .ow x :: r, j + 1, m, h => List.mem_cons_of_mem _ (ix_mem (ars := r) h)
  | .da x :: r, j + 1, m, h => ix_mem (ars := r) h
theorem dist_eq : ∀ {ars : List Ar}, dist ars = true → ∀ {i j m : Nat}, ars[i]? = some (Ar.ow m) → ars[j]? = some (Ar.ow m) → i = j
  | [], _, i, j, m, h, _ => by simp at h
  | .da x :: r, q, i, j, m, h, h' => by
    cases i with
    | zero => cases h
    | succ i =>
      cases j with
      | zero => cases h'
      | succ j => exact congrArg (· + 1) (dist_eq (ars := r) q h h')
  | .ow x :: r, q, i, j, m, h, h' => by
    unfold dist at q
    rw [Bool.and_eq_true] at q
    have no : ∀ l : Nat, r[l]? = some (Ar.ow x) → False := fun l hl => by
      have := List.contains_iff_mem.mpr (ix_mem hl)
      rw [this] at q
      exact Bool.false_ne_true q.1
    cases i with
    | zero =>
      cases j with
      | zero => rfl
      | succ j =>
        cases h
        exact (no j h').elim
    | succ i =>
      cases j with
      | zero =>
        cases h'
        exact (no i h).elim
      | succ j => exact congrArg (· + 1) (dist_eq (ars := r) q.2 h h')
theorem own_get {ρ : En} : ∀ {ars : List Ar}, ownAll ρ ars → ∀ {j m : Nat}, ars[j]? = some (Ar.ow m) → ∃ a o, ρ[m]? = some (.own a o)
  | [], _, j, m, h => by simp at h
  | .ow x :: r, q, 0, m, h => by
    cases h
    exact q.1
  | .da x :: r, q, 0, m, h => by cases h
  | .ow x :: r, q, j + 1, m, h => own_get (ars := r) q.2 h
  | .da x :: r, q, j + 1, m, h => own_get (ars := r) q h
/-- an argument's value -/
def ArOk (K : PySem.W.Frag) (B : Hp) (σ : L2.St) (v : V) : Ar → Prop
  | .da d => Dp K B v d
  | .ow m => σ[m]? = some (some v)
theorem ArOk.mono {K : PySem.W.Frag} {B B' : Hp} {σ : L2.St} (e : Ex B B') {v : V} : ∀ {a : Ar}, ArOk K B σ v a → ArOk K B' σ v a
  | .da _, h => Dp.mono e h
  | .ow _, h => h
theorem pair_get {α β : Type} {R : α → β → Prop} : ∀ {xs : List α} {ys : List β}, Paired R xs ys → ∀ {j : Nat} {y : β}, ys[j]? = some y → ∃ x, xs[j]? = some x ∧ R x y
  | _, _, .nil, j, y, h => by simp at h
  | _, _, .cons r t, 0, y, h => by
    cases h
    exact ⟨_, rfl, r⟩
  | _, _, .cons r t, j + 1, y, h => pair_get t (j := j) h
/-- the slots that a callee is handed -/
theorem rel_args {K : Kw} {B H : Hp} {σ : L2.St} {ρ : En} {vs : List V} {ars : List Ar} (r : Rel K B H σ ρ) (p : Paired (ArOk K.K B σ) vs ars) (hd : dist ars = true) (ho : ownAll ρ ars) : Rel K B H (vs.map some) (ars.map (Ar.sl ρ)) := by
  have at_ : ∀ (i : Nat) s, (ars.map (Ar.sl ρ))[i]? = some s → (∃ d, ars[i]? = some (Ar.da d) ∧ s = .dat d) ∨ (∃ m a o, ars[i]? = some (Ar.ow m) ∧ ρ[m]? = some (.own a o) ∧ s = .own a o) := fun i s h => by
    rw [List.getElem?_map] at h
    cases e : ars[i]? with
    | none =>
      rw [e] at h
      cases h
    | some a =>
      rw [e] at h
      cases a with
      | da d => exact .inl ⟨d, rfl, by cases h; rfl⟩
      | ow m =>
        obtain ⟨a, o, h1⟩ := own_get ho e
        refine .inr ⟨m, a, o, rfl, h1, ?_⟩
        have h' : (ρ[m]?).getD .no = s := Option.some.inj h
        rw [h1] at h'
        exact h'.symm
  refine ⟨r.ex, by rw [List.length_map, List.length_map]; exact (Paired.length p).symm, fun i d hi => ?_, fun i a o hi => ?_, fun i j a o o' hi hj => ?_⟩
  · rcases at_ i _ hi with ⟨d', h1, h2⟩ | ⟨m, a, o, h1, h2, h3⟩
    · cases h2
      obtain ⟨v, hv, q⟩ := pair_get p h1
      exact ⟨v, by rw [List.getElem?_map, hv]; rfl, q⟩
    · cases h3
  · rcases at_ i _ hi with ⟨d', h1, h2⟩ | ⟨m, a', o', h1, h2, h3⟩
    · cases h2
    · cases h3
      obtain ⟨v, hv, q⟩ := pair_get p h1
      obtain ⟨q1, q2, u, q3, q4⟩ := r.own m a o h2
      have q' : σ[m]? = some (some v) := q
      rw [q1] at q'
      cases q'
      exact ⟨by rw [List.getElem?_map, hv]; rfl, q2, u, q3, q4⟩
  · rcases at_ i _ hi with ⟨d', h1, h2⟩ | ⟨m, a1, o1, h1, h2, h3⟩
    · cases h2
    · rcases at_ j _ hj with ⟨d', k1, k2⟩ | ⟨m', a2, o2, k1, k2, k3⟩
      · cases k2
      · cases h3
        cases k3
        have e := r.dis m m' a o o' h2 k2
        subst e
        exact dist_eq hd h1 k1
theorem sl_own {ρ : En} {ars : List Ar} {j i : Nat} {a : Addr} {o : OD} (h : ars[j]? = some (Ar.ow i)) (q : (ars.map (Ar.sl ρ))[j]? = some (.own a o)) : ρ[i]? = some (.own a o) := by
  rw [List.getElem?_map, h] at q
  have q' : (ρ[i]?).getD .no = .own a o := Option.some.inj q
  cases e : ρ[i]? with
  | none =>
    rw [e] at q'
    cases q'
  | some s =>
    rw [e] at q'
    exact congrArg some q'
/-- behind a call: the caller's slots -/
theorem rel_back {K : Kw} {B H B' H' : Hp} {σ : L2.St} {ρ : En} {vs : List V} {ars : List Ar} {as' : List Sl} (r : Rel K B H σ ρ) (p : Paired (ArOk K.K B σ) vs ars) (ho : ownAll ρ ars) (u : Upd (ars.map (Ar.sl ρ)) as') (g : Go B H (ars.map (Ar.sl ρ)) B' H' as') (r' : Rel K B' H' (vs.map some) as') :
    Go B H ρ B' H' (put ρ ars as') ∧ Rel K B' H' σ (put ρ ars as') := by
  have hl : as'.length = ars.length := by rw [u.len, List.length_map]
  have up : ∀ (j i : Nat) s, ars[j]? = some (Ar.ow i) → as'[j]? = some s → ∃ a o o', s = .own a o' ∧ ρ[i]? = some (.own a o) := fun j i s h1 h2 => by
    rcases u.get j s h2 with ⟨a, o, o', e, q⟩ | ⟨q, no⟩
    · exact ⟨a, o, o', e, sl_own h1 q⟩
    · obtain ⟨a, o, h3⟩ := own_get ho h1
      rw [List.getElem?_map, h1] at q
      have q' : (ρ[i]?).getD .no = s := Option.some.inj q
      rw [h3] at q'
      exact absurd q'.symm (no a o)
  have asOwn : ∀ a, Own (ars.map (Ar.sl ρ)) a → Own ρ a := fun a ⟨j, o, h⟩ => by
    cases e : ars[j]? with
    | none =>
      rw [List.getElem?_map, e] at h
      cases h
    | some x =>
      cases x with
      | da d =>
        rw [List.getElem?_map, e] at h
        cases h
      | ow m => exact ⟨m, o, sl_own e h⟩
  have notArg : ∀ (i : Nat) a o, (∀ j : Nat, ars[j]? ≠ some (Ar.ow i)) → ρ[i]? = some (.own a o) → ¬ Own (ars.map (Ar.sl ρ)) a := fun i a o no h ⟨j, o', q⟩ => by
    cases e : ars[j]? with
    | none =>
      rw [List.getElem?_map, e] at q
      cases q
    | some x =>
      cases x with
      | da d =>
        rw [List.getElem?_map, e] at q
        cases q
      | ow m =>
        have := r.dis i m a o o' h (sl_own e q)
        subst this
        exact no j e
  refine ⟨⟨g.ex, fun a o h n => g.keep a o h fun z => n (asOwn a z), fun a h1 h2 n => g.out a h1 h2 fun z => n (asOwn a z), fun a ⟨i, o, h⟩ => .inl ?_, g.dom⟩, ⟨r'.ex, by rw [put_len]; exact r.len, fun i d hi => ?_, fun i a o hi => ?_, fun i j a o o' hi hj => ?_⟩⟩
  · rcases put_get hl i _ h with ⟨j, h1, h2⟩ | ⟨h1, h2⟩
    · obtain ⟨a', o1, o2, e, q⟩ := up j i _ h1 h2
      cases e
      exact ⟨i, o1, q⟩
    · exact ⟨i, o, h2⟩
  · rcases put_get hl i _ hi with ⟨j, h1, h2⟩ | ⟨h1, h2⟩
    · obtain ⟨a', o1, o2, e, q⟩ := up j i _ h1 h2
      cases e
    · obtain ⟨v, h3, h4⟩ := r.dat i d h2
      exact ⟨v, h3, Dp.mono g.ex h4⟩
  · rcases put_get hl i _ hi with ⟨j, h1, h2⟩ | ⟨h1, h2⟩
    · obtain ⟨q1, q2, uu, q3, q4⟩ := r'.own j a o h2
      obtain ⟨v, hv, q⟩ := pair_get p h1
      rw [List.getElem?_map, hv] at q1
      cases q1
      exact ⟨q, q2, uu, q3, q4⟩
    · obtain ⟨q1, q2, uu, q3, q4⟩ := r.own i a o h2
      have na := notArg i a o h1 h2
      exact ⟨q1, g.out a (by rw [q3]; exact fun z => by cases z) q2 na, uu, g.keep a _ q3 na, OD.mono g.ex q4⟩
  · rcases put_get hl i _ hi with ⟨i1, h1, h2⟩ | ⟨h1, h2⟩
    · rcases put_get hl j _ hj with ⟨j1, k1, k2⟩ | ⟨k1, k2⟩
      · have := r'.dis i1 j1 a o o' h2 k2
        subst this
        rw [h1] at k1
        cases k1
        rfl
      · obtain ⟨a', o1, o2, e, q⟩ := up i1 i _ h1 h2
        cases e
        exact r.dis i j a o1 o' q k2
    · rcases put_get hl j _ hj with ⟨j1, k1, k2⟩ | ⟨k1, k2⟩
      · obtain ⟨a', o1, o2, e, q⟩ := up j1 j _ k1 k2
        cases e
        exact r.dis i j a o o1 h2 q
      · exact r.dis i j a o o' h2 k2

open PySem PySem.Spec PyProof.Rows L2
open Evl (Ex)

/-- arguments, own things among them -/
structure VX (X : Cx) (es : List Expr) (ρ : En) (P : List Ar → En → Prop) : Prop where
  run : ∀ B H σ (Q : List V → Hp → Prop), Rel (kwOf X) B H σ ρ →
  (∀ vs ars B' H' ρ', P ars ρ' → Paired (ArOk X.K B' σ) vs ars → Go B H ρ B' H' ρ' → Rel (kwOf X) B' H' σ ρ' → Q vs H') → aSem X es σ H Q
/-- what a def does: slots handed in; what it answers and leaves there, what it raises and leaves there -/
abbrev SX := List Sl → (D → List Sl → Prop) → (Er → List Sl → Prop) → Prop
def DSx (K : Kw) (n : Nat) (S : SX) : Sp := fun vs H Q E => ∃ B as W WX, Rel K B H (vs.map some) as ∧ as.length = n ∧ S as W WX ∧
  (∀ v d B' H' as', W d as' → Upd as as' → Dp K.K B' v d → Go B H as B' H' as' → Rel K B' H' (vs.map some) as' → Q v H') ∧
  (∀ (c : Er) dx B' H' as', WX c as' → ErOk K.K B' H' dx c → Upd as as' → Go B H as B' H' as' → Rel K B' H' (vs.map some) as' → E c.c dx H')
structure FnX (M : Md) (j : Nat) (x : Str) (n : Nat) (S : SX) : Prop where
  ex : ∃ f fd ps, FnOk M.prog M.w M.K M.mg M.base (L2.CX M.prog M.w) j f fd ps (DSx (kwM M) n S) ∧ M.mg x = some (.ref f) ∧ PySem.W.keepIn M.K (.ref f) = true ∧ Binds M.K fd ps []

section
variable {X : Cx} {M : Md} {sc : Scope} {NK : List (Str × Bool × Bool)} {G : List Str} {k : Nat} {ρ : En} {P : D → En → Prop} {PX : List Ar → En → Prop} {pos : Pos} {a b c e : Expr} {es rest : List Expr} {x y : Str} {F : Fin}
theorem vx_nil (p : PX [] ρ) : VX X [] ρ PX := ⟨fun B H σ Q r q => PA.sem pa_nil (q [] [] B H ρ p .nil Go.refl r)⟩
theorem vx_cons (h : VD X e ρ fun d ρ1 => VX X es ρ1 fun ars ρ2 => PX (.da d :: ars) ρ2) (hs : starEach (e :: es) X.env = (false, eval e X.env) :: starEach es X.env := by rfl) : VX X (e :: es) ρ PX := ⟨fun B H σ Q r q => by
  refine PA.sem (pa_cons pe_sem pa_sem hs) ?_
  refine h.run B H σ _ r fun v d B1 H1 ρ1 p1 dv g1 r1 => ?_
  exact p1.run B1 H1 σ _ r1 fun vs ars B2 H2 ρ2 p2 q2 g2 r2 => q (v :: vs) (.da d :: ars) B2 H2 ρ2 p2 (.cons (show ArOk X.K B2 σ v (.da d) from Dp.mono g2.ex dv) q2) (g1.trans g2) r2⟩
/-- a name whose slot has a thing of its own -/
theorem vx_own (C : Cst X M sc NK G k) {m : Nat} {l : Bool} {p : Addr} {o : OD} {py : Pos} (ha : At NK m (y, true, l)) (ho : ρ[m]? = some (.own p o)) (h : VX X es ρ fun ars ρ2 => PX (.ow m :: ars) ρ2)
    (hs : starEach (.Name y py :: es) X.env = (false, eval (.Name y py) X.env) :: starEach es X.env := by rfl) (hd : (y == ("__debug__" : Str)) = false := by decide) (hcd : (y == ("__classdict__" : Str)) = false := by decide) : VX X (.Name y py :: es) ρ PX := ⟨fun B H σ Q r q => by
  refine PA.sem (pa_cons (pe_var (C.ix ha) (C.vi ha) hd hcd) pa_sem hs) ?_
  have hv := (r.own m p o ho).1
  refine ⟨.ref p, hv, ?_⟩
  exact h.run B H σ _ r fun vs ars B2 H2 ρ2 p2 q2 g2 r2 => q (.ref p :: vs) (.ow m :: ars) B2 H2 ρ2 p2 (.cons (show ArOk X.K B2 σ (.ref p) (.ow m) from hv) q2) g2 r2⟩
/-- what a call asks -/
def calls (S : SX) (n : Nat) (ρ1 : En) (ars : List Ar) (W : D → En → Prop) (WX : Er → En → Prop) : Prop :=
  dist ars = true ∧ ownAll ρ1 ars ∧ ars.length = n ∧ S (ars.map (Ar.sl ρ1)) (fun d as' => W d (put ρ1 ars as')) (fun c as' => WX c (put ρ1 ars as'))
/-- f(..), f raises nothing here -/
theorem vd_callX (C : Cst X M sc NK G k) {j n : Nat} {S : SX} {i : Nat} {p : Pos} (Fn : FnX M j x n S) (hg : At G i x) (h : VX X (e :: es) ρ fun ars ρ1 => calls S n ρ1 ars P fun _ _ => False) (hj : j ≤ k := by decide)
    (hdb : (x == ("__debug__" : Str)) = false := by decide) (he : starEach (e :: es) X.env = (false, eval e X.env) :: starEach es X.env := by rfl) (hpl : (backTo pos (starEach es X.env)).any (·.1) = false := by rfl) : VD X (.Call (.Name x p) (e :: es) [] pos) ρ P := VD.mk fun B H σ Q r q => by
  have eM := C.m
  subst eM
  obtain ⟨f, fd, ps, Fo, hm, hk, hb⟩ := Fn.ex
  refine PE.sem (pe_call (E := E0) Fo (C.room.mono hj) (C.g hg) hm hk hb .nil passL pa_sem hdb he hpl) ?_
  refine h.run B H σ _ r fun vs ars B1 H1 ρ1 ⟨c1, c2, c3, c4⟩ pr g1 r1 => ?_
  show DSx (kwOf X) n S (vs ++ []) H1 Q _
  rw [List.append_nil]
  refine ⟨B1, _, _, _, rel_args r1 pr c1 c2, by rw [List.length_map]; exact c3, c4, fun v d B2 H2 as' w u dv g2 r2 => ?_, fun _ _ _ _ _ w _ _ _ _ => w.elim⟩
  obtain ⟨g3, r3⟩ := rel_back r1 pr c2 u g2 r2
  exact q v d B2 H2 _ w dv (g1.trans g3) r3
/-- f(..) as a row, f may raise -/
theorem vs_callX (C : Cst X M sc NK G k) {j n : Nat} {S : SX} {i : Nat} {p spos : Pos} (Fn : FnX M j x n S) (hg : At G i x) (h : VX X (e :: es) ρ fun ars ρ1 => calls S n ρ1 ars (fun _ => F.nx) F.ex) (hj : j ≤ k := by decide)
    (hs : swapsWith (.Call (.Name x p) (e :: es) [] pos) none spos.line X.env = pure false := by rfl) (hdb : (x == ("__debug__" : Str)) = false := by decide) (he : starEach (e :: es) X.env = (false, eval e X.env) :: starEach es X.env := by rfl) (hpl : (backTo pos (starEach es X.env)).any (·.1) = false := by rfl) : VS X (.Expr (.Call (.Name x p) (e :: es) [] pos) spos) ρ F := VS.mk fun B H σ Z r f => by
  have eM := C.m
  subst eM
  obtain ⟨fa, fd, ps, Fo, hm, hk, hb⟩ := Fn.ex
  refine PS.sem (ps_expr (pe_callS (E := WE Z.e) Fo (C.room.mono hj) (C.g hg) hm hk hb (fun σ => passAt Z.tk σ) pa_sem hdb he hpl) hs) ?_
  refine h.run B H σ _ r fun vs ars B1 H1 ρ1 ⟨c1, c2, c3, c4⟩ pr g1 r1 => ?_
  refine ⟨B1, _, _, _, rel_args r1 pr c1 c2, by rw [List.length_map]; exact c3, c4, fun v d B2 H2 as' w u dv g2 r2 => ?_, fun c1 dx B2 H2 as' w k2 u g2 r2 => ?_⟩
  · obtain ⟨g3, r3⟩ := rel_back r1 pr c2 u g2 r2
    exact f.nx B2 H2 σ _ w (g1.trans g3) r3
  · obtain ⟨g3, r3⟩ := rel_back r1 pr c2 u g2 r2
    exact f.ex c1 dx B2 H2 σ _ w k2 (g1.trans g3) r3
/-- name = f(..), f may raise -/
theorem vs_setX (C : Cst X M sc NK G k) {j n : Nat} {S : SX} {i m : Nat} {v : Bool} {p py spos : Pos} (Fn : FnX M j x n S) (hg : At G i x) (ha : At NK m (y, v, true)) (h : VX X (e :: es) ρ fun ars ρ1 => calls S n ρ1 ars (fun d ρ2 => F.nx (ρ2.set m (.dat d))) F.ex) (hj : j ≤ k := by decide)
    (hs : swapsWith (.Call (.Name x p) (e :: es) [] pos) (some (.Name y py)) spos.line X.env = pure false := by rfl) (hdb : (x == ("__debug__" : Str)) = false := by decide) (he : starEach (e :: es) X.env = (false, eval e X.env) :: starEach es X.env := by rfl) (hpl : (backTo pos (starEach es X.env)).any (·.1) = false := by rfl) : VS X (.Assign [.Name y py] (.Call (.Name x p) (e :: es) [] pos) spos) ρ F := VS.mk fun B H σ Z r f => by
  have eM := C.m
  subst eM
  obtain ⟨fa, fd, ps, Fo, hm, hk, hb⟩ := Fn.ex
  refine PS.sem (ps_set C.nd (C.ix ha) (C.lo ha) (pe_callS (E := WE Z.e) Fo (C.room.mono hj) (C.g hg) hm hk hb (fun σ => passAt Z.tk σ) pa_sem hdb he hpl) hs (C.fn ha)) ?_
  refine h.run B H σ _ r fun vs ars B1 H1 ρ1 ⟨c1, c2, c3, c4⟩ pr g1 r1 => ?_
  refine ⟨B1, _, _, _, rel_args r1 pr c1 c2, by rw [List.length_map]; exact c3, c4, fun v d B2 H2 as' w u dv g2 r2 => ?_, fun c1 dx B2 H2 as' w k2 u g2 r2 => ?_⟩
  · obtain ⟨g3, r3⟩ := rel_back r1 pr c2 u g2 r2
    exact f.nx B2 H2 _ _ w ((g1.trans g3).trans go_set) (rel_set r3 dv)
  · obtain ⟨g3, r3⟩ := rel_back r1 pr c2 u g2 r2
    exact f.ex c1 dx B2 H2 σ _ w k2 (g1.trans g3) r3
end

/-! ### making them -/
section
variable {M : Md} {x : Str} {st : Stmt} {f : Addr} {fd : FuncData} {N ps : List Str} {NK : List (Str × Bool × Bool)} {G : List Str} {k n : Nat}
theorem cst_defX {P : Program} {w : World} {K : PySem.W.Frag} {mg : Str → Option Value} {base : Heap} {N : List Str} {qual : Str} {sc : Scope} {f : Addr} {cdv : Value} {A : Around} {outer : List Env} {s : Shared} {H : Hp} {E : XK}
    (hN : N = NK.map (·.1)) (nd : N.Nodup) (h : chk sc true NK G = true) (hr : Room k (A.deeper (envOfC qual sc s.heap.objs.size f cdv))) : Cst (cxOf (L2.CX P w) P w K mg base N qual sc f cdv A outer s H E) ⟨P, w, K, mg, base⟩ sc NK G k where
  m := rfl
  s := rfl
  n := hN
  vis := chk_vis h
  loc := fun i x v e => ⟨(chk_loc h i x v e).1, .inl rfl⟩
  gl := fun x e => chk_gl h x e
  nd := nd
  calm := rfl
  room := hr
  po := passes_of rfl
theorem slots_getX {as : En} {m i : Nat} {s : Sl} (h : (as ++ List.replicate m Sl.no)[i]? = some s) : (i < as.length ∧ as[i]? = some s) ∨ s = .no := by
  by_cases hi : i < as.length
  · rw [List.getElem?_append_left hi] at h
    exact .inl ⟨hi, h⟩
  · rw [List.getElem?_append_right (by omega), List.getElem?_replicate] at h
    split at h
    · cases h
      exact .inr rfl
    · cases h
theorem rel_startX {K : Kw} {B H : Hp} {vs : List V} {as : En} (r : Rel K B H (vs.map some) as) (hl : as.length ≤ N.length) : Rel K B H (L2.start N vs) (as ++ List.replicate (N.length - as.length) Sl.no) := by
  have l0 := r.len
  rw [List.length_map] at l0
  have tell : ∀ {i : Nat} {v : V}, (vs.map some)[i]? = some (some v) → (L2.start N vs)[i]? = some (some v) := fun {i v} h => by
    unfold L2.start
    rw [List.getElem?_append_left (List.getElem?_eq_some_iff.mp h).1]
    exact h
  refine ⟨r.ex, ?_, fun i d hi => ?_, fun i a o hi => ?_, fun i j a o o' hi hj => ?_⟩
  · unfold L2.start
    rw [List.length_append, List.length_append, List.length_map, List.length_replicate, List.length_replicate, l0]
  · rcases slots_getX hi with ⟨_, q⟩ | q
    · obtain ⟨v, h1, h2⟩ := r.dat i d q
      exact ⟨v, tell h1, h2⟩
    · cases q
  · rcases slots_getX hi with ⟨_, q⟩ | q
    · obtain ⟨h1, h2⟩ := r.own i a o q
      exact ⟨tell h1, h2⟩
    · cases q
  · rcases slots_getX hi with ⟨_, q⟩ | q
    · rcases slots_getX hj with ⟨_, q'⟩ | q'
      · exact r.dis i j a o o' q q'
      · cases q'
    · cases q
theorem back_out {K : Kw} {B H B' H' : Hp} {vs : List V} {σ' : L2.St} {as : List Sl} {m : Nat} {ρ' : En} (r : Rel K B H (vs.map some) as) (kp : kept as ρ') (g : Go B H (as ++ List.replicate m Sl.no) B' H' ρ') (r' : Rel K B' H' σ' ρ') :
    Go B H as B' H' (endOf as ρ') ∧ Rel K B' H' (vs.map some) (endOf as ρ') := by
  have own_iff : ∀ a, Own (as ++ List.replicate m Sl.no) a → Own as a := fun a ⟨i, o, h⟩ => by
    rcases slots_getX h with ⟨_, q⟩ | q
    · exact ⟨i, o, q⟩
    · cases q
  refine ⟨⟨g.ex, fun a o h n => g.keep a o h fun z => n (own_iff a z), fun a h1 h2 n => g.out a h1 h2 fun z => n (own_iff a z), fun a ⟨i, o, h⟩ => .inl ?_, g.dom⟩, ⟨r'.ex, by rw [end_len]; exact r.len, fun i d hi => ?_, fun i a o hi => ?_, fun i j a o o' hi hj => ?_⟩⟩
  · rcases end_get kp i _ h with ⟨a1, o1, o2, e, q, _⟩ | ⟨_, no⟩
    · cases e
      exact ⟨i, o1, q⟩
    · exact absurd rfl (no a o)
  · rcases end_get kp i _ hi with ⟨a1, o1, o2, e, q, _⟩ | ⟨q, _⟩
    · cases e
    · obtain ⟨v, h1, h2⟩ := r.dat i d q
      exact ⟨v, h1, Dp.mono g.ex h2⟩
  · rcases end_get kp i _ hi with ⟨a1, o1, o2, e, q, q2⟩ | ⟨_, no⟩
    · cases e
      exact ⟨(r.own i a o1 q).1, (r'.own i a o q2).2⟩
    · exact absurd rfl (no a o)
  · rcases end_get kp i _ hi with ⟨a1, o1, o2, e, q, _⟩ | ⟨_, no⟩
    · cases e
      rcases end_get kp j _ hj with ⟨a2, o3, o4, e2, q2, _⟩ | ⟨_, no⟩
      · cases e2
        exact r.dis i j a o1 o3 q q2
      · exact absurd rfl (no a o')
    · exact absurd rfl (no a o)
/-- the ends of a def's body -/
def finX (as : List Sl) (W : D → List Sl → Prop) (WX : Er → List Sl → Prop) : Fin where
  nx := fun ρ' => kept as ρ' ∧ W .none (endOf as ρ')
  rt := fun d ρ' => kept as ρ' ∧ W d (endOf as ρ')
  ex := fun c ρ' => kept as ρ' ∧ WX c (endOf as ρ')
theorem fnX_mk {S : SX} (F : Fun M.K x x st f fd) (Sc : FnScope N ps (defScope st)) (hm : M.mg x = some (.ref f)) (b : Binds M.K fd ps []) (hN : N = NK.map (·.1)) (hc : chk (defScope st) true NK G = true) (hn : ps.length = n) (hnN : n ≤ N.length)
    (body : ∀ X, Cst X M (defScope st) NK G k → ∀ as W WX, as.length = n → S as W WX → VSs X (defBody st) (as ++ List.replicate (N.length - n) Sl.no) (finX as W WX)) : FnX M (k + 1) x n S := by
  refine ⟨f, fd, ps, ?_, hm, F.kp, b⟩
  refine F.okX Sc (fun vs H Q E h => ?_) (fun cdv A outer s H vs Q E hr h => ?_)
  · obtain ⟨B, as, W, WX, r, hl, _⟩ := h
    have := r.len
    rw [List.length_map] at this
    rw [← this, hl, hn]
  · obtain ⟨B, as, W, WX, r, hl, hS, q1, q2⟩ := h
    have C : Cst (cxOf (L2.CX M.prog M.w) M.prog M.w M.K M.mg M.base N x (defScope st) f cdv A outer s H E) M (defScope st) NK G k := cst_defX hN Sc.nd hc hr
    refine ⟨_, pss_sem, ?_⟩
    have bd := body _ C as W WX hl hS
    have r0 := rel_startX (N := N) r (by omega)
    rw [hl] at r0
    refine bd.run B H _ ⟨_, fun c d σ H => E c d H, takes_of rfl rfl rfl rfl⟩ r0 ⟨fun B' H' σ' ρ' p g r' => ?_, fun v dd B' H' σ' ρ' p dv g r' => ?_, fun _ _ _ _ p => p.elim, fun _ _ _ _ p => p.elim, fun c d B' H' σ' ρ' p kk g r' => ?_⟩
    · obtain ⟨g1, r1⟩ := back_out r p.1 g r'
      exact q1 .non .none B' H' _ p.2 (end_upd p.1) .non g1 r1
    · obtain ⟨g1, r1⟩ := back_out r p.1 g r'
      exact q1 v dd B' H' _ p.2 (end_upd p.1) dv g1 r1
    · obtain ⟨g1, r1⟩ := back_out r p.1 g r'
      exact q2 c d B' H' _ p.2 kk (end_upd p.1) g1 r1
end

/-! ### try: .. except x: .. -/
/-- the context of a def's own rows -/
structure Top (X : Cx) : Prop where
  hs : X.stack = X.env :: X.outer
  hf : X.env.frame = some X.env.locals
section
variable {X : Cx} {M : Md} {sc : Scope} {NK : List (Str × Bool × Bool)} {G : List Str} {k : Nat} {ρ : En} {pos np pos' : Pos} {x : Str} {F : Fin} {c : Value} {body suite : List Stmt} {b₀ : Stmt}
theorem Cst.tr (C : Cst X M sc NK G k) {pn : List (Addr × Obj)} {xe : Value → Shared → Prop} (po : PassesOwn (model X.prog X.w) X.A X.env xe) : Cst (X.tr pn xe) M sc NK G k :=
  ⟨C.m, C.s, C.n, C.vis, C.loc, C.gl, C.nd, C.calm, C.room, po⟩
theorem vs_try (C : Cst X M sc NK G k) (t : Top X) (hc : Names X x c)
    (h : ∀ X', Cst X' M sc NK G k → VSs X' body ρ { F with ex := fun c1 ρ1 => ∃ b, PySem.W.exmOne M.K c1.c c = some b ∧ (b = true → ∀ X'', kwOf X'' = kwOf X → VSs X'' (b₀ :: suite) ρ1 { F with ex := fun _ _ => False }) ∧ (b = false → F.ex c1 ρ1) }) :
    VS X (.Try body [.ExceptHandler (some (.Name x np)) none (b₀ :: suite) pos'] [] [] pos) ρ F := VS.mk fun B H σ Z r f => by
  have eM := C.m
  subst eM
  let ts : Addr → Value → Option Addr → TS := fun a cls d D σ H => ∀ oe pn, Zc cls d oe → (∃ vs, oe.data = .fields vs) → ssSem (X.suite a ((a, oe) :: pn)) (b₀ :: suite) D σ H
  let tb : WX → TS := fun W D σ H => ∀ pn xe, Takes (X.tr pn xe) W → PassesOwn (model X.prog X.w) X.A X.env xe → ssSem (X.tr pn xe) body D σ H
  refine PS.sem (ps_try_only (tb := tb) (ts := ts) (Wout := Z.e) t.hs t.hf hc Z.tk (fun W pn xe tk po => ⟨fun pins s σ H D I hh => hh pn xe tk po pins s I⟩) (fun a oe cls d pn hz hd => ⟨fun pins s σ H D I hh => hh oe pn hz hd pins s I⟩)) ?_
  intro pn xe tk po
  have C' := C.tr (pn := pn) (xe := xe) po
  refine (h _ C').run B H σ ⟨Z.z, wOnly X.K c ts Z.e Z.z, tk⟩ r ⟨f.nx, f.rt, f.bk, f.ct, fun c1 d B1 H1 σ1 ρ1 p kk g1 r1 => ?_⟩
  obtain ⟨b, hb, h1, h0⟩ := p
  refine ⟨b, hb, fun e a na oe pn2 hz hd => ?_, fun e => ?_⟩
  · exact (h1 e (X.suite a ((a, oe) :: pn2)) rfl).run B1 H1 σ1 ⟨Z.z, fun _ _ _ _ => False, takes0⟩ r1 ⟨(f.go g1).nx, (f.go g1).rt, (f.go g1).bk, (f.go g1).ct, fun _ _ _ _ _ _ z => z.elim⟩
  · exact f.ex c1 d B1 H1 σ1 ρ1 (h0 e) kk g1 r1
/-- raise .. -/
theorem vs_raise (C : Cst X M sc NK G k) {e : Expr} {t : L2.St → Hp → XK → Prop} (he : PMk X e t) (h : ∀ B H σ (Q : XK), Rel (kwOf X) B H σ ρ → (∀ (c1 : Er) d B1 H1 ρ1, F.ex c1 ρ1 → ErOk X.K B1 H1 d c1 → Go B H ρ B1 H1 ρ1 → Rel (kwOf X) B1 H1 σ ρ1 → Q c1.c d H1) → t σ H Q) : VS X (.Raise (some e) none pos) ρ F := VS.mk fun B H σ Z r f => by
  refine PS.sem (ps_raise C.calm Z.tk he) ?_
  exact h B H σ _ r fun c1 d B1 H1 ρ1 p kk g1 r1 => f.ex c1 d B1 H1 σ ρ1 p kk g1 r1
end

open PySem PySem.Spec PyProof.Rows L2
open Evl (Ex)
def getS (es : List (Str × D)) (z : Str) : Option D := (es.find? fun e => decide (e.1 = z)).map (·.2)
abbrev zipS (es : List (Str × D)) (vs : List V) : List (Key × V) := List.zipWith (fun e v => ((Sum.inr e.1 : Key), v)) es vs
theorem valS {K : PySem.W.Frag} {B : Hp} {z : Str} : ∀ {es : List (Str × D)} {vs : List V}, DpAll K B vs (es.map (·.2)) →
    (∀ d, getS es z = some d → ∃ v, valV (zipS es vs) (.inr z) = some v ∧ Dp K B v d) ∧ (getS es z = none → valV (zipS es vs) (.inr z) = none)
  | [], _, .nil => ⟨fun d h => (nomatch h), fun _ => rfl⟩
  | e :: es, v :: vs, .cons h1 h2 => by
    obtain ⟨i1, i2⟩ := valS (z := z) (es := es) h2
    unfold getS valV zipS at i1 i2 ⊢
    rw [List.zipWith_cons_cons, List.find?_cons, List.find?_cons]
    by_cases q : e.1 = z
    · have e2 : decide ((Sum.inr e.1 : Key) = Sum.inr z) = true := decide_eq_true (by rw [q])
      rw [e2, decide_eq_true q]
      exact ⟨fun d hd => by cases hd; exact ⟨v, rfl, h1⟩, fun h => nomatch h⟩
    · have e2 : decide ((Sum.inr e.1 : Key) = Sum.inr z) = false := decide_eq_false fun w => q (Sum.inr.inj w)
      rw [e2, decide_eq_false q]
      exact ⟨i1, i2⟩
theorem zipS_any {K : PySem.W.Frag} {B : Hp} {z : Str} {es : List (Str × D)} {vs : List V} (h : DpAll K B vs (es.map (·.2))) (hn : getS es z = none) : (zipS es vs).any (fun kv => decide (kv.1 = Sum.inr z)) = false := by
  rw [valV_any, (valS h).2 hn]
  rfl
theorem zipS_app {K : PySem.W.Frag} {B : Hp} {e0 : Str × D} {v0 : V} : ∀ {es : List (Str × D)} {vs : List V}, DpAll K B vs (es.map (·.2)) → zipS es vs ++ [(Sum.inr e0.1, v0)] = zipS (es ++ [e0]) (vs ++ [v0])
  | [], _, .nil => rfl
  | e :: es, v :: vs, .cons _ h2 => congrArg (_ :: ·) (zipS_app (es := es) h2)
section
variable {X : Cx} {M : Md} {sc : Scope} {NK : List (Str × Bool × Bool)} {G : List Str} {k : Nat} {ρ : En} {P : D → En → Prop} {PB : Bool → En → Prop} {PL : List D → En → Prop} {pos : Pos} {tg e a b : Expr} {x y : Str} {F : Fin}
/-- name = {} -/
theorem vs_newDt (C : Cst X M sc NK G k) {i : Nat} {v : Bool} {p dpos : Pos} (ha : At NK i (x, v, true)) (hi : i < ρ.length) (h : ∀ z, F.nx (ρ.set i (.own z (.dt []))))
    (hs : swapsWith (.Dict [] [] dpos) (some (.Name x p)) pos.line X.env = pure false := by rfl) : VS X (.Assign [.Name x p] (.Dict [] [] dpos) pos) ρ F := VS.mk fun B H σ Z r f => by
  refine PS.sem (ps_set C.nd (C.ix ha) (C.lo ha) pe_dnewK hs (C.fn ha)) ?_
  intro z hz
  obtain ⟨r1, g1, bz⟩ := new_one (o := .dK []) r hz
  obtain ⟨g2, r2⟩ := own_newO (i := i) (ds := .dt []) hi hz upd_same bz (not_own r hz) ⟨[], .nil, rfl⟩ g1 r1
  exact f.nx _ _ _ _ (h z) g2 r2
/-- e in d, d a dict of one's own by texts -/
theorem vt_inDt (C : Cst X M sc NK G k) {i : Nat} {l : Bool} {px : Pos} (ha : At NK i (x, true, l))
    (h : VD X e ρ fun d ρ1 => ∃ (z : Str) (p : Addr) (es : List (Str × D)), d = .str z ∧ ρ1[i]? = some (.own p (.dt es)) ∧ PB (getS es z).isSome ρ1)
    (hd : (x == ("__debug__" : Str)) = false := by decide) (hcd : (x == ("__classdict__" : Str)) = false := by decide) (hm : behindInMarks .In (.Name x px) = false := by first | exact nobehind _ (by decide) (by decide) | rfl) : VT X (.Compare e [.In] [.Name x px] pos) ρ PB := VT.mk fun B H σ Q r q => by
  have hu := C.hu
  refine PT.sem (pt_cmp (pc_din (by omega) pe_sem (pe_var (C.ix ha) (C.vi ha) hd hcd)) hm) ?_
  refine h.run B H σ _ r fun v d B1 H1 ρ1 p1 dv g1 r1 => ?_
  obtain ⟨z, p, es, rfl, ho1, pp⟩ := p1
  obtain ⟨s1, _, _, h3, vs, dvs, rfl⟩ := r1.own i p _ ho1
  obtain ⟨w1, w2⟩ := valS (z := z) (es := es) dvs
  have eo : (valV (zipS es vs) (.inr z)).isSome = (getS es z).isSome := by
    cases e0 : getS es z with
    | none =>
      rw [w2 e0]
      rfl
    | some d =>
      obtain ⟨v0, hv0, _⟩ := w1 d e0
      rw [hv0]
      rfl
  refine ⟨.ref p, s1, p, _, rfl, .inl ⟨_, .inr z, .inl h3, dp_str dv, rfl⟩, ?_⟩
  rw [eo]
  exact ⟨_, rfl, q _ B1 H1 ρ1 pp g1 r1⟩
/-- d.get(e), d a dict of one's own by texts -/
theorem vd_getDt (C : Cst X M sc NK G k) {i : Nat} {l : Bool} {px ap : Pos} {p0 : Addr} {es0 : List (Str × D)} (ha : At NK i (x, true, l)) (ho : ρ[i]? = some (.own p0 (.dt es0)))
    (h : VD X e ρ fun d ρ1 => ∃ (z : Str) (p : Addr) (es : List (Str × D)), p = p0 ∧ d = .str z ∧ ρ1[i]? = some (.own p (.dt es)) ∧ P ((getS es z).getD .none) ρ1)
    (m1 : M1 X (.Name x px) "get" ap e pos := by exact ⟨rfl, rfl, rfl, rfl⟩)
    (hd : (x == ("__debug__" : Str)) = false := by decide) (hcd : (x == ("__classdict__" : Str)) = false := by decide) : VD X (.Call (.Attribute (.Name x px) "get" ap) [e] [] pos) ρ P := VD.mk fun B H σ Q r q => by
  have hu := C.hu
  refine PE.sem (pe_dget1 (by omega) (pe_var (C.ix ha) (C.vi ha) hd hcd) pe_sem m1) ?_
  obtain ⟨s0, _, _, h30, vs0, _, rfl⟩ := r.own i p0 _ ho
  refine ⟨.ref p0, s0, p0, rfl, .inl ⟨_, .inl h30⟩, ?_⟩
  refine h.run B H σ _ r fun v d B1 H1 ρ1 p1 dv g1 r1 => ?_
  obtain ⟨z, p, es, rfl, rfl, ho1, pp⟩ := p1
  obtain ⟨s1, _, _, h3, vs, dvs, rfl⟩ := r1.own i p _ ho1
  obtain ⟨w1, w2⟩ := valS (z := z) (es := es) dvs
  refine ⟨_, .inl ⟨_, .inr z, .inl h3, dp_str dv, rfl⟩, ?_⟩
  cases e0 : getS es z with
  | none =>
    rw [e0] at pp
    have := w2 e0
    unfold zipS at this
    rw [this]
    exact q _ _ B1 H1 ρ1 pp .non g1 r1
  | some d =>
    rw [e0] at pp
    obtain ⟨v0, hv0, dv0⟩ := w1 d e0
    unfold zipS at hv0
    rw [hv0]
    exact q _ _ B1 H1 ρ1 pp dv0 g1 r1
/-- d[b] = e, d a dict of one's own by texts, b not there -/
theorem vs_putDt (C : Cst X M sc NK G k) {i : Nat} {l : Bool} {p : Addr} {es0 : List (Str × D)} {px p2 : Pos} (ha : At NK i (x, true, l)) (ho : ρ[i]? = some (.own p (.dt es0)))
    (h : VD X e ρ fun d ρ1 => VD X b ρ1 fun y ρ2 => ∃ (z : Str) (es : List (Str × D)), y = .str z ∧ ρ2[i]? = some (.own p (.dt es)) ∧ getS es z = none ∧ es.length ≤ 100000 ∧ F.nx (ρ2.set i (.own p (.dt (es ++ [(z, d)])))))
    (hs : swapsWithSole [.Subscript (.Name x px) b p2] e pos.line X.env = pure false := by rfl) (hw : swappedStores [.Subscript (.Name x px) b p2] e X.env = pure none := by rfl) (h1 : (assignEach [.Subscript (.Name x px) b p2] X.env).map (·.2) = [assign (.Subscript (.Name x px) b p2) X.env] := by rfl)
    (hd : (x == ("__debug__" : Str)) = false := by decide) (hcd : (x == ("__classdict__" : Str)) = false := by decide)
    (hg : ∀ v, assign (.Subscript (.Name x px) b p2) X.env v = (do
      let ov ← holding [v] (eval (.Name x px) X.env)
      let iv ← holding [v, ov] (eval b X.env)
      standAt p2
      holding [v, ov, iv] (setItem ov iv v)
      release [v, ov, iv] []) := by intro _; rfl) : VS X (.Assign [.Subscript (.Name x px) b p2] e pos) ρ F := VS.mk fun B H σ Z r f => by
  have hu := C.hu
  refine PS.sem (ps_asg pe_sem (pg_sub (pe_var (C.ix ha) (C.vi ha) hd hcd) pe_sem (set_dict (by omega)) hg) hs hw h1) ?_
  refine h.run B H σ _ r fun v d B1 H1 ρ1 p1 dv g1 r1 => ⟨.ref p, (r.own i p _ ho).1, ?_⟩
  refine p1.run B1 H1 σ _ r1 fun vy y B2 H2 ρ2 p2 dy g2 r2 => ?_
  obtain ⟨z, es, rfl, ho2, hn, hl, pp⟩ := p2
  obtain ⟨_, bp, _, h3, vs, dvs, rfl⟩ := r2.own i p _ ho2
  have sl := sizeLine_eq
  have hlz : (zipS es vs).length ≤ 100000 := by
    rw [List.length_zipWith]
    omega
  have eput : putK (zipS es vs) (.inr z) v = zipS (es ++ [(z, d)]) (vs ++ [v]) := by
    unfold putK
    rw [zipS_any dvs hn, if_neg (by decide)]
    exact zipS_app (e0 := (z, d)) dvs
  obtain ⟨r3, g3⟩ := own_writeO (u' := .dK (zipS (es ++ [(z, d)]) (vs ++ [v]))) (cs' := .dt (es ++ [(z, d)])) r2 ho2 ⟨vs ++ [v], by
      rw [List.map_append]
      exact DpAll.app dvs (.cons (Dp.mono g2.ex dv) .nil), rfl⟩
  refine ⟨p, upd H2 p (.dK (zipS (es ++ [(z, d)]) (vs ++ [v]))), rfl, .inl ⟨_, .inr z, h3, dp_str dy, by unfold zipS at hlz; omega, ?_⟩, f.nx B2 _ σ _ pp ((g1.trans g2).trans g3) r3⟩
  rw [← eput]
/-! ### texts -/
theorem does_lenS : Does X (.builtin "len") (fun ds W => ∃ z : Str, ds = [.str z] ∧ z.length ≤ 100000 ∧ W (.int z.length)) := fun B H vs ds W Q e h s q => by
  obtain ⟨z, rfl, hl, w⟩ := s
  cases h with
  | cons h1 h2 =>
    cases h2
    have sl := sizeLine_eq
    exact CallR.sem call_len_str ⟨z, by rw [dp_str h1], by omega, q _ _ B H w (.int _) (Ex.refl B) e (Ex.refl H) fun _ _ b => b⟩
/-- a[b], a a text -/
theorem vd_ixS (h : VD X a ρ fun x ρ1 => VD X b ρ1 fun y ρ2 => ∃ (z : Str) (i : Int) (c : Nat), x = .str z ∧ y = .int i ∧ z.length ≤ 100000 ∧ atI z.cps.toList i = some c ∧ P (.str ⟨#[c]⟩) ρ2) (hs : PlainIx b := by exact fun _ _ => rfl) : VD X (.Subscript a b pos) ρ P := VD.mk fun B H σ Q r q => by
  refine PE.sem (pe_ix ix_str pe_sem pe_sem hs) ?_
  refine h.run B H σ _ r fun vx x B1 H1 ρ1 p1 dx g1 r1 => ?_
  refine p1.run B1 H1 σ _ r1 fun vy y B2 H2 ρ2 p2 dy g2 r2 => ?_
  obtain ⟨z, i, c, rfl, rfl, hl, hc, pp⟩ := p2
  have sl := sizeLine_eq
  exact ⟨z, i, c, dp_str dx, dp_int dy, by omega, hc, q _ _ B2 H2 ρ2 pp (.str _) (g1.trans g2) r2⟩
/-- one sign in a text -/
theorem vd_inSg (h : VD X a ρ fun x ρ1 => VD X b ρ1 fun y ρ2 => ∃ (c : Nat) (z : Str), x = .str ⟨#[c]⟩ ∧ y = .str z ∧ P (.bool (decide (c ∈ z.cps.toList))) ρ2) (hm : behindInMarks .In b = false := by first | exact nobehind _ (by decide) (by decide) | rfl) : VD X (.Compare a [.In] [b] pos) ρ P := VD.mk fun B H σ Q r q => by
  refine PE.sem (pe_cmpR op_in_sign pe_sem pe_sem hm) ?_
  refine h.run B H σ _ r fun vx x B1 H1 ρ1 p1 dx g1 r1 => ?_
  refine p1.run B1 H1 σ _ r1 fun vy y B2 H2 ρ2 p2 dy g2 r2 => ?_
  obtain ⟨c, z, rfl, rfl, pp⟩ := p2
  exact ⟨c, z, dp_str dx, dp_str dy, q _ _ B2 H2 ρ2 pp (.bl _) (g1.trans g2) r2⟩
theorem vt_inSg (h : VD X a ρ fun x ρ1 => VD X b ρ1 fun y ρ2 => ∃ (c : Nat) (z : Str), x = .str ⟨#[c]⟩ ∧ y = .str z ∧ PB (decide (c ∈ z.cps.toList)) ρ2) (hm : behindInMarks .In b = false := by first | exact nobehind _ (by decide) (by decide) | rfl) : VT X (.Compare a [.In] [b] pos) ρ PB := VT.mk fun B H σ Q r q => by
  refine PT.sem (pt_cmpR op_in_sign pe_sem pe_sem hm) ?_
  refine h.run B H σ _ r fun vx x B1 H1 ρ1 p1 dx g1 r1 => ?_
  refine p1.run B1 H1 σ _ r1 fun vy y B2 H2 ρ2 p2 dy g2 r2 => ?_
  obtain ⟨c, z, rfl, rfl, pp⟩ := p2
  exact ⟨c, z, dp_str dx, dp_str dy, _, rfl, q _ B2 H2 ρ2 pp (g1.trans g2) r2⟩
theorem inV_strs {K : PySem.W.Frag} {B : Hp} {x : Str} : ∀ {ws : List Str} {vs : List V}, DpAll K B vs (ws.map PyData.str) → inV (.str x) vs = decide (x ∈ ws) ∧ vs.all flatV = true
  | [], _, .nil => ⟨by unfold inV; simp, rfl⟩
  | w :: ws, _, .cons (v := v) h hs => by
    obtain ⟨h1, h2⟩ := inV_strs (x := x) (ws := ws) hs
    have hv := dp_str h
    subst hv
    refine ⟨?_, ?_⟩
    · unfold inV at h1 ⊢
      rw [List.any_cons, h1]
      by_cases e : w = x
      · subst e
        simp [eqV]
      · have e2 : ¬ x = w := fun z => e z.symm
        simp [eqV, e, e2]
    · rw [List.all_cons, h2]
      rfl
/-- a text in, not in a tuple or a list of texts -/
theorem vd_inTx (h : VD X a ρ fun x ρ1 => VD X b ρ1 fun y ρ2 => ∃ (z : Str) (ws : List Str), x = .str z ∧ (y = .tuple (ws.map PyData.str) ∨ y = .list (ws.map PyData.str)) ∧ P (.bool (decide (z ∈ ws))) ρ2) (hm : behindInMarks .In b = false := by first | exact nobehind _ (by decide) (by decide) | rfl) : VD X (.Compare a [.In] [b] pos) ρ P := VD.mk fun B H σ Q r q => by
  refine PE.sem (pe_cmpR op_in_seq pe_sem pe_sem hm) ?_
  refine h.run B H σ _ r fun vx x B1 H1 ρ1 p1 dx g1 r1 => ?_
  refine p1.run B1 H1 σ _ r1 fun vy y B2 H2 ρ2 p2 dy g2 r2 => ?_
  obtain ⟨z, ws, rfl, hy, pp⟩ := p2
  have dx' := dp_str dx
  subst dx'
  rcases hy with rfl | rfl
  · obtain ⟨t, vs, rfl, hT, hv⟩ := dp_tup dy
    obtain ⟨e1, e2⟩ := inV_strs (x := z) hv
    refine ⟨t, vs, rfl, .inr (ex_t r2.ex hT), rfl, e2, ?_⟩
    rw [if_neg Bool.false_ne_true, e1]
    exact q _ _ B2 H2 ρ2 pp (.bl _) (g1.trans g2) r2
  · obtain ⟨t, vs, rfl, hT, hv⟩ := dp_lst dy
    obtain ⟨e1, e2⟩ := inV_strs (x := z) hv
    refine ⟨t, vs, rfl, .inl (ex_l r2.ex hT), rfl, e2, ?_⟩
    rw [if_neg Bool.false_ne_true, e1]
    exact q _ _ B2 H2 ρ2 pp (.bl _) (g1.trans g2) r2
theorem vd_notInTx (h : VD X a ρ fun x ρ1 => VD X b ρ1 fun y ρ2 => ∃ (z : Str) (ws : List Str), x = .str z ∧ (y = .tuple (ws.map PyData.str) ∨ y = .list (ws.map PyData.str)) ∧ P (.bool (!decide (z ∈ ws))) ρ2) (hm : behindInMarks .NotIn b = false := by first | exact nobehind _ (by decide) (by decide) | rfl) : VD X (.Compare a [.NotIn] [b] pos) ρ P := VD.mk fun B H σ Q r q => by
  refine PE.sem (pe_cmpR op_notIn_seq pe_sem pe_sem hm) ?_
  refine h.run B H σ _ r fun vx x B1 H1 ρ1 p1 dx g1 r1 => ?_
  refine p1.run B1 H1 σ _ r1 fun vy y B2 H2 ρ2 p2 dy g2 r2 => ?_
  obtain ⟨z, ws, rfl, hy, pp⟩ := p2
  have dx' := dp_str dx
  subst dx'
  rcases hy with rfl | rfl
  · obtain ⟨t, vs, rfl, hT, hv⟩ := dp_tup dy
    obtain ⟨e1, e2⟩ := inV_strs (x := z) hv
    refine ⟨t, vs, rfl, .inr (ex_t r2.ex hT), rfl, e2, ?_⟩
    rw [if_pos rfl, e1]
    exact q _ _ B2 H2 ρ2 pp (.bl _) (g1.trans g2) r2
  · obtain ⟨t, vs, rfl, hT, hv⟩ := dp_lst dy
    obtain ⟨e1, e2⟩ := inV_strs (x := z) hv
    refine ⟨t, vs, rfl, .inl (ex_l r2.ex hT), rfl, e2, ?_⟩
    rw [if_pos rfl, e1]
    exact q _ _ B2 H2 ρ2 pp (.bl _) (g1.trans g2) r2
/-- the signs of a text, one by one -/
def sgs (z : Str) : List D := z.cps.toList.map fun c => PyData.str ⟨#[c]⟩
theorem vi_str (h : VD X e ρ fun d ρ1 => ∃ z, d = .str z ∧ PL (sgs z) ρ1) : VI X tg e ρ PL := VI.mk fun B H σ R r q => by
  refine PI.sem (pi_str pe_sem) ?_
  refine h.run B H σ _ r fun v d B1 H1 ρ1 p1 dv g1 r1 => ?_
  obtain ⟨z, rfl, pp⟩ := p1
  refine ⟨z, dp_str dv, q _ (sgs z) B1 H1 ρ1 pp (fun j B2 H2 e1 e2 => ⟨fun hj => ?_, fun hj => ?_⟩) g1 r1⟩
  · have hj' : j < z.cps.size := by
      unfold sgs at hj
      rw [List.length_map, Array.length_toList] at hj
      exact hj
    refine ⟨hj', fun x H' y => ?_⟩
    obtain ⟨rfl, c, hc, rfl⟩ := y
    refine ⟨rfl, _, ?_, .str _⟩
    unfold sgs
    rw [List.getElem?_map, Array.getElem?_toList, hc]
    rfl
  · unfold sgs at hj
    rw [List.length_map, Array.length_toList] at hj
    exact hj
/-- a text that stands at the top -/
theorem vd_gstr (C : Cst X M sc NK G k) {i : Nat} {z : Str} {t : Tok} (hg : At G i x) (hm : M.mg x = some (.str z t)) (p : P (.str z) ρ) (hd : (x == ("__debug__" : Str)) = false := by decide) : VD X (.Name x pos) ρ P := VD.mk fun B H σ Q r q =>
  PE.sem (pe_glob (C.g hg) (C.mg hm) (v := .str z) ⟨t, rfl⟩ hd) (q _ _ B H ρ p (.str z) Go.refl r)
/-- a tuple of texts that stands at the top -/
theorem vd_gtup (C : Cst X M sc NK G k) {i : Nat} {a0 : Addr} {ds : List D} (hg : At G i x) (hm : M.mg x = some (.ref a0)) (ht : ∀ B, Dp M.K B (.ref a0) (.tuple ds)) (p : P (.tuple ds) ρ) (hd : (x == ("__debug__" : Str)) = false := by decide) : VD X (.Name x pos) ρ P := VD.mk fun B H σ Q r q => by
  have eM := C.m
  subst eM
  exact PE.sem (pe_glob (C.g hg) (C.mg hm) (v := .ref a0) rfl hd) (q _ _ B H ρ p (ht B) Go.refl r)
end
end Vc

/-! Vc, part S: tuples of numbers and texts, one below the other. -/
namespace VcT
open PySem PyProof.Rows
abbrev Key := L2.Key
def IsK : Value → Key → Prop
  | v, .inl i => ∃ t, v = .int i t
  | v, .inr x => ∃ t, v = .str x t
/-- two things of a kind: the one below the other -/
def ltK : Key → Key → Bool
  | .inl i, .inl j => decide (i < j)
  | .inr x, .inr y => decide (x.cps.toList < y.cps.toList)
  | _, _ => false
def likeK : Key → Key → Bool
  | .inl _, .inl _ => true
  | .inr _, .inr _ => true
  | _, _ => false
/-- some: the places that are looked at hold things of a kind -/
def lexK : List Key → List Key → Option Bool
  | [], [] => some false
  | [], _ :: _ => some true
  | _ :: _, [] => some false
  | x :: xs, y :: ys => if x = y then lexK xs ys else if likeK x y = true then some (ltK x y) else none
theorem lexK_cons {x y : Key} {xs ys : List Key} : lexK (x :: xs) (y :: ys) = if x = y then lexK xs ys else if likeK x y = true then some (ltK x y) else none := rfl
inductive AreK : List Value → List Key → Prop where
  | nil : AreK [] []
  | cons {v : Value} {k : Key} {vs : List Value} {ks : List Key} : IsK v k → AreK vs ks → AreK (v :: vs) (k :: ks)
theorem AreK.length {vs : List Value} {ks : List Key} (h : AreK vs ks) : vs.length = ks.length := by
  induction h with
  | nil => rfl
  | cons _ _ ih => exact congrArg (· + 1) ih
theorem eqAtK (A : Around) (s : Shared) {v u : Value} {x y : Key} (hv : IsK v x) (hu : IsK u y) (hl : x = y ∨ likeK x y = true) : ∃ e, SeqAt.EqAt A s v u e ∧ (e = true ↔ x = y) := by
  cases x with
  | inl i =>
    cases y with
    | inl j =>
      obtain ⟨t, rfl⟩ := hv
      obtain ⟨t', rfl⟩ := hu
      exact ⟨(i == j), SeqAt.EqAt.int_int i t j t', by simp⟩
    | inr y => exact absurd hl (by simp [likeK])
  | inr x =>
    cases y with
    | inl j => exact absurd hl (by simp [likeK])
    | inr y =>
      obtain ⟨t, rfl⟩ := hv
      obtain ⟨t', rfl⟩ := hu
      exact ⟨(x == y), SeqAt.EqAt.str_str x t y t', by simp⟩
theorem rcK (A : Around) (s : Shared) {v u : Value} {x y : Key} (hv : IsK v x) (hu : IsK u y) (hl : likeK x y = true) (prog : Program) (w : World) (E : Value → Shared → Prop) (Q : Value → Shared → Prop) (h : Q (.bool (ltK x y)) s) :
    wpAny (model prog w) A (richCompare .Lt v u) Q E s := by
  cases x with
  | inl i =>
    cases y with
    | inl j =>
      obtain ⟨t, rfl⟩ := hv
      obtain ⟨t', rfl⟩ := hu
      exact (PyProof.Rows.lt_int h : wpAny (model prog w) A (compareOp .Lt (.int i t) (.int j t')) Q E s)
    | inr y => exact absurd hl (by simp [likeK])
  | inr x =>
    cases y with
    | inl j => exact absurd hl (by simp [likeK])
    | inr y =>
      obtain ⟨t, rfl⟩ := hv
      obtain ⟨t', rfl⟩ := hu
      exact (PyProof.Rows.lt_str h : wpAny (model prog w) A (compareOp .Lt (.str x t) (.str y t')) Q E s)
section
open PySem.SeqAt
open PySem.AutoSeq1 (wpAny_loadPart')
open PySem.MeetsSeq PySem.MeetsSeq2 PySem.MeetsSeq3
theorem meets_ltK (l b : Addr) (one two : Array Value) (n n2 : Nat) (dd dd2 : Option Addr) (sl sl2 : Array (Option Value)) (ns ms : List Key) (r : Bool) (hi : AreK one.toList ns) (hj : AreK two.toList ms) (hr : lexK ns ms = some r) :
    Meets (Builtin.«tuple.__lt__» ⟨[.ref l, .ref b], []⟩)
      (fun _ R s => s.heap.get? l = some { cls := .type "tuple", dict := dd, data := .seq one n, slots := sl } ∧ s.heap.get? b = some { cls := .type "tuple", dict := dd2, data := .seq two n2, slots := sl2 } ∧
        R (.ok (.ret (.bool r))) s) :=
  .of_wp fun prog w A R s h => by
    obtain ⟨hp, g, d, tk, os⟩ := s
    obtain ⟨hl, hb, h⟩ := h
    have f2 := AutoSeq1.sub_tuple_tuple
    have z1 : one.size = ns.length := by rw [← hi.length]; simp
    have z2 : two.size = ms.length := by rw [← hj.length]; simp
    wp_walk using wpAny_loadPart' hl, wpAny_loadPart' hb, wpAny_forIn_list _ (fun rest b s' => b.1 = none ∧ s' = ⟨hp, g, d, tk, os⟩ ∧ ∃ (vs us : List Value) (xs ys : List Key), rest = vs.zip us ∧
      AreK vs xs ∧ AreK us ys ∧ xs.length + two.size = ys.length + one.size ∧ lexK xs ys = some r) _
    case turn =>
      rintro ⟨p, q⟩ rest b s' ⟨hb', rfl, vs, us, xs, ys, hz, hv, hu, hlen, hr1⟩
      cases hv with
      | nil =>
        rw [List.zip_nil_left] at hz
        cases hz
      | @cons v1 x vs' xs' kv hv =>
        cases hu with
        | nil =>
          rw [List.zip_nil_right] at hz
          cases hz
        | @cons u1 y us' ys' ku hu =>
          rw [List.zip_cons_cons] at hz
          injection hz with e1 e2
          injection e1 with e3 e4
          subst e3 e4
          rw [lexK_cons] at hr1
          simp only [List.length_cons] at hlen
          by_cases same : x = y
          · rw [if_pos same] at hr1
            obtain ⟨e, he, iff⟩ := eqAtK A.in1 ⟨hp, g, d, tk, os⟩ kv ku (.inl same)
            have et : e = true := iff.mpr same
            subst et
            refine wpAny_bind (he prog w _ _ ?_)
            wp_walk
            exact ⟨rfl, rfl, _, _, _, _, e2, hv, hu, by omega, hr1⟩
          · rw [if_neg same] at hr1
            by_cases like : likeK x y = true
            · rw [if_pos like] at hr1
              obtain ⟨e, he, iff⟩ := eqAtK A.in1 ⟨hp, g, d, tk, os⟩ kv ku (.inr like)
              have ef : e = false := by
                cases e with
                | false => rfl
                | true => exact absurd (iff.mp rfl) same
              subst ef
              refine wpAny_bind (he prog w _ _ ?_)
              have low := rcK A.in1 ⟨hp, g, d, tk, os⟩ kv ku like prog w
              wp_walk using low
              have er : ltK x y = r := Option.some.inj hr1
              exact ⟨_, rfl, by rw [← er] at h; simpa using h⟩
            · rw [if_neg like] at hr1
              cases hr1
    case fin =>
      rintro ⟨b1, b2⟩ s' ⟨hb', rfl, vs, us, xs, ys, hz, hv, hu, hlen, hr1⟩
      simp only at hb'
      subst hb'
      have hv : r = decide (one.size < two.size) := by
        cases hv with
        | nil =>
          cases hu with
          | nil =>
            simp only [List.length_nil] at hlen
            rw [← Option.some.inj (show some false = some r from hr1)]
            exact (decide_eq_false (by omega)).symm
          | cons _ _ =>
            simp only [List.length_nil, List.length_cons] at hlen
            rw [← Option.some.inj (show some true = some r from hr1)]
            exact (decide_eq_true (by omega)).symm
        | cons _ _ =>
          cases hu with
          | nil =>
            simp only [List.length_nil, List.length_cons] at hlen
            rw [← Option.some.inj (show some false = some r from hr1)]
            exact (decide_eq_false (by omega)).symm
          | cons _ _ =>
            rw [List.zip_cons_cons] at hz
            cases hz
      rw [hv] at h
      wp_walk
      exact ⟨_, rfl, by simpa [Builtin.Tuple.tupleCompareSizes] using h⟩
    case h =>
      exact ⟨rfl, rfl, one.toList, two.toList, ns, ms, rfl, hi, hj, by omega, hr⟩
end
section
variable {prog : Program} {w : World} {A : Around} {E : Value → Shared → Prop} {s : Shared}
theorem lt_tupK {l b : Addr} {one two : Array Value} {ns ms : List Key} {r : Bool} {Q : Value → Shared → Prop} (hl : IsTup s.heap l one) (hb : IsTup s.heap b two) (hi : AreK one.toList ns) (hj : AreK two.toList ms) (hr : lexK ns ms = some r)
    (hu : A.units < cLine) (h : Q (.bool r) s) : wpAny (model prog w) A (compareOp .Lt (.ref l) (.ref b)) Q E s := by
  obtain ⟨⟨c1, d1, q1, s1⟩, ho, hc, n, hd⟩ := id hl
  obtain ⟨⟨c2, d2, q2, s2⟩, ho2, hc2, n2, hd2⟩ := id hb
  simp only at hc hd hc2 hd2
  subst hc hd hc2 hd2
  exact richCompare_meets_room (op := .Lt) ⟨_, ho, rfl⟩ ⟨_, ho2, rfl⟩ PySem.F.slot_tuple_lt PySem.F.entry_tuple_lt (PySem.F.args_tuple_lt_2 _ _) (meets_ltK l b one two n n2 d1 d2 s1 s2 ns ms r hi hj hr)
    ⟨ho, ho2, show Value.bool r ≠ Value.notImplemented ∧ Q (.bool r) s from ⟨(fun z => nomatch z), h⟩⟩ hu
end
end VcT
namespace Vc
open PySem PySem.Spec PyProof.Rows L2
open Evl (Ex)
/-- numbers and texts as data -/
def dK : Key → D
  | .inl i => .int i
  | .inr x => .str x
section
variable {X : Cx} {M : Md} {sc : Scope} {NK : List (Str × Bool × Bool)} {G : List Str} {k : Nat} {ρ : En} {P : D → En → Prop} {pos : Pos} {a b : Expr}
theorem dps_keys {K : PySem.W.Frag} {B : Hp} : ∀ {ks : List Key} {vs : List V} {us : List Value}, DpAll K B vs (ks.map dK) → Vals vs us → VcT.AreK us ks
  | [], _, _, .nil, .nil => .nil
  | .inl i :: ks, _, _, .cons h hs, .cons r rs => .cons (by
      have e := dp_int h
      subst e
      exact r) (dps_keys hs rs)
  | .inr x :: ks, _, _, .cons h hs, .cons r rs => .cons (by
      have e := dp_str h
      subst e
      exact r) (dps_keys hs rs)
/-- a < b, tuples of numbers and texts -/
theorem vd_ltK (C : Cst X M sc NK G k) (h : VD X a ρ fun x ρ1 => VD X b ρ1 fun y ρ2 => ∃ (ns ms : List Key) (r : Bool), x = .tuple (ns.map dK) ∧ y = .tuple (ms.map dK) ∧ VcT.lexK ns ms = some r ∧ P (.bool r) ρ2) (hm : behindInMarks .Lt b = false := by first | exact nobehind _ (by decide) (by decide) | rfl) : VD X (.Compare a [.Lt] [b] pos) ρ P := VD.mk fun B H σ Q r q => by
  refine PE.sem (pe_cmpR or_sem pe_sem pe_sem hm) ?_
  refine h.run B H σ _ r fun vx x B1 H1 ρ1 p1 dx g1 r1 => ?_
  refine p1.run B1 H1 σ _ r1 fun vy y B2 H2 ρ2 p2 dy g2 r2 => ?_
  obtain ⟨ns, ms, bb, rfl, rfl, hr, pp⟩ := p2
  obtain ⟨t, vs, rfl, hT, hv⟩ := dp_tup dx
  obtain ⟨t2, vs2, rfl, hT2, hv2⟩ := dp_tup dy
  intro pins s σ' v u I rv ru
  cases rv
  cases ru
  obtain ⟨its, w1, pl, _⟩ := I.tuple (ex_t (g2.ex.trans r2.ex) hT)
  obtain ⟨its2, w2, pl2, _⟩ := I.tuple (ex_t r2.ex hT2)
  have hu := C.hu
  exact VcT.lt_tupK pl pl2 (dps_keys hv w1) (dps_keys hv2 w2) hr (by omega) ⟨.bl bb, H2, I, rfl, q _ _ B2 H2 ρ2 pp (.bl bb) (g1.trans g2) r2⟩
end
end Vc

/-! Vc, part T: a, *b = a tuple. -/
namespace VcU
open PySem PyProof.Rows
section
variable {prog : Program} {w : World} {A : Around} {E : Value → Shared → Prop} {s : Shared}
/-- a tuple's walker that has walked k steps -/
theorem walks_from {prog : Program} {w : World} {A : Around} (hh : A.handled = none) (I ax : Addr) (hne : ax ≠ I) (items : Array Value) (k : Nat) :
    WalksS prog w A I [I, ax] [I] (fun a b => b = a) (items.size - k) (fun i v => items[k + i]? = some v) (fun i s => s.heap.IsTupleIter I ax (k + i) ∧ s.heap.IsTuple ax items ∧ k ≤ items.size) where
  sub := fun b hb => by simp at hb; simp [hb]
  grefl := fun _ => rfl
  gtrans := fun a b c h1 h2 => h2.trans h1
  frame := fun i s h' tk st _ hk => ⟨st.1.at fun o e => hk I (by simp) o e, st.2.1.at fun o e => hk ax (by simp) o e, st.2.2⟩
  item := fun i s Q E hi st hQ => by
    have hlt : k + i < items.size := by omega
    refine wpAny_pyNext_tuple_item st.1 st.2.1 (x := items[k + i]) (by simp [hlt]) fun h' hit' hs' => ?_
    exact hQ _ { s with heap := h' } (by simp [hlt]) ⟨by rw [← Nat.add_assoc]; exact hit', st.2.1.extBut hs'.extBut hne, st.2.2⟩ ⟨fun b o hb e => hs'.extBut b o (fun h => hb (by simp [h])) e, rfl, rfl, rfl, Nat.le_refl _⟩
  done := fun s Q E st hQ => by
    have h0 := st.2.2
    refine wpAny_pyNext_tuple_end hh st.1 st.2.1 (by simp; omega) fun h' he' => hQ { s with heap := h' } ⟨fun b o hb e => he' b o (fun h => hb (by simp [h])) e, rfl, rfl, rfl, Nat.le_refl _⟩
  self := fun _ _ _ _ st hQ => wpAny_pyIter_tupleiter st.1 hQ
theorem unpack_star {t : Addr} {items : Array Value} {x : Value} {g1 g2 : Value → Sem Unit} {Q : Unit → Shared → Prop} (hh : A.handled = none) (ht : IsTup s.heap t items) (hx : items[0]? = some x) (hz : items.size ≤ sizeLine)
    (h : ∀ (s' : Shared), (∀ b o, s.heap.get? b = some o → s'.heap.get? b = some o) → s'.gens = s.gens → s'.drawn = s.drawn → s'.os = s.os →
      wpAny (model prog w) A (assignInOrder [g1, g2] [x, .ref s'.heap.objs.size]) Q E { s' with heap := s'.heap.push { cls := .type "list", data := .seq (items.toList.drop 1).toArray } }) :
    wpAny (model prog w) A (unpack (.ref t) [(false, g1), (true, g2)]) Q E s := by
  have hlt : t ≠ s.heap.objs.size := by obtain ⟨o, ho, _⟩ := ht; exact Nat.ne_of_lt (Heap.lt_size ho)
  have hp : 0 < items.size := by
    by_cases q : 0 < items.size
    · exact q
    · rw [Array.getElem?_eq_none (by omega)] at hx
      cases hx
  unfold unpack
  refine wpAny_bind (wpAny_holding ?_)
  show wpAny _ _ (unpackItems (.ref t) 2 (some 1)) _ _ _
  unfold unpackItems
  refine wpAny_bind ?_
  unfold notIterableAtAll
  refine wpAny_bind (wpAny_specialOf ht.typeIs slot_tuple_iter.lookup ?_)
  refine wpAny_pure ?_
  simp only [Bool.false_eq_true, if_false]
  refine wpAny_bind (wpAny_holding (iter_tuple ht ?_))
  refine wpAny_bind (wpAny_holding (draw_tuple hlt 1 0 _ _ ⟨_, Heap.get?_push_size _ rfl, rfl, rfl⟩ (ht.push _) (by omega) fun h₁ hit₁ hs₁ => ?_))
  have e1 : List.take 1 (List.drop 0 items.toList) = [x] := by
    have hl : items.toList[0]? = some x := by rw [Array.getElem?_toList]; exact hx
    cases e : items.toList with
    | nil =>
      rw [e] at hl
      cases hl
    | cons a r =>
      rw [e] at hl
      cases hl
      rfl
  rw [e1]
  rw [if_neg (by simp)]
  have ht₁ : IsTup h₁ t items := (ht.push _).extBut hs₁.extBut hlt
  refine wpAny_bind (wpAny_holding (wpAny_collect_iter (T := "tuple_iterator") (.inr (.inr (.inr rfl))) (walks_from (A := A.in1) hh s.heap.objs.size t hlt items 1) (fun i s' st => ?_) ⟨?_, ht₁, hp⟩ (fun b hb => ?_) (by simp) (fun s' acc hm hacc => ?_) (by omega)))
  · obtain ⟨o, ho, hc, _⟩ := st.1
    exact ⟨o, ho, hc⟩
  · exact hit₁
  · have q1 : s.heap.objs.size < h₁.objs.size := by
      obtain ⟨o, ho, _⟩ := hit₁
      exact Heap.lt_size ho
    have q2 : t < h₁.objs.size := by
      obtain ⟨o, ho, _⟩ := ht₁
      exact Heap.lt_size ho
    rcases List.mem_cons.mp hb with rfl | hb
    · exact q1
    · have : b = t := by simpa using hb
      rw [this]
      exact q2
  · have ea : acc.toList = items.toList.drop 1 := by
      have hs : acc.size = items.size - 1 := hacc.1
      refine List.ext_getElem? fun j => ?_
      rw [List.getElem?_drop, Array.getElem?_toList, Array.getElem?_toList]
      cases hj : acc[j]? with
      | none =>
        have := Array.getElem?_eq_none_iff.mp hj
        exact (Array.getElem?_eq_none (by omega)).symm
      | some v => exact (hacc.2 j v hj).symm
    rw [ea]
    show wpAny _ _ (if (items.toList.drop 1).length < 2 - 1 - 1 then _ else _) _ _ _
    rw [if_neg (by omega)]
    have e2 : List.take ((items.toList.drop 1).length - (2 - 1 - 1)) (items.toList.drop 1) = items.toList.drop 1 := List.take_of_length_le (by omega)
    have e3 : List.drop ((items.toList.drop 1).length - (2 - 1 - 1)) (items.toList.drop 1) = [] := List.drop_of_length_le (by omega)
    simp only [e2, e3]
    refine wpAny_bind (wpAny_newList ?_ ?_)
    · refine wpAny_pure ?_
      have keep : ∀ b o, s.heap.get? b = some o → s'.heap.get? b = some o := fun b o e => by
        have hb : b ≠ s.heap.objs.size := Nat.ne_of_lt (Heap.lt_size e)
        exact hm.heap b o (by simpa using hb) (hs₁.extBut b o hb (Heap.get?_push_of_some _ e))
      exact h s' keep hm.gens hm.drawn hm.os
    · rw [List.length_drop, Array.length_toList]
      omega
end
end VcU
namespace Vc
open PySem PySem.Spec PyProof.Rows L2
open Evl (Ex)
def gStar (K : PySem.W.Frag) (t : TGs) : TG := fun v σ H Q => ∃ a x xs, v = .ref a ∧ SqT K H a (x :: xs) ∧ ∀ p, H p = none → t [x, .ref p] σ (upd H p (.lst xs)) Q
section
variable {X : Cx} {M : Md} {sc : Scope} {NK : List (Str × Bool × Bool)} {G : List Str} {k : Nat} {ρ : En} {pos sp : Pos} {e a b : Expr} {x y : Str} {F : Fin}
theorem pg_star {t : TGs} {kk : Nat} (hc : X.calm = true) (h : PGs X [a, b] t) (he : assignEach [a, .Starred b sp] X.env = [(false, assign a X.env), (true, assign b X.env)] := by rfl)
    (hp : (assignEach [a, b] X.env).map (·.2) = [assign a X.env, assign b X.env] := by rfl) : PG X (.Tuple [a, .Starred b sp] kk pos) (gStar X.K t) := by
  refine ⟨fun pins s σ H v u Q I r hw => ?_⟩
  obtain ⟨l, x, xs, e1, hq, hw⟩ := hw
  subst e1
  cases r
  obtain ⟨its, rv, ht, hz⟩ := I.tuple hq
  cases rv with
  | cons r1 rs =>
    rename_i u1 us1
    rw [assign_Tuple, he]
    refine wpAny_bind (wpAny_standAt (VcU.unpack_star (I.ok.hd hc) ht (x := u1) rfl (by have := rs.length; simp at hz ⊢; omega) fun s' keep e1 e2 e3 => ?_))
    obtain ⟨hp', g', d', t', o'⟩ := s'
    simp only at keep e1 e2 e3
    subst e1 e2 e3
    have I1 : Inv X pins σ H { s with heap := hp', toks := t' } := I.kept (t' := t') keep
    have I2 := I1.lnew (t' := t') rs (by simp at hz; omega)
    have := h.run pins _ σ _ [x, .ref hp'.objs.size] [u1, .ref hp'.objs.size] Q I2 (.cons r1 (.cons rfl .nil)) (hw _ I1.fresh)
    rw [hp] at this
    exact this
/-- x, *y = e, a tuple: y's list told as data -/
theorem vs_star (C : Cst X M sc NK G k) {i j : Nat} {v w : Bool} {px py pt : Pos} {kt : Nat} (hi : At NK i (x, v, true)) (hj : At NK j (y, w, true))
    (h : VD X e ρ fun d ρ1 => ∃ d0 ds, d = .tuple (d0 :: ds) ∧ F.nx ((ρ1.set i (.dat d0)).set j (.dat (.list ds))))
    (hs : swapsWithSole [.Tuple [.Name x px, .Starred (.Name y py) sp] kt pt] e pos.line X.env = pure false := by rfl) (hw : swappedStores [.Tuple [.Name x px, .Starred (.Name y py) sp] kt pt] e X.env = pure none := by rfl)
    (h1 : (assignEach [.Tuple [.Name x px, .Starred (.Name y py) sp] kt pt] X.env).map (·.2) = [assign (.Tuple [.Name x px, .Starred (.Name y py) sp] kt pt) X.env] := by rfl) :
    VS X (.Assign [.Tuple [.Name x px, .Starred (.Name y py) sp] kt pt] e pos) ρ F := VS.mk fun B H σ Z r f => by
  refine PS.sem (ps_asg pe_sem (pg_star C.calm (pgs_cons (pg_name C.nd (C.ix hi) (C.lo hi) (C.fn hi)) (pgs_cons (pg_name C.nd (C.ix hj) (C.lo hj) (C.fn hj)) pgs_nil))) hs hw h1) ?_
  refine h.run B H σ _ r fun vv d B1 H1 ρ1 p1 dv g1 r1 => ?_
  obtain ⟨d0, ds, rfl, pp⟩ := p1
  obtain ⟨t, vs, rfl, hT, hv⟩ := dp_tup dv
  cases hv with
  | cons h0 hs' =>
    rename_i v0 vs'
    refine ⟨t, v0, vs', rfl, ex_t r1.ex hT, fun p hp => ?_⟩
    obtain ⟨r2, g2, bp⟩ := new_one (o := .lst vs') r1 hp
    obtain ⟨g3, r3, d3⟩ := own_frz (hz := g1.dom p hp) (h1 := upd_same) bp (not_own r1 hp) hs' (g1.trans g2) r2
    have eB : Ex B1 (upd B1 p (.lst vs')) := Evl.Ex.new bp
    exact ⟨v0, [.ref p], rfl, .ref p, [], rfl, rfl, f.nx _ _ _ _ pp ((g3.trans go_set).trans go_set) (rel_set (rel_set r3 (Dp.mono eB h0)) d3)⟩
end

open PySem PySem.Spec PyProof.Rows L2
open Evl (Ex)
structure FnV (M : Md) (j : Nat) (x : Str) (n : Nat) (S : SX) : Prop where
  ex : ∃ f, FnR M.prog M.w M.K M.mg M.base (L2.CX M.prog M.w) j f (fun vs H Q E => ∃ ws rest, vs = ws ++ rest ∧ ws.length = n ∧ rest.length ≤ sizeLine ∧ ∀ p, H p = none → DSx (kwM M) (n + 1) S (ws ++ [.ref p]) (upd H p (.tup rest)) Q E) ∧ M.mg x = some (.ref f) ∧ PySem.W.keepIn M.K (.ref f) = true
theorem pair_split {α β : Type} {R : α → β → Prop} : ∀ {as bs : List β} {xs : List α}, Paired R xs (as ++ bs) → ∃ x1 x2, xs = x1 ++ x2 ∧ Paired R x1 as ∧ Paired R x2 bs
  | [], _, xs, h => ⟨[], xs, rfl, .nil, h⟩
  | _ :: as, _, _, .cons r t => by
    obtain ⟨x1, x2, e, p1, p2⟩ := pair_split (as := as) t
    exact ⟨_ :: x1, x2, congrArg (_ :: ·) e, .cons r p1, p2⟩
theorem pair_join {α β : Type} {R : α → β → Prop} : ∀ {xs : List α} {as : List β} {ys : List α} {bs : List β}, Paired R xs as → Paired R ys bs → Paired R (xs ++ ys) (as ++ bs)
  | _, _, _, _, .nil, h => h
  | _, _, _, _, .cons r t, h => .cons r (pair_join t h)
theorem args_dp {K : PySem.W.Frag} {B : Hp} {σ : L2.St} : ∀ {ds : List D} {vs : List V}, Paired (ArOk K B σ) vs (ds.map Ar.da) → DpAll K B vs ds
  | [], _, .nil => .nil
  | _ :: ds, _, .cons r t => .cons r (args_dp (ds := ds) t)
section
variable {X : Cx} {M : Md} {sc : Scope} {NK : List (Str × Bool × Bool)} {G : List Str} {k : Nat} {ρ : En} {P : D → En → Prop} {pos : Pos} {e : Expr} {es : List Expr} {x : Str}
theorem run_V {CX : CXT} {j : Nat} {f : Addr} {sp : Sp} {E : XK} {pins : List (Addr × Obj)} {σ : L2.St} {H : Hp} {s : Shared} {Q : VK} {us : List Value} {vs : List V} (F : FnR X.prog X.w X.K X.mg X.base CX j f sp) (hr : Room j X.A) (hx : Passes CX X E)
    (I : Inv X pins σ H s) (r : Vals vs us) (h : sp vs H Q E) : wpAny (model X.prog X.w) X.A (call (.ref f) us) (EP X pins σ Q) X.xe s :=
  wpAny_call (run_fnR F hr hx I r h)
/-- f(a, .., r, ..), def f(a, .., *rest) that raises nothing here -/
theorem vd_callV (C : Cst X M sc NK G k) {j n : Nat} {S : SX} {i : Nat} {p : Pos} (Fn : FnV M j x n S) (hg : At G i x)
    (h : VX X (e :: es) ρ fun ars ρ1 => ∃ a1 rest, ars = a1 ++ rest.map Ar.da ∧ a1.length = n ∧ rest.length ≤ 1000 ∧ calls S (n + 1) ρ1 (a1 ++ [.da (.tuple rest)]) P fun _ _ => False) (hj : j ≤ k := by decide)
    (hdb : (x == ("__debug__" : Str)) = false := by decide) (he : starEach (e :: es) X.env = (false, eval e X.env) :: starEach es X.env := by rfl) (hpl : (backTo pos (starEach es X.env)).any (·.1) = false := by rfl) : VD X (.Call (.Name x p) (e :: es) [] pos) ρ P := VD.mk fun B H σ Q r q => by
  have eM := C.m
  subst eM
  obtain ⟨f, Fo, hm, hk⟩ := Fn.ex
  have pe : PE X (.Call (.Name x p) (e :: es) [] pos) (fun σ H Q => aSem X (e :: es) σ H fun vs H1 => ∃ ws rest, vs = ws ++ rest ∧ ws.length = n ∧ rest.length ≤ sizeLine ∧ ∀ p, H1 p = none → DSx (kwOf X) (n + 1) S (ws ++ [.ref p]) (upd H1 p (.tup rest)) Q E0) := by
    refine ⟨fun pins s σ H Q I hh => ?_⟩
    refine wpAny_Call_Name_kw (ld_glob I (C.g hg) hm ?_ hdb)
    exact PySem.W.callWith_K (h₀ := X.base) I.ok.mod.kin hk (thn ((pa_sem (es := e :: es)).run pos pins s σ H _ I hh) fun us s1 ⟨vs, H1, I1, rv, qq⟩ => ⟨I1.kIn, run_V Fo (C.room.mono hj) passL I1 rv qq⟩) he hpl
  refine PE.sem pe ?_
  refine h.run B H σ _ r fun vs ars B1 H1 ρ1 ⟨a1, rest, ea, la, lr, c1, c2, c3, c4⟩ pr g1 r1 => ?_
  subst ea
  obtain ⟨ws, rs, rfl, p1, p2⟩ := pair_split pr
  have dr := args_dp p2
  have sl := sizeLine_eq
  refine ⟨ws, rs, rfl, by rw [Paired.length p1]; exact la, by rw [DpAll.len dr]; omega, fun z hz => ?_⟩
  obtain ⟨r2, g2⟩ := new_both (o := .tup rs) r1 hz
  have dt : Dp X.K (upd B1 z (.tup rs)) (.ref z) (.tuple rest) := .tup (.inl (.inl upd_same)) (DpAll.mono g2.ex dr)
  have pr2 : Paired (ArOk X.K (upd B1 z (.tup rs)) σ) (ws ++ [.ref z]) (a1 ++ [.da (.tuple rest)]) := pair_join (Paired.mapP p1 fun _ _ q => ArOk.mono g2.ex q) (.cons dt .nil)
  refine ⟨_, _, _, _, rel_args r2 pr2 c1 c2, by rw [List.length_map]; exact c3, c4, fun v d B3 H3 as' w u dv g3 r3 => ?_, fun _ _ _ _ _ w _ _ _ _ => w.elim⟩
  obtain ⟨g4, r4⟩ := rel_back r2 pr2 c2 u g3 r3
  exact q v d B3 H3 _ w dv ((g1.trans g2).trans g4) r4
end
section
variable {M : Md} {x : Str} {st : Stmt} {f : Addr} {fd : FuncData} {N ps : List Str} {pv : Str} {NK : List (Str × Bool × Bool)} {G : List Str} {k n : Nat}
theorem fnV_mk {S : SX} (F : Fun M.K x x st f fd) (Sc : FnScope N (ps ++ [pv]) (defScope st)) (hm : M.mg x = some (.ref f))
    (hb : ∀ (kV doc pm cdv ct : Value) (an : Option Addr) (us rest : List Value), us.length = ps.length → bindArgs (PySem.W.fnOf x x (defArgs st) (defBody st) (defScope st) .none kV doc pm an cdv ct) ⟨us ++ rest, []⟩ = (newTuple rest >>= fun t => pure (ps.zip us ++ [(pv, t)])))
    (hN : N = NK.map (·.1)) (hc : chk (defScope st) true NK G = true) (hn : ps.length = n) (hnN : n + 1 ≤ N.length)
    (body : ∀ X, Cst X M (defScope st) NK G k → ∀ as W WX, as.length = n + 1 → S as W WX → VSs X (defBody st) (as ++ List.replicate (N.length - (n + 1)) Sl.no) (finX as W WX)) : FnV M (k + 1) x n S := by
  obtain ⟨oc, od, kV, doc, pm, an, cdv, ct, osl, rfl, lk, hcd⟩ := F.ex
  refine ⟨f, ?_, hm, F.kp⟩
  have := StX.fn_star (P := M.prog) (w := M.w) (mg := M.mg) (base := M.base) (CX := L2.CX M.prog M.w) (k := k) (sp := DSx (kwM M) (n + 1) S) lk hcd Sc StX.cxUp (hb kV doc pm cdv ct an) fun A outer s H vs Q E hr h => ?_
  · rw [hn] at this
    exact this
  · obtain ⟨B, as, W, WX, r, hl, hS, q1, q2⟩ := h
    have C : Cst (cxOf (L2.CX M.prog M.w) M.prog M.w M.K M.mg M.base N x (defScope st) f cdv A outer s H E) M (defScope st) NK G k := cst_defX hN Sc.nd hc hr
    refine ⟨_, pss_sem, ?_⟩
    have bd := body _ C as W WX hl hS
    have r0 := rel_startX (N := N) r (by omega)
    rw [hl] at r0
    refine bd.run B H _ ⟨_, fun c d σ H => E c d H, takes_of rfl rfl rfl rfl⟩ r0 ⟨fun B' H' σ' ρ' p g r' => ?_, fun v dd B' H' σ' ρ' p dv g r' => ?_, fun _ _ _ _ p => p.elim, fun _ _ _ _ p => p.elim, fun c d B' H' σ' ρ' p kk g r' => ?_⟩
    · obtain ⟨g1, r1⟩ := back_out r p.1 g r'
      exact q1 .non .none B' H' _ p.2 (end_upd p.1) .non g1 r1
    · obtain ⟨g1, r1⟩ := back_out r p.1 g r'
      exact q1 v dd B' H' _ p.2 (end_upd p.1) dv g1 r1
    · obtain ⟨g1, r1⟩ := back_out r p.1 g r'
      exact q2 c d B' H' _ p.2 kk (end_upd p.1) g1 r1
end
end Vc

namespace K7
open PySem PySem.Spec PyProof.Rows L2 Vc
open PySem.W (Frag findIn typeIn subIn clsIn keepIn codeIn nsIn mroIn alongIn takerIn excOver InstAt ksFn ksEnv)
def topS (i : Nat) : Stmt := PySem.Challenge.pw_justthepart_k07_wrong_texts.main.body.getD i (.Pass ⟨0, 0, 0, 0⟩)
/-- the n-th row of a class -/
def rowOf (s : Stmt) (n : Nat) : Stmt := match s with
  | .ClassDef _ _ _ b _ _ _ _ _ _ _ => b.getD n (.Pass ⟨0, 0, 0, 0⟩)
  | _ => .Pass ⟨0, 0, 0, 0⟩
abbrev sInit : Stmt := rowOf (topS 5) 0
example : (defBody sInit).length = 3 := by decide +kernel
/-- what stands written of the error's class C, its base G, its __init__ fI -/
structure NetTxt (P : Program) (K : Frag) (mg : Str → Option Value) (C G fI : Addr) : Prop where
  gC : mg "BadNet" = some (.ref C)
  cls : ∃ nm q N bs sn sub ab col dd k0 k1 k2 k3 k5, K.lookup C = some (excClassObj nm q C N bs [.ref G, .type "Exception", .type "BaseException", .type "object"] true sn sub ab col dd k0 k1 k2 k3 k5 "Exception.__new__")
  sa : findIn K (.ref C) "__setattr__" = some (some (.builtin "object.__setattr__"))
  iC : findIn K (.ref C) "__init__" = some (some (.ref fI))
  tI : typeIn K (.ref fI) = some (.type "function")
  t1 : takerIn K C "name" = some none
  t2 : takerIn K C "why" = some none
  al : alongIn K "__init__" [.ref G, .type "Exception", .type "BaseException", .type "object"] = some (some (.builtin "Exception.__init__"))
  mE : mroIn K C (.type "Exception") = some true
  mC : mroIn K C (.ref C) = some true
  op : nsIn K cStatics "thirdparty.any" = some none
  kC : keepIn K (.ref C) = true
  exC : subIn K (.ref C) (.type "BaseException") = some true
  tyC : typeIn K (.ref C) = some (.type "type")
  te : PySem.W.exmOne K (.ref C) (.ref C) = some true
  sup : mg "super" = none
  top : (P.main.scope.names.lookup ("super" : Str)).isSome = false
  fn : ∃ (oc kV doc pm ct ccl cl : Value) (od an cdd cld : Option Addr) (osl ccs csl : Array (Option Value)) (cda cc : Addr) (vs : Array Value) (file : Str) (tf : Tok),
    K.lookup fI = some ⟨oc, od, .func (ksFn "__init__" "BadNet.__init__" (defArgs sInit) (defBody sInit) (defScope sInit) .none kV doc pm an (.ref cda) ct cc), osl⟩ ∧ codeIn K (.ref cda) "BadNet.__init__" = true ∧
    K.lookup cda = some ⟨ccl, cdd, .fields vs, ccs⟩ ∧ vs[2]? = some (.str file tf) ∧ ((P.main.file : Str) == file) = true ∧ K.lookup cc = some ⟨cl, cld, .cell (some (.ref C)), csl⟩

/-- what is left of the error at x behind its __init__: nothing but x was touched -/
structure Inited (h h' : Heap) (x C : Addr) : Prop where
  keep : ∀ b o, b ≠ x → h.get? b = some o → h'.get? b = some o
  obj : ∃ dx t1, h.objs.size ≤ dx ∧ dx ≠ x ∧ h'.get? x = some { cls := .ref C, dict := some dx, data := .fields #[.ref t1, .none, .none, .none, .bool false, .none] } ∧ ∃ m, h'.Ns1 dx m
section
variable {P : Program} {w : World} {A : Around} {E : Value → Shared → Prop} {R : Result → Shared → Prop} {s : Shared} {K : Frag} {mg : Str → Option Value} {C G fI : Addr}
theorem clsOf (T : NetTxt P K mg C G fI) : ∃ cd, clsIn K C = some cd ∧ cd.mro = [.ref C, .ref G, .type "Exception", .type "BaseException", .type "object"] ∧ cd.hasDict = true := by
  obtain ⟨nm, q, N, bs, sn, sub, ab, col, dd, k0, k1, k2, k3, k5, hC⟩ := T.cls
  refine ⟨{ name := nm, bases := bs, mro := .ref C :: [.ref G, .type "Exception", .type "BaseException", .type "object"], ns := N, qualname := q, hasDict := true, slotNames := sn, subclasses := sub, abstract := ab, collection := col, hasDel := false }, ?_, rfl, rfl⟩
  unfold clsIn
  rw [hC]
theorem over (T : NetTxt P K mg C G fI) : excOver K C [.type "Exception", .type "BaseException", .type "object"] = true := by
  obtain ⟨cd, h1, h2, _⟩ := clsOf T
  unfold excOver
  rw [h1]
  show (match cd.mro with | .ref C' :: bm => C' == C && PySem.W.excTail _ bm | _ => false) = true
  rw [h2]
  show ((C == C) && PySem.W.excTail _ [.type "Exception", .type "BaseException", .type "object"]) = true
  rw [beq_self_eq_true, Bool.true_and]
  decide +kernel
open Builtin Builtin.ObjectAttr in
/-- self.f = v, the first store -/
theorem sto_new (T : NetTxt P K mg C G fI) {x t1 : Addr} {f : Str} {v : Value} {Q : Unit → Shared → Prop} (X : K.In s.heap) (hx : s.heap.get? x = some (HandSPX.excO C t1)) (ht : takerIn K C f = some none)
    (hq : ∀ h' tk dx, (∀ b o, b ≠ x → s.heap.get? b = some o → h'.get? b = some o) → s.heap.objs.size ≤ dx → dx ≠ x → h'.get? x = some { cls := .ref C, dict := some dx, data := .fields #[.ref t1, .none, .none, .none, .bool false, .none] } →
      h'.Ns1 dx (fun y => if y = f then some v else none) → Q () { s with heap := h', toks := tk }) : wpAny (model P w) A (setAttr (.ref x) f v) Q E s := by
  obtain ⟨cd, h1, h2, h3⟩ := clsOf T
  obtain ⟨hp, g, d, t, os⟩ := s
  refine PySem.W.set_plain X (ox := HandSPX.excO C t1) (od := none) ⟨hx, rfl, rfl, trivial⟩ T.sa ?_
  refine PySem.W.osa_openX PySem.F.store_Exception X (ox := HandSPX.excO C t1) (od := none) ⟨hx, rfl, rfl, trivial⟩ (over T) ht fun b => ?_
  show wpAny _ _ (storeInOwnDict (.ref x) (.ref C) _ f v b) _ _ _
  have hcls : PySem.W.Looks (model P w) hp (classData C) cd := PySem.W.looks_clsIn X h1
  have hxs : x ≠ hp.objs.size := Nat.ne_of_lt (Heap.lt_size hx)
  obtain ⟨nm, bs, mro, ns, qn, hd, sn, sb, ab, col, del⟩ := cd
  dsimp only at h3
  subst h3
  unfold storeInOwnDict ownDictForStores
  repeat first
    | with_reducible refine hcls.at ?_
    | with_reducible refine wpAny_loadPart_at hx ?_
    | with_reducible refine HandSPX.store_in_new ?_ ?_
    | wp_step
  · have z : ((hp.push { cls := Value.type "dict", data := Data.dict #[] }).update x fun o =>
        { cls := o.cls, dict := some hp.objs.size, data := o.data, slots := o.slots }).get? hp.objs.size = some { cls := .type "dict", data := .dict #[] } := by
      rw [Heap.get?_update_ne _ _ _ _ hxs.symm]
      exact Heap.get?_push_at rfl rfl
    refine ⟨_, #[], _, z, rfl, ?_, ?_⟩
    · intro e he
      simp at he
    · intro _
      rfl
  · intro h' tk' hn' hs
    have hx1 : (hp.push { cls := Value.type "dict", data := Data.dict #[] }).get? x = some (HandSPX.excO C t1) := Heap.get?_push_of_some _ hx
    refine hq h' tk' hp.objs.size (fun b o hb ho => ?_) (Nat.le_refl _) hxs.symm ?_ hn'
    · have k1 := Heap.get?_push_of_some ({ cls := .type "dict", data := .dict #[] } : Obj) ho
      rw [hs.2 b (Nat.ne_of_lt (Heap.lt_size ho)), Heap.get?_update_ne _ _ _ _ hb]
      exact k1
    · rw [hs.2 x hxs, Heap.get?_update_self _ hx1 rfl]
open Builtin Builtin.ObjectAttr in
/-- self.f = v, a further store -/
theorem sto_old (T : NetTxt P K mg C G fI) {x dx : Addr} {fv : Array Value} {f : Str} {v : Value} {m0 : Str → Option Value} {nl : List Str} {Q : Unit → Shared → Prop} (X : K.In s.heap) (hx : s.heap.get? x = some { cls := .ref C, dict := some dx, data := .fields fv })
    (hns : s.heap.Ns1 dx m0) (hw : Within m0 nl) (hz : nl.length ≤ 1000) (ht : takerIn K C f = some none)
    (hq : ∀ h' tk, (∀ b o, b ≠ dx → s.heap.get? b = some o → h'.get? b = some o) → h'.Ns1 dx (fun y => if y = f then some v else m0 y) → Q () { s with heap := h', toks := tk }) : wpAny (model P w) A (setAttr (.ref x) f v) Q E s := by
  obtain ⟨cd, h1, h2, h3⟩ := clsOf T
  obtain ⟨hp, g, d, t, os⟩ := s
  have hns2 : hp.Ns1 dx m0 := hns
  obtain ⟨oD, esD, epD, hoD, hdD, _⟩ := hns.count hw
  refine PySem.W.set_plain X (ox := { cls := .ref C, dict := some dx, data := .fields fv }) (od := some oD) ⟨hx, rfl, rfl, hoD⟩ T.sa ?_
  refine PySem.W.osa_openX PySem.F.store_Exception X (ox := { cls := .ref C, dict := some dx, data := .fields fv }) (od := some oD) ⟨hx, rfl, rfl, hoD⟩ (over T) ht fun b => ?_
  show wpAny _ _ (storeInOwnDict (.ref x) (.ref C) _ f v b) _ _ _
  have hcls : PySem.W.Looks (model P w) hp (classData C) cd := PySem.W.looks_clsIn X h1
  obtain ⟨nm, bs, mro, ns, qn, hd, sn, sb, ab, col, del⟩ := cd
  dsimp only at h3
  subst h3
  unfold storeInOwnDict ownDictForStores
  repeat first
    | with_reducible refine hcls.at ?_
    | with_reducible refine wpAny_loadPart_at hx ?_
    | with_reducible refine PySem.ESX.store_in_old hns2 hw hz ?_
    | wp_step
  intro h' tk' hn' hs
  refine hq h' tk' (fun b o hb ho => ?_) hn'
  rw [hs.2 b hb]
  exact ho
abbrev nEnv (kV doc pm : Value) (an : Option Addr) (cda : Addr) (ct : Value) (cc L f : Addr) : Env := callEnv (ksFn "__init__" "BadNet.__init__" (defArgs sInit) (defBody sInit) (defScope sInit) .none kV doc pm an (.ref cda) ct cc) L f
theorem noCell : ∀ y ∈ (defScope sInit).names, y.2 ≠ .cell := by decide +kernel
/-- BadNet.__init__(x, a, b), a and b texts -/
theorem net_init (T : NetTxt P K mg C G fI) {x t0 : Addr} {a b : Str} {ta tb : Tok} (MD : L2.Mod K mg s.heap) (hx : s.heap.get? x = some (HandSPX.excO C t0)) (hnx : K.lookup x = none) (hroom : A.depth < recursionLimit) (la : a.length ≤ 100000) (lb : b.length ≤ 100000)
    (hq : ∀ h' tk, Inited s.heap h' x C → R (.ok (.ret .none)) { s with heap := h', toks := tk }) :
    codeAny (model P w) A (.call (.ref fI) ⟨[.ref x, .str a ta, .str b tb], []⟩) R s := by
  obtain ⟨oc, kV, doc, pm, ct, ccl, cl, od, an, cdd, cld, osl, ccs, csl, cda, cc, vs, file, tf, hfn, hcd, hcode, hvs, hfile, hcell⟩ := T.fn
  obtain ⟨cd, hC1, hC2, hC3⟩ := clsOf T
  obtain ⟨nm, q, N, bs, sn, sub, ab, col, dd, k0, k1, k2, k3, k5, hCo⟩ := T.cls
  obtain ⟨hp, g, d, t, os⟩ := s
  have X := MD.kin
  refine PySem.ks_codeAny_call_defAt (fd := ksFn "__init__" "BadNet.__init__" (defArgs sInit) (defBody sInit) (defScope sInit) .none kV doc pm an (.ref cda) ct cc) (body := defBody sInit) (binds := [("self", .ref x), ("name", .str a ta), ("why", .str b tb)])
    hroom (X _ _ hfn) rfl MD.nolimit (PySem.W.codeRec_of X hcd) rfl (BindsTo.of_eq rfl) noCell (fun y hy => ?_) (fun h1 hns hk => ?_)
  · have k1 : (defScope sInit).names.lookup ("self" : Str) = some .local := by decide +kernel
    have k2 : (defScope sInit).names.lookup ("name" : Str) = some .local := by decide +kernel
    have k3 : (defScope sInit).names.lookup ("why" : Str) = some .local := by decide +kernel
    rcases List.mem_cons.mp hy with rfl | hy
    · exact k1
    rcases List.mem_cons.mp hy with rfl | hy
    · exact k2
    rw [List.mem_singleton.mp hy]
    exact k3
  show PySem.wpAt _ _ _ (execs _ _) _ _ _
  have X1 : K.In h1 := X.keeps hk
  have hx1 := hk _ _ hx
  have kE : ∀ {hh : Heap} {cd' : ClassData}, K.In hh → clsIn K C = some cd' → hh.get? x = some (HandSPX.excO C t0) → x ≠ C := fun {hh cd'} X' h1' hx' => PySem.W.ks_ne (ox := HandSPX.excO C t0) (odx := none) X' ⟨hx', rfl, rfl, trivial⟩ h1'
  refine PySem.ks_wpAt_execs_cons (PySem.ks_wpAt_Expr_any (PySem.ks_wpAt_MethodCall ?_))
  have ks : (defScope sInit).names.lookup ("super" : Str) = some .globalImplicit := by decide +kernel
  have kc : (defScope sInit).names.lookup ("__class__" : Str) = some .free := by decide +kernel
  have kf : (defScope sInit).names.lookup ("self" : Str) = some .local := by decide +kernel
  obtain ⟨mb, hb1, hb2⟩ := MD.blt
  obtain ⟨oD, hD1, hD2⟩ : ∃ oD, h1.get? C = some oD ∧ oD.data = .cls cd := by
    have h0 := hC1
    unfold clsIn at h0
    split at h0
    · rename_i c d cd' sl ho
      cases h0
      exact ⟨_, X1 _ _ ho, rfl⟩
    · cases h0
  refine PySem.ks_wpAt_super_base (f := fI) (cc := cda) ks kc (by decide) rfl (X1 _ _ hfn) rfl rfl rfl (X1 _ _ hcode) rfl hvs hfile T.top ?_
  refine PySem.W.ks_loadName_global rfl ks (Calls.loadGlobal_builtin (MD.glob.keeps hk) T.sup (hb1.keeps hk) ((hb2 _ (by decide)).trans (show bootBuiltins "super" = some (.type "super") by decide +kernel)) ⟨rfl, ?_⟩)
  refine wpAny_loadName_free rfl kc rfl ⟨_, X1 _ _ hcell, rfl⟩ ?_
  refine wpAny_loadName_local rfl kf hns rfl ?_
  refine PySem.ks_wpAny_isType_cls hD1 hD2 ⟨rfl, ?_⟩
  refine PySem.ks_wpAny_call_super hD1 hD2 hx1 rfl (fun c e => nomatch e) (PySem.W.looks_mroIn X1 T.mC) (fun h2 hso k2 => ?_)
  have X2 : K.In h2 := X1.keeps k2
  have hx2 := k2 _ _ hx1
  have I2 : InstAt h2 x (HandSPX.excO C t0) C none := ⟨hx2, rfl, rfl, trivial⟩
  refine PySem.ESX.getMethod_super hso (PySem.W.looks_opaque X2 T.op) (l₀ := cd.mro) (fun A Q E s k q => wpAny_bind ((PySem.W.looks_clsIn X2 hC1) A _ E s k (wpAny_pure q))) (l := [.ref G, .type "Exception", .type "BaseException", .type "object"]) ?_ X2 T.al (kE X2 hC1 hx2) (by decide) (I2.type.andThen (PySem.W.looks_mroIn X2 T.mE)) ?_
  · rw [hC2]
    exact PySem.ESX.drop_own C _
  have nsL : ∀ {hh : Heap}, (∀ b o, b ≠ x → h1.get? b = some o → hh.get? b = some o) → hh.Ns hp.objs.size (fun y => List.lookup y [(("self" : Str), Value.ref x), ("name", .str a ta), ("why", .str b tb)].reverse) := fun {hh} kk => by
    obtain ⟨oL, es, ep, hL, r⟩ := hns
    exact ⟨oL, es, ep, kk _ _ (fun z => by have := Heap.lt_size hx; rw [← z] at this; exact Nat.lt_irrefl _ this) hL, r⟩
  have k3 : ∀ b' o, h1.get? b' = some o → (h2.push (PySem.ESX.bw x)).get? b' = some o := fun b' o e => Heap.get?_push_of_some _ (k2 b' o e)
  have n3 := nsL (hh := h2.push (PySem.ESX.bw x)) (fun b' o _ e => k3 b' o e)
  have sl := sizeLine_eq
  have ll : ∀ y z : Str, (y ++ z).length = y.length + z.length := fun y z => Str.length_append y z
  refine PySem.ESX.callWith_bound (x := x) (args_cons (wpAny_mono (Q := fun v s' => ∃ tk, s' = ⟨h2.push (PySem.ESX.bw x), g, d, tk, os⟩) (E := fun _ _ => False) ?ev (fun v s' hv => ?fin) (fun _ _ z => z.elim)))
  case ev =>
    refine wpAny_JoinedStr ?_
    show Joins _ _ _ [eval _ _, eval _ _, eval _ _] Str.empty _ _
    have last : ∀ (acc : Str) (tk : Nat), acc.length ≤ 200000 → Joins (model P w) (A.deeper (nEnv kV doc pm an cda ct cc hp.objs.size fI)) (fun _ _ => False) [eval (.FormattedValue (.Name "why" ⟨17, 36, 17, 39⟩) (-1) none ⟨17, 35, 17, 40⟩) (nEnv kV doc pm an cda ct cc hp.objs.size fI)] acc
        (fun out s₁ => out.length ≤ sizeLine ∧ ∃ tk, ({ s₁ with toks := s₁.toks + 1 } : Shared) = ⟨h2.push (PySem.ESX.bw x), g, d, tk, os⟩) ⟨h2.push (PySem.ESX.bw x), g, d, tk, os⟩ := fun acc tk hacc => by
      refine wpAny_FormattedValue_plain (PySem.ESX.ldL n3 rfl (wpAny_formatField_str ?_ ?_ (by omega)))
      · exact ⟨b, _, rfl, by rw [ll]; omega, by rw [ll]; omega, _, rfl⟩
      · exact ⟨b, _, rfl, by rw [ll]; omega, by rw [ll]; omega, _, rfl⟩
    have l2 : (": " : Str).length = 2 := by decide +kernel
    have l0 : Str.empty.length = 0 := by decide +kernel
    have mid : ∀ (acc : Str) (tk : Nat), acc.length ≤ 100000 → Joins (model P w) (A.deeper (nEnv kV doc pm an cda ct cc hp.objs.size fI)) (fun _ _ => False) [eval (.Constant (.str ": ") 0 ⟨17, 33, 17, 35⟩) (nEnv kV doc pm an cda ct cc hp.objs.size fI), eval (.FormattedValue (.Name "why" ⟨17, 36, 17, 39⟩) (-1) none ⟨17, 35, 17, 40⟩) (nEnv kV doc pm an cda ct cc hp.objs.size fI)] acc
        (fun out s₁ => out.length ≤ sizeLine ∧ ∃ tk, ({ s₁ with toks := s₁.toks + 1 } : Shared) = ⟨h2.push (PySem.ESX.bw x), g, d, tk, os⟩) ⟨h2.push (PySem.ESX.bw x), g, d, tk, os⟩ := fun acc tk hacc =>
      wpAny_Constant_str ⟨(": " : Str), _, rfl, by rw [ll]; omega, last _ _ (by rw [ll]; omega)⟩
    refine wpAny_FormattedValue_plain (PySem.ESX.ldL n3 rfl (wpAny_formatField_str ?_ ?_ (by omega)))
    · exact ⟨a, _, rfl, by rw [ll]; omega, mid _ _ (by rw [ll]; omega)⟩
    · exact ⟨a, _, rfl, by rw [ll]; omega, mid _ _ (by rw [ll]; omega)⟩
  case fin =>
    obtain ⟨tk, rfl⟩ := hv
    have X3 : K.In (h2.push (PySem.ESX.bw x)) := X1.keeps k3
    refine args_nil ⟨Heap.get?_push_size _ rfl, ?_⟩
    refine PySem.ESX.call_bw (X3 _ _ hCo) (k3 _ _ hx1) (Heap.get?_push_size _ rfl) (by show 1 ≤ sizeLine; omega) fun h4 t4 k4 hx4 => ?_
    have k14 : ∀ b' o, b' ≠ x → h1.get? b' = some o → h4.get? b' = some o := fun b' o hb e => k4 b' o hb (k3 b' o e)
    have n4 := nsL k14
    have X4 : K.In h4 := fun b' o e => k4 b' o (fun z => by rw [z, hnx] at e; cases e) (X3 b' o e)
    refine PySem.ks_wpAt_execs_cons (PySem.wpAt_of_wpAny (plainObj_wpAny_Assign_Attribute (PySem.ESX.ldL n4 rfl (PySem.ESX.ldL n4 rfl (sto_new T X4 hx4 T.t1 fun h5 tk5 dx k5 hd5 dn5 hx5 hn5 => ?_)))))
    have n5 := nsL (hh := h5) fun b' o hb e => k5 b' o hb (k14 b' o hb e)
    have X5 : K.In h5 := fun b' o e => k5 b' o (fun z => by rw [z, hnx] at e; cases e) (X4 b' o e)
    refine PySem.ks_wpAt_execs_cons (PySem.wpAt_of_wpAny (plainObj_wpAny_Assign_Attribute (PySem.ESX.ldL n5 rfl (PySem.ESX.ldL n5 rfl (sto_old T (nl := [("name" : Str)]) X5 hx5 hn5 (fun y hy => ?_) (by show 1 ≤ 1000; decide) T.t2 fun h6 tk6 k6 hn6 => ?_)))))
    · by_cases z : y = ("name" : Str)
      · rw [z]
        exact List.mem_singleton.mpr rfl
      · exact absurd (if_neg z) hy
    · refine PySem.wpAt_of_wpAny (wpAny_execs_nil (hq h6 tk6 ⟨fun b' o hb e => ?_, dx, t4, ?_, dn5, k6 _ _ (Ne.symm dn5) hx5, _, hn6⟩))
      · have e4 : h4.get? b' = some o := k14 b' o hb (hk b' o e)
        refine k6 b' o (fun z => ?_) (k5 b' o hb e4)
        have := Heap.lt_size e4
        rw [z] at this
        exact absurd (Nat.lt_of_lt_of_le this hd5) (Nat.lt_irrefl _)
      · refine Nat.le_trans ?_ hd5
        exact Nat.le_of_lt n4.lt
/-- an error that was just made -/
structure NetMade (h h' : Heap) (e C : Addr) : Prop where
  keep : ∀ b o, h.get? b = some o → h'.get? b = some o
  new : h.objs.size ≤ e
  obj : ∃ d t1, h'.get? e = some { cls := .ref C, dict := some d, data := .fields #[.ref t1, .none, .none, .none, .bool false, .none] }
theorem two_size (v u : Value) : [v, u].length ≤ sizeLine := by
  rw [sizeLine_eq]
  exact (by decide : 2 ≤ 16777216)
/-- BadNet(a, b), a and b texts -/
theorem net_made (T : NetTxt P K mg C G fI) {a b : Str} {ta tb : Tok} (MD : L2.Mod K mg s.heap) (hroom : A.depth + 1 < recursionLimit) (la : a.length ≤ 100000) (lb : b.length ≤ 100000)
    (hq : ∀ h' tk e, NetMade s.heap h' e C → R (.ok (.ret (.ref e))) { s with heap := h', toks := tk }) :
    codeAny (model P w) A (.call (.ref C) ⟨[.str a ta, .str b tb], []⟩) R s := by
  obtain ⟨nm, q, N, bs, sn, sub, ab, col, dd, k0, k1, k2, k3, k5, hCo⟩ := T.cls
  obtain ⟨hp, g, d, t, os⟩ := s
  have X := MD.kin
  have up : ∀ b' o, hp.get? b' = some o → ((hp.push (PySem.W.kdv_tup [.str a ta, .str b tb])).push (HandSPX.excO C hp.objs.size)).get? b' = some o := fun b' o e => Heap.get?_push_of_some _ (Heap.get?_push_of_some _ e)
  have here : ((hp.push (PySem.W.kdv_tup [.str a ta, .str b tb])).push (HandSPX.excO C hp.objs.size)).get? (hp.objs.size + 1) = some (HandSPX.excO C hp.objs.size) := by heap_get
  have hnx : K.lookup (hp.objs.size + 1) = none := by
    cases e : K.lookup (hp.objs.size + 1) with
    | none => rfl
    | some o => exact absurd (Nat.lt_of_succ_lt (Heap.lt_size (X _ _ e))) (Nat.lt_irrefl _)
  have tailC : ∀ Y : String, [Value.ref G, .type "Exception", .type "BaseException", .type "object"].contains (.type Y) = [Value.type "Exception", .type "BaseException", .type "object"].contains (.type Y) := fun Y => by
    rw [List.contains_cons]
    rfl
  refine HandSPX.call_own F.excBase_Exception tailC (X _ _ hCo) (PySem.W.looks_findIn X T.iC) (fun self => PySem.W.bind_fn X self T.tI) (two_size _ _) ?_
  refine net_init T (x := hp.objs.size + 1) (t0 := hp.objs.size) ?_ here hnx ?_ la lb fun h' tk I => ?_
  · obtain ⟨m1, m2, ⟨mb, m3, m4⟩, m5⟩ := MD
    exact ⟨m1.keeps up, m2.keeps up, ⟨mb, m3.keeps up, m4⟩, m5.keeps up⟩
  · show A.depth + 1 < recursionLimit
    exact hroom
  · obtain ⟨dx, t1, _, _, ho, _⟩ := I.obj
    have old : ∀ b' o, hp.get? b' = some o → h'.get? b' = some o := fun b' o e => I.keep b' o (Nat.ne_of_lt (Nat.lt_succ_of_lt (Heap.lt_size e))) (up b' o e)
    exact ⟨rfl, hq h' tk (hp.objs.size + 1) ⟨old, Nat.le_succ _, dx, t1, ho⟩⟩
end
section
variable {X : Cx} {C G fI : Addr}
/-- BadNet(e1, e2), texts -/
def tMkNet (C : Addr) (ta : TA) : L2.St → Hp → XK → Prop := fun σ H Q => ta σ H fun vs H1 => ∃ a b : Str, vs = [.str a, .str b] ∧ a.length ≤ 100000 ∧ b.length ≤ 100000 ∧ ∀ d, Q (.ref C) (some d) H1
theorem pmk_net {e1 e2 : Expr} {ta : TA} {p pos : Pos} {k : Nat} (T : NetTxt X.prog X.K X.mg C G fI) (hr : Room k X.A) (ha : PA X [e1, e2] ta) (hg : Gl X "BadNet")
    (he : starEach [e1, e2] X.env = (false, eval e1 X.env) :: starEach [e2] X.env := by rfl) (hpl : (backTo pos (starEach [e2] X.env)).any (·.1) = false := by rfl) :
    PMk X (.Call (.Name "BadNet" p) [e1, e2] [] pos) (tMkNet C ta) := by
  intro pins s σ H Q I h
  refine wpAny_Call_Name_kw (ld_glob I hg T.gC ?_)
  refine PySem.W.callWith_K (h₀ := X.base) I.ok.mod.kin T.kC (thn (ha.run pos pins s σ H _ I h) fun us s1 hh => ?_) he hpl
  obtain ⟨vs, H1, I1, r1, a, b, ev, la, lb, q1⟩ := hh
  subst ev
  refine ⟨I1.kIn, ?_⟩
  obtain ⟨u1, u2, rfl, ra, rb⟩ : ∃ u1 u2, us = [u1, u2] ∧ RelV (.str a) u1 ∧ RelV (.str b) u2 := by
    cases r1 with
    | cons x y => cases y with
      | cons z w => cases w; exact ⟨_, _, rfl, x, z⟩
  obtain ⟨ta', rfl⟩ := ra
  obtain ⟨tb', rfl⟩ := rb
  show wpAny _ _ (call (.ref C) [_, _]) _ _ _
  have md : L2.Mod X.K X.mg s1.heap := by
    obtain ⟨m1, m2, ⟨mb, m3, m4⟩, m5⟩ := I1.mod
    exact ⟨m1.keeps I1.bk, m2.keeps I1.bk, ⟨mb, m3.keeps I1.bk, m4⟩, m5.keeps I1.bk⟩
  obtain ⟨hp, g, dr, tk, os⟩ := s1
  refine wpAny_call (net_made T md (by have := hr.dp; omega) la lb fun h' tk' e M => ?_)
  show MkP X pins σ Q (.ref e) ⟨h', g, dr, tk', os⟩
  obtain ⟨d, t1, hoe⟩ := M.obj
  refine ⟨e, _, _, ⟨hp, g, dr, tk', os⟩, H1, .ref C, some d, rfl, I1.kept (t' := tk') fun _ _ z => z, M.keep, ?_, hoe, ⟨rfl, rfl⟩, rfl, rfl, I1.hok.fresh M.new, rfl, I1.bare, raises_own T.exC T.tyC, q1 d⟩
  cases z : hp.get? e with
  | none => rfl
  | some o => exact absurd (Nat.lt_of_lt_of_le (Heap.lt_size z) M.new) (Nat.lt_irrefl _)
end
end K7
/-! -/
/-! -/

namespace K7
open PySem PySem.Spec PyProof.Rows L2 Vc
open PySem.W (Frag findIn typeIn subIn clsIn keepIn codeIn nsIn mroIn alongIn takerIn excOver InstAt ksFn ksEnv)
abbrev sInitB : Stmt := rowOf (topS 4) 0
/-- what stands written of the error's class C, its base G, its __init__ fI -/
structure NetTxtB (P : Program) (K : Frag) (mg : Str → Option Value) (C G fI : Addr) : Prop where
  gC : mg "BadText" = some (.ref C)
  cls : ∃ nm q N bs sn sub ab col dd k0 k1 k2 k3 k5, K.lookup C = some (excClassObj nm q C N bs [.ref G, .type "Exception", .type "BaseException", .type "object"] true sn sub ab col dd k0 k1 k2 k3 k5 "Exception.__new__")
  sa : findIn K (.ref C) "__setattr__" = some (some (.builtin "object.__setattr__"))
  iC : findIn K (.ref C) "__init__" = some (some (.ref fI))
  tI : typeIn K (.ref fI) = some (.type "function")
  t1 : takerIn K C "line" = some none
  t2 : takerIn K C "column" = some none
  al : alongIn K "__init__" [.ref G, .type "Exception", .type "BaseException", .type "object"] = some (some (.builtin "Exception.__init__"))
  mE : mroIn K C (.type "Exception") = some true
  mC : mroIn K C (.ref C) = some true
  op : nsIn K cStatics "thirdparty.any" = some none
  kC : keepIn K (.ref C) = true
  exC : subIn K (.ref C) (.type "BaseException") = some true
  tyC : typeIn K (.ref C) = some (.type "type")
  te : PySem.W.exmOne K (.ref C) (.ref C) = some true
  sup : mg "super" = none
  top : (P.main.scope.names.lookup ("super" : Str)).isSome = false
  fn : ∃ (oc kV doc pm ct ccl cl : Value) (od an cdd cld : Option Addr) (osl ccs csl : Array (Option Value)) (cda cc : Addr) (vs : Array Value) (file : Str) (tf : Tok),
    K.lookup fI = some ⟨oc, od, .func (ksFn "__init__" "BadText.__init__" (defArgs sInitB) (defBody sInitB) (defScope sInitB) .none kV doc pm an (.ref cda) ct cc), osl⟩ ∧ codeIn K (.ref cda) "BadText.__init__" = true ∧
    K.lookup cda = some ⟨ccl, cdd, .fields vs, ccs⟩ ∧ vs[2]? = some (.str file tf) ∧ ((P.main.file : Str) == file) = true ∧ K.lookup cc = some ⟨cl, cld, .cell (some (.ref C)), csl⟩

/-- what is left of the error at x behind its __init__: nothing but x was touched -/
structure InitedB (h h' : Heap) (x C : Addr) (a : Int) (ta : Tok) (b : Int) (tb : Tok) : Prop where
  keep : ∀ b o, b ≠ x → h.get? b = some o → h'.get? b = some o
  obj : ∃ dx t1, h.objs.size ≤ dx ∧ dx ≠ x ∧ h'.get? x = some { cls := .ref C, dict := some dx, data := .fields #[.ref t1, .none, .none, .none, .bool false, .none] } ∧ h'.Ns1 dx (fun y => if y = "column" then some (.int b tb) else if y = "line" then some (.int a ta) else none)
section
variable {P : Program} {w : World} {A : Around} {E : Value → Shared → Prop} {R : Result → Shared → Prop} {s : Shared} {K : Frag} {mg : Str → Option Value} {C G fI : Addr}
theorem clsOfB (T : NetTxtB P K mg C G fI) : ∃ cd, clsIn K C = some cd ∧ cd.mro = [.ref C, .ref G, .type "Exception", .type "BaseException", .type "object"] ∧ cd.hasDict = true := by
  obtain ⟨nm, q, N, bs, sn, sub, ab, col, dd, k0, k1, k2, k3, k5, hC⟩ := T.cls
  refine ⟨{ name := nm, bases := bs, mro := .ref C :: [.ref G, .type "Exception", .type "BaseException", .type "object"], ns := N, qualname := q, hasDict := true, slotNames := sn, subclasses := sub, abstract := ab, collection := col, hasDel := false }, ?_, rfl, rfl⟩
  unfold clsIn
  rw [hC]
theorem overB (T : NetTxtB P K mg C G fI) : excOver K C [.type "Exception", .type "BaseException", .type "object"] = true := by
  obtain ⟨cd, h1, h2, _⟩ := clsOfB T
  unfold excOver
  rw [h1]
  show (match cd.mro with | .ref C' :: bm => C' == C && PySem.W.excTail _ bm | _ => false) = true
  rw [h2]
  show ((C == C) && PySem.W.excTail _ [.type "Exception", .type "BaseException", .type "object"]) = true
  rw [beq_self_eq_true, Bool.true_and]
  decide +kernel
open Builtin Builtin.ObjectAttr in
/-- self.f = v, the first store -/
theorem sto_newB (T : NetTxtB P K mg C G fI) {x t1 : Addr} {f : Str} {v : Value} {Q : Unit → Shared → Prop} (X : K.In s.heap) (hx : s.heap.get? x = some (HandSPX.excO C t1)) (ht : takerIn K C f = some none)
    (hq : ∀ h' tk dx, (∀ b o, b ≠ x → s.heap.get? b = some o → h'.get? b = some o) → s.heap.objs.size ≤ dx → dx ≠ x → h'.get? x = some { cls := .ref C, dict := some dx, data := .fields #[.ref t1, .none, .none, .none, .bool false, .none] } →
      h'.Ns1 dx (fun y => if y = f then some v else none) → Q () { s with heap := h', toks := tk }) : wpAny (model P w) A (setAttr (.ref x) f v) Q E s := by
  obtain ⟨cd, h1, h2, h3⟩ := clsOfB T
  obtain ⟨hp, g, d, t, os⟩ := s
  refine PySem.W.set_plain X (ox := HandSPX.excO C t1) (od := none) ⟨hx, rfl, rfl, trivial⟩ T.sa ?_
  refine PySem.W.osa_openX PySem.F.store_Exception X (ox := HandSPX.excO C t1) (od := none) ⟨hx, rfl, rfl, trivial⟩ (overB T) ht fun b => ?_
  show wpAny _ _ (storeInOwnDict (.ref x) (.ref C) _ f v b) _ _ _
  have hcls : PySem.W.Looks (model P w) hp (classData C) cd := PySem.W.looks_clsIn X h1
  have hxs : x ≠ hp.objs.size := Nat.ne_of_lt (Heap.lt_size hx)
  obtain ⟨nm, bs, mro, ns, qn, hd, sn, sb, ab, col, del⟩ := cd
  dsimp only at h3
  subst h3
  unfold storeInOwnDict ownDictForStores
  repeat first
    | with_reducible refine hcls.at ?_
    | with_reducible refine wpAny_loadPart_at hx ?_
    | with_reducible refine HandSPX.store_in_new ?_ ?_
    | wp_step
  · have z : ((hp.push { cls := Value.type "dict", data := Data.dict #[] }).update x fun o =>
        { cls := o.cls, dict := some hp.objs.size, data := o.data, slots := o.slots }).get? hp.objs.size = some { cls := .type "dict", data := .dict #[] } := by
      rw [Heap.get?_update_ne _ _ _ _ hxs.symm]
      exact Heap.get?_push_at rfl rfl
    refine ⟨_, #[], _, z, rfl, ?_, ?_⟩
    · intro e he
      simp at he
    · intro _
      rfl
  · intro h' tk' hn' hs
    have hx1 : (hp.push { cls := Value.type "dict", data := Data.dict #[] }).get? x = some (HandSPX.excO C t1) := Heap.get?_push_of_some _ hx
    refine hq h' tk' hp.objs.size (fun b o hb ho => ?_) (Nat.le_refl _) hxs.symm ?_ hn'
    · have k1 := Heap.get?_push_of_some ({ cls := .type "dict", data := .dict #[] } : Obj) ho
      rw [hs.2 b (Nat.ne_of_lt (Heap.lt_size ho)), Heap.get?_update_ne _ _ _ _ hb]
      exact k1
    · rw [hs.2 x hxs, Heap.get?_update_self _ hx1 rfl]
open Builtin Builtin.ObjectAttr in
/-- self.f = v, a further store -/
theorem sto_oldB (T : NetTxtB P K mg C G fI) {x dx : Addr} {fv : Array Value} {f : Str} {v : Value} {m0 : Str → Option Value} {nl : List Str} {Q : Unit → Shared → Prop} (X : K.In s.heap) (hx : s.heap.get? x = some { cls := .ref C, dict := some dx, data := .fields fv })
    (hns : s.heap.Ns1 dx m0) (hw : Within m0 nl) (hz : nl.length ≤ 1000) (ht : takerIn K C f = some none)
    (hq : ∀ h' tk, (∀ b o, b ≠ dx → s.heap.get? b = some o → h'.get? b = some o) → h'.Ns1 dx (fun y => if y = f then some v else m0 y) → Q () { s with heap := h', toks := tk }) : wpAny (model P w) A (setAttr (.ref x) f v) Q E s := by
  obtain ⟨cd, h1, h2, h3⟩ := clsOfB T
  obtain ⟨hp, g, d, t, os⟩ := s
  have hns2 : hp.Ns1 dx m0 := hns
  obtain ⟨oD, esD, epD, hoD, hdD, _⟩ := hns.count hw
  refine PySem.W.set_plain X (ox := { cls := .ref C, dict := some dx, data := .fields fv }) (od := some oD) ⟨hx, rfl, rfl, hoD⟩ T.sa ?_
  refine PySem.W.osa_openX PySem.F.store_Exception X (ox := { cls := .ref C, dict := some dx, data := .fields fv }) (od := some oD) ⟨hx, rfl, rfl, hoD⟩ (overB T) ht fun b => ?_
  show wpAny _ _ (storeInOwnDict (.ref x) (.ref C) _ f v b) _ _ _
  have hcls : PySem.W.Looks (model P w) hp (classData C) cd := PySem.W.looks_clsIn X h1
  obtain ⟨nm, bs, mro, ns, qn, hd, sn, sb, ab, col, del⟩ := cd
  dsimp only at h3
  subst h3
  unfold storeInOwnDict ownDictForStores
  repeat first
    | with_reducible refine hcls.at ?_
    | with_reducible refine wpAny_loadPart_at hx ?_
    | with_reducible refine PySem.ESX.store_in_old hns2 hw hz ?_
    | wp_step
  intro h' tk' hn' hs
  refine hq h' tk' (fun b o hb ho => ?_) hn'
  rw [hs.2 b hb]
  exact ho
abbrev nEnvB (kV doc pm : Value) (an : Option Addr) (cda : Addr) (ct : Value) (cc L f : Addr) : Env := callEnv (ksFn "__init__" "BadText.__init__" (defArgs sInitB) (defBody sInitB) (defScope sInitB) .none kV doc pm an (.ref cda) ct cc) L f
theorem noCellB : ∀ y ∈ (defScope sInitB).names, y.2 ≠ .cell := by decide +kernel
/-- BadText.__init__(x, a, b), a and b texts -/
theorem net_initB (T : NetTxtB P K mg C G fI) {x t0 : Addr} {a b : Int} {ta tb : Tok} (MD : L2.Mod K mg s.heap) (hx : s.heap.get? x = some (HandSPX.excO C t0)) (hnx : K.lookup x = none) (hroom : A.depth < recursionLimit) (la : a.natAbs.log2 < 1900) (lb : b.natAbs.log2 < 1900)
    (hq : ∀ h' tk, InitedB s.heap h' x C a ta b tb → R (.ok (.ret .none)) { s with heap := h', toks := tk }) :
    codeAny (model P w) A (.call (.ref fI) ⟨[.ref x, .int a ta, .int b tb], []⟩) R s := by
  obtain ⟨oc, kV, doc, pm, ct, ccl, cl, od, an, cdd, cld, osl, ccs, csl, cda, cc, vs, file, tf, hfn, hcd, hcode, hvs, hfile, hcell⟩ := T.fn
  obtain ⟨cd, hC1, hC2, hC3⟩ := clsOfB T
  obtain ⟨nm, q, N, bs, sn, sub, ab, col, dd, k0, k1, k2, k3, k5, hCo⟩ := T.cls
  obtain ⟨hp, g, d, t, os⟩ := s
  have X := MD.kin
  refine PySem.ks_codeAny_call_defAt (fd := ksFn "__init__" "BadText.__init__" (defArgs sInitB) (defBody sInitB) (defScope sInitB) .none kV doc pm an (.ref cda) ct cc) (body := defBody sInitB) (binds := [("self", .ref x), ("line", .int a ta), ("column", .int b tb)])
    hroom (X _ _ hfn) rfl MD.nolimit (PySem.W.codeRec_of X hcd) rfl (BindsTo.of_eq rfl) noCellB (fun y hy => ?_) (fun h1 hns hk => ?_)
  · have k1 : (defScope sInitB).names.lookup ("self" : Str) = some .local := by decide +kernel
    have k2 : (defScope sInitB).names.lookup ("line" : Str) = some .local := by decide +kernel
    have k3 : (defScope sInitB).names.lookup ("column" : Str) = some .local := by decide +kernel
    rcases List.mem_cons.mp hy with rfl | hy
    · exact k1
    rcases List.mem_cons.mp hy with rfl | hy
    · exact k2
    rw [List.mem_singleton.mp hy]
    exact k3
  show PySem.wpAt _ _ _ (execs _ _) _ _ _
  have X1 : K.In h1 := X.keeps hk
  have hx1 := hk _ _ hx
  have kE : ∀ {hh : Heap} {cd' : ClassData}, K.In hh → clsIn K C = some cd' → hh.get? x = some (HandSPX.excO C t0) → x ≠ C := fun {hh cd'} X' h1' hx' => PySem.W.ks_ne (ox := HandSPX.excO C t0) (odx := none) X' ⟨hx', rfl, rfl, trivial⟩ h1'
  refine PySem.ks_wpAt_execs_cons (PySem.ks_wpAt_Expr_any (PySem.ks_wpAt_MethodCall ?_))
  have ks : (defScope sInitB).names.lookup ("super" : Str) = some .globalImplicit := by decide +kernel
  have kc : (defScope sInitB).names.lookup ("__class__" : Str) = some .free := by decide +kernel
  have kf : (defScope sInitB).names.lookup ("self" : Str) = some .local := by decide +kernel
  obtain ⟨mb, hb1, hb2⟩ := MD.blt
  obtain ⟨oD, hD1, hD2⟩ : ∃ oD, h1.get? C = some oD ∧ oD.data = .cls cd := by
    have h0 := hC1
    unfold clsIn at h0
    split at h0
    · rename_i c d cd' sl ho
      cases h0
      exact ⟨_, X1 _ _ ho, rfl⟩
    · cases h0
  refine PySem.ks_wpAt_super_base (f := fI) (cc := cda) ks kc (by decide) rfl (X1 _ _ hfn) rfl rfl rfl (X1 _ _ hcode) rfl hvs hfile T.top ?_
  refine PySem.W.ks_loadName_global rfl ks (Calls.loadGlobal_builtin (MD.glob.keeps hk) T.sup (hb1.keeps hk) ((hb2 _ (by decide)).trans (show bootBuiltins "super" = some (.type "super") by decide +kernel)) ⟨rfl, ?_⟩)
  refine wpAny_loadName_free rfl kc rfl ⟨_, X1 _ _ hcell, rfl⟩ ?_
  refine wpAny_loadName_local rfl kf hns rfl ?_
  refine PySem.ks_wpAny_isType_cls hD1 hD2 ⟨rfl, ?_⟩
  refine PySem.ks_wpAny_call_super hD1 hD2 hx1 rfl (fun c e => nomatch e) (PySem.W.looks_mroIn X1 T.mC) (fun h2 hso k2 => ?_)
  have X2 : K.In h2 := X1.keeps k2
  have hx2 := k2 _ _ hx1
  have I2 : InstAt h2 x (HandSPX.excO C t0) C none := ⟨hx2, rfl, rfl, trivial⟩
  refine PySem.ESX.getMethod_super hso (PySem.W.looks_opaque X2 T.op) (l₀ := cd.mro) (fun A Q E s k q => wpAny_bind ((PySem.W.looks_clsIn X2 hC1) A _ E s k (wpAny_pure q))) (l := [.ref G, .type "Exception", .type "BaseException", .type "object"]) ?_ X2 T.al (kE X2 hC1 hx2) (by decide) (I2.type.andThen (PySem.W.looks_mroIn X2 T.mE)) ?_
  · rw [hC2]
    exact PySem.ESX.drop_own C _
  have nsL : ∀ {hh : Heap}, (∀ b o, b ≠ x → h1.get? b = some o → hh.get? b = some o) → hh.Ns hp.objs.size (fun y => List.lookup y [(("self" : Str), Value.ref x), ("line", .int a ta), ("column", .int b tb)].reverse) := fun {hh} kk => by
    obtain ⟨oL, es, ep, hL, r⟩ := hns
    exact ⟨oL, es, ep, kk _ _ (fun z => by have := Heap.lt_size hx; rw [← z] at this; exact Nat.lt_irrefl _ this) hL, r⟩
  have k3 : ∀ b' o, h1.get? b' = some o → (h2.push (PySem.ESX.bw x)).get? b' = some o := fun b' o e => Heap.get?_push_of_some _ (k2 b' o e)
  have n3 := nsL (hh := h2.push (PySem.ESX.bw x)) (fun b' o _ e => k3 b' o e)
  have sl := sizeLine_eq
  have ll : ∀ y z : Str, (y ++ z).length = y.length + z.length := fun y z => Str.length_append y z
  refine PySem.ESX.callWith_bound (x := x) (args_cons (wpAny_mono (Q := fun v s' => ∃ tk, s' = ⟨h2.push (PySem.ESX.bw x), g, d, tk, os⟩) (E := fun _ _ => False) ?ev (fun v s' hv => ?fin) (fun _ _ z => z.elim)))
  case ev =>
    refine wpAny_JoinedStr ?_
    show Joins _ _ _ [eval _ _, eval _ _, eval _ _, eval _ _] Str.empty _ _
    have la1 := PySem.int_text_length_le (k := 1900) (by decide) la
    have lb1 := PySem.int_text_length_le (k := 1900) (by decide) lb
    have lz : ∀ z : String, (Str.ofString z).length = z.length := fun z => PySem.ofString_length z
    have last : ∀ (acc : Str) (tk : Nat), acc.length ≤ 200000 → Joins (model P w) (A.deeper (nEnvB kV doc pm an cda ct cc hp.objs.size fI)) (fun _ _ => False) [eval (.FormattedValue (.Name "column" ⟨11, 48, 11, 54⟩) (-1) none ⟨11, 47, 11, 55⟩) (nEnvB kV doc pm an cda ct cc hp.objs.size fI)] acc
        (fun out s₁ => out.length ≤ sizeLine ∧ ∃ tk, ({ s₁ with toks := s₁.toks + 1 } : Shared) = ⟨h2.push (PySem.ESX.bw x), g, d, tk, os⟩) ⟨h2.push (PySem.ESX.bw x), g, d, tk, os⟩ := fun acc tk hacc => by
      refine wpAny_FormattedValue_plain (PySem.ESX.ldL n3 rfl (wpAny_formatField_int (Nat.lt_of_lt_of_le lb (by decide)) ?_))
      exact ⟨_, _, rfl, by rw [ll, lz]; omega, by rw [ll, lz]; omega, _, rfl⟩
    have l2 : (", column " : Str).length = 9 := by decide +kernel
    have l3 : ("line " : Str).length = 5 := by decide +kernel
    have l0 : Str.empty.length = 0 := by decide +kernel
    have mid : ∀ (acc : Str) (tk : Nat), acc.length ≤ 100000 → Joins (model P w) (A.deeper (nEnvB kV doc pm an cda ct cc hp.objs.size fI)) (fun _ _ => False) [eval (.Constant (.str ", column ") 0 ⟨11, 38, 11, 47⟩) (nEnvB kV doc pm an cda ct cc hp.objs.size fI), eval (.FormattedValue (.Name "column" ⟨11, 48, 11, 54⟩) (-1) none ⟨11, 47, 11, 55⟩) (nEnvB kV doc pm an cda ct cc hp.objs.size fI)] acc
        (fun out s₁ => out.length ≤ sizeLine ∧ ∃ tk, ({ s₁ with toks := s₁.toks + 1 } : Shared) = ⟨h2.push (PySem.ESX.bw x), g, d, tk, os⟩) ⟨h2.push (PySem.ESX.bw x), g, d, tk, os⟩ := fun acc tk hacc =>
      wpAny_Constant_str ⟨(", column " : Str), _, rfl, by rw [ll]; omega, last _ _ (by rw [ll]; omega)⟩
    have fst : ∀ (acc : Str) (tk : Nat), acc.length ≤ 50000 → Joins (model P w) (A.deeper (nEnvB kV doc pm an cda ct cc hp.objs.size fI)) (fun _ _ => False) [eval (.FormattedValue (.Name "line" ⟨11, 33, 11, 37⟩) (-1) none ⟨11, 32, 11, 38⟩) (nEnvB kV doc pm an cda ct cc hp.objs.size fI), eval (.Constant (.str ", column ") 0 ⟨11, 38, 11, 47⟩) (nEnvB kV doc pm an cda ct cc hp.objs.size fI), eval (.FormattedValue (.Name "column" ⟨11, 48, 11, 54⟩) (-1) none ⟨11, 47, 11, 55⟩) (nEnvB kV doc pm an cda ct cc hp.objs.size fI)] acc
        (fun out s₁ => out.length ≤ sizeLine ∧ ∃ tk, ({ s₁ with toks := s₁.toks + 1 } : Shared) = ⟨h2.push (PySem.ESX.bw x), g, d, tk, os⟩) ⟨h2.push (PySem.ESX.bw x), g, d, tk, os⟩ := fun acc tk hacc => by
      refine wpAny_FormattedValue_plain (PySem.ESX.ldL n3 rfl (wpAny_formatField_int (Nat.lt_of_lt_of_le la (by decide)) ?_))
      exact ⟨_, _, rfl, by rw [ll, lz]; omega, mid _ _ (by rw [ll, lz]; omega)⟩
    exact wpAny_Constant_str ⟨("line " : Str), _, rfl, by rw [ll]; omega, fst _ _ (by rw [ll]; omega)⟩
  case fin =>
    obtain ⟨tk, rfl⟩ := hv
    have X3 : K.In (h2.push (PySem.ESX.bw x)) := X1.keeps k3
    refine args_nil ⟨Heap.get?_push_size _ rfl, ?_⟩
    refine PySem.ESX.call_bw (X3 _ _ hCo) (k3 _ _ hx1) (Heap.get?_push_size _ rfl) (by show 1 ≤ sizeLine; omega) fun h4 t4 k4 hx4 => ?_
    have k14 : ∀ b' o, b' ≠ x → h1.get? b' = some o → h4.get? b' = some o := fun b' o hb e => k4 b' o hb (k3 b' o e)
    have n4 := nsL k14
    have X4 : K.In h4 := fun b' o e => k4 b' o (fun z => by rw [z, hnx] at e; cases e) (X3 b' o e)
    refine PySem.ks_wpAt_execs_cons (PySem.wpAt_of_wpAny (plainObj_wpAny_Assign_Attribute (PySem.ESX.ldL n4 rfl (PySem.ESX.ldL n4 rfl (sto_newB T X4 hx4 T.t1 fun h5 tk5 dx k5 hd5 dn5 hx5 hn5 => ?_)))))
    have n5 := nsL (hh := h5) fun b' o hb e => k5 b' o hb (k14 b' o hb e)
    have X5 : K.In h5 := fun b' o e => k5 b' o (fun z => by rw [z, hnx] at e; cases e) (X4 b' o e)
    refine PySem.ks_wpAt_execs_cons (PySem.wpAt_of_wpAny (plainObj_wpAny_Assign_Attribute (PySem.ESX.ldL n5 rfl (PySem.ESX.ldL n5 rfl (sto_oldB T (nl := [("line" : Str)]) X5 hx5 hn5 (fun y hy => ?_) (by show 1 ≤ 1000; decide) T.t2 fun h6 tk6 k6 hn6 => ?_)))))
    · by_cases z : y = ("line" : Str)
      · rw [z]
        exact List.mem_singleton.mpr rfl
      · exact absurd (if_neg z) hy
    · refine PySem.wpAt_of_wpAny (wpAny_execs_nil (hq h6 tk6 ⟨fun b' o hb e => ?_, dx, t4, ?_, dn5, k6 _ _ (Ne.symm dn5) hx5, hn6⟩))
      · have e4 : h4.get? b' = some o := k14 b' o hb (hk b' o e)
        refine k6 b' o (fun z => ?_) (k5 b' o hb e4)
        have := Heap.lt_size e4
        rw [z] at this
        exact absurd (Nat.lt_of_lt_of_le this hd5) (Nat.lt_irrefl _)
      · refine Nat.le_trans ?_ hd5
        exact Nat.le_of_lt n4.lt
/-- an error that was just made -/
structure NetMadeB (h h' : Heap) (e C : Addr) (a : Int) (ta : Tok) (b : Int) (tb : Tok) : Prop where
  keep : ∀ b o, h.get? b = some o → h'.get? b = some o
  new : h.objs.size ≤ e
  obj : ∃ d t1, h.objs.size ≤ d ∧ d ≠ e ∧ h'.get? e = some { cls := .ref C, dict := some d, data := .fields #[.ref t1, .none, .none, .none, .bool false, .none] } ∧ h'.Ns1 d (fun y => if y = "column" then some (.int b tb) else if y = "line" then some (.int a ta) else none)
theorem two_sizeB (v u : Value) : [v, u].length ≤ sizeLine := by
  rw [sizeLine_eq]
  exact (by decide : 2 ≤ 16777216)
/-- BadText(a, b), a and b texts -/
theorem net_madeB (T : NetTxtB P K mg C G fI) {a b : Int} {ta tb : Tok} (MD : L2.Mod K mg s.heap) (hroom : A.depth + 1 < recursionLimit) (la : a.natAbs.log2 < 1900) (lb : b.natAbs.log2 < 1900)
    (hq : ∀ h' tk e, NetMadeB s.heap h' e C a ta b tb → R (.ok (.ret (.ref e))) { s with heap := h', toks := tk }) :
    codeAny (model P w) A (.call (.ref C) ⟨[.int a ta, .int b tb], []⟩) R s := by
  obtain ⟨nm, q, N, bs, sn, sub, ab, col, dd, k0, k1, k2, k3, k5, hCo⟩ := T.cls
  obtain ⟨hp, g, d, t, os⟩ := s
  have X := MD.kin
  have up : ∀ b' o, hp.get? b' = some o → ((hp.push (PySem.W.kdv_tup [.int a ta, .int b tb])).push (HandSPX.excO C hp.objs.size)).get? b' = some o := fun b' o e => Heap.get?_push_of_some _ (Heap.get?_push_of_some _ e)
  have here : ((hp.push (PySem.W.kdv_tup [.int a ta, .int b tb])).push (HandSPX.excO C hp.objs.size)).get? (hp.objs.size + 1) = some (HandSPX.excO C hp.objs.size) := by heap_get
  have hnx : K.lookup (hp.objs.size + 1) = none := by
    cases e : K.lookup (hp.objs.size + 1) with
    | none => rfl
    | some o => exact absurd (Nat.lt_of_succ_lt (Heap.lt_size (X _ _ e))) (Nat.lt_irrefl _)
  have tailC : ∀ Y : String, [Value.ref G, .type "Exception", .type "BaseException", .type "object"].contains (.type Y) = [Value.type "Exception", .type "BaseException", .type "object"].contains (.type Y) := fun Y => by
    rw [List.contains_cons]
    rfl
  refine HandSPX.call_own F.excBase_Exception tailC (X _ _ hCo) (PySem.W.looks_findIn X T.iC) (fun self => PySem.W.bind_fn X self T.tI) (two_sizeB _ _) ?_
  refine net_initB T (x := hp.objs.size + 1) (t0 := hp.objs.size) ?_ here hnx ?_ la lb fun h' tk I => ?_
  · obtain ⟨m1, m2, ⟨mb, m3, m4⟩, m5⟩ := MD
    exact ⟨m1.keeps up, m2.keeps up, ⟨mb, m3.keeps up, m4⟩, m5.keeps up⟩
  · show A.depth + 1 < recursionLimit
    exact hroom
  · obtain ⟨dx, t1, hd1, hd2, ho, hns⟩ := I.obj
    have old : ∀ b' o, hp.get? b' = some o → h'.get? b' = some o := fun b' o e => I.keep b' o (Nat.ne_of_lt (Nat.lt_succ_of_lt (Heap.lt_size e))) (up b' o e)
    exact ⟨rfl, hq h' tk (hp.objs.size + 1) ⟨old, Nat.le_succ _, dx, t1, Nat.le_trans (by show hp.objs.size ≤ _; rw [Heap.size_push, Heap.size_push]; exact Nat.le_succ_of_le (Nat.le_succ _)) hd1, hd2, ho, hns⟩⟩
end
section
variable {X : Cx} {C G fI : Addr}
/-- BadText(e1, e2), whole numbers -/
def tMkText (C : Addr) (ta : TA) : L2.St → Hp → XK → Prop := fun σ H Q => ta σ H fun vs H1 => ∃ a b : Int, vs = [.int a, .int b] ∧ a.natAbs.log2 < 1900 ∧ b.natAbs.log2 < 1900 ∧ ∀ d, H1 d = none → Q (.ref C) (some d) (upd H1 d (.xd [("line", .int a), ("column", .int b)]))
theorem pmk_text {e1 e2 : Expr} {ta : TA} {p pos : Pos} {k : Nat} (T : NetTxtB X.prog X.K X.mg C G fI) (hr : Room k X.A) (ha : PA X [e1, e2] ta) (hg : Gl X "BadText")
    (he : starEach [e1, e2] X.env = (false, eval e1 X.env) :: starEach [e2] X.env := by rfl) (hpl : (backTo pos (starEach [e2] X.env)).any (·.1) = false := by rfl) :
    PMk X (.Call (.Name "BadText" p) [e1, e2] [] pos) (tMkText C ta) := by
  intro pins s σ H Q I h
  refine wpAny_Call_Name_kw (ld_glob I hg T.gC ?_)
  refine PySem.W.callWith_K (h₀ := X.base) I.ok.mod.kin T.kC (thn (ha.run pos pins s σ H _ I h) fun us s1 hh => ?_) he hpl
  obtain ⟨vs, H1, I1, r1, a, b, ev, la, lb, q1⟩ := hh
  subst ev
  refine ⟨I1.kIn, ?_⟩
  obtain ⟨u1, u2, rfl, ra, rb⟩ : ∃ u1 u2, us = [u1, u2] ∧ RelV (.int a) u1 ∧ RelV (.int b) u2 := by
    cases r1 with
    | cons x y => cases y with
      | cons z w => cases w; exact ⟨_, _, rfl, x, z⟩
  obtain ⟨ta', rfl⟩ := ra
  obtain ⟨tb', rfl⟩ := rb
  show wpAny _ _ (call (.ref C) [_, _]) _ _ _
  have md : L2.Mod X.K X.mg s1.heap := by
    obtain ⟨m1, m2, ⟨mb, m3, m4⟩, m5⟩ := I1.mod
    exact ⟨m1.keeps I1.bk, m2.keeps I1.bk, ⟨mb, m3.keeps I1.bk, m4⟩, m5.keeps I1.bk⟩
  obtain ⟨hp, g, dr, tk, os⟩ := s1
  refine wpAny_call (net_madeB T md (by have := hr.dp; omega) la lb fun h' tk' e M => ?_)
  show MkP X pins σ Q (.ref e) ⟨h', g, dr, tk', os⟩
  obtain ⟨d, t1, hd1, hd2, hoe, hns⟩ := M.obj
  obtain ⟨Gh, g1', g2'⟩ := restrict h' fun b => decide (b ≠ e)
  have gk : ∀ b, b ≠ e → Gh.get? b = h'.get? b := fun b hb => g1' b (decide_eq_true hb)
  have ge : Gh.get? e = none := g2' e (by simp)
  have hH1d : H1 d = none := I1.hok.fresh hd1
  have J : Inv X pins σ (upd H1 d (.xd [("line", .int a), ("column", .int b)])) ⟨Gh, g, dr, tk', os⟩ := by
    refine I1.laid (a := d) (o := .xd [("line", .int a), ("column", .int b)]) (h' := Gh) (t' := tk') (fun b o hb => ?_) hd1 ?_
    · rw [gk b (Nat.ne_of_lt (Nat.lt_of_lt_of_le (Heap.lt_size hb) M.new))]
      exact M.keep b o hb
    · refine ⟨_, hns.at fun o y => (gk d hd2).trans y, fun f => ?_⟩
      show RelO (List.lookup f _) _
      by_cases z1 : f = "line"
      · subst z1
        have n1 : ¬ (("line" : Str) = "column") := by decide +kernel
        rw [if_neg n1, if_pos rfl]
        exact ⟨ta', rfl⟩
      · by_cases z2 : f = "column"
        · subst z2
          have n1 : (("column" : Str) == "line") = false := by decide +kernel
          rw [if_pos rfl, List.lookup_cons, n1]
          show RelO (List.lookup _ [_]) _
          rw [List.lookup_cons, beq_self_eq_true]
          exact ⟨tb', rfl⟩
        · rw [if_neg z2, if_neg z1, List.lookup_cons, beq_eq_false_iff_ne.mpr z1]
          show RelO (List.lookup _ [_]) _
          rw [List.lookup_cons, beq_eq_false_iff_ne.mpr z2]
          exact True.intro
  refine ⟨e, _, _, ⟨Gh, g, dr, tk', os⟩, _, .ref C, some d, rfl, J, fun b o z => ?_, ge, hoe, ⟨rfl, rfl⟩, rfl, rfl, ?_, rfl, I1.bare, raises_own T.exC T.tyC, q1 d hH1d⟩
  · by_cases hb : b = e
    · rw [hb, ge] at z
      cases z
    · exact (gk b hb).symm.trans z
  · rw [upd_ne (Ne.symm hd2)]
    exact I1.hok.fresh M.new
end
end K7
/-! -/
/-! -/

namespace K7
open PySem PySem.Spec PyProof.Rows L2 Vc
local macro_rules | `(tactic| walk_at "at") => `(tactic| (repeat (first | with_reducible exact At.here | apply At.there)))
local macro_rules | `(tactic| walk_at "v") => `(tactic| first
  | refine vd_bin ?_
  | (refine vd_name (by assumption) (by walk_at "at") rfl ?_)
  | refine vd_int ?_
  | refine vd_bool ?_
  | refine vd_none ?_
  | refine vd_str ?_
  | refine vd_if ?_
  | (refine vd_neg ?_)
  | refine vd_tup ?_
  | refine va_nil ?_
  | refine va_cons ?_
  | refine vs_ret ?_
  | refine vss_nil ?_
  | refine vss_one ?_
  | refine vss_cons ?_
  | refine vs_if ?_
  | refine vt_cmp (by assumption) ?_
  | refine vs_set (by assumption) (by walk_at "at") ?_
  | refine vd_cmp (by assumption) ?_
  | refine vgs_nil ?_
  | refine vgs_cons ?_
  | refine vg_name (by assumption) (by walk_at "at") ?_
  | (refine vd_callT (x := "int") (by assumption) does_int (by walk_at "at") ?_)
  | (refine vd_callB (x := "len") (by assumption) does_len (by walk_at "at") ?_)
  | (refine vd_callB (x := "abs") (by assumption) does_abs (by walk_at "at") ?_)
  | (refine vd_ixo (by assumption) (by walk_at "at") rfl ?_)
  | refine vd_ix ?_)
local macro_rules | `(tactic| walk_at "sw") => `(tactic| (intro env h; cases env; dsimp only at h; subst h; rfl))
local macro_rules | `(tactic| walk_at "vv") => `(tactic| repeat (walk_at "v"))
/-! _wall(k): slots 0 k -/
abbrev sWall : Stmt := topS 1
abbrev nWall : List Str := ["k"]
theorem scWall : FnScope nWall ["k"] (defScope sWall) := ⟨rfl, rfl, rfl, by decide +kernel, rfl, by decide +kernel, by decide +kernel⟩
abbrev nkWall : List (Str × Bool × Bool) := [("k", true, true)]
abbrev gWall : List Str := []
/-! fraction(above, below): slots 0 above, 1 below, 2 common -/
abbrev sFraction : Stmt := topS 7
abbrev nFraction : List Str := ["above", "below", "common"]
theorem scFraction : FnScope nFraction ["above", "below"] (defScope sFraction) := ⟨rfl, rfl, rfl, by decide +kernel, rfl, by decide +kernel, by decide +kernel⟩
abbrev nkFraction : List (Str × Bool × Bool) := [("above", true, true), ("below", true, true), ("common", true, true)]
abbrev gFraction : List Str := ["gcd"]
/-! is_int(thing): slots 0 thing -/
abbrev sIsInt : Stmt := topS 9
abbrev nIsInt : List Str := ["thing"]
theorem scIsInt : FnScope nIsInt ["thing"] (defScope sIsInt) := ⟨rfl, rfl, rfl, by decide +kernel, rfl, by decide +kernel, by decide +kernel⟩
abbrev nkIsInt : List (Str × Bool × Bool) := [("thing", true, true)]
abbrev gIsInt : List Str := ["isinstance", "int", "bool"]
/-! check_net(net): slots 0 net, 1 buses, 2 lines, 3 sources, 4 guards, 5 rules, 6 names, 7 bus, 8 line, 9 source, 10 guard -/
abbrev sCheckNet : Stmt := topS 24
abbrev nCheckNet : List Str := ["net", "buses", "lines", "sources", "guards", "rules", "names", "bus", "line", "source", "guard"]
theorem scCheckNet : FnScope nCheckNet ["net"] (defScope sCheckNet) := ⟨rfl, rfl, rfl, by decide +kernel, rfl, by decide +kernel, by decide +kernel⟩
abbrev nkCheckNet : List (Str × Bool × Bool) := [("net", true, true), ("buses", true, true), ("lines", true, true), ("sources", true, true), ("guards", true, true), ("rules", true, true), ("names", true, true), ("bus", true, true), ("line", true, true), ("source", true, true), ("guard", true, true)]
abbrev gCheckNet : List Str := ["is_tuple", "BadNet", "check_many", "MOST_BUSES", "MOST_LINES", "MOST_SOURCES", "MOST_GUARDS", "add_name", "check_line", "check_source", "check_guard", "check_rules"]
/-! check_many(kind, things, least, most): slots 0 kind, 1 things, 2 least, 3 most -/
abbrev sCheckMany : Stmt := topS 25
abbrev nCheckMany : List Str := ["kind", "things", "least", "most"]
theorem scCheckMany : FnScope nCheckMany ["kind", "things", "least", "most"] (defScope sCheckMany) := ⟨rfl, rfl, rfl, by decide +kernel, rfl, by decide +kernel, by decide +kernel⟩
abbrev nkCheckMany : List (Str × Bool × Bool) := [("kind", true, true), ("things", true, true), ("least", true, true), ("most", true, true)]
abbrev gCheckMany : List Str := ["isinstance", "tuple", "BadNet", "len"]
/-! is_tuple(thing, size): slots 0 thing, 1 size -/
abbrev sIsTuple : Stmt := topS 26
abbrev nIsTuple : List Str := ["thing", "size"]
theorem scIsTuple : FnScope nIsTuple ["thing", "size"] (defScope sIsTuple) := ⟨rfl, rfl, rfl, by decide +kernel, rfl, by decide +kernel, by decide +kernel⟩
abbrev nkIsTuple : List (Str × Bool × Bool) := [("thing", true, true), ("size", true, true)]
abbrev gIsTuple : List Str := ["isinstance", "tuple", "len"]
/-! is_whole_number(thing, least, most): slots 0 thing, 1 least, 2 most -/
abbrev sIsWholeNumber : Stmt := topS 27
abbrev nIsWholeNumber : List Str := ["thing", "least", "most"]
theorem scIsWholeNumber : FnScope nIsWholeNumber ["thing", "least", "most"] (defScope sIsWholeNumber) := ⟨rfl, rfl, rfl, by decide +kernel, rfl, by decide +kernel, by decide +kernel⟩
abbrev nkIsWholeNumber : List (Str × Bool × Bool) := [("thing", true, true), ("least", true, true), ("most", true, true)]
abbrev gIsWholeNumber : List Str := ["is_int"]
/-! is_fraction(thing): slots 0 thing -/
abbrev sIsFraction : Stmt := topS 28
abbrev nIsFraction : List Str := ["thing"]
theorem scIsFraction : FnScope nIsFraction ["thing"] (defScope sIsFraction) := ⟨rfl, rfl, rfl, by decide +kernel, rfl, by decide +kernel, by decide +kernel⟩
abbrev nkIsFraction : List (Str × Bool × Bool) := [("thing", true, true)]
abbrev gIsFraction : List Str := ["is_tuple", "is_int", "gcd"]
/-! is_name(thing): slots 0 thing, 1 sign -/
abbrev sIsName : Stmt := topS 29
abbrev nIsName : List Str := ["thing", "sign"]
theorem scIsName : FnScope nIsName ["thing"] (defScope sIsName) := ⟨rfl, rfl, rfl, by decide +kernel, rfl, by decide +kernel, by decide +kernel⟩
abbrev nkIsName : List (Str × Bool × Bool) := [("thing", true, true), ("sign", false, false)]
abbrev gIsName : List Str := ["isinstance", "str", "len", "MOST_SIGNS", "LETTERS", "all", "WORDS"]
abbrev nkIsName0 : List (Str × Bool × Bool) := [("thing", false, false), ("sign", true, true)]
abbrev gIsName0 : List Str := ["SIGNS"]
/-! is_known(names, thing, kinds): slots 0 names, 1 thing, 2 kinds -/
abbrev sIsKnown : Stmt := topS 30
abbrev nIsKnown : List Str := ["names", "thing", "kinds"]
theorem scIsKnown : FnScope nIsKnown ["names", "thing", "kinds"] (defScope sIsKnown) := ⟨rfl, rfl, rfl, by decide +kernel, rfl, by decide +kernel, by decide +kernel⟩
abbrev nkIsKnown : List (Str × Bool × Bool) := [("names", true, true), ("thing", true, true), ("kinds", true, true)]
abbrev gIsKnown : List Str := ["isinstance", "str"]
/-! add_name(names, thing, kind): slots 0 names, 1 thing, 2 kind -/
abbrev sAddName : Stmt := topS 31
abbrev nAddName : List Str := ["names", "thing", "kind"]
theorem scAddName : FnScope nAddName ["names", "thing", "kind"] (defScope sAddName) := ⟨rfl, rfl, rfl, by decide +kernel, rfl, by decide +kernel, by decide +kernel⟩
abbrev nkAddName : List (Str × Bool × Bool) := [("names", true, true), ("thing", true, true), ("kind", true, true)]
abbrev gAddName : List Str := ["is_name", "BadNet"]
/-! check_line(names, line): slots 0 names, 1 line, 2 name, 3 one, 4 other, 5 resistance -/
abbrev sCheckLine : Stmt := topS 32
abbrev nCheckLine : List Str := ["names", "line", "name", "one", "other", "resistance"]
theorem scCheckLine : FnScope nCheckLine ["names", "line"] (defScope sCheckLine) := ⟨rfl, rfl, rfl, by decide +kernel, rfl, by decide +kernel, by decide +kernel⟩
abbrev nkCheckLine : List (Str × Bool × Bool) := [("names", true, true), ("line", true, true), ("name", true, true), ("one", true, true), ("other", true, true), ("resistance", true, true)]
abbrev gCheckLine : List Str := ["is_tuple", "BadNet", "add_name", "is_known", "is_whole_number", "MOST_NUMBER"]
/-! check_source(names, source): slots 0 names, 1 source, 2 name, 3 bus, 4 resistance -/
abbrev sCheckSource : Stmt := topS 33
abbrev nCheckSource : List Str := ["names", "source", "name", "bus", "resistance"]
theorem scCheckSource : FnScope nCheckSource ["names", "source"] (defScope sCheckSource) := ⟨rfl, rfl, rfl, by decide +kernel, rfl, by decide +kernel, by decide +kernel⟩
abbrev nkCheckSource : List (Str × Bool × Bool) := [("names", true, true), ("source", true, true), ("name", true, true), ("bus", true, true), ("resistance", true, true)]
abbrev gCheckSource : List Str := ["is_tuple", "BadNet", "add_name", "is_known", "is_whole_number", "MOST_NUMBER"]
/-! is_breaker(names, thing): slots 0 names, 1 thing, 2 name, 3 end -/
abbrev sIsBreaker : Stmt := topS 34
abbrev nIsBreaker : List Str := ["names", "thing", "name", "end"]
theorem scIsBreaker : FnScope nIsBreaker ["names", "thing"] (defScope sIsBreaker) := ⟨rfl, rfl, rfl, by decide +kernel, rfl, by decide +kernel, by decide +kernel⟩
abbrev nkIsBreaker : List (Str × Bool × Bool) := [("names", true, true), ("thing", true, true), ("name", true, true), ("end", true, true)]
abbrev gIsBreaker : List Str := ["is_tuple", "is_int", "is_known"]
/-! is_ascending(things): slots 0 things, 1 one, 2 other -/
abbrev sIsAscending : Stmt := topS 35
abbrev nIsAscending : List Str := ["things", "one", "other"]
theorem scIsAscending : FnScope nIsAscending ["things"] (defScope sIsAscending) := ⟨rfl, rfl, rfl, by decide +kernel, rfl, by decide +kernel, by decide +kernel⟩
abbrev nkIsAscending : List (Str × Bool × Bool) := [("things", true, true), ("one", false, false), ("other", false, false)]
abbrev gIsAscending : List Str := ["all", "zip"]
abbrev nkIsAscending0 : List (Str × Bool × Bool) := [("things", false, false), ("one", true, true), ("other", true, true)]
abbrev gIsAscending0 : List Str := []
/-! check_guard(names, guard): slots 0 names, 1 guard, 2 name, 3 told, 4 delay, 5 opens, 6 breaker -/
abbrev sCheckGuard : Stmt := topS 36
abbrev nCheckGuard : List Str := ["names", "guard", "name", "told", "delay", "opens", "breaker"]
theorem scCheckGuard : FnScope nCheckGuard ["names", "guard"] (defScope sCheckGuard) := ⟨rfl, rfl, rfl, by decide +kernel, rfl, by decide +kernel, by decide +kernel⟩
abbrev nkCheckGuard : List (Str × Bool × Bool) := [("names", true, true), ("guard", true, true), ("name", true, true), ("told", true, true), ("delay", true, true), ("opens", true, true), ("breaker", false, false)]
abbrev gCheckGuard : List Str := ["is_tuple", "BadNet", "add_name", "is_told", "is_whole_number", "MOST_DELAY", "isinstance", "tuple", "all", "is_ascending"]
abbrev nkCheckGuard0 : List (Str × Bool × Bool) := [("names", true, false), ("guard", false, false), ("name", false, false), ("told", false, false), ("delay", false, false), ("opens", false, false), ("breaker", true, true)]
abbrev gCheckGuard0 : List Str := ["is_breaker"]
/-! is_told(names, thing): slots 0 names, 1 thing, 2 kind, 3 more -/
abbrev sIsTold : Stmt := topS 37
abbrev nIsTold : List Str := ["names", "thing", "kind", "more"]
theorem scIsTold : FnScope nIsTold ["names", "thing"] (defScope sIsTold) := ⟨rfl, rfl, rfl, by decide +kernel, rfl, by decide +kernel, by decide +kernel⟩
abbrev nkIsTold : List (Str × Bool × Bool) := [("names", true, true), ("thing", true, true), ("kind", true, true), ("more", true, true)]
abbrev gIsTold : List Str := ["isinstance", "tuple", "str", "len", "is_breaker", "is_bound", "bool", "is_known"]
/-! is_bound(thing): slots 0 thing -/
abbrev sIsBound : Stmt := topS 38
abbrev nIsBound : List Str := ["thing"]
theorem scIsBound : FnScope nIsBound ["thing"] (defScope sIsBound) := ⟨rfl, rfl, rfl, by decide +kernel, rfl, by decide +kernel, by decide +kernel⟩
abbrev nkIsBound : List (Str × Bool × Bool) := [("thing", true, true)]
abbrev gIsBound : List Str := ["is_fraction", "MOST_NUMBER"]
/-! check_rules(rules): slots 0 rules, 1 error, 2 least, 3 most, 4 ticks -/
abbrev sCheckRules : Stmt := topS 39
abbrev nCheckRules : List Str := ["rules", "error", "least", "most", "ticks"]
theorem scCheckRules : FnScope nCheckRules ["rules"] (defScope sCheckRules) := ⟨rfl, rfl, rfl, by decide +kernel, rfl, by decide +kernel, by decide +kernel⟩
abbrev nkCheckRules : List (Str × Bool × Bool) := [("rules", true, true), ("error", true, true), ("least", true, true), ("most", true, true), ("ticks", true, true)]
abbrev gCheckRules : List Str := ["is_tuple", "BadNet", "is_fraction", "MOST_NUMBER", "is_whole_number", "MOST_AGE", "MOST_TICKS"]
/-! Row.__init__(self, line, text): slots 0 self, 1 line, 2 text -/
abbrev sRowInit : Stmt := rowOf (topS 42) 0
abbrev nRowInit : List Str := ["self", "line", "text"]
theorem scRowInit : FnScope nRowInit ["self", "line", "text"] (defScope sRowInit) := ⟨rfl, rfl, rfl, by decide +kernel, rfl, by decide +kernel, by decide +kernel⟩
abbrev nkRowInit : List (Str × Bool × Bool) := [("self", true, true), ("line", true, true), ("text", true, true)]
abbrev gRowInit : List Str := []
/-! Row.refuse(self, at): slots 0 self, 1 at -/
abbrev sRowRefuse : Stmt := rowOf (topS 42) 1
abbrev nRowRefuse : List Str := ["self", "at"]
theorem scRowRefuse : FnScope nRowRefuse ["self", "at"] (defScope sRowRefuse) := ⟨rfl, rfl, rfl, by decide +kernel, rfl, by decide +kernel, by decide +kernel⟩
abbrev nkRowRefuse : List (Str × Bool × Bool) := [("self", true, true), ("at", true, true)]
abbrev gRowRefuse : List Str := ["BadText"]
/-! Row.refuse_end(self): slots 0 self -/
abbrev sRowRefuseEnd : Stmt := rowOf (topS 42) 2
abbrev nRowRefuseEnd : List Str := ["self"]
theorem scRowRefuseEnd : FnScope nRowRefuseEnd ["self"] (defScope sRowRefuseEnd) := ⟨rfl, rfl, rfl, by decide +kernel, rfl, by decide +kernel, by decide +kernel⟩
abbrev nkRowRefuseEnd : List (Str × Bool × Bool) := [("self", true, true)]
abbrev gRowRefuseEnd : List Str := ["len"]
/-! Row.is_over(self): slots 0 self -/
abbrev sRowIsOver : Stmt := rowOf (topS 42) 3
abbrev nRowIsOver : List Str := ["self"]
theorem scRowIsOver : FnScope nRowIsOver ["self"] (defScope sRowIsOver) := ⟨rfl, rfl, rfl, by decide +kernel, rfl, by decide +kernel, by decide +kernel⟩
abbrev nkRowIsOver : List (Str × Bool × Bool) := [("self", true, true)]
abbrev gRowIsOver : List Str := ["len"]
/-! Row.begin(self): slots 0 self -/
abbrev sRowBegin : Stmt := rowOf (topS 42) 4
abbrev nRowBegin : List Str := ["self"]
theorem scRowBegin : FnScope nRowBegin ["self"] (defScope sRowBegin) := ⟨rfl, rfl, rfl, by decide +kernel, rfl, by decide +kernel, by decide +kernel⟩
abbrev nkRowBegin : List (Str × Bool × Bool) := [("self", true, true)]
abbrev gRowBegin : List Str := []
/-! Row.finish(self): slots 0 self -/
abbrev sRowFinish : Stmt := rowOf (topS 42) 5
abbrev nRowFinish : List Str := ["self"]
theorem scRowFinish : FnScope nRowFinish ["self"] (defScope sRowFinish) := ⟨rfl, rfl, rfl, by decide +kernel, rfl, by decide +kernel, by decide +kernel⟩
abbrev nkRowFinish : List (Str × Bool × Bool) := [("self", true, true)]
abbrev gRowFinish : List Str := []
/-! Row.finish_line(self): slots 0 self -/
abbrev sRowFinishLine : Stmt := rowOf (topS 42) 6
abbrev nRowFinishLine : List Str := ["self"]
theorem scRowFinishLine : FnScope nRowFinishLine ["self"] (defScope sRowFinishLine) := ⟨rfl, rfl, rfl, by decide +kernel, rfl, by decide +kernel, by decide +kernel⟩
abbrev nkRowFinishLine : List (Str × Bool × Bool) := [("self", true, true)]
abbrev gRowFinishLine : List Str := []
/-! Row.ahead(self, signs): slots 0 self, 1 signs, 2 end -/
abbrev sRowAhead : Stmt := rowOf (topS 42) 7
abbrev nRowAhead : List Str := ["self", "signs", "end"]
theorem scRowAhead : FnScope nRowAhead ["self", "signs"] (defScope sRowAhead) := ⟨rfl, rfl, rfl, by decide +kernel, rfl, by decide +kernel, by decide +kernel⟩
abbrev nkRowAhead : List (Str × Bool × Bool) := [("self", true, true), ("signs", true, true), ("end", true, true)]
abbrev gRowAhead : List Str := ["len"]
/-! Row.read_word(self, words): slots 0 self, 1 words, 2 word -/
abbrev sRowReadWord : Stmt := rowOf (topS 42) 8
abbrev nRowReadWord : List Str := ["self", "words", "word"]
theorem scRowReadWord : FnScope nRowReadWord ["self", "words"] (defScope sRowReadWord) := ⟨rfl, rfl, rfl, by decide +kernel, rfl, by decide +kernel, by decide +kernel⟩
abbrev nkRowReadWord : List (Str × Bool × Bool) := [("self", true, true), ("words", true, true), ("word", true, true)]
abbrev gRowReadWord : List Str := ["SIGNS", "len"]
/-! Row.refuse_words(self, words): slots 0 self, 1 words -/
abbrev sRowRefuseWords : Stmt := rowOf (topS 42) 9
abbrev nRowRefuseWords : List Str := ["self", "words"]
theorem scRowRefuseWords : FnScope nRowRefuseWords ["self", "words"] (defScope sRowRefuseWords) := ⟨rfl, rfl, rfl, by decide +kernel, rfl, by decide +kernel, by decide +kernel⟩
abbrev nkRowRefuseWords : List (Str × Bool × Bool) := [("self", true, true), ("words", true, true)]
abbrev gRowRefuseWords : List Str := ["_wall"]
/-! Row.bare_name(self): slots 0 self, 1 name -/
abbrev sRowBareName : Stmt := rowOf (topS 42) 10
abbrev nRowBareName : List Str := ["self", "name"]
theorem scRowBareName : FnScope nRowBareName ["self"] (defScope sRowBareName) := ⟨rfl, rfl, rfl, by decide +kernel, rfl, by decide +kernel, by decide +kernel⟩
abbrev nkRowBareName : List (Str × Bool × Bool) := [("self", true, true), ("name", true, true)]
abbrev gRowBareName : List Str := ["SIGNS", "is_name", "len"]
/-! Row.read_name(self): slots 0 self, 1 name -/
abbrev sRowReadName : Stmt := rowOf (topS 42) 11
abbrev nRowReadName : List Str := ["self", "name"]
theorem scRowReadName : FnScope nRowReadName ["self"] (defScope sRowReadName) := ⟨rfl, rfl, rfl, by decide +kernel, rfl, by decide +kernel, by decide +kernel⟩
abbrev nkRowReadName : List (Str × Bool × Bool) := [("self", true, true), ("name", true, true)]
abbrev gRowReadName : List Str := []
/-! Row.bare_number(self, least): slots 0 self, 1 least, 2 figures, 3 number -/
abbrev sRowBareNumber : Stmt := rowOf (topS 42) 12
abbrev nRowBareNumber : List Str := ["self", "least", "figures", "number"]
theorem scRowBareNumber : FnScope nRowBareNumber ["self", "least"] (defScope sRowBareNumber) := ⟨rfl, rfl, rfl, by decide +kernel, rfl, by decide +kernel, by decide +kernel⟩
abbrev nkRowBareNumber : List (Str × Bool × Bool) := [("self", true, true), ("least", true, true), ("figures", true, true), ("number", true, true)]
abbrev gRowBareNumber : List Str := ["FIGURES", "len", "MOST_FIGURES", "int", "MOST_NUMBER"]
/-! Row.read_number(self): slots 0 self, 1 number -/
abbrev sRowReadNumber : Stmt := rowOf (topS 42) 13
abbrev nRowReadNumber : List Str := ["self", "number"]
theorem scRowReadNumber : FnScope nRowReadNumber ["self"] (defScope sRowReadNumber) := ⟨rfl, rfl, rfl, by decide +kernel, rfl, by decide +kernel, by decide +kernel⟩
abbrev nkRowReadNumber : List (Str × Bool × Bool) := [("self", true, true), ("number", true, true)]
abbrev gRowReadNumber : List Str := []
/-! Row.read_fraction(self): slots 0 self, 1 above, 2 below -/
abbrev sRowReadFraction : Stmt := rowOf (topS 42) 14
abbrev nRowReadFraction : List Str := ["self", "above", "below"]
theorem scRowReadFraction : FnScope nRowReadFraction ["self"] (defScope sRowReadFraction) := ⟨rfl, rfl, rfl, by decide +kernel, rfl, by decide +kernel, by decide +kernel⟩
abbrev nkRowReadFraction : List (Str × Bool × Bool) := [("self", true, true), ("above", true, true), ("below", true, true)]
abbrev gRowReadFraction : List Str := ["fraction"]
/-! Row.read_breaker(self, lines): slots 0 self, 1 lines, 2 name, 3 start, 4 behind, 5 has_end -/
abbrev sRowReadBreaker : Stmt := rowOf (topS 42) 15
abbrev nRowReadBreaker : List Str := ["self", "lines", "name", "start", "behind", "has_end"]
theorem scRowReadBreaker : FnScope nRowReadBreaker ["self", "lines"] (defScope sRowReadBreaker) := ⟨rfl, rfl, rfl, by decide +kernel, rfl, by decide +kernel, by decide +kernel⟩
abbrev nkRowReadBreaker : List (Str × Bool × Bool) := [("self", true, true), ("lines", true, true), ("name", true, true), ("start", true, true), ("behind", true, true), ("has_end", true, true)]
abbrev gRowReadBreaker : List Str := ["len", "int"]
/-! rows_of(text): slots 0 text, 1 at, 2 line -/
abbrev sRowsOf : Stmt := topS 43
abbrev nRowsOf : List Str := ["text", "at", "line"]
theorem scRowsOf : FnScope nRowsOf ["text"] (defScope sRowsOf) := ⟨rfl, rfl, rfl, by decide +kernel, rfl, by decide +kernel, by decide +kernel⟩
abbrev nkRowsOf : List (Str × Bool × Bool) := [("text", true, true), ("at", false, false), ("line", false, false)]
abbrev gRowsOf : List Str := ["enumerate"]
abbrev nkRowsOf0 : List (Str × Bool × Bool) := [("text", false, false), ("at", true, true), ("line", true, true)]
abbrev gRowsOf0 : List Str := ["Row"]
/-! read_bus(row, lines): slots 0 row, 1 lines -/
abbrev sReadBus : Stmt := topS 46
abbrev nReadBus : List Str := ["row", "lines"]
theorem scReadBus : FnScope nReadBus ["row", "lines"] (defScope sReadBus) := ⟨rfl, rfl, rfl, by decide +kernel, rfl, by decide +kernel, by decide +kernel⟩
abbrev nkReadBus : List (Str × Bool × Bool) := [("row", true, true), ("lines", true, true)]
abbrev gReadBus : List Str := []
/-! read_line(row, lines): slots 0 row, 1 lines -/
abbrev sReadLine : Stmt := topS 47
abbrev nReadLine : List Str := ["row", "lines"]
theorem scReadLine : FnScope nReadLine ["row", "lines"] (defScope sReadLine) := ⟨rfl, rfl, rfl, by decide +kernel, rfl, by decide +kernel, by decide +kernel⟩
abbrev nkReadLine : List (Str × Bool × Bool) := [("row", true, true), ("lines", true, true)]
abbrev gReadLine : List Str := []
/-! read_source(row, lines): slots 0 row, 1 lines -/
abbrev sReadSource : Stmt := topS 48
abbrev nReadSource : List Str := ["row", "lines"]
theorem scReadSource : FnScope nReadSource ["row", "lines"] (defScope sReadSource) := ⟨rfl, rfl, rfl, by decide +kernel, rfl, by decide +kernel, by decide +kernel⟩
abbrev nkReadSource : List (Str × Bool × Bool) := [("row", true, true), ("lines", true, true)]
abbrev gReadSource : List Str := []
/-! read_error(row, lines): slots 0 row, 1 lines -/
abbrev sReadError : Stmt := topS 49
abbrev nReadError : List Str := ["row", "lines"]
theorem scReadError : FnScope nReadError ["row", "lines"] (defScope sReadError) := ⟨rfl, rfl, rfl, by decide +kernel, rfl, by decide +kernel, by decide +kernel⟩
abbrev nkReadError : List (Str × Bool × Bool) := [("row", true, true), ("lines", true, true)]
abbrev gReadError : List Str := []
/-! read_times(row, lines): slots 0 row, 1 lines -/
abbrev sReadTimes : Stmt := topS 50
abbrev nReadTimes : List Str := ["row", "lines"]
theorem scReadTimes : FnScope nReadTimes ["row", "lines"] (defScope sReadTimes) := ⟨rfl, rfl, rfl, by decide +kernel, rfl, by decide +kernel, by decide +kernel⟩
abbrev nkReadTimes : List (Str × Bool × Bool) := [("row", true, true), ("lines", true, true)]
abbrev gReadTimes : List Str := []
/-! read_ticks(row, lines): slots 0 row, 1 lines -/
abbrev sReadTicks : Stmt := topS 51
abbrev nReadTicks : List Str := ["row", "lines"]
theorem scReadTicks : FnScope nReadTicks ["row", "lines"] (defScope sReadTicks) := ⟨rfl, rfl, rfl, by decide +kernel, rfl, by decide +kernel, by decide +kernel⟩
abbrev nkReadTicks : List (Str × Bool × Bool) := [("row", true, true), ("lines", true, true)]
abbrev gReadTicks : List Str := []
/-! read_guard(row, lines): slots 0 row, 1 lines, 2 name, 3 told, 4 delay, 5 opens -/
abbrev sReadGuard : Stmt := topS 52
abbrev nReadGuard : List Str := ["row", "lines", "name", "told", "delay", "opens"]
theorem scReadGuard : FnScope nReadGuard ["row", "lines"] (defScope sReadGuard) := ⟨rfl, rfl, rfl, by decide +kernel, rfl, by decide +kernel, by decide +kernel⟩
abbrev nkReadGuard : List (Str × Bool × Bool) := [("row", true, true), ("lines", true, true), ("name", true, true), ("told", true, true), ("delay", true, true), ("opens", true, true)]
abbrev gReadGuard : List Str := ["read_told", "tuple", "sorted"]
/-! read_told(row, lines): slots 0 row, 1 lines, 2 kind, 3 part, 4 bound, 5 is_forward -/
abbrev sReadTold : Stmt := topS 53
abbrev nReadTold : List Str := ["row", "lines", "kind", "part", "bound", "is_forward"]
theorem scReadTold : FnScope nReadTold ["row", "lines"] (defScope sReadTold) := ⟨rfl, rfl, rfl, by decide +kernel, rfl, by decide +kernel, by decide +kernel⟩
abbrev nkReadTold : List (Str × Bool × Bool) := [("row", true, true), ("lines", true, true), ("kind", true, true), ("part", true, true), ("bound", true, true), ("is_forward", true, true)]
abbrev gReadTold : List Str := []
/-! read_row(row, told): slots 0 row, 1 told, 2 word, 3 reader, 4 line -/
abbrev sReadRow : Stmt := topS 55
abbrev nReadRow : List Str := ["row", "told", "word", "reader", "line"]
theorem scReadRow : FnScope nReadRow ["row", "told"] (defScope sReadRow) := ⟨rfl, rfl, rfl, by decide +kernel, rfl, by decide +kernel, by decide +kernel⟩
abbrev nkReadRow : List (Str × Bool × Bool) := [("row", true, true), ("told", true, true), ("word", true, true), ("reader", true, true), ("line", false, false)]
abbrev gReadRow : List Str := ["READERS"]
abbrev nkReadRow0 : List (Str × Bool × Bool) := [("row", false, false), ("told", true, false), ("word", true, true), ("reader", false, false), ("line", false, false)]
abbrev gReadRow0 : List Str := ["ONCE"]
abbrev nkReadRow1 : List (Str × Bool × Bool) := [("row", false, false), ("told", false, false), ("word", false, false), ("reader", false, false), ("line", true, true)]
abbrev gReadRow1 : List Str := []
/-! read_net(text): slots 0 text, 1 told, 2 rows, 3 row, 4 parts, 5 net, 6 word -/
abbrev sReadNet : Stmt := topS 56
abbrev nReadNet : List Str := ["text", "told", "rows", "row", "parts", "net", "word"]
theorem scReadNet : FnScope nReadNet ["text"] (defScope sReadNet) := ⟨rfl, rfl, rfl, by decide +kernel, rfl, by decide +kernel, by decide +kernel⟩
abbrev nkReadNet : List (Str × Bool × Bool) := [("text", true, true), ("told", true, true), ("rows", true, true), ("row", true, true), ("parts", true, true), ("net", true, true), ("word", false, false)]
abbrev gReadNet : List Str := ["isinstance", "str", "BadText", "READERS", "rows_of", "read_row", "all", "ONCE", "check_net"]
abbrev nkReadNet0 : List (Str × Bool × Bool) := [("text", false, false), ("told", false, false), ("rows", false, false), ("row", false, false), ("parts", false, false), ("net", false, false), ("word", true, true)]
abbrev gReadNet0 : List Str := []
abbrev nkReadNet1 : List (Str × Bool × Bool) := [("text", false, false), ("told", true, false), ("rows", false, false), ("row", false, false), ("parts", false, false), ("net", false, false), ("word", true, true)]
abbrev gReadNet1 : List Str := []
abbrev nkReadNet2 : List (Str × Bool × Bool) := [("text", false, false), ("told", true, false), ("rows", false, false), ("row", false, false), ("parts", false, false), ("net", false, false), ("word", true, true)]
abbrev gReadNet2 : List Str := ["tuple"]
/-! _law_cell_at(script, k): slots 0 script, 1 k -/
abbrev sLCellAt : Stmt := topS 58
abbrev nLCellAt : List Str := ["script", "k"]
theorem scLCellAt : FnScope nLCellAt ["script", "k"] (defScope sLCellAt) := ⟨rfl, rfl, rfl, by decide +kernel, rfl, by decide +kernel, by decide +kernel⟩
abbrev nkLCellAt : List (Str × Bool × Bool) := [("script", true, true), ("k", true, true)]
abbrev gLCellAt : List Str := ["len"]
/-! _law_draw(cell, k, bound): slots 0 cell, 1 k, 2 bound, 3 primes -/
abbrev sLDraw : Stmt := topS 59
abbrev nLDraw : List Str := ["cell", "k", "bound", "primes"]
theorem scLDraw : FnScope nLDraw ["cell", "k", "bound"] (defScope sLDraw) := ⟨rfl, rfl, rfl, by decide +kernel, rfl, by decide +kernel, by decide +kernel⟩
abbrev nkLDraw : List (Str × Bool × Bool) := [("cell", true, true), ("k", true, true), ("bound", true, true), ("primes", true, true)]
abbrev gLDraw : List Str := ["int"]
/-! _law_number(cell, k, bound): slots 0 cell, 1 k, 2 bound, 3 power, 4 lap, 5 remains, 6 small -/
abbrev sLNumber : Stmt := topS 60
abbrev nLNumber : List Str := ["cell", "k", "bound", "power", "lap", "remains", "small"]
theorem scLNumber : FnScope nLNumber ["cell", "k", "bound"] (defScope sLNumber) := ⟨rfl, rfl, rfl, by decide +kernel, rfl, by decide +kernel, by decide +kernel⟩
abbrev nkLNumber : List (Str × Bool × Bool) := [("cell", true, true), ("k", true, true), ("bound", true, true), ("power", true, true), ("lap", true, true), ("remains", true, true), ("small", true, true)]
abbrev gLNumber : List Str := ["range", "int", "_law_draw"]
/-! _law_next(draw, bound): slots 0 draw, 1 bound, 2 at, 3 cell -/
abbrev sLNext : Stmt := topS 61
abbrev nLNext : List Str := ["draw", "bound", "at", "cell"]
theorem scLNext : FnScope nLNext ["draw", "bound"] (defScope sLNext) := ⟨rfl, rfl, rfl, by decide +kernel, rfl, by decide +kernel, by decide +kernel⟩
abbrev nkLNext : List (Str × Bool × Bool) := [("draw", true, true), ("bound", true, true), ("at", true, true), ("cell", true, true)]
abbrev gLNext : List Str := ["_law_cell_at", "_law_number", "int"]
/-! _law_pick(draw, things): slots 0 draw, 1 things -/
abbrev sLPick : Stmt := topS 62
abbrev nLPick : List Str := ["draw", "things"]
theorem scLPick : FnScope nLPick ["draw", "things"] (defScope sLPick) := ⟨rfl, rfl, rfl, by decide +kernel, rfl, by decide +kernel, by decide +kernel⟩
abbrev nkLPick : List (Str × Bool × Bool) := [("draw", true, true), ("things", true, true)]
abbrev gLPick : List Str := ["_law_next", "len"]
/-! _law_place(text): slots 0 text, 1 e -/
abbrev sLPlace : Stmt := topS 63
abbrev nLPlace : List Str := ["text", "e"]
theorem scLPlace : FnScope nLPlace ["text"] (defScope sLPlace) := ⟨rfl, rfl, rfl, by decide +kernel, rfl, by decide +kernel, by decide +kernel⟩
abbrev nkLPlace : List (Str × Bool × Bool) := [("text", true, true), ("e", true, true)]
abbrev gLPlace : List Str := ["read_net", "BadText", "BadNet"]
/-! law(script): slots 0 script, 1 draw, 2 gap, 3 head, 4 right, 5 wrong, 6 text, 7 column -/
abbrev sLaw : Stmt := topS 64
abbrev nLaw : List Str := ["script", "draw", "gap", "head", "right", "wrong", "text", "column"]
theorem scLaw : FnScope nLaw ["script"] (defScope sLaw) := ⟨rfl, rfl, rfl, by decide +kernel, rfl, by decide +kernel, by decide +kernel⟩
abbrev nkLaw : List (Str × Bool × Bool) := [("script", true, true), ("draw", true, true), ("gap", true, true), ("head", true, true), ("right", true, true), ("wrong", true, true), ("text", true, true), ("column", true, true)]
abbrev gLaw : List Str := ["_law_next", "_law_place"]

/-! ### is_int, is_tuple, is_whole_number, is_fraction of anything -/
def isIntD : D → Bool
  | .int _ => true
  | _ => false
def noDi (d : D) : Prop := ∀ x, d ≠ .dict x
def SIsIntA : List D → (D → Prop) → Prop := fun ds W => ∃ d, ds = [d] ∧ noDi d ∧ W (.bool (isIntD d))
theorem fIsIntA {M : Md} {f : Addr} {fd : FuncData} (ms : M.mg "isinstance" = none) (mi : M.mg "int" = none) (mb : M.mg "bool" = none)
    (F : Fun M.K "is_int" "is_int" sIsInt f fd) (hm : M.mg "is_int" = some (.ref f)) (b : L2.Binds M.K fd ["thing"] []) : FnD M 1 "is_int" 1 SIsIntA := by
  refine fnD_mk (k := 0) (NK := nkIsInt) (G := gIsInt) F scIsInt hm b rfl (by decide +kernel) rfl (by decide) fun X C ds W hl hS => ?_
  obtain ⟨d, rfl, nd, w⟩ := hS
  have h1 : ∃ bb, kitB (tyN d) "int" = some bb ∧ (bb = false → isIntD d = false) ∧ (bb = true → ∃ b2, kitB (tyN d) "bool" = some b2 ∧ isIntD d = !b2) := by
    cases d with
    | none => exact ⟨false, by decide +kernel, fun _ => rfl, fun h => by cases h⟩
    | bool b => exact ⟨true, by show kitB "bool" "int" = some true; decide +kernel, fun h => (by cases h), fun _ => ⟨true, by show kitB "bool" "bool" = some true; decide +kernel, rfl⟩⟩
    | int i => exact ⟨true, by show kitB "int" "int" = some true; decide +kernel, fun h => (by cases h), fun _ => ⟨false, by show kitB "int" "bool" = some false; decide +kernel, rfl⟩⟩
    | str z => exact ⟨false, by show kitB "str" "int" = some false; decide +kernel, fun _ => rfl, fun h => by cases h⟩
    | list l => exact ⟨false, by show kitB "list" "int" = some false; decide +kernel, fun _ => rfl, fun h => by cases h⟩
    | tuple l => exact ⟨false, by show kitB "tuple" "int" = some false; decide +kernel, fun _ => rfl, fun h => by cases h⟩
    | dict l => exact absurd rfl (nd l)
  obtain ⟨bb, k1, k2, k3⟩ := h1
  show VSs X _ [.dat d] _
  walk_at "v"
  walk_at "v"
  refine vd_and ?_
  refine vd_isi C (T := "int") (by walk_at "at") (by walk_at "at") ?_
  walk_at "v"
  refine ⟨bb, k1, bb, rfl, fun h => ?_, fun h => ?_⟩
  · obtain ⟨b2, k4, k5⟩ := k3 h
    refine vd_one (vd_not ?_)
    refine vd_isi C (T := "bool") (by walk_at "at") (by walk_at "at") ?_
    walk_at "v"
    refine ⟨b2, k4, b2, rfl, ?_⟩
    show W (.bool (!b2))
    rw [← k5]
    exact w
  · show W (.bool false)
    rw [← k2 h]
    exact w
def isTupD (n : Int) : D → Bool
  | .tuple ds => decide ((ds.length : Int) = n)
  | _ => false
/-- what isinstance tells of a tuple -/
theorem kit_tup {d : D} (nd : noDi d) : (∃ ds, d = .tuple ds ∧ kitB (tyN d) "tuple" = some true) ∨ (kitB (tyN d) "tuple" = some false ∧ ∀ ds, d ≠ .tuple ds) := by
  cases d with
  | none => exact .inr ⟨by decide +kernel, fun ds h => by cases h⟩
  | bool b => exact .inr ⟨by show kitB "bool" "tuple" = some false; decide +kernel, fun ds h => by cases h⟩
  | int i => exact .inr ⟨by show kitB "int" "tuple" = some false; decide +kernel, fun ds h => by cases h⟩
  | str z => exact .inr ⟨by show kitB "str" "tuple" = some false; decide +kernel, fun ds h => by cases h⟩
  | list l => exact .inr ⟨by show kitB "list" "tuple" = some false; decide +kernel, fun ds h => by cases h⟩
  | tuple l => exact .inl ⟨l, rfl, by show kitB "tuple" "tuple" = some true; decide +kernel⟩
  | dict l => exact absurd rfl (nd l)
theorem kit_str {d : D} (nd : noDi d) : (∃ z, d = .str z ∧ kitB (tyN d) "str" = some true) ∨ (kitB (tyN d) "str" = some false ∧ ∀ z, d ≠ .str z) := by
  cases d with
  | none => exact .inr ⟨by decide +kernel, fun ds h => by cases h⟩
  | bool b => exact .inr ⟨by show kitB "bool" "str" = some false; decide +kernel, fun ds h => by cases h⟩
  | int i => exact .inr ⟨by show kitB "int" "str" = some false; decide +kernel, fun ds h => by cases h⟩
  | str z => exact .inl ⟨z, rfl, by show kitB "str" "str" = some true; decide +kernel⟩
  | list l => exact .inr ⟨by show kitB "list" "str" = some false; decide +kernel, fun ds h => by cases h⟩
  | tuple l => exact .inr ⟨by show kitB "tuple" "str" = some false; decide +kernel, fun ds h => by cases h⟩
  | dict l => exact absurd rfl (nd l)
theorem isTup_of {n : Int} {d : D} (h : ∀ ds, d ≠ .tuple ds) : isTupD n d = false := by
  cases d with
  | tuple l => exact absurd rfl (h l)
  | _ => rfl
def SIsTupA : List D → (D → Prop) → Prop := fun ds W => ∃ d n, ds = [d, .int n] ∧ noDi d ∧ W (.bool (isTupD n d))
theorem fIsTupA {M : Md} {f : Addr} {fd : FuncData} (ms : M.mg "isinstance" = none) (mt : M.mg "tuple" = none) (ml : M.mg "len" = none)
    (F : Fun M.K "is_tuple" "is_tuple" sIsTuple f fd) (hm : M.mg "is_tuple" = some (.ref f)) (b : L2.Binds M.K fd ["thing", "size"] []) : FnD M 1 "is_tuple" 2 SIsTupA := by
  refine fnD_mk (k := 0) (NK := nkIsTuple) (G := gIsTuple) F scIsTuple hm b rfl (by decide +kernel) rfl (by decide) fun X C ds W hl hS => ?_
  obtain ⟨d, n, rfl, nd, w⟩ := hS
  show VSs X _ [.dat d, .dat (.int n)] _
  walk_at "v"
  walk_at "v"
  refine vd_and ?_
  refine vd_isi C (T := "tuple") (by walk_at "at") (by walk_at "at") ?_
  walk_at "v"
  rcases kit_tup nd with ⟨es, rfl, k1⟩ | ⟨k1, k2⟩
  · refine ⟨true, k1, true, rfl, fun _ => ?_, fun h => by cases h⟩
    refine vd_one ?_
    walk_at "v"
    walk_at "v"
    walk_at "v"
    walk_at "v"
    walk_at "v"
    refine ⟨es, .inr rfl, ?_⟩
    walk_at "v"
    exact w
  · refine ⟨false, k1, false, rfl, fun h => (by cases h), fun _ => ?_⟩
    show W (.bool false)
    rw [← isTup_of (n := n) k2]
    exact w
def wholeD (lo hi : Int) : D → Bool
  | .int i => decide (lo ≤ i) && decide (i ≤ hi)
  | _ => false
theorem whole_of {lo hi : Int} {d : D} (h : isIntD d = false) : wholeD lo hi d = false := by
  cases d with
  | int i => cases h
  | _ => rfl
def SWholeA : List D → (D → Prop) → Prop := fun ds W => ∃ d lo hi, ds = [d, .int lo, .int hi] ∧ noDi d ∧ W (.bool (wholeD lo hi d))
theorem fWholeA {M : Md} {f : Addr} {fd : FuncData} (FI : FnD M 1 "is_int" 1 SIsIntA)
    (F : Fun M.K "is_whole_number" "is_whole_number" sIsWholeNumber f fd) (hm : M.mg "is_whole_number" = some (.ref f)) (b : L2.Binds M.K fd ["thing", "least", "most"] []) : FnD M 2 "is_whole_number" 3 SWholeA := by
  refine fnD_mk (k := 1) (NK := nkIsWholeNumber) (G := gIsWholeNumber) F scIsWholeNumber hm b rfl (by decide +kernel) rfl (by decide) fun X C ds W hl hS => ?_
  obtain ⟨d, lo, hi, rfl, nd, w⟩ := hS
  show VSs X _ [.dat d, .dat (.int lo), .dat (.int hi)] _
  walk_at "v"
  walk_at "v"
  refine vd_and ?_
  refine vd_call C FI (by walk_at "at") ?_
  walk_at "vv"
  refine ⟨rfl, d, rfl, nd, isIntD d, rfl, fun h => ?_, fun h => ?_⟩
  · cases d with
    | int i =>
      refine vd_one (vd_chain C ?_)
      walk_at "vv"
      show _ ∧ _
      refine ⟨fun h1 => ?_, fun h1 => ?_⟩
      · have h1' := of_decide_eq_true h1
        walk_at "vv"
        show W (.bool (decide (i ≤ hi)))
        have e : wholeD lo hi (.int i) = decide (i ≤ hi) := by
          show (decide (lo ≤ i) && decide (i ≤ hi)) = _
          rw [decide_eq_true h1', Bool.true_and]
        rw [← e]
        exact w
      · have h1' := of_decide_eq_false h1
        show W (.bool false)
        have e : wholeD lo hi (.int i) = false := by
          show (decide (lo ≤ i) && decide (i ≤ hi)) = _
          rw [decide_eq_false h1', Bool.false_and]
        rw [← e]
        exact w
    | _ => cases h
  · show W (.bool false)
    rw [← whole_of (lo := lo) (hi := hi) h]
    exact w


open PySem PySem.Spec PyProof.Rows L2 Vc
/-! ### is_fraction, is_name, is_bound of anything -/
mutual
/-- no dict within; short texts, short rows -/
def okD : D → Bool
  | .dict _ => false
  | .str z => decide (z.length ≤ 1000)
  | .list ds => decide (ds.length ≤ 1000) && okDs ds
  | .tuple ds => decide (ds.length ≤ 1000) && okDs ds
  | _ => true
def okDs : List D → Bool
  | [] => true
  | d :: ds => okD d && okDs ds
end
theorem okDs_mem : ∀ {ds : List D}, okDs ds = true → ∀ d ∈ ds, okD d = true
  | [], _, d, h => by cases h
  | e :: ds, q, d, h => by
    unfold okDs at q
    rw [Bool.and_eq_true] at q
    rcases List.mem_cons.mp h with rfl | h
    · exact q.1
    · exact okDs_mem q.2 d h
theorem ok_no {d : D} (h : okD d = true) : noDi d := fun x e => by
  subst e
  exact Bool.false_ne_true h
theorem ok_tup {ds : List D} (h : okD (.tuple ds) = true) : ds.length ≤ 1000 ∧ okDs ds = true := by
  unfold okD at h
  rw [Bool.and_eq_true] at h
  exact ⟨of_decide_eq_true h.1, h.2⟩
theorem ok_str {z : Str} (h : okD (.str z) = true) : z.length ≤ 1000 := by
  unfold okD at h
  exact of_decide_eq_true h
theorem isTup_two {d : D} (h : isTupD 2 d = true) : ∃ a b, d = .tuple [a, b] := by
  cases d with
  | tuple ds =>
    have := of_decide_eq_true h
    match ds, this with
    | [a, b], _ => exact ⟨a, b, rfl⟩
    | [], h => simp at h
    | [a], h => simp at h
    | a :: b :: c :: r, h => simp at h; omega
  | _ => cases h
theorem isInt_of {d : D} (h : isIntD d = true) : ∃ i, d = .int i := by
  cases d with
  | int i => exact ⟨i, rfl⟩
  | _ => cases h
def gcdI (a b : Int) : Int := ((Nat.gcd a.natAbs b.natAbs : Nat) : Int)
def fracD : D → Bool
  | .tuple [.int n, .int d] => decide (0 < d) && decide (gcdI n d = 1)
  | _ => false
theorem frac_tup {d : D} (h : isTupD 2 d = false) : fracD d = false := by
  unfold fracD
  split
  · rename_i n d
    have e : isTupD 2 (.tuple [.int n, .int d]) = true := by
      show decide (((2 : Nat) : Int) = 2) = true
      decide
    rw [e] at h
    cases h
  · rfl
theorem frac_a {a b : D} (h : isIntD a = false) : fracD (.tuple [a, b]) = false := by
  unfold fracD
  split
  · rename_i e
    cases e
    cases h
  · rfl
theorem frac_b {a b : D} (h : isIntD b = false) : fracD (.tuple [a, b]) = false := by
  unfold fracD
  split
  · rename_i e
    cases e
    cases h
  · rfl
def SOk1 (g : D → Bool) : List D → (D → Prop) → Prop := fun ds W => ∃ d, ds = [d] ∧ okD d = true ∧ W (.bool (g d))
theorem ok_two {a b : D} (h : okD (.tuple [a, b]) = true) : okD a = true ∧ okD b = true :=
  ⟨okDs_mem (ok_tup h).2 a (by simp), okDs_mem (ok_tup h).2 b (by simp)⟩
theorem fFracA {M : Md} {f : Addr} {fd : FuncData} (mg_ : M.mg "gcd" = some (.builtin "math.gcd")) (FI : FnD M 1 "is_int" 1 SIsIntA) (FT : FnD M 1 "is_tuple" 2 SIsTupA)
    (F : Fun M.K "is_fraction" "is_fraction" sIsFraction f fd) (hm : M.mg "is_fraction" = some (.ref f)) (b : L2.Binds M.K fd ["thing"] []) : FnD M 2 "is_fraction" 1 (SOk1 fracD) := by
  refine fnD_mk (k := 1) (NK := nkIsFraction) (G := gIsFraction) F scIsFraction hm b rfl (by decide +kernel) rfl (by decide) fun X C ds W hl hS => ?_
  obtain ⟨d, rfl, ok, w⟩ := hS
  show VSs X _ [.dat d] _
  have no : fracD d = false → W (.bool false) := fun h => by rw [← h]; exact w
  refine vss_cons (vs_if (vt_not (vt_w (vw_and (vt_val ?_)))))
  refine vd_call C FT (by walk_at "at") ?_
  walk_at "vv"
  refine ⟨rfl, d, 2, rfl, ok_no ok, isTupD 2 d, rfl, fun h => ?_, fun h => ⟨fun _ => ?_, fun h => (by cases h)⟩⟩
  · obtain ⟨x, y, rfl⟩ := isTup_two h
    obtain ⟨ox, oy⟩ := ok_two ok
    refine vw_and (vt_val ?_)
    refine vd_call C FI (by walk_at "at") ?_
    walk_at "vv"
    refine ⟨x, rfl, ?_⟩
    walk_at "vv"
    refine ⟨rfl, x, rfl, ok_no ox, isIntD x, rfl, fun hx => ?_, fun hx => ⟨fun _ => ?_, fun h => (by cases h)⟩⟩
    · refine vw_and1 (vt_val ?_)
      refine vd_call C FI (by walk_at "at") ?_
      walk_at "vv"
      refine ⟨y, rfl, ?_⟩
      walk_at "vv"
      refine ⟨rfl, y, rfl, ok_no oy, isIntD y, rfl, ?_⟩
      refine ⟨fun hy => ?_, fun hy => ?_⟩
      · have hy' : isIntD y = false := by simpa using hy
        walk_at "vv"
        exact no (frac_b hy')
      · have hy' : isIntD y = true := by simpa using hy
        obtain ⟨i, rfl⟩ := isInt_of hx
        obtain ⟨j, rfl⟩ := isInt_of hy'
        refine vss_nil ?_
        walk_at "v"
        walk_at "v"
        refine vd_and ?_
        walk_at "vv"
        refine ⟨.int j, rfl, ?_⟩
        walk_at "vv"
        refine ⟨_, rfl, fun hj => ?_, fun hj => ?_⟩
        · refine vd_one ?_
          walk_at "v"
          refine vd_callM C does_gcd2 (by walk_at "at") ?_
          walk_at "vv"
          refine ⟨.int i, rfl, ?_⟩
          walk_at "vv"
          refine ⟨.int j, rfl, ?_⟩
          walk_at "vv"
          refine ⟨i, j, rfl, ?_⟩
          walk_at "vv"
          show W (.bool (decide (gcdI i j = 1)))
          have e : fracD (.tuple [.int i, .int j]) = decide (gcdI i j = 1) := by
            show (decide (0 < j) && decide (gcdI i j = 1)) = _
            rw [hj, Bool.true_and]
          rw [← e]
          exact w
        · have e : fracD (.tuple [.int i, .int j]) = false := by
            show (decide (0 < j) && decide (gcdI i j = 1)) = _
            rw [hj, Bool.false_and]
          exact no e
    · walk_at "vv"
      exact no (frac_a hx)
  · walk_at "vv"
    exact no (frac_tup h)

/-! is_name -/
def lettersS : Str := "abcdefghijklmnopqrstuvwxyz"
def signsS : Str := "abcdefghijklmnopqrstuvwxyz0123456789"
def wordsS : List Str := ["bus", "line", "source", "guard", "error", "breaker", "ticks", "over", "reach", "difference", "behind", "forward", "delay", "opens"]
def nameS (z : Str) : Bool := decide (1 ≤ z.length) && (decide (z.length ≤ 8) && ((match z.cps.toList with | c :: _ => decide (c ∈ lettersS.cps.toList) | [] => false) && (z.cps.toList.all (fun c => decide (c ∈ signsS.cps.toList)) && !decide (z ∈ wordsS))))
def nameD : D → Bool
  | .str z => nameS z
  | _ => false
theorem name_of {d : D} (h : ∀ z, d ≠ .str z) : nameD d = false := by
  cases d with
  | str z => exact absurd rfl (h z)
  | _ => rfl
theorem fNameA {M : Md} {f aW : Addr} {fd : FuncData} {t1 t2 t3 : Tok} (ms : M.mg "isinstance" = none) (mt : M.mg "str" = none) (ml : M.mg "len" = none) (ma : M.mg "all" = none) (m8 : M.mg "MOST_SIGNS" = some (.int 8 t1)) (mL : M.mg "LETTERS" = some (.str lettersS t2)) (mS : M.mg "SIGNS" = some (.str signsS t3))
    (mW : M.mg "WORDS" = some (.ref aW)) (dW : ∀ B, Dp M.K B (.ref aW) (.tuple (wordsS.map PyData.str)))
    (F : Fun M.K "is_name" "is_name" sIsName f fd) (hm : M.mg "is_name" = some (.ref f)) (b : L2.Binds M.K fd ["thing"] []) : FnD M 1 "is_name" 1 (SOk1 nameD) := by
  refine fnD_mk (k := 0) (NK := nkIsName) (G := gIsName) F scIsName hm b rfl (by decide +kernel) rfl (by decide) fun X C ds W hl hS => ?_
  obtain ⟨d, rfl, ok, w⟩ := hS
  show VSs X _ [.dat d, .no] _
  have no : nameD d = false → W (.bool false) := fun h => by rw [← h]; exact w
  refine vss_cons (vs_if (vt_not (vt_w (vw_and (vt_val ?_)))))
  refine vd_isi C (T := "str") (by walk_at "at") (by walk_at "at") ?_
  walk_at "v"
  rcases kit_str (ok_no ok) with ⟨z, rfl, k1⟩ | ⟨k1, k2⟩
  · have lz := ok_str ok
    refine ⟨true, k1, true, rfl, fun _ => ?_, fun h => (by cases h)⟩
    refine vw_and (vt_chain C ?_)
    walk_at "v"
    refine vd_callB C (x := "len") does_lenS (by walk_at "at") ?_
    walk_at "vv"
    refine ⟨z, rfl, by omega, ?_⟩
    show _ ∧ _
    have tell : nameD (.str z) = nameS z := rfl
    refine ⟨fun h1 => ?_, fun h1 => ⟨fun h => (by cases h), fun _ => ⟨fun _ => ?_, fun h => (by cases h)⟩⟩⟩
    · have h1' : (1 : Int) ≤ (z.length : Int) := of_decide_eq_true h1
      refine vd_gint C (by walk_at "at") m8 ?_
      show _ ∧ _
      refine ⟨fun h8 => ?_, fun h8 => ⟨fun _ => ?_, fun h => (by cases h)⟩⟩
      · have h8' : (z.length : Int) ≤ 8 := of_decide_eq_true h8
        refine vw_and1 (vt_inSg ?_)
        have hp : 0 < z.cps.toList.length := by
          have e : z.length = z.cps.toList.length := rfl
          omega
        cases hz : z.cps.toList with
        | nil =>
          rw [hz] at hp
          simp at hp
        | cons c r =>
          refine vd_ixS ?_
          walk_at "vv"
          refine ⟨z, 0, c, rfl, rfl, by omega, by rw [hz]; unfold atI ixN; rw [if_pos (by decide), if_pos (by rw [List.length_cons]; omega)]; rfl, ?_⟩
          refine vd_gstr C (by walk_at "at") mL ?_
          refine ⟨c, lettersS, rfl, rfl, ?_⟩
          have nm : nameS z = (decide (c ∈ lettersS.cps.toList) && (z.cps.toList.all (fun c => decide (c ∈ signsS.cps.toList)) && !decide (z ∈ wordsS))) := by
            unfold nameS
            rw [decide_eq_true (show 1 ≤ z.length by omega), decide_eq_true (show z.length ≤ 8 by omega), Bool.true_and, Bool.true_and, hz]
          refine ⟨fun hc => ?_, fun hc => ?_⟩
          · have hc' : decide (c ∈ lettersS.cps.toList) = false := by simpa using hc
            walk_at "vv"
            refine no ?_
            rw [tell, nm, hc', Bool.false_and]
          · have hc' : decide (c ∈ lettersS.cps.toList) = true := by simpa using hc
            refine vss_nil ?_
            walk_at "v"
            walk_at "v"
            refine vd_and ?_
            refine vd_callB C (does_all C) (by walk_at "at") ?_
            refine va_cons (vn_vd ?_)
            refine vn_lc C nkIsName0 gIsName0 (i := 1) (by walk_at "at") ?_
            refine vi_str ?_
            walk_at "v"
            refine ⟨z, rfl, by show (z.cps.toList.map _).length ≤ 100000; rw [List.length_map]; have e : z.length = z.cps.toList.length := rfl; omega, fun j acc ρ' => acc = ((z.cps.toList.take j).map fun c => decide (c ∈ signsS.cps.toList)).map PyData.bool ∧ ρ' = [.dat (.str z), .no], ⟨rfl, rfl⟩, fun j d acc ρ' hj hW X' C' => ?_, fun acc ρ' hW => ?_⟩
            · obtain ⟨rfl, rfl⟩ := hW
              unfold sgs at hj
              rw [List.getElem?_map] at hj
              cases hcj : z.cps.toList[j]? with
              | none =>
                rw [hcj] at hj
                cases hj
              | some cj =>
                rw [hcj] at hj
                cases hj
                refine vd_inSg ?_
                walk_at "v"
                refine vd_gstr C' (by walk_at "at") mS ?_
                refine ⟨cj, signsS, rfl, rfl, ?_, rfl⟩
                obtain ⟨hjl, hje⟩ := List.getElem?_eq_some_iff.mp hcj
                rw [List.take_succ, hcj, List.map_append, List.map_append]
                rfl
            · obtain ⟨rfl, rfl⟩ := hW
              refine va_nil ?_
              refine ⟨_, rfl, ?_⟩
              have el : z.cps.toList.take (sgs z).length = z.cps.toList := by
                unfold sgs
                rw [List.length_map, List.take_length]
              rw [el]
              have ea : ((z.cps.toList.map fun c => decide (c ∈ signsS.cps.toList)).all id) = z.cps.toList.all (fun c => decide (c ∈ signsS.cps.toList)) := by
                rw [List.all_map]
                rfl
              rw [ea]
              refine ⟨_, rfl, fun ha => ?_, fun ha => ?_⟩
              · refine vd_one (vd_notInTx ?_)
                walk_at "v"
                refine vd_gtup C (by walk_at "at") mW dW ?_
                refine ⟨z, wordsS, rfl, .inl rfl, ?_⟩
                show W (.bool (!decide (z ∈ wordsS)))
                have e : nameD (.str z) = !decide (z ∈ wordsS) := by
                  rw [tell, nm, hc', ha, Bool.true_and, Bool.true_and]
                rw [← e]
                exact w
              · refine no ?_
                rw [tell, nm, hc', ha, Bool.true_and, Bool.false_and]
      · walk_at "vv"
        refine no ?_
        have h8' : ¬ (z.length : Int) ≤ 8 := of_decide_eq_false h8
        rw [tell]
        unfold nameS
        rw [decide_eq_false (show ¬ z.length ≤ 8 by omega), Bool.false_and, Bool.and_false]
    · walk_at "vv"
      refine no ?_
      have h1' : ¬ (1 : Int) ≤ (z.length : Int) := of_decide_eq_false h1
      rw [tell]
      unfold nameS
      rw [decide_eq_false (show ¬ 1 ≤ z.length by omega), Bool.false_and]
  · refine ⟨false, k1, false, rfl, fun h => (by cases h), fun h => ⟨fun _ => ?_, fun h => (by cases h)⟩⟩
    walk_at "vv"
    exact no (name_of k2)


open PySem PySem.Spec PyProof.Rows L2 Vc
/-! ### names: a dict by texts; is_known, add_name -/
abbrev Nm := List (Str × Str)
def nm (ns : Nm) : List (Str × D) := ns.map fun p => (p.1, PyData.str p.2)
def kindOf (ns : Nm) (z : Str) : Option Str := (ns.find? fun e => decide (e.1 = z)).map (·.2)
theorem getS_nm {z : Str} : ∀ {ns : Nm}, getS (nm ns) z = (kindOf ns z).map PyData.str
  | [] => rfl
  | e :: ns => by
    have ih := getS_nm (z := z) (ns := ns)
    unfold getS kindOf nm at ih ⊢
    rw [List.map_cons, List.find?_cons, List.find?_cons]
    by_cases q : e.1 = z
    · rw [decide_eq_true q]
      rfl
    · rw [decide_eq_false q]
      exact ih
theorem nm_app {ns : Nm} {z k : Str} : nm ns ++ [(z, PyData.str k)] = nm (ns ++ [(z, k)]) := by
  unfold nm
  rw [List.map_append]
  rfl
section
variable {X : Cx} {M : Md} {sc : Scope} {NK : List (Str × Bool × Bool)} {G : List Str} {k : Nat} {ρ : En} {P : D → En → Prop} {pos ps rp : Pos} {a b : Expr} {F : Vc.Fin}
theorem inV_none {K : PySem.W.Frag} {B : Hp} : ∀ {ws : List Str} {vs : List V}, DpAll K B vs (ws.map PyData.str) → inV .non vs = false ∧ vs.all flatV = true
  | [], _, .nil => ⟨rfl, rfl⟩
  | w :: ws, _, .cons (v := v) h hs => by
    obtain ⟨h1, h2⟩ := inV_none (ws := ws) hs
    have hv := dp_str h
    subst hv
    refine ⟨?_, ?_⟩
    · unfold inV at h1 ⊢
      rw [List.any_cons, h1]
      simp [eqV]
    · rw [List.all_cons, h2]
      rfl
/-- a text or None, in a tuple of texts -/
theorem vd_inOp (h : VD X a ρ fun x ρ1 => VD X b ρ1 fun y ρ2 => ∃ (o : Option Str) (ws : List Str), x = (o.map PyData.str).getD .none ∧ y = .tuple (ws.map PyData.str) ∧ P (.bool (match o with | some z => decide (z ∈ ws) | none => false)) ρ2) (hm : behindInMarks .In b = false := by first | exact nobehind _ (by decide) (by decide) | rfl) : VD X (.Compare a [.In] [b] pos) ρ P := VD.mk fun B H σ Q r q => by
  refine PE.sem (pe_cmpR op_in_seq pe_sem pe_sem hm) ?_
  refine h.run B H σ _ r fun vx x B1 H1 ρ1 p1 dx g1 r1 => ?_
  refine p1.run B1 H1 σ _ r1 fun vy y B2 H2 ρ2 p2 dy g2 r2 => ?_
  obtain ⟨o, ws, rfl, rfl, pp⟩ := p2
  obtain ⟨t, vs, rfl, hT, hv⟩ := dp_tup dy
  cases o with
  | some z =>
    have dx' := dp_str dx
    subst dx'
    obtain ⟨e1, e2⟩ := inV_strs (x := z) hv
    refine ⟨t, vs, rfl, .inr (ex_t r2.ex hT), rfl, e2, ?_⟩
    rw [if_neg Bool.false_ne_true, e1]
    exact q _ _ B2 H2 ρ2 pp (.bl _) (g1.trans g2) r2
  | none =>
    cases dx
    obtain ⟨e1, e2⟩ := inV_none hv
    refine ⟨t, vs, rfl, .inr (ex_t r2.ex hT), rfl, e2, ?_⟩
    rw [if_neg Bool.false_ne_true, e1]
    exact q _ _ B2 H2 ρ2 pp (.bl _) (g1.trans g2) r2
/-- raise BadNet(a, b) -/
theorem vs_raiseN (C : Cst X M sc NK G k) {CN GN fI : Addr} {i : Nat} (T : NetTxt M.prog M.K M.mg CN GN fI) (hg : At G i "BadNet")
    (h : VA X [a, b] ρ fun ds ρ1 => ∃ x y : Str, ds = [.str x, .str y] ∧ x.length ≤ 100000 ∧ y.length ≤ 100000 ∧ F.ex (.ref CN) ρ1)
    (he : starEach [a, b] X.env = (false, eval a X.env) :: starEach [b] X.env := by rfl) (hpl : (backTo ps (starEach [b] X.env)).any (·.1) = false := by rfl) :
    VS X (.Raise (some (.Call (.Name "BadNet" pos) [a, b] [] ps)) none rp) ρ F := by
  have eM := C.m
  subst eM
  refine vs_raise C (pmk_net T C.room pa_sem (C.g hg) he hpl) fun B H σ Q r q => ?_
  refine h.run B H σ _ r fun vs ds B1 H1 ρ1 p1 dvs g1 r1 => ?_
  obtain ⟨x, y, rfl, lx, ly, pp⟩ := p1
  cases dvs with
  | cons h1 h2 =>
    cases h2 with
    | cons h2 h3 =>
      cases h3
      have e1 := dp_str h1
      have e2 := dp_str h2
      subst e1 e2
      exact ⟨x, y, rfl, lx, ly, fun d => q (Er.ref CN) _ B1 H1 ρ1 pp erOk_none g1 r1⟩
end
def knownD (ns : Nm) (ks : List Str) : D → Bool
  | .str z => match kindOf ns z with
    | some k => decide (k ∈ ks)
    | none => false
  | _ => false
theorem known_of {ns : Nm} {ks : List Str} {d : D} (h : ∀ z, d ≠ .str z) : knownD ns ks d = false := by
  cases d with
  | str z => exact absurd rfl (h z)
  | _ => rfl
def SKnown : SX := fun as W WX => ∃ p ns d ks, as = [.own p (.dt (nm ns)), .dat d, .dat (.tuple (ks.map PyData.str))] ∧ okD d = true ∧ W (.bool (knownD ns ks d)) as
theorem fKnown {M : Md} {f : Addr} {fd : FuncData} (ms : M.mg "isinstance" = none) (mt : M.mg "str" = none)
    (F : Fun M.K "is_known" "is_known" sIsKnown f fd) (hm : M.mg "is_known" = some (.ref f)) : FnV M 1 "is_known" 2 SKnown := by
  refine fnV_mk (ps := ["names", "thing"]) (pv := "kinds") (k := 0) (NK := nkIsKnown) (G := gIsKnown) F scIsKnown hm ?_ rfl (by decide +kernel) rfl (by decide) fun X C as W WX hl hS => ?_
  · intro kV doc pm cdv ct an us rest hl
    match us, hl with
    | [u1, u2], _ =>
      match rest with
      | [] => rfl
      | [r1] => rfl
      | r1 :: r2 :: r3 => rfl
  · obtain ⟨p, ns, d, ks, rfl, ok, w⟩ := hS
    show VSs X _ [.own p (.dt (nm ns)), .dat d, .dat (.tuple (ks.map PyData.str))] _
    walk_at "v"
    walk_at "v"
    refine vd_and ?_
    refine vd_isi C (T := "str") (by walk_at "at") (by walk_at "at") ?_
    walk_at "v"
    rcases kit_str (ok_no ok) with ⟨z, rfl, k1⟩ | ⟨k1, k2⟩
    · refine ⟨true, k1, true, rfl, fun _ => ?_, fun h => (by cases h)⟩
      refine vd_one (vd_inOp ?_)
      refine vd_getDt C (by walk_at "at") rfl ?_
      walk_at "v"
      refine ⟨z, p, nm ns, rfl, rfl, rfl, ?_⟩
      walk_at "v"
      refine ⟨kindOf ns z, ks, by rw [getS_nm], rfl, ?_⟩
      exact ⟨⟨rfl, trivial⟩, w⟩
    · refine ⟨false, k1, false, rfl, fun h => (by cases h), fun _ => ?_⟩
      rw [known_of k2] at w
      exact ⟨⟨rfl, trivial⟩, w⟩
def addN (ns : Nm) (k : Str) : D → Option Nm
  | .str z => if nameS z = true ∧ kindOf ns z = none then some (ns ++ [(z, k)]) else none
  | _ => none
def SAddN (CN : Addr) : SX := fun as W WX => ∃ p ns d k, as = [.own p (.dt (nm ns)), .dat d, .dat (.str k)] ∧ okD d = true ∧ ns.length ≤ 1000 ∧ k.length ≤ 1000 ∧
  (∀ ns', addN ns k d = some ns' → W .none [.own p (.dt (nm ns')), .dat d, .dat (.str k)]) ∧ (addN ns k d = none → ∀ ns', WX (.ref CN) [.own p (.dt (nm ns')), .dat d, .dat (.str k)])
theorem fAddN {M : Md} {f CN GN fI : Addr} {fd : FuncData} (T : NetTxt M.prog M.K M.mg CN GN fI) (FN : FnD M 1 "is_name" 1 (SOk1 nameD))
    (F : Fun M.K "add_name" "add_name" sAddName f fd) (hm : M.mg "add_name" = some (.ref f)) (b : L2.Binds M.K fd ["names", "thing", "kind"] []) : FnX M 2 "add_name" 3 (SAddN CN) := by
  refine fnX_mk (k := 1) (NK := nkAddName) (G := gAddName) F scAddName hm b rfl (by decide +kernel) rfl (by decide) fun X C as W WX hl hS => ?_
  obtain ⟨p, ns, d, k, rfl, ok, ln, lk, w1, w2⟩ := hS
  show VSs X _ [.own p (.dt (nm ns)), .dat d, .dat (.str k)] _
  refine vss_cons (vs_if (vt_not (vt_val ?_)))
  refine vd_call C FN (by walk_at "at") ?_
  walk_at "vv"
  refine ⟨rfl, d, rfl, ok, nameD d, rfl, ?_⟩
  refine ⟨fun h => ?_, fun h => ?_⟩
  · have h' : nameD d = false := by simpa using h
    refine vss_one (vs_raiseN C T (by walk_at "at") ?_)
    walk_at "vv"
    refine ⟨k, "no name", rfl, by omega, by decide, ⟨rfl, trivial⟩, w2 ?_ ns⟩
    cases d with
    | str z =>
      show (if nameS z = true ∧ _ then _ else _) = _
      rw [if_neg fun q => by rw [show nameS z = false from h'] at q; exact Bool.false_ne_true q.1]
    | _ => rfl
  · have h' : nameD d = true := by simpa using h
    cases d with
    | str z =>
      have hz : nameS z = true := h'
      refine vss_nil ?_
      refine vss_cons (vs_if (vt_inDt C (by walk_at "at") ?_))
      walk_at "v"
      refine ⟨z, p, nm ns, rfl, rfl, ?_⟩
      rw [getS_nm]
      refine ⟨fun h => ?_, fun h => ?_⟩
      · refine vss_one (vs_raiseN C T (by walk_at "at") ?_)
        walk_at "vv"
        have lz := ok_str ok
        refine ⟨z, "told twice", rfl, by omega, by decide, ⟨rfl, trivial⟩, w2 ?_ ns⟩
        show (if nameS z = true ∧ _ then _ else _) = _
        rw [if_neg fun q => by rw [q.2] at h; cases h]
      · have hn : kindOf ns z = none := by
          cases e : kindOf ns z with
          | none => rfl
          | some x => rw [e] at h; cases h
        refine vss_nil ?_
        refine vss_one (vs_putDt C (by walk_at "at") rfl ?_)
        walk_at "v"
        walk_at "v"
        refine ⟨z, nm ns, rfl, rfl, by rw [getS_nm, hn]; rfl, by unfold nm; rw [List.length_map]; omega, ?_⟩
        rw [nm_app]
        refine ⟨⟨rfl, trivial⟩, w1 _ ?_⟩
        show (if nameS z = true ∧ _ then _ else _) = _
        rw [if_pos ⟨hz, hn⟩]
    | _ => cases h'

end K7

/-! Vc, part V: comprehensions over pairs (zip, enumerate); truth of a tuple; f-texts. -/
namespace Vc
open PySem PySem.Spec PyProof.Rows L2
open Evl (Ex)
/-- the i-th pair, in a tuple that is there or made anew -/
def YieldsP (K : PySem.W.Frag) (J : It) (B : Hp) (ds : List (D × D)) : Prop := ∀ (i : Nat) (B1 H1 : Hp), Ex B B1 → Ex B1 H1 →
  (i < ds.length → J.go i H1 ∧ ∀ x H', J.yld i H1 x H' → ∃ T x1 x2 d1 d2, x = V.ref T ∧ ((H' = H1 ∧ SqT K B1 T [x1, x2]) ∨ (H1 T = none ∧ H' = upd H1 T (.tup [x1, x2]))) ∧ ds[i]? = some (d1, d2) ∧ Dp K B1 x1 d1 ∧ Dp K B1 x2 d2) ∧ (ds.length ≤ i → J.stop i H1)
structure VP (X : Cx) (tg iter : Expr) (ρ : En) (P : List (D × D) → En → Prop) : Prop where
  run : ∀ B H σ (R : It → Hp → Prop), Rel (kwOf X) B H σ ρ →
  (∀ J ds B' H' ρ', P ds ρ' → YieldsP X.K J B' ds → Go B H ρ B' H' ρ' → Rel (kwOf X) B' H' σ ρ' → R J H') → iSemI X tg iter σ H R
def t2 (i1 i2 : Nat) : TGs := fun vs σ H Q => ∃ v w, vs = [v, w] ∧ Q ((σ.set i1 (some v)).set i2 (some w)) H
section
variable {X : Cx} {M : Md} {sc : Scope} {NK : List (Str × Bool × Bool)} {G : List Str} {k : Nat} {ρ : En} {P : D → En → Prop} {PB : Bool → En → Prop} {PL : List D → En → Prop} {PP : List (D × D) → En → Prop} {pos : Pos} {e a b tg : Expr} {x y : Str}
theorem set_none2 {σ : L2.St} {i1 i2 : Nat} {u v : Option V} (h : i1 ≠ i2) : wipe (((wipe σ [i1, i2]).set i1 u).set i2 v) [i1, i2] = wipe σ [i1, i2] := by
  show (((((σ.set i2 none).set i1 none).set i1 u).set i2 v).set i2 none).set i1 none = (σ.set i2 none).set i1 none
  have e : ∀ τ : L2.St, (((τ.set i1 u).set i2 v).set i2 none).set i1 none = (τ.set i2 none).set i1 none := fun τ => by
    rw [List.set_set, List.set_comm _ _ h, List.set_set]
  rw [e, List.set_comm _ _ h, List.set_set, List.set_set]
theorem lc_read2 {B H : Hp} {σ : L2.St} {Q : VK} {scope : Scope} {i1 i2 : Nat} {elt iter : Expr} {Cb : Cx → Prop} (ne : i1 ≠ i2) (r : Rel (kwOf X) B H σ ρ)
    (cb : ∀ (s : Shared) (H : Hp) (Ca : Addr) (cl : List (Str × Addr)) (fp : List Addr), Cb (X.blk s H scope (compEnvC scope cl Ca X.env) fp))
    (h : VP X tg iter ρ fun ds ρ1 => ds.length ≤ 100000 ∧ ∃ W : Nat → List D → En → Prop, W 0 [] ρ1 ∧
      (∀ (j : Nat) d1 d2 acc ρ', ds[j]? = some (d1, d2) → W j acc ρ' → ∀ X', Cb X' → VD X' elt ((ρ'.set i1 (.dat d1)).set i2 (.dat d2)) fun u ρ4 => W (j + 1) (acc ++ [u]) ((ρ4.set i1 .no).set i2 .no)) ∧
      ∀ acc ρ', W ds.length acc ρ' → PL acc ρ')
    (q : ∀ p vs ds B' H' ρ', PL ds ρ' → H p = none → H' p = some (.lst vs) → B' p = none → ¬ Own ρ' p → DpAll X.K B' vs ds → Go B H ρ B' H' ρ' → Rel (kwOf X) B' H' σ ρ' → Q (.ref p) H') :
    tLc (iSemI X tg iter) (gTup X.K 2 (t2 i1 i2)) tYes (uSem X scope elt) [i1, i2] σ H Q := by
  refine h.run B H σ _ r fun J ds B1 H1 ρ1 p1 yl g1 r1 Dl hD => ?_
  obtain ⟨hlen, W, w0, step, done⟩ := p1
  have bD : B1 Dl = none := by
    cases e : B1 Dl with
    | none => rfl
    | some u =>
      rw [r1.ex Dl u e] at hD
      cases hD
  have nD : ¬ Own ρ1 Dl := fun ⟨j, es, hj⟩ => by
    obtain ⟨_, _, ws, h7, _⟩ := r1.own j Dl es hj
    rw [hD] at h7
    cases h7
  refine ⟨fun j m H' => m = ds.length - j ∧ j ≤ ds.length ∧ ∃ acc vs B' ρ', W j acc ρ' ∧ acc.length = j ∧ H' Dl = some (.lst vs) ∧ B' Dl = none ∧ ¬ Own ρ' Dl ∧ DpAll X.K B' vs acc ∧ Go B1 H1 ρ1 B' H' ρ' ∧ Rel (kwOf X) B' H' σ ρ', ⟨ds.length, by omega, by omega, [], [], B1, ρ1, w0, rfl, upd_same, bD, nD, .nil, (acc_put Go.refl r1 hD bD nD).1, (acc_put Go.refl r1 hD bD nD).2⟩, ?_⟩
  rintro j m H' ⟨rfl, hj, acc, vs, B', ρ', w, hacc, hl, bl, nl, dacc, g, r'⟩
  obtain ⟨y1, y2⟩ := yl j B' H' g.ex r'.ex
  by_cases hlt : j < ds.length
  · obtain ⟨go, yy⟩ := y1 hlt
    refine .inr ⟨go, fun H2 => ∃ acc vs B' ρ', W (j + 1) acc ρ' ∧ acc.length = j + 1 ∧ H2 Dl = some (.lst vs) ∧ B' Dl = none ∧ ¬ Own ρ' Dl ∧ DpAll X.K B' vs acc ∧ Go B1 H1 ρ1 B' H2 ρ' ∧ Rel (kwOf X) B' H2 σ ρ', fun H2 hN2 => ⟨ds.length - (j + 1), by omega, rfl, hlt, hN2⟩, fun x H2 hy2 => ?_⟩
    obtain ⟨T, x1, x2, d1, d2, rfl, alt, hd, dx1, dx2⟩ := yy x H2 hy2
    have st := step j d1 d2 acc ρ' hd w
    -- the pair, old or new
    obtain ⟨B2, r2, g2, sq, hl2, bl2⟩ : ∃ B2, Rel (kwOf X) B2 H2 σ ρ' ∧ Go B' H' ρ' B2 H2 ρ' ∧ SqT X.K B2 T [x1, x2] ∧ H2 Dl = some (.lst vs) ∧ B2 Dl = none := by
      rcases alt with ⟨rfl, sq⟩ | ⟨hT, rfl⟩
      · exact ⟨B', r', Go.refl, sq, hl, bl⟩
      · obtain ⟨r2, g2⟩ := new_both (o := .tup [x1, x2]) r' hT
        have nT : Dl ≠ T := fun e => by
          rw [e, hT] at hl
          cases hl
        exact ⟨_, r2, g2, .inl (.inl upd_same), by rw [upd_ne nT]; exact hl, by rw [upd_ne nT]; exact bl⟩
    have dy1 := Dp.mono g2.ex dx1
    have dy2 := Dp.mono g2.ex dx2
    refine ⟨T, [x1, x2], rfl, ex_t r2.ex sq, rfl, x1, x2, rfl, ?_⟩
    have rw1 : Rel (kwOf X) B2 H2 (((wipe σ [i1, i2]).set i1 (some x1)).set i2 (some x2)) ((ρ'.set i1 (.dat d1)).set i2 (.dat d2)) := by
      have a1 : Rel (kwOf X) B2 H2 (σ.set i2 none) (ρ'.set i2 .no) := rel_no r2 (by rw [List.set_set])
      have a2 : Rel (kwOf X) B2 H2 ((σ.set i2 none).set i1 none) ((ρ'.set i2 .no).set i1 .no) := rel_no a1 (by rw [List.set_set])
      have a3 := rel_set (i := i2) (rel_set (i := i1) a2 dy1) dy2
      have e3 : ((((ρ'.set i2 Sl.no).set i1 Sl.no).set i1 (Sl.dat d1)).set i2 (Sl.dat d2)) = (ρ'.set i1 (.dat d1)).set i2 (.dat d2) := by
        rw [List.set_set, List.set_comm _ _ ne, List.set_set, List.set_comm _ _ ne]
      rw [e3] at a3
      exact a3
    refine ⟨set_none2 ne, fun s0 H0 Ca cl fp => ?_⟩
    have vd := st _ (cb s0 H0 Ca cl fp)
    refine vd.run B2 H2 _ _ rw1 fun u du B4 H4 ρ4 p4 dv g4 r4 => ?_
    have gA : Go B1 H1 ρ1 B4 H4 ρ4 := (((g.trans g2).trans go_set).trans go_set).trans g4
    have nl2 : ¬ Own ((ρ'.set i1 (.dat d1)).set i2 (.dat d2)) Dl := fun z => nl (own_set (own_set z))
    have hD4 : H4 Dl = some (.lst vs) := g4.keep Dl _ hl2 nl2
    have bD4 : B4 Dl = none := g4.out Dl (by rw [hl2]; exact fun z => by cases z) bl2 nl2
    have nD4 : ¬ Own ρ4 Dl := fun z => (g4.own Dl z).elim nl2 fun e => by rw [hl2] at e; cases e
    have rS : Rel (kwOf X) B4 H4 σ ((ρ4.set i1 .no).set i2 .no) := by
      have a1 : Rel (kwOf X) B4 H4 (σ.set i2 (some x2)) (ρ4.set i1 .no) := rel_no r4 (by
        show ((((σ.set i2 none).set i1 none).set i1 (some x1)).set i2 (some x2)).set i1 none = (σ.set i2 (some x2)).set i1 none
        rw [List.set_set, List.set_comm _ _ ne.symm, List.set_set, List.set_comm _ _ ne, List.set_set])
      exact rel_no a1 (by rw [List.set_set])
    have gS : Go B1 H1 ρ1 B4 H4 ((ρ4.set i1 .no).set i2 .no) := (gA.trans go_no).trans go_no
    have nS : ¬ Own ((ρ4.set i1 .no).set i2 .no) Dl := fun z => nD4 (own_no (own_no z))
    obtain ⟨gF, rF⟩ := acc_put (o := .lst (vs ++ [u])) gS rS hD bD4 nS
    refine ⟨vs, hD4, ?_, acc ++ [du], vs ++ [u], B4, (ρ4.set i1 .no).set i2 .no, p4, by rw [List.length_append, hacc]; rfl, upd_same, bD4, nS, DpAll.app (DpAll.mono g4.ex (DpAll.mono g2.ex dacc)) (.cons dv .nil), gF, rF⟩
    rw [DpAll.len dacc, hacc]
    exact Nat.lt_of_lt_of_le hlt (Nat.le_trans hlen (by decide))
  · have e : j = ds.length := by omega
    subst e
    exact .inl ⟨y2 (Nat.le_refl _), q Dl vs acc B' H' ρ' (done acc ρ' w) (g1.dom Dl hD) hl bl nl dacc (g1.trans g) r'⟩
/-- [elt for y1, y2 in iter] -/
theorem vn_lc2 (C : Cst X M sc NK G k) {scope : Scope} {i1 i2 : Nat} {y1 y2 : Str} {p1 p2 tpos : Pos} {kk : Nat} {elt iter : Expr} {v1 v2 : Bool} (NK' : List (Str × Bool × Bool)) (G' : List Str) (h1 : At NK' i1 (y1, v1, true)) (h2 : At NK' i2 (y2, v2, true)) (ne : i1 ≠ i2)
    (h : VP X (.Tuple [.Name y1 p1, .Name y2 p2] kk tpos) iter ρ fun ds ρ1 => ds.length ≤ 100000 ∧ ∃ W : Nat → List D → En → Prop, W 0 [] ρ1 ∧
      (∀ (j : Nat) d1 d2 acc ρ', ds[j]? = some (d1, d2) → W j acc ρ' → ∀ X', Cst X' M (relS scope sc) NK' G' k → VD X' elt ((ρ'.set i1 (.dat d1)).set i2 (.dat d2)) fun u ρ4 => W (j + 1) (acc ++ [u]) ((ρ4.set i1 .no).set i2 .no)) ∧
      ∀ acc ρ', W ds.length acc ρ' → PL acc ρ')
    (ok : blkC (NK.map (·.1)) sc scope [(y1, i1), (y2, i2)] = true := by decide +kernel) (hN : NK'.map (·.1) = NK.map (·.1) := by rfl) (hc : chk (relS scope sc) false NK' G' = true := by decide +kernel)
    (hs : ∀ x, foldedSetIterable iter X.env x = pure x := by intro _; rfl) : VN X (.ListComp elt [⟨.Tuple [.Name y1 p1, .Name y2 p2] kk tpos, iter, [], 0⟩] scope pos) ρ PL := VN.mk fun B H σ Q r q => by
  have ok' : BlkOk X.N X.env.scope scope [(y1, i1), (y2, i2)] := by
    rw [C.n, C.s]
    exact blkOk_by ok
  have cb : ∀ (s : Shared) (H : Hp) (Ca : Addr) (cl : List (Str × Addr)) (fp : List Addr), Cst (X.blk s H scope (compEnvC scope cl Ca X.env) fp) M (relS scope sc) NK' G' k := fun s H Ca cl fp => cst_blk C hN hc
  have tg2 : ∀ (s : Shared) (H : Hp) (Ca : Addr) (cl : List (Str × Addr)) (fp : List Addr), PG (X.blk s H scope (compEnvC scope cl Ca X.env) fp) (.Tuple [.Name y1 p1, .Name y2 p2] kk tpos) (gTup X.K 2 (t2 i1 i2)) := fun s H Ca cl fp => by
    have c := cb s H Ca cl fp
    refine pg_tup C.calm ⟨fun pins s' σ' H' vs us Q' I rv hh => ?_⟩
    obtain ⟨v, w, rfl, qq⟩ := hh
    exact (pgs_cons (pg_name c.nd (c.ix h1) (c.lo h1) (c.fn h1)) (pgs_cons (pg_name c.nd (c.ix h2) (c.lo h2) (c.fn h2)) pgs_nil)).run pins s' σ' H' [v, w] us Q' I rv ⟨v, [w], rfl, w, [], rfl, rfl, qq⟩
  exact PE.sem (pe_lc (g := gTup X.K 2 (t2 i1 i2)) (tt := tYes) C.calm C.nd pi_sem ok' tg2 (fun _ _ _ _ _ => pts_nil) pe_uSem hs)
    (lc_read2 (Cb := fun X' => Cst X' M (relS scope sc) NK' G' k) ne r cb h q)
/-- zip(a, b), tuples -/
theorem vp_zip (C : Cst X M sc NK G k) {i kk : Nat} {p tpos : Pos} {elts : List Expr} (hg : At G i "zip") (h : VA X [a, b] ρ fun ds ρ1 => ∃ xs ys, ds = [.tuple xs, .tuple ys] ∧ PP (xs.zip ys) ρ1) (hm : M.mg "zip" = none := by assumption)
    (hs : starEach [a, b] X.env = (false, eval a X.env) :: starEach [b] X.env := by rfl) (hpl : (backTo pos (starEach [b] X.env)).any (·.1) = false := by rfl) : VP X (.Tuple elts kk tpos) (.Call (.Name "zip" p) [a, b] [] pos) ρ PP := VP.mk fun B H σ R r q => by
  refine PI.sem (RZ.pi_zipA (C.g hg) (C.mg hm) pa_sem hs hpl) ?_
  refine h.run B H σ _ r fun vs ds B1 H1 ρ1 p1 dvs g1 r1 => ?_
  obtain ⟨xs, ys, rfl, pp⟩ := p1
  cases dvs with
  | cons h1 h2 =>
    cases h2 with
    | cons h2 h3 =>
      cases h3
      obtain ⟨t, us, rfl, hT, hu⟩ := dp_tup h1
      obtain ⟨t', ws, rfl, hT', hw⟩ := dp_tup h2
      refine ⟨t, t', us, ws, rfl, .inr ⟨ex_t r1.ex hT, ex_t r1.ex hT', q _ (xs.zip ys) B1 H1 ρ1 pp (fun j B2 H2 e1 e2 => ⟨fun hj => ?_, fun hj => ?_⟩) g1 r1⟩⟩
      · rw [List.length_zip] at hj
        have l1 : j < us.length := by rw [DpAll.len hu]; omega
        have l2 : j < ws.length := by rw [DpAll.len hw]; omega
        have s1 := ex_t (e1.trans e2) hT
        have s2 := ex_t (e1.trans e2) hT'
        refine ⟨⟨us, ws, us[j], ws[j], s1, s2, List.getElem?_eq_getElem l1, List.getElem?_eq_getElem l2⟩, fun x H' y => ?_⟩
        obtain ⟨T, x1, x2, rfl, hT0, rfl, f1, f2⟩ := y
        obtain ⟨d1, k1, k2⟩ := DpAll.getV hu (f1 us s1)
        obtain ⟨d2, k3, k4⟩ := DpAll.getV hw (f2 ws s2)
        refine ⟨T, x1, x2, d1, d2, rfl, .inr ⟨hT0, rfl⟩, ?_, Dp.mono e1 k2, Dp.mono e1 k4⟩
        rw [List.getElem?_zip_eq_some]
        exact ⟨k1, k3⟩
      · rw [List.length_zip] at hj
        refine ⟨us, ws, ex_t (e1.trans e2) hT, ex_t (e1.trans e2) hT', ?_⟩
        rw [DpAll.len hu, DpAll.len hw]
        omega
/-- a tuple as a test -/
theorem vt_tup (h : VD X e ρ fun d ρ1 => ∃ ds, d = .tuple ds ∧ PB (!ds.isEmpty) ρ1) (he : ∀ whole, isTrue e X.env whole = (do let v ← whole; standAt e.pos; holding [v] (truthy v)) := by intro _; rfl) : VT X e ρ PB := VT.mk fun B H σ Q r q => by
  refine PT.sem (pt_truth pe_sem he) ?_
  refine h.run B H σ _ r fun v d B1 H1 ρ1 p1 dx g1 r1 => ?_
  obtain ⟨ds, rfl, p⟩ := p1
  obtain ⟨t, vs, rfl, hT, hv⟩ := dp_tup dx
  have e : (!vs.isEmpty) = !ds.isEmpty := by
    cases hv <;> rfl
  exact ⟨_, .inr (.inl ⟨vs, ex_t r1.ex hT, rfl⟩), by rw [e]; exact q _ B1 H1 ρ1 p g1 r1⟩
/-- the pieces of an f-text, behind what stands there -/
structure VJ (X : Cx) (es : List Expr) (acc : Str) (ρ : En) (P : Str → En → Prop) : Prop where
  run : ∀ B H σ (Q : Str → Hp → Prop), Rel (kwOf X) B H σ ρ → (∀ out B' H' ρ', P out ρ' → Go B H ρ B' H' ρ' → Rel (kwOf X) B' H' σ ρ' → Q out H') → tJs (es.map (eSem X)) acc σ H Q
theorem pj_sem : ∀ {es : List Expr}, PJ X es (es.map (eSem X))
  | [] => .nil
  | _ :: _ => .cons pe_sem pj_sem
variable {acc : Str} {PS : Str → En → Prop} {es : List Expr}
theorem vj_nil (h : PS acc ρ) : VJ X [] acc ρ PS := ⟨fun B H σ Q r q => q acc B H ρ h Go.refl r⟩
theorem vj_cons (h : VD X e ρ fun d ρ1 => ∃ y : Str, d = .str y ∧ (acc ++ y).length ≤ 100000 ∧ VJ X es (acc ++ y) ρ1 PS) : VJ X (e :: es) acc ρ PS := ⟨fun B H σ Q r q => by
  refine h.run B H σ _ r fun v d B1 H1 ρ1 p1 dv g1 r1 => ?_
  obtain ⟨y, rfl, hl, pp⟩ := p1
  have sl := sizeLine_eq
  exact ⟨y, dp_str dv, by omega, pp.run B1 H1 σ Q r1 fun out B2 H2 ρ2 p2 g2 r2 => q out B2 H2 ρ2 p2 (g1.trans g2) r2⟩⟩
theorem vd_fs {v1 v2 : Expr} {rest : List Expr} (h : VJ X (v1 :: v2 :: rest) Str.empty ρ fun out ρ1 => P (.str out) ρ1) : VD X (.JoinedStr (v1 :: v2 :: rest) pos) ρ P := VD.mk fun B H σ Q r q =>
  PE.sem (pe_joined pj_sem) (h.run B H σ _ r fun out B1 H1 ρ1 p1 g1 r1 => q _ _ B1 H1 ρ1 p1 (.str out) g1 r1)
theorem vd_fmt (h : VD X e ρ fun d ρ1 => (∃ y : Str, d = .str y ∧ y.length ≤ 100000 ∧ P (.str y) ρ1) ∨ ∃ i : Int, d = .int i ∧ i.natAbs.log2 < 1920 ∧ P (.str (toString i)) ρ1) : VD X (.FormattedValue e (-1) none pos) ρ P := VD.mk fun B H σ Q r q => by
  refine PE.sem (pe_fmt pe_sem) ?_
  refine h.run B H σ _ r fun v d B1 H1 ρ1 p1 dv g1 r1 => ?_
  have sl := sizeLine_eq
  rcases p1 with ⟨y, rfl, hl, pp⟩ | ⟨i, rfl, hl, pp⟩
  · exact .inl ⟨y, dp_str dv, by omega, q _ _ B1 H1 ρ1 pp (.str _) g1 r1⟩
  · exact .inr ⟨i, dp_int dv, hl, q _ _ B1 H1 ρ1 pp (.str _) g1 r1⟩
end
end Vc

namespace K7
open PySem PySem.Spec PyProof.Rows L2 Vc
local macro_rules | `(tactic| walk_at "at") => `(tactic| (repeat (first | with_reducible exact At.here | apply At.there)))
local macro_rules | `(tactic| walk_at "v") => `(tactic| first
  | refine vd_bin ?_
  | (refine vd_name (by assumption) (by walk_at "at") rfl ?_)
  | refine vd_int ?_
  | refine vd_bool ?_
  | refine vd_none ?_
  | refine vd_str ?_
  | refine vd_if ?_
  | (refine vd_neg ?_)
  | refine vd_tup ?_
  | refine va_nil ?_
  | refine va_cons ?_
  | refine vs_ret ?_
  | refine vss_nil ?_
  | refine vss_one ?_
  | refine vss_cons ?_
  | refine vs_if ?_
  | refine vt_cmp (by assumption) ?_
  | refine vs_set (by assumption) (by walk_at "at") ?_
  | refine vd_cmp (by assumption) ?_
  | refine vgs_nil ?_
  | refine vgs_cons ?_
  | refine vg_name (by assumption) (by walk_at "at") ?_
  | (refine vd_callT (x := "int") (by assumption) does_int (by walk_at "at") ?_)
  | (refine vd_callB (x := "len") (by assumption) does_len (by walk_at "at") ?_)
  | (refine vd_callB (x := "abs") (by assumption) does_abs (by walk_at "at") ?_)
  | (refine vd_ixo (by assumption) (by walk_at "at") rfl ?_)
  | refine vd_ix ?_)
local macro_rules | `(tactic| walk_at "sw") => `(tactic| (intro env h; cases env; dsimp only at h; subst h; rfl))
local macro_rules | `(tactic| walk_at "vv") => `(tactic| repeat (walk_at "v"))
/-! ### is_bound, is_breaker -/
theorem frac_shape {d : D} (h : fracD d = true) : ∃ n m : Int, d = .tuple [.int n, .int m] := by
  unfold fracD at h
  split at h
  · exact ⟨_, _, rfl⟩
  · cases h
def boundD (d : D) : Bool := match d with
  | .tuple [.int n, .int m] => fracD (.tuple [.int n, .int m]) && (decide (0 < n) && (decide (n ≤ 1000) && decide (m ≤ 1000)))
  | _ => false
theorem bound_no {d : D} (h : fracD d = false) : boundD d = false := by
  unfold boundD
  split
  · rw [h, Bool.false_and]
  · rfl
theorem fBoundA {M : Md} {f : Addr} {fd : FuncData} {t1 : Tok} (mN : M.mg "MOST_NUMBER" = some (.int 1000 t1)) (FF : FnD M 2 "is_fraction" 1 (SOk1 fracD))
    (F : Fun M.K "is_bound" "is_bound" sIsBound f fd) (hm : M.mg "is_bound" = some (.ref f)) (b : L2.Binds M.K fd ["thing"] []) : FnD M 3 "is_bound" 1 (SOk1 boundD) := by
  refine fnD_mk (k := 2) (NK := nkIsBound) (G := gIsBound) F scIsBound hm b rfl (by decide +kernel) rfl (by decide) fun X C ds W hl hS => ?_
  obtain ⟨d, rfl, ok, w⟩ := hS
  show VSs X _ [.dat d] _
  have no : boundD d = false → W (.bool false) := fun h => by rw [← h]; exact w
  walk_at "v"
  walk_at "v"
  refine vd_and ?_
  refine vd_call C FF (by walk_at "at") ?_
  walk_at "vv"
  refine ⟨rfl, d, rfl, ok, fracD d, rfl, fun h => ?_, fun h => no (bound_no h)⟩
  obtain ⟨n, m, rfl⟩ := frac_shape h
  have e : boundD (.tuple [.int n, .int m]) = (decide (0 < n) && (decide (n ≤ 1000) && decide (m ≤ 1000))) := by
    show (fracD _ && _) = _
    rw [h, Bool.true_and]
  refine vd_and (vd_chain C ?_)
  walk_at "vv"
  refine ⟨.int n, rfl, ?_⟩
  show _ ∧ _
  refine ⟨fun h1 => ?_, fun h1 => ⟨_, rfl, fun h => (by cases h), fun _ => no (by rw [e, h1, Bool.false_and])⟩⟩
  refine vd_gint C (by walk_at "at") mN ?_
  refine ⟨_, rfl, fun h2 => ?_, fun h2 => no (by rw [e, h1, h2, Bool.true_and, Bool.false_and])⟩
  refine vd_one ?_
  walk_at "vv"
  refine ⟨.int m, rfl, ?_⟩
  refine vd_gint C (by walk_at "at") mN ?_
  show W (.bool (decide (m ≤ 1000)))
  have e2 : boundD (.tuple [.int n, .int m]) = decide (m ≤ 1000) := by rw [e, h1, h2, Bool.true_and, Bool.true_and]
  rw [← e2]
  exact w
def breakerD (ns : Nm) (d : D) : Bool := match d with
  | .tuple [x, .int e] => (decide (e ∈ [0, 1]) && knownD ns ["line"] x) || (decide (e = 0) && knownD ns ["source"] x)
  | _ => false
theorem breaker_tup {ns : Nm} {d : D} (h : isTupD 2 d = false) : breakerD ns d = false := by
  unfold breakerD
  split
  · rename_i x e
    have q : isTupD 2 (.tuple [x, .int e]) = true := by
      show decide (((2 : Nat) : Int) = 2) = true
      decide
    rw [q] at h
    cases h
  · rfl
theorem breaker_int {ns : Nm} {x y : D} (h : isIntD y = false) : breakerD ns (.tuple [x, y]) = false := by
  unfold breakerD
  split
  · rename_i e
    cases e
    cases h
  · rfl
def SBreaker (g : Nm → D → Bool) : SX := fun as W WX => ∃ p ns d, as = [.own p (.dt (nm ns)), .dat d] ∧ okD d = true ∧ W (.bool (g ns d)) as
theorem fBreaker {M : Md} {f : Addr} {fd : FuncData} (FT : FnD M 1 "is_tuple" 2 SIsTupA) (FI : FnD M 1 "is_int" 1 SIsIntA) (FK : FnV M 1 "is_known" 2 SKnown)
    (F : Fun M.K "is_breaker" "is_breaker" sIsBreaker f fd) (hm : M.mg "is_breaker" = some (.ref f)) (b : L2.Binds M.K fd ["names", "thing"] []) : FnX M 2 "is_breaker" 2 (SBreaker breakerD) := by
  refine fnX_mk (k := 1) (NK := nkIsBreaker) (G := gIsBreaker) F scIsBreaker hm b rfl (by decide +kernel) rfl (by decide) fun X C as W WX hl hS => ?_
  obtain ⟨p, ns, d, rfl, ok, w⟩ := hS
  show VSs X _ [.own p (.dt (nm ns)), .dat d, .no, .no] _
  have no : breakerD ns d = false → W (.bool false) [.own p (.dt (nm ns)), .dat d] := fun h => by rw [← h]; exact w
  refine vss_cons (vs_if (vt_not (vt_w (vw_and (vt_val ?_)))))
  refine vd_call C FT (by walk_at "at") ?_
  walk_at "vv"
  refine ⟨rfl, d, 2, rfl, ok_no ok, isTupD 2 d, rfl, fun h => ?_, fun h => ⟨fun _ => ?_, fun h => (by cases h)⟩⟩
  · obtain ⟨x, y, rfl⟩ := isTup_two h
    obtain ⟨ox, oy⟩ := ok_two ok
    refine vw_and1 (vt_val ?_)
    refine vd_call C FI (by walk_at "at") ?_
    walk_at "vv"
    refine ⟨y, rfl, ?_⟩
    walk_at "vv"
    refine ⟨rfl, y, rfl, ok_no oy, isIntD y, rfl, ?_⟩
    refine ⟨fun hy => ?_, fun hy => ?_⟩
    · have hy' : isIntD y = false := by simpa using hy
      walk_at "vv"
      exact ⟨⟨rfl, trivial⟩, no (breaker_int hy')⟩
    · have hy' : isIntD y = true := by simpa using hy
      obtain ⟨e, rfl⟩ := isInt_of hy'
      refine vss_nil ?_
      walk_at "v"
      refine vs_asg ?_
      walk_at "v"
      refine vg_tup C ?_
      walk_at "v"
      walk_at "v"
      walk_at "v"
      walk_at "v"
      walk_at "v"
      show VSs X _ [.own p (.dt (nm ns)), .dat (.tuple [x, .int e]), .dat x, .dat (.int e)] _
      have e0 : breakerD ns (.tuple [x, .int e]) = ((decide (e ∈ [0, 1]) && knownD ns ["line"] x) || (decide (e = 0) && knownD ns ["source"] x)) := rfl
      walk_at "v"
      walk_at "v"
      refine vd_or (vd_and ?_)
      walk_at "vv"
      refine ⟨by decide, [0, 1], rfl, _, rfl, fun h1 => ?_, fun h1 => ?_⟩
      · refine vd_one (vd_callV C FK (by walk_at "at") ?_)
        refine vx_own C (by walk_at "at") rfl (vx_cons ?_)
        walk_at "v"
        refine vx_cons (vd_str (vx_nil ?_))
        refine ⟨[.ow 0, .da x], [.str "line"], rfl, rfl, by decide, rfl, ⟨⟨_, _, rfl⟩, trivial⟩, rfl, p, ns, x, ["line"], rfl, ox, ?_⟩
        refine ⟨_, rfl, fun h2 => ?_, fun h2 => ?_⟩
        · refine ⟨⟨rfl, trivial⟩, ?_⟩
          have q : breakerD ns (.tuple [x, .int e]) = true := by rw [e0, h1, h2]; rfl
          rw [← q]
          exact w
        · have q0 : breakerD ns (.tuple [x, .int e]) = (decide (e = 0) && knownD ns ["source"] x) := by rw [e0, h1, h2]; rfl
          refine vd_one (vd_and ?_)
          walk_at "vv"
          refine ⟨_, rfl, fun h3 => ?_, fun h3 => ?_⟩
          · refine vd_one (vd_callV C FK (by walk_at "at") ?_)
            refine vx_own C (by walk_at "at") rfl (vx_cons ?_)
            walk_at "v"
            refine vx_cons (vd_str (vx_nil ?_))
            refine ⟨[.ow 0, .da x], [.str "source"], rfl, rfl, by decide, rfl, ⟨⟨_, _, rfl⟩, trivial⟩, rfl, p, ns, x, ["source"], rfl, ox, ?_⟩
            refine ⟨⟨rfl, trivial⟩, ?_⟩
            rw [h3, Bool.true_and] at q0
            rw [q0] at w
            exact w
          · refine ⟨⟨rfl, trivial⟩, no ?_⟩
            rw [q0, h3, Bool.false_and]
      · have q0 : breakerD ns (.tuple [x, .int e]) = (decide (e = 0) && knownD ns ["source"] x) := by rw [e0, h1]; rfl
        refine ⟨_, rfl, fun h => (by cases h), fun _ => ?_⟩
        refine vd_one (vd_and ?_)
        walk_at "vv"
        refine ⟨_, rfl, fun h3 => ?_, fun h3 => ?_⟩
        · refine vd_one (vd_callV C FK (by walk_at "at") ?_)
          refine vx_own C (by walk_at "at") rfl (vx_cons ?_)
          walk_at "v"
          refine vx_cons (vd_str (vx_nil ?_))
          refine ⟨[.ow 0, .da x], [.str "source"], rfl, rfl, by decide, rfl, ⟨⟨_, _, rfl⟩, trivial⟩, rfl, p, ns, x, ["source"], rfl, ox, ?_⟩
          refine ⟨⟨rfl, trivial⟩, ?_⟩
          rw [h3, Bool.true_and] at q0
          rw [q0] at w
          exact w
        · refine ⟨⟨rfl, trivial⟩, no ?_⟩
          rw [q0, h3, Bool.false_and]
  · walk_at "vv"
    exact ⟨⟨rfl, trivial⟩, no (breaker_tup h)⟩

end K7

/-! Vc, part W: the rest of a tuple. -/
namespace Vc
open PySem PySem.Spec PyProof.Rows L2
open Evl (Ex)
section
variable {X : Cx} {M : Md} {sc : Scope} {NK : List (Str × Bool × Bool)} {G : List Str} {k : Nat} {ρ : En} {P : D → En → Prop} {pos : Pos} {a b : Expr}
/-- t[n:], t a tuple, not the whole of it -/
theorem vd_dropT {p2 : Pos} (h : VD X a ρ fun d ρ1 => VD X b ρ1 fun y ρ2 => ∃ (ds : List D) (n : Nat), d = .tuple ds ∧ y = .int (n : Int) ∧ 1 ≤ n ∧ ds ≠ [] ∧ P (.tuple (ds.drop n)) ρ2) : VD X (.Subscript a (.Slice (some b) none none p2) pos) ρ P := VD.mk fun B H σ Q r q => by
  refine PE.sem (pe_slice sl_tup pe_sem (po_some pe_sem) po_none) ?_
  refine h.run B H σ _ r fun v d B1 H1 ρ1 p1 dv g1 r1 => ?_
  refine p1.run B1 H1 σ _ r1 fun vy y B2 H2 ρ2 p2 dy g2 r2 => ?_
  obtain ⟨ds, n, rfl, rfl, hn, hne, p⟩ := p2
  obtain ⟨t, vs, rfl, hT, hv⟩ := dp_tup dv
  have lp : 0 < vs.length := by
    rw [DpAll.len hv]
    cases ds with
    | nil => exact absurd rfl hne
    | cons _ _ => exact Nat.succ_pos _
  refine ⟨(n : Int), dp_int dy, t, vs, rfl, ex_t (g2.ex.trans r2.ex) hT, fun z => ?_, fun z hz => ?_⟩
  · have z1 := z.1
    rw [HT.sIx_nat] at z1
    omega
  · rw [cut_drop]
    obtain ⟨r3, g3⟩ := new_both (o := .tup (vs.drop n)) r2 hz
    exact q _ _ _ _ ρ2 p (.tup (.inl (.inl upd_same)) (DpAll.mono g3.ex (DpAll.drop n (DpAll.mono g2.ex hv)))) ((g1.trans g2).trans g3) r3
theorem dec_str {x y : Str} : decide (V.str x = V.str y) = decide (x = y) := by
  by_cases z : x = y
  · rw [z, decide_eq_true rfl, decide_eq_true rfl]
  · rw [decide_eq_false z, decide_eq_false (fun w => z (V.str.inj w))]
variable {PB : Bool → En → Prop}
/-- two texts, alike or not -/
theorem vt_eqS (h : VD X a ρ fun x ρ1 => VD X b ρ1 fun y ρ2 => ∃ z w : Str, x = .str z ∧ y = .str w ∧ PB (decide (z = w)) ρ2) (hm : behindInMarks .Eq b = false := by first | exact nobehind _ (by decide) (by decide) | rfl) : VT X (.Compare a [.Eq] [b] pos) ρ PB := VT.mk fun B H σ Q r q => by
  refine PT.sem (pt_cmpR op_eq pe_sem pe_sem hm) ?_
  refine h.run B H σ _ r fun vx x B1 H1 ρ1 p1 dx g1 r1 => ?_
  refine p1.run B1 H1 σ _ r1 fun vy y B2 H2 ρ2 p2 dy g2 r2 => ?_
  obtain ⟨z, w, rfl, rfl, pp⟩ := p2
  rw [dp_str dx, dp_str dy]
  refine ⟨rfl, ?_⟩
  rw [dec_str]
  exact ⟨_, rfl, q _ B2 H2 ρ2 pp (g1.trans g2) r2⟩
theorem vd_eqS (h : VD X a ρ fun x ρ1 => VD X b ρ1 fun y ρ2 => ∃ z w : Str, x = .str z ∧ y = .str w ∧ P (.bool (decide (z = w))) ρ2) (hm : behindInMarks .Eq b = false := by first | exact nobehind _ (by decide) (by decide) | rfl) : VD X (.Compare a [.Eq] [b] pos) ρ P := VD.mk fun B H σ Q r q => by
  refine PE.sem (pe_cmpR op_eq pe_sem pe_sem hm) ?_
  refine h.run B H σ _ r fun vx x B1 H1 ρ1 p1 dx g1 r1 => ?_
  refine p1.run B1 H1 σ _ r1 fun vy y B2 H2 ρ2 p2 dy g2 r2 => ?_
  obtain ⟨z, w, rfl, rfl, pp⟩ := p2
  rw [dp_str dx, dp_str dy]
  refine ⟨rfl, ?_⟩
  rw [dec_str]
  exact q _ _ B2 H2 ρ2 pp (.bl _) (g1.trans g2) r2
def tChain3 (o1 o2 o3 : R2) (ta tb tc td : TE) : TT := fun σ H Q => ta σ H fun x H1 => tb σ H1 fun y H2 => o1 x y H2 fun z H3 => ∃ k, z = .bl k ∧ (k = true → tc σ H3 fun w H4 => o2 y w H4 fun z' H5 => ∃ k', z' = .bl k' ∧ (k' = true → td σ H5 fun v H6 => o3 w v H6 fun z2 H7 => ∃ k2, z2 = .bl k2 ∧ Q k2 H7) ∧ (k' = false → Q false H5)) ∧ (k = false → Q false H3)
theorem pt_chain3 {o1 o2 o3 : CmpOp} {q1 q2 q3 : R2} {a b c d : Expr} {ta tb tc td : TE} (h1 : OpR X (compareOp o1) q1) (h2 : OpR X (compareOp o2) q2) (h3 : OpR X (compareOp o3) q3) (ha : PE X a ta) (hb : PE X b tb) (hc : PE X c tc) (hd : PE X d td)
    (hm : lastMarks [o1, o2, o3] [b, c, d] = false := by with_unfolding_all rfl) : PT X (.Compare a [o1, o2, o3] [b, c, d] pos) (tChain3 q1 q2 q3 ta tb tc td) := by
  refine ⟨fun pins s σ H Q I h => ?_⟩
  refine isTrue_chain (thn (ha.run pins s σ H _ I h) fun v s1 ⟨x, H1, I1, r1, w1⟩ => test_link (thn (hb.run pins s1 σ H1 _ I1 w1) fun u s2 ⟨y, H2, I2, r2, w2⟩ =>
    thn (h1 pins s2 σ H2 x y v u _ I2 r1 r2 w2) fun e s3 ⟨z, H3, I3, r3, k, ek, w3, w3'⟩ => ?_)) hm
  subst ek
  cases r3
  refine wpAny_truthy_bool ?_
  cases k with
  | false => exact ite_ff ⟨H3, I3, w3' rfl⟩
  | true =>
    refine ite_tt (test_link (thn (hc.run pins s3 σ H3 _ I3 (w3 rfl)) fun w' s4 ⟨z', H4, I4, r4, w4⟩ => thn (h2 pins s4 σ H4 y z' u w' _ I4 r2 r4 w4) fun e' s5 ⟨z2, H5, I5, r5, k2, e2, w5, w5'⟩ => ?_))
    subst e2
    cases r5
    refine wpAny_truthy_bool ?_
    cases k2 with
    | false => exact ite_ff ⟨H5, I5, w5' rfl⟩
    | true =>
      refine ite_tt (test_last (thn (hd.run pins s5 σ H5 _ I5 (w5 rfl)) fun w'' s6 ⟨z'', H6, I6, r6, w6⟩ => thn (h3 pins s6 σ H6 z' z'' w' w'' _ I6 r4 r6 w6) fun d' s7 ⟨z3, H7, I7, r7, k3, e3, w7⟩ => ?_))
      subst e3
      cases r7
      exact wpAny_truthy_bool ⟨H7, I7, w7⟩
/-- a o1 b o2 c o3 d -/
theorem vt_chain3 (C : Cst X M sc NK G k) {o1 o2 o3 : CmpOp} {c d : Expr} (h : VD X a ρ fun x ρ1 => VD X b ρ1 fun y ρ2 => cmpD o1 x y fun bb => (bb = true → VD X c ρ2 fun z ρ3 => cmpD o2 y z fun b2 => (b2 = true → VD X d ρ3 fun w ρ4 => cmpD o3 z w fun b3 => PB b3 ρ4) ∧ (b2 = false → PB false ρ3)) ∧ (bb = false → PB false ρ2)) (hm : lastMarks [o1, o2, o3] [b, c, d] = false := by rfl) : VT X (.Compare a [o1, o2, o3] [b, c, d] pos) ρ PB := VT.mk fun B H σ Q r q => by
  refine PT.sem (pt_chain3 or_sem or_sem or_sem pe_sem pe_sem pe_sem pe_sem hm) ?_
  refine h.run B H σ _ r fun vx x B1 H1 ρ1 p1 dx g1 r1 => ?_
  refine p1.run B1 H1 σ _ r1 fun vy y B2 H2 ρ2 p2 dy g2 r2 => ?_
  refine cmp_ok C r2.ex p2 (Dp.mono g2.ex dx) dy fun bb kb => ⟨bb, rfl, fun e => ?_, fun e => q _ B2 H2 ρ2 (kb.2 e) (g1.trans g2) r2⟩
  refine (kb.1 e).run B2 H2 σ _ r2 fun vz z B3 H3 ρ3 p3 dz g3 r3 => ?_
  refine cmp_ok C r3.ex p3 (Dp.mono g3.ex dy) dz fun b2 kb2 => ⟨b2, rfl, fun e2 => ?_, fun e2 => q _ B3 H3 ρ3 (kb2.2 e2) ((g1.trans g2).trans g3) r3⟩
  refine (kb2.1 e2).run B3 H3 σ _ r3 fun vw w B4 H4 ρ4 p4 dw g4 r4 => ?_
  exact cmp_ok C r4.ex p4 (Dp.mono g4.ex dz) dw fun b3 kb3 => ⟨b3, rfl, q _ B4 H4 ρ4 kb3 (((g1.trans g2).trans g3).trans g4) r4⟩
end

open PySem PySem.Spec PyProof.Rows L2
abbrev Br := Str × Int
def brK (q : Br) : List Key := [.inr q.1, .inl q.2]
def brD (q : Br) : D := .tuple [.str q.1, .int q.2]
theorem brD_K (q : Br) : brD q = .tuple ((brK q).map dK) := rfl
def ltB (q r : Br) : Bool := (VcT.lexK (brK q) (brK r)).getD false
theorem lexB (q r : Br) : VcT.lexK (brK q) (brK r) = some (ltB q r) := by
  unfold ltB brK
  rw [VcT.lexK_cons, VcT.lexK_cons]
  by_cases h : (Sum.inr q.1 : Key) = Sum.inr r.1
  · rw [if_pos h]
    by_cases h2 : (Sum.inl q.2 : Key) = Sum.inl r.2
    · rw [if_pos h2]
      rfl
    · rw [if_neg h2]
      rfl
  · rw [if_neg h]
    rfl
theorem str_ext {x y : Str} (h : x.cps.toList = y.cps.toList) : x = y := by
  cases x
  cases y
  congr
  exact Array.toList_inj.mp h
theorem ltB_same {q r : Br} (h : q.1 = r.1) : ltB q r = decide (q.2 < r.2) := by
  unfold ltB brK
  rw [VcT.lexK_cons, VcT.lexK_cons, if_pos (by rw [h])]
  by_cases h2 : (Sum.inl q.2 : Key) = Sum.inl r.2
  · rw [if_pos h2]
    have e := Sum.inl.inj h2
    rw [decide_eq_false (by omega)]
    rfl
  · rw [if_neg h2]
    rfl
theorem ltB_else {q r : Br} (h : q.1 ≠ r.1) : ltB q r = decide (q.1.cps.toList < r.1.cps.toList) := by
  unfold ltB brK
  rw [VcT.lexK_cons, if_neg (fun e => h (Sum.inr.inj e))]
  rfl
theorem ltB_iff {q r : Br} : ltB q r = true ↔ (q.1 = r.1 ∧ q.2 < r.2) ∨ (q.1 ≠ r.1 ∧ q.1.cps.toList < r.1.cps.toList) := by
  by_cases h : q.1 = r.1
  · rw [ltB_same h, decide_eq_true_iff]
    exact ⟨fun z => .inl ⟨h, z⟩, fun z => z.elim (fun w => w.2) fun w => absurd h w.1⟩
  · rw [ltB_else h, decide_eq_true_iff]
    exact ⟨fun z => .inr ⟨h, z⟩, fun z => z.elim (fun w => absurd w.1 h) fun w => w.2⟩
theorem ltB_irr (q : Br) : ltB q q = false := by
  rw [ltB_same rfl]
  exact decide_eq_false (Int.lt_irrefl _)
theorem ltB_trans {q r s : Br} (h1 : ltB q r = true) (h2 : ltB r s = true) : ltB q s = true := by
  rw [ltB_iff] at h1 h2 ⊢
  rcases h1 with ⟨e1, l1⟩ | ⟨n1, l1⟩
  · rcases h2 with ⟨e2, l2⟩ | ⟨n2, l2⟩
    · exact .inl ⟨e1.trans e2, by omega⟩
    · exact .inr ⟨by rw [e1]; exact n2, by rw [e1]; exact l2⟩
  · rcases h2 with ⟨e2, l2⟩ | ⟨n2, l2⟩
    · exact .inr ⟨by rw [← e2]; exact n1, by rw [← e2]; exact l1⟩
    · have l := List.lt_trans l1 l2
      refine .inr ⟨fun e => ?_, l⟩
      rw [e] at l
      exact List.lt_irrefl _ l
theorem ltB_total {q r : Br} (h : q ≠ r) : ltB q r = true ∨ ltB r q = true := by
  by_cases e : q.1 = r.1
  · rw [ltB_same e, ltB_same e.symm, decide_eq_true_iff, decide_eq_true_iff]
    have : q.2 ≠ r.2 := fun z => h (Prod.ext e z)
    omega
  · rw [ltB_else e, ltB_else (fun z => e z.symm), decide_eq_true_iff, decide_eq_true_iff]
    by_cases l : q.1.cps.toList < r.1.cps.toList
    · exact .inl l
    · by_cases l2 : r.1.cps.toList < q.1.cps.toList
      · exact .inr l2
      · exact absurd (str_ext (List.le_antisymm (List.not_lt.mp l2) (List.not_lt.mp l))) e
/-- how many of a list stand below -/
def rankB (L : List Br) (q : Br) : Int := ((L.countP fun u => ltB u q : Nat) : Int)
theorem cnt_le {p q : Br → Bool} : ∀ {L : List Br}, (∀ u ∈ L, p u = true → q u = true) → L.countP p ≤ L.countP q
  | [], _ => Nat.le_refl _
  | u :: L, h => by
    have ih := cnt_le (p := p) (q := q) (L := L) fun v hv => h v (List.mem_cons_of_mem _ hv)
    rw [List.countP_cons, List.countP_cons]
    have hu := h u List.mem_cons_self
    cases e : p u with
    | true =>
      rw [hu e]
      simp only [if_true]
      omega
    | false =>
      simp only [Bool.false_eq_true, if_false]
      omega
theorem cnt_lt {p q : Br → Bool} {a : Br} (na : p a = false) (qa : q a = true) : ∀ {L : List Br}, a ∈ L → (∀ u ∈ L, p u = true → q u = true) → L.countP p < L.countP q
  | u :: L, hm, h => by
    have le := cnt_le (p := p) (q := q) (L := L) fun v hv => h v (List.mem_cons_of_mem _ hv)
    rw [List.countP_cons, List.countP_cons]
    rcases List.mem_cons.mp hm with rfl | hm
    · rw [na, qa]
      simp only [if_true, Bool.false_eq_true, if_false]
      omega
    · have ih := cnt_lt (p := p) (q := q) na qa hm fun v hv => h v (List.mem_cons_of_mem _ hv)
      have hu := h u List.mem_cons_self
      cases e : p u with
      | true =>
        rw [hu e]
        simp only [if_true]
        omega
      | false =>
        simp only [Bool.false_eq_true, if_false]
        omega
theorem rank_lt {L : List Br} {q r : Br} (hq : q ∈ L) (hr : r ∈ L) : ltB q r = decide (rankB L q < rankB L r) := by
  unfold rankB
  cases h : ltB q r with
  | true =>
    refine (decide_eq_true ?_).symm
    have := cnt_lt (p := fun u => ltB u q) (q := fun u => ltB u r) (a := q) (ltB_irr q) h hq fun u _ hu => ltB_trans hu h
    omega
  | false =>
    refine (decide_eq_false ?_).symm
    have : (L.countP fun u => ltB u r) ≤ L.countP fun u => ltB u q := cnt_le fun u _ hu => by
      by_cases e : q = r
      · rw [e]
        exact hu
      · rcases ltB_total e with z | z
        · rw [h] at z
          cases z
        · exact ltB_trans hu z
    omega
end Vc
namespace VcSo
open PySem PySem.W PyProof.Rows TS Vc
/-- v is the pair q -/
def BrAt (h : Heap) (v : Value) (q : Br) : Prop := ∃ (a : Addr) (t u : Tok), v = .ref a ∧ IsTup h a #[.str q.1 t, .int q.2 u]
def itemsAt (h : Heap) : Value → List Value
  | .ref a => match h.get? a with
    | some o => (match o.data with
      | .seq xs _ => xs.toList
      | _ => [])
    | none => []
  | _ => []
def brOf (h : Heap) (v : Value) : Br := match itemsAt h v with
  | [.str x _, .int e _] => (x, e)
  | _ => ("", 0)
theorem BrAt.of {h : Heap} {v : Value} {q : Br} (x : BrAt h v q) : brOf h v = q := by
  obtain ⟨a, t, u, rfl, o, ho, hc, n, hd⟩ := x
  have e : itemsAt h (.ref a) = [.str q.1 t, .int q.2 u] := by
    show (match h.get? a with | some o => _ | none => []) = _
    rw [ho]
    show (match o.data with | .seq xs _ => xs.toList | _ => []) = _
    rw [hd]
  unfold brOf
  rw [e]
theorem BrAt.keeps {h h' : Heap} {v : Value} {q : Br} (x : BrAt h v q) (k : ∀ b o, h.get? b = some o → o.cls = .type "tuple" → h'.get? b = some o) : BrAt h' v q := by
  obtain ⟨a, t, u, e, o, ho, hc, r⟩ := x
  exact ⟨a, t, u, e, o, k _ _ ho hc, hc, r⟩
theorem firsts_br {h : Heap} : ∀ vs : List Value, (∀ v ∈ vs, ∃ q, BrAt h v q) → ∃ fs : List Value, KatTups h vs fs ∧ fs.length = vs.length ∧ ∀ f ∈ fs, ∃ x t, f = Value.str x t
  | [], _ => ⟨[], KatTups.nil, rfl, fun f hf => by simp at hf⟩
  | v :: vs, x => by
    obtain ⟨fs, k, hl, hi⟩ := firsts_br vs fun u hu => x u (List.mem_cons_of_mem _ hu)
    obtain ⟨q, a, t, u, rfl, o, ho, hc, n, hd⟩ := x v List.mem_cons_self
    refine ⟨.str q.1 t :: fs, KatTups.cons ho hc hd rfl k, by rw [List.length_cons, List.length_cons, hl], fun f hf => ?_⟩
    rcases List.mem_cons.mp hf with rfl | hf
    · exact ⟨q.1, t, rfl⟩
    · exact hi f hf
section
variable {prog : Program} {w : World} {A : Around} {E : Value → Shared → Prop} {s : Shared}
theorem one_str {Q : Bool → Shared → Prop} (c : Bool) {x y : Str} {t u : Tok} (h : Q (decide (x.cps.toList < y.cps.toList)) s) : wpAny (model prog w) A (oneLt' c (.str x t) (.str y u)) Q E s := by
  cases c with
  | true => exact oneLt_str h
  | false => exact PySem.W.kat_one _ _ (PyProof.Rows.lt_str (Q := PySem.W.BoolBack Q) h)
theorem kind_br {vs : List Value} {L : List Br} (h2 : 2 ≤ vs.length) (x : ∀ v ∈ vs, ∃ q ∈ L, BrAt s.heap v q) (r : Value → Int) (hr : ∀ v ∈ vs, ∀ q, BrAt s.heap v q → r v = rankB L q) (Q : SortKind → Shared → Prop)
    (h : ∀ κ, TS.Cmp prog w A s κ (pairsOf vs) r → Q κ s) : wpAny (model prog w) A (keyKind' vs.toArray) Q E s := by
  obtain ⟨fs, k, hl, hi⟩ := firsts_br vs fun v hv => let ⟨q, _, z⟩ := x v hv; ⟨q, z⟩
  refine PySem.W.kat_kind (T := Value.type "str") k (by omega) (fun f hf => ?_) rfl (h _ ?_)
  · obtain ⟨y, t, rfl⟩ := hi f hf
    exact PySem.W.Looks.of_pure rfl
  · intro p q hp hq Q' E' hQ
    rw [pairsOf_toList] at hp hq
    have mp := (mem_zip_self hp).2
    have mq := (mem_zip_self hq).2
    obtain ⟨y, yL, py⟩ := x _ mp
    obtain ⟨z, zL, pz⟩ := x _ mq
    have hQ2 : Q' (ltB y z) s := by
      rw [rank_lt yL zL, ← hr _ mp _ py, ← hr _ mq _ pz]
      exact hQ
    obtain ⟨a, t, u, e1, o, ho, hc, n, hd⟩ := py
    obtain ⟨a', t', u', e2, o', ho', hc', n', hd'⟩ := pz
    rw [e1, e2]
    refine kat_lt ho hd ho' hd' ?_
    show KatLex prog w A _ false Q' [(Value.str y.1 t, Value.str z.1 t'), (Value.int y.2 u, Value.int z.2 u')] 0 s
    refine kat_cons (wpAny_eqBool_str ?_)
    by_cases e : y.1 = z.1
    · rw [decide_eq_true e]
      rw [ltB_same e] at hQ2
      refine kat_yes (kat_cons (wpAny_eqBool_int ?_))
      by_cases e3 : y.2 = z.2
      · rw [show (y.2 == z.2) = true from by simp [e3]]
        rw [decide_eq_false (by omega)] at hQ2
        exact kat_yes (kat_nil hQ2)
      · rw [show (y.2 == z.2) = false from by simp [e3]]
        exact kat_no (TS.oneLt_ints _ hQ2)
    · rw [decide_eq_false e]
      rw [ltB_else e] at hQ2
      exact kat_no (one_str _ hQ2)
theorem sort_br {a : Addr} {vs : List Value} {L : List Br} {n : Nat} {P : PySem.Fin → Shared → Prop} (ho : s.heap.get? a = some (seqObj "list" vs.toArray n)) (h64 : vs.length < 64) (x : ∀ v ∈ vs, ∃ q ∈ L, BrAt s.heap v q)
    (h : ∀ out : Array Value, out.toList.Perm vs → out.toList.Pairwise (fun u v => rankB L (brOf s.heap u) ≤ rankB L (brOf s.heap v)) → P (.done (.ret .none)) { s with heap := sortedHeap s.heap a vs out }) :
    wpAny (model prog w) A (Builtin.«list.sort» ⟨[.ref a], []⟩) P E s := by
  have keep : ∀ b o, s.heap.get? b = some o → o.cls = .type "tuple" → (midHeap s.heap a vs).get? b = some o := fun b o e hc => by
    refine midHeap_old (fun z => ?_) e
    rw [z, ho] at e
    have e' : seqObj "list" vs.toArray n = o := Option.some.inj e
    rw [← e'] at hc
    have c' : Value.type "list" = Value.type "tuple" := hc
    injection c' with c''
    exact absurd c'' (by decide)
  refine SK.plain_sort (r := fun v => rankB L (brOf s.heap v)) ho h64 (fun h2 Q hQ => ?_) fun ps out h1 h2 h3 => ?_
  · refine kind_br (s := { s with heap := midHeap s.heap a vs }) (L := L) h2 (fun v hv => ?_) _ (fun v hv q t => ?_) Q hQ
    · obtain ⟨q, hq, z⟩ := x v hv
      exact ⟨q, hq, z.keeps keep⟩
    · obtain ⟨q0, _, z⟩ := x v hv
      have e : q = q0 := t.of.symm.trans (z.keeps keep).of
      show rankB L (brOf s.heap v) = rankB L q
      rw [z.of, e]
  · obtain ⟨p, o⟩ := out_rank (r := fun v => rankB L (brOf s.heap v)) h1 h2 h3
    exact h out p o
theorem sorted_br {l : Addr} {vs : List Value} {L : List Br} {Q : Value → Shared → Prop} (hl : s.heap.IsList l vs.toArray) (h64 : vs.length < 64) (x : ∀ v ∈ vs, ∃ q ∈ L, BrAt s.heap v q)
    (h : ∀ out : Array Value, out.toList.Perm vs → out.toList.Pairwise (fun u v => rankB L (brOf s.heap u) ≤ rankB L (brOf s.heap v)) → Q (.ref (s.heap.objs.size + 1)) { s with heap := sortedAll s.heap vs out }) :
    wpAny (model prog w) A (call (.builtin "sorted") [.ref l]) Q E s := by
  refine Calls.call_function_entry kind_sorted plain_sorted entry_sorted (args_sorted1 _) ?_
  unfold Builtin.«sorted»
  refine wpAny_bind (m := checkCount "sorted" 1 1 _) (wpAny_pure ?_)
  refine wpAny_bind (collect_list hl ?_ (by rw [sizeLine_eq]; omega))
  refine wpAny_bind (wpAny_newList ?_ (by rw [sizeLine_eq]; omega))
  have size1 : ((s.heap.push (seqObj "list" #[] 0)).update s.heap.objs.size (Obj.mapSeq (· ++ vs.toArray))).objs.size = s.heap.objs.size + 1 := by
    rw [Heap.size_update, size_push']
  have list1 : (((s.heap.push (seqObj "list" #[] 0)).update s.heap.objs.size (Obj.mapSeq (· ++ vs.toArray))).push (seqObj "list" vs.toArray 0)).get? (s.heap.objs.size + 1) = some (seqObj "list" vs.toArray 0) := by
    rw [← size1]
    exact Heap.get?_push_size _ rfl
  have keep : ∀ b o, s.heap.get? b = some o → o.cls = .type "tuple" → (((s.heap.push (seqObj "list" #[] 0)).update s.heap.objs.size (Obj.mapSeq (· ++ vs.toArray))).push (seqObj "list" vs.toArray 0)).get? b = some o := fun b o q _ => by
    have low : b < s.heap.objs.size := Heap.lt_size q
    rw [Heap.get?_push_ne _ _ _ (by rw [size1]; exact Nat.ne_of_lt (Nat.lt_succ_of_lt low)), Heap.get?_update_ne _ _ _ _ (Nat.ne_of_lt low), Heap.get?_push_ne _ _ _ (Nat.ne_of_lt low)]
    exact q
  have same : ∀ v ∈ vs, brOf (((s.heap.push (seqObj "list" #[] 0)).update s.heap.objs.size (Obj.mapSeq (· ++ vs.toArray))).push (seqObj "list" vs.toArray 0)) v = brOf s.heap v := fun v hv => by
    obtain ⟨q, _, z⟩ := x v hv
    rw [z.of, (z.keeps keep).of]
  show wpAny _ _ _ _ _ { s with heap := ((s.heap.push (seqObj "list" #[] 0)).update s.heap.objs.size (Obj.mapSeq (· ++ vs.toArray))).push (seqObj "list" vs.toArray 0) }
  rw [size1]
  refine wpAny_bind (wpAny_holding (wpAny_call_entry slot_list_sort ⟨_, list1, rfl⟩ entry_list_sort (sort_br (L := L) list1 h64 (fun v hv => ?_) fun out a1 a2 => ⟨_, rfl, ?_⟩) (args_list_sort _)))
  · obtain ⟨q, hq, z⟩ := x v hv
    exact ⟨q, hq, z.keeps keep⟩
  · refine wpAny_pure ⟨_, rfl, h out a1 (List.Pairwise.imp_of_mem (fun {u v} hu hv huv => ?_) a2)⟩
    have e1 := same u (a1.mem_iff.mp hu)
    have e2 := same v (a1.mem_iff.mp hv)
    simp only [e1, e2] at huv
    exact huv
end
end VcSo

namespace Vc
open PySem PySem.Spec PyProof.Rows L2
open Evl (Ex)
/-- in their order -/
def Asc (bs : List Br) : Prop := bs.Pairwise fun q r => ltB r q = false
section
variable {X : Cx} {M : Md} {sc : Scope} {NK : List (Str × Bool × Bool)} {G : List Str} {k : Nat} {ρ : En} {PL : List D → En → Prop} {pos p : Pos} {e : Expr}
theorem dps_br {K : PySem.W.Frag} {B : Hp} : ∀ {bs : List Br} {xs : List V}, DpAll K B xs (bs.map brD) → ∀ x ∈ xs, ∃ q ∈ bs, Dp K B x (brD q)
  | [], _, .nil, x, h => by cases h
  | b :: bs, _, .cons h hs, x, hx => by
    rcases List.mem_cons.mp hx with rfl | hx
    · exact ⟨b, List.mem_cons_self, h⟩
    · obtain ⟨q, h1, h2⟩ := dps_br hs x hx
      exact ⟨q, List.mem_cons_of_mem _ h1, h2⟩
theorem br_at {pins : List (Addr × Obj)} {σ : L2.St} {B H : Hp} {s : Shared} {x : V} {q : Br} (I : Inv X pins σ H s) (eB : Ex B H) (d : Dp X.K B x (brD q)) : ∃ a, x = .ref a ∧ VcSo.BrAt s.heap (.ref a) q := by
  obtain ⟨a, xs, rfl, hT, hx⟩ := dp_tup d
  obtain ⟨its, w1, pl, _⟩ := I.tuple (ex_t eB hT)
  cases hx with
  | cons h1 h2 =>
    cases h2 with
    | cons h2 h3 =>
      cases h3
      have e1 := dp_str h1
      have e2 := dp_int h2
      subst e1 e2
      cases w1 with
      | cons r1 r2 =>
        cases r2 with
        | cons r2 r3 =>
          cases r3
          obtain ⟨t, rfl⟩ := r1
          obtain ⟨u, rfl⟩ := r2
          exact ⟨a, rfl, a, t, u, rfl, pl⟩
theorem br_all {pins : List (Addr × Obj)} {σ : L2.St} {B H : Hp} {s : Shared} (I : Inv X pins σ H s) (eB : Ex B H) : ∀ {bs : List Br} {xs : List V} {us : List Value}, Vals xs us → DpAll X.K B xs (bs.map brD) → us.map (VcSo.brOf s.heap) = bs ∧ (∀ u ∈ us, ∃ q ∈ bs, VcSo.BrAt s.heap u q ∧ Dp X.K B (bkV u) (brD q)) ∧ ∀ x ∈ xs, ∃ a, x = V.ref a
  | [], _, _, .nil, .nil => ⟨rfl, fun u h => (by cases h), fun x h => (by cases h)⟩
  | b :: bs, _, _, .cons r rs, .cons h hs => by
    obtain ⟨i1, i2, i3⟩ := br_all I eB rs hs
    obtain ⟨a, e, z⟩ := br_at I eB h
    subst e
    cases r
    refine ⟨?_, fun u hu => ?_, fun x hx => ?_⟩
    · rw [List.map_cons, i1, z.of]
    · rcases List.mem_cons.mp hu with rfl | hu
      · exact ⟨b, List.mem_cons_self, z, h⟩
      · obtain ⟨q, q1, q2⟩ := i2 u hu
        exact ⟨q, List.mem_cons_of_mem _ q1, q2⟩
    · rcases List.mem_cons.mp hx with rfl | hx
      · exact ⟨a, rfl⟩
      · exact i3 x hx
theorem dps_out {K : PySem.W.Frag} {B : Hp} {h : Heap} : ∀ {us : List Value}, (∀ u ∈ us, Dp K B (bkV u) (brD (VcSo.brOf h u))) → DpAll K B (us.map bkV) ((us.map (VcSo.brOf h)).map brD)
  | [], _ => .nil
  | u :: us, x => .cons (x u List.mem_cons_self) (dps_out fun v hv => x v (List.mem_cons_of_mem _ hv))
/-- sorted(e), e a list of pairs -/
theorem vn_sortBr (C : Cst X M sc NK G k) {i : Nat} (hg : At G i "sorted") (h : VD X e ρ fun d ρ1 => ∃ bs : List Br, d = .list (bs.map brD) ∧ bs.length < 64 ∧ ∀ bs', bs'.Perm bs → Asc bs' → PL (bs'.map brD) ρ1) (hm : M.mg "sorted" = none := by assumption)
    (he : starEach [e] X.env = (false, eval e X.env) :: starEach [] X.env := by rfl) (hpl : (backTo pos (starEach [] X.env)).any (·.1) = false := by rfl) : VN X (.Call (.Name "sorted" p) [e] [] pos) ρ PL := VN.mk fun B H σ Q r q => by
  refine PE.sem (pe_callB (cr_sem (f := .builtin "sorted")) (C.g hg) (C.mg hm) (by decide +kernel) (pa_cons pe_sem pa_nil he) (by decide) (by decide) he hpl) ?_
  refine h.run B H σ _ r fun v d B1 H1 ρ1 p1 dv g1 r1 => ?_
  obtain ⟨bs, rfl, h64, pp⟩ := p1
  obtain ⟨t, xs, rfl, hT, hv⟩ := dp_lst dv
  intro pins s σ' us I rv
  obtain ⟨its, rv', hl, hz⟩ := I.list (ex_l r1.ex hT)
  rw [Vals.ref1 rv]
  obtain ⟨e1, e2, e3⟩ := br_all I r1.ex rv' hv
  obtain ⟨f1, f2⟩ := bkV_refs rv' e3
  refine VcSo.sorted_br (L := bs) hl.isList (by rw [← rv'.length, DpAll.len hv, List.length_map]; exact h64) (fun u hu => let ⟨q, q1, q2, _⟩ := e2 u hu; ⟨q, q1, q2⟩) fun out a1 a2 => ?_
  obtain ⟨ep, he'⟩ := PyProof.Rows.sortedAll_at s.heap its out
  have h3 : ∀ u ∈ out.toList, ∃ a, u = Value.ref a := fun u hu => f2 u (a1.mem_iff.mp hu)
  have hp : (out.toList.map bkV).Perm xs := by
    rw [f1]
    exact a1.map bkV
  have hlen : (out.toList.map bkV).length ≤ sizeLine := by
    rw [hp.length_eq]
    exact hz
  have fresh := I.hok.fresh (Nat.le_succ s.heap.objs.size)
  have dps : DpAll X.K B1 (out.toList.map bkV) ((out.toList.map (VcSo.brOf s.heap)).map brD) := dps_out fun u hu => by
    obtain ⟨b, _, z1, z2⟩ := e2 u (a1.mem_iff.mp hu)
    rw [z1.of]
    exact z2
  have perm : (out.toList.map (VcSo.brOf s.heap)).Perm bs := by
    have := a1.map (VcSo.brOf s.heap)
    rw [e1] at this
    exact this
  have asc : Asc (out.toList.map (VcSo.brOf s.heap)) := by
    unfold Asc
    rw [List.pairwise_map]
    refine List.Pairwise.imp_of_mem (fun {u v} hu hv huv => ?_) a2
    have mu : VcSo.brOf s.heap u ∈ bs := perm.mem_iff.mp (List.mem_map.mpr ⟨u, hu, rfl⟩)
    have mv : VcSo.brOf s.heap v ∈ bs := perm.mem_iff.mp (List.mem_map.mpr ⟨v, hv, rfl⟩)
    rw [rank_lt mv mu]
    exact decide_eq_false (by omega)
  obtain ⟨r2, g2, b2⟩ := new_one (o := .lst (out.toList.map bkV)) r1 fresh
  exact ⟨.ref _, upd H1 (s.heap.objs.size + 1) (.lst (out.toList.map bkV)), I.laid (t' := s.toks) (fun _ _ => PyProof.Rows.sortedAll_old) (Nat.le_succ _) ⟨hlen, out.toList, ep, bkV_vals h3, he'⟩, rfl,
    q _ _ _ _ _ ρ1 (pp _ perm asc) (g1.dom _ fresh) upd_same b2 (not_own r1 fresh) dps (g1.trans g2) r2⟩
end
end Vc

namespace K7
open PySem PySem.Spec PyProof.Rows L2 Vc
local macro_rules | `(tactic| walk_at "at") => `(tactic| (repeat (first | with_reducible exact At.here | apply At.there)))
local macro_rules | `(tactic| walk_at "v") => `(tactic| first
  | refine vd_bin ?_
  | (refine vd_name (by assumption) (by walk_at "at") rfl ?_)
  | refine vd_int ?_
  | refine vd_bool ?_
  | refine vd_none ?_
  | refine vd_str ?_
  | refine vd_if ?_
  | (refine vd_neg ?_)
  | refine vd_tup ?_
  | refine va_nil ?_
  | refine va_cons ?_
  | refine vs_ret ?_
  | refine vss_nil ?_
  | refine vss_one ?_
  | refine vss_cons ?_
  | refine vs_if ?_
  | refine vt_cmp (by assumption) ?_
  | refine vs_set (by assumption) (by walk_at "at") ?_
  | refine vd_cmp (by assumption) ?_
  | refine vgs_nil ?_
  | refine vgs_cons ?_
  | refine vg_name (by assumption) (by walk_at "at") ?_
  | (refine vd_callT (x := "int") (by assumption) does_int (by walk_at "at") ?_)
  | (refine vd_callB (x := "len") (by assumption) does_len (by walk_at "at") ?_)
  | (refine vd_callB (x := "abs") (by assumption) does_abs (by walk_at "at") ?_)
  | (refine vd_ixo (by assumption) (by walk_at "at") rfl ?_)
  | refine vd_ix ?_)
local macro_rules | `(tactic| walk_at "sw") => `(tactic| (intro env h; cases env; dsimp only at h; subst h; rfl))
local macro_rules | `(tactic| walk_at "vv") => `(tactic| repeat (walk_at "v"))
/-! ### is_ascending -/
def asc (bs : List Br) : Bool := (bs.zip (bs.drop 1)).all fun p => ltB p.1 p.2
theorem zip_br (bs : List Br) : (bs.map brD).zip ((bs.map brD).drop 1) = (bs.zip (bs.drop 1)).map fun p => (brD p.1, brD p.2) := by
  rw [← List.map_drop, List.zip_map]
  rfl
def SAsc : List D → (D → Prop) → Prop := fun ds W => ∃ bs : List Br, ds = [.tuple (bs.map brD)] ∧ bs ≠ [] ∧ bs.length ≤ 1000 ∧ W (.bool (asc bs))
theorem fAsc {M : Md} {f : Addr} {fd : FuncData} (ma : M.mg "all" = none) (mz : M.mg "zip" = none)
    (F : Fun M.K "is_ascending" "is_ascending" sIsAscending f fd) (hm : M.mg "is_ascending" = some (.ref f)) (b : L2.Binds M.K fd ["things"] []) : FnD M 1 "is_ascending" 1 SAsc := by
  refine fnD_mk (k := 0) (NK := nkIsAscending) (G := gIsAscending) F scIsAscending hm b rfl (by decide +kernel) rfl (by decide) fun X C ds W hl hS => ?_
  obtain ⟨bs, rfl, ne, hlen, w⟩ := hS
  show VSs X _ [.dat (.tuple (bs.map brD)), .no, .no] _
  walk_at "v"
  walk_at "v"
  refine vd_callB C (does_all C) (by walk_at "at") ?_
  refine va_cons (vn_vd ?_)
  refine vn_lc2 C nkIsAscending0 gIsAscending0 (i1 := 1) (i2 := 2) (by walk_at "at") (by walk_at "at") (by decide) ?_
  refine vp_zip C (by walk_at "at") ?_
  refine va_cons ?_
  walk_at "v"
  refine va_cons (vd_dropT ?_)
  walk_at "v"
  walk_at "v"
  refine ⟨bs.map brD, 1, rfl, rfl, by decide, by simpa using ne, ?_⟩
  refine va_nil ?_
  refine ⟨_, _, rfl, ?_⟩
  rw [zip_br]
  refine ⟨by rw [List.length_map, List.length_zip]; omega, fun j acc ρ' => acc = (((bs.zip (bs.drop 1)).take j).map fun p => ltB p.1 p.2).map PyData.bool ∧ ρ' = [.dat (.tuple (bs.map brD)), .no, .no], ⟨rfl, rfl⟩, fun j d1 d2 acc ρ' hj hW X' C' => ?_, fun acc ρ' hW => ?_⟩
  · obtain ⟨rfl, rfl⟩ := hW
    rw [List.getElem?_map] at hj
    cases e : (bs.zip (bs.drop 1))[j]? with
    | none =>
      rw [e] at hj
      cases hj
    | some q =>
      rw [e] at hj
      cases hj
      refine vd_ltK C' ?_
      walk_at "v"
      walk_at "v"
      refine ⟨brK q.1, brK q.2, _, brD_K q.1, brD_K q.2, lexB q.1 q.2, ?_, rfl⟩
      rw [List.take_succ, e, List.map_append, List.map_append]
      rfl
  · obtain ⟨rfl, rfl⟩ := hW
    refine va_nil ?_
    refine ⟨_, rfl, ?_⟩
    rw [List.length_map, List.take_length, List.all_map]
    exact w


open PySem PySem.Spec PyProof.Rows L2 Vc
/-! ### is_told -/
def isBoolD : D → Bool
  | .bool _ => true
  | _ => false
theorem kit_bool {d : D} (nd : noDi d) : kitB (tyN d) "bool" = some (isBoolD d) := by
  cases d with
  | none => decide +kernel
  | bool b => show kitB "bool" "bool" = some true; decide +kernel
  | int i => show kitB "int" "bool" = some false; decide +kernel
  | str z => show kitB "str" "bool" = some false; decide +kernel
  | list l => show kitB "list" "bool" = some false; decide +kernel
  | tuple l => show kitB "tuple" "bool" = some false; decide +kernel
  | dict l => exact absurd rfl (nd l)
def moreOver (ns : Nm) : List D → Bool
  | [a, b, c] => breakerD ns a && (boundD b && isBoolD c)
  | _ => false
def moreReach (ns : Nm) : List D → Bool
  | [a, b] => breakerD ns a && boundD b
  | _ => false
def moreDiff (ns : Nm) : List D → Bool
  | [a, b] => knownD ns ["bus", "line"] a && boundD b
  | _ => false
def moreBehind (ns : Nm) : List D → Bool
  | [a] => breakerD ns a
  | _ => false
def toldS (ns : Nm) (k : Str) (more : List D) : Bool :=
  if k = "over" then moreOver ns more else if k = "reach" then moreReach ns more else if k = "difference" then moreDiff ns more else decide (k = "behind") && moreBehind ns more
def toldD (ns : Nm) : D → Bool
  | .tuple (.str k :: more) => toldS ns k more
  | _ => false
theorem told_no {ns : Nm} {d : D} (h : ∀ ds, d ≠ .tuple ds) : toldD ns d = false := by
  cases d with
  | tuple l => exact absurd rfl (h l)
  | _ => rfl
theorem told_no2 {ns : Nm} {d : D} {ds : List D} (h : ∀ z, d ≠ .str z) : toldD ns (.tuple (d :: ds)) = false := by
  cases d with
  | str z => exact absurd rfl (h z)
  | _ => rfl
theorem len_three {ds : List D} (h : decide (((ds.length : Nat) : Int) = 3) = true) : ∃ a b c, ds = [a, b, c] := by
  have := of_decide_eq_true h
  match ds, this with
  | [a, b, c], _ => exact ⟨a, b, c, rfl⟩
  | [], h => simp at h
  | [a], h => simp at h
  | [a, b], h => simp at h
  | a :: b :: c :: d :: r, h => simp at h; omega
theorem len_two {ds : List D} (h : decide (((ds.length : Nat) : Int) = 2) = true) : ∃ a b, ds = [a, b] := by
  have := of_decide_eq_true h
  match ds, this with
  | [a, b], _ => exact ⟨a, b, rfl⟩
  | [], h => simp at h
  | [a], h => simp at h
  | a :: b :: c :: r, h => simp at h; omega
theorem len_one {ds : List D} (h : decide (((ds.length : Nat) : Int) = 1) = true) : ∃ a, ds = [a] := by
  have := of_decide_eq_true h
  match ds, this with
  | [a], _ => exact ⟨a, rfl⟩
  | [], h => simp at h
  | a :: b :: r, h => simp at h; omega
theorem over_no {ns : Nm} {ds : List D} (h : decide (((ds.length : Nat) : Int) = 3) = false) : moreOver ns ds = false := by
  unfold moreOver
  split
  · exact absurd rfl (of_decide_eq_false h)
  · rfl
theorem reach_no {ns : Nm} {ds : List D} (h : decide (((ds.length : Nat) : Int) = 2) = false) : moreReach ns ds = false := by
  unfold moreReach
  split
  · exact absurd rfl (of_decide_eq_false h)
  · rfl
theorem diff_no {ns : Nm} {ds : List D} (h : decide (((ds.length : Nat) : Int) = 2) = false) : moreDiff ns ds = false := by
  unfold moreDiff
  split
  · exact absurd rfl (of_decide_eq_false h)
  · rfl
theorem behind_no {ns : Nm} {ds : List D} (h : decide (((ds.length : Nat) : Int) = 1) = false) : moreBehind ns ds = false := by
  unfold moreBehind
  split
  · exact absurd rfl (of_decide_eq_false h)
  · rfl
local macro_rules | `(tactic| walk_at "brk") => `(tactic| (refine vx_own (by assumption) (by walk_at "at") rfl (vx_cons ?_)))
theorem at0 {d : D} {r : List D} : atI (d :: r) 0 = some d := by
  unfold atI ixN
  rw [if_pos (by decide), if_pos (by rw [List.length_cons]; omega)]
  rfl
theorem fTold {M : Md} {f : Addr} {fd : FuncData} (ms : M.mg "isinstance" = none) (mt : M.mg "tuple" = none) (mst : M.mg "str" = none) (ml : M.mg "len" = none) (mb : M.mg "bool" = none) (FK : FnV M 1 "is_known" 2 SKnown) (FB : FnX M 2 "is_breaker" 2 (SBreaker breakerD)) (FO : FnD M 3 "is_bound" 1 (SOk1 boundD))
    (F : Fun M.K "is_told" "is_told" sIsTold f fd) (hm : M.mg "is_told" = some (.ref f)) (b : L2.Binds M.K fd ["names", "thing"] []) : FnX M 4 "is_told" 2 (SBreaker toldD) := by
  refine fnX_mk (k := 3) (NK := nkIsTold) (G := gIsTold) F scIsTold hm b rfl (by decide +kernel) rfl (by decide) fun X C as W WX hl hS => ?_
  obtain ⟨p, ns, d, rfl, ok, w⟩ := hS
  show VSs X _ [.own p (.dt (nm ns)), .dat d, .no, .no] _
  have no : toldD ns d = false → W (.bool false) [.own p (.dt (nm ns)), .dat d] := fun h => by rw [← h]; exact w
  refine vss_cons (vs_if (vt_not (vt_w (vw_and (vt_val ?_)))))
  refine vd_isi C (T := "tuple") (by walk_at "at") (by walk_at "at") ?_
  walk_at "v"
  rcases kit_tup (ok_no ok) with ⟨ds, rfl, k1⟩ | ⟨k1, k2⟩
  · refine ⟨true, k1, true, rfl, fun _ => ?_, fun h => (by cases h)⟩
    refine vw_and (vt_tup ?_)
    walk_at "v"
    refine ⟨ds, rfl, ?_⟩
    cases ds with
    | nil =>
      refine ⟨fun h => (by cases h), fun _ => ⟨fun _ => ?_, fun h => (by cases h)⟩⟩
      walk_at "vv"
      exact ⟨⟨rfl, trivial⟩, no rfl⟩
    | cons d0 more =>
      obtain ⟨ll, lo⟩ := ok_tup ok
      have o0 : okD d0 = true := okDs_mem lo d0 (by simp)
      have om : ∀ x ∈ more, okD x = true := fun x hx => okDs_mem lo x (by simp [hx])
      refine ⟨fun _ => ?_, fun h => (by cases h)⟩
      refine vw_and1 (vt_val ?_)
      refine vd_isi C (T := "str") (by walk_at "at") (by walk_at "at") ?_
      walk_at "vv"
      refine ⟨d0, at0, ?_⟩
      rcases kit_str (ok_no o0) with ⟨kd, rfl, k3⟩ | ⟨k3, k4⟩
      · refine ⟨true, k3, true, rfl, ?_⟩
        refine ⟨fun h => (by cases h), fun _ => ?_⟩
        refine vss_nil ?_
        refine vss_cons (vs_star C (by walk_at "at") (by walk_at "at") ?_)
        walk_at "v"
        refine ⟨.str kd, more, rfl, ?_⟩
        show VSs X _ [.own p (.dt (nm ns)), .dat (.tuple (.str kd :: more)), .dat (.str kd), .dat (.list more)] _
        have e0 : toldD ns (.tuple (.str kd :: more)) = toldS ns kd more := rfl
        have lm : more.length ≤ 1000 := by
          rw [List.length_cons] at ll
          omega
        refine vss_cons (vs_if (vt_eqS ?_))
        walk_at "v"
        walk_at "v"
        refine ⟨_, _, rfl, rfl, ?_⟩
        refine ⟨fun h1 => ?_, fun h1 => ?_⟩
        · -- over
          have e1 : toldS ns kd more = moreOver ns more := by
            unfold toldS
            rw [if_pos (of_decide_eq_true h1)]
          walk_at "v"
          walk_at "v"
          refine vd_and (vd_cmp C ?_)
          refine vd_callB C (x := "len") does_len (by walk_at "at") ?_
          walk_at "vv"
          refine ⟨more, .inl rfl, ?_⟩
          walk_at "v"
          refine ⟨_, rfl, fun h => ?_, fun h => ⟨⟨rfl, trivial⟩, no (by rw [e0, e1]; exact over_no h)⟩⟩
          obtain ⟨x, y, z, rfl⟩ := len_three h
          have e2 : toldD ns (.tuple (.str kd :: [x, y, z])) = (breakerD ns x && (boundD y && isBoolD z)) := by rw [e0, e1]; rfl
          refine vd_and (vd_callX C FB (by walk_at "at") ?_)
          walk_at "brk"
          walk_at "vv"
          refine ⟨x, rfl, vx_nil ?_⟩
          refine ⟨rfl, ⟨⟨_, _, rfl⟩, trivial⟩, rfl, p, ns, x, rfl, om x (by simp), _, rfl, fun h2 => ?_, fun h2 => ⟨⟨rfl, trivial⟩, no (by rw [e2, h2, Bool.false_and])⟩⟩
          refine vd_and (vd_call C FO (by walk_at "at") ?_)
          walk_at "vv"
          refine ⟨y, rfl, ?_⟩
          walk_at "vv"
          refine ⟨rfl, y, rfl, om y (by simp), _, rfl, fun h3 => ?_, fun h3 => ⟨⟨rfl, trivial⟩, no (by rw [e2, h2, h3, Bool.true_and, Bool.false_and])⟩⟩
          refine vd_one (vd_isi C (T := "bool") (by walk_at "at") (by walk_at "at") ?_)
          walk_at "vv"
          refine ⟨z, rfl, isBoolD z, kit_bool (ok_no (om z (by simp))), ⟨rfl, trivial⟩, ?_⟩
          rw [e2, h2, h3, Bool.true_and, Bool.true_and] at w
          exact w
        · refine vss_nil ?_
          have n1 := of_decide_eq_false h1
          refine vss_cons (vs_if (vt_eqS ?_))
          walk_at "v"
          walk_at "v"
          refine ⟨_, _, rfl, rfl, ?_⟩
          refine ⟨fun h1 => ?_, fun h1 => ?_⟩
          · -- reach
            have e1 : toldS ns kd more = moreReach ns more := by
              unfold toldS
              rw [if_neg n1, if_pos (of_decide_eq_true h1)]
            walk_at "v"
            walk_at "v"
            refine vd_and (vd_cmp C ?_)
            refine vd_callB C (x := "len") does_len (by walk_at "at") ?_
            walk_at "vv"
            refine ⟨more, .inl rfl, ?_⟩
            walk_at "v"
            refine ⟨_, rfl, fun h => ?_, fun h => ⟨⟨rfl, trivial⟩, no (by rw [e0, e1]; exact reach_no h)⟩⟩
            obtain ⟨x, y, rfl⟩ := len_two h
            have e2 : toldD ns (.tuple (.str kd :: [x, y])) = (breakerD ns x && boundD y) := by rw [e0, e1]; rfl
            refine vd_and (vd_callX C FB (by walk_at "at") ?_)
            walk_at "brk"
            walk_at "vv"
            refine ⟨x, rfl, vx_nil ?_⟩
            refine ⟨rfl, ⟨⟨_, _, rfl⟩, trivial⟩, rfl, p, ns, x, rfl, om x (by simp), _, rfl, fun h2 => ?_, fun h2 => ⟨⟨rfl, trivial⟩, no (by rw [e2, h2, Bool.false_and])⟩⟩
            refine vd_one (vd_call C FO (by walk_at "at") ?_)
            walk_at "vv"
            refine ⟨y, rfl, ?_⟩
            walk_at "vv"
            refine ⟨rfl, y, rfl, om y (by simp), ⟨rfl, trivial⟩, ?_⟩
            rw [e2, h2, Bool.true_and] at w
            exact w
          · refine vss_nil ?_
            have n2 := of_decide_eq_false h1
            refine vss_cons (vs_if (vt_eqS ?_))
            walk_at "v"
            walk_at "v"
            refine ⟨_, _, rfl, rfl, ?_⟩
            refine ⟨fun h1 => ?_, fun h1 => ?_⟩
            · -- difference
              have e1 : toldS ns kd more = moreDiff ns more := by
                unfold toldS
                rw [if_neg n1, if_neg n2, if_pos (of_decide_eq_true h1)]
              walk_at "v"
              walk_at "v"
              refine vd_and (vd_cmp C ?_)
              refine vd_callB C (x := "len") does_len (by walk_at "at") ?_
              walk_at "vv"
              refine ⟨more, .inl rfl, ?_⟩
              walk_at "v"
              refine ⟨_, rfl, fun h => ?_, fun h => ⟨⟨rfl, trivial⟩, no (by rw [e0, e1]; exact diff_no h)⟩⟩
              obtain ⟨x, y, rfl⟩ := len_two h
              have e2 : toldD ns (.tuple (.str kd :: [x, y])) = (knownD ns ["bus", "line"] x && boundD y) := by rw [e0, e1]; rfl
              refine vd_and (vd_callV C FK (by walk_at "at") ?_)
              walk_at "brk"
              walk_at "vv"
              refine ⟨x, rfl, ?_⟩
              refine vx_cons (vd_str (vx_cons (vd_str (vx_nil ?_))))
              refine ⟨[.ow 0, .da x], [.str "bus", .str "line"], rfl, rfl, by decide, rfl, ⟨⟨_, _, rfl⟩, trivial⟩, rfl, p, ns, x, ["bus", "line"], rfl, om x (by simp), _, rfl, fun h2 => ?_, fun h2 => ⟨⟨rfl, trivial⟩, no (by rw [e2, h2, Bool.false_and])⟩⟩
              refine vd_one (vd_call C FO (by walk_at "at") ?_)
              walk_at "vv"
              refine ⟨y, rfl, ?_⟩
              walk_at "vv"
              refine ⟨rfl, y, rfl, om y (by simp), ⟨rfl, trivial⟩, ?_⟩
              rw [e2, h2, Bool.true_and] at w
              exact w
            · refine vss_nil ?_
              have n3 := of_decide_eq_false h1
              have e1 : toldS ns kd more = (decide (kd = "behind") && moreBehind ns more) := by
                unfold toldS
                rw [if_neg n1, if_neg n2, if_neg n3]
              walk_at "v"
              walk_at "v"
              refine vd_and (vd_eqS ?_)
              walk_at "v"
              walk_at "v"
              refine ⟨_, _, rfl, rfl, ?_⟩
              refine ⟨_, rfl, fun h4 => ?_, fun h4 => ⟨⟨rfl, trivial⟩, no (by rw [e0, e1, h4, Bool.false_and])⟩⟩
              refine vd_and (vd_cmp C ?_)
              refine vd_callB C (x := "len") does_len (by walk_at "at") ?_
              walk_at "vv"
              refine ⟨more, .inl rfl, ?_⟩
              walk_at "v"
              refine ⟨_, rfl, fun h => ?_, fun h => ⟨⟨rfl, trivial⟩, no (by rw [e0, e1, h4, Bool.true_and]; exact behind_no h)⟩⟩
              obtain ⟨x, rfl⟩ := len_one h
              refine vd_one (vd_callX C FB (by walk_at "at") ?_)
              walk_at "brk"
              walk_at "vv"
              refine ⟨x, rfl, vx_nil ?_⟩
              refine ⟨rfl, ⟨⟨_, _, rfl⟩, trivial⟩, rfl, p, ns, x, rfl, om x (by simp), ⟨rfl, trivial⟩, ?_⟩
              rw [e0, e1, h4, Bool.true_and] at w
              exact w
      · refine ⟨false, k3, false, rfl, ?_⟩
        refine ⟨fun _ => ?_, fun h => (by cases h)⟩
        walk_at "vv"
        exact ⟨⟨rfl, trivial⟩, no (told_no2 k4)⟩
  · refine ⟨false, k1, false, rfl, fun h => (by cases h), fun h => ⟨fun _ => ?_, fun h => (by cases h)⟩⟩
    walk_at "vv"
    exact ⟨⟨rfl, trivial⟩, no (told_no k2)⟩


open PySem PySem.Spec PyProof.Rows L2 Vc
/-! ### check_line, check_source -/
theorem isTup_four {d : D} (h : isTupD 4 d = true) : ∃ a b c e, d = .tuple [a, b, c, e] := by
  cases d with
  | tuple ds =>
    have := of_decide_eq_true h
    match ds, this with
    | [a, b, c, e], _ => exact ⟨a, b, c, e, rfl⟩
    | [], h => simp at h
    | [a], h => simp at h
    | [a, b], h => simp at h
    | [a, b, c], h => simp at h
    | a :: b :: c :: e :: f :: r, h => simp at h; omega
  | _ => cases h
theorem isTup_three {d : D} (h : isTupD 3 d = true) : ∃ a b c, d = .tuple [a, b, c] := by
  cases d with
  | tuple ds =>
    have := of_decide_eq_true h
    match ds, this with
    | [a, b, c], _ => exact ⟨a, b, c, rfl⟩
    | [], h => simp at h
    | [a], h => simp at h
    | [a, b], h => simp at h
    | a :: b :: c :: e :: r, h => simp at h; omega
  | _ => cases h
theorem addN_some {ns ns' : Nm} {k : Str} {d : D} (h : addN ns k d = some ns') : ∃ z, d = .str z ∧ ns' = ns ++ [(z, k)] ∧ nameS z = true ∧ kindOf ns z = none := by
  cases d with
  | str z =>
    have h' : (if nameS z = true ∧ kindOf ns z = none then some (ns ++ [(z, k)]) else none) = some ns' := h
    by_cases q : nameS z = true ∧ kindOf ns z = none
    · rw [if_pos q] at h'
      exact ⟨z, rfl, (Option.some.inj h').symm, q.1, q.2⟩
    · rw [if_neg q] at h'
      cases h'
  | _ => cases h
theorem known_str {ns : Nm} {ks : List Str} {d : D} (h : knownD ns ks d = true) : ∃ z, d = .str z := by
  cases d with
  | str z => exact ⟨z, rfl⟩
  | _ => cases h
def eqS : D → D → Bool
  | .str x, .str y => decide (x = y)
  | _, _ => false
def lineN (ns : Nm) : D → Option Nm
  | .tuple [n, a, b, r] => match addN ns "line" n with
    | some ns' => if (knownD ns' ["bus"] a && (knownD ns' ["bus"] b && (!eqS a b && wholeD 1 1000 r))) = true then some ns' else none
    | none => none
  | _ => none
theorem lineN_tup {ns : Nm} {d : D} (h : isTupD 4 d = false) : lineN ns d = none := by
  unfold lineN
  split
  · rename_i n a b r
    have q : isTupD 4 (.tuple [n, a, b, r]) = true := by
      show decide (((4 : Nat) : Int) = 4) = true
      decide
    rw [q] at h
    cases h
  · rfl
def SCheckN (CN : Addr) (g : Nm → D → Option Nm) : SX := fun as W WX => ∃ p ns d, as = [.own p (.dt (nm ns)), .dat d] ∧ okD d = true ∧ ns.length ≤ 900 ∧
  (∀ ns', g ns d = some ns' → W .none [.own p (.dt (nm ns')), .dat d]) ∧ (g ns d = none → ∀ ns', WX (.ref CN) [.own p (.dt (nm ns')), .dat d])
local macro_rules | `(tactic| walk_at "own") => `(tactic| (refine vx_own (by assumption) (by walk_at "at") rfl (vx_cons ?_)))
theorem fLineN {M : Md} {f CN GN fI : Addr} {fd : FuncData} {t1 : Tok} (T : NetTxt M.prog M.K M.mg CN GN fI) (mN : M.mg "MOST_NUMBER" = some (.int 1000 t1)) (FT : FnD M 1 "is_tuple" 2 SIsTupA) (FA : FnX M 2 "add_name" 3 (SAddN CN)) (FK : FnV M 1 "is_known" 2 SKnown) (FW : FnD M 2 "is_whole_number" 3 SWholeA)
    (F : Fun M.K "check_line" "check_line" sCheckLine f fd) (hm : M.mg "check_line" = some (.ref f)) (b : L2.Binds M.K fd ["names", "line"] []) : FnX M 3 "check_line" 2 (SCheckN CN lineN) := by
  refine fnX_mk (k := 2) (NK := nkCheckLine) (G := gCheckLine) F scCheckLine hm b rfl (by decide +kernel) rfl (by decide) fun X C as W WX hl hS => ?_
  obtain ⟨p, ns, d, rfl, ok, ln, w1, w2⟩ := hS
  show VSs X _ [.own p (.dt (nm ns)), .dat d, .no, .no, .no, .no] _
  refine vss_cons (vs_if (vt_not (vt_val ?_)))
  refine vd_call C FT (by walk_at "at") ?_
  walk_at "vv"
  refine ⟨rfl, d, 4, rfl, ok_no ok, _, rfl, ?_⟩
  refine ⟨fun h => ?_, fun h => ?_⟩
  · have h' : isTupD 4 d = false := by simpa using h
    refine vss_one (vs_raiseN C T (by walk_at "at") ?_)
    walk_at "vv"
    exact ⟨_, _, rfl, by decide, by decide, ⟨rfl, trivial⟩, w2 (lineN_tup h') ns⟩
  · have h' : isTupD 4 d = true := by simpa using h
    obtain ⟨n, a, b, r, rfl⟩ := isTup_four h'
    have lo := (ok_tup ok).2
    have on : okD n = true := okDs_mem lo n (by simp)
    have oa : okD a = true := okDs_mem lo a (by simp)
    have ob : okD b = true := okDs_mem lo b (by simp)
    have or : okD r = true := okDs_mem lo r (by simp)
    refine vss_nil ?_
    walk_at "v"
    refine vs_asg ?_
    walk_at "v"
    refine vg_tup C ?_
    walk_at "vv"
    show VS X _ [.own p (.dt (nm ns)), .dat (.tuple [n, a, b, r]), .dat n, .dat a, .dat b, .dat r] _
    refine vs_callX C FA (by walk_at "at") ?_
    walk_at "own"
    walk_at "v"
    refine vx_cons (vd_str (vx_nil ?_))
    refine ⟨rfl, ⟨⟨_, _, rfl⟩, trivial⟩, rfl, p, ns, n, "line", rfl, on, by omega, by decide, fun ns' hn => ?_, fun hn ns' => ?_⟩
    · obtain ⟨z, rfl, e', hz, _⟩ := addN_some hn
      have lz := ok_str on
      show VSs X _ [.own p (.dt (nm ns')), .dat (.tuple [.str z, a, b, r]), .dat (.str z), .dat a, .dat b, .dat r] _
      have bad : (knownD ns' ["bus"] a && (knownD ns' ["bus"] b && (!eqS a b && wholeD 1 1000 r))) = false → lineN ns (.tuple [.str z, a, b, r]) = none := fun q => by
        show (match addN ns "line" (.str z) with | some ns' => _ | none => none) = none
        rw [hn]
        show (if _ then _ else _) = none
        rw [q, if_neg Bool.false_ne_true]
      have good : (knownD ns' ["bus"] a && (knownD ns' ["bus"] b && (!eqS a b && wholeD 1 1000 r))) = true → lineN ns (.tuple [.str z, a, b, r]) = some ns' := fun q => by
        show (match addN ns "line" (.str z) with | some ns' => _ | none => none) = _
        rw [hn]
        show (if _ then _ else _) = _
        rw [q, if_pos rfl]
      refine vss_cons (vs_if (vt_not (vt_w (vw_and (vt_val ?_)))))
      refine vd_callV C FK (by walk_at "at") ?_
      walk_at "own"
      walk_at "v"
      refine vx_cons (vd_str (vx_nil ?_))
      refine ⟨[.ow 0, .da a], [.str "bus"], rfl, rfl, by decide, rfl, ⟨⟨_, _, rfl⟩, trivial⟩, rfl, p, ns', a, ["bus"], rfl, oa, _, rfl, fun h1 => ?_, fun h1 => ⟨fun _ => ?_, fun h => (by cases h)⟩⟩
      · refine vw_and1 (vt_val ?_)
        refine vd_callV C FK (by walk_at "at") ?_
        walk_at "own"
        walk_at "v"
        refine vx_cons (vd_str (vx_nil ?_))
        refine ⟨[.ow 0, .da b], [.str "bus"], rfl, rfl, by decide, rfl, ⟨⟨_, _, rfl⟩, trivial⟩, rfl, p, ns', b, ["bus"], rfl, ob, _, rfl, ?_⟩
        refine ⟨fun h2 => ?_, fun h2 => ?_⟩
        · have h2' : knownD ns' ["bus"] b = false := by simpa using h2
          refine vss_one (vs_raiseN C T (by walk_at "at") ?_)
          walk_at "vv"
          exact ⟨_, _, rfl, by omega, by decide, ⟨rfl, trivial⟩, w2 (bad (by rw [h1, h2']; rfl)) ns'⟩
        · have h2' : knownD ns' ["bus"] b = true := by simpa using h2
          obtain ⟨x, rfl⟩ := known_str h1
          obtain ⟨y, rfl⟩ := known_str h2'
          refine vss_nil ?_
          refine vss_cons (vs_if (vt_eqS ?_))
          walk_at "v"
          walk_at "v"
          refine ⟨x, y, rfl, rfl, fun h3 => ?_, fun h3 => ?_⟩
          · refine vss_one (vs_raiseN C T (by walk_at "at") ?_)
            walk_at "vv"
            exact ⟨_, _, rfl, by omega, by decide, ⟨rfl, trivial⟩, w2 (bad (by rw [h1, h2', show eqS (.str x) (.str y) = true from h3]; rfl)) ns'⟩
          · refine vss_nil ?_
            refine vss_cons (vs_if (vt_not (vt_val ?_)))
            refine vd_call C FW (by walk_at "at") ?_
            walk_at "vv"
            refine vd_gint C (by walk_at "at") mN ?_
            walk_at "vv"
            refine ⟨rfl, r, 1, 1000, rfl, ok_no or, _, rfl, ?_⟩
            refine ⟨fun h4 => ?_, fun h4 => ?_⟩
            · have h4' : wholeD 1 1000 r = false := by simpa using h4
              refine vss_one (vs_raiseN C T (by walk_at "at") ?_)
              walk_at "vv"
              exact ⟨_, _, rfl, by omega, by decide, ⟨rfl, trivial⟩, w2 (bad (by rw [h1, h2', show eqS (.str x) (.str y) = false from h3, h4']; rfl)) ns'⟩
            · have h4' : wholeD 1 1000 r = true := by simpa using h4
              refine vss_nil ?_
              walk_at "vv"
              exact ⟨⟨rfl, trivial⟩, w1 ns' (good (by rw [h1, h2', show eqS (.str x) (.str y) = false from h3, h4']; rfl))⟩
      · refine vss_one (vs_raiseN C T (by walk_at "at") ?_)
        walk_at "vv"
        exact ⟨_, _, rfl, by omega, by decide, ⟨rfl, trivial⟩, w2 (bad (by rw [h1]; rfl)) ns'⟩
    · refine ⟨⟨rfl, trivial⟩, w2 ?_ ns'⟩
      show (match addN ns "line" n with | some ns' => _ | none => none) = none
      rw [hn]


open PySem PySem.Spec PyProof.Rows L2 Vc
/-! ### check_source -/
def sourceN (ns : Nm) : D → Option Nm
  | .tuple [n, b, r] => match addN ns "source" n with
    | some ns' => if (knownD ns' ["bus"] b && wholeD 1 1000 r) = true then some ns' else none
    | none => none
  | _ => none
theorem sourceN_tup {ns : Nm} {d : D} (h : isTupD 3 d = false) : sourceN ns d = none := by
  unfold sourceN
  split
  · rename_i n b r
    have q : isTupD 3 (.tuple [n, b, r]) = true := by
      show decide (((3 : Nat) : Int) = 3) = true
      decide
    rw [q] at h
    cases h
  · rfl
theorem fSourceN {M : Md} {f CN GN fI : Addr} {fd : FuncData} {t1 : Tok} (T : NetTxt M.prog M.K M.mg CN GN fI) (mN : M.mg "MOST_NUMBER" = some (.int 1000 t1)) (FT : FnD M 1 "is_tuple" 2 SIsTupA) (FA : FnX M 2 "add_name" 3 (SAddN CN)) (FK : FnV M 1 "is_known" 2 SKnown) (FW : FnD M 2 "is_whole_number" 3 SWholeA)
    (F : Fun M.K "check_source" "check_source" sCheckSource f fd) (hm : M.mg "check_source" = some (.ref f)) (b : L2.Binds M.K fd ["names", "source"] []) : FnX M 3 "check_source" 2 (SCheckN CN sourceN) := by
  refine fnX_mk (k := 2) (NK := nkCheckSource) (G := gCheckSource) F scCheckSource hm b rfl (by decide +kernel) rfl (by decide) fun X C as W WX hl hS => ?_
  obtain ⟨p, ns, d, rfl, ok, ln, w1, w2⟩ := hS
  show VSs X _ [.own p (.dt (nm ns)), .dat d, .no, .no, .no] _
  refine vss_cons (vs_if (vt_not (vt_val ?_)))
  refine vd_call C FT (by walk_at "at") ?_
  walk_at "vv"
  refine ⟨rfl, d, 3, rfl, ok_no ok, _, rfl, ?_⟩
  refine ⟨fun h => ?_, fun h => ?_⟩
  · have h' : isTupD 3 d = false := by simpa using h
    refine vss_one (vs_raiseN C T (by walk_at "at") ?_)
    walk_at "vv"
    exact ⟨_, _, rfl, by decide, by decide, ⟨rfl, trivial⟩, w2 (sourceN_tup h') ns⟩
  · have h' : isTupD 3 d = true := by simpa using h
    obtain ⟨n, b, r, rfl⟩ := isTup_three h'
    have lo := (ok_tup ok).2
    have on : okD n = true := okDs_mem lo n (by simp)
    have ob : okD b = true := okDs_mem lo b (by simp)
    have or : okD r = true := okDs_mem lo r (by simp)
    refine vss_nil ?_
    walk_at "v"
    refine vs_asg ?_
    walk_at "v"
    refine vg_tup C ?_
    walk_at "vv"
    show VS X _ [.own p (.dt (nm ns)), .dat (.tuple [n, b, r]), .dat n, .dat b, .dat r] _
    refine vs_callX C FA (by walk_at "at") ?_
    walk_at "own"
    walk_at "v"
    refine vx_cons (vd_str (vx_nil ?_))
    refine ⟨rfl, ⟨⟨_, _, rfl⟩, trivial⟩, rfl, p, ns, n, "source", rfl, on, by omega, by decide, fun ns' hn => ?_, fun hn ns' => ?_⟩
    · obtain ⟨z, rfl, e', hz, _⟩ := addN_some hn
      have lz := ok_str on
      show VSs X _ [.own p (.dt (nm ns')), .dat (.tuple [.str z, b, r]), .dat (.str z), .dat b, .dat r] _
      have bad : (knownD ns' ["bus"] b && wholeD 1 1000 r) = false → sourceN ns (.tuple [.str z, b, r]) = none := fun q => by
        show (match addN ns "source" (.str z) with | some ns' => _ | none => none) = none
        rw [hn]
        show (if _ then _ else _) = none
        rw [q, if_neg Bool.false_ne_true]
      have good : (knownD ns' ["bus"] b && wholeD 1 1000 r) = true → sourceN ns (.tuple [.str z, b, r]) = some ns' := fun q => by
        show (match addN ns "source" (.str z) with | some ns' => _ | none => none) = _
        rw [hn]
        show (if _ then _ else _) = _
        rw [q, if_pos rfl]
      refine vss_cons (vs_if (vt_not (vt_val ?_)))
      refine vd_callV C FK (by walk_at "at") ?_
      walk_at "own"
      walk_at "v"
      refine vx_cons (vd_str (vx_nil ?_))
      refine ⟨[.ow 0, .da b], [.str "bus"], rfl, rfl, by decide, rfl, ⟨⟨_, _, rfl⟩, trivial⟩, rfl, p, ns', b, ["bus"], rfl, ob, _, rfl, ?_⟩
      refine ⟨fun h2 => ?_, fun h2 => ?_⟩
      · have h2' : knownD ns' ["bus"] b = false := by simpa using h2
        refine vss_one (vs_raiseN C T (by walk_at "at") ?_)
        walk_at "vv"
        exact ⟨_, _, rfl, by omega, by decide, ⟨rfl, trivial⟩, w2 (bad (by rw [h2']; rfl)) ns'⟩
      · have h2' : knownD ns' ["bus"] b = true := by simpa using h2
        refine vss_nil ?_
        refine vss_cons (vs_if (vt_not (vt_val ?_)))
        refine vd_call C FW (by walk_at "at") ?_
        walk_at "vv"
        refine vd_gint C (by walk_at "at") mN ?_
        walk_at "vv"
        refine ⟨rfl, r, 1, 1000, rfl, ok_no or, _, rfl, ?_⟩
        refine ⟨fun h4 => ?_, fun h4 => ?_⟩
        · have h4' : wholeD 1 1000 r = false := by simpa using h4
          refine vss_one (vs_raiseN C T (by walk_at "at") ?_)
          walk_at "vv"
          exact ⟨_, _, rfl, by omega, by decide, ⟨rfl, trivial⟩, w2 (bad (by rw [h2', h4']; rfl)) ns'⟩
        · have h4' : wholeD 1 1000 r = true := by simpa using h4
          refine vss_nil ?_
          walk_at "vv"
          exact ⟨⟨rfl, trivial⟩, w1 ns' (good (by rw [h2', h4']; rfl))⟩
    · refine ⟨⟨rfl, trivial⟩, w2 ?_ ns'⟩
      show (match addN ns "source" n with | some ns' => _ | none => none) = none
      rw [hn]


open PySem PySem.Spec PyProof.Rows L2 Vc
/-! ### check_rules, check_many -/
def errD (d : D) : Bool := match d with
  | .tuple [.int n, .int m] => fracD (.tuple [.int n, .int m]) && (decide (0 ≤ n) && (decide (n < m) && decide (m ≤ 1000)))
  | _ => false
theorem err_no {d : D} (h : fracD d = false) : errD d = false := by
  unfold errD
  split
  · rw [h, Bool.false_and]
  · rfl
def rulesD (d : D) : Bool := match d with
  | .tuple [e, .int l, m, t] => errD e && (wholeD 1 6 (.int l) && (wholeD l 6 m && wholeD 1 40 t))
  | _ => false
theorem rules_tup {d : D} (h : isTupD 4 d = false) : rulesD d = false := by
  unfold rulesD
  split
  · rename_i e l m t
    have q : isTupD 4 (.tuple [e, .int l, m, t]) = true := by
      show decide (((4 : Nat) : Int) = 4) = true
      decide
    rw [q] at h
    cases h
  · rfl
theorem rules_err {e l m t : D} (h : errD e = false) : rulesD (.tuple [e, l, m, t]) = false := by
  cases l with
  | int l =>
    show (errD e && _) = false
    rw [h, Bool.false_and]
  | _ => rfl
theorem rules_least {e l m t : D} (h : wholeD 1 6 l = false) : rulesD (.tuple [e, l, m, t]) = false := by
  cases l with
  | int l =>
    show (errD e && (wholeD 1 6 (.int l) && _)) = false
    rw [h, Bool.false_and, Bool.and_false]
  | _ => rfl
def SRules (CN : Addr) : SX := fun as W WX => ∃ d, as = [.dat d] ∧ okD d = true ∧ (rulesD d = true → W .none [.dat d]) ∧ (rulesD d = false → WX (.ref CN) [.dat d])
theorem fRules {M : Md} {f CN GN fI : Addr} {fd : FuncData} {t1 t2 t3 : Tok} (T : NetTxt M.prog M.K M.mg CN GN fI) (mN : M.mg "MOST_NUMBER" = some (.int 1000 t1)) (mA : M.mg "MOST_AGE" = some (.int 6 t2)) (mT : M.mg "MOST_TICKS" = some (.int 40 t3)) (FT : FnD M 1 "is_tuple" 2 SIsTupA) (FF : FnD M 2 "is_fraction" 1 (SOk1 fracD)) (FW : FnD M 2 "is_whole_number" 3 SWholeA)
    (F : Fun M.K "check_rules" "check_rules" sCheckRules f fd) (hm : M.mg "check_rules" = some (.ref f)) (b : L2.Binds M.K fd ["rules"] []) : FnX M 3 "check_rules" 1 (SRules CN) := by
  refine fnX_mk (k := 2) (NK := nkCheckRules) (G := gCheckRules) F scCheckRules hm b rfl (by decide +kernel) rfl (by decide) fun X C as W WX hl hS => ?_
  obtain ⟨d, rfl, ok, w1, w2⟩ := hS
  show VSs X _ [.dat d, .no, .no, .no, .no] _
  refine vss_cons (vs_if (vt_not (vt_val ?_)))
  refine vd_call C FT (by walk_at "at") ?_
  walk_at "vv"
  refine ⟨rfl, d, 4, rfl, ok_no ok, _, rfl, ?_⟩
  refine ⟨fun h => ?_, fun h => ?_⟩
  · have h' : isTupD 4 d = false := by simpa using h
    refine vss_one (vs_raiseN C T (by walk_at "at") ?_)
    walk_at "vv"
    exact ⟨_, _, rfl, by decide, by decide, trivial, w2 (rules_tup h')⟩
  · have h' : isTupD 4 d = true := by simpa using h
    obtain ⟨e, l, m, t, rfl⟩ := isTup_four h'
    have lo := (ok_tup ok).2
    have oe : okD e = true := okDs_mem lo e (by simp)
    have ol : okD l = true := okDs_mem lo l (by simp)
    have om : okD m = true := okDs_mem lo m (by simp)
    have ot : okD t = true := okDs_mem lo t (by simp)
    refine vss_nil ?_
    walk_at "v"
    refine vs_asg ?_
    walk_at "v"
    refine vg_tup C ?_
    walk_at "v"
    walk_at "v"
    walk_at "v"
    walk_at "v"
    walk_at "v"
    walk_at "v"
    walk_at "v"
    walk_at "v"
    walk_at "v"
    show VSs X _ [.dat (.tuple [e, l, m, t]), .dat e, .dat l, .dat m, .dat t] _
    refine vss_cons (vs_if (vt_not (vt_w (vw_and (vt_val ?_)))))
    refine vd_call C FF (by walk_at "at") ?_
    walk_at "vv"
    refine ⟨rfl, e, rfl, oe, _, rfl, fun h1 => ?_, fun h1 => ⟨fun _ => ?_, fun h => (by cases h)⟩⟩
    · obtain ⟨n, k, rfl⟩ := frac_shape h1
      have e0 : errD (.tuple [.int n, .int k]) = (decide (0 ≤ n) && (decide (n < k) && decide (k ≤ 1000))) := by
        show (fracD _ && _) = _
        rw [h1, Bool.true_and]
      refine vw_and1 (vt_chain3 C ?_)
      walk_at "vv"
      refine ⟨.int n, rfl, ?_⟩
      show _ ∧ _
      refine ⟨fun h2 => ?_, fun h2 => ⟨fun _ => ?_, fun h => (by cases h)⟩⟩
      · walk_at "vv"
        refine ⟨.int k, rfl, ?_⟩
        show _ ∧ _
        refine ⟨fun h3 => ?_, fun h3 => ⟨fun _ => ?_, fun h => (by cases h)⟩⟩
        · refine vd_gint C (by walk_at "at") mN ?_
          refine ⟨fun h4 => ?_, fun h4 => ?_⟩
          · have h4' : decide (k ≤ 1000) = false := by simpa using h4
            refine vss_one (vs_raiseN C T (by walk_at "at") ?_)
            walk_at "vv"
            exact ⟨_, _, rfl, by decide, by decide, trivial, w2 (rules_err (by rw [e0, h4', Bool.and_false, Bool.and_false]))⟩
          · have h4' : decide (k ≤ 1000) = true := by simpa using h4
            have eg : errD (.tuple [.int n, .int k]) = true := by rw [e0, h2, h3, h4']; rfl
            refine vss_nil ?_
            refine vss_cons (vs_if (vt_not (vt_w (vw_and (vt_val ?_)))))
            refine vd_call C FW (by walk_at "at") ?_
            walk_at "vv"
            refine vd_gint C (by walk_at "at") mA ?_
            walk_at "vv"
            refine ⟨rfl, l, 1, 6, rfl, ok_no ol, _, rfl, fun h5 => ?_, fun h5 => ⟨fun _ => ?_, fun h => (by cases h)⟩⟩
            · obtain ⟨i, rfl⟩ : ∃ i, l = .int i := by
                cases l with
                | int i => exact ⟨i, rfl⟩
                | _ => cases h5
              have e9 : rulesD (.tuple [.tuple [.int n, .int k], .int i, m, t]) = (wholeD i 6 m && wholeD 1 40 t) := by
                show (errD _ && (wholeD 1 6 (.int i) && _)) = _
                rw [eg, h5, Bool.true_and, Bool.true_and]
              refine vw_and1 (vt_val ?_)
              refine vd_call C FW (by walk_at "at") ?_
              walk_at "vv"
              refine vd_gint C (by walk_at "at") mA ?_
              walk_at "vv"
              refine ⟨rfl, m, i, 6, rfl, ok_no om, _, rfl, ?_⟩
              refine ⟨fun h6 => ?_, fun h6 => ?_⟩
              · have h6' : wholeD i 6 m = false := by simpa using h6
                refine vss_one (vs_raiseN C T (by walk_at "at") ?_)
                walk_at "vv"
                exact ⟨_, _, rfl, by decide, by decide, trivial, w2 (by rw [e9, h6', Bool.false_and])⟩
              · have h6' : wholeD i 6 m = true := by simpa using h6
                refine vss_nil ?_
                refine vss_cons (vs_if (vt_not (vt_val ?_)))
                refine vd_call C FW (by walk_at "at") ?_
                walk_at "vv"
                refine vd_gint C (by walk_at "at") mT ?_
                walk_at "vv"
                refine ⟨rfl, t, 1, 40, rfl, ok_no ot, _, rfl, ?_⟩
                refine ⟨fun h7 => ?_, fun h7 => ?_⟩
                · have h7' : wholeD 1 40 t = false := by simpa using h7
                  refine vss_one (vs_raiseN C T (by walk_at "at") ?_)
                  walk_at "vv"
                  exact ⟨_, _, rfl, by decide, by decide, trivial, w2 (by rw [e9, h7', Bool.and_false])⟩
                · have h7' : wholeD 1 40 t = true := by simpa using h7
                  refine vss_nil ?_
                  walk_at "vv"
                  exact ⟨trivial, w1 (by rw [e9, h6', h7']; rfl)⟩
            · refine vss_one (vs_raiseN C T (by walk_at "at") ?_)
              walk_at "vv"
              exact ⟨_, _, rfl, by decide, by decide, trivial, w2 (rules_least h5)⟩
        · refine vss_one (vs_raiseN C T (by walk_at "at") ?_)
          walk_at "vv"
          exact ⟨_, _, rfl, by decide, by decide, trivial, w2 (rules_err (by rw [e0, h3, Bool.false_and, Bool.and_false]))⟩
      · refine vss_one (vs_raiseN C T (by walk_at "at") ?_)
        walk_at "vv"
        exact ⟨_, _, rfl, by decide, by decide, trivial, w2 (rules_err (by rw [e0, h2, Bool.false_and]))⟩
    · refine vss_one (vs_raiseN C T (by walk_at "at") ?_)
      walk_at "vv"
      exact ⟨_, _, rfl, by decide, by decide, trivial, w2 (rules_err (err_no h1))⟩


open PySem PySem.Spec PyProof.Rows L2 Vc
/-! ### check_many, check_guard -/
def manyD (lo hi : Int) : D → Bool
  | .tuple ds => decide (lo ≤ (ds.length : Int)) && decide ((ds.length : Int) ≤ hi)
  | _ => false
theorem many_no {lo hi : Int} {d : D} (h : ∀ ds, d ≠ .tuple ds) : manyD lo hi d = false := by
  cases d with
  | tuple l => exact absurd rfl (h l)
  | _ => rfl
theorem few_len {i : Int} (h0 : 0 ≤ i) (h1 : i ≤ 16) : (Str.ofString (toString i)).length ≤ 2 ∧ i.natAbs.log2 < 1920 := by
  have e : ∀ n : _root_.Fin 17, (Str.ofString (toString ((n.val : Nat) : Int))).length ≤ 2 ∧ (((n.val : Nat) : Int)).natAbs.log2 < 1920 := by decide +kernel
  have := e ⟨i.toNat, by omega⟩
  have ei : ((i.toNat : Nat) : Int) = i := Int.toNat_of_nonneg h0
  simp only [ei] at this
  exact this
theorem vj_consL {X : Cx} {e : Expr} {es : List Expr} {acc : Str} {ρ : En} {PS : Str → En → Prop} {n : Nat} (m : Nat) (hn : acc.length ≤ n) (h : VD X e ρ fun d ρ1 => ∃ y : Str, d = .str y ∧ y.length ≤ m ∧ ∀ acc', acc'.length ≤ n + m → VJ X es acc' ρ1 PS) (hb : n + m ≤ 100000 := by decide) : VJ X (e :: es) acc ρ PS :=
  vj_cons (h.imp fun d ρ1 ⟨y, e1, e2, e3⟩ => ⟨y, e1, by rw [Str.length_append]; omega, e3 _ (by rw [Str.length_append]; omega)⟩)
def SMany (CN : Addr) : SX := fun as W WX => ∃ kd d lo hi, as = [.dat (.str kd), .dat d, .dat (.int lo), .dat (.int hi)] ∧ okD d = true ∧ kd.length ≤ 1000 ∧ 0 ≤ lo ∧ lo ≤ 16 ∧ 0 ≤ hi ∧ hi ≤ 16 ∧ (manyD lo hi d = true → W .none as) ∧ (manyD lo hi d = false → WX (.ref CN) as)
theorem fMany {M : Md} {f CN GN fI : Addr} {fd : FuncData} (T : NetTxt M.prog M.K M.mg CN GN fI) (ms : M.mg "isinstance" = none) (mt : M.mg "tuple" = none) (ml : M.mg "len" = none)
    (F : Fun M.K "check_many" "check_many" sCheckMany f fd) (hm : M.mg "check_many" = some (.ref f)) (b : L2.Binds M.K fd ["kind", "things", "least", "most"] []) : FnX M 1 "check_many" 4 (SMany CN) := by
  refine fnX_mk (k := 0) (NK := nkCheckMany) (G := gCheckMany) F scCheckMany hm b rfl (by decide +kernel) rfl (by decide) fun X C as W WX hl hS => ?_
  obtain ⟨kd, d, lo, hi, rfl, ok, lk, a0, a1, b0, b1, w1, w2⟩ := hS
  show VSs X _ [.dat (.str kd), .dat d, .dat (.int lo), .dat (.int hi)] _
  refine vss_cons (vs_if (vt_not (vt_val ?_)))
  refine vd_isi C (T := "tuple") (by walk_at "at") (by walk_at "at") ?_
  walk_at "v"
  rcases kit_tup (ok_no ok) with ⟨ds, rfl, k1⟩ | ⟨k1, k2⟩
  · refine ⟨true, k1, true, rfl, fun h => (by cases h), fun _ => ?_⟩
    refine vss_nil ?_
    refine vss_cons (vs_if (vt_not (vt_chain C ?_)))
    walk_at "v"
    refine vd_callB C (x := "len") does_len (by walk_at "at") ?_
    walk_at "vv"
    refine ⟨ds, .inr rfl, ?_⟩
    show _ ∧ _
    have e0 : manyD lo hi (.tuple ds) = (decide (lo ≤ (ds.length : Int)) && decide ((ds.length : Int) ≤ hi)) := rfl
    refine ⟨fun h1 => ?_, fun h1 => ⟨fun _ => ?_, fun h => (by cases h)⟩⟩
    · walk_at "v"
      refine ⟨fun h2 => ?_, fun h2 => ?_⟩
      · have h2' : decide ((ds.length : Int) ≤ hi) = false := by simpa using h2
        refine vss_one (vs_raiseN C T (by walk_at "at") ?_)
        refine va_cons ?_
        walk_at "v"
        refine va_cons (vd_fs ?_)
        refine vj_consL (n := 0) 4 (by decide) (vd_str ⟨_, rfl, by decide, fun c1 l1 => ?_⟩)
        refine vj_consL 2 l1 (vd_fmt ?_)
        walk_at "v"
        refine .inr ⟨lo, rfl, (few_len a0 a1).2, _, rfl, (few_len a0 a1).1, fun c2 l2 => ?_⟩
        refine vj_consL 4 l2 (vd_str ⟨_, rfl, by decide, fun c3 l3 => ?_⟩)
        refine vj_consL 2 l3 (vd_fmt ?_)
        walk_at "v"
        refine .inr ⟨hi, rfl, (few_len b0 b1).2, _, rfl, (few_len b0 b1).1, fun c4 l4 => ?_⟩
        refine vj_consL 8 l4 (vd_str ⟨_, rfl, by decide, fun c5 l5 => ?_⟩)
        refine vj_nil (va_nil ?_)
        exact ⟨_, _, rfl, by omega, by omega, trivial, w2 (by rw [e0, h2', Bool.and_false])⟩
      · have h2' : decide ((ds.length : Int) ≤ hi) = true := by simpa using h2
        refine vss_nil ?_
        walk_at "vv"
        exact ⟨trivial, w1 (by rw [e0, h1, h2']; rfl)⟩
    · refine vss_one (vs_raiseN C T (by walk_at "at") ?_)
      refine va_cons ?_
      walk_at "v"
      refine va_cons (vd_fs ?_)
      refine vj_consL (n := 0) 4 (by decide) (vd_str ⟨_, rfl, by decide, fun c1 l1 => ?_⟩)
      refine vj_consL 2 l1 (vd_fmt ?_)
      walk_at "v"
      refine .inr ⟨lo, rfl, (few_len a0 a1).2, _, rfl, (few_len a0 a1).1, fun c2 l2 => ?_⟩
      refine vj_consL 4 l2 (vd_str ⟨_, rfl, by decide, fun c3 l3 => ?_⟩)
      refine vj_consL 2 l3 (vd_fmt ?_)
      walk_at "v"
      refine .inr ⟨hi, rfl, (few_len b0 b1).2, _, rfl, (few_len b0 b1).1, fun c4 l4 => ?_⟩
      refine vj_consL 8 l4 (vd_str ⟨_, rfl, by decide, fun c5 l5 => ?_⟩)
      refine vj_nil (va_nil ?_)
      exact ⟨_, _, rfl, by omega, by omega, trivial, w2 (by rw [e0, h1, Bool.false_and])⟩
  · refine ⟨false, k1, false, rfl, fun _ => ?_, fun h => (by cases h)⟩
    refine vss_one (vs_raiseN C T (by walk_at "at") ?_)
    walk_at "vv"
    exact ⟨_, _, rfl, by omega, by decide, trivial, w2 (many_no k2)⟩


open PySem PySem.Spec PyProof.Rows L2 Vc
/-! ### check_guard -/
def asBr : D → Br
  | .tuple [.str x, .int e] => (x, e)
  | _ => ("", 0)
theorem breaker_br {ns : Nm} {d : D} (h : breakerD ns d = true) : d = brD (asBr d) := by
  unfold breakerD at h
  split at h
  · rename_i x e
    cases x with
    | str z => rfl
    | none => simp [knownD] at h
    | bool b => simp [knownD] at h
    | int i => simp [knownD] at h
    | list l => simp [knownD] at h
    | tuple l => simp [knownD] at h
    | dict l => simp [knownD] at h
  · cases h
theorem brs_br {ns : Nm} : ∀ {ds : List D}, ds.all (breakerD ns) = true → ds = (ds.map asBr).map brD
  | [], _ => rfl
  | d :: ds, h => by
    rw [List.all_cons, Bool.and_eq_true] at h
    rw [List.map_cons, List.map_cons, ← breaker_br h.1, ← brs_br h.2]
def opensD (ns : Nm) : D → Bool
  | .tuple ds => !ds.isEmpty && (ds.all (breakerD ns) && asc (ds.map asBr))
  | _ => false
theorem opens_no {ns : Nm} {d : D} (h : ∀ ds, d ≠ .tuple ds) : opensD ns d = false := by
  cases d with
  | tuple l => exact absurd rfl (h l)
  | _ => rfl
def guardN (ns : Nm) : D → Option Nm
  | .tuple [n, t, dl, o] => match addN ns "guard" n with
    | some ns' => if (toldD ns' t && (wholeD 0 20 dl && opensD ns' o)) = true then some ns' else none
    | none => none
  | _ => none
theorem guardN_tup {ns : Nm} {d : D} (h : isTupD 4 d = false) : guardN ns d = none := by
  unfold guardN
  split
  · rename_i n a b r
    have q : isTupD 4 (.tuple [n, a, b, r]) = true := by
      show decide (((4 : Nat) : Int) = 4) = true
      decide
    rw [q] at h
    cases h
  · rfl
theorem fGuardN {M : Md} {f CN GN fI : Addr} {fd : FuncData} {t1 : Tok} (T : NetTxt M.prog M.K M.mg CN GN fI) (ms : M.mg "isinstance" = none) (mt : M.mg "tuple" = none) (ma : M.mg "all" = none) (mD : M.mg "MOST_DELAY" = some (.int 20 t1)) (FT : FnD M 1 "is_tuple" 2 SIsTupA) (FA : FnX M 2 "add_name" 3 (SAddN CN)) (FO : FnX M 4 "is_told" 2 (SBreaker toldD)) (FW : FnD M 2 "is_whole_number" 3 SWholeA) (FB : FnX M 2 "is_breaker" 2 (SBreaker breakerD)) (FC : FnD M 1 "is_ascending" 1 SAsc)
    (F : Fun M.K "check_guard" "check_guard" sCheckGuard f fd) (hm : M.mg "check_guard" = some (.ref f)) (b : L2.Binds M.K fd ["names", "guard"] []) : FnX M 5 "check_guard" 2 (SCheckN CN guardN) := by
  refine fnX_mk (k := 4) (NK := nkCheckGuard) (G := gCheckGuard) F scCheckGuard hm b rfl (by decide +kernel) rfl (by decide) fun X C as W WX hl hS => ?_
  obtain ⟨p, ns, d, rfl, ok, ln, w1, w2⟩ := hS
  show VSs X _ [.own p (.dt (nm ns)), .dat d, .no, .no, .no, .no, .no] _
  refine vss_cons (vs_if (vt_not (vt_val ?_)))
  refine vd_call C FT (by walk_at "at") ?_
  walk_at "vv"
  refine ⟨rfl, d, 4, rfl, ok_no ok, _, rfl, ?_⟩
  refine ⟨fun h => ?_, fun h => ?_⟩
  · have h' : isTupD 4 d = false := by simpa using h
    refine vss_one (vs_raiseN C T (by walk_at "at") ?_)
    walk_at "vv"
    exact ⟨_, _, rfl, by decide, by decide, ⟨rfl, trivial⟩, w2 (guardN_tup h') ns⟩
  · have h' : isTupD 4 d = true := by simpa using h
    obtain ⟨n, t, dl, o, rfl⟩ := isTup_four h'
    have lo := (ok_tup ok).2
    have on : okD n = true := okDs_mem lo n (by simp)
    have ot : okD t = true := okDs_mem lo t (by simp)
    have odl : okD dl = true := okDs_mem lo dl (by simp)
    have oo : okD o = true := okDs_mem lo o (by simp)
    refine vss_nil ?_
    walk_at "v"
    refine vs_asg ?_
    walk_at "v"
    refine vg_tup C ?_
    walk_at "vv"
    show VS X _ [.own p (.dt (nm ns)), .dat (.tuple [n, t, dl, o]), .dat n, .dat t, .dat dl, .dat o, .no] _
    refine vs_callX C FA (by walk_at "at") ?_
    walk_at "own"
    walk_at "v"
    refine vx_cons (vd_str (vx_nil ?_))
    refine ⟨rfl, ⟨⟨_, _, rfl⟩, trivial⟩, rfl, p, ns, n, "guard", rfl, on, by omega, by decide, fun ns' hn => ?_, fun hn ns' => ?_⟩
    · obtain ⟨z, rfl, e', hz, _⟩ := addN_some hn
      have lz := ok_str on
      show VSs X _ [.own p (.dt (nm ns')), .dat (.tuple [.str z, t, dl, o]), .dat (.str z), .dat t, .dat dl, .dat o, .no] _
      have bad : (toldD ns' t && (wholeD 0 20 dl && opensD ns' o)) = false → guardN ns (.tuple [.str z, t, dl, o]) = none := fun q => by
        show (match addN ns "guard" (.str z) with | some ns' => _ | none => none) = none
        rw [hn]
        show (if _ then _ else _) = none
        rw [q, if_neg Bool.false_ne_true]
      have good : (toldD ns' t && (wholeD 0 20 dl && opensD ns' o)) = true → guardN ns (.tuple [.str z, t, dl, o]) = some ns' := fun q => by
        show (match addN ns "guard" (.str z) with | some ns' => _ | none => none) = _
        rw [hn]
        show (if _ then _ else _) = _
        rw [q, if_pos rfl]
      refine vss_cons (vs_if (vt_not (vt_val ?_)))
      refine vd_callX C FO (by walk_at "at") ?_
      walk_at "own"
      walk_at "v"
      refine vx_nil ?_
      refine ⟨rfl, ⟨⟨_, _, rfl⟩, trivial⟩, rfl, p, ns', t, rfl, ot, _, rfl, ?_⟩
      refine ⟨fun h1 => ?_, fun h1 => ?_⟩
      · have h1' : toldD ns' t = false := by simpa using h1
        refine vss_one (vs_raiseN C T (by walk_at "at") ?_)
        walk_at "vv"
        exact ⟨_, _, rfl, by omega, by decide, ⟨rfl, trivial⟩, w2 (bad (by rw [h1']; rfl)) ns'⟩
      · have h1' : toldD ns' t = true := by simpa using h1
        refine vss_nil ?_
        refine vss_cons (vs_if (vt_not (vt_val ?_)))
        refine vd_call C FW (by walk_at "at") ?_
        walk_at "vv"
        refine vd_gint C (by walk_at "at") mD ?_
        walk_at "vv"
        refine ⟨rfl, dl, 0, 20, rfl, ok_no odl, _, rfl, ?_⟩
        refine ⟨fun h2 => ?_, fun h2 => ?_⟩
        · have h2' : wholeD 0 20 dl = false := by simpa using h2
          refine vss_one (vs_raiseN C T (by walk_at "at") ?_)
          walk_at "vv"
          exact ⟨_, _, rfl, by omega, by decide, ⟨rfl, trivial⟩, w2 (bad (by rw [h1', h2']; rfl)) ns'⟩
        · have h2' : wholeD 0 20 dl = true := by simpa using h2
          have bad2 : opensD ns' o = false → guardN ns (.tuple [.str z, t, dl, o]) = none := fun q => bad (by rw [q, Bool.and_false, Bool.and_false])
          refine vss_nil ?_
          refine vss_cons (vs_if (vt_not (vt_w (vw_and (vt_val ?_)))))
          refine vd_isi C (T := "tuple") (by walk_at "at") (by walk_at "at") ?_
          walk_at "v"
          rcases kit_tup (ok_no oo) with ⟨ds, rfl, k1⟩ | ⟨k1, k2⟩
          · refine ⟨true, k1, true, rfl, fun _ => ?_, fun h => (by cases h)⟩
            obtain ⟨ld, ldo⟩ := ok_tup oo
            refine vw_and (vt_tup ?_)
            walk_at "v"
            refine ⟨ds, rfl, fun h3 => ?_, fun h3 => ⟨fun _ => ?_, fun h => (by cases h)⟩⟩
            · have e3 : opensD ns' (.tuple ds) = (ds.all (breakerD ns') && asc (ds.map asBr)) := by
                show (!ds.isEmpty && _) = _
                rw [h3, Bool.true_and]
              refine vw_and1 (vt_val ?_)
              refine vd_callB C (does_all C) (by walk_at "at") ?_
              refine va_cons (vn_vd ?_)
              refine vn_lc C nkCheckGuard0 gCheckGuard0 (i := 6) (by walk_at "at") ?_
              refine vi_tup ?_
              walk_at "v"
              refine ⟨ds, rfl, by omega, fun j acc ρ' => acc = ((ds.take j).map (breakerD ns')).map PyData.bool ∧ ρ' = [.own p (.dt (nm ns')), .dat (.tuple [.str z, t, dl, .tuple ds]), .dat (.str z), .dat t, .dat dl, .dat (.tuple ds), .no], ⟨rfl, rfl⟩, fun j d acc ρ' hj hW X' C' => ?_, fun acc ρ' hW => ?_⟩
              · obtain ⟨rfl, rfl⟩ := hW
                have od : okD d = true := okDs_mem ldo d (List.mem_of_getElem? hj)
                refine vd_callX C' FB (by walk_at "at") ?_
                walk_at "own"
                walk_at "v"
                refine vx_nil ?_
                refine ⟨rfl, ⟨⟨_, _, rfl⟩, trivial⟩, rfl, p, ns', d, rfl, od, ?_, rfl⟩
                rw [List.take_succ, hj, List.map_append, List.map_append]
                rfl
              · obtain ⟨rfl, rfl⟩ := hW
                refine va_nil ?_
                refine ⟨_, rfl, ?_⟩
                rw [List.take_length, List.all_map]
                refine ⟨_, rfl, ?_⟩
                have ea : (ds.all (id ∘ breakerD ns')) = ds.all (breakerD ns') := rfl
                rw [ea]
                refine ⟨fun h4 => ?_, fun h4 => ?_⟩
                · have h4' : ds.all (breakerD ns') = false := by simpa using h4
                  refine vss_one (vs_raiseN C T (by walk_at "at") ?_)
                  walk_at "vv"
                  exact ⟨_, _, rfl, by omega, by decide, ⟨rfl, trivial⟩, w2 (bad2 (by rw [e3, h4', Bool.false_and])) ns'⟩
                · have h4' : ds.all (breakerD ns') = true := by simpa using h4
                  have eb := brs_br h4'
                  have ne : ds.map asBr ≠ [] := fun q => by
                    rw [q] at eb
                    rw [eb] at h3
                    cases h3
                  refine vss_nil ?_
                  refine vss_cons (vs_if (vt_not (vt_val ?_)))
                  refine vd_call C FC (by walk_at "at") ?_
                  walk_at "vv"
                  refine ⟨rfl, ds.map asBr, by rw [← eb], ne, by rw [List.length_map]; exact ld, _, rfl, ?_⟩
                  refine ⟨fun h5 => ?_, fun h5 => ?_⟩
                  · have h5' : asc (ds.map asBr) = false := by simpa using h5
                    refine vss_one (vs_raiseN C T (by walk_at "at") ?_)
                    walk_at "vv"
                    exact ⟨_, _, rfl, by omega, by decide, ⟨rfl, trivial⟩, w2 (bad2 (by rw [e3, h5', Bool.and_false])) ns'⟩
                  · have h5' : asc (ds.map asBr) = true := by simpa using h5
                    refine vss_nil ?_
                    walk_at "vv"
                    exact ⟨⟨rfl, trivial⟩, w1 ns' (good (by rw [h1', h2', e3, h4', h5']; rfl))⟩
            · refine vss_one (vs_raiseN C T (by walk_at "at") ?_)
              walk_at "vv"
              refine ⟨_, _, rfl, by omega, by decide, ⟨rfl, trivial⟩, w2 (bad2 ?_) ns'⟩
              show (!ds.isEmpty && _) = false
              rw [h3, Bool.false_and]
          · refine ⟨false, k1, false, rfl, fun h => (by cases h), fun h => ⟨fun _ => ?_, fun h => (by cases h)⟩⟩
            refine vss_one (vs_raiseN C T (by walk_at "at") ?_)
            walk_at "vv"
            exact ⟨_, _, rfl, by omega, by decide, ⟨rfl, trivial⟩, w2 (bad2 (opens_no k2)) ns'⟩
    · refine ⟨⟨rfl, trivial⟩, w2 ?_ ns'⟩
      show (match addN ns "guard" n with | some ns' => _ | none => none) = none
      rw [hn]


open PySem PySem.Spec PyProof.Rows L2 Vc
/-! ### check_net, is_net -/
def allN (g : Nm → D → Option Nm) : Nm → List D → Option Nm
  | ns, [] => some ns
  | ns, d :: ds => match g ns d with
    | some ns' => allN g ns' ds
    | none => none
theorem allN_snoc {g : Nm → D → Option Nm} {d : D} : ∀ {ds : List D} {ns : Nm}, allN g ns (ds ++ [d]) = match allN g ns ds with
    | some ns' => g ns' d
    | none => none
  | [], ns => by
    show (match g ns d with | some ns' => some ns' | none => none) = g ns d
    cases g ns d <;> rfl
  | e :: ds, ns => by
    show (match g ns e with | some ns' => allN g ns' (ds ++ [d]) | none => none) = match (match g ns e with | some ns' => allN g ns' ds | none => none) with | some ns' => g ns' d | none => none
    cases g ns e with
    | none => rfl
    | some n1 => exact allN_snoc (ds := ds)
theorem allN_app {g : Nm → D → Option Nm} {es : List D} : ∀ {ds : List D} {ns : Nm}, allN g ns ds = none → allN g ns (ds ++ es) = none
  | [], ns, h => by cases h
  | e :: ds, ns, h => by
    have h' : (match g ns e with | some ns' => allN g ns' ds | none => none) = none := h
    show (match g ns e with | some ns' => allN g ns' (ds ++ es) | none => none) = none
    cases q : g ns e with
    | none => rfl
    | some n1 =>
      rw [q] at h'
      exact allN_app (ds := ds) h'
/-- g adds one name at most -/
def One (g : Nm → D → Option Nm) : Prop := ∀ ns d ns', g ns d = some ns' → ns'.length = ns.length + 1
theorem one_add (k : Str) : One fun ns d => addN ns k d := fun ns d ns' h => by
  obtain ⟨z, _, e, _⟩ := addN_some h
  rw [e, List.length_append]
  rfl
theorem one_line : One lineN := fun ns d ns' h => by
  unfold lineN at h
  split at h
  · split at h
    · rename_i n1 hn
      split at h
      · cases h
        exact one_add "line" _ _ _ hn
      · cases h
    · cases h
  · cases h
theorem one_source : One sourceN := fun ns d ns' h => by
  unfold sourceN at h
  split at h
  · split at h
    · rename_i n1 hn
      split at h
      · cases h
        exact one_add "source" _ _ _ hn
      · cases h
    · cases h
  · cases h
theorem one_guard : One guardN := fun ns d ns' h => by
  unfold guardN at h
  split at h
  · split at h
    · rename_i n1 hn
      split at h
      · cases h
        exact one_add "guard" _ _ _ hn
      · cases h
    · cases h
  · cases h
theorem allN_len {g : Nm → D → Option Nm} (o : One g) : ∀ {ds : List D} {ns ns' : Nm}, allN g ns ds = some ns' → ns'.length = ns.length + ds.length
  | [], ns, ns', h => by
    cases h
    rfl
  | e :: ds, ns, ns', h => by
    have h' : (match g ns e with | some ns' => allN g ns' ds | none => none) = some ns' := h
    cases q : g ns e with
    | none =>
      rw [q] at h'
      cases h'
    | some n1 =>
      rw [q] at h'
      have := allN_len o (ds := ds) h'
      have := o _ _ _ q
      rw [List.length_cons]
      omega
def itemsD : D → List D
  | .tuple ds => ds
  | _ => []
def busN (ns : Nm) (d : D) : Option Nm := addN ns "bus" d
theorem one_bus : One busN := one_add "bus"
/-- all names of a net, in their order; some: all of it is well -/
def namesN (b l s g : D) : Option Nm := match allN busN [] (itemsD b) with
  | none => none
  | some n1 => match allN lineN n1 (itemsD l) with
    | none => none
    | some n2 => match allN sourceN n2 (itemsD s) with
      | none => none
      | some n3 => allN guardN n3 (itemsD g)
def netD : D → Bool
  | .tuple [b, l, s, g, r] => manyD 1 6 b && (manyD 0 8 l && (manyD 1 3 s && (manyD 0 16 g && ((namesN b l s g).isSome && rulesD r))))
  | _ => false
theorem net_tup {d : D} (h : isTupD 5 d = false) : netD d = false := by
  unfold netD
  split
  · rename_i b l s g r
    have q : isTupD 5 (.tuple [b, l, s, g, r]) = true := by
      show decide (((5 : Nat) : Int) = 5) = true
      decide
    rw [q] at h
    cases h
  · rfl
theorem isTup_five {d : D} (h : isTupD 5 d = true) : ∃ a b c e f, d = .tuple [a, b, c, e, f] := by
  cases d with
  | tuple ds =>
    have := of_decide_eq_true h
    match ds, this with
    | [a, b, c, e, f], _ => exact ⟨a, b, c, e, f, rfl⟩
    | [], h => simp at h
    | [a], h => simp at h
    | [a, b], h => simp at h
    | [a, b, c], h => simp at h
    | [a, b, c, e], h => simp at h
    | a :: b :: c :: e :: f :: g :: r, h => simp at h; omega
  | _ => cases h
theorem many_tup {lo hi : Int} {d : D} (h : manyD lo hi d = true) : ∃ ds, d = .tuple ds ∧ (ds.length : Int) ≤ hi := by
  cases d with
  | tuple ds =>
    have h' : (decide (lo ≤ (ds.length : Int)) && decide ((ds.length : Int) ≤ hi)) = true := h
    rw [Bool.and_eq_true] at h'
    exact ⟨ds, rfl, of_decide_eq_true h'.2⟩
  | _ => cases h
def SNet (CN : Addr) : SX := fun as W WX => ∃ d, as = [.dat d] ∧ okD d = true ∧ (netD d = true → W .none [.dat d]) ∧ (netD d = false → WX (.ref CN) [.dat d])
theorem fCheckNet {M : Md} {f CN GN fI : Addr} {fd : FuncData} {t1 t2 t3 t4 : Tok} (T : NetTxt M.prog M.K M.mg CN GN fI) (mB : M.mg "MOST_BUSES" = some (.int 6 t1)) (mL : M.mg "MOST_LINES" = some (.int 8 t2)) (mS : M.mg "MOST_SOURCES" = some (.int 3 t3)) (mG : M.mg "MOST_GUARDS" = some (.int 16 t4))
    (FT : FnD M 1 "is_tuple" 2 SIsTupA) (FM : FnX M 1 "check_many" 4 (SMany CN)) (FA : FnX M 2 "add_name" 3 (SAddN CN)) (FL : FnX M 3 "check_line" 2 (SCheckN CN lineN)) (FS : FnX M 3 "check_source" 2 (SCheckN CN sourceN)) (FG : FnX M 5 "check_guard" 2 (SCheckN CN guardN)) (FR : FnX M 3 "check_rules" 1 (SRules CN))
    (F : Fun M.K "check_net" "check_net" sCheckNet f fd) (hm : M.mg "check_net" = some (.ref f)) (b : L2.Binds M.K fd ["net"] []) : FnX M 6 "check_net" 1 (SNet CN) := by
  refine fnX_mk (k := 5) (NK := nkCheckNet) (G := gCheckNet) F scCheckNet hm b rfl (by decide +kernel) rfl (by decide) fun X C as W WX hl hS => ?_
  obtain ⟨d, rfl, ok, w1, w2⟩ := hS
  show VSs X _ [.dat d, .no, .no, .no, .no, .no, .no, .no, .no, .no, .no] _
  refine vss_cons (vs_if (vt_not (vt_val ?_)))
  refine vd_call C FT (by walk_at "at") ?_
  walk_at "vv"
  refine ⟨rfl, d, 5, rfl, ok_no ok, _, rfl, ?_⟩
  refine ⟨fun h => ?_, fun h => ?_⟩
  · have h' : isTupD 5 d = false := by simpa using h
    refine vss_one (vs_raiseN C T (by walk_at "at") ?_)
    walk_at "vv"
    exact ⟨_, _, rfl, by decide, by decide, trivial, w2 (net_tup h')⟩
  · have h' : isTupD 5 d = true := by simpa using h
    obtain ⟨b, l, s, g, r, rfl⟩ := isTup_five h'
    have lo := (ok_tup ok).2
    have ob : okD b = true := okDs_mem lo b (by simp)
    have ol : okD l = true := okDs_mem lo l (by simp)
    have os : okD s = true := okDs_mem lo s (by simp)
    have og : okD g = true := okDs_mem lo g (by simp)
    have or : okD r = true := okDs_mem lo r (by simp)
    have e0 : netD (.tuple [b, l, s, g, r]) = (manyD 1 6 b && (manyD 0 8 l && (manyD 1 3 s && (manyD 0 16 g && ((namesN b l s g).isSome && rulesD r))))) := rfl
    refine vss_nil ?_
    walk_at "v"
    refine vs_asg ?_
    walk_at "v"
    refine vg_tup C ?_
    walk_at "v"
    walk_at "v"
    walk_at "v"
    walk_at "v"
    walk_at "v"
    walk_at "v"
    walk_at "v"
    walk_at "v"
    walk_at "v"
    walk_at "v"
    walk_at "v"
    refine vss_cons (vs_newDt (i := 6) C (by walk_at "at") ?_ fun p => ?_)
    · show 6 < 11
      decide
    show VSs X _ [.dat (.tuple [b, l, s, g, r]), .dat b, .dat l, .dat s, .dat g, .dat r, .own p (.dt (nm [])), .no, .no, .no, .no] _
    -- how many
    refine vss_cons (vs_callX C FM (by walk_at "at") ?_)
    refine vx_cons (vd_str (vx_cons ?_))
    walk_at "v"
    refine vx_cons (vd_int (vx_cons (vd_gint C (by walk_at "at") mB (vx_nil ?_))))
    refine ⟨rfl, trivial, rfl, "buses", b, 1, 6, rfl, ob, by decide, by decide, by decide, by decide, by decide, fun h1 => ?_, fun h1 => ⟨trivial, w2 (by rw [e0, h1, Bool.false_and])⟩⟩
    refine vss_cons (vs_callX C FM (by walk_at "at") ?_)
    refine vx_cons (vd_str (vx_cons ?_))
    walk_at "v"
    refine vx_cons (vd_int (vx_cons (vd_gint C (by walk_at "at") mL (vx_nil ?_))))
    refine ⟨rfl, trivial, rfl, "lines", l, 0, 8, rfl, ol, by decide, by decide, by decide, by decide, by decide, fun h2 => ?_, fun h2 => ⟨trivial, w2 (by rw [e0, h1, h2]; rfl)⟩⟩
    refine vss_cons (vs_callX C FM (by walk_at "at") ?_)
    refine vx_cons (vd_str (vx_cons ?_))
    walk_at "v"
    refine vx_cons (vd_int (vx_cons (vd_gint C (by walk_at "at") mS (vx_nil ?_))))
    refine ⟨rfl, trivial, rfl, "sources", s, 1, 3, rfl, os, by decide, by decide, by decide, by decide, by decide, fun h3 => ?_, fun h3 => ⟨trivial, w2 (by rw [e0, h1, h2, h3]; rfl)⟩⟩
    refine vss_cons (vs_callX C FM (by walk_at "at") ?_)
    refine vx_cons (vd_str (vx_cons ?_))
    walk_at "v"
    refine vx_cons (vd_int (vx_cons (vd_gint C (by walk_at "at") mG (vx_nil ?_))))
    refine ⟨rfl, trivial, rfl, "guards", g, 0, 16, rfl, og, by decide, by decide, by decide, by decide, by decide, fun h4 => ?_, fun h4 => ⟨trivial, w2 (by rw [e0, h1, h2, h3, h4]; rfl)⟩⟩
    obtain ⟨bs, rfl, lb⟩ := many_tup h1
    obtain ⟨ls, rfl, ll⟩ := many_tup h2
    obtain ⟨ss, rfl, ls'⟩ := many_tup h3
    obtain ⟨gs, rfl, lg⟩ := many_tup h4
    have e1 : netD (.tuple [.tuple bs, .tuple ls, .tuple ss, .tuple gs, r]) = ((namesN (.tuple bs) (.tuple ls) (.tuple ss) (.tuple gs)).isSome && rulesD r) := by
      rw [e0, h1, h2, h3, h4]
      rfl
    have badN : namesN (.tuple bs) (.tuple ls) (.tuple ss) (.tuple gs) = none → WX (.ref CN) [.dat (.tuple [.tuple bs, .tuple ls, .tuple ss, .tuple gs, r])] := fun q => w2 (by rw [e1, q]; rfl)
    have okb := (ok_tup ob).2
    have okl := (ok_tup ol).2
    have oks := (ok_tup os).2
    have okg := (ok_tup og).2
    show VSs X _ [.dat (.tuple [.tuple bs, .tuple ls, .tuple ss, .tuple gs, r]), .dat (.tuple bs), .dat (.tuple ls), .dat (.tuple ss), .dat (.tuple gs), .dat r, .own p (.dt (nm [])), .no, .no, .no, .no] _
    -- buses
    refine vss_cons (vs_for C ?_)
    refine vi_tup ?_
    walk_at "v"
    refine ⟨bs, rfl, fun j ρ' => ∃ n s7, allN busN [] (bs.take j) = some n ∧ ρ' = [.dat (.tuple [.tuple bs, .tuple ls, .tuple ss, .tuple gs, r]), .dat (.tuple bs), .dat (.tuple ls), .dat (.tuple ss), .dat (.tuple gs), .dat r, .own p (.dt (nm n)), s7, .no, .no, .no], ⟨[], _, rfl, rfl⟩, fun j d ρ' hj hW => ?_, fun ρ' hW => ?_⟩
    · obtain ⟨n, s7, hn, rfl⟩ := hW
      have od : okD d = true := okDs_mem okb d (List.mem_of_getElem? hj)
      have ln := allN_len one_bus hn
      rw [List.length_nil, List.length_take] at ln
      have step : allN busN [] (bs.take (j + 1)) = addN n "bus" d := by
        rw [List.take_succ, hj]
        show allN busN [] (bs.take j ++ [d]) = _
        rw [allN_snoc, hn]
        rfl
      refine vg_name C (by walk_at "at") ?_
      refine vss_one (vs_callX C FA (by walk_at "at") ?_)
      walk_at "own"
      walk_at "v"
      refine vx_cons (vd_str (vx_nil ?_))
      refine ⟨rfl, ⟨⟨_, _, rfl⟩, trivial⟩, rfl, p, n, d, "bus", rfl, od, by omega, by decide, fun ns' hn' => ⟨ns', _, step.trans hn', rfl⟩, fun hn' ns' => ⟨trivial, badN ?_⟩⟩
      have : allN busN [] bs = none := by
        rw [← List.take_append_drop (j + 1) bs]
        exact allN_app (step.trans hn')
      show (match allN busN [] bs with | none => none | some n1 => _) = none
      rw [this]
    obtain ⟨n1, s7, hn1, rfl⟩ := hW
    rw [List.take_length] at hn1
    have lb1 := allN_len one_bus hn1
    rw [List.length_nil] at lb1
    -- lines
    refine vss_cons (vs_for C ?_)
    refine vi_tup ?_
    walk_at "v"
    refine ⟨ls, rfl, fun j ρ' => ∃ n s8, allN lineN n1 (ls.take j) = some n ∧ ρ' = [.dat (.tuple [.tuple bs, .tuple ls, .tuple ss, .tuple gs, r]), .dat (.tuple bs), .dat (.tuple ls), .dat (.tuple ss), .dat (.tuple gs), .dat r, .own p (.dt (nm n)), s7, s8, .no, .no], ⟨n1, _, rfl, rfl⟩, fun j d ρ' hj hW => ?_, fun ρ' hW => ?_⟩
    · obtain ⟨n, s8, hn, rfl⟩ := hW
      have od : okD d = true := okDs_mem okl d (List.mem_of_getElem? hj)
      have ln := allN_len one_line hn
      rw [List.length_take] at ln
      have step : allN lineN n1 (ls.take (j + 1)) = lineN n d := by
        rw [List.take_succ, hj]
        show allN lineN n1 (ls.take j ++ [d]) = _
        rw [allN_snoc, hn]
      refine vg_name C (by walk_at "at") ?_
      refine vss_one (vs_callX C FL (by walk_at "at") ?_)
      walk_at "own"
      walk_at "v"
      refine vx_nil ?_
      refine ⟨rfl, ⟨⟨_, _, rfl⟩, trivial⟩, rfl, p, n, d, rfl, od, by omega, fun ns' hn' => ⟨ns', _, step.trans hn', rfl⟩, fun hn' ns' => ⟨trivial, badN ?_⟩⟩
      have : allN lineN n1 ls = none := by
        rw [← List.take_append_drop (j + 1) ls]
        exact allN_app (step.trans hn')
      show (match allN busN [] bs with | none => none | some n1 => _) = none
      rw [hn1]
      show (match allN lineN n1 ls with | none => none | some n2 => _) = none
      rw [this]
    obtain ⟨n2, s8, hn2, rfl⟩ := hW
    rw [List.take_length] at hn2
    have lb2 := allN_len one_line hn2
    -- sources
    refine vss_cons (vs_for C ?_)
    refine vi_tup ?_
    walk_at "v"
    refine ⟨ss, rfl, fun j ρ' => ∃ n s9, allN sourceN n2 (ss.take j) = some n ∧ ρ' = [.dat (.tuple [.tuple bs, .tuple ls, .tuple ss, .tuple gs, r]), .dat (.tuple bs), .dat (.tuple ls), .dat (.tuple ss), .dat (.tuple gs), .dat r, .own p (.dt (nm n)), s7, s8, s9, .no], ⟨n2, _, rfl, rfl⟩, fun j d ρ' hj hW => ?_, fun ρ' hW => ?_⟩
    · obtain ⟨n, s9, hn, rfl⟩ := hW
      have od : okD d = true := okDs_mem oks d (List.mem_of_getElem? hj)
      have ln := allN_len one_source hn
      rw [List.length_take] at ln
      have step : allN sourceN n2 (ss.take (j + 1)) = sourceN n d := by
        rw [List.take_succ, hj]
        show allN sourceN n2 (ss.take j ++ [d]) = _
        rw [allN_snoc, hn]
      refine vg_name C (by walk_at "at") ?_
      refine vss_one (vs_callX C FS (by walk_at "at") ?_)
      walk_at "own"
      walk_at "v"
      refine vx_nil ?_
      refine ⟨rfl, ⟨⟨_, _, rfl⟩, trivial⟩, rfl, p, n, d, rfl, od, by omega, fun ns' hn' => ⟨ns', _, step.trans hn', rfl⟩, fun hn' ns' => ⟨trivial, badN ?_⟩⟩
      have : allN sourceN n2 ss = none := by
        rw [← List.take_append_drop (j + 1) ss]
        exact allN_app (step.trans hn')
      show (match allN busN [] bs with | none => none | some n1 => _) = none
      rw [hn1]
      show (match allN lineN n1 ls with | none => none | some n2 => _) = none
      rw [hn2]
      show (match allN sourceN n2 ss with | none => none | some n3 => _) = none
      rw [this]
    obtain ⟨n3, s9, hn3, rfl⟩ := hW
    rw [List.take_length] at hn3
    have lb3 := allN_len one_source hn3
    have eN : namesN (.tuple bs) (.tuple ls) (.tuple ss) (.tuple gs) = allN guardN n3 gs := by
      show (match allN busN [] bs with | none => none | some n1 => _) = _
      rw [hn1]
      show (match allN lineN n1 ls with | none => none | some n2 => _) = _
      rw [hn2]
      show (match allN sourceN n2 ss with | none => none | some n3 => _) = _
      rw [hn3]
      rfl
    -- guards
    refine vss_cons (vs_for C ?_)
    refine vi_tup ?_
    walk_at "v"
    refine ⟨gs, rfl, fun j ρ' => ∃ n s10, allN guardN n3 (gs.take j) = some n ∧ ρ' = [.dat (.tuple [.tuple bs, .tuple ls, .tuple ss, .tuple gs, r]), .dat (.tuple bs), .dat (.tuple ls), .dat (.tuple ss), .dat (.tuple gs), .dat r, .own p (.dt (nm n)), s7, s8, s9, s10], ⟨n3, _, rfl, rfl⟩, fun j d ρ' hj hW => ?_, fun ρ' hW => ?_⟩
    · obtain ⟨n, s10, hn, rfl⟩ := hW
      have od : okD d = true := okDs_mem okg d (List.mem_of_getElem? hj)
      have ln := allN_len one_guard hn
      rw [List.length_take] at ln
      have step : allN guardN n3 (gs.take (j + 1)) = guardN n d := by
        rw [List.take_succ, hj]
        show allN guardN n3 (gs.take j ++ [d]) = _
        rw [allN_snoc, hn]
      refine vg_name C (by walk_at "at") ?_
      refine vss_one (vs_callX C FG (by walk_at "at") ?_)
      walk_at "own"
      walk_at "v"
      refine vx_nil ?_
      refine ⟨rfl, ⟨⟨_, _, rfl⟩, trivial⟩, rfl, p, n, d, rfl, od, by omega, fun ns' hn' => ⟨ns', _, step.trans hn', rfl⟩, fun hn' ns' => ⟨trivial, badN ?_⟩⟩
      rw [eN, ← List.take_append_drop (j + 1) gs]
      exact allN_app (step.trans hn')
    obtain ⟨n4, s10, hn4, rfl⟩ := hW
    rw [List.take_length] at hn4
    have e2 : netD (.tuple [.tuple bs, .tuple ls, .tuple ss, .tuple gs, r]) = rulesD r := by
      rw [e1, eN, hn4]
      exact Bool.true_and _
    refine vss_one (vs_callX C FR (by walk_at "at") ?_)
    refine vx_cons ?_
    walk_at "v"
    refine vx_nil ?_
    exact ⟨rfl, trivial, rfl, r, rfl, or, fun h => ⟨trivial, w1 (by rw [e2, h])⟩, fun h => ⟨trivial, w2 (by rw [e2, h])⟩⟩

end K7

/-! Vc, part Y: tuple(a list), str(a number), texts joined. -/
namespace Vc
open PySem PySem.Spec PyProof.Rows L2
open Evl (Ex)
section
variable {X : Cx} {M : Md} {sc : Scope} {NK : List (Str × Bool × Bool)} {G : List Str} {k : Nat} {ρ : En} {P : D → En → Prop} {pos : Pos} {a b : Expr}
theorem does_tupleL : Does X (.type "tuple") (fun ds W => ∃ es, ds = [.list es] ∧ W (.tuple es)) := fun B H vs ds W Q e h s q => by
  obtain ⟨es, rfl, w⟩ := s
  cases h with
  | cons h1 h2 =>
    cases h2
    obtain ⟨t, ys, rfl, hT, hy⟩ := dp_lst h1
    refine CallR.sem call_tuple_of ⟨t, ys, rfl, .inl ⟨ex_l e hT, fun l hl => ?_⟩⟩
    have bl : B l = none := by
      cases z : B l with
      | none => rfl
      | some u =>
        rw [e l u z] at hl
        cases hl
    have eB : Ex B (upd B l (.tup ys)) := Evl.Ex.new bl
    refine q _ _ (upd B l (.tup ys)) (upd H l (.tup ys)) w (.tup (.inl (.inl upd_same)) (DpAll.mono eB hy)) eB (fun c u hc => ?_) (Evl.Ex.new hl) fun c hc hb => ?_
    · by_cases z : c = l
      · rw [z, upd_same] at hc ⊢
        exact hc
      · rw [upd_ne z] at hc ⊢
        exact e c u hc
    · rw [upd_ne (fun z => hc (by rw [z]; exact hl))]
      exact hb
theorem does_strI : Does X (.type "str") (fun ds W => ∃ i : Int, ds = [.int i] ∧ i.natAbs.log2 < 1920 ∧ W (.str (toString i))) := fun B H vs ds W Q e h s q => by
  obtain ⟨i, rfl, hi, w⟩ := s
  cases h with
  | cons h1 h2 =>
    cases h2
    exact CallR.sem call_str_int ⟨i, by rw [dp_int h1], hi, q _ _ B H w (.str _) (Ex.refl B) e (Ex.refl H) fun _ _ b => b⟩
/-- a + b, texts -/
theorem vd_addS (h : VD X a ρ fun x ρ1 => VD X b ρ1 fun y ρ2 => ∃ z w : Str, x = .str z ∧ y = .str w ∧ z.length + w.length ≤ 100000 ∧ P (.str (z ++ w)) ρ2) : VD X (.BinOp a .Add b pos) ρ P := VD.mk fun B H σ Q r q => by
  refine PE.sem (pe_op op_add_str pe_sem pe_sem) ?_
  refine h.run B H σ _ r fun vx x B1 H1 ρ1 p1 dx g1 r1 => ?_
  refine p1.run B1 H1 σ _ r1 fun vy y B2 H2 ρ2 p2 dy g2 r2 => ?_
  obtain ⟨z, w, rfl, rfl, hl, pp⟩ := p2
  have sl := sizeLine_eq
  exact ⟨z, w, dp_str dx, dp_str dy, by omega, q _ _ B2 H2 ρ2 pp (.str _) (g1.trans g2) r2⟩
end

open PySem PySem.Spec PyProof.Rows L2
open Evl (Ex)
def setAll : L2.St → List Nat → List V → L2.St
  | σ, i :: is, v :: vs => setAll (σ.set i (some v)) is vs
  | σ, _, _ => σ
def setSl : En → List Nat → List D → En
  | ρ, i :: is, d :: ds => setSl (ρ.set i (.dat d)) is ds
  | ρ, _, _ => ρ
def wipeSl (ρ : En) : List Nat → En
  | [] => ρ
  | i :: is => (wipeSl ρ is).set i .no
theorem wipe_get {σ : L2.St} {k : Nat} : ∀ {is : List Nat}, (wipe σ is)[k]? = if k ∈ is then (σ[k]?).map (fun _ => none) else σ[k]?
  | [] => by simp [wipe]
  | i :: is => by
    show ((wipe σ is).set i none)[k]? = _
    rw [List.getElem?_set, wipe_get (is := is), wipe_length]
    by_cases e : i = k
    · subst e
      rw [if_pos rfl, if_pos List.mem_cons_self]
      by_cases hl : i < σ.length
      · rw [if_pos hl, List.getElem?_eq_getElem hl]
        rfl
      · rw [if_neg hl, List.getElem?_eq_none (by omega)]
        rfl
    · rw [if_neg e]
      by_cases m : k ∈ is
      · rw [if_pos m, if_pos (List.mem_cons_of_mem _ m)]
      · rw [if_neg m, if_neg (by simp only [List.mem_cons, not_or]; exact ⟨fun z => e z.symm, m⟩)]
theorem setAll_len : ∀ {is : List Nat} {σ : L2.St} {vs : List V}, (setAll σ is vs).length = σ.length
  | [], σ, vs => by unfold setAll; rfl
  | i :: is, σ, [] => by unfold setAll; rfl
  | i :: is, σ, v :: vs => by
    unfold setAll
    rw [setAll_len (is := is) (vs := vs), List.length_set]
theorem setAll_off {k : Nat} : ∀ {is : List Nat} {σ : L2.St} {vs : List V}, k ∉ is → (setAll σ is vs)[k]? = σ[k]?
  | [], σ, vs, _ => by unfold setAll; rfl
  | i :: is, σ, [], _ => by unfold setAll; rfl
  | i :: is, σ, v :: vs, h => by
    unfold setAll
    rw [setAll_off (is := is) (vs := vs) (fun z => h (List.mem_cons_of_mem _ z)), List.getElem?_set_ne (fun z => h (by rw [z]; exact List.mem_cons_self))]
theorem wipe_set {is : List Nat} {σ : L2.St} {vs : List V} : wipe (setAll (wipe σ is) is vs) is = wipe σ is := by
  refine List.ext_getElem? fun k => ?_
  rw [wipe_get, wipe_get]
  by_cases m : k ∈ is
  · rw [if_pos m, if_pos m]
    by_cases hl : k < σ.length
    · have h1 : k < (setAll (wipe σ is) is vs).length := by rw [setAll_len, wipe_length]; exact hl
      rw [List.getElem?_eq_getElem h1, List.getElem?_eq_getElem hl]
      rfl
    · have h1 : ¬ k < (setAll (wipe σ is) is vs).length := by rw [setAll_len, wipe_length]; exact hl
      rw [List.getElem?_eq_none (by omega), List.getElem?_eq_none (by omega)]
  · rw [if_neg m, if_neg m, setAll_off m, wipe_get, if_neg m]
theorem rel_wipe {K : Kw} {B H : Hp} {σ : L2.St} {ρ : En} (r : Rel K B H σ ρ) : ∀ (is : List Nat), Rel K B H (wipe σ is) (wipeSl ρ is)
  | [] => r
  | i :: is => rel_no (rel_wipe r is) (show _ = ((wipe σ is).set i none).set i none by rw [List.set_set])
theorem rel_setAll {K : Kw} {B H : Hp} : ∀ {is : List Nat} {σ : L2.St} {ρ : En} {vs : List V} {ds : List D}, Rel K B H σ ρ → DpAll K.K B vs ds → Rel K B H (setAll σ is vs) (setSl ρ is ds)
  | [], σ, ρ, vs, ds, r, d => by unfold setAll setSl; exact r
  | i :: is, σ, ρ, _, _, r, .nil => by unfold setAll setSl; exact r
  | i :: is, σ, ρ, _, _, r, .cons h hs => by
    unfold setAll setSl
    exact rel_setAll (is := is) (rel_set r h) hs
theorem wipeSl_get {ρ : En} {k : Nat} {s : Sl} : ∀ {is : List Nat}, (wipeSl ρ is)[k]? = some s → s = .no ∨ (k ∉ is ∧ ρ[k]? = some s)
  | [], h => .inr ⟨by simp, h⟩
  | i :: is, h => by
    have h' : ((wipeSl ρ is).set i .no)[k]? = some s := h
    rw [List.getElem?_set] at h'
    by_cases e : i = k
    · rw [if_pos e] at h'
      split at h'
      · cases h'
        exact .inl rfl
      · cases h'
    · rw [if_neg e] at h'
      rcases wipeSl_get (is := is) h' with q | ⟨q, q2⟩
      · exact .inl q
      · exact .inr ⟨by simp only [List.mem_cons, not_or]; exact ⟨fun z => e z.symm, q⟩, q2⟩
theorem wipeSl_len {ρ : En} : ∀ {is : List Nat}, (wipeSl ρ is).length = ρ.length
  | [] => rfl
  | i :: is => by
    show ((wipeSl ρ is).set i .no).length = _
    rw [List.length_set, wipeSl_len]
theorem rel_unset {K : Kw} {B H : Hp} {σ σ2 : L2.St} {ρ : En} {is : List Nat} (r : Rel K B H σ2 ρ) (h : wipe σ2 is = wipe σ is) : Rel K B H σ (wipeSl ρ is) := by
  have same : ∀ (k : Nat), k ∉ is → σ[k]? = σ2[k]? := fun k m => by
    have q := congrArg (fun l : L2.St => l[k]?) h
    simp only [wipe_get, if_neg m] at q
    exact q.symm
  have len : σ2.length = σ.length := by
    have q := congrArg List.length h
    rw [wipe_length, wipe_length] at q
    exact q
  refine ⟨r.ex, by rw [wipeSl_len, r.len, len], fun k d hk => ?_, fun k a o hk => ?_, fun k j a o o' hk hj => ?_⟩
  · rcases wipeSl_get hk with q | ⟨q, q2⟩
    · cases q
    · obtain ⟨v, h1, h2⟩ := r.dat k d q2
      exact ⟨v, (same k q).trans h1, h2⟩
  · rcases wipeSl_get hk with q | ⟨q, q2⟩
    · cases q
    · obtain ⟨h1, h2⟩ := r.own k a o q2
      exact ⟨(same k q).trans h1, h2⟩
  · rcases wipeSl_get hk with q | ⟨_, q2⟩
    · cases q
    · rcases wipeSl_get hj with q | ⟨_, q3⟩
      · cases q
      · exact r.dis k j a o o' q2 q3
theorem go_wipe {B H : Hp} {ρ : En} : ∀ {is : List Nat}, Go B H ρ B H (wipeSl ρ is)
  | [] => Go.refl
  | _ :: is => (go_wipe (is := is)).trans go_no
theorem go_setSl {B H : Hp} : ∀ {is : List Nat} {ρ : En} {ds : List D}, Go B H ρ B H (setSl ρ is ds)
  | [], ρ, ds => by unfold setSl; exact Go.refl
  | _ :: is, ρ, [] => by unfold setSl; exact Go.refl
  | _ :: is, ρ, _ :: ds => by
    unfold setSl
    exact go_set.trans (go_setSl (is := is))
/-- what is not there is not a thing of one's own -/
theorem go_not {B H B' H' : Hp} {ρ ρ' : En} (g : Go B H ρ B' H' ρ') {a : Addr} (n : ¬ Own ρ a) (h : H a ≠ none) : ¬ Own ρ' a := fun z => (g.own a z).elim n h
def tN (is : List Nat) : TGs := fun vs σ H Q => vs.length = is.length ∧ Q (setAll σ is vs) H
section
variable {X : Cx} {M : Md} {sc : Scope} {NK : List (Str × Bool × Bool)} {G : List Str} {k : Nat} {ρ : En} {PL : List D → En → Prop} {pos : Pos} {tg : Expr}
theorem pgs_tN0 : PGs X [] (tN []) := ⟨fun pins s σ H vs us Q I r h => by
  obtain ⟨hl, q⟩ := h
  have e : vs = [] := List.length_eq_zero_iff.mp hl
  subst e
  exact pgs_nil.run pins s σ H [] us Q I r ⟨rfl, q⟩⟩
theorem pgs_tN (C : Cst X M sc NK G k) {i : Nat} {y : Str} {v : Bool} {p : Pos} {es : List Expr} {is : List Nat} (h : At NK i (y, v, true)) (hs : PGs X es (tN is)) (ha : (assignEach (.Name y p :: es) X.env).map (·.2) = assign (.Name y p) X.env :: (assignEach es X.env).map (·.2) := by rfl) : PGs X (.Name y p :: es) (tN (i :: is)) := ⟨fun pins s σ H vs us Q I r hh => by
  obtain ⟨hl, q⟩ := hh
  cases vs with
  | nil => cases hl
  | cons v0 vs0 =>
    exact (pgs_cons (pg_name C.nd (C.ix h) (C.lo h) (C.fn h)) hs ha).run pins s σ H (v0 :: vs0) us Q I r ⟨v0, vs0, rfl, Nat.succ.inj hl, q⟩⟩
theorem lcN_read {B H : Hp} {σ : L2.St} {Q : VK} {scope : Scope} {is : List Nat} {elt iter tst : Expr} {Cb : Cx → Prop} (r : Rel (kwOf X) B H σ ρ)
    (cb : ∀ (s : Shared) (H : Hp) (Ca : Addr) (cl : List (Str × Addr)) (fp : List Addr), Cb (X.blk s H scope (compEnvC scope cl Ca X.env) fp))
    (h : VI X tg iter ρ fun ds ρ1 => ds.length ≤ 100000 ∧ ∃ W : Nat → List D → En → Prop, W 0 [] ρ1 ∧
      (∀ (j : Nat) d acc ρ', ds[j]? = some d → W j acc ρ' → ∃ es, d = .tuple es ∧ es.length = is.length ∧ ∀ X', Cb X' → VT X' tst (setSl (wipeSl ρ' is) is es) fun bb ρ3 => (bb = true → ∀ X'', Cb X'' → VD X'' elt ρ3 fun u ρ4 => W (j + 1) (acc ++ [u]) (wipeSl ρ4 is)) ∧ (bb = false → W (j + 1) acc (wipeSl ρ3 is))) ∧
      ∀ acc ρ', W ds.length acc ρ' → PL acc ρ')
    (q : ∀ p vs ds B' H' ρ', PL ds ρ' → H p = none → H' p = some (.lst vs) → B' p = none → ¬ Own ρ' p → DpAll X.K B' vs ds → Go B H ρ B' H' ρ' → Rel (kwOf X) B' H' σ ρ' → Q (.ref p) H') :
    tLc (iSemI X tg iter) (gTup X.K is.length (tN is)) (uTst X scope tst) (uSem X scope elt) is σ H Q := by
  refine h.run B H σ _ r fun J ds B1 H1 ρ1 p1 yl g1 r1 Dl hD => ?_
  obtain ⟨hlen, W, w0, step, done⟩ := p1
  have bD : B1 Dl = none := by
    cases e : B1 Dl with
    | none => rfl
    | some u =>
      rw [r1.ex Dl u e] at hD
      cases hD
  have nD : ¬ Own ρ1 Dl := not_own r1 hD
  refine ⟨fun j m H' => m = ds.length - j ∧ j ≤ ds.length ∧ ∃ acc vs B' ρ', W j acc ρ' ∧ acc.length ≤ j ∧ H' Dl = some (.lst vs) ∧ B' Dl = none ∧ ¬ Own ρ' Dl ∧ DpAll X.K B' vs acc ∧ Go B1 H1 ρ1 B' H' ρ' ∧ Rel (kwOf X) B' H' σ ρ', ⟨ds.length, by omega, by omega, [], [], B1, ρ1, w0, Nat.le_refl _, upd_same, bD, nD, .nil, (acc_put Go.refl r1 hD bD nD).1, (acc_put Go.refl r1 hD bD nD).2⟩, ?_⟩
  rintro j m H' ⟨rfl, hj, acc, vs, B', ρ', w, hacc, hl, bl, nl, dacc, g, r'⟩
  obtain ⟨y1, y2⟩ := yl j B' H' g.ex r'.ex
  have hlN : ∀ {H2 : Hp}, H2 Dl = some (.lst vs) → H2 Dl ≠ none := fun e z => by rw [e] at z; cases z
  by_cases hlt : j < ds.length
  · obtain ⟨go, yy⟩ := y1 hlt
    refine .inr ⟨go, fun H2 => ∃ acc vs B' ρ', W (j + 1) acc ρ' ∧ acc.length ≤ j + 1 ∧ H2 Dl = some (.lst vs) ∧ B' Dl = none ∧ ¬ Own ρ' Dl ∧ DpAll X.K B' vs acc ∧ Go B1 H1 ρ1 B' H2 ρ' ∧ Rel (kwOf X) B' H2 σ ρ', fun H2 hN2 => ⟨ds.length - (j + 1), by omega, rfl, hlt, hN2⟩, fun x H2 hy2 => ?_⟩
    obtain ⟨rfl, d, hd, dx⟩ := yy x H2 hy2
    obtain ⟨es, rfl, el, st⟩ := step j d acc ρ' hd w
    obtain ⟨T, xs, rfl, hT, hx⟩ := dp_tup dx
    have xl : xs.length = is.length := (DpAll.len hx).trans el
    refine ⟨T, xs, rfl, ex_t r'.ex hT, xl, xl, wipe_set, fun s0 H0 Ca cl fp => ?_⟩
    have rw1 : Rel (kwOf X) B' H2 (setAll (wipe σ is) is xs) (setSl (wipeSl ρ' is) is es) := rel_setAll (rel_wipe r' is) hx
    have g0 : Go B' H2 ρ' B' H2 (setSl (wipeSl ρ' is) is es) := go_wipe.trans go_setSl
    have nl2 := go_not g0 nl (hlN hl)
    have vt := st _ (cb s0 H0 Ca cl fp)
    refine vt.run B' H2 _ _ rw1 fun bb B3 H3 ρ3 p3 g3 r3 => ?_
    have gA3 : Go B1 H1 ρ1 B3 H3 ρ3 := (g.trans g0).trans g3
    have hD3 : H3 Dl = some (.lst vs) := g3.keep Dl _ hl nl2
    have bD3 : B3 Dl = none := g3.out Dl (hlN hl) bl nl2
    have nD3 := go_not g3 nl2 (hlN hl)
    cases bb with
    | true =>
      rw [if_pos rfl]
      intro s1 H01 Ca1 cl1 fp1
      have vd := p3.1 rfl _ (cb s1 H01 Ca1 cl1 fp1)
      refine vd.run B3 H3 _ _ r3 fun u du B4 H4 ρ4 p4 dv g4 r4 => ?_
      have gA : Go B1 H1 ρ1 B4 H4 ρ4 := gA3.trans g4
      have hD4 : H4 Dl = some (.lst vs) := g4.keep Dl _ hD3 nD3
      have bD4 : B4 Dl = none := g4.out Dl (hlN hD3) bD3 nD3
      have nD4 := go_not g4 nD3 (hlN hD3)
      have rS : Rel (kwOf X) B4 H4 σ (wipeSl ρ4 is) := rel_unset r4 wipe_set
      have gS : Go B1 H1 ρ1 B4 H4 (wipeSl ρ4 is) := gA.trans go_wipe
      have nS : ¬ Own (wipeSl ρ4 is) Dl := go_not (go_wipe (B := B4) (H := H4)) nD4 (hlN hD4)
      obtain ⟨gF, rF⟩ := acc_put (o := .lst (vs ++ [u])) gS rS hD bD4 nS
      refine ⟨vs, hD4, ?_, acc ++ [du], vs ++ [u], B4, wipeSl ρ4 is, p4, by rw [List.length_append]; exact Nat.add_le_add_right hacc 1, upd_same, bD4, nS, DpAll.app (DpAll.mono (g3.ex.trans g4.ex) dacc) (.cons dv .nil), gF, rF⟩
      rw [DpAll.len dacc]
      exact Nat.lt_of_le_of_lt hacc (Nat.lt_of_lt_of_le hlt (Nat.le_trans hlen (by decide)))
    | false =>
      rw [if_neg Bool.false_ne_true]
      have rS : Rel (kwOf X) B3 H3 σ (wipeSl ρ3 is) := rel_unset r3 wipe_set
      have gS : Go B1 H1 ρ1 B3 H3 (wipeSl ρ3 is) := gA3.trans go_wipe
      have nS : ¬ Own (wipeSl ρ3 is) Dl := go_not (go_wipe (B := B3) (H := H3)) nD3 (hlN hD3)
      exact ⟨acc, vs, B3, wipeSl ρ3 is, p3.2 rfl, by omega, hD3, bD3, nS, DpAll.mono g3.ex dacc, gS, rS⟩
  · have e : j = ds.length := by omega
    subst e
    exact .inl ⟨y2 (Nat.le_refl _), q Dl vs acc B' H' ρ' (done acc ρ' w) (g1.dom Dl hD) hl bl nl dacc (g1.trans g) r'⟩
theorem lcN_read0 {B H : Hp} {σ : L2.St} {Q : VK} {scope : Scope} {is : List Nat} {elt iter : Expr} {Cb : Cx → Prop} (r : Rel (kwOf X) B H σ ρ)
    (cb : ∀ (s : Shared) (H : Hp) (Ca : Addr) (cl : List (Str × Addr)) (fp : List Addr), Cb (X.blk s H scope (compEnvC scope cl Ca X.env) fp))
    (h : VI X tg iter ρ fun ds ρ1 => ds.length ≤ 100000 ∧ ∃ W : Nat → List D → En → Prop, W 0 [] ρ1 ∧
      (∀ (j : Nat) d acc ρ', ds[j]? = some d → W j acc ρ' → ∃ es, d = .tuple es ∧ es.length = is.length ∧ ∀ X', Cb X' → VD X' elt (setSl (wipeSl ρ' is) is es) fun u ρ4 => W (j + 1) (acc ++ [u]) (wipeSl ρ4 is)) ∧
      ∀ acc ρ', W ds.length acc ρ' → PL acc ρ')
    (q : ∀ p vs ds B' H' ρ', PL ds ρ' → H p = none → H' p = some (.lst vs) → B' p = none → ¬ Own ρ' p → DpAll X.K B' vs ds → Go B H ρ B' H' ρ' → Rel (kwOf X) B' H' σ ρ' → Q (.ref p) H') :
    tLc (iSemI X tg iter) (gTup X.K is.length (tN is)) tYes (uSem X scope elt) is σ H Q := by
  refine h.run B H σ _ r fun J ds B1 H1 ρ1 p1 yl g1 r1 Dl hD => ?_
  obtain ⟨hlen, W, w0, step, done⟩ := p1
  have bD : B1 Dl = none := by
    cases e : B1 Dl with
    | none => rfl
    | some u =>
      rw [r1.ex Dl u e] at hD
      cases hD
  have nD : ¬ Own ρ1 Dl := not_own r1 hD
  refine ⟨fun j m H' => m = ds.length - j ∧ j ≤ ds.length ∧ ∃ acc vs B' ρ', W j acc ρ' ∧ acc.length ≤ j ∧ H' Dl = some (.lst vs) ∧ B' Dl = none ∧ ¬ Own ρ' Dl ∧ DpAll X.K B' vs acc ∧ Go B1 H1 ρ1 B' H' ρ' ∧ Rel (kwOf X) B' H' σ ρ', ⟨ds.length, by omega, by omega, [], [], B1, ρ1, w0, Nat.le_refl _, upd_same, bD, nD, .nil, (acc_put Go.refl r1 hD bD nD).1, (acc_put Go.refl r1 hD bD nD).2⟩, ?_⟩
  rintro j m H' ⟨rfl, hj, acc, vs, B', ρ', w, hacc, hl, bl, nl, dacc, g, r'⟩
  obtain ⟨y1, y2⟩ := yl j B' H' g.ex r'.ex
  have hlN : ∀ {H2 : Hp}, H2 Dl = some (.lst vs) → H2 Dl ≠ none := fun e z => by rw [e] at z; cases z
  by_cases hlt : j < ds.length
  · obtain ⟨go, yy⟩ := y1 hlt
    refine .inr ⟨go, fun H2 => ∃ acc vs B' ρ', W (j + 1) acc ρ' ∧ acc.length ≤ j + 1 ∧ H2 Dl = some (.lst vs) ∧ B' Dl = none ∧ ¬ Own ρ' Dl ∧ DpAll X.K B' vs acc ∧ Go B1 H1 ρ1 B' H2 ρ' ∧ Rel (kwOf X) B' H2 σ ρ', fun H2 hN2 => ⟨ds.length - (j + 1), by omega, rfl, hlt, hN2⟩, fun x H2 hy2 => ?_⟩
    obtain ⟨rfl, d, hd, dx⟩ := yy x H2 hy2
    obtain ⟨es, rfl, el, st⟩ := step j d acc ρ' hd w
    obtain ⟨T, xs, rfl, hT, hx⟩ := dp_tup dx
    have xl : xs.length = is.length := (DpAll.len hx).trans el
    refine ⟨T, xs, rfl, ex_t r'.ex hT, xl, xl, wipe_set, fun s0 H0 Ca cl fp => ?_⟩
    have rw1 : Rel (kwOf X) B' H2 (setAll (wipe σ is) is xs) (setSl (wipeSl ρ' is) is es) := rel_setAll (rel_wipe r' is) hx
    have g0 : Go B' H2 ρ' B' H2 (setSl (wipeSl ρ' is) is es) := go_wipe.trans go_setSl
    have nl2 := go_not g0 nl (hlN hl)
    have vd := st _ (cb s0 H0 Ca cl fp)
    refine vd.run B' H2 _ _ rw1 fun u du B4 H4 ρ4 p4 dv g4 r4 => ?_
    have gA : Go B1 H1 ρ1 B4 H4 ρ4 := (g.trans g0).trans g4
    have hD4 : H4 Dl = some (.lst vs) := g4.keep Dl _ hl nl2
    have bD4 : B4 Dl = none := g4.out Dl (hlN hl) bl nl2
    have nD4 := go_not g4 nl2 (hlN hl)
    have rS : Rel (kwOf X) B4 H4 σ (wipeSl ρ4 is) := rel_unset r4 wipe_set
    have gS : Go B1 H1 ρ1 B4 H4 (wipeSl ρ4 is) := gA.trans go_wipe
    have nS : ¬ Own (wipeSl ρ4 is) Dl := go_not (go_wipe (B := B4) (H := H4)) nD4 (hlN hD4)
    obtain ⟨gF, rF⟩ := acc_put (o := .lst (vs ++ [u])) gS rS hD bD4 nS
    refine ⟨vs, hD4, ?_, acc ++ [du], vs ++ [u], B4, wipeSl ρ4 is, p4, by rw [List.length_append]; exact Nat.add_le_add_right hacc 1, upd_same, bD4, nS, DpAll.app (DpAll.mono g4.ex dacc) (.cons dv .nil), gF, rF⟩
    rw [DpAll.len dacc]
    exact Nat.lt_of_le_of_lt hacc (Nat.lt_of_lt_of_le hlt (Nat.le_trans hlen (by decide)))
  · have e : j = ds.length := by omega
    subst e
    exact .inl ⟨y2 (Nat.le_refl _), q Dl vs acc B' H' ρ' (done acc ρ' w) (g1.dom Dl hD) hl bl nl dacc (g1.trans g) r'⟩
/-- [elt for (y, ..) in iter if tst] -/
theorem vn_lcNIf (C : Cst X M sc NK G k) {scope : Scope} {own : List (Str × Nat)} {elt iter tst : Expr} {es : List Expr} {kk : Nat} {tpos : Pos} (NK' : List (Str × Bool × Bool)) (G' : List Str)
    (tgs : ∀ X', Cst X' M (relS scope sc) NK' G' k → PGs X' es (tN (own.map (·.2))))
    (h : VI X (.Tuple es kk tpos) iter ρ fun ds ρ1 => ds.length ≤ 100000 ∧ ∃ W : Nat → List D → En → Prop, W 0 [] ρ1 ∧
      (∀ (j : Nat) d acc ρ', ds[j]? = some d → W j acc ρ' → ∃ es, d = .tuple es ∧ es.length = (own.map (·.2)).length ∧ ∀ X', Cst X' M (relS scope sc) NK' G' k → VT X' tst (setSl (wipeSl ρ' (own.map (·.2))) (own.map (·.2)) es) fun bb ρ3 => (bb = true → ∀ X'', Cst X'' M (relS scope sc) NK' G' k → VD X'' elt ρ3 fun u ρ4 => W (j + 1) (acc ++ [u]) (wipeSl ρ4 (own.map (·.2)))) ∧ (bb = false → W (j + 1) acc (wipeSl ρ3 (own.map (·.2))))) ∧
      ∀ acc ρ', W ds.length acc ρ' → PL acc ρ')
    (hn : ∀ env, (assignEach es env).length = (own.map (·.2)).length := by intro _; rfl) (hst : ∀ env, (assignEach es env).findIdx? (·.1) = none := by intro _; rfl)
    (ok : blkC (NK.map (·.1)) sc scope own = true := by decide +kernel) (hN : NK'.map (·.1) = NK.map (·.1) := by rfl) (hc : chk (relS scope sc) false NK' G' = true := by decide +kernel)
    (hs : ∀ x, foldedSetIterable iter X.env x = pure x := by intro _; rfl) : VN X (.ListComp elt [⟨.Tuple es kk tpos, iter, [tst], 0⟩] scope pos) ρ PL := VN.mk fun B H σ Q r q => by
  have ok' : BlkOk X.N X.env.scope scope own := by
    rw [C.n, C.s]
    exact blkOk_by ok
  have cb : ∀ (s : Shared) (H : Hp) (Ca : Addr) (cl : List (Str × Addr)) (fp : List Addr), Cst (X.blk s H scope (compEnvC scope cl Ca X.env) fp) M (relS scope sc) NK' G' k := fun s H Ca cl fp => cst_blk C hN hc
  exact PE.sem (pe_lc (g := gTup X.K (own.map (·.2)).length (tN (own.map (·.2)))) (tt := uTst X scope tst) C.calm C.nd pi_sem ok' (fun s H Ca cl fp => pg_tup (cb s H Ca cl fp).calm (tgs _ (cb s H Ca cl fp)) (hn _) (hst _)) pts_uTst pe_uSem hs)
    (lcN_read (Cb := fun X' => Cst X' M (relS scope sc) NK' G' k) r cb h q)
/-- [elt for (y, ..) in iter] -/
theorem vn_lcN (C : Cst X M sc NK G k) {scope : Scope} {own : List (Str × Nat)} {elt iter : Expr} {es : List Expr} {kk : Nat} {tpos : Pos} (NK' : List (Str × Bool × Bool)) (G' : List Str)
    (tgs : ∀ X', Cst X' M (relS scope sc) NK' G' k → PGs X' es (tN (own.map (·.2))))
    (h : VI X (.Tuple es kk tpos) iter ρ fun ds ρ1 => ds.length ≤ 100000 ∧ ∃ W : Nat → List D → En → Prop, W 0 [] ρ1 ∧
      (∀ (j : Nat) d acc ρ', ds[j]? = some d → W j acc ρ' → ∃ es, d = .tuple es ∧ es.length = (own.map (·.2)).length ∧ ∀ X', Cst X' M (relS scope sc) NK' G' k → VD X' elt (setSl (wipeSl ρ' (own.map (·.2))) (own.map (·.2)) es) fun u ρ4 => W (j + 1) (acc ++ [u]) (wipeSl ρ4 (own.map (·.2)))) ∧
      ∀ acc ρ', W ds.length acc ρ' → PL acc ρ')
    (hn : ∀ env, (assignEach es env).length = (own.map (·.2)).length := by intro _; rfl) (hst : ∀ env, (assignEach es env).findIdx? (·.1) = none := by intro _; rfl)
    (ok : blkC (NK.map (·.1)) sc scope own = true := by decide +kernel) (hN : NK'.map (·.1) = NK.map (·.1) := by rfl) (hc : chk (relS scope sc) false NK' G' = true := by decide +kernel)
    (hs : ∀ x, foldedSetIterable iter X.env x = pure x := by intro _; rfl) : VN X (.ListComp elt [⟨.Tuple es kk tpos, iter, [], 0⟩] scope pos) ρ PL := VN.mk fun B H σ Q r q => by
  have ok' : BlkOk X.N X.env.scope scope own := by
    rw [C.n, C.s]
    exact blkOk_by ok
  have cb : ∀ (s : Shared) (H : Hp) (Ca : Addr) (cl : List (Str × Addr)) (fp : List Addr), Cst (X.blk s H scope (compEnvC scope cl Ca X.env) fp) M (relS scope sc) NK' G' k := fun s H Ca cl fp => cst_blk C hN hc
  exact PE.sem (pe_lc (g := gTup X.K (own.map (·.2)).length (tN (own.map (·.2)))) (tt := tYes) C.calm C.nd pi_sem ok' (fun s H Ca cl fp => pg_tup (cb s H Ca cl fp).calm (tgs _ (cb s H Ca cl fp)) (hn _) (hst _)) (fun _ _ _ _ _ => pts_nil) pe_uSem hs)
    (lcN_read0 (Cb := fun X' => Cst X' M (relS scope sc) NK' G' k) r cb h q)
/-- list(e), e a tuple -/
theorem vn_listT (C : Cst X M sc NK G k) {i : Nat} {p : Pos} {e : Expr} (hg : At G i "list") (h : VD X e ρ fun d ρ1 => ∃ ds : List D, d = .tuple ds ∧ PL ds ρ1) (hm : M.mg "list" = none := by assumption)
    (he : starEach [e] X.env = (false, eval e X.env) :: starEach [] X.env := by rfl) (hpl : (backTo pos (starEach [] X.env)).any (·.1) = false := by rfl) : VN X (.Call (.Name "list" p) [e] [] pos) ρ PL := VN.mk fun B H σ Q r q => by
  refine PE.sem (pe_callTy call_list_of (C.g hg) (C.mg hm) (by decide +kernel) (pa_cons pe_sem pa_nil he) (by decide) (by decide) he hpl) ?_
  refine h.run B H σ _ r fun v d B1 H1 ρ1 p1 dv g1 r1 => ?_
  obtain ⟨ds, rfl, pp⟩ := p1
  obtain ⟨t, vs, rfl, hT, hv⟩ := dp_tup dv
  refine ⟨t, vs, rfl, .inr (ex_t r1.ex hT), fun z hz => ?_⟩
  obtain ⟨r2, g2, bz⟩ := new_one (o := .lst vs) r1 hz
  exact q z _ _ _ _ ρ1 pp (g1.dom z hz) upd_same bz (not_own r1 hz) hv (g1.trans g2) r2
end

open PySem PySem.Spec PyProof.Rows L2
open Evl (Ex)
section
variable {X : Cx} {ρ : En} {P : D → En → Prop} {pos p2 : Pos} {a b : Expr}
/-- a + b, tuples -/
theorem vd_catA (h : VD X a ρ fun x ρ1 => VD X b ρ1 fun y ρ2 => ∃ xs ys, x = .tuple xs ∧ y = .tuple ys ∧ xs.length + ys.length ≤ 100000 ∧ P (.tuple (xs ++ ys)) ρ2) : VD X (.BinOp a .Add b pos) ρ P := VD.mk fun B H σ Q r q => by
  refine PE.sem (pe_op op_catA pe_sem pe_sem) ?_
  refine h.run B H σ _ r fun vx x B1 H1 ρ1 p1 dx g1 r1 => ?_
  refine p1.run B1 H1 σ _ r1 fun vy y B2 H2 ρ2 p2 dy g2 r2 => ?_
  obtain ⟨xs, ys, rfl, rfl, hz, pp⟩ := p2
  obtain ⟨t, us, rfl, hT, hu⟩ := dp_tup dx
  obtain ⟨t', ws, rfl, hT', hw⟩ := dp_tup dy
  have sl := sizeLine_eq
  have hu2 := DpAll.mono g2.ex hu
  refine ⟨t, t', us, ws, rfl, rfl, ex_t (g2.ex.trans r2.ex) hT, ex_t r2.ex hT', by rw [DpAll.len hu, DpAll.len hw]; omega, fun e => ?_, fun e1 e2 => ?_, fun e1 e2 z hz2 => ?_⟩
  · have ex : xs = [] := List.length_eq_zero_iff.mp (by rw [← DpAll.len hu, e]; rfl)
    rw [ex, List.nil_append] at pp
    exact q _ _ B2 H2 ρ2 pp (.tup hT' hw) (g1.trans g2) r2
  · have ey : ys = [] := List.length_eq_zero_iff.mp (by rw [← DpAll.len hw, e2]; rfl)
    rw [ey, List.append_nil] at pp
    exact q _ _ B2 H2 ρ2 pp (.tup (ex_t g2.ex hT) hu2) (g1.trans g2) r2
  · obtain ⟨r3, g3⟩ := new_both (o := .tup (us ++ ws)) r2 hz2
    exact q _ _ _ _ ρ2 pp (.tup (.inl (.inl upd_same)) (DpAll.mono g3.ex (DpAll.app hu2 hw))) ((g1.trans g2).trans g3) r3
/-- t[:n] -/
theorem vd_takeA (h : VD X a ρ fun d ρ1 => VD X b ρ1 fun y ρ2 => ∃ (ds : List D) (n : Nat), d = .tuple ds ∧ y = .int (n : Int) ∧ P (.tuple (ds.take n)) ρ2) : VD X (.Subscript a (.Slice none (some b) none p2) pos) ρ P := VD.mk fun B H σ Q r q => by
  refine PE.sem (pe_slice sl_tupA pe_sem po_none (po_some pe_sem)) ?_
  refine h.run B H σ _ r fun v d B1 H1 ρ1 p1 dv g1 r1 => ?_
  refine p1.run B1 H1 σ _ r1 fun vy y B2 H2 ρ2 p2 dy g2 r2 => ?_
  obtain ⟨ds, n, rfl, rfl, p⟩ := p2
  obtain ⟨t, vs, rfl, hT, hv⟩ := dp_tup dv
  refine ⟨(n : Int), dp_int dy, t, vs, rfl, ex_t (g2.ex.trans r2.ex) hT, fun z => ?_, fun z w hw => ?_⟩
  · have z2 := z.2
    rw [HT.sIx_nat] at z2
    have hl := DpAll.len hv
    rw [List.take_of_length_le (by omega)] at p
    exact q _ _ B2 H2 ρ2 p (.tup (ex_t g2.ex hT) (DpAll.mono g2.ex hv)) (g1.trans g2) r2
  · rw [cut_take]
    obtain ⟨r3, g3⟩ := new_both (o := .tup (vs.take n)) r2 hw
    exact q _ _ _ _ ρ2 p (.tup (.inl (.inl upd_same)) (DpAll.mono g3.ex (DpAll.take n (DpAll.mono g2.ex hv)))) ((g1.trans g2).trans g3) r3
/-- t[n:] -/
theorem vd_dropA (h : VD X a ρ fun d ρ1 => VD X b ρ1 fun y ρ2 => ∃ (ds : List D) (n : Nat), d = .tuple ds ∧ y = .int (n : Int) ∧ P (.tuple (ds.drop n)) ρ2) : VD X (.Subscript a (.Slice (some b) none none p2) pos) ρ P := VD.mk fun B H σ Q r q => by
  refine PE.sem (pe_slice sl_tupA pe_sem (po_some pe_sem) po_none) ?_
  refine h.run B H σ _ r fun v d B1 H1 ρ1 p1 dv g1 r1 => ?_
  refine p1.run B1 H1 σ _ r1 fun vy y B2 H2 ρ2 p2 dy g2 r2 => ?_
  obtain ⟨ds, n, rfl, rfl, p⟩ := p2
  obtain ⟨t, vs, rfl, hT, hv⟩ := dp_tup dv
  refine ⟨(n : Int), dp_int dy, t, vs, rfl, ex_t (g2.ex.trans r2.ex) hT, fun z => ?_, fun z w hw => ?_⟩
  · have z1 := z.1
    rw [HT.sIx_nat] at z1
    have hl := DpAll.len hv
    have e : ds.drop n = ds := by
      by_cases q : n = 0
      · rw [q]
        rfl
      · have : ds = [] := List.length_eq_zero_iff.mp (by omega)
        rw [this, List.drop_nil]
    rw [e] at p
    exact q _ _ B2 H2 ρ2 p (.tup (ex_t g2.ex hT) (DpAll.mono g2.ex hv)) (g1.trans g2) r2
  · rw [cut_drop]
    obtain ⟨r3, g3⟩ := new_both (o := .tup (vs.drop n)) r2 hw
    exact q _ _ _ _ ρ2 p (.tup (.inl (.inl upd_same)) (DpAll.mono g3.ex (DpAll.drop n (DpAll.mono g2.ex hv)))) ((g1.trans g2).trans g3) r3
end

open PySem PySem.Spec PyProof.Rows L2
open Evl (Ex)
section
variable {X : Cx} {M : Md} {sc : Scope} {NK : List (Str × Bool × Bool)} {G : List Str} {k : Nat} {ρ : En} {P : D → En → Prop} {PB : Bool → En → Prop} {PL : List D → En → Prop} {PP : List (D × D) → En → Prop} {pos : Pos} {e a b tg : Expr} {x y : Str}
theorem lc_read2If {B H : Hp} {σ : L2.St} {Q : VK} {scope : Scope} {i1 i2 : Nat} {elt iter tst : Expr} {Cb : Cx → Prop} (ne : i1 ≠ i2) (r : Rel (kwOf X) B H σ ρ)
    (cb : ∀ (s : Shared) (H : Hp) (Ca : Addr) (cl : List (Str × Addr)) (fp : List Addr), Cb (X.blk s H scope (compEnvC scope cl Ca X.env) fp))
    (h : VP X tg iter ρ fun ds ρ1 => ds.length ≤ 100000 ∧ ∃ W : Nat → List D → En → Prop, W 0 [] ρ1 ∧
      (∀ (j : Nat) d1 d2 acc ρ', ds[j]? = some (d1, d2) → W j acc ρ' → ∀ X', Cb X' → VT X' tst ((ρ'.set i1 (.dat d1)).set i2 (.dat d2)) fun bb ρ3 => (bb = true → ∀ X'', Cb X'' → VD X'' elt ρ3 fun u ρ4 => W (j + 1) (acc ++ [u]) ((ρ4.set i1 .no).set i2 .no)) ∧ (bb = false → W (j + 1) acc ((ρ3.set i1 .no).set i2 .no))) ∧
      ∀ acc ρ', W ds.length acc ρ' → PL acc ρ')
    (q : ∀ p vs ds B' H' ρ', PL ds ρ' → H p = none → H' p = some (.lst vs) → B' p = none → ¬ Own ρ' p → DpAll X.K B' vs ds → Go B H ρ B' H' ρ' → Rel (kwOf X) B' H' σ ρ' → Q (.ref p) H') :
    tLc (iSemI X tg iter) (gTup X.K 2 (t2 i1 i2)) (uTst X scope tst) (uSem X scope elt) [i1, i2] σ H Q := by
  refine h.run B H σ _ r fun J ds B1 H1 ρ1 p1 yl g1 r1 Dl hD => ?_
  obtain ⟨hlen, W, w0, step, done⟩ := p1
  have bD : B1 Dl = none := by
    cases e : B1 Dl with
    | none => rfl
    | some u =>
      rw [r1.ex Dl u e] at hD
      cases hD
  have nD : ¬ Own ρ1 Dl := fun ⟨j, es, hj⟩ => by
    obtain ⟨_, _, ws, h7, _⟩ := r1.own j Dl es hj
    rw [hD] at h7
    cases h7
  refine ⟨fun j m H' => m = ds.length - j ∧ j ≤ ds.length ∧ ∃ acc vs B' ρ', W j acc ρ' ∧ acc.length ≤ j ∧ H' Dl = some (.lst vs) ∧ B' Dl = none ∧ ¬ Own ρ' Dl ∧ DpAll X.K B' vs acc ∧ Go B1 H1 ρ1 B' H' ρ' ∧ Rel (kwOf X) B' H' σ ρ', ⟨ds.length, by omega, by omega, [], [], B1, ρ1, w0, Nat.le_refl _, upd_same, bD, nD, .nil, (acc_put Go.refl r1 hD bD nD).1, (acc_put Go.refl r1 hD bD nD).2⟩, ?_⟩
  rintro j m H' ⟨rfl, hj, acc, vs, B', ρ', w, hacc, hl, bl, nl, dacc, g, r'⟩
  obtain ⟨y1, y2⟩ := yl j B' H' g.ex r'.ex
  by_cases hlt : j < ds.length
  · obtain ⟨go, yy⟩ := y1 hlt
    refine .inr ⟨go, fun H2 => ∃ acc vs B' ρ', W (j + 1) acc ρ' ∧ acc.length ≤ j + 1 ∧ H2 Dl = some (.lst vs) ∧ B' Dl = none ∧ ¬ Own ρ' Dl ∧ DpAll X.K B' vs acc ∧ Go B1 H1 ρ1 B' H2 ρ' ∧ Rel (kwOf X) B' H2 σ ρ', fun H2 hN2 => ⟨ds.length - (j + 1), by omega, rfl, hlt, hN2⟩, fun x H2 hy2 => ?_⟩
    obtain ⟨T, x1, x2, d1, d2, rfl, alt, hd, dx1, dx2⟩ := yy x H2 hy2
    have st := step j d1 d2 acc ρ' hd w
    -- the pair, old or new
    obtain ⟨B2, r2, g2, sq, hl2, bl2⟩ : ∃ B2, Rel (kwOf X) B2 H2 σ ρ' ∧ Go B' H' ρ' B2 H2 ρ' ∧ SqT X.K B2 T [x1, x2] ∧ H2 Dl = some (.lst vs) ∧ B2 Dl = none := by
      rcases alt with ⟨rfl, sq⟩ | ⟨hT, rfl⟩
      · exact ⟨B', r', Go.refl, sq, hl, bl⟩
      · obtain ⟨r2, g2⟩ := new_both (o := .tup [x1, x2]) r' hT
        have nT : Dl ≠ T := fun e => by
          rw [e, hT] at hl
          cases hl
        exact ⟨_, r2, g2, .inl (.inl upd_same), by rw [upd_ne nT]; exact hl, by rw [upd_ne nT]; exact bl⟩
    have dy1 := Dp.mono g2.ex dx1
    have dy2 := Dp.mono g2.ex dx2
    refine ⟨T, [x1, x2], rfl, ex_t r2.ex sq, rfl, x1, x2, rfl, ?_⟩
    have rw1 : Rel (kwOf X) B2 H2 (((wipe σ [i1, i2]).set i1 (some x1)).set i2 (some x2)) ((ρ'.set i1 (.dat d1)).set i2 (.dat d2)) := by
      have a1 : Rel (kwOf X) B2 H2 (σ.set i2 none) (ρ'.set i2 .no) := rel_no r2 (by rw [List.set_set])
      have a2 : Rel (kwOf X) B2 H2 ((σ.set i2 none).set i1 none) ((ρ'.set i2 .no).set i1 .no) := rel_no a1 (by rw [List.set_set])
      have a3 := rel_set (i := i2) (rel_set (i := i1) a2 dy1) dy2
      have e3 : ((((ρ'.set i2 Sl.no).set i1 Sl.no).set i1 (Sl.dat d1)).set i2 (Sl.dat d2)) = (ρ'.set i1 (.dat d1)).set i2 (.dat d2) := by
        rw [List.set_set, List.set_comm _ _ ne, List.set_set, List.set_comm _ _ ne]
      rw [e3] at a3
      exact a3
    refine ⟨set_none2 ne, fun s0 H0 Ca cl fp => ?_⟩
    have vt := st _ (cb s0 H0 Ca cl fp)
    refine vt.run B2 H2 _ _ rw1 fun bb B3 H3 ρ3 p3 g3 r3 => ?_
    have gA3 : Go B1 H1 ρ1 B3 H3 ρ3 := (((g.trans g2).trans go_set).trans go_set).trans g3
    have nl2 : ¬ Own ((ρ'.set i1 (.dat d1)).set i2 (.dat d2)) Dl := fun z => nl (own_set (own_set z))
    have hlN : ∀ {H2 : Hp}, H2 Dl = some (.lst vs) → H2 Dl ≠ none := fun e z => by rw [e] at z; cases z
    have hD3 : H3 Dl = some (.lst vs) := g3.keep Dl _ hl2 nl2
    have bD3 : B3 Dl = none := g3.out Dl (hlN hl2) bl2 nl2
    have nD3 : ¬ Own ρ3 Dl := fun z => (g3.own Dl z).elim nl2 (hlN hl2)
    have back : ∀ {B4 H4 : Hp} {ρ4 : En}, Rel (kwOf X) B4 H4 (((wipe σ [i1, i2]).set i1 (some x1)).set i2 (some x2)) ρ4 → Rel (kwOf X) B4 H4 σ ((ρ4.set i1 .no).set i2 .no) := fun {B4 H4 ρ4} r4 => by
      have a1 : Rel (kwOf X) B4 H4 (σ.set i2 (some x2)) (ρ4.set i1 .no) := rel_no r4 (by
        show ((((σ.set i2 none).set i1 none).set i1 (some x1)).set i2 (some x2)).set i1 none = (σ.set i2 (some x2)).set i1 none
        rw [List.set_set, List.set_comm _ _ ne.symm, List.set_set, List.set_comm _ _ ne, List.set_set])
      exact rel_no a1 (by rw [List.set_set])
    cases bb with
    | true =>
      rw [if_pos rfl]
      intro s1 H01 Ca1 cl1 fp1
      have vd := p3.1 rfl _ (cb s1 H01 Ca1 cl1 fp1)
      refine vd.run B3 H3 _ _ r3 fun u du B4 H4 ρ4 p4 dv g4 r4 => ?_
      have hD4 : H4 Dl = some (.lst vs) := g4.keep Dl _ hD3 nD3
      have bD4 : B4 Dl = none := g4.out Dl (hlN hD3) bD3 nD3
      have nD4 : ¬ Own ρ4 Dl := fun z => (g4.own Dl z).elim nD3 (hlN hD3)
      have gS : Go B1 H1 ρ1 B4 H4 ((ρ4.set i1 .no).set i2 .no) := ((gA3.trans g4).trans go_no).trans go_no
      have nS : ¬ Own ((ρ4.set i1 .no).set i2 .no) Dl := fun z => nD4 (own_no (own_no z))
      obtain ⟨gF, rF⟩ := acc_put (o := .lst (vs ++ [u])) gS (back r4) hD bD4 nS
      refine ⟨vs, hD4, ?_, acc ++ [du], vs ++ [u], B4, (ρ4.set i1 .no).set i2 .no, p4, by rw [List.length_append]; exact Nat.add_le_add_right hacc 1, upd_same, bD4, nS, DpAll.app (DpAll.mono (g3.ex.trans g4.ex) (DpAll.mono g2.ex dacc)) (.cons dv .nil), gF, rF⟩
      rw [DpAll.len dacc]
      exact Nat.lt_of_le_of_lt hacc (Nat.lt_of_lt_of_le hlt (Nat.le_trans hlen (by decide)))
    | false =>
      rw [if_neg Bool.false_ne_true]
      have gS : Go B1 H1 ρ1 B3 H3 ((ρ3.set i1 .no).set i2 .no) := (gA3.trans go_no).trans go_no
      have nS : ¬ Own ((ρ3.set i1 .no).set i2 .no) Dl := fun z => nD3 (own_no (own_no z))
      exact ⟨acc, vs, B3, (ρ3.set i1 .no).set i2 .no, p3.2 rfl, by omega, hD3, bD3, nS, DpAll.mono g3.ex (DpAll.mono g2.ex dacc), gS, back r3⟩
  · have e : j = ds.length := by omega
    subst e
    exact .inl ⟨y2 (Nat.le_refl _), q Dl vs acc B' H' ρ' (done acc ρ' w) (g1.dom Dl hD) hl bl nl dacc (g1.trans g) r'⟩
/-- [elt for y1, y2 in iter if tst] -/
theorem vn_lc2If (C : Cst X M sc NK G k) {scope : Scope} {i1 i2 : Nat} {y1 y2 : Str} {p1 p2 tpos : Pos} {kk : Nat} {elt iter tst : Expr} {v1 v2 : Bool} (NK' : List (Str × Bool × Bool)) (G' : List Str) (h1 : At NK' i1 (y1, v1, true)) (h2 : At NK' i2 (y2, v2, true)) (ne : i1 ≠ i2)
    (h : VP X (.Tuple [.Name y1 p1, .Name y2 p2] kk tpos) iter ρ fun ds ρ1 => ds.length ≤ 100000 ∧ ∃ W : Nat → List D → En → Prop, W 0 [] ρ1 ∧
      (∀ (j : Nat) d1 d2 acc ρ', ds[j]? = some (d1, d2) → W j acc ρ' → ∀ X', Cst X' M (relS scope sc) NK' G' k → VT X' tst ((ρ'.set i1 (.dat d1)).set i2 (.dat d2)) fun bb ρ3 => (bb = true → ∀ X'', Cst X'' M (relS scope sc) NK' G' k → VD X'' elt ρ3 fun u ρ4 => W (j + 1) (acc ++ [u]) ((ρ4.set i1 .no).set i2 .no)) ∧ (bb = false → W (j + 1) acc ((ρ3.set i1 .no).set i2 .no))) ∧
      ∀ acc ρ', W ds.length acc ρ' → PL acc ρ')
    (ok : blkC (NK.map (·.1)) sc scope [(y1, i1), (y2, i2)] = true := by decide +kernel) (hN : NK'.map (·.1) = NK.map (·.1) := by rfl) (hc : chk (relS scope sc) false NK' G' = true := by decide +kernel)
    (hs : ∀ x, foldedSetIterable iter X.env x = pure x := by intro _; rfl) : VN X (.ListComp elt [⟨.Tuple [.Name y1 p1, .Name y2 p2] kk tpos, iter, [tst], 0⟩] scope pos) ρ PL := VN.mk fun B H σ Q r q => by
  have ok' : BlkOk X.N X.env.scope scope [(y1, i1), (y2, i2)] := by
    rw [C.n, C.s]
    exact blkOk_by ok
  have cb : ∀ (s : Shared) (H : Hp) (Ca : Addr) (cl : List (Str × Addr)) (fp : List Addr), Cst (X.blk s H scope (compEnvC scope cl Ca X.env) fp) M (relS scope sc) NK' G' k := fun s H Ca cl fp => cst_blk C hN hc
  have tg2 : ∀ (s : Shared) (H : Hp) (Ca : Addr) (cl : List (Str × Addr)) (fp : List Addr), PG (X.blk s H scope (compEnvC scope cl Ca X.env) fp) (.Tuple [.Name y1 p1, .Name y2 p2] kk tpos) (gTup X.K 2 (t2 i1 i2)) := fun s H Ca cl fp => by
    have c := cb s H Ca cl fp
    refine pg_tup C.calm ⟨fun pins s' σ' H' vs us Q' I rv hh => ?_⟩
    obtain ⟨v, w, rfl, qq⟩ := hh
    exact (pgs_cons (pg_name c.nd (c.ix h1) (c.lo h1) (c.fn h1)) (pgs_cons (pg_name c.nd (c.ix h2) (c.lo h2) (c.fn h2)) pgs_nil)).run pins s' σ' H' [v, w] us Q' I rv ⟨v, [w], rfl, w, [], rfl, rfl, qq⟩
  exact PE.sem (pe_lc (g := gTup X.K 2 (t2 i1 i2)) (tt := uTst X scope tst) C.calm C.nd pi_sem ok' tg2 pts_uTst pe_uSem hs)
    (lc_read2If (Cb := fun X' => Cst X' M (relS scope sc) NK' G' k) ne r cb h q)
/-- enumerate(e), e a list -/
theorem vp_enum (C : Cst X M sc NK G k) {i kk : Nat} {p tpos : Pos} {elts : List Expr} (hg : At G i "enumerate") (h : VD X e ρ fun d ρ1 => ∃ xs, d = .list xs ∧ PP (xs.zipIdx.map fun q => (PyData.int (q.2 : Int), q.1)) ρ1) (hm : M.mg "enumerate" = none := by assumption)
    (hs : starEach [e] X.env = [(false, eval e X.env)] := by rfl) : VP X (.Tuple elts kk tpos) (.Call (.Name "enumerate" p) [e] [] pos) ρ PP := VP.mk fun B H σ R r q => by
  refine PI.sem (pi_enum (C.g hg) (C.mg hm) (pa_cons pe_sem pa_nil hs) hs) ?_
  refine h.run B H σ _ r fun v d B1 H1 ρ1 p1 dv g1 r1 => ?_
  obtain ⟨xs, rfl, pp⟩ := p1
  obtain ⟨t, us, rfl, hT, hu⟩ := dp_lst dv
  have hl : (xs.zipIdx.map fun q => (PyData.int (q.2 : Int), q.1)).length = xs.length := by rw [List.length_map, List.length_zipIdx]
  refine ⟨t, us, rfl, ex_l r1.ex hT, q _ _ B1 H1 ρ1 pp (fun j B2 H2 e1 e2 => ⟨fun hj => ?_, fun hj => ?_⟩) g1 r1⟩
  · rw [hl] at hj
    have l1 : j < us.length := by rw [DpAll.len hu]; exact hj
    have s1 := ex_l (e1.trans e2) hT
    refine ⟨⟨us, us[j], s1, List.getElem?_eq_getElem l1⟩, fun x H' y => ?_⟩
    obtain ⟨T, x1, rfl, hT0, rfl, f1⟩ := y
    obtain ⟨d1, k1, k2⟩ := DpAll.getV hu (f1 us s1)
    refine ⟨T, .int (j : Int), x1, .int (j : Int), d1, rfl, .inr ⟨hT0, rfl⟩, ?_, .int _, Dp.mono e1 k2⟩
    rw [List.getElem?_map, List.getElem?_zipIdx, k1, Nat.zero_add]
    rfl
  · rw [hl] at hj
    exact ⟨us, ex_l (e1.trans e2) hT, by rw [DpAll.len hu]; exact hj⟩
end

open PySem PySem.Spec PyProof.Rows L2
open Evl (Ex)

/-! ### calls of methods, with what they may let out -/
section
variable {X : Cx} {CX : CXT} {k : Nat} {f C : Addr} {fd : FuncData} {ps : List Str} {sp : Sp} {E : L2.St → XK} {m : Str} {pos apos : Pos} {e o : Expr} {es : List Expr} {ta : TE} {t : TA}
def tMethE (C : Addr) (m : Str) (sp : Sp) (E : L2.St → XK) (ta : TE) (t : TA) : TE := fun σ H Q => ta σ H fun x H1 => ∃ a dx fs, x = .ref a ∧ H1 a = some (.ins C dx fs) ∧ fs.lookup m = none ∧ t σ H1 fun vs H2 => sp (x :: vs) H2 Q (E σ)
theorem pe_methE {pl : Sem Bool} (he : PE X o ta) (c : Cls X.K C) (hm : Meth X.K C m f) (F : FnOk X.prog X.w X.K X.mg X.base CX k f fd ps sp) (hr : Room k X.A) (hb : Binds X.K fd ps []) (hx : ∀ σ, PassesAt CX X σ (E σ)) (ha : PA X (e :: es) t)
    (hst : starEach (e :: es) X.env = (false, eval e X.env) :: starEach es X.env) (hpl : (backTo pos (starEach es X.env)).any (·.1) = false)
    (ht : eval (.Call (.Attribute o m apos) (e :: es) [] pos) X.env = (do
      let ov ← eval o X.env
      standAt apos.atName
      let (f, first) ← holding [ov] (getMethod ov m pl)
      callWith pos f first (backTo pos (starEach (e :: es) X.env)) (backToKw pos (keywordEach [] X.env)))) :
    PE X (.Call (.Attribute o m apos) (e :: es) [] pos) (tMethE C m sp E ta t) := by
  refine ⟨fun pins s σ H Q I h => ?_⟩
  refine PySem.W.methodCall_KW (pl := pl) (thn (he.run pins s σ H _ I h) fun u s1 ⟨x, H1, I1, rx, a, dx, fs, ex, ea, l, q⟩ => ?_) ht
  subst ex
  obtain rfl : u = Value.ref a := rx
  refine getmeth_ok I1 ea c hm l ?_
  refine PySem.W.callWith_K (first := [.ref a]) (h₀ := X.base) I.ok.mod.kin hm.kp (thn (ha.run pos pins s1 σ H1 _ I1 q) fun us s2 ⟨vs, H2, I2, r, q2⟩ => ⟨I2.kIn, ?_⟩) hst hpl
  exact run_fnS (us := .ref a :: us) (vs := .ref a :: vs) F hr hb (hx σ) I2 (.cons rfl r) q2
theorem pe_methE0 {pl : Sem Bool} (he : PE X o ta) (c : Cls X.K C) (hm : Meth X.K C m f) (F : FnOk X.prog X.w X.K X.mg X.base CX k f fd ps sp) (hr : Room k X.A) (hb : Binds X.K fd ps []) (hx : ∀ σ, PassesAt CX X σ (E σ))
    (ht : eval (.Call (.Attribute o m apos) [] [] pos) X.env = (do
      let ov ← eval o X.env
      standAt apos.atName
      let (f, first) ← holding [ov] (getMethod ov m pl)
      callWith pos f first (backTo pos (starEach [] X.env)) (backToKw pos (keywordEach [] X.env)))) :
    PE X (.Call (.Attribute o m apos) [] [] pos) (tMethE C m sp E ta tNil) := by
  refine ⟨fun pins s σ H Q I h => ?_⟩
  refine PySem.W.methodCall_KW (pl := pl) (thn (he.run pins s σ H _ I h) fun u s1 ⟨x, H1, I1, rx, a, dx, fs, ex, ea, l, q⟩ => ?_) ht
  subst ex
  obtain rfl : u = Value.ref a := rx
  refine getmeth_ok I1 ea c hm l ?_
  exact PySem.W.callWith_K0 (first := [.ref a]) I1.kIn hm.kp (run_fnS (us := [.ref a]) (vs := [.ref a]) F hr hb (hx σ) I1 (.cons rfl .nil) q)
end

/-! ### expressions that may raise -/
structure VE (X : Cx) (e : Expr) (ρ : En) (P : D → En → Prop) (E : Er → En → Prop) : Prop where
  run : ∀ B H σ (Q : VK) (W : WX), Takes X W → Rel (kwOf X) B H σ ρ →
  (∀ v d B' H' ρ', P d ρ' → Dp X.K B' v d → Go B H ρ B' H' ρ' → Rel (kwOf X) B' H' σ ρ' → Q v H') →
  (∀ (c : Er) dx B' H' ρ', E c ρ' → ErOk X.K B' H' dx c → Go B H ρ B' H' ρ' → Rel (kwOf X) B' H' σ ρ' → W c.c dx σ H') → eSem X e σ H Q
/-- arguments of which some may raise -/
structure VEX (X : Cx) (es : List Expr) (ρ : En) (P : List Ar → En → Prop) (E : Er → En → Prop) : Prop where
  run : ∀ B H σ (Q : List V → Hp → Prop) (W : WX), Takes X W → Rel (kwOf X) B H σ ρ →
  (∀ vs ars B' H' ρ', P ars ρ' → Paired (ArOk X.K B' σ) vs ars → Go B H ρ B' H' ρ' → Rel (kwOf X) B' H' σ ρ' → Q vs H') →
  (∀ (c : Er) dx B' H' ρ', E c ρ' → ErOk X.K B' H' dx c → Go B H ρ B' H' ρ' → Rel (kwOf X) B' H' σ ρ' → W c.c dx σ H') → aSem X es σ H Q
structure VEA (X : Cx) (es : List Expr) (ρ : En) (P : List D → En → Prop) (E : Er → En → Prop) : Prop where
  run : ∀ B H σ (Q : List V → Hp → Prop) (W : WX), Takes X W → Rel (kwOf X) B H σ ρ →
  (∀ vs ds B' H' ρ', P ds ρ' → DpAll X.K B' vs ds → Go B H ρ B' H' ρ' → Rel (kwOf X) B' H' σ ρ' → Q vs H') →
  (∀ (c : Er) dx B' H' ρ', E c ρ' → ErOk X.K B' H' dx c → Go B H ρ B' H' ρ' → Rel (kwOf X) B' H' σ ρ' → W c.c dx σ H') → aSem X es σ H Q

/-- a method of one's own class, by what it does with slots (itself the first) -/
structure FnMt (M : Md) (j : Nat) (CA : Addr) (m : Str) (n : Nat) (S : SX) : Prop where
  ex : ∃ f fd ps, FnOk M.prog M.w M.K M.mg M.base (L2.CX M.prog M.w) j f fd ps (DSx (kwM M) n S) ∧ Meth M.K CA m f ∧ Binds M.K fd ps []

theorem look_ob {K : PySem.W.Frag} {B : Hp} {f : Str} : ∀ {fs : List (Str × D)} {vs : List V}, DpAll K B vs (fs.map (·.2)) →
    (∀ d, getS fs f = some d → ∃ v, (List.zipWith (fun (e : Str × D) v => (e.1, v)) fs vs).lookup f = some v ∧ Dp K B v d) ∧ (getS fs f = none → (List.zipWith (fun (e : Str × D) v => (e.1, v)) fs vs).lookup f = none)
  | [], _, .nil => ⟨fun d h => (nomatch h), fun _ => rfl⟩
  | e :: es, v :: vs, .cons h1 h2 => by
    obtain ⟨i1, i2⟩ := look_ob (f := f) (fs := es) h2
    unfold getS at i1 i2 ⊢
    rw [List.zipWith_cons_cons, List.find?_cons, List.lookup_cons]
    by_cases q : e.1 = f
    · rw [decide_eq_true q, beq_iff_eq.mpr q.symm]
      exact ⟨fun d hd => by cases hd; exact ⟨v, rfl, h1⟩, fun h => nomatch h⟩
    · rw [decide_eq_false q, beq_eq_false_iff_ne.mpr (Ne.symm q)]
      exact ⟨i1, i2⟩
/-- an attribute is written -/
def putA (f : Str) (d : D) : List (Str × D) → List (Str × D)
  | [] => [(f, d)]
  | (g, x) :: r => if g = f then (g, d) :: r else (g, x) :: putA f d r
theorem put_ob {K : PySem.W.Frag} {B : Hp} {f : Str} {v0 : V} {d0 : D} (hd : Dp K B v0 d0) : ∀ {fs : List (Str × D)} {vs : List V}, DpAll K B vs (fs.map (·.2)) →
    ∃ ws, DpAll K B ws ((putA f d0 fs).map (·.2)) ∧ putF f v0 (List.zipWith (fun (e : Str × D) v => (e.1, v)) fs vs) = List.zipWith (fun (e : Str × D) v => (e.1, v)) (putA f d0 fs) ws
  | [], _, .nil => ⟨[v0], .cons hd .nil, rfl⟩
  | (g, x) :: es, v :: vs, .cons h1 h2 => by
    obtain ⟨ws, i1, i2⟩ := put_ob (f := f) hd (fs := es) h2
    rw [List.zipWith_cons_cons]
    unfold putA putF
    by_cases q : g = f
    · rw [if_pos q, if_pos q]
      exact ⟨v0 :: vs, .cons hd h2, rfl⟩
    · rw [if_neg q, if_neg q, i2]
      exact ⟨v :: ws, .cons h1 i1, rfl⟩
theorem zip_ob_len {fs : List (Str × D)} {vs : List V} : (List.zipWith (fun (e : Str × D) v => (e.1, v)) fs vs).length ≤ fs.length := by
  rw [List.length_zipWith]
  omega

section
variable {X : Cx} {M : Md} {sc : Scope} {NK : List (Str × Bool × Bool)} {G : List Str} {k : Nat} {ρ : En} {P : D → En → Prop} {PX : List Ar → En → Prop} {PL : List D → En → Prop} {E : Er → En → Prop} {pos : Pos} {a b c e : Expr} {es rest : List Expr} {x y : Str} {F : Fin}
theorem ve_of (h : VD X e ρ P) : VE X e ρ P E := ⟨fun B H σ Q W tk r q _ => h.run B H σ Q r q⟩
theorem VE.imp {P' : D → En → Prop} (h : VE X e ρ P E) (w : ∀ d ρ', P d ρ' → P' d ρ') : VE X e ρ P' E := ⟨fun B H σ Q W tk r q x => h.run B H σ Q W tk r (fun v d B' H' ρ' p => q v d B' H' ρ' (w d ρ' p)) x⟩
theorem vea_nil (p : PL [] ρ) : VEA X [] ρ PL E := ⟨fun B H σ Q W tk r q _ => PA.sem pa_nil (q [] [] B H ρ p .nil Go.refl r)⟩
theorem vea_cons (h : VE X e ρ (fun d ρ1 => VEA X es ρ1 (fun ds ρ2 => PL (d :: ds) ρ2) E) E) (hs : starEach (e :: es) X.env = (false, eval e X.env) :: starEach es X.env := by rfl) : VEA X (e :: es) ρ PL E := ⟨fun B H σ Q W tk r q x => by
  refine PA.sem (pa_cons pe_sem pa_sem hs) ?_
  refine h.run B H σ _ W tk r (fun v d B1 H1 ρ1 p1 dv g1 r1 => ?_) x
  exact p1.run B1 H1 σ _ W tk r1 (fun vs ds B2 H2 ρ2 p2 dvs g2 r2 => q (v :: vs) (d :: ds) B2 H2 ρ2 p2 (.cons (Dp.mono g2.ex dv) dvs) (g1.trans g2) r2) fun c dx B2 H2 ρ2 p2 k2 g2 r2 => x c dx B2 H2 ρ2 p2 k2 (g1.trans g2) r2⟩
theorem vex_nil (p : PX [] ρ) : VEX X [] ρ PX E := ⟨fun B H σ Q W tk r q _ => PA.sem pa_nil (q [] [] B H ρ p .nil Go.refl r)⟩
theorem vex_cons (h : VE X e ρ (fun d ρ1 => VEX X es ρ1 (fun ars ρ2 => PX (.da d :: ars) ρ2) E) E) (hs : starEach (e :: es) X.env = (false, eval e X.env) :: starEach es X.env := by rfl) : VEX X (e :: es) ρ PX E := ⟨fun B H σ Q W tk r q x => by
  refine PA.sem (pa_cons pe_sem pa_sem hs) ?_
  refine h.run B H σ _ W tk r (fun v d B1 H1 ρ1 p1 dv g1 r1 => ?_) x
  exact p1.run B1 H1 σ _ W tk r1 (fun vs ars B2 H2 ρ2 p2 q2 g2 r2 => q (v :: vs) (.da d :: ars) B2 H2 ρ2 p2 (.cons (show ArOk X.K B2 σ v (.da d) from Dp.mono g2.ex dv) q2) (g1.trans g2) r2) fun c dx B2 H2 ρ2 p2 k2 g2 r2 => x c dx B2 H2 ρ2 p2 k2 (g1.trans g2) r2⟩
theorem vex_own (C : Cst X M sc NK G k) {m : Nat} {l : Bool} {p : Addr} {o : OD} {py : Pos} (ha : At NK m (y, true, l)) (ho : ρ[m]? = some (.own p o)) (h : VEX X es ρ (fun ars ρ2 => PX (.ow m :: ars) ρ2) E)
    (hs : starEach (.Name y py :: es) X.env = (false, eval (.Name y py) X.env) :: starEach es X.env := by rfl) (hd : (y == ("__debug__" : Str)) = false := by decide) (hcd : (y == ("__classdict__" : Str)) = false := by decide) : VEX X (.Name y py :: es) ρ PX E := ⟨fun B H σ Q W tk r q x => by
  refine PA.sem (pa_cons (pe_var (C.ix ha) (C.vi ha) hd hcd) pa_sem hs) ?_
  have hv := (r.own m p o ho).1
  refine ⟨.ref p, hv, ?_⟩
  exact h.run B H σ _ W tk r (fun vs ars B2 H2 ρ2 p2 q2 g2 r2 => q (.ref p :: vs) (.ow m :: ars) B2 H2 ρ2 p2 (.cons (show ArOk X.K B2 σ (.ref p) (.ow m) from hv) q2) g2 r2) x⟩
/-- (a, ..) -/
theorem ve_tup {kk : Nat} (h : VEA X es ρ (fun ds ρ1 => ds.length ≤ 1000 ∧ P (.tuple ds) ρ1) E) : VE X (.Tuple es kk pos) ρ P E := ⟨fun B H σ Q W tk r q x => by
  refine PE.sem (pe_tup pa_sem) ?_
  refine h.run B H σ _ W tk r (fun vs ds B1 H1 ρ1 p1 dvs g1 r1 => ⟨?_, fun p hp => ?_⟩) x
  · rw [DpAll.len dvs]
    exact Nat.le_trans p1.1 (by decide)
  · obtain ⟨r2, g2⟩ := new_both (o := .tup vs) r1 hp
    exact q _ _ _ _ ρ1 p1.2 (.tup (.inl (.inl upd_same)) (DpAll.mono g2.ex dvs)) (g1.trans g2) r2⟩
theorem ve_if (h : VT X c ρ fun bb ρ1 => (bb = true → VE X a ρ1 P E) ∧ (bb = false → VE X b ρ1 P E)) : VE X (.IfExp c a b pos) ρ P E := ⟨fun B H σ Q W tk r q x => by
  refine PE.sem (pe_ifExp pb_sem pe_sem pe_sem) ?_
  refine h.run B H σ _ r fun bb B1 H1 ρ1 p g1 r1 => ?_
  cases bb with
  | true => exact (p.1 rfl).run B1 H1 σ Q W tk r1 (fun v d B2 H2 ρ2 p2 dd g2 r2 => q v d B2 H2 ρ2 p2 dd (g1.trans g2) r2) fun c dx B2 H2 ρ2 p2 k2 g2 r2 => x c dx B2 H2 ρ2 p2 k2 (g1.trans g2) r2
  | false => exact (p.2 rfl).run B1 H1 σ Q W tk r1 (fun v d B2 H2 ρ2 p2 dd g2 r2 => q v d B2 H2 ρ2 p2 dd (g1.trans g2) r2) fun c dx B2 H2 ρ2 p2 k2 g2 r2 => x c dx B2 H2 ρ2 p2 k2 (g1.trans g2) r2⟩
/-- f(..) -/
theorem ve_callX (C : Cst X M sc NK G k) {j n : Nat} {S : SX} {i : Nat} {p : Pos} (Fn : FnX M j x n S) (hg : At G i x) (h : VEX X (e :: es) ρ (fun ars ρ1 => calls S n ρ1 ars P E) E) (hj : j ≤ k := by decide)
    (hdb : (x == ("__debug__" : Str)) = false := by decide) (he : starEach (e :: es) X.env = (false, eval e X.env) :: starEach es X.env := by rfl) (hpl : (backTo pos (starEach es X.env)).any (·.1) = false := by rfl) : VE X (.Call (.Name x p) (e :: es) [] pos) ρ P E := ⟨fun B H σ Q W tk r q xx => by
  have eM := C.m
  subst eM
  obtain ⟨fa, fd, ps, Fo, hm, hk, hb⟩ := Fn.ex
  refine PE.sem (pe_callS (E := WE W) Fo (C.room.mono hj) (C.g hg) hm hk hb (fun σ => passAt tk σ) pa_sem hdb he hpl) ?_
  refine h.run B H σ _ W tk r (fun vs ars B1 H1 ρ1 ⟨c1, c2, c3, c4⟩ pr g1 r1 => ?_) xx
  refine ⟨B1, _, _, _, rel_args r1 pr c1 c2, by rw [List.length_map]; exact c3, c4, fun v d B2 H2 as' w u dv g2 r2 => ?_, fun c1 dx B2 H2 as' w k2 u g2 r2 => ?_⟩
  · obtain ⟨g3, r3⟩ := rel_back r1 pr c2 u g2 r2
    exact q v d B2 H2 _ w dv (g1.trans g3) r3
  · obtain ⟨g3, r3⟩ := rel_back r1 pr c2 u g2 r2
    exact xx c1 dx B2 H2 _ w k2 (g1.trans g3) r3⟩
/-- o.m(..), o an instance of one's own -/
theorem ve_meth (C : Cst X M sc NK G k) {j n : Nat} {S : SX} {CA : Addr} {m : Str} {i : Nat} {l : Bool} {p0 : Addr} {fs0 : List (Str × D)} {px apos : Pos} {pl : Sem Bool} (hc : Cls M.K CA) (Fn : FnMt M j CA m n S) (ha : At NK i (x, true, l)) (ho : ρ[i]? = some (.own p0 (.ob CA fs0))) (hno : getS fs0 m = none)
    (h : VEX X (e :: es) ρ (fun ars ρ1 => (∃ o, ρ1[i]? = some (.own p0 o)) ∧ calls S n ρ1 (.ow i :: ars) P E) E) (hj : j ≤ k := by decide)
    (hd : (x == ("__debug__" : Str)) = false := by decide) (hcd : (x == ("__classdict__" : Str)) = false := by decide)
    (hst : starEach (e :: es) X.env = (false, eval e X.env) :: starEach es X.env := by rfl) (hpl : (backTo pos (starEach es X.env)).any (·.1) = false := by rfl)
    (ht : eval (.Call (.Attribute (.Name x px) m apos) (e :: es) [] pos) X.env = (do
      let ov ← eval (.Name x px) X.env
      standAt apos.atName
      let (f, first) ← holding [ov] (getMethod ov m pl)
      callWith pos f first (backTo pos (starEach (e :: es) X.env)) (backToKw pos (keywordEach [] X.env))) := by rfl) : VE X (.Call (.Attribute (.Name x px) m apos) (e :: es) [] pos) ρ P E := ⟨fun B H σ Q W tk r q xx => by
  have eM := C.m
  subst eM
  obtain ⟨fa, fd, ps, Fo, hm, hb⟩ := Fn.ex
  refine PE.sem (pe_methE (E := WE W) (pe_var (C.ix ha) (C.vi ha) hd hcd) hc hm Fo (C.room.mono hj) hb (fun σ => passAt tk σ) pa_sem hst hpl ht) ?_
  obtain ⟨s1, _, _, h3, dx0, vs0, d0, rfl⟩ := r.own i p0 _ ho
  refine ⟨.ref p0, s1, p0, dx0, _, rfl, h3, (look_ob d0).2 hno, ?_⟩
  refine h.run B H σ _ W tk r (fun vs ars B1 H1 ρ1 ⟨⟨o1, ho1⟩, c1, c2, c3, c4⟩ pr g1 r1 => ?_) xx
  have pr2 : Paired (ArOk X.K B1 σ) (.ref p0 :: vs) (.ow i :: ars) := .cons (show ArOk X.K B1 σ (.ref p0) (.ow i) from s1) pr
  refine ⟨B1, _, _, _, rel_args r1 pr2 c1 c2, by rw [List.length_map]; exact c3, c4, fun v d B2 H2 as' w u dv g2 r2 => ?_, fun c1 dx B2 H2 as' w k2 u g2 r2 => ?_⟩
  · obtain ⟨g3, r3⟩ := rel_back r1 pr2 c2 u g2 r2
    exact q v d B2 H2 _ w dv (g1.trans g3) r3
  · obtain ⟨g3, r3⟩ := rel_back r1 pr2 c2 u g2 r2
    exact xx c1 dx B2 H2 _ w k2 (g1.trans g3) r3⟩
/-- o.m() -/
theorem ve_meth0 (C : Cst X M sc NK G k) {j : Nat} {S : SX} {CA : Addr} {m : Str} {i : Nat} {l : Bool} {p0 : Addr} {fs0 : List (Str × D)} {px apos : Pos} {pl : Sem Bool} (hc : Cls M.K CA) (Fn : FnMt M j CA m 1 S) (ha : At NK i (x, true, l)) (ho : ρ[i]? = some (.own p0 (.ob CA fs0))) (hno : getS fs0 m = none)
    (h : S [.own p0 (.ob CA fs0)] (fun d as' => P d (put ρ [.ow i] as')) (fun c as' => E c (put ρ [.ow i] as'))) (hj : j ≤ k := by decide)
    (hd : (x == ("__debug__" : Str)) = false := by decide) (hcd : (x == ("__classdict__" : Str)) = false := by decide)
    (ht : eval (.Call (.Attribute (.Name x px) m apos) [] [] pos) X.env = (do
      let ov ← eval (.Name x px) X.env
      standAt apos.atName
      let (f, first) ← holding [ov] (getMethod ov m pl)
      callWith pos f first (backTo pos (starEach [] X.env)) (backToKw pos (keywordEach [] X.env))) := by rfl) : VE X (.Call (.Attribute (.Name x px) m apos) [] [] pos) ρ P E := ⟨fun B H σ Q W tk r q xx => by
  have eM := C.m
  subst eM
  obtain ⟨fa, fd, ps, Fo, hm, hb⟩ := Fn.ex
  refine PE.sem (pe_methE0 (E := WE W) (pe_var (C.ix ha) (C.vi ha) hd hcd) hc hm Fo (C.room.mono hj) hb (fun σ => passAt tk σ) ht) ?_
  obtain ⟨s1, _, _, h3, dx0, vs0, d0, rfl⟩ := r.own i p0 _ ho
  refine ⟨.ref p0, s1, p0, dx0, _, rfl, h3, (look_ob d0).2 hno, ?_⟩
  have pr2 : Paired (ArOk X.K B σ) [.ref p0] [.ow i] := .cons (show ArOk X.K B σ (.ref p0) (.ow i) from s1) .nil
  have c2 : ownAll ρ [.ow i] := ⟨⟨_, _, ho⟩, trivial⟩
  have r0 := rel_args r pr2 rfl c2
  have e0 : ([Ar.ow i].map (Ar.sl ρ)) = [.own p0 (.ob CA fs0)] := by
    show [(ρ[i]?).getD .no] = _
    rw [ho]
    rfl
  refine ⟨B, _, _, _, r0, rfl, by rw [e0]; exact h, fun v d B2 H2 as' w u dv g2 r2 => ?_, fun c1 dx B2 H2 as' w k2 u g2 r2 => ?_⟩
  · obtain ⟨g3, r3⟩ := rel_back r pr2 c2 u g2 r2
    exact q v d B2 H2 _ w dv g3 r3
  · obtain ⟨g3, r3⟩ := rel_back r pr2 c2 u g2 r2
    exact xx c1 dx B2 H2 _ w k2 g3 r3⟩
/-- what raises nothing -/
theorem takesNo {X : Cx} : Takes X fun _ _ _ _ => False := fun _ _ ⟨_, _, _, _, _, _, _, _, _, _, _, _, _, _, _, _, w⟩ => w.elim
theorem vd_no (h : VE X e ρ P fun _ _ => False) : VD X e ρ P := VD.mk fun B H σ Q r q => h.run B H σ Q _ takesNo r q fun _ _ _ _ _ w _ _ _ => w
/-! ### rows -/
theorem vs_setE (C : Cst X M sc NK G k) {m : Nat} {v : Bool} {py : Pos} {spos : Pos} (ha : At NK m (y, v, true)) (h : VE X e ρ (fun d ρ1 => F.nx (ρ1.set m (.dat d))) F.ex)
    (hs : swapsWith e (some (.Name y py)) spos.line X.env = pure false := by rfl) : VS X (.Assign [.Name y py] e spos) ρ F := VS.mk fun B H σ Z r f => by
  refine PS.sem (ps_set C.nd (C.ix ha) (C.lo ha) pe_sem hs (C.fn ha)) ?_
  exact h.run B H σ _ Z.e Z.tk r (fun w d B1 H1 ρ1 p1 dv g1 r1 => f.nx B1 H1 _ _ p1 (g1.trans go_set) (rel_set r1 dv)) fun c dx B2 H2 ρ2 p2 k2 g2 r2 => f.ex c dx B2 H2 σ ρ2 p2 k2 g2 r2
theorem vs_retE (h : VE X e ρ F.rt F.ex) : VS X (.Return (some e) pos) ρ F := VS.mk fun B H σ Z r f => PS.sem (ps_ret pe_sem) (h.run B H σ _ Z.e Z.tk r (fun v d B1 H1 ρ1 p dv g r1 => f.rt v d B1 H1 σ ρ1 p dv g r1) fun c dx B2 H2 ρ2 p2 k2 g2 r2 => f.ex c dx B2 H2 σ ρ2 p2 k2 g2 r2)
theorem vs_exprE (h : VE X e ρ (fun _ ρ1 => F.nx ρ1) F.ex) (hs : swapsWith e none pos.line X.env = pure false := by rfl) : VS X (.Expr e pos) ρ F := VS.mk fun B H σ Z r f =>
  PS.sem (ps_expr pe_sem hs) (h.run B H σ _ Z.e Z.tk r (fun v d B1 H1 ρ1 p dv g r1 => f.nx B1 H1 σ ρ1 p g r1) fun c dx B2 H2 ρ2 p2 k2 g2 r2 => f.ex c dx B2 H2 σ ρ2 p2 k2 g2 r2)
/-! ### attributes -/
theorem vd_fld (C : Cst X M sc NK G k) {CA : Addr} {f : Str} {i : Nat} {l : Bool} {p0 : Addr} {fs0 : List (Str × D)} {d : D} {px : Pos} (hc : Cls M.K CA) (hn : NoAttr M.K CA f) (ha : At NK i (x, true, l)) (ho : ρ[i]? = some (.own p0 (.ob CA fs0))) (hf : getS fs0 f = some d) (h : P d ρ)
    (hd : (x == ("__debug__" : Str)) = false := by decide) (hcd : (x == ("__classdict__" : Str)) = false := by decide) (hb : attributeBase (.Name x px) f X.env (eval (.Name x px) X.env) = eval (.Name x px) X.env := by rfl) : VD X (.Attribute (.Name x px) f pos) ρ P := VD.mk fun B H σ Q r q => by
  have eM := C.m
  subst eM
  refine PE.sem (pe_fld (pe_var (C.ix ha) (C.vi ha) hd hcd) hb) ?_
  obtain ⟨s1, _, _, h3, dx0, vs0, d0, rfl⟩ := r.own i p0 _ ho
  obtain ⟨v, hv, dv⟩ := (look_ob d0).1 d hf
  exact ⟨.ref p0, s1, p0, CA, dx0, _, v, rfl, h3, hc, hn, hv, q v d B H ρ h dv Go.refl r⟩
/-- o.f = e -/
theorem vs_fld (C : Cst X M sc NK G k) {CA : Addr} {f : Str} {i : Nat} {l : Bool} {p0 : Addr} {px p2 : Pos} (hc : Cls M.K CA) (hn : NoAttr M.K CA f) (ha : At NK i (x, true, l))
    (h : VD X e ρ fun d ρ1 => ∃ fs, ρ1[i]? = some (.own p0 (.ob CA fs)) ∧ fs.length < 900 ∧ F.nx (ρ1.set i (.own p0 (.ob CA (putA f d fs)))))
    (hd : (x == ("__debug__" : Str)) = false := by decide) (hcd : (x == ("__classdict__" : Str)) = false := by decide) (hs : swapsWith e (some (.Attribute (.Name x px) f p2)) pos.line X.env = pure false := by rfl) : VS X (.Assign [.Attribute (.Name x px) f p2] e pos) ρ F := VS.mk fun B H σ Z r ff => by
  have eM := C.m
  subst eM
  refine PS.sem (ps_fld (pe_var (C.ix ha) (C.vi ha) hd hcd) pe_sem hs) ?_
  refine h.run B H σ _ r fun v d B1 H1 ρ1 p1 dv g1 r1 => ?_
  obtain ⟨fs, ho, hl, pp⟩ := p1
  obtain ⟨s1, _, _, h3, dx0, vs0, d0, rfl⟩ := r1.own i p0 _ ho
  obtain ⟨ws, dw, ew⟩ := put_ob (f := f) dv d0
  have hz := zip_ob_len (fs := fs) (vs := vs0)
  refine ⟨.ref p0, s1, p0, CA, dx0, _, rfl, h3, hc, hn, by omega, ?_⟩
  rw [ew]
  obtain ⟨r2, g2⟩ := own_writeO (u' := .ins CA dx0 (List.zipWith (fun (e : Str × D) v => (e.1, v)) (putA f d fs) ws)) (cs' := .ob CA (putA f d fs)) r1 ho ⟨dx0, ws, dw, rfl⟩
  exact ff.nx _ _ σ _ pp (g1.trans g2) r2
/-- o.f += e, whole numbers -/
theorem vs_fldadd (C : Cst X M sc NK G k) {CA : Addr} {f : Str} {i : Nat} {l : Bool} {p0 : Addr} {fs0 : List (Str × D)} {j : Int} {px p2 : Pos} (hc : Cls M.K CA) (hn : NoAttr M.K CA f) (ha : At NK i (x, true, l)) (ho : ρ[i]? = some (.own p0 (.ob CA fs0))) (hf : getS fs0 f = some (.int j))
    (h : VD X e ρ fun d ρ1 => ∃ n fs, d = .int n ∧ ρ1[i]? = some (.own p0 (.ob CA fs)) ∧ fs.length < 900 ∧ F.nx (ρ1.set i (.own p0 (.ob CA (putA f (.int (j + n)) fs)))))
    (hd : (x == ("__debug__" : Str)) = false := by decide) (hcd : (x == ("__classdict__" : Str)) = false := by decide) : VS X (.AugAssign (.Attribute (.Name x px) f p2) .Add e pos) ρ F := VS.mk fun B H σ Z r ff => by
  have eM := C.m
  subst eM
  refine PS.sem (ps_fldaug (pe_var (C.ix ha) (C.vi ha) hd hcd) pe_sem in_add) ?_
  obtain ⟨s1, _, _, h3, dx0, vs0, d0, rfl⟩ := r.own i p0 _ ho
  obtain ⟨v, hv, dv⟩ := (look_ob d0).1 _ hf
  refine ⟨.ref p0, s1, p0, CA, dx0, _, v, rfl, h3, hc, hn, hv, ?_⟩
  refine h.run B H σ _ r fun w d B1 H1 ρ1 p1 dw g1 r1 => ?_
  obtain ⟨n, fs, rfl, ho1, hl, pp⟩ := p1
  obtain ⟨s2, _, _, h4, dx1, vs1, d1, rfl⟩ := r1.own i p0 _ ho1
  obtain ⟨ws, dws, ew⟩ := put_ob (f := f) (v0 := .int (j + n)) (d0 := .int (j + n)) (.int _) d1
  have hz := zip_ob_len (fs := fs) (vs := vs1)
  refine ⟨j, n, dp_int dv, dp_int dw, dx1, _, h4, by omega, ?_⟩
  rw [ew]
  obtain ⟨r2, g2⟩ := own_writeO (u' := .ins CA dx1 (List.zipWith (fun (e : Str × D) v => (e.1, v)) (putA f (.int (j + n)) fs) ws)) (cs' := .ob CA (putA f (.int (j + n)) fs)) r1 ho1 ⟨dx1, ws, dws, rfl⟩
  exact ff.nx _ _ σ _ pp (g1.trans g2) r2
/-- name += e, whole numbers -/
theorem vs_augadd (C : Cst X M sc NK G k) {i : Nat} {j : Int} {px : Pos} (ha : At NK i (x, true, true)) (ho : ρ[i]? = some (.dat (.int j)))
    (h : VD X e ρ fun d ρ1 => ∃ n, d = .int n ∧ F.nx (ρ1.set i (.dat (.int (j + n))))) (hd : (x == ("__debug__" : Str)) = false := by decide) (hcd : (x == ("__classdict__" : Str)) = false := by decide) : VS X (.AugAssign (.Name x px) .Add e pos) ρ F := VS.mk fun B H σ Z r ff => by
  refine PS.sem (ps_aug C.nd (C.ix ha) (C.lo ha) pe_sem ip_add (C.fn ha)) ?_
  obtain ⟨v, hv, dv⟩ := r.dat i _ ho
  refine ⟨v, hv, ?_⟩
  refine h.run B H σ _ r fun w d B1 H1 ρ1 p1 dw g1 r1 => ?_
  obtain ⟨n, rfl, pp⟩ := p1
  refine ⟨j, n, dp_int dv, dp_int dw, ff.nx _ _ _ _ pp (g1.trans go_set) (rel_set r1 (.int _))⟩
end

open PySem PySem.Spec PyProof.Rows L2
open Evl (Ex)
/-- a text of these codes -/
abbrev sT (t : List Nat) : Str := ⟨t.toArray⟩
theorem sT_len (t : List Nat) : (sT t).length = t.length := List.size_toArray ..
theorem sT_list (t : List Nat) : (sT t).cps.toList = t := List.toList_toArray ..
theorem sT_inj {t u : List Nat} : sT t = sT u ↔ t = u := ⟨fun h => by
  have := congrArg (fun z : Str => z.cps.toList) h
  simpa using this, fun h => by rw [h]⟩
theorem sT_of (z : Str) : sT z.cps.toList = z := by
  cases z
  rfl
theorem cut_sT {t : List Nat} {i j : Nat} (hi : i ≤ t.length) (hij : i ≤ j) : cutS (sT t) (some (i : Int)) (some (j : Int)) = sT ((t.drop i).take (j - i)) := by
  unfold cutS
  rw [HT.sIx_nat, HT.sIx_nat, sT_list, sT_len, Nat.min_eq_left hi]
  congr 2
  by_cases h : j ≤ t.length
  · rw [Nat.min_eq_left h]
  · rw [Nat.min_eq_right (by omega), List.take_of_length_le (by rw [List.length_drop]; omega), List.take_of_length_le (by rw [List.length_drop]; omega)]
theorem cut_sTo {t : List Nat} {j : Nat} : cutS (sT t) none (some (j : Int)) = sT (t.take j) := by
  unfold cutS
  rw [HT.sIx_none, HT.sIx_nat, sT_list, sT_len, Nat.sub_zero, List.drop_zero]
  by_cases h : j ≤ t.length
  · rw [Nat.min_eq_left h]
  · rw [Nat.min_eq_right (by omega), List.take_of_length_le (Nat.le_refl _), List.take_of_length_le (by omega)]
section
variable {X : Cx} {M : Md} {sc : Scope} {NK : List (Str × Bool × Bool)} {G : List Str} {k : Nat} {ρ : En} {P : D → En → Prop} {PB : Bool → En → Prop} {pos p2 : Pos} {a b c e lo hi : Expr} {x : Str}
/-- a[lo:hi], a text -/
theorem vd_cutS (h : VD X a ρ fun x ρ1 => VD X lo ρ1 fun y ρ2 => ∃ i : Int, y = .int i ∧ VD X hi ρ2 fun w ρ3 => ∃ (z : Str) (j : Int), x = .str z ∧ w = .int j ∧ z.length ≤ 100000 ∧ P (.str (cutS z (some i) (some j))) ρ3) : VD X (.Subscript a (.Slice (some lo) (some hi) none p2) pos) ρ P := VD.mk fun B H σ Q r q => by
  refine PE.sem (pe_slice sl_str pe_sem (po_some pe_sem) (po_some pe_sem)) ?_
  refine h.run B H σ _ r fun vx x B1 H1 ρ1 p1 dx g1 r1 => ?_
  refine p1.run B1 H1 σ _ r1 fun vy y B2 H2 ρ2 p2 dy g2 r2 => ?_
  obtain ⟨i, rfl, p2⟩ := p2
  refine ⟨i, dp_int dy, ?_⟩
  refine p2.run B2 H2 σ _ r2 fun vw w B3 H3 ρ3 p3 dw g3 r3 => ?_
  obtain ⟨z, j, rfl, rfl, hl, pp⟩ := p3
  have sl := sizeLine_eq
  exact ⟨j, dp_int dw, z, dp_str (Dp.mono (g2.ex.trans g3.ex) dx), by omega, q _ _ B3 H3 ρ3 pp (.str _) ((g1.trans g2).trans g3) r3⟩
theorem vt_inTx (h : VD X a ρ fun x ρ1 => VD X b ρ1 fun y ρ2 => ∃ (z : Str) (ws : List Str), x = .str z ∧ (y = .tuple (ws.map PyData.str) ∨ y = .list (ws.map PyData.str)) ∧ PB (decide (z ∈ ws)) ρ2) (hm : behindInMarks .In b = false := by first | exact nobehind _ (by decide) (by decide) | rfl) : VT X (.Compare a [.In] [b] pos) ρ PB := VT.mk fun B H σ Q r q => by
  refine PT.sem (pt_cmpR op_in_seq pe_sem pe_sem hm) ?_
  refine h.run B H σ _ r fun vx x B1 H1 ρ1 p1 dx g1 r1 => ?_
  refine p1.run B1 H1 σ _ r1 fun vy y B2 H2 ρ2 p2 dy g2 r2 => ?_
  obtain ⟨z, ws, rfl, hy, pp⟩ := p2
  have dx' := dp_str dx
  subst dx'
  rcases hy with rfl | rfl
  · obtain ⟨t, vs, rfl, hT, hv⟩ := dp_tup dy
    obtain ⟨e1, e2⟩ := inV_strs (x := z) hv
    refine ⟨t, vs, rfl, .inr (ex_t r2.ex hT), rfl, e2, ?_⟩
    rw [if_neg Bool.false_ne_true, e1]
    exact ⟨_, rfl, q _ B2 H2 ρ2 pp (g1.trans g2) r2⟩
  · obtain ⟨t, vs, rfl, hT, hv⟩ := dp_lst dy
    obtain ⟨e1, e2⟩ := inV_strs (x := z) hv
    refine ⟨t, vs, rfl, .inl (ex_l r2.ex hT), rfl, e2, ?_⟩
    rw [if_neg Bool.false_ne_true, e1]
    exact ⟨_, rfl, q _ B2 H2 ρ2 pp (g1.trans g2) r2⟩
theorem vt_notInTx (h : VD X a ρ fun x ρ1 => VD X b ρ1 fun y ρ2 => ∃ (z : Str) (ws : List Str), x = .str z ∧ (y = .tuple (ws.map PyData.str) ∨ y = .list (ws.map PyData.str)) ∧ PB (!decide (z ∈ ws)) ρ2) (hm : behindInMarks .NotIn b = false := by first | exact nobehind _ (by decide) (by decide) | rfl) : VT X (.Compare a [.NotIn] [b] pos) ρ PB := VT.mk fun B H σ Q r q => by
  refine PT.sem (pt_cmpR op_notIn_seq pe_sem pe_sem hm) ?_
  refine h.run B H σ _ r fun vx x B1 H1 ρ1 p1 dx g1 r1 => ?_
  refine p1.run B1 H1 σ _ r1 fun vy y B2 H2 ρ2 p2 dy g2 r2 => ?_
  obtain ⟨z, ws, rfl, hy, pp⟩ := p2
  have dx' := dp_str dx
  subst dx'
  rcases hy with rfl | rfl
  · obtain ⟨t, vs, rfl, hT, hv⟩ := dp_tup dy
    obtain ⟨e1, e2⟩ := inV_strs (x := z) hv
    refine ⟨t, vs, rfl, .inr (ex_t r2.ex hT), rfl, e2, ?_⟩
    rw [if_pos rfl, e1]
    exact ⟨_, rfl, q _ B2 H2 ρ2 pp (g1.trans g2) r2⟩
  · obtain ⟨t, vs, rfl, hT, hv⟩ := dp_lst dy
    obtain ⟨e1, e2⟩ := inV_strs (x := z) hv
    refine ⟨t, vs, rfl, .inl (ex_l r2.ex hT), rfl, e2, ?_⟩
    rw [if_pos rfl, e1]
    exact ⟨_, rfl, q _ B2 H2 ρ2 pp (g1.trans g2) r2⟩
theorem vt_neS (h : VD X a ρ fun x ρ1 => VD X b ρ1 fun y ρ2 => ∃ z w : Str, x = .str z ∧ y = .str w ∧ PB (!decide (z = w)) ρ2) (hm : behindInMarks .NotEq b = false := by first | exact nobehind _ (by decide) (by decide) | rfl) : VT X (.Compare a [.NotEq] [b] pos) ρ PB := VT.mk fun B H σ Q r q => by
  refine PT.sem (pt_cmpR op_ne pe_sem pe_sem hm) ?_
  refine h.run B H σ _ r fun vx x B1 H1 ρ1 p1 dx g1 r1 => ?_
  refine p1.run B1 H1 σ _ r1 fun vy y B2 H2 ρ2 p2 dy g2 r2 => ?_
  obtain ⟨z, w, rfl, rfl, pp⟩ := p2
  rw [dp_str dx, dp_str dy]
  refine ⟨rfl, ?_⟩
  have e : decide (V.str z = V.str w) = decide (z = w) := by
    by_cases q : z = w
    · rw [q, decide_eq_true rfl, decide_eq_true rfl]
    · rw [decide_eq_false q, decide_eq_false (fun e => q (V.str.inj e))]
  rw [e]
  exact ⟨_, rfl, q _ B2 H2 ρ2 pp (g1.trans g2) r2⟩
theorem does_intS : Does X (.type "int") (fun ds W => ∃ (z : Str) (n : Int), ds = [.str z] ∧ PySem.intText? z = some n ∧ z.length ≤ 640 ∧ W (.int n)) := fun B H vs ds W Q e h s q => by
  obtain ⟨z, n, rfl, hn, hl, w⟩ := s
  cases h with
  | cons h1 h2 =>
    cases h2
    rw [dp_str h1]
    exact CallR.sem call_int_str ⟨z, n, rfl, hn, hl, q _ _ B H w (.int n) (Evl.Ex.refl B) e (Evl.Ex.refl H) fun _ _ b => b⟩
/-- a[:hi], a text -/
theorem vd_cutSo (h : VD X a ρ fun x ρ1 => VD X hi ρ1 fun w ρ3 => ∃ (z : Str) (j : Int), x = .str z ∧ w = .int j ∧ z.length ≤ 100000 ∧ P (.str (cutS z none (some j))) ρ3) : VD X (.Subscript a (.Slice none (some hi) none p2) pos) ρ P := VD.mk fun B H σ Q r q => by
  refine PE.sem (pe_slice sl_str pe_sem po_none (po_some pe_sem)) ?_
  refine h.run B H σ _ r fun vx x B1 H1 ρ1 p1 dx g1 r1 => ?_
  refine p1.run B1 H1 σ _ r1 fun vw w B3 H3 ρ3 p3 dw g3 r3 => ?_
  obtain ⟨z, j, rfl, rfl, hl, pp⟩ := p3
  have sl := sizeLine_eq
  exact ⟨j, dp_int dw, z, dp_str (Dp.mono g3.ex dx), by omega, q _ _ B3 H3 ρ3 pp (.str _) (g1.trans g3) r3⟩
end
section
variable {M : Md} {x q : Str} {st : Stmt} {f CA : Addr} {fd : FuncData} {N ps : List Str} {NK : List (Str × Bool × Bool)} {G : List Str} {k n : Nat}
theorem fnOk_mkQ {S : SX} (F : Fun M.K x q st f fd) (Sc : FnScope N ps (defScope st)) (hN : N = NK.map (·.1)) (hc : chk (defScope st) true NK G = true) (hn : ps.length = n) (hnN : n ≤ N.length)
    (body : ∀ X, Cst X M (defScope st) NK G k → Top X → ∀ as W WX, as.length = n → S as W WX → VSs X (defBody st) (as ++ List.replicate (N.length - n) Sl.no) (finX as W WX)) : FnOk M.prog M.w M.K M.mg M.base (L2.CX M.prog M.w) (k + 1) f fd ps (DSx (kwM M) n S) := by
  refine F.okX Sc (fun vs H Q E h => ?_) (fun cdv A outer s H vs Q E hr h => ?_)
  · obtain ⟨B, as, W, WX, r, hl, _⟩ := h
    have := r.len
    rw [List.length_map] at this
    rw [← this, hl, hn]
  · obtain ⟨B, as, W, WX, r, hl, hS, q1, q2⟩ := h
    have C : Cst (cxOf (L2.CX M.prog M.w) M.prog M.w M.K M.mg M.base N q (defScope st) f cdv A outer s H E) M (defScope st) NK G k := cst_defX hN Sc.nd hc hr
    refine ⟨_, pss_sem, ?_⟩
    have bd := body _ C ⟨rfl, rfl⟩ as W WX hl hS
    have r0 := rel_startX (N := N) r (by omega)
    rw [hl] at r0
    refine bd.run B H _ ⟨_, fun c d σ H => E c d H, takes_of rfl rfl rfl rfl⟩ r0 ⟨fun B' H' σ' ρ' p g r' => ?_, fun v dd B' H' σ' ρ' p dv g r' => ?_, fun _ _ _ _ p => p.elim, fun _ _ _ _ p => p.elim, fun c d B' H' σ' ρ' p kk g r' => ?_⟩
    · obtain ⟨g1, r1⟩ := back_out r p.1 g r'
      exact q1 .non .none B' H' _ p.2 (end_upd p.1) .non g1 r1
    · obtain ⟨g1, r1⟩ := back_out r p.1 g r'
      exact q1 v dd B' H' _ p.2 (end_upd p.1) dv g1 r1
    · obtain ⟨g1, r1⟩ := back_out r p.1 g r'
      exact q2 c d B' H' _ p.2 kk (end_upd p.1) g1 r1
theorem fnMt_mk {S : SX} (F : Fun M.K x q st f fd) (Sc : FnScope N ps (defScope st)) (hm : Meth M.K CA x f) (b : Binds M.K fd ps []) (hN : N = NK.map (·.1)) (hc : chk (defScope st) true NK G = true) (hn : ps.length = n) (hnN : n ≤ N.length)
    (body : ∀ X, Cst X M (defScope st) NK G k → Top X → ∀ as W WX, as.length = n → S as W WX → VSs X (defBody st) (as ++ List.replicate (N.length - n) Sl.no) (finX as W WX)) : FnMt M (k + 1) CA x n S :=
  ⟨f, fd, ps, fnOk_mkQ F Sc hN hc hn hnN body, hm, b⟩
theorem fnXT_mk {S : SX} (F : Fun M.K x x st f fd) (Sc : FnScope N ps (defScope st)) (hm : M.mg x = some (.ref f)) (b : Binds M.K fd ps []) (hN : N = NK.map (·.1)) (hc : chk (defScope st) true NK G = true) (hn : ps.length = n) (hnN : n ≤ N.length)
    (body : ∀ X, Cst X M (defScope st) NK G k → Top X → ∀ as W WX, as.length = n → S as W WX → VSs X (defBody st) (as ++ List.replicate (N.length - n) Sl.no) (finX as W WX)) : FnX M (k + 1) x n S :=
  ⟨f, fd, ps, fnOk_mkQ F Sc hN hc hn hnN body, hm, F.kp, b⟩
end
end Vc

namespace K7
open PySem PySem.Spec PyProof.Rows L2 Vc
local macro_rules | `(tactic| walk_at "at") => `(tactic| (repeat (first | with_reducible exact At.here | apply At.there)))
local macro_rules | `(tactic| walk_at "v") => `(tactic| first
  | refine vd_bin ?_
  | (refine vd_name (by assumption) (by walk_at "at") rfl ?_)
  | refine vd_int ?_
  | refine vd_bool ?_
  | refine vd_none ?_
  | refine vd_str ?_
  | refine vd_if ?_
  | (refine vd_neg ?_)
  | refine vd_tup ?_
  | refine va_nil ?_
  | refine va_cons ?_
  | refine vs_ret ?_
  | refine vss_nil ?_
  | refine vss_one ?_
  | refine vss_cons ?_
  | refine vs_if ?_
  | refine vt_cmp (by assumption) ?_
  | refine vs_set (by assumption) (by walk_at "at") ?_
  | refine vd_cmp (by assumption) ?_
  | refine vgs_nil ?_
  | refine vgs_cons ?_
  | refine vg_name (by assumption) (by walk_at "at") ?_
  | (refine vd_callT (x := "int") (by assumption) does_int (by walk_at "at") ?_)
  | (refine vd_callB (x := "len") (by assumption) does_len (by walk_at "at") ?_)
  | (refine vd_callB (x := "abs") (by assumption) does_abs (by walk_at "at") ?_)
  | (refine vd_ixo (by assumption) (by walk_at "at") rfl ?_)
  | refine vd_ix ?_)
local macro_rules | `(tactic| walk_at "sw") => `(tactic| (intro env h; cases env; dsimp only at h; subst h; rfl))
local macro_rules | `(tactic| walk_at "vv") => `(tactic| repeat (walk_at "v"))
/-! ### the class Row -/
/-- what stands written of the class Row -/
structure RowTxt (K : PySem.W.Frag) (CA : Addr) : Prop where
  cl : Cls K CA
  nL : NoAttr K CA "line"
  nT : NoAttr K CA "text"
  nD : NoAttr K CA "done"
abbrev rowFs (ln : Nat) (t : List Nat) (d : Nat) : List (Str × D) := [("line", .int (ln : Int)), ("text", .str (sT t)), ("done", .int (d : Int))]
abbrev rowO (CA : Addr) (ln : Nat) (t : List Nat) (d : Nat) : OD := .ob CA (rowFs ln t d)
theorem get3 {a b c : D} : getS [(("line" : Str), a), ("text", b), ("done", c)] "line" = some a ∧ getS [(("line" : Str), a), ("text", b), ("done", c)] "text" = some b ∧ getS [(("line" : Str), a), ("text", b), ("done", c)] "done" = some c := by
  have h1 : ¬ (("line" : Str) = "text") := by decide +kernel
  have h2 : ¬ (("line" : Str) = "done") := by decide +kernel
  have h3 : ¬ (("text" : Str) = "done") := by decide +kernel
  unfold getS
  refine ⟨?_, ?_, ?_⟩
  · rw [List.find?_cons, decide_eq_true rfl]
    rfl
  · rw [List.find?_cons, decide_eq_false h1, List.find?_cons, decide_eq_true rfl]
    rfl
  · rw [List.find?_cons, decide_eq_false h2, List.find?_cons, decide_eq_false h3, List.find?_cons, decide_eq_true rfl]
    rfl
theorem fs_line {ln t d} : getS (rowFs ln t d) "line" = some (.int (ln : Int)) := get3.1
theorem fs_text {ln t d} : getS (rowFs ln t d) "text" = some (.str (sT t)) := get3.2.1
theorem fs_done {ln t d} : getS (rowFs ln t d) "done" = some (.int (d : Int)) := get3.2.2
theorem fs_put {ln t d} {x : D} : putA "done" x (rowFs ln t d) = [(("line" : Str), PyData.int (ln : Int)), ("text", .str (sT t)), ("done", x)] := by
  have h2 : ¬ (("line" : Str) = "done") := by decide +kernel
  have h3 : ¬ (("text" : Str) = "done") := by decide +kernel
  unfold putA
  rw [if_neg h2]
  unfold putA
  rw [if_neg h3]
  unfold putA
  rw [if_pos rfl]
theorem fs_no {m : Str} {ln t d} (h1 : ¬ (("line" : Str) = m)) (h2 : ¬ (("text" : Str) = m)) (h3 : ¬ (("done" : Str) = m)) : getS (rowFs ln t d) m = none := by
  unfold getS
  rw [List.find?_cons, decide_eq_false h1, List.find?_cons, decide_eq_false h2, List.find?_cons, decide_eq_false h3]
  rfl
/-- the error BadText(l, c) -/
abbrev bad (CT : Addr) (l c : Nat) : Er := ⟨.ref CT, some [("line", .int (l : Int)), ("column", .int (c : Int))]⟩
/-- what a method of a row answers: a value and how many signs are done then, or the place where it is wrong -/
abbrev RR := Except Nat (D × Nat)
def SRow (CA CT : Addr) (f : List Nat → Nat → List D → Option RR) : SX := fun as W WX => ∃ p ln t d ds r, as = .own p (rowO CA ln t d) :: ds.map Sl.dat ∧ ln ≤ 1000 ∧ t.length ≤ 1000 ∧ d ≤ t.length ∧ f t d ds = some r ∧
  (∀ v d', r = .ok (v, d') → d' ≤ t.length → W v (.own p (rowO CA ln t d') :: ds.map Sl.dat)) ∧ (∀ at_, r = .error at_ → ∀ d', WX (bad CT ln (at_ + 1)) (.own p (rowO CA ln t d') :: ds.map Sl.dat))
local macro_rules | `(tactic| walk_at "no") => `(tactic| exact fs_no (by decide +kernel) (by decide +kernel) (by decide +kernel))
/-! ### raise BadText(a, b) -/
section
variable {X : Cx} {M : Md} {sc : Scope} {NK : List (Str × Bool × Bool)} {G : List Str} {k : Nat} {ρ : En} {pos rp ps : Pos} {a b : Expr} {F : Vc.Fin}
theorem vs_raiseT (C : Cst X M sc NK G k) {CT GT fI : Addr} {i : Nat} (T : NetTxtB M.prog M.K M.mg CT GT fI) (hg : At G i "BadText")
    (h : VA X [a, b] ρ fun ds ρ1 => ∃ x y : Nat, ds = [.int (x : Int), .int (y : Int)] ∧ x ≤ 100000 ∧ y ≤ 100000 ∧ F.ex (bad CT x y) ρ1)
    (he : starEach [a, b] X.env = (false, eval a X.env) :: starEach [b] X.env := by rfl) (hpl : (backTo ps (starEach [b] X.env)).any (·.1) = false := by rfl) :
    VS X (.Raise (some (.Call (.Name "BadText" pos) [a, b] [] ps)) none rp) ρ F := by
  have eM := C.m
  subst eM
  refine vs_raise C (pmk_text T C.room pa_sem (C.g hg) he hpl) fun B H σ Q r q => ?_
  refine h.run B H σ _ r fun vs ds B1 H1 ρ1 p1 dvs g1 r1 => ?_
  obtain ⟨x, y, rfl, lx, ly, pp⟩ := p1
  have lg : ∀ n : Nat, n ≤ 100000 → ((n : Int)).natAbs.log2 < 1900 := fun n hn => by
    rw [Int.natAbs_natCast]
    by_cases h0 : n = 0
    · subst h0
      decide +kernel
    · exact (Nat.log2_lt h0).mpr (Nat.lt_of_le_of_lt hn (by decide +kernel))
  cases dvs with
  | cons h1 h2 =>
    cases h2 with
    | cons h2 h3 =>
      cases h3
      have e1 := dp_int h1
      have e2 := dp_int h2
      subst e1 e2
      refine ⟨(x : Int), (y : Int), rfl, lg x lx, lg y ly, fun d hd => ?_⟩
      obtain ⟨r2, g2, bd⟩ := new_one (o := .xd [("line", .int (x : Int)), ("column", .int (y : Int))]) r1 hd
      refine q (bad CT x y) _ B1 _ ρ1 pp (fun fs hf => ?_) (g1.trans g2) r2
      cases hf
      exact ⟨d, [.int (x : Int), .int (y : Int)], rfl, upd_same, .cons (.int _) (.cons (.int _) .nil)⟩
end
/-! ### refuse, refuse_end -/
def fRefuse (_t : List Nat) (_d : Nat) (ds : List D) : Option RR := match ds with
  | [.int (.ofNat n)] => if n ≤ 2000 then some (.error n) else none
  | _ => none
theorem fRowRefuse {M : Md} {f : Addr} {fd : FuncData} {CA CT GT fI : Addr} (R : RowTxt M.K CA) (T : NetTxtB M.prog M.K M.mg CT GT fI) 
    (F : Fun M.K "refuse" "Row.refuse" sRowRefuse f fd) (hm : Meth M.K CA "refuse" f) (b : L2.Binds M.K fd ["self", "at"] []) : FnMt M 1 CA "refuse" 2 (SRow CA CT fRefuse) := by
  refine fnMt_mk (k := 0) (NK := nkRowRefuse) (G := gRowRefuse) F scRowRefuse hm b rfl (by decide +kernel) rfl (by decide) fun X C tp as W WX hl hS => ?_
  obtain ⟨p, ln, t, d, ds, r, rfl, hln, ht, hd, hf, w, wx⟩ := hS
  obtain ⟨n, rfl, hn, rfl⟩ : ∃ n : Nat, ds = [.int (n : Int)] ∧ n ≤ 2000 ∧ r = .error n := by
    unfold fRefuse at hf
    split at hf
    · rename_i n
      split at hf
      · cases hf
        exact ⟨n, rfl, by assumption, rfl⟩
      · cases hf
    · cases hf
  show VSs X _ [.own p (rowO CA ln t d), .dat (.int (n : Int))] _
  refine vss_one (vs_raiseT C T (by walk_at "at") ?_)
  refine va_cons (vd_fld C R.cl R.nL (by walk_at "at") rfl fs_line ?_)
  walk_at "vv"
  refine ⟨ln, n + 1, rfl, by omega, by omega, ⟨⟨rfl, trivial⟩, wx n rfl d⟩⟩


open PySem PySem.Spec PyProof.Rows L2 Vc
/-! ### refuse_end, is_over, begin, finish, finish_line, ahead -/
def nb : List Nat → Nat
  | [] => 0
  | c :: r => if c = 32 then nb r + 1 else 0
theorem nb_cons {c : Nat} {r : List Nat} : nb (c :: r) = if c = 32 then nb r + 1 else 0 := rfl
theorem nb_le : ∀ l : List Nat, nb l ≤ l.length
  | [] => Nat.le_refl _
  | c :: r => by
    unfold nb
    split
    · rw [List.length_cons]
      exact Nat.succ_le_succ (nb_le r)
    · omega
def skip (t : List Nat) (d : Nat) : Nat := d + nb (t.drop d)
theorem skip_le {t : List Nat} {d : Nat} (h : d ≤ t.length) : skip t d ≤ t.length := by
  have := nb_le (t.drop d)
  rw [List.length_drop] at this
  unfold skip
  omega
theorem drop_at {t : List Nat} {e c : Nat} {r : List Nat} (h : t.drop e = c :: r) : e < t.length ∧ r = t.drop (e + 1) := by
  have hl : e < t.length := by
    have := congrArg List.length h
    rw [List.length_drop, List.length_cons] at this
    omega
  refine ⟨hl, ?_⟩
  rw [List.drop_eq_getElem_cons hl] at h
  exact (List.cons.inj h).2.symm
theorem skip_at {t : List Nat} {e : Nat} : ((t.drop e).take 1 = [32] → e < t.length ∧ skip t e = skip t (e + 1)) ∧ ((t.drop e).take 1 ≠ [32] → skip t e = e) := by
  cases h : t.drop e with
  | nil =>
    refine ⟨fun z => (by cases z), fun _ => ?_⟩
    unfold skip
    rw [h]
    rfl
  | cons c r =>
    obtain ⟨hl, hr⟩ := drop_at h
    refine ⟨fun z => ⟨hl, ?_⟩, fun z => ?_⟩
    · have hc : c = 32 := by simpa using z
      unfold skip
      rw [h, ← hr, nb_cons, if_pos hc]
      omega
    · have hc : ¬ c = 32 := fun w => z (by rw [w]; rfl)
      unfold skip
      rw [h, nb_cons, if_neg hc]
      rfl
theorem cut1 {t : List Nat} {e : Nat} (h : e ≤ t.length) : cutS (sT t) (some (e : Int)) (some ((e : Int) + 1)) = sT ((t.drop e).take 1) := by
  have := cut_sT (t := t) (i := e) (j := e + 1) h (by omega)
  rw [show e + 1 - e = 1 by omega] at this
  rw [← this]
  rfl
theorem eq_sp {u : List Nat} : sT u = (" " : Str) ↔ u = [32] := by
  have : (" " : Str) = sT [32] := by decide +kernel
  rw [this, sT_inj]
theorem fRowRefuseEnd {M : Md} {f : Addr} {fd : FuncData} {CA CT : Addr} (R : RowTxt M.K CA) (ml : M.mg "len" = none) (FR : FnMt M 1 CA "refuse" 2 (SRow CA CT fRefuse))
    (F : Fun M.K "refuse_end" "Row.refuse_end" sRowRefuseEnd f fd) (hm : Meth M.K CA "refuse_end" f) (b : L2.Binds M.K fd ["self"] []) : FnMt M 2 CA "refuse_end" 1 (SRow CA CT fun t _ _ => some (.error t.length)) := by
  refine fnMt_mk (k := 1) (NK := nkRowRefuseEnd) (G := gRowRefuseEnd) F scRowRefuseEnd hm b rfl (by decide +kernel) rfl (by decide) fun X C tp as W WX hl hS => ?_
  obtain ⟨p, ln, t, d, ds, r, rfl, hln, ht, hd, hf, w, wx⟩ := hS
  cases hf
  have : ds = [] := by simpa using hl
  subst this
  show VSs X _ [.own p (rowO CA ln t d)] _
  refine vss_one (vs_exprE (ve_meth C R.cl FR (by walk_at "at") rfl (by walk_at "no") ?_))
  refine vex_cons (ve_of (vd_callB C (x := "len") does_lenS (by walk_at "at") ?_))
  refine va_cons (vd_fld C R.cl R.nT (by walk_at "at") rfl fs_text (va_nil ?_))
  refine ⟨sT t, rfl, by rw [sT_len]; omega, vex_nil ?_⟩
  rw [sT_len]
  refine ⟨⟨_, rfl⟩, rfl, ⟨⟨_, _, rfl⟩, trivial⟩, rfl, p, ln, t, d, [.int (t.length : Int)], .error t.length, rfl, hln, ht, hd, if_pos (by omega), fun _ _ h => (by cases h), fun at_ h d' => ?_⟩
  cases h
  exact ⟨⟨rfl, trivial⟩, wx _ rfl d'⟩
def fOver (t : List Nat) (d : Nat) (_ : List D) : Option RR := some (.ok (.bool (decide (skip t d = t.length)), skip t d))
theorem fRowIsOver {M : Md} {f : Addr} {fd : FuncData} {CA CT : Addr} (R : RowTxt M.K CA) (ml : M.mg "len" = none)
    (F : Fun M.K "is_over" "Row.is_over" sRowIsOver f fd) (hm : Meth M.K CA "is_over" f) (b : L2.Binds M.K fd ["self"] []) : FnMt M 1 CA "is_over" 1 (SRow CA CT fOver) := by
  refine fnMt_mk (k := 0) (NK := nkRowIsOver) (G := gRowIsOver) F scRowIsOver hm b rfl (by decide +kernel) rfl (by decide) fun X C tp as W WX hl hS => ?_
  obtain ⟨p, ln, t, d, ds, r, rfl, hln, ht, hd, hf, w, wx⟩ := hS
  cases hf
  have : ds = [] := by simpa using hl
  subst this
  show VSs X _ [.own p (rowO CA ln t d)] _
  refine vss_cons (vs_while C (fun m ρ => ∃ e, ρ = [.own p (rowO CA ln t e)] ∧ e ≤ t.length ∧ skip t e = skip t d ∧ m = t.length - e) (t.length - d) ⟨d, rfl, hd, rfl, rfl⟩ fun m ρ' ⟨e, hρ, he, hs, hm⟩ => ?_)
  subst hρ
  refine vt_eqS (vd_cutS (vd_fld C R.cl R.nT (by walk_at "at") rfl fs_text (vd_fld C R.cl R.nD (by walk_at "at") rfl fs_done ⟨_, rfl, vd_bin (vd_fld C R.cl R.nD (by walk_at "at") rfl fs_done (vd_int ?_))⟩)))
  refine ⟨sT t, _, rfl, rfl, by rw [sT_len]; omega, vd_str ?_⟩
  refine ⟨_, _, rfl, rfl, fun h => ?_, fun h => ?_⟩
  · have h1 := of_decide_eq_true h
    rw [cut1 he, eq_sp] at h1
    obtain ⟨hlt, h2⟩ := skip_at.1 h1
    refine vss_one (vs_fldadd C R.cl R.nD (by walk_at "at") rfl fs_done (vd_int ⟨1, _, rfl, rfl, by show 3 < 900; decide, t.length - (e + 1), by omega, e + 1, ?_, by omega, by rw [← h2]; exact hs, rfl⟩))
    rw [fs_put]
    rfl
  · have h1 := of_decide_eq_false h
    rw [cut1 he, eq_sp] at h1
    have h2 := skip_at.2 h1
    refine vss_one (vs_ret (vd_cmp C (vd_fld C R.cl R.nD (by walk_at "at") rfl fs_done ?_)))
    refine vd_callB C (x := "len") does_lenS (by walk_at "at") ?_
    refine va_cons (vd_fld C R.cl R.nT (by walk_at "at") rfl fs_text (va_nil ?_))
    refine ⟨sT t, rfl, by rw [sT_len]; omega, ⟨rfl, trivial⟩, ?_⟩
    have e1 : e = skip t d := by rw [← hs, h2]
    have e2 : decide ((e : Int) = ((sT t).length : Int)) = decide (skip t d = t.length) := by
      rw [sT_len, e1]
      by_cases z : skip t d = t.length
      · rw [z, decide_eq_true rfl, decide_eq_true rfl]
      · rw [decide_eq_false z, decide_eq_false (by omega)]
    show W (.bool (decide ((e : Int) = ((sT t).length : Int)))) [.own p (rowO CA ln t e)]
    rw [e2, e1]
    exact w _ _ rfl (skip_le hd)


open PySem PySem.Spec PyProof.Rows L2 Vc
/-! ### begin, finish, finish_line, ahead -/
def mBegin (t : List Nat) (d : Nat) : RR := if skip t d = t.length then .error t.length else .ok (.none, skip t d)
theorem fRowBegin {M : Md} {f : Addr} {fd : FuncData} {CA CT : Addr} (R : RowTxt M.K CA) (FO : FnMt M 1 CA "is_over" 1 (SRow CA CT fOver)) (FE : FnMt M 2 CA "refuse_end" 1 (SRow CA CT fun t _ _ => some (.error t.length)))
    (F : Fun M.K "begin" "Row.begin" sRowBegin f fd) (hm : Meth M.K CA "begin" f) (b : L2.Binds M.K fd ["self"] []) : FnMt M 3 CA "begin" 1 (SRow CA CT fun t d _ => some (mBegin t d)) := by
  refine fnMt_mk (k := 2) (NK := nkRowBegin) (G := gRowBegin) F scRowBegin hm b rfl (by decide +kernel) rfl (by decide) fun X C tp as W WX hl hS => ?_
  obtain ⟨p, ln, t, d, ds, r, rfl, hln, ht, hd, hf, w, wx⟩ := hS
  cases hf
  have : ds = [] := by simpa using hl
  subst this
  show VSs X _ [.own p (rowO CA ln t d)] _
  refine vss_one (vs_if (vt_val (vd_no (ve_meth0 C R.cl FO (by walk_at "at") rfl (by walk_at "no") ⟨p, ln, t, d, [], _, rfl, hln, ht, hd, rfl, fun v d' h hd' => ?_, fun _ h => (by cases h)⟩))))
  cases h
  refine ⟨_, rfl, fun e => ?_, fun e => ?_⟩
  · refine vss_one (vs_exprE (ve_meth0 C R.cl FE (by walk_at "at") rfl (by walk_at "no") ⟨p, ln, t, skip t d, [], .error t.length, rfl, hln, ht, hd', rfl, fun _ _ h => (by cases h), fun at_ h d' => ?_⟩))
    cases h
    exact ⟨⟨rfl, trivial⟩, wx _ (if_pos (of_decide_eq_true e)) d'⟩
  · exact vss_nil ⟨⟨rfl, trivial⟩, w _ _ (if_neg (of_decide_eq_false e)) hd'⟩
def mFinLine (t : List Nat) (d : Nat) : RR := if skip t d = t.length then .ok (.none, skip t d) else .error (skip t d)
theorem fRowFinishLine {M : Md} {f : Addr} {fd : FuncData} {CA CT : Addr} (R : RowTxt M.K CA) (FO : FnMt M 1 CA "is_over" 1 (SRow CA CT fOver)) (FR : FnMt M 1 CA "refuse" 2 (SRow CA CT fRefuse))
    (F : Fun M.K "finish_line" "Row.finish_line" sRowFinishLine f fd) (hm : Meth M.K CA "finish_line" f) (b : L2.Binds M.K fd ["self"] []) : FnMt M 2 CA "finish_line" 1 (SRow CA CT fun t d _ => some (mFinLine t d)) := by
  refine fnMt_mk (k := 1) (NK := nkRowFinishLine) (G := gRowFinishLine) F scRowFinishLine hm b rfl (by decide +kernel) rfl (by decide) fun X C tp as W WX hl hS => ?_
  obtain ⟨p, ln, t, d, ds, r, rfl, hln, ht, hd, hf, w, wx⟩ := hS
  cases hf
  have : ds = [] := by simpa using hl
  subst this
  show VSs X _ [.own p (rowO CA ln t d)] _
  refine vss_one (vs_if (vt_not (vt_val (vd_no (ve_meth0 C R.cl FO (by walk_at "at") rfl (by walk_at "no") ⟨p, ln, t, d, [], _, rfl, hln, ht, hd, rfl, fun v d' h hd' => ?_, fun _ h => (by cases h)⟩)))))
  cases h
  refine ⟨_, rfl, fun e => ?_, fun e => ?_⟩
  · have e' : ¬ skip t d = t.length := by simpa using e
    refine vss_one (vs_exprE (ve_meth C R.cl FR (by walk_at "at") rfl (by walk_at "no") (vex_cons (ve_of (vd_fld C R.cl R.nD (by walk_at "at") rfl fs_done (vex_nil ?_))))))
    refine ⟨⟨_, rfl⟩, rfl, ⟨⟨_, _, rfl⟩, trivial⟩, rfl, p, ln, t, skip t d, [.int (skip t d : Nat)], .error (skip t d), rfl, hln, ht, hd', if_pos (by omega), fun _ _ h => (by cases h), fun at_ h d' => ?_⟩
    cases h
    exact ⟨⟨rfl, trivial⟩, wx _ (if_neg e') d'⟩
  · have e' : skip t d = t.length := by simpa using e
    exact vss_nil ⟨⟨rfl, trivial⟩, w _ _ (if_pos e') hd'⟩
def hOk (t : List Nat) (d : Nat) : Bool := match t.drop d with
  | [] => true
  | c :: _ => decide (c = 32)
theorem hOk_in {t : List Nat} {d : Nat} : decide (sT ((t.drop d).take 1) ∈ [(Str.empty), (" " : Str)]) = hOk t d := by
  have e0 : Str.empty = sT [] := rfl
  unfold hOk
  cases h : t.drop d with
  | nil =>
    rw [e0]
    exact decide_eq_true (by simp)
  | cons c r =>
    show decide (sT [c] ∈ _) = decide (c = 32)
    by_cases hc : c = 32
    · subst hc
      rw [decide_eq_true rfl]
      have : (" " : Str) = sT [32] := by decide +kernel
      rw [this]
      exact decide_eq_true (by simp)
    · rw [decide_eq_false hc]
      refine decide_eq_false fun z => ?_
      rcases List.mem_cons.mp z with z | z
      · rw [e0, sT_inj] at z
        cases z
      · rw [List.mem_singleton, eq_sp] at z
        exact hc (by simpa using z)
def mFin (t : List Nat) (d : Nat) : RR := if hOk t d = true then .ok (.none, d) else .error d
theorem fRowFinish {M : Md} {f : Addr} {fd : FuncData} {CA CT : Addr} (R : RowTxt M.K CA) (FR : FnMt M 1 CA "refuse" 2 (SRow CA CT fRefuse))
    (F : Fun M.K "finish" "Row.finish" sRowFinish f fd) (hm : Meth M.K CA "finish" f) (b : L2.Binds M.K fd ["self"] []) : FnMt M 2 CA "finish" 1 (SRow CA CT fun t d _ => some (mFin t d)) := by
  refine fnMt_mk (k := 1) (NK := nkRowFinish) (G := gRowFinish) F scRowFinish hm b rfl (by decide +kernel) rfl (by decide) fun X C tp as W WX hl hS => ?_
  obtain ⟨p, ln, t, d, ds, r, rfl, hln, ht, hd, hf, w, wx⟩ := hS
  cases hf
  have : ds = [] := by simpa using hl
  subst this
  show VSs X _ [.own p (rowO CA ln t d)] _
  refine vss_one (vs_if (vt_notInTx (vd_cutS (vd_fld C R.cl R.nT (by walk_at "at") rfl fs_text (vd_fld C R.cl R.nD (by walk_at "at") rfl fs_done ⟨_, rfl, vd_bin (vd_fld C R.cl R.nD (by walk_at "at") rfl fs_done (vd_int ?_))⟩)))))
  refine ⟨sT t, _, rfl, rfl, by rw [sT_len]; omega, ?_⟩
  refine vd_tup (va_cons (vd_str (va_cons (vd_str (va_nil ?_)))))
  refine ⟨by show 2 ≤ 1000; decide, _, [(Str.empty), (" " : Str)], rfl, .inl rfl, ?_⟩
  rw [cut1 hd, hOk_in]
  refine ⟨fun e => ?_, fun e => ?_⟩
  · have e' : ¬ hOk t d = true := by simpa using e
    refine vss_one (vs_exprE (ve_meth C R.cl FR (by walk_at "at") rfl (by walk_at "no") (vex_cons (ve_of (vd_fld C R.cl R.nD (by walk_at "at") rfl fs_done (vex_nil ?_))))))
    refine ⟨⟨_, rfl⟩, rfl, ⟨⟨_, _, rfl⟩, trivial⟩, rfl, p, ln, t, d, [.int (d : Nat)], .error d, rfl, hln, ht, hd, if_pos (by omega), fun _ _ h => (by cases h), fun at_ h d' => ?_⟩
    cases h
    exact ⟨⟨rfl, trivial⟩, wx _ (if_neg e') d'⟩
  · have e' : hOk t d = true := by simpa using e
    exact vss_nil ⟨⟨rfl, trivial⟩, w _ _ (if_pos e') hd⟩
/-- the row of signs of a kind that stands next -/
def tk (S : Str) (t : List Nat) (d : Nat) : List Nat := (t.drop d).takeWhile fun c => decide (c ∈ S.cps.toList)
theorem tk_le {S : Str} {t : List Nat} {d : Nat} (h : d ≤ t.length) : d + (tk S t d).length ≤ t.length := by
  have := (List.takeWhile_sublist (fun c => decide (c ∈ S.cps.toList)) (l := t.drop d)).length_le
  rw [List.length_drop] at this
  unfold tk
  omega
theorem tk_at {S : Str} {t : List Nat} {e : Nat} (he : e < t.length) : (decide (t[e] ∈ S.cps.toList) = true → tk S t e = t[e] :: tk S t (e + 1)) ∧ (decide (t[e] ∈ S.cps.toList) = false → tk S t e = []) := by
  unfold tk
  rw [List.drop_eq_getElem_cons he]
  refine ⟨fun h => ?_, fun h => ?_⟩
  · exact List.takeWhile_cons_of_pos (p := fun c => decide (c ∈ S.cps.toList)) h
  · exact List.takeWhile_cons_of_neg (p := fun c => decide (c ∈ S.cps.toList)) (by rw [h]; decide)
theorem tk_end {S : Str} {t : List Nat} {e : Nat} (he : t.length ≤ e) : tk S t e = [] := by
  unfold tk
  rw [List.drop_of_length_le he]
  rfl
theorem tk_take {t : List Nat} {d e : Nat} (h1 : d ≤ e) (h2 : e < t.length) : (t.drop d).take (e + 1 - d) = (t.drop d).take (e - d) ++ [t[e]] := by
  rw [show e + 1 - d = (e - d) + 1 by omega, List.take_add_one, List.getElem?_drop, show d + (e - d) = e by omega, List.getElem?_eq_getElem h2]
  rfl
def fAhead (t : List Nat) (d : Nat) (ds : List D) : Option RR := match ds with
  | [.str S] => some (.ok (.str (sT (tk S t d)), d))
  | _ => none
theorem atI_sT {t : List Nat} {e : Nat} (he : e < t.length) : atI (sT t).cps.toList (e : Int) = some t[e] := by
  rw [sT_list]
  exact (atI_nat (j := e) (List.getElem?_eq_getElem he))
theorem fRowAhead {M : Md} {f : Addr} {fd : FuncData} {CA CT : Addr} (R : RowTxt M.K CA) (ml : M.mg "len" = none)
    (F : Fun M.K "ahead" "Row.ahead" sRowAhead f fd) (hm : Meth M.K CA "ahead" f) (b : L2.Binds M.K fd ["self", "signs"] []) : FnMt M 1 CA "ahead" 2 (SRow CA CT fAhead) := by
  refine fnMt_mk (k := 0) (NK := nkRowAhead) (G := gRowAhead) F scRowAhead hm b rfl (by decide +kernel) rfl (by decide) fun X C tp as W WX hl hS => ?_
  obtain ⟨p, ln, t, d, ds, r, rfl, hln, ht, hd, hf, w, wx⟩ := hS
  obtain ⟨S, rfl, rfl⟩ : ∃ S, ds = [.str S] ∧ r = .ok (.str (sT (tk S t d)), d) := by
    unfold fAhead at hf
    split at hf
    · cases hf
      exact ⟨_, rfl, rfl⟩
    · cases hf
  show VSs X _ [.own p (rowO CA ln t d), .dat (.str S), .no] _
  refine vss_cons (vs_set C (by walk_at "at") (vd_fld C R.cl R.nD (by walk_at "at") rfl fs_done ?_))
  show VSs X _ [.own p (rowO CA ln t d), .dat (.str S), .dat (.int (d : Nat))] _
  refine vss_cons (vs_while C (fun m ρ => ∃ e : Nat, ρ = [.own p (rowO CA ln t d), .dat (.str S), .dat (.int (e : Nat))] ∧ d ≤ e ∧ e ≤ t.length ∧ tk S t d = (t.drop d).take (e - d) ++ tk S t e ∧ m = t.length - e) (t.length - d) ⟨d, rfl, Nat.le_refl _, hd, by rw [Nat.sub_self, List.take_zero]; rfl, rfl⟩ fun m ρ' ⟨e, hρ, h1, h2, h3, h4⟩ => ?_)
  subst hρ
  have fin : tk S t e = [] → VSs X ((defBody sRowAhead).drop 2) [.own p (rowO CA ln t d), .dat (.str S), .dat (.int (e : Nat))] (finX [.own p (rowO CA ln t d), .dat (.str S)] W WX) := fun he => by
    refine vss_one (vs_ret (vd_cutS (vd_fld C R.cl R.nT (by walk_at "at") rfl fs_text (vd_fld C R.cl R.nD (by walk_at "at") rfl fs_done ⟨_, rfl, ?_⟩))))
    refine vd_name C (by walk_at "at") rfl ⟨sT t, _, rfl, rfl, by rw [sT_len]; omega, ⟨rfl, trivial⟩, ?_⟩
    rw [cut_sT hd h1]
    have := w _ d rfl hd
    rw [h3, he, List.append_nil] at this
    exact this
  refine vt_w (vw_and (vt_cmp C (vd_name C (by walk_at "at") rfl ?_)))
  refine vd_callB C (x := "len") does_lenS (by walk_at "at") ?_
  refine va_cons (vd_fld C R.cl R.nT (by walk_at "at") rfl fs_text (va_nil ?_))
  refine ⟨sT t, rfl, by rw [sT_len]; omega, ?_⟩
  rw [sT_len]
  refine ⟨fun q => ?_, fun q => ⟨fun z => (by cases z), fun _ => ?_⟩⟩
  · have hlt : e < t.length := by
      have := of_decide_eq_true q
      omega
    refine vw_and1 (vt_inSg (vd_ixS (vd_fld C R.cl R.nT (by walk_at "at") rfl fs_text ?_)))
    refine vd_name C (by walk_at "at") rfl ⟨sT t, _, t[e], rfl, rfl, by rw [sT_len]; omega, atI_sT hlt, ?_⟩
    refine vd_name C (by walk_at "at") rfl ⟨_, S, rfl, rfl, fun z => ?_, fun z => ?_⟩
    · refine vss_one (vs_augadd C (by walk_at "at") rfl (vd_int ⟨1, rfl, t.length - (e + 1), by omega, e + 1, rfl, by omega, by omega, ?_, rfl⟩))
      rw [tk_take h1 hlt, h3, (tk_at hlt).1 z, List.append_assoc]
      rfl
    · exact fin ((tk_at hlt).2 z)
  · have hge : t.length ≤ e := by
      have := of_decide_eq_false q
      omega
    exact fin (tk_end hge)


open PySem PySem.Spec PyProof.Rows L2 Vc
/-! ### read_word, bare_name, read_name -/
theorem mBegin_ok {t : List Nat} {d d' : Nat} {v : D} (h : mBegin t d = .ok (v, d')) : skip t d ≠ t.length ∧ d' = skip t d ∧ v = .none := by
  unfold mBegin at h
  split at h
  · cases h
  · rename_i q
    cases h
    exact ⟨q, rfl, rfl⟩
theorem mBegin_err {t : List Nat} {d a : Nat} (h : mBegin t d = .error a) : skip t d = t.length ∧ a = t.length := by
  unfold mBegin at h
  split at h
  · rename_i q
    cases h
    exact ⟨q, rfl⟩
  · cases h
theorem mFin_ok {t : List Nat} {d d' : Nat} {v : D} (h : mFin t d = .ok (v, d')) : hOk t d = true ∧ d' = d ∧ v = .none := by
  unfold mFin at h
  split at h
  · rename_i q
    cases h
    exact ⟨q, rfl, rfl⟩
  · cases h
theorem mFin_err {t : List Nat} {d a : Nat} (h : mFin t d = .error a) : ¬ hOk t d = true ∧ a = d := by
  unfold mFin at h
  split at h
  · cases h
  · rename_i q
    cases h
    exact ⟨q, rfl⟩
def strs? : List D → Option (List Str)
  | [] => some []
  | .str z :: r => (strs? r).map (z :: ·)
  | _ => none
theorem strs_eq : ∀ {us : List D} {ws : List Str}, strs? us = some ws → us = ws.map PyData.str
  | [], ws, h => by
    cases h
    rfl
  | .str z :: r, ws, h => by
    unfold strs? at h
    cases e : strs? r with
    | none =>
      rw [e] at h
      cases h
    | some vs =>
      rw [e] at h
      cases h
      rw [strs_eq e]
      rfl
  | .none :: r, ws, h => by cases h
  | .bool _ :: r, ws, h => by cases h
  | .int _ :: r, ws, h => by cases h
  | .list _ :: r, ws, h => by cases h
  | .tuple _ :: r, ws, h => by cases h
  | .dict _ :: r, ws, h => by cases h
theorem strs_map : ∀ ws : List Str, strs? (ws.map PyData.str) = some ws
  | [] => rfl
  | w :: ws => by
    show (strs? (ws.map PyData.str)).map (w :: ·) = _
    rw [strs_map ws]
    rfl
def mWord (t : List Nat) (d : Nat) (ws : List Str) : RR := if skip t d = t.length then .error t.length else if sT (tk signsS t (skip t d)) ∈ ws then (if hOk t (skip t d + (tk signsS t (skip t d)).length) = true then .ok (.str (sT (tk signsS t (skip t d))), skip t d + (tk signsS t (skip t d)).length) else .error (skip t d + (tk signsS t (skip t d)).length)) else .error (skip t d)
def fWord (t : List Nat) (d : Nat) (ds : List D) : Option RR := match ds with
  | [.tuple us] => (strs? us).map (mWord t d)
  | [.list us] => (strs? us).map (mWord t d)
  | _ => none
theorem fRowReadWord {M : Md} {f : Addr} {fd : FuncData} {CA CT : Addr} {t3 : Tok} (R : RowTxt M.K CA) (ml : M.mg "len" = none) (mS : M.mg "SIGNS" = some (.str signsS t3)) (FB : FnMt M 3 CA "begin" 1 (SRow CA CT fun t d _ => some (mBegin t d))) (FA : FnMt M 1 CA "ahead" 2 (SRow CA CT fAhead)) (FR : FnMt M 1 CA "refuse" 2 (SRow CA CT fRefuse)) (FF : FnMt M 2 CA "finish" 1 (SRow CA CT fun t d _ => some (mFin t d)))
    (F : Fun M.K "read_word" "Row.read_word" sRowReadWord f fd) (hm : Meth M.K CA "read_word" f) (b : L2.Binds M.K fd ["self", "words"] []) : FnMt M 4 CA "read_word" 2 (SRow CA CT fWord) := by
  refine fnMt_mk (k := 3) (NK := nkRowReadWord) (G := gRowReadWord) F scRowReadWord hm b rfl (by decide +kernel) rfl (by decide) fun X C tp as W WX hl hS => ?_
  obtain ⟨p, ln, t, d, ds, r, rfl, hln, ht, hd, hf, w, wx⟩ := hS
  obtain ⟨u, ws, rfl, hu, rfl⟩ : ∃ u ws, ds = [u] ∧ (u = .tuple (ws.map PyData.str) ∨ u = .list (ws.map PyData.str)) ∧ r = mWord t d ws := by
    unfold fWord at hf
    split at hf
    · rename_i us
      cases e : strs? us with
      | none =>
        rw [e] at hf
        cases hf
      | some ws =>
        rw [e] at hf
        cases hf
        exact ⟨_, ws, rfl, .inl (by rw [strs_eq e]), rfl⟩
    · rename_i us
      cases e : strs? us with
      | none =>
        rw [e] at hf
        cases hf
      | some ws =>
        rw [e] at hf
        cases hf
        exact ⟨_, ws, rfl, .inr (by rw [strs_eq e]), rfl⟩
    · cases hf
  show VSs X _ [.own p (rowO CA ln t d), .dat u, .no] _
  refine vss_cons (vs_exprE (ve_meth0 C R.cl FB (by walk_at "at") rfl (by walk_at "no") ⟨p, ln, t, d, [], _, rfl, hln, ht, hd, rfl, fun v d' h hd' => ?_, fun at_ h d' => ?_⟩))
  · obtain ⟨h1, rfl, rfl⟩ := mBegin_ok h
    show VSs X _ [.own p (rowO CA ln t (skip t d)), .dat u, .no] _
    refine vss_cons (vs_setE C (by walk_at "at") (ve_meth C R.cl FA (by walk_at "at") rfl (by walk_at "no") (vex_cons (ve_of (vd_gstr C (by walk_at "at") mS (vex_nil ?_))))))
    refine ⟨⟨_, rfl⟩, rfl, ⟨⟨_, _, rfl⟩, trivial⟩, rfl, p, ln, t, skip t d, [.str signsS], _, rfl, hln, ht, hd', rfl, fun v d2 h hd2 => ?_, fun _ h => (by cases h)⟩
    cases h
    show VSs X _ [.own p (rowO CA ln t (skip t d)), .dat u, .dat (.str (sT (tk signsS t (skip t d))))] _
    refine vss_cons (vs_if (vt_notInTx (vd_name C (by walk_at "at") rfl (vd_name C (by walk_at "at") rfl ?_))))
    refine ⟨_, ws, rfl, hu, fun e => ?_, fun e => ?_⟩
    · have e' : ¬ sT (tk signsS t (skip t d)) ∈ ws := by simpa using e
      refine vss_one (vs_exprE (ve_meth C R.cl FR (by walk_at "at") rfl (by walk_at "no") (vex_cons (ve_of (vd_fld C R.cl R.nD (by walk_at "at") rfl fs_done (vex_nil ?_))))))
      refine ⟨⟨_, rfl⟩, rfl, ⟨⟨_, _, rfl⟩, trivial⟩, rfl, p, ln, t, skip t d, [.int (skip t d : Nat)], .error (skip t d), rfl, hln, ht, hd', if_pos (by omega), fun _ _ h => (by cases h), fun at_ h d' => ?_⟩
      cases h
      exact ⟨⟨rfl, trivial⟩, wx _ (by unfold mWord; rw [if_neg h1, if_neg e']) d'⟩
    · have e' : sT (tk signsS t (skip t d)) ∈ ws := by simpa using e
      refine vss_nil ?_
      have hle := tk_le (S := signsS) hd'
      refine vss_cons (vs_fldadd C R.cl R.nD (by walk_at "at") rfl fs_done (vd_callB C (x := "len") does_lenS (by walk_at "at") ?_))
      refine va_cons (vd_name C (by walk_at "at") rfl (va_nil ⟨_, rfl, by rw [sT_len]; omega, _, _, rfl, rfl, by show 3 < 900; decide, ?_⟩))
      rw [fs_put, sT_len]
      show VSs X _ [.own p (rowO CA ln t (skip t d + (tk signsS t (skip t d)).length)), .dat u, .dat (.str (sT (tk signsS t (skip t d))))] _
      refine vss_cons (vs_exprE (ve_meth0 C R.cl FF (by walk_at "at") rfl (by walk_at "no") ⟨p, ln, t, skip t d + (tk signsS t (skip t d)).length, [], _, rfl, hln, ht, hle, rfl, fun v d' h hd' => ?_, fun at_ h d' => ?_⟩))
      · obtain ⟨h2, rfl, rfl⟩ := mFin_ok h
        refine vss_one (vs_ret (vd_name C (by walk_at "at") rfl ⟨⟨rfl, trivial⟩, ?_⟩))
        exact w _ _ (by unfold mWord; rw [if_neg h1, if_pos e', if_pos h2]) hle
      · obtain ⟨h2, rfl⟩ := mFin_err h
        exact ⟨⟨rfl, trivial⟩, wx _ (by unfold mWord; rw [if_neg h1, if_pos e', if_neg h2]) d'⟩
  · obtain ⟨h1, rfl⟩ := mBegin_err h
    exact ⟨⟨rfl, trivial⟩, wx _ (by unfold mWord; rw [if_pos h1]) d'⟩
def mBare (t : List Nat) (d : Nat) : RR := if skip t d = t.length then .error t.length else if nameS (sT (tk signsS t (skip t d))) = true then .ok (.str (sT (tk signsS t (skip t d))), skip t d + (tk signsS t (skip t d)).length) else .error (skip t d)
theorem fRowBareName {M : Md} {f : Addr} {fd : FuncData} {CA CT : Addr} {t3 : Tok} (R : RowTxt M.K CA) (ml : M.mg "len" = none) (mS : M.mg "SIGNS" = some (.str signsS t3)) (FB : FnMt M 3 CA "begin" 1 (SRow CA CT fun t d _ => some (mBegin t d))) (FA : FnMt M 1 CA "ahead" 2 (SRow CA CT fAhead)) (FR : FnMt M 1 CA "refuse" 2 (SRow CA CT fRefuse)) (FN : FnD M 1 "is_name" 1 (SOk1 nameD))
    (F : Fun M.K "bare_name" "Row.bare_name" sRowBareName f fd) (hm : Meth M.K CA "bare_name" f) (b : L2.Binds M.K fd ["self"] []) : FnMt M 4 CA "bare_name" 1 (SRow CA CT fun t d _ => some (mBare t d)) := by
  refine fnMt_mk (k := 3) (NK := nkRowBareName) (G := gRowBareName) F scRowBareName hm b rfl (by decide +kernel) rfl (by decide) fun X C tp as W WX hl hS => ?_
  obtain ⟨p, ln, t, d, ds, r, rfl, hln, ht, hd, hf, w, wx⟩ := hS
  cases hf
  have : ds = [] := by simpa using hl
  subst this
  show VSs X _ [.own p (rowO CA ln t d), .no] _
  refine vss_cons (vs_exprE (ve_meth0 C R.cl FB (by walk_at "at") rfl (by walk_at "no") ⟨p, ln, t, d, [], _, rfl, hln, ht, hd, rfl, fun v d' h hd' => ?_, fun at_ h d' => ?_⟩))
  · obtain ⟨h1, rfl, rfl⟩ := mBegin_ok h
    show VSs X _ [.own p (rowO CA ln t (skip t d)), .no] _
    refine vss_cons (vs_setE C (by walk_at "at") (ve_meth C R.cl FA (by walk_at "at") rfl (by walk_at "no") (vex_cons (ve_of (vd_gstr C (by walk_at "at") mS (vex_nil ?_))))))
    refine ⟨⟨_, rfl⟩, rfl, ⟨⟨_, _, rfl⟩, trivial⟩, rfl, p, ln, t, skip t d, [.str signsS], _, rfl, hln, ht, hd', rfl, fun v d2 h hd2 => ?_, fun _ h => (by cases h)⟩
    cases h
    have hle := tk_le (S := signsS) hd'
    show VSs X _ [.own p (rowO CA ln t (skip t d)), .dat (.str (sT (tk signsS t (skip t d))))] _
    refine vss_cons (vs_if (vt_not (vt_val (vd_call C FN (by walk_at "at") (va_cons (vd_name C (by walk_at "at") rfl (va_nil ?_)))))))
    refine ⟨rfl, _, rfl, ?_, _, rfl, fun e => ?_, fun e => ?_⟩
    · show decide ((sT _).length ≤ 1000) = true
      rw [sT_len]
      exact decide_eq_true (by omega)
    · have e' : ¬ nameS (sT (tk signsS t (skip t d))) = true := by
        intro z
        have e2 : (!nameS (sT (tk signsS t (skip t d)))) = true := e
        rw [z] at e2
        cases e2
      refine vss_one (vs_exprE (ve_meth C R.cl FR (by walk_at "at") rfl (by walk_at "no") (vex_cons (ve_of (vd_fld C R.cl R.nD (by walk_at "at") rfl fs_done (vex_nil ?_))))))
      refine ⟨⟨_, rfl⟩, rfl, ⟨⟨_, _, rfl⟩, trivial⟩, rfl, p, ln, t, skip t d, [.int (skip t d : Nat)], .error (skip t d), rfl, hln, ht, hd', if_pos (by omega), fun _ _ h => (by cases h), fun at_ h d' => ?_⟩
      cases h
      exact ⟨⟨rfl, trivial⟩, wx _ (by unfold mBare; rw [if_neg h1, if_neg e']) d'⟩
    · have e' : nameS (sT (tk signsS t (skip t d))) = true := by
        have e2 : (!nameS (sT (tk signsS t (skip t d)))) = false := e
        simpa using e2
      refine vss_nil ?_
      refine vss_cons (vs_fldadd C R.cl R.nD (by walk_at "at") rfl fs_done (vd_callB C (x := "len") does_lenS (by walk_at "at") ?_))
      refine va_cons (vd_name C (by walk_at "at") rfl (va_nil ⟨_, rfl, by rw [sT_len]; omega, _, _, rfl, rfl, by show 3 < 900; decide, ?_⟩))
      rw [fs_put, sT_len]
      show VSs X _ [.own p (rowO CA ln t (skip t d + (tk signsS t (skip t d)).length)), .dat (.str (sT (tk signsS t (skip t d))))] _
      refine vss_one (vs_ret (vd_name C (by walk_at "at") rfl ⟨⟨rfl, trivial⟩, ?_⟩))
      exact w _ _ (by unfold mBare; rw [if_neg h1, if_pos e']) hle
  · obtain ⟨h1, rfl⟩ := mBegin_err h
    exact ⟨⟨rfl, trivial⟩, wx _ (by unfold mBare; rw [if_pos h1]) d'⟩
/-- behind a word a blank or the end -/
def mThen (t : List Nat) (r : RR) : RR := match r with
  | .ok (v, d) => if hOk t d = true then .ok (v, d) else .error d
  | .error a => .error a
abbrev mName (t : List Nat) (d : Nat) : RR := mThen t (mBare t d)
theorem fRowReadName {M : Md} {f : Addr} {fd : FuncData} {CA CT : Addr} (R : RowTxt M.K CA) (FB : FnMt M 4 CA "bare_name" 1 (SRow CA CT fun t d _ => some (mBare t d))) (FF : FnMt M 2 CA "finish" 1 (SRow CA CT fun t d _ => some (mFin t d)))
    (F : Fun M.K "read_name" "Row.read_name" sRowReadName f fd) (hm : Meth M.K CA "read_name" f) (b : L2.Binds M.K fd ["self"] []) : FnMt M 5 CA "read_name" 1 (SRow CA CT fun t d _ => some (mName t d)) := by
  refine fnMt_mk (k := 4) (NK := nkRowReadName) (G := gRowReadName) F scRowReadName hm b rfl (by decide +kernel) rfl (by decide) fun X C tp as W WX hl hS => ?_
  obtain ⟨p, ln, t, d, ds, r, rfl, hln, ht, hd, hf, w, wx⟩ := hS
  cases hf
  have : ds = [] := by simpa using hl
  subst this
  show VSs X _ [.own p (rowO CA ln t d), .no] _
  refine vss_cons (vs_setE C (by walk_at "at") (ve_meth0 C R.cl FB (by walk_at "at") rfl (by walk_at "no") ⟨p, ln, t, d, [], _, rfl, hln, ht, hd, rfl, fun v d' h hd' => ?_, fun at_ h d' => ?_⟩))
  · show VSs X _ [.own p (rowO CA ln t d'), .dat v] _
    refine vss_cons (vs_exprE (ve_meth0 C R.cl FF (by walk_at "at") rfl (by walk_at "no") ⟨p, ln, t, d', [], _, rfl, hln, ht, hd', rfl, fun v2 d2 h2 hd2 => ?_, fun at_ h2 d2 => ?_⟩))
    · obtain ⟨h3, rfl, rfl⟩ := mFin_ok h2
      refine vss_one (vs_ret (vd_name C (by walk_at "at") rfl ⟨⟨rfl, trivial⟩, ?_⟩))
      exact w _ _ (by unfold mName; rw [h]; exact if_pos h3) hd'
    · obtain ⟨h3, rfl⟩ := mFin_err h2
      exact ⟨⟨rfl, trivial⟩, wx _ (by unfold mName; rw [h]; exact if_neg h3) d2⟩
  · exact ⟨⟨rfl, trivial⟩, wx _ (by unfold mName; rw [h]; rfl) d'⟩


open PySem PySem.Spec PyProof.Rows L2 Vc
/-! ### a fraction in its least form -/
/-- n / d in its least form, d above 0 -/
def fr (n d : Int) : D := .tuple [.int (n / ((Nat.gcd n.natAbs d.natAbs : Nat) : Int)), .int (d / ((Nat.gcd n.natAbs d.natAbs : Nat) : Int))]
/-! ### fraction -/
def frq (n d : Int) : D := if d < 0 then fr (-n) (-d) else fr n d
def SFraction : List D → (D → Prop) → Prop := fun ds W => ∃ n d : Int, ds = [.int n, .int d] ∧ n.natAbs < 2 ^ 29 ∧ d.natAbs < 2 ^ 29 ∧ d ≠ 0 ∧ W (frq n d)
theorem fdiv_neg {n g : Int} (hg : 0 < g) (h : g ∣ n) : n.fdiv (-g) = (-n) / g := by
  obtain ⟨t, rfl⟩ := h
  have e : g * t = (-t) * (-g) := by rw [Int.neg_mul_neg, Int.mul_comm]
  rw [e, Int.mul_fdiv_cancel _ (by omega), ← e, ← Int.mul_neg, Int.mul_ediv_cancel_left _ (by omega)]
theorem gcd_dvdn (n d : Int) : ((Nat.gcd n.natAbs d.natAbs : Nat) : Int) ∣ n := Int.natAbs_dvd_natAbs.mp (by
  rw [Int.natAbs_natCast]
  exact Nat.gcd_dvd_left _ _)
theorem gcd_dvdd (n d : Int) : ((Nat.gcd n.natAbs d.natAbs : Nat) : Int) ∣ d := Int.natAbs_dvd_natAbs.mp (by
  rw [Int.natAbs_natCast]
  exact Nat.gcd_dvd_right _ _)
theorem fFraction {M : Md} {f : Addr} {fd : FuncData} (mg : M.mg "gcd" = some (.builtin "math.gcd")) (F : Fun M.K "fraction" "fraction" sFraction f fd) (hm : M.mg "fraction" = some (.ref f)) (b : L2.Binds M.K fd ["above", "below"] []) : FnD M 1 "fraction" 2 SFraction := by
  refine fnD_mk (k := 0) (NK := nkFraction) (G := gFraction) F scFraction hm b rfl (by decide +kernel) rfl (by decide) fun X C ds W hl hS => ?_
  obtain ⟨n, d, rfl, hn, hd, h0, w⟩ := hS
  have hg : 0 < Nat.gcd n.natAbs d.natAbs := Nat.gcd_pos_of_pos_right _ (by omega)
  have hle : Nat.gcd n.natAbs d.natAbs ≤ d.natAbs := Nat.le_of_dvd (by omega) (Nat.gcd_dvd_right _ _)
  show VSs X _ [.dat (.int n), .dat (.int d), .no] _
  walk_at "vv"
  refine vd_callM C does_gcd2 (by walk_at "at") ?_
  walk_at "vv"
  refine ⟨n, d, rfl, ?_⟩
  walk_at "vv"
  refine ⟨fun h => ?_, fun h => ?_⟩
  · have h := of_decide_eq_true h
    walk_at "vv"
    refine ⟨_, rfl, ?_⟩
    walk_at "v"
    walk_at "v"
    walk_at "v"
    refine va_cons (vd_fdivN ?_)
    walk_at "vv"
    refine ⟨n, -((Nat.gcd n.natAbs d.natAbs : Nat) : Int), rfl, rfl, ⟨by omega, by omega⟩, ?_⟩
    refine va_cons (vd_fdivN ?_)
    walk_at "vv"
    refine ⟨d, -((Nat.gcd n.natAbs d.natAbs : Nat) : Int), rfl, rfl, ⟨by omega, by omega⟩, ?_⟩
    walk_at "vv"
    refine ⟨by show 2 ≤ 1000; decide, ?_⟩
    rw [fdiv_neg (by omega) (gcd_dvdn n d), fdiv_neg (by omega) (gcd_dvdd n d)]
    unfold frq at w
    rw [if_pos h] at w
    unfold fr at w
    rw [Int.natAbs_neg, Int.natAbs_neg] at w
    exact w
  · have h := of_decide_eq_false h
    refine vss_nil ?_
    walk_at "v"
    walk_at "v"
    walk_at "v"
    refine va_cons (vd_fdivN ?_)
    walk_at "vv"
    refine ⟨n, ((Nat.gcd n.natAbs d.natAbs : Nat) : Int), rfl, rfl, ⟨by omega, by omega⟩, ?_⟩
    refine va_cons (vd_fdivN ?_)
    walk_at "vv"
    refine ⟨d, ((Nat.gcd n.natAbs d.natAbs : Nat) : Int), rfl, rfl, ⟨by omega, by omega⟩, ?_⟩
    walk_at "vv"
    refine ⟨by show 2 ≤ 1000; decide, ?_⟩
    rw [Int.fdiv_eq_ediv_of_nonneg _ (by omega), Int.fdiv_eq_ediv_of_nonneg _ (by omega)]
    unfold frq at w
    rw [if_neg h] at w
    exact w

/-! ### self.refuse(self.done) -/
section
variable {X : Cx} {M : Md} {sc : Scope} {NK : List (Str × Bool × Bool)} {G : List Str} {k : Nat} {ρ : En} {F : Vc.Fin} {CA CT p0 : Addr} {ln d : Nat} {t : List Nat} {i : Nat} {l : Bool} {p1 p2 p3 p4 p5 p6 : Pos} {pl : Sem Bool}
theorem vs_refuse (C : Cst X M sc NK G k) (R : RowTxt M.K CA) (FR : FnMt M 1 CA "refuse" 2 (SRow CA CT fRefuse)) (hk : 1 ≤ k) (ha : At NK i ("self", true, l)) (ho : ρ[i]? = some (.own p0 (rowO CA ln t d))) (hln : ln ≤ 1000) (ht : t.length ≤ 1000) (hd : d ≤ t.length)
    (hx : ∀ d', F.ex (bad CT ln (d + 1)) (ρ.set i (.own p0 (rowO CA ln t d')))) (hs : swapsWith (.Call (.Attribute (.Name "self" p1) "refuse" p2) [.Attribute (.Name "self" p3) "done" p4] [] p5) none p6.line X.env = pure false := by rfl)
    (hev : eval (.Call (.Attribute (.Name "self" p1) "refuse" p2) [.Attribute (.Name "self" p3) "done" p4] [] p5) X.env = (do
      let ov ← eval (.Name "self" p1) X.env
      standAt p2.atName
      let (f, first) ← holding [ov] (getMethod ov "refuse" pl)
      callWith p5 f first (backTo p5 (starEach [.Attribute (.Name "self" p3) "done" p4] X.env)) (backToKw p5 (keywordEach [] X.env))) := by rfl) :
    VS X (.Expr (.Call (.Attribute (.Name "self" p1) "refuse" p2) [.Attribute (.Name "self" p3) "done" p4] [] p5) p6) ρ F := by
  refine vs_exprE (ve_meth C R.cl FR ha ho (by walk_at "no") (vex_cons (ve_of (vd_fld C R.cl R.nD ha ho fs_done (vex_nil ?_)))) hk (ht := hev)) hs
  refine ⟨⟨_, ho⟩, rfl, ⟨⟨_, _, ho⟩, trivial⟩, rfl, p0, ln, t, d, [.int (d : Nat)], .error d, ?_, hln, ht, hd, if_pos (by omega), fun _ _ h => (by cases h), fun at_ h d' => ?_⟩
  · show [(ρ[i]?).getD .no, _] = _
    rw [ho]
    rfl
  · cases h
    exact hx d'
end
/-! ### numbers, fractions -/
def figsS : Str := "0123456789"
theorem figs_list : figsS.cps.toList = [48, 49, 50, 51, 52, 53, 54, 55, 56, 57] := by decide +kernel
theorem tk_all {S : Str} {t : List Nat} {d : Nat} : ∀ c ∈ tk S t d, c ∈ S.cps.toList := fun c h => by
  unfold tk at h
  exact of_decide_eq_true ((List.all_eq_true.mp (List.all_takeWhile (l := t.drop d) (p := fun c => decide (c ∈ S.cps.toList)))) c h)
theorem figs_int {t : List Nat} {d : Nat} (hne : tk figsS t d ≠ []) (hl : (tk figsS t d).length ≤ 4) : PySem.intText? (sT (tk figsS t d)) = some ((NumText.digitsVal (tk figsS t d) : Nat) : Int) := by
  refine SX.int_S (List.all_eq_true.mpr fun c h => ?_) hne (by omega)
  have := tk_all c h
  rw [figs_list] at this
  simp only [List.mem_cons, List.not_mem_nil, or_false] at this
  rw [Bool.and_eq_true, decide_eq_true_eq, decide_eq_true_eq]
  omega
/-- a row of figures that may be a number -/
def figOk (fs : List Nat) : Bool := decide (1 ≤ fs.length) && decide (fs.length ≤ 4) && !(decide (fs.take 1 = [48]) && !decide (fs = [48]))
def mBareNum (t : List Nat) (d : Nat) (least : Nat) : RR := if figOk (tk figsS t d) = true then (if least ≤ NumText.digitsVal (tk figsS t d) ∧ NumText.digitsVal (tk figsS t d) ≤ 1000 then .ok (.int (NumText.digitsVal (tk figsS t d) : Nat), d + (tk figsS t d).length) else .error d) else .error d
def fBareNum (t : List Nat) (d : Nat) (ds : List D) : Option RR := match ds with
  | [.int (.ofNat l)] => some (mBareNum t d l)
  | _ => none
theorem zero_eq {u : List Nat} : sT u = ("0" : Str) ↔ u = [48] := by
  have : ("0" : Str) = sT [48] := by decide +kernel
  rw [this, sT_inj]
theorem fRowBareNumber {M : Md} {f : Addr} {fd : FuncData} {CA CT : Addr} {t3 t4 t5 : Tok} (R : RowTxt M.K CA) (ml : M.mg "len" = none) (mi : M.mg "int" = none) (mF : M.mg "FIGURES" = some (.str figsS t3)) (mM : M.mg "MOST_FIGURES" = some (.int 4 t4)) (mN : M.mg "MOST_NUMBER" = some (.int 1000 t5)) (FA : FnMt M 1 CA "ahead" 2 (SRow CA CT fAhead)) (FR : FnMt M 1 CA "refuse" 2 (SRow CA CT fRefuse))
    (F : Fun M.K "bare_number" "Row.bare_number" sRowBareNumber f fd) (hm : Meth M.K CA "bare_number" f) (b : L2.Binds M.K fd ["self", "least"] []) : FnMt M 2 CA "bare_number" 2 (SRow CA CT fBareNum) := by
  refine fnMt_mk (k := 1) (NK := nkRowBareNumber) (G := gRowBareNumber) F scRowBareNumber hm b rfl (by decide +kernel) rfl (by decide) fun X C tp as W WX hl hS => ?_
  obtain ⟨p, ln, t, d, ds, r, rfl, hln, ht, hd, hf, w, wx⟩ := hS
  obtain ⟨least, rfl, rfl⟩ : ∃ l : Nat, ds = [.int (l : Int)] ∧ r = mBareNum t d l := by
    unfold fBareNum at hf
    split at hf
    · rename_i l
      cases hf
      exact ⟨l, rfl, rfl⟩
    · cases hf
  have hle := tk_le (S := figsS) hd
  show VSs X _ [.own p (rowO CA ln t d), .dat (.int (least : Nat)), .no, .no] _
  refine vss_cons (vs_setE C (by walk_at "at") (ve_meth C R.cl FA (by walk_at "at") rfl (by walk_at "no") (vex_cons (ve_of (vd_gstr C (by walk_at "at") mF (vex_nil ?_))))))
  refine ⟨⟨_, rfl⟩, rfl, ⟨⟨_, _, rfl⟩, trivial⟩, rfl, p, ln, t, d, [.str figsS], _, rfl, hln, ht, hd, rfl, fun v d2 h hd2 => ?_, fun _ h => (by cases h)⟩
  cases h
  generalize hfs : tk figsS t d = fs at *
  show VSs X _ [.own p (rowO CA ln t d), .dat (.int (least : Nat)), .dat (.str (sT fs)), .no] _
  have fl : fs.length ≤ 1000 := by omega
  -- what stands behind the test
  have go : figOk fs = true → VSs X ((defBody sRowBareNumber).drop 2) [.own p (rowO CA ln t d), .dat (.int (least : Nat)), .dat (.str (sT fs)), .no] (finX [.own p (rowO CA ln t d), .dat (.int (least : Nat))] W WX) := fun ok => by
    have ok' := ok
    unfold figOk at ok'
    rw [Bool.and_eq_true, Bool.and_eq_true, decide_eq_true_eq, decide_eq_true_eq] at ok'
    obtain ⟨⟨l1, l4⟩, _⟩ := ok'
    have hne : tk figsS t d ≠ [] := by
      rw [hfs]
      intro z
      rw [z] at l1
      exact absurd l1 (by decide)
    have hint := figs_int (t := t) (d := d) hne (by rw [hfs]; exact l4)
    rw [hfs] at hint
    refine vss_cons (vs_set C (by walk_at "at") (vd_callT C (x := "int") does_intS (by walk_at "at") (va_cons (vd_name C (by walk_at "at") rfl (va_nil ⟨_, _, rfl, hint, by rw [sT_len]; omega, ?_⟩)))))
    generalize hn : NumText.digitsVal fs = n at *
    show VSs X _ [.own p (rowO CA ln t d), .dat (.int (least : Nat)), .dat (.str (sT fs)), .dat (.int (n : Nat))] _
    have er : ¬ (least ≤ n ∧ n ≤ 1000) → mBareNum t d least = .error d := fun z => by
      unfold mBareNum
      rw [hfs, if_pos ok, hn, if_neg z]
    have okr : (least ≤ n ∧ n ≤ 1000) → mBareNum t d least = .ok (.int (n : Nat), d + fs.length) := fun z => by
      unfold mBareNum
      rw [hfs, if_pos ok, hn, if_pos z]
    have fin : (least ≤ n ∧ n ≤ 1000) → VSs X ((defBody sRowBareNumber).drop 4) [.own p (rowO CA ln t d), .dat (.int (least : Nat)), .dat (.str (sT fs)), .dat (.int (n : Nat))] (finX [.own p (rowO CA ln t d), .dat (.int (least : Nat))] W WX) := fun z => by
      refine vss_cons (vs_fldadd C R.cl R.nD (by walk_at "at") rfl fs_done (vd_callB C (x := "len") does_lenS (by walk_at "at") ?_))
      refine va_cons (vd_name C (by walk_at "at") rfl (va_nil ⟨_, rfl, by rw [sT_len]; omega, _, _, rfl, rfl, by show 3 < 900; decide, ?_⟩))
      rw [fs_put, sT_len]
      show VSs X _ [.own p (rowO CA ln t (d + fs.length)), .dat (.int (least : Nat)), .dat (.str (sT fs)), .dat (.int (n : Nat))] _
      refine vss_one (vs_ret (vd_name C (by walk_at "at") rfl ⟨⟨rfl, trivial⟩, ?_⟩))
      exact w _ _ (okr z) hle
    refine vss_cons (vs_if (vt_not (vt_chain C (vd_name C (by walk_at "at") rfl (vd_name C (by walk_at "at") rfl ?_)))))
    refine ⟨fun q => vd_gint C (by walk_at "at") mN ⟨fun z => ?_, fun z => ?_⟩, fun q => ⟨fun z => ?_, fun z => (by cases z)⟩⟩
    · have q1 := of_decide_eq_true q
      by_cases q2 : n ≤ 1000
      · have : decide ((n : Int) ≤ 1000) = true := decide_eq_true (by omega)
        rw [this] at z
        cases z
      · refine vss_one (vs_refuse C R FR (by decide) (by walk_at "at") rfl hln ht hd ?_)
        exact fun d' => ⟨⟨rfl, trivial⟩, wx _ (er (by omega)) d'⟩
    · have q1 := of_decide_eq_true q
      by_cases q2 : n ≤ 1000
      · exact vss_nil (fin (by omega))
      · have : decide ((n : Int) ≤ 1000) = false := decide_eq_false (by omega)
        rw [this] at z
        cases z
    · have q1 := of_decide_eq_false q
      refine vss_one (vs_refuse C R FR (by decide) (by walk_at "at") rfl hln ht hd ?_)
      exact fun d' => ⟨⟨rfl, trivial⟩, wx _ (er (by omega)) d'⟩
  have bd : figOk fs = false → mBareNum t d least = .error d := fun z => by
    unfold mBareNum
    rw [hfs, z]
    rfl
  have len2 : ∀ {P : D → En → Prop} {ρ : En}, P (.int (fs.length : Nat)) ρ → P (.int ((sT fs).length : Nat)) ρ := fun h => by
    rw [sT_len]
    exact h
  refine vss_cons (vs_if (vt_w (vw_or (vt_not (vt_chain C (vd_int (vd_callB C (x := "len") does_lenS (by walk_at "at") (va_cons (vd_name C (by walk_at "at") rfl (va_nil ⟨_, rfl, by rw [sT_len]; omega, ?_⟩))))))))))
  rw [sT_len]
  refine ⟨fun q => vd_gint C (by walk_at "at") mM ⟨fun z => ⟨fun _ => ?_, fun y => (by cases y)⟩, fun z => ?_⟩, fun q => ⟨fun z => ⟨fun _ => ?_, fun y => (by cases y)⟩, fun z => (by cases z)⟩⟩
  · have q1 := of_decide_eq_true q
    have q2 : ¬ fs.length ≤ 4 := fun y => by
      have : decide ((fs.length : Int) ≤ 4) = true := decide_eq_true (by omega)
      rw [this] at z
      cases z
    refine vss_one (vs_refuse C R FR (by decide) (by walk_at "at") rfl hln ht hd ?_)
    refine fun d' => ⟨⟨rfl, trivial⟩, wx _ (bd ?_) d'⟩
    unfold figOk
    rw [decide_eq_false q2]
    simp
  · have l1 : 1 ≤ fs.length := by
      have := of_decide_eq_true q
      omega
    have l4 : fs.length ≤ 4 := by
      by_cases y : fs.length ≤ 4
      · exact y
      · have : decide ((fs.length : Int) ≤ 4) = false := decide_eq_false (by omega)
        rw [this] at z
        cases z
    refine vw_or1 ?_
    refine vt_w (vw_and (vt_eqS (vd_ixS (vd_name C (by walk_at "at") rfl (vd_int ?_)))))
    obtain ⟨c, r, hcr⟩ : ∃ c r, fs = c :: r := by
      cases fs with
      | nil => exact absurd l1 (by decide)
      | cons c r => exact ⟨c, r, rfl⟩
    refine ⟨sT fs, 0, c, rfl, rfl, by rw [sT_len]; omega, by rw [sT_list, hcr]; exact atI_nat (j := 0) rfl, vd_str ⟨_, _, rfl, rfl, fun q => ?_, fun q => ?_⟩⟩
    · have q1 := of_decide_eq_true q
      have hc : c = 48 := by
        have := zero_eq.mp (show sT [c] = ("0" : Str) from q1)
        simpa using this
      refine vw_and1 (vt_neS (vd_name C (by walk_at "at") rfl (vd_str ⟨_, _, rfl, rfl, fun z => ?_, fun z => ?_⟩)))
      · have z1 : ¬ fs = [48] := fun y => by
          have : decide (sT fs = ("0" : Str)) = true := decide_eq_true (zero_eq.mpr y)
          rw [this] at z
          cases z
        refine vss_one (vs_refuse C R FR (by decide) (by walk_at "at") rfl hln ht hd ?_)
        refine fun d' => ⟨⟨rfl, trivial⟩, wx _ (bd ?_) d'⟩
        unfold figOk
        have : decide (fs.take 1 = [48]) = true := decide_eq_true (by rw [hcr, hc]; rfl)
        rw [this, decide_eq_false z1]
        simp
      · have z1 : fs = [48] := by
          by_cases y : fs = [48]
          · exact y
          · have : decide (sT fs = ("0" : Str)) = false := decide_eq_false fun e => y (zero_eq.mp e)
            rw [this] at z
            cases z
        refine vss_nil (go ?_)
        rw [z1]
        decide
    · refine ⟨fun y => (by cases y), fun _ => vss_nil (go ?_)⟩
      have q1 : ¬ c = 48 := fun y => of_decide_eq_false q (zero_eq.mpr (by rw [y]))
      unfold figOk
      have : decide (fs.take 1 = [48]) = false := decide_eq_false fun y => q1 (by
        rw [hcr] at y
        simpa using y)
      rw [this, decide_eq_true l1, decide_eq_true l4]
      rfl
  · have q2 : ¬ 1 ≤ fs.length := by
      have := of_decide_eq_false q
      omega
    refine vss_one (vs_refuse C R FR (by decide) (by walk_at "at") rfl hln ht hd ?_)
    refine fun d' => ⟨⟨rfl, trivial⟩, wx _ (bd ?_) d'⟩
    unfold figOk
    rw [decide_eq_false q2]
    simp


open PySem PySem.Spec PyProof.Rows L2 Vc
/-! ### read_number, read_fraction, read_breaker, __init__ -/
def mNumber (t : List Nat) (d : Nat) : RR := if skip t d = t.length then .error t.length else mThen t (mBareNum t (skip t d) 0)
theorem fRowReadNumber {M : Md} {f : Addr} {fd : FuncData} {CA CT : Addr} (R : RowTxt M.K CA) (FB : FnMt M 3 CA "begin" 1 (SRow CA CT fun t d _ => some (mBegin t d))) (FN : FnMt M 2 CA "bare_number" 2 (SRow CA CT fBareNum)) (FF : FnMt M 2 CA "finish" 1 (SRow CA CT fun t d _ => some (mFin t d)))
    (F : Fun M.K "read_number" "Row.read_number" sRowReadNumber f fd) (hm : Meth M.K CA "read_number" f) (b : L2.Binds M.K fd ["self"] []) : FnMt M 4 CA "read_number" 1 (SRow CA CT fun t d _ => some (mNumber t d)) := by
  refine fnMt_mk (k := 3) (NK := nkRowReadNumber) (G := gRowReadNumber) F scRowReadNumber hm b rfl (by decide +kernel) rfl (by decide) fun X C tp as W WX hl hS => ?_
  obtain ⟨p, ln, t, d, ds, r, rfl, hln, ht, hd, hf, w, wx⟩ := hS
  cases hf
  have : ds = [] := by simpa using hl
  subst this
  show VSs X _ [.own p (rowO CA ln t d), .no] _
  refine vss_cons (vs_exprE (ve_meth0 C R.cl FB (by walk_at "at") rfl (by walk_at "no") ⟨p, ln, t, d, [], _, rfl, hln, ht, hd, rfl, fun v d' h hd' => ?_, fun at_ h d' => ?_⟩))
  · obtain ⟨h1, rfl, rfl⟩ := mBegin_ok h
    show VSs X _ [.own p (rowO CA ln t (skip t d)), .no] _
    refine vss_cons (vs_setE C (by walk_at "at") (ve_meth C R.cl FN (by walk_at "at") rfl (by walk_at "no") (vex_cons (ve_of (vd_int (vex_nil ?_))))))
    refine ⟨⟨_, rfl⟩, rfl, ⟨⟨_, _, rfl⟩, trivial⟩, rfl, p, ln, t, skip t d, [.int (0 : Nat)], _, rfl, hln, ht, hd', rfl, fun v d2 h2 hd2 => ?_, fun at_ h2 d2 => ?_⟩
    · show VSs X _ [.own p (rowO CA ln t d2), .dat v] _
      refine vss_cons (vs_exprE (ve_meth0 C R.cl FF (by walk_at "at") rfl (by walk_at "no") ⟨p, ln, t, d2, [], _, rfl, hln, ht, hd2, rfl, fun v3 d3 h3 hd3 => ?_, fun at_ h3 d3 => ?_⟩))
      · obtain ⟨h4, rfl, rfl⟩ := mFin_ok h3
        refine vss_one (vs_ret (vd_name C (by walk_at "at") rfl ⟨⟨rfl, trivial⟩, ?_⟩))
        exact w _ _ (by unfold mNumber; rw [if_neg h1, h2]; exact if_pos h4) hd2
      · obtain ⟨h4, rfl⟩ := mFin_err h3
        exact ⟨⟨rfl, trivial⟩, wx _ (by unfold mNumber; rw [if_neg h1, h2]; exact if_neg h4) d3⟩
    · exact ⟨⟨rfl, trivial⟩, wx _ (by unfold mNumber; rw [if_neg h1, h2]; rfl) d2⟩
  · obtain ⟨h1, rfl⟩ := mBegin_err h
    exact ⟨⟨rfl, trivial⟩, wx _ (by unfold mNumber; rw [if_pos h1]) d'⟩
/-- what is told by a number, perhaps with another one -/
def frD : D → D → D
  | .int a, .int b => frq a b
  | _, _ => .none
def slash (t : List Nat) (d : Nat) : Bool := decide ((t.drop d).take 1 = [47])
def mFrac2 (t : List Nat) (a : D) (d : Nat) : RR := if slash t d = true then (match mBareNum t (d + 1) 1 with
    | .ok (b, d2) => if hOk t d2 = true then .ok (frD a b, d2) else .error d2
    | .error x => .error x) else (if hOk t d = true then .ok (frD a (.int 1), d) else .error d)
def mFraction (t : List Nat) (d : Nat) : RR := if skip t d = t.length then .error t.length else (match mBareNum t (skip t d) 0 with
  | .ok (a, d1) => mFrac2 t a d1
  | .error x => .error x)
theorem slash_eq {u : List Nat} : sT u = ("/" : Str) ↔ u = [47] := by
  have : ("/" : Str) = sT [47] := by decide +kernel
  rw [this, sT_inj]
theorem slash_lt {t : List Nat} {d : Nat} (h : slash t d = true) : d < t.length := by
  have h1 : (t.drop d).take 1 = [47] := of_decide_eq_true h
  cases e : t.drop d with
  | nil =>
    rw [e] at h1
    cases h1
  | cons c r => exact (drop_at e).1
theorem bareNum_ok {t : List Nat} {d d' l : Nat} {v : D} (h : mBareNum t d l = .ok (v, d')) : ∃ n : Nat, v = .int (n : Int) ∧ l ≤ n ∧ n ≤ 1000 := by
  unfold mBareNum at h
  split at h
  · split at h
    · rename_i q
      cases h
      exact ⟨_, rfl, q.1, q.2⟩
    · cases h
  · cases h
theorem fRowReadFraction {M : Md} {f : Addr} {fd : FuncData} {CA CT : Addr} (R : RowTxt M.K CA) (FB : FnMt M 3 CA "begin" 1 (SRow CA CT fun t d _ => some (mBegin t d))) (FN : FnMt M 2 CA "bare_number" 2 (SRow CA CT fBareNum)) (FF : FnMt M 2 CA "finish" 1 (SRow CA CT fun t d _ => some (mFin t d))) (FQ : FnD M 1 "fraction" 2 SFraction)
    (F : Fun M.K "read_fraction" "Row.read_fraction" sRowReadFraction f fd) (hm : Meth M.K CA "read_fraction" f) (b : L2.Binds M.K fd ["self"] []) : FnMt M 4 CA "read_fraction" 1 (SRow CA CT fun t d _ => some (mFraction t d)) := by
  refine fnMt_mk (k := 3) (NK := nkRowReadFraction) (G := gRowReadFraction) F scRowReadFraction hm b rfl (by decide +kernel) rfl (by decide) fun X C tp as W WX hl hS => ?_
  obtain ⟨p, ln, t, d, ds, r, rfl, hln, ht, hd, hf, w, wx⟩ := hS
  cases hf
  have : ds = [] := by simpa using hl
  subst this
  show VSs X _ [.own p (rowO CA ln t d), .no, .no] _
  refine vss_cons (vs_exprE (ve_meth0 C R.cl FB (by walk_at "at") rfl (by walk_at "no") ⟨p, ln, t, d, [], _, rfl, hln, ht, hd, rfl, fun v d' h hd' => ?_, fun at_ h d' => ?_⟩))
  · obtain ⟨h1, rfl, rfl⟩ := mBegin_ok h
    show VSs X _ [.own p (rowO CA ln t (skip t d)), .no, .no] _
    refine vss_cons (vs_setE C (by walk_at "at") (ve_meth C R.cl FN (by walk_at "at") rfl (by walk_at "no") (vex_cons (ve_of (vd_int (vex_nil ?_))))))
    refine ⟨⟨_, rfl⟩, rfl, ⟨⟨_, _, rfl⟩, trivial⟩, rfl, p, ln, t, skip t d, [.int (0 : Nat)], _, rfl, hln, ht, hd', rfl, fun v d2 h2 hd2 => ?_, fun at_ h2 d2 => ?_⟩
    · obtain ⟨a, rfl, _, ha⟩ := bareNum_ok h2
      show VSs X _ [.own p (rowO CA ln t d2), .dat (.int (a : Nat)), .no] _
      refine vss_cons (vs_set C (by walk_at "at") (vd_int ?_))
      show VSs X _ [.own p (rowO CA ln t d2), .dat (.int (a : Nat)), .dat (.int (1 : Nat))] _
      -- the last two rows
      have fin : ∀ (bn d3 : Nat), d3 ≤ t.length → 1 ≤ bn → bn ≤ 1000 → (hOk t d3 = true → mFraction t d = .ok (frD (.int (a : Nat)) (.int (bn : Nat)), d3)) → (¬ hOk t d3 = true → mFraction t d = .error d3) →
          VSs X ((defBody sRowReadFraction).drop 4) [.own p (rowO CA ln t d3), .dat (.int (a : Nat)), .dat (.int (bn : Nat))] (finX [.own p (rowO CA ln t d)] W WX) := fun bn d3 hd3 b1 b2 e1 e2 => by
        refine vss_cons (vs_exprE (ve_meth0 C R.cl FF (by walk_at "at") rfl (by walk_at "no") ⟨p, ln, t, d3, [], _, rfl, hln, ht, hd3, rfl, fun v3 d4 h3 hd4 => ?_, fun at_ h3 d4 => ?_⟩))
        · obtain ⟨h4, rfl, rfl⟩ := mFin_ok h3
          refine vss_one (vs_ret (vd_call C FQ (by walk_at "at") (va_cons (vd_name C (by walk_at "at") rfl (va_cons (vd_name C (by walk_at "at") rfl (va_nil ?_)))))))
          refine ⟨rfl, _, _, rfl, by rw [Int.natAbs_natCast]; omega, by rw [Int.natAbs_natCast]; omega, by omega, ⟨rfl, trivial⟩, ?_⟩
          exact w _ _ (e1 h4) hd3
        · obtain ⟨h4, rfl⟩ := mFin_err h3
          exact ⟨⟨rfl, trivial⟩, wx _ (e2 h4) d4⟩
      have e0 : mFraction t d = mFrac2 t (.int (a : Nat)) d2 := by
        unfold mFraction
        rw [if_neg h1, h2]
      refine vss_cons (vs_if (vt_eqS (vd_cutS (vd_fld C R.cl R.nT (by walk_at "at") rfl fs_text (vd_fld C R.cl R.nD (by walk_at "at") rfl fs_done ⟨_, rfl, vd_bin (vd_fld C R.cl R.nD (by walk_at "at") rfl fs_done (vd_int ?_))⟩)))))
      refine ⟨sT t, _, rfl, rfl, by rw [sT_len]; omega, vd_str ⟨_, _, rfl, rfl, fun e => ?_, fun e => ?_⟩⟩
      · have e' : slash t d2 = true := by
          have := of_decide_eq_true e
          rw [cut1 hd2, slash_eq] at this
          exact decide_eq_true this
        have hlt := slash_lt e'
        refine vss_cons (vs_fldadd C R.cl R.nD (by walk_at "at") rfl fs_done (vd_int ⟨1, _, rfl, rfl, by show 3 < 900; decide, ?_⟩))
        rw [fs_put]
        show VSs X _ [.own p (rowO CA ln t (d2 + 1)), .dat (.int (a : Nat)), .dat (.int (1 : Nat))] _
        refine vss_one (vs_setE C (by walk_at "at") (ve_meth C R.cl FN (by walk_at "at") rfl (by walk_at "no") (vex_cons (ve_of (vd_int (vex_nil ?_))))))
        refine ⟨⟨_, rfl⟩, rfl, ⟨⟨_, _, rfl⟩, trivial⟩, rfl, p, ln, t, d2 + 1, [.int (1 : Nat)], _, rfl, hln, ht, by omega, rfl, fun v3 d3 h3 hd3 => ?_, fun at_ h3 d3 => ?_⟩
        · obtain ⟨bn, rfl, b1, b2⟩ := bareNum_ok h3
          refine fin bn d3 hd3 b1 b2 (fun z => ?_) fun z => ?_
          · rw [e0]
            unfold mFrac2
            rw [if_pos e', h3]
            exact if_pos z
          · rw [e0]
            unfold mFrac2
            rw [if_pos e', h3]
            exact if_neg z
        · exact ⟨⟨rfl, trivial⟩, wx _ (by
            rw [e0]
            unfold mFrac2
            rw [if_pos e', h3]) d3⟩
      · have e' : ¬ slash t d2 = true := fun z => by
          have := of_decide_eq_false e
          rw [cut1 hd2, slash_eq] at this
          exact this (of_decide_eq_true z)
        refine vss_nil (fin 1 d2 hd2 (by decide) (by decide) (fun z => ?_) fun z => ?_)
        · rw [e0]
          unfold mFrac2
          rw [if_neg e', if_pos z]
          rfl
        · rw [e0]
          unfold mFrac2
          rw [if_neg e', if_neg z]
    · exact ⟨⟨rfl, trivial⟩, wx _ (by unfold mFraction; rw [if_neg h1, h2]) d2⟩
  · obtain ⟨h1, rfl⟩ := mBegin_err h
    exact ⟨⟨rfl, trivial⟩, wx _ (by unfold mFraction; rw [if_pos h1]) d'⟩


open PySem PySem.Spec PyProof.Rows L2 Vc
/-! ### read_breaker, __init__ -/
def hasEnd (bh : List Nat) : Bool := decide (bh = [46, 48]) || decide (bh = [46, 49])
def mBr2 (t : List Nat) (lines : List Str) (nm : Str) (st d : Nat) : RR :=
  if (decide (nm ∈ lines) && (!hasEnd ((t.drop d).take 2) && decide ((t.drop d).take 1 = [46]))) = true then .error (d + 1)
  else if decide (nm ∈ lines) = hasEnd ((t.drop d).take 2) then
    (if hasEnd ((t.drop d).take 2) = true then (if hOk t (d + 2) = true then .ok (.tuple [.str nm, .int (if (t.drop d).take 2 = [46, 48] then 0 else 1)], d + 2) else .error (d + 2))
      else (if hOk t d = true then .ok (.tuple [.str nm, .int 0], d) else .error d))
  else .error st
def mBreaker (t : List Nat) (d : Nat) (lines : List Str) : RR := if skip t d = t.length then .error t.length else if nameS (sT (tk signsS t (skip t d))) = true then mBr2 t lines (sT (tk signsS t (skip t d))) (skip t d) (skip t d + (tk signsS t (skip t d)).length) else .error (skip t d)
def fRBrk (t : List Nat) (d : Nat) (ds : List D) : Option RR := match ds with
  | [.list us] => (strs? us).map (mBreaker t d)
  | _ => none
theorem mBare_ok {t : List Nat} {d d' : Nat} {v : D} (h : mBare t d = .ok (v, d')) : skip t d ≠ t.length ∧ nameS (sT (tk signsS t (skip t d))) = true ∧ v = .str (sT (tk signsS t (skip t d))) ∧ d' = skip t d + (tk signsS t (skip t d)).length := by
  unfold mBare at h
  split at h
  · cases h
  · split at h
    · rename_i q1 q2
      cases h
      exact ⟨q1, q2, rfl, rfl⟩
    · cases h
theorem end_in {bh : List Nat} : decide (sT bh ∈ [(".0" : Str), (".1" : Str)]) = hasEnd bh := by
  have e0 : (".0" : Str) = sT [46, 48] := by decide +kernel
  have e1 : (".1" : Str) = sT [46, 49] := by decide +kernel
  rw [e0, e1]
  unfold hasEnd
  by_cases h0 : bh = [46, 48]
  · rw [decide_eq_true h0, h0]
    exact decide_eq_true (by simp)
  · by_cases h1 : bh = [46, 49]
    · rw [decide_eq_false h0, decide_eq_true h1, h1]
      exact decide_eq_true (by simp)
    · rw [decide_eq_false h0, decide_eq_false h1]
      refine decide_eq_false fun z => ?_
      rcases List.mem_cons.mp z with z | z
      · exact h0 (sT_inj.mp z)
      · rw [List.mem_singleton] at z
        exact h1 (sT_inj.mp z)
theorem end_len2 {bh : List Nat} (h : hasEnd bh = true) : bh = [46, 48] ∨ bh = [46, 49] := by
  unfold hasEnd at h
  rw [Bool.or_eq_true, decide_eq_true_eq, decide_eq_true_eq] at h
  exact h
theorem int0 : PySem.intText? (⟨#[48]⟩ : Str) = some 0 := by decide +kernel
theorem int1 : PySem.intText? (⟨#[49]⟩ : Str) = some 1 := by decide +kernel
theorem dot_eq {u : List Nat} : sT u = ("." : Str) ↔ u = [46] := by
  have : ("." : Str) = sT [46] := by decide +kernel
  rw [this, sT_inj]
theorem eqv_bool (a b : Bool) : (!PyData.eqv (.bool a) (.bool b)) = !decide (a = b) := by cases a <;> cases b <;> decide +kernel
theorem take_take1 {u : List Nat} : (u.take 2).take 1 = u.take 1 := by
  cases u with
  | nil => rfl
  | cons c r => rfl
theorem cut2 {t : List Nat} {e : Nat} (h : e ≤ t.length) : cutS (sT t) (some (e : Int)) (some ((e : Int) + 2)) = sT ((t.drop e).take 2) := by
  have := cut_sT (t := t) (i := e) (j := e + 2) h (by omega)
  rw [show e + 2 - e = 2 by omega] at this
  rw [← this]
  rfl
theorem fRowReadBreaker {M : Md} {f : Addr} {fd : FuncData} {CA CT : Addr} (R : RowTxt M.K CA) (ml : M.mg "len" = none) (mi : M.mg "int" = none) (FB : FnMt M 4 CA "bare_name" 1 (SRow CA CT fun t d _ => some (mBare t d))) (FF : FnMt M 2 CA "finish" 1 (SRow CA CT fun t d _ => some (mFin t d))) (FR : FnMt M 1 CA "refuse" 2 (SRow CA CT fRefuse))
    (F : Fun M.K "read_breaker" "Row.read_breaker" sRowReadBreaker f fd) (hm : Meth M.K CA "read_breaker" f) (b : L2.Binds M.K fd ["self", "lines"] []) : FnMt M 5 CA "read_breaker" 2 (SRow CA CT fRBrk) := by
  refine fnMt_mk (k := 4) (NK := nkRowReadBreaker) (G := gRowReadBreaker) F scRowReadBreaker hm b rfl (by decide +kernel) rfl (by decide) fun X C tp as W WX hl hS => ?_
  obtain ⟨p, ln, t, d, ds, r, rfl, hln, ht, hd, hf, w, wx⟩ := hS
  obtain ⟨ls, rfl, rfl⟩ : ∃ ls : List Str, ds = [.list (ls.map PyData.str)] ∧ r = mBreaker t d ls := by
    unfold fRBrk at hf
    split at hf
    · rename_i us
      cases e : strs? us with
      | none =>
        rw [e] at hf
        cases hf
      | some ws =>
        rw [e] at hf
        cases hf
        exact ⟨ws, by rw [strs_eq e], rfl⟩
    · cases hf
  show VSs X _ [.own p (rowO CA ln t d), .dat (.list (ls.map PyData.str)), .no, .no, .no, .no] _
  refine vss_cons (vs_setE C (by walk_at "at") (ve_meth0 C R.cl FB (by walk_at "at") rfl (by walk_at "no") ⟨p, ln, t, d, [], _, rfl, hln, ht, hd, rfl, fun v d' h hd' => ?_, fun at_ h d' => ?_⟩))
  · obtain ⟨h1, h2, rfl, rfl⟩ := mBare_ok h
    have hsk := skip_le hd
    have e0 : mBreaker t d ls = mBr2 t ls (sT (tk signsS t (skip t d))) (skip t d) (skip t d + (tk signsS t (skip t d)).length) := by
      unfold mBreaker
      rw [if_neg h1, if_pos h2]
    rw [e0] at w wx
    generalize hnm : tk signsS t (skip t d) = nm at *
    generalize hst : skip t d = st at *
    show VSs X _ [.own p (rowO CA ln t (st + nm.length)), .dat (.list (ls.map PyData.str)), .dat (.str (sT nm)), .no, .no, .no] _
    refine vss_cons (vs_set C (by walk_at "at") (vd_bin (vd_fld C R.cl R.nD (by walk_at "at") rfl fs_done (vd_callB C (x := "len") does_lenS (by walk_at "at") (va_cons (vd_name C (by walk_at "at") rfl (va_nil ⟨_, rfl, by rw [sT_len]; omega, ?_⟩)))))))
    have e1 : ((st + nm.length : Nat) : Int) - ((sT nm).length : Int) = (st : Int) := by
      rw [sT_len]
      omega
    show VSs X _ [.own p (rowO CA ln t (st + nm.length)), .dat (.list (ls.map PyData.str)), .dat (.str (sT nm)), .dat (.int (((st + nm.length : Nat) : Int) - ((sT nm).length : Int))), .no, .no] _
    rw [e1]
    clear e1
    generalize hd1 : st + nm.length = d1 at *
    refine vss_cons (vs_set C (by walk_at "at") (vd_cutS (vd_fld C R.cl R.nT (by walk_at "at") rfl fs_text (vd_fld C R.cl R.nD (by walk_at "at") rfl fs_done ⟨_, rfl, vd_bin (vd_fld C R.cl R.nD (by walk_at "at") rfl fs_done (vd_int ?_))⟩))))
    refine ⟨sT t, _, rfl, rfl, by rw [sT_len]; omega, ?_⟩
    rw [cut2 hd']
    generalize hbh : (t.drop d1).take 2 = bh at *
    show VSs X _ [.own p (rowO CA ln t d1), .dat (.list (ls.map PyData.str)), .dat (.str (sT nm)), .dat (.int (st : Nat)), .dat (.str (sT bh)), .no] _
    have bl : bh.length ≤ 2 := by
      rw [← hbh, List.length_take]
      omega
    refine vss_cons (vs_set C (by walk_at "at") (vd_inTx (vd_name C (by walk_at "at") rfl (vd_tup (va_cons (vd_str (va_cons (vd_str (va_nil ?_)))))))))
    refine ⟨by show 2 ≤ 1000; decide, _, [(".0" : Str), (".1" : Str)], rfl, .inl rfl, ?_⟩
    rw [end_in]
    generalize hhe : hasEnd bh = he at *
    show VSs X _ [.own p (rowO CA ln t d1), .dat (.list (ls.map PyData.str)), .dat (.str (sT nm)), .dat (.int (st : Nat)), .dat (.str (sT bh)), .dat (.bool he)] _
    have hb1 : (t.drop d1).take 1 = bh.take 1 := by rw [← hbh, take_take1]
    have eU : mBr2 t ls (sT nm) st d1 = (if (decide (sT nm ∈ ls) && (!he && decide (bh.take 1 = [46]))) = true then .error (d1 + 1)
        else if decide (sT nm ∈ ls) = he then
          (if he = true then (if hOk t (d1 + 2) = true then .ok (.tuple [.str (sT nm), .int (if bh = [46, 48] then 0 else 1)], d1 + 2) else .error (d1 + 2))
            else (if hOk t d1 = true then .ok (.tuple [.str (sT nm), .int 0], d1) else .error d1))
        else .error st) := by
      unfold mBr2
      rw [hbh, hb1, hhe]
    rw [eU] at w wx
    generalize hin : decide (sT nm ∈ ls) = inl at *
    -- behind the first test
    have go : (inl && (!he && decide (bh.take 1 = [46]))) = false → VSs X ((defBody sRowReadBreaker).drop 5) [.own p (rowO CA ln t d1), .dat (.list (ls.map PyData.str)), .dat (.str (sT nm)), .dat (.int (st : Nat)), .dat (.str (sT bh)), .dat (.bool he)] (finX [.own p (rowO CA ln t d), .dat (.list (ls.map PyData.str))] W WX) := fun z => by
      rw [z] at w wx
      refine vss_cons (vs_if (vt_cmp C (vd_inTx (vd_name C (by walk_at "at") rfl (vd_name C (by walk_at "at") rfl ?_)))))
      refine ⟨_, ls, rfl, .inr rfl, vd_name C (by walk_at "at") rfl ?_⟩
      rw [hin]
      refine ⟨rfl, rfl, ?_⟩
      rw [eqv_bool]
      refine ⟨fun q => ?_, fun q => ?_⟩
      · have q1 : ¬ inl = he := by simpa using q
        refine vss_one (vs_exprE (ve_meth C R.cl FR (by walk_at "at") rfl (by walk_at "no") (vex_cons (ve_of (vd_name C (by walk_at "at") rfl (vex_nil ?_))))))
        refine ⟨⟨_, rfl⟩, rfl, ⟨⟨_, _, rfl⟩, trivial⟩, rfl, p, ln, t, d1, [.int (st : Nat)], .error st, rfl, hln, ht, hd', if_pos (by omega), fun _ _ h => (by cases h), fun at_ h d' => ?_⟩
        cases h
        exact ⟨⟨rfl, trivial⟩, wx _ (by rw [if_neg Bool.false_ne_true, if_neg q1]) d'⟩
      · have q1 : inl = he := by simpa using q
        refine vss_nil ?_
        rw [if_neg Bool.false_ne_true, if_pos q1] at w wx
        refine vss_cons (vs_if (vt_val (vd_name C (by walk_at "at") rfl ⟨_, rfl, fun y => ?_, fun y => ?_⟩)))
        · rw [if_pos y] at w wx
          subst y
          have hl2 : d1 + 2 ≤ t.length := by
            have e : bh.length = 2 := by rcases end_len2 hhe with e | e <;> rw [e] <;> rfl
            rw [← hbh, List.length_take, List.length_drop] at e
            omega
          refine vss_one (vs_fldadd C R.cl R.nD (by walk_at "at") rfl fs_done (vd_int ⟨2, _, rfl, rfl, by show 3 < 900; decide, ?_⟩))
          rw [fs_put]
          show VSs X _ [.own p (rowO CA ln t (d1 + 2)), .dat (.list (ls.map PyData.str)), .dat (.str (sT nm)), .dat (.int (st : Nat)), .dat (.str (sT bh)), .dat (.bool true)] _
          refine vss_cons (vs_exprE (ve_meth0 C R.cl FF (by walk_at "at") rfl (by walk_at "no") ⟨p, ln, t, d1 + 2, [], _, rfl, hln, ht, hl2, rfl, fun v3 d4 h3 hd4 => ?_, fun at_ h3 d4 => ?_⟩))
          · obtain ⟨h4, rfl, rfl⟩ := mFin_ok h3
            refine vss_one (vs_ret (vd_if (vt_val (vd_name C (by walk_at "at") rfl ⟨true, rfl, fun _ => ?_, fun z => (by cases z)⟩))))
            refine vd_tup (va_cons (vd_name C (by walk_at "at") rfl (va_cons (vd_callT C (x := "int") does_intS (by walk_at "at") (va_cons (vd_ixS (vd_name C (by walk_at "at") rfl (vd_int ?_))))))))
            rcases end_len2 hhe with e | e
            · subst e
              refine ⟨sT [46, 48], 1, 48, rfl, rfl, by rw [sT_len]; omega, by rw [sT_list]; exact atI_nat (j := 1) rfl, va_nil ⟨_, 0, rfl, int0, by show 1 ≤ 640; decide, va_nil ⟨by show 2 ≤ 1000; decide, ⟨rfl, trivial⟩, ?_⟩⟩⟩
              exact w _ _ (by rw [if_pos h4, if_pos rfl]) hl2
            · subst e
              refine ⟨sT [46, 49], 1, 49, rfl, rfl, by rw [sT_len]; omega, by rw [sT_list]; exact atI_nat (j := 1) rfl, va_nil ⟨_, 1, rfl, int1, by show 1 ≤ 640; decide, va_nil ⟨by show 2 ≤ 1000; decide, ⟨rfl, trivial⟩, ?_⟩⟩⟩
              exact w _ _ (by rw [if_pos h4, if_neg (by decide)]) hl2
          · obtain ⟨h4, rfl⟩ := mFin_err h3
            exact ⟨⟨rfl, trivial⟩, wx _ (by rw [if_neg h4]) d4⟩
        · rw [if_neg (by rw [y]; decide)] at w wx
          subst y
          refine vss_nil ?_
          refine vss_cons (vs_exprE (ve_meth0 C R.cl FF (by walk_at "at") rfl (by walk_at "no") ⟨p, ln, t, d1, [], _, rfl, hln, ht, hd', rfl, fun v3 d4 h3 hd4 => ?_, fun at_ h3 d4 => ?_⟩))
          · obtain ⟨h4, rfl, rfl⟩ := mFin_ok h3
            refine vss_one (vs_ret (vd_if (vt_val (vd_name C (by walk_at "at") rfl ⟨false, rfl, fun z => (by cases z), fun _ => ?_⟩))))
            refine vd_tup (va_cons (vd_name C (by walk_at "at") rfl (va_cons (vd_int (va_nil ⟨by show 2 ≤ 1000; decide, ⟨rfl, trivial⟩, ?_⟩)))))
            exact w _ _ (by rw [if_pos h4]) hd'
          · obtain ⟨h4, rfl⟩ := mFin_err h3
            exact ⟨⟨rfl, trivial⟩, wx _ (by rw [if_neg h4]) d4⟩
    refine vss_cons (vs_if (vt_w (vw_and (vt_inTx (vd_name C (by walk_at "at") rfl (vd_name C (by walk_at "at") rfl ?_))))))
    refine ⟨_, ls, rfl, .inr rfl, ?_⟩
    rw [hin]
    refine ⟨fun q => vw_and (vt_not (vt_val (vd_name C (by walk_at "at") rfl ⟨_, rfl, fun q2 => ?_, fun q2 => ⟨fun z => (by cases z), fun _ => vss_nil (go (by rw [q2, Bool.false_and, Bool.and_false]))⟩⟩))), fun q => ⟨fun z => (by cases z), fun _ => vss_nil (go (by rw [q, Bool.false_and]))⟩⟩
    refine vw_and1 (vt_eqS (vd_cutSo (vd_name C (by walk_at "at") rfl (vd_int ?_))))
    refine ⟨sT bh, 1, rfl, rfl, by rw [sT_len]; omega, vd_str ?_⟩
    have ec : cutS (sT bh) none (some 1) = sT (bh.take 1) := cut_sTo (j := 1)
    rw [ec]
    have ed : decide (sT (bh.take 1) = ("." : Str)) = decide (bh.take 1 = [46]) := by
      by_cases z : bh.take 1 = [46]
      · rw [decide_eq_true z, decide_eq_true (dot_eq.mpr z)]
      · rw [decide_eq_false z, decide_eq_false fun y => z (dot_eq.mp y)]
    refine ⟨_, _, rfl, rfl, fun z => ?_, fun z => ?_⟩
    · rw [ed] at z
      have all : (inl && (!he && decide (bh.take 1 = [46]))) = true := by rw [q, q2, z]; rfl
      refine vss_one (vs_exprE (ve_meth C R.cl FR (by walk_at "at") rfl (by walk_at "no") (vex_cons (ve_of (vd_bin (vd_fld C R.cl R.nD (by walk_at "at") rfl fs_done (vd_int (vex_nil ?_))))))))
      refine ⟨⟨_, rfl⟩, rfl, ⟨⟨_, _, rfl⟩, trivial⟩, rfl, p, ln, t, d1, [.int ((d1 + 1 : Nat) : Int)], .error (d1 + 1), rfl, hln, ht, hd', if_pos (by omega), fun _ _ h => (by cases h), fun at_ h d' => ?_⟩
      cases h
      exact ⟨⟨rfl, trivial⟩, wx _ (by rw [if_pos all]) d'⟩
    · rw [ed] at z
      exact vss_nil (go (by rw [z, Bool.and_false, Bool.and_false]))
  · exact ⟨⟨rfl, trivial⟩, wx _ (by
      unfold mBreaker mBare at *
      split at h
      · rename_i q
        cases h
        rw [if_pos q]
      · split at h
        · cases h
        · rename_i q1 q2
          cases h
          rw [if_neg q1, if_neg q2]) d'⟩

end K7

/-! Vc, part dE: things beside the slots; new things of one's own as values; lists of them. -/
namespace Vc
open PySem PySem.Spec PyProof.Rows L2
open Evl (Ex)

/-- things beside the slots, by their addresses -/
abbrev Sd := List (Addr × OD)
abbrev Sd.as (L : Sd) : List Addr := L.map (·.1)
structure SdOk (K : Kw) (B H : Hp) (ρ : En) (L : Sd) : Prop where
  nd : L.as.Nodup
  at_ : ∀ a o, (a, o) ∈ L → B a = none ∧ ¬ Own ρ a ∧ ∃ u, H a = some u ∧ OD.is K B a u o
theorem SdOk.nil {K : Kw} {B H : Hp} {ρ : En} : SdOk K B H ρ [] := ⟨List.nodup_nil, fun a o h => by cases h⟩
theorem SdOk.of {K : Kw} {B H : Hp} {ρ : En} {L : Sd} (s : SdOk K B H ρ L) {a : Addr} (h : a ∈ L.as) : ∃ o, (a, o) ∈ L ∧ B a = none ∧ ¬ Own ρ a ∧ ∃ u, H a = some u ∧ OD.is K B a u o := by
  obtain ⟨⟨b, o⟩, h1, rfl⟩ := List.mem_map.mp h
  exact ⟨o, h1, s.at_ b o h1⟩
/-- what is done to slots alone leaves them -/
theorem SdOk.go {K : Kw} {B H B' H' : Hp} {ρ ρ' : En} {L : Sd} (s : SdOk K B H ρ L) (g : Go B H ρ B' H' ρ') : SdOk K B' H' ρ' L := ⟨s.nd, fun a o h => by
  obtain ⟨h1, h2, u, h3, h4⟩ := s.at_ a o h
  have hne : H a ≠ none := fun z => by rw [h3] at z; cases z
  exact ⟨g.out a hne h1 h2, fun z => (g.own a z).elim h2 hne, u, g.keep a u h3 h2, OD.mono g.ex h4⟩⟩
def OwnL (ρ : En) (L : Sd) (a : Addr) : Prop := Own ρ a ∨ a ∈ L.as
/-- from (B, H, ρ, L) to (B', H', ρ', L') -/
structure Go2 (B H : Hp) (ρ : En) (L : Sd) (B' H' : Hp) (ρ' : En) (L' : Sd) : Prop where
  ex : Ex B B'
  keep : ∀ a o, H a = some o → ¬ OwnL ρ L a → H' a = some o
  out : ∀ a, H a ≠ none → B a = none → ¬ OwnL ρ L a → B' a = none
  own : ∀ a, OwnL ρ' L' a → OwnL ρ L a ∨ H a = none
  dom : ∀ a, H' a = none → H a = none
theorem Go2.refl {B H : Hp} {ρ : En} {L : Sd} : Go2 B H ρ L B H ρ L := ⟨Evl.Ex.refl B, fun _ _ h _ => h, fun _ _ h _ => h, fun _ h => .inl h, fun _ h => h⟩
theorem Go2.trans {B H B1 H1 B2 H2 : Hp} {ρ ρ1 ρ2 : En} {L L1 L2 : Sd} (p : Go2 B H ρ L B1 H1 ρ1 L1) (q : Go2 B1 H1 ρ1 L1 B2 H2 ρ2 L2) : Go2 B H ρ L B2 H2 ρ2 L2 where
  ex := p.ex.trans q.ex
  keep := fun a o h n => q.keep a o (p.keep a o h n) fun z => (p.own a z).elim n fun e => by rw [e] at h; cases h
  out := fun a h b n => by
    obtain ⟨o, ho⟩ := Option.ne_none_iff_exists'.mp h
    refine q.out a ?_ (p.out a h b n) fun z => (p.own a z).elim n fun e => h e
    rw [p.keep a o ho n]
    exact fun z => by cases z
  own := fun a z => by
    rcases q.own a z with z | z
    · exact p.own a z
    · exact .inr (p.dom a z)
  dom := fun a z => p.dom a (q.dom a z)
theorem Go.two {B H B' H' : Hp} {ρ ρ' : En} {L : Sd} (g : Go B H ρ B' H' ρ') : Go2 B H ρ L B' H' ρ' L := ⟨g.ex, fun a o h n => g.keep a o h fun z => n (.inl z), fun a h b n => g.out a h b fun z => n (.inl z), fun a z => by
  rcases z with z | z
  · exact (g.own a z).imp .inl id
  · exact .inl (.inr z), g.dom⟩
/-- at the end the things beside are let go -/
theorem Go2.one {B H B' H' : Hp} {ρ ρ' : En} {L' : Sd} (g : Go2 B H ρ [] B' H' ρ' L') : Go B H ρ B' H' ρ' := ⟨g.ex, fun a o h n => g.keep a o h fun z => z.elim n fun y => (by cases y), fun a h b n => g.out a h b fun z => z.elim n fun y => (by cases y), fun a z => (g.own a (.inl z)).imp (fun z => z.elim id fun y => (by cases y)) id, g.dom⟩

/-! ### a new thing of one's own as a value -/
structure VO (X : Cx) (e : Expr) (ρ : En) (P : OD → En → Prop) : Prop where
  run : ∀ B H σ (Q : VK), Rel (kwOf X) B H σ ρ →
  (∀ p u o B' H' ρ', P o ρ' → H p = none → H' p = some u → B' p = none → ¬ Own ρ' p → OD.is (kwOf X) B' p u o → Go B H ρ B' H' ρ' → Rel (kwOf X) B' H' σ ρ' → Q (.ref p) H') → eSem X e σ H Q
/-- a new list of new things of one's own -/
structure VL (X : Cx) (e : Expr) (ρ : En) (P : List OD → En → Prop) : Prop where
  run : ∀ B H σ (Q : VK), Rel (kwOf X) B H σ ρ →
  (∀ p (L : Sd) B' H' ρ', P (L.map (·.2)) ρ' → H p = none → (∀ a ∈ L.as, H a = none) → p ∉ L.as → H' p = some (.lst (L.as.map V.ref)) → B' p = none → ¬ Own ρ' p → SdOk (kwOf X) B' H' ρ' L → Go B H ρ B' H' ρ' → Rel (kwOf X) B' H' σ ρ' → Q (.ref p) H') → eSem X e σ H Q
section
variable {X : Cx} {M : Md} {sc : Scope} {NK : List (Str × Bool × Bool)} {G : List Str} {k : Nat} {ρ : En} {P : OD → En → Prop} {PL : List OD → En → Prop} {PD : D → En → Prop} {pos : Pos} {a b e tg : Expr} {es : List Expr} {x : Str}
/-- C(..), by what __init__ does with slots (itself the first, without attributes) -/
theorem vo_make (C : Cst X M sc NK G k) {j n i : Nat} {S : SX} {CA f : Addr} {fd : FuncData} {ps : List Str} {p : Pos} (Mk0 : Mk M.K CA f) (Fo : FnOk M.prog M.w M.K M.mg M.base (L2.CX M.prog M.w) j f fd ps (DSx (kwM M) n S)) (hb : Binds M.K fd ps []) (hg : At G i x) (hm : M.mg x = some (.ref CA))
    (h : VA X (e :: es) ρ fun ds ρ1 => ds.length + 1 = n ∧ ∀ z, S (.own z (.ob CA []) :: ds.map Sl.dat) (fun d as' => ∃ o, as'[0]? = some (.own z o) ∧ (∀ s ∈ as'.drop 1, ∀ q o, s ≠ .own q o) ∧ d = .none ∧ P o ρ1) (fun _ _ => False)) (hj : j + 1 ≤ k := by decide)
    (hdb : (x == ("__debug__" : Str)) = false := by decide) (he : starEach (e :: es) X.env = (false, eval e X.env) :: starEach es X.env := by rfl) (hpl : (backTo pos (starEach es X.env)).any (·.1) = false := by rfl) : VO X (.Call (.Name x p) (e :: es) [] pos) ρ P := ⟨fun B H σ Q r q => by
  have eM := C.m
  subst eM
  refine PE.sem (pe_make (E := E0) Mk0 Fo (C.room.mono hj) (C.g hg) hm hb .nil passL pa_sem hdb he hpl) ?_
  refine h.run B H σ _ r fun vs ds B1 H1 ρ1 ⟨hn, hS⟩ dvs g1 r1 z dz hz hdz hne => ?_
  show DSx (kwOf X) n S (.ref z :: (vs ++ [])) _ _ _
  rw [List.append_nil]
  have bz : B1 z = none := by
    cases e : B1 z with
    | none => rfl
    | some u =>
      rw [r1.ex z u e] at hz
      cases hz
  have bdz : B1 dz = none := by
    cases e : B1 dz with
    | none => rfl
    | some u =>
      rw [r1.ex dz u e] at hdz
      cases hdz
  have e2 : Ex H1 (upd (upd H1 dz (.own z)) z (.ins CA dz [])) := (Evl.Ex.new hdz).trans (Evl.Ex.new (by rw [upd_ne (Ne.symm hne)]; exact hz))
  have hzz : (upd (upd H1 dz (.own z)) z (.ins CA dz [])) z = some (.ins CA dz []) := upd_same
  have r2 : Rel (kwOf X) B1 (upd (upd H1 dz (.own z)) z (.ins CA dz [])) ((.ref z :: vs).map some) (.own z (.ob CA []) :: ds.map Sl.dat) := by
    refine ⟨r1.ex.trans e2, ?_, fun i d hi => ?_, fun i q o hi => ?_, fun i j q o o' hi hj => ?_⟩
    · simp only [List.length_cons, List.length_map, DpAll.len dvs]
    · cases i with
      | zero => cases hi
      | succ i =>
        rw [List.getElem?_cons_succ, List.getElem?_map] at hi
        cases ei : ds[i]? with
        | none =>
          rw [ei] at hi
          cases hi
        | some d0 =>
          rw [ei] at hi
          cases hi
          obtain ⟨v, h1, h2⟩ := DpAll.get dvs ei
          exact ⟨v, by rw [List.map_cons, List.getElem?_cons_succ, List.getElem?_map, h1]; rfl, h2⟩
    · cases i with
      | zero =>
        cases hi
        exact ⟨rfl, bz, _, hzz, dz, [], .nil, rfl⟩
      | succ i =>
        rw [List.getElem?_cons_succ, List.getElem?_map] at hi
        cases ei : ds[i]? with
        | none =>
          rw [ei] at hi
          cases hi
        | some d0 =>
          rw [ei] at hi
          cases hi
    · have zero : ∀ (i : Nat) q o, (Sl.own z (.ob CA []) :: ds.map Sl.dat)[i]? = some (.own q o) → i = 0 := fun i q o hi => by
        cases i with
        | zero => rfl
        | succ i =>
          rw [List.getElem?_cons_succ, List.getElem?_map] at hi
          cases ei : ds[i]? with
          | none =>
            rw [ei] at hi
            cases hi
          | some d0 =>
            rw [ei] at hi
            cases hi
      rw [zero i q o hi, zero j q o' hj]
  have own0 : ∀ {q : Addr}, Own (.own z (.ob CA []) :: ds.map Sl.dat) q → q = z := fun {q} ⟨i, o, hi⟩ => by
    cases i with
    | zero =>
      cases hi
      rfl
    | succ i =>
      rw [List.getElem?_cons_succ, List.getElem?_map] at hi
      cases ei : ds[i]? with
      | none =>
        rw [ei] at hi
        cases hi
      | some d0 =>
        rw [ei] at hi
        cases hi
  refine ⟨B1, _, _, _, r2, by rw [List.length_cons, List.length_map]; exact hn, hS z, fun v d B2 H2 as' w u dv g2 r3 => ?_, fun _ _ _ _ _ w _ _ _ _ => w.elim⟩
  obtain ⟨o, ho, hno, rfl, pp⟩ := w
  refine ⟨(by cases dv; rfl), ?_⟩
  obtain ⟨_, b2, u2, hu2, ho2⟩ := r3.own 0 z o ho
  have nz1 : ¬ Own ρ1 z := not_own r1 hz
  have ne2 : ∀ {q : Addr} {v : HO}, H1 q = some v → q ≠ z := fun {q v} hq e => by
    rw [e, hz] at hq
    cases hq
  have nd2 : ∀ {q : Addr} {v : HO}, H1 q = some v → q ≠ dz := fun {q v} hq e => by
    rw [e, hdz] at hq
    cases hq
  have keep2 : ∀ q v, H1 q = some v → H2 q = some v := fun q v hq => g2.keep q v (e2 q v hq) fun y => ne2 hq (own0 y)
  have g3 : Go B1 H1 ρ1 B2 H2 ρ1 := Go.grow g2.ex keep2 fun q h1 h2 => by
    obtain ⟨v, hv⟩ := Option.ne_none_iff_exists'.mp h1
    refine g2.out q ?_ h2 fun y => ne2 hv (own0 y)
    rw [e2 q v hv]
    exact fun y => by cases y
  have r4 : Rel (kwOf X) B2 H2 σ ρ1 := r1.grow g2.ex r3.ex keep2 fun q h1 h2 => by
    obtain ⟨v, hv⟩ := Option.ne_none_iff_exists'.mp h1
    refine g2.out q ?_ h2 fun y => ne2 hv (own0 y)
    rw [e2 q v hv]
    exact fun y => by cases y
  exact q z u2 o B2 H2 ρ1 pp (g1.dom z hz) hu2 b2 nz1 ho2 (g1.trans g3) r4⟩
def uSemV (X : Cx) (scope : Scope) (e : Expr) : TE := uSem X scope e
/-- what a comprehension over pairs asks whose items are new things of one's own -/
theorem lc_read2O {B H : Hp} {σ : L2.St} {Q : VK} {scope : Scope} {i1 i2 : Nat} {elt iter : Expr} {Cb : Cx → Prop} (ne : i1 ≠ i2) (r : Rel (kwOf X) B H σ ρ)
    (cb : ∀ (s : Shared) (H : Hp) (Ca : Addr) (cl : List (Str × Addr)) (fp : List Addr), Cb (X.blk s H scope (compEnvC scope cl Ca X.env) fp))
    (h : VP X tg iter ρ fun ds ρ1 => ds.length ≤ 100000 ∧ ∃ W : Nat → List OD → En → Prop, W 0 [] ρ1 ∧
      (∀ (j : Nat) d1 d2 acc ρ', ds[j]? = some (d1, d2) → W j acc ρ' → ∀ X', Cb X' → VO X' elt ((ρ'.set i1 (.dat d1)).set i2 (.dat d2)) fun u ρ4 => W (j + 1) (acc ++ [u]) ((ρ4.set i1 .no).set i2 .no)) ∧
      ∀ acc ρ', W ds.length acc ρ' → PL acc ρ')
    (q : ∀ p (L : Sd) B' H' ρ', PL (L.map (·.2)) ρ' → H p = none → (∀ a ∈ L.as, H a = none) → p ∉ L.as → H' p = some (.lst (L.as.map V.ref)) → B' p = none → ¬ Own ρ' p → SdOk (kwOf X) B' H' ρ' L → Go B H ρ B' H' ρ' → Rel (kwOf X) B' H' σ ρ' → Q (.ref p) H') :
    tLc (iSemI X tg iter) (gTup X.K 2 (t2 i1 i2)) tYes (uSem X scope elt) [i1, i2] σ H Q := by
  refine h.run B H σ _ r fun J ds B1 H1 ρ1 p1 yl g1 r1 Dl hD => ?_
  obtain ⟨hlen, W, w0, step, done⟩ := p1
  have bD : B1 Dl = none := by
    cases e : B1 Dl with
    | none => rfl
    | some u =>
      rw [r1.ex Dl u e] at hD
      cases hD
  have nD : ¬ Own ρ1 Dl := not_own r1 hD
  refine ⟨fun j m H' => m = ds.length - j ∧ j ≤ ds.length ∧ ∃ (L : Sd) (B' : Hp) (ρ' : En), W j (L.map (·.2)) ρ' ∧ L.length = j ∧ H' Dl = some (.lst (L.as.map V.ref)) ∧ B' Dl = none ∧ ¬ Own ρ' Dl ∧ Dl ∉ L.as ∧ (∀ a ∈ L.as, H1 a = none) ∧ SdOk (kwOf X) B' H' ρ' L ∧ Go B1 H1 ρ1 B' H' ρ' ∧ Rel (kwOf X) B' H' σ ρ',
    ⟨ds.length, by omega, by omega, [], B1, ρ1, w0, rfl, upd_same, bD, nD, (by simp), (fun a h => by cases h), SdOk.nil, (acc_put Go.refl r1 hD bD nD).1, (acc_put Go.refl r1 hD bD nD).2⟩, ?_⟩
  rintro j m H' ⟨rfl, hj, L, B', ρ', w, hacc, hl, bl, nl, dl, fl, sd, g, r'⟩
  obtain ⟨y1, y2⟩ := yl j B' H' g.ex r'.ex
  by_cases hlt : j < ds.length
  · obtain ⟨go, yy⟩ := y1 hlt
    refine .inr ⟨go, fun H2 => ∃ (L : Sd) (B' : Hp) (ρ' : En), W (j + 1) (L.map (·.2)) ρ' ∧ L.length = j + 1 ∧ H2 Dl = some (.lst (L.as.map V.ref)) ∧ B' Dl = none ∧ ¬ Own ρ' Dl ∧ Dl ∉ L.as ∧ (∀ a ∈ L.as, H1 a = none) ∧ SdOk (kwOf X) B' H2 ρ' L ∧ Go B1 H1 ρ1 B' H2 ρ' ∧ Rel (kwOf X) B' H2 σ ρ', fun H2 hN2 => ⟨ds.length - (j + 1), by omega, rfl, hlt, hN2⟩, fun x H2 hy2 => ?_⟩
    obtain ⟨T, x1, x2, d1, d2, rfl, alt, hd, dx1, dx2⟩ := yy x H2 hy2
    have st := step j d1 d2 _ ρ' hd w
    obtain ⟨B2, r2, g2, sq, hl2, bl2⟩ : ∃ B2, Rel (kwOf X) B2 H2 σ ρ' ∧ Go B' H' ρ' B2 H2 ρ' ∧ SqT X.K B2 T [x1, x2] ∧ H2 Dl = some (.lst (L.as.map V.ref)) ∧ B2 Dl = none := by
      rcases alt with ⟨rfl, sq⟩ | ⟨hT, rfl⟩
      · exact ⟨B', r', Go.refl, sq, hl, bl⟩
      · obtain ⟨r2, g2⟩ := new_both (o := .tup [x1, x2]) r' hT
        have nT : Dl ≠ T := fun e => by
          rw [e, hT] at hl
          cases hl
        exact ⟨_, r2, g2, .inl (.inl upd_same), by rw [upd_ne nT]; exact hl, by rw [upd_ne nT]; exact bl⟩
    have dy1 := Dp.mono g2.ex dx1
    have dy2 := Dp.mono g2.ex dx2
    refine ⟨T, [x1, x2], rfl, ex_t r2.ex sq, rfl, x1, x2, rfl, ?_⟩
    have rw1 : Rel (kwOf X) B2 H2 (((wipe σ [i1, i2]).set i1 (some x1)).set i2 (some x2)) ((ρ'.set i1 (.dat d1)).set i2 (.dat d2)) := by
      have a1 : Rel (kwOf X) B2 H2 (σ.set i2 none) (ρ'.set i2 .no) := rel_no r2 (by rw [List.set_set])
      have a2 : Rel (kwOf X) B2 H2 ((σ.set i2 none).set i1 none) ((ρ'.set i2 .no).set i1 .no) := rel_no a1 (by rw [List.set_set])
      have a3 := rel_set (i := i2) (rel_set (i := i1) a2 dy1) dy2
      have e3 : ((((ρ'.set i2 Sl.no).set i1 Sl.no).set i1 (Sl.dat d1)).set i2 (Sl.dat d2)) = (ρ'.set i1 (.dat d1)).set i2 (.dat d2) := by
        rw [List.set_set, List.set_comm _ _ ne, List.set_set, List.set_comm _ _ ne]
      rw [e3] at a3
      exact a3
    refine ⟨set_none2 ne, fun s0 H0 Ca cl fp => ?_⟩
    have vd := st _ (cb s0 H0 Ca cl fp)
    refine vd.run B2 H2 _ _ rw1 fun p u o B4 H4 ρ4 p4 hp hu bp np iso g4 r4 => ?_
    have gB : Go B' H' ρ' B4 H4 ρ4 := ((g2.trans go_set).trans go_set).trans g4
    have gA : Go B1 H1 ρ1 B4 H4 ρ4 := g.trans gB
    have nl2 : ¬ Own ((ρ'.set i1 (.dat d1)).set i2 (.dat d2)) Dl := fun z => nl (own_set (own_set z))
    have hD4 : H4 Dl = some (.lst (L.as.map V.ref)) := g4.keep Dl _ hl2 nl2
    have bD4 : B4 Dl = none := g4.out Dl (by rw [hl2]; exact fun z => by cases z) bl2 nl2
    have nD4 : ¬ Own ρ4 Dl := fun z => (g4.own Dl z).elim nl2 fun e => by rw [hl2] at e; cases e
    have pD : p ≠ Dl := fun e => by
      rw [e, hl2] at hp
      cases hp
    have hpH' : H' p = none := g2.dom p hp
    have pL : p ∉ L.as := fun z => by
      obtain ⟨o', _, _, _, u', h6, _⟩ := sd.of z
      rw [hpH'] at h6
      cases h6
    have rS : Rel (kwOf X) B4 H4 σ ((ρ4.set i1 .no).set i2 .no) := by
      have a1 : Rel (kwOf X) B4 H4 (σ.set i2 (some x2)) (ρ4.set i1 .no) := rel_no r4 (by
        show ((((σ.set i2 none).set i1 none).set i1 (some x1)).set i2 (some x2)).set i1 none = (σ.set i2 (some x2)).set i1 none
        rw [List.set_set, List.set_comm _ _ ne.symm, List.set_set, List.set_comm _ _ ne, List.set_set])
      exact rel_no a1 (by rw [List.set_set])
    have gS : Go B1 H1 ρ1 B4 H4 ((ρ4.set i1 .no).set i2 .no) := (gA.trans go_no).trans go_no
    have nS : ¬ Own ((ρ4.set i1 .no).set i2 .no) Dl := fun z => nD4 (own_no (own_no z))
    have npS : ¬ Own ((ρ4.set i1 .no).set i2 .no) p := fun z => np (own_no (own_no z))
    obtain ⟨gF, rF⟩ := acc_put (o := .lst ((L.as.map V.ref) ++ [.ref p])) gS rS hD bD4 nS
    have sd4 : SdOk (kwOf X) B4 H4 ((ρ4.set i1 .no).set i2 .no) L := ((sd.go gB).go go_no).go go_no
    have eas : Sd.as (L ++ [(p, o)]) = L.as ++ [p] := by simp [Sd.as]
    refine ⟨L.as.map V.ref, hD4, ?_, L ++ [(p, o)], B4, (ρ4.set i1 .no).set i2 .no, ?_, by rw [List.length_append, hacc]; rfl, ?_, bD4, nS, ?_, ?_, ⟨?_, ?_⟩, gF, rF⟩
    · rw [List.length_map, List.length_map, hacc]
      exact Nat.lt_of_lt_of_le hlt (Nat.le_trans hlen (by decide))
    · rw [List.map_append]
      exact p4
    · rw [eas, List.map_append]
      exact upd_same
    · rw [eas]
      intro z
      rcases List.mem_append.mp z with z | z
      · exact dl z
      · exact pD (List.mem_singleton.mp z).symm
    · rw [eas]
      intro a z
      rcases List.mem_append.mp z with z | z
      · exact fl a z
      · rw [List.mem_singleton.mp z]
        exact g.dom p hpH'
    · rw [eas, List.nodup_append]
      exact ⟨sd.nd, by simp, fun a ha b hb => by
        rw [List.mem_singleton.mp hb]
        exact fun e => pL (e ▸ ha)⟩
    · intro a' o' z
      rcases List.mem_append.mp z with z | z
      · obtain ⟨h1, h2, u', h3, h4⟩ := sd4.at_ a' o' z
        refine ⟨h1, h2, u', ?_, h4⟩
        rw [upd_ne (fun e => dl (by rw [← e]; exact List.mem_map.mpr ⟨_, z, rfl⟩))]
        exact h3
      · cases List.mem_singleton.mp z
        exact ⟨bp, npS, u, by rw [upd_ne pD]; exact hu, iso⟩
  · have e : j = ds.length := by omega
    subst e
    exact .inl ⟨y2 (Nat.le_refl _), q Dl L B' H' ρ' (done _ ρ' w) (g1.dom Dl hD) (fun a z => g1.dom a (fl a z)) dl hl bl nl sd (g1.trans g) r'⟩
/-- [elt for y1, y2 in iter], new things of one's own -/
theorem vl_lc2 (C : Cst X M sc NK G k) {scope : Scope} {i1 i2 : Nat} {y1 y2 : Str} {p1 p2 tpos : Pos} {kk : Nat} {elt iter : Expr} {v1 v2 : Bool} (NK' : List (Str × Bool × Bool)) (G' : List Str) (h1 : At NK' i1 (y1, v1, true)) (h2 : At NK' i2 (y2, v2, true)) (ne : i1 ≠ i2)
    (h : VP X (.Tuple [.Name y1 p1, .Name y2 p2] kk tpos) iter ρ fun ds ρ1 => ds.length ≤ 100000 ∧ ∃ W : Nat → List OD → En → Prop, W 0 [] ρ1 ∧
      (∀ (j : Nat) d1 d2 acc ρ', ds[j]? = some (d1, d2) → W j acc ρ' → ∀ X', Cst X' M (relS scope sc) NK' G' k → VO X' elt ((ρ'.set i1 (.dat d1)).set i2 (.dat d2)) fun u ρ4 => W (j + 1) (acc ++ [u]) ((ρ4.set i1 .no).set i2 .no)) ∧
      ∀ acc ρ', W ds.length acc ρ' → PL acc ρ')
    (ok : blkC (NK.map (·.1)) sc scope [(y1, i1), (y2, i2)] = true := by decide +kernel) (hN : NK'.map (·.1) = NK.map (·.1) := by rfl) (hc : chk (relS scope sc) false NK' G' = true := by decide +kernel)
    (hs : ∀ x, foldedSetIterable iter X.env x = pure x := by intro _; rfl) : VL X (.ListComp elt [⟨.Tuple [.Name y1 p1, .Name y2 p2] kk tpos, iter, [], 0⟩] scope pos) ρ PL := ⟨fun B H σ Q r q => by
  have ok' : BlkOk X.N X.env.scope scope [(y1, i1), (y2, i2)] := by
    rw [C.n, C.s]
    exact blkOk_by ok
  have cb : ∀ (s : Shared) (H : Hp) (Ca : Addr) (cl : List (Str × Addr)) (fp : List Addr), Cst (X.blk s H scope (compEnvC scope cl Ca X.env) fp) M (relS scope sc) NK' G' k := fun s H Ca cl fp => cst_blk C hN hc
  have tg2 : ∀ (s : Shared) (H : Hp) (Ca : Addr) (cl : List (Str × Addr)) (fp : List Addr), PG (X.blk s H scope (compEnvC scope cl Ca X.env) fp) (.Tuple [.Name y1 p1, .Name y2 p2] kk tpos) (gTup X.K 2 (t2 i1 i2)) := fun s H Ca cl fp => by
    have c := cb s H Ca cl fp
    refine pg_tup C.calm ⟨fun pins s' σ' H' vs us Q' I rv hh => ?_⟩
    obtain ⟨v, w, rfl, qq⟩ := hh
    exact (pgs_cons (pg_name c.nd (c.ix h1) (c.lo h1) (c.fn h1)) (pgs_cons (pg_name c.nd (c.ix h2) (c.lo h2) (c.fn h2)) pgs_nil)).run pins s' σ' H' [v, w] us Q' I rv ⟨v, [w], rfl, w, [], rfl, rfl, qq⟩
  exact PE.sem (pe_lc (g := gTup X.K 2 (t2 i1 i2)) (tt := tYes) C.calm C.nd pi_sem ok' tg2 (fun _ _ _ _ _ => pts_nil) pe_uSem hs)
    (lc_read2O (Cb := fun X' => Cst X' M (relS scope sc) NK' G' k) ne r cb h q)⟩
/-- a.partition(b) -/
theorem vd_part {ap : Pos} (h : VD X a ρ fun x ρ1 => ∃ z : Str, x = .str z ∧ VD X b ρ1 fun y ρ2 => ∃ w : Str, y = .str w ∧ (w.length == 0) = false ∧ z.length ≤ 100000 ∧ PD (.tuple [.str (Txt.partition z w).1, .str (Txt.partition z w).2.1, .str (Txt.partition z w).2.2]) ρ2)
    (hs : starEach [b] X.env = [(false, eval b X.env)] := by rfl) (hbase : attributeBase a "partition" X.env (eval a X.env) = eval a X.env := by rfl) (hline : (ap.endLine == pos.line) = true := by rfl) : VD X (.Call (.Attribute a "partition" ap) [b] [] pos) ρ PD := VD.mk fun B H σ Q r q => by
  refine PE.sem (pe_partition pe_sem pe_sem hs hbase hline) ?_
  refine h.run B H σ _ r fun vx x B1 H1 ρ1 p1 dx g1 r1 => ?_
  obtain ⟨z, rfl, p1⟩ := p1
  refine ⟨⟨z, dp_str dx⟩, ?_⟩
  refine p1.run B1 H1 σ _ r1 fun vy y B2 H2 ρ2 p2 dy g2 r2 => ?_
  obtain ⟨w, rfl, hw, hz, pp⟩ := p2
  have sl := sizeLine_eq
  refine ⟨z, w, dp_str dx, by rw [dp_str dy], hw, by omega, fun p hp => ?_⟩
  obtain ⟨r3, g3⟩ := new_both (o := .tup [.str (Txt.partition z w).1, .str (Txt.partition z w).2.1, .str (Txt.partition z w).2.2]) r2 hp
  exact q _ _ _ _ ρ2 pp (.tup (.inl (.inl upd_same)) (.cons (.str _) (.cons (.str _) (.cons (.str _) .nil)))) ((g1.trans g2).trans g3) r3
/-- a.split(b) -/
theorem vn_split {PN : List D → En → Prop} {ap : Pos} (h : VD X a ρ fun x ρ1 => ∃ z : Str, x = .str z ∧ VD X b ρ1 fun y ρ2 => ∃ w : Str, y = .str w ∧ (w.length == 0) = false ∧ z.length ≤ 100000 ∧ PN ((Txt.split z w).map PyData.str) ρ2)
    (hs : starEach [b] X.env = [(false, eval b X.env)] := by rfl) (hbase : attributeBase a "split" X.env (eval a X.env) = eval a X.env := by rfl) (hline : (ap.endLine == pos.line) = true := by rfl) : VN X (.Call (.Attribute a "split" ap) [b] [] pos) ρ PN := VN.mk fun B H σ Q r q => by
  refine PE.sem (pe_split pe_sem pe_sem hs hbase hline) ?_
  refine h.run B H σ _ r fun vx x B1 H1 ρ1 p1 dx g1 r1 => ?_
  obtain ⟨z, rfl, p1⟩ := p1
  refine ⟨⟨z, dp_str dx⟩, ?_⟩
  refine p1.run B1 H1 σ _ r1 fun vy y B2 H2 ρ2 p2 dy g2 r2 => ?_
  obtain ⟨w, rfl, hw, hz, pp⟩ := p2
  have sl := sizeLine_eq
  refine ⟨z, w, dp_str dx, by rw [dp_str dy], hw, by omega, fun p hp => ?_⟩
  obtain ⟨r3, g3, bp⟩ := new_one (o := .lst ((Txt.split z w).map V.str)) r2 hp
  have dps : ∀ (B : Hp) (l : List Str), DpAll X.K B (l.map V.str) (l.map PyData.str) := fun B l => by
    induction l with
    | nil => exact .nil
    | cons y l ih => exact .cons (.str y) ih
  exact q p _ _ _ _ ρ2 pp ((g1.trans g2).dom p hp) upd_same bp (not_own r2 hp) (dps _ _) ((g1.trans g2).trans g3) r3
end
end Vc

namespace K7
open PySem PySem.Spec PyProof.Rows L2 Vc
local macro_rules | `(tactic| walk_at "at") => `(tactic| (repeat (first | with_reducible exact At.here | apply At.there)))
local macro_rules | `(tactic| walk_at "v") => `(tactic| first
  | refine vd_bin ?_
  | (refine vd_name (by assumption) (by walk_at "at") rfl ?_)
  | refine vd_int ?_
  | refine vd_bool ?_
  | refine vd_none ?_
  | refine vd_str ?_
  | refine vd_if ?_
  | (refine vd_neg ?_)
  | refine vd_tup ?_
  | refine va_nil ?_
  | refine va_cons ?_
  | refine vs_ret ?_
  | refine vss_nil ?_
  | refine vss_one ?_
  | refine vss_cons ?_
  | refine vs_if ?_
  | refine vt_cmp (by assumption) ?_
  | refine vs_set (by assumption) (by walk_at "at") ?_
  | refine vd_cmp (by assumption) ?_
  | refine vgs_nil ?_
  | refine vgs_cons ?_
  | refine vg_name (by assumption) (by walk_at "at") ?_
  | (refine vd_callT (x := "int") (by assumption) does_int (by walk_at "at") ?_)
  | (refine vd_callB (x := "len") (by assumption) does_len (by walk_at "at") ?_)
  | (refine vd_callB (x := "abs") (by assumption) does_abs (by walk_at "at") ?_)
  | (refine vd_ixo (by assumption) (by walk_at "at") rfl ?_)
  | refine vd_ix ?_)
local macro_rules | `(tactic| walk_at "sw") => `(tactic| (intro env h; cases env; dsimp only at h; subst h; rfl))
local macro_rules | `(tactic| walk_at "vv") => `(tactic| repeat (walk_at "v"))
local macro_rules | `(tactic| walk_at "no") => `(tactic| exact fs_no (by decide +kernel) (by decide +kernel) (by decide +kernel))
/-! ### Row.__init__, rows_of -/
abbrev part (u : List Nat) : List Nat := u.takeWhile fun c => decide (c ≠ 35)
theorem par35 : ∀ (l acc : List Nat), (∀ a b, TL.par [35] acc l = some (a, b) → a = acc ++ part l) ∧ (TL.par [35] acc l = none → part l = l)
  | [], acc => ⟨fun a b h => (by cases h), fun _ => rfl⟩
  | c :: r, acc => by
    have e : TL.par [35] acc (c :: r) = if TL.pre [35] (c :: r) = true then some (acc, (c :: r).drop 1) else TL.par [35] (acc ++ [c]) r := rfl
    rw [e]
    obtain ⟨h1, h2⟩ := par35 r (acc ++ [c])
    by_cases hc : c = 35
    · have hp : TL.pre [35] (c :: r) = true := by
        subst hc
        rfl
      rw [if_pos hp]
      refine ⟨fun a b h => ?_, fun h => (by cases h)⟩
      cases h
      rw [show part (c :: r) = [] from List.takeWhile_cons_of_neg (by rw [hc]; decide), List.append_nil]
    · have hp : ¬ TL.pre [35] (c :: r) = true := fun z => by
        have : ([c] == [35]) = true := z
        rw [beq_iff_eq] at this
        exact hc (List.cons.inj this).1
      rw [if_neg hp]
      have e2 : part (c :: r) = c :: part r := List.takeWhile_cons_of_pos (p := fun c => decide (c ≠ 35)) (decide_eq_true hc)
      refine ⟨fun a b h => ?_, fun h => ?_⟩
      · rw [h1 a b h, e2, List.append_assoc]
        rfl
      · rw [e2, h2 h]
theorem part_eq (u : List Nat) : (Txt.partition (sT u) "#").1 = sT (part u) := by
  have e0 : ("#" : Str) = sT [35] := by decide +kernel
  rw [e0, TL.partition_par _ _ (by decide)]
  show (match TL.par [35] [] u with | some (a, b) => (_ : Str × Str × Str) | none => _).1 = _
  obtain ⟨h1, h2⟩ := par35 u []
  cases h : TL.par [35] [] u with
  | none => rw [h2 h]
  | some ab =>
    obtain ⟨a, b⟩ := ab
    rw [h1 a b h, List.nil_append]
def SInit (CA : Addr) : SX := fun as W _ => ∃ p ln u, as = [.own p (.ob CA []), .dat (.int (ln : Nat)), .dat (.str (sT u))] ∧ u.length ≤ 1000 ∧ W .none [.own p (rowO CA ln (part u) 0), .dat (.int (ln : Nat)), .dat (.str (sT u))]
theorem put2 {a b : D} : putA "text" b [(("line" : Str), a)] = [(("line" : Str), a), ("text", b)] := by
  have h1 : ¬ (("line" : Str) = "text") := by decide +kernel
  unfold putA
  rw [if_neg h1]
  rfl
theorem put3 {a b c : D} : putA "done" c [(("line" : Str), a), ("text", b)] = [(("line" : Str), a), ("text", b), ("done", c)] := by
  have h2 : ¬ (("line" : Str) = "done") := by decide +kernel
  have h3 : ¬ (("text" : Str) = "done") := by decide +kernel
  unfold putA
  rw [if_neg h2]
  unfold putA
  rw [if_neg h3]
  rfl
theorem okRowInit {M : Md} {f : Addr} {fd : FuncData} {CA : Addr} (R : RowTxt M.K CA) (F : Fun M.K "__init__" "Row.__init__" sRowInit f fd) : FnOk M.prog M.w M.K M.mg M.base (L2.CX M.prog M.w) 1 f fd ["self", "line", "text"] (DSx (kwM M) 3 (SInit CA)) := by
  refine fnOk_mkQ (k := 0) (NK := nkRowInit) (G := gRowInit) F scRowInit rfl (by decide +kernel) rfl (by decide) fun X C tp as W WX hl hS => ?_
  obtain ⟨p, ln, u, rfl, hu, w⟩ := hS
  show VSs X _ [.own p (.ob CA []), .dat (.int (ln : Nat)), .dat (.str (sT u))] _
  refine vss_cons (vs_fld C R.cl R.nL (by walk_at "at") (vd_name C (by walk_at "at") rfl ⟨_, rfl, by show 0 < 900; decide, ?_⟩))
  show VSs X _ [.own p (.ob CA [(("line" : Str), .int (ln : Nat))]), .dat (.int (ln : Nat)), .dat (.str (sT u))] _
  refine vss_cons (vs_fld C R.cl R.nT (by walk_at "at") (vd_ix (vd_part (vd_name C (by walk_at "at") rfl ⟨sT u, rfl, vd_str ⟨_, rfl, by decide +kernel, by rw [sT_len]; omega, vd_int ⟨_, atI_nat (j := 0) rfl, _, rfl, by show 1 < 900; decide, ?_⟩⟩⟩))))
  rw [part_eq, put2]
  show VSs X _ [.own p (.ob CA [(("line" : Str), .int (ln : Nat)), ("text", .str (sT (part u)))]), .dat (.int (ln : Nat)), .dat (.str (sT u))] _
  refine vss_one (vs_fld C R.cl R.nD (by walk_at "at") (vd_int ⟨_, rfl, by show 2 < 900; decide, ?_⟩))
  rw [put3]
  exact ⟨⟨rfl, trivial⟩, w⟩
/-- the lines of a text -/
abbrev lns (u : List Nat) : List (List Nat) := TL.spl [10] 0 [] u
abbrev rowsOD (CA : Addr) (u : List Nat) : List OD := (lns u).zipIdx.map fun q => rowO CA (q.2 + 1) (part q.1) 0
structure TextOk (u : List Nat) : Prop where
  len : u.length ≤ 50000
  many : (lns u).length ≤ 1000
  short : ∀ l ∈ lns u, l.length ≤ 1000
theorem split_eq (u : List Nat) : Txt.split (sT u) "\n" = (lns u).map sT := by
  have e0 : ("\n" : Str) = sT [10] := by decide +kernel
  have h := TL.split_spl (sT u) (sT [10]) (by decide) (TL.kind_ok (by decide +kernel))
  rw [e0]
  have e1 : (Txt.split (sT u) (sT [10])).map TL.tl = lns u := h
  rw [← e1, List.map_map]
  have : (sT ∘ TL.tl) = id := by
    funext z
    exact sT_of z
  rw [this, List.map_id]
def SpRows (K : Kw) (CA : Addr) : Sp := fun vs H Q _ => ∃ u : List Nat, vs = [.str (sT u)] ∧ TextOk u ∧ ∀ p (L : Sd) H', L.map (·.2) = rowsOD CA u → H p = none → (∀ a ∈ L.as, H a = none) → p ∉ L.as → L.as.Nodup → H' p = some (.lst (L.as.map V.ref)) →
  (∀ a o, H a = some o → H' a = some o) → (∀ a o, (a, o) ∈ L → ∃ v, H' a = some v ∧ OD.is K (fun _ => none) a v o) → Q (.ref p) H'
theorem row_free {K : Kw} {B : Hp} {a : Addr} {v : HO} {CA : Addr} {ln : Nat} {t : List Nat} {d : Nat} (h : OD.is K B a v (rowO CA ln t d)) : OD.is K (fun _ => none) a v (rowO CA ln t d) := by
  obtain ⟨dx, vs, h1, h2⟩ := h
  refine ⟨dx, vs, ?_, h2⟩
  cases h1 with
  | cons a1 a2 => cases a2 with
    | cons a2 a3 => cases a3 with
      | cons a3 a4 =>
        cases a4
        rw [dp_int a1, dp_str a2, dp_int a3]
        exact .cons (.int _) (.cons (.str _) (.cons (.int _) .nil))
def retOf : Stmt → Expr
  | .Return (some e) _ => e
  | _ => .Name "" ⟨0, 0, 0, 0⟩
theorem okRowsOf {M : Md} {f fI CA : Addr} {fd fdI : FuncData} (R : RowTxt M.K CA) (mg : M.mg "Row" = some (.ref CA)) (me : M.mg "enumerate" = none) (Mk0 : Mk M.K CA fI) (FI : Fun M.K "__init__" "Row.__init__" sRowInit fI fdI) (bI : Binds M.K fdI ["self", "line", "text"] [])
    (F : Fun M.K "rows_of" "rows_of" sRowsOf f fd) : FnOk M.prog M.w M.K M.mg M.base (L2.CX M.prog M.w) 4 f fd ["text"] (SpRows (kwM M) CA) := by
  have GI := okRowInit R FI
  refine F.okX scRowsOf (fun vs H Q E h => ?_) (fun cdv A outer s H vs Q E hr h => ?_)
  · obtain ⟨u, rfl, _⟩ := h
    rfl
  · obtain ⟨u, rfl, tx, q⟩ := h
    have C : Cst (cxOf (L2.CX M.prog M.w) M.prog M.w M.K M.mg M.base nRowsOf "rows_of" (defScope sRowsOf) f cdv A outer s H E) M (defScope sRowsOf) nkRowsOf gRowsOf 3 := cst_defX rfl scRowsOf.nd (by decide +kernel) hr
    have r0 : Rel (kwM M) (fun _ => none) H (L2.start nRowsOf [.str (sT u)]) [.dat (.str (sT u)), .no, .no] := by
      refine ⟨fun a o h => (by cases h), rfl, fun i d hi => ?_, fun i a o hi => ?_, fun i j a o o' hi _ => ?_⟩
      · match i, hi with
        | 0, hi =>
          cases hi
          exact ⟨_, rfl, .str _⟩
        | 1, hi => cases hi
        | 2, hi => cases hi
        | i + 3, hi => simp at hi
      · match i, hi with
        | 0, hi => cases hi
        | 1, hi => cases hi
        | 2, hi => cases hi
        | i + 3, hi => simp at hi
      · match i, hi with
        | 0, hi => cases hi
        | 1, hi => cases hi
        | 2, hi => cases hi
        | i + 3, hi => simp at hi
    have vl : VL (cxOf (L2.CX M.prog M.w) M.prog M.w M.K M.mg M.base nRowsOf "rows_of" (defScope sRowsOf) f cdv A outer s H E) (retOf ((defBody sRowsOf).getD 0 (.Pass ⟨0, 0, 0, 0⟩))) [.dat (.str (sT u)), .no, .no] (fun acc _ => acc = rowsOD CA u) := by
      refine vl_lc2 C (i1 := 1) (i2 := 2) nkRowsOf0 gRowsOf0 (by walk_at "at") (by walk_at "at") (by decide) (vp_enum C (by walk_at "at") (vn_vd (vn_split (vd_name C (by walk_at "at") rfl ⟨sT u, rfl, vd_str ⟨_, rfl, by decide +kernel, by rw [sT_len]; have := tx.len; omega, ?_⟩⟩))))
      rw [split_eq]
      have lm := tx.many
      have el : ((((lns u).map sT).map PyData.str).zipIdx.map fun q => (PyData.int (q.2 : Int), q.1)).length = (lns u).length := by simp
      refine ⟨_, rfl, by rw [el]; omega, fun j acc ρ' => ρ' = [.dat (.str (sT u)), .no, .no] ∧ acc = (rowsOD CA u).take j, ⟨rfl, by rw [List.take_zero]⟩, fun j d1 d2 acc ρ' hj ⟨hρ, ha⟩ X' C' => ?_, fun acc ρ' ⟨_, ha⟩ => ?_⟩
      · subst hρ
        have hlt : j < (lns u).length := by
          have := (List.getElem?_eq_some_iff.mp hj).1
          rw [el] at this
          exact this
        obtain ⟨e1, e2⟩ : d1 = .int (j : Nat) ∧ d2 = .str (sT (lns u)[j]) := by
          rw [List.getElem?_map, List.getElem?_zipIdx, List.getElem?_map, List.getElem?_map, List.getElem?_eq_getElem hlt] at hj
          have hj' := Option.some.inj hj
          cases hj'
          exact ⟨by simp, rfl⟩
        subst e1 e2
        show VO X' _ [.dat (.str (sT u)), .dat (.int (j : Nat)), .dat (.str (sT (lns u)[j]))] _
        refine vo_make C' Mk0 GI bI (by walk_at "at") mg (va_cons (vd_bin (vd_name C' (by walk_at "at") rfl (vd_int ?_))))
        refine va_cons (vd_name C' (by walk_at "at") rfl (va_nil ⟨rfl, fun z => ?_⟩))
        refine ⟨z, j + 1, (lns u)[j], rfl, tx.short _ (List.getElem_mem hlt), _, rfl, fun s hs q o e => ?_, rfl, rfl, ?_⟩
        · subst e
          simp at hs
        · rw [ha, List.take_add_one, List.getElem?_map, List.getElem?_zipIdx, List.getElem?_eq_getElem hlt]
          simp
      · rw [ha, el, List.take_of_length_le (by simp)]
    refine ⟨_, pss_one (ps_ret pe_sem), ?_⟩
    refine vl.run (fun _ => none) H _ _ r0 fun p L B' H' ρ' hL hp ha pn hl bp np sd g r' => ?_
    refine q p L H' hL hp ha pn sd.nd hl (fun a o h => g.keep a o h fun ⟨i, o', z⟩ => ?_) fun a o h => ?_
    · match i, z with
      | 0, z => cases z
      | 1, z => cases z
      | 2, z => cases z
      | i + 3, z => simp at z
    · obtain ⟨_, _, v, h3, h4⟩ := sd.at_ a o h
      have ho : o ∈ rowsOD CA u := by
        rw [← hL]
        exact List.mem_map.mpr ⟨_, h, rfl⟩
      obtain ⟨q, _, rfl⟩ := List.mem_map.mp ho
      exact ⟨v, h3, row_free h4⟩

end K7

/-! Vc, part dF: sorted pairs as a function; rows whose parts may raise. -/
namespace Vc
open PySem PySem.Spec PyProof.Rows L2
open Evl (Ex)
def insB (q : Br) : List Br → List Br
  | [] => [q]
  | r :: l => if ltB r q = true then r :: insB q l else q :: r :: l
def sortB : List Br → List Br
  | [] => []
  | q :: l => insB q (sortB l)
theorem insB_perm (q : Br) : ∀ l : List Br, (insB q l).Perm (q :: l)
  | [] => List.Perm.refl _
  | r :: l => by
    unfold insB
    split
    · exact ((insB_perm q l).cons r).trans (List.Perm.swap q r l)
    · exact List.Perm.refl _
theorem sortB_perm : ∀ l : List Br, (sortB l).Perm l
  | [] => List.Perm.refl _
  | q :: l => (insB_perm q (sortB l)).trans ((sortB_perm l).cons q)
theorem le_trans3 {a b c : Br} (h1 : ltB b a = false) (h2 : ltB c b = false) : ltB c a = false := by
  by_cases e1 : a = b
  · rw [e1]
    exact h2
  · have l1 : ltB a b = true := (ltB_total e1).resolve_right (by rw [h1]; decide)
    by_cases e2 : b = c
    · rw [← e2]
      exact h1
    · have l2 : ltB b c = true := (ltB_total e2).resolve_right (by rw [h2]; decide)
      have l3 := ltB_trans l1 l2
      cases e : ltB c a with
      | false => rfl
      | true =>
        have := ltB_trans l3 e
        rw [ltB_irr] at this
        cases this
theorem insB_asc (q : Br) : ∀ {l : List Br}, Asc l → Asc (insB q l)
  | [], _ => List.pairwise_singleton _ _
  | r :: l, h => by
    obtain ⟨h1, h2⟩ := List.pairwise_cons.mp h
    unfold insB
    split
    · rename_i hl
      refine List.pairwise_cons.mpr ⟨fun x hx => ?_, insB_asc q h2⟩
      rcases List.mem_cons.mp ((insB_perm q l).mem_iff.mp hx) with rfl | hx
      · cases e : ltB x r with
        | false => rfl
        | true =>
          have := ltB_trans hl e
          rw [ltB_irr] at this
          cases this
      · exact h1 x hx
    · rename_i hl
      have hq : ltB r q = false := by simpa using hl
      refine List.pairwise_cons.mpr ⟨fun x hx => ?_, h⟩
      rcases List.mem_cons.mp hx with rfl | hx
      · exact hq
      · exact le_trans3 hq (h1 x hx)
theorem sortB_asc : ∀ l : List Br, Asc (sortB l)
  | [] => List.Pairwise.nil
  | q :: l => insB_asc q (sortB_asc l)
theorem asc_same : ∀ {l m : List Br}, l.Perm m → Asc l → Asc m → l = m
  | [], m, p, _, _ => (List.nil_perm.mp p).symm
  | a :: l, [], p, _, _ => (List.perm_nil.mp p)
  | a :: l, b :: m, p, h1, h2 => by
    obtain ⟨a1, a2⟩ := List.pairwise_cons.mp h1
    obtain ⟨b1, b2⟩ := List.pairwise_cons.mp h2
    have e : a = b := by
      by_cases e : a = b
      · exact e
      · have ha : a ∈ m := by
          rcases List.mem_cons.mp (p.mem_iff.mp List.mem_cons_self) with z | z
          · exact absurd z e
          · exact z
        have hb : b ∈ l := by
          rcases List.mem_cons.mp (p.symm.mem_iff.mp List.mem_cons_self) with z | z
          · exact absurd z.symm e
          · exact z
        rcases ltB_total e with z | z
        · rw [b1 a ha] at z
          cases z
        · rw [a1 b hb] at z
          cases z
    subst e
    rw [asc_same ((List.perm_cons a).mp p) a2 b2]
theorem sortB_uniq {l m : List Br} (p : m.Perm l) (h : Asc m) : m = sortB l := asc_same (p.trans (sortB_perm l).symm) h (sortB_asc l)
section
variable {X : Cx} {M : Md} {sc : Scope} {NK : List (Str × Bool × Bool)} {G : List Str} {k : Nat} {ρ : En} {P : D → En → Prop} {E : Er → En → Prop} {pos : Pos} {a b e : Expr} {es : List Expr} {x : Str} {F : Fin}
theorem ve_eqS (h : VE X a ρ (fun x ρ1 => VD X b ρ1 fun y ρ2 => ∃ z w : Str, x = .str z ∧ y = .str w ∧ P (.bool (decide (z = w))) ρ2) E) (hm : behindInMarks .Eq b = false := by first | exact nobehind _ (by decide) (by decide) | rfl) : VE X (.Compare a [.Eq] [b] pos) ρ P E := ⟨fun B H σ Q W tk r q xx => by
  refine PE.sem (pe_cmpR op_eq pe_sem pe_sem hm) ?_
  refine h.run B H σ _ W tk r (fun vx x B1 H1 ρ1 p1 dx g1 r1 => ?_) xx
  refine p1.run B1 H1 σ _ r1 fun vy y B2 H2 ρ2 p2 dy g2 r2 => ?_
  obtain ⟨z, w, rfl, rfl, pp⟩ := p2
  rw [dp_str dx, dp_str dy]
  refine ⟨rfl, ?_⟩
  rw [dec_str]
  exact q _ _ B2 H2 ρ2 pp (.bl _) (g1.trans g2) r2⟩
/-- name = [e, ..], whose items may raise -/
theorem vs_lstE (C : Cst X M sc NK G k) {i : Nat} {v : Bool} {p lp : Pos} (ha : At NK i (x, v, true)) (hi : i < ρ.length) (h : VEA X es ρ (fun ds ρ1 => ds.length ≤ 1000 ∧ ∀ z, F.nx (ρ1.set i (.own z ds))) F.ex)
    (hs : swapsWith (.List es lp) (some (.Name x p)) pos.line X.env = pure false := by rfl) : VS X (.Assign [.Name x p] (.List es lp) pos) ρ F := VS.mk fun B H σ Z r f => by
  refine PS.sem (ps_set C.nd (C.ix ha) (C.lo ha) (pe_lst pa_sem) hs (C.fn ha)) ?_
  refine h.run B H σ _ Z.e Z.tk r (fun vs ds B1 H1 ρ1 p1 dvs g1 r1 => ⟨?_, fun z hz => ?_⟩) fun c dx B2 H2 ρ2 p2 k2 g2 r2 => f.ex c dx B2 H2 σ ρ2 p2 k2 g2 r2
  · rw [DpAll.len dvs]
    exact Nat.le_trans p1.1 (by decide)
  · obtain ⟨r2, g2, bz⟩ := new_one (o := .lst vs) r1 hz
    have hl : i < ρ1.length := by rw [r1.len, ← r.len]; exact hi
    obtain ⟨g3, r3⟩ := own_new (i := i) hl (g1.dom z hz) upd_same bz (not_own r1 hz) dvs (g1.trans g2) r2
    exact f.nx _ _ _ _ (p1.2 z) g3 r3
/-- xs.append(e), xs a list of one's own, e may raise -/
theorem vs_appendE (C : Cst X M sc NK G k) {i : Nat} {l : Bool} {p : Addr} {cs0 : List D} {px ap cp : Pos} (ha : At NK i (x, true, l)) (ho : ρ[i]? = some (.own p cs0))
    (h : VE X e ρ (fun d ρ1 => ∃ (cs : List D), ρ1[i]? = some (.own p cs) ∧ cs.length ≤ 100000 ∧ F.nx (ρ1.set i (.own p (.l (cs ++ [d]))))) F.ex)
    (hbase : attributeBase (.Name x px) "append" X.env (eval (.Name x px) X.env) = eval (.Name x px) X.env := by rfl)
    (hfew : ((backTo cp (starEach [e] X.env)).all (fun x => !x.1) && (backToKw cp (keywordEach [] X.env)).all (fun x => x.1.isSome) && decide (([e] : List Expr).length + ([] : List Keyword).length + (if ([] : List Keyword).isEmpty then 0 else 1) < 30)) = true := by rfl)
    (hline : (ap.endLine == cp.line) = true := by rfl) (he : starEach [e] X.env = (false, eval e X.env) :: starEach [] X.env := by rfl) (hpl : (backTo cp (starEach [] X.env)).any (·.1) = false := by rfl)
    (hs : swapsWith (.Call (.Attribute (.Name x px) "append" ap) [e] [] cp) none pos.line X.env = pure false := by rfl) (hd : (x == ("__debug__" : Str)) = false := by decide) (hcd : (x == ("__classdict__" : Str)) = false := by decide) :
    VS X (.Expr (.Call (.Attribute (.Name x px) "append" ap) [e] [] cp) pos) ρ F := VS.mk fun B H σ Z r f => by
  refine PS.sem (ps_expr (pe_bm PySem.F.plainAttrs_list PySem.F.slot_list_append PySem.F.type_list_append mt_append (pe_var (C.ix ha) (C.vi ha) hd hcd) (pa_cons pe_sem pa_nil he) hbase hfew hline he hpl) hs) ?_
  obtain ⟨s1, b1, _, h3, ws, rfl, d3⟩ := r.own i p cs0 ho
  refine ⟨.ref p, s1, .inl ⟨rfl, ws, .inl (.inl h3)⟩, ?_⟩
  refine h.run B H σ _ Z.e Z.tk r (fun v d B1 H1 ρ1 p1 dv g1 r1 => ?_) fun c dx B2 H2 ρ2 p2 k2 g2 r2 => f.ex c dx B2 H2 σ ρ2 p2 k2 g2 r2
  obtain ⟨cs, ho1, hlen, pp⟩ := p1
  obtain ⟨_, bp, _, h5, us, rfl, d5⟩ := r1.own i p cs ho1
  have sl := sizeLine_eq
  obtain ⟨r2, g2⟩ := own_write (vs' := us ++ [v]) (cs' := cs ++ [d]) r1 ho1 (DpAll.app d5 (.cons dv .nil))
  refine ⟨p, us, v, rfl, rfl, h5, ?_, f.nx B1 _ σ _ pp (g1.trans g2) r2⟩
  rw [DpAll.len d5]
  omega
end
end Vc

namespace K7
open PySem PySem.Spec PyProof.Rows L2 Vc
local macro_rules | `(tactic| walk_at "at") => `(tactic| (repeat (first | with_reducible exact At.here | apply At.there)))
local macro_rules | `(tactic| walk_at "v") => `(tactic| first
  | refine vd_bin ?_
  | (refine vd_name (by assumption) (by walk_at "at") rfl ?_)
  | refine vd_int ?_
  | refine vd_bool ?_
  | refine vd_none ?_
  | refine vd_str ?_
  | refine vd_if ?_
  | (refine vd_neg ?_)
  | refine vd_tup ?_
  | refine va_nil ?_
  | refine va_cons ?_
  | refine vs_ret ?_
  | refine vss_nil ?_
  | refine vss_one ?_
  | refine vss_cons ?_
  | refine vs_if ?_
  | refine vt_cmp (by assumption) ?_
  | refine vs_set (by assumption) (by walk_at "at") ?_
  | refine vd_cmp (by assumption) ?_
  | refine vgs_nil ?_
  | refine vgs_cons ?_
  | refine vg_name (by assumption) (by walk_at "at") ?_
  | (refine vd_callT (x := "int") (by assumption) does_int (by walk_at "at") ?_)
  | (refine vd_callB (x := "len") (by assumption) does_len (by walk_at "at") ?_)
  | (refine vd_callB (x := "abs") (by assumption) does_abs (by walk_at "at") ?_)
  | (refine vd_ixo (by assumption) (by walk_at "at") rfl ?_)
  | refine vd_ix ?_)
local macro_rules | `(tactic| walk_at "sw") => `(tactic| (intro env h; cases env; dsimp only at h; subst h; rfl))
local macro_rules | `(tactic| walk_at "vv") => `(tactic| repeat (walk_at "v"))
local macro_rules | `(tactic| walk_at "no") => `(tactic| exact fs_no (by decide +kernel) (by decide +kernel) (by decide +kernel))
/-! ### the readers of rows -/
def rb (r : RR) (k : D → Nat → RR) : RR := match r with
  | .ok (v, d) => k v d
  | .error a => .error a
theorem rb_ok {v : D} {d : Nat} {k : D → Nat → RR} : rb (.ok (v, d)) k = k v d := rfl
theorem rb_err {a : Nat} {k : D → Nat → RR} : rb (.error a) k = .error a := rfl
def fRd (g : List Nat → Nat → List Str → Option RR) (t : List Nat) (d : Nat) (ds : List D) : Option RR := match ds with
  | [.list us] => (strs? us).bind (g t d)
  | _ => none
theorem fRd_inv {g : List Nat → Nat → List Str → Option RR} {t : List Nat} {d : Nat} {ds : List D} {r : RR} (h : fRd g t d ds = some r) : ∃ ls, ds = [.list (ls.map PyData.str)] ∧ g t d ls = some r := by
  unfold fRd at h
  split at h
  · rename_i us
    cases e : strs? us with
    | none =>
      rw [e] at h
      cases h
    | some ws =>
      rw [e] at h
      exact ⟨ws, by rw [strs_eq e], h⟩
  · cases h
theorem fRd_at {g : List Nat → Nat → List Str → Option RR} {t : List Nat} {d : Nat} {ls : List Str} : fRd g t d [.list (ls.map PyData.str)] = g t d ls := by
  show (strs? (ls.map PyData.str)).bind (g t d) = _
  rw [strs_map]
  rfl
abbrev mLine (t : List Nat) (d : Nat) (_ : List Str) : RR := rb (mName t d) fun a d => rb (mName t d) fun b d => rb (mName t d) fun c d => rb (mNumber t d) fun n d => .ok (.tuple [a, b, c, n], d)
abbrev mSource (t : List Nat) (d : Nat) (_ : List Str) : RR := rb (mName t d) fun a d => rb (mName t d) fun b d => rb (mNumber t d) fun n d => .ok (.tuple [a, b, n], d)
abbrev mTimes (t : List Nat) (d : Nat) (_ : List Str) : RR := rb (mNumber t d) fun a d => rb (mNumber t d) fun b d => .ok (.tuple [a, b], d)
section
variable {M : Md} {f CA CT : Addr} {fd : FuncData} {nm : Str}
theorem fReadBus (R : RowTxt M.K CA) (FN : FnMt M 5 CA "read_name" 1 (SRow CA CT fun t d _ => some (mName t d)))
    (F : Fun M.K "read_bus" "read_bus" sReadBus f fd) (hm : M.mg "read_bus" = some (.ref f)) (b : L2.Binds M.K fd ["row", "lines"] []) : FnX M 6 "read_bus" 2 (SRow CA CT (fRd fun t d _ => some (mName t d))) := by
  refine fnXT_mk (k := 5) (NK := nkReadBus) (G := gReadBus) F scReadBus hm b rfl (by decide +kernel) rfl (by decide) fun X C tp as W WX hl hS => ?_
  obtain ⟨p, ln, t, d, ds, r, rfl, hln, ht, hd, hf, w, wx⟩ := hS
  obtain ⟨ls, rfl, hg⟩ := fRd_inv hf
  cases hg
  show VSs X _ [.own p (rowO CA ln t d), .dat (.list (ls.map PyData.str))] _
  refine vss_one (vs_retE (ve_meth0 C R.cl FN (by walk_at "at") rfl (by walk_at "no") ⟨p, ln, t, d, [], _, rfl, hln, ht, hd, rfl, fun v1 d1 h1 k1 => ?_, fun a h1 d1 => ?_⟩))
  · exact ⟨⟨rfl, trivial⟩, w _ _ h1 k1⟩
  · exact ⟨⟨rfl, trivial⟩, wx _ h1 d1⟩
theorem fReadTicks (R : RowTxt M.K CA) (FN : FnMt M 4 CA "read_number" 1 (SRow CA CT fun t d _ => some (mNumber t d)))
    (F : Fun M.K "read_ticks" "read_ticks" sReadTicks f fd) (hm : M.mg "read_ticks" = some (.ref f)) (b : L2.Binds M.K fd ["row", "lines"] []) : FnX M 6 "read_ticks" 2 (SRow CA CT (fRd fun t d _ => some (mNumber t d))) := by
  refine fnXT_mk (k := 5) (NK := nkReadTicks) (G := gReadTicks) F scReadTicks hm b rfl (by decide +kernel) rfl (by decide) fun X C tp as W WX hl hS => ?_
  obtain ⟨p, ln, t, d, ds, r, rfl, hln, ht, hd, hf, w, wx⟩ := hS
  obtain ⟨ls, rfl, hg⟩ := fRd_inv hf
  cases hg
  show VSs X _ [.own p (rowO CA ln t d), .dat (.list (ls.map PyData.str))] _
  refine vss_one (vs_retE (ve_meth0 C R.cl FN (by walk_at "at") rfl (by walk_at "no") ⟨p, ln, t, d, [], _, rfl, hln, ht, hd, rfl, fun v1 d1 h1 k1 => ?_, fun a h1 d1 => ?_⟩))
  · exact ⟨⟨rfl, trivial⟩, w _ _ h1 k1⟩
  · exact ⟨⟨rfl, trivial⟩, wx _ h1 d1⟩
theorem fReadError (R : RowTxt M.K CA) (FN : FnMt M 4 CA "read_fraction" 1 (SRow CA CT fun t d _ => some (mFraction t d)))
    (F : Fun M.K "read_error" "read_error" sReadError f fd) (hm : M.mg "read_error" = some (.ref f)) (b : L2.Binds M.K fd ["row", "lines"] []) : FnX M 6 "read_error" 2 (SRow CA CT (fRd fun t d _ => some (mFraction t d))) := by
  refine fnXT_mk (k := 5) (NK := nkReadError) (G := gReadError) F scReadError hm b rfl (by decide +kernel) rfl (by decide) fun X C tp as W WX hl hS => ?_
  obtain ⟨p, ln, t, d, ds, r, rfl, hln, ht, hd, hf, w, wx⟩ := hS
  obtain ⟨ls, rfl, hg⟩ := fRd_inv hf
  cases hg
  show VSs X _ [.own p (rowO CA ln t d), .dat (.list (ls.map PyData.str))] _
  refine vss_one (vs_retE (ve_meth0 C R.cl FN (by walk_at "at") rfl (by walk_at "no") ⟨p, ln, t, d, [], _, rfl, hln, ht, hd, rfl, fun v1 d1 h1 k1 => ?_, fun a h1 d1 => ?_⟩))
  · exact ⟨⟨rfl, trivial⟩, w _ _ h1 k1⟩
  · exact ⟨⟨rfl, trivial⟩, wx _ h1 d1⟩
theorem fReadLine (R : RowTxt M.K CA) (FN : FnMt M 5 CA "read_name" 1 (SRow CA CT fun t d _ => some (mName t d))) (FM : FnMt M 4 CA "read_number" 1 (SRow CA CT fun t d _ => some (mNumber t d)))
    (F : Fun M.K "read_line" "read_line" sReadLine f fd) (hm : M.mg "read_line" = some (.ref f)) (b : L2.Binds M.K fd ["row", "lines"] []) : FnX M 6 "read_line" 2 (SRow CA CT (fRd fun t d ls => some (mLine t d ls))) := by
  refine fnXT_mk (k := 5) (NK := nkReadLine) (G := gReadLine) F scReadLine hm b rfl (by decide +kernel) rfl (by decide) fun X C tp as W WX hl hS => ?_
  obtain ⟨p, ln, t, d, ds, r, rfl, hln, ht, hd, hf, w, wx⟩ := hS
  obtain ⟨ls, rfl, hg⟩ := fRd_inv hf
  cases hg
  show VSs X _ [.own p (rowO CA ln t d), .dat (.list (ls.map PyData.str))] _
  unfold mLine at w wx
  refine vss_one (vs_retE (ve_tup (vea_cons (ve_meth0 C R.cl FN (by walk_at "at") rfl (by walk_at "no") ⟨p, ln, t, d, [], _, rfl, hln, ht, hd, rfl, fun v1 d1 h1 k1 => ?_, fun a h1 d1 => ?_⟩))))
  · rw [h1] at w wx
    simp only [rb_ok] at w wx
    show VEA X _ [.own p (rowO CA ln t d1), .dat (.list (ls.map PyData.str))] _ _
    refine vea_cons (ve_meth0 C R.cl FN (by walk_at "at") rfl (by walk_at "no") ⟨p, ln, t, d1, [], _, rfl, hln, ht, k1, rfl, fun v2 d2 h2 k2 => ?_, fun a h1 d1 => ?_⟩)
    · rw [h2] at w wx
      simp only [rb_ok] at w wx
      show VEA X _ [.own p (rowO CA ln t d2), .dat (.list (ls.map PyData.str))] _ _
      refine vea_cons (ve_meth0 C R.cl FN (by walk_at "at") rfl (by walk_at "no") ⟨p, ln, t, d2, [], _, rfl, hln, ht, k2, rfl, fun v3 d3 h3 k3 => ?_, fun a h1 d1 => ?_⟩)
      · rw [h3] at w wx
        simp only [rb_ok] at w wx
        show VEA X _ [.own p (rowO CA ln t d3), .dat (.list (ls.map PyData.str))] _ _
        refine vea_cons (ve_meth0 C R.cl FM (by walk_at "at") rfl (by walk_at "no") ⟨p, ln, t, d3, [], _, rfl, hln, ht, k3, rfl, fun v4 d4 h4 k4 => ?_, fun a h1 d1 => ?_⟩)
        · rw [h4] at w wx
          simp only [rb_ok] at w wx
          exact vea_nil ⟨by show 4 ≤ 1000; decide, ⟨rfl, trivial⟩, w _ _ rfl k4⟩
        · rw [h1] at wx
          exact ⟨⟨rfl, trivial⟩, wx _ rfl d1⟩
      · rw [h1] at wx
        exact ⟨⟨rfl, trivial⟩, wx _ rfl d1⟩
    · rw [h1] at wx
      exact ⟨⟨rfl, trivial⟩, wx _ rfl d1⟩
  · rw [h1] at wx
    exact ⟨⟨rfl, trivial⟩, wx _ rfl d1⟩
theorem fReadSource (R : RowTxt M.K CA) (FN : FnMt M 5 CA "read_name" 1 (SRow CA CT fun t d _ => some (mName t d))) (FM : FnMt M 4 CA "read_number" 1 (SRow CA CT fun t d _ => some (mNumber t d)))
    (F : Fun M.K "read_source" "read_source" sReadSource f fd) (hm : M.mg "read_source" = some (.ref f)) (b : L2.Binds M.K fd ["row", "lines"] []) : FnX M 6 "read_source" 2 (SRow CA CT (fRd fun t d ls => some (mSource t d ls))) := by
  refine fnXT_mk (k := 5) (NK := nkReadSource) (G := gReadSource) F scReadSource hm b rfl (by decide +kernel) rfl (by decide) fun X C tp as W WX hl hS => ?_
  obtain ⟨p, ln, t, d, ds, r, rfl, hln, ht, hd, hf, w, wx⟩ := hS
  obtain ⟨ls, rfl, hg⟩ := fRd_inv hf
  cases hg
  show VSs X _ [.own p (rowO CA ln t d), .dat (.list (ls.map PyData.str))] _
  unfold mSource at w wx
  refine vss_one (vs_retE (ve_tup (vea_cons (ve_meth0 C R.cl FN (by walk_at "at") rfl (by walk_at "no") ⟨p, ln, t, d, [], _, rfl, hln, ht, hd, rfl, fun v1 d1 h1 k1 => ?_, fun a h1 d1 => ?_⟩))))
  · rw [h1] at w wx
    simp only [rb_ok] at w wx
    show VEA X _ [.own p (rowO CA ln t d1), .dat (.list (ls.map PyData.str))] _ _
    refine vea_cons (ve_meth0 C R.cl FN (by walk_at "at") rfl (by walk_at "no") ⟨p, ln, t, d1, [], _, rfl, hln, ht, k1, rfl, fun v2 d2 h2 k2 => ?_, fun a h1 d1 => ?_⟩)
    · rw [h2] at w wx
      simp only [rb_ok] at w wx
      show VEA X _ [.own p (rowO CA ln t d2), .dat (.list (ls.map PyData.str))] _ _
      refine vea_cons (ve_meth0 C R.cl FM (by walk_at "at") rfl (by walk_at "no") ⟨p, ln, t, d2, [], _, rfl, hln, ht, k2, rfl, fun v4 d4 h4 k4 => ?_, fun a h1 d1 => ?_⟩)
      · rw [h4] at w wx
        simp only [rb_ok] at w wx
        exact vea_nil ⟨by show 3 ≤ 1000; decide, ⟨rfl, trivial⟩, w _ _ rfl k4⟩
      · rw [h1] at wx
        exact ⟨⟨rfl, trivial⟩, wx _ rfl d1⟩
    · rw [h1] at wx
      exact ⟨⟨rfl, trivial⟩, wx _ rfl d1⟩
  · rw [h1] at wx
    exact ⟨⟨rfl, trivial⟩, wx _ rfl d1⟩
theorem fReadTimes (R : RowTxt M.K CA) (FM : FnMt M 4 CA "read_number" 1 (SRow CA CT fun t d _ => some (mNumber t d)))
    (F : Fun M.K "read_times" "read_times" sReadTimes f fd) (hm : M.mg "read_times" = some (.ref f)) (b : L2.Binds M.K fd ["row", "lines"] []) : FnX M 6 "read_times" 2 (SRow CA CT (fRd fun t d ls => some (mTimes t d ls))) := by
  refine fnXT_mk (k := 5) (NK := nkReadTimes) (G := gReadTimes) F scReadTimes hm b rfl (by decide +kernel) rfl (by decide) fun X C tp as W WX hl hS => ?_
  obtain ⟨p, ln, t, d, ds, r, rfl, hln, ht, hd, hf, w, wx⟩ := hS
  obtain ⟨ls, rfl, hg⟩ := fRd_inv hf
  cases hg
  show VSs X _ [.own p (rowO CA ln t d), .dat (.list (ls.map PyData.str))] _
  unfold mTimes at w wx
  refine vss_one (vs_retE (ve_tup (vea_cons (ve_meth0 C R.cl FM (by walk_at "at") rfl (by walk_at "no") ⟨p, ln, t, d, [], _, rfl, hln, ht, hd, rfl, fun v1 d1 h1 k1 => ?_, fun a h1 d1 => ?_⟩))))
  · rw [h1] at w wx
    simp only [rb_ok] at w wx
    show VEA X _ [.own p (rowO CA ln t d1), .dat (.list (ls.map PyData.str))] _ _
    refine vea_cons (ve_meth0 C R.cl FM (by walk_at "at") rfl (by walk_at "no") ⟨p, ln, t, d1, [], _, rfl, hln, ht, k1, rfl, fun v4 d4 h4 k4 => ?_, fun a h1 d1 => ?_⟩)
    · rw [h4] at w wx
      simp only [rb_ok] at w wx
      exact vea_nil ⟨by show 2 ≤ 1000; decide, ⟨rfl, trivial⟩, w _ _ rfl k4⟩
    · rw [h1] at wx
      exact ⟨⟨rfl, trivial⟩, wx _ rfl d1⟩
  · rw [h1] at wx
    exact ⟨⟨rfl, trivial⟩, wx _ rfl d1⟩
end


open PySem PySem.Spec PyProof.Rows L2 Vc
/-! ### read_told, read_guard -/
def strOf : D → Str
  | .str z => z
  | _ => ""
theorem mWord_ok {t : List Nat} {d d' : Nat} {ws : List Str} {v : D} (h : mWord t d ws = .ok (v, d')) : v = .str (strOf v) ∧ strOf v ∈ ws := by
  unfold mWord at h
  split at h
  · cases h
  · split at h
    · rename_i q
      split at h
      · cases h
        exact ⟨rfl, q⟩
      · cases h
    · cases h
def mTold3 (t : List Nat) (ks : Str) (pt bd : D) (d : Nat) : RR :=
  if ks = "over" then rb (mWord t d ["forward", "delay"]) fun w d => (if strOf w = "forward" then rb (mWord t d ["delay"]) fun _ d => .ok (.tuple [.str ks, pt, bd, .bool true], d) else .ok (.tuple [.str ks, pt, bd, .bool false], d))
  else rb (mWord t d ["delay"]) fun _ d => .ok (.tuple [.str ks, pt, bd], d)
def mTold2 (t : List Nat) (ks : Str) (pt : D) (d : Nat) : RR :=
  if ks = "behind" then rb (mWord t d ["delay"]) fun _ d => .ok (.tuple [.str ks, pt], d) else rb (mFraction t d) fun bd d => mTold3 t ks pt bd d
def mTold (t : List Nat) (d : Nat) (ls : List Str) : RR :=
  rb (mWord t d ["over", "reach", "difference", "behind"]) fun kd d => rb (if strOf kd = "difference" then mName t d else mBreaker t d ls) fun pt d => mTold2 t (strOf kd) pt d
theorem fWord_at {t : List Nat} {d : Nat} {ws : List Str} : fWord t d [.tuple (ws.map PyData.str)] = some (mWord t d ws) := by
  show (strs? _).map _ = _
  rw [strs_map]
  rfl
section
variable {M : Md} {f CA CT : Addr} {fd : FuncData} {nm : Str}
theorem fReadTold (R : RowTxt M.K CA) (FW : FnMt M 4 CA "read_word" 2 (SRow CA CT fWord)) (FN : FnMt M 5 CA "read_name" 1 (SRow CA CT fun t d _ => some (mName t d))) (FB : FnMt M 5 CA "read_breaker" 2 (SRow CA CT fRBrk)) (FQ : FnMt M 4 CA "read_fraction" 1 (SRow CA CT fun t d _ => some (mFraction t d)))
    (F : Fun M.K "read_told" "read_told" sReadTold f fd) (hm : M.mg "read_told" = some (.ref f)) (b : L2.Binds M.K fd ["row", "lines"] []) : FnX M 6 "read_told" 2 (SRow CA CT (fRd fun t d ls => some (mTold t d ls))) := by
  refine fnXT_mk (k := 5) (NK := nkReadTold) (G := gReadTold) F scReadTold hm b rfl (by decide +kernel) rfl (by decide) fun X C tp as W WX hl hS => ?_
  obtain ⟨p, ln, t, d, ds, r, rfl, hln, ht, hd, hf, w, wx⟩ := hS
  obtain ⟨ls, rfl, hg⟩ := fRd_inv hf
  cases hg
  show VSs X _ [.own p (rowO CA ln t d), .dat (.list (ls.map PyData.str)), .no, .no, .no, .no] _
  unfold mTold at w wx
  -- the last test and what stands behind it
  have t3 : ∀ (d1 : Nat) (ks : Str) pt bd d3, d3 ≤ t.length → (∀ v d', mTold3 t ks pt bd d3 = .ok (v, d') → d' ≤ t.length → W v [.own p (rowO CA ln t d'), .dat (.list (ls.map PyData.str))]) → (∀ a, mTold3 t ks pt bd d3 = .error a → ∀ d', WX (bad CT ln (a + 1)) [.own p (rowO CA ln t d'), .dat (.list (ls.map PyData.str))]) →
      VSs X ((defBody sReadTold).drop 4) [.own p (rowO CA ln t d3), .dat (.list (ls.map PyData.str)), .dat (.str ks), .dat pt, .dat bd, .no] (finX [.own p (rowO CA ln t d), .dat (.list (ls.map PyData.str))] W WX) := fun d1 ks pt bd d3 hd3 w wx => by
    unfold mTold3 at w wx
    refine vss_cons (vs_if (vt_neS (vd_name C (by walk_at "at") rfl (vd_str ?_))))
    refine ⟨_, _, rfl, rfl, fun z => ?_, fun z => ?_⟩
    · have z1 : ¬ ks = "over" := by simpa using z
      rw [if_neg z1] at w wx
      refine vss_cons (vs_exprE (ve_meth C R.cl FW (by walk_at "at") rfl (by walk_at "no") (vex_cons (ve_of ?_))))
      walk_at "vv"
      refine ⟨by show 1 ≤ 1000; decide, vex_nil ?_⟩
      refine ⟨⟨_, rfl⟩, rfl, ⟨⟨_, _, rfl⟩, trivial⟩, rfl, p, ln, t, d3, [.tuple ([("delay" : Str)].map PyData.str)], _, rfl, hln, ht, hd3, fWord_at, fun v4 d4 h4 k4 => ?_, fun a h4 d4 => ?_⟩
      · rw [h4] at w wx
        simp only [rb_ok] at w wx
        refine vss_one (vs_ret (vd_tup (va_cons (vd_name C (by walk_at "at") rfl (va_cons (vd_name C (by walk_at "at") rfl (va_cons (vd_name C (by walk_at "at") rfl (va_nil ?_)))))))))
        exact ⟨by show 3 ≤ 1000; decide, ⟨rfl, trivial⟩, w _ _ rfl k4⟩
      · rw [h4] at wx
        exact ⟨⟨rfl, trivial⟩, wx _ rfl d4⟩
    · have z1 : ks = "over" := by simpa using z
      rw [if_pos z1] at w wx
      refine vss_nil ?_
      refine vss_cons (vs_setE C (by walk_at "at") (ve_eqS (ve_meth C R.cl FW (by walk_at "at") rfl (by walk_at "no") (vex_cons (ve_of ?_)))))
      walk_at "vv"
      refine ⟨by show 2 ≤ 1000; decide, vex_nil ?_⟩
      refine ⟨⟨_, rfl⟩, rfl, ⟨⟨_, _, rfl⟩, trivial⟩, rfl, p, ln, t, d3, [.tuple ([("forward" : Str), "delay"].map PyData.str)], _, rfl, hln, ht, hd3, fWord_at, fun v4 d4 h4 k4 => ?_, fun a h4 d4 => ?_⟩
      · rw [h4] at w wx
        simp only [rb_ok] at w wx
        obtain ⟨ev, _⟩ := mWord_ok h4
        refine vd_str ⟨strOf v4, _, ev, rfl, ?_⟩
        show VSs X _ [.own p (rowO CA ln t d4), .dat (.list (ls.map PyData.str)), .dat (.str ks), .dat pt, .dat bd, .dat (.bool (decide (strOf v4 = "forward")))] _
        refine vss_cons (vs_if (vt_val (vd_name C (by walk_at "at") rfl ⟨_, rfl, fun y => ?_, fun y => ?_⟩)))
        · rw [if_pos (of_decide_eq_true y)] at w wx
          rw [y]
          refine vss_one (vs_exprE (ve_meth C R.cl FW (by walk_at "at") rfl (by walk_at "no") (vex_cons (ve_of ?_))))
          walk_at "vv"
          refine ⟨by show 1 ≤ 1000; decide, vex_nil ?_⟩
          refine ⟨⟨_, rfl⟩, rfl, ⟨⟨_, _, rfl⟩, trivial⟩, rfl, p, ln, t, d4, [.tuple ([("delay" : Str)].map PyData.str)], _, rfl, hln, ht, k4, fWord_at, fun v5 d5 h5 k5 => ?_, fun a h5 d5 => ?_⟩
          · rw [h5] at w wx
            simp only [rb_ok] at w wx
            refine vss_one (vs_ret (vd_tup (va_cons (vd_name C (by walk_at "at") rfl (va_cons (vd_name C (by walk_at "at") rfl (va_cons (vd_name C (by walk_at "at") rfl (va_cons (vd_name C (by walk_at "at") rfl (va_nil ?_)))))))))))
            exact ⟨by show 4 ≤ 1000; decide, ⟨rfl, trivial⟩, w _ _ rfl k5⟩
          · rw [h5] at wx
            exact ⟨⟨rfl, trivial⟩, wx _ rfl d5⟩
        · rw [if_neg (of_decide_eq_false y)] at w wx
          rw [y]
          refine vss_nil (vss_one (vs_ret (vd_tup (va_cons (vd_name C (by walk_at "at") rfl (va_cons (vd_name C (by walk_at "at") rfl (va_cons (vd_name C (by walk_at "at") rfl (va_cons (vd_name C (by walk_at "at") rfl (va_nil ?_))))))))))))
          exact ⟨by show 4 ≤ 1000; decide, ⟨rfl, trivial⟩, w _ _ rfl k4⟩
      · rw [h4] at wx
        exact ⟨⟨rfl, trivial⟩, wx _ rfl d4⟩
  have t2 : ∀ (ks : Str) pt d2, d2 ≤ t.length → (∀ v d', mTold2 t ks pt d2 = .ok (v, d') → d' ≤ t.length → W v [.own p (rowO CA ln t d'), .dat (.list (ls.map PyData.str))]) → (∀ a, mTold2 t ks pt d2 = .error a → ∀ d', WX (bad CT ln (a + 1)) [.own p (rowO CA ln t d'), .dat (.list (ls.map PyData.str))]) →
      VSs X ((defBody sReadTold).drop 2) [.own p (rowO CA ln t d2), .dat (.list (ls.map PyData.str)), .dat (.str ks), .dat pt, .no, .no] (finX [.own p (rowO CA ln t d), .dat (.list (ls.map PyData.str))] W WX) := fun ks pt d2 hd2 w wx => by
    unfold mTold2 at w wx
    refine vss_cons (vs_if (vt_eqS (vd_name C (by walk_at "at") rfl (vd_str ?_))))
    refine ⟨_, _, rfl, rfl, fun z => ?_, fun z => ?_⟩
    · rw [if_pos (of_decide_eq_true z)] at w wx
      refine vss_cons (vs_exprE (ve_meth C R.cl FW (by walk_at "at") rfl (by walk_at "no") (vex_cons (ve_of ?_))))
      walk_at "vv"
      refine ⟨by show 1 ≤ 1000; decide, vex_nil ?_⟩
      refine ⟨⟨_, rfl⟩, rfl, ⟨⟨_, _, rfl⟩, trivial⟩, rfl, p, ln, t, d2, [.tuple ([("delay" : Str)].map PyData.str)], _, rfl, hln, ht, hd2, fWord_at, fun v4 d4 h4 k4 => ?_, fun a h4 d4 => ?_⟩
      · rw [h4] at w wx
        simp only [rb_ok] at w wx
        refine vss_one (vs_ret (vd_tup (va_cons (vd_name C (by walk_at "at") rfl (va_cons (vd_name C (by walk_at "at") rfl (va_nil ?_)))))))
        exact ⟨by show 2 ≤ 1000; decide, ⟨rfl, trivial⟩, w _ _ rfl k4⟩
      · rw [h4] at wx
        exact ⟨⟨rfl, trivial⟩, wx _ rfl d4⟩
    · rw [if_neg (of_decide_eq_false z)] at w wx
      refine vss_nil ?_
      refine vss_cons (vs_setE C (by walk_at "at") (ve_meth0 C R.cl FQ (by walk_at "at") rfl (by walk_at "no") ⟨p, ln, t, d2, [], _, rfl, hln, ht, hd2, rfl, fun v3 d3 h3 k3 => ?_, fun a h3 d3 => ?_⟩))
      · rw [h3] at w wx
        simp only [rb_ok] at w wx
        exact t3 0 ks pt v3 d3 k3 w wx
      · rw [h3] at wx
        exact ⟨⟨rfl, trivial⟩, wx _ rfl d3⟩
  -- kind
  refine vss_cons (vs_setE C (by walk_at "at") (ve_meth C R.cl FW (by walk_at "at") rfl (by walk_at "no") (vex_cons (ve_of ?_))))
  walk_at "vv"
  refine ⟨by show 4 ≤ 1000; decide, vex_nil ?_⟩
  refine ⟨⟨_, rfl⟩, rfl, ⟨⟨_, _, rfl⟩, trivial⟩, rfl, p, ln, t, d, [.tuple ([("over" : Str), "reach", "difference", "behind"].map PyData.str)], _, rfl, hln, ht, hd, fWord_at, fun kd d1 h1 k1 => ?_, fun a h1 d1 => ?_⟩
  · rw [h1] at w wx
    simp only [rb_ok] at w wx
    obtain ⟨ek, mk⟩ := mWord_ok h1
    generalize hks : strOf kd = ks at *
    subst ek
    show VSs X _ [.own p (rowO CA ln t d1), .dat (.list (ls.map PyData.str)), .dat (.str ks), .no, .no, .no] _
    refine vss_cons (vs_setE C (by walk_at "at") (ve_if (vt_eqS (vd_name C (by walk_at "at") rfl (vd_str ?_)))))
    refine ⟨_, _, rfl, rfl, fun z => ?_, fun z => ?_⟩
    · rw [if_pos (of_decide_eq_true z)] at w wx
      refine ve_meth0 C R.cl FN (by walk_at "at") rfl (by walk_at "no") ⟨p, ln, t, d1, [], _, rfl, hln, ht, k1, rfl, fun v2 d2 h2 k2 => ?_, fun a h2 d2 => ?_⟩
      · rw [h2] at w wx
        simp only [rb_ok] at w wx
        exact t2 ks v2 d2 k2 w wx
      · rw [h2] at wx
        exact ⟨⟨rfl, trivial⟩, wx _ rfl d2⟩
    · rw [if_neg (of_decide_eq_false z)] at w wx
      refine ve_meth C R.cl FB (by walk_at "at") rfl (by walk_at "no") (vex_cons (ve_of (vd_name C (by walk_at "at") rfl (vex_nil ?_))))
      refine ⟨⟨_, rfl⟩, rfl, ⟨⟨_, _, rfl⟩, trivial⟩, rfl, p, ln, t, d1, [.list (ls.map PyData.str)], _, rfl, hln, ht, k1, (by show (strs? _).map _ = _; rw [strs_map]; rfl), fun v2 d2 h2 k2 => ?_, fun a h2 d2 => ?_⟩
      · rw [h2] at w wx
        simp only [rb_ok] at w wx
        exact t2 ks v2 d2 k2 w wx
      · rw [h2] at wx
        exact ⟨⟨rfl, trivial⟩, wx _ rfl d2⟩
  · rw [h1] at wx
    exact ⟨⟨rfl, trivial⟩, wx _ rfl d1⟩
end


open PySem PySem.Spec PyProof.Rows L2 Vc
/-! ### read_guard -/
def brOf : D → Br
  | .tuple [.str z, .int e] => (z, e)
  | _ => ("", 0)
theorem skip_ge {t : List Nat} {d : Nat} : d ≤ skip t d := by unfold skip; omega
theorem mBreaker_ok {t : List Nat} {d d' : Nat} {ls : List Str} {v : D} (h : mBreaker t d ls = .ok (v, d')) : v = brD (brOf v) ∧ d < d' := by
  have hs := skip_ge (t := t) (d := d)
  unfold mBreaker at h
  split at h
  · cases h
  · split at h
    · rename_i q1 q2
      have hl : 1 ≤ (tk signsS t (skip t d)).length := by
        unfold nameS at q2
        rw [Bool.and_eq_true, decide_eq_true_eq, sT_len] at q2
        exact q2.1
      unfold mBr2 at h
      split at h
      · cases h
      · split at h
        · split at h
          · split at h
            · cases h
              exact ⟨rfl, by omega⟩
            · cases h
          · split at h
            · cases h
              exact ⟨rfl, by omega⟩
            · cases h
        · cases h
    · cases h
def mOpens (t : List Nat) (ls : List Str) : Nat → Nat → List Br → Except Nat (List Br × Nat)
  | 0, d, acc => .ok (acc, d)
  | f + 1, d, acc => if skip t d = t.length then .ok (acc, skip t d) else match mBreaker t (skip t d) ls with
    | .ok (v, d') => mOpens t ls f d' (acc ++ [brOf v])
    | .error a => .error a
def orb (r : RR) (k : D → Nat → Option RR) : Option RR := match r with
  | .ok (v, d) => k v d
  | .error a => some (.error a)
theorem orb_ok {v : D} {d : Nat} {k : D → Nat → Option RR} : orb (.ok (v, d)) k = k v d := rfl
theorem orb_err {a : Nat} {k : D → Nat → Option RR} : orb (.error a) k = some (.error a) := rfl
def mGuardEnd (nm told dl : D) (r : Except Nat (List Br × Nat)) : Option RR := match r with
  | .ok (bs, d) => if bs.length < 64 then some (.ok (.tuple [nm, told, dl, .tuple ((sortB bs).map brD)], d)) else none
  | .error a => some (.error a)
def mGuard (t : List Nat) (d : Nat) (ls : List Str) : Option RR :=
  orb (mName t d) fun nm d => orb (mTold t d ls) fun told d => orb (mNumber t d) fun dl d => orb (mWord t d ["opens"]) fun _ d => orb (mBreaker t d ls) fun b d => mGuardEnd nm told dl (mOpens t ls (t.length + 1) d [brOf b])
section
variable {M : Md} {f CA CT : Addr} {fd : FuncData} {nm : Str}
theorem fReadGuard (R : RowTxt M.K CA) (ms : M.mg "sorted" = none) (mt : M.mg "tuple" = none) (FO : FnMt M 1 CA "is_over" 1 (SRow CA CT fOver)) (FW : FnMt M 4 CA "read_word" 2 (SRow CA CT fWord)) (FN : FnMt M 5 CA "read_name" 1 (SRow CA CT fun t d _ => some (mName t d))) (FB : FnMt M 5 CA "read_breaker" 2 (SRow CA CT fRBrk)) (FM : FnMt M 4 CA "read_number" 1 (SRow CA CT fun t d _ => some (mNumber t d)))
    (FT : FnX M 6 "read_told" 2 (SRow CA CT (fRd fun t d ls => some (mTold t d ls))))
    (F : Fun M.K "read_guard" "read_guard" sReadGuard f fd) (hm : M.mg "read_guard" = some (.ref f)) (b : L2.Binds M.K fd ["row", "lines"] []) : FnX M 7 "read_guard" 2 (SRow CA CT (fRd mGuard)) := by
  refine fnXT_mk (k := 6) (NK := nkReadGuard) (G := gReadGuard) F scReadGuard hm b rfl (by decide +kernel) rfl (by decide) fun X C tp as W WX hl hS => ?_
  obtain ⟨p, ln, t, d, ds, r, rfl, hln, ht, hd, hf, w, wx⟩ := hS
  obtain ⟨ls, rfl, hg⟩ := fRd_inv hf
  show VSs X _ [.own p (rowO CA ln t d), .dat (.list (ls.map PyData.str)), .no, .no, .no, .no] _
  unfold mGuard at hg
  refine vss_cons (vs_setE C (by walk_at "at") (ve_meth0 C R.cl FN (by walk_at "at") rfl (by walk_at "no") ⟨p, ln, t, d, [], _, rfl, hln, ht, hd, rfl, fun v1 d1 h1 k1 => ?_, fun a h1 d1 => ?_⟩))
  · rw [h1, orb_ok] at hg
    show VSs X _ [.own p (rowO CA ln t d1), .dat (.list (ls.map PyData.str)), .dat v1, .no, .no, .no] _
    refine vss_cons (vs_setE C (by walk_at "at") (ve_callX C FT (by walk_at "at") (vex_own C (by walk_at "at") rfl (vex_cons (ve_of (vd_name C (by walk_at "at") rfl (vex_nil ?_)))))))
    refine ⟨rfl, ⟨⟨_, _, rfl⟩, trivial⟩, rfl, p, ln, t, d1, [.list (ls.map PyData.str)], _, rfl, hln, ht, k1, fRd_at, fun v2 d2 h2 k2 => ?_, fun a h1 d1 => ?_⟩
    · rw [h2, orb_ok] at hg
      show VSs X _ [.own p (rowO CA ln t d2), .dat (.list (ls.map PyData.str)), .dat v1, .dat v2, .no, .no] _
      refine vss_cons (vs_setE C (by walk_at "at") (ve_meth0 C R.cl FM (by walk_at "at") rfl (by walk_at "no") ⟨p, ln, t, d2, [], _, rfl, hln, ht, k2, rfl, fun v3 d3 h3 k3 => ?_, fun a h1 d1 => ?_⟩))
      · rw [h3, orb_ok] at hg
        show VSs X _ [.own p (rowO CA ln t d3), .dat (.list (ls.map PyData.str)), .dat v1, .dat v2, .dat v3, .no] _
        refine vss_cons (vs_exprE (ve_meth C R.cl FW (by walk_at "at") rfl (by walk_at "no") (vex_cons (ve_of ?_))))
        walk_at "vv"
        refine ⟨by show 1 ≤ 1000; decide, vex_nil ?_⟩
        refine ⟨⟨_, rfl⟩, rfl, ⟨⟨_, _, rfl⟩, trivial⟩, rfl, p, ln, t, d3, [.tuple ([("opens" : Str)].map PyData.str)], _, rfl, hln, ht, k3, fWord_at, fun v4 d4 h4 k4 => ?_, fun a h1 d1 => ?_⟩
        · rw [h4, orb_ok] at hg
          show VSs X _ [.own p (rowO CA ln t d4), .dat (.list (ls.map PyData.str)), .dat v1, .dat v2, .dat v3, .no] _
          refine vss_cons (vs_lstE C (by walk_at "at") (by show 5 < 6; decide) (vea_cons (ve_meth C R.cl FB (by walk_at "at") rfl (by walk_at "no") (vex_cons (ve_of (vd_name C (by walk_at "at") rfl (vex_nil ?_)))))))
          refine ⟨⟨_, rfl⟩, rfl, ⟨⟨_, _, rfl⟩, trivial⟩, rfl, p, ln, t, d4, [.list (ls.map PyData.str)], _, rfl, hln, ht, k4, (by show (strs? _).map _ = _; rw [strs_map]; rfl), fun v5 d5 h5 k5 => ?_, fun a h1 d1 => ?_⟩
          · rw [h5, orb_ok] at hg
            obtain ⟨e5, l5⟩ := mBreaker_ok h5
            refine vea_nil ⟨by show 1 ≤ 1000; decide, fun z => ?_⟩
            have e6 : ([v5] : List D) = [brOf v5].map brD := by rw [e5]; rfl
            rw [e6]
            show VSs X _ [.own p (rowO CA ln t d5), .dat (.list (ls.map PyData.str)), .dat v1, .dat v2, .dat v3, .own z (.l ([brOf v5].map brD))] _
            refine vss_cons (vs_while C (fun m ρ => ∃ (d6 : Nat) (bs : List Br), ρ = [.own p (rowO CA ln t d6), .dat (.list (ls.map PyData.str)), .dat v1, .dat v2, .dat v3, .own z (.l (bs.map brD))] ∧ d6 ≤ t.length ∧ t.length - d6 < m ∧ bs.length + m ≤ 1010 ∧ mGuardEnd v1 v2 v3 (mOpens t ls m d6 bs) = some r) (t.length + 1) ⟨d5, _, rfl, k5, by omega, by show 1 + _ ≤ _; omega, hg⟩ fun m ρ' ⟨d6, bs, hρ, k6, hm6, hb6, hg6⟩ => ?_)
            subst hρ
            obtain ⟨m, rfl⟩ : ∃ m', m = m' + 1 := ⟨m - 1, by omega⟩
            unfold mOpens at hg6
            refine vt_not (vt_val (vd_no (ve_meth0 C R.cl FO (by walk_at "at") rfl (by walk_at "no") ⟨p, ln, t, d6, [], _, rfl, hln, ht, k6, rfl, fun v7 d7 h7 k7 => ?_, fun _ h => (by cases h)⟩)))
            cases h7
            refine ⟨_, rfl, fun e => ?_, fun e => ?_⟩
            · have e' : ¬ skip t d6 = t.length := by simpa using e
              rw [if_neg e'] at hg6
              refine vss_one (vs_appendE C (by walk_at "at") rfl (ve_meth C R.cl FB (by walk_at "at") rfl (by walk_at "no") (vex_cons (ve_of (vd_name C (by walk_at "at") rfl (vex_nil ?_))))))
              refine ⟨⟨_, rfl⟩, rfl, ⟨⟨_, _, rfl⟩, trivial⟩, rfl, p, ln, t, skip t d6, [.list (ls.map PyData.str)], _, rfl, hln, ht, k7, (by show (strs? _).map _ = _; rw [strs_map]; rfl), fun v8 d8 h8 k8 => ?_, fun a h1 d1 => ?_⟩
              · rw [h8] at hg6
                obtain ⟨e8, l8⟩ := mBreaker_ok h8
                have hsk := skip_ge (t := t) (d := d6)
                refine ⟨bs.map brD, rfl, by rw [List.length_map]; omega, m, by omega, d8, bs ++ [brOf v8], ?_, k8, by omega, by rw [List.length_append]; show _ + 1 + _ ≤ _; omega, hg6⟩
                rw [List.map_append]
                show _ = [_, _, _, _, _, Sl.own z (.l (bs.map brD ++ [brD (brOf v8)]))]
                rw [← e8]
                rfl
              · rw [h1] at hg6
                cases hg6
                exact ⟨⟨rfl, trivial⟩, wx _ rfl d1⟩
            · have e' : skip t d6 = t.length := by simpa using e
              rw [if_pos e'] at hg6
              obtain ⟨l64, rfl⟩ : bs.length < 64 ∧ r = .ok (.tuple [v1, v2, v3, .tuple ((sortB bs).map brD)], skip t d6) := by
                have hg7 : (if bs.length < 64 then some (.ok (.tuple [v1, v2, v3, .tuple ((sortB bs).map brD)], skip t d6)) else none) = some r := hg6
                split at hg7
                · rename_i q
                  cases hg7
                  exact ⟨q, rfl⟩
                · cases hg7
              show VSs X _ [.own p (rowO CA ln t (skip t d6)), .dat (.list (ls.map PyData.str)), .dat v1, .dat v2, .dat v3, .own z (.l (bs.map brD))] _
              refine vss_frz (i := 5) rfl ?_
              show VSs X _ [.own p (rowO CA ln t (skip t d6)), .dat (.list (ls.map PyData.str)), .dat v1, .dat v2, .dat v3, .dat (.list (bs.map brD))] _
              refine vss_one (vs_ret (vd_tup (va_cons (vd_name C (by walk_at "at") rfl (va_cons (vd_name C (by walk_at "at") rfl (va_cons (vd_name C (by walk_at "at") rfl (va_cons (vd_tupleN C (by walk_at "at") (vn_sortBr C (by walk_at "at") (vd_name C (by walk_at "at") rfl ?_))))))))))))
              refine ⟨bs, rfl, l64, fun bs' hp ha => va_nil ⟨by show 4 ≤ 1000; decide, ⟨rfl, trivial⟩, ?_⟩⟩
              rw [sortB_uniq hp ha]
              exact w _ _ rfl k7
          · rw [h1, orb_err] at hg
            cases hg
            exact ⟨⟨rfl, trivial⟩, wx _ rfl d1⟩
        · rw [h1, orb_err] at hg
          cases hg
          exact ⟨⟨rfl, trivial⟩, wx _ rfl d1⟩
      · rw [h1, orb_err] at hg
        cases hg
        exact ⟨⟨rfl, trivial⟩, wx _ rfl d1⟩
    · rw [h1, orb_err] at hg
      cases hg
      exact ⟨⟨rfl, trivial⟩, wx _ rfl d1⟩
  · rw [h1, orb_err] at hg
    cases hg
    exact ⟨⟨rfl, trivial⟩, wx _ rfl d1⟩
end

end K7

/-! Vc, part dG: slots that no name of the scope sees: they bear things that stand in others. -/
namespace Vc
open PySem PySem.Spec PyProof.Rows L2
open Evl (Ex)

/-- more is said of slots that nobody sees -/
structure More (X : Cx) (σ σ' : L2.St) : Prop where
  len : σ'.length = σ.length
  vis : ∀ (i : Nat) x v, X.N[i]? = some x → σ'[i]? = some (some v) → Vis X.env.scope x → σ[i]? = some (some v)
theorem More.refl {X : Cx} {σ : L2.St} : More X σ σ := ⟨rfl, fun _ _ _ _ h _ => h⟩
theorem More.trans {X : Cx} {σ σ' σ'' : L2.St} (h : More X σ σ') (k : More X σ' σ'') : More X σ σ'' := ⟨k.len.trans h.len, fun i x v h1 h2 h3 => h.vis i x v h1 (k.vis i x v h1 h2 h3) h3⟩
theorem More.inv {X : Cx} {pins : List (Addr × Obj)} {σ σ' : L2.St} {H : Hp} {s : Shared} (m : More X σ σ') (I : Inv X pins σ H s) : Inv X pins σ' H s :=
  ⟨I.ok, I.os, I.bare, I.base, (let ⟨n, hn, h⟩ := I.loc; ⟨n, hn, fun i x v h1 h2 h3 => h i x v h1 (m.vis i x v h1 h2 h3) h3⟩), I.cell, I.free, I.freeC, I.pin, I.hok, by rw [m.len]; exact I.len⟩
theorem More.set {X : Cx} {σ : L2.St} {i : Nat} {y : Str} {v : V} (hN : X.N[i]? = some y) (hv : ¬ Vis X.env.scope y) : More X σ (σ.set i (some v)) := ⟨by rw [List.length_set], fun j x w h1 h2 h3 => by
  by_cases e : i = j
  · subst e
    rw [hN] at h1
    cases h1
    exact absurd h3 hv
  · rw [List.getElem?_set_ne e] at h2
    exact h2⟩
theorem ss_more {X : Cx} {sts : List Stmt} {Z : Ends} {σ σ' : L2.St} {H : Hp} (m : More X σ σ') (q : ssSem X sts Z σ' H) : ssSem X sts Z σ H := fun pins s I => q pins s (m.inv I)
/-- behind a row more may be said -/
theorem s_more {X : Cx} {st : Stmt} {Z : Ends} {σ : L2.St} {H : Hp} (q : sSem X st { Z with nx := fun σ1 H1 => ∃ σ2, More X σ1 σ2 ∧ Z.nx σ2 H1 } σ H) : sSem X st Z σ H := fun pins s I => by
  refine wpAny_mono (q pins s I) (fun fl s' h => ?_) fun e s' h => h
  cases fl with
  | next =>
    obtain ⟨σ1, H1, I1, σ2, m, z⟩ := h
    exact ⟨σ2, H1, m.inv I1, z⟩
  | brk => exact h
  | cont => exact h
  | ret v => exact h

/-! ### defs that are told of things beside their arguments -/
def DSg (K : Kw) (n m : Nat) (S : SX) : Sp := fun vs H Q E => vs.length = n ∧ ∃ gs : List V, gs.length = m ∧ DSx K (n + m) S (vs ++ gs) H Q E
structure FnG (M : Md) (j : Nat) (x : Str) (n m : Nat) (S : SX) : Prop where
  ex : ∃ f fd ps, FnOk M.prog M.w M.K M.mg M.base (L2.CX M.prog M.w) j f fd ps (DSg (kwM M) n m S) ∧ M.mg x = some (.ref f) ∧ PySem.W.keepIn M.K (.ref f) = true ∧ Binds M.K fd ps []
def unseen (sc : Scope) (ys : List Str) : Bool := ys.all fun y => (sc.names.lookup y).isNone
theorem unseen_vis {sc : Scope} {ys : List Str} (h : unseen sc ys = true) {y : Str} (hy : y ∈ ys) : ¬ Vis sc y := fun v => by
  have := List.all_eq_true.mp h y hy
  rcases v with v | v | v <;> rw [v] at this <;> cases this
section
variable {M : Md} {x : Str} {st : Stmt} {f : Addr} {fd : FuncData} {N ps : List Str} {NK : List (Str × Bool × Bool)} {G : List Str} {k n m : Nat}
theorem fnG_mk {S : SX} (F : Fun M.K x x st f fd) (Sc : FnScope N ps (defScope st)) (hm : M.mg x = some (.ref f)) (b : Binds M.K fd ps []) (hN : N = NK.map (·.1)) (hc : chk (defScope st) true NK G = true) (hn : ps.length = n) (hnN : n + m ≤ N.length) (hg : unseen (defScope st) ((N.drop n).take m) = true)
    (body : ∀ X, Cst X M (defScope st) NK G k → Top X → ∀ as W WX, as.length = n + m → S as W WX → VSs X (defBody st) (as ++ List.replicate (N.length - (n + m)) Sl.no) (finX as W WX)) : FnG M (k + 1) x n m S := by
  refine ⟨f, fd, ps, ?_, hm, F.kp, b⟩
  refine F.okX Sc (fun vs H Q E h => h.1.trans hn.symm) (fun cdv A outer s H vs Q E hr h => ?_)
  obtain ⟨hvs, gs, hgs, B, as, W, WX, r, hl, hS, q1, q2⟩ := h
  have C : Cst (cxOf (L2.CX M.prog M.w) M.prog M.w M.K M.mg M.base N x (defScope st) f cdv A outer s H E) M (defScope st) NK G k := cst_defX hN Sc.nd hc hr
  refine ⟨_, pss_sem, ?_⟩
  have bd := body _ C ⟨rfl, rfl⟩ as W WX hl hS
  have r0 := rel_startX (N := N) r (by omega)
  rw [hl] at r0
  refine ss_more (σ' := L2.start N (vs ++ gs)) ⟨?_, fun i y v h1 h2 h3 => ?_⟩ ?_
  · unfold L2.start
    simp only [List.length_append, List.length_map, List.length_replicate, hvs, hgs]
    omega
  · have hy : N[i]? = some y := h1
    by_cases hi : i < n
    · unfold L2.start at h2 ⊢
      rw [List.getElem?_append_left (by rw [List.length_map, List.length_append]; omega), List.getElem?_map, List.getElem?_append_left (by omega)] at h2
      rw [List.getElem?_append_left (by rw [List.length_map]; omega), List.getElem?_map]
      exact h2
    · by_cases hi2 : i < n + m
      · refine absurd h3 (unseen_vis hg (y := y) ?_)
        have : ((N.drop n).take m)[i - n]? = some y := by
          rw [List.getElem?_take_of_lt (by omega), List.getElem?_drop, show n + (i - n) = i by omega]
          exact hy
        exact List.mem_of_getElem? this
      · unfold L2.start at h2
        rw [List.getElem?_append_right (by rw [List.length_map, List.length_append]; omega), List.getElem?_replicate] at h2
        split at h2 <;> cases h2
  refine bd.run B H _ ⟨_, fun c d σ H => E c d H, takes_of rfl rfl rfl rfl⟩ r0 ⟨fun B' H' σ' ρ' p g r' => ?_, fun v dd B' H' σ' ρ' p dv g r' => ?_, fun _ _ _ _ p => p.elim, fun _ _ _ _ p => p.elim, fun c d B' H' σ' ρ' p kk g r' => ?_⟩
  · obtain ⟨g1, r1⟩ := back_out r p.1 g r'
    exact q1 .non .none B' H' _ p.2 (end_upd p.1) .non g1 r1
  · obtain ⟨g1, r1⟩ := back_out r p.1 g r'
    exact q1 v dd B' H' _ p.2 (end_upd p.1) dv g1 r1
  · obtain ⟨g1, r1⟩ := back_out r p.1 g r'
    exact q2 c d B' H' _ p.2 kk (end_upd p.1) g1 r1
end
section
variable {X : Cx} {M : Md} {sc : Scope} {NK : List (Str × Bool × Bool)} {G : List Str} {k : Nat} {ρ : En} {P : D → En → Prop} {E : Er → En → Prop} {pos : Pos} {a b e : Expr} {es : List Expr} {x : Str} {F : Fin}
/-- the values of own slots -/
theorem own_vals {K : Kw} {B H : Hp} {σ : L2.St} {ρ : En} (r : Rel K B H σ ρ) : ∀ {gars : List Ar}, (∀ a ∈ gars, ∃ i, a = .ow i) → ownAll ρ gars → ∃ gs : List V, Paired (ArOk K.K B σ) gs gars
  | [], _, _ => ⟨[], .nil⟩
  | .ow i :: r', h, ⟨⟨a, o, ho⟩, q⟩ => by
    obtain ⟨gs, hg⟩ := own_vals (gars := r') r (fun a ha => h a (List.mem_cons_of_mem _ ha)) q
    exact ⟨.ref a :: gs, .cons (show ArOk K.K B σ (.ref a) (.ow i) from (r.own i a o ho).1) hg⟩
  | .da d :: r', h, _ => by
    obtain ⟨i, e⟩ := h (.da d) List.mem_cons_self
    cases e
theorem ownAll_split {ρ : En} : ∀ {a b : List Ar}, ownAll ρ (a ++ b) → ownAll ρ b
  | [], _, h => h
  | .ow _ :: a, _, h => ownAll_split (a := a) h.2
  | .da _ :: a, _, h => ownAll_split (a := a) h
/-- f(..) as a row, f told of things beside -/
theorem vs_callG (C : Cst X M sc NK G k) {j n m : Nat} {S : SX} {i : Nat} {p spos : Pos} (Fn : FnG M j x n m S) (hg : At G i x) (h : VX X (e :: es) ρ fun ars ρ1 => ars.length = n ∧ ∃ gars, gars.length = m ∧ (∀ a ∈ gars, ∃ i, a = Ar.ow i) ∧ calls S (n + m) ρ1 (ars ++ gars) (fun _ => F.nx) F.ex) (hj : j ≤ k := by decide)
    (hs : swapsWith (.Call (.Name x p) (e :: es) [] pos) none spos.line X.env = pure false := by rfl) (hdb : (x == ("__debug__" : Str)) = false := by decide) (he : starEach (e :: es) X.env = (false, eval e X.env) :: starEach es X.env := by rfl) (hpl : (backTo pos (starEach es X.env)).any (·.1) = false := by rfl) : VS X (.Expr (.Call (.Name x p) (e :: es) [] pos) spos) ρ F := VS.mk fun B H σ Z r f => by
  have eM := C.m
  subst eM
  obtain ⟨fa, fd, ps, Fo, hm, hk, hb⟩ := Fn.ex
  refine PS.sem (ps_expr (pe_callS (E := WE Z.e) Fo (C.room.mono hj) (C.g hg) hm hk hb (fun σ => passAt Z.tk σ) pa_sem hdb he hpl) hs) ?_
  refine h.run B H σ _ r fun vs ars B1 H1 ρ1 ⟨hn, gars, hgl, hgo, c1, c2, c3, c4⟩ pr g1 r1 => ?_
  obtain ⟨gs, pg⟩ := own_vals r1 hgo (ownAll_split c2)
  have pr2 := pair_join pr pg
  refine ⟨by rw [Paired.length pr]; exact hn, gs, by rw [Paired.length pg]; exact hgl, B1, _, _, _, rel_args r1 pr2 c1 c2, by rw [List.length_map]; exact c3, c4, fun v d B2 H2 as' w u dv g2 r2 => ?_, fun c1 dx B2 H2 as' w k2 u g2 r2 => ?_⟩
  · obtain ⟨g3, r3⟩ := rel_back r1 pr2 c2 u g2 r2
    exact f.nx B2 H2 σ _ w (g1.trans g3) r3
  · obtain ⟨g3, r3⟩ := rel_back r1 pr2 c2 u g2 r2
    exact f.ex c1 dx B2 H2 σ _ w k2 (g1.trans g3) r3
end

open PySem PySem.Spec PyProof.Rows L2
open Evl (Ex)

/-! ### the keys of a written dict -/
/-- the texts that stand as keys of the written dict at d, in their order -/
structure KKeys (K : PySem.W.Frag) (d : Addr) (zs : List Str) : Prop where
  ex : ∃ es n, K.lookup d = some ⟨.type "dict", none, .dict es n, #[]⟩ ∧ (d == sysModules) = false ∧ es.size = zs.length ∧ ∀ (i : Nat) z, zs[i]? = some z → ∃ en t, es[i]? = some en ∧ en.key = .str z t
def Itw (zs : List Str) : It := ⟨fun i _ => i < zs.length, fun i H x H' => H' = H ∧ ∃ z, zs[i]? = some z ∧ x = V.str z, fun i _ => zs.length ≤ i⟩
theorem turn_keysW {P : Program} {w : World} {K : PySem.W.Frag} {tg : Expr} {d : Addr} {es : Array DictEntry} {ep : Nat} {zs : List Str} (it : Addr) (hl : K.lookup d = some ⟨.type "dict", none, .dict es ep, #[]⟩) (hsz : es.size = zs.length) (hk : ∀ (i : Nat) z, zs[i]? = some z → ∃ en t, es[i]? = some en ∧ en.key = .str z t) :
    Turn P w K tg (Itw zs) [it] it (fun i h => h.IsKeyIter it d i zs.length ep) where
  mem := by simp
  obj := fun i h st b hb => by
    have e : b = it := by simpa using hb
    subst e
    obtain ⟨oi, e, c, dd⟩ := st
    exact ⟨oi, e, fun v z => by rw [dd] at z; cases z⟩
  keep := fun i h h' st k => st.at fun oi e => k it (by simp) oi e
  item := by
    intro X hP hw hK hc i pins s σ H E I hf st hg
    subst hP hw hK
    have hi : i < zs.length := hg
    obtain ⟨f0, f1, f2, f3, f4, f5⟩ := hf it (by simp)
    obtain ⟨z, hz⟩ : ∃ z, zs[i]? = some z := ⟨zs[i], List.getElem?_eq_getElem hi⟩
    obtain ⟨en, t, hen, hkey⟩ := hk i z hz
    refine next_key_item st (I.kIn d _ hl) rfl hsz hen fun h' st' sb => ?_
    have I1 : Inv X pins σ H { s with heap := h' } := I.turned (t' := s.toks) (fun b ob hb e => (sb.2 b hb).trans e) f0 f1 f3 f4 f5
    obtain ⟨oi, e, c, dd⟩ := id st'
    refine ⟨en.key, rfl, go_of (s := { s with heap := h' }) e c dd (by decide) ⟨.str z, H, I1, ?_, ⟨rfl, z, hz, rfl⟩, st', fun b hb => (hf b hb).1⟩⟩
    rw [hkey]
    exact ⟨t, rfl⟩
  done := by
    intro X hP hw hK hc i pins s σ H E I hf st hg
    subst hP hw hK
    obtain ⟨f0, f1, f2, f3, f4, f5⟩ := hf it (by simp)
    exact next_key_end (I.ok.hd hc) st (I.kIn d _ hl) rfl hsz hg fun h' eb => ⟨rfl, I.turned (t' := s.toks) (fun b ob hb e => eb b ob hb e) f0 f1 f3 f4 f5⟩
  self := fun A i s Q E st h => wpAny_pyIter_keyiter st h
def iKeysW (K : PySem.W.Frag) (td : TE) : TI := fun σ H R => td σ H fun x H1 => ∃ d zs, x = .ref d ∧ KKeys K d zs ∧ R (Itw zs) H1
theorem pi_keysW {X : Cx} {tg e : Expr} {td : TE} (he : PE X e td) : PI X tg e (iKeysW X.K td) := by
  refine ⟨fun pins s σ H R I h => ?_⟩
  refine thn (he.run pins s σ H _ I h) fun u s1 ⟨x, H1, I1, rx, d, zs, ex, ⟨es, n, hl, hs, hsz, hk⟩, q⟩ => ?_
  subst ex
  obtain rfl : u = Value.ref d := rx
  refine iter_keys hs (I1.kIn d _ hl) ⟨rfl, rfl, rfl⟩ rfl (pi_one (tk := s1.toks) I1 _ (turn_keysW _ hl hsz hk) ⟨_, Heap.get?_push_size _ rfl, rfl, ?_⟩ q)
  rw [hsz]
  rfl
section
variable {X : Cx} {M : Md} {sc : Scope} {NK : List (Str × Bool × Bool)} {G : List Str} {k : Nat} {ρ : En} {P : D → En → Prop} {PB : Bool → En → Prop} {PL : List D → En → Prop} {pos : Pos} {tg e a b : Expr} {es : List Expr} {x y : Str} {F : Fin}
/-- for .. in NAME, a written dict at the top -/
theorem vi_keysW (C : Cst X M sc NK G k) {i : Nat} {d : Addr} {zs : List Str} (hg : At G i x) (hm : M.mg x = some (.ref d)) (hK : KKeys M.K d zs) (p : PL (zs.map PyData.str) ρ) (hd : (x == ("__debug__" : Str)) = false := by decide) : VI X tg (.Name x pos) ρ PL := VI.mk fun B H σ R r q => by
  have eM := C.m
  subst eM
  refine PI.sem (pi_keysW (pe_glob (C.g hg) (C.mg hm) (v := .ref d) rfl hd)) ?_
  refine ⟨d, zs, rfl, hK, q _ (zs.map PyData.str) B H ρ p (fun j B2 H2 e1 e2 => ⟨fun hj => ?_, fun hj => ?_⟩) Go.refl r⟩
  · rw [List.length_map] at hj
    refine ⟨hj, fun x H' y => ?_⟩
    obtain ⟨rfl, z, hz, rfl⟩ := y
    exact ⟨rfl, .str z, by rw [List.getElem?_map, hz]; rfl, .str z⟩
  · rw [List.length_map] at hj
    exact hj

/-! ### lists of one's own in a dict of one's own -/
def getA (es : List (Str × Addr)) (z : Str) : Option Addr := (es.find? fun e => decide (e.1 = z)).map (·.2)
theorem valA {z : Str} {a : Addr} : ∀ {es : List (Str × Addr)}, getA es z = some a → valV (es.map fun e => ((Sum.inr e.1 : Key), V.ref e.2)) (.inr z) = some (.ref a)
  | [], h => nomatch h
  | e :: es, h => by
    unfold getA at h
    unfold valV
    rw [List.map_cons, List.find?_cons]
    rw [List.find?_cons] at h
    by_cases q : e.1 = z
    · have e2 : decide ((Sum.inr e.1 : Key) = Sum.inr z) = true := decide_eq_true (by rw [q])
      rw [decide_eq_true q] at h
      show (match decide ((Sum.inr e.1 : Key) = Sum.inr z) with | true => _ | false => _ : Option (Key × V)).map _ = _
      rw [e2]
      have : e.2 = a := by simpa using h
      rw [← this]
      rfl
    · have e2 : decide ((Sum.inr e.1 : Key) = Sum.inr z) = false := decide_eq_false fun w => q (Sum.inr.inj w)
      rw [decide_eq_false q] at h
      show (match decide ((Sum.inr e.1 : Key) = Sum.inr z) with | true => _ | false => _ : Option (Key × V)).map _ = _
      rw [e2]
      exact valA (es := es) h
/-- a list of one's own that some slot bears -/
structure VR (X : Cx) (e : Expr) (ρ : En) (P : Addr → En → Prop) : Prop where
  run : ∀ B H σ (Q : VK), Rel (kwOf X) B H σ ρ →
  (∀ a B' H' ρ', P a ρ' → (∃ (j : Nat) (ds : List D), ρ'[j]? = some (.own a (.l ds))) → Go B H ρ B' H' ρ' → Rel (kwOf X) B' H' σ ρ' → Q (.ref a) H') → eSem X e σ H Q
/-- d[e], d a dict of one's own -/
theorem vr_told (C : Cst X M sc NK G k) {PA : Addr → En → Prop} {i : Nat} {l : Bool} {px : Pos} {p : Addr} {es0 : List (Str × Addr)} (ha : At NK i (x, true, l)) (ho : ρ[i]? = some (.own p (.dr es0)))
    (h : VD X e ρ fun d ρ1 => ∃ (z : Str) (a : Addr) (j : Nat) (ds : List D), d = .str z ∧ getA es0 z = some a ∧ ρ1[i]? = some (.own p (.dr es0)) ∧ ρ1[j]? = some (.own a (.l ds)) ∧ PA a ρ1)
    (hs : NoSl e := by exact fun _ _ => rfl) (hd : (x == ("__debug__" : Str)) = false := by decide) (hcd : (x == ("__classdict__" : Str)) = false := by decide) : VR X (.Subscript (.Name x px) e pos) ρ PA := VR.mk fun B H σ Q r q => by
  have hu := C.hu
  refine PE.sem (pe_dget (by omega) (pe_var (C.ix ha) (C.vi ha) hd hcd) pe_sem hs) ?_
  obtain ⟨s0, _, _, h30, e0⟩ := r.own i p _ ho
  refine ⟨.ref p, s0, ?_⟩
  refine h.run B H σ _ r fun v d B1 H1 ρ1 p1 dv g1 r1 => ?_
  obtain ⟨z, a, j, ds, rfl, hz, ho1, hj, pp⟩ := p1
  obtain ⟨s1, _, u1, h3, e1⟩ := r1.own i p _ ho1
  have e1 : u1 = .dK (es0.map fun e => (Sum.inr e.1, V.ref e.2)) := e1
  subst e1
  refine ⟨p, .ref a, rfl, ?_, q a B1 H1 ρ1 pp ⟨j, ds, hj⟩ g1 r1⟩
  rw [dp_str dv, ← valA hz]
  exact DGet.k (k := .inr z) h3
theorem own_lst {K : Kw} {B H : Hp} {σ : L2.St} {ρ : En} {j : Nat} {a : Addr} {ds : List D} (r : Rel K B H σ ρ) (hj : ρ[j]? = some (.own a (.l ds))) : ∃ vs, H a = some (.lst vs) ∧ DpAll K.K B vs ds := by
  obtain ⟨_, _, u, h3, vs, rfl, d⟩ := r.own j a _ hj
  exact ⟨vs, h3, d⟩
/-- its truth: not empty -/
theorem vt_truR (h : VR X e ρ fun a ρ1 => ∃ (j : Nat) (ds : List D), ρ1[j]? = some (.own a (.l ds)) ∧ PB (!ds.isEmpty) ρ1) (he : ∀ whole, isTrue e X.env whole = (do let v ← whole; standAt e.pos; holding [v] (truthy v)) := by intro _; rfl) : VT X e ρ PB := VT.mk fun B H σ Q r q => by
  refine PT.sem (pt_truth pe_sem he) ?_
  refine h.run B H σ _ r fun a B1 H1 ρ1 p1 _ g1 r1 => ?_
  obtain ⟨j, ds, hj, pp⟩ := p1
  obtain ⟨vs, hv, dv⟩ := own_lst r1 hj
  refine ⟨!ds.isEmpty, .inl ⟨vs, .inl (.inl hv), ?_⟩, q _ B1 H1 ρ1 pp g1 r1⟩
  cases dv <;> rfl
theorem lcR_read {B H : Hp} {σ : L2.St} {Q : VK} {scope : Scope} {i : Nat} {elt iter : Expr} {Cb : Cx → Prop} (r : Rel (kwOf X) B H σ ρ)
    (cb : ∀ (s : Shared) (H : Hp) (Ca : Addr) (cl : List (Str × Addr)) (fp : List Addr), Cb (X.blk s H scope (compEnvC scope cl Ca X.env) fp))
    (h : VR X iter ρ fun a ρ1 => ∃ (jj : Nat) (ds : List D), ρ1[jj]? = some (.own a (.l ds)) ∧ ds.length ≤ 100000 ∧ ∃ W : Nat → List D → En → Prop, W 0 [] ρ1 ∧ (∀ j acc ρ', W j acc ρ' → ρ'[jj]? = some (.own a (.l ds))) ∧
      (∀ (j : Nat) d acc ρ', ds[j]? = some d → W j acc ρ' → ∀ X', Cb X' → VD X' elt (ρ'.set i (.dat d)) fun u ρ4 => W (j + 1) (acc ++ [u]) (ρ4.set i .no)) ∧
      ∀ acc ρ', W ds.length acc ρ' → PL acc ρ')
    (q : ∀ p vs ds B' H' ρ', PL ds ρ' → H p = none → H' p = some (.lst vs) → B' p = none → ¬ Own ρ' p → DpAll X.K B' vs ds → Go B H ρ B' H' ρ' → Rel (kwOf X) B' H' σ ρ' → Q (.ref p) H') :
    tLc (iList X.K (eSem X iter)) (gName i) tYes (uSem X scope elt) [i] σ H Q := by
  refine h.run B H σ _ r fun a B1 H1 ρ1 p1 _ g1 r1 => ?_
  obtain ⟨jj, ds, hjj, hlen, W, w0, wk, step, done⟩ := p1
  refine ⟨a, rfl, (let ⟨vs, hv, _⟩ := own_lst r1 hjj; ⟨vs, .inl (.inl hv)⟩), fun Dl hD => ?_⟩
  have bD : B1 Dl = none := by
    cases e : B1 Dl with
    | none => rfl
    | some u =>
      rw [r1.ex Dl u e] at hD
      cases hD
  have nD : ¬ Own ρ1 Dl := not_own r1 hD
  refine ⟨fun j m H' => m = ds.length - j ∧ j ≤ ds.length ∧ ∃ acc vs B' ρ', W j acc ρ' ∧ acc.length = j ∧ H' Dl = some (.lst vs) ∧ B' Dl = none ∧ ¬ Own ρ' Dl ∧ DpAll X.K B' vs acc ∧ Go B1 H1 ρ1 B' H' ρ' ∧ Rel (kwOf X) B' H' σ ρ', ⟨ds.length, by omega, by omega, [], [], B1, ρ1, w0, rfl, upd_same, bD, nD, .nil, (acc_put Go.refl r1 hD bD nD).1, (acc_put Go.refl r1 hD bD nD).2⟩, ?_⟩
  rintro j m H' ⟨rfl, hj, acc, vs, B', ρ', w, hacc, hl, bl, nl, dacc, g, r'⟩
  obtain ⟨ws, hw, dw⟩ := own_lst r' (wk j acc ρ' w)
  have hSq : SqL X.K H' a ws := .inl (.inl hw)
  by_cases hlt : j < ds.length
  · have hj' : j < ws.length := by rw [DpAll.len dw]; exact hlt
    refine .inr ⟨⟨ws, ws[j], hSq, List.getElem?_eq_getElem hj'⟩, fun H2 => ∃ acc vs B' ρ', W (j + 1) acc ρ' ∧ acc.length = j + 1 ∧ H2 Dl = some (.lst vs) ∧ B' Dl = none ∧ ¬ Own ρ' Dl ∧ DpAll X.K B' vs acc ∧ Go B1 H1 ρ1 B' H2 ρ' ∧ Rel (kwOf X) B' H2 σ ρ', fun H2 hN2 => ⟨ds.length - (j + 1), by omega, rfl, hlt, hN2⟩, fun x H2 hy2 => ?_⟩
    obtain ⟨rfl, y2⟩ := hy2
    obtain ⟨d, hd, dx⟩ := DpAll.getV dw (y2 ws hSq)
    have st := step j d acc ρ' hd w
    have rw0 : Rel (kwOf X) B' H2 (σ.set i none) (ρ'.set i .no) := rel_no r' (by rw [List.set_set])
    have rw1 : Rel (kwOf X) B' H2 ((wipe σ [i]).set i (some x)) (ρ'.set i (.dat d)) := by
      have q1 : Rel (kwOf X) B' H2 ((σ.set i none).set i (some x)) ((ρ'.set i .no).set i (.dat d)) := rel_set (i := i) rw0 dx
      have q2 : (ρ'.set i .no).set i (Sl.dat d) = ρ'.set i (.dat d) := List.set_set ..
      rw [q2] at q1
      exact q1
    have sset : ((σ.set i none).set i (some x)).set i none = σ.set i none := by rw [List.set_set, List.set_set]
    have nl2 : ¬ Own (ρ'.set i (.dat d)) Dl := fun z => nl (own_set z)
    refine ⟨sset, ?_⟩
    show uSem X scope elt _ _ _
    intro s1 H01 Ca1 cl1 fp1
    have vd := st _ (cb s1 H01 Ca1 cl1 fp1)
    refine vd.run B' H2 ((wipe σ [i]).set i (some x)) _ rw1 fun u du B4 H4 ρ4 p4 dv g4 r4 => ?_
    have gA : Go B1 H1 ρ1 B4 H4 ρ4 := (g.trans go_set).trans g4
    have hD4 : H4 Dl = some (.lst vs) := g4.keep Dl _ hl nl2
    have bD4 : B4 Dl = none := g4.out Dl (by rw [hl]; exact fun z => by cases z) bl nl2
    have nD4 : ¬ Own ρ4 Dl := fun z => (g4.own Dl z).elim nl2 fun e => by rw [hl] at e; cases e
    have rS : Rel (kwOf X) B4 H4 σ (ρ4.set i .no) := rel_no r4 (by
      show ((σ.set i none).set i (some x)).set i none = σ.set i none
      exact sset)
    have gS : Go B1 H1 ρ1 B4 H4 (ρ4.set i .no) := gA.trans go_no
    have nS : ¬ Own (ρ4.set i .no) Dl := fun z => nD4 (own_no z)
    obtain ⟨gF, rF⟩ := acc_put (o := .lst (vs ++ [u])) gS rS hD bD4 nS
    refine ⟨vs, hD4, ?_, acc ++ [du], vs ++ [u], B4, ρ4.set i .no, p4, by rw [List.length_append, hacc]; rfl, upd_same, bD4, nS, DpAll.app (DpAll.mono g4.ex dacc) (.cons dv .nil), gF, rF⟩
    rw [DpAll.len dacc, hacc]
    exact Nat.lt_of_lt_of_le hlt (Nat.le_trans hlen (by decide))
  · have e : j = ds.length := by omega
    subst e
    exact .inl ⟨⟨ws, hSq, by rw [DpAll.len dw]; exact Nat.le_refl _⟩, q Dl vs acc B' H' ρ' (done acc ρ' w) (g1.dom Dl hD) hl bl nl dacc (g1.trans g) r'⟩
/-- [elt for y in e], e a list of one's own -/
theorem vn_lcR (C : Cst X M sc NK G k) {scope : Scope} {i : Nat} {y : Str} {py : Pos} {elt iter : Expr} {v : Bool} (NK' : List (Str × Bool × Bool)) (G' : List Str) (hy : At NK' i (y, v, true))
    (h : VR X iter ρ fun a ρ1 => ∃ (jj : Nat) (ds : List D), ρ1[jj]? = some (.own a (.l ds)) ∧ ds.length ≤ 100000 ∧ ∃ W : Nat → List D → En → Prop, W 0 [] ρ1 ∧ (∀ j acc ρ', W j acc ρ' → ρ'[jj]? = some (.own a (.l ds))) ∧
      (∀ (j : Nat) d acc ρ', ds[j]? = some d → W j acc ρ' → ∀ X', Cst X' M (relS scope sc) NK' G' k → VD X' elt (ρ'.set i (.dat d)) fun u ρ4 => W (j + 1) (acc ++ [u]) (ρ4.set i .no)) ∧
      ∀ acc ρ', W ds.length acc ρ' → PL acc ρ')
    (ok : blkC (NK.map (·.1)) sc scope [(y, i)] = true := by decide +kernel) (hN : NK'.map (·.1) = NK.map (·.1) := by rfl) (hc : chk (relS scope sc) false NK' G' = true := by decide +kernel)
    (hs : ∀ x, foldedSetIterable iter X.env x = pure x := by intro _; rfl) : VN X (.ListComp elt [⟨.Name y py, iter, [], 0⟩] scope pos) ρ PL := VN.mk fun B H σ Q r q => by
  have ok' : BlkOk X.N X.env.scope scope [(y, i)] := by
    rw [C.n, C.s]
    exact blkOk_by ok
  have cb : ∀ (s : Shared) (H : Hp) (Ca : Addr) (cl : List (Str × Addr)) (fp : List Addr), Cst (X.blk s H scope (compEnvC scope cl Ca X.env) fp) M (relS scope sc) NK' G' k := fun s H Ca cl fp => cst_blk C hN hc
  exact PE.sem (pe_lc (g := gName i) (tt := tYes) C.calm C.nd (pi_list pe_sem) ok' (fun s H Ca cl fp => pg_name (cb s H Ca cl fp).nd ((cb s H Ca cl fp).ix hy) ((cb s H Ca cl fp).lo hy) ((cb s H Ca cl fp).fn hy)) (fun _ _ _ _ _ => pts_nil) pe_uSem hs)
    (lcR_read (Cb := fun X' => Cst X' M (relS scope sc) NK' G' k) r cb h q)
/-- an argument that is a list just made: data from here on -/
theorem vex_lst {PX : List Ar → En → Prop} {E : Er → En → Prop} (h : VN X e ρ fun ds ρ1 => VEX X es ρ1 (fun ars ρ2 => PX (.da (.list ds) :: ars) ρ2) E)
    (hs : starEach (e :: es) X.env = (false, eval e X.env) :: starEach es X.env := by rfl) : VEX X (e :: es) ρ PX E := ⟨fun B H σ Q W tk r q xx => by
  refine PA.sem (pa_cons pe_sem pa_sem hs) ?_
  refine h.run B H σ _ r fun z vs ds B1 H1 ρ1 p1 hz h1 bz no dvs g1 r1 => ?_
  obtain ⟨g2, r2, d2⟩ := own_frz hz h1 bz no dvs g1 r1
  exact p1.run _ H1 σ _ W tk r2 (fun ws ars B3 H3 ρ3 p3 q3 g3 r3 => q (.ref z :: ws) (.da (.list ds) :: ars) B3 H3 ρ3 p3 (.cons (show ArOk X.K B3 σ (.ref z) (.da (.list ds)) from Dp.mono g3.ex d2) q3) (g2.trans g3) r3) fun c dx B3 H3 ρ3 p3 k3 g3 r3 => xx c dx B3 H3 ρ3 p3 k3 (g2.trans g3) r3⟩

/-! ### f = NAME[w]; e[..].append(f(..)) -/
/-- a call of a local name that holds a def, its errors told by the slots -/
def tCallLS (i : Nat) (f : Addr) (sp : Sp) (E : L2.St → XK) (t : TA) : TE := fun σ H Q => σ[i]? = some (some (.ref f)) ∧ t σ H fun vs H1 => sp vs H1 Q (E σ)
theorem pe_callLS {CX : CXT} {kk i : Nat} {f : Addr} {fd : FuncData} {ps : List Str} {sp : Sp} {E : L2.St → XK} {p : Pos} {t : TA} (Fo : FnOk X.prog X.w X.K X.mg X.base CX kk f fd ps sp) (hr : Room kk X.A) (hN : X.N[i]? = some x) (hv : Vis X.env.scope x) (hk : PySem.W.keepIn X.K (.ref f) = true) (hb : Binds X.K fd ps []) (hx : ∀ σ, PassesAt CX X σ (E σ)) (ha : PA X (e :: es) t)
    (hdb : (x == ("__debug__" : Str)) = false := by decide) (hcd : (x == ("__classdict__" : Str)) = false := by decide)
    (he : starEach (e :: es) X.env = (false, eval e X.env) :: starEach es X.env := by rfl) (hpl : (backTo pos (starEach es X.env)).any (·.1) = false := by rfl) : PE X (.Call (.Name x p) (e :: es) [] pos) (tCallLS i f sp E t) := by
  refine ⟨fun pins s σ H Q I h => ?_⟩
  obtain ⟨hs, ht⟩ := h
  refine wpAny_Call_Name_kw (thn ((pe_var (pos := p) hN hv hdb hcd).run pins s σ H (fun v H1 => v = .ref f ∧ H1 = H) I ⟨.ref f, hs, rfl, rfl⟩) fun u s1 ⟨v, H1, I1, r1, q1⟩ => ?_)
  obtain ⟨rfl, rfl⟩ := q1
  cases r1
  refine PySem.W.callWith_K (h₀ := X.base) I.ok.mod.kin hk (thn (ha.run pos pins s1 σ _ _ I1 ht) fun us s2 ⟨vs, H2, I2, r, q⟩ => ⟨I2.kIn, ?_⟩) he hpl
  exact run_fnS Fo hr hb (hx σ) I2 r q
theorem vss_reader {es2 : List Expr} {rest : List Stmt} {n : Nat} (C : Cst X M sc NK G k) {dR f : Addr} {fd : FuncData} {ps : List Str} {j m gi wi : Nat} {w : Str} {S : SX} {lw : Bool} {t : Expr} {pf pR pw p1 pc pn pp2 pa1 pcc pss : Pos} {wn gn : Str}
    (hm' : At NK m (x, true, true)) (hw : At NK wi (wn, true, lw)) (how : ρ[wi]? = some (.dat (.str w))) (hml : m < ρ.length) (hg : At G gi gn) (hmg : M.mg gn = some (.ref dR)) (hK : KDct M.K M.w dR w (.ref f))
    (Fo : FnOk M.prog M.w M.K M.mg M.base (L2.CX M.prog M.w) j f fd ps (DSx (kwM M) n S)) (hkp : PySem.W.keepIn M.K (.ref f) = true) (hb : Binds M.K fd ps [])
    (h : VR X t (ρ.set m .no) fun a ρ1 => VEX X (e :: es2) ρ1 (fun ars ρ2 => calls S n ρ2 ars (fun d ρ3 => ∃ (jj : Nat) (ds : List D), ρ3[jj]? = some (.own a (.l ds)) ∧ ds.length ≤ 100000 ∧ VSs X rest (ρ3.set jj (.own a (.l (ds ++ [d])))) F) F.ex) F.ex)
    (hj : j ≤ k := by decide) (hs1 : swapsWith (.Subscript (.Name gn pn) (.Name wn pw) pR) (some (.Name x pf)) p1.line X.env = pure false := by rfl)
    (hs2 : swapsWith (.Call (.Attribute t "append" pa1) [.Call (.Name x pcc) (e :: es2) [] pc] [] pp2) none pss.line X.env = pure false := by rfl)
    (hix : PlainIx (.Name wn pw) := by exact fun _ _ => rfl)
    (hd1 : (gn == ("__debug__" : Str)) = false := by decide) (hd2 : (wn == ("__debug__" : Str)) = false := by decide) (hcd2 : (wn == ("__classdict__" : Str)) = false := by decide) (hd3 : (x == ("__debug__" : Str)) = false := by decide) (hcd3 : (x == ("__classdict__" : Str)) = false := by decide)
    (hbase : attributeBase t "append" X.env (eval t X.env) = eval t X.env := by rfl)
    (hfew : ((backTo pp2 (starEach [.Call (.Name x pcc) (e :: es2) [] pc] X.env)).all (fun x => !x.1) && (backToKw pp2 (keywordEach [] X.env)).all (fun x => x.1.isSome) && decide (([.Call (.Name x pcc) (e :: es2) [] pc] : List Expr).length + ([] : List Keyword).length + (if ([] : List Keyword).isEmpty then 0 else 1) < 30)) = true := by rfl)
    (hline : (pa1.endLine == pp2.line) = true := by rfl) (hst1 : starEach [.Call (.Name x pcc) (e :: es2) [] pc] X.env = (false, eval (.Call (.Name x pcc) (e :: es2) [] pc) X.env) :: starEach [] X.env := by rfl) (hpl1 : (backTo pp2 (starEach [] X.env)).any (·.1) = false := by rfl)
    (hst2 : starEach (e :: es2) X.env = (false, eval e X.env) :: starEach es2 X.env := by rfl) (hpl2 : (backTo pc (starEach es2 X.env)).any (·.1) = false := by rfl) :
    VSs X (.Assign [.Name x pf] (.Subscript (.Name gn pn) (.Name wn pw) pR) p1 :: .Expr (.Call (.Attribute t "append" pa1) [.Call (.Name x pcc) (e :: es2) [] pc] [] pp2) pss :: rest) ρ F := VSs.mk fun B H σ Z r ff => by
  have eM := C.m
  subst eM
  refine PSs.sem (pss_cons (ps_set C.nd (C.ix hm') (C.lo hm') (pe_ix ix_kdict (pe_glob (C.g hg) (C.mg hmg) (v := .ref dR) rfl hd1) (pe_var (C.ix hw) (C.vi hw) hd2 hcd2) hix) hs1 (C.fn hm')) (pss_cons (ps_expr (pe_bm PySem.F.plainAttrs_list PySem.F.slot_list_append PySem.F.type_list_append mt_append pe_sem (pa_cons (pe_callLS (E := WE Z.e) Fo (C.room.mono hj) (C.ix hm') (C.vi hm') hkp hb (fun σ => passAt Z.tk σ) pa_sem hd3 hcd3 hst2 hpl2) pa_nil hst1) hbase hfew hline hst1 hpl1) hs2) pss_sem)) ?_
  obtain ⟨vw, hvw, dw⟩ := r.dat wi _ how
  refine ⟨vw, hvw, dR, w, .ref f, rfl, dp_str dw, hK, ?_⟩
  have hlt : m < σ.length := by
    have := r.len
    rw [← this]
    exact hml
  have rS : Rel (kwOf X) B H (σ.set m (some (.ref f))) (ρ.set m .no) := rel_no r (by rw [List.set_set])
  refine h.run B H _ _ rS fun a B1 H1 ρ1 p1 own1 gg1 r1 => ?_
  obtain ⟨ja, dsa, hja⟩ := own1
  obtain ⟨ws, hws, _⟩ := own_lst r1 hja
  refine ⟨.inl ⟨rfl, ws, .inl (.inl hws)⟩, List.getElem?_set_self hlt, ?_⟩
  refine p1.run B1 H1 _ _ Z.e Z.tk r1 (fun vs ars B2 H2 ρ2 ⟨c1, c2, c3, c4⟩ pr gg2 r2 => ?_) fun c dx B2 H2 ρ2 p2 k2 gg2 r2 => ff.ex c dx B2 H2 _ ρ2 p2 k2 ((go_no.trans gg1).trans gg2) r2
  refine ⟨B2, _, _, _, rel_args r2 pr c1 c2, by rw [List.length_map]; exact c3, c4, fun v d B3 H3 as' w u dv gg3 r3 => ?_, fun c1 dx B3 H3 as' w k2 u gg3 r3 => ?_⟩
  · obtain ⟨gg4, r4⟩ := rel_back r2 pr c2 u gg3 r3
    obtain ⟨jj, ds, hjj, hl, rr⟩ := w
    obtain ⟨us, hus, dus⟩ := own_lst r4 hjj
    have sl := sizeLine_eq
    obtain ⟨r5, gg5⟩ := own_write (vs' := us ++ [v]) (cs' := ds ++ [d]) r4 hjj (DpAll.app dus (.cons dv .nil))
    refine ⟨a, us, v, rfl, rfl, hus, ?_, rr.run _ _ _ Z r5 (ff.go ((((go_no.trans gg1).trans gg2).trans gg4).trans gg5))⟩
    rw [DpAll.len dus]
    omega
  · obtain ⟨gg4, r4⟩ := rel_back r2 pr c2 u gg3 r3
    exact ff.ex c1 dx B3 H3 _ _ w k2 (((go_no.trans gg1).trans gg2).trans gg4) r4
end
end Vc

namespace K7
open PySem PySem.Spec PyProof.Rows L2 Vc
local macro_rules | `(tactic| walk_at "at") => `(tactic| (repeat (first | with_reducible exact At.here | apply At.there)))
local macro_rules | `(tactic| walk_at "v") => `(tactic| first
  | refine vd_bin ?_
  | (refine vd_name (by assumption) (by walk_at "at") rfl ?_)
  | refine vd_int ?_
  | refine vd_bool ?_
  | refine vd_none ?_
  | refine vd_str ?_
  | refine vd_if ?_
  | (refine vd_neg ?_)
  | refine vd_tup ?_
  | refine va_nil ?_
  | refine va_cons ?_
  | refine vs_ret ?_
  | refine vss_nil ?_
  | refine vss_one ?_
  | refine vss_cons ?_
  | refine vs_if ?_
  | refine vt_cmp (by assumption) ?_
  | refine vs_set (by assumption) (by walk_at "at") ?_
  | refine vd_cmp (by assumption) ?_
  | refine vgs_nil ?_
  | refine vgs_cons ?_
  | refine vg_name (by assumption) (by walk_at "at") ?_
  | (refine vd_callT (x := "int") (by assumption) does_int (by walk_at "at") ?_)
  | (refine vd_callB (x := "len") (by assumption) does_len (by walk_at "at") ?_)
  | (refine vd_callB (x := "abs") (by assumption) does_abs (by walk_at "at") ?_)
  | (refine vd_ixo (by assumption) (by walk_at "at") rfl ?_)
  | refine vd_ix ?_)
local macro_rules | `(tactic| walk_at "sw") => `(tactic| (intro env h; cases env; dsimp only at h; subst h; rfl))
local macro_rules | `(tactic| walk_at "vv") => `(tactic| repeat (walk_at "v"))
local macro_rules | `(tactic| walk_at "no") => `(tactic| exact fs_no (by decide +kernel) (by decide +kernel) (by decide +kernel))
/-! ### read_row -/
abbrev keysR : List Str := ["bus", "line", "source", "error", "breaker", "ticks", "guard"]
abbrev onceR : List Str := ["error", "breaker", "ticks"]
/-- what stands told, by the words in their order -/
abbrev Tl := Nat → List D
def Tl.add (T : Tl) (j : Nat) (v : D) : Tl := fun i => if i = j then T i ++ [v] else T i
def esT (A : Nat → Addr) : List (Str × Addr) := [("bus", A 0), ("line", A 1), ("source", A 2), ("error", A 3), ("breaker", A 4), ("ticks", A 5), ("guard", A 6)]
abbrev tS (A : Nat → Addr) (T : Tl) : List Sl := [.own (A 0) (.l (T 0)), .own (A 1) (.l (T 1)), .own (A 2) (.l (T 2)), .own (A 3) (.l (T 3)), .own (A 4) (.l (T 4)), .own (A 5) (.l (T 5)), .own (A 6) (.l (T 6))]
abbrev mayR (T : Tl) (z : Str) : Bool := !(decide (z ∈ onceR) && !(T (keysR.idxOf z)).isEmpty)
abbrev avail (T : Tl) : List Str := keysR.filter (mayR T)
theorem getA_here {z : Str} {a : Addr} {es : List (Str × Addr)} : getA ((z, a) :: es) z = some a := by
  unfold getA
  rw [List.find?_cons, decide_eq_true rfl]
  rfl
theorem getA_skip {z y : Str} {a : Addr} {es : List (Str × Addr)} (h : ¬ y = z) : getA ((y, a) :: es) z = getA es z := by
  unfold getA
  rw [List.find?_cons, decide_eq_false h]
theorem seven {j : Nat} (h : j < 7) : j = 0 ∨ j = 1 ∨ j = 2 ∨ j = 3 ∨ j = 4 ∨ j = 5 ∨ j = 6 := by omega
theorem esT_at {A : Nat → Addr} : ∀ {j : Nat} {z : Str}, keysR[j]? = some z → getA (esT A) z = some (A j) ∧ keysR.idxOf z = j := fun {j z} h => by
  have hj : j < 7 := (List.getElem?_eq_some_iff.mp h).1
  unfold esT
  rcases seven hj with rfl | rfl | rfl | rfl | rfl | rfl | rfl <;> cases h
  · exact ⟨getA_here, by decide +kernel⟩
  · exact ⟨by rw [getA_skip (by decide +kernel), getA_here], by decide +kernel⟩
  · exact ⟨by rw [getA_skip (by decide +kernel), getA_skip (by decide +kernel), getA_here], by decide +kernel⟩
  · exact ⟨by rw [getA_skip (by decide +kernel), getA_skip (by decide +kernel), getA_skip (by decide +kernel), getA_here], by decide +kernel⟩
  · exact ⟨by rw [getA_skip (by decide +kernel), getA_skip (by decide +kernel), getA_skip (by decide +kernel), getA_skip (by decide +kernel), getA_here], by decide +kernel⟩
  · exact ⟨by rw [getA_skip (by decide +kernel), getA_skip (by decide +kernel), getA_skip (by decide +kernel), getA_skip (by decide +kernel), getA_skip (by decide +kernel), getA_here], by decide +kernel⟩
  · exact ⟨by rw [getA_skip (by decide +kernel), getA_skip (by decide +kernel), getA_skip (by decide +kernel), getA_skip (by decide +kernel), getA_skip (by decide +kernel), getA_skip (by decide +kernel), getA_here], by decide +kernel⟩
/-- the names of lines that stand told -/
def names? : List D → Option (List Str)
  | [] => some []
  | .tuple (.str z :: _) :: r => (names? r).map (z :: ·)
  | _ => none
theorem names_at : ∀ {ds : List D} {ls : List Str}, names? ds = some ls → ls.length = ds.length ∧ ∀ (j : Nat) d, ds[j]? = some d → ∃ z us, d = .tuple (.str z :: us) ∧ ls[j]? = some z
  | [], ls, h => by
    cases h
    exact ⟨rfl, fun j d h => (by simp at h)⟩
  | .tuple (.str z :: us) :: r, ls, h => by
    unfold names? at h
    cases e : names? r with
    | none =>
      rw [e] at h
      cases h
    | some ws =>
      rw [e] at h
      cases h
      obtain ⟨h1, h2⟩ := names_at e
      refine ⟨by simp [h1], fun j d hj => ?_⟩
      cases j with
      | zero =>
        cases hj
        exact ⟨z, us, rfl, rfl⟩
      | succ j =>
        obtain ⟨z', us', q1, q2⟩ := h2 j d (by simpa using hj)
        exact ⟨z', us', q1, by simpa using q2⟩
  | .none :: r, ls, h => by cases h
  | .bool _ :: r, ls, h => by cases h
  | .int _ :: r, ls, h => by cases h
  | .str _ :: r, ls, h => by cases h
  | .list _ :: r, ls, h => by cases h
  | .dict _ :: r, ls, h => by cases h
  | .tuple [] :: r, ls, h => by cases h
  | .tuple (.none :: _) :: r, ls, h => by cases h
  | .tuple (.bool _ :: _) :: r, ls, h => by cases h
  | .tuple (.int _ :: _) :: r, ls, h => by cases h
  | .tuple (.list _ :: _) :: r, ls, h => by cases h
  | .tuple (.tuple _ :: _) :: r, ls, h => by cases h
  | .tuple (.dict _ :: _) :: r, ls, h => by cases h
def mReader (j : Nat) (t : List Nat) (d : Nat) (ls : List Str) : Option RR := match j with
  | 0 => some (mName t d)
  | 1 => some (mLine t d ls)
  | 2 => some (mSource t d ls)
  | 3 => some (mFraction t d)
  | 4 => some (mTimes t d ls)
  | 5 => some (mNumber t d)
  | 6 => mGuard t d ls
  | _ => none
/-- the same reckoned by its def -/
structure Rdr (M : Md) (CA CT dR : Addr) (z : Str) (g : List Nat → Nat → List Str → Option RR) : Prop where
  ex : ∃ lv f fd ps, lv ≤ 7 ∧ FnOk M.prog M.w M.K M.mg M.base (L2.CX M.prog M.w) lv f fd ps (DSx (kwM M) 2 (SRow CA CT (fRd g))) ∧ KDct M.K M.w dR z (.ref f) ∧ PySem.W.keepIn M.K (.ref f) = true ∧ Binds M.K fd ps []
theorem Rdr.of {M : Md} {CA CT dR : Addr} {z x : Str} {g : List Nat → Nat → List Str → Option RR} {lv : Nat} {f : Addr} (F : FnX M lv x 2 (SRow CA CT (fRd g))) (hm : M.mg x = some (.ref f)) (hK : KDct M.K M.w dR z (.ref f)) (hl : lv ≤ 7) : Rdr M CA CT dR z g := by
  obtain ⟨f', fd, ps, Fo, hm', hk, hb⟩ := F.ex
  rw [hm] at hm'
  cases hm'
  exact ⟨lv, f, fd, ps, hl, Fo, hK, hk, hb⟩
abbrev RT := Except Nat (Tl × Nat)
def mRow3 (t : List Nat) (T : Tl) (j : Nat) (v : D) (d : Nat) : RT := match mFinLine t d with
  | .error a => .error a
  | .ok (_, d') => .ok (T.add j v, d')
def mRow2 (t : List Nat) (T : Tl) (j : Nat) (r : Option RR) : Option RT := match r with
  | none => none
  | some (.error a) => some (.error a)
  | some (.ok (v, d)) => some (mRow3 t T j v d)
def mRow1 (t : List Nat) (T : Tl) (j d : Nat) (ls : Option (List Str)) : Option RT := match ls with
  | none => none
  | some ls => mRow2 t T j (mReader j t d ls)
def mReadRow (t : List Nat) (d : Nat) (T : Tl) : Option RT := match mWord t d (avail T) with
  | .error a => some (.error a)
  | .ok (w, d1) => mRow1 t T (keysR.idxOf (strOf w)) d1 (names? (T 1))
def SReadRow (CA CT : Addr) : SX := fun as W WX => ∃ p ln t d tp A T r, as = .own p (rowO CA ln t d) :: .own tp (.dr (esT A)) :: tS A T ∧ ln ≤ 1000 ∧ t.length ≤ 1000 ∧ d ≤ t.length ∧ (∀ j, (T j).length ≤ 100000) ∧ mReadRow t d T = some r ∧
  (∀ T' d', r = .ok (T', d') → d' ≤ t.length → W .none (.own p (rowO CA ln t d') :: .own tp (.dr (esT A)) :: tS A T')) ∧ (∀ at_, r = .error at_ → ∀ d' T', WX (bad CT ln (at_ + 1)) (.own p (rowO CA ln t d') :: .own tp (.dr (esT A)) :: tS A T'))
abbrev nRR : List Str := ["row", "told", "*0", "*1", "*2", "*3", "*4", "*5", "*6", "word", "reader", "line"]
theorem scRR : FnScope nRR ["row", "told"] (defScope sReadRow) := ⟨rfl, rfl, rfl, by decide +kernel, rfl, by decide +kernel, by decide +kernel⟩
abbrev nkRR : List (Str × Bool × Bool) := [("row", true, true), ("told", true, true), ("*0", false, false), ("*1", false, false), ("*2", false, false), ("*3", false, false), ("*4", false, false), ("*5", false, false), ("*6", false, false), ("word", true, true), ("reader", true, true), ("line", false, false)]
abbrev nkRR0 : List (Str × Bool × Bool) := [("row", false, false), ("told", true, false), ("*0", false, false), ("*1", false, false), ("*2", false, false), ("*3", false, false), ("*4", false, false), ("*5", false, false), ("*6", false, false), ("word", true, true), ("reader", false, false), ("line", false, false)]
abbrev nkRR1 : List (Str × Bool × Bool) := [("row", false, false), ("told", false, false), ("*0", false, false), ("*1", false, false), ("*2", false, false), ("*3", false, false), ("*4", false, false), ("*5", false, false), ("*6", false, false), ("word", false, false), ("reader", false, false), ("line", true, true)]
abbrev enR (s0 : Sl) (tq : Addr) (A : Nat → Addr) (T : Tl) (w r l : Sl) : En := [s0, .own tq (.dr (esT A)), .own (A 0) (.l (T 0)), .own (A 1) (.l (T 1)), .own (A 2) (.l (T 2)), .own (A 3) (.l (T 3)), .own (A 4) (.l (T 4)), .own (A 5) (.l (T 5)), .own (A 6) (.l (T 6)), w, r, l]
theorem enR_at {s0 w r l : Sl} {tq : Addr} {A : Nat → Addr} {T : Tl} {j : Nat} (h : j < 7) : (enR s0 tq A T w r l)[2 + j]? = some (.own (A j) (.l (T j))) := by
  rcases seven h with rfl | rfl | rfl | rfl | rfl | rfl | rfl <;> rfl
theorem enR_add {s0 w r l : Sl} {tq : Addr} {A : Nat → Addr} {T : Tl} {j : Nat} {v : D} (h : j < 7) : (enR s0 tq A T w r l).set (2 + j) (.own (A j) (.l (T j ++ [v]))) = enR s0 tq A (T.add j v) w r l := by
  rcases seven h with rfl | rfl | rfl | rfl | rfl | rfl | rfl <;> rfl
theorem filt_succ {α : Type} {f : α → Bool} {l : List α} {j : Nat} {z : α} (h : l[j]? = some z) : (l.take (j + 1)).filter f = (l.take j).filter f ++ (if f z = true then [z] else []) := by
  rw [List.take_add_one, h, List.filter_append]
  cases e : f z <;> simp [e]
theorem fWord_atL {t : List Nat} {d : Nat} {ws : List Str} : fWord t d [.list (ws.map PyData.str)] = some (mWord t d ws) := by
  show (strs? _).map _ = _
  rw [strs_map]
  rfl
section
variable {M : Md} {f CA CT dR aO : Addr} {fd : FuncData}
theorem fReadRow (R : RowTxt M.K CA) (FW : FnMt M 4 CA "read_word" 2 (SRow CA CT fWord)) (FL : FnMt M 2 CA "finish_line" 1 (SRow CA CT fun t d _ => some (mFinLine t d)))
    (mR : M.mg "READERS" = some (.ref dR)) (hKR : KKeys M.K dR keysR) (mO : M.mg "ONCE" = some (.ref aO)) (hO : ∀ B, Dp M.K B (.ref aO) (.tuple (onceR.map PyData.str)))
    (RD : ∀ j z, keysR[j]? = some z → Rdr M CA CT dR z (mReader j))
    (F : Fun M.K "read_row" "read_row" sReadRow f fd) (hm : M.mg "read_row" = some (.ref f)) (b : L2.Binds M.K fd ["row", "told"] []) : FnG M 8 "read_row" 2 7 (SReadRow CA CT) := by
  refine fnG_mk (k := 7) (NK := nkRR) (G := gReadRow) F scRR hm b rfl (by decide +kernel) rfl (by decide) (by decide +kernel) fun X C tp as W WX hl hS => ?_
  obtain ⟨p, ln, t, d, tq, A, T, r, rfl, hln, ht, hd, hT, hf, w, wx⟩ := hS
  show VSs X _ (enR (.own p (rowO CA ln t d)) tq A T .no .no .no) _
  unfold mReadRow at hf
  refine vss_cons (vs_setE C (by walk_at "at") (ve_meth C R.cl FW (by walk_at "at") rfl (by walk_at "no") (vex_lst (vn_lcIf C (i := 9) nkRR0 gReadRow0 (by walk_at "at") (vi_keysW C (by walk_at "at") mR hKR ?_)))))
  refine ⟨by decide, fun j acc ρ' => ρ' = enR (.own p (rowO CA ln t d)) tq A T .no .no .no ∧ acc = ((keysR.take j).filter (mayR T)).map PyData.str, ⟨rfl, rfl⟩, fun j d0 acc ρ' hj ⟨hρ, ha⟩ X' C' => ?_, fun acc ρ' ⟨hρ, ha⟩ => ?_⟩
  · subst hρ
    rw [List.getElem?_map] at hj
    obtain ⟨z, hz, rfl⟩ : ∃ z, keysR[j]? = some z ∧ PyData.str z = d0 := by
      cases e : keysR[j]? with
      | none =>
        rw [e] at hj
        cases hj
      | some z =>
        rw [e] at hj
        exact ⟨z, rfl, by simpa using hj⟩
    obtain ⟨gz, ix⟩ := esT_at (A := A) hz
    have hj7 : j < 7 := (List.getElem?_eq_some_iff.mp hz).1
    have hnx : ∀ bb, bb = mayR T z → (bb = true → acc ++ [PyData.str z] = ((keysR.take (j + 1)).filter (mayR T)).map PyData.str) ∧ (bb = false → acc = ((keysR.take (j + 1)).filter (mayR T)).map PyData.str) := fun bb hb => by
      rw [filt_succ hz, ha]
      subst hb
      refine ⟨fun e => ?_, fun e => ?_⟩
      · rw [if_pos e, List.map_append]
        rfl
      · rw [if_neg (by rw [e]; decide), List.append_nil]
    show VT X' _ (enR (.own p (rowO CA ln t d)) tq A T (.dat (.str z)) .no .no) _
    refine vt_not (vt_w (vw_and (vt_inTx (vd_name C' (by walk_at "at") rfl (vd_gtup C' (by walk_at "at") mO hO ⟨z, onceR, rfl, .inl rfl, fun e => ?_, fun e => ?_⟩)))))
    · refine vw_and1 (vt_truR (vr_told C' (by walk_at "at") rfl (vd_name C' (by walk_at "at") rfl ⟨z, A j, 2 + j, T j, rfl, gz, rfl, enR_at hj7, 2 + j, T j, enR_at hj7, ?_⟩)))
      refine ⟨fun e2 X'' C'' => vd_name C'' (by walk_at "at") rfl ⟨rfl, (hnx _ (by show _ = !(_ && !(T (keysR.idxOf z)).isEmpty); rw [ix, e, Bool.true_and])).1 e2⟩, fun e2 => ⟨rfl, (hnx _ (by show _ = !(_ && !(T (keysR.idxOf z)).isEmpty); rw [ix, e, Bool.true_and])).2 e2⟩⟩
    · refine ⟨fun e2 X'' C'' => vd_name C'' (by walk_at "at") rfl ⟨rfl, (hnx _ (by show _ = !(_ && _); rw [e, Bool.false_and])).1 e2⟩, fun e2 => ⟨rfl, (hnx _ (by show _ = !(_ && _); rw [e, Bool.false_and])).2 e2⟩⟩
  · subst hρ ha
    rw [List.length_map, List.take_length]
    refine vex_nil ⟨⟨_, rfl⟩, rfl, ⟨⟨_, _, rfl⟩, trivial⟩, rfl, p, ln, t, d, [.list ((avail T).map PyData.str)], _, rfl, hln, ht, hd, fWord_atL, fun v d' h hd' => ?_, fun a h d' => ?_⟩
    · rw [h] at hf
      obtain ⟨hv, hz⟩ := mWord_ok h
      rw [hv]
      replace hf : mRow1 t T (keysR.idxOf (strOf v)) d' (names? (T 1)) = some r := hf
      generalize strOf v = z at hz hf
      obtain ⟨j, hj7, hzj⟩ := List.getElem_of_mem (List.mem_filter.mp hz).1
      have hz' : keysR[j]? = some z := by rw [List.getElem?_eq_getElem hj7, hzj]
      obtain ⟨gz, ix⟩ := esT_at (A := A) hz'
      rw [ix] at hf
      unfold mRow1 at hf
      cases hn : names? (T 1) with
      | none =>
        rw [hn] at hf
        cases hf
      | some ls =>
        rw [hn] at hf
        replace hf : mRow2 t T j (mReader j t d' ls) = some r := hf
        obtain ⟨nl, nat⟩ := names_at hn
        obtain ⟨lv, fr, fdr, psr, hlv, Fo, hK, hkp, hb⟩ := (RD j z hz').ex
        show VSs X _ (enR (.own p (rowO CA ln t d')) tq A T (.dat (.str z)) .no .no) _
        refine vss_reader C (m := 10) (wi := 9) (by walk_at "at") (by walk_at "at") rfl (by show 10 < 12; decide) (by walk_at "at") mR hK Fo hkp hb ?_ hlv
        show VR X _ (enR (.own p (rowO CA ln t d')) tq A T (.dat (.str z)) .no .no) _
        refine vr_told C (by walk_at "at") rfl (vd_name C (by walk_at "at") rfl ⟨z, A j, 2 + j, T j, rfl, gz, rfl, enR_at hj7, ?_⟩)
        refine vex_own C (by walk_at "at") rfl (vex_lst (vn_lcR C (i := 11) nkRR1 gReadRow1 (by walk_at "at") (vr_told C (by walk_at "at") rfl (vd_str ⟨"line", A 1, 3, T 1, rfl, (esT_at (j := 1) rfl).1, rfl, rfl, 3, T 1, rfl, hT 1, ?_⟩))))
        refine ⟨fun i acc ρ' => ρ' = enR (.own p (rowO CA ln t d')) tq A T (.dat (.str z)) .no .no ∧ acc = (ls.take i).map PyData.str, ⟨rfl, rfl⟩, fun i acc ρ' ⟨e, _⟩ => (by rw [e]; rfl), fun i d0 acc ρ' hi ⟨hρ, ha⟩ X' C' => ?_, fun acc ρ' ⟨hρ, ha⟩ => ?_⟩
        · obtain ⟨zz, us, rfl, hzz⟩ := nat i d0 hi
          subst hρ
          show VD X' _ (enR (.own p (rowO CA ln t d')) tq A T (.dat (.str z)) .no (.dat (.tuple (.str zz :: us)))) _
          refine vd_ix (vd_name C' (by walk_at "at") rfl ?_)
          refine vd_int ⟨.str zz, atI_nat (j := 0) rfl, rfl, ?_⟩
          rw [ha, List.take_add_one, hzz, List.map_append]
          rfl
        · subst hρ ha
          rw [← nl, List.take_length]
          cases hr : mReader j t d' ls with
          | none =>
            rw [hr] at hf
            cases hf
          | some rr =>
            rw [hr] at hf
            refine vex_nil ⟨rfl, ⟨⟨_, _, rfl⟩, trivial⟩, rfl, p, ln, t, d', [.list (ls.map PyData.str)], rr, rfl, hln, ht, hd', by rw [fRd_at]; exact hr, fun v2 d2 h2 k2 => ?_, fun a h2 d2 => ?_⟩
            · subst h2
              replace hf : some (mRow3 t T j v2 d2) = some r := hf
              cases hf
              refine ⟨2 + j, T j, enR_at hj7, hT j, ?_⟩
              show VSs X _ ((enR (.own p (rowO CA ln t d2)) tq A T (.dat (.str z)) .no .no).set (2 + j) (.own (A j) (.l (T j ++ [v2])))) _
              rw [enR_add hj7]
              unfold mRow3 at w wx
              refine vss_one (vs_exprE (ve_meth0 C R.cl FL (by walk_at "at") rfl (by walk_at "no") ⟨p, ln, t, d2, [], _, rfl, hln, ht, k2, rfl, fun v3 d3 h3 k3 => ?_, fun a h3 d3 => ?_⟩))
              · rw [h3] at w
                exact ⟨⟨rfl, rfl, rfl, rfl, rfl, rfl, rfl, rfl, rfl, trivial⟩, w _ _ rfl k3⟩
              · rw [h3] at wx
                exact ⟨⟨rfl, rfl, rfl, rfl, rfl, rfl, rfl, rfl, rfl, trivial⟩, wx _ rfl d3 (T.add j v2)⟩
            · subst h2
              cases hf
              exact ⟨⟨rfl, rfl, rfl, rfl, rfl, rfl, rfl, rfl, rfl, trivial⟩, wx _ rfl d2 T⟩
    · rw [h] at hf
      cases hf
      exact ⟨⟨rfl, rfl, rfl, rfl, rfl, rfl, rfl, rfl, rfl, trivial⟩, wx _ rfl d' T⟩
end

end K7

/-! Vc, part dI: a loop over new things of one's own, one after another; the last of them. -/
namespace Vc
open PySem PySem.Spec PyProof.Rows L2
open Evl (Ex)

/-- things of one's own at these addresses, beside the slots -/
structure Rows2 (K : Kw) (B H : Hp) (ρ : En) (as : List Addr) (os : List OD) : Prop where
  nd : as.Nodup
  len : os.length = as.length
  at_ : ∀ (t : Nat) a o, as[t]? = some a → os[t]? = some o → B a = none ∧ ¬ Own ρ a ∧ ∃ u, H a = some u ∧ OD.is K B a u o
section
variable {K : Kw} {B H B' H' : Hp} {σ σ2 : L2.St} {ρ ρ' ρ2 : En} {as : List Addr} {os : List OD} {i x : Nat} {a : Addr} {o o2 : OD} {t : Nat}
theorem own_put (h : Own (ρ.set i (.own a o)) x) : Own ρ x ∨ x = a := by
  obtain ⟨j, ds, hj⟩ := h
  by_cases z : i = j
  · subst z
    by_cases hl : i < ρ.length
    · rw [List.getElem?_set_self hl] at hj
      cases hj
      exact .inr rfl
    · rw [List.getElem?_eq_none (by rw [List.length_set]; omega)] at hj
      cases hj
  · rw [List.getElem?_set_ne z] at hj
    exact .inl ⟨j, ds, hj⟩
theorem Rows2.go (s : Rows2 K B H ρ as os) (g : Go B H ρ B' H' ρ') : Rows2 K B' H' ρ' as os := ⟨s.nd, s.len, fun t a o h1 h2 => by
  obtain ⟨q1, q2, u, q3, q4⟩ := s.at_ t a o h1 h2
  have hne : H a ≠ none := by
    rw [q3]
    exact fun z => by cases z
  exact ⟨g.out a hne q1 q2, fun z => (g.own a z).elim q2 hne, u, g.keep a u q3 q2, OD.mono g.ex q4⟩⟩
/-- behind a turn with the thing at t -/
theorem rows_turn (s : Rows2 K B H ρ as os) (ha : as[t]? = some a) (g : Go B H (ρ.set i (.own a o)) B' H' ρ2) (h2 : ρ2[i]? = some (.own a o2)) (r2 : Rel K B' H' σ2 ρ2) : Rows2 K B' H' (ρ2.set i .no) as (os.set t o2) := by
  refine ⟨s.nd, by rw [List.length_set]; exact s.len, fun t' a' o' h1 h3 => ?_⟩
  by_cases e : t = t'
  · subst e
    rw [ha] at h1
    cases h1
    have hl : t < os.length := by
      rw [s.len]
      exact (List.getElem?_eq_some_iff.mp ha).1
    rw [List.getElem?_set_self hl] at h3
    cases h3
    obtain ⟨_, q1, u, q2, q3⟩ := r2.own i a o2 h2
    refine ⟨q1, fun ⟨j, o3, hj⟩ => ?_, u, q2, q3⟩
    by_cases z : i = j
    · subst z
      rw [List.getElem?_set_self (List.getElem?_eq_some_iff.mp h2).1] at hj
      cases hj
    · rw [List.getElem?_set_ne z] at hj
      exact z (r2.dis i j a o2 o3 h2 hj)
  · rw [List.getElem?_set_ne e] at h3
    obtain ⟨q1, q2, u, q3, q4⟩ := s.at_ t' a' o' h1 h3
    have na : a' ≠ a := fun z => by
      subst z
      have l1 := (List.getElem?_eq_some_iff.mp ha)
      have l2 := (List.getElem?_eq_some_iff.mp h1)
      rcases Nat.lt_or_gt_of_ne e with q | q
      · exact List.pairwise_iff_getElem.mp s.nd t t' l1.1 l2.1 q (l1.2.trans l2.2.symm)
      · exact List.pairwise_iff_getElem.mp s.nd t' t l2.1 l1.1 q (l2.2.trans l1.2.symm)
    have nc : ¬ Own (ρ.set i (.own a o)) a' := fun z => (own_put z).elim q2 na
    have hne : H a' ≠ none := by
      rw [q3]
      exact fun z => by cases z
    exact ⟨g.out a' hne q1 nc, fun z => (g.own a' (own_no z)).elim nc hne, u, g.keep a' u q3 nc, OD.mono g.ex q4⟩
end
theorem atI_neg1 {α : Type} {xs : List α} {n : Nat} {y : α} (h : xs.length = n + 1) (hy : xs[n]? = some y) : atI xs (-1) = some y := by
  unfold atI ixN
  rw [h]
  rw [if_neg (by omega), if_pos (by omega)]
  show xs[_]? = _
  have : ((-1 : Int) + ((n + 1 : Nat) : Int)).toNat = n := by omega
  first
    | rw [this]; exact hy
    | (have : (((n + 1 : Nat) : Int) + (-1 : Int)).toNat = n := by omega
       rw [this]; exact hy)
section
variable {X : Cx} {M : Md} {sc : Scope} {NK : List (Str × Bool × Bool)} {G : List Str} {k : Nat} {ρ : En} {F : Fin}
/-- rows = ce; for x in rows: ..; if tst: rows[-1].m(); the rest -/
theorem vss_rows (C : Cst X M sc NK G k) {rn xn m gy : Str} {rI xI gI j : Nat} {S : SX} {CA : Addr} {ce tst : Expr} {body rest : List Stmt} {p1 p2 p3 p4 p5 p6 p7 p8 p9 pa pb pc pd : Pos} {k1 : Nat} {pl : Sem Bool}
    (hrI : At NK rI (rn, true, true)) (hxI : At NK xI (xn, true, true)) (hgN : (NK.map (·.1))[gI]? = some gy) (hgv : unseen sc [gy] = true) (hc : Cls M.K CA) (Fn : FnMt M j CA m 1 S)
    (h : VL X ce ρ fun os ρ1 => os ≠ [] ∧ rI < ρ1.length ∧ xI < ρ1.length ∧ gI < ρ1.length ∧ ∀ p as, as.length = os.length → ∃ W : Nat → List OD → En → Prop, W 0 os (ρ1.set rI (.own p (.lr as))) ∧
      (∀ t os' ρ', W t os' ρ' → ρ'[rI]? = some (.own p (.lr as)) ∧ ρ'.length = ρ1.length) ∧
      (∀ t os' ρ' a o, as[t]? = some a → os'[t]? = some o → W t os' ρ' → VSs X body (ρ'.set xI (.own a o)) { nx := fun ρ2 => ∃ o2, ρ2[xI]? = some (.own a o2) ∧ W (t + 1) (os'.set t o2) (ρ2.set xI .no), rt := fun _ _ => False, ex := F.ex }) ∧
      ∀ os' ρ', os'.length = os.length → W os.length os' ρ' → VT X tst ρ' fun bb ρ2 => ρ2[rI]? = some (.own p (.lr as)) ∧ (bb = true → ∀ o, os'.getLast? = some o → ∃ fs, o = .ob CA fs ∧ getS fs m = none ∧ ∀ a, S [.own a (.ob CA fs)] (fun _ _ => False) (fun c as' => F.ex c (put (ρ2.set gI (.own a (.ob CA fs))) [.ow gI] as'))) ∧ (bb = false → VSs X rest ρ2 F))
    (hj : j ≤ k := by decide) (hs1 : swapsWith ce (some (.Name rn p1)) p2.line X.env = pure false := by rfl) (hs2 : ∀ x, foldedSetIterable (.Name rn p4) X.env x = pure x := by intro _; rfl)
    (hs3 : swapsWith (.Call (.Attribute (.Subscript (.Name rn p6) (.UnaryOp .USub (.Constant (.int 1) k1 p7) p8) p9) m pa) [] [] pb) none pc.line X.env = pure false := by rfl)
    (hix : PlainIx (.UnaryOp .USub (.Constant (.int 1) k1 p7) p8) := by exact fun _ _ => rfl)
    (hd : (rn == ("__debug__" : Str)) = false := by decide) (hcd : (rn == ("__classdict__" : Str)) = false := by decide)
    (ht : eval (.Call (.Attribute (.Subscript (.Name rn p6) (.UnaryOp .USub (.Constant (.int 1) k1 p7) p8) p9) m pa) [] [] pb) X.env = (do
      let ov ← eval (.Subscript (.Name rn p6) (.UnaryOp .USub (.Constant (.int 1) k1 p7) p8) p9) X.env
      standAt pa.atName
      let (f, first) ← holding [ov] (getMethod ov m pl)
      callWith pb f first (backTo pb (starEach [] X.env)) (backToKw pb (keywordEach [] X.env))) := by rfl) :
    VSs X (.Assign [.Name rn p1] ce p2 :: .For (.Name xn p3) (.Name rn p4) body [] p5 :: .If tst [.Expr (.Call (.Attribute (.Subscript (.Name rn p6) (.UnaryOp .USub (.Constant (.int 1) k1 p7) p8) p9) m pa) [] [] pb) pc] [] pd :: rest) ρ F := VSs.mk fun B H σ Z r ff => by
  have eM := C.m
  subst eM
  obtain ⟨fa, fd, ps, Fo, hm, hb⟩ := Fn.ex
  refine PSs.sem (pss_cons (ps_set C.nd (C.ix hrI) (C.lo hrI) pe_sem hs1 (C.fn hrI)) (pss_cons (ps_for C.never C.calm (pi_list (pe_var (C.ix hrI) (C.vi hrI) hd hcd)) (pg_name C.nd (C.ix hxI) (C.lo hxI) (C.fn hxI)) pss_sem hs2) (pss_cons (ps_if pb_sem pss_sem pss_nil) pss_sem))) ?_
  refine h.run B H σ _ r fun p L B1 H1 ρ1 pL hp hLa hpL hl bp np sd g1 r1 => ?_
  obtain ⟨hne, lr, lx, lg, pL⟩ := pL
  obtain ⟨W, w0, wk, step, done⟩ := pL p L.as (by unfold Sd.as; rw [List.length_map, List.length_map])
  have nL : L.as.length = (L.map (·.2)).length := by
    unfold Sd.as
    rw [List.length_map, List.length_map]
  obtain ⟨gr, rr⟩ := own_newO (i := rI) (ds := .lr L.as) lr hp hl bp np rfl g1 r1
  have sr : Rows2 (kwOf X) B1 H1 (ρ1.set rI (.own p (.lr L.as))) L.as (L.map (·.2)) := ⟨sd.nd, nL.symm, fun t a o h1 h2 => by
    have hm : (a, o) ∈ L := by
      unfold Sd.as at h1
      rw [List.getElem?_map] at h1 h2
      cases e : L[t]? with
      | none =>
        rw [e] at h1
        cases h1
      | some q =>
        rw [e] at h1 h2
        have e1 : q.1 = a := by simpa using h1
        have e2 : q.2 = o := by simpa using h2
        rw [← e1, ← e2]
        exact List.mem_of_getElem? e
    obtain ⟨q1, q2, u, q3, q4⟩ := sd.at_ a o hm
    exact ⟨q1, fun z => (own_put z).elim q2 fun e => hpL (e ▸ List.mem_map.mpr ⟨_, hm, rfl⟩), u, q3, q4⟩⟩
  have lrσ : rI < σ.length := by
    rw [← r1.len]
    exact lr
  have hfresh : ∀ (t : Nat) a, L.as[t]? = some a → H a = none := fun t a ha => hLa a (List.mem_of_getElem? ha)
  refine ⟨.ref p, List.getElem?_set_self lrσ, p, rfl, ⟨L.as.map V.ref, .inl (.inl hl)⟩, ?_⟩
  refine ⟨fun t m σ' H' => m = L.as.length - t ∧ t ≤ L.as.length ∧ ∃ B' ρ' os', W t os' ρ' ∧ Go B H ρ B' H' ρ' ∧ Rel (kwOf X) B' H' σ' ρ' ∧ Rows2 (kwOf X) B' H' ρ' L.as os', ⟨L.as.length, by omega, by omega, B1, _, _, w0, gr, rr, sr⟩, ?_⟩
  rintro t m' σ' H' ⟨rfl, htl, B', ρ', os', w, g, r', s⟩
  obtain ⟨srr, _, u0, hu0, eu0⟩ := r'.own rI p _ (wk t os' ρ' w).1
  have eu0 : u0 = .lst (L.as.map V.ref) := eu0
  subst eu0
  have hSq : SqL X.K H' p (L.as.map V.ref) := .inl (.inl hu0)
  have ll : ρ'.length = ρ1.length := (wk t os' ρ' w).2
  by_cases hlt : t < L.as.length
  · obtain ⟨a, ha⟩ : ∃ a, L.as[t]? = some a := ⟨_, List.getElem?_eq_getElem hlt⟩
    obtain ⟨o, ho⟩ : ∃ o, os'[t]? = some o := ⟨_, List.getElem?_eq_getElem (by rw [s.len]; exact hlt)⟩
    have hx : (L.as.map V.ref)[t]? = some (.ref a) := by rw [List.getElem?_map, ha]; rfl
    refine .inr ⟨⟨_, _, hSq, hx⟩, fun σ2 H2 => ∃ B2 ρ2 os2, W (t + 1) os2 ρ2 ∧ Go B H ρ B2 H2 ρ2 ∧ Rel (kwOf X) B2 H2 σ2 ρ2 ∧ Rows2 (kwOf X) B2 H2 ρ2 L.as os2, fun σ2 H2 q => ⟨L.as.length - (t + 1), by omega, rfl, hlt, q⟩, fun x H2 hy => ?_⟩
    obtain ⟨rfl, y2⟩ := hy
    have ex := y2 _ hSq
    rw [hx] at ex
    cases ex
    obtain ⟨qa, qn, u, qu, qo⟩ := s.at_ t a o ha ho
    obtain ⟨gc, rc⟩ := own_newO (i := xI) (ds := o) (by rw [ll]; exact lx) (hfresh t a ha) qu qa qn qo g r'
    have gb : Go B' H2 (ρ'.set xI (.own a o)) B' H2 (ρ'.set xI (.own a o)) := Go.refl
    refine (step t os' ρ' a o ha ho w).run B' H2 _ ⟨_, Z.e, Z.tk⟩ rc ⟨fun B3 H4 σ3 ρ3 p3 g3 r3 => ?_, fun v d B3 H4 σ3 ρ3 p3 dv g3 r3 => p3.elim, fun B3 H4 σ3 ρ3 p3 g3 r3 => p3.elim, fun B3 H4 σ3 ρ3 p3 g3 r3 => p3.elim, fun c dx B3 H4 σ3 ρ3 p3 k3 g3 r3 => ff.ex c dx B3 H4 σ3 ρ3 p3 k3 (gc.trans g3) r3⟩
    obtain ⟨o2, ho2, w3⟩ := p3
    exact ⟨B3, _, _, w3, (gc.trans g3).trans go_no, rel_no r3 rfl, rows_turn s ha g3 ho2 r3⟩
  · have e : t = L.as.length := by omega
    subst e
    refine .inl ⟨⟨_, hSq, by rw [List.length_map]; exact Nat.le_refl _⟩, ?_⟩
    have w' : W (L.map (·.2)).length os' ρ' := by
      rw [← nL]
      exact w
    refine (done os' ρ' (by rw [s.len, nL]) w').run B' H' σ' _ r' fun bb B2 H2 ρ2 p2 g2 r2 => ?_
    obtain ⟨hr2, pt, pf⟩ := p2
    have s2 := s.go g2
    cases bb with
    | false =>
      rw [if_neg Bool.false_ne_true]
      exact (pf rfl).run B2 H2 σ' Z r2 (ff.go (g.trans g2))
    | true =>
      rw [if_pos rfl]
      obtain ⟨n, hn⟩ : ∃ n, L.as.length = n + 1 := by
        cases e : L.as.length with
        | zero =>
          rw [e] at nL
          exact absurd (List.length_eq_zero_iff.mp nL.symm) hne
        | succ n => exact ⟨n, rfl⟩
      obtain ⟨a, ha⟩ : ∃ a, L.as[n]? = some a := ⟨_, List.getElem?_eq_getElem (by omega)⟩
      obtain ⟨o, ho⟩ : ∃ o, os'[n]? = some o := ⟨_, List.getElem?_eq_getElem (by rw [s.len]; omega)⟩
      have hlast : os'.getLast? = some o := by
        rw [List.getLast?_eq_getElem?, s.len, hn]
        exact ho
      obtain ⟨fs, rfl, hno, hS⟩ := pt rfl o hlast
      obtain ⟨qa, qn, u, qu, qo⟩ := s2.at_ n a _ ha ho
      have lg2 : gI < ρ2.length := by
        rw [r2.len, ← r'.len, ll]
        exact lg
      obtain ⟨gc, rc⟩ := own_newO (i := gI) (ds := .ob CA fs) lg2 (hfresh n a ha) qu qa qn qo (g.trans g2) r2
      have hgX : X.N[gI]? = some gy := by
        rw [C.n]
        exact hgN
      have hgV : ¬ Vis X.env.scope gy := by
        rw [C.s]
        exact unseen_vis hgv List.mem_cons_self
      refine ss_more (σ' := σ'.set gI (some (.ref a))) (More.set hgX hgV) ?_
      refine PSs.sem (pss_one (ps_expr (pe_methE0 (E := WE Z.e) (pe_ix ix_list (pe_var (C.ix hrI) (C.vi hrI) hd hcd) (pe_un un_neg pe_int) hix) hc hm Fo (C.room.mono hj) hb (fun σ => passAt Z.tk σ) ht) hs3)) ?_
      have neg : rI ≠ gI := fun e => by
        have := C.ix hrI
        rw [e] at this
        rw [hgX] at this
        cases this
        exact hgV (C.vi hrI)
      obtain ⟨sr2, _, u2, hu2, eu2⟩ := r2.own rI p _ hr2
      have eu2 : u2 = .lst (L.as.map V.ref) := eu2
      subst eu2
      obtain ⟨dx0, vs0, d0, rfl⟩ := qo
      refine ⟨.ref p, by rw [List.getElem?_set_ne (Ne.symm neg)]; exact sr2, 1, rfl, p, L.as.map V.ref, -1, .ref a, rfl, rfl, .inl (.inl hu2), atI_neg1 (by rw [List.length_map]; exact hn) (by rw [List.getElem?_map, ha]; rfl), ?_⟩
      refine ⟨a, dx0, _, rfl, qu, (look_ob d0).2 hno, ?_⟩
      have sg : (σ'.set gI (some (V.ref a)))[gI]? = some (some (V.ref a)) := List.getElem?_set_self (by rw [← r2.len]; exact lg2)
      have hog : (ρ2.set gI (.own a (.ob CA fs)))[gI]? = some (.own a (.ob CA fs)) := List.getElem?_set_self lg2
      have pr2 : Paired (ArOk X.K B2 (σ'.set gI (some (V.ref a)))) [.ref a] [.ow gI] := .cons (show ArOk X.K B2 _ (.ref a) (.ow gI) from sg) .nil
      have c2 : ownAll (ρ2.set gI (.own a (.ob CA fs))) [.ow gI] := ⟨⟨_, _, hog⟩, trivial⟩
      have r0 := rel_args rc pr2 rfl c2
      have e0 : ([Ar.ow gI].map (Ar.sl (ρ2.set gI (.own a (.ob CA fs))))) = [.own a (.ob CA fs)] := by
        show [((ρ2.set gI (.own a (.ob CA fs)))[gI]?).getD .no] = _
        rw [hog]
        rfl
      refine ⟨B2, _, _, _, r0, rfl, by rw [e0]; exact hS a, fun v d B3 H3 as' w u dv g3 r3 => (show False from w).elim, fun c1 dx B3 H3 as' w k3 u g3 r3 => ?_⟩
      obtain ⟨g4, r4⟩ := rel_back rc pr2 c2 u g3 r3
      exact ff.ex c1 dx B3 H3 _ _ w k3 (gc.trans g4) r4
end

open PySem PySem.Spec PyProof.Rows L2
open Evl (Ex)
def setG (A : Nat → Addr) (j0 : Nat) : Nat → En → En
  | 0, ρ => ρ
  | n + 1, ρ => (setG A j0 n ρ).set (j0 + n) (.own (A n) (.l []))
def setGσ (A : Nat → Addr) (j0 : Nat) : Nat → L2.St → L2.St
  | 0, σ => σ
  | n + 1, σ => (setGσ A j0 n σ).set (j0 + n) (some (.ref (A n)))
def esA (zs : List Str) (A : Nat → Addr) : List (Str × Addr) := zs.zipIdx.map fun q => (q.1, A q.2)
theorem zip_esA {zs : List Str} {L : List Addr} (h : L.length = zs.length) : List.zipWith (fun z a => ((Sum.inr z : Key), V.ref a)) zs L = (esA zs fun n => L.getD n 0).map fun e => (Sum.inr e.1, V.ref e.2) := by
  unfold esA
  apply List.ext_getElem
  · simp [h]
  · intro n h1 h2
    have : n < L.length := by
      rw [List.length_zipWith] at h1
      omega
    simp [List.getElem?_eq_getElem this]
theorem sw_cell {kx vx : Expr} {gs : List Comprehension} {scope : Scope} {pos py : Pos} {y : Str} {l : Nat} {env : Env} (hy : env.scope.names.lookup y = some .cell) : swapsWith (.DictComp kx vx gs scope pos) (some (.Name y py)) l env = pure false := by
  have ky : env.kindOf y = some .cell := hy
  unfold swapsWith
  simp only [ky]
  have : (some NameKind.cell == some NameKind.local) = false := by decide
  rw [this, Bool.and_false, Bool.false_and, Bool.false_and]
section
variable {X : Cx} {M : Md} {sc : Scope} {NK : List (Str × Bool × Bool)} {G : List Str} {k : Nat} {ρ : En} {P : D → En → Prop} {PB : Bool → En → Prop} {PL : List D → En → Prop} {pos : Pos} {tg e a b : Expr} {es : List Expr} {x y : Str} {F : Fin} {sts : List Stmt}
/-- x = {y: [] for y in NAME}, NAME a written dict at the top -/
theorem vs_newDr (C : Cst X M sc NK G k) {scope : Scope} {m i gi j0 : Nat} {d : Addr} {zs : List Str} {gn : Str} {px py py2 pl pg cpos spos : Pos} {v : Bool} (NK' : List (Str × Bool × Bool)) (G' : List Str) (hm : At NK m (x, v, true)) (hy : At NK' i (y, true, true)) (hg : At G gi gn) (hmg : M.mg gn = some (.ref d)) (hK : KKeys M.K d zs) (hnd : zs.Nodup) (hlen : zs.length ≤ 1000)
    (hmρ : m < ρ.length) (hiρ : i < ρ.length) (hjρ : j0 + zs.length ≤ ρ.length) (h : ∀ tp A, F.nx (setG A j0 zs.length (ρ.set m (.own tp (.dr (esA zs A))))))
    (hgh : unseen sc (((NK.map (·.1)).drop j0).take zs.length) = true) (hgl : j0 + zs.length ≤ NK.length)
    (ok : blkC (NK.map (·.1)) sc scope [(y, i)] = true := by decide +kernel) (hN : NK'.map (·.1) = NK.map (·.1) := by rfl) (hc : chk (relS scope sc) false NK' G' = true := by decide +kernel)
    (hxc : sc.names.lookup x = some .cell := by decide +kernel)
    (hs : ∀ z, foldedSetIterable (.Name gn pg) X.env z = pure z := by intro _; rfl) (hd1 : (gn == ("__debug__" : Str)) = false := by decide) (hd : (y == ("__debug__" : Str)) = false := by decide) (hcd : (y == ("__classdict__" : Str)) = false := by decide) :
    VS X (.Assign [.Name x px] (.DictComp (.Name y py2) (.List [] pl) [⟨.Name y py, .Name gn pg, [], 0⟩] scope cpos) spos) ρ F := VS.mk fun B H σ Z r f => by
  have eM := C.m
  subst eM
  have ok' : BlkOk X.N X.env.scope scope [(y, i)] := by
    rw [C.n, C.s]
    exact blkOk_by ok
  have cb : ∀ (s : Shared) (H : Hp) (Ca : Addr) (cl : List (Str × Addr)) (fp : List Addr), Cst (X.blk s H scope (compEnvC scope cl Ca X.env) fp) (mdOf X) (relS scope sc) NK' G' k := fun s H Ca cl fp => cst_blk C hN hc
  refine s_more ?_
  refine PS.sem (ps_set C.nd (C.ix hm) (C.lo hm) (pe_dc (g := gName i) (tt := tYes) (tk := tVar i) (tv := tLst tNil) C.calm C.nd (pi_keysW (pe_glob (C.g hg) (C.mg hmg) (v := .ref d) rfl hd1)) ok' (fun s H Ca cl fp => pg_name (cb s H Ca cl fp).nd ((cb s H Ca cl fp).ix hy) ((cb s H Ca cl fp).lo hy) ((cb s H Ca cl fp).fn hy)) (fun _ _ _ _ _ => pts_nil) (fun s H Ca cl fp => pe_var ((cb s H Ca cl fp).ix hy) ((cb s H Ca cl fp).vi hy) hd hcd) (fun _ _ _ _ _ => pe_lst pa_nil) hs) (sw_cell (by rw [C.s]; exact hxc)) (C.fn hm)) ?_
  have hlσ : ρ.length = σ.length := r.len
  refine ⟨d, zs, rfl, hK, fun Dl hD => ?_⟩
  refine ⟨fun t mm H' => mm = zs.length - t ∧ t ≤ zs.length ∧ ∃ L : List Addr, L.length = t ∧ L.Nodup ∧ Dl ∉ L ∧ H' Dl = some (.dK (List.zipWith (fun z a => ((Sum.inr z : Key), V.ref a)) (zs.take t) L)) ∧ (∀ a ∈ L, H a = none ∧ H' a = some (.lst [])) ∧ (∀ a, a ≠ Dl → a ∉ L → H' a = H a),
    ⟨zs.length, by omega, by omega, [], rfl, List.nodup_nil, by simp, upd_same, by simp, fun a h1 _ => upd_ne h1⟩, ?_⟩
  rintro t mm H' ⟨rfl, ht, L, hL, nd, nD, hD', hA, hO⟩
  by_cases hlt : t < zs.length
  · refine .inr ⟨hlt, fun H' => ∃ L : List Addr, L.length = t + 1 ∧ L.Nodup ∧ Dl ∉ L ∧ H' Dl = some (.dK (List.zipWith (fun z a => ((Sum.inr z : Key), V.ref a)) (zs.take (t + 1)) L)) ∧ (∀ a ∈ L, H a = none ∧ H' a = some (.lst [])) ∧ (∀ a, a ≠ Dl → a ∉ L → H' a = H a), fun H2 q => ⟨zs.length - (t + 1), by omega, rfl, hlt, q⟩, fun x H2 hy => ?_⟩
    obtain ⟨rfl, z, hz, rfl⟩ := hy
    refine ⟨by show ((σ.set i none).set i (some _)).set i none = σ.set i none; rw [List.set_set, List.set_set], ?_⟩
    unfold tYes
    dsimp only
    rw [if_pos rfl]
    refine ⟨.str z, List.getElem?_set_self (by show i < (σ.set i none).length; rw [List.length_set, ← hlσ]; exact hiρ), ?_⟩
    refine ⟨Nat.zero_le _, fun q hq => ?_⟩
    have qD : Dl ≠ q := fun e => by
      rw [← e, hD'] at hq
      cases hq
    have qL : q ∉ L := fun e => by
      rw [(hA q e).2] at hq
      cases hq
    have e1 : zs.take (t + 1) = zs.take t ++ [z] := by
      rw [List.take_add_one, hz]
      rfl
    have ltk : (zs.take t).length = L.length := by
      rw [List.length_take, hL]
      omega
    have eput : putK (List.zipWith (fun z a => ((Sum.inr z : Key), V.ref a)) (zs.take t) L) (.inr z) (.ref q) = List.zipWith (fun z a => ((Sum.inr z : Key), V.ref a)) (zs.take (t + 1)) (L ++ [q]) := by
      unfold putK
      rw [if_neg, e1, List.zipWith_append ltk]
      · rfl
      · intro w
        obtain ⟨kv, hkv, e⟩ := List.any_eq_true.mp w
        obtain ⟨n, hn, rfl⟩ := List.getElem_of_mem hkv
        rw [List.getElem_zipWith] at e
        have e := of_decide_eq_true e
        have e := Sum.inr.inj e
        rw [List.getElem_take] at e
        have hn' : n < t := by
          rw [List.length_zipWith, ltk] at hn
          omega
        have hz' := List.getElem?_eq_some_iff.mp hz
        exact List.pairwise_iff_getElem.mp hnd n t (by omega) hz'.1 hn' (e.trans hz'.2.symm)
    refine ⟨List.zipWith (fun z a => ((Sum.inr z : Key), V.ref a)) (zs.take t) L, .inr z, rfl, by rw [upd_ne qD]; exact hD', ?_, L ++ [q], by rw [List.length_append, hL]; rfl, ?_, ?_, ?_, ?_, ?_⟩
    · have sl := sizeLine_eq
      rw [List.length_zipWith, ltk]
      omega
    · rw [List.nodup_append]
      exact ⟨nd, by simp, fun a ha b hb => by
        rw [List.mem_singleton.mp hb]
        exact fun e => qL (e ▸ ha)⟩
    · intro w
      rcases List.mem_append.mp w with w | w
      · exact nD w
      · exact qD (List.mem_singleton.mp w)
    · rw [upd_same, eput]
    · intro a ha
      rcases List.mem_append.mp ha with ha | ha
      · refine ⟨(hA a ha).1, ?_⟩
        rw [upd_ne (fun e => nD (by rw [← e]; exact ha)), upd_ne (fun e => qL (by rw [← e]; exact ha))]
        exact (hA a ha).2
      · rw [List.mem_singleton.mp ha]
        refine ⟨?_, by rw [upd_ne (Ne.symm qD)]; exact upd_same⟩
        rw [← hO q (Ne.symm qD) qL]
        exact hq
    · intro a h1 h2
      rw [upd_ne h1, upd_ne (fun e => h2 (by rw [e]; simp))]
      exact hO a h1 fun w => h2 (List.mem_append_left _ w)
  · have e : t = zs.length := by omega
    subst e
    refine .inl ⟨Nat.le_refl _, ?_⟩
    have eH : Ex H H' := fun a u hu => by
      have h1 : a ≠ Dl := fun e => by
        rw [e, hD] at hu
        cases hu
      have h2 : a ∉ L := fun w => by
        rw [(hA a w).1] at hu
        cases hu
      rw [hO a h1 h2]
      exact hu
    have bN : ∀ a, H a = none → B a = none := fun a ha => by
      cases e : B a with
      | none => rfl
      | some u =>
        rw [r.ex a u e] at ha
        cases ha
    have r1 : Rel (kwOf X) B H' σ ρ := r.grow (Evl.Ex.refl B) (r.ex.trans eH) eH (fun _ _ b => b)
    have g1 : Go B H ρ B H' ρ := Go.grow (Evl.Ex.refl B) eH (fun _ _ b => b)
    rw [List.take_length, zip_esA hL] at hD'
    obtain ⟨g2, r2⟩ := own_newO (i := m) (ds := .dr (esA zs fun n => L.getD n 0)) hmρ hD hD' (bN Dl hD) (not_own r hD) rfl g1 r1
    have getL : ∀ n, n < zs.length → ∃ hn : n < L.length, L.getD n 0 = L[n] := fun n hn => ⟨by omega, by rw [List.getD_eq_getElem?_getD, List.getElem?_eq_getElem (by omega)]; rfl⟩
    have all : ∀ n, n ≤ zs.length → Go B H ρ B H' (setG (fun n => L.getD n 0) j0 n (ρ.set m (.own Dl (.dr (esA zs fun n => L.getD n 0))))) ∧ Rel (kwOf X) B H' (setGσ (fun n => L.getD n 0) j0 n (σ.set m (some (.ref Dl)))) (setG (fun n => L.getD n 0) j0 n (ρ.set m (.own Dl (.dr (esA zs fun n => L.getD n 0))))) ∧
        (∀ a, Own (setG (fun n => L.getD n 0) j0 n (ρ.set m (.own Dl (.dr (esA zs fun n => L.getD n 0))))) a → Own ρ a ∨ a = Dl ∨ ∃ t, t < n ∧ a = L.getD t 0) ∧ (setG (fun n => L.getD n 0) j0 n (ρ.set m (.own Dl (.dr (esA zs fun n => L.getD n 0))))).length = ρ.length ∧ More X (σ.set m (some (.ref Dl))) (setGσ (fun n => L.getD n 0) j0 n (σ.set m (some (.ref Dl)))) := fun n => by
      induction n with
      | zero => exact fun _ => ⟨g2, r2, fun a w => (own_put w).imp id .inl, by show (List.set _ _ _).length = _; rw [List.length_set], More.refl⟩
      | succ n ih =>
        intro hn
        obtain ⟨i1, i2, i3, i4, i5⟩ := ih (by omega)
        obtain ⟨hnL, en⟩ := getL n (by omega)
        have hmem : L[n] ∈ L := List.getElem_mem hnL
        obtain ⟨q1, q2⟩ := hA _ hmem
        have no : ¬ Own (setG (fun n => L.getD n 0) j0 n (ρ.set m (.own Dl (.dr (esA zs fun n => L.getD n 0))))) L[n] := fun w => by
          rcases i3 _ w with w | w | ⟨t, ht, w⟩
          · exact not_own r q1 w
          · exact nD (w ▸ hmem)
          · obtain ⟨htL, et⟩ := getL t (by omega)
            rw [et] at w
            exact List.pairwise_iff_getElem.mp nd t n htL hnL ht w.symm
        obtain ⟨g3, r3⟩ := own_newO (i := j0 + n) (ds := .l []) (by rw [i4]; omega) q1 q2 (bN _ q1) no ⟨[], rfl, .nil⟩ i1 i2
        have hy : ∃ gy, (NK.map (·.1))[j0 + n]? = some gy ∧ gy ∈ (((NK.map (·.1)).drop j0).take zs.length) := by
          have hl2 : j0 + n < (NK.map (·.1)).length := by rw [List.length_map]; omega
          refine ⟨_, List.getElem?_eq_getElem hl2, ?_⟩
          refine List.mem_of_getElem? (i := n) ?_
          rw [List.getElem?_take_of_lt (by omega), List.getElem?_drop, List.getElem?_eq_getElem hl2]
        obtain ⟨gy, hgy, hgm⟩ := hy
        refine ⟨?_, ?_, fun a w => ?_, ?_, ?_⟩
        · show Go B H ρ B H' (List.set _ _ (.own (L.getD n 0) _))
          rw [en]
          exact g3
        · show Rel _ B H' (List.set _ _ (some (.ref (L.getD n 0)))) (List.set _ _ (.own (L.getD n 0) _))
          rw [en]
          exact r3
        · rcases own_put (show Own (List.set _ _ (.own (L.getD n 0) _)) a from w) with w | w
          · rcases i3 a w with w | w | ⟨t, ht, w⟩
            · exact .inl w
            · exact .inr (.inl w)
            · exact .inr (.inr ⟨t, by omega, w⟩)
          · exact .inr (.inr ⟨n, by omega, w⟩)
        · show (List.set _ _ _).length = _
          rw [List.length_set]
          exact i4
        · refine i5.trans (More.set (y := gy) (by rw [C.n]; exact hgy) ?_)
          rw [C.s]
          exact unseen_vis hgh hgm
    obtain ⟨a1, a2, _, _, a5⟩ := all zs.length (Nat.le_refl _)
    exact ⟨_, a5, f.nx B H' _ _ (h Dl _) a1 a2⟩
end
/-! ### such lists told as data -/
section
variable {K : Kw} {B H : Hp} {σ : L2.St} {ρ : En}
theorem frz_slot {i : Nat} {p : Addr} {ds : List D} (r : Rel K B H σ ρ) (ho : ρ[i]? = some (.own p (.l ds))) : ∃ B', Ex B B' ∧ Rel K B' H σ (ρ.set i .no) ∧ Go B H ρ B' H (ρ.set i .no) ∧ Dp K.K B' (.ref p) (.list ds) := by
  obtain ⟨_, hb, u, h3, vs, rfl, h4⟩ := r.own i p _ ho
  have no : ¬ Own (ρ.set i .no) p := fun ⟨j, o, hj⟩ => by
    by_cases z : i = j
    · subst z
      rw [List.getElem?_set_self (List.getElem?_eq_some_iff.mp ho).1] at hj
      cases hj
    · rw [List.getElem?_set_ne z] at hj
      exact z (r.dis i j p _ _ ho hj)
  have r1 : Rel K B H σ (ρ.set i .no) := rel_no r rfl
  have g0 : Go (fun _ => none) (fun _ => none) [] B H (ρ.set i .no) := ⟨fun a o h => (by cases h), fun a o h => (by cases h), fun a h => absurd rfl h, fun a _ => .inr rfl, fun a _ => rfl⟩
  obtain ⟨_, r2, d2⟩ := own_frz (z := p) rfl h3 hb no h4 g0 r1
  refine ⟨_, Evl.Ex.new hb, r2, ⟨Evl.Ex.new hb, fun a o h _ => h, fun a h1 h2 h3' => ?_, fun a w => .inl (own_no w), fun a w => w⟩, d2⟩
  rw [upd_ne (fun e => h3' ⟨i, _, by rw [e]; exact ho⟩)]
  exact h2
def noG (j0 : Nat) : Nat → En → En
  | 0, ρ => ρ
  | n + 1, ρ => (noG j0 n ρ).set (j0 + n) .no
theorem noG_get {j0 : Nat} : ∀ {n i : Nat}, (i < j0 ∨ j0 + n ≤ i) → (noG j0 n ρ)[i]? = ρ[i]?
  | 0, i, _ => rfl
  | n + 1, i, h => by
    show (List.set _ _ _)[i]? = _
    rw [List.getElem?_set_ne (by omega)]
    exact noG_get (by omega)
theorem frz_all {j0 : Nat} {A : Nat → Addr} {T : Nat → List D} (r : Rel K B H σ ρ) : ∀ n, (∀ t, t < n → ρ[j0 + t]? = some (.own (A t) (.l (T t)))) → ∃ B', Ex B B' ∧ Rel K B' H σ (noG j0 n ρ) ∧ Go B H ρ B' H (noG j0 n ρ) ∧ ∀ t, t < n → Dp K.K B' (.ref (A t)) (.list (T t))
  | 0, _ => ⟨B, Evl.Ex.refl B, r, Go.refl, fun t h => (by omega)⟩
  | n + 1, h => by
    obtain ⟨B1, e1, r1, g1, d1⟩ := frz_all (j0 := j0) (A := A) (T := T) r n fun t ht => h t (by omega)
    obtain ⟨B2, e2, r2, g2, d2⟩ := frz_slot r1 (i := j0 + n) (p := A n) (ds := T n) (by rw [noG_get (.inr (by omega))]; exact h n (by omega))
    refine ⟨B2, e1.trans e2, r2, g1.trans g2, fun t ht => ?_⟩
    by_cases z : t = n
    · rw [z]
      exact d2
    · exact Dp.mono e2 (d1 t (by omega))
end
section
variable {X : Cx} {M : Md} {sc : Scope} {NK : List (Str × Bool × Bool)} {G : List Str} {k : Nat} {ρ : En} {P : D → En → Prop} {PB : Bool → En → Prop} {PL : List D → En → Prop} {pos : Pos} {tg e a b : Expr} {es : List Expr} {x y : Str} {F : Fin} {sts : List Stmt}
theorem upd_self {H : Hp} {p : Addr} {u : HO} (h : H p = some u) : upd H p u = H := by
  funext a
  by_cases e : a = p
  · rw [e, upd_same, h]
  · rw [upd_ne e]
abbrev frzE (m j0 : Nat) (zs : List Str) (T : Nat → List D) (tp : Addr) (ρ : En) : En := (noG j0 zs.length ρ).set m (.own tp (.dt (zs.zipIdx.map fun q => (q.1, PyData.list (T q.2)))))
theorem frzDr {K : Kw} {B H : Hp} {σ : L2.St} {m j0 : Nat} {zs : List Str} {A : Nat → Addr} {T : Nat → List D} {tp : Addr} (r : Rel K B H σ ρ) (hm : ρ[m]? = some (.own tp (.dr (esA zs A)))) (hmj : m < j0) (hg : ∀ t, t < zs.length → ρ[j0 + t]? = some (.own (A t) (.l (T t)))) :
    ∃ B1, Rel K B1 H σ (frzE m j0 zs T tp ρ) ∧ Go B H ρ B1 H (frzE m j0 zs T tp ρ) := by
  obtain ⟨B1, e1, r1, g1, d1⟩ := frz_all (j0 := j0) (A := A) (T := T) r zs.length hg
  have hm1 : (noG j0 zs.length ρ)[m]? = some (.own tp (.dr (esA zs A))) := by
    rw [noG_get (.inl hmj)]
    exact hm
  obtain ⟨_, _, u, hu, eu⟩ := r1.own m tp _ hm1
  have all : ∀ (l : List (Str × Nat)), (∀ q ∈ l, q.2 < zs.length) → DpAll K.K B1 (l.map fun q => V.ref (A q.2)) (l.map fun q => PyData.list (T q.2)) := fun l => by
    induction l with
    | nil => exact fun _ => .nil
    | cons q l ih => exact fun w => .cons (d1 q.2 (w q List.mem_cons_self)) (ih fun q' hq => w q' (List.mem_cons_of_mem _ hq))
  have lt : ∀ q ∈ zs.zipIdx, q.2 < zs.length := fun q hq => by
    have := List.mem_zipIdx hq
    omega
  obtain ⟨r2, g2⟩ := own_writeO (u' := u) (cs' := .dt (zs.zipIdx.map fun q => (q.1, PyData.list (T q.2)))) r1 hm1 ⟨zs.zipIdx.map fun q => V.ref (A q.2), by
    rw [List.map_map]
    exact all _ lt, by
    have eu' : u = .dK ((esA zs A).map fun e => (Sum.inr e.1, V.ref e.2)) := eu
    rw [eu']
    congr 1
    unfold esA
    rw [List.map_map]
    apply List.ext_getElem
    · simp
    · intro n h1 h2
      simp⟩
  rw [upd_self hu] at r2 g2
  exact ⟨B1, r2, g1.trans g2⟩
theorem vss_frzDr {m j0 : Nat} {zs : List Str} {A : Nat → Addr} {T : Nat → List D} {tp : Addr} (hm : ρ[m]? = some (.own tp (.dr (esA zs A)))) (hmj : m < j0) (hg : ∀ t, t < zs.length → ρ[j0 + t]? = some (.own (A t) (.l (T t))))
    (h : VSs X sts (frzE m j0 zs T tp ρ) F) : VSs X sts ρ F := VSs.mk fun B H σ Z r f => by
  obtain ⟨B1, r1, g1⟩ := frzDr r hm hmj hg
  exact h.run B1 H σ Z r1 (f.go g1)
theorem vt_frzDr {m j0 : Nat} {zs : List Str} {A : Nat → Addr} {T : Nat → List D} {tp : Addr} (hm : ρ[m]? = some (.own tp (.dr (esA zs A)))) (hmj : m < j0) (hg : ∀ t, t < zs.length → ρ[j0 + t]? = some (.own (A t) (.l (T t))))
    (h : VT X e (frzE m j0 zs T tp ρ) PB) : VT X e ρ PB := VT.mk fun B H σ Q r q => by
  obtain ⟨B1, r1, g1⟩ := frzDr r hm hmj hg
  exact h.run B1 H σ Q r1 fun b B' H' ρ' p g r' => q b B' H' ρ' p (g1.trans g) r'
/-- d[e], d a dict of one's own by texts -/
theorem vd_ixDt (C : Cst X M sc NK G k) {i : Nat} {l : Bool} {px : Pos} {p : Addr} {es0 : List (Str × D)} (ha : At NK i (x, true, l)) (ho : ρ[i]? = some (.own p (.dt es0)))
    (h : VD X e ρ fun d ρ1 => ∃ (z : Str) (v : D), d = .str z ∧ ρ1[i]? = some (.own p (.dt es0)) ∧ getS es0 z = some v ∧ P v ρ1)
    (hs : NoSl e := by exact fun _ _ => rfl) (hd : (x == ("__debug__" : Str)) = false := by decide) (hcd : (x == ("__classdict__" : Str)) = false := by decide) : VD X (.Subscript (.Name x px) e pos) ρ P := VD.mk fun B H σ Q r q => by
  have hu := C.hu
  refine PE.sem (pe_dget (by omega) (pe_var (C.ix ha) (C.vi ha) hd hcd) pe_sem hs) ?_
  obtain ⟨s0, _, _, h30, _⟩ := r.own i p _ ho
  refine ⟨.ref p, s0, ?_⟩
  refine h.run B H σ _ r fun vz dz B1 H1 ρ1 p1 dv g1 r1 => ?_
  obtain ⟨z, v, rfl, ho1, hz, pp⟩ := p1
  obtain ⟨s1, _, _, h3, vs, dvs, rfl⟩ := r1.own i p _ ho1
  obtain ⟨v0, hv0, d0⟩ := (valS (z := z) (es := es0) dvs).1 v hz
  refine ⟨p, v0, rfl, ?_, q v0 v B1 H1 ρ1 pp d0 g1 r1⟩
  rw [dp_str dv, ← hv0]
  exact DGet.k (k := .inr z) h3
/-! ### all() over data -/
def rAllD (K : PySem.W.Frag) : List V → Hp → VK → Prop := fun vs H Q => ∃ (a : Addr) (xs : List V) (ds : List D), vs = [V.ref a] ∧ SqL K H a xs ∧ DpAll K H xs ds ∧ PyData.plainAll ds = true ∧ (∀ x ∈ ds, x.fits63) ∧ Q (.bl (ds.all PyData.truthy)) H
theorem cr_allD (hc : X.calm = true) : CallR X (.builtin "all") (rAllD X.K) := by
  intro pins s σ H vs us Q I r h
  obtain ⟨a, xs, ds, rfl, hs, hd, hp, hf, q⟩ := h
  obtain ⟨its, rv, hl, _⟩ := I.list hs
  rw [Vals.ref1 r]
  obtain ⟨as, hr⟩ := Dp.readsAll I ds xs its hd rv
  exact PySem.W.all_list_data (I.ok.hd hc) hl.isList hr hp hf fun h' tk hk => ⟨.bl _, H, I.kept hk, rfl, q⟩
theorem does_allD (C : Cst X M sc NK G k) : Does X (.builtin "all") (fun ds W => ∃ xs : List D, ds = [.list xs] ∧ PyData.plainAll xs = true ∧ (∀ x ∈ xs, x.fits63) ∧ W (.bool (xs.all PyData.truthy))) := fun B H vs ds W Q e h s q => by
  obtain ⟨xs, rfl, hp, hf, w⟩ := s
  cases h with
  | cons h1 h2 =>
    cases h2
    obtain ⟨t, vs, rfl, hT, hx⟩ := dp_lst h1
    exact CallR.sem (cr_allD C.calm) ⟨t, vs, xs, rfl, ex_l e hT, DpAll.mono e hx, hp, hf, q _ _ B H w (.bl _) (Ex.refl B) e (Ex.refl H) fun _ _ b => b⟩
/-! ### stars -/
theorem va_star {sp : Pos} (h : VD X e ρ fun d ρ1 => ∃ ds : List D, (d = .tuple ds ∨ d = .list ds) ∧ VA X es ρ1 fun r ρ2 => PL (ds ++ r) ρ2)
    (hs : starEach (.Starred e sp :: es) X.env = (true, eval e X.env) :: starEach es X.env := by rfl) : VA X (.Starred e sp :: es) ρ PL := VA.mk fun B H σ Q r q => by
  refine PA.sem (StX.pa_star pe_sem pa_sem hs) ?_
  refine h.run B H σ _ r fun v d B1 H1 ρ1 p1 dv g1 r1 => ?_
  obtain ⟨ds, hd, p1⟩ := p1
  obtain ⟨t, xs, rfl, hx, dx⟩ : ∃ t xs, v = .ref t ∧ (SqT X.K H1 t xs ∨ SqL X.K H1 t xs) ∧ DpAll X.K B1 xs ds := by
    rcases hd with rfl | rfl
    · obtain ⟨t, xs, rfl, hT, hx⟩ := dp_tup dv
      exact ⟨t, xs, rfl, .inl (ex_t r1.ex hT), hx⟩
    · obtain ⟨t, xs, rfl, hT, hx⟩ := dp_lst dv
      exact ⟨t, xs, rfl, .inr (ex_l r1.ex hT), hx⟩
  refine ⟨t, xs, rfl, hx, ?_⟩
  exact p1.run B1 H1 σ _ r1 fun vs rs B2 H2 ρ2 p2 dvs g2 r2 => q (xs ++ vs) (ds ++ rs) B2 H2 ρ2 p2 (DpAll.app (DpAll.mono g2.ex dx) dvs) (g1.trans g2) r2
end
end Vc

namespace K7
open PySem PySem.Spec PyProof.Rows L2 Vc
local macro_rules | `(tactic| walk_at "at") => `(tactic| (repeat (first | with_reducible exact At.here | apply At.there)))
local macro_rules | `(tactic| walk_at "v") => `(tactic| first
  | refine vd_bin ?_
  | (refine vd_name (by assumption) (by walk_at "at") rfl ?_)
  | refine vd_int ?_
  | refine vd_bool ?_
  | refine vd_none ?_
  | refine vd_str ?_
  | refine vd_if ?_
  | (refine vd_neg ?_)
  | refine vd_tup ?_
  | refine va_nil ?_
  | refine va_cons ?_
  | refine vs_ret ?_
  | refine vss_nil ?_
  | refine vss_one ?_
  | refine vss_cons ?_
  | refine vs_if ?_
  | refine vt_cmp (by assumption) ?_
  | refine vs_set (by assumption) (by walk_at "at") ?_
  | refine vd_cmp (by assumption) ?_
  | refine vgs_nil ?_
  | refine vgs_cons ?_
  | refine vg_name (by assumption) (by walk_at "at") ?_
  | (refine vd_callT (x := "int") (by assumption) does_int (by walk_at "at") ?_)
  | (refine vd_callB (x := "len") (by assumption) does_len (by walk_at "at") ?_)
  | (refine vd_callB (x := "abs") (by assumption) does_abs (by walk_at "at") ?_)
  | (refine vd_ixo (by assumption) (by walk_at "at") rfl ?_)
  | refine vd_ix ?_)
local macro_rules | `(tactic| walk_at "sw") => `(tactic| (intro env h; cases env; dsimp only at h; subst h; rfl))
local macro_rules | `(tactic| walk_at "vv") => `(tactic| repeat (walk_at "v"))
local macro_rules | `(tactic| walk_at "no") => `(tactic| exact fs_no (by decide +kernel) (by decide +kernel) (by decide +kernel))
/-! ### read_net -/
section
variable {X : Cx} {M : Md} {sc : Scope} {NK : List (Str × Bool × Bool)} {G : List Str} {k : Nat} {ρ : En} {PL : List OD → En → Prop} {pos : Pos} {a : Expr}
theorem vl_rowsOf (C : Cst X M sc NK G k) {f CA : Addr} {fd : FuncData} {i : Nat} {p : Pos} (Fo : FnOk M.prog M.w M.K M.mg M.base (L2.CX M.prog M.w) 4 f fd ["text"] (SpRows (kwM M) CA)) (hm : M.mg "rows_of" = some (.ref f)) (hk : PySem.W.keepIn M.K (.ref f) = true) (hb : Binds M.K fd ["text"] []) (hg : At G i "rows_of")
    (h : VD X a ρ fun d ρ1 => ∃ u, d = .str (sT u) ∧ TextOk u ∧ PL (rowsOD CA u) ρ1) (hj : 4 ≤ k := by decide)
    (he : starEach [a] X.env = (false, eval a X.env) :: starEach [] X.env := by rfl) (hpl : (backTo pos (starEach [] X.env)).any (·.1) = false := by rfl) : VL X (.Call (.Name "rows_of" p) [a] [] pos) ρ PL := ⟨fun B H σ Q r q => by
  have eM := C.m
  subst eM
  refine PE.sem (pe_call (E := E0) Fo (C.room.mono hj) (C.g hg) hm hk hb .nil passL (pa_cons pe_sem pa_nil he) (by decide) he hpl) ?_
  refine h.run B H σ _ r fun v d B1 H1 ρ1 p1 dv g1 r1 => ?_
  obtain ⟨u, rfl, tx, pp⟩ := p1
  have ev := dp_str dv
  subst ev
  refine ⟨u, rfl, tx, fun p L H' hL hp hLa hpL nd hl keep his => ?_⟩
  have bN : ∀ a, H1 a = none → B1 a = none := fun a ha => by
    cases e : B1 a with
    | none => rfl
    | some u =>
      rw [r1.ex a u e] at ha
      cases ha
  have r2 : Rel (kwOf X) B1 H' σ ρ1 := r1.grow (Evl.Ex.refl B1) (fun a o h => keep a o (r1.ex a o h)) keep (fun _ _ b => b)
  have g2 : Go B1 H1 ρ1 B1 H' ρ1 := Go.grow (Evl.Ex.refl B1) keep (fun _ _ b => b)
  refine q p L B1 H' ρ1 (by rw [hL]; exact pp) (g1.dom p hp) (fun a ha => g1.dom a (hLa a ha)) hpL hl (bN p hp) (not_own r1 hp) ⟨nd, fun a o hao => ?_⟩ (g1.trans g2) r2
  obtain ⟨v, hv, iso⟩ := his a o hao
  have hHa : H1 a = none := hLa a (List.mem_map.mpr ⟨_, hao, rfl⟩)
  exact ⟨bN a hHa, not_own r1 hHa, v, hv, OD.mono (fun _ _ h => by cases h) iso⟩⟩
end
/-- a place, or none: the error that tells of the net -/
abbrev NR := Except (Option (Nat × Nat)) D
def mLoop : List (List Nat) → Nat → Tl → Option (Except (Nat × Nat) Tl)
  | [], _, T => some (.ok T)
  | l :: r, ln, T => if skip (part l) 0 = (part l).length then mLoop r (ln + 1) T else
    match mReadRow (part l) (skip (part l) 0) T with
    | none => none
    | some (.error a) => some (.error (ln, a + 1))
    | some (.ok (T', _)) => mLoop r (ln + 1) T'
def netOf (T : Tl) : Option D := match T 3, T 4, T 5 with
  | e0 :: _, .tuple ks :: _, t0 :: _ => some (.tuple [.tuple (T 0), .tuple (T 1), .tuple (T 2), .tuple (T 6), .tuple (e0 :: (ks ++ [t0]))])
  | _, _, _ => none
def mNetEnd : Option D → Option NR
  | none => none
  | some n => if okD n = true then some (if netD n = true then .ok n else .error none) else none
def okT (T : Tl) : Bool := PyData.plainAll [.list (T 3), .list (T 4), .list (T 5)] && (decide ((T 4).all (fun d => match d with | .tuple ks => decide (ks.length ≤ 900) | _ => false) = true))
def mTail (u : List Nat) (T : Tl) : Option NR := if okT T = true then (if ((T 3).isEmpty || ((T 4).isEmpty || (T 5).isEmpty)) = true then some (.error (some ((lns u).length, (part ((lns u).getLastD [])).length + 1))) else mNetEnd (netOf T)) else none
def mNet2 (u : List Nat) : Option (Except (Nat × Nat) Tl) → Option NR
  | none => none
  | some (.error q) => some (.error (some q))
  | some (.ok T) => mTail u T
def mNet (u : List Nat) : Option NR := if (lns u).isEmpty = true then none else mNet2 u (mLoop (lns u) 1 fun _ => [])
theorem three3 {a b c : Bool} : (!(!a && (!b && (!c && true)))) = (a || (b || c)) := by
  cases a <;> cases b <;> cases c <;> rfl
theorem add_len {T : Tl} {j : Nat} {v : D} (i : Nat) : ((T.add j v) i).length ≤ (T i).length + 1 := by
  unfold Tl.add
  split
  · rw [List.length_append]
    exact Nat.le_refl _
  · omega
theorem mReadRow_len {t : List Nat} {d d' : Nat} {T T' : Tl} (h : mReadRow t d T = some (.ok (T', d'))) (i : Nat) : (T' i).length ≤ (T i).length + 1 := by
  unfold mReadRow at h
  split at h
  · cases h
  · unfold mRow1 at h
    split at h
    · cases h
    · unfold mRow2 at h
      split at h
      · cases h
      · cases h
      · have h := Option.some.inj h
        unfold mRow3 at h
        split at h
        · cases h
        · cases h
          exact add_len i
theorem part_len {l : List Nat} : (part l).length ≤ l.length := (List.takeWhile_sublist _).length_le
def SReadNet (CN CT : Addr) : SX := fun as W WX => ∃ x, as = [.dat x] ∧ ((∃ u r, x = .str (sT u) ∧ TextOk u ∧ mNet u = some r ∧ (∀ net, r = .ok net → W net as) ∧ (r = .error none → WX (.ref CN) as) ∧ (∀ l c, r = .error (some (l, c)) → WX (bad CT l c) as)) ∨ (kitB (tyN x) "str" = some false ∧ WX (bad CT 0 0) as))
abbrev nRN : List Str := ["text", "told", "*0", "*1", "*2", "*3", "*4", "*5", "*6", "*7", "rows", "row", "parts", "net", "word"]
theorem scRN : FnScope nRN ["text"] (defScope sReadNet) := ⟨rfl, rfl, rfl, by decide +kernel, rfl, by decide +kernel, by decide +kernel⟩
abbrev nkRN : List (Str × Bool × Bool) := [("text", true, true), ("told", true, true), ("*0", false, false), ("*1", false, false), ("*2", false, false), ("*3", false, false), ("*4", false, false), ("*5", false, false), ("*6", false, false), ("*7", false, false), ("rows", true, true), ("row", true, true), ("parts", true, true), ("net", true, true), ("word", false, false)]
abbrev nkRN0 : List (Str × Bool × Bool) := [("text", false, false), ("told", false, false), ("*0", false, false), ("*1", false, false), ("*2", false, false), ("*3", false, false), ("*4", false, false), ("*5", false, false), ("*6", false, false), ("*7", false, false), ("rows", false, false), ("row", false, false), ("parts", false, false), ("net", false, false), ("word", true, true)]
abbrev nkRN1 : List (Str × Bool × Bool) := [("text", false, false), ("told", true, false), ("*0", false, false), ("*1", false, false), ("*2", false, false), ("*3", false, false), ("*4", false, false), ("*5", false, false), ("*6", false, false), ("*7", false, false), ("rows", false, false), ("row", false, false), ("parts", false, false), ("net", false, false), ("word", true, true)]
abbrev enN (tx : Sl) (tq : Addr) (A : Nat → Addr) (T : Tl) (rows row : Sl) : En := [tx, .own tq (.dr (esT A)), .own (A 0) (.l (T 0)), .own (A 1) (.l (T 1)), .own (A 2) (.l (T 2)), .own (A 3) (.l (T 3)), .own (A 4) (.l (T 4)), .own (A 5) (.l (T 5)), .own (A 6) (.l (T 6)), .no, rows, row, .no, .no, .no]
theorem enN_at {tx rows row : Sl} {tq : Addr} {A : Nat → Addr} {T : Tl} {j : Nat} (h : j < 7) : (enN tx tq A T rows row)[2 + j]? = some (.own (A j) (.l (T j))) := by
  rcases seven h with rfl | rfl | rfl | rfl | rfl | rfl | rfl <;> rfl
abbrev dtT (T : Tl) : List (Str × D) := [("bus", .list (T 0)), ("line", .list (T 1)), ("source", .list (T 2)), ("error", .list (T 3)), ("breaker", .list (T 4)), ("ticks", .list (T 5)), ("guard", .list (T 6))]
abbrev enF (tx : Sl) (tq : Addr) (T : Tl) (rows row parts net word : Sl) : En := [tx, .own tq (.dt (dtT T)), .no, .no, .no, .no, .no, .no, .no, .no, rows, row, parts, net, word]
theorem getS_here {z : Str} {d : D} {es : List (Str × D)} : getS ((z, d) :: es) z = some d := by
  unfold getS
  rw [List.find?_cons, decide_eq_true rfl]
  rfl
theorem getS_skip {z y : Str} {d : D} {es : List (Str × D)} (h : ¬ y = z) : getS ((y, d) :: es) z = getS es z := by
  unfold getS
  rw [List.find?_cons, decide_eq_false h]
theorem dtT_at {T : Tl} {j : Nat} {z : Str} (h : keysR[j]? = some z) : getS (dtT T) z = some (.list (T j)) := by
  have hj : j < 7 := (List.getElem?_eq_some_iff.mp h).1
  rcases seven hj with rfl | rfl | rfl | rfl | rfl | rfl | rfl <;> cases h
  · exact getS_here
  · rw [getS_skip (by decide +kernel), getS_here]
  · rw [getS_skip (by decide +kernel), getS_skip (by decide +kernel), getS_here]
  · rw [getS_skip (by decide +kernel), getS_skip (by decide +kernel), getS_skip (by decide +kernel), getS_here]
  · rw [getS_skip (by decide +kernel), getS_skip (by decide +kernel), getS_skip (by decide +kernel), getS_skip (by decide +kernel), getS_here]
  · rw [getS_skip (by decide +kernel), getS_skip (by decide +kernel), getS_skip (by decide +kernel), getS_skip (by decide +kernel), getS_skip (by decide +kernel), getS_here]
  · rw [getS_skip (by decide +kernel), getS_skip (by decide +kernel), getS_skip (by decide +kernel), getS_skip (by decide +kernel), getS_skip (by decide +kernel), getS_skip (by decide +kernel), getS_here]
section
variable {M : Md} {f fO CA CN CT GT fI dR aO : Addr} {fd fdO : FuncData}
theorem fReadNet (T0 : NetTxtB M.prog M.K M.mg CT GT fI) (R : RowTxt M.K CA) (ms : M.mg "isinstance" = none) (mstr : M.mg "str" = none) (mall : M.mg "all" = none) (mtu : M.mg "tuple" = none)
    (mR : M.mg "READERS" = some (.ref dR)) (hKR : KKeys M.K dR keysR) (mO : M.mg "ONCE" = some (.ref aO)) (hO : ∀ B, Dp M.K B (.ref aO) (.tuple (onceR.map PyData.str)))
    (FO : FnMt M 1 CA "is_over" 1 (SRow CA CT fOver)) (FE : FnMt M 2 CA "refuse_end" 1 (SRow CA CT fun t _ _ => some (.error t.length)))
    (FR : FnOk M.prog M.w M.K M.mg M.base (L2.CX M.prog M.w) 4 fO fdO ["text"] (SpRows (kwM M) CA)) (hmO : M.mg "rows_of" = some (.ref fO)) (hkO : PySem.W.keepIn M.K (.ref fO) = true) (hbO : Binds M.K fdO ["text"] [])
    (FRR : FnG M 8 "read_row" 2 7 (SReadRow CA CT)) (FC : FnX M 6 "check_net" 1 (SNet CN))
    (F : Fun M.K "read_net" "read_net" sReadNet f fd) (hm : M.mg "read_net" = some (.ref f)) (b : L2.Binds M.K fd ["text"] []) : FnX M 9 "read_net" 1 (SReadNet CN CT) := by
  refine fnXT_mk (k := 8) (NK := nkRN) (G := gReadNet) F scRN hm b rfl (by decide +kernel) rfl (by decide) fun X C tp as W WX hl hS => ?_
  obtain ⟨x, rfl, hS⟩ := hS
  show VSs X _ [.dat x, .no, .no, .no, .no, .no, .no, .no, .no, .no, .no, .no, .no, .no, .no] _
  refine vss_cons (vs_if (vt_not (vt_val (vd_isi C (T := "str") (by walk_at "at") (by walk_at "at") (vd_name C (by walk_at "at") rfl ?_)))))
  rcases hS with ⟨u, r, rfl, tx, hr, wok, wnet, wtx⟩ | ⟨hk, wx⟩
  · refine ⟨true, by show kitB "str" "str" = some true; decide +kernel, _, rfl, fun e => (by cases e), fun _ => ?_⟩
    refine vss_nil ?_
    unfold mNet at hr
    split at hr
    · cases hr
    rename_i hne
    refine vss_cons (vs_newDr C (j0 := 2) (i := 14) (zs := keysR) nkRN0 gReadNet0 (by walk_at "at") (by walk_at "at") (by walk_at "at") mR hKR (by decide +kernel) (by decide) (by show 1 < 15; decide) (by show 14 < 15; decide) (by show 2 + 7 ≤ 15; decide) (fun tq A => ?_) (by decide +kernel) (by decide))
    show VSs X _ (enN (.dat (.str (sT u))) tq A (fun _ => []) .no .no) _
    refine vss_rows C (S := SRow CA CT fun t _ _ => some (.error t.length)) (gI := 9) (gy := "*7") (by walk_at "at") (by walk_at "at") rfl (by decide +kernel) R.cl FE (vl_rowsOf C FR hmO hkO hbO (by walk_at "at") (vd_name C (by walk_at "at") rfl ⟨u, rfl, tx, ?_⟩))
    have hn0 : lns u ≠ [] := fun e => hne (by rw [e]; rfl)
    have lR : (rowsOD CA u).length = (lns u).length := by simp
    refine ⟨fun e => hn0 (List.length_eq_zero_iff.mp (by rw [← lR, e]; rfl)), by show 10 < 15; decide, by show 11 < 15; decide, by show 9 < 15; decide, fun p as has => ?_⟩
    have shortT : ∀ {i : Nat} {l : List Nat}, (lns u)[i]? = some l → (part l).length ≤ 1000 := fun {i l} h => Nat.le_trans part_len (tx.short l (List.mem_of_getElem? h))
    have manyT := tx.many
    refine ⟨fun t os ρ' => ∃ T, ρ' = enN (.dat (.str (sT u))) tq A T (.own p (.lr as)) .no ∧ (∀ i o, os[i]? = some o → ∃ l d, (lns u)[i]? = some l ∧ d ≤ (part l).length ∧ o = rowO CA (i + 1) (part l) d ∧ (t ≤ i → d = 0)) ∧ (∀ j, (T j).length ≤ t) ∧ mNet2 u (mLoop ((lns u).drop t) (t + 1) T) = some r,
      ⟨fun _ => [], rfl, fun i o ho => ?_, fun j => Nat.le_refl _, hr⟩, fun t os' ρ' ⟨T, e, _⟩ => (by rw [e]; exact ⟨rfl, rfl⟩), fun t os' ρ' a o ha ho ⟨T, hρ, hos, hT, hr⟩ => ?_, fun os' ρ' hlen ⟨T, hρ, hos, hT, hr⟩ => ?_⟩
    · rw [List.getElem?_map, List.getElem?_zipIdx] at ho
      cases e : (lns u)[i]? with
      | none =>
        rw [e] at ho
        cases ho
      | some l =>
        rw [e] at ho
        refine ⟨l, 0, rfl, Nat.zero_le _, ?_, fun _ => rfl⟩
        have := Option.some.inj ho
        rw [← this]
        simp
    · subst hρ
      obtain ⟨l, d, hl, hd, rfl, h0⟩ := hos t o ho
      have d0 := h0 (Nat.le_refl _)
      subst d0
      have hlt := (List.getElem?_eq_some_iff.mp hl)
      have hlt1 : t < (lns u).length := hlt.1
      have hln : t + 1 ≤ 1000 := Nat.le_trans hlt1 manyT
      have ht := shortT hl
      have hdrop : (lns u).drop t = l :: (lns u).drop (t + 1) := by
        rw [List.drop_eq_getElem_cons hlt.1, hlt.2]
      rw [hdrop] at hr
      unfold mLoop at hr
      have lt_os : t < os'.length := (List.getElem?_eq_some_iff.mp ho).1
      have nos : ∀ d2, d2 ≤ (part l).length → ∀ i o, (os'.set t (rowO CA (t + 1) (part l) d2))[i]? = some o → ∃ l d, (lns u)[i]? = some l ∧ d ≤ (part l).length ∧ o = rowO CA (i + 1) (part l) d ∧ (t + 1 ≤ i → d = 0) := fun d2 hd2 i o hi => by
        by_cases e : t = i
        · subst e
          rw [List.getElem?_set_self lt_os] at hi
          cases hi
          exact ⟨l, d2, hl, hd2, rfl, fun h => (by omega)⟩
        · rw [List.getElem?_set_ne e] at hi
          obtain ⟨l', d', h1, h2, h3, h4⟩ := hos i o hi
          exact ⟨l', d', h1, h2, h3, fun h => h4 (by omega)⟩
      show VSs X _ (enN (.dat (.str (sT u))) tq A T (.own p (.lr as)) (.own a (rowO CA (t + 1) (part l) 0))) _
      refine vss_one (vs_if (vt_not (vt_val (vd_no (ve_meth0 C R.cl FO (by walk_at "at") rfl (by walk_at "no") ⟨a, t + 1, part l, 0, [], _, rfl, hln, ht, hd, rfl, fun v d' h hd' => ?_, fun _ h => (by cases h)⟩)))))
      cases h
      refine ⟨_, rfl, fun e => ?_, fun e => ?_⟩
      · have e' : ¬ skip (part l) 0 = (part l).length := by simpa using e
        rw [if_neg e'] at hr
        refine vss_one (vs_callG C FRR (by walk_at "at") (vx_own C (by walk_at "at") rfl (vx_own C (by walk_at "at") rfl (vx_nil ⟨rfl, [.ow 2, .ow 3, .ow 4, .ow 5, .ow 6, .ow 7, .ow 8], rfl, fun g hg => ?_, ?_⟩))))
        · have : ∀ g ∈ [Ar.ow 2, .ow 3, .ow 4, .ow 5, .ow 6, .ow 7, .ow 8], ∃ i, g = Ar.ow i := by
            intro g hg
            simp only [List.mem_cons, List.not_mem_nil, or_false] at hg
            rcases hg with rfl | rfl | rfl | rfl | rfl | rfl | rfl <;> exact ⟨_, rfl⟩
          exact this g hg
        · cases hmr : mReadRow (part l) (skip (part l) 0) T with
          | none =>
            rw [hmr] at hr
            cases hr
          | some rr =>
            rw [hmr] at hr
            refine ⟨rfl, ⟨⟨_, _, rfl⟩, ⟨_, _, rfl⟩, ⟨_, _, rfl⟩, ⟨_, _, rfl⟩, ⟨_, _, rfl⟩, ⟨_, _, rfl⟩, ⟨_, _, rfl⟩, ⟨_, _, rfl⟩, ⟨_, _, rfl⟩, trivial⟩, rfl, a, t + 1, part l, skip (part l) 0, tq, A, T, rr, rfl, hln, ht, hd', fun j => Nat.le_trans (hT j) (by omega), hmr, fun T' d2 h hd2 => ?_, fun a2 h d2 T' => ?_⟩
            · subst h
              refine ⟨rowO CA (t + 1) (part l) d2, rfl, T', rfl, nos d2 hd2, fun j => ?_, hr⟩
              have := mReadRow_len hmr j
              have := hT j
              omega
            · subst h
              cases hr
              exact ⟨trivial, wtx _ _ rfl⟩
      · have e' : skip (part l) 0 = (part l).length := by simpa using e
        rw [if_pos e'] at hr
        exact vss_nil ⟨rowO CA (t + 1) (part l) (skip (part l) 0), rfl, T, rfl, nos _ hd', fun j => Nat.le_succ_of_le (hT j), hr⟩
    · subst hρ
      rw [lR, List.drop_length] at hr
      replace hr : mTail u T = some r := hr
      unfold mTail at hr
      split at hr
      · rename_i hok
        unfold okT at hok
        rw [Bool.and_eq_true, decide_eq_true_eq] at hok
        obtain ⟨hpl, hk4⟩ := hok
        refine vt_frzDr (m := 1) (j0 := 2) (zs := keysR) (A := A) (T := T) (tp := tq) rfl (by decide) (fun t ht => enN_at ht) ?_
        show VT X _ (enF (.dat (.str (sT u))) tq T (.own p (.lr as)) .no .no .no .no) _
        refine vt_not (vt_val (vd_callB C (x := "all") (does_allD C) (by walk_at "at") (va_cons (vn_vd (vn_lc C (i := 14) nkRN1 gReadNet1 (by walk_at "at") (vi_tup (vd_gtup C (by walk_at "at") mO hO ?_)))))))
        refine ⟨onceR.map PyData.str, rfl, by decide, fun j acc ρ' => ρ' = enF (.dat (.str (sT u))) tq T (.own p (.lr as)) .no .no .no .no ∧ acc = ([.list (T 3), .list (T 4), .list (T 5)] : List D).take j, ⟨rfl, rfl⟩, fun j d0 acc ρ' hj ⟨hρ, ha⟩ X' C' => ?_, fun acc ρ' ⟨hρ, ha⟩ => ?_⟩
        · subst hρ
          rw [List.getElem?_map] at hj
          obtain ⟨z, hz, rfl⟩ : ∃ z, onceR[j]? = some z ∧ PyData.str z = d0 := by
            cases e : onceR[j]? with
            | none =>
              rw [e] at hj
              cases hj
            | some z =>
              rw [e] at hj
              exact ⟨z, rfl, by simpa using hj⟩
          have hj3 : j < 3 := (List.getElem?_eq_some_iff.mp hz).1
          show VD X' _ (enF (.dat (.str (sT u))) tq T (.own p (.lr as)) .no .no .no (.dat (.str z))) _
          refine vd_ixDt C' (by walk_at "at") rfl (vd_name C' (by walk_at "at") rfl ⟨z, .list (T (3 + j)), rfl, rfl, dtT_at (j := 3 + j) (by rw [← hz]; rcases (show j = 0 ∨ j = 1 ∨ j = 2 by omega) with rfl | rfl | rfl <;> rfl), rfl, ?_⟩)
          rw [ha]
          rcases (show j = 0 ∨ j = 1 ∨ j = 2 by omega) with rfl | rfl | rfl <;> rfl
        · subst hρ ha
          refine va_nil ⟨[.list (T 3), .list (T 4), .list (T 5)], rfl, hpl, fun y hy => ?_, _, rfl, rfl, fun e o hlast => ?_, fun e => ?_⟩
          · have l3 := hT 3
            have l4 := hT 4
            have l5 := hT 5
            have ln : (rowsOD CA u).length ≤ 1000 := by
              rw [lR]
              exact manyT
            simp only [List.mem_cons, List.not_mem_nil, or_false] at hy
            rcases hy with rfl | rfl | rfl
            · show ((T 3).length : Int) < 2 ^ 63
              omega
            · show ((T 4).length : Int) < 2 ^ 63
              omega
            · show ((T 5).length : Int) < 2 ^ 63
              omega
          · have hc : ((T 3).isEmpty || ((T 4).isEmpty || (T 5).isEmpty)) = true := by
              rw [← three3]
              exact e
            rw [if_pos hc] at hr
            cases hr
            rw [List.getLast?_eq_getElem?] at hlast
            obtain ⟨l, d, h1, h2, rfl, _⟩ := hos _ _ hlast
            have ln : os'.length = (lns u).length := by rw [hlen, lR]
            have hpos : 0 < (lns u).length := List.length_pos_iff.mpr hn0
            rw [ln] at h1
            have hlast2 : (lns u).getLastD [] = l := by
              rw [List.getLastD_eq_getLast?, List.getLast?_eq_getElem?, h1]
              rfl
            rw [ln, show (lns u).length - 1 + 1 = (lns u).length by omega]
            refine ⟨_, rfl, (by walk_at "no"), fun a => ⟨a, (lns u).length, part l, d, [], .error (part l).length, rfl, manyT, shortT h1, h2, rfl, fun _ _ h => (by cases h), fun a2 h d' => ?_⟩⟩
            cases h
            refine ⟨trivial, wtx _ _ ?_⟩
            rw [hlast2]
          · have hc : ¬ ((T 3).isEmpty || ((T 4).isEmpty || (T 5).isEmpty)) = true := by
              intro z
              rw [← three3] at z
              have e2 : (!(!(T 3).isEmpty && (!(T 4).isEmpty && (!(T 5).isEmpty && true)))) = false := e
              rw [e2] at z
              cases z
            rw [if_neg hc] at hr
            unfold mNetEnd at hr
            split at hr
            · cases hr
            rename_i net hnet
            split at hr
            · rename_i hokD
              unfold netOf at hnet
              split at hnet
              · rename_i e0 r0 ks r1 t0 r2 h3 h4 h5
                have hnet := Option.some.inj hnet
                show VSs X _ (enF (.dat (.str (sT u))) tq T (.own p (.lr as)) .no .no .no .no) _
                refine vss_cons (vs_setLc C (i := 14) (m := 12) nkRN1 gReadNet2 (by walk_at "at") (by walk_at "at") (vi_tup (vd_tup (va_cons (vd_str (va_cons (vd_str (va_cons (vd_str (va_cons (vd_str (va_nil ?_))))))))))))
                refine ⟨by show 4 ≤ 1000; decide, _, rfl, by show 4 ≤ 100000; decide, fun j acc ρ' => ρ' = enF (.dat (.str (sT u))) tq T (.own p (.lr as)) .no .no .no .no ∧ acc = ([.tuple (T 0), .tuple (T 1), .tuple (T 2), .tuple (T 6)] : List D).take j, ⟨rfl, rfl⟩, fun j d0 acc ρ' hj ⟨hρ, ha⟩ X' C' => ?_, fun acc ρ' ⟨hρ, ha⟩ => ?_⟩
                · subst hρ
                  have hj4 : j < 4 := (List.getElem?_eq_some_iff.mp hj).1
                  obtain ⟨z, i, hz, rfl, hi⟩ : ∃ (z : Str) (i : Nat), keysR[i]? = some z ∧ d0 = .str z ∧ ([.tuple (T 0), .tuple (T 1), .tuple (T 2), .tuple (T 6)] : List D).take (j + 1) = ([.tuple (T 0), .tuple (T 1), .tuple (T 2), .tuple (T 6)] : List D).take j ++ [.tuple (T i)] := by
                    rcases (show j = 0 ∨ j = 1 ∨ j = 2 ∨ j = 3 by omega) with rfl | rfl | rfl | rfl <;> cases hj
                    · exact ⟨_, 0, rfl, rfl, rfl⟩
                    · exact ⟨_, 1, rfl, rfl, rfl⟩
                    · exact ⟨_, 2, rfl, rfl, rfl⟩
                    · exact ⟨_, 6, rfl, rfl, rfl⟩
                  show VD X' _ (enF (.dat (.str (sT u))) tq T (.own p (.lr as)) .no .no .no (.dat (.str z))) _
                  refine vd_callT C' (x := "tuple") does_tupleL (by walk_at "at") (va_cons (vd_ixDt C' (by walk_at "at") rfl (vd_name C' (by walk_at "at") rfl ⟨z, .list (T i), rfl, rfl, dtT_at hz, va_nil ⟨_, rfl, rfl, ?_⟩⟩)))
                  rw [ha]
                  exact hi.symm
                · subst hρ ha
                  show VSs X _ (enF (.dat (.str (sT u))) tq T (.own p (.lr as)) .no (.dat (.list [.tuple (T 0), .tuple (T 1), .tuple (T 2), .tuple (T 6)])) .no .no) _
                  have hk9 : ks.length ≤ 900 := by
                    have := hk4
                    rw [h4] at this
                    rw [List.all_cons, Bool.and_eq_true] at this
                    exact of_decide_eq_true this.1
                  refine vss_cons (vs_set C (by walk_at "at") (vd_tup (va_star (vd_name C (by walk_at "at") rfl ⟨_, .inr rfl, va_cons (vd_tup (va_cons (vd_ix (vd_ixDt C (by walk_at "at") rfl (vd_str ⟨"error", _, rfl, rfl, dtT_at (j := 3) rfl, ?_⟩)))))⟩))))
                  refine vd_int ⟨e0, by rw [h3]; exact atI_nat (j := 0) rfl, ?_⟩
                  refine va_star (vd_ix (vd_ixDt C (by walk_at "at") rfl (vd_str ⟨"breaker", _, rfl, rfl, dtT_at (j := 4) rfl, ?_⟩)))
                  refine vd_int ⟨.tuple ks, by rw [h4]; exact atI_nat (j := 0) rfl, ks, .inl rfl, ?_⟩
                  refine va_cons (vd_ix (vd_ixDt C (by walk_at "at") rfl (vd_str ⟨"ticks", _, rfl, rfl, dtT_at (j := 5) rfl, ?_⟩)))
                  refine vd_int ⟨t0, by rw [h5]; exact atI_nat (j := 0) rfl, ?_⟩
                  refine va_nil ⟨?_, va_nil ⟨by show 5 ≤ 1000; decide, ?_⟩⟩
                  · rw [List.length_cons, List.length_append]
                    show ks.length + 1 + 1 ≤ 1000
                    omega
                  · have e : (PyData.tuple ([.tuple (T 0), .tuple (T 1), .tuple (T 2), .tuple (T 6)] ++ [.tuple (e0 :: (ks ++ [t0]))]) : D) = net := hnet
                    rw [e]
                    show VSs X _ (enF (.dat (.str (sT u))) tq T (.own p (.lr as)) .no (.dat (.list [.tuple (T 0), .tuple (T 1), .tuple (T 2), .tuple (T 6)])) (.dat net) .no) _
                    refine vss_cons (vs_callX C FC (by walk_at "at") (vx_cons (vd_name C (by walk_at "at") rfl (vx_nil ⟨rfl, trivial, rfl, net, rfl, hokD, fun e => ?_, fun e => ?_⟩))))
                    · rw [if_pos e] at hr
                      cases hr
                      exact vss_one (vs_ret (vd_name C (by walk_at "at") rfl ⟨trivial, wok _ rfl⟩))
                    · rw [if_neg (by rw [e]; decide)] at hr
                      cases hr
                      exact ⟨trivial, wnet rfl⟩
              · cases hnet
            · cases hr
      · cases hr
  · refine ⟨false, hk, _, rfl, fun _ => ?_, fun e => (by cases e)⟩
    refine vss_one (vs_raiseT C T0 (by walk_at "at") (va_cons (vd_int (va_cons (vd_int (va_nil ⟨0, 0, rfl, by decide, by decide, trivial, wx⟩))))))
end

end K7

/-! Vc, part dK: try with two clauses, the first with a name, each error caught by one of them; what the caught one bears. -/
namespace Vc
open PySem PySem.Spec PyProof.Rows L2
open Evl (Ex)
/-- the wish: the first clause takes it (its name's slot is i), or else the second does -/
def wTwo (K : PySem.W.Frag) (c1 c2 : Value) (i : Nat) (t1 t2 : Addr → Value → Option Addr → TS) (D : Ends) : WX := fun cls d σ H =>
  (PySem.W.exmOne K cls c1 = some true ∧ ∀ a, H a = none → t1 a cls d { nx := fun σ' H' => D.nx (σ'.set i none) H', rt := D.rt, bk := fun σ' H' => D.bk (σ'.set i none) H', ct := fun σ' H' => D.ct (σ'.set i none) H' } (σ.set i (some (.ref a))) H) ∨
  (PySem.W.exmOne K cls c1 = some false ∧ PySem.W.exmOne K cls c2 = some true ∧ ∀ a, H a = none → t2 a cls d D σ H)
section
variable {X : Cx} {x1 x2 n : Str} {c1 c2 : Value} {i : Nat} {body u1 u2 : List Stmt} {b1 b2 : Stmt} {q1 q2 r1 r2 pos : Pos} {tb : WX → TS} {t1 t2 : Addr → Value → Option Addr → TS}
/-- the class that a clause names, read while the error is looked at -/
theorem clause_name {s5 : Shared} {a : Addr} {ob : Obj} {pins : List (Addr × Obj)} {σ : L2.St} {H : Hp} {x : Str} {c : Value} {p : Pos} {Q : Value → Shared → Prop} {E : Value → Shared → Prop} (hc : Names X x c) (S : Inv (X.suite a ((a, ob) :: (X.pn ++ pins))) [] σ H s5) (h : Q c s5) :
    wpAny (model X.prog X.w) (X.A.mark (some (.ref a))) (eval (.Name x p) X.env) Q E s5 := by
  obtain ⟨g, nd, k | ⟨k, v, nn⟩⟩ := hc
  · exact ld_glob (X := X.suite a ((a, ob) :: (X.pn ++ pins))) S g k h nd
  · exact ld_blt (X := X.suite a ((a, ob) :: (X.pn ++ pins))) S g k v h nn nd
theorem ps_try_two (hs : X.stack = X.env :: X.outer) (hf : X.env.frame = some X.env.locals) (hN : X.N.Nodup) (hi : X.N[i]? = some n) (hn : X.env.kindOf n = some .local) (k1 : Names X x1 c1) (k2 : Names X x2 c2)
    (hb : ∀ (W : WX) (pn : List (Addr × Obj)) (xe : Value → Shared → Prop), Takes (X.tr pn xe) W → PassesOwn (model X.prog X.w) X.A X.env xe → PSs (X.tr pn xe) body (tb W))
    (h1 : ∀ (a : Addr) (ob : Obj) (cls : Value) (d : Option Addr) (pn : List (Addr × Obj)), Zc cls d ob → (∃ vs, ob.data = .fields vs) → PSs (X.suite a ((a, ob) :: pn)) (b1 :: u1) (t1 a cls d))
    (h2 : ∀ (a : Addr) (ob : Obj) (cls : Value) (d : Option Addr) (pn : List (Addr × Obj)), Zc cls d ob → (∃ vs, ob.data = .fields vs) → PSs (X.suite a ((a, ob) :: pn)) (b2 :: u2) (t2 a cls d)) :
    PS X (.Try body [.ExceptHandler (some (.Name x1 q1)) (some n) (b1 :: u1) r1, .ExceptHandler (some (.Name x2 q2)) none (b2 :: u2) r2] [] [] pos) (fun D σ H => tb (wTwo X.K c1 c2 i t1 t2 D) D σ H) := ⟨fun pins s σ H D I0 h => by
  have okX := I0.ok
  have fr : X.A.frames = some (X.env :: X.outer) := okX.frames.trans (congrArg some hs)
  have lo : Loc X.env.scope n := .inl hn
  refine wpAny_Try_except (wpAny_mono ((hb (wTwo X.K c1 c2 i t1 t2 D) (X.pn ++ pins) (fun er s₁ => wpAny (model X.prog X.w) X.A (noteFrame er X.env) (fun _ s₂ => wpAny (model X.prog X.w) X.A (setFlight er none) (fun _ s₃ =>
    wpAny (model X.prog X.w) X.A (handleBy er X.env [.ExceptHandler (some (.Name x1 q1)) (some n) (b1 :: u1) r1, .ExceptHandler (some (.Name x2 q2)) none (b2 :: u2) r2]) (SP X pins D) X.xe s₃) X.xe s₂) X.xe s₁) (fun er s' w => ?_) PassesOwn.looking).run [] s σ H D (I0.toTry _) h) (fun fl s' z => ?_) fun er s' z => z)
  · obtain ⟨a, B, sI, pi, σ', H', cls, d, rfl, Iw, nb, up, sky, fresh, eo, ag, w⟩ := w
    have Ia : Inv X pins σ' H' sI := Iw.ofTry okX
    refine Sky.land Zc.steady fr hf (hs ▸ sky) fun hp fl up2 => ?_
    have Ib : Inv X pins σ' H' { s' with heap := hp } := Ia.landed nb fl.1 (up.trans up2) eo ag
    obtain ⟨ob, vs, ea, ez, ed⟩ := fl.there
    have outside : a ∉ frs (X.env :: X.outer) := fun m => by
      obtain ⟨_, ob', ea', no⟩ := fl.2.2.1.mem m
      cases ea.symm.trans ea'
      exact no _ ed
    have aL : a ≠ X.env.locals := fun z => outside (List.mem_filterMap.mpr ⟨X.env, List.mem_cons_self, by rw [hf, z]⟩)
    have aF : a ∉ X.fs := fun m => by
      obtain ⟨en, me, q⟩ := List.mem_filterMap.mp m
      exact outside (List.mem_filterMap.mpr ⟨en, List.mem_cons_of_mem _ me, q⟩)
    have looks : PySem.W.Looks (model X.prog X.w) hp (typeOf (.ref a)) cls := fun A Q E s0 kk q => wpAny_typeOf_ref (kk _ _ ea) (by rw [ez.1]; exact q)
    have seen := Ib.suite ea ed fresh aL aF
    refine wpAny_handleBy_cons (codeAny_handlers_test ?_) (by intro z; cases z)
    refine clause_name k1 seen ?_
    rcases w with ⟨e1, go⟩ | ⟨e1, e2, go⟩
    · refine (PySem.W.exm_one (M := model X.prog X.w) Ib.kIn looks e1).here (codeAny_handlers_suite_as (HandSPX.lands_againZ fl fun hq fq up3 => ?_))
      have Ic : Inv X pins σ' H' { s' with heap := hq } := Ia.landed nb fq.1 ((up.trans up2).trans up3) eo ag
      obtain ⟨oc, ws, ec, zc, dc⟩ := fq.there
      refine store_ok (X := X.suite a ((a, oc) :: (X.pn ++ pins))) (v := .ref a) (Ic.suite ec dc fresh aL aF) hN hi lo rfl (fun s5 I5 => wpAny_mono ((h1 a oc cls d (X.pn ++ pins) zc ⟨_, dc⟩).run [] s5 _ H' _ I5 (go a fresh)) (fun f6 s6 z => ?_) fun _ _ z => z.elim) (.inr hn)
      have unbound : ∀ {σ6 : L2.St} {H6 : Hp} {Q : Shared → Prop}, Inv (X.suite a ((a, oc) :: (X.pn ++ pins))) [] σ6 H6 s6 → (∀ s7, Inv X pins (σ6.set i none) H6 s7 → Q s7) →
          wpAny (model X.prog X.w) X.A (do bindName X.env n .none; unbindBehindTheSuite X.env n r1) (fun _ s7 => Q s7) X.xe s6 := fun I6 q => gone_ok (I6.unsuite okX) hN hi hn q
      cases f6 with
      | next => exact (let ⟨_, _, I6, q6⟩ := z; unbound I6 fun _ I7 => ⟨_, _, I7, q6⟩)
      | brk => exact (let ⟨_, _, I6, q6⟩ := z; unbound I6 fun _ I7 => ⟨_, _, I7, q6⟩)
      | cont => exact (let ⟨_, _, I6, q6⟩ := z; unbound I6 fun _ I7 => ⟨_, _, I7, q6⟩)
      | ret u => exact (let ⟨_, _, _, I6, rr, q6⟩ := z; unbound I6 fun _ I7 => ⟨_, _, _, I7, rr, q6⟩)
    · refine (PySem.W.exm_one (M := model X.prog X.w) Ib.kIn looks e1).here ?_
      show wpAny _ X.A (handleBy (.ref a) X.env [.ExceptHandler (some (.Name x2 q2)) none (b2 :: u2) r2]) _ _ _
      refine wpAny_handleBy_cons (codeAny_handlers_test ?_) (by intro z; cases z)
      refine clause_name k2 seen ?_
      refine (PySem.W.exm_one (M := model X.prog X.w) Ib.kIn looks e2).here (codeAny_handlers_suite (HandSPX.lands_againZ fl fun hq fq up3 => ?_))
      have Ic : Inv X pins σ' H' { s' with heap := hq } := Ia.landed nb fq.1 ((up.trans up2).trans up3) eo ag
      obtain ⟨oc, ws, ec, zc, dc⟩ := fq.there
      refine wpAny_mono ((h2 a oc cls d (X.pn ++ pins) zc ⟨_, dc⟩).run [] _ _ H' _ (Ic.suite ec dc fresh aL aF) (go a fresh)) (fun f6 s6 z => ?_) fun _ _ z => z.elim
      cases f6 with
      | next => exact (let ⟨_, _, I6, q6⟩ := z; ⟨_, _, I6.unsuite okX, q6⟩)
      | brk => exact (let ⟨_, _, I6, q6⟩ := z; ⟨_, _, I6.unsuite okX, q6⟩)
      | cont => exact (let ⟨_, _, I6, q6⟩ := z; ⟨_, _, I6.unsuite okX, q6⟩)
      | ret u => exact (let ⟨_, _, _, I6, rr, q6⟩ := z; ⟨_, _, _, I6.unsuite okX, rr, q6⟩)
  · cases fl with
    | next => exact (let ⟨_, _, I6, q6⟩ := z; wpAny_execs_nil ⟨_, _, I6.ofTry okX, q6⟩)
    | brk => exact (let ⟨_, _, I6, q6⟩ := z; ⟨_, _, I6.ofTry okX, q6⟩)
    | cont => exact (let ⟨_, _, I6, q6⟩ := z; ⟨_, _, I6.ofTry okX, q6⟩)
    | ret v => exact (let ⟨_, _, _, I6, rr, q6⟩ := z; ⟨_, _, _, I6.ofTry okX, rr, q6⟩)⟩
end
section
variable {X : Cx} {M : Md} {sc : Scope} {NK : List (Str × Bool × Bool)} {G : List Str} {k : Nat} {ρ : En} {F : Fin} {x1 x2 n f1 f2 w : Str} {body : List Stmt} {q1 q2 r1 r2 pos p1 p2 p3 p4 p5 p6 p7 p8 : Pos} {k1 k2 : Nat}
/-- try: body / except x1 as n: return (n.f1, n.f2) / except x2: return w -/
theorem vs_tryTwo (C : Cst X M sc NK G k) (t : Top X) {i : Nat} {C1 C2 : Addr} (hi : At NK i (n, true, true)) (hil : i < ρ.length) (hl : sc.names.lookup n = some .local) (m1 : Names X x1 (.ref C1)) (m2 : Names X x2 (.ref C2)) (T : XfC M.K C1) (hf1 : PySem.W.findIn M.K (.ref C1) f1 = some none) (hf2 : PySem.W.findIn M.K (.ref C1) f2 = some none)
    (e11 : PySem.W.exmOne M.K (.ref C1) (.ref C1) = some true) (e21 : PySem.W.exmOne M.K (.ref C2) (.ref C1) = some false) (e22 : PySem.W.exmOne M.K (.ref C2) (.ref C2) = some true)
    (h : ∀ X', Cst X' M sc NK G k → VSs X' body ρ { nx := F.nx, rt := fun _ _ => False, ex := fun c ρ1 => (∃ a b : Int, c = ⟨.ref C1, some [(f1, .int a), (f2, .int b)]⟩ ∧ f1 ≠ f2 ∧ i < ρ1.length ∧ F.rt (.tuple [.int a, .int b]) ρ1) ∨ (c.c = .ref C2 ∧ F.rt (.str w) ρ1) })
    (hd : (n == ("__debug__" : Str)) = false := by decide) (hcd : (n == ("__classdict__" : Str)) = false := by decide) (hb1 : attributeBase (.Name n p1) f1 X.env (eval (.Name n p1) X.env) = eval (.Name n p1) X.env := by rfl) (hb2 : attributeBase (.Name n p2) f2 X.env (eval (.Name n p2) X.env) = eval (.Name n p2) X.env := by rfl)
    (hst : starEach [.Attribute (.Name n p1) f1 p3, .Attribute (.Name n p2) f2 p4] X.env = (false, eval (.Attribute (.Name n p1) f1 p3) X.env) :: starEach [.Attribute (.Name n p2) f2 p4] X.env := by rfl) (hst2 : starEach [.Attribute (.Name n p2) f2 p4] X.env = (false, eval (.Attribute (.Name n p2) f2 p4) X.env) :: starEach [] X.env := by rfl) :
    VS X (.Try body [.ExceptHandler (some (.Name x1 q1)) (some n) [.Return (some (.Tuple [.Attribute (.Name n p1) f1 p3, .Attribute (.Name n p2) f2 p4] k1 p5)) p6] r1, .ExceptHandler (some (.Name x2 q2)) none [.Return (some (.Constant (.str w) k2 p7)) p8] r2] [] [] pos) ρ F := VS.mk fun B H σ Z r f => by
  have eM := C.m
  subst eM
  let t1 : Addr → Value → Option Addr → TS := fun a cls d D σ H => ∀ ob pn, Zc cls d ob → (∃ vs, ob.data = .fields vs) → ssSem (X.suite a ((a, ob) :: pn)) [.Return (some (.Tuple [.Attribute (.Name n p1) f1 p3, .Attribute (.Name n p2) f2 p4] k1 p5)) p6] D σ H
  let t2 : Addr → Value → Option Addr → TS := fun a cls d D σ H => ∀ ob pn, Zc cls d ob → (∃ vs, ob.data = .fields vs) → ssSem (X.suite a ((a, ob) :: pn)) [.Return (some (.Constant (.str w) k2 p7)) p8] D σ H
  let tb : WX → TS := fun W D σ H => ∀ pn xe, Takes (X.tr pn xe) W → PassesOwn (model X.prog X.w) X.A X.env xe → ssSem (X.tr pn xe) body D σ H
  have hkind : X.env.kindOf n = some .local := by
    show X.env.scope.names.lookup n = _
    rw [C.s]
    exact hl
  refine PS.sem (ps_try_two (tb := tb) (t1 := t1) (t2 := t2) t.hs t.hf C.nd (C.ix hi) hkind m1 m2 (fun W pn xe tk po => ⟨fun pins s σ H D I hh => hh pn xe tk po pins s I⟩) (fun a ob cls d pn hz hd => ⟨fun pins s σ H D I hh => hh ob pn hz hd pins s I⟩) (fun a ob cls d pn hz hd => ⟨fun pins s σ H D I hh => hh ob pn hz hd pins s I⟩)) ?_
  intro pn xe tk po
  have C' := C.tr (pn := pn) (xe := xe) po
  refine (h _ C').run B H σ ⟨Z.z, wTwo X.K (.ref C1) (.ref C2) i t1 t2 Z.z, tk⟩ r ⟨f.nx, fun _ _ _ _ _ _ z => z.elim, fun _ _ _ _ z => z.elim, fun _ _ _ _ z => z.elim, fun c d B1 H1 σ1 ρ1 p kk g1 rr => ?_⟩
  rcases p with ⟨x, y, rfl, hne, hl1, pp⟩ | ⟨ec, pp⟩
  · refine .inl ⟨e11, fun a na ob pn2 hz hd2 => ?_⟩
    obtain ⟨dd, vs, rfl, hdd, dvs⟩ := kk _ rfl
    have ev : vs = [.int x, .int y] := by
      cases dvs with
      | cons a1 a2 => cases a2 with
        | cons a2 a3 =>
          cases a3
          rw [dp_int a1, dp_int a2]
    subst ev
    have hsl : (σ1.set i (some (V.ref a)))[i]? = some (some (V.ref a)) := List.getElem?_set_self (by rw [← rr.len]; exact hl1)
    have vr : PE (X.suite a ((a, ob) :: pn2)) (.Name n p1) (tVar i) := pe_var (C.ix hi) (C.vi hi) hd hcd
    have vr2 : PE (X.suite a ((a, ob) :: pn2)) (.Name n p2) (tVar i) := pe_var (C.ix hi) (C.vi hi) hd hcd
    refine PSs.sem (pss_one (ps_ret (pe_tup (pa_cons (pe_xf T hf1 hz hd2 vr hb1) (pa_cons (pe_xf T hf2 hz hd2 vr2 hb2) pa_nil hst2) hst)))) ?_
    have hdd' : H1 dd = some (.xd [(f1, .int x), (f2, .int y)]) := hdd
    refine ⟨_, hsl, rfl, rfl, dd, _, .int x, rfl, hdd', ?_, _, hsl, rfl, rfl, dd, _, .int y, rfl, hdd', ?_, by show 2 ≤ _; decide, fun p hp => ?_⟩
    · rw [List.lookup_cons_self]
    · have en : (f2 == f1) = false := by rw [beq_eq_false_iff_ne]; exact Ne.symm hne
      rw [List.lookup_cons, en]
      exact List.lookup_cons_self
    · obtain ⟨r3, g3⟩ := new_both (o := .tup [.int x, .int y]) rr hp
      exact f.rt _ _ _ _ σ1 ρ1 pp (.tup (.inl (.inl upd_same)) (.cons (.int _) (.cons (.int _) .nil))) (g1.trans g3) r3
  · refine .inr ⟨by rw [ec]; exact e21, by rw [ec]; exact e22, fun a na ob pn2 hz hd2 => ?_⟩
    exact PSs.sem (pss_one (ps_ret pe_str)) (f.rt _ _ B1 H1 σ1 ρ1 pp (.str w) g1 rr)
end
end Vc

namespace K7
open PySem PySem.Spec PyProof.Rows L2 Vc
local macro_rules | `(tactic| walk_at "at") => `(tactic| (repeat (first | with_reducible exact At.here | apply At.there)))
local macro_rules | `(tactic| walk_at "v") => `(tactic| first
  | refine vd_bin ?_
  | (refine vd_name (by assumption) (by walk_at "at") rfl ?_)
  | refine vd_int ?_
  | refine vd_bool ?_
  | refine vd_none ?_
  | refine vd_str ?_
  | refine vd_if ?_
  | (refine vd_neg ?_)
  | refine vd_tup ?_
  | refine va_nil ?_
  | refine va_cons ?_
  | refine vs_ret ?_
  | refine vss_nil ?_
  | refine vss_one ?_
  | refine vss_cons ?_
  | refine vs_if ?_
  | refine vt_cmp (by assumption) ?_
  | refine vs_set (by assumption) (by walk_at "at") ?_
  | refine vd_cmp (by assumption) ?_
  | refine vgs_nil ?_
  | refine vgs_cons ?_
  | refine vg_name (by assumption) (by walk_at "at") ?_
  | (refine vd_callT (x := "int") (by assumption) does_int (by walk_at "at") ?_)
  | (refine vd_callB (x := "len") (by assumption) does_len (by walk_at "at") ?_)
  | (refine vd_callB (x := "abs") (by assumption) does_abs (by walk_at "at") ?_)
  | (refine vd_ixo (by assumption) (by walk_at "at") rfl ?_)
  | refine vd_ix ?_)
local macro_rules | `(tactic| walk_at "sw") => `(tactic| (intro env h; cases env; dsimp only at h; subst h; rfl))
local macro_rules | `(tactic| walk_at "vv") => `(tactic| repeat (walk_at "v"))
/-! ### a cell of the script -/
def SCell : List D → (D → Prop) → Prop := fun ds W => ∃ (ns : List Int) (j : Nat), ds = [.list (ns.map PyData.int), .int (j : Int)] ∧ W (.int (ns.getD j 0))
theorem fCell {M : Md} {f : Addr} {fd : FuncData} (ml : M.mg "len" = none) (F : Fun M.K "_law_cell_at" "_law_cell_at" sLCellAt f fd) (hm : M.mg "_law_cell_at" = some (.ref f)) (b : L2.Binds M.K fd ["script", "k"] []) : FnD M 1 "_law_cell_at" 2 SCell := by
  refine fnD_mk (k := 0) (NK := nkLCellAt) (G := gLCellAt) F scLCellAt hm b rfl (by decide +kernel) rfl (by decide) fun X C ds W hl hS => ?_
  obtain ⟨ns, j, rfl, w⟩ := hS
  show VSs X _ [.dat (.list (ns.map PyData.int)), .dat (.int (j : Int))] _
  walk_at "v"
  walk_at "v"
  walk_at "v"
  walk_at "v"
  refine vd_callB C does_len (by walk_at "at") ?_
  walk_at "v"
  walk_at "v"
  walk_at "v"
  refine ⟨_, .inl rfl, ?_⟩
  refine ⟨fun h => ?_, fun h => ?_⟩
  · have h := of_decide_eq_true h
    rw [List.length_map] at h
    have h : j < ns.length := by omega
    walk_at "v"
    walk_at "v"
    walk_at "v"
    walk_at "v"
    walk_at "v"
    refine ⟨.int ns[j], ?_, ?_⟩
    · refine atI_nat ?_
      rw [List.getElem?_map, List.getElem?_eq_getElem h]
      rfl
    · rw [List.getD_eq_getElem?_getD, List.getElem?_eq_getElem h] at w
      exact w
  · have h := of_decide_eq_false h
    rw [List.length_map] at h
    walk_at "v"
    walk_at "v"
    walk_at "v"
    walk_at "v"
    rw [List.getD_eq_getElem?_getD, List.getElem?_eq_none (by omega)] at w
    exact w

/-! ### a draw -/
theorem mulW {i j : Int} (h1 : i.natAbs < 2 ^ 1000) (h2 : j.natAbs < 2 ^ 1000) : CMulW i j := wide_mul h1 h2 (by decide) (by decide) (by decide)
theorem mulW64 {i j : Int} (h1 : i.natAbs < 2 ^ 64) (h2 : j.natAbs < 2 ^ 64) : CMulW i j := wide_mul h1 h2 (by decide) (by decide) (by decide)
theorem divW {i j : Int} (h0 : 0 < j) (h2 : j.natAbs < 2 ^ 1000) : CDivW i j := ⟨h0, Nat.lt_of_lt_of_le (PySem.Flt.log2_lt_of (by decide) h2) (by decide)⟩
theorem divW64 {i j : Int} (h0 : 0 < j) (h2 : j.natAbs < 2 ^ 64) : CDivW i j := ⟨h0, Nat.lt_of_lt_of_le (PySem.Flt.log2_lt_of (by decide) h2) (by decide)⟩
def SDraw : List D → (D → Prop) → Prop := fun ds W => ∃ cell j bound : Int, ds = [.int cell, .int j, .int bound] ∧ cell.natAbs < 2 ^ 64 ∧ j.natAbs < 2 ^ 64 ∧ 0 < bound ∧ ∀ r, 0 ≤ r → r < bound → W (.int r)
theorem primes_at {n : Int} (h0 : 0 ≤ n) (h1 : n < 16) : ∃ p : Int, 0 < p ∧ atI [PyData.int 1000003, .int 1000033, .int 1000037, .int 1000039, .int 1000081, .int 1000099, .int 1000117, .int 1000121, .int 1000133, .int 1000151, .int 1000159, .int 1000171, .int 1000183, .int 1000187, .int 1000193, .int 1000199] n = some (.int p) := by
  have h : n = 0 ∨ n = 1 ∨ n = 2 ∨ n = 3 ∨ n = 4 ∨ n = 5 ∨ n = 6 ∨ n = 7 ∨ n = 8 ∨ n = 9 ∨ n = 10 ∨ n = 11 ∨ n = 12 ∨ n = 13 ∨ n = 14 ∨ n = 15 := by omega
  rcases h with h | h | h | h | h | h | h | h | h | h | h | h | h | h | h | h <;> (subst h; exact ⟨_, by decide, rfl⟩)
theorem fDraw {M : Md} {f : Addr} {fd : FuncData} (mi : M.mg "int" = none) (F : Fun M.K "_law_draw" "_law_draw" sLDraw f fd) (hm : M.mg "_law_draw" = some (.ref f)) (b : L2.Binds M.K fd ["cell", "k", "bound"] []) : FnD M 1 "_law_draw" 3 SDraw := by
  refine fnD_mk (k := 0) (NK := nkLDraw) (G := gLDraw) F scLDraw hm b rfl (by decide +kernel) rfl (by decide) fun X C ds W hl hS => ?_
  obtain ⟨cell, j, bound, rfl, h1, h2, h3, w⟩ := hS
  show VSs X _ [.dat (.int cell), .dat (.int j), .dat (.int bound), .no] _
  walk_at "vv"
  refine ⟨by decide, ?_⟩
  walk_at "vv"
  refine ⟨mulW64 h1 (by decide), ?_⟩
  walk_at "vv"
  refine ⟨mulW64 h2 (by decide), ?_⟩
  walk_at "vv"
  refine ⟨_, rfl, ?_⟩
  walk_at "vv"
  refine ⟨_, rfl, ?_⟩
  walk_at "vv"
  refine ⟨by decide, ?_⟩
  obtain ⟨p, hp, e⟩ := primes_at (n := j % 16) (Int.emod_nonneg _ (by decide)) (Int.emod_lt_of_pos _ (by decide))
  refine ⟨_, e, ?_⟩
  refine ⟨hp, ?_⟩
  walk_at "vv"
  exact ⟨h3, w _ (Int.emod_nonneg _ (by omega)) (Int.emod_lt_of_pos _ h3)⟩
/-! ### a number -/
def SNumber : List D → (D → Prop) → Prop := fun ds W => ∃ cell j bound : Int, ds = [.int cell, .int j, .int bound] ∧ 0 ≤ j ∧ j ≤ 1000 ∧ 0 < bound ∧ ∀ r, 0 ≤ r → r < bound → W (.int r)
theorem pw_pos (i : Nat) : (0 : Int) < 1009 ^ i := Int.pow_pos (by decide)
theorem pw_small {i : Nat} (h : i ≤ 24) : ((1009 : Int) ^ i).natAbs < 2 ^ 1000 := by
  rw [Int.natAbs_pow]
  exact Nat.lt_of_le_of_lt (Nat.pow_le_pow_right (by decide) h) (by decide +kernel)
theorem fNumber {M : Md} {f : Addr} {fd : FuncData} (mi : M.mg "int" = none) (mr : M.mg "range" = none) (FD : FnD M 1 "_law_draw" 3 SDraw) (F : Fun M.K "_law_number" "_law_number" sLNumber f fd) (hm : M.mg "_law_number" = some (.ref f)) (b : L2.Binds M.K fd ["cell", "k", "bound"] []) : FnD M 2 "_law_number" 3 SNumber := by
  refine fnD_mk (k := 1) (NK := nkLNumber) (G := gLNumber) F scLNumber hm b rfl (by decide +kernel) rfl (by decide) fun X C ds W hl hS => ?_
  obtain ⟨cell, j, bound, rfl, h1, h2, h3, w⟩ := hS
  show VSs X _ [.dat (.int cell), .dat (.int j), .dat (.int bound), .no, .no, .no, .no] _
  walk_at "vv"
  refine vs_for C (vi_range C (by walk_at "at") ?_)
  walk_at "vv"
  refine ⟨_, rfl, ?_⟩
  walk_at "vv"
  refine ⟨by decide, ?_⟩
  refine ⟨(j % 24).toNat, by rw [Int.toNat_of_nonneg (Int.emod_nonneg _ (by decide))], by omega, ?_⟩
  refine ⟨fun i ρ' => ∃ s, ρ' = [.dat (.int cell), .dat (.int j), .dat (.int bound), .dat (.int (1009 ^ i)), s, .no, .no], ⟨_, rfl⟩, fun i d ρ' hi hW => ?_, fun ρ' hW => ?_⟩
  · obtain ⟨s, rfl⟩ := hW
    have hi2 : i < (j % 24).toNat := by
      have := (List.getElem?_eq_some_iff.mp hi).1
      rw [List.length_map, List.length_range] at this
      exact this
    have hi3 : i ≤ 24 := by omega
    walk_at "vv"
    refine ⟨mulW (pw_small hi3) (by decide +kernel), ?_⟩
    exact ⟨_, rfl⟩
  · obtain ⟨s, rfl⟩ := hW
    have hp : (j % 24).toNat ≤ 24 := by omega
    rw [List.length_map, List.length_range]
    walk_at "vv"
    refine ⟨⟨by decide, by decide, by decide⟩, ?_⟩
    walk_at "vv"
    refine ⟨divW (pw_pos _) (pw_small hp), ?_⟩
    walk_at "vv"
    refine ⟨fun h => ?_, fun h => ?_⟩
    · walk_at "vv"
      refine ⟨_, rfl, ?_⟩
      walk_at "vv"
      refine ⟨by decide, ?_⟩
      walk_at "vv"
      exact ⟨h3, w _ (Int.emod_nonneg _ (by omega)) (Int.emod_lt_of_pos _ h3)⟩
    · have q0 := Int.emod_nonneg cell (show (1000003 : Int) ≠ 0 by decide)
      have q1 := Int.emod_lt_of_pos cell (show (0 : Int) < 1000003 by decide)
      walk_at "vv"
      refine ⟨_, rfl, ?_⟩
      walk_at "vv"
      refine ⟨by decide, ?_⟩
      walk_at "vv"
      refine vd_call C FD (by walk_at "at") ?_
      walk_at "vv"
      refine ⟨mulW64 (by decide) (by omega), ?_⟩
      walk_at "vv"
      refine ⟨mulW64 (by decide) (by omega), ?_⟩
      walk_at "vv"
      refine ⟨mulW64 (by omega) (by omega), ?_⟩
      walk_at "vv"
      refine ⟨_, rfl, ?_⟩
      walk_at "vv"
      refine ⟨by decide, ?_⟩
      walk_at "vv"
      refine ⟨rfl, _, _, _, rfl, ?_, by omega, by decide, fun r r0 r1 => ?_⟩
      · rw [Int.natAbs_mul]
        exact Nat.lt_of_le_of_lt (Nat.mul_le_mul (show _ ≤ 2 ^ 31 by omega) (show _ ≤ 2 ^ 31 by omega)) (by decide)
      · walk_at "vv"
        exact ⟨h3, w _ (Int.emod_nonneg _ (by omega)) (Int.emod_lt_of_pos _ h3)⟩
/-! ### the next draw -/
/-- what stands in the list of draws: the script, 0, how many were drawn -/
def drw (ns : List Int) (c : Nat) : List D := [.list (ns.map PyData.int), .int 0, .int (c : Int)]
def SNext : List D → List D → (D → List D → Prop) → Prop := fun cs ds W => ∃ (ns : List Int) (c : Nat) (bound : Int), cs = drw ns c ∧ ds = [.int bound] ∧ c ≤ 1000000 ∧ 0 < bound ∧ ∀ r, 0 ≤ r → r < bound → W (.int r) (drw ns (c + 1))
theorem fNext {M : Md} {f : Addr} {fd : FuncData} (mi : M.mg "int" = none) (FC : FnD M 1 "_law_cell_at" 2 SCell) (FN : FnD M 2 "_law_number" 3 SNumber) (F : Fun M.K "_law_next" "_law_next" sLNext f fd) (hm : M.mg "_law_next" = some (.ref f)) (b : L2.Binds M.K fd ["draw", "bound"] []) : FnM M 3 "_law_next" 1 SNext := by
  refine fnM_mk (k := 2) (NK := nkLNext) (G := gLNext) F scLNext hm b rfl (by decide +kernel) rfl (by decide) fun X C p cs ds W hl hS => ?_
  obtain ⟨ns, c, bound, rfl, rfl, hc, hb, w⟩ := hS
  show VSs X _ [.own p (drw ns c), .dat (.int bound), .no, .no] _
  walk_at "vv"
  refine vs_put C (i := 0) At.here rfl ?_
  walk_at "vv"
  refine ⟨_, _, .int (c : Int), rfl, rfl, rfl, ?_⟩
  walk_at "vv"
  refine ⟨_, 2, _, rfl, rfl, rfl, ?_⟩
  show VSs X _ [.own p (drw ns (c + 1)), .dat (.int bound), .no, .no] _
  walk_at "vv"
  refine ⟨_, _, .int ((c + 1 : Nat) : Int), rfl, rfl, rfl, ?_⟩
  walk_at "vv"
  refine ⟨divW64 (by decide) (by decide), ?_⟩
  walk_at "vv"
  refine vd_call C FC (by walk_at "at") ?_
  walk_at "vv"
  refine ⟨_, _, .list (ns.map PyData.int), rfl, rfl, rfl, ?_⟩
  walk_at "vv"
  refine ⟨_, _, .int 0, rfl, rfl, rfl, ?_⟩
  walk_at "vv"
  have e : (0 : Int) + ((c + 1 : Nat) : Int) / 12 = (((c + 1) / 12 : Nat) : Int) := by omega
  refine ⟨rfl, ns, (c + 1) / 12, by rw [e], ?_⟩
  walk_at "vv"
  refine ⟨mulW64 (by decide) (by omega), ?_⟩
  walk_at "vv"
  refine vd_call C FN (by walk_at "at") ?_
  walk_at "vv"
  refine ⟨_, _, .int ((c + 1 : Nat) : Int), rfl, rfl, rfl, ?_⟩
  walk_at "vv"
  refine ⟨_, rfl, ?_⟩
  walk_at "vv"
  refine ⟨by decide, ?_⟩
  walk_at "vv"
  exact ⟨rfl, _, _, _, rfl, by omega, by omega, hb, fun r r0 r1 => ⟨_, rfl, w r r0 r1⟩⟩


open PySem PySem.Spec PyProof.Rows L2 Vc
/-! ### _law_place -/
def placeR : NR → D
  | .ok _ => .none
  | .error none => .str "net"
  | .error (some (l, c)) => .tuple [.int (l : Int), .int (c : Int)]
def SPlace : SX := fun as W _ => ∃ x, as = [.dat x] ∧ ((∃ u r, x = .str (sT u) ∧ TextOk u ∧ mNet u = some r ∧ W (placeR r) as) ∨ (kitB (tyN x) "str" = some false ∧ W (.tuple [.int 0, .int 0]) as))
theorem fPlace {M : Md} {f CN CT : Addr} {fd : FuncData} (mT : M.mg "BadText" = some (.ref CT)) (mN : M.mg "BadNet" = some (.ref CN)) (T : XfC M.K CT) (hf1 : PySem.W.findIn M.K (.ref CT) "line" = some none) (hf2 : PySem.W.findIn M.K (.ref CT) "column" = some none)
    (e11 : PySem.W.exmOne M.K (.ref CT) (.ref CT) = some true) (e21 : PySem.W.exmOne M.K (.ref CN) (.ref CT) = some false) (e22 : PySem.W.exmOne M.K (.ref CN) (.ref CN) = some true) (FR : FnX M 9 "read_net" 1 (SReadNet CN CT))
    (F : Fun M.K "_law_place" "_law_place" sLPlace f fd) (hm : M.mg "_law_place" = some (.ref f)) (b : L2.Binds M.K fd ["text"] []) : FnX M 10 "_law_place" 1 SPlace := by
  refine fnXT_mk (k := 9) (NK := nkLPlace) (G := gLPlace) F scLPlace hm b rfl (by decide +kernel) rfl (by decide) fun X C tp as W WX hl hS => ?_
  obtain ⟨x, rfl, hS⟩ := hS
  show VSs X _ [.dat x, .no] _
  refine vss_cons (vs_tryTwo C tp (i := 1) (by walk_at "at") (by show 1 < 2; decide) (by decide +kernel) ⟨C.g (x := "BadText") (by walk_at "at"), by decide, .inl (C.mg mT)⟩ ⟨C.g (x := "BadNet") (by walk_at "at"), by decide, .inl (C.mg mN)⟩ T hf1 hf2 e11 e21 e22 fun X' C' => ?_)
  rcases hS with ⟨u, r, rfl, tx, hr, w⟩ | ⟨hk, w⟩
  · refine vss_one (vs_callX C' FR (by walk_at "at") (vx_cons (vd_name C' (by walk_at "at") rfl (vx_nil ⟨rfl, trivial, rfl, _, rfl, .inl ⟨u, r, rfl, tx, hr, fun net e => ?_, fun e => ?_, fun l c e => ?_⟩⟩))))
    · subst e
      exact vss_one (vs_ret (vd_none ⟨trivial, w⟩))
    · subst e
      exact .inr ⟨rfl, trivial, w⟩
    · subst e
      exact .inl ⟨(l : Int), (c : Int), rfl, by decide +kernel, by show 1 < 2; decide, trivial, w⟩
  · refine vss_one (vs_callX C' FR (by walk_at "at") (vx_cons (vd_name C' (by walk_at "at") rfl (vx_nil ⟨rfl, trivial, rfl, _, rfl, .inr ⟨hk, ?_⟩⟩))))
    exact .inl ⟨0, 0, rfl, by decide +kernel, by show 1 < 2; decide, trivial, w⟩

end K7

/-! Vc, part dL: some blanks; is not None. -/
namespace Vc
open PySem PySem.Spec PyProof.Rows L2
open Evl (Ex)
section
variable {X : Cx} {M : Md} {sc : Scope} {NK : List (Str × Bool × Bool)} {G : List Str} {k : Nat} {ρ : En} {P : D → En → Prop} {PB : Bool → En → Prop} {pos : Pos} {a b : Expr} {j : Nat} {p2 : Pos}
theorem op_mulSp : OpR X (binaryOp .Mult) (fun x y H Q => ∃ n : Int, x = .str " " ∧ y = .int n ∧ 1 ≤ n ∧ n ≤ 3 ∧ Q (.str (sT (List.replicate n.toNat 32))) H) := by
  intro pins s σ H x y v u Q I rx ry h
  obtain ⟨n, rfl, rfl, h1, h3, q⟩ := h
  obtain ⟨t, rfl⟩ := rx
  obtain ⟨t2, rfl⟩ := ry
  have e0 : (" " : Str) = sT [32] := by decide +kernel
  rcases (show n = 1 ∨ n = 2 ∨ n = 3 by omega) with rfl | rfl | rfl
  · refine PySem.P.mul_str (by decide +kernel) (by decide +kernel) (by decide +kernel) ?_
    rw [if_neg (by decide), if_pos (by decide +kernel)]
    exact ⟨.str (sT (List.replicate (Int.toNat 1) 32)), H, I.tok _, (show ∃ t', Value.str (" " : Str) t = Value.str _ t' from ⟨t, congrArg (fun z => Value.str z t) e0⟩), q⟩
  · refine PySem.P.mul_str (by decide +kernel) (by decide +kernel) (by decide +kernel) ?_
    rw [if_neg (by decide), if_neg (by decide +kernel)]
    exact ⟨by decide +kernel, .str (sT (List.replicate (Int.toNat 2) 32)), H, I.tok _, (show ∃ t', Value.str _ s.toks = Value.str _ t' from ⟨s.toks, congrArg (fun z => Value.str z s.toks) (by decide +kernel)⟩), q⟩
  · refine PySem.P.mul_str (by decide +kernel) (by decide +kernel) (by decide +kernel) ?_
    rw [if_neg (by decide), if_neg (by decide +kernel)]
    exact ⟨by decide +kernel, .str (sT (List.replicate (Int.toNat 3) 32)), H, I.tok _, (show ∃ t', Value.str _ s.toks = Value.str _ t' from ⟨s.toks, congrArg (fun z => Value.str z s.toks) (by decide +kernel)⟩), q⟩
theorem vd_mulSp (h : VD X a ρ fun x ρ1 => VD X b ρ1 fun y ρ2 => ∃ n : Int, x = .str " " ∧ y = .int n ∧ 1 ≤ n ∧ n ≤ 3 ∧ P (.str (sT (List.replicate n.toNat 32))) ρ2) : VD X (.BinOp a .Mult b pos) ρ P := VD.mk fun B H σ Q r q => by
  refine PE.sem (pe_op op_mulSp pe_sem pe_sem) ?_
  refine h.run B H σ _ r fun vx x B1 H1 ρ1 p1 dx g1 r1 => ?_
  refine p1.run B1 H1 σ _ r1 fun vy y B2 H2 ρ2 p2 dy g2 r2 => ?_
  obtain ⟨n, rfl, rfl, h1, h3, pp⟩ := p2
  exact ⟨n, dp_str dx, dp_int dy, h1, h3, q _ _ B2 H2 ρ2 pp (.str _) (g1.trans g2) r2⟩
def noneD : D → Bool
  | .none => true
  | _ => false
/-- e is not None -/
theorem vt_notN (h : VD X a ρ fun d ρ1 => PB (!noneD d) ρ1) (hm : behindInMarks .IsNot (.Constant .none j p2) = false := by first | exact nobehind _ (by decide) (by decide) | rfl) : VT X (.Compare a [.IsNot] [.Constant .none j p2] pos) ρ PB := VT.mk fun B H σ Q r q => by
  refine PT.sem (pt_cmpR op_notN pe_sem pe_non hm) ?_
  refine h.run B H σ _ r fun v d B1 H1 ρ1 p1 dv g1 r1 => ⟨rfl, _, rfl, ?_⟩
  have e : (!decide (v = V.non)) = !noneD d := by
    cases dv <;> rfl
  rw [e]
  exact q _ B1 H1 ρ1 p1 g1 r1
end
end Vc

namespace K7
open PySem PySem.Spec PyProof.Rows L2 Vc
local macro_rules | `(tactic| walk_at "at") => `(tactic| (repeat (first | with_reducible exact At.here | apply At.there)))
local macro_rules | `(tactic| walk_at "v") => `(tactic| first
  | refine vd_bin ?_
  | (refine vd_name (by assumption) (by walk_at "at") rfl ?_)
  | refine vd_int ?_
  | refine vd_bool ?_
  | refine vd_none ?_
  | refine vd_str ?_
  | refine vd_if ?_
  | (refine vd_neg ?_)
  | refine vd_tup ?_
  | refine va_nil ?_
  | refine va_cons ?_
  | refine vs_ret ?_
  | refine vss_nil ?_
  | refine vss_one ?_
  | refine vss_cons ?_
  | refine vs_if ?_
  | refine vt_cmp (by assumption) ?_
  | refine vs_set (by assumption) (by walk_at "at") ?_
  | refine vd_cmp (by assumption) ?_
  | refine vgs_nil ?_
  | refine vgs_cons ?_
  | refine vg_name (by assumption) (by walk_at "at") ?_
  | (refine vd_callT (x := "int") (by assumption) does_int (by walk_at "at") ?_)
  | (refine vd_callB (x := "len") (by assumption) does_len (by walk_at "at") ?_)
  | (refine vd_callB (x := "abs") (by assumption) does_abs (by walk_at "at") ?_)
  | (refine vd_ixo (by assumption) (by walk_at "at") rfl ?_)
  | refine vd_ix ?_)
local macro_rules | `(tactic| walk_at "sw") => `(tactic| (intro env h; cases env; dsimp only at h; subst h; rfl))
local macro_rules | `(tactic| walk_at "vv") => `(tactic| repeat (walk_at "v"))
/-! ### the texts of the law, as they stand there and as their signs -/
def cA : List Nat := [98, 117, 115, 32, 97, 10, 98, 117, 115]
theorem cA_eq : ("bus a\nbus" : Str) = sT cA := by decide +kernel
def cB : List Nat := [98, 10, 108, 105, 110, 101, 32, 97, 98, 32, 97, 32, 98, 32, 49, 48, 10, 115, 111, 117, 114, 99, 101, 32, 103, 32, 97, 32, 51, 10, 101, 114, 114, 111, 114, 32, 49, 47, 49, 48, 10, 98, 114, 101, 97, 107, 101, 114, 32, 49, 32, 50, 10]
theorem cB_eq : ("b\nline ab a b 10\nsource g a 3\nerror 1/10\nbreaker 1 2\n" : Str) = sT cB := by decide +kernel
def cR : List Nat := [116, 105, 99, 107, 115, 32, 49, 48, 10, 103, 117, 97, 114, 100, 32, 100, 32, 100, 105, 102, 102, 101, 114, 101, 110, 99, 101, 32, 97, 98, 32, 49, 47, 49, 48, 48, 48, 32, 100, 101, 108, 97, 121, 32, 48, 32, 111, 112, 101, 110, 115, 32, 97, 98, 46, 48, 32, 97, 98, 46, 49]
theorem cR_eq : ("ticks 10\nguard d difference ab 1/1000 delay 0 opens ab.0 ab.1" : Str) = sT cR := by decide +kernel
def cN : List Nat := [10, 32, 32]
theorem cN_eq : ("\n  " : Str) = sT cN := by decide +kernel
def cT : List Nat := [10, 116, 105, 99, 107, 115, 32, 51]
theorem cT_eq : ("\nticks 3" : Str) = sT cT := by decide +kernel
def cU : List Nat := [10, 98, 117, 115, 32, 97, 98]
theorem cU_eq : ("\nbus ab" : Str) = sT cU := by decide +kernel
def cV : List Nat := [10, 115, 111, 117, 114, 99, 101, 32, 104, 32, 99, 32, 50]
theorem cV_eq : ("\nsource h c 2" : Str) = sT cV := by decide +kernel
def cX : List Nat := [10, 103, 117, 97, 114, 100, 32, 102, 32, 100, 105, 102, 102, 101, 114, 101, 110, 99, 101, 32, 99, 32, 49, 32, 100, 101, 108, 97, 121, 32, 48, 32, 111, 112, 101, 110, 115, 32, 103]
theorem cX_eq : ("\nguard f difference c 1 delay 0 opens g" : Str) = sT cX := by decide +kernel
def wS0 : List (Str × Nat) := [(("bus" : Str), 4), (("bus A" : Str), 5), (("bus 1a" : Str), 5), (("bus abcdefghi" : Str), 5), (("bus a b" : Str), 7), (("bus line" : Str), 5), (("bus a-" : Str), 6), (("busses a" : Str), 1), (("Bus a" : Str), 1), (("line k a b" : Str), 11)]
def wS1 : List (Str × Nat) := [(("line k a b 01" : Str), 12), (("line k a b 1001" : Str), 12)]
def wS2 : List (Str × Nat) := [(("line k a b 10000" : Str), 12), (("line k a 10" : Str), 10), (("source h a" : Str), 11), (("source h a 3 4" : Str), 14), (("error 1/10" : Str), 1), (("breaker 1 2" : Str), 1)]
def wS3 : List (Str × Nat) := [(("ticks" : Str), 6), (("ticks 1 2" : Str), 9)]
def wS4 : List (Str × Nat) := [(("guard e over ab 1 delay 0 opens g" : Str), 14), (("guard e over g.0 1 delay 0 opens g" : Str), 14), (("guard e over ab.2 1 delay 0 opens g" : Str), 17)]
def wS5 : List (Str × Nat) := [(("guard e over ab.0 1/0 delay 0 opens g" : Str), 21), (("guard e over ab.0 1/ delay 0 opens g" : Str), 21)]
def wS6 : List (Str × Nat) := [(("guard e over ab.0 1 forwards delay 0 opens g" : Str), 21), (("guard e reach ab.0 1 forward delay 0 opens g" : Str), 22), (("guard e behind ab.0 1 delay 0 opens g" : Str), 21)]
def wS7 : List (Str × Nat) := [(("guard e behind ab.0 delay opens g" : Str), 27), (("guard e behind ab.0 delay 0 opens" : Str), 34)]
def wS8 : List (Str × Nat) := [(("guard e behind ab.0 delay 0 opens g," : Str), 36), (("guard e near ab.0 delay 0 opens g" : Str), 9), (("guard e difference ab.0 1 delay 0 opens g" : Str), 22)]
def wS9 : List (Str × Nat) := [(("guard e difference ab 1 /2 delay 0 opens g" : Str), 25), (("guard" : Str), 6), (("$" : Str), 1)]
def wrongS : List (Str × Nat) := (((((((((wS0 ++ wS1) ++ wS2) ++ wS3) ++ wS4) ++ wS5) ++ wS6) ++ wS7) ++ wS8) ++ wS9)
def wrongC : List (List Nat × Nat) := [([98, 117, 115], 4), ([98, 117, 115, 32, 65], 5), ([98, 117, 115, 32, 49, 97], 5), ([98, 117, 115, 32, 97, 98, 99, 100, 101, 102, 103, 104, 105], 5), ([98, 117, 115, 32, 97, 32, 98], 7), ([98, 117, 115, 32, 108, 105, 110, 101], 5), ([98, 117, 115, 32, 97, 45], 6), ([98, 117, 115, 115, 101, 115, 32, 97], 1), ([66, 117, 115, 32, 97], 1), ([108, 105, 110, 101, 32, 107, 32, 97, 32, 98], 11), ([108, 105, 110, 101, 32, 107, 32, 97, 32, 98, 32, 48, 49], 12), ([108, 105, 110, 101, 32, 107, 32, 97, 32, 98, 32, 49, 48, 48, 49], 12), ([108, 105, 110, 101, 32, 107, 32, 97, 32, 98, 32, 49, 48, 48, 48, 48], 12), ([108, 105, 110, 101, 32, 107, 32, 97, 32, 49, 48], 10), ([115, 111, 117, 114, 99, 101, 32, 104, 32, 97], 11), ([115, 111, 117, 114, 99, 101, 32, 104, 32, 97, 32, 51, 32, 52], 14), ([101, 114, 114, 111, 114, 32, 49, 47, 49, 48], 1), ([98, 114, 101, 97, 107, 101, 114, 32, 49, 32, 50], 1), ([116, 105, 99, 107, 115], 6), ([116, 105, 99, 107, 115, 32, 49, 32, 50], 9), ([103, 117, 97, 114, 100, 32, 101, 32, 111, 118, 101, 114, 32, 97, 98, 32, 49, 32, 100, 101, 108, 97, 121, 32, 48, 32, 111, 112, 101, 110, 115, 32, 103], 14), ([103, 117, 97, 114, 100, 32, 101, 32, 111, 118, 101, 114, 32, 103, 46, 48, 32, 49, 32, 100, 101, 108, 97, 121, 32, 48, 32, 111, 112, 101, 110, 115, 32, 103], 14), ([103, 117, 97, 114, 100, 32, 101, 32, 111, 118, 101, 114, 32, 97, 98, 46, 50, 32, 49, 32, 100, 101, 108, 97, 121, 32, 48, 32, 111, 112, 101, 110, 115, 32, 103], 17), ([103, 117, 97, 114, 100, 32, 101, 32, 111, 118, 101, 114, 32, 97, 98, 46, 48, 32, 49, 47, 48, 32, 100, 101, 108, 97, 121, 32, 48, 32, 111, 112, 101, 110, 115, 32, 103], 21), ([103, 117, 97, 114, 100, 32, 101, 32, 111, 118, 101, 114, 32, 97, 98, 46, 48, 32, 49, 47, 32, 100, 101, 108, 97, 121, 32, 48, 32, 111, 112, 101, 110, 115, 32, 103], 21), ([103, 117, 97, 114, 100, 32, 101, 32, 111, 118, 101, 114, 32, 97, 98, 46, 48, 32, 49, 32, 102, 111, 114, 119, 97, 114, 100, 115, 32, 100, 101, 108, 97, 121, 32, 48, 32, 111, 112, 101, 110, 115, 32, 103], 21), ([103, 117, 97, 114, 100, 32, 101, 32, 114, 101, 97, 99, 104, 32, 97, 98, 46, 48, 32, 49, 32, 102, 111, 114, 119, 97, 114, 100, 32, 100, 101, 108, 97, 121, 32, 48, 32, 111, 112, 101, 110, 115, 32, 103], 22), ([103, 117, 97, 114, 100, 32, 101, 32, 98, 101, 104, 105, 110, 100, 32, 97, 98, 46, 48, 32, 49, 32, 100, 101, 108, 97, 121, 32, 48, 32, 111, 112, 101, 110, 115, 32, 103], 21), ([103, 117, 97, 114, 100, 32, 101, 32, 98, 101, 104, 105, 110, 100, 32, 97, 98, 46, 48, 32, 100, 101, 108, 97, 121, 32, 111, 112, 101, 110, 115, 32, 103], 27), ([103, 117, 97, 114, 100, 32, 101, 32, 98, 101, 104, 105, 110, 100, 32, 97, 98, 46, 48, 32, 100, 101, 108, 97, 121, 32, 48, 32, 111, 112, 101, 110, 115], 34), ([103, 117, 97, 114, 100, 32, 101, 32, 98, 101, 104, 105, 110, 100, 32, 97, 98, 46, 48, 32, 100, 101, 108, 97, 121, 32, 48, 32, 111, 112, 101, 110, 115, 32, 103, 44], 36), ([103, 117, 97, 114, 100, 32, 101, 32, 110, 101, 97, 114, 32, 97, 98, 46, 48, 32, 100, 101, 108, 97, 121, 32, 48, 32, 111, 112, 101, 110, 115, 32, 103], 9), ([103, 117, 97, 114, 100, 32, 101, 32, 100, 105, 102, 102, 101, 114, 101, 110, 99, 101, 32, 97, 98, 46, 48, 32, 49, 32, 100, 101, 108, 97, 121, 32, 48, 32, 111, 112, 101, 110, 115, 32, 103], 22), ([103, 117, 97, 114, 100, 32, 101, 32, 100, 105, 102, 102, 101, 114, 101, 110, 99, 101, 32, 97, 98, 32, 49, 32, 47, 50, 32, 100, 101, 108, 97, 121, 32, 48, 32, 111, 112, 101, 110, 115, 32, 103], 25), ([103, 117, 97, 114, 100], 6), ([36], 1)]
theorem wrongC_eq : wrongS.map (fun q => (q.1.cps.toList, q.2)) = wrongC := by decide +kernel
abbrev uH (g : Nat) : List Nat := cA ++ List.replicate g 32 ++ cB
abbrev uR (g : Nat) : List Nat := uH g ++ cR
def okText (u : List Nat) : Bool := decide (u.length ≤ 50000) && (decide ((lns u).length ≤ 1000) && (lns u).all fun l => decide (l.length ≤ 1000))
def okOk (u : List Nat) : Bool := okText u && (match mNet u with
  | some (.ok _) => true
  | _ => false)
def okNet (u : List Nat) : Bool := okText u && (match mNet u with
  | some (.error none) => true
  | _ => false)
def okAt (u : List Nat) (l c : Nat) : Bool := okText u && (match mNet u with
  | some (.error (some (a, b))) => decide (a = l) && decide (b = c)
  | _ => false)
def isTk (u : List Nat) : Bool := decide (u.take 5 = [116, 105, 99, 107, 115])
def chkW (g : Nat) (q : List Nat × Nat) : Bool := okAt (uH g ++ q.1) 7 q.2 && okAt (uR g ++ cN ++ q.1) 9 (if isTk q.1 = true then 3 else q.2 + 2)
def chkG (g : Nat) : Bool := okOk (uR g) && (okAt (uR g ++ cT) 9 1 && (okAt (uH g) 7 1 && (okNet (uR g ++ cU) && (okNet (uR g ++ cV) && okNet (uR g ++ cX)))))
theorem chk_0 : okAt [] 1 1 = true := by decide +kernel
theorem chkG_1 : chkG 1 = true := by decide +kernel
theorem chkG_2 : chkG 2 = true := by decide +kernel
theorem chkG_3 : chkG 3 = true := by decide +kernel
theorem chkW_1 : wrongC.all (chkW 1) = true := by decide +kernel
theorem chkW_2 : wrongC.all (chkW 2) = true := by decide +kernel
theorem chkW_3 : wrongC.all (chkW 3) = true := by decide +kernel


open PySem PySem.Spec PyProof.Rows L2 Vc
local macro_rules | `(tactic| walk_at "kk") => `(tactic| repeat (first | refine va_cons ?_ | refine vd_tup ?_ | refine vd_str ?_ | refine vd_int ?_ | refine va_nil ⟨by decide, ?_⟩))
/-! ### the law -/
theorem sT_cat (a b : List Nat) : sT a ++ sT b = sT (a ++ b) := by
  show (⟨a.toArray ++ b.toArray⟩ : Str) = ⟨(a ++ b).toArray⟩
  rw [List.append_toArray]
theorem okText_ok {u : List Nat} (h : okText u = true) : TextOk u := by
  unfold okText at h
  rw [Bool.and_eq_true, Bool.and_eq_true, List.all_eq_true] at h
  obtain ⟨h1, h2, h3⟩ := h
  exact ⟨of_decide_eq_true h1, of_decide_eq_true h2, fun l hl => of_decide_eq_true (h3 l hl)⟩
theorem place_at {u : List Nat} {l c : Nat} {W : D → List Sl → Prop} {WX : Er → List Sl → Prop} (h : okAt u l c = true) (w : W (.tuple [.int (l : Int), .int (c : Int)]) [.dat (.str (sT u))]) : SPlace [.dat (.str (sT u))] W WX := by
  unfold okAt at h
  rw [Bool.and_eq_true] at h
  obtain ⟨h1, h2⟩ := h
  split at h2
  · rename_i a b e
    rw [Bool.and_eq_true] at h2
    have ea := of_decide_eq_true h2.1
    have eb := of_decide_eq_true h2.2
    subst ea eb
    exact ⟨_, rfl, .inl ⟨u, _, rfl, okText_ok h1, e, w⟩⟩
  · cases h2
theorem place_ok {u : List Nat} {W : D → List Sl → Prop} {WX : Er → List Sl → Prop} (h : okOk u = true) (w : W .none [.dat (.str (sT u))]) : SPlace [.dat (.str (sT u))] W WX := by
  unfold okOk at h
  rw [Bool.and_eq_true] at h
  obtain ⟨h1, h2⟩ := h
  split at h2
  · rename_i e
    exact ⟨_, rfl, .inl ⟨u, _, rfl, okText_ok h1, e, w⟩⟩
  · cases h2
theorem place_net {u : List Nat} {W : D → List Sl → Prop} {WX : Er → List Sl → Prop} (h : okNet u = true) (w : W (.str "net") [.dat (.str (sT u))]) : SPlace [.dat (.str (sT u))] W WX := by
  unfold okNet at h
  rw [Bool.and_eq_true] at h
  obtain ⟨h1, h2⟩ := h
  split at h2
  · rename_i e
    exact ⟨_, rfl, .inl ⟨u, _, rfl, okText_ok h1, e, w⟩⟩
  · cases h2
theorem okAt_len {u : List Nat} {l c : Nat} (h : okAt u l c = true) : u.length ≤ 50000 := by
  unfold okAt at h
  rw [Bool.and_eq_true] at h
  exact (okText_ok h.1).len
theorem okNet_len {u : List Nat} (h : okNet u = true) : u.length ≤ 50000 := by
  unfold okNet at h
  rw [Bool.and_eq_true] at h
  exact (okText_ok h.1).len
theorem okOk_len {u : List Nat} (h : okOk u = true) : u.length ≤ 50000 := by
  unfold okOk at h
  rw [Bool.and_eq_true] at h
  exact (okText_ok h.1).len
theorem ne_pair {a b : Int} {K : Bool → Prop} (k : K false) : cmpD .NotEq (.tuple [.int a, .int b]) (.tuple [.int a, .int b]) K := by
  have s : SeqAt.shaped (.tuple [.int a, .int b]) = true := by
    unfold SeqAt.shaped
    simp [PyData.canLay0, PyData.canLayAll0, PyData.depth, PyData.depthAll]
  refine ⟨s, s, ?_⟩
  have : (!PyData.eqv (.tuple [.int a, .int b]) (.tuple [.int a, .int b])) = false := by
    rw [SeqAt.eqv_refl _ (by simp [PyData.canLay0, PyData.canLayAll0])]
    rfl
  rw [this]
  exact k
theorem cK_eq : ("ticks" : Str) = sT [116, 105, 99, 107, 115] := by decide +kernel
theorem cE_eq : ("" : Str) = sT [] := by decide +kernel
theorem tk_dec {u : List Nat} : decide (sT (u.take 5) = ("ticks" : Str)) = isTk u := by
  unfold isTk
  rw [cK_eq]
  by_cases h : u.take 5 = [116, 105, 99, 107, 115]
  · rw [decide_eq_true h, h, decide_eq_true rfl]
  · rw [decide_eq_false h, decide_eq_false (fun z => h (sT_inj.mp z))]
def wrD (l : List (Str × Nat)) : List D := l.map fun q => .tuple [.str q.1, .int (q.2 : Int)]
def wT0 : List (Str × Nat) := wS0
def wT1 : List (Str × Nat) := wT0 ++ wS1
def wT2 : List (Str × Nat) := wT1 ++ wS2
def wT3 : List (Str × Nat) := wT2 ++ wS3
def wT4 : List (Str × Nat) := wT3 ++ wS4
def wT5 : List (Str × Nat) := wT4 ++ wS5
def wT6 : List (Str × Nat) := wT5 ++ wS6
def wT7 : List (Str × Nat) := wT6 ++ wS7
def wT8 : List (Str × Nat) := wT7 ++ wS8
def wT9 : List (Str × Nat) := wT8 ++ wS9
theorem chk_all {g : Nat} (h : g = 1 ∨ g = 2 ∨ g = 3) : chkG g = true ∧ ∀ q ∈ wrongC, chkW g q = true := by
  rcases h with rfl | rfl | rfl
  · exact ⟨chkG_1, List.all_eq_true.mp chkW_1⟩
  · exact ⟨chkG_2, List.all_eq_true.mp chkW_2⟩
  · exact ⟨chkG_3, List.all_eq_true.mp chkW_3⟩
theorem fLaw {M : Md} {f : Addr} {fd : FuncData} (FX : FnM M 3 "_law_next" 1 SNext) (FP : FnX M 10 "_law_place" 1 SPlace) (F : Fun M.K "law" "law" sLaw f fd) : FnOk M.prog M.w M.K M.mg M.base CX0 11 f fd ["script"] (DS M.K 1 (LawS 63)) := by
  refine fnOk_mk (k := 10) (NK := nkLaw) (G := gLaw) F scLaw rfl (by decide +kernel) rfl (by decide) fun X C ds W hl hS => ?_
  obtain ⟨ns, rfl, hns, w⟩ := hS
  show VSs X _ [.dat (.list (ns.map PyData.int)), .no, .no, .no, .no, .no, .no, .no] _
  refine vss_cons ?_
  refine vs_new C (i := 1) (by walk_at "at") (by show 1 < 8; decide) ?_
  refine vn_lst ?_
  refine va_cons ?_
  refine vn_vd ?_
  refine vn_take (n := 63) ?_
  walk_at "v"
  refine ⟨_, rfl, ?_⟩
  walk_at "vv"
  refine ⟨by show 3 ≤ 1000; decide, fun p => ?_⟩
  rw [← List.map_take]
  generalize hms : ns.take 63 = ms
  show VSs X _ [.dat (.list (ns.map PyData.int)), .own p (drw ms 0), .no, .no, .no, .no, .no, .no] _
  refine vss_cons (vs_set C (by walk_at "at") (vd_mulSp (vd_str (vd_bin (vd_int ?_)))))
  refine vd_callO C FX (m := 1) (by walk_at "at") (by walk_at "at") rfl (va_cons (vd_int (va_nil ?_)))
  refine ⟨rfl, _, rfl, ms, 0, 3, rfl, rfl, by decide, by decide, fun r r0 r1 => ?_⟩
  refine ⟨1 + r, rfl, rfl, by omega, by omega, ?_⟩
  obtain ⟨g, hg, eg⟩ : ∃ g : Nat, (g = 1 ∨ g = 2 ∨ g = 3) ∧ (1 + r).toNat = g := ⟨_, by omega, rfl⟩
  rw [eg]
  obtain ⟨hG, hW⟩ := chk_all hg
  unfold chkG at hG
  rw [Bool.and_eq_true, Bool.and_eq_true, Bool.and_eq_true, Bool.and_eq_true, Bool.and_eq_true] at hG
  obtain ⟨g1, g2, g3, g4, g5, g6⟩ := hG
  have lR := okOk_len g1
  have lH := okAt_len g3
  have l3 : (cA ++ List.replicate g 32).length ≤ 100 := by
    rw [List.length_append, List.length_replicate]
    show 9 + g ≤ 100
    omega
  generalize eN : drw ms (0 + 1) = dr
  show VSs X _ [.dat (.list (ns.map PyData.int)), .own p dr, .dat (.str (sT (List.replicate g 32))), .no, .no, .no, .no, .no] _
  refine vss_cons (vs_set C (by walk_at "at") (vd_addS (vd_addS (vd_str (vd_name C (by walk_at "at") rfl ⟨_, _, rfl, rfl, ?_, vd_str ⟨_, _, rfl, rfl, ?_, ?_⟩⟩)))))
  · rw [cA_eq, sT_len, sT_len]
    rw [List.length_append] at l3
    omega
  · rw [cA_eq, cB_eq, sT_cat, sT_len, sT_len]
    have : cB.length ≤ 100 := by decide
    omega
  rw [cA_eq, cB_eq, sT_cat, sT_cat]
  show VSs X _ [.dat (.list (ns.map PyData.int)), .own p dr, .dat (.str (sT (List.replicate g 32))), .dat (.str (sT (uH g))), .no, .no, .no, .no] _
  refine vss_cons (vs_set C (by walk_at "at") (vd_addS (vd_name C (by walk_at "at") rfl (vd_str ⟨_, _, rfl, rfl, ?_, ?_⟩))))
  · rw [cR_eq, sT_len, sT_len]
    rw [List.length_append] at lR
    omega
  rw [cR_eq, sT_cat]
  show VSs X _ [.dat (.list (ns.map PyData.int)), .own p dr, .dat (.str (sT (List.replicate g 32))), .dat (.str (sT (uH g))), .dat (.str (sT (uR g))), .no, .no, .no] _
  refine vss_cons (vs_if (vt_notN (vd_callX C FP (by walk_at "at") (vx_cons (vd_name C (by walk_at "at") rfl (vx_nil ⟨rfl, trivial, rfl, place_ok g1 ?_⟩))))))
  refine ⟨fun e => (by cases e), fun _ => vss_nil ?_⟩
  show VSs X _ [.dat (.list (ns.map PyData.int)), .own p dr, .dat (.str (sT (List.replicate g 32))), .dat (.str (sT (uH g))), .dat (.str (sT (uR g))), .no, .no, .no] _
  refine vss_cons (vs_set C (by walk_at "at") (vn_vd (vn_lst ?_)))
  walk_at "kk"
  show VSs X _ [.dat (.list (ns.map PyData.int)), .own p dr, .dat (.str (sT (List.replicate g 32))), .dat (.str (sT (uH g))), .dat (.str (sT (uR g))), .dat (.list (wrD wT0)), .no, .no] _
  refine vss_cons (vs_set C (by walk_at "at") (vn_vd (vn_cat (vd_name C (by walk_at "at") rfl (vn_vd (vn_lst ?_))))))
  walk_at "kk"
  refine ⟨wrD wT0, wrD wS1, rfl, rfl, by decide +kernel, ?_⟩
  show VSs X _ [.dat (.list (ns.map PyData.int)), .own p dr, .dat (.str (sT (List.replicate g 32))), .dat (.str (sT (uH g))), .dat (.str (sT (uR g))), .dat (.list (wrD wT1)), .no, .no] _
  refine vss_cons (vs_set C (by walk_at "at") (vn_vd (vn_cat (vd_name C (by walk_at "at") rfl (vn_vd (vn_lst ?_))))))
  walk_at "kk"
  refine ⟨wrD wT1, wrD wS2, rfl, rfl, by decide +kernel, ?_⟩
  show VSs X _ [.dat (.list (ns.map PyData.int)), .own p dr, .dat (.str (sT (List.replicate g 32))), .dat (.str (sT (uH g))), .dat (.str (sT (uR g))), .dat (.list (wrD wT2)), .no, .no] _
  refine vss_cons (vs_set C (by walk_at "at") (vn_vd (vn_cat (vd_name C (by walk_at "at") rfl (vn_vd (vn_lst ?_))))))
  walk_at "kk"
  refine ⟨wrD wT2, wrD wS3, rfl, rfl, by decide +kernel, ?_⟩
  show VSs X _ [.dat (.list (ns.map PyData.int)), .own p dr, .dat (.str (sT (List.replicate g 32))), .dat (.str (sT (uH g))), .dat (.str (sT (uR g))), .dat (.list (wrD wT3)), .no, .no] _
  refine vss_cons (vs_set C (by walk_at "at") (vn_vd (vn_cat (vd_name C (by walk_at "at") rfl (vn_vd (vn_lst ?_))))))
  walk_at "kk"
  refine ⟨wrD wT3, wrD wS4, rfl, rfl, by decide +kernel, ?_⟩
  show VSs X _ [.dat (.list (ns.map PyData.int)), .own p dr, .dat (.str (sT (List.replicate g 32))), .dat (.str (sT (uH g))), .dat (.str (sT (uR g))), .dat (.list (wrD wT4)), .no, .no] _
  refine vss_cons (vs_set C (by walk_at "at") (vn_vd (vn_cat (vd_name C (by walk_at "at") rfl (vn_vd (vn_lst ?_))))))
  walk_at "kk"
  refine ⟨wrD wT4, wrD wS5, rfl, rfl, by decide +kernel, ?_⟩
  show VSs X _ [.dat (.list (ns.map PyData.int)), .own p dr, .dat (.str (sT (List.replicate g 32))), .dat (.str (sT (uH g))), .dat (.str (sT (uR g))), .dat (.list (wrD wT5)), .no, .no] _
  refine vss_cons (vs_set C (by walk_at "at") (vn_vd (vn_cat (vd_name C (by walk_at "at") rfl (vn_vd (vn_lst ?_))))))
  walk_at "kk"
  refine ⟨wrD wT5, wrD wS6, rfl, rfl, by decide +kernel, ?_⟩
  show VSs X _ [.dat (.list (ns.map PyData.int)), .own p dr, .dat (.str (sT (List.replicate g 32))), .dat (.str (sT (uH g))), .dat (.str (sT (uR g))), .dat (.list (wrD wT6)), .no, .no] _
  refine vss_cons (vs_set C (by walk_at "at") (vn_vd (vn_cat (vd_name C (by walk_at "at") rfl (vn_vd (vn_lst ?_))))))
  walk_at "kk"
  refine ⟨wrD wT6, wrD wS7, rfl, rfl, by decide +kernel, ?_⟩
  show VSs X _ [.dat (.list (ns.map PyData.int)), .own p dr, .dat (.str (sT (List.replicate g 32))), .dat (.str (sT (uH g))), .dat (.str (sT (uR g))), .dat (.list (wrD wT7)), .no, .no] _
  refine vss_cons (vs_set C (by walk_at "at") (vn_vd (vn_cat (vd_name C (by walk_at "at") rfl (vn_vd (vn_lst ?_))))))
  walk_at "kk"
  refine ⟨wrD wT7, wrD wS8, rfl, rfl, by decide +kernel, ?_⟩
  show VSs X _ [.dat (.list (ns.map PyData.int)), .own p dr, .dat (.str (sT (List.replicate g 32))), .dat (.str (sT (uH g))), .dat (.str (sT (uR g))), .dat (.list (wrD wT8)), .no, .no] _
  refine vss_cons (vs_set C (by walk_at "at") (vn_vd (vn_cat (vd_name C (by walk_at "at") rfl (vn_vd (vn_lst ?_))))))
  walk_at "kk"
  refine ⟨wrD wT8, wrD wS9, rfl, rfl, by decide +kernel, ?_⟩
  show VSs X _ [.dat (.list (ns.map PyData.int)), .own p dr, .dat (.str (sT (List.replicate g 32))), .dat (.str (sT (uH g))), .dat (.str (sT (uR g))), .dat (.list (wrD wT9)), .no, .no] _
  -- every wrong text
  refine vss_cons (vs_for C (vi_lst (vd_name C (by walk_at "at") rfl ⟨wrD wrongS, rfl, fun _ ρ' => ∃ s6 s7, ρ' = [.dat (.list (ns.map PyData.int)), .own p dr, .dat (.str (sT (List.replicate g 32))), .dat (.str (sT (uH g))), .dat (.str (sT (uR g))), .dat (.list (wrD wrongS)), s6, s7], ⟨_, _, rfl⟩, fun i d ρ' hi ⟨s6, s7, hρ⟩ => ?_, fun ρ' ⟨s6, s7, hρ⟩ => ?_⟩)))
  · subst hρ
    unfold wrD at hi
    rw [List.getElem?_map] at hi
    obtain ⟨q, hq, rfl⟩ : ∃ q, wrongS[i]? = some q ∧ PyData.tuple [.str q.1, .int (q.2 : Int)] = d := by
      cases e : wrongS[i]? with
      | none =>
        rw [e] at hi
        cases hi
      | some q =>
        rw [e] at hi
        exact ⟨q, rfl, by simpa using hi⟩
    obtain ⟨z, c⟩ := q
    have hmem : (z.cps.toList, c) ∈ wrongC := by
      rw [← wrongC_eq]
      exact List.mem_map.mpr ⟨_, List.mem_of_getElem? hq, rfl⟩
    have hz : z = sT z.cps.toList := (sT_of z).symm
    generalize z.cps.toList = u at hz hmem
    subst hz
    have hc := hW _ hmem
    unfold chkW at hc
    rw [Bool.and_eq_true] at hc
    obtain ⟨c1, c2⟩ := hc
    replace c1 : okAt (uH g ++ u) 7 c = true := c1
    replace c2 : okAt (uR g ++ cN ++ u) 9 (if isTk u = true then 3 else c + 2) = true := c2
    have l1 := okAt_len c1
    have l2 := okAt_len c2
    refine vg_tup C (vgs_cons (vg_name C (by walk_at "at") (vgs_cons (vg_name C (by walk_at "at") (vgs_nil ?_)))))
    show VSs X _ [.dat (.list (ns.map PyData.int)), .own p dr, .dat (.str (sT (List.replicate g 32))), .dat (.str (sT (uH g))), .dat (.str (sT (uR g))), .dat (.list (wrD wrongS)), .dat (.str (sT u)), .dat (.int (c : Int))] _
    refine vss_cons (vs_if (vt_cmp C (vd_callX C FP (by walk_at "at") (vx_cons (vd_addS (vd_name C (by walk_at "at") rfl (vd_name C (by walk_at "at") rfl ⟨sT (uH g), sT u, rfl, rfl, ?_, vx_nil ?_⟩)))))))
    · rw [sT_len, sT_len]
      rw [List.length_append] at l1
      omega
    rw [sT_cat]
    refine ⟨rfl, trivial, rfl, place_at c1 ?_⟩
    refine vd_tup (va_cons (vd_int (va_cons (vd_name C (by walk_at "at") rfl (va_nil ⟨by show 2 ≤ 1000; decide, ne_pair ⟨fun e => (by cases e), fun _ => vss_nil ?_⟩⟩)))))
    show VSs X _ [.dat (.list (ns.map PyData.int)), .own p dr, .dat (.str (sT (List.replicate g 32))), .dat (.str (sT (uH g))), .dat (.str (sT (uR g))), .dat (.list (wrD wrongS)), .dat (.str (sT u)), .dat (.int (c : Int))] _
    refine vss_one (vs_if (vt_cmp C (vd_callX C FP (by walk_at "at") (vx_cons (vd_addS (vd_addS (vd_name C (by walk_at "at") rfl (vd_str ⟨_, _, rfl, rfl, ?_, ?_⟩))))))))
    · rw [cN_eq, sT_len, sT_len]
      have : cN.length ≤ 100 := by decide
      omega
    refine vd_name C (by walk_at "at") rfl ⟨_, sT u, rfl, rfl, ?_, vx_nil ?_⟩
    · rw [cN_eq, sT_cat, sT_len, sT_len]
      rw [List.length_append] at l2
      omega
    rw [cN_eq, sT_cat, sT_cat]
    refine ⟨rfl, trivial, rfl, place_at c2 ?_⟩
    refine vd_tup (va_cons (vd_int (va_cons (vd_if (vt_eqS (vd_cutSo (vd_name C (by walk_at "at") rfl (vd_int ⟨sT u, 5, rfl, rfl, ?_, ?_⟩))))))))
    · rw [sT_len]
      rw [List.length_append] at l1
      omega
    rw [show (some (5 : Int)) = some ((5 : Nat) : Int) from rfl, cut_sTo]
    refine vd_str ⟨_, _, rfl, rfl, ?_⟩
    rw [tk_dec]
    refine ⟨fun e => ?_, fun e => ?_⟩
    · rw [if_pos e]
      exact vd_int (va_nil ⟨by show 2 ≤ 1000; decide, ne_pair ⟨fun e => (by cases e), fun _ => vss_nil ⟨_, _, rfl⟩⟩⟩)
    · rw [if_neg (by rw [e]; decide)]
      refine vd_bin (vd_name C (by walk_at "at") rfl (vd_int ?_))
      exact va_nil ⟨by show 2 ≤ 1000; decide, ne_pair ⟨fun e => (by cases e), fun _ => vss_nil ⟨_, _, rfl⟩⟩⟩
  · subst hρ
    show VSs X _ [.dat (.list (ns.map PyData.int)), .own p dr, .dat (.str (sT (List.replicate g 32))), .dat (.str (sT (uH g))), .dat (.str (sT (uR g))), .dat (.list (wrD wrongS)), s6, s7] _
    refine vss_cons (vs_if (vt_w (vw_or (vt_cmp C (vd_callX C FP (by walk_at "at") (vx_cons (vd_addS (vd_name C (by walk_at "at") rfl (vd_str ⟨_, _, rfl, rfl, ?_, vx_nil ?_⟩)))))))))
    · rw [cT_eq, sT_len, sT_len]
      have := okAt_len g2
      rw [List.length_append] at this
      omega
    rw [cT_eq, sT_cat]
    refine ⟨rfl, trivial, rfl, place_at g2 ?_⟩
    refine vd_tup (va_cons (vd_int (va_cons (vd_int (va_nil ⟨by show 2 ≤ 1000; decide, ne_pair ⟨fun e => (by cases e), fun _ => ?_⟩⟩)))))
    refine vw_or1 (vt_cmp C (vd_callX C FP (by walk_at "at") (vx_cons (vd_name C (by walk_at "at") rfl (vx_nil ⟨rfl, trivial, rfl, place_at g3 ?_⟩)))))
    refine vd_tup (va_cons (vd_int (va_cons (vd_int (va_nil ⟨by show 2 ≤ 1000; decide, ne_pair ⟨fun e => (by cases e), fun _ => vss_nil ?_⟩⟩)))))
    show VSs X _ [.dat (.list (ns.map PyData.int)), .own p dr, .dat (.str (sT (List.replicate g 32))), .dat (.str (sT (uH g))), .dat (.str (sT (uR g))), .dat (.list (wrD wrongS)), s6, s7] _
    refine vss_cons (vs_if (vt_w (vw_or (vt_cmp C (vd_callX C FP (by walk_at "at") (vx_cons (vd_str (vx_nil ?_))))))))
    rw [cE_eq]
    refine ⟨rfl, trivial, rfl, place_at chk_0 ?_⟩
    refine vd_tup (va_cons (vd_int (va_cons (vd_int (va_nil ⟨by show 2 ≤ 1000; decide, ne_pair ⟨fun e => (by cases e), fun _ => ?_⟩⟩)))))
    refine vw_or (vt_cmp C (vd_callX C FP (by walk_at "at") (vx_cons (vd_none (vx_nil ⟨rfl, trivial, rfl, _, rfl, .inr ⟨by decide +kernel, ?_⟩⟩)))))
    refine vd_tup (va_cons (vd_int (va_cons (vd_int (va_nil ⟨by show 2 ≤ 1000; decide, ne_pair ⟨fun e => (by cases e), fun _ => ?_⟩⟩)))))
    refine vw_or1 (vt_cmp C (vd_callX C FP (by walk_at "at") (vx_cons (vd_int (vx_nil ⟨rfl, trivial, rfl, _, rfl, .inr ⟨by show kitB "int" "str" = some false; decide +kernel, ?_⟩⟩)))))
    refine vd_tup (va_cons (vd_int (va_cons (vd_int (va_nil ⟨by show 2 ≤ 1000; decide, ne_pair ⟨fun e => (by cases e), fun _ => vss_nil ?_⟩⟩)))))
    show VSs X _ [.dat (.list (ns.map PyData.int)), .own p dr, .dat (.str (sT (List.replicate g 32))), .dat (.str (sT (uH g))), .dat (.str (sT (uR g))), .dat (.list (wrD wrongS)), s6, s7] _
    refine vss_one (vs_ret (vd_and (vd_eqS (vd_callX C FP (by walk_at "at") (vx_cons (vd_addS (vd_name C (by walk_at "at") rfl (vd_str ⟨_, _, rfl, rfl, ?_, vx_nil ?_⟩))))))))
    · rw [cU_eq, sT_len, sT_len]
      have := okNet_len g4
      rw [List.length_append] at this
      omega
    rw [cU_eq, sT_cat]
    refine ⟨rfl, trivial, rfl, place_net g4 (vd_str ⟨_, _, rfl, rfl, _, rfl, fun _ => ?_, fun e => absurd e (by rw [decide_eq_true rfl]; decide)⟩)⟩
    refine vd_and (vd_eqS (vd_callX C FP (by walk_at "at") (vx_cons (vd_addS (vd_name C (by walk_at "at") rfl (vd_str ⟨_, _, rfl, rfl, ?_, vx_nil ?_⟩))))))
    · rw [cV_eq, sT_len, sT_len]
      have := okNet_len g5
      rw [List.length_append] at this
      omega
    rw [cV_eq, sT_cat]
    refine ⟨rfl, trivial, rfl, place_net g5 (vd_str ⟨_, _, rfl, rfl, _, rfl, fun _ => ?_, fun e => absurd e (by rw [decide_eq_true rfl]; decide)⟩)⟩
    refine vd_one (vd_eqS (vd_callX C FP (by walk_at "at") (vx_cons (vd_addS (vd_name C (by walk_at "at") rfl (vd_str ⟨_, _, rfl, rfl, ?_, vx_nil ?_⟩))))))
    · rw [cX_eq, sT_len, sT_len]
      have := okNet_len g6
      rw [List.length_append] at this
      omega
    rw [cX_eq, sT_cat]
    refine ⟨rfl, trivial, rfl, place_net g6 (vd_str ⟨_, _, rfl, rfl, ?_⟩)⟩
    rw [decide_eq_true rfl]
    exact w


open PySem PySem.Spec PyProof.Rows L2 Vc
/-- what a class's own chain finds -/
theorem along_of {K : PySem.W.Frag} {G N : Addr} {nm q : Str} {bs tl : List Value} {hd : Bool} {sn : List Str} {sub : List Value} {ab : Bool} {col : Option Bool} {dd : Option Addr} {k0 k1 k2 k3 k5 : Option Value} {mk : String} {x : Str} {v : Option Value}
    (h : K.lookup G = some (excClassObj nm q G N bs tl hd sn sub ab col dd k0 k1 k2 k3 k5 mk)) (e : PySem.W.findIn K (.ref G) x = some v) : PySem.W.alongIn K x (.ref G :: tl) = some v := by
  unfold PySem.W.findIn at e
  dsimp only at e
  rw [h] at e
  exact e
/-! ### what the top has written; the law's own head -/
theorem dps_strs {K : PySem.W.Frag} (B : Hp) : ∀ l : List Str, DpAll K B (l.map V.str) (l.map PyData.str)
  | [] => .nil
  | z :: l => .cons (.str z) (dps_strs B l)
theorem exm_of {K : PySem.W.Frag} {S T : Addr} {r : Bool} (h1 : PySem.W.subIn K (.ref T) (.type "BaseException") = some true) (h2 : PySem.W.isClsIn K T = true) (h3 : PySem.W.typeIn K (.ref T) = some (.type "type")) (h4 : PySem.W.subIn K (.ref S) (.ref T) = some r) : PySem.W.exmOne K (.ref S) (.ref T) = some r := by
  show (if (PySem.W.subIn K (.ref T) (.type "BaseException") == some true) = true then (if ((PySem.W.clsIn K T).isSome && PySem.W.typeIn K (.ref T) == some (.type "type")) = true then PySem.W.subIn K (.ref S) (.ref T) else none) else none) = some r
  have q : (PySem.W.clsIn K T).isSome = true := h2
  have e1 : (PySem.W.subIn K (.ref T) (.type "BaseException") == some true) = true := by rw [h1]; rfl
  have e2 : ((PySem.W.clsIn K T).isSome && PySem.W.typeIn K (.ref T) == some (.type "type")) = true := by rw [q, h3]; rfl
  rw [if_pos e1, if_pos e2]
  exact h4
theorem all_mk {l : PySem.W.OpenLaw} {w : World} {K : PySem.W.Frag} {h : Heap} {mg : Str → Option Value} {fa f0 f1 f2 f3 f4 f5 f6 f7 f8 f9 f10 f11 f12 f13 f14 f15 f16 f17 f18 f19 f20 f21 f22 f23 f24 f25 f26 f27 f28 f29 f30 f31 f32 f33 f34 f35 f36 f37 f38 f39 f40 f41 f42 f43 f44 f45 f46 f47 f48 f49 : Addr} (X : K.In h) (G : h.Ns mainGlobals mg) (hfa : mg "law" = some (.ref fa))
    {od0 an0 od1 an1 od2 an2 od3 an3 od4 an4 od5 an5 od6 an6 od7 an7 od8 an8 od9 an9 od10 an10 od11 an11 od12 an12 od13 an13 od14 an14 od15 an15 od16 an16 od17 an17 od18 an18 od19 an19 od20 an20 od21 an21 od22 an22 od23 an23 od24 an24 od25 an25 od26 an26 od27 an27 od28 an28 od29 an29 od30 an30 od31 an31 od32 an32 od33 an33 od34 an34 od35 an35 od36 an36 od37 an37 od38 an38 od39 an39 od40 an40 od41 an41 od42 an42 od43 an43 od44 an44 od45 an45 od46 an46 od47 an47 od48 an48 od49 an49 : Option Addr} {sl0 sl1 sl2 sl3 sl4 sl5 sl6 sl7 sl8 sl9 sl10 sl11 sl12 sl13 sl14 sl15 sl16 sl17 sl18 sl19 sl20 sl21 sl22 sl23 sl24 sl25 sl26 sl27 sl28 sl29 sl30 sl31 sl32 sl33 sl34 sl35 sl36 sl37 sl38 sl39 sl40 sl41 sl42 sl43 sl44 sl45 sl46 sl47 sl48 sl49 : Array (Option Value)} {oc0 kV0 dc0 pm0 cd0 ct0 oc1 kV1 dc1 pm1 cd1 ct1 oc2 kV2 dc2 pm2 cd2 ct2 oc3 kV3 dc3 pm3 cd3 ct3 oc4 kV4 dc4 pm4 cd4 ct4 oc5 kV5 dc5 pm5 cd5 ct5 oc6 kV6 dc6 pm6 cd6 ct6 oc7 kV7 dc7 pm7 cd7 ct7 oc8 kV8 dc8 pm8 cd8 ct8 oc9 kV9 dc9 pm9 cd9 ct9 oc10 kV10 dc10 pm10 cd10 ct10 oc11 kV11 dc11 pm11 cd11 ct11 oc12 kV12 dc12 pm12 cd12 ct12 oc13 kV13 dc13 pm13 cd13 ct13 oc14 kV14 dc14 pm14 cd14 ct14 oc15 kV15 dc15 pm15 cd15 ct15 oc16 kV16 dc16 pm16 cd16 ct16 oc17 kV17 dc17 pm17 cd17 ct17 oc18 kV18 dc18 pm18 cd18 ct18 oc19 kV19 dc19 pm19 cd19 ct19 oc20 kV20 dc20 pm20 cd20 ct20 oc21 kV21 dc21 pm21 cd21 ct21 oc22 kV22 dc22 pm22 cd22 ct22 oc23 kV23 dc23 pm23 cd23 ct23 oc24 kV24 dc24 pm24 cd24 ct24 oc25 kV25 dc25 pm25 cd25 ct25 oc26 kV26 dc26 pm26 cd26 ct26 oc27 kV27 dc27 pm27 cd27 ct27 oc28 kV28 dc28 pm28 cd28 ct28 oc29 kV29 dc29 pm29 cd29 ct29 oc30 kV30 dc30 pm30 cd30 ct30 oc31 kV31 dc31 pm31 cd31 ct31 oc32 kV32 dc32 pm32 cd32 ct32 oc33 kV33 dc33 pm33 cd33 ct33 oc34 kV34 dc34 pm34 cd34 ct34 oc35 kV35 dc35 pm35 cd35 ct35 oc36 kV36 dc36 pm36 cd36 ct36 oc37 kV37 dc37 pm37 cd37 ct37 oc38 kV38 dc38 pm38 cd38 ct38 oc39 kV39 dc39 pm39 cd39 ct39 oc40 kV40 dc40 pm40 cd40 ct40 oc41 kV41 dc41 pm41 cd41 ct41 oc42 kV42 dc42 pm42 cd42 ct42 oc43 kV43 dc43 pm43 cd43 ct43 oc44 kV44 dc44 pm44 cd44 ct44 oc45 kV45 dc45 pm45 cd45 ct45 oc46 kV46 dc46 pm46 cd46 ct46 oc47 kV47 dc47 pm47 cd47 ct47 oc48 kV48 dc48 pm48 cd48 ct48 oc49 kV49 dc49 pm49 cd49 ct49 : Value}
    {CN : Addr} (aCN : PySem.W.nsIn K mainGlobals "BadNet" = some (some (.ref CN)))
    {CT : Addr} (aCT : PySem.W.nsIn K mainGlobals "BadText" = some (some (.ref CT)))
    {CA : Addr} (aCA : PySem.W.nsIn K mainGlobals "Row" = some (some (.ref CA)))
    (a0 : PySem.W.nsIn K mainGlobals "fraction" = some (some (.ref f0)))
    (l0 : K.lookup f0 = some ⟨oc0, od0, .func (PySem.W.fnOf "fraction" "fraction" (defArgs sFraction) (defBody sFraction) (defScope sFraction) .none kV0 dc0 pm0 an0 cd0 ct0), sl0⟩) (c0 : PySem.W.codeIn K cd0 "fraction" = true) (k0 : PySem.W.keepIn K (.ref f0) = true)
    (a1 : PySem.W.nsIn K mainGlobals "is_int" = some (some (.ref f1)))
    (l1 : K.lookup f1 = some ⟨oc1, od1, .func (PySem.W.fnOf "is_int" "is_int" (defArgs sIsInt) (defBody sIsInt) (defScope sIsInt) .none kV1 dc1 pm1 an1 cd1 ct1), sl1⟩) (c1 : PySem.W.codeIn K cd1 "is_int" = true) (k1 : PySem.W.keepIn K (.ref f1) = true)
    (a2 : PySem.W.nsIn K mainGlobals "check_net" = some (some (.ref f2)))
    (l2 : K.lookup f2 = some ⟨oc2, od2, .func (PySem.W.fnOf "check_net" "check_net" (defArgs sCheckNet) (defBody sCheckNet) (defScope sCheckNet) .none kV2 dc2 pm2 an2 cd2 ct2), sl2⟩) (c2 : PySem.W.codeIn K cd2 "check_net" = true) (k2 : PySem.W.keepIn K (.ref f2) = true)
    (a3 : PySem.W.nsIn K mainGlobals "check_many" = some (some (.ref f3)))
    (l3 : K.lookup f3 = some ⟨oc3, od3, .func (PySem.W.fnOf "check_many" "check_many" (defArgs sCheckMany) (defBody sCheckMany) (defScope sCheckMany) .none kV3 dc3 pm3 an3 cd3 ct3), sl3⟩) (c3 : PySem.W.codeIn K cd3 "check_many" = true) (k3 : PySem.W.keepIn K (.ref f3) = true)
    (a4 : PySem.W.nsIn K mainGlobals "is_tuple" = some (some (.ref f4)))
    (l4 : K.lookup f4 = some ⟨oc4, od4, .func (PySem.W.fnOf "is_tuple" "is_tuple" (defArgs sIsTuple) (defBody sIsTuple) (defScope sIsTuple) .none kV4 dc4 pm4 an4 cd4 ct4), sl4⟩) (c4 : PySem.W.codeIn K cd4 "is_tuple" = true) (k4 : PySem.W.keepIn K (.ref f4) = true)
    (a5 : PySem.W.nsIn K mainGlobals "is_whole_number" = some (some (.ref f5)))
    (l5 : K.lookup f5 = some ⟨oc5, od5, .func (PySem.W.fnOf "is_whole_number" "is_whole_number" (defArgs sIsWholeNumber) (defBody sIsWholeNumber) (defScope sIsWholeNumber) .none kV5 dc5 pm5 an5 cd5 ct5), sl5⟩) (c5 : PySem.W.codeIn K cd5 "is_whole_number" = true) (k5 : PySem.W.keepIn K (.ref f5) = true)
    (a6 : PySem.W.nsIn K mainGlobals "is_fraction" = some (some (.ref f6)))
    (l6 : K.lookup f6 = some ⟨oc6, od6, .func (PySem.W.fnOf "is_fraction" "is_fraction" (defArgs sIsFraction) (defBody sIsFraction) (defScope sIsFraction) .none kV6 dc6 pm6 an6 cd6 ct6), sl6⟩) (c6 : PySem.W.codeIn K cd6 "is_fraction" = true) (k6 : PySem.W.keepIn K (.ref f6) = true)
    (a7 : PySem.W.nsIn K mainGlobals "is_name" = some (some (.ref f7)))
    (l7 : K.lookup f7 = some ⟨oc7, od7, .func (PySem.W.fnOf "is_name" "is_name" (defArgs sIsName) (defBody sIsName) (defScope sIsName) .none kV7 dc7 pm7 an7 cd7 ct7), sl7⟩) (c7 : PySem.W.codeIn K cd7 "is_name" = true) (k7 : PySem.W.keepIn K (.ref f7) = true)
    (a8 : PySem.W.nsIn K mainGlobals "is_known" = some (some (.ref f8)))
    (l8 : K.lookup f8 = some ⟨oc8, od8, .func (PySem.W.fnOf "is_known" "is_known" (defArgs sIsKnown) (defBody sIsKnown) (defScope sIsKnown) .none kV8 dc8 pm8 an8 cd8 ct8), sl8⟩) (c8 : PySem.W.codeIn K cd8 "is_known" = true) (k8 : PySem.W.keepIn K (.ref f8) = true)
    (a9 : PySem.W.nsIn K mainGlobals "add_name" = some (some (.ref f9)))
    (l9 : K.lookup f9 = some ⟨oc9, od9, .func (PySem.W.fnOf "add_name" "add_name" (defArgs sAddName) (defBody sAddName) (defScope sAddName) .none kV9 dc9 pm9 an9 cd9 ct9), sl9⟩) (c9 : PySem.W.codeIn K cd9 "add_name" = true) (k9 : PySem.W.keepIn K (.ref f9) = true)
    (a10 : PySem.W.nsIn K mainGlobals "check_line" = some (some (.ref f10)))
    (l10 : K.lookup f10 = some ⟨oc10, od10, .func (PySem.W.fnOf "check_line" "check_line" (defArgs sCheckLine) (defBody sCheckLine) (defScope sCheckLine) .none kV10 dc10 pm10 an10 cd10 ct10), sl10⟩) (c10 : PySem.W.codeIn K cd10 "check_line" = true) (k10 : PySem.W.keepIn K (.ref f10) = true)
    (a11 : PySem.W.nsIn K mainGlobals "check_source" = some (some (.ref f11)))
    (l11 : K.lookup f11 = some ⟨oc11, od11, .func (PySem.W.fnOf "check_source" "check_source" (defArgs sCheckSource) (defBody sCheckSource) (defScope sCheckSource) .none kV11 dc11 pm11 an11 cd11 ct11), sl11⟩) (c11 : PySem.W.codeIn K cd11 "check_source" = true) (k11 : PySem.W.keepIn K (.ref f11) = true)
    (a12 : PySem.W.nsIn K mainGlobals "is_breaker" = some (some (.ref f12)))
    (l12 : K.lookup f12 = some ⟨oc12, od12, .func (PySem.W.fnOf "is_breaker" "is_breaker" (defArgs sIsBreaker) (defBody sIsBreaker) (defScope sIsBreaker) .none kV12 dc12 pm12 an12 cd12 ct12), sl12⟩) (c12 : PySem.W.codeIn K cd12 "is_breaker" = true) (k12 : PySem.W.keepIn K (.ref f12) = true)
    (a13 : PySem.W.nsIn K mainGlobals "is_ascending" = some (some (.ref f13)))
    (l13 : K.lookup f13 = some ⟨oc13, od13, .func (PySem.W.fnOf "is_ascending" "is_ascending" (defArgs sIsAscending) (defBody sIsAscending) (defScope sIsAscending) .none kV13 dc13 pm13 an13 cd13 ct13), sl13⟩) (c13 : PySem.W.codeIn K cd13 "is_ascending" = true) (k13 : PySem.W.keepIn K (.ref f13) = true)
    (a14 : PySem.W.nsIn K mainGlobals "check_guard" = some (some (.ref f14)))
    (l14 : K.lookup f14 = some ⟨oc14, od14, .func (PySem.W.fnOf "check_guard" "check_guard" (defArgs sCheckGuard) (defBody sCheckGuard) (defScope sCheckGuard) .none kV14 dc14 pm14 an14 cd14 ct14), sl14⟩) (c14 : PySem.W.codeIn K cd14 "check_guard" = true) (k14 : PySem.W.keepIn K (.ref f14) = true)
    (a15 : PySem.W.nsIn K mainGlobals "is_told" = some (some (.ref f15)))
    (l15 : K.lookup f15 = some ⟨oc15, od15, .func (PySem.W.fnOf "is_told" "is_told" (defArgs sIsTold) (defBody sIsTold) (defScope sIsTold) .none kV15 dc15 pm15 an15 cd15 ct15), sl15⟩) (c15 : PySem.W.codeIn K cd15 "is_told" = true) (k15 : PySem.W.keepIn K (.ref f15) = true)
    (a16 : PySem.W.nsIn K mainGlobals "is_bound" = some (some (.ref f16)))
    (l16 : K.lookup f16 = some ⟨oc16, od16, .func (PySem.W.fnOf "is_bound" "is_bound" (defArgs sIsBound) (defBody sIsBound) (defScope sIsBound) .none kV16 dc16 pm16 an16 cd16 ct16), sl16⟩) (c16 : PySem.W.codeIn K cd16 "is_bound" = true) (k16 : PySem.W.keepIn K (.ref f16) = true)
    (a17 : PySem.W.nsIn K mainGlobals "check_rules" = some (some (.ref f17)))
    (l17 : K.lookup f17 = some ⟨oc17, od17, .func (PySem.W.fnOf "check_rules" "check_rules" (defArgs sCheckRules) (defBody sCheckRules) (defScope sCheckRules) .none kV17 dc17 pm17 an17 cd17 ct17), sl17⟩) (c17 : PySem.W.codeIn K cd17 "check_rules" = true) (k17 : PySem.W.keepIn K (.ref f17) = true)
    (a18 : PySem.W.findIn K (.ref CA) "__init__" = some (some (.ref f18))) (i18 : PySem.W.isFn K (.ref f18) = true)
    (l18 : K.lookup f18 = some ⟨oc18, od18, .func (PySem.W.fnOf "__init__" "Row.__init__" (defArgs sRowInit) (defBody sRowInit) (defScope sRowInit) .none kV18 dc18 pm18 an18 cd18 ct18), sl18⟩) (c18 : PySem.W.codeIn K cd18 "Row.__init__" = true) (k18 : PySem.W.keepIn K (.ref f18) = true)
    (a19 : PySem.W.findIn K (.ref CA) "refuse" = some (some (.ref f19))) (i19 : PySem.W.isFn K (.ref f19) = true)
    (l19 : K.lookup f19 = some ⟨oc19, od19, .func (PySem.W.fnOf "refuse" "Row.refuse" (defArgs sRowRefuse) (defBody sRowRefuse) (defScope sRowRefuse) .none kV19 dc19 pm19 an19 cd19 ct19), sl19⟩) (c19 : PySem.W.codeIn K cd19 "Row.refuse" = true) (k19 : PySem.W.keepIn K (.ref f19) = true)
    (a20 : PySem.W.findIn K (.ref CA) "refuse_end" = some (some (.ref f20))) (i20 : PySem.W.isFn K (.ref f20) = true)
    (l20 : K.lookup f20 = some ⟨oc20, od20, .func (PySem.W.fnOf "refuse_end" "Row.refuse_end" (defArgs sRowRefuseEnd) (defBody sRowRefuseEnd) (defScope sRowRefuseEnd) .none kV20 dc20 pm20 an20 cd20 ct20), sl20⟩) (c20 : PySem.W.codeIn K cd20 "Row.refuse_end" = true) (k20 : PySem.W.keepIn K (.ref f20) = true)
    (a21 : PySem.W.findIn K (.ref CA) "is_over" = some (some (.ref f21))) (i21 : PySem.W.isFn K (.ref f21) = true)
    (l21 : K.lookup f21 = some ⟨oc21, od21, .func (PySem.W.fnOf "is_over" "Row.is_over" (defArgs sRowIsOver) (defBody sRowIsOver) (defScope sRowIsOver) .none kV21 dc21 pm21 an21 cd21 ct21), sl21⟩) (c21 : PySem.W.codeIn K cd21 "Row.is_over" = true) (k21 : PySem.W.keepIn K (.ref f21) = true)
    (a22 : PySem.W.findIn K (.ref CA) "begin" = some (some (.ref f22))) (i22 : PySem.W.isFn K (.ref f22) = true)
    (l22 : K.lookup f22 = some ⟨oc22, od22, .func (PySem.W.fnOf "begin" "Row.begin" (defArgs sRowBegin) (defBody sRowBegin) (defScope sRowBegin) .none kV22 dc22 pm22 an22 cd22 ct22), sl22⟩) (c22 : PySem.W.codeIn K cd22 "Row.begin" = true) (k22 : PySem.W.keepIn K (.ref f22) = true)
    (a23 : PySem.W.findIn K (.ref CA) "finish" = some (some (.ref f23))) (i23 : PySem.W.isFn K (.ref f23) = true)
    (l23 : K.lookup f23 = some ⟨oc23, od23, .func (PySem.W.fnOf "finish" "Row.finish" (defArgs sRowFinish) (defBody sRowFinish) (defScope sRowFinish) .none kV23 dc23 pm23 an23 cd23 ct23), sl23⟩) (c23 : PySem.W.codeIn K cd23 "Row.finish" = true) (k23 : PySem.W.keepIn K (.ref f23) = true)
    (a24 : PySem.W.findIn K (.ref CA) "finish_line" = some (some (.ref f24))) (i24 : PySem.W.isFn K (.ref f24) = true)
    (l24 : K.lookup f24 = some ⟨oc24, od24, .func (PySem.W.fnOf "finish_line" "Row.finish_line" (defArgs sRowFinishLine) (defBody sRowFinishLine) (defScope sRowFinishLine) .none kV24 dc24 pm24 an24 cd24 ct24), sl24⟩) (c24 : PySem.W.codeIn K cd24 "Row.finish_line" = true) (k24 : PySem.W.keepIn K (.ref f24) = true)
    (a25 : PySem.W.findIn K (.ref CA) "ahead" = some (some (.ref f25))) (i25 : PySem.W.isFn K (.ref f25) = true)
    (l25 : K.lookup f25 = some ⟨oc25, od25, .func (PySem.W.fnOf "ahead" "Row.ahead" (defArgs sRowAhead) (defBody sRowAhead) (defScope sRowAhead) .none kV25 dc25 pm25 an25 cd25 ct25), sl25⟩) (c25 : PySem.W.codeIn K cd25 "Row.ahead" = true) (k25 : PySem.W.keepIn K (.ref f25) = true)
    (a26 : PySem.W.findIn K (.ref CA) "read_word" = some (some (.ref f26))) (i26 : PySem.W.isFn K (.ref f26) = true)
    (l26 : K.lookup f26 = some ⟨oc26, od26, .func (PySem.W.fnOf "read_word" "Row.read_word" (defArgs sRowReadWord) (defBody sRowReadWord) (defScope sRowReadWord) .none kV26 dc26 pm26 an26 cd26 ct26), sl26⟩) (c26 : PySem.W.codeIn K cd26 "Row.read_word" = true) (k26 : PySem.W.keepIn K (.ref f26) = true)
    (a27 : PySem.W.findIn K (.ref CA) "bare_name" = some (some (.ref f27))) (i27 : PySem.W.isFn K (.ref f27) = true)
    (l27 : K.lookup f27 = some ⟨oc27, od27, .func (PySem.W.fnOf "bare_name" "Row.bare_name" (defArgs sRowBareName) (defBody sRowBareName) (defScope sRowBareName) .none kV27 dc27 pm27 an27 cd27 ct27), sl27⟩) (c27 : PySem.W.codeIn K cd27 "Row.bare_name" = true) (k27 : PySem.W.keepIn K (.ref f27) = true)
    (a28 : PySem.W.findIn K (.ref CA) "read_name" = some (some (.ref f28))) (i28 : PySem.W.isFn K (.ref f28) = true)
    (l28 : K.lookup f28 = some ⟨oc28, od28, .func (PySem.W.fnOf "read_name" "Row.read_name" (defArgs sRowReadName) (defBody sRowReadName) (defScope sRowReadName) .none kV28 dc28 pm28 an28 cd28 ct28), sl28⟩) (c28 : PySem.W.codeIn K cd28 "Row.read_name" = true) (k28 : PySem.W.keepIn K (.ref f28) = true)
    (a29 : PySem.W.findIn K (.ref CA) "bare_number" = some (some (.ref f29))) (i29 : PySem.W.isFn K (.ref f29) = true)
    (l29 : K.lookup f29 = some ⟨oc29, od29, .func (PySem.W.fnOf "bare_number" "Row.bare_number" (defArgs sRowBareNumber) (defBody sRowBareNumber) (defScope sRowBareNumber) .none kV29 dc29 pm29 an29 cd29 ct29), sl29⟩) (c29 : PySem.W.codeIn K cd29 "Row.bare_number" = true) (k29 : PySem.W.keepIn K (.ref f29) = true)
    (a30 : PySem.W.findIn K (.ref CA) "read_number" = some (some (.ref f30))) (i30 : PySem.W.isFn K (.ref f30) = true)
    (l30 : K.lookup f30 = some ⟨oc30, od30, .func (PySem.W.fnOf "read_number" "Row.read_number" (defArgs sRowReadNumber) (defBody sRowReadNumber) (defScope sRowReadNumber) .none kV30 dc30 pm30 an30 cd30 ct30), sl30⟩) (c30 : PySem.W.codeIn K cd30 "Row.read_number" = true) (k30 : PySem.W.keepIn K (.ref f30) = true)
    (a31 : PySem.W.findIn K (.ref CA) "read_fraction" = some (some (.ref f31))) (i31 : PySem.W.isFn K (.ref f31) = true)
    (l31 : K.lookup f31 = some ⟨oc31, od31, .func (PySem.W.fnOf "read_fraction" "Row.read_fraction" (defArgs sRowReadFraction) (defBody sRowReadFraction) (defScope sRowReadFraction) .none kV31 dc31 pm31 an31 cd31 ct31), sl31⟩) (c31 : PySem.W.codeIn K cd31 "Row.read_fraction" = true) (k31 : PySem.W.keepIn K (.ref f31) = true)
    (a32 : PySem.W.findIn K (.ref CA) "read_breaker" = some (some (.ref f32))) (i32 : PySem.W.isFn K (.ref f32) = true)
    (l32 : K.lookup f32 = some ⟨oc32, od32, .func (PySem.W.fnOf "read_breaker" "Row.read_breaker" (defArgs sRowReadBreaker) (defBody sRowReadBreaker) (defScope sRowReadBreaker) .none kV32 dc32 pm32 an32 cd32 ct32), sl32⟩) (c32 : PySem.W.codeIn K cd32 "Row.read_breaker" = true) (k32 : PySem.W.keepIn K (.ref f32) = true)
    (a33 : PySem.W.nsIn K mainGlobals "rows_of" = some (some (.ref f33)))
    (l33 : K.lookup f33 = some ⟨oc33, od33, .func (PySem.W.fnOf "rows_of" "rows_of" (defArgs sRowsOf) (defBody sRowsOf) (defScope sRowsOf) .none kV33 dc33 pm33 an33 cd33 ct33), sl33⟩) (c33 : PySem.W.codeIn K cd33 "rows_of" = true) (k33 : PySem.W.keepIn K (.ref f33) = true)
    (a34 : PySem.W.nsIn K mainGlobals "read_bus" = some (some (.ref f34)))
    (l34 : K.lookup f34 = some ⟨oc34, od34, .func (PySem.W.fnOf "read_bus" "read_bus" (defArgs sReadBus) (defBody sReadBus) (defScope sReadBus) .none kV34 dc34 pm34 an34 cd34 ct34), sl34⟩) (c34 : PySem.W.codeIn K cd34 "read_bus" = true) (k34 : PySem.W.keepIn K (.ref f34) = true)
    (a35 : PySem.W.nsIn K mainGlobals "read_line" = some (some (.ref f35)))
    (l35 : K.lookup f35 = some ⟨oc35, od35, .func (PySem.W.fnOf "read_line" "read_line" (defArgs sReadLine) (defBody sReadLine) (defScope sReadLine) .none kV35 dc35 pm35 an35 cd35 ct35), sl35⟩) (c35 : PySem.W.codeIn K cd35 "read_line" = true) (k35 : PySem.W.keepIn K (.ref f35) = true)
    (a36 : PySem.W.nsIn K mainGlobals "read_source" = some (some (.ref f36)))
    (l36 : K.lookup f36 = some ⟨oc36, od36, .func (PySem.W.fnOf "read_source" "read_source" (defArgs sReadSource) (defBody sReadSource) (defScope sReadSource) .none kV36 dc36 pm36 an36 cd36 ct36), sl36⟩) (c36 : PySem.W.codeIn K cd36 "read_source" = true) (k36 : PySem.W.keepIn K (.ref f36) = true)
    (a37 : PySem.W.nsIn K mainGlobals "read_error" = some (some (.ref f37)))
    (l37 : K.lookup f37 = some ⟨oc37, od37, .func (PySem.W.fnOf "read_error" "read_error" (defArgs sReadError) (defBody sReadError) (defScope sReadError) .none kV37 dc37 pm37 an37 cd37 ct37), sl37⟩) (c37 : PySem.W.codeIn K cd37 "read_error" = true) (k37 : PySem.W.keepIn K (.ref f37) = true)
    (a38 : PySem.W.nsIn K mainGlobals "read_times" = some (some (.ref f38)))
    (l38 : K.lookup f38 = some ⟨oc38, od38, .func (PySem.W.fnOf "read_times" "read_times" (defArgs sReadTimes) (defBody sReadTimes) (defScope sReadTimes) .none kV38 dc38 pm38 an38 cd38 ct38), sl38⟩) (c38 : PySem.W.codeIn K cd38 "read_times" = true) (k38 : PySem.W.keepIn K (.ref f38) = true)
    (a39 : PySem.W.nsIn K mainGlobals "read_ticks" = some (some (.ref f39)))
    (l39 : K.lookup f39 = some ⟨oc39, od39, .func (PySem.W.fnOf "read_ticks" "read_ticks" (defArgs sReadTicks) (defBody sReadTicks) (defScope sReadTicks) .none kV39 dc39 pm39 an39 cd39 ct39), sl39⟩) (c39 : PySem.W.codeIn K cd39 "read_ticks" = true) (k39 : PySem.W.keepIn K (.ref f39) = true)
    (a40 : PySem.W.nsIn K mainGlobals "read_guard" = some (some (.ref f40)))
    (l40 : K.lookup f40 = some ⟨oc40, od40, .func (PySem.W.fnOf "read_guard" "read_guard" (defArgs sReadGuard) (defBody sReadGuard) (defScope sReadGuard) .none kV40 dc40 pm40 an40 cd40 ct40), sl40⟩) (c40 : PySem.W.codeIn K cd40 "read_guard" = true) (k40 : PySem.W.keepIn K (.ref f40) = true)
    (a41 : PySem.W.nsIn K mainGlobals "read_told" = some (some (.ref f41)))
    (l41 : K.lookup f41 = some ⟨oc41, od41, .func (PySem.W.fnOf "read_told" "read_told" (defArgs sReadTold) (defBody sReadTold) (defScope sReadTold) .none kV41 dc41 pm41 an41 cd41 ct41), sl41⟩) (c41 : PySem.W.codeIn K cd41 "read_told" = true) (k41 : PySem.W.keepIn K (.ref f41) = true)
    (a42 : PySem.W.nsIn K mainGlobals "read_row" = some (some (.ref f42)))
    (l42 : K.lookup f42 = some ⟨oc42, od42, .func (PySem.W.fnOf "read_row" "read_row" (defArgs sReadRow) (defBody sReadRow) (defScope sReadRow) .none kV42 dc42 pm42 an42 cd42 ct42), sl42⟩) (c42 : PySem.W.codeIn K cd42 "read_row" = true) (k42 : PySem.W.keepIn K (.ref f42) = true)
    (a43 : PySem.W.nsIn K mainGlobals "read_net" = some (some (.ref f43)))
    (l43 : K.lookup f43 = some ⟨oc43, od43, .func (PySem.W.fnOf "read_net" "read_net" (defArgs sReadNet) (defBody sReadNet) (defScope sReadNet) .none kV43 dc43 pm43 an43 cd43 ct43), sl43⟩) (c43 : PySem.W.codeIn K cd43 "read_net" = true) (k43 : PySem.W.keepIn K (.ref f43) = true)
    (a44 : PySem.W.nsIn K mainGlobals "_law_cell_at" = some (some (.ref f44)))
    (l44 : K.lookup f44 = some ⟨oc44, od44, .func (PySem.W.fnOf "_law_cell_at" "_law_cell_at" (defArgs sLCellAt) (defBody sLCellAt) (defScope sLCellAt) .none kV44 dc44 pm44 an44 cd44 ct44), sl44⟩) (c44 : PySem.W.codeIn K cd44 "_law_cell_at" = true) (k44 : PySem.W.keepIn K (.ref f44) = true)
    (a45 : PySem.W.nsIn K mainGlobals "_law_draw" = some (some (.ref f45)))
    (l45 : K.lookup f45 = some ⟨oc45, od45, .func (PySem.W.fnOf "_law_draw" "_law_draw" (defArgs sLDraw) (defBody sLDraw) (defScope sLDraw) .none kV45 dc45 pm45 an45 cd45 ct45), sl45⟩) (c45 : PySem.W.codeIn K cd45 "_law_draw" = true) (k45 : PySem.W.keepIn K (.ref f45) = true)
    (a46 : PySem.W.nsIn K mainGlobals "_law_number" = some (some (.ref f46)))
    (l46 : K.lookup f46 = some ⟨oc46, od46, .func (PySem.W.fnOf "_law_number" "_law_number" (defArgs sLNumber) (defBody sLNumber) (defScope sLNumber) .none kV46 dc46 pm46 an46 cd46 ct46), sl46⟩) (c46 : PySem.W.codeIn K cd46 "_law_number" = true) (k46 : PySem.W.keepIn K (.ref f46) = true)
    (a47 : PySem.W.nsIn K mainGlobals "_law_next" = some (some (.ref f47)))
    (l47 : K.lookup f47 = some ⟨oc47, od47, .func (PySem.W.fnOf "_law_next" "_law_next" (defArgs sLNext) (defBody sLNext) (defScope sLNext) .none kV47 dc47 pm47 an47 cd47 ct47), sl47⟩) (c47 : PySem.W.codeIn K cd47 "_law_next" = true) (k47 : PySem.W.keepIn K (.ref f47) = true)
    (a48 : PySem.W.nsIn K mainGlobals "_law_place" = some (some (.ref f48)))
    (l48 : K.lookup f48 = some ⟨oc48, od48, .func (PySem.W.fnOf "_law_place" "_law_place" (defArgs sLPlace) (defBody sLPlace) (defScope sLPlace) .none kV48 dc48 pm48 an48 cd48 ct48), sl48⟩) (c48 : PySem.W.codeIn K cd48 "_law_place" = true) (k48 : PySem.W.keepIn K (.ref f48) = true)
    (a49 : PySem.W.nsIn K mainGlobals "law" = some (some (.ref f49)))
    (l49 : K.lookup f49 = some ⟨oc49, od49, .func (PySem.W.fnOf "law" "law" (defArgs sLaw) (defBody sLaw) (defScope sLaw) .none kV49 dc49 pm49 an49 cd49 ct49), sl49⟩) (c49 : PySem.W.codeIn K cd49 "law" = true) (k49 : PySem.W.keepIn K (.ref f49) = true)
    (z_isinstance : PySem.W.nsIn K mainGlobals "isinstance" = some none)
    (z_int : PySem.W.nsIn K mainGlobals "int" = some none)
    (z_bool : PySem.W.nsIn K mainGlobals "bool" = some none)
    (z_tuple : PySem.W.nsIn K mainGlobals "tuple" = some none)
    (z_len : PySem.W.nsIn K mainGlobals "len" = some none)
    (z_str : PySem.W.nsIn K mainGlobals "str" = some none)
    (z_all : PySem.W.nsIn K mainGlobals "all" = some none)
    (z_zip : PySem.W.nsIn K mainGlobals "zip" = some none)
    (z_sorted : PySem.W.nsIn K mainGlobals "sorted" = some none)
    (z_enumerate : PySem.W.nsIn K mainGlobals "enumerate" = some none)
    (z_range : PySem.W.nsIn K mainGlobals "range" = some none)
    (z_super : PySem.W.nsIn K mainGlobals "super" = some none)
    (z_gcd : PySem.W.nsIn K mainGlobals "gcd" = some (some (.builtin "math.gcd")))
    {tk_MOST_SIGNS : Tok} (z_MOST_SIGNS : PySem.W.nsIn K mainGlobals "MOST_SIGNS" = some (some (.int 8 tk_MOST_SIGNS)))
    {tk_MOST_NUMBER : Tok} (z_MOST_NUMBER : PySem.W.nsIn K mainGlobals "MOST_NUMBER" = some (some (.int 1000 tk_MOST_NUMBER)))
    {tk_MOST_AGE : Tok} (z_MOST_AGE : PySem.W.nsIn K mainGlobals "MOST_AGE" = some (some (.int 6 tk_MOST_AGE)))
    {tk_MOST_TICKS : Tok} (z_MOST_TICKS : PySem.W.nsIn K mainGlobals "MOST_TICKS" = some (some (.int 40 tk_MOST_TICKS)))
    {tk_MOST_DELAY : Tok} (z_MOST_DELAY : PySem.W.nsIn K mainGlobals "MOST_DELAY" = some (some (.int 20 tk_MOST_DELAY)))
    {tk_MOST_BUSES : Tok} (z_MOST_BUSES : PySem.W.nsIn K mainGlobals "MOST_BUSES" = some (some (.int 6 tk_MOST_BUSES)))
    {tk_MOST_LINES : Tok} (z_MOST_LINES : PySem.W.nsIn K mainGlobals "MOST_LINES" = some (some (.int 8 tk_MOST_LINES)))
    {tk_MOST_SOURCES : Tok} (z_MOST_SOURCES : PySem.W.nsIn K mainGlobals "MOST_SOURCES" = some (some (.int 3 tk_MOST_SOURCES)))
    {tk_MOST_GUARDS : Tok} (z_MOST_GUARDS : PySem.W.nsIn K mainGlobals "MOST_GUARDS" = some (some (.int 16 tk_MOST_GUARDS)))
    {tk_MOST_FIGURES : Tok} (z_MOST_FIGURES : PySem.W.nsIn K mainGlobals "MOST_FIGURES" = some (some (.int 4 tk_MOST_FIGURES)))
    {tk_LETTERS : Tok} (z_LETTERS : PySem.W.nsIn K mainGlobals "LETTERS" = some (some (.str lettersS tk_LETTERS)))
    {tk_SIGNS : Tok} (z_SIGNS : PySem.W.nsIn K mainGlobals "SIGNS" = some (some (.str signsS tk_SIGNS)))
    {tk_FIGURES : Tok} (z_FIGURES : PySem.W.nsIn K mainGlobals "FIGURES" = some (some (.str figsS tk_FIGURES)))
    {a_WORDS : Addr} {ob_WORDS : Obj} {it_WORDS : Array Value} {nn_WORDS : Nat} (z_WORDS : PySem.W.nsIn K mainGlobals "WORDS" = some (some (.ref a_WORDS))) (y_WORDS : K.lookup a_WORDS = some ob_WORDS) (w_WORDS : ob_WORDS.cls = .type "tuple") (v_WORDS : ob_WORDS.data = .seq it_WORDS nn_WORDS) (u_WORDS : it_WORDS.size ≤ sizeLine) (t_WORDS : L2.Vals (wordsS.map V.str) it_WORDS.toList)
    {a_ONCE : Addr} {ob_ONCE : Obj} {it_ONCE : Array Value} {nn_ONCE : Nat} (z_ONCE : PySem.W.nsIn K mainGlobals "ONCE" = some (some (.ref a_ONCE))) (y_ONCE : K.lookup a_ONCE = some ob_ONCE) (w_ONCE : ob_ONCE.cls = .type "tuple") (v_ONCE : ob_ONCE.data = .seq it_ONCE nn_ONCE) (u_ONCE : it_ONCE.size ≤ sizeLine) (t_ONCE : L2.Vals (onceR.map V.str) it_ONCE.toList)
    (top : (l.prog.main.scope.names.lookup ("super" : Str)).isSome = false)
    (op : PySem.W.nsIn K cStatics "thirdparty.any" = some none)
    {GN fNI : Addr} {nmN qN : Str} {NN : Addr} {bsN : List Value} {snN : List Str} {subN : List Value} {abN : Bool} {colN : Option Bool} {ddN : Option Addr} {k0N k1N k2N k3N k5N : Option Value}
    (xN : K.lookup CN = some (excClassObj nmN qN CN NN bsN [.ref GN, .type "Exception", .type "BaseException", .type "object"] true snN subN abN colN ddN k0N k1N k2N k3N k5N "Exception.__new__"))
    (saN : PySem.W.findIn K (.ref CN) "__setattr__" = some (some (.builtin "object.__setattr__")))
    (iN : PySem.W.findIn K (.ref CN) "__init__" = some (some (.ref fNI)))
    (tiN : PySem.W.typeIn K (.ref fNI) = some (.type "function"))
    (t1N : PySem.W.takerIn K CN "name" = some none)
    (t2N : PySem.W.takerIn K CN "why" = some none)
    {nmGN qGN : Str} {NGN : Addr} {bsGN : List Value} {hdGN : Bool} {snGN : List Str} {subGN : List Value} {abGN : Bool} {colGN : Option Bool} {ddGN : Option Addr} {k0GN k1GN k2GN k3GN k5GN : Option Value}
    (xGN : K.lookup GN = some (excClassObj nmGN qGN GN NGN bsGN [.type "Exception", .type "BaseException", .type "object"] hdGN snGN subGN abGN colGN ddGN k0GN k1GN k2GN k3GN k5GN "Exception.__new__"))
    (iGN : PySem.W.findIn K (.ref GN) "__init__" = some (some (.builtin "Exception.__init__")))
    (mEN : PySem.W.mroIn K CN (.type "Exception") = some true)
    (mCN : PySem.W.mroIn K CN (.ref CN) = some true)
    (kCN : PySem.W.keepIn K (.ref CN) = true)
    (eCN : PySem.W.subIn K (.ref CN) (.type "BaseException") = some true)
    (tyN : PySem.W.typeIn K (.ref CN) = some (.type "type"))
    (isN : PySem.W.isClsIn K CN = true)
    (seN : PySem.W.subIn K (.ref CN) (.ref CN) = some true)
    {ocN kVN docN pmN ctN cclN clN : Value} {odN anN cddN cldN : Option Addr} {oslN ccsN cslN : Array (Option Value)} {cdaN ccN : Addr} {vsN : Array Value} {fileN : Str} {tfN : Tok}
    (lN : K.lookup fNI = some ⟨ocN, odN, .func (PySem.W.ksFn "__init__" "BadNet.__init__" (defArgs sInit) (defBody sInit) (defScope sInit) .none kVN docN pmN anN (.ref cdaN) ctN ccN), oslN⟩)
    (cN : PySem.W.codeIn K (.ref cdaN) "BadNet.__init__" = true)
    (lcN : K.lookup cdaN = some ⟨cclN, cddN, .fields vsN, ccsN⟩)
    (fiN : vsN[2]? = some (.str fileN tfN))
    (eqN : ((l.prog.main.file : Str) == fileN) = true)
    (llN : K.lookup ccN = some ⟨clN, cldN, .cell (some (.ref CN)), cslN⟩)
    {GT fTI : Addr} {nmT qT : Str} {NT : Addr} {bsT : List Value} {snT : List Str} {subT : List Value} {abT : Bool} {colT : Option Bool} {ddT : Option Addr} {k0T k1T k2T k3T k5T : Option Value}
    (xT : K.lookup CT = some (excClassObj nmT qT CT NT bsT [.ref GT, .type "Exception", .type "BaseException", .type "object"] true snT subT abT colT ddT k0T k1T k2T k3T k5T "Exception.__new__"))
    (saT : PySem.W.findIn K (.ref CT) "__setattr__" = some (some (.builtin "object.__setattr__")))
    (iT : PySem.W.findIn K (.ref CT) "__init__" = some (some (.ref fTI)))
    (tiT : PySem.W.typeIn K (.ref fTI) = some (.type "function"))
    (t1T : PySem.W.takerIn K CT "line" = some none)
    (t2T : PySem.W.takerIn K CT "column" = some none)
    {nmGT qGT : Str} {NGT : Addr} {bsGT : List Value} {hdGT : Bool} {snGT : List Str} {subGT : List Value} {abGT : Bool} {colGT : Option Bool} {ddGT : Option Addr} {k0GT k1GT k2GT k3GT k5GT : Option Value}
    (xGT : K.lookup GT = some (excClassObj nmGT qGT GT NGT bsGT [.type "Exception", .type "BaseException", .type "object"] hdGT snGT subGT abGT colGT ddGT k0GT k1GT k2GT k3GT k5GT "Exception.__new__"))
    (iGT : PySem.W.findIn K (.ref GT) "__init__" = some (some (.builtin "Exception.__init__")))
    (mET : PySem.W.mroIn K CT (.type "Exception") = some true)
    (mCT : PySem.W.mroIn K CT (.ref CT) = some true)
    (kCT : PySem.W.keepIn K (.ref CT) = true)
    (eCT : PySem.W.subIn K (.ref CT) (.type "BaseException") = some true)
    (tyT : PySem.W.typeIn K (.ref CT) = some (.type "type"))
    (isT : PySem.W.isClsIn K CT = true)
    (seT : PySem.W.subIn K (.ref CT) (.ref CT) = some true)
    {ocT kVT docT pmT ctT cclT clT : Value} {odT anT cddT cldT : Option Addr} {oslT ccsT cslT : Array (Option Value)} {cdaT ccT : Addr} {vsT : Array Value} {fileT : Str} {tfT : Tok}
    (lT : K.lookup fTI = some ⟨ocT, odT, .func (PySem.W.ksFn "__init__" "BadText.__init__" (defArgs sInitB) (defBody sInitB) (defScope sInitB) .none kVT docT pmT anT (.ref cdaT) ctT ccT), oslT⟩)
    (cT : PySem.W.codeIn K (.ref cdaT) "BadText.__init__" = true)
    (lcT : K.lookup cdaT = some ⟨cclT, cddT, .fields vsT, ccsT⟩)
    (fiT : vsT[2]? = some (.str fileT tfT))
    (eqT : ((l.prog.main.file : Str) == fileT) = true)
    (llT : K.lookup ccT = some ⟨clT, cldT, .cell (some (.ref CT)), cslT⟩)
    (ntN : PySem.W.subIn K (.ref CN) (.ref CT) = some false)
    (gaT : PySem.W.findIn K (.ref CT) "__getattribute__" = some (some (.builtin "BaseException.__getattribute__")))
    (ggT : PySem.W.findIn K (.ref CT) "__getattr__" = some none)
    (hdT : PySem.W.hasDictIn K CT = true)
    (n1T : PySem.W.findIn K (.ref CT) "line" = some none)
    (n2T : PySem.W.findIn K (.ref CT) "column" = some none)
    (pgA : PySem.W.plainGet K CA Str.empty = true)
    (hdA : PySem.W.hasDictIn K CA = true)
    (poA : PySem.W.plainOver K CA = true)
    (saA : PySem.W.findIn K (.ref CA) "__setattr__" = some (some (.builtin "object.__setattr__")))
    (mkA : PySem.W.makesIn K CA = true)
    (kcA : PySem.W.keepIn K (.ref CA) = true)
    (nLA : PySem.W.findIn K (.ref CA) "line" = some none)
    (nTA : PySem.W.findIn K (.ref CA) "text" = some none)
    (nDA : PySem.W.findIn K (.ref CA) "done" = some none)
    {dR : Addr} {esR : Array DictEntry} {nR : Nat}
    (zR : PySem.W.nsIn K mainGlobals "READERS" = some (some (.ref dR)))
    (lR : K.lookup dR = some ⟨.type "dict", none, .dict esR nR, #[]⟩)
    (smR : (dR == sysModules) = false)
    (szR : esR.size = 7)
    (kyR : ∀ (i : Nat) z, keysR[i]? = some z → ∃ en t, esR[i]? = some en ∧ en.key = .str z t)
    (klR : PySem.W.KeysLit w.params esR.toList)
    (rd0 : PySem.W.nsIn K dR "bus" = some (some (.ref f34)))
    (rd1 : PySem.W.nsIn K dR "line" = some (some (.ref f35)))
    (rd2 : PySem.W.nsIn K dR "source" = some (some (.ref f36)))
    (rd3 : PySem.W.nsIn K dR "error" = some (some (.ref f37)))
    (rd4 : PySem.W.nsIn K dR "breaker" = some (some (.ref f38)))
    (rd5 : PySem.W.nsIn K dR "ticks" = some (some (.ref f39)))
    (rd6 : PySem.W.nsIn K dR "guard" = some (some (.ref f40)))
    : ∃ fd : FuncData, (∀ (s : Shared) (v : Value), BindsTo s fd ⟨[v], []⟩ [("script", v)]) ∧ ∀ base : Heap, K.In base → base.Ns mainGlobals mg → FnOk l.prog w K mg base CX0 11 fa fd ["script"] (DS K 1 (LawS 63)) := by
  have e := hfa.symm.trans (PySem.W.mg_of X G a49)
  cases e
  have m_CN := PySem.W.mg_of X G aCN
  have m_CT := PySem.W.mg_of X G aCT
  have m_CA := PySem.W.mg_of X G aCA
  have F_Fraction := fun_mk (st := sFraction) l0 c0 k0
  have b_Fraction := F_Fraction.binds (ps := ["above", "below"]) fun _ _ _ _ _ _ us hl => match us, hl with | [_, _], _ => rfl
  have m_Fraction := PySem.W.mg_of X G a0
  have F_IsInt := fun_mk (st := sIsInt) l1 c1 k1
  have b_IsInt := F_IsInt.binds (ps := ["thing"]) fun _ _ _ _ _ _ us hl => match us, hl with | [_], _ => rfl
  have m_IsInt := PySem.W.mg_of X G a1
  have F_CheckNet := fun_mk (st := sCheckNet) l2 c2 k2
  have b_CheckNet := F_CheckNet.binds (ps := ["net"]) fun _ _ _ _ _ _ us hl => match us, hl with | [_], _ => rfl
  have m_CheckNet := PySem.W.mg_of X G a2
  have F_CheckMany := fun_mk (st := sCheckMany) l3 c3 k3
  have b_CheckMany := F_CheckMany.binds (ps := ["kind", "things", "least", "most"]) fun _ _ _ _ _ _ us hl => match us, hl with | [_, _, _, _], _ => rfl
  have m_CheckMany := PySem.W.mg_of X G a3
  have F_IsTuple := fun_mk (st := sIsTuple) l4 c4 k4
  have b_IsTuple := F_IsTuple.binds (ps := ["thing", "size"]) fun _ _ _ _ _ _ us hl => match us, hl with | [_, _], _ => rfl
  have m_IsTuple := PySem.W.mg_of X G a4
  have F_IsWholeNumber := fun_mk (st := sIsWholeNumber) l5 c5 k5
  have b_IsWholeNumber := F_IsWholeNumber.binds (ps := ["thing", "least", "most"]) fun _ _ _ _ _ _ us hl => match us, hl with | [_, _, _], _ => rfl
  have m_IsWholeNumber := PySem.W.mg_of X G a5
  have F_IsFraction := fun_mk (st := sIsFraction) l6 c6 k6
  have b_IsFraction := F_IsFraction.binds (ps := ["thing"]) fun _ _ _ _ _ _ us hl => match us, hl with | [_], _ => rfl
  have m_IsFraction := PySem.W.mg_of X G a6
  have F_IsName := fun_mk (st := sIsName) l7 c7 k7
  have b_IsName := F_IsName.binds (ps := ["thing"]) fun _ _ _ _ _ _ us hl => match us, hl with | [_], _ => rfl
  have m_IsName := PySem.W.mg_of X G a7
  have F_IsKnown := fun_mk (st := sIsKnown) l8 c8 k8
  have m_IsKnown := PySem.W.mg_of X G a8
  have F_AddName := fun_mk (st := sAddName) l9 c9 k9
  have b_AddName := F_AddName.binds (ps := ["names", "thing", "kind"]) fun _ _ _ _ _ _ us hl => match us, hl with | [_, _, _], _ => rfl
  have m_AddName := PySem.W.mg_of X G a9
  have F_CheckLine := fun_mk (st := sCheckLine) l10 c10 k10
  have b_CheckLine := F_CheckLine.binds (ps := ["names", "line"]) fun _ _ _ _ _ _ us hl => match us, hl with | [_, _], _ => rfl
  have m_CheckLine := PySem.W.mg_of X G a10
  have F_CheckSource := fun_mk (st := sCheckSource) l11 c11 k11
  have b_CheckSource := F_CheckSource.binds (ps := ["names", "source"]) fun _ _ _ _ _ _ us hl => match us, hl with | [_, _], _ => rfl
  have m_CheckSource := PySem.W.mg_of X G a11
  have F_IsBreaker := fun_mk (st := sIsBreaker) l12 c12 k12
  have b_IsBreaker := F_IsBreaker.binds (ps := ["names", "thing"]) fun _ _ _ _ _ _ us hl => match us, hl with | [_, _], _ => rfl
  have m_IsBreaker := PySem.W.mg_of X G a12
  have F_IsAscending := fun_mk (st := sIsAscending) l13 c13 k13
  have b_IsAscending := F_IsAscending.binds (ps := ["things"]) fun _ _ _ _ _ _ us hl => match us, hl with | [_], _ => rfl
  have m_IsAscending := PySem.W.mg_of X G a13
  have F_CheckGuard := fun_mk (st := sCheckGuard) l14 c14 k14
  have b_CheckGuard := F_CheckGuard.binds (ps := ["names", "guard"]) fun _ _ _ _ _ _ us hl => match us, hl with | [_, _], _ => rfl
  have m_CheckGuard := PySem.W.mg_of X G a14
  have F_IsTold := fun_mk (st := sIsTold) l15 c15 k15
  have b_IsTold := F_IsTold.binds (ps := ["names", "thing"]) fun _ _ _ _ _ _ us hl => match us, hl with | [_, _], _ => rfl
  have m_IsTold := PySem.W.mg_of X G a15
  have F_IsBound := fun_mk (st := sIsBound) l16 c16 k16
  have b_IsBound := F_IsBound.binds (ps := ["thing"]) fun _ _ _ _ _ _ us hl => match us, hl with | [_], _ => rfl
  have m_IsBound := PySem.W.mg_of X G a16
  have F_CheckRules := fun_mk (st := sCheckRules) l17 c17 k17
  have b_CheckRules := F_CheckRules.binds (ps := ["rules"]) fun _ _ _ _ _ _ us hl => match us, hl with | [_], _ => rfl
  have m_CheckRules := PySem.W.mg_of X G a17
  have F_RowInit := fun_mk (st := sRowInit) l18 c18 k18
  have b_RowInit := F_RowInit.binds (ps := ["self", "line", "text"]) fun _ _ _ _ _ _ us hl => match us, hl with | [_, _, _], _ => rfl
  have m_RowInit : Meth K CA "__init__" f18 := ⟨a18, i18, k18⟩
  have F_RowRefuse := fun_mk (st := sRowRefuse) l19 c19 k19
  have b_RowRefuse := F_RowRefuse.binds (ps := ["self", "at"]) fun _ _ _ _ _ _ us hl => match us, hl with | [_, _], _ => rfl
  have m_RowRefuse : Meth K CA "refuse" f19 := ⟨a19, i19, k19⟩
  have F_RowRefuseEnd := fun_mk (st := sRowRefuseEnd) l20 c20 k20
  have b_RowRefuseEnd := F_RowRefuseEnd.binds (ps := ["self"]) fun _ _ _ _ _ _ us hl => match us, hl with | [_], _ => rfl
  have m_RowRefuseEnd : Meth K CA "refuse_end" f20 := ⟨a20, i20, k20⟩
  have F_RowIsOver := fun_mk (st := sRowIsOver) l21 c21 k21
  have b_RowIsOver := F_RowIsOver.binds (ps := ["self"]) fun _ _ _ _ _ _ us hl => match us, hl with | [_], _ => rfl
  have m_RowIsOver : Meth K CA "is_over" f21 := ⟨a21, i21, k21⟩
  have F_RowBegin := fun_mk (st := sRowBegin) l22 c22 k22
  have b_RowBegin := F_RowBegin.binds (ps := ["self"]) fun _ _ _ _ _ _ us hl => match us, hl with | [_], _ => rfl
  have m_RowBegin : Meth K CA "begin" f22 := ⟨a22, i22, k22⟩
  have F_RowFinish := fun_mk (st := sRowFinish) l23 c23 k23
  have b_RowFinish := F_RowFinish.binds (ps := ["self"]) fun _ _ _ _ _ _ us hl => match us, hl with | [_], _ => rfl
  have m_RowFinish : Meth K CA "finish" f23 := ⟨a23, i23, k23⟩
  have F_RowFinishLine := fun_mk (st := sRowFinishLine) l24 c24 k24
  have b_RowFinishLine := F_RowFinishLine.binds (ps := ["self"]) fun _ _ _ _ _ _ us hl => match us, hl with | [_], _ => rfl
  have m_RowFinishLine : Meth K CA "finish_line" f24 := ⟨a24, i24, k24⟩
  have F_RowAhead := fun_mk (st := sRowAhead) l25 c25 k25
  have b_RowAhead := F_RowAhead.binds (ps := ["self", "signs"]) fun _ _ _ _ _ _ us hl => match us, hl with | [_, _], _ => rfl
  have m_RowAhead : Meth K CA "ahead" f25 := ⟨a25, i25, k25⟩
  have F_RowReadWord := fun_mk (st := sRowReadWord) l26 c26 k26
  have b_RowReadWord := F_RowReadWord.binds (ps := ["self", "words"]) fun _ _ _ _ _ _ us hl => match us, hl with | [_, _], _ => rfl
  have m_RowReadWord : Meth K CA "read_word" f26 := ⟨a26, i26, k26⟩
  have F_RowBareName := fun_mk (st := sRowBareName) l27 c27 k27
  have b_RowBareName := F_RowBareName.binds (ps := ["self"]) fun _ _ _ _ _ _ us hl => match us, hl with | [_], _ => rfl
  have m_RowBareName : Meth K CA "bare_name" f27 := ⟨a27, i27, k27⟩
  have F_RowReadName := fun_mk (st := sRowReadName) l28 c28 k28
  have b_RowReadName := F_RowReadName.binds (ps := ["self"]) fun _ _ _ _ _ _ us hl => match us, hl with | [_], _ => rfl
  have m_RowReadName : Meth K CA "read_name" f28 := ⟨a28, i28, k28⟩
  have F_RowBareNumber := fun_mk (st := sRowBareNumber) l29 c29 k29
  have b_RowBareNumber := F_RowBareNumber.binds (ps := ["self", "least"]) fun _ _ _ _ _ _ us hl => match us, hl with | [_, _], _ => rfl
  have m_RowBareNumber : Meth K CA "bare_number" f29 := ⟨a29, i29, k29⟩
  have F_RowReadNumber := fun_mk (st := sRowReadNumber) l30 c30 k30
  have b_RowReadNumber := F_RowReadNumber.binds (ps := ["self"]) fun _ _ _ _ _ _ us hl => match us, hl with | [_], _ => rfl
  have m_RowReadNumber : Meth K CA "read_number" f30 := ⟨a30, i30, k30⟩
  have F_RowReadFraction := fun_mk (st := sRowReadFraction) l31 c31 k31
  have b_RowReadFraction := F_RowReadFraction.binds (ps := ["self"]) fun _ _ _ _ _ _ us hl => match us, hl with | [_], _ => rfl
  have m_RowReadFraction : Meth K CA "read_fraction" f31 := ⟨a31, i31, k31⟩
  have F_RowReadBreaker := fun_mk (st := sRowReadBreaker) l32 c32 k32
  have b_RowReadBreaker := F_RowReadBreaker.binds (ps := ["self", "lines"]) fun _ _ _ _ _ _ us hl => match us, hl with | [_, _], _ => rfl
  have m_RowReadBreaker : Meth K CA "read_breaker" f32 := ⟨a32, i32, k32⟩
  have F_RowsOf := fun_mk (st := sRowsOf) l33 c33 k33
  have b_RowsOf := F_RowsOf.binds (ps := ["text"]) fun _ _ _ _ _ _ us hl => match us, hl with | [_], _ => rfl
  have m_RowsOf := PySem.W.mg_of X G a33
  have F_ReadBus := fun_mk (st := sReadBus) l34 c34 k34
  have b_ReadBus := F_ReadBus.binds (ps := ["row", "lines"]) fun _ _ _ _ _ _ us hl => match us, hl with | [_, _], _ => rfl
  have m_ReadBus := PySem.W.mg_of X G a34
  have F_ReadLine := fun_mk (st := sReadLine) l35 c35 k35
  have b_ReadLine := F_ReadLine.binds (ps := ["row", "lines"]) fun _ _ _ _ _ _ us hl => match us, hl with | [_, _], _ => rfl
  have m_ReadLine := PySem.W.mg_of X G a35
  have F_ReadSource := fun_mk (st := sReadSource) l36 c36 k36
  have b_ReadSource := F_ReadSource.binds (ps := ["row", "lines"]) fun _ _ _ _ _ _ us hl => match us, hl with | [_, _], _ => rfl
  have m_ReadSource := PySem.W.mg_of X G a36
  have F_ReadError := fun_mk (st := sReadError) l37 c37 k37
  have b_ReadError := F_ReadError.binds (ps := ["row", "lines"]) fun _ _ _ _ _ _ us hl => match us, hl with | [_, _], _ => rfl
  have m_ReadError := PySem.W.mg_of X G a37
  have F_ReadTimes := fun_mk (st := sReadTimes) l38 c38 k38
  have b_ReadTimes := F_ReadTimes.binds (ps := ["row", "lines"]) fun _ _ _ _ _ _ us hl => match us, hl with | [_, _], _ => rfl
  have m_ReadTimes := PySem.W.mg_of X G a38
  have F_ReadTicks := fun_mk (st := sReadTicks) l39 c39 k39
  have b_ReadTicks := F_ReadTicks.binds (ps := ["row", "lines"]) fun _ _ _ _ _ _ us hl => match us, hl with | [_, _], _ => rfl
  have m_ReadTicks := PySem.W.mg_of X G a39
  have F_ReadGuard := fun_mk (st := sReadGuard) l40 c40 k40
  have b_ReadGuard := F_ReadGuard.binds (ps := ["row", "lines"]) fun _ _ _ _ _ _ us hl => match us, hl with | [_, _], _ => rfl
  have m_ReadGuard := PySem.W.mg_of X G a40
  have F_ReadTold := fun_mk (st := sReadTold) l41 c41 k41
  have b_ReadTold := F_ReadTold.binds (ps := ["row", "lines"]) fun _ _ _ _ _ _ us hl => match us, hl with | [_, _], _ => rfl
  have m_ReadTold := PySem.W.mg_of X G a41
  have F_ReadRow := fun_mk (st := sReadRow) l42 c42 k42
  have b_ReadRow := F_ReadRow.binds (ps := ["row", "told"]) fun _ _ _ _ _ _ us hl => match us, hl with | [_, _], _ => rfl
  have m_ReadRow := PySem.W.mg_of X G a42
  have F_ReadNet := fun_mk (st := sReadNet) l43 c43 k43
  have b_ReadNet := F_ReadNet.binds (ps := ["text"]) fun _ _ _ _ _ _ us hl => match us, hl with | [_], _ => rfl
  have m_ReadNet := PySem.W.mg_of X G a43
  have F_LCellAt := fun_mk (st := sLCellAt) l44 c44 k44
  have b_LCellAt := F_LCellAt.binds (ps := ["script", "k"]) fun _ _ _ _ _ _ us hl => match us, hl with | [_, _], _ => rfl
  have m_LCellAt := PySem.W.mg_of X G a44
  have F_LDraw := fun_mk (st := sLDraw) l45 c45 k45
  have b_LDraw := F_LDraw.binds (ps := ["cell", "k", "bound"]) fun _ _ _ _ _ _ us hl => match us, hl with | [_, _, _], _ => rfl
  have m_LDraw := PySem.W.mg_of X G a45
  have F_LNumber := fun_mk (st := sLNumber) l46 c46 k46
  have b_LNumber := F_LNumber.binds (ps := ["cell", "k", "bound"]) fun _ _ _ _ _ _ us hl => match us, hl with | [_, _, _], _ => rfl
  have m_LNumber := PySem.W.mg_of X G a46
  have F_LNext := fun_mk (st := sLNext) l47 c47 k47
  have b_LNext := F_LNext.binds (ps := ["draw", "bound"]) fun _ _ _ _ _ _ us hl => match us, hl with | [_, _], _ => rfl
  have m_LNext := PySem.W.mg_of X G a47
  have F_LPlace := fun_mk (st := sLPlace) l48 c48 k48
  have b_LPlace := F_LPlace.binds (ps := ["text"]) fun _ _ _ _ _ _ us hl => match us, hl with | [_], _ => rfl
  have m_LPlace := PySem.W.mg_of X G a48
  have F_Law := fun_mk (st := sLaw) l49 c49 k49
  have b_Law := F_Law.binds (ps := ["script"]) fun _ _ _ _ _ _ us hl => match us, hl with | [_], _ => rfl
  have m_Law := PySem.W.mg_of X G a49
  have n_isinstance := PySem.W.mg_none_of X G z_isinstance
  have n_int := PySem.W.mg_none_of X G z_int
  have n_bool := PySem.W.mg_none_of X G z_bool
  have n_tuple := PySem.W.mg_none_of X G z_tuple
  have n_len := PySem.W.mg_none_of X G z_len
  have n_str := PySem.W.mg_none_of X G z_str
  have n_all := PySem.W.mg_none_of X G z_all
  have n_zip := PySem.W.mg_none_of X G z_zip
  have n_sorted := PySem.W.mg_none_of X G z_sorted
  have n_enumerate := PySem.W.mg_none_of X G z_enumerate
  have n_range := PySem.W.mg_none_of X G z_range
  have n_super := PySem.W.mg_none_of X G z_super
  have n_gcd := PySem.W.mg_of X G z_gcd
  have n_MOST_SIGNS := PySem.W.mg_of X G z_MOST_SIGNS
  have n_MOST_NUMBER := PySem.W.mg_of X G z_MOST_NUMBER
  have n_MOST_AGE := PySem.W.mg_of X G z_MOST_AGE
  have n_MOST_TICKS := PySem.W.mg_of X G z_MOST_TICKS
  have n_MOST_DELAY := PySem.W.mg_of X G z_MOST_DELAY
  have n_MOST_BUSES := PySem.W.mg_of X G z_MOST_BUSES
  have n_MOST_LINES := PySem.W.mg_of X G z_MOST_LINES
  have n_MOST_SOURCES := PySem.W.mg_of X G z_MOST_SOURCES
  have n_MOST_GUARDS := PySem.W.mg_of X G z_MOST_GUARDS
  have n_MOST_FIGURES := PySem.W.mg_of X G z_MOST_FIGURES
  have n_LETTERS := PySem.W.mg_of X G z_LETTERS
  have n_SIGNS := PySem.W.mg_of X G z_SIGNS
  have n_FIGURES := PySem.W.mg_of X G z_FIGURES
  have n_WORDS := PySem.W.mg_of X G z_WORDS
  have d_WORDS : ∀ B, Dp K B (.ref a_WORDS) (.tuple (wordsS.map PyData.str)) := fun B => .tup (.inr ⟨ob_WORDS, it_WORDS, nn_WORDS, y_WORDS, w_WORDS, v_WORDS, u_WORDS, t_WORDS⟩) (dps_strs B wordsS)
  have n_ONCE := PySem.W.mg_of X G z_ONCE
  have d_ONCE : ∀ B, Dp K B (.ref a_ONCE) (.tuple (onceR.map PyData.str)) := fun B => .tup (.inr ⟨ob_ONCE, it_ONCE, nn_ONCE, y_ONCE, w_ONCE, v_ONCE, u_ONCE, t_ONCE⟩) (dps_strs B onceR)
  refine ⟨PySem.W.fnOf "law" "law" (defArgs sLaw) (defBody sLaw) (defScope sLaw) .none kV49 dc49 pm49 an49 cd49 ct49, fun s v => .of_eq rfl, fun base _ _ => ?_⟩
  let M : Md := ⟨l.prog, w, K, mg, base⟩
  have TN : NetTxt M.prog M.K M.mg CN GN fNI :=
    { gC := m_CN, cls := ⟨_, _, _, _, _, _, _, _, _, _, _, _, _, _, xN⟩, sa := saN, iC := iN, tI := tiN, t1 := t1N, t2 := t2N, al := along_of xGN iGN, mE := mEN, mC := mCN, op := op, kC := kCN, exC := eCN, tyC := tyN,
      te := exm_of eCN isN tyN seN, sup := n_super, top := top, fn := ⟨_, _, _, _, _, _, _, _, _, _, _, _, _, _, _, _, _, _, _, lN, cN, lcN, fiN, eqN, llN⟩ }
  have TT : NetTxtB M.prog M.K M.mg CT GT fTI :=
    { gC := m_CT, cls := ⟨_, _, _, _, _, _, _, _, _, _, _, _, _, _, xT⟩, sa := saT, iC := iT, tI := tiT, t1 := t1T, t2 := t2T, al := along_of xGT iGT, mE := mET, mC := mCT, op := op, kC := kCT, exC := eCT, tyC := tyT,
      te := exm_of eCT isT tyT seT, sup := n_super, top := top, fn := ⟨_, _, _, _, _, _, _, _, _, _, _, _, _, _, _, _, _, _, _, lT, cT, lcT, fiT, eqT, llT⟩ }
  have R : RowTxt M.K CA := ⟨⟨pgA, hdA, poA, saA⟩, nLA, nTA, nDA⟩
  have tI : FnD M 1 "is_int" 1 SIsIntA := fIsIntA n_isinstance n_int n_bool F_IsInt m_IsInt b_IsInt
  have tT : FnD M 1 "is_tuple" 2 SIsTupA := fIsTupA n_isinstance n_tuple n_len F_IsTuple m_IsTuple b_IsTuple
  have tW : FnD M 2 "is_whole_number" 3 SWholeA := fWholeA tI F_IsWholeNumber m_IsWholeNumber b_IsWholeNumber
  have tF : FnD M 2 "is_fraction" 1 (SOk1 fracD) := fFracA n_gcd tI tT F_IsFraction m_IsFraction b_IsFraction
  have tN : FnD M 1 "is_name" 1 (SOk1 nameD) := fNameA n_isinstance n_str n_len n_all n_MOST_SIGNS n_LETTERS n_SIGNS n_WORDS d_WORDS F_IsName m_IsName b_IsName
  have tK : FnV M 1 "is_known" 2 SKnown := fKnown n_isinstance n_str F_IsKnown m_IsKnown
  have tA : FnX M 2 "add_name" 3 (SAddN CN) := fAddN TN tN F_AddName m_AddName b_AddName
  have tB : FnD M 3 "is_bound" 1 (SOk1 boundD) := fBoundA n_MOST_NUMBER tF F_IsBound m_IsBound b_IsBound
  have tR : FnX M 2 "is_breaker" 2 (SBreaker breakerD) := fBreaker tT tI tK F_IsBreaker m_IsBreaker b_IsBreaker
  have tC : FnD M 1 "is_ascending" 1 SAsc := fAsc n_all n_zip F_IsAscending m_IsAscending b_IsAscending
  have tO : FnX M 4 "is_told" 2 (SBreaker toldD) := fTold n_isinstance n_tuple n_str n_len n_bool tK tR tB F_IsTold m_IsTold b_IsTold
  have tL : FnX M 3 "check_line" 2 (SCheckN CN lineN) := fLineN TN n_MOST_NUMBER tT tA tK tW F_CheckLine m_CheckLine b_CheckLine
  have tS : FnX M 3 "check_source" 2 (SCheckN CN sourceN) := fSourceN TN n_MOST_NUMBER tT tA tK tW F_CheckSource m_CheckSource b_CheckSource
  have tU : FnX M 3 "check_rules" 1 (SRules CN) := fRules TN n_MOST_NUMBER n_MOST_AGE n_MOST_TICKS tT tF tW F_CheckRules m_CheckRules b_CheckRules
  have tM : FnX M 1 "check_many" 4 (SMany CN) := fMany TN n_isinstance n_tuple n_len F_CheckMany m_CheckMany b_CheckMany
  have tG : FnX M 5 "check_guard" 2 (SCheckN CN guardN) := fGuardN TN n_isinstance n_tuple n_all n_MOST_DELAY tT tA tO tW tR tC F_CheckGuard m_CheckGuard b_CheckGuard
  have tQ : FnX M 6 "check_net" 1 (SNet CN) := fCheckNet TN n_MOST_BUSES n_MOST_LINES n_MOST_SOURCES n_MOST_GUARDS tT tM tA tL tS tG tU F_CheckNet m_CheckNet b_CheckNet
  have rR : FnMt M 1 CA "refuse" 2 (SRow CA CT fRefuse) := fRowRefuse R TT F_RowRefuse m_RowRefuse b_RowRefuse
  have rE : FnMt M 2 CA "refuse_end" 1 (SRow CA CT fun t _ _ => some (.error t.length)) := fRowRefuseEnd R n_len rR F_RowRefuseEnd m_RowRefuseEnd b_RowRefuseEnd
  have rO : FnMt M 1 CA "is_over" 1 (SRow CA CT fOver) := fRowIsOver R n_len F_RowIsOver m_RowIsOver b_RowIsOver
  have rB : FnMt M 3 CA "begin" 1 (SRow CA CT fun t d _ => some (mBegin t d)) := fRowBegin R rO rE F_RowBegin m_RowBegin b_RowBegin
  have rL : FnMt M 2 CA "finish_line" 1 (SRow CA CT fun t d _ => some (mFinLine t d)) := fRowFinishLine R rO rR F_RowFinishLine m_RowFinishLine b_RowFinishLine
  have rF : FnMt M 2 CA "finish" 1 (SRow CA CT fun t d _ => some (mFin t d)) := fRowFinish R rR F_RowFinish m_RowFinish b_RowFinish
  have rA : FnMt M 1 CA "ahead" 2 (SRow CA CT fAhead) := fRowAhead R n_len F_RowAhead m_RowAhead b_RowAhead
  have rW : FnMt M 4 CA "read_word" 2 (SRow CA CT fWord) := fRowReadWord R n_len n_SIGNS rB rA rR rF F_RowReadWord m_RowReadWord b_RowReadWord
  have rN : FnMt M 4 CA "bare_name" 1 (SRow CA CT fun t d _ => some (mBare t d)) := fRowBareName R n_len n_SIGNS rB rA rR tN F_RowBareName m_RowBareName b_RowBareName
  have rM : FnMt M 5 CA "read_name" 1 (SRow CA CT fun t d _ => some (mName t d)) := fRowReadName R rN rF F_RowReadName m_RowReadName b_RowReadName
  have tQu : FnD M 1 "fraction" 2 SFraction := fFraction n_gcd F_Fraction m_Fraction b_Fraction
  have rU : FnMt M 2 CA "bare_number" 2 (SRow CA CT fBareNum) := fRowBareNumber R n_len n_int n_FIGURES n_MOST_FIGURES n_MOST_NUMBER rA rR F_RowBareNumber m_RowBareNumber b_RowBareNumber
  have rV : FnMt M 4 CA "read_number" 1 (SRow CA CT fun t d _ => some (mNumber t d)) := fRowReadNumber R rB rU rF F_RowReadNumber m_RowReadNumber b_RowReadNumber
  have rQ : FnMt M 4 CA "read_fraction" 1 (SRow CA CT fun t d _ => some (mFraction t d)) := fRowReadFraction R rB rU rF tQu F_RowReadFraction m_RowReadFraction b_RowReadFraction
  have rK : FnMt M 5 CA "read_breaker" 2 (SRow CA CT fRBrk) := fRowReadBreaker R n_len n_int rN rF rR F_RowReadBreaker m_RowReadBreaker b_RowReadBreaker
  have pO := okRowsOf (M := M) R m_CA n_enumerate ⟨mkA, m_RowInit.at_, m_RowInit.fn, kcA⟩ F_RowInit b_RowInit F_RowsOf
  have q0 : FnX M 6 "read_bus" 2 (SRow CA CT (fRd fun t d _ => some (mName t d))) := fReadBus R rM F_ReadBus m_ReadBus b_ReadBus
  have q1 : FnX M 6 "read_line" 2 (SRow CA CT (fRd fun t d ls => some (mLine t d ls))) := fReadLine R rM rV F_ReadLine m_ReadLine b_ReadLine
  have q2 : FnX M 6 "read_source" 2 (SRow CA CT (fRd fun t d ls => some (mSource t d ls))) := fReadSource R rM rV F_ReadSource m_ReadSource b_ReadSource
  have q3 : FnX M 6 "read_error" 2 (SRow CA CT (fRd fun t d _ => some (mFraction t d))) := fReadError R rQ F_ReadError m_ReadError b_ReadError
  have q4 : FnX M 6 "read_times" 2 (SRow CA CT (fRd fun t d ls => some (mTimes t d ls))) := fReadTimes R rV F_ReadTimes m_ReadTimes b_ReadTimes
  have q5 : FnX M 6 "read_ticks" 2 (SRow CA CT (fRd fun t d _ => some (mNumber t d))) := fReadTicks R rV F_ReadTicks m_ReadTicks b_ReadTicks
  have qT : FnX M 6 "read_told" 2 (SRow CA CT (fRd fun t d ls => some (mTold t d ls))) := fReadTold R rW rM rK rQ F_ReadTold m_ReadTold b_ReadTold
  have q6 : FnX M 7 "read_guard" 2 (SRow CA CT (fRd mGuard)) := fReadGuard R n_sorted n_tuple rO rW rM rK rV qT F_ReadGuard m_ReadGuard b_ReadGuard
  have m_READERS := PySem.W.mg_of X G zR
  have kd : ∀ {z : Str} {a : Addr}, PySem.W.nsIn K dR z = some (some (.ref a)) → KDct M.K M.w dR z (.ref a) := fun e => ⟨esR, nR, _, lR, klR, e, rfl⟩
  have hKR : KKeys M.K dR keysR := ⟨⟨esR, nR, lR, smR, szR, kyR⟩⟩
  have RD : ∀ j z, keysR[j]? = some z → Rdr M CA CT dR z (mReader j) := fun j z h => by
    rcases seven (List.getElem?_eq_some_iff.mp h).1 with rfl | rfl | rfl | rfl | rfl | rfl | rfl <;> cases h
    · exact Rdr.of q0 m_ReadBus (kd rd0) (by decide)
    · exact Rdr.of q1 m_ReadLine (kd rd1) (by decide)
    · exact Rdr.of q2 m_ReadSource (kd rd2) (by decide)
    · exact Rdr.of q3 m_ReadError (kd rd3) (by decide)
    · exact Rdr.of q4 m_ReadTimes (kd rd4) (by decide)
    · exact Rdr.of q5 m_ReadTicks (kd rd5) (by decide)
    · exact Rdr.of q6 m_ReadGuard (kd rd6) (by decide)
  have qR : FnG M 8 "read_row" 2 7 (SReadRow CA CT) := fReadRow R rW rL m_READERS hKR n_ONCE d_ONCE RD F_ReadRow m_ReadRow b_ReadRow
  have qN : FnX M 9 "read_net" 1 (SReadNet CN CT) := fReadNet TT R n_isinstance n_str n_all n_tuple m_READERS hKR n_ONCE d_ONCE rO rE pO m_RowsOf F_RowsOf.kp b_RowsOf qR tQ F_ReadNet m_ReadNet b_ReadNet
  have lC : FnD M 1 "_law_cell_at" 2 SCell := fCell n_len F_LCellAt m_LCellAt b_LCellAt
  have lD : FnD M 1 "_law_draw" 3 SDraw := fDraw n_int F_LDraw m_LDraw b_LDraw
  have lN : FnD M 2 "_law_number" 3 SNumber := fNumber n_int n_range lD F_LNumber m_LNumber b_LNumber
  have lX : FnM M 3 "_law_next" 1 SNext := fNext n_int lC lN F_LNext m_LNext b_LNext
  have lP : FnX M 10 "_law_place" 1 SPlace := fPlace m_CT m_CN ⟨gaT, ggT, eCT, hdT⟩ n1T n2T (exm_of eCT isT tyT seT) (exm_of eCT isT tyT ntN) (exm_of eCN isN tyN seN) qN F_LPlace m_LPlace b_LPlace
  exact fLaw (M := M) lX lP F_Law
end K7
open PySem PySem.W PyProof.Rows
set_option maxHeartbeats 0 in
theorem PySem.Challenge.cw_justthepart_k07_wrong_texts_holds : PySem.Challenge.rw_justthepart_k07_wrong_texts.Holds := by
  w_on; o_law; k_head; (case hw => w_witness2)
  k_fill
  refine L2.walk_of (l := PySem.Challenge.rw_justthepart_k07_wrong_texts) (n := 63) (k := 11) (x := "script") (CX := fun _ => L2.CX0) (sp := fun w => Vc.DS _ 1 (Vc.LawS 63)) rfl (by decide) rfl ⟨rfl, by decide, by decide⟩ (fun w h Y => PySem.W.kIn_of Y) ?F (fun _ _ a ns hl _ hS => Vc.law_sp hl hS) (fun _ _ _ _ _ h => h)
  case F =>
    intro w mg fa h KX G hmg
    refine' K7.all_mk KX G hmg ?aCN ?aCT ?aCA ?a0 ?l0 ?c0 ?k0 ?a1 ?l1 ?c1 ?k1 ?a2 ?l2 ?c2 ?k2 ?a3 ?l3 ?c3 ?k3 ?a4 ?l4 ?c4 ?k4 ?a5 ?l5 ?c5 ?k5 ?a6 ?l6 ?c6 ?k6 ?a7 ?l7 ?c7 ?k7 ?a8 ?l8 ?c8 ?k8 ?a9 ?l9 ?c9 ?k9 ?a10 ?l10 ?c10 ?k10 ?a11 ?l11 ?c11 ?k11 ?a12 ?l12 ?c12 ?k12 ?a13 ?l13 ?c13 ?k13 ?a14 ?l14 ?c14 ?k14 ?a15 ?l15 ?c15 ?k15 ?a16 ?l16 ?c16 ?k16 ?a17 ?l17 ?c17 ?k17 ?a18 ?i18 ?l18 ?c18 ?k18 ?a19 ?i19 ?l19 ?c19 ?k19 ?a20 ?i20 ?l20 ?c20 ?k20 ?a21 ?i21 ?l21 ?c21 ?k21 ?a22 ?i22 ?l22 ?c22 ?k22 ?a23 ?i23 ?l23 ?c23 ?k23 ?a24 ?i24 ?l24 ?c24 ?k24 ?a25 ?i25 ?l25 ?c25 ?k25 ?a26 ?i26 ?l26 ?c26 ?k26 ?a27 ?i27 ?l27 ?c27 ?k27 ?a28 ?i28 ?l28 ?c28 ?k28 ?a29 ?i29 ?l29 ?c29 ?k29 ?a30 ?i30 ?l30 ?c30 ?k30 ?a31 ?i31 ?l31 ?c31 ?k31 ?a32 ?i32 ?l32 ?c32 ?k32 ?a33 ?l33 ?c33 ?k33 ?a34 ?l34 ?c34 ?k34 ?a35 ?l35 ?c35 ?k35 ?a36 ?l36 ?c36 ?k36 ?a37 ?l37 ?c37 ?k37 ?a38 ?l38 ?c38 ?k38 ?a39 ?l39 ?c39 ?k39 ?a40 ?l40 ?c40 ?k40 ?a41 ?l41 ?c41 ?k41 ?a42 ?l42 ?c42 ?k42 ?a43 ?l43 ?c43 ?k43 ?a44 ?l44 ?c44 ?k44 ?a45 ?l45 ?c45 ?k45 ?a46 ?l46 ?c46 ?k46 ?a47 ?l47 ?c47 ?k47 ?a48 ?l48 ?c48 ?k48 ?a49 ?l49 ?c49 ?k49 ?z_isinstance ?z_int ?z_bool ?z_tuple ?z_len ?z_str ?z_all ?z_zip ?z_sorted ?z_enumerate ?z_range ?z_super ?z_gcd ?z_MOST_SIGNS ?z_MOST_NUMBER ?z_MOST_AGE ?z_MOST_TICKS ?z_MOST_DELAY ?z_MOST_BUSES ?z_MOST_LINES ?z_MOST_SOURCES ?z_MOST_GUARDS ?z_MOST_FIGURES ?z_LETTERS ?z_SIGNS ?z_FIGURES ?z_WORDS ?y_WORDS ?w_WORDS ?v_WORDS ?u_WORDS ?t_WORDS ?z_ONCE ?y_ONCE ?w_ONCE ?v_ONCE ?u_ONCE ?t_ONCE ?top ?op ?xN ?saN ?iN ?tiN ?t1N ?t2N ?xGN ?iGN ?mEN ?mCN ?kCN ?eCN ?tyN ?isN ?seN ?lN ?cN ?lcN ?fiN ?eqN ?llN ?xT ?saT ?iT ?tiT ?t1T ?t2T ?xGT ?iGT ?mET ?mCT ?kCT ?eCT ?tyT ?isT ?seT ?lT ?cT ?lcT ?fiT ?eqT ?llT ?ntN ?gaT ?ggT ?hdT ?n1T ?n2T ?pgA ?hdA ?poA ?saA ?mkA ?kcA ?nLA ?nTA ?nDA ?zR ?lR ?smR ?szR ?kyR ?klR ?rd0 ?rd1 ?rd2 ?rd3 ?rd4 ?rd5 ?rd6
    (case aCN => k_is)
    (case aCT => k_is)
    (case aCA => k_is)
    (case a0 => k_is)
    (case l0 => k_is)
    (case c0 => k_is)
    (case k0 => k_is)
    (case a1 => k_is)
    (case l1 => k_is)
    (case c1 => k_is)
    (case k1 => k_is)
    (case a2 => k_is)
    (case l2 => k_is)
    (case c2 => k_is)
    (case k2 => k_is)
    (case a3 => k_is)
    (case l3 => k_is)
    (case c3 => k_is)
    (case k3 => k_is)
    (case a4 => k_is)
    (case l4 => k_is)
    (case c4 => k_is)
    (case k4 => k_is)
    (case a5 => k_is)
    (case l5 => k_is)
    (case c5 => k_is)
    (case k5 => k_is)
    (case a6 => k_is)
    (case l6 => k_is)
    (case c6 => k_is)
    (case k6 => k_is)
    (case a7 => k_is)
    (case l7 => k_is)
    (case c7 => k_is)
    (case k7 => k_is)
    (case a8 => k_is)
    (case l8 => k_is)
    (case c8 => k_is)
    (case k8 => k_is)
    (case a9 => k_is)
    (case l9 => k_is)
    (case c9 => k_is)
    (case k9 => k_is)
    (case a10 => k_is)
    (case l10 => k_is)
    (case c10 => k_is)
    (case k10 => k_is)
    (case a11 => k_is)
    (case l11 => k_is)
    (case c11 => k_is)
    (case k11 => k_is)
    (case a12 => k_is)
    (case l12 => k_is)
    (case c12 => k_is)
    (case k12 => k_is)
    (case a13 => k_is)
    (case l13 => k_is)
    (case c13 => k_is)
    (case k13 => k_is)
    (case a14 => k_is)
    (case l14 => k_is)
    (case c14 => k_is)
    (case k14 => k_is)
    (case a15 => k_is)
    (case l15 => k_is)
    (case c15 => k_is)
    (case k15 => k_is)
    (case a16 => k_is)
    (case l16 => k_is)
    (case c16 => k_is)
    (case k16 => k_is)
    (case a17 => k_is)
    (case l17 => k_is)
    (case c17 => k_is)
    (case k17 => k_is)
    (case a18 => k_is)
    (case i18 => k_is)
    (case l18 => k_is)
    (case c18 => k_is)
    (case k18 => k_is)
    (case a19 => k_is)
    (case i19 => k_is)
    (case l19 => k_is)
    (case c19 => k_is)
    (case k19 => k_is)
    (case a20 => k_is)
    (case i20 => k_is)
    (case l20 => k_is)
    (case c20 => k_is)
    (case k20 => k_is)
    (case a21 => k_is)
    (case i21 => k_is)
    (case l21 => k_is)
    (case c21 => k_is)
    (case k21 => k_is)
    (case a22 => k_is)
    (case i22 => k_is)
    (case l22 => k_is)
    (case c22 => k_is)
    (case k22 => k_is)
    (case a23 => k_is)
    (case i23 => k_is)
    (case l23 => k_is)
    (case c23 => k_is)
    (case k23 => k_is)
    (case a24 => k_is)
    (case i24 => k_is)
    (case l24 => k_is)
    (case c24 => k_is)
    (case k24 => k_is)
    (case a25 => k_is)
    (case i25 => k_is)
    (case l25 => k_is)
    (case c25 => k_is)
    (case k25 => k_is)
    (case a26 => k_is)
    (case i26 => k_is)
    (case l26 => k_is)
    (case c26 => k_is)
    (case k26 => k_is)
    (case a27 => k_is)
    (case i27 => k_is)
    (case l27 => k_is)
    (case c27 => k_is)
    (case k27 => k_is)
    (case a28 => k_is)
    (case i28 => k_is)
    (case l28 => k_is)
    (case c28 => k_is)
    (case k28 => k_is)
    (case a29 => k_is)
    (case i29 => k_is)
    (case l29 => k_is)
    (case c29 => k_is)
    (case k29 => k_is)
    (case a30 => k_is)
    (case i30 => k_is)
    (case l30 => k_is)
    (case c30 => k_is)
    (case k30 => k_is)
    (case a31 => k_is)
    (case i31 => k_is)
    (case l31 => k_is)
    (case c31 => k_is)
    (case k31 => k_is)
    (case a32 => k_is)
    (case i32 => k_is)
    (case l32 => k_is)
    (case c32 => k_is)
    (case k32 => k_is)
    (case a33 => k_is)
    (case l33 => k_is)
    (case c33 => k_is)
    (case k33 => k_is)
    (case a34 => k_is)
    (case l34 => k_is)
    (case c34 => k_is)
    (case k34 => k_is)
    (case a35 => k_is)
    (case l35 => k_is)
    (case c35 => k_is)
    (case k35 => k_is)
    (case a36 => k_is)
    (case l36 => k_is)
    (case c36 => k_is)
    (case k36 => k_is)
    (case a37 => k_is)
    (case l37 => k_is)
    (case c37 => k_is)
    (case k37 => k_is)
    (case a38 => k_is)
    (case l38 => k_is)
    (case c38 => k_is)
    (case k38 => k_is)
    (case a39 => k_is)
    (case l39 => k_is)
    (case c39 => k_is)
    (case k39 => k_is)
    (case a40 => k_is)
    (case l40 => k_is)
    (case c40 => k_is)
    (case k40 => k_is)
    (case a41 => k_is)
    (case l41 => k_is)
    (case c41 => k_is)
    (case k41 => k_is)
    (case a42 => k_is)
    (case l42 => k_is)
    (case c42 => k_is)
    (case k42 => k_is)
    (case a43 => k_is)
    (case l43 => k_is)
    (case c43 => k_is)
    (case k43 => k_is)
    (case a44 => k_is)
    (case l44 => k_is)
    (case c44 => k_is)
    (case k44 => k_is)
    (case a45 => k_is)
    (case l45 => k_is)
    (case c45 => k_is)
    (case k45 => k_is)
    (case a46 => k_is)
    (case l46 => k_is)
    (case c46 => k_is)
    (case k46 => k_is)
    (case a47 => k_is)
    (case l47 => k_is)
    (case c47 => k_is)
    (case k47 => k_is)
    (case a48 => k_is)
    (case l48 => k_is)
    (case c48 => k_is)
    (case k48 => k_is)
    (case a49 => k_is)
    (case l49 => k_is)
    (case c49 => k_is)
    (case k49 => k_is)
    (case z_isinstance => k_is)
    (case z_int => k_is)
    (case z_bool => k_is)
    (case z_tuple => k_is)
    (case z_len => k_is)
    (case z_str => k_is)
    (case z_all => k_is)
    (case z_zip => k_is)
    (case z_sorted => k_is)
    (case z_enumerate => k_is)
    (case z_range => k_is)
    (case z_super => k_is)
    (case z_gcd => k_is)
    (case z_MOST_SIGNS => k_is)
    (case z_MOST_NUMBER => k_is)
    (case z_MOST_AGE => k_is)
    (case z_MOST_TICKS => k_is)
    (case z_MOST_DELAY => k_is)
    (case z_MOST_BUSES => k_is)
    (case z_MOST_LINES => k_is)
    (case z_MOST_SOURCES => k_is)
    (case z_MOST_GUARDS => k_is)
    (case z_MOST_FIGURES => k_is)
    (case z_LETTERS => k_is)
    (case z_SIGNS => k_is)
    (case z_FIGURES => k_is)
    (case z_WORDS => k_is)
    (case y_WORDS => k_is)
    (case w_WORDS => rfl)
    (case v_WORDS => rfl)
    (case u_WORDS => decide)
    (case t_WORDS => repeat (first | exact .nil | refine .cons ⟨_, rfl⟩ ?_))
    (case z_ONCE => k_is)
    (case y_ONCE => k_is)
    (case w_ONCE => rfl)
    (case v_ONCE => rfl)
    (case u_ONCE => decide)
    (case t_ONCE => repeat (first | exact .nil | refine .cons ⟨_, rfl⟩ ?_))
    (case top => (first | rfl | decide +kernel))
    (case op => k_is)
    (case xN => k_is)
    (case saN => k_is)
    (case iN => k_is)
    (case tiN => k_is)
    (case t1N => k_is)
    (case t2N => k_is)
    (case xGN => k_is)
    (case iGN => k_is)
    (case mEN => k_is)
    (case mCN => k_is)
    (case kCN => k_is)
    (case eCN => k_is)
    (case tyN => k_is)
    (case isN => k_is)
    (case seN => k_is)
    (case lN => k_is)
    (case cN => k_is)
    (case lcN => k_is)
    (case fiN => rfl)
    (case eqN => (first | rfl | decide +kernel))
    (case llN => k_is)
    (case xT => k_is)
    (case saT => k_is)
    (case iT => k_is)
    (case tiT => k_is)
    (case t1T => k_is)
    (case t2T => k_is)
    (case xGT => k_is)
    (case iGT => k_is)
    (case mET => k_is)
    (case mCT => k_is)
    (case kCT => k_is)
    (case eCT => k_is)
    (case tyT => k_is)
    (case isT => k_is)
    (case seT => k_is)
    (case lT => k_is)
    (case cT => k_is)
    (case lcT => k_is)
    (case fiT => rfl)
    (case eqT => (first | rfl | decide +kernel))
    (case llT => k_is)
    (case ntN => k_is)
    (case gaT => k_is)
    (case ggT => k_is)
    (case hdT => k_is)
    (case n1T => k_is)
    (case n2T => k_is)
    (case pgA => k_is)
    (case hdA => k_is)
    (case poA => k_is)
    (case saA => k_is)
    (case mkA => k_is)
    (case kcA => k_is)
    (case nLA => k_is)
    (case nTA => k_is)
    (case nDA => k_is)
    (case zR => k_is)
    (case lR => k_is)
    (case smR => decide)
    (case szR => rfl)
    (case kyR => exact fun i z h => by rcases K7.seven (List.getElem?_eq_some_iff.mp h).1 with rfl | rfl | rfl | rfl | rfl | rfl | rfl <;> cases h <;> exact ⟨_, _, rfl, rfl⟩)
    (case klR => k_keys)
    (case rd0 => k_is)
    (case rd1 => k_is)
    (case rd2 => k_is)
    (case rd3 => k_is)
    (case rd4 => k_is)
    (case rd5 => k_is)
    (case rd6 => k_is)
