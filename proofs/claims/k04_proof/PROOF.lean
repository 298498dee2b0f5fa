import PyProof.Rows.All
import Wide.All
import OpenK.AllK
import Wide.FinOn
import HandS.ForMost
import HandS.Evl
import HandS.Wide
import HandS.NoneIn
import HandS.IsInst
import HandS.Gcd
import HandS.Deep
import HandS.Flow
import HandS.Style
import KE.KTupSum
import KE.KDictKeyed
import KE.KDictCopyH
import KE.KMathGC
import HandS.SetKeys
import HandS.More
import HandS.Conv
import PySem.Challenge.RW_justthepart_k04_whole_cells
set_option Elab.async false
set_option linter.all false
set_option maxRecDepth 100000
set_option maxHeartbeats 4000000
/-! Vc: a calculus of what is wanted behind a piece of a program, over data (own work). -/
namespace Vc
open PySem PySem.Spec PyProof.Rows L2
open Evl (Ex)

abbrev D := PyData
/-- what a room's own thing is: a list; a dict by whole numbers -/
inductive OD where
  | l (ds : List D)
  | di (es : List (Int × D))
  /-- a dict by tuples -/
  | dn (es : List (D × D))
instance : Coe (List D) OD := ⟨OD.l⟩
/-- what a slot holds: nothing known, data that nobody changes, a thing of its own -/
inductive Sl where
  | no
  | dat (d : D)
  | own (a : Addr) (o : OD)
abbrev En := List Sl
def Own (ρ : En) (a : Addr) : Prop := ∃ (i : Nat) (o : OD), ρ[i]? = some (Sl.own a o)

/-! ### data in a growing heap -/
theorem ex_l {K : PySem.W.Frag} {H H' : Hp} {a : Addr} {xs : List V} (e : Ex H H') (h : SqL K H a xs) : SqL K H' a xs := Evl.ex_l e h
theorem ex_t {K : PySem.W.Frag} {H H' : Hp} {a : Addr} {xs : List V} (e : Ex H H') (h : SqT K H a xs) : SqT K H' a xs := Evl.ex_t e h
mutual
theorem Dp.mono {K : PySem.W.Frag} {H H' : Hp} (e : Ex H H') : ∀ {v : V} {d : D}, Dp K H v d → Dp K H' v d
  | _, _, .non => .non
  | _, _, .bl b => .bl b
  | _, _, .int i => .int i
  | _, _, .str x => .str x
  | _, _, .lst h hs => .lst (ex_l e h) (DpAll.mono e hs)
  | _, _, .tup h hs => .tup (ex_t e h) (DpAll.mono e hs)
theorem DpAll.mono {K : PySem.W.Frag} {H H' : Hp} (e : Ex H H') : ∀ {vs : List V} {ds : List D}, DpAll K H vs ds → DpAll K H' vs ds
  | _, _, .nil => .nil
  | _, _, .cons h hs => .cons (Dp.mono e h) (DpAll.mono e hs)
end
theorem DpAll.len {K : PySem.W.Frag} {H : Hp} : ∀ {vs : List V} {ds : List D}, DpAll K H vs ds → vs.length = ds.length
  | _, _, .nil => rfl
  | _, _, .cons _ hs => congrArg (· + 1) (DpAll.len hs)
theorem DpAll.get {K : PySem.W.Frag} {H : Hp} : ∀ {vs : List V} {ds : List D} {i : Nat} {d : D}, DpAll K H vs ds → ds[i]? = some d → ∃ v, vs[i]? = some v ∧ Dp K H v d
  | _, _, _, _, .nil, h => by simp at h
  | _, _, 0, _, .cons (v := v) h _, e => ⟨v, rfl, by cases e; exact h⟩
  | _, _, i + 1, _, .cons _ hs, e => by
    obtain ⟨v, h1, h2⟩ := DpAll.get (i := i) hs (by simpa using e)
    exact ⟨v, by simpa using h1, h2⟩
theorem DpAll.getV {K : PySem.W.Frag} {H : Hp} : ∀ {vs : List V} {ds : List D} {i : Nat} {v : V}, DpAll K H vs ds → vs[i]? = some v → ∃ d, ds[i]? = some d ∧ Dp K H v d
  | _, _, _, _, .nil, h => by simp at h
  | _, _, 0, _, .cons (d := d) h _, e => ⟨d, rfl, by cases e; exact h⟩
  | _, _, i + 1, _, .cons _ hs, e => by
    obtain ⟨v, h1, h2⟩ := DpAll.getV (i := i) hs (by simpa using e)
    exact ⟨v, by simpa using h1, h2⟩
theorem DpAll.app {K : PySem.W.Frag} {H : Hp} : ∀ {vs ws : List V} {ds es : List D}, DpAll K H vs ds → DpAll K H ws es → DpAll K H (vs ++ ws) (ds ++ es)
  | _, _, _, _, .nil, h => h
  | _, _, _, _, .cons h hs, k => .cons h (DpAll.app hs k)
theorem DpAll.set {K : PySem.W.Frag} {H : Hp} {v : V} {d : D} (hd : Dp K H v d) : ∀ {vs : List V} {ds : List D} (i : Nat), DpAll K H vs ds → DpAll K H (vs.set i v) (ds.set i d)
  | _, _, _, .nil => .nil
  | _, _, 0, .cons _ hs => .cons hd hs
  | _, _, i + 1, .cons h hs => .cons h (DpAll.set hd i hs)
theorem DpAll.take {K : PySem.W.Frag} {H : Hp} : ∀ {vs : List V} {ds : List D} (n : Nat), DpAll K H vs ds → DpAll K H (vs.take n) (ds.take n)
  | _, _, 0, _ => .nil
  | _, _, _ + 1, .nil => .nil
  | _, _, n + 1, .cons h hs => .cons h (DpAll.take n hs)
theorem DpAll.drop {K : PySem.W.Frag} {H : Hp} : ∀ {vs : List V} {ds : List D} (n : Nat), DpAll K H vs ds → DpAll K H (vs.drop n) (ds.drop n)
  | _, _, 0, h => h
  | _, _, _ + 1, .nil => .nil
  | _, _, n + 1, .cons _ hs => DpAll.drop n hs
theorem dp_int {K : PySem.W.Frag} {H : Hp} {v : V} {i : Int} (h : Dp K H v (.int i)) : v = .int i := by cases h; rfl
theorem dp_bool {K : PySem.W.Frag} {H : Hp} {v : V} {b : Bool} (h : Dp K H v (.bool b)) : v = .bl b := by cases h; rfl
theorem dp_str {K : PySem.W.Frag} {H : Hp} {v : V} {x : Str} (h : Dp K H v (.str x)) : v = .str x := by cases h; rfl
theorem dp_tup {K : PySem.W.Frag} {H : Hp} {v : V} {ds : List D} (h : Dp K H v (.tuple ds)) : ∃ a xs, v = .ref a ∧ SqT K H a xs ∧ DpAll K H xs ds := by
  cases h with
  | tup h hs => exact ⟨_, _, rfl, h, hs⟩
theorem dp_lst {K : PySem.W.Frag} {H : Hp} {v : V} {ds : List D} (h : Dp K H v (.list ds)) : ∃ a xs, v = .ref a ∧ SqL K H a xs ∧ DpAll K H xs ds := by
  cases h with
  | lst h hs => exact ⟨_, _, rfl, h, hs⟩
theorem dp_ints {K : PySem.W.Frag} {H : Hp} : ∀ (ns : List Int), DpAll K H (ns.map V.int) (ns.map PyData.int)
  | [] => .nil
  | n :: r => .cons (.int n) (dp_ints r)

/-! ### what holds between the slots, the heap and what is known -/
/-- what stays through a whole law -/
structure Kw where
  K : PySem.W.Frag
  P : Program
  w : World
instance : CoeOut Kw PySem.W.Frag := ⟨Kw.K⟩
abbrev kwOf (X : Cx) : Kw := ⟨X.K, X.prog, X.w⟩
mutual
/-- data as a key -/
def nkD : D → NestedKey
  | .none => .none
  | .bool b => .num (if b = true then 1 else 0)
  | .int i => .num i
  | .str x => .text x
  | .tuple ds => .tup (nkDs ds)
  | .list _ => .none
  | .dict _ => .none
def nkDs : List D → List NestedKey
  | [] => []
  | d :: ds => nkD d :: nkDs ds
end
mutual
/-- data that may be a key -/
def kyD : D → Bool
  | .tuple ds => kyDs ds
  | .list _ => false
  | .dict _ => false
  | _ => true
def kyDs : List D → Bool
  | [] => true
  | d :: ds => kyD d && kyDs ds
end
/-- an entry: its key's data and value's data; the raw one -/
structure EntD (K : Kw) (B : Hp) (e : D × D) (x : NestedKey × Addr × Value) : Prop where
  key : x.1 = nkD e.1
  ky : kyD e.1 = true
  dp : (nkD e.1).depth ≤ 8
  adr : Dp K.K B (.ref x.2.1) e.1
  val : ∃ v, RelV v x.2.2 ∧ Dp K.K B v e.2
theorem EntD.mono {K : Kw} {B B' : Hp} (q : Ex B B') {e : D × D} {x : NestedKey × Addr × Value} (h : EntD K B e x) : EntD K B' e x := ⟨h.key, h.ky, h.dp, Dp.mono q h.adr, let ⟨v, h1, h2⟩ := h.val; ⟨v, h1, Dp.mono q h2⟩⟩
/-- the one object at a is a dict with these raw entries -/
def ndRaw (K : Kw) (a : Addr) (xs : List (NestedKey × Addr × Value)) (h : Heap) : Prop :=
  (a == sysModules) = false ∧ xs.length ≤ sizeLine ∧ ∃ o es ep, h.get? a = some o ∧ o.ExactDict ∧ o.data = .dict es ep ∧ es.toList = xs.map (entryOfKey (nestedKind K.P K.w)) ∧ (xs.map (·.1)).Nodup
def OD.is (K : Kw) (B : Hp) (a : Addr) (u : HO) : OD → Prop
  | .l ds => ∃ vs, u = .lst vs ∧ DpAll K.K B vs ds
  | .di es => ∃ vs, DpAll K.K B vs (es.map (·.2)) ∧ u = .dK (List.zipWith (fun e v => (Sum.inl e.1, v)) es vs)
  | .dn es => ∃ xs, u = .ext (ndRaw K a xs) ∧ Paired (EntD K B) es xs
theorem OD.mono {K : Kw} {B B' : Hp} {a : Addr} {u : HO} (e : Ex B B') : ∀ {o : OD}, o.is K B a u → o.is K B' a u
  | .l _, ⟨vs, h1, h2⟩ => ⟨vs, h1, DpAll.mono e h2⟩
  | .di _, ⟨vs, h1, h2⟩ => ⟨vs, DpAll.mono e h1, h2⟩
  | .dn _, ⟨xs, h1, h2⟩ => ⟨xs, h1, Paired.mapP h2 fun _ _ q => q.mono e⟩
structure Rel (K : Kw) (B H : Hp) (σ : L2.St) (ρ : En) : Prop where
  ex : Ex B H
  len : ρ.length = σ.length
  dat : ∀ (i : Nat) d, ρ[i]? = some (Sl.dat d) → ∃ v, σ[i]? = some (some v) ∧ Dp K B v d
  own : ∀ (i : Nat) a o, ρ[i]? = some (Sl.own a o) → σ[i]? = some (some (V.ref a)) ∧ B a = none ∧ ∃ u, H a = some u ∧ OD.is K B a u o
  dis : ∀ (i j : Nat) a ds es, ρ[i]? = some (Sl.own a ds) → ρ[j]? = some (Sl.own a es) → i = j
/-- from (B, H, ρ) to (B', H', ρ') -/
structure Go (B H : Hp) (ρ : En) (B' H' : Hp) (ρ' : En) : Prop where
  ex : Ex B B'
  keep : ∀ a o, H a = some o → ¬ Own ρ a → H' a = some o
  out : ∀ a, H a ≠ none → B a = none → ¬ Own ρ a → B' a = none
  own : ∀ a, Own ρ' a → Own ρ a ∨ H a = none
  dom : ∀ a, H' a = none → H a = none
theorem Go.refl {B H : Hp} {ρ : En} : Go B H ρ B H ρ := ⟨Evl.Ex.refl B, fun _ _ h _ => h, fun _ _ h _ => h, fun _ h => .inl h, fun _ h => h⟩
theorem Go.trans {B H B1 H1 B2 H2 : Hp} {ρ ρ1 ρ2 : En} (p : Go B H ρ B1 H1 ρ1) (q : Go B1 H1 ρ1 B2 H2 ρ2) : Go B H ρ B2 H2 ρ2 where
  ex := p.ex.trans q.ex
  keep := fun a o h n => q.keep a o (p.keep a o h n) fun z => (p.own a z).elim n fun e => by rw [e] at h; cases h
  out := fun a h b n => by
    obtain ⟨o, ho⟩ := Option.ne_none_iff_exists'.mp h
    refine q.out a ?_ (p.out a h b n) fun z => (p.own a z).elim n fun e => h e
    rw [p.keep a o ho n]
    exact fun z => by cases z
  own := fun a z => by
    rcases q.own a z with z | z
    · exact p.own a z
    · exact .inr (p.dom a z)
  dom := fun a z => p.dom a (q.dom a z)
/-- what is known grows, the heap grows, nothing else -/
theorem Rel.grow {K : Kw} {B H B' H' : Hp} {σ : L2.St} {ρ : En} (r : Rel K B H σ ρ) (eB : Ex B B') (e : Ex B' H') (eH : Ex H H') (out : ∀ a, H a ≠ none → B a = none → B' a = none) : Rel K B' H' σ ρ where
  ex := e
  len := r.len
  dat := fun i d h => let ⟨v, h1, h2⟩ := r.dat i d h; ⟨v, h1, Dp.mono eB h2⟩
  own := fun i a ds h => by
    obtain ⟨h1, h2, vs, h3, h4⟩ := r.own i a ds h
    exact ⟨h1, out a (by rw [h3]; exact fun z => by cases z) h2, vs, eH a _ h3, OD.mono eB h4⟩
  dis := r.dis
theorem Go.grow {B H B' H' : Hp} {ρ : En} (eB : Ex B B') (eH : Ex H H') (out : ∀ a, H a ≠ none → B a = none → B' a = none) : Go B H ρ B' H' ρ := ⟨eB, fun a o h _ => eH a o h, fun a h b _ => out a h b, fun _ z => .inl z, fun a z => by
  cases e : H a with
  | none => rfl
  | some u =>
    rw [eH a u e] at z
    cases z⟩
/-- a new object comes into the heap and into what is known -/
theorem new_both {K : Kw} {B H : Hp} {σ : L2.St} {ρ : En} {p : Addr} {o : HO} (r : Rel K B H σ ρ) (hp : H p = none) : Rel K (upd B p o) (upd H p o) σ ρ ∧ Go B H ρ (upd B p o) (upd H p o) ρ := by
  have bp : B p = none := by
    cases e : B p with
    | none => rfl
    | some u =>
      rw [r.ex p u e] at hp
      cases hp
  have eB : Ex B (upd B p o) := Evl.Ex.new bp
  have eH : Ex H (upd H p o) := Evl.Ex.new hp
  have out : ∀ a, H a ≠ none → B a = none → upd B p o a = none := fun a h b => by
    rw [upd_ne (fun z => h (by rw [z]; exact hp))]
    exact b
  refine ⟨r.grow eB (fun a u h => ?_) eH out, Go.grow eB eH out⟩
  by_cases z : a = p
  · rw [z, upd_same] at h ⊢
    exact h
  · rw [upd_ne z] at h ⊢
    exact r.ex a u h
/-- a new object comes into the heap alone -/
theorem new_one {K : Kw} {B H : Hp} {σ : L2.St} {ρ : En} {p : Addr} {o : HO} (r : Rel K B H σ ρ) (hp : H p = none) : Rel K B (upd H p o) σ ρ ∧ Go B H ρ B (upd H p o) ρ ∧ B p = none := by
  have bp : B p = none := by
    cases e : B p with
    | none => rfl
    | some u =>
      rw [r.ex p u e] at hp
      cases hp
  have eH : Ex H (upd H p o) := Evl.Ex.new hp
  exact ⟨r.grow (Evl.Ex.refl B) (r.ex.trans eH) eH (fun a _ b => b), Go.grow (Evl.Ex.refl B) eH (fun a _ b => b), bp⟩

/-! ### readings by themselves -/
def eSem (X : Cx) (e : Expr) : TE := fun σ H Q => ∀ pins s, Inv X pins σ H s → wpAny (model X.prog X.w) X.A (eval e X.env) (EP X pins σ Q) X.xe s
def bSem (X : Cx) (e : Expr) : TT := fun σ H Q => ∀ pins s, Inv X pins σ H s → wpAny (model X.prog X.w) X.A (isTrue e X.env (eval e X.env)) (TP X pins σ Q) X.xe s
def wSem (X : Cx) (e : Expr) : TT := fun σ H Q => ∀ whole pins s, Inv X pins σ H s → wpAny (model X.prog X.w) X.A (isTrue e X.env whole) (TP X pins σ Q) X.xe s
def aSem (X : Cx) (es : List Expr) : TA := fun σ H Q => ∀ pos pins s, Inv X pins σ H s → wpAny (model X.prog X.w) X.A (spliced (backTo pos (starEach es X.env))) (AP X pins σ Q) X.xe s
def sSem (X : Cx) (st : Stmt) : TS := fun Z σ H => ∀ pins s, Inv X pins σ H s → wpAny (model X.prog X.w) X.A (exec st X.env) (SP X pins Z) X.xe s
def ssSem (X : Cx) (st : List Stmt) : TS := fun Z σ H => ∀ pins s, Inv X pins σ H s → wpAny (model X.prog X.w) X.A (execs st X.env) (SP X pins Z) X.xe s
def gSem (X : Cx) (tg : Expr) : TG := fun v σ H Q => ∀ pins s u, Inv X pins σ H s → RelV v u → wpAny (model X.prog X.w) X.A (assign tg X.env u) (fun _ s' => ∃ σ' H', Inv X pins σ' H' s' ∧ Q σ' H') X.xe s
def gsSem (X : Cx) (ts : List Expr) : TGs := fun vs σ H Q => ∀ pins s us, Inv X pins σ H s → Vals vs us → wpAny (model X.prog X.w) X.A (assignInOrder ((assignEach ts X.env).map (·.2)) us) (fun _ s' => ∃ σ' H', Inv X pins σ' H' s' ∧ Q σ' H') X.xe s
section
variable {X : Cx} {e : Expr} {es : List Expr} {st : Stmt} {sts : List Stmt}
theorem pe_sem : PE X e (eSem X e) := ⟨fun pins s σ H Q I h => h pins s I⟩
theorem pb_sem : PT X e (bSem X e) := ⟨fun pins s σ H Q I h => h pins s I⟩
theorem pw_sem : PW X e (wSem X e) := ⟨fun wh pins s σ H Q I h => h wh pins s I⟩
theorem pa_sem : PA X es (aSem X es) := ⟨fun pos pins s σ H Q I h => h pos pins s I⟩
theorem ps_sem : PS X st (sSem X st) := ⟨fun pins s σ H Q I h => h pins s I⟩
theorem pss_sem : PSs X sts (ssSem X sts) := ⟨fun pins s σ H Q I h => h pins s I⟩
theorem pg_sem : PG X e (gSem X e) := ⟨fun pins s σ H v u Q I r h => h pins s u I r⟩
theorem pgs_sem : PGs X es (gsSem X es) := ⟨fun pins s σ H v u Q I r h => h pins s u I r⟩
theorem PE.sem {t : TE} (h : PE X e t) {σ : L2.St} {H : Hp} {Q : VK} (q : t σ H Q) : eSem X e σ H Q := fun pins s I => h.run pins s σ H Q I q
theorem PT.sem {t : TT} (h : PT X e t) {σ : L2.St} {H : Hp} {Q : Bool → Hp → Prop} (q : t σ H Q) : bSem X e σ H Q := fun pins s I => h.run pins s σ H Q I q
theorem PW.sem {t : TT} (h : PW X e t) {σ : L2.St} {H : Hp} {Q : Bool → Hp → Prop} (q : t σ H Q) : wSem X e σ H Q := fun wh pins s I => h.run wh pins s σ H Q I q
theorem PA.sem {t : TA} (h : PA X es t) {σ : L2.St} {H : Hp} {Q : List V → Hp → Prop} (q : t σ H Q) : aSem X es σ H Q := fun pos pins s I => h.run pos pins s σ H Q I q
theorem PS.sem {t : TS} (h : PS X st t) {σ : L2.St} {H : Hp} {Z : Ends} (q : t Z σ H) : sSem X st Z σ H := fun pins s I => h.run pins s σ H Z I q
theorem PSs.sem {t : TS} (h : PSs X sts t) {σ : L2.St} {H : Hp} {Z : Ends} (q : t Z σ H) : ssSem X sts Z σ H := fun pins s I => h.run pins s σ H Z I q
theorem PG.sem {t : TG} (h : PG X e t) {σ : L2.St} {H : Hp} {v : V} {Q : L2.St → Hp → Prop} (q : t v σ H Q) : gSem X e v σ H Q := fun pins s u I r => h.run pins s σ H v u Q I r q
theorem PGs.sem {t : TGs} (h : PGs X es t) {σ : L2.St} {H : Hp} {vs : List V} {Q : L2.St → Hp → Prop} (q : t vs σ H Q) : gsSem X es vs σ H Q := fun pins s u I r => h.run pins s σ H vs u Q I r q
end

/-! ### the judgements -/
/-- an expression's value, as data; what is behind it -/
structure VD (X : Cx) (e : Expr) (ρ : En) (P : D → En → Prop) : Prop where
  run : ∀ B H σ (Q : VK), Rel (kwOf X) B H σ ρ →
  (∀ v d B' H' ρ', P d ρ' → Dp X.K B' v d → Go B H ρ B' H' ρ' → Rel (kwOf X) B' H' σ ρ' → Q v H') → eSem X e σ H Q
/-- a list that was just made -/
structure VN (X : Cx) (e : Expr) (ρ : En) (P : List D → En → Prop) : Prop where
  run : ∀ B H σ (Q : VK), Rel (kwOf X) B H σ ρ →
  (∀ p vs ds B' H' ρ', P ds ρ' → H p = none → H' p = some (.lst vs) → B' p = none → ¬ Own ρ' p → DpAll X.K B' vs ds → Go B H ρ B' H' ρ' → Rel (kwOf X) B' H' σ ρ' → Q (.ref p) H') → eSem X e σ H Q
structure VT (X : Cx) (e : Expr) (ρ : En) (P : Bool → En → Prop) : Prop where
  run : ∀ B H σ (Q : Bool → Hp → Prop), Rel (kwOf X) B H σ ρ →
  (∀ b B' H' ρ', P b ρ' → Go B H ρ B' H' ρ' → Rel (kwOf X) B' H' σ ρ' → Q b H') → bSem X e σ H Q
structure VW (X : Cx) (e : Expr) (ρ : En) (P : Bool → En → Prop) : Prop where
  run : ∀ B H σ (Q : Bool → Hp → Prop), Rel (kwOf X) B H σ ρ →
  (∀ b B' H' ρ', P b ρ' → Go B H ρ B' H' ρ' → Rel (kwOf X) B' H' σ ρ' → Q b H') → wSem X e σ H Q
structure VA (X : Cx) (es : List Expr) (ρ : En) (P : List D → En → Prop) : Prop where
  run : ∀ B H σ (Q : List V → Hp → Prop), Rel (kwOf X) B H σ ρ →
  (∀ vs ds B' H' ρ', P ds ρ' → DpAll X.K B' vs ds → Go B H ρ B' H' ρ' → Rel (kwOf X) B' H' σ ρ' → Q vs H') → aSem X es σ H Q
/-- the ends of a block -/
structure Fin where
  nx : En → Prop
  rt : D → En → Prop
  bk : En → Prop := fun _ => False
  ct : En → Prop := fun _ => False
structure FinOk (K : Kw) (B H : Hp) (ρ : En) (F : Fin) (Z : Ends) : Prop where
  nx : ∀ B' H' σ' ρ', F.nx ρ' → Go B H ρ B' H' ρ' → Rel K B' H' σ' ρ' → Z.nx σ' H'
  rt : ∀ v d B' H' σ' ρ', F.rt d ρ' → Dp K B' v d → Go B H ρ B' H' ρ' → Rel K B' H' σ' ρ' → Z.rt v H'
  bk : ∀ B' H' σ' ρ', F.bk ρ' → Go B H ρ B' H' ρ' → Rel K B' H' σ' ρ' → Z.bk σ' H'
  ct : ∀ B' H' σ' ρ', F.ct ρ' → Go B H ρ B' H' ρ' → Rel K B' H' σ' ρ' → Z.ct σ' H'
structure VS (X : Cx) (st : Stmt) (ρ : En) (F : Fin) : Prop where
  run : ∀ B H σ (Z : Ends), Rel (kwOf X) B H σ ρ → FinOk (kwOf X) B H ρ F Z → sSem X st Z σ H
structure VSs (X : Cx) (sts : List Stmt) (ρ : En) (F : Fin) : Prop where
  run : ∀ B H σ (Z : Ends), Rel (kwOf X) B H σ ρ → FinOk (kwOf X) B H ρ F Z → ssSem X sts Z σ H
/-- data into a target -/
structure VG (X : Cx) (tg : Expr) (d : D) (ρ : En) (P : En → Prop) : Prop where
  run : ∀ v B H σ (Q : L2.St → Hp → Prop), Rel (kwOf X) B H σ ρ → Dp X.K B v d →
  (∀ B' H' σ' ρ', P ρ' → Go B H ρ B' H' ρ' → Rel (kwOf X) B' H' σ' ρ' → Q σ' H') → gSem X tg v σ H Q
structure VGs (X : Cx) (tg : List Expr) (ds : List D) (ρ : En) (P : En → Prop) : Prop where
  run : ∀ vs B H σ (Q : L2.St → Hp → Prop), Rel (kwOf X) B H σ ρ → DpAll X.K B vs ds →
  (∀ B' H' σ' ρ', P ρ' → Go B H ρ B' H' ρ' → Rel (kwOf X) B' H' σ' ρ' → Q σ' H') → gsSem X tg vs σ H Q

theorem FinOk.go {K : Kw} {B H B1 H1 : Hp} {ρ ρ1 : En} {F : Fin} {Z : Ends} (f : FinOk K B H ρ F Z) (g : Go B H ρ B1 H1 ρ1) : FinOk K B1 H1 ρ1 F Z where
  nx := fun B' H' σ' ρ' p q r => f.nx B' H' σ' ρ' p (g.trans q) r
  rt := fun v d B' H' σ' ρ' p h q r => f.rt v d B' H' σ' ρ' p h (g.trans q) r
  bk := fun B' H' σ' ρ' p q r => f.bk B' H' σ' ρ' p (g.trans q) r
  ct := fun B' H' σ' ρ' p q r => f.ct B' H' σ' ρ' p (g.trans q) r

/-! ### the context -/
inductive At {α : Type} : List α → Nat → α → Prop where
  | here {x : α} {l : List α} : At (x :: l) 0 x
  | there {x y : α} {l : List α} {i : Nat} : At l i x → At (y :: l) (i + 1) x
theorem At.get {α : Type} {l : List α} {i : Nat} {x : α} (h : At l i x) : l[i]? = some x := by
  induction h with
  | here => rfl
  | there _ ih => simpa using ih
theorem At.mem {α : Type} {l : List α} {i : Nat} {x : α} (h : At l i x) : x ∈ l := by
  induction h with
  | here => exact List.mem_cons_self
  | there _ ih => exact List.mem_cons_of_mem _ ih
/-- the program -/
structure Md where
  prog : Program
  w : World
  K : PySem.W.Frag
  mg : Str → Option Value
  base : Heap
abbrev kwM (M : Md) : Kw := ⟨M.K, M.prog, M.w⟩
def mdOf (X : Cx) : Md := ⟨X.prog, X.w, X.K, X.mg, X.base⟩
/-- a def's scope, its names by slot (seen in its body or not, stored there or not), its global names -/
structure Cst (X : Cx) (M : Md) (sc : Scope) (NK : List (Str × Bool × Bool)) (G : List Str) (k : Nat) : Prop where
  m : mdOf X = M
  s : X.env.scope = sc
  n : X.N = NK.map (·.1)
  vis : ∀ (i : Nat) x l, NK[i]? = some (x, true, l) → Vis X.env.scope x
  loc : ∀ (i : Nat) x v, NK[i]? = some (x, v, true) → L2.Loc X.env.scope x ∧ (X.fn x = true ∨ X.env.scope.names.lookup x = some .local)
  gl : ∀ x ∈ G, Gl X x
  nd : X.N.Nodup
  calm : X.calm = true
  room : Room k X.A
  xe : X.xe = fun _ _ => False
def kindOk (sc : Scope) (d : Bool) (q : Str × Bool × Bool) : Bool :=
  (!q.2.1 || (match sc.names.lookup q.1 with | some .local => true | some .cell => true | some .free => true | _ => false)) &&
  (!q.2.2 || (match sc.names.lookup q.1 with | some .local => true | some .cell => d | _ => false))
def chk (sc : Scope) (d : Bool) (NK : List (Str × Bool × Bool)) (G : List Str) : Bool :=
  NK.all (kindOk sc d) && G.all (fun x => match sc.names.lookup x with | some .globalImplicit => true | _ => false)
section
variable {X : Cx} {M : Md} {sc : Scope} {NK : List (Str × Bool × Bool)} {G : List Str} {k : Nat}
theorem chk_vis {sc : Scope} {d : Bool} (h : chk sc d NK G = true) (i : Nat) (x : Str) (l : Bool) (e : NK[i]? = some (x, true, l)) : Vis sc x := by
  unfold chk at h
  rw [Bool.and_eq_true, List.all_eq_true] at h
  have q := h.1 _ (List.mem_of_getElem? e)
  unfold kindOk at q
  rw [Bool.and_eq_true] at q
  have q1 := q.1
  simp only [Bool.not_true, Bool.false_or] at q1
  unfold Vis
  split at q1 <;> first
    | (rename_i e; exact .inl e)
    | (rename_i e; exact .inr (.inl e))
    | (rename_i e; exact .inr (.inr e))
    | cases q1
theorem chk_loc {sc : Scope} {d : Bool} (h : chk sc d NK G = true) (i : Nat) (x : Str) (v : Bool) (e : NK[i]? = some (x, v, true)) : L2.Loc sc x ∧ (d = true ∨ sc.names.lookup x = some .local) := by
  unfold chk at h
  rw [Bool.and_eq_true, List.all_eq_true] at h
  have q := h.1 _ (List.mem_of_getElem? e)
  unfold kindOk at q
  rw [Bool.and_eq_true] at q
  have q1 := q.2
  simp only [Bool.not_true, Bool.false_or] at q1
  unfold L2.Loc
  split at q1 <;> first
    | (rename_i e; exact ⟨.inl e, .inr e⟩)
    | (rename_i e; exact ⟨.inr e, .inl q1⟩)
    | cases q1
theorem chk_gl {sc : Scope} {d : Bool} (h : chk sc d NK G = true) (x : Str) (e : x ∈ G) : sc.names.lookup x = some .globalImplicit := by
  unfold chk at h
  rw [Bool.and_eq_true, List.all_eq_true, List.all_eq_true] at h
  have q := h.2 _ e
  split at q
  · assumption
  · cases q
theorem Cst.ix (C : Cst X M sc NK G k) {i : Nat} {x : Str} {v l : Bool} (h : At NK i (x, v, l)) : X.N[i]? = some x := by
  rw [C.n, List.getElem?_map, h.get]
  rfl
theorem Cst.vi (C : Cst X M sc NK G k) {i : Nat} {x : Str} {l : Bool} (h : At NK i (x, true, l)) : Vis X.env.scope x := C.vis i x l h.get
theorem Cst.lo (C : Cst X M sc NK G k) {i : Nat} {x : Str} {v : Bool} (h : At NK i (x, v, true)) : L2.Loc X.env.scope x := (C.loc i x v h.get).1
theorem Cst.fn (C : Cst X M sc NK G k) {i : Nat} {x : Str} {v : Bool} (h : At NK i (x, v, true)) : X.fn x = true ∨ X.env.scope.names.lookup x = some .local := (C.loc i x v h.get).2
theorem Cst.g (C : Cst X M sc NK G k) {i : Nat} {x : Str} (h : At G i x) : Gl X x := C.gl x h.mem
theorem Cst.hu (C : Cst X M sc NK G k) : X.A.units + 64 < cLine := C.room.units
theorem Cst.hu1 (C : Cst X M sc NK G k) : X.A.units + 65 < cLine := by
  have := C.room.un
  omega
theorem Cst.mg (C : Cst X M sc NK G k) {x : Str} {o : Option Value} (h : M.mg x = o) : X.mg x = o := by
  have e := C.m
  subst e
  exact h
theorem Cst.never (C : Cst X M sc NK G k) : PassesOwn (model X.prog X.w) X.A X.env X.xe := by
  rw [C.xe]
  exact PassesOwn.never
/-- a def's own body -/
theorem cst_def {P : Program} {w : World} {K : PySem.W.Frag} {mg : Str → Option Value} {base : Heap} {N : List Str} {qual : Str} {sc : Scope} {f : Addr} {cdv : Value} {A : Around} {outer : List Env} {s : Shared} {H : Hp} {E : XK}
    (hN : N = NK.map (·.1)) (nd : N.Nodup) (h : chk sc true NK G = true) (hr : Room k (A.deeper (envOfC qual sc s.heap.objs.size f cdv))) : Cst (cxOf CX0 P w K mg base N qual sc f cdv A outer s H E).nox ⟨P, w, K, mg, base⟩ sc NK G k where
  m := rfl
  s := rfl
  n := hN
  vis := chk_vis h
  loc := fun i x v e => ⟨(chk_loc h i x v e).1, .inl rfl⟩
  gl := fun x e => chk_gl h x e
  nd := nd
  calm := rfl
  room := hr
  xe := rfl
/-- a comprehension's block -/
theorem cst_blk {scope : Scope} {s : Shared} {H : Hp} {C : Addr} {cl : List (Str × Addr)} {fp : List Addr} {NK' : List (Str × Bool × Bool)} {G' : List Str} (c : Cst X M sc NK G k) 
    (hN : NK'.map (·.1) = NK.map (·.1)) (h : chk (relS scope sc) false NK' G' = true) : Cst (X.blk s H scope (compEnvC scope cl C X.env) fp) M (relS scope sc) NK' G' k where
  m := c.m
  s := by
    rw [← c.s]
    rfl
  n := c.n.trans hN.symm
  vis := fun i x l e => by
    have q := chk_vis h i x l e
    rw [← c.s] at q
    exact q
  loc := fun i x v e => by
    have q := chk_loc h i x v e
    rw [← c.s] at q
    refine ⟨q.1, .inr ?_⟩
    rcases q.2 with z | z
    · cases z
    · exact z
  gl := fun x e => by
    have q := chk_gl h x e
    rw [← c.s] at q
    exact q
  nd := c.nd
  calm := c.calm
  room := c.room
  xe := rfl
end

open PySem PySem.Spec PyProof.Rows L2
open Evl (Ex)

/-! ### operators on data -/
def binD : Operator → D → D → (D → Prop) → Prop
  | .Add, .int i, .int j, k => k (.int (i + j))
  | .Sub, .int i, .int j, k => k (.int (i - j))
  | .Sub, .bool p, .bool q, k => k (.int (PyProof.Rows.b2i p - PyProof.Rows.b2i q))
  | .Mult, .int i, .int j, k => CMulW i j ∧ k (.int (i * j))
  | .FloorDiv, .int i, .int j, k => CDivW i j ∧ k (.int (i / j))
  | .Mod, .int i, .int j, k => 0 < j ∧ k (.int (i % j))
  | .Pow, .int i, .int j, k => CPow i j ∧ k (.int (i ^ j.toNat))
  | .LShift, .int i, .int j, k => CPow i j ∧ k (.int (i * 2 ^ j.toNat))
  | _, _, _, _ => False
def unD : UnaryOp → D → (D → Prop) → Prop
  | .USub, .int i, k => k (.int (-i))
  | _, _, _ => False
def cmpD : CmpOp → D → D → (Bool → Prop) → Prop
  | .Lt, .int i, .int j, k => k (decide (i < j))
  | .LtE, .int i, .int j, k => k (decide (i ≤ j))
  | .Gt, .int i, .int j, k => k (decide (j < i))
  | .GtE, .int i, .int j, k => k (decide (j ≤ i))
  | .Eq, .int i, .int j, k => k (decide (i = j))
  | .NotEq, .int i, .int j, k => k (!decide (i = j))
  | .Eq, x, y, k => SeqAt.shaped x = true ∧ SeqAt.shaped y = true ∧ k (PyData.eqv x y)
  | .NotEq, x, y, k => SeqAt.shaped x = true ∧ SeqAt.shaped y = true ∧ k (!PyData.eqv x y)
  | .In, .int i, .tuple ys, k => ∃ js : List Int, ys = js.map PyData.int ∧ k (decide (i ∈ js))
  | .NotIn, .int i, .tuple ys, k => ∃ js : List Int, ys = js.map PyData.int ∧ k (!decide (i ∈ js))
  | .In, .int i, .list ys, k => ∃ js : List Int, ys = js.map PyData.int ∧ k (decide (i ∈ js))
  | .NotIn, .int i, .list ys, k => ∃ js : List Int, ys = js.map PyData.int ∧ k (!decide (i ∈ js))
  | .In, x, .list ys, k => SeqAt.shaped x = true ∧ SeqAt.shaped (.list ys) = true ∧ k (ys.any fun z => PyData.eqv z x)
  | .NotIn, x, .list ys, k => SeqAt.shaped x = true ∧ SeqAt.shaped (.list ys) = true ∧ k (!ys.any fun z => PyData.eqv z x)
  | _, _, _, _ => False
def ixD : D → D → (D → Prop) → Prop
  | .tuple ds, .int n, k => ∃ d, atI ds n = some d ∧ k d
  | .list ds, .int n, k => ∃ d, atI ds n = some d ∧ k d
  | _, _, _ => False
/-- a two-place step by itself -/
def oSem (X : Cx) (f : Value → Value → Sem Value) : R2 := fun x y H Q => ∀ pins s σ v u, Inv X pins σ H s → RelV x v → RelV y u → wpAny (model X.prog X.w) X.A (f v u) (EP X pins σ Q) X.xe s
theorem or_sem {X : Cx} {f : Value → Value → Sem Value} : OpR X f (oSem X f) := fun pins s σ H x y v u Q I rx ry h => h pins s σ v u I rx ry
theorem OpR.sem {X : Cx} {f : Value → Value → Sem Value} {r : R2} (h : OpR X f r) {x y : V} {H : Hp} {Q : VK} (q : r x y H Q) : oSem X f x y H Q := fun pins s σ v u I rx ry => h pins s σ H x y v u Q I rx ry q

section
variable {X : Cx} {M : Md} {sc : Scope} {NK : List (Str × Bool × Bool)} {G : List Str} {k : Nat} {ρ : En} {P : D → En → Prop} {PB : Bool → En → Prop} {PL : List D → En → Prop} {pos : Pos} {a b c e : Expr} {es rest : List Expr} {x : Str}

/-! ### names, constants -/
theorem vd_name (C : Cst X M sc NK G k) {i : Nat} {l : Bool} {d : D} (ha : At NK i (x, true, l)) (h : ρ[i]? = some (.dat d)) (p : P d ρ) (hd : (x == ("__debug__" : Str)) = false := by decide) (hcd : (x == ("__classdict__" : Str)) = false := by decide) : VD X (.Name x pos) ρ P := VD.mk fun B H σ Q r q => by
  obtain ⟨v, h1, h2⟩ := r.dat i d h
  exact PE.sem (pe_var (C.ix ha) (C.vi ha) hd hcd) ⟨v, h1, q v d B H ρ p h2 Go.refl r⟩
theorem vd_int {i : Int} {j : Nat} (p : P (.int i) ρ) : VD X (.Constant (.int i) j pos) ρ P := VD.mk fun B H σ Q r q => PE.sem pe_int (q _ _ B H ρ p (.int i) Go.refl r)
theorem vd_bool {i : Bool} {j : Nat} (p : P (.bool i) ρ) : VD X (.Constant (.bool i) j pos) ρ P := VD.mk fun B H σ Q r q => PE.sem pe_bl (q _ _ B H ρ p (.bl i) Go.refl r)
theorem vd_none {j : Nat} (p : P .none ρ) : VD X (.Constant .none j pos) ρ P := VD.mk fun B H σ Q r q => PE.sem pe_non (q _ _ B H ρ p .non Go.refl r)
theorem vd_str {z : Str} {j : Nat} (p : P (.str z) ρ) : VD X (.Constant (.str z) j pos) ρ P := VD.mk fun B H σ Q r q => PE.sem pe_str (q _ _ B H ρ p (.str z) Go.refl r)
theorem VD.imp {P' : D → En → Prop} (h : VD X e ρ P) (w : ∀ d ρ', P d ρ' → P' d ρ') : VD X e ρ P' := VD.mk fun B H σ Q r q => h.run B H σ Q r fun v d B' H' ρ' p => q v d B' H' ρ' (w d ρ' p)
theorem VN.imp {P' : List D → En → Prop} (h : VN X e ρ PL) (w : ∀ d ρ', PL d ρ' → P' d ρ') : VN X e ρ P' := VN.mk fun B H σ Q r q => h.run B H σ Q r fun p vs d B' H' ρ' pp => q p vs d B' H' ρ' (w d ρ' pp)

/-! ### operators -/
theorem op_bsub : OpR X (binaryOp .Sub) (fun x y H Q => ∃ p q, x = .bl p ∧ y = .bl q ∧ Q (.int (PyProof.Rows.b2i p - PyProof.Rows.b2i q)) H) := by
  intro pins s σ H x y v u Q I rx ry h
  obtain ⟨p, q, rfl, rfl, w⟩ := h
  cases rx
  cases ry
  exact PyProof.Rows.sub_bool ⟨.int _, H, I.tok _, ⟨_, rfl⟩, w⟩
theorem bin_ok {op : Operator} {x y : D} {vx vy : V} {B H : Hp} {σ : L2.St} {K : D → Prop} {Q : VK} (h : binD op x y K) (dx : Dp X.K B vx x) (dy : Dp X.K B vy y) (q : ∀ v d, K d → Dp X.K B v d → Q v H) : oSem X (binaryOp op) vx vy H Q := by
  unfold binD at h
  split at h <;> first
    | exact h.elim
    | (rw [dp_int dx, dp_int dy]; first
        | exact OpR.sem op_add ⟨_, _, rfl, rfl, q _ _ h (.int _)⟩
        | exact OpR.sem op_sub ⟨_, _, rfl, rfl, q _ _ h (.int _)⟩
        | exact OpR.sem op_mulW ⟨_, _, rfl, rfl, h.1, q _ _ h.2 (.int _)⟩
        | exact OpR.sem op_fdivW ⟨_, _, rfl, rfl, h.1, q _ _ h.2 (.int _)⟩
        | exact OpR.sem op_mod ⟨_, _, rfl, rfl, h.1, q _ _ h.2 (.int _)⟩
        | exact OpR.sem op_pow ⟨_, _, rfl, rfl, h.1, q _ _ h.2 (.int _)⟩
        | exact OpR.sem op_shl ⟨_, _, rfl, rfl, h.1, q _ _ h.2 (.int _)⟩)
    | (rw [dp_bool dx, dp_bool dy]; exact OpR.sem op_bsub ⟨_, _, rfl, rfl, q _ _ h (.int _)⟩)
theorem vd_bin {op : Operator} (h : VD X a ρ fun x ρ1 => VD X b ρ1 fun y ρ2 => binD op x y fun d => P d ρ2) : VD X (.BinOp a op b pos) ρ P := VD.mk fun B H σ Q r q => by
  refine PE.sem (pe_op or_sem pe_sem pe_sem) ?_
  refine h.run B H σ _ r fun vx x B1 H1 ρ1 p1 dx g1 r1 => ?_
  refine p1.run B1 H1 σ _ r1 fun vy y B2 H2 ρ2 p2 dy g2 r2 => ?_
  exact bin_ok (σ := σ) p2 (Dp.mono g2.ex dx) dy fun v d kd dv => q v d B2 H2 ρ2 kd dv (g1.trans g2) r2
theorem vd_neg (h : VD X a ρ fun x ρ1 => ∃ i, x = .int i ∧ P (.int (-i)) ρ1) : VD X (.UnaryOp .USub a pos) ρ P := VD.mk fun B H σ Q r q => by
  refine PE.sem (pe_un un_neg pe_sem) ?_
  refine h.run B H σ _ r fun vx x B1 H1 ρ1 p1 dx g1 r1 => ?_
  obtain ⟨i, rfl, p⟩ := p1
  exact ⟨i, dp_int dx, q _ _ B1 H1 ρ1 p (.int _) g1 r1⟩
theorem eqV_int {K : PySem.W.Frag} {B : Hp} {i : Int} : ∀ {js : List Int} {xs : List V}, DpAll K B xs (js.map PyData.int) → inV (.int i) xs = decide (i ∈ js) ∧ xs.all flatV = true
  | [], _, .nil => ⟨by unfold inV; simp, rfl⟩
  | j :: js, _, .cons (v := v) h hs => by
    obtain ⟨h1, h2⟩ := eqV_int (i := i) hs
    have hv := dp_int h
    subst hv
    refine ⟨?_, ?_⟩
    · unfold inV at h1 ⊢
      rw [List.any_cons, h1]
      by_cases e : j = i
      · subst e
        simp [eqV]
      · have e2 : ¬ i = j := fun z => e z.symm
        simp [eqV, e, e2]
    · rw [List.all_cons, h2]
      rfl
theorem cmp_ok (C : Cst X M sc NK G k) {op : CmpOp} {x y : D} {vx vy : V} {B H : Hp} (eB : Ex B H) {K : Bool → Prop} {Q : VK} (h : cmpD op x y K) (dx : Dp X.K B vx x) (dy : Dp X.K B vy y) (q : ∀ b, K b → Q (.bl b) H) : oSem X (compareOp op) vx vy H Q := by
  unfold cmpD at h
  split at h
  · rw [dp_int dx, dp_int dy]; exact OpR.sem op_lt ⟨_, _, rfl, rfl, q _ h⟩
  · rw [dp_int dx, dp_int dy]; exact OpR.sem op_le ⟨_, _, rfl, rfl, q _ h⟩
  · rw [dp_int dx, dp_int dy]; exact OpR.sem op_gt ⟨_, _, rfl, rfl, q _ h⟩
  · rw [dp_int dx, dp_int dy]; exact OpR.sem op_ge ⟨_, _, rfl, rfl, q _ h⟩
  · rename_i i j
    rw [dp_int dx, dp_int dy]
    refine OpR.sem op_eq ⟨rfl, ?_⟩
    have e : decide (V.int i = V.int j) = decide (i = j) := by
      by_cases z : i = j
      · rw [z, decide_eq_true rfl, decide_eq_true rfl]
      · rw [decide_eq_false z, decide_eq_false (fun w => z (V.int.inj w))]
    rw [e]
    exact q _ h
  · rename_i i j
    rw [dp_int dx, dp_int dy]
    refine OpR.sem op_ne ⟨rfl, ?_⟩
    have e : decide (V.int i = V.int j) = decide (i = j) := by
      by_cases z : i = j
      · rw [z, decide_eq_true rfl, decide_eq_true rfl]
      · rw [decide_eq_false z, decide_eq_false (fun w => z (V.int.inj w))]
    rw [e]
    exact q _ h
  · exact OpR.sem (op_eqD C.hu) ⟨_, _, Dp.mono eB dx, Dp.mono eB dy, h.1, h.2.1, q _ h.2.2⟩
  · exact OpR.sem (op_neD C.hu) ⟨_, _, Dp.mono eB dx, Dp.mono eB dy, h.1, h.2.1, q _ h.2.2⟩
  · obtain ⟨js, rfl, kk⟩ := h
    obtain ⟨t, xs, rfl, hT, hx⟩ := dp_tup dy
    obtain ⟨e1, e2⟩ := eqV_int (i := by assumption) hx
    rw [dp_int dx]
    refine OpR.sem op_in_seq ⟨t, xs, rfl, .inr (ex_t eB hT), rfl, e2, ?_⟩
    rw [if_neg Bool.false_ne_true, e1]
    exact q _ kk
  · obtain ⟨js, rfl, kk⟩ := h
    obtain ⟨t, xs, rfl, hT, hx⟩ := dp_tup dy
    obtain ⟨e1, e2⟩ := eqV_int (i := by assumption) hx
    rw [dp_int dx]
    refine OpR.sem op_notIn_seq ⟨t, xs, rfl, .inr (ex_t eB hT), rfl, e2, ?_⟩
    rw [if_pos rfl, e1]
    exact q _ kk
  · obtain ⟨js, rfl, kk⟩ := h
    obtain ⟨t, xs, rfl, hT, hx⟩ := dp_lst dy
    obtain ⟨e1, e2⟩ := eqV_int (i := by assumption) hx
    rw [dp_int dx]
    refine OpR.sem op_in_seq ⟨t, xs, rfl, .inl (ex_l eB hT), rfl, e2, ?_⟩
    rw [if_neg Bool.false_ne_true, e1]
    exact q _ kk
  · obtain ⟨js, rfl, kk⟩ := h
    obtain ⟨t, xs, rfl, hT, hx⟩ := dp_lst dy
    obtain ⟨e1, e2⟩ := eqV_int (i := by assumption) hx
    rw [dp_int dx]
    refine OpR.sem op_notIn_seq ⟨t, xs, rfl, .inl (ex_l eB hT), rfl, e2, ?_⟩
    rw [if_pos rfl, e1]
    exact q _ kk
  · exact OpR.sem (op_inD C.hu1) ⟨_, _, Dp.mono eB dx, Dp.mono eB dy, h.1, h.2.1, q _ h.2.2⟩
  · exact OpR.sem (op_notInD C.hu1) ⟨_, _, Dp.mono eB dx, Dp.mono eB dy, h.1, h.2.1, q _ h.2.2⟩
  · exact h.elim
theorem vd_cmp (C : Cst X M sc NK G k) {op : CmpOp} (h : VD X a ρ fun x ρ1 => VD X b ρ1 fun y ρ2 => cmpD op x y fun bb => P (.bool bb) ρ2) (hm : behindInMarks op b = false := by first | exact nobehind _ (by decide) (by decide) | rfl) : VD X (.Compare a [op] [b] pos) ρ P := VD.mk fun B H σ Q r q => by
  refine PE.sem (pe_cmpR or_sem pe_sem pe_sem hm) ?_
  refine h.run B H σ _ r fun vx x B1 H1 ρ1 p1 dx g1 r1 => ?_
  refine p1.run B1 H1 σ _ r1 fun vy y B2 H2 ρ2 p2 dy g2 r2 => ?_
  exact cmp_ok C r2.ex p2 (Dp.mono g2.ex dx) dy fun bb kb => q _ _ B2 H2 ρ2 kb (.bl bb) (g1.trans g2) r2

/-! ### tests -/
theorem vt_cmp (C : Cst X M sc NK G k) {op : CmpOp} (h : VD X a ρ fun x ρ1 => VD X b ρ1 fun y ρ2 => cmpD op x y fun bb => PB bb ρ2) (hm : behindInMarks op b = false := by first | exact nobehind _ (by decide) (by decide) | rfl) : VT X (.Compare a [op] [b] pos) ρ PB := VT.mk fun B H σ Q r q => by
  refine PT.sem (pt_cmpR or_sem pe_sem pe_sem hm) ?_
  refine h.run B H σ _ r fun vx x B1 H1 ρ1 p1 dx g1 r1 => ?_
  refine p1.run B1 H1 σ _ r1 fun vy y B2 H2 ρ2 p2 dy g2 r2 => ?_
  exact cmp_ok C r2.ex p2 (Dp.mono g2.ex dx) dy fun bb kb => ⟨bb, rfl, q bb B2 H2 ρ2 kb (g1.trans g2) r2⟩
theorem vt_val (h : VD X e ρ fun d ρ1 => ∃ bb, d = .bool bb ∧ PB bb ρ1) (he : ∀ whole, isTrue e X.env whole = (do let v ← whole; standAt e.pos; holding [v] (truthy v)) := by intro _; rfl) : VT X e ρ PB := VT.mk fun B H σ Q r q => by
  refine PT.sem (pt_val pe_sem he) ?_
  refine h.run B H σ _ r fun v d B1 H1 ρ1 p1 dx g1 r1 => ?_
  obtain ⟨bb, rfl, p⟩ := p1
  exact ⟨bb, dp_bool dx, q bb B1 H1 ρ1 p g1 r1⟩
theorem vt_w (h : VW X e ρ PB) : VT X e ρ PB := VT.mk fun B H σ Q r q => PT.sem (PW.pt pw_sem) (h.run B H σ Q r q)
theorem vt_not (h : VT X a ρ fun bb ρ1 => PB (!bb) ρ1) : VT X (.UnaryOp .Not a pos) ρ PB := VT.mk fun B H σ Q r q => PT.sem (pt_not pb_sem) (h.run B H σ _ r fun bb B1 H1 ρ1 p g r1 => q (!bb) B1 H1 ρ1 p g r1)
theorem vw_and1 (h : VT X a ρ PB) : VW X (.BoolOp .And [a] pos) ρ PB := VW.mk fun B H σ Q r q => PW.sem (pw_and1 pb_sem) (h.run B H σ Q r q)
theorem vw_or1 (h : VT X a ρ PB) : VW X (.BoolOp .Or [a] pos) ρ PB := VW.mk fun B H σ Q r q => PW.sem (pw_or1 pb_sem) (h.run B H σ Q r q)
theorem vw_and (h : VT X a ρ fun bb ρ1 => (bb = true → VW X (.BoolOp .And (b :: rest) pos) ρ1 PB) ∧ (bb = false → PB false ρ1)) : VW X (.BoolOp .And (a :: b :: rest) pos) ρ PB := VW.mk fun B H σ Q r q => by
  refine PW.sem (pw_and pb_sem pw_sem) ?_
  refine h.run B H σ _ r fun bb B1 H1 ρ1 p g1 r1 => ?_
  cases bb with
  | true => exact (p.1 rfl).run B1 H1 σ Q r1 fun b2 B2 H2 ρ2 p2 g2 r2 => q b2 B2 H2 ρ2 p2 (g1.trans g2) r2
  | false => exact q false B1 H1 ρ1 (p.2 rfl) g1 r1
theorem vw_or (h : VT X a ρ fun bb ρ1 => (bb = true → PB true ρ1) ∧ (bb = false → VW X (.BoolOp .Or (b :: rest) pos) ρ1 PB)) : VW X (.BoolOp .Or (a :: b :: rest) pos) ρ PB := VW.mk fun B H σ Q r q => by
  refine PW.sem (pw_or pb_sem pw_sem) ?_
  refine h.run B H σ _ r fun bb B1 H1 ρ1 p g1 r1 => ?_
  cases bb with
  | true => exact q true B1 H1 ρ1 (p.1 rfl) g1 r1
  | false => exact (p.2 rfl).run B1 H1 σ Q r1 fun b2 B2 H2 ρ2 p2 g2 r2 => q b2 B2 H2 ρ2 p2 (g1.trans g2) r2
theorem vd_if (h : VT X c ρ fun bb ρ1 => (bb = true → VD X a ρ1 P) ∧ (bb = false → VD X b ρ1 P)) : VD X (.IfExp c a b pos) ρ P := VD.mk fun B H σ Q r q => by
  refine PE.sem (pe_ifExp pb_sem pe_sem pe_sem) ?_
  refine h.run B H σ _ r fun bb B1 H1 ρ1 p g1 r1 => ?_
  cases bb with
  | true => exact (p.1 rfl).run B1 H1 σ Q r1 fun v d B2 H2 ρ2 p2 dd g2 r2 => q v d B2 H2 ρ2 p2 dd (g1.trans g2) r2
  | false => exact (p.2 rfl).run B1 H1 σ Q r1 fun v d B2 H2 ρ2 p2 dd g2 r2 => q v d B2 H2 ρ2 p2 dd (g1.trans g2) r2
theorem vd_one {op : BoolOp} (h : VD X a ρ P) : VD X (.BoolOp op [a] pos) ρ P := VD.mk fun B H σ Q r q => PE.sem (pe_one pe_sem) (h.run B H σ Q r q)
theorem vd_and (h : VD X a ρ fun d ρ1 => ∃ bb, d = .bool bb ∧ (bb = true → VD X (.BoolOp .And (b :: rest) pos) ρ1 P) ∧ (bb = false → P (.bool false) ρ1)) : VD X (.BoolOp .And (a :: b :: rest) pos) ρ P := VD.mk fun B H σ Q r q => by
  refine PE.sem (pe_and pe_sem pe_sem) ?_
  refine h.run B H σ _ r fun v d B1 H1 ρ1 p dx g1 r1 => ?_
  obtain ⟨bb, rfl, p1, p2⟩ := p
  refine ⟨bb, dp_bool dx, ?_⟩
  cases bb with
  | true => exact (p1 rfl).run B1 H1 σ Q r1 fun v d B2 H2 ρ2 p2 dd g2 r2 => q v d B2 H2 ρ2 p2 dd (g1.trans g2) r2
  | false => exact q _ _ B1 H1 ρ1 (p2 rfl) (.bl false) g1 r1
theorem vd_or (h : VD X a ρ fun d ρ1 => ∃ bb, d = .bool bb ∧ (bb = true → P (.bool true) ρ1) ∧ (bb = false → VD X (.BoolOp .Or (b :: rest) pos) ρ1 P)) : VD X (.BoolOp .Or (a :: b :: rest) pos) ρ P := VD.mk fun B H σ Q r q => by
  refine PE.sem (pe_or pe_sem pe_sem) ?_
  refine h.run B H σ _ r fun v d B1 H1 ρ1 p dx g1 r1 => ?_
  obtain ⟨bb, rfl, p1, p2⟩ := p
  refine ⟨bb, dp_bool dx, ?_⟩
  cases bb with
  | true => exact q _ _ B1 H1 ρ1 (p1 rfl) (.bl true) g1 r1
  | false => exact (p2 rfl).run B1 H1 σ Q r1 fun v d B2 H2 ρ2 p2 dd g2 r2 => q v d B2 H2 ρ2 p2 dd (g1.trans g2) r2
theorem vd_not (h : VD X a ρ fun d ρ1 => ∃ bb, d = .bool bb ∧ P (.bool (!bb)) ρ1) : VD X (.UnaryOp .Not a pos) ρ P := VD.mk fun B H σ Q r q => by
  refine PE.sem (pe_not pe_sem) ?_
  refine h.run B H σ _ r fun v d B1 H1 ρ1 p dx g1 r1 => ?_
  obtain ⟨bb, rfl, p1⟩ := p
  exact ⟨bb, dp_bool dx, q _ _ B1 H1 ρ1 p1 (.bl _) g1 r1⟩

/-! ### lists of arguments, displays -/
theorem va_nil (p : PL [] ρ) : VA X [] ρ PL := VA.mk fun B H σ Q r q => PA.sem pa_nil (q [] [] B H ρ p .nil Go.refl r)
theorem va_cons (h : VD X e ρ fun d ρ1 => VA X es ρ1 fun ds ρ2 => PL (d :: ds) ρ2) (hs : starEach (e :: es) X.env = (false, eval e X.env) :: starEach es X.env := by rfl) : VA X (e :: es) ρ PL := VA.mk fun B H σ Q r q => by
  refine PA.sem (pa_cons pe_sem pa_sem hs) ?_
  refine h.run B H σ _ r fun v d B1 H1 ρ1 p1 dv g1 r1 => ?_
  exact p1.run B1 H1 σ _ r1 fun vs ds B2 H2 ρ2 p2 dvs g2 r2 => q (v :: vs) (d :: ds) B2 H2 ρ2 p2 (.cons (Dp.mono g2.ex dv) dvs) (g1.trans g2) r2
theorem vd_tup {kk : Nat} (h : VA X es ρ fun ds ρ1 => ds.length ≤ 1000 ∧ P (.tuple ds) ρ1) : VD X (.Tuple es kk pos) ρ P := VD.mk fun B H σ Q r q => by
  refine PE.sem (pe_tup pa_sem) ?_
  refine h.run B H σ _ r fun vs ds B1 H1 ρ1 p1 dvs g1 r1 => ⟨?_, fun p hp => ?_⟩
  · rw [DpAll.len dvs]
    exact Nat.le_trans p1.1 (by decide)
  · obtain ⟨r2, g2⟩ := new_both (o := .tup vs) r1 hp
    exact q _ _ _ _ ρ1 p1.2 (.tup (.inl (.inl upd_same)) (DpAll.mono g2.ex dvs)) (g1.trans g2) r2
theorem vn_lst (h : VA X es ρ fun ds ρ1 => ds.length ≤ 1000 ∧ PL ds ρ1) : VN X (.List es pos) ρ PL := VN.mk fun B H σ Q r q => by
  refine PE.sem (pe_lst pa_sem) ?_
  refine h.run B H σ _ r fun vs ds B1 H1 ρ1 p1 dvs g1 r1 => ⟨?_, fun p hp => ?_⟩
  · rw [DpAll.len dvs]
    exact Nat.le_trans p1.1 (by decide)
  · obtain ⟨r2, g2, bp⟩ := new_one (o := .lst vs) r1 hp
    refine q p vs ds _ _ ρ1 p1.2 ?_ upd_same bp (fun z => ?_) dvs (g1.trans g2) r2
    · exact g1.dom p hp
    · obtain ⟨i, fs, hf⟩ := z
      obtain ⟨_, _, ws, h5, _⟩ := r1.own i p fs hf
      rw [hp] at h5
      cases h5
end

open PySem PySem.Spec PyProof.Rows L2
open Evl (Ex)

section
variable {X : Cx} {M : Md} {sc : Scope} {NK : List (Str × Bool × Bool)} {G : List Str} {k : Nat} {ρ : En} {P : D → En → Prop} {PB : Bool → En → Prop} {PL : List D → En → Prop} {pos : Pos} {a b c e : Expr} {es rest : List Expr} {x : Str}

/-- a new list as data that stays -/
theorem vn_vd (h : VN X e ρ fun ds ρ1 => P (.list ds) ρ1) : VD X e ρ P := VD.mk fun B H σ Q r q => by
  refine h.run B H σ Q r fun p vs ds B1 H1 ρ1 p1 hp h1 bp no dvs g1 r1 => ?_
  have eB : Ex B1 (upd B1 p (.lst vs)) := Evl.Ex.new bp
  have ne : ∀ a, Own ρ1 a → a ≠ p := fun a z e => no (e ▸ z)
  refine q _ _ (upd B1 p (.lst vs)) H1 ρ1 p1 (.lst (.inl (.inl upd_same)) (DpAll.mono eB dvs)) ⟨g1.ex.trans eB, g1.keep, fun a h1 h2 h3 => ?_, g1.own, g1.dom⟩ ⟨fun a u ha => ?_, r1.len, fun i d hi => ?_, fun i a ds' hi => ?_, r1.dis⟩
  · rw [upd_ne (fun z => h1 (by rw [z]; exact hp))]
    exact g1.out a h1 h2 h3
  · by_cases z : a = p
    · rw [z, upd_same] at ha
      rw [z, h1]
      exact ha
    · rw [upd_ne z] at ha
      exact r1.ex a u ha
  · obtain ⟨v, h1, h2⟩ := r1.dat i d hi
    exact ⟨v, h1, Dp.mono eB h2⟩
  · obtain ⟨h1, h2, ws, h3, h4⟩ := r1.own i a ds' hi
    refine ⟨h1, ?_, ws, h3, OD.mono eB h4⟩
    rw [upd_ne (ne a ⟨i, ds', hi⟩)]
    exact h2

/-! ### subscripts -/
def iSem (X : Cx) : R2 := fun x y H Q => ∀ value slice pins s σ v u, Inv X pins σ H s → RelV x v → RelV y u → subscripted slice false v u = operate [v, u] (getItem v u) → wpAny (model X.prog X.w) X.A (subscriptTail value slice v u) (EP X pins σ Q) X.xe s
theorem ir_sem : IxR X (iSem X) := fun value slice pins s σ H x y v u Q I rx ry h hs => h value slice pins s σ v u I rx ry hs
theorem IxR.sem {r : R2} (h : IxR X r) {x y : V} {H : Hp} {Q : VK} (q : r x y H Q) : iSem X x y H Q := fun value slice pins s σ v u I rx ry hs => h value slice pins s σ H x y v u Q I rx ry q hs
theorem atI_dp {K : PySem.W.Frag} {B : Hp} {vs : List V} {ds : List D} {n : Int} {d : D} (h : DpAll K B vs ds) (e : atI ds n = some d) : ∃ v, atI vs n = some v ∧ Dp K B v d := by
  unfold atI at e ⊢
  rw [DpAll.len h]
  cases q : ixN ds.length n with
  | none =>
    rw [q] at e
    cases e
  | some j =>
    rw [q] at e
    have e' : ds[j]? = some d := e
    exact DpAll.get h e'
theorem vd_ix (h : VD X a ρ fun x ρ1 => VD X b ρ1 fun y ρ2 => ixD x y fun d => P d ρ2) (hs : PlainIx b := by exact fun _ _ => rfl) : VD X (.Subscript a b pos) ρ P := VD.mk fun B H σ Q r q => by
  refine PE.sem (pe_ix ir_sem pe_sem pe_sem hs) ?_
  refine h.run B H σ _ r fun vx x B1 H1 ρ1 p1 dx g1 r1 => ?_
  refine p1.run B1 H1 σ _ r1 fun vy y B2 H2 ρ2 p2 dy g2 r2 => ?_
  replace p2 : ixD x y (fun d => P d ρ2) := p2
  unfold ixD at p2
  split at p2
  · obtain ⟨d, e, p⟩ := p2
    obtain ⟨t, vs, rfl, hT, hv⟩ := dp_tup dx
    obtain ⟨v, ev, dv⟩ := atI_dp hv e
    rw [dp_int dy]
    exact IxR.sem ix_tup ⟨t, vs, _, v, rfl, rfl, ex_t (g2.ex.trans r2.ex) hT, ev, q v d B2 H2 ρ2 p (Dp.mono g2.ex dv) (g1.trans g2) r2⟩
  · obtain ⟨d, e, p⟩ := p2
    obtain ⟨t, vs, rfl, hT, hv⟩ := dp_lst dx
    obtain ⟨v, ev, dv⟩ := atI_dp hv e
    rw [dp_int dy]
    exact IxR.sem ix_list ⟨t, vs, _, v, rfl, rfl, ex_l (g2.ex.trans r2.ex) hT, ev, q v d B2 H2 ρ2 p (Dp.mono g2.ex dv) (g1.trans g2) r2⟩
  · exact p2.elim
/-- xs[i], xs a list of one's own -/
theorem vd_ixo (C : Cst X M sc NK G k) {i : Nat} {l : Bool} {p : Addr} {cs : List D} {px : Pos} (ha : At NK i (x, true, l)) (ho : ρ[i]? = some (.own p cs))
    (h : VD X b ρ fun y ρ1 => ∃ (n : Int) (cs1 : List D) (d : D), y = .int n ∧ ρ1[i]? = some (.own p cs1) ∧ atI cs1 n = some d ∧ P d ρ1) (hs : PlainIx b := by exact fun _ _ => rfl) (hd : (x == ("__debug__" : Str)) = false := by decide) (hcd : (x == ("__classdict__" : Str)) = false := by decide) : VD X (.Subscript (.Name x px) b pos) ρ P := VD.mk fun B H σ Q r q => by
  refine PE.sem (pe_ix ix_list (pe_var (C.ix ha) (C.vi ha) hd hcd) pe_sem hs) ?_
  refine ⟨.ref p, (r.own i p cs ho).1, ?_⟩
  refine h.run B H σ _ r fun vy y B1 H1 ρ1 p1 dy g1 r1 => ?_
  obtain ⟨n, cs1, d, rfl, ho1, e, pp⟩ := p1
  obtain ⟨_, _, _, h3, vs, rfl, h4⟩ := r1.own i p cs1 ho1
  obtain ⟨v, ev, dv⟩ := atI_dp h4 e
  exact ⟨p, vs, n, v, rfl, dp_int dy, .inl (.inl h3), ev, q v d B1 H1 ρ1 pp dv g1 r1⟩
theorem cut_take {vs : List V} (n : Nat) : cutV vs none (some (n : Int)) = vs.take n := by
  unfold cutV
  rw [HT.sIx_none, HT.sIx_nat, Nat.sub_zero, List.drop_zero]
  by_cases h : n ≤ vs.length
  · rw [Nat.min_eq_left h]
  · rw [Nat.min_eq_right (by omega), List.take_length, List.take_of_length_le (by omega)]
theorem cut_drop {vs : List V} (n : Nat) : cutV vs (some (n : Int)) none = vs.drop n := by
  unfold cutV
  rw [HT.sIx_none, HT.sIx_nat]
  by_cases h : n ≤ vs.length
  · rw [Nat.min_eq_left h, List.take_of_length_le (by rw [List.length_drop]; omega)]
  · rw [Nat.min_eq_right (by omega), List.drop_length, List.drop_of_length_le (by omega), List.take_nil]
/-- xs[:n], n written -/
theorem vn_take {n j : Nat} {pc p2 : Pos} (h : VD X a ρ fun d ρ1 => ∃ ds, d = .list ds ∧ PL (ds.take n) ρ1) : VN X (.Subscript a (.Slice none (some (.Constant (.int (n : Int)) j pc)) none p2) pos) ρ PL := VN.mk fun B H σ Q r q => by
  refine PE.sem (pe_slice sl_list pe_sem po_none (po_some pe_int)) ?_
  refine h.run B H σ _ r fun v d B1 H1 ρ1 p1 dv g1 r1 => ?_
  obtain ⟨ds, rfl, p⟩ := p1
  obtain ⟨t, vs, rfl, hT, hv⟩ := dp_lst dv
  refine ⟨(n : Int), rfl, t, vs, rfl, ex_l r1.ex hT, fun z hz => ?_⟩
  rw [cut_take]
  obtain ⟨r2, g2, bp⟩ := new_one (o := .lst (vs.take n)) r1 hz
  refine q z _ _ _ _ ρ1 p (g1.dom z hz) upd_same bp (fun w => ?_) (DpAll.take n hv) (g1.trans g2) r2
  obtain ⟨i, fs, hf⟩ := w
  obtain ⟨_, _, ws, h5, _⟩ := r1.own i z fs hf
  rw [hz] at h5
  cases h5

/-! ### built-in functions -/
def cSem (X : Cx) (f : Value) : List V → Hp → VK → Prop := fun vs H Q => ∀ pins s σ us, Inv X pins σ H s → Vals vs us → wpAny (model X.prog X.w) X.A (call f us) (EP X pins σ Q) X.xe s
theorem cr_sem {f : Value} : CallR X f (cSem X f) := fun pins s σ H xs us Q I r h => h pins s σ us I r
theorem CallR.sem {f : Value} {r : List V → Hp → VK → Prop} (h : CallR X f r) {xs : List V} {H : Hp} {Q : VK} (q : r xs H Q) : cSem X f xs H Q := fun pins s σ us I rv => h pins s σ H xs us Q I rv q
/-- what a built-in does with data -/
def Does (X : Cx) (f : Value) (S : List D → (D → Prop) → Prop) : Prop := ∀ (B H : Hp) (vs : List V) (ds : List D) (W : D → Prop) (Q : VK), Ex B H → DpAll X.K B vs ds → S ds W →
  (∀ v d B' H', W d → Dp X.K B' v d → Ex B B' → Ex B' H' → Ex H H' → (∀ a, H a ≠ none → B a = none → B' a = none) → Q v H') → cSem X f vs H Q
theorem vd_call_with {f : Value} {S : List D → (D → Prop) → Prop} {nm : Expr} (hp : ∀ t, PA X (e :: es) t → PE X (.Call nm (e :: es) [] pos) (tCB (cSem X f) t)) (hS : Does X f S)
    (h : VA X (e :: es) ρ fun ds ρ1 => S ds fun d => P d ρ1) : VD X (.Call nm (e :: es) [] pos) ρ P := VD.mk fun B H σ Q r q => by
  refine PE.sem (hp _ pa_sem) ?_
  refine h.run B H σ _ r fun vs ds B1 H1 ρ1 p1 dvs g1 r1 => ?_
  refine hS B1 H1 vs ds _ Q r1.ex dvs p1 fun v d B2 H2 p2 dv eB e2 eH out => ?_
  exact q v d B2 H2 ρ1 p2 dv (g1.trans (Go.grow eB eH out)) (r1.grow eB e2 eH out)
theorem vd_callB (C : Cst X M sc NK G k) {id : String} {S : List D → (D → Prop) → Prop} {i : Nat} {p : Pos} (hS : Does X (.builtin id) S) (hg : At G i x) (h : VA X (e :: es) ρ fun ds ρ1 => S ds fun d => P d ρ1) (hm : M.mg x = none := by assumption) (hv : bootBuiltins x = some (.builtin id) := by decide +kernel)
    (hn : x ≠ "__name__" := by decide) (hdb : (x == ("__debug__" : Str)) = false := by decide) (he : starEach (e :: es) X.env = (false, eval e X.env) :: starEach es X.env := by rfl) (hpl : (backTo pos (starEach es X.env)).any (·.1) = false := by rfl) : VD X (.Call (.Name x p) (e :: es) [] pos) ρ P :=
  vd_call_with (fun t ht => pe_callB cr_sem (C.g hg) (C.mg hm) hv ht hn hdb he hpl) hS h
theorem vd_callT (C : Cst X M sc NK G k) {T : String} {S : List D → (D → Prop) → Prop} {i : Nat} {p : Pos} (hS : Does X (.type T) S) (hg : At G i x) (h : VA X (e :: es) ρ fun ds ρ1 => S ds fun d => P d ρ1) (hm : M.mg x = none := by assumption) (hv : bootBuiltins x = some (.type T) := by decide +kernel)
    (hn : x ≠ "__name__" := by decide) (hdb : (x == ("__debug__" : Str)) = false := by decide) (he : starEach (e :: es) X.env = (false, eval e X.env) :: starEach es X.env := by rfl) (hpl : (backTo pos (starEach es X.env)).any (·.1) = false := by rfl) : VD X (.Call (.Name x p) (e :: es) [] pos) ρ P :=
  vd_call_with (fun t ht => pe_callTy cr_sem (C.g hg) (C.mg hm) hv ht hn hdb he hpl) hS h
/-- a built-in that the module imports -/
theorem vd_callM (C : Cst X M sc NK G k) {id : String} {S : List D → (D → Prop) → Prop} {i : Nat} {p : Pos} (hS : Does X (.builtin id) S) (hg : At G i x) (h : VA X (e :: es) ρ fun ds ρ1 => S ds fun d => P d ρ1) (hm : M.mg x = some (.builtin id) := by assumption)
    (hdb : (x == ("__debug__" : Str)) = false := by decide) (he : starEach (e :: es) X.env = (false, eval e X.env) :: starEach es X.env := by rfl) (hpl : (backTo pos (starEach es X.env)).any (·.1) = false := by rfl) : VD X (.Call (.Name x p) (e :: es) [] pos) ρ P :=
  vd_call_with (fun t ht => pe_callBfun cr_sem (C.g hg) (C.mg hm) ht hdb he hpl) hS h
/-- a def of one's own, by what it does with data -/
def DS (K : PySem.W.Frag) (n : Nat) (S : List D → (D → Prop) → Prop) : Sp := fun vs H Q _ => ∃ B ds W, Ex B H ∧ DpAll K B vs ds ∧ ds.length = n ∧ S ds W ∧
  ∀ v d B' H', W d → Dp K B' v d → Ex B B' → Ex B' H' → Ex H H' → (∀ a, H a ≠ none → B a = none → B' a = none) → Q v H'
structure FnD (M : Md) (j : Nat) (x : Str) (n : Nat) (S : List D → (D → Prop) → Prop) : Prop where
  ex : ∃ f fd ps, FnOk M.prog M.w M.K M.mg M.base CX0 j f fd ps (DS M.K n S) ∧ M.mg x = some (.ref f) ∧ PySem.W.keepIn M.K (.ref f) = true ∧ Binds M.K fd ps []
theorem vd_call (C : Cst X M sc NK G k) {j n : Nat} {S : List D → (D → Prop) → Prop} {i : Nat} {p : Pos} (F : FnD M j x n S) (hg : At G i x) (h : VA X (e :: es) ρ fun ds ρ1 => ds.length = n ∧ S ds fun d => P d ρ1) (hj : j ≤ k := by decide)
    (hdb : (x == ("__debug__" : Str)) = false := by decide) (he : starEach (e :: es) X.env = (false, eval e X.env) :: starEach es X.env := by rfl) (hpl : (backTo pos (starEach es X.env)).any (·.1) = false := by rfl) : VD X (.Call (.Name x p) (e :: es) [] pos) ρ P := VD.mk fun B H σ Q r q => by
  have eM := C.m
  subst eM
  obtain ⟨f, fd, ps, F, hm, hk, hb⟩ := F.ex
  refine PE.sem (pe_call (E := E0) F (C.room.mono hj) (C.g hg) hm hk hb .nil pass0 pa_sem hdb he hpl) ?_
  refine h.run B H σ _ r fun vs ds B1 H1 ρ1 p1 dvs g1 r1 => ?_
  show DS X.K n S (vs ++ []) H1 Q _
  rw [List.append_nil]
  refine ⟨B1, ds, _, r1.ex, dvs, p1.1, p1.2, fun v d B2 H2 p2 dv eB e2 eH out => ?_⟩
  exact q v d B2 H2 ρ1 p2 dv (g1.trans (Go.grow eB eH out)) (r1.grow eB e2 eH out)
/-- a def that changes the list of one's own which it is handed first: what stands in it, the other arguments; its value, what stands in it behind -/
def DSm (K : PySem.W.Frag) (n : Nat) (S : List D → List D → (D → List D → Prop) → Prop) : Sp := fun vs H Q _ => ∃ B p xs cs ws ds W, vs = .ref p :: ws ∧ Ex B H ∧ B p = none ∧ H p = some (.lst xs) ∧ DpAll K B xs cs ∧ DpAll K B ws ds ∧ ds.length = n ∧ S cs ds W ∧
  ∀ v d B' H' xs' cs', W d cs' → Dp K B' v d → Ex B B' → Ex B' H' → B' p = none → H' p = some (.lst xs') → DpAll K B' xs' cs' → (∀ a o, a ≠ p → H a = some o → H' a = some o) → (∀ a, a ≠ p → H a ≠ none → B a = none → B' a = none) → Q v H'
structure FnM (M : Md) (j : Nat) (x : Str) (n : Nat) (S : List D → List D → (D → List D → Prop) → Prop) : Prop where
  ex : ∃ f fd ps, FnOk M.prog M.w M.K M.mg M.base CX0 j f fd ps (DSm M.K n S) ∧ M.mg x = some (.ref f) ∧ PySem.W.keepIn M.K (.ref f) = true ∧ Binds M.K fd ps []
theorem getElem?_set_own {ρ : En} {i : Nat} {s u : Sl} (h : ρ[i]? = some s) : (ρ.set i u)[i]? = some u := by
  obtain ⟨hl, _⟩ := List.getElem?_eq_some_iff.mp h
  rw [List.getElem?_set_self hl]
theorem vd_callO (C : Cst X M sc NK G k) {j n : Nat} {S : List D → List D → (D → List D → Prop) → Prop} {i m : Nat} {l : Bool} {y : Str} {p py : Pos} {q0 : Addr} {cs0 : List D} (F : FnM M j x n S) (hg : At G i x) (ha : At NK m (y, true, l)) (ho : ρ[m]? = some (.own q0 cs0))
    (h : VA X es ρ fun ds ρ1 => ds.length = n ∧ ∃ cs : List D, ρ1[m]? = some (.own q0 cs) ∧ S cs ds fun d cs' => P d (ρ1.set m (.own q0 cs'))) (hj : j ≤ k := by decide)
    (hdb : (x == ("__debug__" : Str)) = false := by decide) (he : starEach (.Name y py :: es) X.env = (false, eval (.Name y py) X.env) :: starEach es X.env := by rfl) (hpl : (backTo pos (starEach es X.env)).any (·.1) = false := by rfl)
    (hd : (y == ("__debug__" : Str)) = false := by decide) (hcd : (y == ("__classdict__" : Str)) = false := by decide) : VD X (.Call (.Name x p) (.Name y py :: es) [] pos) ρ P := VD.mk fun B H σ Q r q => by
  have eM := C.m
  subst eM
  obtain ⟨f, fd, ps, F, hm, hk, hb⟩ := F.ex
  refine PE.sem (pe_call (E := E0) F (C.room.mono hj) (C.g hg) hm hk hb .nil pass0 (pa_cons (pe_var (C.ix ha) (C.vi ha) hd hcd) pa_sem he) hdb he hpl) ?_
  refine ⟨.ref q0, (r.own m q0 cs0 ho).1, ?_⟩
  refine h.run B H σ _ r fun ws ds B1 H1 ρ1 p1 dws g1 r1 => ?_
  obtain ⟨hl, cs, ho1, hS⟩ := p1
  obtain ⟨hs1, hB1, _, hx, xs, rfl, dxs⟩ := r1.own m q0 cs ho1
  show DSm X.K n S ((.ref q0 :: ws) ++ []) H1 Q _
  rw [List.append_nil]
  refine ⟨B1, q0, xs, cs, ws, ds, _, rfl, r1.ex, hB1, hx, dxs, dws, hl, hS, fun v d B2 H2 xs' cs' p2 dv eB e2 b2 h2 dx2 keep out => ?_⟩
  have hlt := (List.getElem?_eq_some_iff.mp ho1).1
  have own_of : ∀ a, Own (ρ1.set m (.own q0 (.l cs'))) a → Own ρ1 a := fun a ⟨j, fs, hf⟩ => by
    by_cases z : m = j
    · subst z
      rw [List.getElem?_set_self hlt] at hf
      cases hf
      exact ⟨m, cs, ho1⟩
    · rw [List.getElem?_set_ne z] at hf
      exact ⟨j, fs, hf⟩
  refine q v d B2 H2 _ p2 dv (g1.trans ⟨eB, fun a o h n => keep a o (fun z => n ⟨m, cs, z ▸ ho1⟩) h, fun a h1 h2 h3 => out a (fun z => h3 ⟨m, cs, z ▸ ho1⟩) h1 h2, fun a z => .inl (own_of a z), fun a z => ?_⟩) ⟨e2, by rw [List.length_set]; exact r1.len, fun j d' hj => ?_, fun j a fs hf => ?_, fun j j' a fs gs hj hj' => ?_⟩
  · cases e : H1 a with
    | none => rfl
    | some u =>
      by_cases w : a = q0
      · rw [w, h2] at z
        cases z
      · rw [keep a u w e] at z
        cases z
  · by_cases z : m = j
    · subst z
      rw [List.getElem?_set_self hlt] at hj
      cases hj
    · rw [List.getElem?_set_ne z] at hj
      obtain ⟨v', h5, h6⟩ := r1.dat j d' hj
      exact ⟨v', h5, Dp.mono eB h6⟩
  · by_cases z : m = j
    · subst z
      rw [List.getElem?_set_self hlt] at hf
      cases hf
      exact ⟨hs1, b2, _, h2, xs', rfl, dx2⟩
    · rw [List.getElem?_set_ne z] at hf
      obtain ⟨h5, h6, ys, h7, h8⟩ := r1.own j a fs hf
      have na : a ≠ q0 := fun w => z (r1.dis m j q0 cs fs ho1 (w ▸ hf))
      exact ⟨h5, out a na (by rw [h7]; exact fun z => by cases z) h6, ys, keep a _ na h7, OD.mono eB h8⟩
  · have back : ∀ (j : Nat) gs, (ρ1.set m (.own q0 (.l cs')))[j]? = some (.own a gs) → ∃ hs, ρ1[j]? = some (.own a hs) := fun j gs hj => by
      by_cases z : m = j
      · subst z
        rw [List.getElem?_set_self hlt] at hj
        cases hj
        exact ⟨cs, ho1⟩
      · rw [List.getElem?_set_ne z] at hj
        exact ⟨gs, hj⟩
    obtain ⟨h5, e5⟩ := back j fs hj
    obtain ⟨h6, e6⟩ := back j' gs hj'
    exact r1.dis j j' a h5 h6 e5 e6

/-! ### what some built-ins do -/
theorem does_int : Does X (.type "int") (fun ds W => ∃ i, ds = [.int i] ∧ W (.int i)) := fun B H vs ds W Q e h s q => by
  obtain ⟨i, rfl, w⟩ := s
  cases h with
  | cons h1 h2 =>
    cases h2
    rw [dp_int h1]
    exact CallR.sem call_int1 (.inl ⟨i, rfl, q _ _ B H w (.int i) (Evl.Ex.refl B) e (Evl.Ex.refl H) fun _ _ b => b⟩)
theorem does_abs : Does X (.builtin "abs") (fun ds W => ∃ i, ds = [.int i] ∧ W (.int (if i < 0 then -i else i))) := fun B H vs ds W Q e h s q => by
  obtain ⟨i, rfl, w⟩ := s
  cases h with
  | cons h1 h2 =>
    cases h2
    rw [dp_int h1]
    exact CallR.sem call_abs ⟨i, rfl, q _ _ B H w (.int _) (Evl.Ex.refl B) e (Evl.Ex.refl H) fun _ _ b => b⟩
theorem does_len : Does X (.builtin "len") (fun ds W => ∃ es, (ds = [.list es] ∨ ds = [.tuple es]) ∧ W (.int es.length)) := fun B H vs ds W Q e h s q => by
  obtain ⟨es, z, w⟩ := s
  rcases z with rfl | rfl
  · cases h with
    | cons h1 h2 =>
      cases h2
      obtain ⟨t, ys, rfl, hT, hy⟩ := dp_lst h1
      refine CallR.sem call_len_seq ⟨t, ys, rfl, .inl (ex_l e hT), q _ _ B H w ?_ (Evl.Ex.refl B) e (Evl.Ex.refl H) fun _ _ b => b⟩
      rw [DpAll.len hy]
      exact .int _
  · cases h with
    | cons h1 h2 =>
      cases h2
      obtain ⟨t, ys, rfl, hT, hy⟩ := dp_tup h1
      refine CallR.sem call_len_seq ⟨t, ys, rfl, .inr (ex_t e hT), q _ _ B H w ?_ (Evl.Ex.refl B) e (Evl.Ex.refl H) fun _ _ b => b⟩
      rw [DpAll.len hy]
      exact .int _
/-- tuple(a new list) -/
theorem vd_tupleN (C : Cst X M sc NK G k) {i : Nat} {p : Pos} (hg : At G i "tuple") (h : VN X e ρ fun ds ρ1 => P (.tuple ds) ρ1) (hm : M.mg "tuple" = none := by assumption)
    (he : starEach [e] X.env = (false, eval e X.env) :: starEach [] X.env := by rfl) (hpl : (backTo pos (starEach [] X.env)).any (·.1) = false := by rfl) : VD X (.Call (.Name "tuple" p) [e] [] pos) ρ P := VD.mk fun B H σ Q r q => by
  refine PE.sem (pe_callTy call_tuple_of (C.g hg) (C.mg hm) (by decide +kernel) (pa_cons pe_sem pa_nil he) (by decide) (by decide) he hpl) ?_
  refine h.run B H σ _ r fun z vs ds B1 H1 ρ1 p1 hz h1 bz no dvs g1 r1 => ?_
  refine ⟨z, vs, rfl, .inl ⟨.inl (.inl h1), fun l hl => ?_⟩⟩
  obtain ⟨r2, g2⟩ := new_both (o := .tup vs) r1 hl
  exact q _ _ _ _ ρ1 p1 (.tup (.inl (.inl upd_same)) (DpAll.mono g2.ex dvs)) (g1.trans g2) r2
def tyN : D → String
  | .none => "NoneType"
  | .bool _ => "bool"
  | .int _ => "int"
  | .str _ => "str"
  | .list _ => "list"
  | .tuple _ => "tuple"
  | .dict _ => "dict"
theorem ty_dp {K : PySem.W.Frag} {B H : Hp} (e : Ex B H) {v : V} {d : D} (h : Dp K B v d) : TyX K H v (.type (tyN d)) := by
  cases h with
  | non => exact .base .non
  | bl b => exact .base (.bl b)
  | int i => exact .base (.int i)
  | str x => exact .base (.str x)
  | lst h hs =>
    rcases h with (h | ⟨o, h⟩) | ⟨o, _, _, h1, h2, _⟩
    · exact .base (.lst (e _ _ h))
    · exact .base (.frz (e _ _ h))
    · exact .kList h1 h2
  | tup h hs =>
    rcases h with (h | ⟨o, h⟩) | ⟨o, _, _, h1, h2, _⟩
    · exact .base (.tup (e _ _ h))
    · exact .fTuple (e _ _ h)
    · exact .kTuple h1 h2
/-- isinstance(e, T), T a built-in class -/
theorem vd_isi (C : Cst X M sc NK G k) {i j : Nat} {T : String} {p pT : Pos} (hg : At G i "isinstance") (hgT : At G j x) (h : VD X e ρ fun d ρ1 => ∃ b, kitB (tyN d) T = some b ∧ P (.bool b) ρ1)
    (hm : M.mg "isinstance" = none := by assumption) (hmT : M.mg x = none := by assumption) (hv : bootBuiltins x = some (.type T) := by decide +kernel)
    (hn : x ≠ "__name__" := by decide) (hdb : (x == ("__debug__" : Str)) = false := by decide)
    (he : starEach [e, .Name x pT] X.env = (false, eval e X.env) :: starEach [.Name x pT] X.env := by rfl) (he2 : starEach [.Name x pT] X.env = (false, eval (.Name x pT) X.env) :: starEach [] X.env := by rfl) (hpl : (backTo pos (starEach [.Name x pT] X.env)).any (·.1) = false := by rfl) :
    VD X (.Call (.Name "isinstance" p) [e, .Name x pT] [] pos) ρ P := VD.mk fun B H σ Q r q => by
  refine PE.sem (pe_callB call_isi (C.g hg) (C.mg hm) (by decide +kernel) (pa_cons pe_sem (pa_cons (pe_bltn (v := .ty T) (C.g hgT) (C.mg hmT) hv rfl hn hdb) pa_nil he2) he) (by decide) (by decide) he hpl) ?_
  refine h.run B H σ _ r fun v d B1 H1 ρ1 p1 dv g1 r1 => ?_
  obtain ⟨b, hb, pp⟩ := p1
  exact ⟨v, .ty T, _, _, b, rfl, .ty T, ty_dp r1.ex dv, kit_ty hb, q _ _ B1 H1 ρ1 pp (.bl b) g1 r1⟩
end

open PySem PySem.Spec PyProof.Rows L2
open Evl (Ex)

section
variable {X : Cx} {M : Md} {sc : Scope} {NK : List (Str × Bool × Bool)} {G : List Str} {k : Nat} {ρ : En} {P : D → En → Prop} {PN : En → Prop} {PB : Bool → En → Prop} {PL : List D → En → Prop} {pos : Pos} {a b c e tg : Expr} {es rest : List Expr} {x : Str} {F : Fin} {st : Stmt} {sts : List Stmt}

/-! ### storing -/
theorem own_set {ρ : En} {i : Nat} {d : D} {a : Addr} (h : Own (ρ.set i (.dat d)) a) : Own ρ a := by
  obtain ⟨j, ds, hj⟩ := h
  by_cases z : i = j
  · subst z
    by_cases hl : i < ρ.length
    · rw [List.getElem?_set_self hl] at hj
      cases hj
    · rw [List.getElem?_eq_none (by rw [List.length_set]; omega)] at hj
      cases hj
  · rw [List.getElem?_set_ne z] at hj
    exact ⟨j, ds, hj⟩
theorem rel_set {K : Kw} {B H : Hp} {σ : L2.St} {ρ : En} (r : Rel K B H σ ρ) {i : Nat} {v : V} {d : D} (hd : Dp K B v d) : Rel K B H (σ.set i (some v)) (ρ.set i (.dat d)) := by
  refine ⟨r.ex, by rw [List.length_set, List.length_set]; exact r.len, fun j d' hj => ?_, fun j a ds hj => ?_, fun j j' a ds es hj hj' => ?_⟩
  · by_cases z : i = j
    · subst z
      by_cases hl : i < ρ.length
      · rw [List.getElem?_set_self hl] at hj
        cases hj
        exact ⟨v, by rw [List.getElem?_set_self (by rw [← r.len]; exact hl)], hd⟩
      · rw [List.getElem?_eq_none (by rw [List.length_set]; omega)] at hj
        cases hj
    · rw [List.getElem?_set_ne z] at hj ⊢
      exact r.dat j d' hj
  · by_cases z : i = j
    · subst z
      by_cases hl : i < ρ.length
      · rw [List.getElem?_set_self hl] at hj
        cases hj
      · rw [List.getElem?_eq_none (by rw [List.length_set]; omega)] at hj
        cases hj
    · rw [List.getElem?_set_ne z] at hj ⊢
      exact r.own j a ds hj
  · have back : ∀ (j : Nat) gs, (ρ.set i (.dat d))[j]? = some (.own a gs) → ρ[j]? = some (.own a gs) := fun j gs hj => by
      by_cases z : i = j
      · subst z
        by_cases hl : i < ρ.length
        · rw [List.getElem?_set_self hl] at hj
          cases hj
        · rw [List.getElem?_eq_none (by rw [List.length_set]; omega)] at hj
          cases hj
      · rw [List.getElem?_set_ne z] at hj
        exact hj
    exact r.dis j j' a ds es (back j ds hj) (back j' es hj')
theorem go_set {B H : Hp} {ρ : En} {i : Nat} {d : D} : Go B H ρ B H (ρ.set i (.dat d)) := ⟨Evl.Ex.refl B, fun _ _ h _ => h, fun _ _ h _ => h, fun _ h => .inl (own_set h), fun _ h => h⟩
theorem FinOk.nxGo {K : Kw} {B H : Hp} {Z : Ends} (f : FinOk K B H ρ F Z) {B' H' : Hp} {σ' : L2.St} {ρ' : En} (p : F.nx ρ') (g : Go B H ρ B' H' ρ') (r : Rel K B' H' σ' ρ') : Z.nx σ' H' := f.nx B' H' σ' ρ' p g r

/-! ### targets -/
theorem vg_name (C : Cst X M sc NK G k) {i : Nat} {v : Bool} {d : D} {p : Pos} (ha : At NK i (x, v, true)) (h : PN (ρ.set i (.dat d))) : VG X (.Name x p) d ρ PN := VG.mk fun vv B H σ Q r dv q =>
  PG.sem (pg_name C.nd (C.ix ha) (C.lo ha) (C.fn ha)) (q B H _ _ h go_set (rel_set r dv))
theorem vgs_nil (h : PN ρ) : VGs X [] [] ρ PN := VGs.mk fun vs B H σ Q r dv q => PGs.sem pgs_nil (by
  cases dv
  exact ⟨rfl, q B H σ ρ h Go.refl r⟩)
theorem vgs_cons {d : D} {ds : List D} (h : VG X e d ρ fun ρ1 => VGs X es ds ρ1 PN) (hs : (assignEach (e :: es) X.env).map (·.2) = assign e X.env :: (assignEach es X.env).map (·.2) := by rfl) : VGs X (e :: es) (d :: ds) ρ PN := VGs.mk fun vs B H σ Q r dv q => by
  refine PGs.sem (pgs_cons pg_sem pgs_sem hs) ?_
  cases dv with
  | cons d1 d2 =>
    refine ⟨_, _, rfl, h.run _ B H σ _ r d1 fun B1 H1 σ1 ρ1 p1 g1 r1 => ?_⟩
    exact p1.run _ B1 H1 σ1 Q r1 (DpAll.mono g1.ex d2) fun B2 H2 σ2 ρ2 p2 g2 r2 => q B2 H2 σ2 ρ2 p2 (g1.trans g2) r2
theorem vg_tup (C : Cst X M sc NK G k) {kk : Nat} {ds : List D} (h : VGs X es ds ρ PN) (hl : ds.length = es.length := by rfl) (hn : (assignEach es X.env).length = es.length := by rfl) (hst : (assignEach es X.env).findIdx? (·.1) = none := by rfl) : VG X (.Tuple es kk pos) (.tuple ds) ρ PN := VG.mk fun vv B H σ Q r dv q => by
  obtain ⟨t, vs, rfl, hT, hv⟩ := dp_tup dv
  exact PG.sem (pg_tup C.calm pgs_sem hn hst) ⟨t, vs, rfl, ex_t r.ex hT, (DpAll.len hv).trans hl, h.run vs B H σ Q r hv q⟩
theorem vg_lst (C : Cst X M sc NK G k) {kk : Nat} {ds : List D} (h : VGs X es ds ρ PN) (hl : ds.length = es.length := by rfl) (hn : (assignEach es X.env).length = es.length := by rfl) (hst : (assignEach es X.env).findIdx? (·.1) = none := by rfl) : VG X (.Tuple es kk pos) (.list ds) ρ PN := VG.mk fun vv B H σ Q r dv q => by
  obtain ⟨t, vs, rfl, hT, hv⟩ := dp_lst dv
  exact PG.sem (pg_unl C.calm pgs_sem hn hst) ⟨t, vs, rfl, ex_l r.ex hT, (DpAll.len hv).trans hl, h.run vs B H σ Q r hv q⟩

/-! ### statements -/
theorem vss_nil (h : F.nx ρ) : VSs X [] ρ F := VSs.mk fun B H σ Z r f => PSs.sem pss_nil (f.nx B H σ ρ h Go.refl r)
theorem vss_one (h : VS X st ρ F) : VSs X [st] ρ F := VSs.mk fun B H σ Z r f => PSs.sem (pss_one ps_sem) (h.run B H σ Z r f)
theorem vss_cons (h : VS X st ρ { F with nx := fun ρ1 => VSs X sts ρ1 F }) : VSs X (st :: sts) ρ F := VSs.mk fun B H σ Z r f => by
  refine PSs.sem (pss_cons ps_sem pss_sem) ?_
  refine h.run B H σ _ r ⟨fun B1 H1 σ1 ρ1 p g r1 => p.run B1 H1 σ1 Z r1 (f.go g), f.rt, f.bk, f.ct⟩
theorem vs_pass (h : F.nx ρ) : VS X (.Pass pos) ρ F := VS.mk fun B H σ Z r f => PS.sem ps_pass (f.nx B H σ ρ h Go.refl r)
theorem vs_break (h : F.bk ρ) : VS X (.Break pos) ρ F := VS.mk fun B H σ Z r f => PS.sem ps_break (f.bk B H σ ρ h Go.refl r)
theorem vs_cont (h : F.ct ρ) : VS X (.Continue pos) ρ F := VS.mk fun B H σ Z r f => PS.sem ps_continue (f.ct B H σ ρ h Go.refl r)
theorem vs_ret (h : VD X e ρ F.rt) : VS X (.Return (some e) pos) ρ F := VS.mk fun B H σ Z r f => PS.sem (ps_ret pe_sem) (h.run B H σ _ r fun v d B1 H1 ρ1 p dv g r1 => f.rt v d B1 H1 σ ρ1 p dv g r1)
theorem vs_retN (h : F.rt .none ρ) : VS X (.Return none pos) ρ F := VS.mk fun B H σ Z r f => PS.sem ps_retN (f.rt .non .none B H σ ρ h .non Go.refl r)
theorem vs_if {u v : List Stmt} (h : VT X c ρ fun bb ρ1 => (bb = true → VSs X u ρ1 F) ∧ (bb = false → VSs X v ρ1 F)) : VS X (.If c u v pos) ρ F := VS.mk fun B H σ Z r f => by
  refine PS.sem (ps_if pb_sem pss_sem pss_sem) ?_
  refine h.run B H σ _ r fun bb B1 H1 ρ1 p g r1 => ?_
  cases bb with
  | true => exact (p.1 rfl).run B1 H1 σ Z r1 (f.go g)
  | false => exact (p.2 rfl).run B1 H1 σ Z r1 (f.go g)
theorem vs_expr (h : VD X e ρ fun _ ρ1 => F.nx ρ1) (hs : swapsWith e none pos.line X.env = pure false := by rfl) : VS X (.Expr e pos) ρ F := VS.mk fun B H σ Z r f =>
  PS.sem (ps_expr pe_sem hs) (h.run B H σ _ r fun v d B1 H1 ρ1 p dv g r1 => f.nx B1 H1 σ ρ1 p g r1)
/-- name = e -/
theorem vs_set (C : Cst X M sc NK G k) {i : Nat} {v : Bool} {p : Pos} (ha : At NK i (x, v, true)) (h : VD X e ρ fun d ρ1 => F.nx (ρ1.set i (.dat d))) (hs : swapsWith e (some (.Name x p)) pos.line X.env = pure false := by rfl) : VS X (.Assign [.Name x p] e pos) ρ F := VS.mk fun B H σ Z r f => by
  refine PS.sem (ps_set C.nd (C.ix ha) (C.lo ha) pe_sem hs (C.fn ha)) ?_
  exact h.run B H σ _ r fun w d B1 H1 ρ1 p1 dv g1 r1 => f.nx B1 H1 _ _ p1 (g1.trans go_set) (rel_set r1 dv)
/-- (a, ..) = e -/
theorem vs_asg {tg : Expr} (h : VD X e ρ fun d ρ1 => VG X tg d ρ1 F.nx) (hs : swapsWithSole [tg] e pos.line X.env = pure false := by rfl) (hw : swappedStores [tg] e X.env = pure none := by rfl)
    (h1 : (assignEach [tg] X.env).map (·.2) = [assign tg X.env] := by rfl) : VS X (.Assign [tg] e pos) ρ F := VS.mk fun B H σ Z r f => by
  refine PS.sem (ps_asg pe_sem pg_sem hs hw h1) ?_
  refine h.run B H σ _ r fun v d B1 H1 ρ1 p1 dv g1 r1 => ?_
  exact p1.run v B1 H1 σ _ r1 dv fun B2 H2 σ2 ρ2 p2 g2 r2 => f.nx B2 H2 σ2 ρ2 p2 (g1.trans g2) r2
theorem sw_env {env env' : Env} {ts : List Expr} {v : Expr} (h : env.scope = env'.scope) : swappedStores ts v env = swappedStores ts v env' := by
  unfold swappedStores Env.blockKind Env.kindOf
  rw [h]
/-- a, b = e1, e2 -/
theorem vs_par (C : Cst X M sc NK G k) {i j : Nat} {v w : Bool} {y : Str} {px py pt : Pos} {kt k2 pt2} (hi : At NK i (x, v, true)) (hj : At NK j (y, w, true)) (hij : i ≠ j)
    (h : VD X a ρ fun d ρ1 => VD X b ρ1 fun d2 ρ2 => F.nx ((ρ2.set i (.dat d)).set j (.dat d2)))
    (hw : ∀ env : Env, env.scope = sc → swappedStores [.Tuple [.Name x px, .Name y py] kt pt] (.Tuple [a, b] k2 pt2) env = pure (some [x, y])) (hx : sc.names.lookup x = some .local := by decide +kernel) (hy : sc.names.lookup y = some .local := by decide +kernel)
    (hs : swapsWithSole [.Tuple [.Name x px, .Name y py] kt pt] (.Tuple [a, b] k2 pt2) pos.line X.env = pure false := by rfl)
    (he : starEach [a, b] X.env = (false, eval a X.env) :: starEach [b] X.env := by rfl) (he2 : starEach [b] X.env = (false, eval b X.env) :: starEach [] X.env := by rfl) :
    VS X (.Assign [.Tuple [.Name x px, .Name y py] kt pt] (.Tuple [a, b] k2 pt2) pos) ρ F := VS.mk fun B H σ Z r f => by
  refine PS.sem (ps_par C.calm C.nd (C.ix hi) (C.ix hj) hij (by rw [C.s]; exact hx) (by rw [C.s]; exact hy) (pa_cons pe_sem (pa_cons pe_sem pa_nil he2) he) (hw _ C.s) hs) ?_
  refine h.run B H σ _ r fun vv d B1 H1 ρ1 p1 dv g1 r1 => ?_
  refine p1.run B1 H1 σ _ r1 fun ww d2 B2 H2 ρ2 p2 dw g2 r2 => ⟨vv, ww, rfl, ?_⟩
  exact f.nx B2 H2 _ _ p2 (((g1.trans g2).trans go_set).trans go_set) (rel_set (rel_set r2 (Dp.mono g2.ex dv)) dw)
/-- name = a new list: it is the name's own -/
theorem vs_new (C : Cst X M sc NK G k) {i : Nat} {v : Bool} {p : Pos} (ha : At NK i (x, v, true)) (hi : i < ρ.length) (h : VN X e ρ fun ds ρ1 => ∀ z, F.nx (ρ1.set i (.own z ds))) (hs : swapsWith e (some (.Name x p)) pos.line X.env = pure false := by rfl) : VS X (.Assign [.Name x p] e pos) ρ F := VS.mk fun B H σ Z r f => by
  refine PS.sem (ps_set C.nd (C.ix ha) (C.lo ha) pe_sem hs (C.fn ha)) ?_
  refine h.run B H σ _ r fun z vs ds B1 H1 ρ1 p1 hz h1 bz no dvs g1 r1 => ?_
  have hl : i < ρ1.length := by rw [r1.len, ← r.len]; exact hi
  have own_of : ∀ (j : Nat) a es, (ρ1.set i (.own z ds))[j]? = some (.own a es) → (j = i ∧ a = z ∧ es = ds) ∨ (j ≠ i ∧ ρ1[j]? = some (.own a es)) := fun j a es hj => by
    by_cases w : i = j
    · subst w
      rw [List.getElem?_set_self hl] at hj
      cases hj
      exact .inl ⟨rfl, rfl, rfl⟩
    · rw [List.getElem?_set_ne w] at hj
      exact .inr ⟨fun q => w q.symm, hj⟩
  refine f.nx B1 H1 _ _ (p1 z) ⟨g1.ex, g1.keep, g1.out, fun a ⟨j, es, hj⟩ => ?_, g1.dom⟩ ⟨r1.ex, by rw [List.length_set, List.length_set]; exact r1.len, fun j d hj => ?_, fun j a es hj => ?_, fun j j' a es fs hj hj' => ?_⟩
  · rcases own_of j a es hj with ⟨_, rfl, _⟩ | ⟨_, q⟩
    · exact .inr hz
    · exact g1.own a ⟨j, es, q⟩
  · by_cases w : i = j
    · subst w
      rw [List.getElem?_set_self hl] at hj
      cases hj
    · rw [List.getElem?_set_ne w] at hj ⊢
      exact r1.dat j d hj
  · rcases own_of j a es hj with ⟨rfl, rfl, rfl⟩ | ⟨w, q⟩
    · exact ⟨by rw [List.getElem?_set_self (by rw [← r1.len]; exact hl)], bz, _, h1, vs, rfl, dvs⟩
    · rw [List.getElem?_set_ne (fun q => w q.symm)]
      exact r1.own j a es q
  · rcases own_of j a es hj with ⟨rfl, rfl, rfl⟩ | ⟨w, q⟩
    · rcases own_of j' a fs hj' with ⟨rfl, _, _⟩ | ⟨w', q'⟩
      · rfl
      · exact absurd ⟨j', fs, q'⟩ no
    · rcases own_of j' a fs hj' with ⟨rfl, rfl, _⟩ | ⟨w', q'⟩
      · exact absurd ⟨j, es, q⟩ no
      · exact r1.dis j j' a es fs q q'
/-- a list of one's own is written -/
theorem own_writeO {K : Kw} {B H : Hp} {σ : L2.St} {ρ : En} (r : Rel K B H σ ρ) {i : Nat} {p : Addr} {cs cs' : OD} {u' : HO} (ho : ρ[i]? = some (.own p cs)) (hd : OD.is K B p u' cs') : Rel K B (upd H p u') σ (ρ.set i (.own p cs')) ∧ Go B H ρ B (upd H p u') (ρ.set i (.own p cs')) := by
  obtain ⟨h1, h2, vs, h3, h4⟩ := r.own i p cs ho
  have hlt := (List.getElem?_eq_some_iff.mp ho).1
  have own_of : ∀ (j : Nat) a es, (ρ.set i (.own p cs'))[j]? = some (.own a es) → (j = i ∧ a = p ∧ es = cs') ∨ (j ≠ i ∧ ρ[j]? = some (.own a es)) := fun j a es hj => by
    by_cases w : i = j
    · subst w
      rw [List.getElem?_set_self hlt] at hj
      cases hj
      exact .inl ⟨rfl, rfl, rfl⟩
    · rw [List.getElem?_set_ne w] at hj
      exact .inr ⟨fun q => w q.symm, hj⟩
  have ne : ∀ (j : Nat) a es, j ≠ i → ρ[j]? = some (.own a es) → a ≠ p := fun j a es w q z => w (r.dis j i p es cs (z ▸ q) ho)
  refine ⟨⟨Evl.Ex.mut r.ex h2, by rw [List.length_set]; exact r.len, fun j d hj => ?_, fun j a es hj => ?_, fun j j' a es fs hj hj' => ?_⟩, ⟨Evl.Ex.refl B, fun a o h n => ?_, fun _ _ h _ => h, fun a ⟨j, es, hj⟩ => ?_, fun a z => ?_⟩⟩
  · by_cases w : i = j
    · subst w
      rw [List.getElem?_set_self hlt] at hj
      cases hj
    · rw [List.getElem?_set_ne w] at hj
      exact r.dat j d hj
  · rcases own_of j a es hj with ⟨rfl, rfl, rfl⟩ | ⟨w, q⟩
    · exact ⟨h1, h2, u', upd_same, hd⟩
    · obtain ⟨h5, h6, ws, h7, h8⟩ := r.own j a es q
      exact ⟨h5, h6, ws, by rw [upd_ne (ne j a es w q)]; exact h7, h8⟩
  · rcases own_of j a es hj with ⟨rfl, rfl, rfl⟩ | ⟨w, q⟩
    · rcases own_of j' a fs hj' with ⟨rfl, _, _⟩ | ⟨w', q'⟩
      · rfl
      · exact absurd rfl (ne j' a fs w' q')
    · rcases own_of j' a fs hj' with ⟨rfl, rfl, _⟩ | ⟨w', q'⟩
      · exact absurd rfl (ne j a es w q)
      · exact r.dis j j' a es fs q q'
  · rw [upd_ne (fun z => n ⟨i, cs, by rw [z]; exact ho⟩)]
    exact h
  · rcases own_of j a es hj with ⟨rfl, rfl, rfl⟩ | ⟨w, q⟩
    · exact .inl ⟨_, cs, ho⟩
    · exact .inl ⟨j, es, q⟩
  · by_cases w : a = p
    · rw [w, upd_same] at z
      cases z
    · rw [upd_ne w] at z
      exact z
theorem own_write {K : Kw} {B H : Hp} {σ : L2.St} {ρ : En} (r : Rel K B H σ ρ) {i : Nat} {p : Addr} {cs cs' : List D} {vs' : List V} (ho : ρ[i]? = some (.own p cs)) (hd : DpAll K B vs' cs') : Rel K B (upd H p (.lst vs')) σ (ρ.set i (.own p cs')) ∧ Go B H ρ B (upd H p (.lst vs')) (ρ.set i (.own p cs')) :=
  own_writeO r ho ⟨vs', rfl, hd⟩
/-- xs[j] = e, xs a list of one's own -/
theorem vs_put (C : Cst X M sc NK G k) {i : Nat} {l : Bool} {p : Addr} {cs0 : List D} {px p2 : Pos} (ha : At NK i (x, true, l)) (ho : ρ[i]? = some (.own p cs0))
    (h : VD X e ρ fun d ρ1 => VD X b ρ1 fun y ρ2 => ∃ (n : Int) (j : Nat) (cs : List D), y = .int n ∧ ρ2[i]? = some (.own p cs) ∧ ixN cs.length n = some j ∧ F.nx (ρ2.set i (.own p (cs.set j d))))
    (hs : swapsWithSole [.Subscript (.Name x px) b p2] e pos.line X.env = pure false := by rfl) (hw : swappedStores [.Subscript (.Name x px) b p2] e X.env = pure none := by rfl) (h1 : (assignEach [.Subscript (.Name x px) b p2] X.env).map (·.2) = [assign (.Subscript (.Name x px) b p2) X.env] := by rfl)
    (hd : (x == ("__debug__" : Str)) = false := by decide) (hcd : (x == ("__classdict__" : Str)) = false := by decide)
    (hg : ∀ v, assign (.Subscript (.Name x px) b p2) X.env v = (do
      let ov ← holding [v] (eval (.Name x px) X.env)
      let iv ← holding [v, ov] (eval b X.env)
      standAt p2
      holding [v, ov, iv] (setItem ov iv v)
      release [v, ov, iv] []) := by intro _; rfl) : VS X (.Assign [.Subscript (.Name x px) b p2] e pos) ρ F := VS.mk fun B H σ Z r f => by
  refine PS.sem (ps_asg pe_sem (pg_sub (pe_var (C.ix ha) (C.vi ha) hd hcd) pe_sem set_list hg) hs hw h1) ?_
  refine h.run B H σ _ r fun v d B1 H1 ρ1 p1 dv g1 r1 => ⟨.ref p, (r.own i p cs0 ho).1, ?_⟩
  refine p1.run B1 H1 σ _ r1 fun vy y B2 H2 ρ2 p2 dy g2 r2 => ?_
  obtain ⟨n, j, cs, rfl, ho2, hj, pp⟩ := p2
  obtain ⟨_, _, _, h3, vs, rfl, h4⟩ := r2.own i p cs ho2
  obtain ⟨r3, g3⟩ := own_write r2 ho2 (DpAll.set (Dp.mono g2.ex dv) j h4)
  exact ⟨p, vs, n, j, rfl, dp_int dy, h3, by rw [DpAll.len h4]; exact hj, f.nx B2 _ σ _ pp ((g1.trans g2).trans g3) r3⟩

/-! ### what is walked -/
/-- the iterator's turns give these data -/
def Yields (K : PySem.W.Frag) (J : It) (B : Hp) (ds : List D) : Prop := ∀ (i : Nat) (B1 H1 : Hp), Ex B B1 → Ex B1 H1 →
  (i < ds.length → J.go i H1 ∧ ∀ x H', J.yld i H1 x H' → H' = H1 ∧ ∃ d, ds[i]? = some d ∧ Dp K B1 x d) ∧ (ds.length ≤ i → J.stop i H1)
def iSemI (X : Cx) (tg iter : Expr) : TI := fun σ H R => ∀ pins s, Inv X pins σ H s → wpAny (model X.prog X.w) X.A (eval iter X.env) (fun v s1 => wpAny (model X.prog X.w) X.A (pyIter v) (PIE X pins σ tg R) X.xe s1) X.xe s
theorem pi_sem : PI X tg e (iSemI X tg e) := ⟨fun pins s σ H R I h => h pins s I⟩
theorem PI.sem {wi : TI} (h : PI X tg e wi) {σ : L2.St} {H : Hp} {R : It → Hp → Prop} (q : wi σ H R) : iSemI X tg e σ H R := fun pins s I => h.run pins s σ H R I q
structure VI (X : Cx) (tg iter : Expr) (ρ : En) (P : List D → En → Prop) : Prop where
  run : ∀ B H σ (R : It → Hp → Prop), Rel (kwOf X) B H σ ρ →
  (∀ J ds B' H' ρ', P ds ρ' → Yields X.K J B' ds → Go B H ρ B' H' ρ' → Rel (kwOf X) B' H' σ ρ' → R J H') → iSemI X tg iter σ H R
theorem vi_range {i : Nat} {p : Pos} (C : Cst X M sc NK G k) (hg : At G i "range") (h : VD X a ρ fun d ρ1 => ∃ n : Nat, d = .int (n : Int) ∧ n < 2 ^ 62 ∧ PL ((List.range n).map fun (j : Nat) => PyData.int (j : Int)) ρ1) (hm : M.mg "range" = none := by assumption)
    (hs : starEach [a] X.env = [(false, eval a X.env)] := by rfl) : VI X tg (.Call (.Name "range" p) [a] [] pos) ρ PL := VI.mk fun B H σ R r q => by
  refine PI.sem (pi_range1 (C.g hg) (C.mg hm) (pa_cons pe_sem pa_nil hs) hs) ?_
  refine h.run B H σ _ r fun v d B1 H1 ρ1 p1 dv g1 r1 => ?_
  obtain ⟨n, rfl, hn, pp⟩ := p1
  refine ⟨(n : Int), by rw [dp_int dv], by omega, by omega, q _ _ B1 H1 ρ1 pp (fun j B2 H2 e1 e2 => ⟨fun hj => ⟨?_, fun x H' y => ?_⟩, fun hj => ?_⟩) g1 r1⟩
  · rw [List.length_map, List.length_range] at hj
    show j < (n : Int).toNat
    rw [Int.toNat_natCast]
    exact hj
  · obtain ⟨rfl, rfl⟩ := y
    rw [List.length_map, List.length_range] at hj
    refine ⟨rfl, .int (j : Int), ?_, ?_⟩
    · rw [List.getElem?_map, List.getElem?_range hj]
      rfl
    · rw [Int.zero_add]
      exact .int _
  · rw [List.length_map, List.length_range] at hj
    show (n : Int).toNat ≤ j
    rw [Int.toNat_natCast]
    exact hj
theorem vi_tup (h : VD X e ρ fun d ρ1 => ∃ ds, d = .tuple ds ∧ PL ds ρ1) : VI X tg e ρ PL := VI.mk fun B H σ R r q => by
  refine PI.sem (pi_tup pe_sem) ?_
  refine h.run B H σ _ r fun v d B1 H1 ρ1 p1 dv g1 r1 => ?_
  obtain ⟨ds, rfl, pp⟩ := p1
  obtain ⟨t, vs, rfl, hT, hv⟩ := dp_tup dv
  refine ⟨t, rfl, ⟨vs, ex_t r1.ex hT⟩, q _ ds B1 H1 ρ1 pp (fun j B2 H2 e1 e2 => ⟨fun hj => ?_, fun hj => ⟨vs, ex_t (e1.trans e2) hT, by rw [DpAll.len hv]; exact hj⟩⟩) g1 r1⟩
  have hj' : j < vs.length := by rw [DpAll.len hv]; exact hj
  refine ⟨⟨vs, vs[j], ex_t (e1.trans e2) hT, List.getElem?_eq_getElem hj'⟩, fun x H' y => ?_⟩
  obtain ⟨rfl, y2⟩ := y
  refine ⟨rfl, ?_⟩
  obtain ⟨d, h1, h2⟩ := DpAll.getV hv (y2 vs (ex_t (e1.trans e2) hT))
  exact ⟨d, h1, Dp.mono e1 h2⟩
theorem vi_lst (h : VD X e ρ fun d ρ1 => ∃ ds, d = .list ds ∧ PL ds ρ1) : VI X tg e ρ PL := VI.mk fun B H σ R r q => by
  refine PI.sem (pi_list pe_sem) ?_
  refine h.run B H σ _ r fun v d B1 H1 ρ1 p1 dv g1 r1 => ?_
  obtain ⟨ds, rfl, pp⟩ := p1
  obtain ⟨t, vs, rfl, hT, hv⟩ := dp_lst dv
  refine ⟨t, rfl, ⟨vs, ex_l r1.ex hT⟩, q _ ds B1 H1 ρ1 pp (fun j B2 H2 e1 e2 => ⟨fun hj => ?_, fun hj => ⟨vs, ex_l (e1.trans e2) hT, by rw [DpAll.len hv]; exact hj⟩⟩) g1 r1⟩
  have hj' : j < vs.length := by rw [DpAll.len hv]; exact hj
  refine ⟨⟨vs, vs[j], ex_l (e1.trans e2) hT, List.getElem?_eq_getElem hj'⟩, fun x H' y => ?_⟩
  obtain ⟨rfl, y2⟩ := y
  refine ⟨rfl, ?_⟩
  obtain ⟨d, h1, h2⟩ := DpAll.getV hv (y2 vs (ex_l (e1.trans e2) hT))
  exact ⟨d, h1, Dp.mono e1 h2⟩

/-! ### for -/
theorem vs_for (C : Cst X M sc NK G k) {body : List Stmt} (h : VI X tg e ρ fun ds ρ1 => ∃ W : Nat → En → Prop, W 0 ρ1 ∧
      (∀ (i : Nat) d ρ', ds[i]? = some d → W i ρ' → VG X tg d ρ' fun ρ2 => VSs X body ρ2 { nx := W (i + 1), rt := F.rt, bk := F.nx, ct := W (i + 1) }) ∧ ∀ ρ', W ds.length ρ' → F.nx ρ')
    (hs : ∀ x, foldedSetIterable e X.env x = pure x := by intro _; rfl) : VS X (.For tg e body [] pos) ρ F := VS.mk fun B H σ Z r f => by
  refine PS.sem (ps_for C.never C.calm pi_sem pg_sem pss_sem hs) ?_
  refine h.run B H σ _ r fun J ds B1 H1 ρ1 p1 yl g1 r1 => ?_
  obtain ⟨W, w0, step, done⟩ := p1
  refine ⟨fun i m σ' H' => m = ds.length - i ∧ i ≤ ds.length ∧ ∃ B' ρ', W i ρ' ∧ Go B1 H1 ρ1 B' H' ρ' ∧ Rel (kwOf X) B' H' σ' ρ', ⟨ds.length, by omega, by omega, B1, ρ1, w0, Go.refl, r1⟩, ?_⟩
  rintro i m σ' H' ⟨rfl, hi, B', ρ', w, g, r'⟩
  obtain ⟨y1, y2⟩ := yl i B' H' g.ex r'.ex
  by_cases hlt : i < ds.length
  · obtain ⟨go, y⟩ := y1 hlt
    refine .inr ⟨go, fun σ2 H2 => ∃ B2 ρ2, W (i + 1) ρ2 ∧ Go B1 H1 ρ1 B2 H2 ρ2 ∧ Rel (kwOf X) B2 H2 σ2 ρ2, fun σ2 H2 ⟨B2, ρ2, w2, g2, r2⟩ => ⟨ds.length - (i + 1), by omega, rfl, hlt, B2, ρ2, w2, g2, r2⟩, fun x H2 hy => ?_⟩
    obtain ⟨rfl, d, hd, dx⟩ := y x H2 hy
    refine (step i d ρ' hd w).run x B' H2 σ' _ r' dx fun B2 H3 σ2 ρ2 p2 g2 r2 => ?_
    refine p2.run B2 H3 σ2 _ r2 ⟨fun B3 H4 σ3 ρ3 p3 g3 r3 => ⟨B3, ρ3, p3, (g.trans g2).trans g3, r3⟩, fun v d B3 H4 σ3 ρ3 p3 dv g3 r3 => f.rt v d B3 H4 σ3 ρ3 p3 dv (g1.trans ((g.trans g2).trans g3)) r3, fun B3 H4 σ3 ρ3 p3 g3 r3 => f.nx B3 H4 σ3 ρ3 p3 (g1.trans ((g.trans g2).trans g3)) r3, fun B3 H4 σ3 ρ3 p3 g3 r3 => ⟨B3, ρ3, p3, (g.trans g2).trans g3, r3⟩⟩
  · have e : i = ds.length := by omega
    subst e
    exact .inl ⟨y2 (Nat.le_refl _), f.nx B' H' σ' ρ' (done ρ' w) (g1.trans g) r'⟩
theorem vs_while (C : Cst X M sc NK G k) {body : List Stmt} (W : Nat → En → Prop) (m0 : Nat) (h0 : W m0 ρ)
    (h : ∀ m ρ', W m ρ' → VT X c ρ' fun bb ρ1 => (bb = true → VSs X body ρ1 { nx := fun ρ2 => ∃ m', m' < m ∧ W m' ρ2, rt := F.rt, bk := F.nx, ct := fun ρ2 => ∃ m', m' < m ∧ W m' ρ2 }) ∧ (bb = false → F.nx ρ1)) : VS X (.While c body [] pos) ρ F := VS.mk fun B H σ Z r f => by
  refine PS.sem (ps_while C.never pb_sem pss_sem) ?_
  refine ⟨fun m σ' H' => ∃ B' ρ', W m ρ' ∧ Go B H ρ B' H' ρ' ∧ Rel (kwOf X) B' H' σ' ρ', ⟨m0, B, ρ, h0, Go.refl, r⟩, fun m σ' H' ⟨B', ρ', w, g, r'⟩ => ?_⟩
  refine (h m ρ' w).run B' H' σ' _ r' fun bb B1 H1 ρ1 p1 g1 r1 => ?_
  cases bb with
  | true =>
    rw [if_pos rfl]
    refine ⟨fun σ2 H2 => ∃ m', m' < m ∧ ∃ B' ρ', W m' ρ' ∧ Go B H ρ B' H2 ρ' ∧ Rel (kwOf X) B' H2 σ2 ρ', fun σ2 H2 ⟨m', hm, q⟩ => ⟨m', hm, q⟩, (p1.1 rfl).run B1 H1 σ' _ r1 ⟨fun B3 H4 σ3 ρ3 p3 g3 r3 => ?_, fun v d B3 H4 σ3 ρ3 p3 dv g3 r3 => f.rt v d B3 H4 σ3 ρ3 p3 dv ((g.trans g1).trans g3) r3, fun B3 H4 σ3 ρ3 p3 g3 r3 => f.nx B3 H4 σ3 ρ3 p3 ((g.trans g1).trans g3) r3, fun B3 H4 σ3 ρ3 p3 g3 r3 => ?_⟩⟩
    · obtain ⟨m', hm, w'⟩ := p3
      exact ⟨m', hm, B3, ρ3, w', (g.trans g1).trans g3, r3⟩
    · obtain ⟨m', hm, w'⟩ := p3
      exact ⟨m', hm, B3, ρ3, w', (g.trans g1).trans g3, r3⟩
  | false =>
    rw [if_neg Bool.false_ne_true]
    exact f.nx B1 H1 σ' ρ1 (p1.2 rfl) (g.trans g1) r1
end

open PySem PySem.Spec PyProof.Rows L2
open Evl (Ex)

section
variable {X : Cx} {M : Md} {sc : Scope} {NK : List (Str × Bool × Bool)} {G : List Str} {k : Nat} {ρ : En} {P : D → En → Prop} {PL : List D → En → Prop} {pos : Pos} {e : Expr}

/-! ### comprehensions -/
def uSem (X : Cx) (scope : Scope) (e : Expr) : TE := fun σ H Q => ∀ s H0 C cl fp, eSem (X.blk s H0 scope (compEnvC scope cl C X.env) fp) e σ H Q
theorem pe_uSem {scope : Scope} : ∀ (s : Shared) (H : Hp) (C : Addr) (cl : List (Str × Addr)) (fp : List Addr), PE (X.blk s H scope (compEnvC scope cl C X.env) fp) e (uSem X scope e) :=
  fun s H C cl fp => ⟨fun pins s' σ H' Q I h => h s H C cl fp pins s' I⟩
theorem rel_no {K : Kw} {B H : Hp} {σ σ2 : L2.St} {ρ : En} {i : Nat} (r : Rel K B H σ2 ρ) (h : σ2.set i none = σ.set i none) : Rel K B H σ (ρ.set i .no) := by
  have hl : σ2.length = σ.length := by
    have := congrArg List.length h
    rw [List.length_set, List.length_set] at this
    exact this
  have back : ∀ (j : Nat) s, s ≠ Sl.no → (ρ.set i .no)[j]? = some s → j ≠ i ∧ ρ[j]? = some s := fun j s hs hj => by
    by_cases z : i = j
    · subst z
      by_cases hi : i < ρ.length
      · rw [List.getElem?_set_self hi] at hj
        exact absurd (Option.some.inj hj).symm hs
      · rw [List.getElem?_eq_none (by rw [List.length_set]; omega)] at hj
        cases hj
    · rw [List.getElem?_set_ne z] at hj
      exact ⟨fun q => z q.symm, hj⟩
  have eq : ∀ j, j ≠ i → σ2[j]? = σ[j]? := fun j hj => by
    have := congrArg (fun l : L2.St => l[j]?) h
    simp only [List.getElem?_set_ne (Ne.symm hj)] at this
    exact this
  refine ⟨r.ex, by rw [List.length_set, r.len, hl], fun j d hj => ?_, fun j a ds hj => ?_, fun j j' a ds es hj hj' => ?_⟩
  · obtain ⟨h1, h2⟩ := back j (.dat d) (by intro z; cases z) hj
    rw [← eq j h1]
    exact r.dat j d h2
  · obtain ⟨h1, h2⟩ := back j (.own a ds) (by intro z; cases z) hj
    rw [← eq j h1]
    exact r.own j a ds h2
  · exact r.dis j j' a ds es (back j (.own a ds) (by intro z; cases z) hj).2 (back j' (.own a es) (by intro z; cases z) hj').2
theorem own_no {ρ : En} {i : Nat} {a : Addr} (h : Own (ρ.set i .no) a) : Own ρ a := by
  obtain ⟨j, ds, hj⟩ := h
  by_cases z : i = j
  · subst z
    by_cases hl : i < ρ.length
    · rw [List.getElem?_set_self hl] at hj
      cases hj
    · rw [List.getElem?_eq_none (by rw [List.length_set]; omega)] at hj
      cases hj
  · rw [List.getElem?_set_ne z] at hj
    exact ⟨j, ds, hj⟩
theorem go_no {B H : Hp} {ρ : En} {i : Nat} : Go B H ρ B H (ρ.set i .no) := ⟨Evl.Ex.refl B, fun _ _ h _ => h, fun _ _ h _ => h, fun _ h => .inl (own_no h), fun _ h => h⟩
/-- the list that is being made, one more -/
theorem acc_put {K : Kw} {B H B1 H1 : Hp} {σ : L2.St} {ρ ρ1 : En} {p : Addr} {o : HO} (g : Go B H ρ B1 H1 ρ1) (r : Rel K B1 H1 σ ρ1) (hp : H p = none) (bp : B1 p = none) (no : ¬ Own ρ1 p) : Go B H ρ B1 (upd H1 p o) ρ1 ∧ Rel K B1 (upd H1 p o) σ ρ1 := by
  refine ⟨⟨g.ex, fun a u h n => ?_, g.out, g.own, fun a z => ?_⟩, ⟨Evl.Ex.mut r.ex bp, r.len, r.dat, fun i a ds h => ?_, r.dis⟩⟩
  · rw [upd_ne (ne_of_none h hp)]
    exact g.keep a u h n
  · by_cases w : a = p
    · rw [w]
      exact hp
    · rw [upd_ne w] at z
      exact g.dom a z
  · obtain ⟨h1, h2, vs, h3, h4⟩ := r.own i a ds h
    exact ⟨h1, h2, vs, by rw [upd_ne (fun z => no ⟨i, ds, by rw [← z]; exact h⟩)]; exact h3, h4⟩
/-- what a comprehension's reading asks -/
theorem lc_read {B H : Hp} {σ : L2.St} {Q : VK} {scope : Scope} {i : Nat} {y : Str} {py : Pos} {elt iter : Expr} {Cb : Cx → Prop} (r : Rel (kwOf X) B H σ ρ)
    (cb : ∀ (s : Shared) (H : Hp) (Ca : Addr) (cl : List (Str × Addr)) (fp : List Addr), Cb (X.blk s H scope (compEnvC scope cl Ca X.env) fp))
    (h : VI X (.Name y py) iter ρ fun ds ρ1 => ds.length ≤ 100000 ∧ ∃ W : Nat → List D → En → Prop, W 0 [] ρ1 ∧
      (∀ (j : Nat) d acc ρ', ds[j]? = some d → W j acc ρ' → ∀ X', Cb X' → VD X' elt (ρ'.set i (.dat d)) fun u ρ4 => W (j + 1) (acc ++ [u]) (ρ4.set i .no)) ∧
      ∀ acc ρ', W ds.length acc ρ' → PL acc ρ')
    (q : ∀ p vs ds B' H' ρ', PL ds ρ' → H p = none → H' p = some (.lst vs) → B' p = none → ¬ Own ρ' p → DpAll X.K B' vs ds → Go B H ρ B' H' ρ' → Rel (kwOf X) B' H' σ ρ' → Q (.ref p) H') :
    tLc (iSemI X (.Name y py) iter) (gName i) tYes (uSem X scope elt) [i] σ H Q := by
  refine h.run B H σ _ r fun J ds B1 H1 ρ1 p1 yl g1 r1 Dl hD => ?_
  obtain ⟨hlen, W, w0, step, done⟩ := p1
  have bD : B1 Dl = none := by
    cases e : B1 Dl with
    | none => rfl
    | some u =>
      rw [r1.ex Dl u e] at hD
      cases hD
  have nD : ¬ Own ρ1 Dl := fun ⟨j, es, hj⟩ => by
    obtain ⟨_, _, ws, h7, _⟩ := r1.own j Dl es hj
    rw [hD] at h7
    cases h7
  refine ⟨fun j m H' => m = ds.length - j ∧ j ≤ ds.length ∧ ∃ acc vs B' ρ', W j acc ρ' ∧ acc.length = j ∧ H' Dl = some (.lst vs) ∧ B' Dl = none ∧ ¬ Own ρ' Dl ∧ DpAll X.K B' vs acc ∧ Go B1 H1 ρ1 B' H' ρ' ∧ Rel (kwOf X) B' H' σ ρ', ⟨ds.length, by omega, by omega, [], [], B1, ρ1, w0, rfl, upd_same, bD, nD, .nil, (acc_put Go.refl r1 hD bD nD).1, (acc_put Go.refl r1 hD bD nD).2⟩, ?_⟩
  rintro j m H' ⟨rfl, hj, acc, vs, B', ρ', w, hacc, hl, bl, nl, dacc, g, r'⟩
  obtain ⟨y1, y2⟩ := yl j B' H' g.ex r'.ex
  by_cases hlt : j < ds.length
  · obtain ⟨go, yy⟩ := y1 hlt
    refine .inr ⟨go, fun H2 => ∃ acc vs B' ρ', W (j + 1) acc ρ' ∧ acc.length = j + 1 ∧ H2 Dl = some (.lst vs) ∧ B' Dl = none ∧ ¬ Own ρ' Dl ∧ DpAll X.K B' vs acc ∧ Go B1 H1 ρ1 B' H2 ρ' ∧ Rel (kwOf X) B' H2 σ ρ', fun H2 hN2 => ⟨ds.length - (j + 1), by omega, rfl, hlt, hN2⟩, fun x H2 hy2 => ?_⟩
    obtain ⟨rfl, d, hd, dx⟩ := yy x H2 hy2
    have st := step j d acc ρ' hd w
    -- the block's slots
    have rw0 : Rel (kwOf X) B' H2 (σ.set i none) (ρ'.set i .no) := rel_no r' (by rw [List.set_set])
    have rw1 : Rel (kwOf X) B' H2 ((wipe σ [i]).set i (some x)) (ρ'.set i (.dat d)) := by
      have q1 : Rel (kwOf X) B' H2 ((σ.set i none).set i (some x)) ((ρ'.set i .no).set i (.dat d)) := rel_set (i := i) rw0 dx
      have q2 : (ρ'.set i .no).set i (Sl.dat d) = ρ'.set i (.dat d) := List.set_set ..
      rw [q2] at q1
      exact q1
    refine ⟨?_, fun s0 H0 Ca cl fp => ?_⟩
    · show (((σ.set i none).set i (some x)).set i none) = σ.set i none
      rw [List.set_set, List.set_set]
    · have vd := st _ (cb s0 H0 Ca cl fp)
      refine vd.run B' H2 ((wipe σ [i]).set i (some x)) _ rw1 fun u du B4 H4 ρ4 p4 dv g4 r4 => ?_
      have gA : Go B1 H1 ρ1 B4 H4 ρ4 := (g.trans go_set).trans g4
      have nl2 : ¬ Own (ρ'.set i (.dat d)) Dl := fun z => nl (own_set z)
      have hD4 : H4 Dl = some (.lst vs) := g4.keep Dl _ hl nl2
      have bD4 : B4 Dl = none := g4.out Dl (by rw [hl]; exact fun z => by cases z) bl nl2
      have nD4 : ¬ Own ρ4 Dl := fun z => (g4.own Dl z).elim nl2 fun e => by rw [hl] at e; cases e
      have rS : Rel (kwOf X) B4 H4 σ (ρ4.set i .no) := rel_no r4 (by
        show ((σ.set i none).set i (some x)).set i none = σ.set i none
        rw [List.set_set, List.set_set])
      have gS : Go B1 H1 ρ1 B4 H4 (ρ4.set i .no) := gA.trans go_no
      have nS : ¬ Own (ρ4.set i .no) Dl := fun z => nD4 (own_no z)
      obtain ⟨gF, rF⟩ := acc_put (o := .lst (vs ++ [u])) gS rS hD bD4 nS
      refine ⟨vs, hD4, ?_, acc ++ [du], vs ++ [u], B4, ρ4.set i .no, p4, by rw [List.length_append, hacc]; rfl, upd_same, bD4, nS, DpAll.app (DpAll.mono g4.ex dacc) (.cons dv .nil), gF, rF⟩
      rw [DpAll.len dacc, hacc]
      exact Nat.lt_of_lt_of_le hlt (Nat.le_trans hlen (by decide))
  · have e : j = ds.length := by omega
    subst e
    exact .inl ⟨y2 (Nat.le_refl _), q Dl vs acc B' H' ρ' (done acc ρ' w) (g1.dom Dl hD) hl bl nl dacc (g1.trans g) r'⟩
/-- [elt for y in iter] -/
theorem vn_lc (C : Cst X M sc NK G k) {scope : Scope} {i : Nat} {y : Str} {py : Pos} {elt iter : Expr} {v : Bool} (NK' : List (Str × Bool × Bool)) (G' : List Str) (hy : At NK' i (y, v, true))
    (h : VI X (.Name y py) iter ρ fun ds ρ1 => ds.length ≤ 100000 ∧ ∃ W : Nat → List D → En → Prop, W 0 [] ρ1 ∧
      (∀ (j : Nat) d acc ρ', ds[j]? = some d → W j acc ρ' → ∀ X', Cst X' M (relS scope sc) NK' G' k → VD X' elt (ρ'.set i (.dat d)) fun u ρ4 => W (j + 1) (acc ++ [u]) (ρ4.set i .no)) ∧
      ∀ acc ρ', W ds.length acc ρ' → PL acc ρ')
    (ok : blkC (NK.map (·.1)) sc scope [(y, i)] = true := by decide +kernel) (hN : NK'.map (·.1) = NK.map (·.1) := by rfl) (hc : chk (relS scope sc) false NK' G' = true := by decide +kernel)
    (hs : ∀ x, foldedSetIterable iter X.env x = pure x := by intro _; rfl) : VN X (.ListComp elt [⟨.Name y py, iter, [], 0⟩] scope pos) ρ PL := VN.mk fun B H σ Q r q => by
  have ok' : BlkOk X.N X.env.scope scope [(y, i)] := by
    rw [C.n, C.s]
    exact blkOk_by ok
  have cb : ∀ (s : Shared) (H : Hp) (Ca : Addr) (cl : List (Str × Addr)) (fp : List Addr), Cst (X.blk s H scope (compEnvC scope cl Ca X.env) fp) M (relS scope sc) NK' G' k := fun s H Ca cl fp => cst_blk C hN hc
  exact PE.sem (pe_lc (g := gName i) (tt := tYes) C.calm C.nd pi_sem ok' (fun s H Ca cl fp => pg_name (cb s H Ca cl fp).nd ((cb s H Ca cl fp).ix hy) ((cb s H Ca cl fp).lo hy) ((cb s H Ca cl fp).fn hy)) (fun _ _ _ _ _ => pts_nil) pe_uSem hs)
    (lc_read (Cb := fun X' => Cst X' M (relS scope sc) NK' G' k) r cb h q)
/-- a new list into a slot: as one's own -/
theorem own_newO {K : Kw} {B H B1 H1 : Hp} {σ : L2.St} {ρ ρ1 : En} {i : Nat} {z : Addr} {u : HO} {ds : OD} (hl : i < ρ1.length) (hz : H z = none) (h1 : H1 z = some u) (bz : B1 z = none) (no : ¬ Own ρ1 z) (dvs : OD.is K B1 z u ds) (g1 : Go B H ρ B1 H1 ρ1) (r1 : Rel K B1 H1 σ ρ1) :
    Go B H ρ B1 H1 (ρ1.set i (.own z ds)) ∧ Rel K B1 H1 (σ.set i (some (.ref z))) (ρ1.set i (.own z ds)) := by
  have own_of : ∀ (j : Nat) a es, (ρ1.set i (.own z ds))[j]? = some (.own a es) → (j = i ∧ a = z ∧ es = ds) ∨ (j ≠ i ∧ ρ1[j]? = some (.own a es)) := fun j a es hj => by
    by_cases w : i = j
    · subst w
      rw [List.getElem?_set_self hl] at hj
      cases hj
      exact .inl ⟨rfl, rfl, rfl⟩
    · rw [List.getElem?_set_ne w] at hj
      exact .inr ⟨fun q => w q.symm, hj⟩
  refine ⟨⟨g1.ex, g1.keep, g1.out, fun a ⟨j, es, hj⟩ => ?_, g1.dom⟩, ⟨r1.ex, by rw [List.length_set, List.length_set]; exact r1.len, fun j d hj => ?_, fun j a es hj => ?_, fun j j' a es fs hj hj' => ?_⟩⟩
  · rcases own_of j a es hj with ⟨_, rfl, _⟩ | ⟨_, q⟩
    · exact .inr hz
    · exact g1.own a ⟨j, es, q⟩
  · by_cases w : i = j
    · subst w
      rw [List.getElem?_set_self hl] at hj
      cases hj
    · rw [List.getElem?_set_ne w] at hj ⊢
      exact r1.dat j d hj
  · rcases own_of j a es hj with ⟨rfl, rfl, rfl⟩ | ⟨w, q⟩
    · exact ⟨by rw [List.getElem?_set_self (by rw [← r1.len]; exact hl)], bz, u, h1, dvs⟩
    · rw [List.getElem?_set_ne (fun q => w q.symm)]
      exact r1.own j a es q
  · rcases own_of j a es hj with ⟨rfl, rfl, rfl⟩ | ⟨w, q⟩
    · rcases own_of j' a fs hj' with ⟨rfl, _, _⟩ | ⟨w', q'⟩
      · rfl
      · exact absurd ⟨j', fs, q'⟩ no
    · rcases own_of j' a fs hj' with ⟨rfl, rfl, _⟩ | ⟨w', q'⟩
      · exact absurd ⟨j, es, q⟩ no
      · exact r1.dis j j' a es fs q q'
theorem own_new {K : Kw} {B H B1 H1 : Hp} {σ : L2.St} {ρ ρ1 : En} {i : Nat} {z : Addr} {vs : List V} {ds : List D} (hl : i < ρ1.length) (hz : H z = none) (h1 : H1 z = some (.lst vs)) (bz : B1 z = none) (no : ¬ Own ρ1 z) (dvs : DpAll K B1 vs ds) (g1 : Go B H ρ B1 H1 ρ1) (r1 : Rel K B1 H1 σ ρ1) :
    Go B H ρ B1 H1 (ρ1.set i (.own z ds)) ∧ Rel K B1 H1 (σ.set i (some (.ref z))) (ρ1.set i (.own z ds)) := own_newO hl hz h1 bz no ⟨vs, rfl, dvs⟩ g1 r1
/-- a slot's own list is told as data that stays -/
theorem own_frz {K : Kw} {B H B1 H1 : Hp} {σ : L2.St} {ρ ρ1 : En} {z : Addr} {vs : List V} {ds : List D} (hz : H z = none) (h1 : H1 z = some (.lst vs)) (bz : B1 z = none) (no : ¬ Own ρ1 z) (dvs : DpAll K B1 vs ds) (g1 : Go B H ρ B1 H1 ρ1) (r1 : Rel K B1 H1 σ ρ1) :
    Go B H ρ (upd B1 z (.lst vs)) H1 ρ1 ∧ Rel K (upd B1 z (.lst vs)) H1 σ ρ1 ∧ Dp K (upd B1 z (.lst vs)) (.ref z) (.list ds) := by
  have eB : Ex B1 (upd B1 z (.lst vs)) := Evl.Ex.new bz
  have ne : ∀ a, Own ρ1 a → a ≠ z := fun a w e => no (by rw [← e]; exact w)
  refine ⟨⟨g1.ex.trans eB, g1.keep, fun a h1 h2 h3 => ?_, g1.own, g1.dom⟩, ⟨fun a u ha => ?_, r1.len, fun i d hi => ?_, fun i a ds' hi => ?_, r1.dis⟩, .lst (.inl (.inl upd_same)) (DpAll.mono eB dvs)⟩
  · rw [upd_ne (fun w => h1 (by rw [w]; exact hz))]
    exact g1.out a h1 h2 h3
  · by_cases w : a = z
    · rw [w, upd_same] at ha
      rw [w, h1]
      exact ha
    · rw [upd_ne w] at ha
      exact r1.ex a u ha
  · obtain ⟨v, h1, h2⟩ := r1.dat i d hi
    exact ⟨v, h1, Dp.mono eB h2⟩
  · obtain ⟨h1, h2, ws, h3, h4⟩ := r1.own i a ds' hi
    refine ⟨h1, ?_, ws, h3, OD.mono eB h4⟩
    rw [upd_ne (ne a ⟨i, ds', hi⟩)]
    exact h2
/-- name = [elt for y in iter], on one line, as data that stays -/
theorem vs_setLc (C : Cst X M sc NK G k) {F : Fin} {scope : Scope} {i m : Nat} {x y : Str} {px py spos : Pos} {elt iter : Expr} {v v2 : Bool} (NK' : List (Str × Bool × Bool)) (G' : List Str) (hx : At NK m (x, v2, true)) (hy : At NK' i (y, v, true))
    (h : VI X (.Name y py) iter ρ fun ds ρ1 => ds.length ≤ 100000 ∧ ∃ W : Nat → List D → En → Prop, W 0 [] ρ1 ∧
      (∀ (j : Nat) d acc ρ', ds[j]? = some d → W j acc ρ' → ∀ X', Cst X' M (relS scope sc) NK' G' k → VD X' elt (ρ'.set i (.dat d)) fun u ρ4 => W (j + 1) (acc ++ [u]) (ρ4.set i .no)) ∧
      ∀ acc ρ', W ds.length acc ρ' → F.nx (ρ'.set m (.dat (.list acc))))
    (hk : sc.kind = .function := by rfl) (hxl : sc.names.lookup x = some .local := by decide +kernel) (hpl : (px.line == pos.line) = true := by rfl) (hpa : (scope.names.any fun (n, k) => n == x && (k == .local || k == .cell)) = false := by decide +kernel)
    (ok : blkC (NK.map (·.1)) sc scope [(y, i)] = true := by decide +kernel) (hN : NK'.map (·.1) = NK.map (·.1) := by rfl) (hc : chk (relS scope sc) false NK' G' = true := by decide +kernel)
    (hs : ∀ x, foldedSetIterable iter X.env x = pure x := by intro _; rfl) : VS X (.Assign [.Name x px] (.ListComp elt [⟨.Name y py, iter, [], 0⟩] scope pos) spos) ρ F := VS.mk fun B H σ Z r f => by
  have ok' : BlkOk X.N X.env.scope scope [(y, i)] := by
    rw [C.n, C.s]
    exact blkOk_by ok
  have cb : ∀ (s : Shared) (H : Hp) (Ca : Addr) (cl : List (Str × Addr)) (fp : List Addr), Cst (X.blk s H scope (compEnvC scope cl Ca X.env) fp) M (relS scope sc) NK' G' k := fun s H Ca cl fp => cst_blk C hN hc
  refine PS.sem (ps_setLc (g := gName i) (tt := tYes) (i := m) C.calm C.nd (C.ix hx) (by rw [C.s]; exact hxl) (sw_true (by rw [C.s]; exact hk) (by rw [C.s]; exact hxl) hpl hpa) pi_sem ok' (fun s H Ca cl fp => pg_name (cb s H Ca cl fp).nd ((cb s H Ca cl fp).ix hy) ((cb s H Ca cl fp).lo hy) ((cb s H Ca cl fp).fn hy)) (fun _ _ _ _ _ => pts_nil) pe_uSem hs) ?_
  refine lc_read (Cb := fun X' => Cst X' M (relS scope sc) NK' G' k) (PL := fun acc ρ' => F.nx (ρ'.set m (.dat (.list acc)))) r cb h fun z vs ds B1 H1 ρ1 p hz h1 bz no dvs g1 r1 => ?_
  obtain ⟨g2, r2, d2⟩ := own_frz hz h1 bz no dvs g1 r1
  exact f.nx _ H1 _ _ p (g2.trans go_set) (rel_set r2 d2)
end

/-! ### defs -/
section
variable {M : Md} {x : Str} {st : Stmt} {f : Addr} {fd : FuncData} {N ps : List Str} {NK : List (Str × Bool × Bool)} {G : List Str} {k n : Nat}
theorem start_get {vs : List V} {N : List Str} {i : Nat} {v : V} (h : vs[i]? = some v) : (L2.start N vs)[i]? = some (some v) := by
  unfold L2.start
  rw [List.getElem?_append_left (by rw [List.length_map]; exact (List.getElem?_eq_some_iff.mp h).1), List.getElem?_map, h]
  rfl
theorem slots_get {ds : List D} {m i : Nat} {s : Sl} (h : (ds.map Sl.dat ++ List.replicate m Sl.no)[i]? = some s) : (∃ d, s = .dat d ∧ ds[i]? = some d) ∨ s = .no := by
  by_cases hi : i < ds.length
  · rw [List.getElem?_append_left (by rw [List.length_map]; exact hi), List.getElem?_map] at h
    cases e : ds[i]? with
    | none =>
      rw [e] at h
      cases h
    | some d =>
      rw [e] at h
      cases h
      exact .inl ⟨d, rfl, rfl⟩
  · rw [List.getElem?_append_right (by rw [List.length_map]; omega), List.getElem?_replicate] at h
    split at h
    · cases h
      exact .inr rfl
    · cases h
theorem rel_start {K : Kw} {B H : Hp} {vs : List V} {ds : List D} (e : Ex B H) (h : DpAll K B vs ds) (hl : ds.length ≤ N.length) : Rel K B H (L2.start N vs) (ds.map Sl.dat ++ List.replicate (N.length - ds.length) Sl.no) := by
  refine ⟨e, ?_, fun i d hi => ?_, fun i a es hi => ?_, fun i j a es fs hi _ => ?_⟩
  · unfold L2.start
    rw [List.length_append, List.length_append, List.length_map, List.length_map, List.length_replicate, List.length_replicate, DpAll.len h]
  · rcases slots_get hi with ⟨d', e1, e2⟩ | e1
    · cases e1
      obtain ⟨v, h1, h2⟩ := DpAll.get h e2
      exact ⟨v, start_get h1, h2⟩
    · cases e1
  · rcases slots_get hi with ⟨d', e1, e2⟩ | e1 <;> cases e1
  · rcases slots_get hi with ⟨d', e1, e2⟩ | e1 <;> cases e1
theorem fnOk_mk {S : List D → (D → Prop) → Prop} (F : Fun M.K x x st f fd) (Sc : FnScope N ps (defScope st)) (hN : N = NK.map (·.1)) (hc : chk (defScope st) true NK G = true) (hn : ps.length = n) (hnN : n ≤ N.length)
    (body : ∀ X, Cst X M (defScope st) NK G k → ∀ ds W, ds.length = n → S ds W → VSs X (defBody st) (ds.map Sl.dat ++ List.replicate (N.length - n) Sl.no) { nx := fun _ => W .none, rt := fun d _ => W d }) : FnOk M.prog M.w M.K M.mg M.base CX0 (k + 1) f fd ps (DS M.K n S) := by
  refine F.ok Sc (fun vs H Q E h => ?_) (fun cdv A outer s H vs Q E hr h => ?_)
  · obtain ⟨B, ds, W, e, d, hl, _⟩ := h
    rw [DpAll.len d, hl, hn]
  · obtain ⟨B, ds, W, e, d, hl, hS, q⟩ := h
    have C : Cst (cxOf CX0 M.prog M.w M.K M.mg M.base N x (defScope st) f cdv A outer s H E).nox M (defScope st) NK G k := cst_def hN Sc.nd hc hr
    refine ⟨_, pss_sem, ?_⟩
    have bd := body _ C ds W hl hS
    have r0 := rel_start (K := kwM M) (N := N) (ds := ds) e d (by omega)
    rw [hl] at r0
    have no0 : ∀ a, ¬ Own (ds.map Sl.dat ++ List.replicate (N.length - n) Sl.no) a := fun a ⟨i, es, hi⟩ => by
      rcases slots_get hi with ⟨d', e1, e2⟩ | e1 <;> cases e1
    refine bd.run B H _ _ r0 ⟨fun B' H' σ' ρ' p g r => ?_, fun v dd B' H' σ' ρ' p dv g r => ?_, fun _ _ _ _ p => p.elim, fun _ _ _ _ p => p.elim⟩
    · exact q .non .none B' H' p .non g.ex r.ex (fun a o h => g.keep a o h (no0 a)) fun a h1 h2 => g.out a h1 h2 (no0 a)
    · exact q v dd B' H' p dv g.ex r.ex (fun a o h => g.keep a o h (no0 a)) fun a h1 h2 => g.out a h1 h2 (no0 a)
theorem fnD_mk {S : List D → (D → Prop) → Prop} (F : Fun M.K x x st f fd) (Sc : FnScope N ps (defScope st)) (hm : M.mg x = some (.ref f)) (b : Binds M.K fd ps []) (hN : N = NK.map (·.1)) (hc : chk (defScope st) true NK G = true) (hn : ps.length = n) (hnN : n ≤ N.length)
    (body : ∀ X, Cst X M (defScope st) NK G k → ∀ ds W, ds.length = n → S ds W → VSs X (defBody st) (ds.map Sl.dat ++ List.replicate (N.length - n) Sl.no) { nx := fun _ => W .none, rt := fun d _ => W d }) : FnD M (k + 1) x n S :=
  ⟨f, fd, ps, fnOk_mk F Sc hN hc hn hnN body, hm, F.kp, b⟩
theorem fnM_mk {S : List D → List D → (D → List D → Prop) → Prop} (F : Fun M.K x x st f fd) (Sc : FnScope N ps (defScope st)) (hm : M.mg x = some (.ref f)) (b : Binds M.K fd ps []) (hN : N = NK.map (·.1)) (hc : chk (defScope st) true NK G = true) (hn : ps.length = n + 1) (hnN : n + 1 ≤ N.length)
    (body : ∀ X, Cst X M (defScope st) NK G k → ∀ p cs ds W, ds.length = n → S cs ds W → VSs X (defBody st) (.own p cs :: (ds.map Sl.dat ++ List.replicate (N.length - (n + 1)) Sl.no)) { nx := fun ρ' => ∃ cs', ρ'[0]? = some (.own p cs') ∧ W .none cs', rt := fun d ρ' => ∃ cs', ρ'[0]? = some (.own p cs') ∧ W d cs' }) : FnM M (k + 1) x n S := by
  refine ⟨f, fd, ps, ?_, hm, F.kp, b⟩
  refine F.ok Sc (fun vs H Q E h => ?_) (fun cdv A outer s H vs Q E hr h => ?_)
  · obtain ⟨B, p, xs, cs, ws, ds, W, rfl, e, bp, hp, dx, d, hl, _⟩ := h
    rw [List.length_cons, DpAll.len d, hl, hn]
  · obtain ⟨B, p, xs, cs, ws, ds, W, rfl, e, bp, hp, dx, d, hl, hS, q⟩ := h
    have C : Cst (cxOf CX0 M.prog M.w M.K M.mg M.base N x (defScope st) f cdv A outer s H E).nox M (defScope st) NK G k := cst_def hN Sc.nd hc hr
    refine ⟨_, pss_sem, ?_⟩
    have bd := body _ C p cs ds W hl hS
    have own0 : ∀ a, Own (.own p cs :: (ds.map Sl.dat ++ List.replicate (N.length - (n + 1)) Sl.no)) a → a = p := fun a ⟨i, es, hi⟩ => by
      cases i with
      | zero => cases hi; rfl
      | succ i =>
        rw [List.getElem?_cons_succ] at hi
        rcases slots_get hi with ⟨d', e1, e2⟩ | e1 <;> cases e1
    have r0 : Rel (kwM M) B H (L2.start N (.ref p :: ws)) (.own p cs :: (ds.map Sl.dat ++ List.replicate (N.length - (n + 1)) Sl.no)) := by
      refine ⟨e, ?_, fun i dd hi => ?_, fun i a es hi => ?_, fun i j a es fs hi hj => ?_⟩
      · unfold L2.start
        simp only [List.length_cons, List.length_append, List.length_map, List.length_replicate, DpAll.len d, hl]
        omega
      · cases i with
        | zero => cases hi
        | succ i =>
          rw [List.getElem?_cons_succ] at hi
          rcases slots_get hi with ⟨d', e1, e2⟩ | e1
          · cases e1
            obtain ⟨v, h1, h2⟩ := DpAll.get d e2
            exact ⟨v, start_get (by rw [List.getElem?_cons_succ]; exact h1), h2⟩
          · cases e1
      · cases i with
        | zero =>
          cases hi
          exact ⟨start_get rfl, bp, _, hp, xs, rfl, dx⟩
        | succ i =>
          rw [List.getElem?_cons_succ] at hi
          rcases slots_get hi with ⟨d', e1, e2⟩ | e1 <;> cases e1
      · cases i with
        | zero =>
          cases j with
          | zero => rfl
          | succ j =>
            rw [List.getElem?_cons_succ] at hj
            rcases slots_get hj with ⟨d', e1, e2⟩ | e1 <;> cases e1
        | succ i =>
          rw [List.getElem?_cons_succ] at hi
          rcases slots_get hi with ⟨d', e1, e2⟩ | e1 <;> cases e1
    have fin : ∀ v dd B' H' σ' ρ', (∃ cs', ρ'[0]? = some (.own p cs') ∧ W dd cs') → Dp M.K B' v dd → Go B H (.own p cs :: (ds.map Sl.dat ++ List.replicate (N.length - (n + 1)) Sl.no)) B' H' ρ' → Rel (kwM M) B' H' σ' ρ' → Q v H' := fun v dd B' H' σ' ρ' ⟨cs', h0, w⟩ dv g r => by
      obtain ⟨_, h2, _, h3, vs', rfl, h4⟩ := r.own 0 p cs' h0
      exact q v dd B' H' vs' cs' w dv g.ex r.ex h2 h3 h4 (fun a o hne h => g.keep a o h fun z => hne (own0 a z)) fun a hne h1 h2 => g.out a h1 h2 fun z => hne (own0 a z)
    refine bd.run B H _ _ r0 ⟨fun B' H' σ' ρ' p' g r => fin .non .none B' H' σ' ρ' p' .non g r, fun v dd B' H' σ' ρ' p' dv g r => fin v dd B' H' σ' ρ' p' dv g r, fun _ _ _ _ p => p.elim, fun _ _ _ _ p => p.elim⟩
end
/-- a law: of every script of at most n numbers it says True -/
def LawS (n : Nat) : List D → (D → Prop) → Prop := fun ds W => ∃ ns : List Int, ds = [.list (ns.map PyData.int)] ∧ ns.length ≤ n ∧ W (.bool true)
theorem law_sp {K : PySem.W.Frag} {H : Hp} {a : Addr} {ns : List Int} {n : Nat} (hl : ns.length ≤ n) (h : SqL K H a (ns.map V.int)) : DS K 1 (LawS n) [.ref a] H (fun v _ => v = .bl true) fun _ _ _ => False :=
  ⟨H, [.list (ns.map PyData.int)], fun d => d = .bool true, Evl.Ex.refl H, .cons (.lst h (dp_ints ns)) .nil, rfl, ⟨ns, rfl, hl, rfl⟩, fun v d B' H' w dv _ _ _ _ => by
    subst w
    exact dp_bool dv⟩

open PySem PySem.Calls PySem.W
theorem args_gcd3 (a b c : Value) : argsOk "math.gcd" ⟨[a, b, c], []⟩ := by unfold argsOk; kernel_rfl
theorem args_lcm3 (a b c : Value) : argsOk "math.lcm" ⟨[a, b, c], []⟩ := by unfold argsOk; kernel_rfl
theorem run_gcd3 (a : Int) (t : Tok) (b : Int) (u : Tok) (c : Int) (v : Tok) :
    Gives (Builtin.«math.gcd» ⟨[.int a t, .int b u, .int c v], []⟩) (.int (((((Nat.gcd 0 a.natAbs).gcd b.natAbs).gcd c.natAbs : Nat) : Int))) :=
  .of_wp fun M A E s Q h => by obtain ⟨hp, g, d, tk, os⟩ := s; wp_walk; exact ⟨_, rfl, h⟩
theorem run_lcm3 (a : Int) (t : Tok) (b : Int) (u : Tok) (c : Int) (v : Tok) (hc0 : ¬(max 1 a.natAbs).log2 / 30 + 1 > 450) (hc1 : ¬(max (Nat.lcm 1 a.natAbs) b.natAbs).log2 / 30 + 1 > 450) (hc2 : ¬(max ((Nat.lcm 1 a.natAbs).lcm b.natAbs) c.natAbs).log2 / 30 + 1 > 450) (hsz : (((((Nat.lcm 1 a.natAbs).lcm b.natAbs).lcm c.natAbs : Nat) : Int)).natAbs.log2 < bitsLine) :
    Gives (Builtin.«math.lcm» ⟨[.int a t, .int b u, .int c v], []⟩) (.int (((((Nat.lcm 1 a.natAbs).lcm b.natAbs).lcm c.natAbs : Nat) : Int))) :=
  .of_wp fun M A E s Q h => by obtain ⟨hp, g, d, tk, os⟩ := s; wp_walk; rw [if_neg hc1]; wp_walk; (try rw [if_neg hc2]); (try wp_walk); (try (refine wpAny_ite_false (decide_eq_false (Nat.not_le.mpr hsz)) ?_; wp_walk)); exact ⟨_, rfl, h⟩
theorem lcm_le (m n : Nat) : m.lcm n ≤ m * n := mc_lcm_le m n
open L2 PyProof.Rows Evl
section
variable {X : Cx}
theorem does_gcd3 : Does X (.builtin "math.gcd") (fun ds W => ∃ a b c : Int, ds = [.int a, .int b, .int c] ∧ W (.int ((Nat.gcd (Nat.gcd a.natAbs b.natAbs) c.natAbs : Nat) : Int))) := fun B H vs ds W Q e h s q => by
  obtain ⟨a, b, c, rfl, w⟩ := s
  cases h with
  | cons h1 h2 =>
    cases h2 with
    | cons h2 h3 =>
      cases h3 with
      | cons h3 h4 =>
        cases h4
        rw [dp_int h1, dp_int h2, dp_int h3]
        intro pins s σ us I rv
        cases rv with
        | cons r1 rv =>
          cases rv with
          | cons r2 rv =>
            cases rv with
            | cons r3 rv =>
              cases rv
              obtain ⟨t, rfl⟩ := r1
              obtain ⟨u, rfl⟩ := r2
              obtain ⟨v, rfl⟩ := r3
              have g := run_gcd3 a t b u c v
              rw [Nat.gcd_zero_left] at g
              exact call_function_meets MGF.kind_gcd MGF.plain_gcd MGF.entry_gcd (args_gcd3 _ _ _) g.meets ⟨.int _, H, I.tok _, ⟨_, rfl⟩, q _ _ B H w (.int _) (Ex.refl B) e (Ex.refl H) fun _ _ b => b⟩
theorem does_lcm3 : Does X (.builtin "math.lcm") (fun ds W => ∃ a b c : Int, ds = [.int a, .int b, .int c] ∧ a.natAbs < 2 ^ 64 ∧ b.natAbs < 2 ^ 64 ∧ c.natAbs < 2 ^ 64 ∧ W (.int ((Nat.lcm (Nat.lcm a.natAbs b.natAbs) c.natAbs : Nat) : Int))) := fun B H vs ds W Q e h s q => by
  obtain ⟨a, b, c, rfl, ha, hb, hc, w⟩ := s
  cases h with
  | cons h1 h2 =>
    cases h2 with
    | cons h2 h3 =>
      cases h3 with
      | cons h3 h4 =>
        cases h4
        rw [dp_int h1, dp_int h2, dp_int h3]
        intro pins s σ us I rv
        cases rv with
        | cons r1 rv =>
          cases rv with
          | cons r2 rv =>
            cases rv with
            | cons r3 rv =>
              cases rv
              obtain ⟨t, rfl⟩ := r1
              obtain ⟨u, rfl⟩ := r2
              obtain ⟨v, rfl⟩ := r3
              have l1 : Nat.lcm 1 a.natAbs = a.natAbs := mc_lcm_one _
              have l2 : Nat.lcm a.natAbs b.natAbs < 2 ^ 128 := Nat.lt_of_le_of_lt (lcm_le _ _) (by
                have := Nat.mul_le_mul (Nat.le_of_lt ha) (Nat.le_of_lt hb)
                rcases Nat.lt_or_ge (a.natAbs * b.natAbs) (2 ^ 128) with z | z
                · exact z
                · have h3 : a.natAbs * b.natAbs ≤ (2 ^ 64 - 1) * (2 ^ 64 - 1) := Nat.mul_le_mul (by omega) (by omega)
                  exact Nat.lt_of_le_of_lt h3 (by decide))
              have l3 : Nat.lcm (Nat.lcm a.natAbs b.natAbs) c.natAbs < 2 ^ 192 := Nat.lt_of_le_of_lt (lcm_le _ _) (by
                have h3 : Nat.lcm a.natAbs b.natAbs * c.natAbs ≤ (2 ^ 128 - 1) * (2 ^ 64 - 1) := Nat.mul_le_mul (by omega) (by omega)
                exact Nat.lt_of_le_of_lt h3 (by decide))
              have g := run_lcm3 a t b u c v (by have := mg_log (n := max 1 a.natAbs) (k := 200) (by omega); omega) (by rw [l1]; have := mg_log (n := max a.natAbs b.natAbs) (k := 200) (by omega); omega)
                (by rw [l1]; have := mg_log (n := max (Nat.lcm a.natAbs b.natAbs) c.natAbs) (k := 200) (by omega); omega)
                (by rw [l1, Int.natAbs_natCast]; have := mg_log (n := Nat.lcm (Nat.lcm a.natAbs b.natAbs) c.natAbs) (k := 200) (by omega); rw [bitsLine_eq]; omega)
              rw [l1] at g
              exact call_function_meets MGF.kind_lcm MGF.plain_lcm MGF.entry_lcm (args_lcm3 _ _ _) g.meets ⟨.int _, H, I.tok _, ⟨_, rfl⟩, q _ _ B H w (.int _) (Ex.refl B) e (Ex.refl H) fun _ _ b => b⟩
end

open PySem
/-! ### the integer square root -/
def IsRoot (n r : Nat) : Prop := r * r ≤ n ∧ n < (r + 1) * (r + 1)
theorem below8 {n : Nat} (h : n < 8) : IsRoot n (Float64.rootBelow8 n) := by
  have : n = 0 ∨ n = 1 ∨ n = 2 ∨ n = 3 ∨ n = 4 ∨ n = 5 ∨ n = 6 ∨ n = 7 := by omega
  rcases this with h | h | h | h | h | h | h | h <;> (subst h; exact ⟨by decide, by decide⟩)
theorem newton {n r P m : Nat} (hP : 2 ≤ P) (h1 : P * P * m ≤ n) (h2 : n < P * P * (m + 1)) (h3 : P * P * (P * P) ≤ 2 * n) (hr : IsRoot m r) (h8 : 8 ≤ n) :
    IsRoot n (if ((r + 1) * P + n / ((r + 1) * P)) / 2 * (((r + 1) * P + n / ((r + 1) * P)) / 2) > n then ((r + 1) * P + n / ((r + 1) * P)) / 2 - 1 else ((r + 1) * P + n / ((r + 1) * P)) / 2) := by
  obtain ⟨r1, r2⟩ := hr
  have hx0 : 0 < (r + 1) * P := Nat.mul_pos (by omega) (by omega)
  -- x x > n
  have hxx : n < ((r + 1) * P) * ((r + 1) * P) := by
    have e : P * P * (m + 1) ≤ P * P * ((r + 1) * (r + 1)) := Nat.mul_le_mul_left _ r2
    have e2 : P * P * ((r + 1) * (r + 1)) = ((r + 1) * P) * ((r + 1) * P) := by grind
    omega
  have hrp : (r * P) * (r * P) ≤ n := by
    have e : P * P * (r * r) ≤ P * P * m := Nat.mul_le_mul_left _ r1
    have e2 : P * P * (r * r) = (r * P) * (r * P) := by grind
    omega
  have hxr : (r + 1) * P = r * P + P := by grind
  generalize hx : (r + 1) * P = x at *
  have q1 : x * (n / x) ≤ n := Nat.mul_div_le n x
  have q2 : n < x * (n / x + 1) := Nat.lt_mul_div_succ n hx0
  generalize n / x = q at *
  have hqx : q < x := by
    rcases Nat.lt_or_ge q x with z | z
    · exact z
    · have := Nat.mul_le_mul_left x z
      omega
  generalize hy : (x + q) / 2 = y at *
  have y1 : 2 * y ≤ x + q := by omega
  have y2 : x + q ≤ 2 * y + 1 := by omega
  have hA : n < (y + 1) * (y + 1) := by
    have e1 : (x + q + 1) * (x + q + 1) ≤ (2 * y + 2) * (2 * y + 2) := Nat.mul_le_mul (by omega) (by omega)
    have e2 : (2 * y + 2) * (2 * y + 2) = 4 * ((y + 1) * (y + 1)) := by grind
    have e3 : 4 * (x * (q + 1)) ≤ (x + q + 1) * (x + q + 1) := by
      obtain ⟨t, rfl⟩ : ∃ t, x = q + 1 + t := ⟨x - (q + 1), by omega⟩
      have : (q + 1 + t + q + 1) * (q + 1 + t + q + 1) = 4 * ((q + 1 + t) * (q + 1)) + t * t := by grind
      omega
    omega
  have hB : n < y * y → (y - 1) * (y - 1) ≤ n := by
    intro hyn
    rcases Nat.lt_or_ge n ((y - 1) * (y - 1)) with z | z
    · exfalso
      have hy1 : 1 ≤ y := by
        rcases Nat.eq_zero_or_pos y with w | w
        · rw [w] at hyn; omega
        · exact w
      obtain ⟨u, rfl⟩ : ∃ u, y = u + 1 := ⟨y - 1, by omega⟩
      have z : n < u * u := z
      have hux : u < x := by omega
      obtain ⟨v, hv⟩ : ∃ v, x = u + v := ⟨x - u, by omega⟩
      have hur : r * P < u := by
        rcases Nat.lt_or_ge (r * P) u with w | w
        · exact w
        · have := Nat.mul_le_mul w w
          omega
      have hvP : v + 1 ≤ P := by omega
      -- v v > 2 x
      have e1 : x * (2 * u + 2) ≤ x * x + n := by
        have : x * (2 * u + 2) ≤ x * (x + q) := Nat.mul_le_mul_left _ (by omega)
        have e : x * (x + q) = x * x + x * q := Nat.mul_add _ _ _
        omega
      have e2 : 2 * x < v * v := by
        subst hv
        have : (u + v) * (u + v) + u * u = (u + v) * (2 * u) + v * v := by grind
        have e3 : (u + v) * (2 * u + 2) = (u + v) * (2 * u) + 2 * (u + v) := by grind
        omega
      have e4 : v * v ≤ P * P := Nat.mul_le_mul (by omega) (by omega)
      -- 2 (r + 1) < P
      have e5 : 2 * (r + 1) < P := by
        rcases Nat.lt_or_ge (2 * (r + 1)) P with w | w
        · exact w
        · have : P * P ≤ 2 * (r + 1) * P := Nat.mul_le_mul_right _ w
          have e : 2 * (r + 1) * P = 2 * ((r + 1) * P) := Nat.mul_assoc _ _ _
          omega
      have e6 : (2 * (r + 1)) * (2 * (r + 1)) ≤ P * P := Nat.mul_le_mul (by omega) (by omega)
      have e7 : P * P * ((2 * (r + 1)) * (2 * (r + 1))) ≤ P * P * (P * P) := Nat.mul_le_mul_left _ e6
      have e8 : P * P * ((2 * (r + 1)) * (2 * (r + 1))) = 4 * (((r + 1) * P) * ((r + 1) * P)) := by grind
      rw [hx] at e8
      omega
    · exact z
  by_cases h : y * y > n
  · rw [if_pos h]
    refine ⟨hB h, ?_⟩
    have hy1 : 1 ≤ y := by
      rcases Nat.eq_zero_or_pos y with w | w
      · rw [w] at h; omega
      · exact w
    rw [Nat.sub_add_cancel hy1]
    exact h
  · rw [if_neg h]
    exact ⟨by omega, hA⟩
theorem byHalves : ∀ (lv n : Nat), n.log2 ≤ lv → IsRoot n (Float64.rootByHalves lv n)
  | 0, n, h => by
    refine below8 ?_
    by_cases z : n = 0
    · omega
    · have := (Nat.log2_lt (k := 1) z).mp (by omega)
      omega
  | lv + 1, n, h => by
    unfold Float64.rootByHalves
    by_cases h8 : n < 8
    · rw [if_pos h8]
      exact below8 h8
    · rw [if_neg h8]
      have hn : n ≠ 0 := by omega
      have hL : 3 ≤ n.log2 := by
        rcases Nat.lt_or_ge n.log2 3 with z | z
        · have := (Nat.log2_lt (k := 3) hn).mp z
          omega
        · exact z
      have hk : 1 ≤ (n.log2 + 1) / 4 := by omega
      generalize hkk : (n.log2 + 1) / 4 = k at *
      have h4k : 4 * k ≤ n.log2 + 1 := by omega
      have e4 : (4 : Nat) ^ k = 2 ^ k * 2 ^ k := by
        rw [show (4 : Nat) = 2 * 2 from rfl, Nat.mul_pow]
      have hP : 2 ≤ 2 ^ k := by
        have := Nat.pow_le_pow_right (n := 2) (by decide) hk
        omega
      have hpp : 2 ^ k * 2 ^ k * (2 ^ k * 2 ^ k) ≤ 2 * n := by
        have e1 : (2 : Nat) ^ (4 * k) ≤ 2 ^ (n.log2 + 1) := Nat.pow_le_pow_right (by decide) h4k
        have e2 : (2 : Nat) ^ (4 * k) = 2 ^ k * 2 ^ k * (2 ^ k * 2 ^ k) := by
          rw [show 4 * k = (k + k) + (k + k) by omega, Nat.pow_add, Nat.pow_add]
        have e3 : (2 : Nat) ^ (n.log2 + 1) = 2 ^ n.log2 * 2 := Nat.pow_succ ..
        have e5 := Nat.log2_self_le hn
        omega
      have hpos : 0 < 2 ^ k * 2 ^ k := Nat.mul_pos (by omega) (by omega)
      have m1 : 2 ^ k * 2 ^ k * (n / 4 ^ k) ≤ n := by
        rw [e4]
        exact Nat.mul_div_le _ _
      have m2 : n < 2 ^ k * 2 ^ k * (n / 4 ^ k + 1) := by
        rw [e4]
        exact Nat.lt_mul_div_succ _ hpos
      have hlog : (n / 4 ^ k).log2 ≤ lv := by
        by_cases z : n / 4 ^ k = 0
        · rw [z]
          exact Nat.zero_le _
        · have hb : n < 2 ^ (lv + 2) := (Nat.log2_lt hn).mp (by omega)
          have hq : 4 * (n / 4 ^ k) ≤ n := by
            have : 4 * (n / 4 ^ k) ≤ 2 ^ k * 2 ^ k * (n / 4 ^ k) := Nat.mul_le_mul_right _ (by
              have := Nat.mul_le_mul hP hP
              omega)
            omega
          have hc : n / 4 ^ k < 2 ^ (lv + 1) := by
            have e : (2 : Nat) ^ (lv + 2) = 2 ^ (lv + 1) * 2 := Nat.pow_succ ..
            omega
          have := (Nat.log2_lt z).mpr hc
          omega
      exact newton hP m1 m2 hpp (byHalves lv _ hlog) (by omega)
theorem isqrt_root (n : Nat) : IsRoot n (Float64.isqrt n) := byHalves _ n (Nat.le_refl _)
theorem IsRoot.uniq {n a b : Nat} (h1 : IsRoot n a) (h2 : IsRoot n b) : a = b := by
  rcases Nat.lt_trichotomy a b with z | z | z
  · have := Nat.mul_le_mul (show a + 1 ≤ b from z) (show a + 1 ≤ b from z)
    have := h1.2
    have := h2.1
    omega
  · exact z
  · have := Nat.mul_le_mul (show b + 1 ≤ a from z) (show b + 1 ≤ a from z)
    have := h2.2
    have := h1.1
    omega

open PySem PySem.Spec PyProof.Rows L2
open Evl (Ex)

section
variable {X : Cx} {M : Md} {sc : Scope} {NK : List (Str × Bool × Bool)} {G : List Str} {k : Nat} {ρ : En} {P : D → En → Prop} {PL : List D → En → Prop} {pos : Pos} {a b c e : Expr} {es rest : List Expr} {x : Str}

/-- a // b, b of either sign -/
theorem vd_fdivN (h : VD X a ρ fun x ρ1 => VD X b ρ1 fun y ρ2 => ∃ i j, x = .int i ∧ y = .int j ∧ CDivN i j ∧ P (.int (i.fdiv j)) ρ2) : VD X (.BinOp a .FloorDiv b pos) ρ P := VD.mk fun B H σ Q r q => by
  refine PE.sem (pe_op or_sem pe_sem pe_sem) ?_
  refine h.run B H σ _ r fun vx x B1 H1 ρ1 p1 dx g1 r1 => ?_
  refine p1.run B1 H1 σ _ r1 fun vy y B2 H2 ρ2 p2 dy g2 r2 => ?_
  obtain ⟨i, j, rfl, rfl, hc, pp⟩ := p2
  rw [dp_int dx, dp_int dy]
  exact OpR.sem op_fdivN ⟨_, _, rfl, rfl, hc, q _ _ B2 H2 ρ2 pp (.int _) (g1.trans g2) r2⟩
/-- x or y, x a number -/
theorem vd_orI (h : VD X a ρ fun d ρ1 => ∃ i, d = .int i ∧ (i ≠ 0 → P (.int i) ρ1) ∧ (i = 0 → VD X (.BoolOp .Or (b :: rest) pos) ρ1 P)) : VD X (.BoolOp .Or (a :: b :: rest) pos) ρ P := VD.mk fun B H σ Q r q => by
  refine PE.sem (pe_orT pe_sem pe_sem) ?_
  refine h.run B H σ _ r fun v d B1 H1 ρ1 p dx g1 r1 => ?_
  obtain ⟨i, rfl, p1, p2⟩ := p
  rw [dp_int dx]
  refine ⟨i != 0, rfl, ?_⟩
  by_cases z : i = 0
  · subst z
    exact (p2 rfl).run B1 H1 σ Q r1 fun v d B2 H2 ρ2 p2 dd g2 r2 => q v d B2 H2 ρ2 p2 dd (g1.trans g2) r2
  · have e : (i != 0) = true := bne_iff_ne.mpr z
    rw [e, if_pos rfl]
    exact q _ _ B1 H1 ρ1 (p1 z) (.int i) g1 r1
theorem does_gcd2 : Does X (.builtin "math.gcd") (fun ds W => ∃ a b : Int, ds = [.int a, .int b] ∧ W (.int ((Nat.gcd a.natAbs b.natAbs : Nat) : Int))) := fun B H vs ds W Q e h s q => by
  obtain ⟨a, b, rfl, w⟩ := s
  cases h with
  | cons h1 h2 =>
    cases h2 with
    | cons h2 h3 =>
      cases h3
      rw [dp_int h1, dp_int h2]
      exact CallR.sem cr_gcd ⟨a, b, rfl, q _ _ B H w (.int _) (Ex.refl B) e (Ex.refl H) fun _ _ b => b⟩
theorem does_isqrt : Does X (.builtin "math.isqrt") (fun ds W => ∃ a : Int, ds = [.int a] ∧ 0 ≤ a ∧ a.natAbs < 2 ^ 9000 ∧ ∀ r : Nat, IsRoot a.natAbs r → W (.int (r : Int))) := fun B H vs ds W Q e h s q => by
  obtain ⟨a, rfl, h0, ha, w⟩ := s
  cases h with
  | cons h1 h2 =>
    cases h2
    rw [dp_int h1]
    intro pins s σ us I rv
    cases rv with
    | cons r1 rv =>
      cases rv
      obtain ⟨t, rfl⟩ := r1
      have et : a.toNat = a.natAbs := by omega
      have hl : a.toNat.log2 ≤ 9000 := PySem.W.mg_log (by
        rw [et, Nat.pow_succ]
        omega)
      exact call_function_meets PySem.W.MGF.kind_isqrt PySem.W.MGF.plain_isqrt PySem.W.MGF.entry_isqrt (PySem.W.MGF.args_isqrt _) (PySem.W.mg_run_isqrt a t (by omega) (by omega) (by omega)).meets
        ⟨.int _, H, I.tok _, ⟨_, rfl⟩, q _ _ B H (w _ (by rw [et]; exact isqrt_root _)) (.int _) (Ex.refl B) e (Ex.refl H) fun _ _ b => b⟩
theorem dps_ints {K : PySem.W.Frag} {B : Hp} : ∀ {ns : List Int} {xs : List V}, DpAll K B xs (ns.map PyData.int) → xs = ns.map V.int
  | [], _, .nil => rfl
  | n :: ns, _, .cons h hs => by
    rw [dp_int h, dps_ints hs]
    rfl
theorem does_max (C : Cst X M sc NK G k) : Does X (.builtin "max") (fun ds W => ∃ ns : List Int, ds = [.list (ns.map PyData.int)] ∧ 0 < ns.length ∧ ∀ m, m ∈ ns → (∀ y, y ∈ ns → y ≤ m) → W (.int m)) := fun B H vs ds W Q e h s q => by
  obtain ⟨ns, rfl, hl, w⟩ := s
  cases h with
  | cons h1 h2 =>
    cases h2
    obtain ⟨t, xs, rfl, hT, hx⟩ := dp_lst h1
    have ex := dps_ints hx
    subst ex
    exact CallR.sem (cr_max C.calm) ⟨t, ns, rfl, ex_l e hT, hl, fun m m1 m2 => q _ _ B H (w m m1 m2) (.int _) (Ex.refl B) e (Ex.refl H) fun _ _ b => b⟩
theorem does_sumT (C : Cst X M sc NK G k) : Does X (.builtin "sum") (fun ds W => ∃ ns : List Int, ds = [.tuple (ns.map PyData.int)] ∧ W (.int ns.sum)) := fun B H vs ds W Q e h s q => by
  obtain ⟨ns, rfl, w⟩ := s
  cases h with
  | cons h1 h2 =>
    cases h2
    obtain ⟨t, xs, rfl, hT, hx⟩ := dp_tup h1
    have ex := dps_ints hx
    subst ex
    intro pins s σ us I rv
    obtain ⟨its, r, pl, hz⟩ := I.tuple (ex_t e hT)
    rw [Vals.ref1 rv]
    have hi := r.ints
    obtain ⟨ys, hy⟩ := hi.allInts.items
    have hn : numsOf its.toArray.toList = ns := by
      rw [show its.toArray.toList = its from rfl, hi.numsOf]
    have pl' : s.heap.IsTuple t its.toArray := pl
    rw [hy] at pl' hn
    rw [nums_intItems] at hn
    refine PySem.W.ktm_sumG (I.ok.hd C.calm) pl' fun h' tk t' hk => ?_
    rw [PySem.preSum_eq, List.take_of_length_le (by simp), hn]
    exact ⟨.int _, H, I.kept hk, ⟨_, rfl⟩, q _ _ B H w (.int _) (Ex.refl B) e (Ex.refl H) fun _ _ b => b⟩

/-! ### xs + ys -/
theorem meets_cat (l : Addr) (xs : Array Value) (n : Nat) (t : Array (Option Value)) (b : Addr) (ys : Array Value) (m : Nat) (u : Array (Option Value)) (hz : xs.size + ys.size ≤ sizeLine) :
    Meets (Builtin.«list.__add__» ⟨[.ref l, .ref b], []⟩) (fun _ R s => s.heap.get? l = some ⟨.type "list", none, .seq xs n, t⟩ ∧ s.heap.get? b = some ⟨.type "list", none, .seq ys m, u⟩ ∧
      R (.ok (.ret (Value.ref s.heap.objs.size))) { s with heap := s.heap.push { cls := Value.type "list", data := Data.seq (xs ++ ys) }, toks := s.toks }) :=
  .of_wp fun prog w A R s h => by
    obtain ⟨hp, g, d, tk, os⟩ := s
    obtain ⟨h1, h2, h⟩ := h
    have f1 := PySem.AutoSeq1.idx_int
    have f2 := PySem.AutoSeq1.sub_tuple_tuple
    have f3 := PySem.AutoSeq1.sub_list_list
    have f4 := PySem.AutoSeq1.sub_tuple_list
    have f5 := PySem.AutoSeq1.sub_list_tuple
    wp_walk using PySem.AutoSeq1.wpAny_loadPart' h1, PySem.AutoSeq1.wpAny_loadPart' h2
    exact ⟨_, rfl, h⟩
def rCatS (K : PySem.W.Frag) : R2 := fun x y H Q => ∃ l b xs ys, x = V.ref l ∧ y = V.ref b ∧ SqL K H l xs ∧ SqL K H b ys ∧ xs.length + ys.length ≤ sizeLine ∧ ∀ p, H p = none → Q (.ref p) (upd H p (.lst (xs ++ ys)))
theorem op_catS : OpR X (binaryOp .Add) (rCatS X.K) := by
  intro pins s σ H x y v u Q I rx ry h
  obtain ⟨l, b, xs, ys, rfl, rfl, h1, h2, hz, q⟩ := h
  cases rx
  cases ry
  obtain ⟨its, r, ⟨⟨c1, d1, q1, s1⟩, n, e1, e2, e3, e4⟩, z1⟩ := I.list h1
  obtain ⟨jts, r', ⟨⟨c2, d2, q2, s2⟩, m, g1, g2, g3, g4⟩, z2⟩ := I.list h2
  simp only at e2 e3 e4 g2 g3 g4
  subst e2 e3 e4 g2 g3 g4
  have l1 := r.length
  have l2 := r'.length
  refine concat_meets ⟨_, e1, rfl⟩ ⟨_, g1, rfl⟩ noFill_list_add seq_list_add F.slot_list_add F.entry_list_add (F.args_list_add_2 _ _) (meets_cat l its.toArray n s1 b jts.toArray m s2 (by rw [List.size_toArray, List.size_toArray]; omega)) ⟨e1, g1, ?_⟩
  have ea : its.toArray ++ jts.toArray = (its ++ jts).toArray := by simp
  rw [ea]
  exact ⟨.ref _, _, I.lnew (t' := s.toks) (r.append r') (by rw [List.length_append]; omega), rfl, q _ I.fresh⟩
theorem vn_cat (h : VD X a ρ fun x ρ1 => VD X b ρ1 fun y ρ2 => ∃ xs ys, x = .list xs ∧ y = .list ys ∧ xs.length + ys.length ≤ 100000 ∧ PL (xs ++ ys) ρ2) : VN X (.BinOp a .Add b pos) ρ PL := VN.mk fun B H σ Q r q => by
  refine PE.sem (pe_op or_sem pe_sem pe_sem) ?_
  refine h.run B H σ _ r fun vx x B1 H1 ρ1 p1 dx g1 r1 => ?_
  refine p1.run B1 H1 σ _ r1 fun vy y B2 H2 ρ2 p2 dy g2 r2 => ?_
  obtain ⟨xs, ys, rfl, rfl, hz, pp⟩ := p2
  obtain ⟨l1, us, rfl, hT, hu⟩ := dp_lst dx
  obtain ⟨l2, ws, rfl, hT2, hw⟩ := dp_lst dy
  refine OpR.sem op_catS ⟨l1, l2, us, ws, rfl, rfl, ex_l (g2.ex.trans r2.ex) hT, ex_l r2.ex hT2, ?_, fun z hz2 => ?_⟩
  · rw [DpAll.len hu, DpAll.len hw]
    exact Nat.le_trans hz (by decide)
  · obtain ⟨r3, g3, bp⟩ := new_one (o := .lst (us ++ ws)) r2 hz2
    refine q z _ _ _ _ ρ2 pp (g1.dom z (g2.dom z hz2)) upd_same bp (fun w => ?_) (DpAll.app (DpAll.mono g2.ex hu) hw) ((g1.trans g2).trans g3) r3
    obtain ⟨i, fs, hf⟩ := w
    obtain ⟨_, _, vs, h5, _⟩ := r2.own i z fs hf
    rw [hz2] at h5
    cases h5

/-- a, b, c = e1, e2, e3 -/
theorem vs_par3 (C : Cst X M sc NK G k) {F : Fin} {i j l : Nat} {v1 v2 v3 : Bool} {y z : Str} {px py pz pt : Pos} {kt k2 pt2} (hi : At NK i (x, v1, true)) (hj : At NK j (y, v2, true)) (hl : At NK l (z, v3, true)) (hij : i ≠ j) (hil : i ≠ l) (hjl : j ≠ l)
    (h : VD X a ρ fun d ρ1 => VD X b ρ1 fun d2 ρ2 => VD X c ρ2 fun d3 ρ3 => F.nx (((ρ3.set i (.dat d)).set j (.dat d2)).set l (.dat d3)))
    (hw : ∀ env : Env, env.scope = sc → swappedStores [.Tuple [.Name x px, .Name y py, .Name z pz] kt pt] (.Tuple [a, b, c] k2 pt2) env = pure (some [x, y, z])) (hx : sc.names.lookup x = some .local := by decide +kernel) (hy : sc.names.lookup y = some .local := by decide +kernel) (hz : sc.names.lookup z = some .local := by decide +kernel)
    (hs : swapsWithSole [.Tuple [.Name x px, .Name y py, .Name z pz] kt pt] (.Tuple [a, b, c] k2 pt2) pos.line X.env = pure false := by rfl)
    (he : starEach [a, b, c] X.env = (false, eval a X.env) :: starEach [b, c] X.env := by rfl) (he2 : starEach [b, c] X.env = (false, eval b X.env) :: starEach [c] X.env := by rfl) (he3 : starEach [c] X.env = (false, eval c X.env) :: starEach [] X.env := by rfl) :
    VS X (.Assign [.Tuple [.Name x px, .Name y py, .Name z pz] kt pt] (.Tuple [a, b, c] k2 pt2) pos) ρ F := VS.mk fun B H σ Z r f => by
  refine PS.sem (ps_par3 C.calm C.nd (C.ix hi) (C.ix hj) (C.ix hl) hij hil hjl (by rw [C.s]; exact hx) (by rw [C.s]; exact hy) (by rw [C.s]; exact hz) (pa_cons pe_sem (pa_cons pe_sem (pa_cons pe_sem pa_nil he3) he2) he) (hw _ C.s) hs) ?_
  refine h.run B H σ _ r fun vv d B1 H1 ρ1 p1 dv g1 r1 => ?_
  refine p1.run B1 H1 σ _ r1 fun ww d2 B2 H2 ρ2 p2 dw g2 r2 => ?_
  refine p2.run B2 H2 σ _ r2 fun uu d3 B3 H3 ρ3 p3 du g3 r3 => ⟨vv, ww, uu, rfl, ?_⟩
  exact f.nx B3 H3 _ _ p3 (((((g1.trans g2).trans g3).trans go_set).trans go_set).trans go_set) (rel_set (rel_set (rel_set r3 (Dp.mono g3.ex (Dp.mono g2.ex dv))) (Dp.mono g3.ex dw)) du)

/-! ### lists of one's own -/
/-- name = [elt for y in iter], on one line, the name's own list -/
theorem vs_ownLc (C : Cst X M sc NK G k) {F : Fin} {scope : Scope} {i m : Nat} {x y : Str} {px py spos : Pos} {elt iter : Expr} {v v2 : Bool} (NK' : List (Str × Bool × Bool)) (G' : List Str) (hx : At NK m (x, v2, true)) (hy : At NK' i (y, v, true)) (hm : m < ρ.length)
    (h : VI X (.Name y py) iter ρ fun ds ρ1 => ds.length ≤ 100000 ∧ ∃ W : Nat → List D → En → Prop, W 0 [] ρ1 ∧
      (∀ (j : Nat) d acc ρ', ds[j]? = some d → W j acc ρ' → ∀ X', Cst X' M (relS scope sc) NK' G' k → VD X' elt (ρ'.set i (.dat d)) fun u ρ4 => W (j + 1) (acc ++ [u]) (ρ4.set i .no)) ∧
      ∀ acc ρ', W ds.length acc ρ' → ∀ z, F.nx (ρ'.set m (.own z acc)))
    (hk : sc.kind = .function := by rfl) (hxl : sc.names.lookup x = some .local := by decide +kernel) (hpl : (px.line == pos.line) = true := by rfl) (hpa : (scope.names.any fun (n, k) => n == x && (k == .local || k == .cell)) = false := by decide +kernel)
    (ok : blkC (NK.map (·.1)) sc scope [(y, i)] = true := by decide +kernel) (hN : NK'.map (·.1) = NK.map (·.1) := by rfl) (hc : chk (relS scope sc) false NK' G' = true := by decide +kernel)
    (hs : ∀ x, foldedSetIterable iter X.env x = pure x := by intro _; rfl) : VS X (.Assign [.Name x px] (.ListComp elt [⟨.Name y py, iter, [], 0⟩] scope pos) spos) ρ F := VS.mk fun B H σ Z r f => by
  have ok' : BlkOk X.N X.env.scope scope [(y, i)] := by
    rw [C.n, C.s]
    exact blkOk_by ok
  have cb : ∀ (s : Shared) (H : Hp) (Ca : Addr) (cl : List (Str × Addr)) (fp : List Addr), Cst (X.blk s H scope (compEnvC scope cl Ca X.env) fp) M (relS scope sc) NK' G' k := fun s H Ca cl fp => cst_blk C hN hc
  refine PS.sem (ps_setLc (g := gName i) (tt := tYes) (i := m) C.calm C.nd (C.ix hx) (by rw [C.s]; exact hxl) (sw_true (by rw [C.s]; exact hk) (by rw [C.s]; exact hxl) hpl hpa) pi_sem ok' (fun s H Ca cl fp => pg_name (cb s H Ca cl fp).nd ((cb s H Ca cl fp).ix hy) ((cb s H Ca cl fp).lo hy) ((cb s H Ca cl fp).fn hy)) (fun _ _ _ _ _ => pts_nil) pe_uSem hs) ?_
  refine lc_read (Cb := fun X' => Cst X' M (relS scope sc) NK' G' k) (PL := fun acc ρ' => ∀ z, F.nx (ρ'.set m (.own z acc))) r cb h fun z vs ds B1 H1 ρ1 p hz h1 bz no dvs g1 r1 => ?_
  have hl : m < ρ1.length := by rw [r1.len, ← r.len]; exact hm
  obtain ⟨g2, r2⟩ := own_new (i := m) hl hz h1 bz no dvs g1 r1
  exact f.nx _ H1 _ _ (p z) g2 r2
end

open PySem PySem.Spec PyProof.Rows L2
open Evl (Ex)
section
variable {X : Cx} {sts : List Stmt} {ρ : En} {F : Fin}
/-- from here on a slot's own list is told as data -/
theorem vss_frz {i : Nat} {p : Addr} {ds : List D} (ho : ρ[i]? = some (.own p ds)) (h : VSs X sts (ρ.set i (.dat (.list ds))) F) : VSs X sts ρ F := VSs.mk fun B H σ Z r f => by
  obtain ⟨h1, h2, _, h3, vs, rfl, h4⟩ := r.own i p ds ho
  have hlt := (List.getElem?_eq_some_iff.mp ho).1
  have eB : Ex B (upd B p (.lst vs)) := Evl.Ex.new h2
  have at_ : ∀ (j : Nat) s, (ρ.set i (.dat (.list ds)))[j]? = some s → (j = i ∧ s = .dat (.list ds)) ∨ (j ≠ i ∧ ρ[j]? = some s) := fun j s hj => by
    by_cases w : i = j
    · subst w
      rw [List.getElem?_set_self hlt] at hj
      exact .inl ⟨rfl, (Option.some.inj hj).symm⟩
    · rw [List.getElem?_set_ne w] at hj
      exact .inr ⟨fun z => w z.symm, hj⟩
  have ne : ∀ (j : Nat) a es, j ≠ i → ρ[j]? = some (.own a es) → a ≠ p := fun j a es w hj e => by
    subst e
    exact w (r.dis j i a es ds hj ho)
  have r2 : Rel (kwOf X) (upd B p (.lst vs)) H σ (ρ.set i (.dat (.list ds))) := by
    refine ⟨fun a u ha => ?_, by rw [List.length_set]; exact r.len, fun j d hj => ?_, fun j a es hj => ?_, fun j j' a es fs hj hj' => ?_⟩
    · by_cases w : a = p
      · rw [w, upd_same] at ha
        rw [w, h3]
        exact ha
      · rw [upd_ne w] at ha
        exact r.ex a u ha
    · rcases at_ j _ hj with ⟨rfl, e⟩ | ⟨_, hj⟩
      · cases e
        exact ⟨_, h1, .lst (.inl (.inl upd_same)) (DpAll.mono eB h4)⟩
      · obtain ⟨v, q1, q2⟩ := r.dat j d hj
        exact ⟨v, q1, Dp.mono eB q2⟩
    · rcases at_ j _ hj with ⟨_, e⟩ | ⟨w, hj⟩
      · cases e
      · obtain ⟨q1, q2, ws, q3, q4⟩ := r.own j a es hj
        refine ⟨q1, ?_, ws, q3, OD.mono eB q4⟩
        rw [upd_ne (ne j a es w hj)]
        exact q2
    · rcases at_ j _ hj with ⟨_, e⟩ | ⟨w, hj⟩
      · cases e
      · rcases at_ j' _ hj' with ⟨_, e⟩ | ⟨w', hj'⟩
        · cases e
        · exact r.dis j j' a es fs hj hj'
  have g2 : Go B H ρ (upd B p (.lst vs)) H (ρ.set i (.dat (.list ds))) := by
    refine ⟨eB, fun _ _ q _ => q, fun a q1 q2 q3 => ?_, fun a ⟨j, es, hj⟩ => ?_, fun _ q => q⟩
    · rw [upd_ne (fun e => q3 (by rw [e]; exact ⟨i, ds, ho⟩))]
      exact q2
    · rcases at_ j _ hj with ⟨_, e⟩ | ⟨w, hj⟩
      · cases e
      · exact .inl ⟨j, es, hj⟩
  exact h.run _ H σ Z r2 (f.go g2)
end

open PySem PySem.Spec PyProof.Rows L2
open Evl (Ex)
section
variable {X : Cx} {M : Md} {sc : Scope} {NK : List (Str × Bool × Bool)} {G : List Str} {k : Nat} {a b c : Expr} {ρ : En} {P : D → En → Prop} {pos : Pos}
theorem vd_chain (C : Cst X M sc NK G k) {op op' : CmpOp} (h : VD X a ρ fun x ρ1 => VD X b ρ1 fun y ρ2 => cmpD op x y fun bb => (bb = true → VD X c ρ2 fun z ρ3 => cmpD op' y z fun b2 => P (.bool b2) ρ3) ∧ (bb = false → P (.bool false) ρ2)) (hm : lastMarks [op, op'] [b, c] = false := by rfl) : VD X (.Compare a [op, op'] [b, c] pos) ρ P := VD.mk fun B H σ Q r q => by
  refine PE.sem (pe_chain or_sem or_sem pe_sem pe_sem pe_sem hm) ?_
  refine h.run B H σ _ r fun vx x B1 H1 ρ1 p1 dx g1 r1 => ?_
  refine p1.run B1 H1 σ _ r1 fun vy y B2 H2 ρ2 p2 dy g2 r2 => ?_
  refine cmp_ok C r2.ex p2 (Dp.mono g2.ex dx) dy fun bb kb => ⟨bb, rfl, ?_⟩
  cases bb with
  | true =>
    rw [if_pos rfl]
    refine (kb.1 rfl).run B2 H2 σ _ r2 fun vz z B3 H3 ρ3 p3 dz g3 r3 => ?_
    exact cmp_ok C r3.ex p3 (Dp.mono g3.ex dy) dz fun b2 kb2 => q _ _ B3 H3 ρ3 kb2 (.bl b2) ((g1.trans g2).trans g3) r3
  | false =>
    rw [if_neg Bool.false_ne_true]
    exact q _ _ B2 H2 ρ2 (kb.2 rfl) (.bl false) (g1.trans g2) r2
theorem dps_bools {K : PySem.W.Frag} {B : Hp} : ∀ {ns : List Bool} {xs : List V}, DpAll K B xs (ns.map PyData.bool) → xs = ns.map V.bl
  | [], _, .nil => rfl
  | n :: ns, _, .cons h hs => by
    rw [dp_bool h, dps_bools hs]
    rfl
theorem does_all (C : Cst X M sc NK G k) : Does X (.builtin "all") (fun ds W => ∃ ns : List Bool, ds = [.list (ns.map PyData.bool)] ∧ W (.bool (ns.all id))) := fun B H vs ds W Q e h s q => by
  obtain ⟨ns, rfl, w⟩ := s
  cases h with
  | cons h1 h2 =>
    cases h2
    obtain ⟨t, xs, rfl, hT, hx⟩ := dp_lst h1
    have ex := dps_bools hx
    subst ex
    exact CallR.sem (cr_all C.calm) ⟨t, ns, rfl, ex_l e hT, q _ _ B H w (.bl _) (Ex.refl B) e (Ex.refl H) fun _ _ b => b⟩
theorem does_any (C : Cst X M sc NK G k) : Does X (.builtin "any") (fun ds W => ∃ ns : List Bool, ds = [.list (ns.map PyData.bool)] ∧ W (.bool (ns.any id))) := fun B H vs ds W Q e h s q => by
  obtain ⟨ns, rfl, w⟩ := s
  cases h with
  | cons h1 h2 =>
    cases h2
    obtain ⟨t, xs, rfl, hT, hx⟩ := dp_lst h1
    have ex := dps_bools hx
    subst ex
    exact CallR.sem (cr_any C.calm) ⟨t, ns, rfl, ex_l e hT, q _ _ B H w (.bl _) (Ex.refl B) e (Ex.refl H) fun _ _ b => b⟩
end

open PySem PySem.Spec PyProof.Rows L2
open Evl (Ex)
section
variable {X : Cx} {M : Md} {sc : Scope} {NK : List (Str × Bool × Bool)} {G : List Str} {k : Nat} {ρ : En} {P : D → En → Prop} {PL : List D → En → Prop} {pos : Pos} {e a b : Expr} {x : Str}
def uTst (X : Cx) (scope : Scope) (e : Expr) : TT := fun σ H Q => ∀ s H0 C cl fp, bSem (X.blk s H0 scope (compEnvC scope cl C X.env) fp) e σ H Q
theorem pts_uTst {scope : Scope} : ∀ (s : Shared) (H : Hp) (C : Addr) (cl : List (Str × Addr)) (fp : List Addr), PTs (X.blk s H scope (compEnvC scope cl C X.env) fp) [e] (uTst X scope e) :=
  fun s H C cl fp => pts_one ⟨fun pins s' σ H' Q I h => h s H C cl fp pins s' I⟩
theorem lcIf_read {B H : Hp} {σ : L2.St} {Q : VK} {scope : Scope} {i : Nat} {y : Str} {py : Pos} {elt iter tst : Expr} {Cb : Cx → Prop} (r : Rel (kwOf X) B H σ ρ)
    (cb : ∀ (s : Shared) (H : Hp) (Ca : Addr) (cl : List (Str × Addr)) (fp : List Addr), Cb (X.blk s H scope (compEnvC scope cl Ca X.env) fp))
    (h : VI X (.Name y py) iter ρ fun ds ρ1 => ds.length ≤ 100000 ∧ ∃ W : Nat → List D → En → Prop, W 0 [] ρ1 ∧
      (∀ (j : Nat) d acc ρ', ds[j]? = some d → W j acc ρ' → ∀ X', Cb X' → VT X' tst (ρ'.set i (.dat d)) fun bb ρ3 => (bb = true → ∀ X'', Cb X'' → VD X'' elt ρ3 fun u ρ4 => W (j + 1) (acc ++ [u]) (ρ4.set i .no)) ∧ (bb = false → W (j + 1) acc (ρ3.set i .no))) ∧
      ∀ acc ρ', W ds.length acc ρ' → PL acc ρ')
    (q : ∀ p vs ds B' H' ρ', PL ds ρ' → H p = none → H' p = some (.lst vs) → B' p = none → ¬ Own ρ' p → DpAll X.K B' vs ds → Go B H ρ B' H' ρ' → Rel (kwOf X) B' H' σ ρ' → Q (.ref p) H') :
    tLc (iSemI X (.Name y py) iter) (gName i) (uTst X scope tst) (uSem X scope elt) [i] σ H Q := by
  refine h.run B H σ _ r fun J ds B1 H1 ρ1 p1 yl g1 r1 Dl hD => ?_
  obtain ⟨hlen, W, w0, step, done⟩ := p1
  have bD : B1 Dl = none := by
    cases e : B1 Dl with
    | none => rfl
    | some u =>
      rw [r1.ex Dl u e] at hD
      cases hD
  have nD : ¬ Own ρ1 Dl := fun ⟨j, es, hj⟩ => by
    obtain ⟨_, _, ws, h7, _⟩ := r1.own j Dl es hj
    rw [hD] at h7
    cases h7
  refine ⟨fun j m H' => m = ds.length - j ∧ j ≤ ds.length ∧ ∃ acc vs B' ρ', W j acc ρ' ∧ acc.length ≤ j ∧ H' Dl = some (.lst vs) ∧ B' Dl = none ∧ ¬ Own ρ' Dl ∧ DpAll X.K B' vs acc ∧ Go B1 H1 ρ1 B' H' ρ' ∧ Rel (kwOf X) B' H' σ ρ', ⟨ds.length, by omega, by omega, [], [], B1, ρ1, w0, Nat.le_refl _, upd_same, bD, nD, .nil, (acc_put Go.refl r1 hD bD nD).1, (acc_put Go.refl r1 hD bD nD).2⟩, ?_⟩
  rintro j m H' ⟨rfl, hj, acc, vs, B', ρ', w, hacc, hl, bl, nl, dacc, g, r'⟩
  obtain ⟨y1, y2⟩ := yl j B' H' g.ex r'.ex
  by_cases hlt : j < ds.length
  · obtain ⟨go, yy⟩ := y1 hlt
    refine .inr ⟨go, fun H2 => ∃ acc vs B' ρ', W (j + 1) acc ρ' ∧ acc.length ≤ j + 1 ∧ H2 Dl = some (.lst vs) ∧ B' Dl = none ∧ ¬ Own ρ' Dl ∧ DpAll X.K B' vs acc ∧ Go B1 H1 ρ1 B' H2 ρ' ∧ Rel (kwOf X) B' H2 σ ρ', fun H2 hN2 => ⟨ds.length - (j + 1), by omega, rfl, hlt, hN2⟩, fun x H2 hy2 => ?_⟩
    obtain ⟨rfl, d, hd, dx⟩ := yy x H2 hy2
    have st := step j d acc ρ' hd w
    have rw0 : Rel (kwOf X) B' H2 (σ.set i none) (ρ'.set i .no) := rel_no r' (by rw [List.set_set])
    have rw1 : Rel (kwOf X) B' H2 ((wipe σ [i]).set i (some x)) (ρ'.set i (.dat d)) := by
      have q1 : Rel (kwOf X) B' H2 ((σ.set i none).set i (some x)) ((ρ'.set i .no).set i (.dat d)) := rel_set (i := i) rw0 dx
      have q2 : (ρ'.set i .no).set i (Sl.dat d) = ρ'.set i (.dat d) := List.set_set ..
      rw [q2] at q1
      exact q1
    have sset : ((σ.set i none).set i (some x)).set i none = σ.set i none := by rw [List.set_set, List.set_set]
    have nl2 : ¬ Own (ρ'.set i (.dat d)) Dl := fun z => nl (own_set z)
    refine ⟨sset, fun s0 H0 Ca cl fp => ?_⟩
    have vt := st _ (cb s0 H0 Ca cl fp)
    refine vt.run B' H2 ((wipe σ [i]).set i (some x)) _ rw1 fun bb B3 H3 ρ3 p3 g3 r3 => ?_
    have gA3 : Go B1 H1 ρ1 B3 H3 ρ3 := (g.trans go_set).trans g3
    have hD3 : H3 Dl = some (.lst vs) := g3.keep Dl _ hl nl2
    have bD3 : B3 Dl = none := g3.out Dl (by rw [hl]; exact fun z => by cases z) bl nl2
    have nD3 : ¬ Own ρ3 Dl := fun z => (g3.own Dl z).elim nl2 fun e => by rw [hl] at e; cases e
    cases bb with
    | true =>
      rw [if_pos rfl]
      intro s1 H01 Ca1 cl1 fp1
      have vd := p3.1 rfl _ (cb s1 H01 Ca1 cl1 fp1)
      refine vd.run B3 H3 ((wipe σ [i]).set i (some x)) _ r3 fun u du B4 H4 ρ4 p4 dv g4 r4 => ?_
      have gA : Go B1 H1 ρ1 B4 H4 ρ4 := gA3.trans g4
      have hD4 : H4 Dl = some (.lst vs) := g4.keep Dl _ hD3 nD3
      have bD4 : B4 Dl = none := g4.out Dl (by rw [hD3]; exact fun z => by cases z) bD3 nD3
      have nD4 : ¬ Own ρ4 Dl := fun z => (g4.own Dl z).elim nD3 fun e => by rw [hD3] at e; cases e
      have rS : Rel (kwOf X) B4 H4 σ (ρ4.set i .no) := rel_no r4 (by
        show ((σ.set i none).set i (some x)).set i none = σ.set i none
        exact sset)
      have gS : Go B1 H1 ρ1 B4 H4 (ρ4.set i .no) := gA.trans go_no
      have nS : ¬ Own (ρ4.set i .no) Dl := fun z => nD4 (own_no z)
      obtain ⟨gF, rF⟩ := acc_put (o := .lst (vs ++ [u])) gS rS hD bD4 nS
      refine ⟨vs, hD4, ?_, acc ++ [du], vs ++ [u], B4, ρ4.set i .no, p4, by rw [List.length_append]; exact Nat.add_le_add_right hacc 1, upd_same, bD4, nS, DpAll.app (DpAll.mono (g3.ex.trans g4.ex) dacc) (.cons dv .nil), gF, rF⟩
      rw [DpAll.len dacc]
      exact Nat.lt_of_le_of_lt hacc (Nat.lt_of_lt_of_le hlt (Nat.le_trans hlen (by decide)))
    | false =>
      rw [if_neg Bool.false_ne_true]
      have rS : Rel (kwOf X) B3 H3 σ (ρ3.set i .no) := rel_no r3 (by
        show ((σ.set i none).set i (some x)).set i none = σ.set i none
        exact sset)
      have gS : Go B1 H1 ρ1 B3 H3 (ρ3.set i .no) := gA3.trans go_no
      have nS : ¬ Own (ρ3.set i .no) Dl := fun z => nD3 (own_no z)
      exact ⟨acc, vs, B3, ρ3.set i .no, p3.2 rfl, by omega, hD3, bD3, nS, DpAll.mono g3.ex dacc, gS, rS⟩
  · have e : j = ds.length := by omega
    subst e
    exact .inl ⟨y2 (Nat.le_refl _), q Dl vs acc B' H' ρ' (done acc ρ' w) (g1.dom Dl hD) hl bl nl dacc (g1.trans g) r'⟩
/-- [elt for y in iter if tst] -/
theorem vn_lcIf (C : Cst X M sc NK G k) {scope : Scope} {i : Nat} {y : Str} {py : Pos} {elt iter tst : Expr} {v : Bool} (NK' : List (Str × Bool × Bool)) (G' : List Str) (hy : At NK' i (y, v, true))
    (h : VI X (.Name y py) iter ρ fun ds ρ1 => ds.length ≤ 100000 ∧ ∃ W : Nat → List D → En → Prop, W 0 [] ρ1 ∧
      (∀ (j : Nat) d acc ρ', ds[j]? = some d → W j acc ρ' → ∀ X', Cst X' M (relS scope sc) NK' G' k → VT X' tst (ρ'.set i (.dat d)) fun bb ρ3 => (bb = true → ∀ X'', Cst X'' M (relS scope sc) NK' G' k → VD X'' elt ρ3 fun u ρ4 => W (j + 1) (acc ++ [u]) (ρ4.set i .no)) ∧ (bb = false → W (j + 1) acc (ρ3.set i .no))) ∧
      ∀ acc ρ', W ds.length acc ρ' → PL acc ρ')
    (ok : blkC (NK.map (·.1)) sc scope [(y, i)] = true := by decide +kernel) (hN : NK'.map (·.1) = NK.map (·.1) := by rfl) (hc : chk (relS scope sc) false NK' G' = true := by decide +kernel)
    (hs : ∀ x, foldedSetIterable iter X.env x = pure x := by intro _; rfl) : VN X (.ListComp elt [⟨.Name y py, iter, [tst], 0⟩] scope pos) ρ PL := VN.mk fun B H σ Q r q => by
  have ok' : BlkOk X.N X.env.scope scope [(y, i)] := by
    rw [C.n, C.s]
    exact blkOk_by ok
  have cb : ∀ (s : Shared) (H : Hp) (Ca : Addr) (cl : List (Str × Addr)) (fp : List Addr), Cst (X.blk s H scope (compEnvC scope cl Ca X.env) fp) M (relS scope sc) NK' G' k := fun s H Ca cl fp => cst_blk C hN hc
  exact PE.sem (pe_lc (g := gName i) (tt := uTst X scope tst) C.calm C.nd pi_sem ok' (fun s H Ca cl fp => pg_name (cb s H Ca cl fp).nd ((cb s H Ca cl fp).ix hy) ((cb s H Ca cl fp).lo hy) ((cb s H Ca cl fp).fn hy)) pts_uTst pe_uSem hs)
    (lcIf_read (Cb := fun X' => Cst X' M (relS scope sc) NK' G' k) r cb h q)
/-- xs[:e] -/
theorem vn_takeE {p2 : Pos} (h : VD X a ρ fun d ρ1 => VD X b ρ1 fun y ρ2 => ∃ (ds : List D) (n : Nat), d = .list ds ∧ y = .int (n : Int) ∧ PL (ds.take n) ρ2) : VN X (.Subscript a (.Slice none (some b) none p2) pos) ρ PL := VN.mk fun B H σ Q r q => by
  refine PE.sem (pe_slice sl_list pe_sem po_none (po_some pe_sem)) ?_
  refine h.run B H σ _ r fun v d B1 H1 ρ1 p1 dv g1 r1 => ?_
  refine p1.run B1 H1 σ _ r1 fun vy y B2 H2 ρ2 p2 dy g2 r2 => ?_
  obtain ⟨ds, n, rfl, rfl, p⟩ := p2
  obtain ⟨t, vs, rfl, hT, hv⟩ := dp_lst dv
  refine ⟨(n : Int), dp_int dy, t, vs, rfl, ex_l (g2.ex.trans r2.ex) hT, fun z hz => ?_⟩
  rw [cut_take]
  obtain ⟨r3, g3, bp⟩ := new_one (o := .lst (vs.take n)) r2 hz
  refine q z _ _ _ _ ρ2 p (g1.dom z (g2.dom z hz)) upd_same bp (fun w => ?_) (DpAll.take n (DpAll.mono g2.ex hv)) ((g1.trans g2).trans g3) r3
  obtain ⟨i, fs, hf⟩ := w
  obtain ⟨_, _, ws, h5, _⟩ := r2.own i z fs hf
  rw [hz] at h5
  cases h5
/-- xs[e:] -/
theorem vn_dropE {p2 : Pos} (h : VD X a ρ fun d ρ1 => VD X b ρ1 fun y ρ2 => ∃ (ds : List D) (n : Nat), d = .list ds ∧ y = .int (n : Int) ∧ PL (ds.drop n) ρ2) : VN X (.Subscript a (.Slice (some b) none none p2) pos) ρ PL := VN.mk fun B H σ Q r q => by
  refine PE.sem (pe_slice sl_list pe_sem (po_some pe_sem) po_none) ?_
  refine h.run B H σ _ r fun v d B1 H1 ρ1 p1 dv g1 r1 => ?_
  refine p1.run B1 H1 σ _ r1 fun vy y B2 H2 ρ2 p2 dy g2 r2 => ?_
  obtain ⟨ds, n, rfl, rfl, p⟩ := p2
  obtain ⟨t, vs, rfl, hT, hv⟩ := dp_lst dv
  refine ⟨(n : Int), dp_int dy, t, vs, rfl, ex_l (g2.ex.trans r2.ex) hT, fun z hz => ?_⟩
  rw [cut_drop]
  obtain ⟨r3, g3, bp⟩ := new_one (o := .lst (vs.drop n)) r2 hz
  refine q z _ _ _ _ ρ2 p (g1.dom z (g2.dom z hz)) upd_same bp (fun w => ?_) (DpAll.drop n (DpAll.mono g2.ex hv)) ((g1.trans g2).trans g3) r3
  obtain ⟨i, fs, hf⟩ := w
  obtain ⟨_, _, ws, h5, _⟩ := r2.own i z fs hf
  rw [hz] at h5
  cases h5
/-- a number that stands at the top -/
theorem vd_gint (C : Cst X M sc NK G k) {i : Nat} {n : Int} {t : Tok} (hg : At G i x) (hm : M.mg x = some (.int n t)) (p : P (.int n) ρ) (hd : (x == ("__debug__" : Str)) = false := by decide) : VD X (.Name x pos) ρ P := VD.mk fun B H σ Q r q =>
  PE.sem (pe_glob (C.g hg) (C.mg hm) (v := .int n) ⟨t, rfl⟩ hd) (q _ _ B H ρ p (.int n) Go.refl r)
end

open PySem PySem.Spec PyProof.Rows L2
open Evl (Ex)
section
variable {X : Cx} {M : Md} {sc : Scope} {NK : List (Str × Bool × Bool)} {G : List Str} {k : Nat} {ρ : En} {P : D → En → Prop} {PL : List D → En → Prop} {pos : Pos} {e a b : Expr} {x : Str}
theorem DpAll_rev {K : PySem.W.Frag} {H : Hp} : ∀ {vs : List V} {ds : List D}, DpAll K H vs ds → DpAll K H vs.reverse ds.reverse
  | [], _, .nil => .nil
  | v :: vs, _, .cons h hs => by
    rw [List.reverse_cons, List.reverse_cons]
    exact DpAll.app (DpAll_rev hs) (.cons h .nil)
theorem vn_rev {kk : Nat} {p1 p2 p3 : Pos} (h : VD X a ρ fun d ρ1 => ∃ ds : List D, d = .list ds ∧ PL ds.reverse ρ1) : VN X (.Subscript a (.Slice none none (some (.UnaryOp .USub (.Constant (.int 1) kk p1) p2)) p3) pos) ρ PL := VN.mk fun B H σ Q r q => by
  refine PE.sem (pe_revL pe_sem) ?_
  refine h.run B H σ _ r fun v d B1 H1 ρ1 p1 dv g1 r1 => ?_
  obtain ⟨ds, rfl, p⟩ := p1
  obtain ⟨t, vs, rfl, hT, hv⟩ := dp_lst dv
  refine ⟨t, vs, rfl, ex_l r1.ex hT, fun z hz => ?_⟩
  obtain ⟨r3, g3, bp⟩ := new_one (o := .lst vs.reverse) r1 hz
  refine q z _ _ _ _ ρ1 p (g1.dom z hz) upd_same bp (fun w => ?_) (DpAll_rev hv) (g1.trans g3) r3
  obtain ⟨i, fs, hf⟩ := w
  obtain ⟨_, _, ws, h5, _⟩ := r1.own i z fs hf
  rw [hz] at h5
  cases h5
theorem vn_list (C : Cst X M sc NK G k) {i : Nat} {p : Pos} (hg : At G i "list") (h : VD X e ρ fun d ρ1 => ∃ ds : List D, d = .list ds ∧ PL ds ρ1) (hm : M.mg "list" = none := by assumption)
    (he : starEach [e] X.env = (false, eval e X.env) :: starEach [] X.env := by rfl) (hpl : (backTo pos (starEach [] X.env)).any (·.1) = false := by rfl) : VN X (.Call (.Name "list" p) [e] [] pos) ρ PL := VN.mk fun B H σ Q r q => by
  refine PE.sem (pe_callTy call_list_of (C.g hg) (C.mg hm) (by decide +kernel) (pa_cons pe_sem pa_nil he) (by decide) (by decide) he hpl) ?_
  refine h.run B H σ _ r fun v d B1 H1 ρ1 p1 dv g1 r1 => ?_
  obtain ⟨ds, rfl, p⟩ := p1
  obtain ⟨t, vs, rfl, hT, hv⟩ := dp_lst dv
  refine ⟨t, vs, rfl, .inl (ex_l r1.ex hT), fun z hz => ?_⟩
  obtain ⟨r3, g3, bp⟩ := new_one (o := .lst vs) r1 hz
  refine q z _ _ _ _ ρ1 p (g1.dom z hz) upd_same bp (fun w => ?_) hv (g1.trans g3) r3
  obtain ⟨i, fs, hf⟩ := w
  obtain ⟨_, _, ws, h5, _⟩ := r1.own i z fs hf
  rw [hz] at h5
  cases h5
end

open PySem PySem.Spec PyProof.Rows L2
open Evl (Ex)
section
variable {X : Cx} {M : Md} {sc : Scope} {NK : List (Str × Bool × Bool)} {G : List Str} {k : Nat} {ρ : En} {P : D → En → Prop} {PL : List D → En → Prop} {pos : Pos} {e a b : Expr} {x y : Str} {F : Fin}
theorem not_own {K : Kw} {B H : Hp} {σ : L2.St} {ρ : En} {z : Addr} (r : Rel K B H σ ρ) (hz : H z = none) : ¬ Own ρ z := fun ⟨i, o, hf⟩ => by
  obtain ⟨_, _, ws, h5, _⟩ := r.own i z o hf
  rw [hz] at h5
  cases h5
/-- name = {} -/
theorem vs_newDi (C : Cst X M sc NK G k) {i : Nat} {v : Bool} {p dpos : Pos} (ha : At NK i (x, v, true)) (hi : i < ρ.length) (h : ∀ z, F.nx (ρ.set i (.own z (.di []))))
    (hs : swapsWith (.Dict [] [] dpos) (some (.Name x p)) pos.line X.env = pure false := by rfl) : VS X (.Assign [.Name x p] (.Dict [] [] dpos) pos) ρ F := VS.mk fun B H σ Z r f => by
  refine PS.sem (ps_set C.nd (C.ix ha) (C.lo ha) pe_dnewK hs (C.fn ha)) ?_
  intro z hz
  obtain ⟨r1, g1, bz⟩ := new_one (o := .dK []) r hz
  obtain ⟨g2, r2⟩ := own_newO (i := i) (ds := .di []) hi hz upd_same bz (not_own r hz) ⟨[], .nil, rfl⟩ g1 r1
  exact f.nx _ _ _ _ (h z) g2 r2
/-! ### xs.extend(ys) -/
theorem meets_ext (l : Addr) (us : Array Value) (n : Nat) (b : Addr) (ws : Array Value) (m : Nat) (sl : Array (Option Value)) (notLong : ¬(!us.isEmpty && Builtin.List.listTooLong (us.size + ws.size)) = true) (fits : us.size ≤ sizeLine) (both : us.size + ws.size ≤ sizeLine + 1) :
    Meets (Builtin.«list.extend» ⟨[.ref l, .ref b], []⟩) (fun _ R t => t.heap.get? l = some ⟨.type "list", none, .seq us n, #[]⟩ ∧ t.heap.get? b = some ⟨.type "list", none, .seq ws m, sl⟩ ∧
      R (.ok (.ret Value.none)) { t with heap := t.heap.update l (Obj.mapSeq fun z => z ++ ws), toks := t.toks }) :=
  .of_wp fun prog w A R t q => by
    obtain ⟨hh, gg, dd, tt, oo⟩ := t
    obtain ⟨q1, q2, q3⟩ := q
    have k1 := PySem.AutoSeq1.idx_int
    have k2 := PySem.AutoSeq1.sub_tuple_tuple
    have k3 := PySem.AutoSeq1.sub_list_list
    have k4 := PySem.AutoSeq1.sub_tuple_list
    have k5 := PySem.AutoSeq1.sub_list_tuple
    have grown : (us ++ ws).size ≤ sizeLine + 1 := by
      rw [Array.size_append]
      exact both
    wp_walk using (PySem.wpAny_updateSeq q1 rfl (hz := fits) (_hz' := grown)), PySem.AutoSeq1.wpAny_loadPart' q1, PySem.AutoSeq1.wpAny_loadPart' q2
    exact ⟨_, rfl, q3⟩
def rExtS (K : PySem.W.Frag) : V → List V → Hp → VK → Prop := fun x vs H Q => ∃ l b xs zs, x = .ref l ∧ vs = [.ref b] ∧ H l = some (.lst xs) ∧ SqL K H b zs ∧ xs.length + zs.length ≤ 200000 ∧ Q .non (upd H l (.lst (xs ++ zs)))
theorem mt_extS : MtM X "list.extend" (rExtS X.K) := by
  intro pins t σ H x vs v us Q I rx rv hh
  obtain ⟨l, b, xs, zs, rfl, rfl, mine, other, fits, q⟩ := hh
  cases rx
  obtain ⟨u, rfl, ru⟩ := rv.one
  cases ru
  obtain ⟨_, has, n, rel, len1, at1⟩ := I.lstM mine
  obtain ⟨hbs, rel2, ⟨⟨cl, dt, da, sl⟩, m, g1, g2, g3, g4⟩, len2⟩ := I.list other
  simp only at g2 g3 g4
  subst g2 g3 g4
  have le2 := rel2.length
  have big := sizeLine_eq
  have sum : has.toArray.size + hbs.toArray.size ≤ sizeLine := by
    rw [List.size_toArray, List.size_toArray]
    omega
  have short : ¬ (!has.toArray.isEmpty && Builtin.List.listTooLong (has.toArray.size + hbs.toArray.size)) = true := by
    rw [notLongL sum, Bool.and_false]
    decide
  refine call_meets PySem.F.slot_list_extend ⟨_, at1, rfl⟩ PySem.F.entry_list_extend (PySem.F.args_list_extend_2 _ _) (meets_ext l has.toArray n b hbs.toArray m sl short (by omega) (by omega)) ⟨at1, g1, ?_⟩
  refine ⟨.non, _, I.lset (its' := has ++ hbs) mine at1 (by simp) (rel.append rel2) ?_, rfl, q⟩
  rw [List.length_append]
  omega
/-- xs.extend(e), xs a list of one's own -/
theorem vs_extend (C : Cst X M sc NK G k) {i : Nat} {l : Bool} {p : Addr} {cs0 : List D} {px ap cp : Pos} (ha : At NK i (x, true, l)) (ho : ρ[i]? = some (.own p cs0))
    (h : VD X e ρ fun d ρ1 => ∃ (xs cs : List D), d = .list xs ∧ ρ1[i]? = some (.own p cs) ∧ cs.length + xs.length ≤ 100000 ∧ F.nx (ρ1.set i (.own p (.l (cs ++ xs)))))
    (hbase : attributeBase (.Name x px) "extend" X.env (eval (.Name x px) X.env) = eval (.Name x px) X.env := by rfl)
    (hfew : ((backTo cp (starEach [e] X.env)).all (fun x => !x.1) && (backToKw cp (keywordEach [] X.env)).all (fun x => x.1.isSome) && decide (([e] : List Expr).length + ([] : List Keyword).length + (if ([] : List Keyword).isEmpty then 0 else 1) < 30)) = true := by rfl)
    (hline : (ap.endLine == cp.line) = true := by rfl) (he : starEach [e] X.env = (false, eval e X.env) :: starEach [] X.env := by rfl) (hpl : (backTo cp (starEach [] X.env)).any (·.1) = false := by rfl)
    (hs : swapsWith (.Call (.Attribute (.Name x px) "extend" ap) [e] [] cp) none pos.line X.env = pure false := by rfl) (hd : (x == ("__debug__" : Str)) = false := by decide) (hcd : (x == ("__classdict__" : Str)) = false := by decide) :
    VS X (.Expr (.Call (.Attribute (.Name x px) "extend" ap) [e] [] cp) pos) ρ F := VS.mk fun B H σ Z r f => by
  refine PS.sem (ps_expr (pe_bm PySem.F.plainAttrs_list PySem.F.slot_list_extend PySem.F.type_list_extend mt_extS (pe_var (C.ix ha) (C.vi ha) hd hcd) (pa_cons pe_sem pa_nil he) hbase hfew hline he hpl) hs) ?_
  obtain ⟨s1, b1, _, h3, ws, rfl, d3⟩ := r.own i p cs0 ho
  refine ⟨.ref p, s1, .inl ⟨rfl, ws, .inl (.inl h3)⟩, ?_⟩
  refine h.run B H σ _ r fun v d B1 H1 ρ1 p1 dv g1 r1 => ?_
  obtain ⟨xs, cs, rfl, ho1, hlen, pp⟩ := p1
  obtain ⟨_, bp, _, h5, us, rfl, d5⟩ := r1.own i p cs ho1
  obtain ⟨t, vs, rfl, hT, hv⟩ := dp_lst dv
  obtain ⟨r2, g2⟩ := own_write (vs' := us ++ vs) (cs' := cs ++ xs) r1 ho1 (DpAll.app d5 hv)
  refine ⟨p, t, us, vs, rfl, rfl, h5, ex_l r1.ex hT, ?_, f.nx B1 _ σ _ pp (g1.trans g2) r2⟩
  rw [DpAll.len d5, DpAll.len hv]
  omega
/-! ### d[k], sorted(d) -/
theorem valV_at {es : List (Int × D)} {kk : Int} {d : D} {K : PySem.W.Frag} {B : Hp} : ∀ {es : List (Int × D)} {vs : List V}, DpAll K B vs (es.map (·.2)) → es.find? (fun e => decide (e.1 = kk)) = some (kk, d) →
    ∃ v, valV (List.zipWith (fun e v => ((Sum.inl e.1 : Key), v)) es vs) (.inl kk) = some v ∧ Dp K B v d
  | [], _, _, h => nomatch h
  | e :: es, v :: vs, .cons h1 h2, h => by
    rw [List.find?_cons] at h
    unfold valV
    rw [List.zipWith_cons_cons, List.find?_cons]
    by_cases q : e.1 = kk
    · rw [decide_eq_true q] at h
      have e2 : decide ((Sum.inl e.1 : Key) = Sum.inl kk) = true := decide_eq_true (by rw [q])
      rw [e2]
      have e3 : e = (kk, d) := Option.some.inj h
      rw [e3] at h1
      exact ⟨v, rfl, h1⟩
    · rw [decide_eq_false q] at h
      have e2 : decide ((Sum.inl e.1 : Key) = Sum.inl kk) = false := decide_eq_false fun z => q (Sum.inl.inj z)
      rw [e2]
      exact valV_at (es := es) h2 h
/-- d[e], d a dict of one's own, the key there -/
theorem vd_dgetDi (C : Cst X M sc NK G k) {i : Nat} {l : Bool} {p : Addr} {es0 : List (Int × D)} {px : Pos} (ha : At NK i (x, true, l)) (ho : ρ[i]? = some (.own p (.di es0)))
    (h : VD X b ρ fun y ρ1 => ∃ (kk : Int) (es : List (Int × D)) (d : D), y = .int kk ∧ ρ1[i]? = some (.own p (.di es)) ∧ es.find? (fun e => decide (e.1 = kk)) = some (kk, d) ∧ P d ρ1) (hs : NoSl b := by exact fun _ _ => rfl) (hd : (x == ("__debug__" : Str)) = false := by decide) (hcd : (x == ("__classdict__" : Str)) = false := by decide) : VD X (.Subscript (.Name x px) b pos) ρ P := VD.mk fun B H σ Q r q => by
  have hu := C.hu
  refine PE.sem (pe_dget (by omega) (pe_var (C.ix ha) (C.vi ha) hd hcd) pe_sem hs) ?_
  refine ⟨.ref p, (r.own i p _ ho).1, ?_⟩
  refine h.run B H σ _ r fun vy y B1 H1 ρ1 p1 dy g1 r1 => ?_
  obtain ⟨kk, es, d, rfl, ho1, hf, pp⟩ := p1
  obtain ⟨_, _, _, h3, vs, dvs, rfl⟩ := r1.own i p _ ho1
  obtain ⟨v, hv, dv⟩ := valV_at (es := es) dvs hf
  exact ⟨p, v, rfl, .inl ⟨_, .inl kk, .inl h3, dp_int dy, hv.symm⟩, q v d B1 H1 ρ1 pp dv g1 r1⟩
end

open PySem PySem.Spec PyProof.Rows L2
open Evl (Ex)
section
variable {X : Cx} {M : Md} {sc : Scope} {NK : List (Str × Bool × Bool)} {G : List Str} {k : Nat} {ρ : En} {P : D → En → Prop} {PL : List D → En → Prop} {pos : Pos} {e a b ke : Expr} {x y : Str} {F : Fin}
theorem zip_keys {K : PySem.W.Frag} {B : Hp} : ∀ {es : List (Int × D)} {vs : List V}, DpAll K B vs (es.map (·.2)) → (List.zipWith (fun e v => ((Sum.inl e.1 : Key), v)) es vs).map (·.1) = (es.map (·.1)).map Sum.inl
  | [], [], .nil => rfl
  | e :: es, v :: vs, .cons h1 h2 => by
    rw [List.zipWith_cons_cons, List.map_cons, List.map_cons, List.map_cons, zip_keys h2]
/-- sorted(d), d a dict of one's own -/
theorem vn_sortedDi (C : Cst X M sc NK G k) {i j : Nat} {l : Bool} {p : Addr} {es : List (Int × D)} {px pn : Pos} (hg : At G j "sorted") (ha : At NK i (x, true, l)) (ho : ρ[i]? = some (.own p (.di es))) (hl : es.length < 64)
    (h : ∀ ys : List Int, ys.Perm (es.map (·.1)) → ys.Pairwise (· ≤ ·) → PL (ys.map PyData.int) ρ) (hm : M.mg "sorted" = none := by assumption) (hv : bootBuiltins "sorted" = some (.builtin "sorted") := by decide +kernel)
    (he : starEach [.Name x px] X.env = (false, eval (.Name x px) X.env) :: starEach [] X.env := by rfl) (hpl : (backTo pos (starEach [] X.env)).any (·.1) = false := by rfl) (hd : (x == ("__debug__" : Str)) = false := by decide) (hcd : (x == ("__classdict__" : Str)) = false := by decide) :
    VN X (.Call (.Name "sorted" pn) [.Name x px] [] pos) ρ PL := VN.mk fun B H σ Q r q => by
  refine PE.sem (pe_callB (call_sortedDI C.calm) (C.g hg) (C.mg hm) hv (pa_cons (pe_var (C.ix ha) (C.vi ha) hd hcd) pa_nil he) (by decide) (by decide) he hpl) ?_
  obtain ⟨s1, b1, _, h3, vs, dvs, rfl⟩ := r.own i p _ ho
  refine ⟨.ref p, s1, p, _, es.map (·.1), rfl, .inl h3, zip_keys dvs, by rw [List.length_map]; exact hl, fun ys z hperm hpw hz => ?_⟩
  obtain ⟨r1, g1, bz⟩ := new_one (o := .lst (ys.map V.int)) r hz
  exact q z _ _ _ _ ρ (h ys hperm hpw) hz upd_same bz (not_own r hz) (dp_ints ys) g1 r1
theorem upd_comm {H : Hp} {p q : Addr} {o u : HO} (h : p ≠ q) : upd (upd H p o) q u = upd (upd H q u) p o := by
  funext a
  unfold upd
  by_cases h1 : a = q
  · subst h1
    rw [if_pos rfl, if_neg (fun z => h z.symm), if_pos rfl]
  · rw [if_neg h1, if_neg h1]
theorem upd_twice {H : Hp} {p : Addr} {o u : HO} : upd (upd H p o) p u = upd H p u := by
  funext a
  unfold upd
  by_cases h1 : a = p
  · rw [if_pos h1, if_pos h1]
  · rw [if_neg h1, if_neg h1, if_neg h1]
theorem zip_any {K : PySem.W.Frag} {B : Hp} {kk : Int} : ∀ {es : List (Int × D)} {vs : List V}, DpAll K B vs (es.map (·.2)) → (∀ e ∈ es, e.1 ≠ kk) →
    ((List.zipWith (fun e v => ((Sum.inl e.1 : Key), v)) es vs).any fun kv => decide (kv.1 = Sum.inl kk)) = false
  | [], [], .nil, _ => rfl
  | e :: es, v :: vs, .cons h1 h2, h => by
    rw [List.zipWith_cons_cons, List.any_cons, zip_any h2 fun e' he => h e' (by simp [he])]
    have : decide ((Sum.inl e.1 : Key) = Sum.inl kk) = false := decide_eq_false fun z => h e (by simp) (Sum.inl.inj z)
    rw [this]
    rfl
theorem zip_app {K : PySem.W.Frag} {B : Hp} {e0 : Int × D} {v0 : V} : ∀ {es : List (Int × D)} {vs : List V}, DpAll K B vs (es.map (·.2)) →
    List.zipWith (fun e v => ((Sum.inl e.1 : Key), v)) es vs ++ [(Sum.inl e0.1, v0)] = List.zipWith (fun e v => ((Sum.inl e.1 : Key), v)) (es ++ [e0]) (vs ++ [v0])
  | [], [], .nil => rfl
  | e :: es, v :: vs, .cons h1 h2 => by
    rw [List.zipWith_cons_cons, List.cons_append, zip_app h2]
    rfl
theorem valV_none {K : List (Key × V)} {kk : Int} (h : (K.any fun kv => decide (kv.1 = Sum.inl kk)) = false) : valV K (.inl kk) = none := by
  unfold valV
  rw [List.find?_eq_none.mpr fun z hz => ?_]
  · rfl
  · have := List.any_eq_false.mp h z hz
    exact this
/-- d.setdefault(k, []).append(name), the key not there -/
theorem vs_dapp (C : Cst X M sc NK G k) {i j : Nat} {l l2 : Bool} {p : Addr} {es0 : List (Int × D)} {px py lp a1 a2 c1 c2 : Pos} (ha : At NK i (x, true, l)) (ho : ρ[i]? = some (.own p (.di es0))) (hy : At NK j (y, true, l2))
    (h : VD X ke ρ fun d ρ1 => ∃ (kk : Int) (es : List (Int × D)) (w : D), d = .int kk ∧ ρ1[i]? = some (.own p (.di es)) ∧ ρ1[j]? = some (.dat w) ∧ (∀ e ∈ es, e.1 ≠ kk) ∧ es.length ≤ 100000 ∧ F.nx (ρ1.set i (.own p (.di (es ++ [(kk, .list [w])])))))
    (m2 : M2 X (.Name x px) "setdefault" a1 ke (.List [] lp) c1 := by exact ⟨rfl, rfl, rfl, rfl⟩)
    (hbase : attributeBase (.Call (.Attribute (.Name x px) "setdefault" a1) [ke, .List [] lp] [] c1) "append" X.env (eval (.Call (.Attribute (.Name x px) "setdefault" a1) [ke, .List [] lp] [] c1) X.env) = eval (.Call (.Attribute (.Name x px) "setdefault" a1) [ke, .List [] lp] [] c1) X.env := by rfl)
    (hfew : ((backTo c2 (starEach [.Name y py] X.env)).all (fun x => !x.1) && (backToKw c2 (keywordEach [] X.env)).all (fun x => x.1.isSome) && decide (([.Name y py] : List Expr).length + ([] : List Keyword).length + (if ([] : List Keyword).isEmpty then 0 else 1) < 30)) = true := by rfl)
    (hline : (a2.endLine == c2.line) = true := by rfl) (he : starEach [.Name y py] X.env = (false, eval (.Name y py) X.env) :: starEach [] X.env := by rfl) (hpl : (backTo c2 (starEach [] X.env)).any (·.1) = false := by rfl)
    (hs : swapsWith (.Call (.Attribute (.Call (.Attribute (.Name x px) "setdefault" a1) [ke, .List [] lp] [] c1) "append" a2) [.Name y py] [] c2) none pos.line X.env = pure false := by rfl)
    (hd : (x == ("__debug__" : Str)) = false := by decide) (hcd : (x == ("__classdict__" : Str)) = false := by decide) (hd2 : (y == ("__debug__" : Str)) = false := by decide) (hcd2 : (y == ("__classdict__" : Str)) = false := by decide) :
    VS X (.Expr (.Call (.Attribute (.Call (.Attribute (.Name x px) "setdefault" a1) [ke, .List [] lp] [] c1) "append" a2) [.Name y py] [] c2) pos) ρ F := VS.mk fun B H σ Z r f => by
  refine PS.sem (ps_expr (pe_bm PySem.F.plainAttrs_list PySem.F.slot_list_append PySem.F.type_list_append mt_append (pe_dsetd (pe_var (C.ix ha) (C.vi ha) hd hcd) pe_sem (pe_lst pa_nil) m2) (pa_cons (pe_var (C.ix hy) (C.vi hy) hd2 hcd2) pa_nil he) hbase hfew hline he hpl) hs) ?_
  obtain ⟨s1, b1, _, h3, ws, dws, rfl⟩ := r.own i p _ ho
  refine ⟨.ref p, s1, p, rfl, .inl ⟨_, .inl h3⟩, ?_⟩
  refine h.run B H σ _ r fun v d B1 H1 ρ1 p1 dv g1 r1 => ?_
  obtain ⟨kk, es, w, rfl, ho1, hw, hno, hlen, pp⟩ := p1
  obtain ⟨s2, bp, _, h5, us, dus, rfl⟩ := r1.own i p _ ho1
  obtain ⟨vw, sw, dw⟩ := r1.dat j w hw
  have sl := sizeLine_eq
  refine ⟨by show 0 ≤ sizeLine; omega, fun z hz => ?_⟩
  have zp : z ≠ p := fun e => by rw [e, h5] at hz; cases hz
  have any0 := zip_any dus hno
  have hlz : (List.zipWith (fun e v => ((Sum.inl e.1 : Key), v)) es us).length ≤ 100000 := by
    rw [List.length_zipWith]
    omega
  refine ⟨_, .inl kk, by rw [upd_ne (fun e => zp e.symm)]; exact h5, dp_int dv, by omega, fun v hv => ?_, fun _ => ?_⟩
  · rw [valV_none any0] at hv
    cases hv
  · have eput : putK (List.zipWith (fun e v => ((Sum.inl e.1 : Key), v)) es us) (.inl kk) (.ref z) = List.zipWith (fun e v => ((Sum.inl e.1 : Key), v)) (es ++ [(kk, .list [w])]) (us ++ [.ref z]) := by
      unfold putK
      rw [any0, if_neg (by decide)]
      exact zip_app (e0 := (kk, .list [w])) dus
    rw [eput]
    have hq : upd (upd H1 z (.lst [])) p (.dK (List.zipWith (fun e v => ((Sum.inl e.1 : Key), v)) (es ++ [(kk, .list [w])]) (us ++ [.ref z]))) z = some (.lst []) := by
      rw [upd_ne zp]
      exact upd_same
    refine ⟨.inl ⟨rfl, [], .inl (.inl hq)⟩, ?_⟩
    refine ⟨vw, sw, ?_⟩
    refine ⟨z, [], vw, rfl, rfl, hq, by show 0 < sizeLine; omega, ?_⟩
    obtain ⟨r2, g2⟩ := new_both (o := .lst [vw]) r1 hz
    have eB : Ex B1 (upd B1 z (.lst [vw])) := g2.ex
    obtain ⟨r3, g3⟩ := own_writeO (u' := .dK (List.zipWith (fun e v => ((Sum.inl e.1 : Key), v)) (es ++ [(kk, .list [w])]) (us ++ [.ref z]))) (cs' := .di (es ++ [(kk, .list [w])])) r2 ho1 ⟨us ++ [.ref z], by
      rw [List.map_append]
      exact DpAll.app (DpAll.mono eB dus) (.cons (.lst (.inl (.inl upd_same)) (.cons (Dp.mono eB dw) .nil)) .nil), rfl⟩
    have eH : upd (upd (upd H1 z (.lst [])) p (.dK (List.zipWith (fun e v => ((Sum.inl e.1 : Key), v)) (es ++ [(kk, .list [w])]) (us ++ [.ref z])))) z (.lst ([] ++ [vw])) = upd (upd H1 z (.lst [vw])) p (.dK (List.zipWith (fun e v => ((Sum.inl e.1 : Key), v)) (es ++ [(kk, .list [w])]) (us ++ [.ref z]))) := by
      rw [upd_comm (fun e => zp e.symm), upd_twice]
      rfl
    rw [eH]
    exact f.nx _ _ σ _ pp ((g1.trans g2).trans g3) r3
end

open PySem PySem.Spec PyProof.Rows L2
open Evl (Ex)
section
variable {X : Cx} {M : Md} {sc : Scope} {NK : List (Str × Bool × Bool)} {G : List Str} {k : Nat} {ρ : En} {P : D → En → Prop} {PL : List D → En → Prop} {pos : Pos} {e a b ke : Expr} {x y : Str} {F : Fin}
/-! ### data as keys -/
mutual
theorem nested_of {pins : List (Addr × Obj)} {σ : L2.St} {B H : Hp} {s : Shared} (I : Inv X pins σ H s) (eB : Ex B H) : ∀ {v : V} {d : D} {u : Value}, Dp X.K B v d → kyD d = true → RelV v u → NestedIs s.heap (nkD d) u
  | _, _, _, .non, _, r => by cases r; exact .none
  | _, _, _, .bl b, _, r => by cases r; exact .bool rfl
  | _, _, _, .int i, _, r => by obtain ⟨t, rfl⟩ := r; exact .int _ _
  | _, _, _, .str x, _, r => by obtain ⟨t, rfl⟩ := r; exact .text _ _
  | _, _, _, .lst _ _, h, _ => by cases h
  | _, _, _, .tup h hs, ky, r => by
    cases r
    obtain ⟨its, rv, ⟨o, ho, hc, n, hd⟩, _⟩ := I.tuple (ex_t eB h)
    exact .tup ho hc hd (by rw [List.toList_toArray]; exact nesteds_of I eB hs ky rv)
theorem nesteds_of {pins : List (Addr × Obj)} {σ : L2.St} {B H : Hp} {s : Shared} (I : Inv X pins σ H s) (eB : Ex B H) : ∀ {vs : List V} {ds : List D} {us : List Value}, DpAll X.K B vs ds → kyDs ds = true → Vals vs us → NestedAll s.heap (nkDs ds) us
  | _, _, _, .nil, _, r => by cases r; exact .nil
  | _, _, _, .cons h hs, ky, r => by
    cases r with
    | cons r1 r2 =>
      unfold kyDs at ky
      rw [Bool.and_eq_true] at ky
      exact .cons (nested_of I eB h ky.1 r1) (nesteds_of I eB hs ky.2 r2)
end
theorem ent_is {pins : List (Addr × Obj)} {σ : L2.St} {B H : Hp} {s : Shared} (I : Inv X pins σ H s) (eB : Ex B H) {e : D × D} {q : NestedKey × Addr × Value} (h : EntD (kwOf X) B e q) : (nestedKind X.prog X.w).is s.heap q.1 q.2.1 := by
  rw [h.key]
  exact ⟨nested_of (X := X) I eB h.adr h.ky rfl, h.dp⟩
theorem paired_right {α β : Type} {R : α → β → Prop} {T : β → Prop} (w : ∀ a b, R a b → T b) : ∀ {l : List α} {m : List β}, Paired R l m → ∀ x ∈ m, T x
  | _, _, .nil, _, h => nomatch h
  | _, _, .cons r t, x, h => by
    rcases List.mem_cons.mp h with rfl | h
    · exact w _ _ r
    · exact paired_right w t x h
/-- {}, to be a dict by tuples -/
def tDNewN (K : Kw) : TE := fun _ H Q => ∀ p, H p = none → Q (.ref p) (upd H p (.ext (ndRaw K p [])))
theorem nd_keep {K : Kw} {a : Addr} {xs : List (NestedKey × Addr × Value)} {h : Heap} (q : ndRaw K a xs h) : (∃ o, h.get? a = some o) ∧ ∀ h1 h2 : Heap, ndRaw K a xs h1 → (∀ o, h1.get? a = some o → h2.get? a = some o) → ndRaw K a xs h2 :=
  ⟨let ⟨_, _, o, _, _, e, _⟩ := q; ⟨o, e⟩, fun _ _ ⟨h1, h2, o, es, ep, e, r⟩ w => ⟨h1, h2, o, es, ep, w o e, r⟩⟩
theorem pe_dnewN : PE X (.Dict [] [] pos) (tDNewN (kwOf X)) := ⟨fun pins s σ H Q I h =>
  wpAny_Dict_empty ⟨.ref s.heap.objs.size, _, I.laid (a := s.heap.objs.size) (o := .ext (ndRaw (kwOf X) s.heap.objs.size [])) (t' := s.toks) (fun _ _ q => Heap.get?_push_of_some _ q) (Nat.le_refl _) (by
    have q : ndRaw (kwOf X) s.heap.objs.size [] (s.heap.push { cls := .type "dict", data := .dict #[] }) :=
      ⟨beq_eq_false_iff_ne.mpr (Ne.symm (Nat.ne_of_lt I.big)), Nat.zero_le _, _, #[], 0, Heap.get?_push_size _ rfl, ⟨rfl, rfl, rfl⟩, rfl, rfl, List.nodup_nil⟩
    exact ⟨q, nd_keep q⟩), rfl, h _ (I.hok.fresh (Nat.le_refl _))⟩⟩
/-- name = {}, a dict by tuples -/
theorem vs_newDn (C : Cst X M sc NK G k) {i : Nat} {v : Bool} {p dpos : Pos} (ha : At NK i (x, v, true)) (hi : i < ρ.length) (h : ∀ z, F.nx (ρ.set i (.own z (.dn []))))
    (hs : swapsWith (.Dict [] [] dpos) (some (.Name x p)) pos.line X.env = pure false := by rfl) : VS X (.Assign [.Name x p] (.Dict [] [] dpos) pos) ρ F := VS.mk fun B H σ Z r f => by
  refine PS.sem (ps_set C.nd (C.ix ha) (C.lo ha) pe_dnewN hs (C.fn ha)) ?_
  intro z hz
  obtain ⟨r1, g1, bz⟩ := new_one (o := .ext (ndRaw (kwOf X) z [])) r hz
  obtain ⟨g2, r2⟩ := own_newO (i := i) (ds := .dn []) hi hz upd_same bz (not_own r hz) ⟨[], rfl, .nil⟩ g1 r1
  exact f.nx _ _ _ _ (h z) g2 r2
/-! ### d[k] = e -/
def rSetN (K : Kw) : V → V → V → Hp → (Hp → Prop) → Prop := fun o i v H Q => ∃ (p b : Addr) (B : Hp) (y : D) (es : List (D × D)) (xs : List (NestedKey × Addr × Value)), o = .ref p ∧ i = .ref b ∧ H p = some (.ext (ndRaw K p xs)) ∧ Ex B H ∧ Dp K.K B (.ref b) y ∧ kyD y = true ∧ (nkD y).depth ≤ 8 ∧ Paired (EntD K B) es xs ∧ es.length < sizeLine ∧
  ∀ u, RelV v u → Q (upd H p (.ext (ndRaw K p (storedH xs (nkD y) b u))))
theorem storedH_len (xs : List (NestedKey × Addr × Value)) (kk : NestedKey) (b : Addr) (u : Value) : (storedH xs kk b u).length ≤ xs.length + 1 := by
  unfold storedH
  split
  · rw [List.length_map]; omega
  · rw [List.length_append]; exact Nat.le_refl _
theorem set_nd (hu : X.A.units + 64 < cLine) : PSet X (rSetN (kwOf X)) := by
  intro pins s σ H o i v ov iv u Q I ro ri rv h
  obtain ⟨p, b, B, y, es, xs, rfl, rfl, hp, eB, dy, ky, dpt, pr, hl, q⟩ := h
  cases ro
  cases ri
  obtain ⟨⟨q1, q2, ob, es0, ep, g1, g2, g3, g4, g5⟩, _⟩ := (show ObjOk X.prog X.w H s.heap p (.ext (ndRaw (kwOf X) p xs)) from I.hok p _ hp)
  have hx : s.heap.DictOfH (nestedKind X.prog X.w) p xs := ⟨ob, es0, ep, g1, g2, g3, g4, paired_right (fun a b q => ent_is I eB q) pr, g5⟩
  have ll : es.length = xs.length := Paired.length pr
  refine wpAny_setItem_heap (knd := nestedKind X.prog X.w) (hsz := by omega) (show X.A.in1.units + 8 < cLine by rw [Around.in1_units]; omega) ⟨nested_of (X := X) I eB dy ky rfl, dpt⟩ hx fun h' hm' hs => ?_
  obtain ⟨o', es', ep', k1, k2, k3, k4, k5, k6⟩ := hm'
  have rw' : ndRaw (kwOf X) p (storedH xs (nkD y) b u) h' := ⟨q1, by have := storedH_len xs (nkD y) b u; omega, o', es', ep', k1, k2, k3, k4, k6⟩
  exact ⟨_, I.write (x := p) (e := p) (o := .ext (ndRaw (kwOf X) p (storedH xs (nkD y) b u))) (by rw [hp]; trivial) (.inl rfl) (fun c z hc e => (hs.2 c hc).trans e) ⟨o', k1⟩ ⟨rw', nd_keep rw'⟩, q u rv⟩
/-- the entries behind a store -/
def putN (es : List (D × D)) (y d : D) : List (D × D) := if es.any (fun e => decide (nkD e.1 = nkD y)) then es.map (fun e => if nkD e.1 = nkD y then (e.1, d) else e) else es ++ [(y, d)]
theorem any_atKey {K : Kw} {B : Hp} {kk : NestedKey} : ∀ {es : List (D × D)} {xs : List (NestedKey × Addr × Value)}, Paired (EntD K B) es xs → (es.any fun e => decide (nkD e.1 = kk)) = (atKey xs kk).isSome
  | _, _, .nil => rfl
  | _, _, .cons (a := e) (b := x) r t => by
    rw [List.any_cons, any_atKey t]
    by_cases q : x.1 = kk
    · have : nkD e.1 = kk := by rw [← r.key]; exact q
      rw [decide_eq_true this]
      simp [atKey, q]
    · have : ¬ nkD e.1 = kk := by rw [← r.key]; exact q
      rw [decide_eq_false this]
      simp [atKey, q]
theorem put_ent {K : Kw} {B : Hp} {y d : D} {b : Addr} {v : V} {u : Value} (dy : Dp K.K B (.ref b) y) (ky : kyD y = true) (dpt : (nkD y).depth ≤ 8) (rv : RelV v u) (dv : Dp K.K B v d) {es : List (D × D)} {xs : List (NestedKey × Addr × Value)} (pr : Paired (EntD K B) es xs) :
    Paired (EntD K B) (putN es y d) (storedH xs (nkD y) b u) := by
  unfold putN storedH
  rw [any_atKey pr]
  by_cases h : (atKey xs (nkD y)).isSome = true
  · rw [if_pos h, if_pos h]
    clear h
    induction pr with
    | nil => exact .nil
    | @cons e x _ _ r t ih =>
      rw [List.map_cons, List.map_cons]
      refine .cons ?_ ih
      unfold putAt
      by_cases q : x.1 = nkD y
      · rw [if_pos q, if_pos (by rw [← r.key]; exact q)]
        exact ⟨r.key, r.ky, r.dp, r.adr, v, rv, dv⟩
      · rw [if_neg q, if_neg (by rw [← r.key]; exact q)]
        exact r
  · rw [if_neg h, if_neg h]
    clear h
    induction pr with
    | nil => exact .cons ⟨rfl, ky, dpt, dy, v, rv, dv⟩ .nil
    | cons r t ih => exact .cons r ih
/-- name[b] = e, name a dict of one's own by tuples -/
theorem vs_putN (C : Cst X M sc NK G k) {i : Nat} {l : Bool} {p : Addr} {es0 : List (D × D)} {px p2 : Pos} (ha : At NK i (x, true, l)) (ho : ρ[i]? = some (.own p (.dn es0)))
    (h : VD X e ρ fun d ρ1 => VD X b ρ1 fun y ρ2 => ∃ (es : List (D × D)) (ys : List D), y = .tuple ys ∧ ρ2[i]? = some (.own p (.dn es)) ∧ kyD y = true ∧ (nkD y).depth ≤ 8 ∧ es.length ≤ 100000 ∧ F.nx (ρ2.set i (.own p (.dn (putN es y d)))))
    (hs : swapsWithSole [.Subscript (.Name x px) b p2] e pos.line X.env = pure false := by rfl) (hw : swappedStores [.Subscript (.Name x px) b p2] e X.env = pure none := by rfl) (h1 : (assignEach [.Subscript (.Name x px) b p2] X.env).map (·.2) = [assign (.Subscript (.Name x px) b p2) X.env] := by rfl)
    (hd : (x == ("__debug__" : Str)) = false := by decide) (hcd : (x == ("__classdict__" : Str)) = false := by decide)
    (hg : ∀ v, assign (.Subscript (.Name x px) b p2) X.env v = (do
      let ov ← holding [v] (eval (.Name x px) X.env)
      let iv ← holding [v, ov] (eval b X.env)
      standAt p2
      holding [v, ov, iv] (setItem ov iv v)
      release [v, ov, iv] []) := by intro _; rfl) : VS X (.Assign [.Subscript (.Name x px) b p2] e pos) ρ F := VS.mk fun B H σ Z r f => by
  refine PS.sem (ps_asg pe_sem (pg_sub (pe_var (C.ix ha) (C.vi ha) hd hcd) pe_sem (set_nd C.hu) hg) hs hw h1) ?_
  refine h.run B H σ _ r fun v d B1 H1 ρ1 p1 dv g1 r1 => ⟨.ref p, (r.own i p _ ho).1, ?_⟩
  refine p1.run B1 H1 σ _ r1 fun vy y B2 H2 ρ2 p2 dy g2 r2 => ?_
  obtain ⟨es, ys, rfl, ho2, ky, dpt, hl, pp⟩ := p2
  obtain ⟨t, ts, rfl, hT, hv⟩ := dp_tup dy
  obtain ⟨_, bp, _, h3, xs, rfl, pr⟩ := r2.own i p _ ho2
  have sl := sizeLine_eq
  refine ⟨p, t, B2, _, es, xs, rfl, rfl, h3, r2.ex, dy, ky, dpt, pr, by omega, fun u ru => ?_⟩
  obtain ⟨r3, g3⟩ := own_writeO (u' := .ext (ndRaw (kwOf X) p (storedH xs (nkD (.tuple ys)) t u))) (cs' := .dn (putN es (.tuple ys) d)) r2 ho2 ⟨_, rfl, put_ent dy ky dpt ru (Dp.mono g2.ex dv) pr⟩
  exact f.nx B2 _ σ _ pp ((g1.trans g2).trans g3) r3
/-! ### list(d) -/
theorem call_list_nd (hc : X.calm = true) : CallR X (.type "list") (fun xs H Q => ∃ d ks, xs = [V.ref d] ∧ H d = some (.ext (ndRaw (kwOf X) d ks)) ∧ ∀ p, H p = none → Q (.ref p) (upd H p (.lst (ks.map fun x => V.ref x.2.1)))) := by
  intro pins s σ H xs us Q I r h
  obtain ⟨d, ks, rfl, hd, q⟩ := h
  obtain ⟨u, rfl, rx⟩ := r.one
  cases rx
  obtain ⟨⟨hs, z, o, es, ep, ho, hx, hdt, he, hn⟩, _⟩ := (show ObjOk X.prog X.w H s.heap d (.ext (ndRaw (kwOf X) d ks)) from I.hok d _ hd)
  have l1 : es.size = ks.length := size_of_entries he
  refine PySem.W.kdl_call (kdl_raw hs hx hdt) (I.ok.hd hc) ho (by omega) fun h' tk acc' c' kp e it => ?_
  have ea : acc'.toList = ks.map fun x => Value.ref x.2.1 := by
    have hl : acc'.toList.length = ks.length := by rw [Array.length_toList, it.1]; exact l1
    refine List.ext_getElem? fun j => ?_
    rw [List.getElem?_map]
    cases hb : ks[j]? with
    | none =>
      have h1 := List.getElem?_eq_none_iff.mp hb
      exact List.getElem?_eq_none (by omega)
    | some b =>
      have hj : j < acc'.toList.length := by
        rw [hl]
        exact (List.getElem?_eq_some_iff.mp hb).1
      have ev := List.getElem?_eq_getElem hj
      rw [ev]
      obtain ⟨en, hen, hv⟩ := it.2 j _ (by rw [← Array.getElem?_toList]; exact ev)
      have qe := entry_at he j
      rw [hen, hb] at qe
      rw [hv, Option.some.inj qe]
      rfl
  have eb : acc'.toList = (ks.map fun x => x.2.1).map Value.ref := by rw [ea, List.map_map]; rfl
  have ec : (ks.map fun x => V.ref x.2.1) = (ks.map fun x => x.2.1).map V.ref := by rw [List.map_map]; rfl
  have rv : Vals (ks.map fun x => V.ref x.2.1) acc'.toList := by rw [eb, ec]; exact vals_refs _
  refine ⟨.ref s.heap.objs.size, _, I.laid (t' := tk) (o := .lst (ks.map fun x => V.ref x.2.1)) kp (Nat.le_refl _) ?_, rfl, q _ (I.hok.fresh (Nat.le_refl _))⟩
  exact ⟨by rw [List.length_map]; exact z, acc'.toList, c', rv, by rw [Array.toArray_toList]; exact e⟩
theorem ents_keys {K : Kw} {B : Hp} : ∀ {es : List (D × D)} {xs : List (NestedKey × Addr × Value)}, Paired (EntD K B) es xs → DpAll K.K B (xs.map fun x => V.ref x.2.1) (es.map (·.1))
  | _, _, .nil => .nil
  | _, _, .cons r t => .cons r.adr (ents_keys t)
/-- list(d), d a dict of one's own by tuples -/
theorem vn_listDn (C : Cst X M sc NK G k) {i j : Nat} {l : Bool} {p : Addr} {es : List (D × D)} {px pn : Pos} (hg : At G j "list") (ha : At NK i (x, true, l)) (ho : ρ[i]? = some (.own p (.dn es)))
    (h : PL (es.map (·.1)) ρ) (hm : M.mg "list" = none := by assumption)
    (he : starEach [.Name x px] X.env = (false, eval (.Name x px) X.env) :: starEach [] X.env := by rfl) (hpl : (backTo pos (starEach [] X.env)).any (·.1) = false := by rfl) (hd : (x == ("__debug__" : Str)) = false := by decide) (hcd : (x == ("__classdict__" : Str)) = false := by decide) :
    VN X (.Call (.Name "list" pn) [.Name x px] [] pos) ρ PL := VN.mk fun B H σ Q r q => by
  refine PE.sem (pe_callTy (call_list_nd C.calm) (C.g hg) (C.mg hm) (by decide +kernel) (pa_cons (pe_var (C.ix ha) (C.vi ha) hd hcd) pa_nil he) (by decide) (by decide) he hpl) ?_
  obtain ⟨s1, b1, _, h3, xs, rfl, pr⟩ := r.own i p _ ho
  refine ⟨.ref p, s1, p, xs, rfl, h3, fun z hz => ?_⟩
  obtain ⟨r1, g1, bz⟩ := new_one (o := .lst (xs.map fun x => V.ref x.2.1)) r hz
  exact q z _ _ _ _ ρ h hz upd_same bz (not_own r hz) (ents_keys pr) g1 r1
end

open PySem PySem.Spec PyProof.Rows L2
open Evl (Ex)
section
variable {X : Cx} {M : Md} {sc : Scope} {NK : List (Str × Bool × Bool)} {G : List Str} {k : Nat} {ρ : En} {P : D → En → Prop} {PL : List D → En → Prop} {pos : Pos} {e a b : Expr} {x y : Str} {F : Fin}
/-- xs.append(e), xs a list of one's own -/
theorem vs_append (C : Cst X M sc NK G k) {i : Nat} {l : Bool} {p : Addr} {cs0 : List D} {px ap cp : Pos} (ha : At NK i (x, true, l)) (ho : ρ[i]? = some (.own p cs0))
    (h : VD X e ρ fun d ρ1 => ∃ (cs : List D), ρ1[i]? = some (.own p cs) ∧ cs.length ≤ 100000 ∧ F.nx (ρ1.set i (.own p (.l (cs ++ [d])))))
    (hbase : attributeBase (.Name x px) "append" X.env (eval (.Name x px) X.env) = eval (.Name x px) X.env := by rfl)
    (hfew : ((backTo cp (starEach [e] X.env)).all (fun x => !x.1) && (backToKw cp (keywordEach [] X.env)).all (fun x => x.1.isSome) && decide (([e] : List Expr).length + ([] : List Keyword).length + (if ([] : List Keyword).isEmpty then 0 else 1) < 30)) = true := by rfl)
    (hline : (ap.endLine == cp.line) = true := by rfl) (he : starEach [e] X.env = (false, eval e X.env) :: starEach [] X.env := by rfl) (hpl : (backTo cp (starEach [] X.env)).any (·.1) = false := by rfl)
    (hs : swapsWith (.Call (.Attribute (.Name x px) "append" ap) [e] [] cp) none pos.line X.env = pure false := by rfl) (hd : (x == ("__debug__" : Str)) = false := by decide) (hcd : (x == ("__classdict__" : Str)) = false := by decide) :
    VS X (.Expr (.Call (.Attribute (.Name x px) "append" ap) [e] [] cp) pos) ρ F := VS.mk fun B H σ Z r f => by
  refine PS.sem (ps_expr (pe_bm PySem.F.plainAttrs_list PySem.F.slot_list_append PySem.F.type_list_append mt_append (pe_var (C.ix ha) (C.vi ha) hd hcd) (pa_cons pe_sem pa_nil he) hbase hfew hline he hpl) hs) ?_
  obtain ⟨s1, b1, _, h3, ws, rfl, d3⟩ := r.own i p cs0 ho
  refine ⟨.ref p, s1, .inl ⟨rfl, ws, .inl (.inl h3)⟩, ?_⟩
  refine h.run B H σ _ r fun v d B1 H1 ρ1 p1 dv g1 r1 => ?_
  obtain ⟨cs, ho1, hlen, pp⟩ := p1
  obtain ⟨_, bp, _, h5, us, rfl, d5⟩ := r1.own i p cs ho1
  have sl := sizeLine_eq
  obtain ⟨r2, g2⟩ := own_write (vs' := us ++ [v]) (cs' := cs ++ [d]) r1 ho1 (DpAll.app d5 (.cons dv .nil))
  refine ⟨p, us, v, rfl, rfl, h5, ?_, f.nx B1 _ σ _ pp (g1.trans g2) r2⟩
  rw [DpAll.len d5]
  omega
/-- xs + e, xs a list of one's own -/
theorem vn_catO (C : Cst X M sc NK G k) {i : Nat} {l : Bool} {p : Addr} {cs0 : List D} {px : Pos} (ha : At NK i (x, true, l)) (ho : ρ[i]? = some (.own p cs0))
    (h : VD X b ρ fun y ρ1 => ∃ (cs ys : List D), ρ1[i]? = some (.own p cs) ∧ y = .list ys ∧ cs.length + ys.length ≤ 100000 ∧ PL (cs ++ ys) ρ1) (hd : (x == ("__debug__" : Str)) = false := by decide) (hcd : (x == ("__classdict__" : Str)) = false := by decide) : VN X (.BinOp (.Name x px) .Add b pos) ρ PL := VN.mk fun B H σ Q r q => by
  refine PE.sem (pe_op or_sem (pe_var (C.ix ha) (C.vi ha) hd hcd) pe_sem) ?_
  refine ⟨.ref p, (r.own i p _ ho).1, ?_⟩
  refine h.run B H σ _ r fun vy y B2 H2 ρ2 p2 dy g2 r2 => ?_
  obtain ⟨cs, ys, ho1, rfl, hz, pp⟩ := p2
  obtain ⟨_, bp, _, h5, us, rfl, hu⟩ := r2.own i p cs ho1
  obtain ⟨l2, ws, rfl, hT2, hw⟩ := dp_lst dy
  refine OpR.sem op_catS ⟨p, l2, us, ws, rfl, rfl, .inl (.inl h5), ex_l r2.ex hT2, ?_, fun z hz2 => ?_⟩
  · rw [DpAll.len hu, DpAll.len hw]
    exact Nat.le_trans hz (by decide)
  · obtain ⟨r3, g3, bp⟩ := new_one (o := .lst (us ++ ws)) r2 hz2
    exact q z _ _ _ _ ρ2 pp (g2.dom z hz2) upd_same bp (not_own r2 hz2) (DpAll.app hu hw) (g2.trans g3) r3
/-- a, b = a new list, e: the list is the first name's own -/
theorem vs_parN (C : Cst X M sc NK G k) {i j : Nat} {v w : Bool} {px py pt : Pos} {kt k2 pt2} (hi : At NK i (x, v, true)) (hj : At NK j (y, w, true)) (hij : i ≠ j) (hil : i < ρ.length)
    (h : VN X a ρ fun ds ρ1 => VD X b ρ1 fun d2 ρ2 => ∀ z, F.nx ((ρ2.set i (.own z ds)).set j (.dat d2)))
    (hw : ∀ env : Env, env.scope = sc → swappedStores [.Tuple [.Name x px, .Name y py] kt pt] (.Tuple [a, b] k2 pt2) env = pure (some [x, y])) (hx : sc.names.lookup x = some .local := by decide +kernel) (hy : sc.names.lookup y = some .local := by decide +kernel)
    (hs : swapsWithSole [.Tuple [.Name x px, .Name y py] kt pt] (.Tuple [a, b] k2 pt2) pos.line X.env = pure false := by rfl)
    (he : starEach [a, b] X.env = (false, eval a X.env) :: starEach [b] X.env := by rfl) (he2 : starEach [b] X.env = (false, eval b X.env) :: starEach [] X.env := by rfl) :
    VS X (.Assign [.Tuple [.Name x px, .Name y py] kt pt] (.Tuple [a, b] k2 pt2) pos) ρ F := VS.mk fun B H σ Z r f => by
  refine PS.sem (ps_par C.calm C.nd (C.ix hi) (C.ix hj) hij (by rw [C.s]; exact hx) (by rw [C.s]; exact hy) (pa_cons pe_sem (pa_cons pe_sem pa_nil he2) he) (hw _ C.s) hs) ?_
  refine h.run B H σ _ r fun z vs ds B1 H1 ρ1 p1 hz h1 bz no dvs g1 r1 => ?_
  refine p1.run B1 H1 σ _ r1 fun ww d2 B2 H2 ρ2 p2 dw g2 r2 => ⟨.ref z, ww, rfl, ?_⟩
  have no2 : ¬ Own ρ2 z := fun q => (g2.own z q).elim no fun e => by rw [h1] at e; cases e
  have h2 := g2.keep z _ h1 no
  have b2 := g2.out z (by rw [h1]; exact fun e => by cases e) bz no
  have hl : i < ρ2.length := by rw [r2.len, ← r.len]; exact hil
  obtain ⟨g3, r3⟩ := own_new (i := i) hl hz h2 b2 no2 (DpAll.mono g2.ex dvs) (g1.trans g2) r2
  exact f.nx B2 H2 _ _ (p2 z) (g3.trans go_set) (rel_set r3 dw)
end

open PySem PySem.Spec PyProof.Rows L2
open Evl (Ex)
section
variable {X : Cx} {M : Md} {sc : Scope} {NK : List (Str × Bool × Bool)} {G : List Str} {k : Nat} {a b c : Expr} {ρ : En} {P : Bool → En → Prop} {pos : Pos}
theorem vt_chain (C : Cst X M sc NK G k) {op op' : CmpOp} (h : VD X a ρ fun x ρ1 => VD X b ρ1 fun y ρ2 => cmpD op x y fun bb => (bb = true → VD X c ρ2 fun z ρ3 => cmpD op' y z fun b2 => P b2 ρ3) ∧ (bb = false → P false ρ2)) (hm : lastMarks [op, op'] [b, c] = false := by rfl) : VT X (.Compare a [op, op'] [b, c] pos) ρ P := VT.mk fun B H σ Q r q => by
  refine PT.sem (pt_chain or_sem or_sem pe_sem pe_sem pe_sem hm) ?_
  refine h.run B H σ _ r fun vx x B1 H1 ρ1 p1 dx g1 r1 => ?_
  refine p1.run B1 H1 σ _ r1 fun vy y B2 H2 ρ2 p2 dy g2 r2 => ?_
  refine cmp_ok C r2.ex p2 (Dp.mono g2.ex dx) dy fun bb kb => ⟨bb, rfl, ?_⟩
  cases bb with
  | true =>
    rw [if_pos rfl]
    refine (kb.1 rfl).run B2 H2 σ _ r2 fun vz z B3 H3 ρ3 p3 dz g3 r3 => ?_
    exact cmp_ok C r3.ex p3 (Dp.mono g3.ex dy) dz fun b2 kb2 => ⟨b2, rfl, q _ B3 H3 ρ3 kb2 ((g1.trans g2).trans g3) r3⟩
  | false =>
    rw [if_neg Bool.false_ne_true]
    exact ⟨false, rfl, q _ B2 H2 ρ2 (kb.2 rfl) (g1.trans g2) r2⟩
/-- name = [elt for y in iter if tst], on one line, as data that stays -/
theorem vs_setLcIf (C : Cst X M sc NK G k) {F : Fin} {scope : Scope} {i m : Nat} {x y : Str} {px py spos : Pos} {elt iter tst : Expr} {v v2 : Bool} (NK' : List (Str × Bool × Bool)) (G' : List Str) (hx : At NK m (x, v2, true)) (hy : At NK' i (y, v, true))
    (h : VI X (.Name y py) iter ρ fun ds ρ1 => ds.length ≤ 100000 ∧ ∃ W : Nat → List D → En → Prop, W 0 [] ρ1 ∧
      (∀ (j : Nat) d acc ρ', ds[j]? = some d → W j acc ρ' → ∀ X', Cst X' M (relS scope sc) NK' G' k → VT X' tst (ρ'.set i (.dat d)) fun bb ρ3 => (bb = true → ∀ X'', Cst X'' M (relS scope sc) NK' G' k → VD X'' elt ρ3 fun u ρ4 => W (j + 1) (acc ++ [u]) (ρ4.set i .no)) ∧ (bb = false → W (j + 1) acc (ρ3.set i .no))) ∧
      ∀ acc ρ', W ds.length acc ρ' → F.nx (ρ'.set m (.dat (.list acc))))
    (hk : sc.kind = .function := by rfl) (hxl : sc.names.lookup x = some .local := by decide +kernel) (hpl : (px.line == pos.line) = true := by rfl) (hpa : (scope.names.any fun (n, k) => n == x && (k == .local || k == .cell)) = false := by decide +kernel)
    (ok : blkC (NK.map (·.1)) sc scope [(y, i)] = true := by decide +kernel) (hN : NK'.map (·.1) = NK.map (·.1) := by rfl) (hc : chk (relS scope sc) false NK' G' = true := by decide +kernel)
    (hs : ∀ x, foldedSetIterable iter X.env x = pure x := by intro _; rfl) : VS X (.Assign [.Name x px] (.ListComp elt [⟨.Name y py, iter, [tst], 0⟩] scope pos) spos) ρ F := VS.mk fun B H σ Z r f => by
  have ok' : BlkOk X.N X.env.scope scope [(y, i)] := by
    rw [C.n, C.s]
    exact blkOk_by ok
  have cb : ∀ (s : Shared) (H : Hp) (Ca : Addr) (cl : List (Str × Addr)) (fp : List Addr), Cst (X.blk s H scope (compEnvC scope cl Ca X.env) fp) M (relS scope sc) NK' G' k := fun s H Ca cl fp => cst_blk C hN hc
  refine PS.sem (ps_setLc (g := gName i) (tt := uTst X scope tst) (i := m) C.calm C.nd (C.ix hx) (by rw [C.s]; exact hxl) (sw_true (by rw [C.s]; exact hk) (by rw [C.s]; exact hxl) hpl hpa) pi_sem ok' (fun s H Ca cl fp => pg_name (cb s H Ca cl fp).nd ((cb s H Ca cl fp).ix hy) ((cb s H Ca cl fp).lo hy) ((cb s H Ca cl fp).fn hy)) pts_uTst pe_uSem hs) ?_
  refine lcIf_read (Cb := fun X' => Cst X' M (relS scope sc) NK' G' k) (PL := fun acc ρ' => F.nx (ρ'.set m (.dat (.list acc)))) r cb h fun z vs ds B1 H1 ρ1 p hz h1 bz no dvs g1 r1 => ?_
  obtain ⟨g2, r2, d2⟩ := own_frz hz h1 bz no dvs g1 r1
  exact f.nx _ H1 _ _ p (g2.trans go_set) (rel_set r2 d2)
end
end Vc

namespace K4
open PySem PySem.Spec PyProof.Rows L2 Vc
local macro_rules | `(tactic| walk_at "at") => `(tactic| (repeat (first | with_reducible exact At.here | apply At.there)))
local macro_rules | `(tactic| walk_at "v") => `(tactic| first
  | refine vd_bin ?_
  | (refine vd_name (by assumption) (by walk_at "at") rfl ?_)
  | refine vd_int ?_
  | refine vd_bool ?_
  | refine vd_none ?_
  | refine vd_str ?_
  | refine vd_if ?_
  | (refine vd_neg ?_)
  | refine vd_tup ?_
  | refine va_nil ?_
  | refine va_cons ?_
  | refine vs_ret ?_
  | refine vss_nil ?_
  | refine vss_one ?_
  | refine vss_cons ?_
  | refine vs_if ?_
  | refine vt_cmp (by assumption) ?_
  | refine vs_set (by assumption) (by walk_at "at") ?_
  | refine vd_cmp (by assumption) ?_
  | refine vgs_nil ?_
  | refine vgs_cons ?_
  | refine vg_name (by assumption) (by walk_at "at") ?_
  | (refine vd_callT (x := "int") (by assumption) does_int (by walk_at "at") ?_)
  | (refine vd_callB (x := "len") (by assumption) does_len (by walk_at "at") ?_)
  | (refine vd_callB (x := "abs") (by assumption) does_abs (by walk_at "at") ?_)
  | (refine vd_ixo (by assumption) (by walk_at "at") rfl ?_)
  | refine vd_ix ?_)
local macro_rules | `(tactic| walk_at "sw") => `(tactic| (intro env h; cases env; dsimp only at h; subst h; rfl))
local macro_rules | `(tactic| walk_at "vv") => `(tactic| repeat (walk_at "v"))
def topS (i : Nat) : Stmt := PySem.Challenge.pw_justthepart_k04_whole_cells.main.body.getD i (.Pass ⟨0, 0, 0, 0⟩)
/-! sign_of(number): slots 0 number -/
abbrev sSignOf : Stmt := topS 2
abbrev nSignOf : List Str := ["number"]
theorem scSignOf : FnScope nSignOf ["number"] (defScope sSignOf) := ⟨rfl, rfl, rfl, by decide +kernel, rfl, by decide +kernel, by decide +kernel⟩
abbrev nkSignOf : List (Str × Bool × Bool) := [("number", true, true)]
abbrev gSignOf : List Str := []
/-! fraction(above, below): slots 0 above, 1 below, 2 common -/
abbrev sFraction : Stmt := topS 3
abbrev nFraction : List Str := ["above", "below", "common"]
theorem scFraction : FnScope nFraction ["above", "below"] (defScope sFraction) := ⟨rfl, rfl, rfl, by decide +kernel, rfl, by decide +kernel, by decide +kernel⟩
abbrev nkFraction : List (Str × Bool × Bool) := [("above", true, true), ("below", true, true), ("common", true, true)]
abbrev gFraction : List Str := ["gcd"]
/-! undivided(c0, c1, c2): slots 0 c0, 1 c1, 2 c2, 3 common -/
abbrev sUndivided : Stmt := topS 4
abbrev nUndivided : List Str := ["c0", "c1", "c2", "common"]
theorem scUndivided : FnScope nUndivided ["c0", "c1", "c2"] (defScope sUndivided) := ⟨rfl, rfl, rfl, by decide +kernel, rfl, by decide +kernel, by decide +kernel⟩
abbrev nkUndivided : List (Str × Bool × Bool) := [("c0", true, true), ("c1", true, true), ("c2", true, true), ("common", true, true)]
abbrev gUndivided : List Str := ["gcd"]
/-! discriminant(c0, c1, c2): slots 0 c0, 1 c1, 2 c2 -/
abbrev sDiscriminant : Stmt := topS 5
abbrev nDiscriminant : List Str := ["c0", "c1", "c2"]
theorem scDiscriminant : FnScope nDiscriminant ["c0", "c1", "c2"] (defScope sDiscriminant) := ⟨rfl, rfl, rfl, by decide +kernel, rfl, by decide +kernel, by decide +kernel⟩
abbrev nkDiscriminant : List (Str × Bool × Bool) := [("c0", true, true), ("c1", true, true), ("c2", true, true)]
abbrev gDiscriminant : List Str := []
/-! roots(poly): slots 0 poly, 1 c0, 2 c1, 3 c2 -/
abbrev sRoots : Stmt := topS 6
abbrev nRoots : List Str := ["poly", "c0", "c1", "c2"]
theorem scRoots : FnScope nRoots ["poly"] (defScope sRoots) := ⟨rfl, rfl, rfl, by decide +kernel, rfl, by decide +kernel, by decide +kernel⟩
abbrev nkRoots : List (Str × Bool × Bool) := [("poly", true, true), ("c0", true, true), ("c1", true, true), ("c2", true, true)]
abbrev gRoots : List Str := ["square_roots", "fraction"]
/-! square_roots(c0, c1, c2): slots 0 c0, 1 c1, 2 c2, 3 square, 4 side, 5 own -/
abbrev sSquareRoots : Stmt := topS 7
abbrev nSquareRoots : List Str := ["c0", "c1", "c2", "square", "side", "own"]
theorem scSquareRoots : FnScope nSquareRoots ["c0", "c1", "c2"] (defScope sSquareRoots) := ⟨rfl, rfl, rfl, by decide +kernel, rfl, by decide +kernel, by decide +kernel⟩
abbrev nkSquareRoots : List (Str × Bool × Bool) := [("c0", true, true), ("c1", true, true), ("c2", true, true), ("square", true, true), ("side", true, true), ("own", true, true)]
abbrev gSquareRoots : List Str := ["discriminant", "isqrt", "undivided", "fraction"]
/-! sign_on(poly, place): slots 0 poly, 1 place, 2 c0, 3 c1, 4 c2, 5 n, 6 d, 7 _, 8 b0, 9 b1, 10 b2, 11 which, 12 flat, 13 steep -/
abbrev sSignOn : Stmt := topS 8
abbrev nSignOn : List Str := ["poly", "place", "c0", "c1", "c2", "n", "d", "_", "b0", "b1", "b2", "which", "flat", "steep"]
theorem scSignOn : FnScope nSignOn ["poly", "place"] (defScope sSignOn) := ⟨rfl, rfl, rfl, by decide +kernel, rfl, by decide +kernel, by decide +kernel⟩
abbrev nkSignOn : List (Str × Bool × Bool) := [("poly", true, true), ("place", true, true), ("c0", true, true), ("c1", true, true), ("c2", true, true), ("n", true, true), ("d", true, true), ("_", true, true), ("b0", true, true), ("b1", true, true), ("b2", true, true), ("which", true, true), ("flat", true, true), ("steep", true, true)]
abbrev gSignOn : List Str := ["sign_of", "sign_of_surd", "discriminant"]
/-! sign_of_surd(flat, steep, square): slots 0 flat, 1 steep, 2 square, 3 one, 4 other -/
abbrev sSignOfSurd : Stmt := topS 9
abbrev nSignOfSurd : List Str := ["flat", "steep", "square", "one", "other"]
theorem scSignOfSurd : FnScope nSignOfSurd ["flat", "steep", "square"] (defScope sSignOfSurd) := ⟨rfl, rfl, rfl, by decide +kernel, rfl, by decide +kernel, by decide +kernel⟩
abbrev nkSignOfSurd : List (Str × Bool × Bool) := [("flat", true, true), ("steep", true, true), ("square", true, true), ("one", true, true), ("other", true, true)]
abbrev gSignOfSurd : List Str := ["sign_of"]
/-! is_int(thing): slots 0 thing -/
abbrev sIsInt : Stmt := topS 12
abbrev nIsInt : List Str := ["thing"]
theorem scIsInt : FnScope nIsInt ["thing"] (defScope sIsInt) := ⟨rfl, rfl, rfl, by decide +kernel, rfl, by decide +kernel, by decide +kernel⟩
abbrev nkIsInt : List (Str × Bool × Bool) := [("thing", true, true)]
abbrev gIsInt : List Str := ["isinstance", "int", "bool"]
/-! is_place(thing): slots 0 thing -/
abbrev sIsPlace : Stmt := topS 13
abbrev nIsPlace : List Str := ["thing"]
theorem scIsPlace : FnScope nIsPlace ["thing"] (defScope sIsPlace) := ⟨rfl, rfl, rfl, by decide +kernel, rfl, by decide +kernel, by decide +kernel⟩
abbrev nkIsPlace : List (Str × Bool × Bool) := [("thing", true, true)]
abbrev gIsPlace : List Str := ["isinstance", "tuple", "len", "is_place_fraction", "is_place_root"]
/-! is_place_fraction(n, d): slots 0 n, 1 d -/
abbrev sIsPlaceFraction : Stmt := topS 14
abbrev nIsPlaceFraction : List Str := ["n", "d"]
theorem scIsPlaceFraction : FnScope nIsPlaceFraction ["n", "d"] (defScope sIsPlaceFraction) := ⟨rfl, rfl, rfl, by decide +kernel, rfl, by decide +kernel, by decide +kernel⟩
abbrev nkIsPlaceFraction : List (Str × Bool × Bool) := [("n", true, true), ("d", true, true)]
abbrev gIsPlaceFraction : List Str := ["is_int", "gcd"]
/-! is_place_root(word, own, which): slots 0 word, 1 own, 2 which -/
abbrev sIsPlaceRoot : Stmt := topS 15
abbrev nIsPlaceRoot : List Str := ["word", "own", "which"]
theorem scIsPlaceRoot : FnScope nIsPlaceRoot ["word", "own", "which"] (defScope sIsPlaceRoot) := ⟨rfl, rfl, rfl, by decide +kernel, rfl, by decide +kernel, by decide +kernel⟩
abbrev nkIsPlaceRoot : List (Str × Bool × Bool) := [("word", true, true), ("own", true, true), ("which", true, true)]
abbrev gIsPlaceRoot : List Str := ["isinstance", "str", "is_own", "is_int", "is_inner"]
/-! is_own(thing): slots 0 thing, 1 c0, 2 c1, 3 c2, 4 square, 5 side, 6 part -/
abbrev sIsOwn : Stmt := topS 16
abbrev nIsOwn : List Str := ["thing", "c0", "c1", "c2", "square", "side", "part"]
theorem scIsOwn : FnScope nIsOwn ["thing"] (defScope sIsOwn) := ⟨rfl, rfl, rfl, by decide +kernel, rfl, by decide +kernel, by decide +kernel⟩
abbrev nkIsOwn : List (Str × Bool × Bool) := [("thing", true, true), ("c0", true, true), ("c1", true, true), ("c2", true, true), ("square", true, true), ("side", true, true), ("part", false, false)]
abbrev gIsOwn : List Str := ["isinstance", "tuple", "len", "all", "gcd", "discriminant", "isqrt"]
abbrev nkIsOwn0 : List (Str × Bool × Bool) := [("thing", false, false), ("c0", false, false), ("c1", false, false), ("c2", false, false), ("square", false, false), ("side", false, false), ("part", true, true)]
abbrev gIsOwn0 : List Str := ["is_int"]
/-! is_inner(root): slots 0 root -/
abbrev sIsInner : Stmt := topS 17
abbrev nIsInner : List Str := ["root"]
theorem scIsInner : FnScope nIsInner ["root"] (defScope sIsInner) := ⟨rfl, rfl, rfl, by decide +kernel, rfl, by decide +kernel, by decide +kernel⟩
abbrev nkIsInner : List (Str × Bool × Bool) := [("root", true, true)]
abbrev gIsInner : List Str := ["floor_of"]
/-! floor_of(root, bits): slots 0 root, 1 bits, 2 n, 3 d, 4 _, 5 c0, 6 c1, 7 c2, 8 which, 9 far -/
abbrev sFloorOf : Stmt := topS 18
abbrev nFloorOf : List Str := ["root", "bits", "n", "d", "_", "c0", "c1", "c2", "which", "far"]
theorem scFloorOf : FnScope nFloorOf ["root", "bits"] (defScope sFloorOf) := ⟨rfl, rfl, rfl, by decide +kernel, rfl, by decide +kernel, by decide +kernel⟩
abbrev nkFloorOf : List (Str × Bool × Bool) := [("root", true, true), ("bits", true, true), ("n", true, true), ("d", true, true), ("_", true, true), ("c0", true, true), ("c1", true, true), ("c2", true, true), ("which", true, true), ("far", true, true)]
abbrev gFloorOf : List Str := ["isqrt", "discriminant"]
/-! ascending(unlike, bits): slots 0 unlike, 1 bits, 2 groups, 3 root, 4 out, 5 floor, 6 group -/
abbrev sAscending : Stmt := topS 19
abbrev nAscending : List Str := ["unlike", "bits", "groups", "root", "out", "floor", "group"]
theorem scAscending : FnScope nAscending ["unlike", "bits"] (defScope sAscending) := ⟨rfl, rfl, rfl, by decide +kernel, rfl, by decide +kernel, by decide +kernel⟩
abbrev nkAscending : List (Str × Bool × Bool) := [("unlike", true, true), ("bits", true, true), ("groups", true, true), ("root", true, true), ("out", true, true), ("floor", true, true), ("group", true, true)]
abbrev gAscending : List Str := ["floor_of", "sorted", "len", "ascending"]
/-! places_of(polys): slots 0 polys, 1 found, 2 poly, 3 root -/
abbrev sPlacesOf : Stmt := topS 20
abbrev nPlacesOf : List Str := ["polys", "found", "poly", "root"]
theorem scPlacesOf : FnScope nPlacesOf ["polys"] (defScope sPlacesOf) := ⟨rfl, rfl, rfl, by decide +kernel, rfl, by decide +kernel, by decide +kernel⟩
abbrev nkPlacesOf : List (Str × Bool × Bool) := [("polys", true, true), ("found", true, true), ("poly", true, true), ("root", true, true)]
abbrev gPlacesOf : List Str := ["roots", "is_inner", "ascending", "list", "FIRST_BITS"]
/-! cells_of(polys): slots 0 polys -/
abbrev sCellsOf : Stmt := topS 21
abbrev nCellsOf : List Str := ["polys"]
theorem scCellsOf : FnScope nCellsOf ["polys"] (defScope sCellsOf) := ⟨rfl, rfl, rfl, by decide +kernel, rfl, by decide +kernel, by decide +kernel⟩
abbrev nkCellsOf : List (Str × Bool × Bool) := [("polys", true, true)]
abbrev gCellsOf : List Str := ["cells_between", "places_of"]
/-! cells_between(one, places, other): slots 0 one, 1 places, 2 other, 3 out, 4 place -/
abbrev sCellsBetween : Stmt := topS 22
abbrev nCellsBetween : List Str := ["one", "places", "other", "out", "place"]
theorem scCellsBetween : FnScope nCellsBetween ["one", "places", "other"] (defScope sCellsBetween) := ⟨rfl, rfl, rfl, by decide +kernel, rfl, by decide +kernel, by decide +kernel⟩
abbrev nkCellsBetween : List (Str × Bool × Bool) := [("one", true, true), ("places", true, true), ("other", true, true), ("out", true, true), ("place", true, true)]
abbrev gCellsBetween : List Str := []
/-! sample(cell): slots 0 cell, 1 _, 2 one, 3 other, 4 bits -/
abbrev sSample : Stmt := topS 23
abbrev nSample : List Str := ["cell", "_", "one", "other", "bits"]
theorem scSample : FnScope nSample ["cell"] (defScope sSample) := ⟨rfl, rfl, rfl, by decide +kernel, rfl, by decide +kernel, by decide +kernel⟩
abbrev nkSample : List (Str × Bool × Bool) := [("cell", true, true), ("_", true, true), ("one", true, true), ("other", true, true), ("bits", true, true)]
abbrev gSample : List Str := ["floor_of", "fraction"]
/-! is_still(poly, cell): slots 0 poly, 1 cell, 2 _, 3 one, 4 other, 5 low, 6 high, 7 c0, 8 c1, 9 c2, 10 outer, 11 turn -/
abbrev sIsStill : Stmt := topS 24
abbrev nIsStill : List Str := ["poly", "cell", "_", "one", "other", "low", "high", "c0", "c1", "c2", "outer", "turn"]
theorem scIsStill : FnScope nIsStill ["poly", "cell"] (defScope sIsStill) := ⟨rfl, rfl, rfl, by decide +kernel, rfl, by decide +kernel, by decide +kernel⟩
abbrev nkIsStill : List (Str × Bool × Bool) := [("poly", true, true), ("cell", true, true), ("_", true, true), ("one", true, true), ("other", true, true), ("low", true, true), ("high", true, true), ("c0", true, true), ("c1", true, true), ("c2", true, true), ("outer", true, true), ("turn", true, true)]
abbrev gIsStill : List Str := ["sign_on", "sign_of", "discriminant"]
/-! _law_cell_at(script, k): slots 0 script, 1 k -/
abbrev sLCellAt : Stmt := topS 26
abbrev nLCellAt : List Str := ["script", "k"]
theorem scLCellAt : FnScope nLCellAt ["script", "k"] (defScope sLCellAt) := ⟨rfl, rfl, rfl, by decide +kernel, rfl, by decide +kernel, by decide +kernel⟩
abbrev nkLCellAt : List (Str × Bool × Bool) := [("script", true, true), ("k", true, true)]
abbrev gLCellAt : List Str := ["len"]
/-! _law_draw(cell, k, bound): slots 0 cell, 1 k, 2 bound, 3 primes -/
abbrev sLDraw : Stmt := topS 27
abbrev nLDraw : List Str := ["cell", "k", "bound", "primes"]
theorem scLDraw : FnScope nLDraw ["cell", "k", "bound"] (defScope sLDraw) := ⟨rfl, rfl, rfl, by decide +kernel, rfl, by decide +kernel, by decide +kernel⟩
abbrev nkLDraw : List (Str × Bool × Bool) := [("cell", true, true), ("k", true, true), ("bound", true, true), ("primes", true, true)]
abbrev gLDraw : List Str := ["int"]
/-! _law_number(cell, k, bound): slots 0 cell, 1 k, 2 bound, 3 power, 4 lap, 5 remains, 6 small -/
abbrev sLNumber : Stmt := topS 28
abbrev nLNumber : List Str := ["cell", "k", "bound", "power", "lap", "remains", "small"]
theorem scLNumber : FnScope nLNumber ["cell", "k", "bound"] (defScope sLNumber) := ⟨rfl, rfl, rfl, by decide +kernel, rfl, by decide +kernel, by decide +kernel⟩
abbrev nkLNumber : List (Str × Bool × Bool) := [("cell", true, true), ("k", true, true), ("bound", true, true), ("power", true, true), ("lap", true, true), ("remains", true, true), ("small", true, true)]
abbrev gLNumber : List Str := ["range", "int", "_law_draw"]
/-! _law_next(draw, bound): slots 0 draw, 1 bound, 2 at, 3 cell -/
abbrev sLNext : Stmt := topS 29
abbrev nLNext : List Str := ["draw", "bound", "at", "cell"]
theorem scLNext : FnScope nLNext ["draw", "bound"] (defScope sLNext) := ⟨rfl, rfl, rfl, by decide +kernel, rfl, by decide +kernel, by decide +kernel⟩
abbrev nkLNext : List (Str × Bool × Bool) := [("draw", true, true), ("bound", true, true), ("at", true, true), ("cell", true, true)]
abbrev gLNext : List Str := ["_law_cell_at", "_law_number", "int"]
/-! _law_common(a, b): slots 0 a, 1 b, 2 lap -/
abbrev sLCommon : Stmt := topS 30
abbrev nLCommon : List Str := ["a", "b", "lap"]
theorem scLCommon : FnScope nLCommon ["a", "b"] (defScope sLCommon) := ⟨rfl, rfl, rfl, by decide +kernel, rfl, by decide +kernel, by decide +kernel⟩
abbrev nkLCommon : List (Str × Bool × Bool) := [("a", true, true), ("b", true, true), ("lap", true, true)]
abbrev gLCommon : List Str := ["abs", "range"]
/-! _law_frac(n, d): slots 0 n, 1 d, 2 by -/
abbrev sLFrac : Stmt := topS 31
abbrev nLFrac : List Str := ["n", "d", "by"]
theorem scLFrac : FnScope nLFrac ["n", "d"] (defScope sLFrac) := ⟨rfl, rfl, rfl, by decide +kernel, rfl, by decide +kernel, by decide +kernel⟩
abbrev nkLFrac : List (Str × Bool × Bool) := [("n", true, true), ("d", true, true), ("by", true, true)]
abbrev gLFrac : List Str := ["_law_common"]
/-! _law_sign(number): slots 0 number -/
abbrev sLSign : Stmt := topS 32
abbrev nLSign : List Str := ["number"]
theorem scLSign : FnScope nLSign ["number"] (defScope sLSign) := ⟨rfl, rfl, rfl, by decide +kernel, rfl, by decide +kernel, by decide +kernel⟩
abbrev nkLSign : List (Str × Bool × Bool) := [("number", true, true)]
abbrev gLSign : List Str := []
/-! _law_at(poly, n, d): slots 0 poly, 1 n, 2 d -/
abbrev sLAt : Stmt := topS 33
abbrev nLAt : List Str := ["poly", "n", "d"]
theorem scLAt : FnScope nLAt ["poly", "n", "d"] (defScope sLAt) := ⟨rfl, rfl, rfl, by decide +kernel, rfl, by decide +kernel, by decide +kernel⟩
abbrev nkLAt : List (Str × Bool × Bool) := [("poly", true, true), ("n", true, true), ("d", true, true)]
abbrev gLAt : List Str := ["_law_sign"]
/-! _law_root_of(number): slots 0 number, 1 low, 2 high, 3 lap, 4 mid -/
abbrev sLRootOf : Stmt := topS 34
abbrev nLRootOf : List Str := ["number", "low", "high", "lap", "mid"]
theorem scLRootOf : FnScope nLRootOf ["number"] (defScope sLRootOf) := ⟨rfl, rfl, rfl, by decide +kernel, rfl, by decide +kernel, by decide +kernel⟩
abbrev nkLRootOf : List (Str × Bool × Bool) := [("number", true, true), ("low", true, true), ("high", true, true), ("lap", true, true), ("mid", true, true)]
abbrev gLRootOf : List Str := ["range"]
/-! _law_poly(draw, big): slots 0 draw, 1 big, 2 kind, 3 some, 4 a, 5 b, 6 c, 7 d, 8 m, 9 by, 10 turn, 11 number -/
abbrev sLPoly : Stmt := topS 35
abbrev nLPoly : List Str := ["draw", "big", "kind", "some", "a", "b", "c", "d", "m", "by", "turn", "number"]
theorem scLPoly : FnScope nLPoly ["draw", "big"] (defScope sLPoly) := ⟨rfl, rfl, rfl, by decide +kernel, rfl, by decide +kernel, by decide +kernel⟩
abbrev nkLPoly : List (Str × Bool × Bool) := [("draw", true, true), ("big", true, true), ("kind", true, true), ("some", true, true), ("a", true, true), ("b", true, true), ("c", true, true), ("d", true, true), ("m", true, true), ("by", true, true), ("turn", false, false), ("number", false, false)]
abbrev gLPoly : List Str := ["_law_next", "range", "max", "_law_common", "tuple"]
abbrev nkLPoly0 : List (Str × Bool × Bool) := [("draw", true, false), ("big", true, false), ("kind", false, false), ("some", false, false), ("a", false, false), ("b", false, false), ("c", false, false), ("d", false, false), ("m", false, false), ("by", false, false), ("turn", true, true), ("number", false, false)]
abbrev gLPoly0 : List Str := ["_law_next"]
abbrev nkLPoly1 : List (Str × Bool × Bool) := [("draw", false, false), ("big", false, false), ("kind", false, false), ("some", false, false), ("a", false, false), ("b", false, false), ("c", false, false), ("d", false, false), ("m", false, false), ("by", true, false), ("turn", false, false), ("number", true, true)]
abbrev gLPoly1 : List Str := []
/-! _law_roots(poly): slots 0 poly, 1 c0, 2 c1, 3 c2, 4 inner, 5 side, 6 low, 7 high, 8 both, 9 own -/
abbrev sLRoots : Stmt := topS 36
abbrev nLRoots : List Str := ["poly", "c0", "c1", "c2", "inner", "side", "low", "high", "both", "own"]
theorem scLRoots : FnScope nLRoots ["poly"] (defScope sLRoots) := ⟨rfl, rfl, rfl, by decide +kernel, rfl, by decide +kernel, by decide +kernel⟩
abbrev nkLRoots : List (Str × Bool × Bool) := [("poly", true, true), ("c0", true, true), ("c1", true, true), ("c2", true, true), ("inner", true, true), ("side", true, true), ("low", true, true), ("high", true, true), ("both", true, true), ("own", true, true)]
abbrev gLRoots : List Str := ["_law_frac", "_law_root_of"]
/-! _law_span(place): slots 0 place, 1 low, 2 word, 3 own, 4 which, 5 far, 6 high, 7 lap, 8 mid, 9 is_right, 10 inside -/
abbrev sLSpan : Stmt := topS 37
abbrev nLSpan : List Str := ["place", "low", "word", "own", "which", "far", "high", "lap", "mid", "is_right", "inside"]
theorem scLSpan : FnScope nLSpan ["place"] (defScope sLSpan) := ⟨rfl, rfl, rfl, by decide +kernel, rfl, by decide +kernel, by decide +kernel⟩
abbrev nkLSpan : List (Str × Bool × Bool) := [("place", true, true), ("low", true, true), ("word", true, true), ("own", true, true), ("which", true, true), ("far", true, true), ("high", true, true), ("lap", true, true), ("mid", true, true), ("is_right", true, true), ("inside", true, true)]
abbrev gLSpan : List Str := ["abs", "range", "_law_at"]
/-! _law_order(one, other): slots 0 one, 1 other, 2 first, 3 second -/
abbrev sLOrder : Stmt := topS 38
abbrev nLOrder : List Str := ["one", "other", "first", "second"]
theorem scLOrder : FnScope nLOrder ["one", "other"] (defScope sLOrder) := ⟨rfl, rfl, rfl, by decide +kernel, rfl, by decide +kernel, by decide +kernel⟩
abbrev nkLOrder : List (Str × Bool × Bool) := [("one", true, true), ("other", true, true), ("first", true, true), ("second", true, true)]
abbrev gLOrder : List Str := ["_law_sign", "_law_span"]
/-! _law_in(place): slots 0 place -/
abbrev sLIn : Stmt := topS 39
abbrev nLIn : List Str := ["place"]
theorem scLIn : FnScope nLIn ["place"] (defScope sLIn) := ⟨rfl, rfl, rfl, by decide +kernel, rfl, by decide +kernel, by decide +kernel⟩
abbrev nkLIn : List (Str × Bool × Bool) := [("place", true, true)]
abbrev gLIn : List Str := ["_law_order"]
/-! _law_places(polys): slots 0 polys, 1 found, 2 poly, 3 place, 4 at, 5 one -/
abbrev sLPlaces : Stmt := topS 40
abbrev nLPlaces : List Str := ["polys", "found", "poly", "place", "at", "one"]
theorem scLPlaces : FnScope nLPlaces ["polys"] (defScope sLPlaces) := ⟨rfl, rfl, rfl, by decide +kernel, rfl, by decide +kernel, by decide +kernel⟩
abbrev nkLPlaces : List (Str × Bool × Bool) := [("polys", true, true), ("found", true, true), ("poly", true, true), ("place", true, true), ("at", true, true), ("one", false, false)]
abbrev gLPlaces : List Str := ["_law_roots", "_law_in", "len"]
abbrev nkLPlaces0 : List (Str × Bool × Bool) := [("polys", false, false), ("found", false, false), ("poly", false, false), ("place", true, false), ("at", false, false), ("one", true, true)]
abbrev gLPlaces0 : List Str := ["_law_order"]
/-! law(script): slots 0 script, 1 draw, 2 polys, 3 others, 4 due, 5 here, 6 place, 7 cell, 8 poly, 9 inside, 10 turn, 11 one -/
abbrev sLaw : Stmt := topS 41
abbrev nLaw : List Str := ["script", "draw", "polys", "others", "due", "here", "place", "cell", "poly", "inside", "turn", "one"]
theorem scLaw : FnScope nLaw ["script"] (defScope sLaw) := ⟨rfl, rfl, rfl, by decide +kernel, rfl, by decide +kernel, by decide +kernel⟩
abbrev nkLaw : List (Str × Bool × Bool) := [("script", true, true), ("draw", true, true), ("polys", true, true), ("others", true, true), ("due", true, true), ("here", true, true), ("place", true, true), ("cell", true, true), ("poly", true, true), ("inside", true, true), ("turn", false, false), ("one", false, false)]
abbrev gLaw : List Str := ["range", "_law_next", "_law_places", "list", "cells_of", "sample", "is_place", "_law_in", "_law_order", "_law_roots", "is_still"]
abbrev nkLaw0 : List (Str × Bool × Bool) := [("script", false, false), ("draw", true, false), ("polys", false, false), ("others", false, false), ("due", false, false), ("here", false, false), ("place", false, false), ("cell", false, false), ("poly", false, false), ("inside", false, false), ("turn", true, true), ("one", false, false)]
abbrev gLaw0 : List Str := ["_law_poly"]
abbrev nkLaw1 : List (Str × Bool × Bool) := [("script", false, false), ("draw", true, false), ("polys", false, false), ("others", false, false), ("due", false, false), ("here", false, false), ("place", false, false), ("cell", false, false), ("poly", false, false), ("inside", false, false), ("turn", true, true), ("one", false, false)]
abbrev gLaw1 : List Str := ["_law_poly"]
abbrev nkLaw2 : List (Str × Bool × Bool) := [("script", false, false), ("draw", false, false), ("polys", false, false), ("others", false, false), ("due", false, false), ("here", false, false), ("place", false, false), ("cell", true, false), ("poly", false, false), ("inside", false, false), ("turn", false, false), ("one", true, true)]
abbrev gLaw2 : List Str := ["_law_order"]

/-! ### the sign -/
def sgn (n : Int) : Int := if 0 < n then 1 else if n = 0 then 0 else -1
def SSign : List D → (D → Prop) → Prop := fun ds W => ∃ n : Int, ds = [.int n] ∧ W (.int (sgn n))
theorem fSign {M : Md} {f : Addr} {fd : FuncData} (F : Fun M.K "_law_sign" "_law_sign" sLSign f fd) (hm : M.mg "_law_sign" = some (.ref f)) (b : L2.Binds M.K fd ["number"] []) : FnD M 1 "_law_sign" 1 SSign := by
  refine fnD_mk (k := 0) (NK := nkLSign) (G := gLSign) F scLSign hm b rfl (by decide +kernel) rfl (by decide) fun X C ds W hl hS => ?_
  obtain ⟨n, rfl, w⟩ := hS
  show VSs X _ [.dat (.int n)] _
  walk_at "v"
  walk_at "v"
  walk_at "v"
  walk_at "v"
  walk_at "v"
  walk_at "v"
  refine ⟨fun h => ?_, fun h => ?_⟩
  · walk_at "v"
    have h := of_decide_eq_true h
    unfold sgn at w
    rw [if_pos h] at w
    exact w
  · have h := of_decide_eq_false h
    walk_at "v"
    walk_at "v"
    walk_at "v"
    walk_at "v"
    refine ⟨fun h2 => ?_, fun h2 => ?_⟩
    · walk_at "v"
      have h2 := of_decide_eq_true h2
      unfold sgn at w
      rw [if_neg h, if_pos h2] at w
      exact w
    · walk_at "v"
      walk_at "v"
      have h2 := of_decide_eq_false h2
      unfold sgn at w
      rw [if_neg h, if_neg h2] at w
      exact ⟨1, rfl, w⟩
/-! ### a cell of the script -/
def SCell : List D → (D → Prop) → Prop := fun ds W => ∃ (ns : List Int) (j : Nat), ds = [.list (ns.map PyData.int), .int (j : Int)] ∧ W (.int (ns.getD j 0))
theorem fCell {M : Md} {f : Addr} {fd : FuncData} (ml : M.mg "len" = none) (F : Fun M.K "_law_cell_at" "_law_cell_at" sLCellAt f fd) (hm : M.mg "_law_cell_at" = some (.ref f)) (b : L2.Binds M.K fd ["script", "k"] []) : FnD M 1 "_law_cell_at" 2 SCell := by
  refine fnD_mk (k := 0) (NK := nkLCellAt) (G := gLCellAt) F scLCellAt hm b rfl (by decide +kernel) rfl (by decide) fun X C ds W hl hS => ?_
  obtain ⟨ns, j, rfl, w⟩ := hS
  show VSs X _ [.dat (.list (ns.map PyData.int)), .dat (.int (j : Int))] _
  walk_at "v"
  walk_at "v"
  walk_at "v"
  walk_at "v"
  refine vd_callB C does_len (by walk_at "at") ?_
  walk_at "v"
  walk_at "v"
  walk_at "v"
  refine ⟨_, .inl rfl, ?_⟩
  refine ⟨fun h => ?_, fun h => ?_⟩
  · have h := of_decide_eq_true h
    rw [List.length_map] at h
    have h : j < ns.length := by omega
    walk_at "v"
    walk_at "v"
    walk_at "v"
    walk_at "v"
    walk_at "v"
    refine ⟨.int ns[j], ?_, ?_⟩
    · refine atI_nat ?_
      rw [List.getElem?_map, List.getElem?_eq_getElem h]
      rfl
    · rw [List.getD_eq_getElem?_getD, List.getElem?_eq_getElem h] at w
      exact w
  · have h := of_decide_eq_false h
    rw [List.length_map] at h
    walk_at "v"
    walk_at "v"
    walk_at "v"
    walk_at "v"
    rw [List.getD_eq_getElem?_getD, List.getElem?_eq_none (by omega)] at w
    exact w

/-! ### a draw -/
theorem mulW {i j : Int} (h1 : i.natAbs < 2 ^ 1000) (h2 : j.natAbs < 2 ^ 1000) : CMulW i j := wide_mul h1 h2 (by decide) (by decide) (by decide)
theorem mulW64 {i j : Int} (h1 : i.natAbs < 2 ^ 64) (h2 : j.natAbs < 2 ^ 64) : CMulW i j := wide_mul h1 h2 (by decide) (by decide) (by decide)
theorem divW {i j : Int} (h0 : 0 < j) (h2 : j.natAbs < 2 ^ 1000) : CDivW i j := ⟨h0, Nat.lt_of_lt_of_le (PySem.Flt.log2_lt_of (by decide) h2) (by decide)⟩
theorem divW64 {i j : Int} (h0 : 0 < j) (h2 : j.natAbs < 2 ^ 64) : CDivW i j := ⟨h0, Nat.lt_of_lt_of_le (PySem.Flt.log2_lt_of (by decide) h2) (by decide)⟩
def SDraw : List D → (D → Prop) → Prop := fun ds W => ∃ cell j bound : Int, ds = [.int cell, .int j, .int bound] ∧ cell.natAbs < 2 ^ 64 ∧ j.natAbs < 2 ^ 64 ∧ 0 < bound ∧ ∀ r, 0 ≤ r → r < bound → W (.int r)
theorem primes_at {n : Int} (h0 : 0 ≤ n) (h1 : n < 16) : ∃ p : Int, 0 < p ∧ atI [PyData.int 1000003, .int 1000033, .int 1000037, .int 1000039, .int 1000081, .int 1000099, .int 1000117, .int 1000121, .int 1000133, .int 1000151, .int 1000159, .int 1000171, .int 1000183, .int 1000187, .int 1000193, .int 1000199] n = some (.int p) := by
  have h : n = 0 ∨ n = 1 ∨ n = 2 ∨ n = 3 ∨ n = 4 ∨ n = 5 ∨ n = 6 ∨ n = 7 ∨ n = 8 ∨ n = 9 ∨ n = 10 ∨ n = 11 ∨ n = 12 ∨ n = 13 ∨ n = 14 ∨ n = 15 := by omega
  rcases h with h | h | h | h | h | h | h | h | h | h | h | h | h | h | h | h <;> (subst h; exact ⟨_, by decide, rfl⟩)
theorem fDraw {M : Md} {f : Addr} {fd : FuncData} (mi : M.mg "int" = none) (F : Fun M.K "_law_draw" "_law_draw" sLDraw f fd) (hm : M.mg "_law_draw" = some (.ref f)) (b : L2.Binds M.K fd ["cell", "k", "bound"] []) : FnD M 1 "_law_draw" 3 SDraw := by
  refine fnD_mk (k := 0) (NK := nkLDraw) (G := gLDraw) F scLDraw hm b rfl (by decide +kernel) rfl (by decide) fun X C ds W hl hS => ?_
  obtain ⟨cell, j, bound, rfl, h1, h2, h3, w⟩ := hS
  show VSs X _ [.dat (.int cell), .dat (.int j), .dat (.int bound), .no] _
  walk_at "vv"
  refine ⟨by decide, ?_⟩
  walk_at "vv"
  refine ⟨mulW64 h1 (by decide), ?_⟩
  walk_at "vv"
  refine ⟨mulW64 h2 (by decide), ?_⟩
  walk_at "vv"
  refine ⟨_, rfl, ?_⟩
  walk_at "vv"
  refine ⟨_, rfl, ?_⟩
  walk_at "vv"
  refine ⟨by decide, ?_⟩
  obtain ⟨p, hp, e⟩ := primes_at (n := j % 16) (Int.emod_nonneg _ (by decide)) (Int.emod_lt_of_pos _ (by decide))
  refine ⟨_, e, ?_⟩
  refine ⟨hp, ?_⟩
  walk_at "vv"
  exact ⟨h3, w _ (Int.emod_nonneg _ (by omega)) (Int.emod_lt_of_pos _ h3)⟩
/-! ### a number -/
def SNumber : List D → (D → Prop) → Prop := fun ds W => ∃ cell j bound : Int, ds = [.int cell, .int j, .int bound] ∧ 0 ≤ j ∧ j ≤ 1000 ∧ 0 < bound ∧ ∀ r, 0 ≤ r → r < bound → W (.int r)
theorem pw_pos (i : Nat) : (0 : Int) < 1009 ^ i := Int.pow_pos (by decide)
theorem pw_small {i : Nat} (h : i ≤ 24) : ((1009 : Int) ^ i).natAbs < 2 ^ 1000 := by
  rw [Int.natAbs_pow]
  exact Nat.lt_of_le_of_lt (Nat.pow_le_pow_right (by decide) h) (by decide +kernel)
theorem fNumber {M : Md} {f : Addr} {fd : FuncData} (mi : M.mg "int" = none) (mr : M.mg "range" = none) (FD : FnD M 1 "_law_draw" 3 SDraw) (F : Fun M.K "_law_number" "_law_number" sLNumber f fd) (hm : M.mg "_law_number" = some (.ref f)) (b : L2.Binds M.K fd ["cell", "k", "bound"] []) : FnD M 2 "_law_number" 3 SNumber := by
  refine fnD_mk (k := 1) (NK := nkLNumber) (G := gLNumber) F scLNumber hm b rfl (by decide +kernel) rfl (by decide) fun X C ds W hl hS => ?_
  obtain ⟨cell, j, bound, rfl, h1, h2, h3, w⟩ := hS
  show VSs X _ [.dat (.int cell), .dat (.int j), .dat (.int bound), .no, .no, .no, .no] _
  walk_at "vv"
  refine vs_for C (vi_range C (by walk_at "at") ?_)
  walk_at "vv"
  refine ⟨_, rfl, ?_⟩
  walk_at "vv"
  refine ⟨by decide, ?_⟩
  refine ⟨(j % 24).toNat, by rw [Int.toNat_of_nonneg (Int.emod_nonneg _ (by decide))], by omega, ?_⟩
  refine ⟨fun i ρ' => ∃ s, ρ' = [.dat (.int cell), .dat (.int j), .dat (.int bound), .dat (.int (1009 ^ i)), s, .no, .no], ⟨_, rfl⟩, fun i d ρ' hi hW => ?_, fun ρ' hW => ?_⟩
  · obtain ⟨s, rfl⟩ := hW
    have hi2 : i < (j % 24).toNat := by
      have := (List.getElem?_eq_some_iff.mp hi).1
      rw [List.length_map, List.length_range] at this
      exact this
    have hi3 : i ≤ 24 := by omega
    walk_at "vv"
    refine ⟨mulW (pw_small hi3) (by decide +kernel), ?_⟩
    exact ⟨_, rfl⟩
  · obtain ⟨s, rfl⟩ := hW
    have hp : (j % 24).toNat ≤ 24 := by omega
    rw [List.length_map, List.length_range]
    walk_at "vv"
    refine ⟨⟨by decide, by decide, by decide⟩, ?_⟩
    walk_at "vv"
    refine ⟨divW (pw_pos _) (pw_small hp), ?_⟩
    walk_at "vv"
    refine ⟨fun h => ?_, fun h => ?_⟩
    · walk_at "vv"
      refine ⟨_, rfl, ?_⟩
      walk_at "vv"
      refine ⟨by decide, ?_⟩
      walk_at "vv"
      exact ⟨h3, w _ (Int.emod_nonneg _ (by omega)) (Int.emod_lt_of_pos _ h3)⟩
    · have q0 := Int.emod_nonneg cell (show (1000003 : Int) ≠ 0 by decide)
      have q1 := Int.emod_lt_of_pos cell (show (0 : Int) < 1000003 by decide)
      walk_at "vv"
      refine ⟨_, rfl, ?_⟩
      walk_at "vv"
      refine ⟨by decide, ?_⟩
      walk_at "vv"
      refine vd_call C FD (by walk_at "at") ?_
      walk_at "vv"
      refine ⟨mulW64 (by decide) (by omega), ?_⟩
      walk_at "vv"
      refine ⟨mulW64 (by decide) (by omega), ?_⟩
      walk_at "vv"
      refine ⟨mulW64 (by omega) (by omega), ?_⟩
      walk_at "vv"
      refine ⟨_, rfl, ?_⟩
      walk_at "vv"
      refine ⟨by decide, ?_⟩
      walk_at "vv"
      refine ⟨rfl, _, _, _, rfl, ?_, by omega, by decide, fun r r0 r1 => ?_⟩
      · rw [Int.natAbs_mul]
        exact Nat.lt_of_le_of_lt (Nat.mul_le_mul (show _ ≤ 2 ^ 31 by omega) (show _ ≤ 2 ^ 31 by omega)) (by decide)
      · walk_at "vv"
        exact ⟨h3, w _ (Int.emod_nonneg _ (by omega)) (Int.emod_lt_of_pos _ h3)⟩
/-! ### the next draw -/
/-- what stands in the list of draws: the script, 0, how many were drawn -/
def drw (ns : List Int) (c : Nat) : List D := [.list (ns.map PyData.int), .int 0, .int (c : Int)]
def SNext : List D → List D → (D → List D → Prop) → Prop := fun cs ds W => ∃ (ns : List Int) (c : Nat) (bound : Int), cs = drw ns c ∧ ds = [.int bound] ∧ c ≤ 1000000 ∧ 0 < bound ∧ ∀ r, 0 ≤ r → r < bound → W (.int r) (drw ns (c + 1))
theorem fNext {M : Md} {f : Addr} {fd : FuncData} (mi : M.mg "int" = none) (FC : FnD M 1 "_law_cell_at" 2 SCell) (FN : FnD M 2 "_law_number" 3 SNumber) (F : Fun M.K "_law_next" "_law_next" sLNext f fd) (hm : M.mg "_law_next" = some (.ref f)) (b : L2.Binds M.K fd ["draw", "bound"] []) : FnM M 3 "_law_next" 1 SNext := by
  refine fnM_mk (k := 2) (NK := nkLNext) (G := gLNext) F scLNext hm b rfl (by decide +kernel) rfl (by decide) fun X C p cs ds W hl hS => ?_
  obtain ⟨ns, c, bound, rfl, rfl, hc, hb, w⟩ := hS
  show VSs X _ [.own p (drw ns c), .dat (.int bound), .no, .no] _
  walk_at "vv"
  refine vs_put C (i := 0) At.here rfl ?_
  walk_at "vv"
  refine ⟨_, _, .int (c : Int), rfl, rfl, rfl, ?_⟩
  walk_at "vv"
  refine ⟨_, 2, _, rfl, rfl, rfl, ?_⟩
  show VSs X _ [.own p (drw ns (c + 1)), .dat (.int bound), .no, .no] _
  walk_at "vv"
  refine ⟨_, _, .int ((c + 1 : Nat) : Int), rfl, rfl, rfl, ?_⟩
  walk_at "vv"
  refine ⟨divW64 (by decide) (by decide), ?_⟩
  walk_at "vv"
  refine vd_call C FC (by walk_at "at") ?_
  walk_at "vv"
  refine ⟨_, _, .list (ns.map PyData.int), rfl, rfl, rfl, ?_⟩
  walk_at "vv"
  refine ⟨_, _, .int 0, rfl, rfl, rfl, ?_⟩
  walk_at "vv"
  have e : (0 : Int) + ((c + 1 : Nat) : Int) / 12 = (((c + 1) / 12 : Nat) : Int) := by omega
  refine ⟨rfl, ns, (c + 1) / 12, by rw [e], ?_⟩
  walk_at "vv"
  refine ⟨mulW64 (by decide) (by omega), ?_⟩
  walk_at "vv"
  refine vd_call C FN (by walk_at "at") ?_
  walk_at "vv"
  refine ⟨_, _, .int ((c + 1 : Nat) : Int), rfl, rfl, rfl, ?_⟩
  walk_at "vv"
  refine ⟨_, rfl, ?_⟩
  walk_at "vv"
  refine ⟨by decide, ?_⟩
  walk_at "vv"
  exact ⟨rfl, _, _, _, rfl, by omega, by omega, hb, fun r r0 r1 => ⟨_, rfl, w r r0 r1⟩⟩
/-! ### the greatest common divisor by 400 laps -/
/-- behind i laps -/
def Gw (A B : Nat) : Nat → Nat → Nat → Prop
  | 0, a, b => a = A ∧ b = B
  | i + 1, a, b => Nat.gcd a b = Nat.gcd A B ∧ b < a ∧ a * b * 2 ^ i ≤ A * B
theorem gw_gcd {A B : Nat} : ∀ {i a b : Nat}, Gw A B i a b → Nat.gcd a b = Nat.gcd A B
  | 0, _, _, h => by rw [h.1, h.2]
  | _ + 1, _, _, h => h.1
theorem gw_step {A B : Nat} : ∀ {i a b : Nat}, Gw A B i a b → b ≠ 0 → Gw A B (i + 1) b (a % b)
  | 0, a, b, h, hb => by
    obtain ⟨h1, h2⟩ := h
    subst h1
    subst h2
    refine ⟨?_, Nat.mod_lt _ (Nat.pos_of_ne_zero hb), ?_⟩
    · rw [Nat.gcd_comm a b, Nat.gcd_rec b a, Nat.gcd_comm]
    · rw [Nat.pow_zero, Nat.mul_one, Nat.mul_comm]
      exact Nat.mul_le_mul_right _ (Nat.mod_le _ _)
  | i + 1, a, b, ⟨h1, h2, h3⟩, hb => by
    refine ⟨?_, Nat.mod_lt _ (Nat.pos_of_ne_zero hb), ?_⟩
    · rw [← h1, Nat.gcd_comm a b, Nat.gcd_rec b a, Nat.gcd_comm]
    · have hm := Nat.mod_lt a (Nat.pos_of_ne_zero hb)
      have hd := Nat.div_add_mod a b
      have hq : 1 ≤ a / b := Nat.div_pos (Nat.le_of_lt h2) (Nat.pos_of_ne_zero hb)
      have hq2 : b * 1 ≤ b * (a / b) := Nat.mul_le_mul_left _ hq
      have h5 : 2 * (a % b) ≤ a := by omega
      have e : b * (a % b) * 2 ^ (i + 1) = b * (2 * (a % b)) * 2 ^ i := by
        rw [Nat.pow_succ, Nat.mul_comm (2 ^ i) 2, ← Nat.mul_assoc, Nat.mul_assoc b (a % b) 2, Nat.mul_comm (a % b) 2]
      rw [e]
      refine Nat.le_trans (Nat.mul_le_mul_right _ (Nat.mul_le_mul_left b h5)) ?_
      rw [Nat.mul_comm b a]
      exact h3
theorem gw_end {A B a b : Nat} (hA : A < 2 ^ 190) (hB : B < 2 ^ 190) (h : Gw A B 400 a b) : b = 0 := by
  obtain ⟨h1, h2, h3⟩ := h
  by_cases hb : b = 0
  · exact hb
  · have h4 : A * B < 2 ^ 399 := Nat.lt_of_le_of_lt (Nat.mul_le_mul (Nat.le_of_lt hA) (Nat.le_of_lt hB)) (by decide +kernel)
    have h5 : 1 ≤ a * b := Nat.mul_pos (by omega) (by omega)
    have h6 : 1 * 2 ^ 399 ≤ a * b * 2 ^ 399 := Nat.mul_le_mul_right _ h5
    rw [Nat.one_mul] at h6
    exact absurd (Nat.lt_of_le_of_lt (Nat.le_trans h6 h3) h4) (Nat.lt_irrefl _)
def SCommon : List D → (D → Prop) → Prop := fun ds W => ∃ a b : Int, ds = [.int a, .int b] ∧ a.natAbs < 2 ^ 190 ∧ b.natAbs < 2 ^ 190 ∧ W (.int ((Nat.gcd a.natAbs b.natAbs : Nat) : Int))
theorem abs_eq (a : Int) : (if a < 0 then -a else a) = ((a.natAbs : Nat) : Int) := by
  split <;> omega
theorem fCommon {M : Md} {f : Addr} {fd : FuncData} (ma : M.mg "abs" = none) (mr : M.mg "range" = none) (F : Fun M.K "_law_common" "_law_common" sLCommon f fd) (hm : M.mg "_law_common" = some (.ref f)) (b : L2.Binds M.K fd ["a", "b"] []) : FnD M 1 "_law_common" 2 SCommon := by
  refine fnD_mk (k := 0) (NK := nkLCommon) (G := gLCommon) F scLCommon hm b rfl (by decide +kernel) rfl (by decide) fun X C ds W hl hS => ?_
  obtain ⟨a, b, rfl, h1, h2, w⟩ := hS
  show VSs X _ [.dat (.int a), .dat (.int b), .no] _
  walk_at "vv"
  refine vs_par C (i := 0) (j := 1) At.here (At.there At.here) (by decide) ?_ (by walk_at "sw")
  · walk_at "vv"
    refine ⟨_, rfl, ?_⟩
    walk_at "vv"
    refine ⟨_, rfl, ?_⟩
    rw [abs_eq, abs_eq]
    show VSs X _ [.dat (.int ((a.natAbs : Nat) : Int)), .dat (.int ((b.natAbs : Nat) : Int)), .no] _
    walk_at "vv"
    refine vs_for C (vi_range C (by walk_at "at") ?_)
    walk_at "vv"
    refine ⟨400, rfl, by decide, ?_⟩
    refine ⟨fun i ρ' => ∃ (x y : Nat) (s : Sl), ρ' = [.dat (.int (x : Int)), .dat (.int (y : Int)), s] ∧ Gw a.natAbs b.natAbs i x y, ⟨_, _, _, rfl, rfl, rfl⟩, fun i d ρ' hi hW => ?_, fun ρ' hW => ?_⟩
    · obtain ⟨x, y, s, rfl, g⟩ := hW
      walk_at "vv"
      refine ⟨fun h => ?_, fun h => ?_⟩
      · have h := of_decide_eq_true h
        have hy : y = 0 := by omega
        subst hy
        walk_at "vv"
        have e := gw_gcd g
        rw [Nat.gcd_zero_right] at e
        rw [← e] at w
        exact w
      · have h := of_decide_eq_false h
        have hy : y ≠ 0 := by omega
        walk_at "vv"
        refine vs_par C (i := 0) (j := 1) At.here (At.there At.here) (by decide) ?_ (by walk_at "sw")
        · walk_at "vv"
          refine ⟨by omega, ?_⟩
          exact ⟨y, x % y, _, by rw [← Int.natCast_emod]; rfl, gw_step g hy⟩
    · obtain ⟨x, y, s, rfl, g⟩ := hW
      rw [List.length_map, List.length_range] at g
      have hy := gw_end h1 h2 g
      subst hy
      walk_at "vv"
      have e := gw_gcd g
      rw [Nat.gcd_zero_right] at e
      rw [← e] at w
      exact w
/-! ### a fraction in its least form -/
/-- n / d in its least form, d above 0 -/
def fr (n d : Int) : D := .tuple [.int (n / ((Nat.gcd n.natAbs d.natAbs : Nat) : Int)), .int (d / ((Nat.gcd n.natAbs d.natAbs : Nat) : Int))]
def SFrac : List D → (D → Prop) → Prop := fun ds W => ∃ n d : Int, ds = [.int n, .int d] ∧ n.natAbs < 2 ^ 190 ∧ d.natAbs < 2 ^ 190 ∧ d ≠ 0 ∧ W (if d < 0 then fr (-n) (-d) else fr n d)
theorem fFrac {M : Md} {f : Addr} {fd : FuncData} (FC : FnD M 1 "_law_common" 2 SCommon) (F : Fun M.K "_law_frac" "_law_frac" sLFrac f fd) (hm : M.mg "_law_frac" = some (.ref f)) (b : L2.Binds M.K fd ["n", "d"] []) : FnD M 2 "_law_frac" 2 SFrac := by
  refine fnD_mk (k := 1) (NK := nkLFrac) (G := gLFrac) F scLFrac hm b rfl (by decide +kernel) rfl (by decide) fun X C ds W hl hS => ?_
  obtain ⟨n, d, rfl, h1, h2, h0, w⟩ := hS
  have go : ∀ n d : Int, n.natAbs < 2 ^ 190 → d.natAbs < 2 ^ 190 → 0 < d → W (fr n d) → VSs X [(defBody sLFrac).getD 1 (.Pass ⟨0, 0, 0, 0⟩), (defBody sLFrac).getD 2 (.Pass ⟨0, 0, 0, 0⟩)] [.dat (.int n), .dat (.int d), .no] { nx := fun _ => W .none, rt := fun d _ => W d } := fun n d h1 h2 hp w => by
    have hg : 0 < Nat.gcd n.natAbs d.natAbs := Nat.gcd_pos_of_pos_right _ (by omega)
    have hle : Nat.gcd n.natAbs d.natAbs ≤ d.natAbs := Nat.le_of_dvd (by omega) (Nat.gcd_dvd_right _ _)
    have hb : (((Nat.gcd n.natAbs d.natAbs : Nat) : Int)).natAbs < 2 ^ 1000 := by
      rw [Int.natAbs_natCast]
      exact Nat.lt_of_le_of_lt hle (Nat.lt_trans h2 (by decide +kernel))
    walk_at "vv"
    refine vd_call C FC (by walk_at "at") ?_
    walk_at "vv"
    refine ⟨rfl, n, d, rfl, h1, h2, ?_⟩
    walk_at "vv"
    refine ⟨divW (by omega) hb, ?_⟩
    walk_at "vv"
    refine ⟨divW (by omega) hb, ?_⟩
    walk_at "vv"
    exact ⟨by show 2 ≤ 1000; decide, w⟩
  show VSs X _ [.dat (.int n), .dat (.int d), .no] _
  walk_at "vv"
  refine ⟨fun h => ?_, fun h => ?_⟩
  · have h := of_decide_eq_true h
    rw [if_pos h] at w
    walk_at "vv"
    refine vs_par C (i := 0) (j := 1) At.here (At.there At.here) (by decide) ?_ (by walk_at "sw")
    · walk_at "vv"
      refine ⟨_, rfl, ?_⟩
      walk_at "vv"
      refine ⟨_, rfl, ?_⟩
      exact go (-n) (-d) (by omega) (by omega) (by omega) w
  · have h := of_decide_eq_false h
    rw [if_neg h] at w
    refine vss_nil ?_
    exact go n d h1 h2 (by omega) w


open PySem PySem.Spec PyProof.Rows L2 Vc

/-! ### sign_of -/
theorem sgn_b (n : Int) : PyProof.Rows.b2i (decide (0 < n)) - PyProof.Rows.b2i (decide (n < 0)) = sgn n := by
  unfold PyProof.Rows.b2i sgn
  by_cases h : 0 < n
  · have h2 : ¬ n < 0 := by omega
    rw [decide_eq_true h, decide_eq_false h2, if_pos rfl, if_neg (by decide), if_pos h]
    rfl
  · by_cases h2 : n < 0
    · rw [decide_eq_false h, decide_eq_true h2, if_neg (by decide), if_pos rfl, if_neg h, if_neg (by omega)]
      rfl
    · rw [decide_eq_false h, decide_eq_false h2, if_neg (by decide), if_neg h, if_pos (by omega)]
      rfl
theorem fSignOf {M : Md} {f : Addr} {fd : FuncData} (F : Fun M.K "sign_of" "sign_of" sSignOf f fd) (hm : M.mg "sign_of" = some (.ref f)) (b : L2.Binds M.K fd ["number"] []) : FnD M 1 "sign_of" 1 SSign := by
  refine fnD_mk (k := 0) (NK := nkSignOf) (G := gSignOf) F scSignOf hm b rfl (by decide +kernel) rfl (by decide) fun X C ds W hl hS => ?_
  obtain ⟨n, rfl, w⟩ := hS
  show VSs X _ [.dat (.int n)] _
  walk_at "vv"
  show W (.int (PyProof.Rows.b2i (decide (0 < n)) - PyProof.Rows.b2i (decide (n < 0))))
  rw [sgn_b]
  exact w
/-! ### fraction -/
def frq (n d : Int) : D := if d < 0 then fr (-n) (-d) else fr n d
def SFraction : List D → (D → Prop) → Prop := fun ds W => ∃ n d : Int, ds = [.int n, .int d] ∧ n.natAbs < 2 ^ 29 ∧ d.natAbs < 2 ^ 29 ∧ d ≠ 0 ∧ W (frq n d)
theorem fdiv_neg {n g : Int} (hg : 0 < g) (h : g ∣ n) : n.fdiv (-g) = (-n) / g := by
  obtain ⟨t, rfl⟩ := h
  have e : g * t = (-t) * (-g) := by rw [Int.neg_mul_neg, Int.mul_comm]
  rw [e, Int.mul_fdiv_cancel _ (by omega), ← e, ← Int.mul_neg, Int.mul_ediv_cancel_left _ (by omega)]
theorem gcd_dvdn (n d : Int) : ((Nat.gcd n.natAbs d.natAbs : Nat) : Int) ∣ n := Int.natAbs_dvd_natAbs.mp (by
  rw [Int.natAbs_natCast]
  exact Nat.gcd_dvd_left _ _)
theorem gcd_dvdd (n d : Int) : ((Nat.gcd n.natAbs d.natAbs : Nat) : Int) ∣ d := Int.natAbs_dvd_natAbs.mp (by
  rw [Int.natAbs_natCast]
  exact Nat.gcd_dvd_right _ _)
theorem fFraction {M : Md} {f : Addr} {fd : FuncData} (mg : M.mg "gcd" = some (.builtin "math.gcd")) (F : Fun M.K "fraction" "fraction" sFraction f fd) (hm : M.mg "fraction" = some (.ref f)) (b : L2.Binds M.K fd ["above", "below"] []) : FnD M 1 "fraction" 2 SFraction := by
  refine fnD_mk (k := 0) (NK := nkFraction) (G := gFraction) F scFraction hm b rfl (by decide +kernel) rfl (by decide) fun X C ds W hl hS => ?_
  obtain ⟨n, d, rfl, hn, hd, h0, w⟩ := hS
  have hg : 0 < Nat.gcd n.natAbs d.natAbs := Nat.gcd_pos_of_pos_right _ (by omega)
  have hle : Nat.gcd n.natAbs d.natAbs ≤ d.natAbs := Nat.le_of_dvd (by omega) (Nat.gcd_dvd_right _ _)
  show VSs X _ [.dat (.int n), .dat (.int d), .no] _
  walk_at "vv"
  refine vd_callM C does_gcd2 (by walk_at "at") ?_
  walk_at "vv"
  refine ⟨n, d, rfl, ?_⟩
  walk_at "vv"
  refine ⟨fun h => ?_, fun h => ?_⟩
  · have h := of_decide_eq_true h
    walk_at "vv"
    refine ⟨_, rfl, ?_⟩
    walk_at "v"
    walk_at "v"
    walk_at "v"
    refine va_cons (vd_fdivN ?_)
    walk_at "vv"
    refine ⟨n, -((Nat.gcd n.natAbs d.natAbs : Nat) : Int), rfl, rfl, ⟨by omega, by omega⟩, ?_⟩
    refine va_cons (vd_fdivN ?_)
    walk_at "vv"
    refine ⟨d, -((Nat.gcd n.natAbs d.natAbs : Nat) : Int), rfl, rfl, ⟨by omega, by omega⟩, ?_⟩
    walk_at "vv"
    refine ⟨by show 2 ≤ 1000; decide, ?_⟩
    rw [fdiv_neg (by omega) (gcd_dvdn n d), fdiv_neg (by omega) (gcd_dvdd n d)]
    unfold frq at w
    rw [if_pos h] at w
    unfold fr at w
    rw [Int.natAbs_neg, Int.natAbs_neg] at w
    exact w
  · have h := of_decide_eq_false h
    refine vss_nil ?_
    walk_at "v"
    walk_at "v"
    walk_at "v"
    refine va_cons (vd_fdivN ?_)
    walk_at "vv"
    refine ⟨n, ((Nat.gcd n.natAbs d.natAbs : Nat) : Int), rfl, rfl, ⟨by omega, by omega⟩, ?_⟩
    refine va_cons (vd_fdivN ?_)
    walk_at "vv"
    refine ⟨d, ((Nat.gcd n.natAbs d.natAbs : Nat) : Int), rfl, rfl, ⟨by omega, by omega⟩, ?_⟩
    walk_at "vv"
    refine ⟨by show 2 ≤ 1000; decide, ?_⟩
    rw [Int.fdiv_eq_ediv_of_nonneg _ (by omega), Int.fdiv_eq_ediv_of_nonneg _ (by omega)]
    unfold frq at w
    rw [if_neg h] at w
    exact w
/-! ### undivided -/
abbrev tup3 (a b c : Int) : D := .tuple [.int a, .int b, .int c]
def g3 (a b c : Int) : Nat := Nat.gcd (Nat.gcd a.natAbs b.natAbs) c.natAbs
def und (a b c : Int) : D := if (g3 a b c : Int) = 0 then tup3 0 0 0 else tup3 (a / (g3 a b c : Int)) (b / (g3 a b c : Int)) (c / (g3 a b c : Int))
def SUnd : List D → (D → Prop) → Prop := fun ds W => ∃ a b c : Int, ds = [.int a, .int b, .int c] ∧ c.natAbs < 2 ^ 900 ∧ b.natAbs < 2 ^ 900 ∧ a.natAbs < 2 ^ 900 ∧ W (und a b c)
theorem g3_small {a b c : Int} (ha : a.natAbs < 2 ^ 900) (hb : b.natAbs < 2 ^ 900) (hc : c.natAbs < 2 ^ 900) : (g3 a b c : Int).natAbs < 2 ^ 1000 := by
  rw [Int.natAbs_natCast]
  have h9 : 2 ^ 900 < 2 ^ 1000 := by decide +kernel
  unfold g3
  by_cases z : c.natAbs = 0
  · rw [z, Nat.gcd_zero_right]
    by_cases y : b.natAbs = 0
    · rw [y, Nat.gcd_zero_right]
      exact Nat.lt_trans ha h9
    · exact Nat.lt_of_le_of_lt (Nat.le_of_dvd (Nat.pos_of_ne_zero y) (Nat.gcd_dvd_right _ _)) (Nat.lt_trans hb h9)
  · exact Nat.lt_of_le_of_lt (Nat.le_of_dvd (Nat.pos_of_ne_zero z) (Nat.gcd_dvd_right _ _)) (Nat.lt_trans hc h9)
theorem fUnd {M : Md} {f : Addr} {fd : FuncData} (mg : M.mg "gcd" = some (.builtin "math.gcd")) (F : Fun M.K "undivided" "undivided" sUndivided f fd) (hm : M.mg "undivided" = some (.ref f)) (b : L2.Binds M.K fd ["c0", "c1", "c2"] []) : FnD M 1 "undivided" 3 SUnd := by
  refine fnD_mk (k := 0) (NK := nkUndivided) (G := gUndivided) F scUndivided hm b rfl (by decide +kernel) rfl (by decide) fun X C ds W hl hS => ?_
  obtain ⟨a, b, c, rfl, hc, hb, ha, w⟩ := hS
  have hs := g3_small ha hb hc
  show VSs X _ [.dat (.int a), .dat (.int b), .dat (.int c), .no] _
  walk_at "vv"
  refine vd_callM C does_gcd3 (by walk_at "at") ?_
  walk_at "vv"
  refine ⟨a, b, c, rfl, ?_⟩
  show VSs X _ [.dat (.int a), .dat (.int b), .dat (.int c), .dat (.int (g3 a b c : Int))] _
  walk_at "vv"
  refine ⟨fun h => ?_, fun h => ?_⟩
  · have h := of_decide_eq_true h
    walk_at "vv"
    refine ⟨by decide, ?_⟩
    unfold und at w
    rw [if_pos h] at w
    exact w
  · have h := of_decide_eq_false h
    have hp : 0 < (g3 a b c : Int) := by omega
    walk_at "vv"
    refine ⟨divW hp hs, ?_⟩
    walk_at "vv"
    refine ⟨divW hp hs, ?_⟩
    walk_at "vv"
    refine ⟨divW hp hs, ?_⟩
    walk_at "vv"
    refine ⟨by show 3 ≤ 1000; decide, ?_⟩
    unfold und at w
    rw [if_neg h] at w
    exact w

/-! ### the discriminant -/
def dsc (c0 c1 c2 : Int) : Int := c1 * c1 - 4 * c0 * c2
def S3 (n : Nat) (g : Int → Int → Int → D) : List D → (D → Prop) → Prop := fun ds W => ∃ a b c : Int, ds = [.int a, .int b, .int c] ∧ a.natAbs < 2 ^ n ∧ b.natAbs < 2 ^ n ∧ c.natAbs < 2 ^ n ∧ W (g a b c)
theorem mulB {i j : Int} {a b : Nat} (h1 : i.natAbs < 2 ^ a) (h2 : j.natAbs < 2 ^ b) (ha : a ≤ 400000) (hb : b ≤ 400000) : CMulW i j :=
  wide_mul (a := a + 1) (b := b + 1) (Nat.lt_trans h1 (Nat.pow_lt_pow_right (by decide) (by omega))) (Nat.lt_trans h2 (Nat.pow_lt_pow_right (by decide) (by omega))) (by omega) (by omega) (by omega)
theorem absmul {i j : Int} {a b : Nat} (h1 : i.natAbs < 2 ^ a) (h2 : j.natAbs < 2 ^ b) : (i * j).natAbs < 2 ^ (a + b) := by
  rw [Int.natAbs_mul, Nat.pow_add]
  exact Nat.mul_lt_mul'' h1 h2
theorem absadd {i j : Int} {a : Nat} (h1 : i.natAbs < 2 ^ a) (h2 : j.natAbs < 2 ^ a) : (i + j).natAbs < 2 ^ (a + 1) := by
  have := Int.natAbs_add_le i j
  rw [Nat.pow_succ]
  omega
theorem abssub {i j : Int} {a : Nat} (h1 : i.natAbs < 2 ^ a) (h2 : j.natAbs < 2 ^ a) : (i - j).natAbs < 2 ^ (a + 1) := by
  have := Int.natAbs_sub_le i j
  rw [Nat.pow_succ]
  omega
theorem absup {i : Int} {a b : Nat} (h1 : i.natAbs < 2 ^ a) (h : a ≤ b) : i.natAbs < 2 ^ b := Nat.lt_of_lt_of_le h1 (Nat.pow_le_pow_right (by decide) h)
theorem fDisc {M : Md} {f : Addr} {fd : FuncData} (F : Fun M.K "discriminant" "discriminant" sDiscriminant f fd) (hm : M.mg "discriminant" = some (.ref f)) (b : L2.Binds M.K fd ["c0", "c1", "c2"] []) : FnD M 1 "discriminant" 3 (S3 300 fun a b c => .int (dsc a b c)) := by
  refine fnD_mk (k := 0) (NK := nkDiscriminant) (G := gDiscriminant) F scDiscriminant hm b rfl (by decide +kernel) rfl (by decide) fun X C ds W hl hS => ?_
  obtain ⟨a, b, c, rfl, h1, h2, h3, w⟩ := hS
  show VSs X _ [.dat (.int a), .dat (.int b), .dat (.int c)] _
  walk_at "vv"
  refine ⟨mulB h2 h2 (by decide) (by decide), ?_⟩
  walk_at "vv"
  refine ⟨mulB (a := 3) (by decide) h1 (by decide) (by decide), ?_⟩
  walk_at "vv"
  exact ⟨mulB (absmul (a := 3) (by decide) h1) h3 (by decide) (by decide), w⟩
/-! ### the sign of flat plus steep times a root -/
def surd (f s q : Int) : Int := if 0 ≤ sgn f * sgn s then (if sgn f = 0 then sgn s else sgn f) else if s * s * q < f * f then sgn f else sgn s
theorem sgn_small (n : Int) : (sgn n).natAbs < 2 ^ 1 := by
  unfold sgn
  split
  · decide
  · split <;> decide
theorem fSurd {M : Md} {f : Addr} {fd : FuncData} (FS : FnD M 1 "sign_of" 1 SSign) (F : Fun M.K "sign_of_surd" "sign_of_surd" sSignOfSurd f fd) (hm : M.mg "sign_of_surd" = some (.ref f)) (b : L2.Binds M.K fd ["flat", "steep", "square"] []) : FnD M 2 "sign_of_surd" 3 (S3 2000 fun a b c => .int (surd a b c)) := by
  refine fnD_mk (k := 1) (NK := nkSignOfSurd) (G := gSignOfSurd) F scSignOfSurd hm b rfl (by decide +kernel) rfl (by decide) fun X C ds W hl hS => ?_
  obtain ⟨p, s, q, rfl, h1, h2, h3, w⟩ := hS
  show VSs X _ [.dat (.int p), .dat (.int s), .dat (.int q), .no, .no] _
  replace w : W (.int (surd p s q)) := w
  unfold surd at w
  walk_at "vv"
  refine vd_call C FS (by walk_at "at") ?_
  walk_at "vv"
  refine ⟨rfl, p, rfl, ?_⟩
  walk_at "vv"
  refine vd_call C FS (by walk_at "at") ?_
  walk_at "vv"
  refine ⟨rfl, s, rfl, ?_⟩
  walk_at "vv"
  refine ⟨mulB (sgn_small p) (sgn_small s) (by decide) (by decide), ?_⟩
  walk_at "vv"
  refine ⟨fun h => ?_, fun h => ?_⟩
  · have h := of_decide_eq_true h
    rw [if_pos h] at w
    walk_at "v"
    walk_at "v"
    refine vd_orI ?_
    walk_at "vv"
    refine ⟨_, rfl, fun z => ?_, fun z => ?_⟩
    · rw [if_neg z] at w
      exact w
    · rw [if_pos z] at w
      refine vd_one ?_
      walk_at "vv"
      exact w
  · have h := of_decide_eq_false h
    rw [if_neg h] at w
    walk_at "vv"
    refine ⟨mulB h1 h1 (by decide) (by decide), ?_⟩
    walk_at "vv"
    refine ⟨mulB h2 h2 (by decide) (by decide), ?_⟩
    walk_at "vv"
    refine ⟨mulB (absmul h2 h2) h3 (by decide) (by decide), ?_⟩
    refine ⟨fun h => ?_, fun h => ?_⟩
    · have h := of_decide_eq_true h
      rw [if_pos h] at w
      walk_at "vv"
      exact w
    · have h := of_decide_eq_false h
      rw [if_neg h] at w
      walk_at "vv"
      exact w


/-! ### the roots -/
def rootD (own : D) (w : Int) : D := .tuple [.str "root", own, .int w]
def isq (n : Int) : Nat := Float64.isqrt n.natAbs
/-- of a polynomial whose last number is above 0, its discriminant not below 0 -/
def rtsP (e0 e1 e2 : Int) : List D :=
  if ((isq (dsc e0 e1 e2) : Nat) : Int) * ((isq (dsc e0 e1 e2) : Nat) : Int) = dsc e0 e1 e2 then
    (if ((isq (dsc e0 e1 e2) : Nat) : Int) = 0 then [frq (-e1) (2 * e2)] else [frq (-e1 - ((isq (dsc e0 e1 e2) : Nat) : Int)) (2 * e2), frq (-e1 + ((isq (dsc e0 e1 e2) : Nat) : Int)) (2 * e2)])
  else [rootD (und e0 e1 e2) 0, rootD (und e0 e1 e2) 1]
def rts2 (c0 c1 c2 : Int) : List D := if dsc c0 c1 c2 < 0 then [] else if c2 < 0 then rtsP (-c0) (-c1) (-c2) else rtsP c0 c1 c2
def rts (c0 c1 c2 : Int) : List D := if c2 = 0 then (if c1 = 0 then [] else [frq (-c0) c1]) else rts2 c0 c1 c2
def Sm (n : Int) : Prop := n.natAbs < 2 ^ 10
theorem dsc_neg (a b c : Int) : dsc (-a) (-b) (-c) = dsc a b c := by
  unfold dsc
  rw [Int.neg_mul_neg, Int.mul_assoc 4 (-a), Int.neg_mul_neg, Int.mul_assoc 4 a]
theorem dsc_small {a b c : Int} (ha : Sm a) (hb : Sm b) (hc : Sm c) : (dsc a b c).natAbs < 2 ^ 24 := by
  unfold dsc
  have h1 := absmul hb hb
  have h2 := absmul (absmul (i := 4) (a := 3) (by decide) ha) hc
  have := abssub (absup h1 (show 20 ≤ 23 by decide)) (absup h2 (show 3 + 10 + 10 ≤ 23 by decide))
  exact this
theorem isq_small {n : Int} (h : n.natAbs < 2 ^ 24) : isq n < 2 ^ 13 := by
  have r := (isqrt_root n.natAbs).1
  unfold isq
  rcases Nat.lt_or_ge (Float64.isqrt n.natAbs) (2 ^ 13) with z | z
  · exact z
  · have := Nat.mul_le_mul z z
    omega
def SSq : List D → (D → Prop) → Prop := fun ds W => ∃ a b c : Int, ds = [.int a, .int b, .int c] ∧ Sm a ∧ Sm b ∧ Sm c ∧ c ≠ 0 ∧ W (.list (rts2 a b c))
theorem fSq {M : Md} {f : Addr} {fd : FuncData} (mi : M.mg "isqrt" = some (.builtin "math.isqrt")) (FD : FnD M 1 "discriminant" 3 (S3 300 fun a b c => .int (dsc a b c))) (FU : FnD M 1 "undivided" 3 SUnd) (FF : FnD M 1 "fraction" 2 SFraction)
    (F : Fun M.K "square_roots" "square_roots" sSquareRoots f fd) (hm : M.mg "square_roots" = some (.ref f)) (b : L2.Binds M.K fd ["c0", "c1", "c2"] []) : FnD M 2 "square_roots" 3 SSq := by
  refine fnD_mk (k := 1) (NK := nkSquareRoots) (G := gSquareRoots) F scSquareRoots hm b rfl (by decide +kernel) rfl (by decide) fun X C ds W hl hS => ?_
  obtain ⟨a, b, c, rfl, ha, hb, hc, h0, w⟩ := hS
  have up : ∀ {n : Int} (m : Nat), 10 ≤ m → Sm n → n.natAbs < 2 ^ m := fun m h s => absup s h
  show VSs X _ [.dat (.int a), .dat (.int b), .dat (.int c), .no, .no, .no] _
  have hD := dsc_small ha hb hc
  -- from here on the last number is above 0
  have go : ∀ a b c : Int, Sm a → Sm b → Sm c → 0 < c → 0 ≤ dsc a b c → W (.list (rtsP a b c)) → VSs X ((defBody sSquareRoots).drop 3) [.dat (.int a), .dat (.int b), .dat (.int c), .dat (.int (dsc a b c)), .no, .no] { nx := fun _ => W .none, rt := fun d _ => W d } := fun a b c ha hb hc hp h0 w => by
    have hD := dsc_small ha hb hc
    have hq := isq_small hD
    walk_at "vv"
    refine vd_callM C does_isqrt (by walk_at "at") ?_
    walk_at "vv"
    refine ⟨_, rfl, h0, absup hD (by decide), fun r hr => ?_⟩
    have er : r = isq (dsc a b c) := hr.uniq (isqrt_root _)
    subst er
    unfold rtsP at w
    have hs : ((isq (dsc a b c) : Nat) : Int).natAbs < 2 ^ 13 := by omega
    walk_at "vv"
    refine ⟨mulB hs hs (by decide) (by decide), ?_⟩
    walk_at "vv"
    refine ⟨fun h => ?_, fun h => ?_⟩
    · have h : ¬ ((isq (dsc a b c) : Nat) : Int) * ((isq (dsc a b c) : Nat) : Int) = dsc a b c := by
        have h' : (!decide (((isq (dsc a b c) : Nat) : Int) * ((isq (dsc a b c) : Nat) : Int) = dsc a b c)) = true := h
        simpa using h'
      rw [if_neg h] at w
      walk_at "vv"
      refine vd_call C FU (by walk_at "at") ?_
      walk_at "vv"
      refine ⟨rfl, a, b, c, rfl, up 900 (by decide) hc, up 900 (by decide) hb, up 900 (by decide) ha, ?_⟩
      walk_at "v"
      walk_at "v"
      refine vn_vd (vn_lst ?_)
      walk_at "vv"
      refine ⟨by show 3 ≤ 1000; decide, ?_⟩
      walk_at "vv"
      refine ⟨by show 3 ≤ 1000; decide, ?_⟩
      walk_at "vv"
      exact ⟨by show 2 ≤ 1000; decide, w⟩
    · have h : ((isq (dsc a b c) : Nat) : Int) * ((isq (dsc a b c) : Nat) : Int) = dsc a b c := by
        have h' : (!decide (((isq (dsc a b c) : Nat) : Int) * ((isq (dsc a b c) : Nat) : Int) = dsc a b c)) = false := h
        simpa using h'
      rw [if_pos h] at w
      walk_at "vv"
      refine ⟨fun h => ?_, fun h => ?_⟩
      · have h := of_decide_eq_true h
        rw [if_pos h] at w
        walk_at "v"
        walk_at "v"
        refine vn_vd (vn_lst ?_)
        walk_at "v"
        refine vd_call C FF (by walk_at "at") ?_
        walk_at "vv"
        refine ⟨_, rfl, ?_⟩
        walk_at "vv"
        refine ⟨mulB (a := 2) (by decide) hc (by decide) (by decide), ?_⟩
        walk_at "vv"
        have h2c := absmul (i := 2) (a := 2) (by decide) hc
        refine ⟨rfl, -b, 2 * c, rfl, by rw [Int.natAbs_neg]; exact up 29 (by decide) hb, absup h2c (by decide), by omega, ?_⟩
        walk_at "vv"
        exact ⟨by show 1 ≤ 1000; decide, w⟩
      · have h := of_decide_eq_false h
        rw [if_neg h] at w
        refine vss_nil ?_
        walk_at "v"
        walk_at "v"
        refine vn_vd (vn_lst ?_)
        walk_at "v"
        refine vd_call C FF (by walk_at "at") ?_
        walk_at "vv"
        refine ⟨_, rfl, ?_⟩
        walk_at "vv"
        refine ⟨mulB (a := 2) (by decide) hc (by decide) (by decide), ?_⟩
        walk_at "vv"
        have h2c := absmul (i := 2) (a := 2) (by decide) hc
        have hnb : (-b).natAbs < 2 ^ 13 := by rw [Int.natAbs_neg]; exact up 13 (by decide) hb
        refine ⟨rfl, -b - ((isq (dsc a b c) : Nat) : Int), 2 * c, rfl, absup (abssub hnb hs) (by decide), absup h2c (by decide), by omega, ?_⟩
        walk_at "v"
        refine vd_call C FF (by walk_at "at") ?_
        walk_at "vv"
        refine ⟨_, rfl, ?_⟩
        walk_at "vv"
        refine ⟨mulB (a := 2) (by decide) hc (by decide) (by decide), ?_⟩
        walk_at "vv"
        refine ⟨rfl, -b + ((isq (dsc a b c) : Nat) : Int), 2 * c, rfl, absup (absadd hnb hs) (by decide), absup h2c (by decide), by omega, ?_⟩
        walk_at "vv"
        exact ⟨by show 2 ≤ 1000; decide, w⟩
  walk_at "vv"
  refine vd_call C FD (by walk_at "at") ?_
  walk_at "vv"
  refine ⟨rfl, a, b, c, rfl, up 300 (by decide) ha, up 300 (by decide) hb, up 300 (by decide) hc, ?_⟩
  unfold rts2 at w
  walk_at "vv"
  refine ⟨fun h => ?_, fun h => ?_⟩
  · have h := of_decide_eq_true h
    rw [if_pos h] at w
    walk_at "v"
    walk_at "v"
    refine vn_vd (vn_lst ?_)
    walk_at "vv"
    exact ⟨by decide, w⟩
  · have h := of_decide_eq_false h
    rw [if_neg h] at w
    walk_at "vv"
    refine ⟨fun h2 => ?_, fun h2 => ?_⟩
    · have h2 := of_decide_eq_true h2
      rw [if_pos h2] at w
      refine vss_one ?_
      refine vs_par3 C (i := 0) (j := 1) (l := 2) (by walk_at "at") (by walk_at "at") (by walk_at "at") (by decide) (by decide) (by decide) ?_ (by walk_at "sw")
      walk_at "vv"
      refine ⟨_, rfl, ?_⟩
      walk_at "vv"
      refine ⟨_, rfl, ?_⟩
      walk_at "vv"
      refine ⟨_, rfl, ?_⟩
      have g := go (-a) (-b) (-c) (by unfold Sm; rw [Int.natAbs_neg]; exact ha) (by unfold Sm; rw [Int.natAbs_neg]; exact hb) (by unfold Sm; rw [Int.natAbs_neg]; exact hc) (by omega) (by rw [dsc_neg]; omega) w
      rw [dsc_neg] at g
      exact g
    · have h2 := of_decide_eq_false h2
      rw [if_neg h2] at w
      refine vss_nil ?_
      exact go a b c ha hb hc (by omega) (by omega) w


/-! ### roots -/
theorem shRoot : SeqAt.shaped (.str "root") = true := by decide +kernel
theorem eqRoot : PyData.eqv (.str "root") (.str "root") = true := by decide +kernel

def SRoots : List D → (D → Prop) → Prop := fun ds W => ∃ a b c : Int, ds = [tup3 a b c] ∧ Sm a ∧ Sm b ∧ Sm c ∧ W (.list (rts a b c))
theorem fRoots {M : Md} {f : Addr} {fd : FuncData} (FQ : FnD M 2 "square_roots" 3 SSq) (FF : FnD M 1 "fraction" 2 SFraction)
    (F : Fun M.K "roots" "roots" sRoots f fd) (hm : M.mg "roots" = some (.ref f)) (b : L2.Binds M.K fd ["poly"] []) : FnD M 3 "roots" 1 SRoots := by
  refine fnD_mk (k := 2) (NK := nkRoots) (G := gRoots) F scRoots hm b rfl (by decide +kernel) rfl (by decide) fun X C ds W hl hS => ?_
  obtain ⟨a, b, c, rfl, ha, hb, hc, w⟩ := hS
  show VSs X _ [.dat (tup3 a b c), .no, .no, .no] _
  unfold rts at w
  walk_at "v"
  refine vs_asg ?_
  walk_at "v"
  refine vg_tup C ?_
  walk_at "vv"
  refine ⟨fun h => ?_, fun h => ?_⟩
  · have h : ¬ c = 0 := by simpa using h
    rw [if_neg h] at w
    walk_at "vv"
    refine vd_call C FQ (by walk_at "at") ?_
    walk_at "vv"
    exact ⟨rfl, a, b, c, rfl, ha, hb, hc, h, w⟩
  · have h : c = 0 := of_decide_eq_true (by simpa using h)
    rw [if_pos h] at w
    walk_at "vv"
    refine ⟨fun h => ?_, fun h => ?_⟩
    · have h : ¬ b = 0 := by simpa using h
      rw [if_neg h] at w
      walk_at "vv"
      refine vn_vd (vn_lst ?_)
      walk_at "v"
      refine vd_call C FF (by walk_at "at") ?_
      walk_at "vv"
      refine ⟨_, rfl, ?_⟩
      walk_at "vv"
      refine ⟨rfl, -a, b, rfl, by rw [Int.natAbs_neg]; exact absup ha (by decide), absup hb (by decide), h, ?_⟩
      walk_at "vv"
      exact ⟨by show 1 ≤ 1000; decide, w⟩
    · have h : b = 0 := of_decide_eq_true (by simpa using h)
      rw [if_pos h] at w
      walk_at "vv"
      refine vn_vd (vn_lst ?_)
      walk_at "vv"
      exact ⟨by show 0 ≤ 1000; decide, w⟩
/-! ### sign_on -/
def sonF (c0 c1 c2 n d : Int) : Int := sgn ((c0 * d + c1 * n) * d + c2 * n * n)
def sonR (c0 c1 c2 b0 b1 b2 w : Int) : Int :=
  surd (2 * b2 * (c0 * b2 - c2 * b0) - b1 * (c1 * b2 - c2 * b1)) (if w = 0 then -(c1 * b2 - c2 * b1) else c1 * b2 - c2 * b1) (dsc b0 b1 b2)
def SSon : List D → (D → Prop) → Prop := fun ds W => ∃ (c0 c1 c2 : Int) (pl : D), ds = [tup3 c0 c1 c2, pl] ∧ Sm c0 ∧ Sm c1 ∧ Sm c2 ∧
  ((∃ n d : Int, pl = .tuple [.int n, .int d] ∧ n.natAbs < 2 ^ 200 ∧ d.natAbs < 2 ^ 200 ∧ W (.int (sonF c0 c1 c2 n d))) ∨
   (∃ b0 b1 b2 w : Int, pl = rootD (tup3 b0 b1 b2) w ∧ Sm b0 ∧ Sm b1 ∧ Sm b2 ∧ W (.int (sonR c0 c1 c2 b0 b1 b2 w))))
theorem fSon {M : Md} {f : Addr} {fd : FuncData} (FS : FnD M 1 "sign_of" 1 SSign) (FU : FnD M 2 "sign_of_surd" 3 (S3 2000 fun a b c => .int (surd a b c))) (FD : FnD M 1 "discriminant" 3 (S3 300 fun a b c => .int (dsc a b c)))
    (F : Fun M.K "sign_on" "sign_on" sSignOn f fd) (hm : M.mg "sign_on" = some (.ref f)) (b : L2.Binds M.K fd ["poly", "place"] []) : FnD M 3 "sign_on" 2 SSon := by
  refine fnD_mk (k := 2) (NK := nkSignOn) (G := gSignOn) F scSignOn hm b rfl (by decide +kernel) rfl (by decide) fun X C ds W hl hS => ?_
  obtain ⟨c0, c1, c2, pl, rfl, h0, h1, h2, hS⟩ := hS
  have up : ∀ {n : Int} (m : Nat), 10 ≤ m → Sm n → n.natAbs < 2 ^ m := fun m h s => absup s h
  show VSs X _ [.dat (tup3 c0 c1 c2), .dat pl, .no, .no, .no, .no, .no, .no, .no, .no, .no, .no, .no, .no] _
  rcases hS with ⟨n, d, rfl, hn, hd, w⟩ | ⟨b0, b1, b2, wh, rfl, g0, g1, g2, w⟩
  · walk_at "v"
    refine vs_asg ?_
    walk_at "v"
    refine vg_tup C ?_
    walk_at "vv"
    refine ⟨_, rfl, ?_⟩
    walk_at "vv"
    refine ⟨rfl, shRoot, ?_⟩
    refine ⟨fun _ => ?_, fun h => absurd h (by show ¬ (true = false); decide)⟩
    walk_at "v"
    refine vs_asg ?_
    walk_at "v"
    refine vg_tup C ?_
    walk_at "vv"
    refine vd_call C FS (by walk_at "at") ?_
    walk_at "vv"
    refine ⟨mulB (up 10 (by decide) h0) hd (by decide) (by decide), ?_⟩
    walk_at "vv"
    refine ⟨mulB (up 10 (by decide) h1) hn (by decide) (by decide), ?_⟩
    walk_at "vv"
    refine ⟨mulB (absadd (absmul h0 hd) (absmul h1 hn)) hd (by decide) (by decide), ?_⟩
    walk_at "vv"
    refine ⟨mulB (up 10 (by decide) h2) hn (by decide) (by decide), ?_⟩
    walk_at "vv"
    refine ⟨mulB (absmul h2 hn) hn (by decide) (by decide), ?_⟩
    walk_at "vv"
    exact ⟨rfl, _, rfl, w⟩
  · walk_at "v"
    refine vs_asg ?_
    walk_at "v"
    refine vg_tup C ?_
    walk_at "vv"
    refine ⟨_, rfl, ?_⟩
    walk_at "vv"
    refine ⟨shRoot, shRoot, ?_⟩
    refine ⟨fun h => absurd (h : (!PyData.eqv (.str "root") (.str "root")) = true) (by rw [eqRoot]; decide), fun _ => ?_⟩
    walk_at "vv"
    refine vs_asg ?_
    walk_at "v"
    refine vg_tup C ?_
    walk_at "vv"
    refine vg_tup C ?_
    walk_at "vv"
    refine ⟨mulB h0 g2 (by decide) (by decide), ?_⟩
    walk_at "vv"
    refine ⟨mulB h2 g0 (by decide) (by decide), ?_⟩
    walk_at "vv"
    refine ⟨mulB h1 g2 (by decide) (by decide), ?_⟩
    walk_at "vv"
    refine ⟨mulB h2 g1 (by decide) (by decide), ?_⟩
    have hf := abssub (absmul h0 g2) (absmul h2 g0)
    have hs := abssub (absmul h1 g2) (absmul h2 g1)
    walk_at "vv"
    refine ⟨mulB (a := 2) (by decide) g2 (by decide) (by decide), ?_⟩
    have h2b := absmul (i := 2) (a := 2) (by decide) g2
    walk_at "vv"
    refine ⟨mulB h2b hf (by decide) (by decide), ?_⟩
    walk_at "vv"
    refine ⟨mulB g1 hs (by decide) (by decide), ?_⟩
    have hF := abssub (absup (absmul h2b hf) (show 2 + 10 + (10 + 10 + 1) ≤ 40 by decide)) (absup (absmul g1 hs) (show 10 + (10 + 10 + 1) ≤ 40 by decide))
    have hD := dsc_small g0 g1 g2
    unfold sonR at w
    walk_at "vv"
    refine ⟨fun h => ?_, fun h => ?_⟩
    · have h : wh = 0 := of_decide_eq_true h
      rw [if_pos h] at w
      walk_at "vv"
      refine ⟨_, rfl, ?_⟩
      refine vss_one (vs_ret ?_)
      refine vd_call C FU (by walk_at "at") ?_
      walk_at "vv"
      refine vd_call C FD (by walk_at "at") ?_
      walk_at "vv"
      refine ⟨rfl, b0, b1, b2, rfl, up 300 (by decide) g0, up 300 (by decide) g1, up 300 (by decide) g2, ?_⟩
      walk_at "vv"
      exact ⟨rfl, _, _, _, rfl, absup hF (by decide), by rw [Int.natAbs_neg]; exact absup hs (by decide), absup hD (by decide), w⟩
    · have h : ¬ wh = 0 := of_decide_eq_false h
      rw [if_neg h] at w
      refine vss_nil ?_
      refine vss_one (vs_ret ?_)
      refine vd_call C FU (by walk_at "at") ?_
      walk_at "vv"
      refine vd_call C FD (by walk_at "at") ?_
      walk_at "vv"
      refine ⟨rfl, b0, b1, b2, rfl, up 300 (by decide) g0, up 300 (by decide) g1, up 300 (by decide) g2, ?_⟩
      walk_at "vv"
      exact ⟨rfl, _, _, _, rfl, absup hF (by decide), absup hs (by decide), absup hD (by decide), w⟩


open PySem PySem.Spec PyProof.Rows L2 Vc

/-! ### _law_at -/
def latv (a b c n d : Int) : Int := a * d * d + b * n * d + c * n * n
def SAt : List D → (D → Prop) → Prop := fun ds W => ∃ a b c n d : Int, ds = [tup3 a b c, .int n, .int d] ∧ Sm a ∧ Sm b ∧ Sm c ∧ n.natAbs < 2 ^ 200 ∧ d.natAbs < 2 ^ 200 ∧ W (.int (sgn (latv a b c n d)))
theorem fAt {M : Md} {f : Addr} {fd : FuncData} (FS : FnD M 1 "_law_sign" 1 SSign)
    (F : Fun M.K "_law_at" "_law_at" sLAt f fd) (hm : M.mg "_law_at" = some (.ref f)) (b : L2.Binds M.K fd ["poly", "n", "d"] []) : FnD M 2 "_law_at" 3 SAt := by
  refine fnD_mk (k := 1) (NK := nkLAt) (G := gLAt) F scLAt hm b rfl (by decide +kernel) rfl (by decide) fun X C ds W hl hS => ?_
  obtain ⟨a, b, c, n, d, rfl, ha, hb, hc, hn, hd, w⟩ := hS
  show VSs X _ [.dat (tup3 a b c), .dat (.int n), .dat (.int d)] _
  refine vss_one (vs_ret ?_)
  refine vd_call C FS (by walk_at "at") ?_
  walk_at "vv"
  refine ⟨_, rfl, ?_⟩
  walk_at "vv"
  refine ⟨mulB ha hd (by decide) (by decide), ?_⟩
  walk_at "vv"
  refine ⟨mulB (absmul ha hd) hd (by decide) (by decide), ?_⟩
  walk_at "vv"
  refine ⟨_, rfl, ?_⟩
  walk_at "vv"
  refine ⟨mulB hb hn (by decide) (by decide), ?_⟩
  walk_at "vv"
  refine ⟨mulB (absmul hb hn) hd (by decide) (by decide), ?_⟩
  walk_at "vv"
  refine ⟨_, rfl, ?_⟩
  walk_at "vv"
  refine ⟨mulB hc hn (by decide) (by decide), ?_⟩
  walk_at "vv"
  refine ⟨mulB (absmul hc hn) hn (by decide) (by decide), ?_⟩
  walk_at "vv"
  exact ⟨rfl, _, rfl, w⟩
/-! ### _law_root_of -/
/-- behind i laps -/
structure Rw (n : Int) (i : Nat) (low high : Int) : Prop where
  l0 : 0 ≤ low
  lh : low < high
  hn : high ≤ n + 1
  ll : low * low ≤ n
  hh : n < high * high
  gap : (high - low - 1) * 2 ^ i ≤ n
theorem pow_succI (i : Nat) : (2 : Int) ^ (i + 1) = 2 * 2 ^ i := by
  rw [Int.pow_succ, Int.mul_comm]
theorem pow_posI (i : Nat) : (0 : Int) < 2 ^ i := Int.pow_pos (by decide)
theorem half_gap {g h n p : Int} (hp : 0 < p) (h1 : 2 * h ≤ g) (hg : g * p ≤ n) : h * (2 * p) ≤ n := by
  have : h * (2 * p) = (2 * h) * p := by grind
  rw [this]
  exact Int.le_trans (Int.mul_le_mul_of_nonneg_right h1 (by omega)) hg
theorem rw_step {n : Int} {i : Nat} {low high : Int} (h : Rw n i low high) :
    ((low + high) / 2 * ((low + high) / 2) ≤ n → Rw n (i + 1) ((low + high) / 2) high) ∧ (¬ (low + high) / 2 * ((low + high) / 2) ≤ n → Rw n (i + 1) low ((low + high) / 2)) := by
  have h1 := h.lh
  have h0 := h.l0
  refine ⟨fun z => ⟨by omega, by omega, h.hn, z, h.hh, ?_⟩, fun z => ⟨h0, ?_, ?_, h.ll, by omega, ?_⟩⟩
  · rw [pow_succI]
    exact half_gap (pow_posI i) (by omega) h.gap
  · have := h.ll
    by_cases e : (low + high) / 2 = low
    · rw [e] at z
      exact absurd this z
    · omega
  · have := h.hn
    omega
  · rw [pow_succI]
    exact half_gap (pow_posI i) (by omega) h.gap
theorem rw_end {n low high : Int} (hn : n.natAbs < 2 ^ 24) (h : Rw n 200 low high) : low = ((isq n : Nat) : Int) := by
  have h1 := h.lh
  have h0 := h.l0
  have hg := h.gap
  have e : high = low + 1 := by
    rcases Int.lt_or_le (low + 1) high with z | z
    · have := Int.mul_le_mul_of_nonneg_right (show (1 : Int) ≤ high - low - 1 by omega) (show (0 : Int) ≤ 2 ^ 200 by decide)
      have p : (1 : Int) * 2 ^ 200 > 2 ^ 24 := by decide
      omega
    · omega
  have r := isqrt_root n.natAbs
  have hr : IsRoot n.natAbs low.toNat := by
    have a1 := h.ll
    have a2 := h.hh
    subst e
    have n0 : 0 ≤ n := Int.le_trans (Int.mul_nonneg h0 h0) a1
    refine ⟨?_, ?_⟩
    · apply Int.ofNat_le.mp
      rw [Int.natCast_mul, Int.toNat_of_nonneg h0]
      omega
    · apply Int.ofNat_lt.mp
      rw [Int.natCast_mul, Int.natCast_add, Int.toNat_of_nonneg h0]
      show (n.natAbs : Int) < (low + 1) * (low + 1)
      omega
  have := hr.uniq r
  unfold isq
  omega
theorem rw_small {n : Int} {i : Nat} {low high : Int} (hn : n.natAbs < 2 ^ 24) (h : Rw n i low high) : ((low + high) / 2).natAbs < 2 ^ 30 := by
  have h1 := h.lh
  have h0 := h.l0
  have h2 := h.hn
  omega
def SRootOf : List D → (D → Prop) → Prop := fun ds W => ∃ n : Int, ds = [.int n] ∧ 0 ≤ n ∧ n.natAbs < 2 ^ 24 ∧ W (.int ((isq n : Nat) : Int))
theorem fRootOf {M : Md} {f : Addr} {fd : FuncData} (mr : M.mg "range" = none)
    (F : Fun M.K "_law_root_of" "_law_root_of" sLRootOf f fd) (hm : M.mg "_law_root_of" = some (.ref f)) (b : L2.Binds M.K fd ["number"] []) : FnD M 1 "_law_root_of" 1 SRootOf := by
  refine fnD_mk (k := 0) (NK := nkLRootOf) (G := gLRootOf) F scLRootOf hm b rfl (by decide +kernel) rfl (by decide) fun X C ds W hl hS => ?_
  obtain ⟨n, rfl, n0, hn, w⟩ := hS
  show VSs X _ [.dat (.int n), .no, .no, .no, .no] _
  walk_at "v"
  refine vs_par C (i := 1) (j := 2) (by walk_at "at") (by walk_at "at") (by decide) ?_ (by walk_at "sw")
  walk_at "vv"
  refine vs_for C (vi_range C (by walk_at "at") ?_)
  walk_at "vv"
  refine ⟨200, rfl, by decide, ?_⟩
  refine ⟨fun i ρ' => ∃ (low high : Int) (s t : Sl), ρ' = [.dat (.int n), .dat (.int low), .dat (.int high), s, t] ∧ Rw n i low high, ⟨0, n + 1, _, _, rfl, ?_⟩, fun i d ρ' hi hW => ?_, fun ρ' hW => ?_⟩
  · refine ⟨by omega, by omega, by omega, by omega, ?_, by omega⟩
    have := Int.mul_le_mul_of_nonneg_left (show 1 ≤ n + 1 by omega) (show 0 ≤ n + 1 by omega)
    omega
  · obtain ⟨low, high, s, t, rfl, h⟩ := hW
    have st := rw_step h
    have sm := rw_small hn h
    walk_at "vv"
    refine ⟨divW (by decide) (by decide), ?_⟩
    walk_at "vv"
    refine ⟨mulB sm sm (by decide) (by decide), ?_⟩
    walk_at "vv"
    refine ⟨fun z => ?_, fun z => ?_⟩
    · have z := of_decide_eq_true z
      walk_at "vv"
      exact ⟨_, high, _, _, rfl, st.1 z⟩
    · have z := of_decide_eq_false z
      walk_at "vv"
      exact ⟨low, _, _, _, rfl, st.2 z⟩
  · obtain ⟨low, high, s, t, rfl, h⟩ := hW
    rw [List.length_map, List.length_range] at h
    rw [← rw_end hn h] at w
    walk_at "vv"
    exact w
/-! ### _law_roots -/
/-- the numbers have no divisor in common, or are 0 all -/
def Wh (a b c : Int) : Prop := g3 a b c = 1 ∨ (a = 0 ∧ b = 0 ∧ c = 0)
theorem und_wh {a b c : Int} (h : g3 a b c = 1) : und a b c = tup3 a b c := by
  unfold und
  rw [h, if_neg (by decide)]
  show tup3 (a / 1) (b / 1) (c / 1) = _
  rw [Int.ediv_one, Int.ediv_one, Int.ediv_one]
theorem g3_neg (a b c : Int) : g3 (-a) (-b) (-c) = g3 a b c := by
  unfold g3
  rw [Int.natAbs_neg, Int.natAbs_neg, Int.natAbs_neg]
theorem wh_g3 {a b c : Int} (h : Wh a b c) (hc : c ≠ 0) : g3 a b c = 1 := h.elim id fun z => absurd z.2.2 hc
theorem frq_neg {n d : Int} (h : d < 0) : frq n d = frq (-n) (-d) := by
  unfold frq
  rw [if_pos h, if_neg (by omega)]
theorem frq_le (n d : Int) : (if d < 0 then fr (-n) (-d) else fr n d) = frq n d := rfl
def SLRoots : List D → (D → Prop) → Prop := fun ds W => ∃ a b c : Int, ds = [tup3 a b c] ∧ Sm a ∧ Sm b ∧ Sm c ∧ Wh a b c ∧ W (.list (rts a b c))
theorem fLRoots {M : Md} {f : Addr} {fd : FuncData} (FF : FnD M 2 "_law_frac" 2 SFrac) (FO : FnD M 1 "_law_root_of" 1 SRootOf)
    (F : Fun M.K "_law_roots" "_law_roots" sLRoots f fd) (hm : M.mg "_law_roots" = some (.ref f)) (b : L2.Binds M.K fd ["poly"] []) : FnD M 3 "_law_roots" 1 SLRoots := by
  refine fnD_mk (k := 2) (NK := nkLRoots) (G := gLRoots) F scLRoots hm b rfl (by decide +kernel) rfl (by decide) fun X C ds W hl hS => ?_
  obtain ⟨a, b, c, rfl, ha, hb, hc, hw, w⟩ := hS
  have up : ∀ {n : Int} (m : Nat), 10 ≤ m → Sm n → n.natAbs < 2 ^ m := fun m h s => absup s h
  have hD := dsc_small ha hb hc
  show VSs X _ [.dat (tup3 a b c), .no, .no, .no, .no, .no, .no, .no, .no, .no] _
  unfold rts at w
  walk_at "v"
  refine vs_asg ?_
  walk_at "v"
  refine vg_tup C ?_
  walk_at "vv"
  refine ⟨fun h => ?_, fun h => ?_⟩
  · have h : c = 0 := of_decide_eq_true h
    rw [if_pos h] at w
    walk_at "vv"
    refine ⟨fun h => ?_, fun h => ?_⟩
    · have h : b = 0 := of_decide_eq_true h
      rw [if_pos h] at w
      refine vn_vd (vn_lst ?_)
      walk_at "vv"
      exact ⟨by show 0 ≤ 1000; decide, w⟩
    · have h : ¬ b = 0 := of_decide_eq_false h
      rw [if_neg h] at w
      refine vn_vd (vn_lst ?_)
      walk_at "v"
      refine vd_call C FF (by walk_at "at") ?_
      walk_at "vv"
      refine ⟨_, rfl, ?_⟩
      walk_at "vv"
      refine ⟨rfl, -a, b, rfl, by rw [Int.natAbs_neg]; exact absup ha (by decide), absup hb (by decide), h, ?_⟩
      walk_at "vv"
      exact ⟨by show 1 ≤ 1000; decide, w⟩
  · have h : ¬ c = 0 := of_decide_eq_false h
    have g1 := wh_g3 hw h
    rw [if_neg h] at w
    unfold rts2 at w
    walk_at "vv"
    refine ⟨mulB hb hb (by decide) (by decide), ?_⟩
    walk_at "vv"
    refine ⟨mulB (a := 3) (by decide) ha (by decide) (by decide), ?_⟩
    walk_at "vv"
    refine ⟨mulB (absmul (a := 3) (by decide) ha) hc (by decide) (by decide), ?_⟩
    show VSs X _ [.dat (tup3 a b c), .dat (.int a), .dat (.int b), .dat (.int c), .dat (.int (dsc a b c)), .no, .no, .no, .no, .no] _
    walk_at "vv"
    refine ⟨fun z => ?_, fun z => ?_⟩
    · have z := of_decide_eq_true z
      rw [if_pos z] at w
      walk_at "vv"
      refine vn_vd (vn_lst ?_)
      walk_at "vv"
      exact ⟨by show 0 ≤ 1000; decide, w⟩
    · have z := of_decide_eq_false z
      rw [if_neg z] at w
      have hq := isq_small hD
      have hs : ((isq (dsc a b c) : Nat) : Int).natAbs < 2 ^ 13 := by omega
      have hnb : (-b).natAbs < 2 ^ 13 := by rw [Int.natAbs_neg]; exact up 13 (by decide) hb
      have h2c := absmul (i := 2) (a := 2) (by decide) hc
      walk_at "vv"
      refine vd_call C FO (by walk_at "at") ?_
      walk_at "vv"
      refine ⟨rfl, _, rfl, by omega, hD, ?_⟩
      walk_at "vv"
      refine ⟨mulB hs hs (by decide) (by decide), ?_⟩
      walk_at "vv"
      refine ⟨fun y => ?_, fun y => ?_⟩
      · have y : ((isq (dsc a b c) : Nat) : Int) * ((isq (dsc a b c) : Nat) : Int) = dsc a b c := of_decide_eq_true y
        -- behind low and high
        have go : ∀ lo hi : Int, lo.natAbs < 2 ^ 14 → hi.natAbs < 2 ^ 14 → W (.list (if ((isq (dsc a b c) : Nat) : Int) = 0 then [frq lo (2 * c)] else [frq lo (2 * c), frq hi (2 * c)])) →
            VSs X [(match (defBody sLRoots).getD 5 (.Pass ⟨0, 0, 0, 0⟩) with | .If _ u _ _ => u.getD 1 (.Pass ⟨0, 0, 0, 0⟩) | _ => .Pass ⟨0, 0, 0, 0⟩), (match (defBody sLRoots).getD 5 (.Pass ⟨0, 0, 0, 0⟩) with | .If _ u _ _ => u.getD 2 (.Pass ⟨0, 0, 0, 0⟩) | _ => .Pass ⟨0, 0, 0, 0⟩)]
              [.dat (tup3 a b c), .dat (.int a), .dat (.int b), .dat (.int c), .dat (.int (dsc a b c)), .dat (.int ((isq (dsc a b c) : Nat) : Int)), .dat (.int lo), .dat (.int hi), .no, .no]
              { nx := fun ρ1 => VSs X ((defBody sLRoots).drop 6) ρ1 { nx := fun _ => W .none, rt := fun d _ => W d }, rt := fun d _ => W d } := fun lo hi l1 l2 w => by
          walk_at "v"
          walk_at "v"
          refine vn_vd (vn_lst ?_)
          walk_at "v"
          refine vd_call C FF (by walk_at "at") ?_
          walk_at "vv"
          refine ⟨mulB (a := 2) (by decide) hc (by decide) (by decide), ?_⟩
          walk_at "vv"
          refine ⟨rfl, lo, 2 * c, rfl, absup l1 (by decide), absup h2c (by decide), by omega, ?_⟩
          rw [frq_le]
          walk_at "v"
          refine vd_call C FF (by walk_at "at") ?_
          walk_at "vv"
          refine ⟨mulB (a := 2) (by decide) hc (by decide) (by decide), ?_⟩
          walk_at "vv"
          refine ⟨rfl, hi, 2 * c, rfl, absup l2 (by decide), absup h2c (by decide), by omega, ?_⟩
          rw [frq_le]
          walk_at "vv"
          refine ⟨by show 2 ≤ 1000; decide, ?_⟩
          walk_at "vv"
          have e0 : dsc a b c = 0 ↔ ((isq (dsc a b c) : Nat) : Int) = 0 := by
            refine ⟨fun e => ?_, fun e => ?_⟩
            · rw [e] at y ⊢
              exact (Int.mul_eq_zero.mp y).elim id id
            · rw [e] at y
              exact y.symm
          refine ⟨fun v => ?_, fun v => ?_⟩
          · have v := of_decide_eq_true v
            rw [if_pos (e0.mp v)] at w
            refine vn_vd (vn_take (n := 1) ?_)
            walk_at "vv"
            exact ⟨_, rfl, w⟩
          · have v := of_decide_eq_false v
            rw [if_neg (fun u => v (e0.mpr u))] at w
            walk_at "vv"
            exact w
        refine vss_cons ?_
        refine vs_asg ?_
        walk_at "vv"
        refine ⟨fun v => ?_, fun v => ?_⟩
        · have v := of_decide_eq_true v
          rw [if_neg (by omega)] at w
          unfold rtsP at w
          rw [if_pos y] at w
          walk_at "vv"
          refine ⟨_, rfl, ?_⟩
          walk_at "vv"
          refine ⟨_, rfl, ?_⟩
          walk_at "vv"
          refine ⟨by show 2 ≤ 1000; decide, ?_⟩
          refine vg_tup C ?_
          walk_at "v"
          walk_at "v"
          walk_at "v"
          walk_at "v"
          walk_at "v"
          refine go _ _ (abssub hnb hs) (absadd hnb hs) ?_
          split
          · rename_i e
            rw [if_pos e] at w
            rw [e, Int.sub_zero]
            exact w
          · rename_i e
            rw [if_neg e] at w
            exact w
        · have v := of_decide_eq_false v
          have vc : c < 0 := by omega
          rw [if_pos vc] at w
          unfold rtsP at w
          rw [dsc_neg, if_pos y] at w
          walk_at "vv"
          refine ⟨_, rfl, ?_⟩
          walk_at "vv"
          refine ⟨_, rfl, ?_⟩
          walk_at "vv"
          refine ⟨by show 2 ≤ 1000; decide, ?_⟩
          refine vg_tup C ?_
          walk_at "v"
          walk_at "v"
          walk_at "v"
          walk_at "v"
          walk_at "v"
          refine go _ _ (absadd hnb hs) (abssub hnb hs) ?_
          have e1 : -(2 * c) = 2 * (-c) := by omega
          split
          · rename_i e
            rw [if_pos e] at w
            rw [e, Int.add_zero, frq_neg (by omega), e1]
            exact w
          · rename_i e
            rw [if_neg e] at w
            rw [frq_neg (d := 2 * c) (by omega), frq_neg (d := 2 * c) (by omega), e1]
            have e2 : -(-b + ((isq (dsc a b c) : Nat) : Int)) = -(-b) - ((isq (dsc a b c) : Nat) : Int) := by omega
            have e3 : -(-b - ((isq (dsc a b c) : Nat) : Int)) = -(-b) + ((isq (dsc a b c) : Nat) : Int) := by omega
            rw [e2, e3]
            exact w
      · have y : ¬ ((isq (dsc a b c) : Nat) : Int) * ((isq (dsc a b c) : Nat) : Int) = dsc a b c := of_decide_eq_false y
        refine vss_nil ?_
        walk_at "vv"
        refine ⟨fun v => ?_, fun v => ?_⟩
        · have v := of_decide_eq_true v
          rw [if_neg (by omega)] at w
          unfold rtsP at w
          rw [if_neg y, und_wh g1] at w
          walk_at "vv"
          refine vn_vd (vn_lst ?_)
          walk_at "vv"
          refine ⟨by show 3 ≤ 1000; decide, ?_⟩
          walk_at "vv"
          refine ⟨by show 3 ≤ 1000; decide, ?_⟩
          walk_at "vv"
          exact ⟨by show 2 ≤ 1000; decide, w⟩
        · have v := of_decide_eq_false v
          rw [if_pos (by omega)] at w
          unfold rtsP at w
          rw [dsc_neg, if_neg y, und_wh (by rw [g3_neg]; exact g1)] at w
          walk_at "vv"
          refine ⟨_, rfl, ?_⟩
          walk_at "vv"
          refine ⟨_, rfl, ?_⟩
          walk_at "vv"
          refine ⟨_, rfl, ?_⟩
          walk_at "vv"
          refine ⟨by show 3 ≤ 1000; decide, ?_⟩
          walk_at "vv"
          refine vn_vd (vn_lst ?_)
          walk_at "vv"
          refine ⟨by show 3 ≤ 1000; decide, ?_⟩
          walk_at "vv"
          refine ⟨by show 3 ≤ 1000; decide, ?_⟩
          walk_at "vv"
          exact ⟨by show 2 ≤ 1000; decide, w⟩


/-! ### _law_poly -/
def Sb (n : Int) : Prop := n.natAbs ≤ 72
theorem Sb.sm {n : Int} (h : Sb n) : Sm n := Nat.lt_of_le_of_lt h (by decide)
theorem mulLe {i j : Int} {a b : Nat} (h1 : i.natAbs ≤ a) (h2 : j.natAbs ≤ b) : (i * j).natAbs ≤ a * b := by
  rw [Int.natAbs_mul]
  exact Nat.mul_le_mul h1 h2
/-- the divisor of the numbers, 1 if these are 0 -/
def byOf (a b c : Int) : Int := if g3 a b c = 0 then 1 else (g3 a b c : Int)
theorem byOf_pos (a b c : Int) : 0 < byOf a b c := by
  unfold byOf
  split <;> omega
theorem g3_dvd (a b c : Int) : (g3 a b c : Int) ∣ a ∧ (g3 a b c : Int) ∣ b ∧ (g3 a b c : Int) ∣ c := by
  have h12 : Nat.gcd a.natAbs b.natAbs ∣ a.natAbs := Nat.gcd_dvd_left _ _
  have h13 : Nat.gcd a.natAbs b.natAbs ∣ b.natAbs := Nat.gcd_dvd_right _ _
  have h0 : g3 a b c ∣ Nat.gcd a.natAbs b.natAbs := Nat.gcd_dvd_left _ _
  have h2 : g3 a b c ∣ c.natAbs := Nat.gcd_dvd_right _ _
  have up : ∀ {x : Int}, g3 a b c ∣ x.natAbs → (g3 a b c : Int) ∣ x := fun h => Int.natAbs_dvd_natAbs.mp (by
    rw [Int.natAbs_natCast]
    exact h)
  exact ⟨up (Nat.dvd_trans h0 h12), up (Nat.dvd_trans h0 h13), up h2⟩
theorem by_wh (a b c : Int) : Wh (a / byOf a b c) (b / byOf a b c) (c / byOf a b c) := by
  unfold byOf
  by_cases z : g3 a b c = 0
  · rw [if_pos z]
    right
    have h : Nat.gcd a.natAbs b.natAbs = 0 ∧ c.natAbs = 0 := Nat.gcd_eq_zero_iff.mp z
    have h2 := Nat.gcd_eq_zero_iff.mp h.1
    rw [Int.ediv_one, Int.ediv_one, Int.ediv_one]
    omega
  · rw [if_neg z]
    left
    obtain ⟨⟨x, hx⟩, ⟨y, hy⟩, ⟨w, hw⟩⟩ := g3_dvd a b c
    have gp : 0 < g3 a b c := Nat.pos_of_ne_zero z
    have e1 : a / (g3 a b c : Int) = x := by
      conv => lhs; lhs; rw [hx]
      exact Int.mul_ediv_cancel_left _ (by omega)
    have e2 : b / (g3 a b c : Int) = y := by
      conv => lhs; lhs; rw [hy]
      exact Int.mul_ediv_cancel_left _ (by omega)
    have e3 : c / (g3 a b c : Int) = w := by
      conv => lhs; lhs; rw [hw]
      exact Int.mul_ediv_cancel_left _ (by omega)
    rw [e1, e2, e3]
    have k : g3 a b c = g3 a b c * g3 x y w := by
      have : g3 a b c = Nat.gcd (Nat.gcd (g3 a b c * x.natAbs) (g3 a b c * y.natAbs)) (g3 a b c * w.natAbs) := by
        have q : ∀ {u v : Int}, u = (g3 a b c : Int) * v → g3 a b c * v.natAbs = u.natAbs := fun {u v} e => by
          rw [e, Int.natAbs_mul, Int.natAbs_natCast]
        rw [q hx, q hy, q hw]
        rfl
      rw [Nat.gcd_mul_left, Nat.gcd_mul_left] at this
      exact this
    have : g3 a b c * 1 = g3 a b c * g3 x y w := by omega
    exact (Nat.eq_of_mul_eq_mul_left gp this).symm
theorem divLe {n d : Int} (hd : 0 < d) (h : Sb n) : Sb (n / d) := by
  unfold Sb at *
  have a : d * (n / d) ≤ n := Int.mul_ediv_self_le (by omega)
  have b : n < d * (n / d) + d := Int.lt_mul_ediv_self_add hd
  rcases Int.lt_or_le (n / d) 0 with z | z
  · have := Int.mul_le_mul_of_nonneg_right (show 1 ≤ d by omega) (show 0 ≤ -(n / d) - 1 by omega)
    have e : d * (-(n / d) - 1) = -(d * (n / d)) - d := by grind
    rw [e] at this
    omega
  · have := Int.mul_le_mul_of_nonneg_right (show 1 ≤ d by omega) z
    omega
def SPoly : List D → List D → (D → List D → Prop) → Prop := fun cs ds W => ∃ (ns : List Int) (c : Nat), cs = drw ns c ∧ (∃ g : Int, ds = [.int g] ∧ 1 ≤ g ∧ g ≤ 30) ∧ c ≤ 900000 ∧ ∀ (c' : Nat) (a b e : Int), c' ≤ c + 8 → Sb a → Sb b → Sb e → Wh a b e → W (tup3 a b e) (drw ns c')
theorem fPoly {M : Md} {f : Addr} {fd : FuncData} (mr : M.mg "range" = none) (mx : M.mg "max" = none) (mt : M.mg "tuple" = none) (FX : FnM M 3 "_law_next" 1 SNext) (FC : FnD M 1 "_law_common" 2 SCommon)
    (F : Fun M.K "_law_poly" "_law_poly" sLPoly f fd) (hm : M.mg "_law_poly" = some (.ref f)) (b : L2.Binds M.K fd ["draw", "big"] []) : FnM M 4 "_law_poly" 1 SPoly := by
  refine fnM_mk (k := 3) (NK := nkLPoly) (G := gLPoly) F scLPoly hm b rfl (by decide +kernel) rfl (by decide) fun X C p cs ds W hl hS => ?_
  obtain ⟨ns, c, rfl, ⟨gg, rfl, gl, gh⟩, hc, w⟩ := hS
  show VSs X _ [.own p (drw ns c), .dat (.int gg), .no, .no, .no, .no, .no, .no, .no, .no, .no, .no] _
  -- behind the three numbers
  have tail : ∀ (c' : Nat) (a b e : Int) (q : Addr) (s2 s4 s5 s6 s7 s8 s10 s11 : Sl), c' ≤ c + 8 → Sb a → Sb b → Sb e → VSs X ((defBody sLPoly).drop 5) [.own p (drw ns c'), .dat (.int gg), s2, .own q (.l [.int a, .int b, .int e]), s4, s5, s6, s7, s8, .no, s10, s11]
      { nx := fun ρ' => ∃ cs', ρ'[0]? = some (.own p cs') ∧ W .none cs', rt := fun d ρ' => ∃ cs', ρ'[0]? = some (.own p cs') ∧ W d cs' } := fun c' a b e q s2 s4 s5 s6 s7 s8 s10 s11 hc' ha hb he => by
    refine vss_frz (i := 3) rfl ?_
    show VSs X _ [.own p (drw ns c'), .dat (.int gg), s2, .dat (.list [.int a, .int b, .int e]), s4, s5, s6, s7, s8, .no, s10, s11] _
    have l190 : ∀ {n : Int}, Sb n → n.natAbs < 2 ^ 190 := fun h => Nat.lt_of_le_of_lt h (by decide +kernel)
    walk_at "v"
    walk_at "v"
    refine vd_callB C (does_max C) (by walk_at "at") ?_
    walk_at "v"
    refine vn_vd (vn_lst ?_)
    walk_at "v"
    walk_at "v"
    walk_at "v"
    refine vd_call C FC (by walk_at "at") ?_
    walk_at "v"
    refine vd_call C FC (by walk_at "at") ?_
    walk_at "vv"
    refine ⟨_, rfl, ?_⟩
    walk_at "vv"
    refine ⟨_, rfl, ?_⟩
    walk_at "vv"
    refine ⟨rfl, a, b, rfl, l190 ha, l190 hb, ?_⟩
    walk_at "vv"
    refine ⟨_, rfl, ?_⟩
    walk_at "vv"
    have hg1 : Nat.gcd a.natAbs b.natAbs < 2 ^ 190 := by
      by_cases z : b.natAbs = 0
      · rw [z, Nat.gcd_zero_right]
        exact l190 ha
      · exact Nat.lt_of_le_of_lt (Nat.le_of_dvd (Nat.pos_of_ne_zero z) (Nat.gcd_dvd_right _ _)) (l190 hb)
    refine ⟨rfl, _, e, rfl, by rw [Int.natAbs_natCast]; exact hg1, l190 he, ?_⟩
    rw [Int.natAbs_natCast]
    walk_at "vv"
    refine ⟨by show 2 ≤ 1000; decide, ?_⟩
    walk_at "vv"
    refine ⟨[1, (g3 a b e : Int)], rfl, by show 0 < 2; decide, fun m m1 m2 => ?_⟩
    have em : m = byOf a b e := by
      have x1 := m2 1 (by simp)
      have x2 := m2 (g3 a b e : Int) (by simp)
      unfold byOf
      simp only [List.mem_cons, List.not_mem_nil, or_false] at m1
      split <;> omega
    subst em
    have bp := byOf_pos a b e
    have bl : (byOf a b e).natAbs < 2 ^ 1000 := by
      have : g3 a b e < 2 ^ 190 := by
        unfold g3
        by_cases z : e.natAbs = 0
        · rw [z, Nat.gcd_zero_right]
          exact hg1
        · exact Nat.lt_of_le_of_lt (Nat.le_of_dvd (Nat.pos_of_ne_zero z) (Nat.gcd_dvd_right _ _)) (l190 he)
      have h2 : (2 : Nat) ^ 190 < 2 ^ 1000 := by decide +kernel
      unfold byOf
      split
      · exact by decide +kernel
      · rw [Int.natAbs_natCast]
        exact Nat.lt_trans this h2
    have W1 := w c' (a / byOf a b e) (b / byOf a b e) (e / byOf a b e) hc' (divLe bp ha) (divLe bp hb) (divLe bp he) (by_wh a b e)
    refine vss_one (vs_ret ?_)
    refine vd_tupleN C (by walk_at "at") ?_
    refine vn_lc C nkLPoly1 gLPoly1 (i := 11) (by walk_at "at") ?_
    refine vi_lst ?_
    walk_at "v"
    refine ⟨_, rfl, by show 3 ≤ 100000; decide, fun j acc ρ' => acc = ([a, b, e].take j).map (fun n => .int (n / byOf a b e)) ∧ ∃ s : Sl, ρ' = [.own p (drw ns c'), .dat (.int gg), s2, .dat (.list [.int a, .int b, .int e]), s4, s5, s6, s7, s8, .dat (.int (byOf a b e)), s10, s], ⟨rfl, _, rfl⟩, fun j d acc ρ' hj hW X' C' => ?_, fun acc ρ' hW => ?_⟩
    · obtain ⟨rfl, s, rfl⟩ := hW
      match j, hj with
      | 0, hj =>
        cases hj
        walk_at "vv"
        exact ⟨divW bp bl, rfl, _, rfl⟩
      | 1, hj =>
        cases hj
        walk_at "vv"
        exact ⟨divW bp bl, rfl, _, rfl⟩
      | 2, hj =>
        cases hj
        walk_at "vv"
        exact ⟨divW bp bl, rfl, _, rfl⟩
      | n + 3, hj => cases hj
    · obtain ⟨rfl, s, rfl⟩ := hW
      exact ⟨_, rfl, W1⟩
  walk_at "v"
  walk_at "v"
  refine vd_callO C FX (m := 0) (by walk_at "at") (by walk_at "at") rfl ?_
  walk_at "vv"
  refine ⟨rfl, _, rfl, ns, c, 6, rfl, rfl, by omega, by decide, fun r r0 r1 => ?_⟩
  show VSs X _ [.own p (drw ns (c + 1)), .dat (.int gg), .dat (.int r), .no, .no, .no, .no, .no, .no, .no, .no, .no] _
  refine vss_cons ?_
  refine vs_ownLc C nkLPoly0 gLPoly0 (i := 10) (m := 3) (by walk_at "at") (by walk_at "at") (by show 3 < 12; decide) ?_
  refine vi_range C (by walk_at "at") ?_
  walk_at "v"
  refine ⟨3, rfl, by decide, by decide, fun j acc ρ' => ∃ (fs : List Int) (c' : Nat) (s : Sl), acc = fs.map PyData.int ∧ fs.length = j ∧ (∀ f ∈ fs, f.natAbs ≤ 30) ∧ c' ≤ c + 1 + j ∧ ρ' = [.own p (drw ns c'), .dat (.int gg), .dat (.int r), .no, .no, .no, .no, .no, .no, .no, s, .no], ⟨[], c + 1, _, rfl, rfl, fun _ h => (nomatch h), by omega, rfl⟩, fun j d acc ρ' hj hW X' C' => ?_, fun acc ρ' hW q => ?_⟩
  · obtain ⟨fs, c', s, rfl, hfs, hgood, hc', rfl⟩ := hW
    have hj3 : j < 3 := by
      have := (List.getElem?_eq_some_iff.mp hj).1
      rw [List.length_map, List.length_range] at this
      exact this
    walk_at "v"
    refine vd_callO C' FX (m := 0) (by walk_at "at") (by walk_at "at") rfl ?_
    walk_at "vv"
    refine ⟨mulB (a := 10) (b := 10) (by decide) (by omega) (by decide) (by decide), ?_⟩
    walk_at "vv"
    refine ⟨rfl, _, rfl, ns, c', 2 * gg + 1, rfl, rfl, by omega, by omega, fun x x0 x1 => ?_⟩
    walk_at "vv"
    refine ⟨fs ++ [x - gg], c' + 1, _, by rw [List.map_append]; rfl, by rw [List.length_append, hfs]; rfl, fun g hg => ?_, by omega, rfl⟩
    rcases List.mem_append.mp hg with z | z
    · exact hgood g z
    · rw [List.mem_singleton.mp z]
      omega
  · obtain ⟨fs, c1, s, rfl, hfs, hgood, hc1, rfl⟩ := hW
    rw [List.length_map, List.length_range] at hfs hc1
    obtain ⟨f0, f1, f2, rfl⟩ : ∃ f0 f1 f2, fs = [f0, f1, f2] := by
      match fs, hfs with
      | [a, b, c], _ => exact ⟨a, b, c, rfl⟩
    have o0 : f0.natAbs ≤ 30 := hgood f0 (by simp)
    have o1 : f1.natAbs ≤ 30 := hgood f1 (by simp)
    have o2 : f2.natAbs ≤ 30 := hgood f2 (by simp)
    have b0 : Sb f0 := Nat.le_trans o0 (by decide)
    have b1 : Sb f1 := Nat.le_trans o1 (by decide)
    have b2 : Sb f2 := Nat.le_trans o2 (by decide)
    show VSs X _ [.own p (drw ns c1), .dat (.int gg), .dat (.int r), .own q (.l [.int f0, .int f1, .int f2]), .no, .no, .no, .no, .no, .no, s, .no] _
    walk_at "vv"
    refine ⟨fun h => ?_, fun h => ?_⟩
    · have h : r = 0 := of_decide_eq_true h
      refine vss_cons ?_
      refine vs_asg ?_
      walk_at "v"
      walk_at "v"
      walk_at "v"
      walk_at "v"
      refine vd_callO C FX (m := 0) (by walk_at "at") (by walk_at "at") rfl ?_
      walk_at "vv"
      refine ⟨rfl, _, rfl, ns, c1, 6, rfl, rfl, by omega, by decide, fun a a0 a1 => ?_⟩
      walk_at "v"
      walk_at "v"
      refine vd_callO C FX (m := 0) (by walk_at "at") (by walk_at "at") rfl ?_
      walk_at "vv"
      refine ⟨rfl, _, rfl, ns, c1 + 1, 9, rfl, rfl, by omega, by decide, fun b b0 b1 => ?_⟩
      walk_at "v"
      walk_at "v"
      walk_at "v"
      walk_at "v"
      refine vd_callO C FX (m := 0) (by walk_at "at") (by walk_at "at") rfl ?_
      walk_at "vv"
      refine ⟨rfl, _, rfl, ns, c1 + 1 + 1, 6, rfl, rfl, by omega, by decide, fun e e0 e1 => ?_⟩
      walk_at "v"
      walk_at "v"
      refine vd_callO C FX (m := 0) (by walk_at "at") (by walk_at "at") rfl ?_
      walk_at "vv"
      refine ⟨rfl, _, rfl, ns, c1 + 1 + 1 + 1, 9, rfl, rfl, by omega, by decide, fun g g0 g1 => ?_⟩
      walk_at "vv"
      refine ⟨by show 4 ≤ 1000; decide, ?_⟩
      refine vg_tup C ?_
      walk_at "v"
      walk_at "v"
      walk_at "v"
      walk_at "v"
      walk_at "v"
      walk_at "v"
      walk_at "v"
      walk_at "v"
      walk_at "v"
      show VSs X _ [.own p (drw ns (c1 + 1 + 1 + 1 + 1)), .dat (.int gg), .dat (.int r), .own q (.l [.int f0, .int f1, .int f2]), .dat (.int (1 + a)), .dat (.int (b - 2)), .dat (.int (1 + e)), .dat (.int (g - 2)), .no, .no, s, .no] _
      refine vss_one ?_
      have ha : (1 + a).natAbs ≤ 6 := by omega
      have hb : (b - 2).natAbs ≤ 6 := by omega
      have hnb : (-(b - 2)).natAbs ≤ 6 := by omega
      have he : (1 + e).natAbs ≤ 6 := by omega
      have hg : (g - 2).natAbs ≤ 6 := by omega
      have q6 : ∀ {i j : Int}, i.natAbs ≤ 6 → j.natAbs ≤ 6 → CMulW i j := fun h1 h2 => mulB (a := 10) (b := 10) (by omega) (by omega) (by decide) (by decide)
      refine vs_new C (i := 3) (by walk_at "at") (by show 3 < 12; decide) ?_
      refine vn_lst ?_
      walk_at "vv"
      refine ⟨q6 hb hg, ?_⟩
      walk_at "vv"
      refine ⟨_, rfl, ?_⟩
      walk_at "vv"
      refine ⟨q6 hnb he, ?_⟩
      walk_at "vv"
      refine ⟨q6 ha hg, ?_⟩
      walk_at "vv"
      refine ⟨q6 ha he, ?_⟩
      walk_at "vv"
      refine ⟨by show 3 ≤ 1000; decide, fun q2 => ?_⟩
      walk_at "vv"
      refine ⟨fun h1 => absurd (of_decide_eq_true h1) (by omega), fun _ => ?_⟩
      refine vss_nil ?_
      walk_at "vv"
      refine ⟨fun h1 => absurd (of_decide_eq_true h1) (by omega), fun _ => ?_⟩
      refine vss_nil ?_
      have m1 := mulLe hb hg
      have m2 := mulLe hnb he
      have m3 := mulLe ha hg
      have m4 := mulLe ha he
      exact tail _ _ _ _ _ _ _ _ _ _ _ _ _ (by omega) (by unfold Sb; omega) (by unfold Sb; omega) (by unfold Sb; omega)
    · have h : ¬ r = 0 := of_decide_eq_false h
      refine vss_nil ?_
      walk_at "vv"
      refine ⟨fun h1 => ?_, fun h1 => ?_⟩
      · have h1 : r = 1 := of_decide_eq_true h1
        refine vss_one ?_
        refine vs_put C (i := 3) (by walk_at "at") rfl ?_
        walk_at "vv"
        refine ⟨_, 2, _, rfl, rfl, rfl, ?_⟩
        walk_at "vv"
        refine ⟨fun h1 => absurd (of_decide_eq_true h1) (by omega), fun _ => ?_⟩
        refine vss_nil ?_
        exact tail _ _ _ _ _ _ _ _ _ _ _ _ _ (by omega) b0 b1 (by show (0 : Int).natAbs ≤ 72; decide)
      · have h1 : ¬ r = 1 := of_decide_eq_false h1
        refine vss_nil ?_
        walk_at "vv"
        refine ⟨fun h2 => ?_, fun h2 => ?_⟩
        · refine vss_cons ?_
          refine vs_par C (i := 6) (j := 8) (by walk_at "at") (by walk_at "at") (by decide) ?_ (by walk_at "sw")
          walk_at "v"
          walk_at "v"
          refine vd_callO C FX (m := 0) (by walk_at "at") (by walk_at "at") rfl ?_
          walk_at "vv"
          refine ⟨rfl, _, rfl, ns, c1, 9, rfl, rfl, by omega, by decide, fun a a0 a1 => ?_⟩
          walk_at "v"
          walk_at "v"
          refine vd_callO C FX (m := 0) (by walk_at "at") (by walk_at "at") rfl ?_
          walk_at "vv"
          refine ⟨rfl, _, rfl, ns, c1 + 1, 7, rfl, rfl, by omega, by decide, fun b b0 b1 => ?_⟩
          show VSs X _ [.own p (drw ns (c1 + 1 + 1)), .dat (.int gg), .dat (.int r), .own q (.l [.int f0, .int f1, .int f2]), .no, .no, .dat (.int (1 + a)), .no, .dat (.int (2 + b)), .no, s, .no] _
          have ha : (1 + a).natAbs ≤ 9 := by omega
          have hb : (2 + b).natAbs ≤ 8 := by omega
          refine vss_one ?_
          refine vs_new C (i := 3) (by walk_at "at") (by show 3 < 12; decide) ?_
          refine vn_lst ?_
          walk_at "v"
          walk_at "v"
          refine vd_callO C FX (m := 0) (by walk_at "at") (by walk_at "at") rfl ?_
          walk_at "vv"
          refine ⟨rfl, _, rfl, ns, c1 + 1 + 1, 4, rfl, rfl, by omega, by decide, fun e e0 e1 => ?_⟩
          walk_at "vv"
          refine ⟨_, rfl, ?_⟩
          walk_at "vv"
          refine ⟨mulB (a := 10) (b := 10) (by omega) (by omega) (by decide) (by decide), ?_⟩
          walk_at "vv"
          refine ⟨by show 3 ≤ 1000; decide, fun q2 => ?_⟩
          have m1 := mulLe ha hb
          exact tail _ _ _ _ _ _ _ _ _ _ _ _ _ (by omega) (by unfold Sb; omega) (by unfold Sb; omega) (by unfold Sb; omega)
        · refine vss_nil ?_
          exact tail _ _ _ _ _ _ _ _ _ _ _ _ _ (by omega) b0 b1 b2



open PySem PySem.Spec PyProof.Rows L2 Vc

/-! ### the mathematics of a root's place -/
theorem zpos {Z Y T : Int} (hT : 0 < T) (hY : 0 < Y) (hYb : Y ≤ 2 ^ 24 * T) (h : T * 2 ^ 90 ≤ Z * Y) : 2 ^ 60 ≤ Z := by
  rcases Int.lt_or_le Z (2 ^ 60) with z | z
  · exfalso
    rcases Int.lt_or_le 0 Z with p | p
    · have h1 := Int.mul_le_mul_of_nonneg_left hYb (show 0 ≤ Z by omega)
      have h2 := Int.mul_le_mul_of_nonneg_right (show Z ≤ 2 ^ 60 by omega) (show 0 ≤ 2 ^ 24 * T by omega)
      omega
    · have h1 := Int.mul_nonneg (show 0 ≤ -Z by omega) (show 0 ≤ Y by omega)
      have e : -Z * Y = -(Z * Y) := Int.neg_mul _ _
      omega
  · exact z
theorem absLe {i : Int} {n : Nat} (h : i.natAbs < n) : -(n : Int) ≤ i ∧ i ≤ n := by omega
theorem mul_abs {i j : Int} {a b : Int} (h1 : -a ≤ i) (h2 : i ≤ a) (h3 : -b ≤ j) (h4 : j ≤ b) : -(a * b) ≤ i * j ∧ i * j ≤ a * b := by
  have a0 : 0 ≤ a := by omega
  have b0 : 0 ≤ b := by omega
  have p1 := Int.mul_nonneg (show 0 ≤ a - i by omega) (show 0 ≤ b - j by omega)
  have p2 := Int.mul_nonneg (show 0 ≤ a + i by omega) (show 0 ≤ b + j by omega)
  have p3 := Int.mul_nonneg (show 0 ≤ a - i by omega) (show 0 ≤ b + j by omega)
  have p4 := Int.mul_nonneg (show 0 ≤ a + i by omega) (show 0 ≤ b - j by omega)
  have e1 : (a - i) * (b - j) = a * b - a * j - i * b + i * j := by grind
  have e2 : (a + i) * (b + j) = a * b + a * j + i * b + i * j := by grind
  have e3 : (a - i) * (b + j) = a * b + a * j - i * b - i * j := by grind
  have e4 : (a + i) * (b - j) = a * b - a * j + i * b - i * j := by grind
  omega
theorem sgn_pos {n : Int} (h : 0 < n) : sgn n = 1 := by
  unfold sgn
  rw [if_pos h]
theorem sgn_zero : sgn 0 = 0 := by decide
theorem sgn_neg {n : Int} (h : n < 0) : sgn n = -1 := by
  unfold sgn
  rw [if_neg (by omega), if_neg (by omega)]
theorem z_big {T f s X D E1 : Int} (hT : T = 2 ^ 91) (hX : 0 < X) (hX2 : X ≤ 2 ^ 9 * T) (hE : X * X - D * (T * T) = E1) (e1 : -(2 ^ 20 * T) ≤ E1) (e2 : E1 ≤ 2 ^ 20 * T)
    (hf : f.natAbs < 2 ^ 22) (hs : s.natAbs < 2 ^ 14) (hne : f * f ≠ s * s * D) :
    (surd f s D = 1 ∧ 2 ^ 60 ≤ T * f + X * s) ∨ (surd f s D = -1 ∧ T * f + X * s ≤ -2 ^ 60) := by
  have T0 : 0 < T := by omega
  obtain ⟨f1, f2⟩ := absLe hf
  obtain ⟨s1, s2⟩ := absLe hs
  have id : (T * f + X * s) * (T * f - X * s) = T * (T * (f * f - s * s * D)) - s * s * E1 := by rw [← hE]; grind
  have yb : -(2 ^ 24 * T) ≤ T * f - X * s ∧ T * f - X * s ≤ 2 ^ 24 * T := by
    have a := mul_abs (i := T) (j := f) (a := T) (b := 2 ^ 22) (by omega) (by omega) f1 f2
    have b := mul_abs (i := X) (j := s) (a := 2 ^ 9 * T) (b := 2 ^ 14) (by omega) (by omega) s1 s2
    omega
  have ss := mul_abs s1 s2 s1 s2
  have se := mul_abs (i := s * s) (j := E1) (a := 2 ^ 28) (b := 2 ^ 20 * T) (by omega) (by omega) e1 e2
  -- the product's size
  have big : (1 ≤ f * f - s * s * D ∧ T * 2 ^ 90 ≤ (T * f + X * s) * (T * f - X * s)) ∨ (f * f - s * s * D ≤ -1 ∧ T * 2 ^ 90 ≤ -((T * f + X * s) * (T * f - X * s))) := by
    rw [id]
    rcases Int.lt_or_le 0 (f * f - s * s * D) with g | g
    · left
      refine ⟨g, ?_⟩
      have h1 := Int.mul_le_mul_of_nonneg_left (show 1 ≤ f * f - s * s * D from g) (show 0 ≤ T by omega)
      have h2 := Int.mul_le_mul_of_nonneg_left h1 (show 0 ≤ T by omega)
      have h3 : T * (T * 1) = T * 2 ^ 91 := by rw [Int.mul_one]; conv => lhs; rhs; rw [hT]
      omega
    · right
      have g' : f * f - s * s * D ≤ -1 := by omega
      refine ⟨g', ?_⟩
      have h1 := Int.mul_le_mul_of_nonneg_left (show 1 ≤ -(f * f - s * s * D) by omega) (show 0 ≤ T by omega)
      have h2 := Int.mul_le_mul_of_nonneg_left h1 (show 0 ≤ T by omega)
      have h3 : T * (T * 1) = T * 2 ^ 91 := by rw [Int.mul_one]; conv => lhs; rhs; rw [hT]
      have h4 : T * (T * -(f * f - s * s * D)) = -(T * (T * (f * f - s * s * D))) := by grind
      omega
  have upN : ∀ {Z Y : Int}, -Z * -Y = Z * Y := fun {Z Y} => Int.neg_mul_neg Z Y
  rcases Int.lt_trichotomy f 0 with hf0 | hf0 | hf0
  · rcases Int.lt_or_le 0 s with hs0 | hs0
    · -- f below, s above 0
      have Yn : T * f - X * s < 0 := by
        have a := Int.mul_pos T0 (show 0 < -f by omega)
        have b := Int.mul_pos hX hs0
        have e : T * -f = -(T * f) := Int.mul_neg _ _
        omega
      unfold surd
      rw [sgn_neg hf0, sgn_pos hs0, if_neg (by decide)]
      rcases big with ⟨g, h⟩ | ⟨g, h⟩
      · right
        rw [if_pos (by omega)]
        refine ⟨rfl, ?_⟩
        have := zpos (Z := -(T * f + X * s)) (Y := -(T * f - X * s)) T0 (by omega) (by omega) (by rw [upN]; exact h)
        omega
      · left
        rw [if_neg (by omega)]
        refine ⟨rfl, ?_⟩
        exact zpos (Z := T * f + X * s) (Y := -(T * f - X * s)) T0 (by omega) (by omega) (by rw [Int.mul_neg]; exact h)
    · -- both not above 0
      have Zn : T * f + X * s < 0 := by
        have a := Int.mul_pos T0 (show 0 < -f by omega)
        have b := Int.mul_nonneg (show 0 ≤ X by omega) (show 0 ≤ -s by omega)
        have e : T * -f = -(T * f) := Int.mul_neg _ _
        have e' : X * -s = -(X * s) := Int.mul_neg _ _
        omega
      right
      refine ⟨?_, ?_⟩
      · unfold surd
        rw [sgn_neg hf0]
        have : 0 ≤ -1 * sgn s := by
          rcases Int.lt_or_le s 0 with q | q
          · rw [sgn_neg q]; decide
          · rw [show s = 0 by omega]; decide
        rw [if_pos this, if_neg (by decide)]
      · rcases Int.lt_trichotomy (T * f - X * s) 0 with y | y | y
        · rcases big with ⟨g, h⟩ | ⟨g, h⟩
          · have := zpos (Z := -(T * f + X * s)) (Y := -(T * f - X * s)) T0 (by omega) (by omega) (by rw [upN]; exact h)
            omega
          · have := zpos (Z := T * f + X * s) (Y := -(T * f - X * s)) T0 (by omega) (by omega) (by rw [Int.mul_neg]; exact h)
            omega
        · rw [y, Int.mul_zero] at big
          omega
        · rcases big with ⟨g, h⟩ | ⟨g, h⟩
          · have := zpos (Z := T * f + X * s) (Y := T * f - X * s) T0 (by omega) (by omega) h
            omega
          · have := zpos (Z := -(T * f + X * s)) (Y := T * f - X * s) T0 (by omega) (by omega) (by rw [Int.neg_mul]; exact h)
            omega
  · subst hf0
    have hs0 : s ≠ 0 := fun z => hne (by rw [z]; simp)
    have z1 : T * 0 + X * s = X * s := by rw [Int.mul_zero, Int.zero_add]
    have z2 : T * 0 - X * s = -(X * s) := by rw [Int.mul_zero, Int.zero_sub]
    rw [z1, z2] at big
    rw [z2] at yb
    rw [z1]
    unfold surd
    rw [sgn_zero, Int.zero_mul, if_pos (by decide), if_pos rfl]
    rcases Int.lt_or_le 0 s with q | q
    · left
      rw [sgn_pos q]
      refine ⟨rfl, ?_⟩
      have b := Int.mul_pos hX q
      rcases big with ⟨g, h⟩ | ⟨g, h⟩
      · have := Int.mul_pos b b
        rw [Int.mul_neg] at h
        omega
      · exact zpos (Z := X * s) (Y := X * s) T0 b (by omega) (by rw [Int.mul_neg, Int.neg_neg] at h; exact h)
    · right
      have q : s < 0 := by omega
      rw [sgn_neg q]
      refine ⟨rfl, ?_⟩
      have b := Int.mul_pos hX (show 0 < -s by omega)
      have e : X * -s = -(X * s) := Int.mul_neg _ _
      rw [e] at b
      rcases big with ⟨g, h⟩ | ⟨g, h⟩
      · have := Int.mul_pos b b
        rw [upN] at this
        rw [Int.mul_neg] at h
        omega
      · have := zpos (Z := -(X * s)) (Y := -(X * s)) T0 b (by omega) (by rw [Int.mul_neg, Int.neg_neg] at h; rw [upN]; exact h)
        omega
  · rcases Int.lt_or_le s 0 with hs0 | hs0
    · have Yp : 0 < T * f - X * s := by
        have a := Int.mul_pos T0 hf0
        have b := Int.mul_pos hX (show 0 < -s by omega)
        have e : X * -s = -(X * s) := Int.mul_neg _ _
        omega
      unfold surd
      rw [sgn_pos hf0, sgn_neg hs0, if_neg (by decide)]
      rcases big with ⟨g, h⟩ | ⟨g, h⟩
      · left
        rw [if_pos (by omega)]
        exact ⟨rfl, zpos (Z := T * f + X * s) (Y := T * f - X * s) T0 Yp (by omega) h⟩
      · right
        rw [if_neg (by omega)]
        refine ⟨rfl, ?_⟩
        have := zpos (Z := -(T * f + X * s)) (Y := T * f - X * s) T0 Yp (by omega) (by rw [Int.neg_mul]; exact h)
        omega
    · have Zp : 0 < T * f + X * s := by
        have a := Int.mul_pos T0 hf0
        have b := Int.mul_nonneg (show 0 ≤ X by omega) hs0
        omega
      left
      refine ⟨?_, ?_⟩
      · unfold surd
        rw [sgn_pos hf0]
        have : 0 ≤ 1 * sgn s := by
          rcases Int.lt_or_le 0 s with q | q
          · rw [sgn_pos q]; decide
          · rw [show s = 0 by omega]; decide
        rw [if_pos this, if_neg (by decide)]
      · rcases Int.lt_trichotomy (T * f - X * s) 0 with y | y | y
        · rcases big with ⟨g, h⟩ | ⟨g, h⟩
          · have := zpos (Z := -(T * f + X * s)) (Y := -(T * f - X * s)) T0 (by omega) (by omega) (by rw [upN]; exact h)
            omega
          · exact zpos (Z := T * f + X * s) (Y := -(T * f - X * s)) T0 (by omega) (by omega) (by rw [Int.mul_neg]; exact h)
        · rw [y, Int.mul_zero] at big
          omega
        · rcases big with ⟨g, h⟩ | ⟨g, h⟩
          · exact zpos (Z := T * f + X * s) (Y := T * f - X * s) T0 (by omega) (by omega) h
          · have := zpos (Z := -(T * f + X * s)) (Y := T * f - X * s) T0 (by omega) (by omega) (by rw [Int.neg_mul]; exact h)
            omega
theorem q_sign {T f s X D E1 c2 L m : Int} (hT : T = 2 ^ 91) (hX : 0 < X) (hX2 : X ≤ 2 ^ 9 * T) (hE : X * X - D * (T * T) = E1) (e1 : -(2 ^ 20 * T) ≤ E1) (e2 : E1 ≤ 2 ^ 20 * T)
    (hf : f.natAbs < 2 ^ 22) (hs : s.natAbs < 2 ^ 14) (hne : f * f ≠ s * s * D) (hc : c2.natAbs < 2 ^ 10) (hm : 0 < m) (hq : m * L = 2 * (T * (T * f + X * s)) + c2 * E1) : sgn L = surd f s D := by
  have T0 : 0 < T := by omega
  obtain ⟨c1', c2'⟩ := absLe hc
  have ce := mul_abs c1' c2' e1 e2
  rcases z_big hT hX hX2 hE e1 e2 hf hs hne with ⟨q, z⟩ | ⟨q, z⟩
  · rw [q]
    have h1 := Int.mul_le_mul_of_nonneg_left z (show 0 ≤ T by omega)
    refine sgn_pos ?_
    rcases Int.lt_or_le 0 L with l | l
    · exact l
    · have := Int.mul_nonneg (show 0 ≤ m by omega) (show 0 ≤ -L by omega)
      rw [Int.mul_neg] at this
      omega
  · rw [q]
    have h1 := Int.mul_le_mul_of_nonneg_left z (show 0 ≤ T by omega)
    refine sgn_neg ?_
    rcases Int.lt_or_le L 0 with l | l
    · exact l
    · have := Int.mul_nonneg (show 0 ≤ m by omega) l
      omega


/-! ### a root between two numbers over 2 ^ 90 -/
def vtx (b1 b2 m : Int) : Int := 2 * b2 * m + b1 * 2 ^ 90
def eOf (b0 b1 b2 : Int) : Int := dsc b0 b1 b2 * (2 ^ 90 * 2 ^ 90)
/-- a number is above the root (0: the lower one) -/
def Abv (w v e : Int) : Prop := if w = 0 then 0 < v ∨ v * v < e else 0 < v ∧ e ≤ v * v
def farOf (b0 b1 : Int) : Int := ((b0.natAbs : Int) + (b1.natAbs : Int) + 1) * 2 ^ 90
structure Spn (b0 b1 b2 w : Int) (i : Nat) (low high : Int) : Prop where
  lh : low < high
  lo : ¬ Abv w (vtx b1 b2 low) (eOf b0 b1 b2)
  hi : Abv w (vtx b1 b2 high) (eOf b0 b1 b2)
  gap : (high - low - 1) * 2 ^ i ≤ 2 * farOf b0 b1
  lb : -farOf b0 b1 ≤ low
  hb : high ≤ farOf b0 b1
/-- a polynomial whose roots are told as roots -/
structure Irr (b0 b1 b2 : Int) : Prop where
  s0 : Sb b0
  s1 : Sb b1
  s2 : Sb b2
  p2 : 0 < b2
  pd : 0 < dsc b0 b1 b2
  ns : ¬ ((isq (dsc b0 b1 b2) : Nat) : Int) * ((isq (dsc b0 b1 b2) : Nat) : Int) = dsc b0 b1 b2
theorem far_y {b0 b1 b2 A y : Int} (hb : 0 < b2) (hA : A = (b0.natAbs : Int) + (b1.natAbs : Int) + 1) (hy : y = 2 * b2 * A + b1 ∨ y = 2 * b2 * A - b1) : 0 < y ∧ dsc b0 b1 b2 ≤ y * y := by
  have A1 : 1 ≤ A := by omega
  have h1 := Int.mul_le_mul_of_nonneg_right (show 1 ≤ b2 from hb) (show 0 ≤ A by omega)
  rw [Int.one_mul] at h1
  have e2 : 2 * b2 * A = 2 * (b2 * A) := Int.mul_assoc _ _ _
  have key : ∀ z : Int, z = b1 ∨ z = -b1 → 0 ≤ A * (b2 * A + z) + b0 := fun z hz => by
    have h2 : 1 ≤ b2 * A + z := by omega
    have h3 := Int.mul_le_mul_of_nonneg_left h2 (show 0 ≤ A by omega)
    omega
  rcases hy with rfl | rfl
  · refine ⟨by omega, ?_⟩
    have k := Int.mul_nonneg (show 0 ≤ 4 * b2 by omega) (key b1 (.inl rfl))
    have e : (2 * b2 * A + b1) * (2 * b2 * A + b1) - dsc b0 b1 b2 = 4 * b2 * (A * (b2 * A + b1) + b0) := by unfold dsc; grind
    omega
  · refine ⟨by omega, ?_⟩
    have k := Int.mul_nonneg (show 0 ≤ 4 * b2 by omega) (key (-b1) (.inr rfl))
    have e : (2 * b2 * A - b1) * (2 * b2 * A - b1) - dsc b0 b1 b2 = 4 * b2 * (A * (b2 * A + -b1) + b0) := by unfold dsc; grind
    omega
theorem e_le {D y v t : Int} (h : D ≤ y * y) (hv : v = t * y ∨ v = -(t * y)) : D * (t * t) ≤ v * v := by
  have h1 := Int.mul_le_mul_of_nonneg_right h (show 0 ≤ t * t from by
    rcases Int.lt_or_le t 0 with q | q
    · exact Int.le_of_lt (Int.mul_pos_of_neg_of_neg q q)
    · exact Int.mul_nonneg q q)
  rcases hv with rfl | rfl
  · have e : t * y * (t * y) = y * y * (t * t) := by grind
    rw [e]
    exact h1
  · have e : -(t * y) * -(t * y) = y * y * (t * t) := by grind
    rw [e]
    exact h1
theorem spn_start {b0 b1 b2 w : Int} (h : 0 < b2) : Spn b0 b1 b2 w 0 (-farOf b0 b1) (farOf b0 b1) := by
  have u := far_y (b0 := b0) (b1 := b1) (A := (b0.natAbs : Int) + (b1.natAbs : Int) + 1) h rfl (.inl rfl)
  have l := far_y (b0 := b0) (b1 := b1) (A := (b0.natAbs : Int) + (b1.natAbs : Int) + 1) h rfl (.inr rfl)
  have ev : vtx b1 b2 (farOf b0 b1) = 2 ^ 90 * (2 * b2 * ((b0.natAbs : Int) + (b1.natAbs : Int) + 1) + b1) := by unfold vtx farOf; grind
  have el : vtx b1 b2 (-farOf b0 b1) = -(2 ^ 90 * (2 * b2 * ((b0.natAbs : Int) + (b1.natAbs : Int) + 1) - b1)) := by unfold vtx farOf; grind
  have up := e_le (t := 2 ^ 90) u.2 (.inl ev)
  have lp := e_le (t := 2 ^ 90) l.2 (.inr el)
  have fp : 0 < farOf b0 b1 := by unfold farOf; omega
  have uv : 0 < vtx b1 b2 (farOf b0 b1) := by omega
  have lv : vtx b1 b2 (-farOf b0 b1) < 0 := by omega
  refine ⟨by omega, ?_, ?_, by omega, by omega, by omega⟩
  · unfold Abv eOf
    split <;> omega
  · unfold Abv eOf
    split
    · exact .inl uv
    · exact ⟨uv, up⟩
theorem spn_step {b0 b1 b2 w : Int} {i : Nat} {low high : Int} (h : Spn b0 b1 b2 w i low high) :
    (Abv w (vtx b1 b2 ((low + high) / 2)) (eOf b0 b1 b2) → Spn b0 b1 b2 w (i + 1) low ((low + high) / 2)) ∧ (¬ Abv w (vtx b1 b2 ((low + high) / 2)) (eOf b0 b1 b2) → Spn b0 b1 b2 w (i + 1) ((low + high) / 2) high) := by
  have h1 := h.lh
  have hl := h.lb
  have hh := h.hb
  refine ⟨fun z => ⟨?_, h.lo, z, ?_, by omega, by omega⟩, fun z => ⟨by omega, z, h.hi, ?_, by omega, by omega⟩⟩
  · by_cases e : (low + high) / 2 = low
    · rw [e] at z
      exact absurd z h.lo
    · omega
  · rw [pow_succI]
    exact half_gap (pow_posI i) (by omega) h.gap
  · rw [pow_succI]
    exact half_gap (pow_posI i) (by omega) h.gap
theorem far_small {b0 b1 : Int} (h0 : Sb b0) (h1 : Sb b1) : 0 < farOf b0 b1 ∧ farOf b0 b1 < 2 ^ 98 := by
  unfold Sb at h0 h1
  unfold farOf
  omega
theorem spn_end {b0 b1 b2 w low high : Int} (I : Irr b0 b1 b2) (h : Spn b0 b1 b2 w 130 low high) : high = low + 1 := by
  have h1 := h.lh
  have hg := h.gap
  have hf := far_small I.s0 I.s1
  rcases Int.lt_or_le (low + 1) high with z | z
  · have := Int.mul_le_mul_of_nonneg_right (show (1 : Int) ≤ high - low - 1 by omega) (show (0 : Int) ≤ 2 ^ 130 by decide)
    omega
  · omega
theorem near {p k e : Int} (hp : 0 < p) (hk : 0 < k) (hk2 : k ≤ 144) (h1 : p * p < e) (h2 : e ≤ (p + k) * (p + k)) (he : e ≤ 2 ^ 196) :
    2 * p + k ≤ 2 ^ 100 ∧ -(2 ^ 111) ≤ (2 * p + k) * (2 * p + k) - 4 * e ∧ (2 * p + k) * (2 * p + k) - 4 * e ≤ 2 ^ 111 := by
  have hp2 : p < 2 ^ 98 := by
    rcases Int.lt_or_le p (2 ^ 98) with q | q
    · exact q
    · have a := Int.mul_le_mul_of_nonneg_left q (show 0 ≤ p by omega)
      have b := Int.mul_le_mul_of_nonneg_right q (show (0 : Int) ≤ 2 ^ 98 by decide)
      omega
  have a := Int.mul_le_mul_of_nonneg_left hk2 (show 0 ≤ p by omega)
  have b := Int.mul_le_mul_of_nonneg_left hk2 (show 0 ≤ k by omega)
  have c := Int.mul_nonneg (show 0 ≤ p by omega) (show 0 ≤ k by omega)
  have d := Int.mul_nonneg (show 0 ≤ k by omega) (show 0 ≤ k by omega)
  have e1 : (2 * p + k) * (2 * p + k) = 4 * (p * p) + 4 * (p * k) + k * k := by grind
  have e2 : (p + k) * (p + k) = p * p + 2 * (p * k) + k * k := by grind
  rw [e2] at h2
  rw [e1]
  omega
theorem dsc_b {b0 b1 b2 : Int} (h0 : Sb b0) (h1 : Sb b1) (h2 : Sb b2) : dsc b0 b1 b2 ≤ 2 ^ 15 := by
  unfold Sb at *
  have a := mulLe h1 h1
  have b := mulLe (mulLe (i := 4) (a := 4) (by decide) h0) h2
  unfold dsc
  omega
theorem spn_x {b0 b1 b2 w low high : Int} (I : Irr b0 b1 b2) (h : Spn b0 b1 b2 w 130 low high) :
    ∃ X V : Int, V = 2 * b2 * (low + high) + b1 * 2 ^ 91 ∧ (if w = 0 then X = -V else X = V) ∧ 0 < X ∧ X ≤ 2 ^ 100 ∧ -(2 ^ 111) ≤ X * X - dsc b0 b1 b2 * (2 ^ 91 * 2 ^ 91) ∧ X * X - dsc b0 b1 b2 * (2 ^ 91 * 2 ^ 91) ≤ 2 ^ 111 := by
  have e := spn_end I h
  subst e
  have hd := dsc_b I.s0 I.s1 I.s2
  have pd := I.pd
  have p2 := I.p2
  have s2 : b2.natAbs ≤ 72 := I.s2
  have e4 : dsc b0 b1 b2 * (2 ^ 91 * 2 ^ 91) = 4 * eOf b0 b1 b2 := by unfold eOf; omega
  have eb : eOf b0 b1 b2 ≤ 2 ^ 196 := by unfold eOf; omega
  have es : 2 ^ 180 ≤ eOf b0 b1 b2 := by unfold eOf; omega
  have vh : vtx b1 b2 (low + 1) = vtx b1 b2 low + 2 * b2 := by unfold vtx; grind
  have lo := h.lo
  have hi := h.hi
  rw [vh] at hi
  have eV : 2 * b2 * (low + (low + 1)) + b1 * 2 ^ 91 = 2 * vtx b1 b2 low + 2 * b2 := by unfold vtx; grind
  rw [eV, e4]
  generalize vtx b1 b2 low = p at *
  generalize eOf b0 b1 b2 = E at *
  have small : ∀ x : Int, 0 ≤ x → x ≤ 144 → ¬ E ≤ x * x := fun x x0 x1 q => by
    have a := Int.mul_le_mul_of_nonneg_left x1 x0
    omega
  by_cases hw : w = 0
  · unfold Abv at lo hi
    rw [if_pos hw] at lo hi
    have hp : p ≤ 0 := by omega
    have hE : E ≤ p * p := by omega
    have hn : p + 2 * b2 ≤ 0 := by
      rcases Int.lt_or_le 0 (p + 2 * b2) with q | q
      · exact absurd (by rw [Int.neg_mul_neg]; exact hE) (small (-p) (by omega) (by omega))
      · exact q
    have h3 : (p + 2 * b2) * (p + 2 * b2) < E := by
      rcases hi with q | q
      · omega
      · exact q
    have hp0 : 0 < -(p + 2 * b2) := by
      rcases Int.lt_or_le 0 (-(p + 2 * b2)) with q | q
      · exact q
      · exact absurd (by rw [Int.neg_mul_neg]; exact hE) (small (-p) (by omega) (by omega))
    have ep : -(p + 2 * b2) + 2 * b2 = -p := by omega
    have n := near (p := -(p + 2 * b2)) (k := 2 * b2) (e := E) hp0 (by omega) (by omega) (by rw [Int.neg_mul_neg]; exact h3) (by rw [ep, Int.neg_mul_neg]; exact hE) eb
    have ex : 2 * -(p + 2 * b2) + 2 * b2 = -(2 * p + 2 * b2) := by omega
    rw [ex] at n
    exact ⟨-(2 * p + 2 * b2), 2 * p + 2 * b2, rfl, by rw [if_pos hw], by omega, n.1, n.2.1, n.2.2⟩
  · unfold Abv at lo hi
    rw [if_neg hw] at lo hi
    have hp : 0 < p := by
      rcases Int.lt_or_le 0 p with q | q
      · exact q
      · exact absurd hi.2 (small (p + 2 * b2) (by omega) (by omega))
    have hE : p * p < E := by
      rcases Int.lt_or_le (p * p) E with q | q
      · exact q
      · exact absurd ⟨hp, q⟩ lo
    have n := near (p := p) (k := 2 * b2) (e := E) hp (by omega) (by omega) hE hi.2 eb
    exact ⟨2 * p + 2 * b2, 2 * p + 2 * b2, rfl, by rw [if_neg hw], by omega, n.1, n.2.1, n.2.2⟩
theorem sq_zero {f s d : Int} (h : f * f = s * s * d) (ns : ¬ ((isq d : Nat) : Int) * ((isq d : Nat) : Int) = d) (hd : 0 < d) : s = 0 ∧ f = 0 := by
  by_cases hs : s = 0
  · subst hs
    refine ⟨rfl, ?_⟩
    have : f * f = 0 := by rw [h]; simp
    exact (Int.mul_eq_zero.mp this).elim id id
  · exfalso
    have h1 : f.natAbs ^ 2 = s.natAbs ^ 2 * d.natAbs := by
      have := congrArg Int.natAbs h
      rw [Int.natAbs_mul, Int.natAbs_mul, Int.natAbs_mul] at this
      rw [Nat.pow_two, Nat.pow_two]
      exact this
    have h2 : s.natAbs ∣ f.natAbs := (Nat.pow_dvd_pow_iff (by decide)).mp ⟨d.natAbs, h1⟩
    obtain ⟨m, hm⟩ := h2
    have h3 : s.natAbs ^ 2 * (m * m) = s.natAbs ^ 2 * d.natAbs := by
      rw [← h1, hm, Nat.mul_pow, Nat.pow_two m]
    have h4 : m * m = d.natAbs := Nat.eq_of_mul_eq_mul_left (Nat.pow_pos (by omega)) h3
    have r : IsRoot d.natAbs m := by
      refine ⟨by omega, ?_⟩
      rw [← h4]
      exact Nat.mul_lt_mul'' (by omega) (by omega)
    have e := r.uniq (isqrt_root d.natAbs)
    have e2 : isq d = m := e.symm
    rw [e2] at ns
    apply ns
    have : ((m * m : Nat) : Int) = d := by omega
    rw [← this, Int.natCast_mul]
/-- the two tell the same numbers, but for a factor -/
def Prop3 (c0 c1 c2 b0 b1 b2 : Int) : Prop := c0 * b1 = c1 * b0 ∧ c0 * b2 = c2 * b0 ∧ c1 * b2 = c2 * b1
theorem lat_id (c0 c1 c2 b0 b1 b2 u T V : Int) (hV : V = 2 * b2 * u + b1 * T) :
    4 * b2 * b2 * latv c0 c1 c2 u T = 2 * (T * (T * (2 * b2 * (c0 * b2 - c2 * b0) - b1 * (c1 * b2 - c2 * b1)) + V * (c1 * b2 - c2 * b1))) + c2 * (V * V - dsc b0 b1 b2 * (T * T)) := by
  subst hV
  unfold latv dsc
  grind
theorem son_zero {c0 c1 c2 b0 b1 b2 w : Int} (h : Prop3 c0 c1 c2 b0 b1 b2) : sonR c0 c1 c2 b0 b1 b2 w = 0 := by
  obtain ⟨h1, h2, h3⟩ := h
  unfold sonR
  rw [h2, h3, Int.sub_self, Int.sub_self, Int.mul_zero, Int.mul_zero, Int.sub_self, Int.neg_zero, ite_self]
  unfold surd
  rw [sgn_zero]
  rfl
theorem son_sign {c0 c1 c2 b0 b1 b2 w low high : Int} (I : Irr b0 b1 b2) (h : Spn b0 b1 b2 w 130 low high) (k0 : Sb c0) (k1 : Sb c1) (k2 : Sb c2) (np : ¬ Prop3 c0 c1 c2 b0 b1 b2) :
    sgn (latv c0 c1 c2 (low + high) (2 ^ 91)) = sonR c0 c1 c2 b0 b1 b2 w := by
  obtain ⟨X, V, hV, hX, x0, x1, e1, e2⟩ := spn_x I h
  have id := lat_id c0 c1 c2 b0 b1 b2 (low + high) (2 ^ 91) V hV
  have p2 := I.p2
  have ne : ∀ s : Int, s = c1 * b2 - c2 * b1 ∨ s = -(c1 * b2 - c2 * b1) → (2 * b2 * (c0 * b2 - c2 * b0) - b1 * (c1 * b2 - c2 * b1)) * (2 * b2 * (c0 * b2 - c2 * b0) - b1 * (c1 * b2 - c2 * b1)) ≠ s * s * dsc b0 b1 b2 := fun s hs q => by
    obtain ⟨z1, z2⟩ := sq_zero q I.ns I.pd
    have s0 : c1 * b2 - c2 * b1 = 0 := by omega
    rw [s0, Int.mul_zero, Int.sub_zero] at z2
    have z3 : c0 * b2 - c2 * b0 = 0 := (Int.mul_eq_zero.mp z2).elim (fun q => absurd q (by omega)) (fun q => q)
    apply np
    refine ⟨?_, by omega, by omega⟩
    have e : b2 * (c0 * b1 - c1 * b0) = b1 * (c0 * b2 - c2 * b0) - b0 * (c1 * b2 - c2 * b1) := by grind
    rw [z3, s0, Int.mul_zero, Int.mul_zero, Int.sub_self] at e
    have := (Int.mul_eq_zero.mp e).elim (fun q => absurd q (by omega)) (fun q => q)
    omega
  have bs : (c1 * b2 - c2 * b1).natAbs < 2 ^ 14 := by
    have a := mulLe k1 I.s2
    have b := mulLe k2 I.s1
    omega
  have bf : (2 * b2 * (c0 * b2 - c2 * b0) - b1 * (c1 * b2 - c2 * b1)).natAbs < 2 ^ 22 := by
    have a := mulLe k0 I.s2
    have b := mulLe k2 I.s0
    have c := mulLe (i := 2 * b2) (j := c0 * b2 - c2 * b0) (a := 144) (b := 10368) (by have := I.s2; unfold Sb at this; omega) (by omega)
    have a2 := mulLe k1 I.s2
    have b2' := mulLe k2 I.s1
    have d := mulLe (i := b1) (j := c1 * b2 - c2 * b1) (a := 72) (b := 10368) I.s1 (by omega)
    omega
  have hm : 0 < 4 * b2 * b2 := Int.mul_pos (by omega) p2
  unfold sonR
  by_cases hw : w = 0
  · rw [if_pos hw] at hX ⊢
    have ex : X * X = V * V := by rw [hX, Int.neg_mul_neg]
    refine q_sign (T := 2 ^ 91) (X := X) (m := 4 * b2 * b2) (c2 := c2) (E1 := X * X - dsc b0 b1 b2 * (2 ^ 91 * 2 ^ 91)) rfl x0 (by omega) rfl (by omega) (by omega) bf (by rw [Int.natAbs_neg]; exact bs) (ne _ (.inr rfl)) k2.sm hm ?_
    rw [id, ex]
    have : X * -(c1 * b2 - c2 * b1) = V * (c1 * b2 - c2 * b1) := by rw [hX, Int.neg_mul_neg]
    rw [this]
  · rw [if_neg hw] at hX ⊢
    subst hX
    exact q_sign (T := 2 ^ 91) (X := X) (m := 4 * b2 * b2) (c2 := c2) (E1 := X * X - dsc b0 b1 b2 * (2 ^ 91 * 2 ^ 91)) rfl x0 (by omega) rfl (by omega) (by omega) bf bs (ne _ (.inl rfl)) k2.sm hm id
/-- what the law's test tells of a number -/
theorem abv_test {b0 b1 b2 m : Int} (hb : 0 < b2) : latv b0 b1 b2 m (2 ^ 90) < 0 ↔ vtx b1 b2 m * vtx b1 b2 m < eOf b0 b1 b2 := by
  have e : 4 * b2 * latv b0 b1 b2 m (2 ^ 90) = vtx b1 b2 m * vtx b1 b2 m - eOf b0 b1 b2 := by unfold latv vtx eOf dsc; grind
  refine ⟨fun h => ?_, fun h => ?_⟩
  · have := Int.mul_pos (show 0 < 4 * b2 by omega) (show 0 < -latv b0 b1 b2 m (2 ^ 90) by omega)
    rw [Int.mul_neg] at this
    omega
  · rcases Int.lt_or_le (latv b0 b1 b2 m (2 ^ 90)) 0 with q | q
    · exact q
    · have := Int.mul_nonneg (show 0 ≤ 4 * b2 by omega) q
      omega


open PySem PySem.Spec PyProof.Rows L2 Vc

/-! ### _law_span, of a root -/
theorem sgn_lt (n : Int) : sgn n < 0 ↔ n < 0 := by
  unfold sgn
  split
  · omega
  · split <;> omega
theorem cp1 {j : Int} (h0 : 0 ≤ j) (h1 : j ≤ 1000000) : CPow 1 j := ⟨h0, h1, by decide⟩
theorem spn_small {b0 b1 b2 w : Int} {i : Nat} {low high : Int} (I : Irr b0 b1 b2) (h : Spn b0 b1 b2 w i low high) : low.natAbs < 2 ^ 99 ∧ high.natAbs < 2 ^ 99 ∧ ((low + high) / 2).natAbs < 2 ^ 99 := by
  have f := far_small I.s0 I.s1
  have h1 := h.lh
  have h2 := h.lb
  have h3 := h.hb
  omega
def SSpan : List D → (D → Prop) → Prop := fun ds W => (∃ n d : Int, ds = [.tuple [.int n, .int d]] ∧ n.natAbs < 2 ^ 200 ∧ d.natAbs < 2 ^ 200 ∧ 0 < d ∧ W (.tuple [.int (n * 2 ^ 90 / d), .int (n * 2 ^ 90 / d + 1)])) ∨
  (∃ b0 b1 b2 w : Int, ds = [rootD (tup3 b0 b1 b2) w] ∧ (w = 0 ∨ w = 1) ∧ Irr b0 b1 b2 ∧ ∀ low high : Int, Spn b0 b1 b2 w 130 low high → W (.tuple [.int low, .int high]))
theorem fSpan {M : Md} {f : Addr} {fd : FuncData} (ma : M.mg "abs" = none) (mr : M.mg "range" = none) (FA : FnD M 2 "_law_at" 3 SAt)
    (F : Fun M.K "_law_span" "_law_span" sLSpan f fd) (hm : M.mg "_law_span" = some (.ref f)) (b : L2.Binds M.K fd ["place"] []) : FnD M 3 "_law_span" 1 SSpan := by
  refine fnD_mk (k := 2) (NK := nkLSpan) (G := gLSpan) F scLSpan hm b rfl (by decide +kernel) rfl (by decide) fun X C ds W hl hS => ?_
  rcases hS with ⟨n, d, rfl, hn, hd, d0, w⟩ | ⟨b0, b1, b2, wh, rfl, hw, I, w⟩
  · show VSs X _ [.dat (.tuple [.int n, .int d]), .no, .no, .no, .no, .no, .no, .no, .no, .no, .no] _
    have t90 : (1 : Int) * 2 ^ (90 : Int).toNat = 2 ^ 90 := rfl
    walk_at "vv"
    refine ⟨_, rfl, ?_⟩
    walk_at "vv"
    refine ⟨rfl, shRoot, ?_⟩
    refine ⟨fun _ => ?_, fun h => absurd h (by show ¬ (true = false); decide)⟩
    walk_at "vv"
    refine ⟨_, rfl, ?_⟩
    walk_at "vv"
    refine ⟨cp1 (by decide) (by decide), ?_⟩
    rw [t90]
    refine ⟨mulB (a := 200) (b := 100) hn (by decide) (by decide) (by decide), ?_⟩
    walk_at "vv"
    refine ⟨_, rfl, ?_⟩
    refine ⟨divW d0 (Nat.lt_trans hd (by decide +kernel)), ?_⟩
    walk_at "vv"
    exact ⟨by show 2 ≤ 1000; decide, w⟩
  show VSs X _ [.dat (rootD (tup3 b0 b1 b2) wh), .no, .no, .no, .no, .no, .no, .no, .no, .no, .no] _
  have t90 : (1 : Int) * 2 ^ (90 : Int).toNat = 2 ^ 90 := rfl
  have hs0 : b0.natAbs ≤ 72 := I.s0
  have hs1 : b1.natAbs ≤ 72 := I.s1
  have hs2 : b2.natAbs ≤ 72 := I.s2
  walk_at "vv"
  refine ⟨_, rfl, ?_⟩
  walk_at "vv"
  refine ⟨shRoot, shRoot, ?_⟩
  refine ⟨fun h => absurd (h : (!PyData.eqv (.str "root") (.str "root")) = true) (by rw [eqRoot]; decide), fun _ => ?_⟩
  refine vss_nil ?_
  walk_at "v"
  refine vs_asg ?_
  walk_at "v"
  refine vg_tup C ?_
  walk_at "vv"
  refine ⟨_, rfl, ?_⟩
  walk_at "vv"
  refine ⟨_, rfl, ?_⟩
  walk_at "vv"
  refine ⟨_, rfl, ?_⟩
  walk_at "vv"
  refine ⟨_, rfl, ?_⟩
  rw [abs_eq, abs_eq]
  walk_at "vv"
  refine ⟨cp1 (by decide) (by decide), ?_⟩
  rw [t90]
  refine ⟨mulB (a := 10) (b := 100) (by omega) (by decide) (by decide) (by decide), ?_⟩
  show VSs X _ [.dat (rootD (tup3 b0 b1 b2) wh), .no, .dat (.str "root"), .dat (tup3 b0 b1 b2), .dat (.int wh), .dat (.int (farOf b0 b1)), .no, .no, .no, .no, .no] _
  walk_at "v"
  refine vs_par C (i := 1) (j := 6) (by walk_at "at") (by walk_at "at") (by decide) ?_ (by walk_at "sw")
  walk_at "vv"
  refine ⟨_, rfl, ?_⟩
  walk_at "vv"
  refine vs_for C (vi_range C (by walk_at "at") ?_)
  walk_at "vv"
  refine ⟨130, rfl, by decide, ?_⟩
  refine ⟨fun i ρ' => ∃ (low high : Int) (s7 s8 s9 s10 : Sl), ρ' = [.dat (rootD (tup3 b0 b1 b2) wh), .dat (.int low), .dat (.str "root"), .dat (tup3 b0 b1 b2), .dat (.int wh), .dat (.int (farOf b0 b1)), .dat (.int high), s7, s8, s9, s10] ∧ Spn b0 b1 b2 wh i low high, ⟨_, _, _, _, _, _, rfl, spn_start I.p2⟩, fun i d ρ' hi hW => ?_, fun ρ' hW => ?_⟩
  · obtain ⟨low, high, s7, s8, s9, s10, rfl, h⟩ := hW
    have sm := spn_small I h
    have st := spn_step h
    walk_at "vv"
    refine ⟨divW (by decide) (by decide), ?_⟩
    generalize hmid : (low + high) / 2 = mid at *
    show VSs X _ [.dat (rootD (tup3 b0 b1 b2) wh), .dat (.int low), .dat (.str "root"), .dat (tup3 b0 b1 b2), .dat (.int wh), .dat (.int (farOf b0 b1)), .dat (.int high), .dat d, .dat (.int mid), s9, s10] _
    walk_at "vv"
    refine ⟨_, rfl, ?_⟩
    refine ⟨mulB (a := 2) (b := 10) (by decide) (by omega) (by decide) (by decide), ?_⟩
    walk_at "vv"
    have h2b := absmul (i := 2) (j := b2) (a := 2) (b := 10) (by decide) (by omega)
    refine ⟨mulB h2b sm.2.2 (by decide) (by decide), ?_⟩
    walk_at "vv"
    refine ⟨_, rfl, ?_⟩
    walk_at "vv"
    refine ⟨cp1 (by decide) (by decide), ?_⟩
    rw [t90]
    refine ⟨mulB (a := 10) (b := 100) (by omega) (by decide) (by decide) (by decide), ?_⟩
    walk_at "vv"
    show VD X _ [.dat (rootD (tup3 b0 b1 b2) wh), .dat (.int low), .dat (.str "root"), .dat (tup3 b0 b1 b2), .dat (.int wh), .dat (.int (farOf b0 b1)), .dat (.int high), .dat d, .dat (.int mid), .dat (.bool (decide (0 < vtx b1 b2 mid))), s10] _
    refine vd_call C FA (by walk_at "at") ?_
    walk_at "vv"
    refine ⟨cp1 (by decide) (by decide), ?_⟩
    rw [t90]
    walk_at "vv"
    refine ⟨rfl, b0, b1, b2, mid, 2 ^ 90, rfl, I.s0.sm, I.s1.sm, I.s2.sm, Nat.lt_trans sm.2.2 (by decide), by decide, ?_⟩
    walk_at "vv"
    show VT X _ [.dat (rootD (tup3 b0 b1 b2) wh), .dat (.int low), .dat (.str "root"), .dat (tup3 b0 b1 b2), .dat (.int wh), .dat (.int (farOf b0 b1)), .dat (.int high), .dat d, .dat (.int mid), .dat (.bool (decide (0 < vtx b1 b2 mid))), .dat (.bool (decide (sgn (latv b0 b1 b2 mid (2 ^ 90)) < 0)))] _
    have tst := abv_test (b0 := b0) (b1 := b1) (b2 := b2) (m := mid) I.p2
    have sl := sgn_lt (latv b0 b1 b2 mid (2 ^ 90))
    rcases hw with rfl | rfl
    · refine vt_w (vw_or (vt_w (vw_and ?_)))
      walk_at "vv"
      refine ⟨fun _ => ?_, fun h => absurd h (by decide)⟩
      refine vw_and1 (vt_w (vw_or (vt_val ?_)))
      walk_at "vv"
      refine ⟨_, rfl, fun r => ?_, fun r => ?_⟩
      · have r := of_decide_eq_true r
        refine ⟨fun _ => ?_, fun h => absurd h (by decide)⟩
        refine ⟨fun _ => ?_, fun h => absurd h (by decide)⟩
        walk_at "vv"
        exact ⟨low, mid, _, _, _, _, rfl, st.1 (by unfold Abv; rw [if_pos rfl]; exact .inl r)⟩
      · have r := of_decide_eq_false r
        refine vw_or1 (vt_val ?_)
        walk_at "vv"
        refine ⟨_, rfl, fun r2 => ?_, fun r2 => ?_⟩
        · have r2 := of_decide_eq_true r2
          refine ⟨fun _ => ?_, fun h => absurd h (by decide)⟩
          walk_at "vv"
          exact ⟨low, mid, _, _, _, _, rfl, st.1 (by unfold Abv; rw [if_pos rfl]; exact .inr (tst.mp (sl.mp r2)))⟩
        · have r2 := of_decide_eq_false r2
          refine vw_or1 (vt_w (vw_and ?_))
          walk_at "vv"
          refine ⟨fun h => absurd h (by decide), fun _ => ?_⟩
          refine ⟨fun h => absurd h (by decide), fun _ => ?_⟩
          walk_at "vv"
          refine ⟨mid, high, _, _, _, _, rfl, st.2 (by
            unfold Abv
            rw [if_pos rfl]
            rintro (z | z)
            · exact r z
            · exact r2 (sl.mpr (tst.mpr z)))⟩
    · refine vt_w (vw_or (vt_w (vw_and ?_)))
      walk_at "vv"
      refine ⟨fun h => absurd h (by decide), fun _ => ?_⟩
      refine ⟨fun h => absurd h (by decide), fun _ => ?_⟩
      refine vw_or1 (vt_w (vw_and ?_))
      walk_at "vv"
      refine ⟨fun _ => ?_, fun h => absurd h (by decide)⟩
      refine vw_and (vt_val ?_)
      walk_at "vv"
      refine ⟨_, rfl, fun r => ?_, fun r => ?_⟩
      · have r := of_decide_eq_true r
        refine vw_and1 (vt_not (vt_val ?_))
        walk_at "vv"
        refine ⟨_, rfl, fun r2 => ?_, fun r2 => ?_⟩
        · have r2 : ¬ sgn (latv b0 b1 b2 mid (2 ^ 90)) < 0 := by
            have q : (!decide (sgn (latv b0 b1 b2 mid (2 ^ 90)) < 0)) = true := r2
            simpa using q
          walk_at "vv"
          exact ⟨low, mid, _, _, _, _, rfl, st.1 (by
            unfold Abv
            rw [if_neg (by decide)]
            refine ⟨r, ?_⟩
            rcases Int.lt_or_le (vtx b1 b2 mid * vtx b1 b2 mid) (eOf b0 b1 b2) with z | z
            · exact absurd (sl.mpr (tst.mpr z)) r2
            · exact z)⟩
        · have r2 : sgn (latv b0 b1 b2 mid (2 ^ 90)) < 0 := by
            have q : (!decide (sgn (latv b0 b1 b2 mid (2 ^ 90)) < 0)) = false := r2
            simpa using q
          walk_at "vv"
          exact ⟨mid, high, _, _, _, _, rfl, st.2 (by
            unfold Abv
            rw [if_neg (by decide)]
            rintro ⟨_, z⟩
            have := tst.mp (sl.mp r2)
            omega)⟩
      · have r := of_decide_eq_false r
        refine ⟨fun h => absurd h (by decide), fun _ => ?_⟩
        walk_at "vv"
        exact ⟨mid, high, _, _, _, _, rfl, st.2 (by
          unfold Abv
          rw [if_neg (by decide)]
          exact fun z => r z.1)⟩
  · obtain ⟨low, high, s7, s8, s9, s10, rfl, h⟩ := hW
    rw [List.length_map, List.length_range] at h
    walk_at "vv"
    exact ⟨by show 2 ≤ 1000; decide, w low high h⟩


open PySem PySem.Spec PyProof.Rows L2 Vc

/-! ### where a root is between two neighbours over t -/
def vat (b1 b2 n d : Int) : Int := 2 * b2 * n + b1 * d
/-- n / d is above the root -/
def Ab (b0 b1 b2 w n d : Int) : Prop := Abv w (vat b1 b2 n d) (dsc b0 b1 b2 * (d * d))
theorem abv_mono {w v v' e : Int} (h : v ≤ v') (a : Abv w v e) : Abv w v' e := by
  unfold Abv at *
  split at a
  · rename_i hw
    rw [if_pos hw]
    rcases a with a | a
    · exact .inl (by omega)
    · rcases Int.lt_or_le 0 v' with q | q
      · exact .inl q
      · right
        have := Int.mul_le_mul_of_nonneg_left (show -v' ≤ -v by omega) (show 0 ≤ -v' by omega)
        have h2 := Int.mul_le_mul_of_nonneg_right (show -v' ≤ -v by omega) (show 0 ≤ -v by omega)
        rw [Int.neg_mul_neg] at this
        rw [Int.neg_mul_neg, Int.neg_mul_neg] at h2
        have e1 : -v' * -v = v' * v := Int.neg_mul_neg _ _
        omega
  · rename_i hw
    rw [if_neg hw]
    refine ⟨by omega, ?_⟩
    have := Int.mul_le_mul_of_nonneg_left h (show 0 ≤ v by omega)
    have h2 := Int.mul_le_mul_of_nonneg_right h (show 0 ≤ v' by omega)
    omega
theorem abv_scale {w v e k : Int} (hk : 0 < k) : Abv w (k * v) (k * k * e) ↔ Abv w v e := by
  have h1 : 0 < k * v ↔ 0 < v := ⟨fun h => by
    rcases Int.lt_or_le 0 v with q | q
    · exact q
    · have := Int.mul_nonneg (show 0 ≤ k by omega) (show 0 ≤ -v by omega)
      rw [Int.mul_neg] at this
      omega, fun h => Int.mul_pos hk h⟩
  have kk := Int.mul_pos hk hk
  have e1 : k * v * (k * v) = k * k * (v * v) := by grind
  have h2 : k * v * (k * v) < k * k * e ↔ v * v < e := by
    rw [e1]
    exact Int.mul_lt_mul_left kk
  have h3 : k * k * e ≤ k * v * (k * v) ↔ e ≤ v * v := by
    rw [e1]
    exact Int.mul_le_mul_left kk
  unfold Abv
  split
  · rw [h1, h2]
  · rw [h1, h3]
theorem ab_le {b0 b1 b2 w n d n' d' : Int} (hb : 0 < b2) (hd : 0 < d) (hd' : 0 < d') (h : n * d' ≤ n' * d) (a : Ab b0 b1 b2 w n d) : Ab b0 b1 b2 w n' d' := by
  unfold Ab at *
  refine (abv_scale hd).mp ?_
  have a2 := (abv_scale (w := w) (v := vat b1 b2 n d) (e := dsc b0 b1 b2 * (d * d)) hd').mpr a
  have ee : d' * d' * (dsc b0 b1 b2 * (d * d)) = d * d * (dsc b0 b1 b2 * (d' * d')) := by grind
  rw [ee] at a2
  refine abv_mono ?_ a2
  have := Int.mul_le_mul_of_nonneg_left h (show 0 ≤ 2 * b2 by omega)
  have e1 : d * vat b1 b2 n' d' - d' * vat b1 b2 n d = 2 * b2 * (n' * d) - 2 * b2 * (n * d') := by unfold vat; grind
  omega
def flr (b0 b1 b2 w t : Int) : Int := if w = 0 then (-b1 * t + (-((isq (dsc b0 b1 b2 * (t * t)) : Nat) : Int) - 1)) / (2 * b2) else (-b1 * t + ((isq (dsc b0 b1 b2 * (t * t)) : Nat) : Int)) / (2 * b2)
theorem ab_flr {b0 b1 b2 w m t : Int} (I : Irr b0 b1 b2) (ht : 0 < t) : Ab b0 b1 b2 w m t ↔ flr b0 b1 b2 w t < m := by
  have p2 := I.p2
  have pE : 0 < dsc b0 b1 b2 * (t * t) := Int.mul_pos I.pd (Int.mul_pos ht ht)
  have rt := isqrt_root (dsc b0 b1 b2 * (t * t)).natAbs
  have hr : ((isq (dsc b0 b1 b2 * (t * t)) : Nat) : Int) * ((isq (dsc b0 b1 b2 * (t * t)) : Nat) : Int) ≠ dsc b0 b1 b2 * (t * t) := fun q => by
    have := sq_zero (f := ((isq (dsc b0 b1 b2 * (t * t)) : Nat) : Int)) (s := t) (d := dsc b0 b1 b2) (by rw [q, Int.mul_comm]) I.ns I.pd
    omega
  have l1 : ((isq (dsc b0 b1 b2 * (t * t)) : Nat) : Int) * ((isq (dsc b0 b1 b2 * (t * t)) : Nat) : Int) ≤ dsc b0 b1 b2 * (t * t) := by
    have := rt.1
    unfold isq
    rw [← Int.natCast_mul]
    omega
  have l2 : dsc b0 b1 b2 * (t * t) < (((isq (dsc b0 b1 b2 * (t * t)) : Nat) : Int) + 1) * (((isq (dsc b0 b1 b2 * (t * t)) : Nat) : Int) + 1) := by
    have := rt.2
    unfold isq
    have e : ((Float64.isqrt (dsc b0 b1 b2 * (t * t)).natAbs : Int) + 1) * ((Float64.isqrt (dsc b0 b1 b2 * (t * t)).natAbs : Int) + 1) = (((Float64.isqrt (dsc b0 b1 b2 * (t * t)).natAbs + 1) * (Float64.isqrt (dsc b0 b1 b2 * (t * t)).natAbs + 1) : Nat) : Int) := by
      rw [Int.natCast_mul, Int.natCast_add]
      rfl
    rw [e]
    omega
  unfold Ab flr
  generalize isq (dsc b0 b1 b2 * (t * t)) = r at *
  generalize dsc b0 b1 b2 * (t * t) = E at *
  have sq : ∀ x y : Int, 0 ≤ x → x ≤ y → x * x ≤ y * y := fun x y x0 xy => by
    have a := Int.mul_le_mul_of_nonneg_left xy x0
    have b := Int.mul_le_mul_of_nonneg_right xy (show 0 ≤ y by omega)
    omega
  unfold Abv
  by_cases hw : w = 0
  · rw [if_pos hw, if_pos hw, Int.ediv_lt_iff_lt_mul (by omega)]
    have ev : vat b1 b2 m t = m * (2 * b2) + b1 * t := by unfold vat; rw [Int.mul_comm m]
    have en : -b1 * t = -(b1 * t) := Int.neg_mul _ _
    rw [ev, en]
    generalize m * (2 * b2) = y at *
    generalize b1 * t = x at *
    refine ⟨fun h => ?_, fun h => ?_⟩
    · rcases h with h | h
      · omega
      · rcases Int.lt_or_le (-(r : Int) - 1) (y + x) with q | q
        · omega
        · have := sq ((r : Int) + 1) (-(y + x)) (by omega) (by omega)
          rw [Int.neg_mul_neg] at this
          omega
    · rcases Int.lt_or_le 0 (y + x) with q | q
      · exact .inl q
      · right
        have := sq (-(y + x)) (r : Int) (by omega) (by omega)
        rw [Int.neg_mul_neg] at this
        omega
  · rw [if_neg hw, if_neg hw, Int.ediv_lt_iff_lt_mul (by omega)]
    have ev : vat b1 b2 m t = m * (2 * b2) + b1 * t := by unfold vat; rw [Int.mul_comm m]
    have en : -b1 * t = -(b1 * t) := Int.neg_mul _ _
    rw [ev, en]
    generalize m * (2 * b2) = y at *
    generalize b1 * t = x at *
    refine ⟨fun h => ?_, fun h => ?_⟩
    · rcases Int.lt_or_le (r : Int) (y + x) with q | q
      · omega
      · have := sq (y + x) (r : Int) (by omega) q
        omega
    · refine ⟨by omega, ?_⟩
      have := sq ((r : Int) + 1) (y + x) (by omega) (by omega)
      omega
theorem spn_flr {b0 b1 b2 w low high : Int} (I : Irr b0 b1 b2) (h : Spn b0 b1 b2 w 130 low high) : low = flr b0 b1 b2 w (2 ^ 90) ∧ high = flr b0 b1 b2 w (2 ^ 90) + 1 := by
  have e := spn_end I h
  have l : ¬ Ab b0 b1 b2 w low (2 ^ 90) := h.lo
  have u : Ab b0 b1 b2 w high (2 ^ 90) := h.hi
  rw [ab_flr I (by decide)] at l u
  omega
/-! ### how near -/
theorem nearG {p k e t : Int} (ht : 2 ^ 20 ≤ t) (hp : 0 < p) (hk : 0 < k) (hk2 : k ≤ 144) (h1 : p * p < e) (h2 : e ≤ (p + k) * (p + k)) (he : e ≤ 2 ^ 16 * (t * t)) :
    2 * p + k ≤ 2 ^ 10 * t ∧ -(2 ^ 18 * t) ≤ (2 * p + k) * (2 * p + k) - 4 * e ∧ (2 * p + k) * (2 * p + k) - 4 * e ≤ 2 ^ 18 * t := by
  have hp2 : p < 2 ^ 8 * t := by
    rcases Int.lt_or_le p (2 ^ 8 * t) with q | q
    · exact q
    · have a := Int.mul_le_mul_of_nonneg_left q (show 0 ≤ p by omega)
      have b := Int.mul_le_mul_of_nonneg_right q (show (0 : Int) ≤ 2 ^ 8 * t by omega)
      have c : 2 ^ 8 * t * (2 ^ 8 * t) = 2 ^ 16 * (t * t) := by grind
      omega
  have a := Int.mul_le_mul_of_nonneg_left hk2 (show 0 ≤ p by omega)
  have b := Int.mul_le_mul_of_nonneg_left hk2 (show 0 ≤ k by omega)
  have c := Int.mul_nonneg (show 0 ≤ p by omega) (show 0 ≤ k by omega)
  have d := Int.mul_nonneg (show 0 ≤ k by omega) (show 0 ≤ k by omega)
  have e1 : (2 * p + k) * (2 * p + k) = 4 * (p * p) + 4 * (p * k) + k * k := by grind
  have e2 : (p + k) * (p + k) = p * p + 2 * (p * k) + k * k := by grind
  rw [e2] at h2
  rw [e1]
  omega
theorem flr_x {b0 b1 b2 w t : Int} (I : Irr b0 b1 b2) (ht : 2 ^ 20 ≤ t) :
    ∃ X V : Int, V = vat b1 b2 (2 * flr b0 b1 b2 w t + 1) (2 * t) ∧ (if w = 0 then X = -V else X = V) ∧ 0 < X ∧ X ≤ 2 ^ 9 * (2 * t) ∧ -(2 ^ 17 * (2 * t)) ≤ X * X - dsc b0 b1 b2 * (2 * t * (2 * t)) ∧ X * X - dsc b0 b1 b2 * (2 * t * (2 * t)) ≤ 2 ^ 17 * (2 * t) := by
  have hd := dsc_b I.s0 I.s1 I.s2
  have pd := I.pd
  have p2 := I.p2
  have s2 : b2.natAbs ≤ 72 := I.s2
  have tt := Int.mul_le_mul_of_nonneg_left ht (show 0 ≤ t by omega)
  have e4 : dsc b0 b1 b2 * (2 * t * (2 * t)) = 4 * (dsc b0 b1 b2 * (t * t)) := by grind
  have eb : dsc b0 b1 b2 * (t * t) ≤ 2 ^ 16 * (t * t) := Int.mul_le_mul_of_nonneg_right (by omega) (by omega)
  have es : 1 * (t * t) ≤ dsc b0 b1 b2 * (t * t) := Int.mul_le_mul_of_nonneg_right (by omega) (by omega)
  have lo : ¬ Ab b0 b1 b2 w (flr b0 b1 b2 w t) t := by rw [ab_flr I (by omega)]; omega
  have hi : Ab b0 b1 b2 w (flr b0 b1 b2 w t + 1) t := by rw [ab_flr I (by omega)]; omega
  generalize flr b0 b1 b2 w t = L at *
  have vh : vat b1 b2 (L + 1) t = vat b1 b2 L t + 2 * b2 := by unfold vat; grind
  have eV : vat b1 b2 (2 * L + 1) (2 * t) = 2 * vat b1 b2 L t + 2 * b2 := by unfold vat; grind
  unfold Ab at lo hi
  rw [vh] at hi
  rw [eV, e4]
  generalize vat b1 b2 L t = p at *
  generalize dsc b0 b1 b2 * (t * t) = E at *
  have small : ∀ x : Int, 0 ≤ x → x ≤ 144 → ¬ E ≤ x * x := fun x x0 x1 q => by
    have a := Int.mul_le_mul_of_nonneg_left x1 x0
    omega
  by_cases hw : w = 0
  · unfold Abv at lo hi
    rw [if_pos hw] at lo hi
    have hp : p ≤ 0 := by omega
    have hE : E ≤ p * p := by omega
    have hn : p + 2 * b2 ≤ 0 := by
      rcases Int.lt_or_le 0 (p + 2 * b2) with q | q
      · exact absurd (by rw [Int.neg_mul_neg]; exact hE) (small (-p) (by omega) (by omega))
      · exact q
    have h3 : (p + 2 * b2) * (p + 2 * b2) < E := by
      rcases hi with q | q
      · omega
      · exact q
    have hp0 : 0 < -(p + 2 * b2) := by
      rcases Int.lt_or_le 0 (-(p + 2 * b2)) with q | q
      · exact q
      · exact absurd (by rw [Int.neg_mul_neg]; exact hE) (small (-p) (by omega) (by omega))
    have ep : -(p + 2 * b2) + 2 * b2 = -p := by omega
    have n := nearG (p := -(p + 2 * b2)) (k := 2 * b2) (e := E) ht hp0 (by omega) (by omega) (by rw [Int.neg_mul_neg]; exact h3) (by rw [ep, Int.neg_mul_neg]; exact hE) eb
    have ex : 2 * -(p + 2 * b2) + 2 * b2 = -(2 * p + 2 * b2) := by omega
    rw [ex] at n
    exact ⟨-(2 * p + 2 * b2), 2 * p + 2 * b2, rfl, by rw [if_pos hw], by omega, by omega, by omega, by omega⟩
  · unfold Abv at lo hi
    rw [if_neg hw] at lo hi
    have hp : 0 < p := by
      rcases Int.lt_or_le 0 p with q | q
      · exact q
      · exact absurd hi.2 (small (p + 2 * b2) (by omega) (by omega))
    have hE : p * p < E := by
      rcases Int.lt_or_le (p * p) E with q | q
      · exact q
      · exact absurd ⟨hp, q⟩ lo
    have n := nearG (p := p) (k := 2 * b2) (e := E) ht hp (by omega) (by omega) hE hi.2 eb
    exact ⟨2 * p + 2 * b2, 2 * p + 2 * b2, rfl, by rw [if_neg hw], by omega, by omega, by omega, by omega⟩


open PySem PySem.Spec PyProof.Rows L2 Vc

/-! ### signs at a root, and how far these are from 0 -/
theorem zposG {Z Y T : Int} (hT : 0 < T) (hY : 0 < Y) (hYb : Y ≤ 2 ^ 24 * T) (h : T * T ≤ 2 * (Z * Y)) : T ≤ 2 ^ 25 * Z := by
  rcases Int.lt_or_le (2 ^ 25 * Z) T with z | z
  · exfalso
    have tt := Int.mul_pos hT hT
    rcases Int.lt_or_le 0 Z with p | p
    · have h1 := Int.mul_le_mul_of_nonneg_left hYb (show 0 ≤ Z by omega)
      have h2 := Int.mul_lt_mul_of_pos_right z hT
      have e : 2 * (Z * (2 ^ 24 * T)) = 2 ^ 25 * Z * T := by grind
      omega
    · have h1 := Int.mul_nonneg (show 0 ≤ -Z by omega) (show 0 ≤ Y by omega)
      have e : -Z * Y = -(Z * Y) := Int.neg_mul _ _
      omega
  · exact z
theorem z_bigG {T f s X D E1 : Int} (hT : 2 ^ 60 ≤ T) (hX : 0 < X) (hX2 : X ≤ 2 ^ 9 * T) (hE : X * X - D * (T * T) = E1) (e1 : -(2 ^ 17 * T) ≤ E1) (e2 : E1 ≤ 2 ^ 17 * T)
    (hf : f.natAbs < 2 ^ 22) (hs : s.natAbs < 2 ^ 14) (hne : f * f ≠ s * s * D) :
    (surd f s D = 1 ∧ T ≤ 2 ^ 25 * (T * f + X * s)) ∨ (surd f s D = -1 ∧ T ≤ 2 ^ 25 * -(T * f + X * s)) := by
  have T0 : 0 < T := by omega
  obtain ⟨f1, f2⟩ := absLe hf
  obtain ⟨s1, s2⟩ := absLe hs
  have id : (T * f + X * s) * (T * f - X * s) = T * (T * (f * f - s * s * D)) - s * s * E1 := by rw [← hE]; grind
  have yb : -(2 ^ 24 * T) ≤ T * f - X * s ∧ T * f - X * s ≤ 2 ^ 24 * T := by
    have a := mul_abs (i := T) (j := f) (a := T) (b := 2 ^ 22) (by omega) (by omega) f1 f2
    have b := mul_abs (i := X) (j := s) (a := 2 ^ 9 * T) (b := 2 ^ 14) (by omega) (by omega) s1 s2
    omega
  have ss := mul_abs s1 s2 s1 s2
  have se := mul_abs (i := s * s) (j := E1) (a := 2 ^ 28) (b := 2 ^ 17 * T) (by omega) (by omega) e1 e2
  have tt := Int.mul_le_mul_of_nonneg_left hT (show 0 ≤ T by omega)
  have big : (1 ≤ f * f - s * s * D ∧ T * T ≤ 2 * ((T * f + X * s) * (T * f - X * s))) ∨ (f * f - s * s * D ≤ -1 ∧ T * T ≤ 2 * -((T * f + X * s) * (T * f - X * s))) := by
    rw [id]
    rcases Int.lt_or_le 0 (f * f - s * s * D) with g | g
    · left
      refine ⟨g, ?_⟩
      have h1 := Int.mul_le_mul_of_nonneg_left (show 1 ≤ f * f - s * s * D from g) (show 0 ≤ T by omega)
      have h2 := Int.mul_le_mul_of_nonneg_left h1 (show 0 ≤ T by omega)
      rw [Int.mul_one] at h2
      omega
    · right
      have g' : f * f - s * s * D ≤ -1 := by omega
      refine ⟨g', ?_⟩
      have h1 := Int.mul_le_mul_of_nonneg_left (show 1 ≤ -(f * f - s * s * D) by omega) (show 0 ≤ T by omega)
      have h2 := Int.mul_le_mul_of_nonneg_left h1 (show 0 ≤ T by omega)
      rw [Int.mul_one] at h2
      have h4 : T * (T * -(f * f - s * s * D)) = -(T * (T * (f * f - s * s * D))) := by grind
      omega
  have t0 := Int.mul_pos T0 T0
  -- the four ways
  have pp : 0 < T * f - X * s → T * T ≤ 2 * ((T * f + X * s) * (T * f - X * s)) → T ≤ 2 ^ 25 * (T * f + X * s) := fun y h => zposG T0 y (by omega) h
  have pn : 0 < T * f - X * s → T * T ≤ 2 * -((T * f + X * s) * (T * f - X * s)) → T ≤ 2 ^ 25 * -(T * f + X * s) := fun y h => zposG T0 y (by omega) (by rw [Int.neg_mul]; exact h)
  have np : T * f - X * s < 0 → T * T ≤ 2 * ((T * f + X * s) * (T * f - X * s)) → T ≤ 2 ^ 25 * -(T * f + X * s) := fun y h => zposG (Y := -(T * f - X * s)) T0 (by omega) (by omega) (by rw [Int.neg_mul_neg]; exact h)
  have nn : T * f - X * s < 0 → T * T ≤ 2 * -((T * f + X * s) * (T * f - X * s)) → T ≤ 2 ^ 25 * (T * f + X * s) := fun y h => zposG (Y := -(T * f - X * s)) T0 (by omega) (by omega) (by rw [Int.mul_neg]; exact h)
  have y0 : T * f - X * s ≠ 0 := fun y => by
    rw [y, Int.mul_zero] at big
    omega
  have Tf : 0 ≤ f → 0 ≤ T * f := fun h => Int.mul_nonneg (by omega) h
  have Tf' : f ≤ 0 → T * f ≤ 0 := fun h => by
    have := Int.mul_nonneg (show 0 ≤ T by omega) (show 0 ≤ -f by omega)
    rw [Int.mul_neg] at this
    omega
  have Xs : 0 ≤ s → 0 ≤ X * s := fun h => Int.mul_nonneg (by omega) h
  have Xs' : s ≤ 0 → X * s ≤ 0 := fun h => by
    have := Int.mul_nonneg (show 0 ≤ X by omega) (show 0 ≤ -s by omega)
    rw [Int.mul_neg] at this
    omega
  have up : 0 ≤ T * f + X * s → T ≤ 2 ^ 25 * (T * f + X * s) := fun z => by
    rcases Int.lt_or_le 0 (T * f - X * s) with y | y
    · rcases big with ⟨_, h⟩ | ⟨_, h⟩
      · exact pp y h
      · have := pn y h
        omega
    · rcases big with ⟨_, h⟩ | ⟨_, h⟩
      · have := np (by omega) h
        omega
      · exact nn (by omega) h
  have dn : T * f + X * s ≤ 0 → T ≤ 2 ^ 25 * -(T * f + X * s) := fun z => by
    rcases Int.lt_or_le 0 (T * f - X * s) with y | y
    · rcases big with ⟨_, h⟩ | ⟨_, h⟩
      · have := pp y h
        omega
      · exact pn y h
    · rcases big with ⟨_, h⟩ | ⟨_, h⟩
      · exact np (by omega) h
      · have := nn (by omega) h
        omega
  rcases Int.lt_trichotomy f 0 with hf0 | hf0 | hf0
  · rcases Int.lt_or_le 0 s with hs0 | hs0
    · unfold surd
      rw [sgn_neg hf0, sgn_pos hs0, if_neg (by decide)]
      have y : T * f - X * s < 0 := by
        have a := Tf' (by omega)
        have b := Xs (by omega)
        omega
      rcases big with ⟨g, h⟩ | ⟨g, h⟩
      · right
        rw [if_pos (by omega)]
        exact ⟨rfl, np y h⟩
      · left
        rw [if_neg (by omega)]
        exact ⟨rfl, nn y h⟩
    · right
      refine ⟨?_, dn (by
        have a := Tf' (by omega)
        have b := Xs' hs0
        omega)⟩
      unfold surd
      rw [sgn_neg hf0]
      have : 0 ≤ -1 * sgn s := by
        rcases Int.lt_or_le s 0 with q | q
        · rw [sgn_neg q]; decide
        · rw [show s = 0 by omega]; decide
      rw [if_pos this, if_neg (by decide)]
  · have hs0 : s ≠ 0 := fun z => hne (by rw [hf0, z]; simp)
    unfold surd
    rw [hf0, sgn_zero, Int.zero_mul, if_pos (by decide), if_pos rfl]
    rcases Int.lt_or_le 0 s with q | q
    · left
      rw [sgn_pos q]
      refine ⟨rfl, ?_⟩
      have := up (by
        have a := Tf (by omega)
        have b := Xs (by omega)
        omega)
      rw [hf0] at this
      exact this
    · right
      rw [sgn_neg (by omega)]
      refine ⟨rfl, ?_⟩
      have := dn (by
        have a := Tf' (by omega)
        have b := Xs' (by omega)
        omega)
      rw [hf0] at this
      exact this
  · rcases Int.lt_or_le s 0 with hs0 | hs0
    · unfold surd
      rw [sgn_pos hf0, sgn_neg hs0, if_neg (by decide)]
      have y : 0 < T * f - X * s := by
        have a := Tf (by omega)
        have b := Xs' (by omega)
        omega
      rcases big with ⟨g, h⟩ | ⟨g, h⟩
      · left
        rw [if_pos (by omega)]
        exact ⟨rfl, pp y h⟩
      · right
        rw [if_neg (by omega)]
        exact ⟨rfl, pn y h⟩
    · left
      refine ⟨?_, up (by
        have a := Tf (by omega)
        have b := Xs hs0
        omega)⟩
      unfold surd
      rw [sgn_pos hf0]
      have : 0 ≤ 1 * sgn s := by
        rcases Int.lt_or_le 0 s with q | q
        · rw [sgn_pos q]; decide
        · rw [show s = 0 by omega]; decide
      rw [if_pos this, if_neg (by decide)]
theorem q_signG {T f s X D E1 c2 L m : Int} (hT : 2 ^ 60 ≤ T) (hX : 0 < X) (hX2 : X ≤ 2 ^ 9 * T) (hE : X * X - D * (T * T) = E1) (e1 : -(2 ^ 17 * T) ≤ E1) (e2 : E1 ≤ 2 ^ 17 * T)
    (hf : f.natAbs < 2 ^ 22) (hs : s.natAbs < 2 ^ 14) (hne : f * f ≠ s * s * D) (hc : c2.natAbs < 2 ^ 10) (hm : 0 < m) (hq : m * L = 2 * (T * (T * f + X * s)) + c2 * E1) :
    sgn L = surd f s D ∧ (2 ^ 35 * T ≤ m * L ∨ m * L ≤ -(2 ^ 35 * T)) := by
  have T0 : 0 < T := by omega
  obtain ⟨c1', c2'⟩ := absLe hc
  have ce := mul_abs c1' c2' e1 e2
  have tt := Int.mul_le_mul_of_nonneg_left hT (show 0 ≤ T by omega)
  rcases z_bigG hT hX hX2 hE e1 e2 hf hs hne with ⟨q, z⟩ | ⟨q, z⟩
  · rw [q]
    have h1 := Int.mul_le_mul_of_nonneg_left z (show 0 ≤ T by omega)
    have e : T * (2 ^ 25 * (T * f + X * s)) = 2 ^ 25 * (T * (T * f + X * s)) := by grind
    have big : 2 ^ 35 * T ≤ m * L := by omega
    refine ⟨sgn_pos ?_, .inl big⟩
    rcases Int.lt_or_le 0 L with l | l
    · exact l
    · have := Int.mul_nonneg (show 0 ≤ m by omega) (show 0 ≤ -L by omega)
      rw [Int.mul_neg] at this
      omega
  · rw [q]
    have h1 := Int.mul_le_mul_of_nonneg_left z (show 0 ≤ T by omega)
    have e : T * (2 ^ 25 * -(T * f + X * s)) = -(2 ^ 25 * (T * (T * f + X * s))) := by grind
    have big : m * L ≤ -(2 ^ 35 * T) := by omega
    refine ⟨sgn_neg ?_, .inr big⟩
    rcases Int.lt_or_le L 0 with l | l
    · exact l
    · have := Int.mul_nonneg (show 0 ≤ m by omega) l
      omega
def flatOf (c0 c1 c2 b0 b1 b2 : Int) : Int := 2 * b2 * (c0 * b2 - c2 * b0) - b1 * (c1 * b2 - c2 * b1)
/-- the sign of a polynomial at a root, by its value between the root's two neighbours over t -/
theorem son_gen {c0 c1 c2 b0 b1 b2 w t : Int} (I : Irr b0 b1 b2) (ht : 2 ^ 60 ≤ t) (bf : (flatOf c0 c1 c2 b0 b1 b2).natAbs < 2 ^ 22) (bs : (c1 * b2 - c2 * b1).natAbs < 2 ^ 14) (hc : c2.natAbs < 2 ^ 10) (np : ¬ (c1 * b2 - c2 * b1 = 0 ∧ c0 * b2 - c2 * b0 = 0)) :
    sgn (latv c0 c1 c2 (2 * flr b0 b1 b2 w t + 1) (2 * t)) = sonR c0 c1 c2 b0 b1 b2 w ∧
    (2 ^ 35 * (2 * t) ≤ 4 * b2 * b2 * latv c0 c1 c2 (2 * flr b0 b1 b2 w t + 1) (2 * t) ∨ 4 * b2 * b2 * latv c0 c1 c2 (2 * flr b0 b1 b2 w t + 1) (2 * t) ≤ -(2 ^ 35 * (2 * t))) := by
  obtain ⟨X, V, hV, hX, x0, x1, e1, e2⟩ := flr_x (w := w) I (t := t) (by omega)
  have id := lat_id c0 c1 c2 b0 b1 b2 (2 * flr b0 b1 b2 w t + 1) (2 * t) V hV
  have p2 := I.p2
  have ne : ∀ s : Int, s = c1 * b2 - c2 * b1 ∨ s = -(c1 * b2 - c2 * b1) → flatOf c0 c1 c2 b0 b1 b2 * flatOf c0 c1 c2 b0 b1 b2 ≠ s * s * dsc b0 b1 b2 := fun s hs q => by
    obtain ⟨z1, z2⟩ := sq_zero q I.ns I.pd
    have s0 : c1 * b2 - c2 * b1 = 0 := by omega
    unfold flatOf at z2
    rw [s0, Int.mul_zero, Int.sub_zero] at z2
    have z3 : c0 * b2 - c2 * b0 = 0 := (Int.mul_eq_zero.mp z2).elim (fun q => absurd q (by omega)) (fun q => q)
    exact np ⟨s0, z3⟩
  have hm : 0 < 4 * b2 * b2 := Int.mul_pos (by omega) p2
  unfold sonR
  by_cases hw : w = 0
  · rw [if_pos hw] at hX ⊢
    have ex : X * X = V * V := by rw [hX, Int.neg_mul_neg]
    refine q_signG (T := 2 * t) (X := X) (m := 4 * b2 * b2) (c2 := c2) (E1 := X * X - dsc b0 b1 b2 * (2 * t * (2 * t))) (by omega) x0 x1 rfl (by omega) (by omega) bf (by rw [Int.natAbs_neg]; exact bs) (ne _ (.inr rfl)) hc hm ?_
    rw [id, ex]
    have : X * -(c1 * b2 - c2 * b1) = V * (c1 * b2 - c2 * b1) := by rw [hX, Int.neg_mul_neg]
    rw [this]
  · rw [if_neg hw] at hX ⊢
    subst hX
    exact q_signG (T := 2 * t) (X := X) (m := 4 * b2 * b2) (c2 := c2) (E1 := X * X - dsc b0 b1 b2 * (2 * t * (2 * t))) (by omega) x0 x1 rfl (by omega) (by omega) bf bs (ne _ (.inl rfl)) hc hm id


open PySem PySem.Spec PyProof.Rows L2 Vc

/-! ### two places are not near -/
theorem lin_np {b0 b1 b2 n d : Int} (hb : 0 < b2) (hd : 0 < d) : ¬ (d * b2 - 0 * b1 = 0 ∧ n * b2 - 0 * b0 = 0) := fun h => by
  have := Int.mul_pos hd hb
  omega
theorem lin_b {b0 b1 b2 n d : Int} (I : Irr b0 b1 b2) (hn : n.natAbs ≤ 300) (hd : d.natAbs ≤ 150) : (flatOf n d 0 b0 b1 b2).natAbs < 2 ^ 22 ∧ (d * b2 - 0 * b1).natAbs < 2 ^ 14 := by
  have s1 : b1.natAbs ≤ 72 := I.s1
  have s2 : b2.natAbs ≤ 72 := I.s2
  have a := mulLe hn s2
  have b := mulLe hd s2
  have c := mulLe (i := 2 * b2) (j := n * b2 - 0 * b0) (a := 144) (b := 21600) (by omega) (by omega)
  have d' := mulLe (i := b1) (j := d * b2 - 0 * b1) (a := 72) (b := 10800) s1 (by omega)
  unfold flatOf
  omega
theorem m_b {b0 b1 b2 : Int} (I : Irr b0 b1 b2) : 0 < 4 * b2 * b2 ∧ 4 * b2 * b2 ≤ 20736 := by
  have s2 : b2.natAbs ≤ 72 := I.s2
  have p := I.p2
  have a := Int.mul_pos p p
  have b := mulLe s2 s2
  have e : 4 * b2 * b2 = 4 * (b2 * b2) := Int.mul_assoc _ _ _
  omega
theorem fdiv_b {n d t F : Int} (hd : 0 < d) (hF : F = n * t / d) : F * d ≤ n * t ∧ n * t < F * d + d := by
  subst hF
  have a := Int.mul_ediv_self_le (x := n * t) (k := d) (by omega)
  have b := Int.lt_mul_ediv_self_add (x := n * t) (k := d) hd
  have e : n * t / d * d = d * (n * t / d) := Int.mul_comm _ _
  omega
theorem sepF {b0 b1 b2 w n d t : Int} (I : Irr b0 b1 b2) (ht : 2 ^ 60 ≤ t) (hn : n.natAbs ≤ 300) (hd : 0 < d) (hd2 : d ≤ 150) : flr b0 b1 b2 w t ≠ n * t / d := fun e => by
  have B := lin_b (n := -n) (d := d) I (by rw [Int.natAbs_neg]; exact hn) (by omega)
  have g := (son_gen (c0 := -n) (c1 := d) (c2 := 0) (w := w) I ht B.1 B.2 (by decide) (lin_np I.p2 hd)).2
  obtain ⟨f1, f2⟩ := fdiv_b hd e
  have M := m_b I
  generalize flr b0 b1 b2 w t = L at *
  have ev : latv (-n) d 0 (2 * L + 1) (2 * t) = 2 * t * (2 * (L * d) + d - 2 * (n * t)) := by unfold latv; grind
  rw [ev] at g
  have h1 := mul_abs (i := 2 * t) (j := 2 * (L * d) + d - 2 * (n * t)) (a := 2 * t) (b := 150) (by omega) (by omega) (by omega) (by omega)
  have h2 := mul_abs (i := 4 * b2 * b2) (j := 2 * t * (2 * (L * d) + d - 2 * (n * t))) (a := 20736) (b := 2 * t * 150) (by omega) (by omega) (by omega) (by omega)
  omega
theorem quad_b {b0 b1 b2 a0 a1 a2 : Int} (I : Irr b0 b1 b2) (h0 : Sb a0) (h1 : Sb a1) (h2 : Sb a2) : (flatOf a0 a1 a2 b0 b1 b2).natAbs < 2 ^ 22 ∧ (a1 * b2 - a2 * b1).natAbs < 2 ^ 14 := by
  have a := mulLe h0 I.s2
  have b := mulLe h2 I.s0
  have c := mulLe (i := 2 * b2) (j := a0 * b2 - a2 * b0) (a := 144) (b := 10368) (by have := I.s2; unfold Sb at this; omega) (by omega)
  have a2' := mulLe h1 I.s2
  have b2' := mulLe h2 I.s1
  have d := mulLe (i := b1) (j := a1 * b2 - a2 * b1) (a := 72) (b := 10368) I.s1 (by omega)
  unfold flatOf
  omega
theorem der_b {b0 b1 b2 a1 a2 : Int} (I : Irr b0 b1 b2) (h1 : Sb a1) (h2 : Sb a2) : (flatOf a1 (2 * a2) 0 b0 b1 b2).natAbs < 2 ^ 22 ∧ (2 * a2 * b2 - 0 * b1).natAbs < 2 ^ 14 :=
  lin_b I (by unfold Sb at h1; omega) (by unfold Sb at h2; omega)
theorem lat4 (a0 a1 a2 n d : Int) : 4 * a2 * latv a0 a1 a2 n d = vat a1 a2 n d * vat a1 a2 n d - dsc a0 a1 a2 * (d * d) := by
  unfold latv vat dsc
  grind
theorem sepR {b0 b1 b2 w a0 a1 a2 z t : Int} (I : Irr b0 b1 b2) (J : Irr a0 a1 a2) (ht : 2 ^ 60 ≤ t) (np : ¬ (a1 * b2 - a2 * b1 = 0 ∧ a0 * b2 - a2 * b0 = 0)) : flr b0 b1 b2 w t ≠ flr a0 a1 a2 z t := fun e => by
  have B := quad_b I J.s0 J.s1 J.s2
  have s2 : a2.natAbs ≤ 72 := J.s2
  have p2 := J.p2
  have g := (son_gen (w := w) I ht B.1 B.2 (by omega) np).2
  obtain ⟨X, V, hV, hX, x0, x1, e1, e2⟩ := flr_x (w := z) J (t := t) (by omega)
  have ex : X * X = V * V := by
    split at hX
    · rw [hX, Int.neg_mul_neg]
    · rw [hX]
  rw [ex, hV, ← lat4, ← e] at e1 e2
  have M := m_b I
  generalize latv a0 a1 a2 (2 * flr b0 b1 b2 w t + 1) (2 * t) = Y at *
  have hY : -(2 ^ 17 * (2 * t)) ≤ Y ∧ Y ≤ 2 ^ 17 * (2 * t) := by
    refine ⟨?_, ?_⟩
    · rcases Int.lt_or_le Y (-(2 ^ 17 * (2 * t))) with q | q
      · have := Int.mul_le_mul_of_nonneg_right (show (1 : Int) ≤ 4 * a2 by omega) (show 0 ≤ -Y by omega)
        have e : 4 * a2 * -Y = -(4 * a2 * Y) := Int.mul_neg _ _
        omega
      · exact q
    · rcases Int.lt_or_le (2 ^ 17 * (2 * t)) Y with q | q
      · have := Int.mul_le_mul_of_nonneg_right (show (1 : Int) ≤ 4 * a2 by omega) (show 0 ≤ Y by omega)
        omega
      · exact q
  have h2 := mul_abs (i := 4 * b2 * b2) (j := Y) (a := 20736) (b := 2 ^ 17 * (2 * t)) (by omega) (by omega) hY.1 hY.2
  omega
theorem sepS {b0 b1 b2 t : Int} (I : Irr b0 b1 b2) (ht : 2 ^ 60 ≤ t) : flr b0 b1 b2 0 t < flr b0 b1 b2 1 t := by
  have ne : flr b0 b1 b2 0 t ≠ flr b0 b1 b2 1 t := fun e => by
    obtain ⟨X, V, hV, hX, x0, _⟩ := flr_x (w := 0) I (t := t) (by omega)
    obtain ⟨Y, U, hU, hY, y0, _⟩ := flr_x (w := 1) I (t := t) (by omega)
    rw [if_pos rfl] at hX
    rw [if_neg (by decide)] at hY
    rw [e, ← hU] at hV
    omega
  have le : flr b0 b1 b2 0 t ≤ flr b0 b1 b2 1 t := by
    rcases Int.lt_or_le (flr b0 b1 b2 1 t) (flr b0 b1 b2 0 t) with q | q
    · have u : Ab b0 b1 b2 1 (flr b0 b1 b2 1 t + 1) t := by rw [ab_flr I (by omega)]; omega
      have l : ¬ Ab b0 b1 b2 0 (flr b0 b1 b2 1 t + 1) t := by rw [ab_flr I (by omega)]; omega
      unfold Ab Abv at u l
      rw [if_neg (by decide)] at u
      rw [if_pos rfl] at l
      exact absurd (.inl u.1) l
    · exact q
  omega
/-! ### the order of two places -/
instance abvDec (w v e : Int) : Decidable (Abv w v e) := by
  unfold Abv
  infer_instance
instance abDec (b0 b1 b2 w n d : Int) : Decidable (Ab b0 b1 b2 w n d) := by
  unfold Ab
  infer_instance
theorem sgn_ne {n : Int} (h : n ≠ 0) : sgn n ≠ 0 := by
  rcases Int.lt_or_le 0 n with q | q
  · rw [sgn_pos q]
    decide
  · rw [sgn_neg (by omega)]
    decide
/-- a number against a root -/
theorem rat_ord {a0 a1 a2 z n d : Int} (J : Irr a0 a1 a2) (hz : z = 0 ∨ z = 1) (hd : 0 < d) (h0 : latv a0 a1 a2 n d ≠ 0) :
    (if sgn (latv a0 a1 a2 n d) < 0 then (if z = 0 then 1 else -1) else sgn ((a1 * d + 2 * a2 * n) * d)) = if Ab a0 a1 a2 z n d then (1 : Int) else -1 := by
  have p2 := J.p2
  have l := lat4 a0 a1 a2 n d
  have ev : (a1 * d + 2 * a2 * n) * d = vat a1 a2 n d * d := by unfold vat; grind
  rw [ev]
  have sv : sgn (vat a1 a2 n d * d) = sgn (vat a1 a2 n d) := by
    rcases Int.lt_trichotomy (vat a1 a2 n d) 0 with q | q | q
    · rw [sgn_neg q]
      refine sgn_neg ?_
      have := Int.mul_pos (show 0 < -vat a1 a2 n d by omega) hd
      rw [Int.neg_mul] at this
      omega
    · rw [q, Int.zero_mul]
    · rw [sgn_pos q]
      exact sgn_pos (Int.mul_pos q hd)
  rw [sv]
  have A0 : Ab a0 a1 a2 0 n d ↔ 0 < vat a1 a2 n d ∨ vat a1 a2 n d * vat a1 a2 n d < dsc a0 a1 a2 * (d * d) := by
    unfold Ab Abv
    rw [if_pos rfl]
  have A1 : Ab a0 a1 a2 1 n d ↔ 0 < vat a1 a2 n d ∧ dsc a0 a1 a2 * (d * d) ≤ vat a1 a2 n d * vat a1 a2 n d := by
    unfold Ab Abv
    rw [if_neg (by decide)]
  have DD := Int.mul_pos J.pd (Int.mul_pos hd hd)
  by_cases h : latv a0 a1 a2 n d < 0
  · have hv : vat a1 a2 n d * vat a1 a2 n d < dsc a0 a1 a2 * (d * d) := by
      have := Int.mul_pos (show 0 < 4 * a2 by omega) (show 0 < -latv a0 a1 a2 n d by omega)
      rw [Int.mul_neg] at this
      omega
    rw [if_pos ((sgn_lt _).mpr h)]
    rcases hz with rfl | rfl
    · rw [if_pos rfl, if_pos (A0.mpr (.inr hv))]
    · rw [if_neg (by decide), if_neg (fun q => by have := (A1.mp q).2; omega)]
  · have hv : dsc a0 a1 a2 * (d * d) < vat a1 a2 n d * vat a1 a2 n d := by
      have := Int.mul_pos (show 0 < 4 * a2 by omega) (show 0 < latv a0 a1 a2 n d by omega)
      omega
    rw [if_neg (fun q => h ((sgn_lt _).mp q))]
    have vn : vat a1 a2 n d ≠ 0 := fun q => by
      rw [q, Int.mul_zero] at hv
      omega
    rcases Int.lt_or_le 0 (vat a1 a2 n d) with q | q
    · rw [sgn_pos q]
      rcases hz with rfl | rfl
      · rw [if_pos (A0.mpr (.inl q))]
      · rw [if_pos (A1.mpr ⟨q, by omega⟩)]
    · rw [sgn_neg (by omega)]
      rcases hz with rfl | rfl
      · rw [if_neg (fun x => by rcases A0.mp x with x | x <;> omega)]
      · rw [if_neg (fun x => by have := (A1.mp x).1; omega)]
theorem lat_ne {a0 a1 a2 n d : Int} (J : Irr a0 a1 a2) (hd : 0 < d) : latv a0 a1 a2 n d ≠ 0 := fun h => by
  have l := lat4 a0 a1 a2 n d
  rw [h, Int.mul_zero] at l
  have := sq_zero (f := vat a1 a2 n d) (s := d) (d := dsc a0 a1 a2) (by rw [Int.mul_comm (d * d)]; omega) J.ns J.pd
  omega
/-- a fraction against a root, by neighbours over t -/
theorem ab_F {a0 a1 a2 z n d t : Int} (J : Irr a0 a1 a2) (ht : 2 ^ 60 ≤ t) (hd : 0 < d) (hd2 : d ≤ 150) (hn : n.natAbs ≤ 300) : Ab a0 a1 a2 z n d ↔ flr a0 a1 a2 z t < n * t / d := by
  have s := sepF (w := z) J ht hn hd hd2
  generalize hF : n * t / d = F at *
  obtain ⟨f1, f2⟩ := fdiv_b hd hF.symm
  refine ⟨fun h => ?_, fun h => ?_⟩
  · rcases Int.lt_or_le (flr a0 a1 a2 z t) F with q | q
    · exact q
    · exfalso
      have l : ¬ Ab a0 a1 a2 z (flr a0 a1 a2 z t) t := by rw [ab_flr J (by omega)]; omega
      apply l
      refine ab_le J.p2 hd (by omega) ?_ h
      have := Int.mul_le_mul_of_nonneg_right (show F + 1 ≤ flr a0 a1 a2 z t by omega) (show 0 ≤ d by omega)
      rw [Int.add_mul] at this
      omega
  · have u : Ab a0 a1 a2 z (flr a0 a1 a2 z t + 1) t := by rw [ab_flr J (by omega)]; omega
    refine ab_le J.p2 (by omega) hd ?_ u
    have := Int.mul_le_mul_of_nonneg_right (show flr a0 a1 a2 z t + 1 ≤ F by omega) (show 0 ≤ d by omega)
    omega
theorem ord_RF {b0 b1 b2 w n d t : Int} (I : Irr b0 b1 b2) (ht : 2 ^ 60 ≤ t) (hn : n.natAbs ≤ 300) (hd : 0 < d) (hd2 : d ≤ 150) : sonR (-n) d 0 b0 b1 b2 w = if flr b0 b1 b2 w t < n * t / d then -1 else 1 := by
  have B := lin_b (n := -n) (d := d) I (by rw [Int.natAbs_neg]; exact hn) (by omega)
  have g := (son_gen (c0 := -n) (c1 := d) (c2 := 0) (w := w) I ht B.1 B.2 (by decide) (lin_np I.p2 hd)).1
  have s := sepF (w := w) I ht hn hd hd2
  rw [← g]
  generalize hF : n * t / d = F at *
  obtain ⟨f1, f2⟩ := fdiv_b hd hF.symm
  generalize flr b0 b1 b2 w t = L at *
  have ev : latv (-n) d 0 (2 * L + 1) (2 * t) = 2 * t * (2 * (L * d) + d - 2 * (n * t)) := by unfold latv; grind
  rw [ev]
  by_cases h : L < F
  · rw [if_pos h]
    have := Int.mul_le_mul_of_nonneg_right (show L + 1 ≤ F by omega) (show 0 ≤ d by omega)
    rw [Int.add_mul] at this
    refine sgn_neg ?_
    have p := Int.mul_pos (show 0 < 2 * t by omega) (show 0 < -(2 * (L * d) + d - 2 * (n * t)) by omega)
    rw [Int.mul_neg] at p
    omega
  · rw [if_neg h]
    have := Int.mul_le_mul_of_nonneg_right (show F + 1 ≤ L by omega) (show 0 ≤ d by omega)
    rw [Int.add_mul] at this
    exact sgn_pos (Int.mul_pos (by omega) (by omega))
theorem ord_FR {a0 a1 a2 z n d t : Int} (J : Irr a0 a1 a2) (hz : z = 0 ∨ z = 1) (ht : 2 ^ 60 ≤ t) (hn : n.natAbs ≤ 300) (hd : 0 < d) (hd2 : d ≤ 150) :
    sonF a0 a1 a2 n d ≠ 0 ∧ (if sonF a0 a1 a2 n d < 0 then (if z = 0 then 1 else -1) else sonF a1 (2 * a2) 0 n d) = if n * t / d < flr a0 a1 a2 z t then (-1 : Int) else 1 := by
  have s := sepF (w := z) J ht hn hd hd2
  have r := rat_ord J hz hd (lat_ne (n := n) J hd)
  have ne := lat_ne (n := n) J hd
  have e1 : (a0 * d + a1 * n) * d + a2 * n * n = latv a0 a1 a2 n d := by unfold latv; grind
  have e2 : (a1 * d + 2 * a2 * n) * d + 0 * n * n = (a1 * d + 2 * a2 * n) * d := by grind
  unfold sonF
  rw [e1, e2, r]
  refine ⟨sgn_ne ne, ?_⟩
  · by_cases h : Ab a0 a1 a2 z n d
    · rw [if_pos h]
      rw [ab_F J ht hd hd2 hn] at h
      rw [if_neg (by omega)]
    · rw [if_neg h]
      rw [ab_F J ht hd hd2 hn] at h
      rw [if_pos (by omega)]
theorem ord_RR {b0 b1 b2 w a0 a1 a2 z t : Int} (I : Irr b0 b1 b2) (J : Irr a0 a1 a2) (hz : z = 0 ∨ z = 1) (ht : 2 ^ 60 ≤ t) (np : ¬ (a1 * b2 - a2 * b1 = 0 ∧ a0 * b2 - a2 * b0 = 0)) :
    sonR a0 a1 a2 b0 b1 b2 w ≠ 0 ∧ (if sonR a0 a1 a2 b0 b1 b2 w < 0 then (if z = 0 then 1 else -1) else sonR a1 (2 * a2) 0 b0 b1 b2 w) = if flr b0 b1 b2 w t < flr a0 a1 a2 z t then (-1 : Int) else 1 := by
  have B := quad_b I J.s0 J.s1 J.s2
  have Bd := der_b I J.s1 J.s2
  have s2 : a2.natAbs ≤ 72 := J.s2
  have p2 := J.p2
  have g := (son_gen (w := w) I ht B.1 B.2 (by omega) np).1
  have gd := (son_gen (c0 := a1) (c1 := 2 * a2) (c2 := 0) (w := w) I ht Bd.1 Bd.2 (by decide) (lin_np (n := a1) I.p2 (by omega))).1
  have s := sepR (w := w) (z := z) I J ht np
  rw [← g, ← gd]
  have ne := lat_ne (n := 2 * flr b0 b1 b2 w t + 1) (d := 2 * t) J (by omega)
  have r := rat_ord J hz (show 0 < 2 * t by omega) ne
  have e2 : latv a1 (2 * a2) 0 (2 * flr b0 b1 b2 w t + 1) (2 * t) = (a1 * (2 * t) + 2 * a2 * (2 * flr b0 b1 b2 w t + 1)) * (2 * t) := by unfold latv; grind
  rw [e2, r]
  refine ⟨sgn_ne ne, ?_⟩
  · generalize flr b0 b1 b2 w t = L at *
    by_cases h : L < flr a0 a1 a2 z t
    · rw [if_pos h, if_neg]
      intro q
      have l : ¬ Ab a0 a1 a2 z (flr a0 a1 a2 z t) t := by rw [ab_flr J (by omega)]; omega
      apply l
      refine ab_le J.p2 (show 0 < 2 * t by omega) (by omega) ?_ q
      have := Int.mul_le_mul_of_nonneg_right (show 2 * L + 1 ≤ 2 * flr a0 a1 a2 z t by omega) (show 0 ≤ t by omega)
      have e : flr a0 a1 a2 z t * (2 * t) = 2 * flr a0 a1 a2 z t * t := by grind
      omega
    · rw [if_neg h, if_pos]
      have u : Ab a0 a1 a2 z (flr a0 a1 a2 z t + 1) t := by rw [ab_flr J (by omega)]; omega
      refine ab_le J.p2 (by omega) (show 0 < 2 * t by omega) ?_ u
      have := Int.mul_le_mul_of_nonneg_right (show 2 * (flr a0 a1 a2 z t + 1) ≤ 2 * L + 1 by omega) (show 0 ≤ t by omega)
      have e : (flr a0 a1 a2 z t + 1) * (2 * t) = 2 * (flr a0 a1 a2 z t + 1) * t := by grind
      omega


open PySem PySem.Spec PyProof.Rows L2 Vc

/-! ### is_int, floor_of, is_inner -/
def SIsInt : List D → (D → Prop) → Prop := fun ds W => (∃ i : Int, ds = [.int i] ∧ W (.bool true)) ∨ (∃ b : Bool, ds = [.bool b] ∧ W (.bool false))
theorem fIsInt {M : Md} {f : Addr} {fd : FuncData} (ms : M.mg "isinstance" = none) (mi : M.mg "int" = none) (mb : M.mg "bool" = none)
    (F : Fun M.K "is_int" "is_int" sIsInt f fd) (hm : M.mg "is_int" = some (.ref f)) (b : L2.Binds M.K fd ["thing"] []) : FnD M 1 "is_int" 1 SIsInt := by
  refine fnD_mk (k := 0) (NK := nkIsInt) (G := gIsInt) F scIsInt hm b rfl (by decide +kernel) rfl (by decide) fun X C ds W hl hS => ?_
  rcases hS with ⟨i, rfl, w⟩ | ⟨i, rfl, w⟩
  · show VSs X _ [.dat (.int i)] _
    walk_at "v"
    walk_at "v"
    refine vd_and ?_
    refine vd_isi C (T := "int") (by walk_at "at") (by walk_at "at") ?_
    walk_at "v"
    refine ⟨true, by show kitB "int" "int" = some true; decide +kernel, ?_⟩
    refine ⟨true, rfl, fun _ => ?_, fun h => absurd h (by decide)⟩
    refine vd_one (vd_not ?_)
    refine vd_isi C (T := "bool") (by walk_at "at") (by walk_at "at") ?_
    walk_at "v"
    exact ⟨false, by show kitB "int" "bool" = some false; decide +kernel, false, rfl, w⟩
  · show VSs X _ [.dat (.bool i)] _
    walk_at "v"
    walk_at "v"
    refine vd_and ?_
    refine vd_isi C (T := "int") (by walk_at "at") (by walk_at "at") ?_
    walk_at "v"
    refine ⟨true, by show kitB "bool" "int" = some true; decide +kernel, ?_⟩
    refine ⟨true, rfl, fun _ => ?_, fun h => absurd h (by decide)⟩
    refine vd_one (vd_not ?_)
    refine vd_isi C (T := "bool") (by walk_at "at") (by walk_at "at") ?_
    walk_at "v"
    exact ⟨true, by show kitB "bool" "bool" = some true; decide +kernel, true, rfl, w⟩
theorem flr_isq {b0 b1 b2 : Int} (h0 : Sb b0) (h1 : Sb b1) (h2 : Sb b2) {t : Int} (ht : 0 < t) (t64 : t ≤ 2 ^ 64) (pd : 0 < dsc b0 b1 b2) :
    0 ≤ dsc b0 b1 b2 * (t * t) ∧ (dsc b0 b1 b2 * (t * t)).natAbs < 2 ^ 150 ∧ isq (dsc b0 b1 b2 * (t * t)) < 2 ^ 80 := by
  have hd := dsc_b h0 h1 h2
  have tt := Int.mul_pos ht ht
  have a := Int.mul_nonneg (show 0 ≤ dsc b0 b1 b2 by omega) (show 0 ≤ t * t by omega)
  have t1 := Int.mul_le_mul_of_nonneg_left t64 (show 0 ≤ t by omega)
  have t2 : t * t ≤ 2 ^ 128 := by omega
  have c := Int.mul_le_mul_of_nonneg_right hd (show 0 ≤ t * t by omega)
  refine ⟨a, by omega, ?_⟩
  have r := (isqrt_root (dsc b0 b1 b2 * (t * t)).natAbs).1
  unfold isq
  rcases Nat.lt_or_ge (Float64.isqrt (dsc b0 b1 b2 * (t * t)).natAbs) (2 ^ 80) with z | z
  · exact z
  · have := Nat.mul_le_mul z z
    omega
theorem tpow (k : Nat) : (0 : Int) < 2 ^ k := Int.pow_pos (by decide)
theorem tle {k : Nat} (h : k ≤ 64) : (2 : Int) ^ k ≤ 2 ^ 64 := by
  have := Nat.pow_le_pow_right (show 0 < 2 by decide) h
  have e : ((2 ^ k : Nat) : Int) ≤ ((2 ^ 64 : Nat) : Int) := Int.ofNat_le.mpr this
  rw [Int.natCast_pow, Int.natCast_pow] at e
  exact e
def SFloor : List D → (D → Prop) → Prop := fun ds W => ∃ (pl : D) (kb : Nat), ds = [pl, .int (kb : Int)] ∧ kb ≤ 64 ∧
  ((∃ n d : Int, pl = .tuple [.int n, .int d] ∧ n.natAbs < 2 ^ 60 ∧ 0 < d ∧ d.natAbs < 2 ^ 60 ∧ W (.int (n * 2 ^ kb / d))) ∨
   (∃ b0 b1 b2 w : Int, pl = rootD (tup3 b0 b1 b2) w ∧ Irr b0 b1 b2 ∧ W (.int (flr b0 b1 b2 w (2 ^ kb)))))
theorem fFloor {M : Md} {f : Addr} {fd : FuncData} (mi : M.mg "isqrt" = some (.builtin "math.isqrt")) (FD : FnD M 1 "discriminant" 3 (S3 300 fun a b c => .int (dsc a b c)))
    (F : Fun M.K "floor_of" "floor_of" sFloorOf f fd) (hm : M.mg "floor_of" = some (.ref f)) (b : L2.Binds M.K fd ["root", "bits"] []) : FnD M 2 "floor_of" 2 SFloor := by
  refine fnD_mk (k := 1) (NK := nkFloorOf) (G := gFloorOf) F scFloorOf hm b rfl (by decide +kernel) rfl (by decide) fun X C ds W hl hS => ?_
  obtain ⟨pl, kb, rfl, hk, hS⟩ := hS
  have ek : ((kb : Int)).toNat = kb := Int.toNat_natCast kb
  show VSs X _ [.dat pl, .dat (.int (kb : Int)), .no, .no, .no, .no, .no, .no, .no, .no] _
  rcases hS with ⟨n, d, rfl, hn, d0, hd, w⟩ | ⟨b0, b1, b2, wh, rfl, I, w⟩
  · walk_at "vv"
    refine ⟨_, rfl, ?_⟩
    walk_at "vv"
    refine ⟨rfl, shRoot, ?_⟩
    refine ⟨fun _ => ?_, fun h => absurd h (by show ¬ (true = false); decide)⟩
    walk_at "v"
    refine vs_asg ?_
    walk_at "v"
    refine vg_tup C ?_
    walk_at "vv"
    refine ⟨⟨by omega, by omega, by omega⟩, ?_⟩
    rw [ek]
    walk_at "vv"
    exact ⟨divW d0 (Nat.lt_trans hd (by decide +kernel)), w⟩
  · have hs1 : b1.natAbs ≤ 72 := I.s1
    have hs2 : b2.natAbs ≤ 72 := I.s2
    have p2 := I.p2
    have hD := dsc_small I.s0.sm I.s1.sm I.s2.sm
    obtain ⟨q0, q1, q2⟩ := flr_isq I.s0 I.s1 I.s2 (tpow kb) (tle hk) I.pd
    have e2 : (2 : Int) ^ (2 * (kb : Int)).toNat = 2 ^ kb * 2 ^ kb := by
      have : (2 * (kb : Int)).toNat = kb + kb := by omega
      rw [this, Int.pow_add]
    walk_at "vv"
    refine ⟨_, rfl, ?_⟩
    walk_at "vv"
    refine ⟨shRoot, shRoot, ?_⟩
    refine ⟨fun h => absurd (h : (!PyData.eqv (.str "root") (.str "root")) = true) (by rw [eqRoot]; decide), fun _ => ?_⟩
    refine vss_nil ?_
    walk_at "v"
    refine vs_asg ?_
    walk_at "v"
    refine vg_tup C ?_
    walk_at "vv"
    refine vg_tup C ?_
    walk_at "vv"
    refine vd_callM C does_isqrt (by walk_at "at") ?_
    walk_at "v"
    walk_at "v"
    refine vd_call C FD (by walk_at "at") ?_
    walk_at "vv"
    refine ⟨rfl, b0, b1, b2, rfl, absup I.s0.sm (by decide), absup I.s1.sm (by decide), absup I.s2.sm (by decide), ?_⟩
    walk_at "vv"
    refine ⟨mulB (a := 10) (b := 10) (by decide) (by omega) (by decide) (by decide), ?_⟩
    refine ⟨⟨by omega, by omega, by omega⟩, ?_⟩
    rw [e2]
    walk_at "vv"
    refine ⟨_, rfl, q0, absup q1 (by decide), fun r hr => ?_⟩
    have er : r = isq (dsc b0 b1 b2 * (2 ^ kb * 2 ^ kb)) := hr.uniq (isqrt_root _)
    subst er
    unfold flr at w
    walk_at "vv"
    refine ⟨fun h => ?_, fun h => ?_⟩
    · have h : wh = 0 := of_decide_eq_true h
      rw [if_pos h] at w
      walk_at "vv"
      refine ⟨_, rfl, ?_⟩
      walk_at "vv"
      refine ⟨_, rfl, ?_⟩
      walk_at "vv"
      refine ⟨⟨by omega, by omega, by omega⟩, ?_⟩
      rw [ek]
      walk_at "vv"
      refine ⟨mulB (a := 10) (b := 10) (by decide) (by omega) (by decide) (by decide), ?_⟩
      exact ⟨divW (by omega) (Nat.lt_trans (show (2 * b2).natAbs < 2 ^ 20 by omega) (by decide +kernel)), w⟩
    · have h : ¬ wh = 0 := of_decide_eq_false h
      rw [if_neg h] at w
      refine vss_nil ?_
      walk_at "vv"
      refine ⟨_, rfl, ?_⟩
      walk_at "vv"
      refine ⟨⟨by omega, by omega, by omega⟩, ?_⟩
      rw [ek]
      walk_at "vv"
      refine ⟨mulB (a := 10) (b := 10) (by decide) (by omega) (by decide) (by decide), ?_⟩
      exact ⟨divW (by omega) (Nat.lt_trans (show (2 * b2).natAbs < 2 ^ 20 by omega) (by decide +kernel)), w⟩
def SInner : List D → (D → Prop) → Prop := fun ds W =>
  (∃ n d : Int, ds = [.tuple [.int n, .int d]] ∧ W (.bool (decide (0 < n) && decide (n < d)))) ∨
  (∃ b0 b1 b2 w : Int, ds = [rootD (tup3 b0 b1 b2) w] ∧ Irr b0 b1 b2 ∧ W (.bool (decide (flr b0 b1 b2 w 1 = 0))))
theorem fInner {M : Md} {f : Addr} {fd : FuncData} (FF : FnD M 2 "floor_of" 2 SFloor)
    (F : Fun M.K "is_inner" "is_inner" sIsInner f fd) (hm : M.mg "is_inner" = some (.ref f)) (b : L2.Binds M.K fd ["root"] []) : FnD M 3 "is_inner" 1 SInner := by
  refine fnD_mk (k := 2) (NK := nkIsInner) (G := gIsInner) F scIsInner hm b rfl (by decide +kernel) rfl (by decide) fun X C ds W hl hS => ?_
  rcases hS with ⟨n, d, rfl, w⟩ | ⟨b0, b1, b2, wh, rfl, I, w⟩
  · show VSs X _ [.dat (.tuple [.int n, .int d])] _
    walk_at "vv"
    refine ⟨_, rfl, ?_⟩
    walk_at "vv"
    refine ⟨rfl, shRoot, ?_⟩
    refine ⟨fun h => absurd h (by show ¬ (false = true); decide), fun _ => ?_⟩
    refine vss_nil ?_
    walk_at "v"
    walk_at "v"
    refine vd_chain C ?_
    walk_at "vv"
    refine ⟨_, rfl, ?_⟩
    refine ⟨fun h => ?_, fun h => ?_⟩
    · walk_at "vv"
      refine ⟨_, rfl, ?_⟩
      rw [h, Bool.true_and] at w
      exact w
    · rw [h, Bool.false_and] at w
      exact w
  · show VSs X _ [.dat (rootD (tup3 b0 b1 b2) wh)] _
    walk_at "vv"
    refine ⟨_, rfl, ?_⟩
    walk_at "vv"
    refine ⟨shRoot, shRoot, ?_⟩
    refine ⟨fun _ => ?_, fun h => absurd (h : (PyData.eqv (.str "root") (.str "root")) = false) (by rw [eqRoot]; decide)⟩
    walk_at "v"
    walk_at "v"
    walk_at "v"
    refine vd_call C FF (by walk_at "at") ?_
    walk_at "vv"
    refine ⟨rfl, _, 0, rfl, by decide, .inr ⟨b0, b1, b2, wh, rfl, I, ?_⟩⟩
    walk_at "vv"
    exact w


open PySem PySem.Spec PyProof.Rows L2 Vc

/-! ### places as data -/
def PlaceOk (x : D) : Prop := (∃ n m : Int, x = .tuple [.int n, .int m] ∧ n.natAbs < 2 ^ 200 ∧ m.natAbs < 2 ^ 200 ∧ 0 < m) ∨
  (∃ b0 b1 b2 w : Int, x = rootD (tup3 b0 b1 b2) w ∧ (w = 0 ∨ w = 1) ∧ Irr b0 b1 b2)
theorem lay_frac (n m : Int) : PyData.canLay0 (.tuple [.int n, .int m]) = true := by simp [PyData.canLay0, PyData.canLayAll0]
theorem lay_str : PyData.canLay0 (.str "root") = true := by decide +kernel
theorem lay_root (b0 b1 b2 w : Int) : PyData.canLay0 (rootD (tup3 b0 b1 b2) w) = true := by
  have := lay_str
  simp [rootD, PyData.canLay0, PyData.canLayAll0] at this ⊢
  exact this
theorem dep_frac (n m : Int) : PyData.depth (.tuple [.int n, .int m]) ≤ 2 := by simp [PyData.depth, PyData.depthAll]
theorem dep_root (b0 b1 b2 w : Int) : PyData.depth (rootD (tup3 b0 b1 b2) w) ≤ 2 := by simp [rootD, PyData.depth, PyData.depthAll]
theorem PlaceOk.lay {x : D} (h : PlaceOk x) : PyData.canLay0 x = true ∧ PyData.depth x ≤ 2 := by
  rcases h with ⟨n, m, rfl, _⟩ | ⟨b0, b1, b2, w, rfl, _⟩
  · exact ⟨lay_frac n m, dep_frac n m⟩
  · exact ⟨lay_root b0 b1 b2 w, dep_root b0 b1 b2 w⟩
theorem lay_all : ∀ {ds : List D}, (∀ x ∈ ds, PlaceOk x) → PyData.canLayAll0 ds = true ∧ PyData.depthAll ds ≤ 2
  | [], _ => ⟨rfl, Nat.zero_le _⟩
  | x :: xs, h => by
    have a := (h x (by simp)).lay
    have b := lay_all (ds := xs) fun y hy => h y (by simp [hy])
    refine ⟨?_, ?_⟩
    · simp [PyData.canLayAll0, a.1, b.1]
    · have e : PyData.depthAll (x :: xs) = max x.depth (PyData.depthAll xs) := by simp [PyData.depthAll]
      rw [e]
      omega
theorem shaped_list {ds : List D} (h : ∀ x ∈ ds, PlaceOk x) : SeqAt.shaped (.list ds) = true := by
  have a := lay_all h
  unfold SeqAt.shaped
  have e : PyData.depth (.list ds) = PyData.depthAll ds + 1 := by simp [PyData.depth]
  have e2 : PyData.canLay0 (.list ds) = PyData.canLayAll0 ds := by simp [PyData.canLay0]
  rw [e, e2, a.1, Bool.true_and]
  exact decide_eq_true (by omega)
theorem PlaceOk.shaped {x : D} (h : PlaceOk x) : SeqAt.shaped x = true := by
  have a := h.lay
  unfold SeqAt.shaped
  rw [a.1, Bool.true_and]
  exact decide_eq_true (by omega)
theorem eqv_list {ds : List D} (h : ∀ x ∈ ds, PlaceOk x) : PyData.eqv (.list ds) (.list ds) = true := SeqAt.eqv_refl _ (by
  have e2 : PyData.canLay0 (.list ds) = PyData.canLayAll0 ds := by simp [PyData.canLay0]
  rw [e2]
  exact (lay_all h).1)
theorem eqv_place {x y : D} (hx : PlaceOk x) (hy : PlaceOk y) (e : PyData.eqv x y = true) : x = y := by
  rcases hx with ⟨n, m, rfl, _⟩ | ⟨b0, b1, b2, w, rfl, _⟩
  · rcases hy with ⟨n', m', rfl, _⟩ | ⟨b0', b1', b2', w', rfl, _⟩
    · simp [PyData.eqv, PyData.eqvAll] at e
      rw [e.1, e.2]
    · simp [rootD, PyData.eqv, PyData.eqvAll] at e
  · rcases hy with ⟨n', m', rfl, _⟩ | ⟨b0', b1', b2', w', rfl, _⟩
    · simp [rootD, PyData.eqv, PyData.eqvAll] at e
    · simp [rootD, PyData.eqv, PyData.eqvAll] at e
      obtain ⟨⟨e1, e2, e3⟩, e4⟩ := e
      rw [e1, e2, e3, e4]
/-- the sign at a place -/
def sonD (c0 c1 c2 : Int) : D → Int
  | .tuple [.int n, .int m] => sonF c0 c1 c2 n m
  | .tuple [.str _, .tuple [.int b0, .int b1, .int b2], .int w] => sonR c0 c1 c2 b0 b1 b2 w
  | _ => 0
theorem son_spec {c0 c1 c2 : Int} {x : D} {W : D → Prop} (h0 : Sm c0) (h1 : Sm c1) (h2 : Sm c2) (h : PlaceOk x) (w : W (.int (sonD c0 c1 c2 x))) : SSon [tup3 c0 c1 c2, x] W := by
  refine ⟨c0, c1, c2, x, rfl, h0, h1, h2, ?_⟩
  rcases h with ⟨n, m, rfl, hn, hm, _⟩ | ⟨b0, b1, b2, wh, rfl, _, I⟩
  · exact .inl ⟨n, m, rfl, hn, hm, w⟩
  · exact .inr ⟨b0, b1, b2, wh, rfl, I.s0.sm, I.s1.sm, I.s2.sm, w⟩
theorem sonD_0 {x : D} (h : PlaceOk x) : sonD 0 0 0 x = 0 := by
  rcases h with ⟨n, m, rfl, _⟩ | ⟨b0, b1, b2, w, rfl, _⟩
  · show sgn ((0 * m + 0 * n) * m + 0 * n * n) = 0
    rw [show (0 * m + 0 * n) * m + 0 * n * n = 0 by simp]
    rfl
  · show sonR 0 0 0 b0 b1 b2 w = 0
    exact son_zero ⟨by simp, by simp, by simp⟩
theorem sonD_m {x : D} (h : PlaceOk x) : sonD (-1) 0 0 x = -1 := by
  rcases h with ⟨n, m, rfl, _, _, hm⟩ | ⟨b0, b1, b2, w, rfl, _, I⟩
  · show sgn ((-1 * m + 0 * n) * m + 0 * n * n) = -1
    refine sgn_neg ?_
    have := Int.mul_pos hm hm
    have e : (-1 * m + 0 * n) * m + 0 * n * n = -(m * m) := by grind
    omega
  · show sonR (-1) 0 0 b0 b1 b2 w = -1
    unfold sonR
    have e1 : 2 * b2 * (-1 * b2 - 0 * b0) - b1 * (0 * b2 - 0 * b1) = -(2 * (b2 * b2)) := by grind
    have e2 : 0 * b2 - 0 * b1 = 0 := by simp
    rw [e1, e2, Int.neg_zero, ite_self]
    have := Int.mul_pos I.p2 I.p2
    unfold surd
    rw [sgn_neg (n := -(2 * (b2 * b2))) (by omega), sgn_zero]
    rfl
/-! ### the roots are places, and there the sign is 0 -/
theorem fr_facts {n d : Int} (hd : 0 < d) : ∃ n' d' g : Int, fr n d = .tuple [.int n', .int d'] ∧ g ≠ 0 ∧ n = n' * g ∧ d = d' * g ∧ 0 < d' ∧ n'.natAbs ≤ n.natAbs ∧ d'.natAbs ≤ d.natAbs := by
  have hg : 0 < Nat.gcd n.natAbs d.natAbs := Nat.gcd_pos_of_pos_right _ (by omega)
  have e1 := Int.ediv_mul_cancel (gcd_dvdn n d)
  have e2 := Int.ediv_mul_cancel (gcd_dvdd n d)
  refine ⟨_, _, ((Nat.gcd n.natAbs d.natAbs : Nat) : Int), rfl, by omega, e1.symm, e2.symm, ?_, ?_, ?_⟩
  · rcases Int.lt_or_le 0 (d / ((Nat.gcd n.natAbs d.natAbs : Nat) : Int)) with q | q
    · exact q
    · have := Int.mul_nonneg (show 0 ≤ -(d / ((Nat.gcd n.natAbs d.natAbs : Nat) : Int)) by omega) (show (0 : Int) ≤ ((Nat.gcd n.natAbs d.natAbs : Nat) : Int) by omega)
      rw [Int.neg_mul] at this
      omega
  · have h := congrArg Int.natAbs e1
    rw [Int.natAbs_mul, Int.natAbs_natCast] at h
    have := Nat.mul_le_mul_left (n / ((Nat.gcd n.natAbs d.natAbs : Nat) : Int)).natAbs hg
    omega
  · have h := congrArg Int.natAbs e2
    rw [Int.natAbs_mul, Int.natAbs_natCast] at h
    have := Nat.mul_le_mul_left (d / ((Nat.gcd n.natAbs d.natAbs : Nat) : Int)).natAbs hg
    omega
theorem frq_facts {n d : Int} (hd : d ≠ 0) : ∃ n' d' g : Int, frq n d = .tuple [.int n', .int d'] ∧ g ≠ 0 ∧ n = n' * g ∧ d = d' * g ∧ 0 < d' ∧ n'.natAbs ≤ n.natAbs ∧ d'.natAbs ≤ d.natAbs := by
  unfold frq
  by_cases h : d < 0
  · rw [if_pos h]
    obtain ⟨n', d', g, e, g0, h1, h2, h3, h4, h5⟩ := fr_facts (n := -n) (d := -d) (by omega)
    exact ⟨n', d', -g, e, by omega, by rw [Int.mul_neg, ← h1, Int.neg_neg], by rw [Int.mul_neg, ← h2, Int.neg_neg], h3, by omega, by omega⟩
  · rw [if_neg h]
    exact fr_facts (by omega)
theorem frq_place {n d c0 c1 c2 : Int} (hd : d ≠ 0) (hn : n.natAbs < 2 ^ 200) (hd2 : d.natAbs < 2 ^ 200) (hz : c0 * d * d + c1 * n * d + c2 * n * n = 0) : PlaceOk (frq n d) ∧ sonD c0 c1 c2 (frq n d) = 0 := by
  obtain ⟨n', d', g, e, g0, h1, h2, h3, h4, h5⟩ := frq_facts (n := n) hd
  rw [e]
  refine ⟨.inl ⟨n', d', rfl, by omega, by omega, h3⟩, ?_⟩
  show sgn ((c0 * d' + c1 * n') * d' + c2 * n' * n') = 0
  have q : g * g * ((c0 * d' + c1 * n') * d' + c2 * n' * n') = 0 := by
    rw [h1, h2] at hz
    rw [← hz]
    grind
  have g2 : g * g ≠ 0 := fun z => (Int.mul_eq_zero.mp z).elim g0 g0
  have z := (Int.mul_eq_zero.mp q).elim (fun z => absurd z g2) (fun z => z)
  rw [z]
  rfl
theorem irr_of {a b c : Int} (ha : Sb a) (hb : Sb b) (hc : Sb c) (p : 0 < c) (pd : 0 ≤ dsc a b c) (ns : ¬ ((isq (dsc a b c) : Nat) : Int) * ((isq (dsc a b c) : Nat) : Int) = dsc a b c) : Irr a b c := by
  refine ⟨ha, hb, hc, p, ?_, ns⟩
  rcases Int.lt_or_le 0 (dsc a b c) with q | q
  · exact q
  · have z : dsc a b c = 0 := by omega
    rw [z] at ns
    exact absurd (by decide +kernel) ns
theorem rtsP_facts {e0 e1 e2 c0 c1 c2 : Int} (h0 : Sb e0) (h1 : Sb e1) (h2 : Sb e2) (p : 0 < e2) (pd : 0 ≤ dsc e0 e1 e2) (g : g3 e0 e1 e2 = 1) (hs : (c0 = e0 ∧ c1 = e1 ∧ c2 = e2) ∨ (c0 = -e0 ∧ c1 = -e1 ∧ c2 = -e2)) :
    (rtsP e0 e1 e2).length ≤ 2 ∧ ∀ x ∈ rtsP e0 e1 e2, PlaceOk x ∧ sonD c0 c1 c2 x = 0 := by
  have sd := dsc_small h0.sm h1.sm h2.sm
  have sq := isq_small sd
  have b0 : e0.natAbs ≤ 72 := h0
  have b1 : e1.natAbs ≤ 72 := h1
  have b2 : e2.natAbs ≤ 72 := h2
  unfold rtsP
  by_cases y : ((isq (dsc e0 e1 e2) : Nat) : Int) * ((isq (dsc e0 e1 e2) : Nat) : Int) = dsc e0 e1 e2
  · rw [if_pos y]
    have one : ∀ s : Int, s = ((isq (dsc e0 e1 e2) : Nat) : Int) ∨ s = -((isq (dsc e0 e1 e2) : Nat) : Int) → PlaceOk (frq (-e1 + s) (2 * e2)) ∧ sonD c0 c1 c2 (frq (-e1 + s) (2 * e2)) = 0 := fun s hsg => by
      have ss : s * s = dsc e0 e1 e2 := by
        rcases hsg with z | z
        · rw [z]; exact y
        · rw [z, Int.neg_mul_neg]; exact y
      refine frq_place (by omega) (by omega) (by omega) ?_
      unfold dsc at ss
      rcases hs with ⟨rfl, rfl, rfl⟩ | ⟨rfl, rfl, rfl⟩
      · have : c0 * (2 * c2) * (2 * c2) + c1 * (-c1 + s) * (2 * c2) + c2 * (-c1 + s) * (-c1 + s) = c2 * (s * s - (c1 * c1 - 4 * c0 * c2)) := by grind
        rw [this, ss, Int.sub_self, Int.mul_zero]
      · have : -e0 * (2 * e2) * (2 * e2) + -e1 * (-e1 + s) * (2 * e2) + -e2 * (-e1 + s) * (-e1 + s) = -(e2 * (s * s - (e1 * e1 - 4 * e0 * e2))) := by grind
        rw [this, ss, Int.sub_self, Int.mul_zero]
        rfl
    by_cases z : ((isq (dsc e0 e1 e2) : Nat) : Int) = 0
    · rw [if_pos z]
      refine ⟨by show 1 ≤ 2; decide, fun x hx => ?_⟩
      have := one 0 (.inl z.symm)
      rw [Int.add_zero] at this
      simp only [List.mem_cons, List.not_mem_nil, or_false] at hx
      rw [hx]
      exact this
    · rw [if_neg z]
      refine ⟨by show 2 ≤ 2; decide, fun x hx => ?_⟩
      simp only [List.mem_cons, List.not_mem_nil, or_false] at hx
      rcases hx with hx | hx
      · rw [hx, Int.sub_eq_add_neg]
        exact one _ (.inr rfl)
      · rw [hx]
        exact one _ (.inl rfl)
  · rw [if_neg y, und_wh g]
    have I := irr_of h0 h1 h2 p pd y
    refine ⟨by show 2 ≤ 2; decide, fun x hx => ?_⟩
    have z : ∀ w : Int, sonR c0 c1 c2 e0 e1 e2 w = 0 := fun w => son_zero (by
      rcases hs with ⟨rfl, rfl, rfl⟩ | ⟨rfl, rfl, rfl⟩
      · exact ⟨Int.mul_comm _ _, Int.mul_comm _ _, Int.mul_comm _ _⟩
      · exact ⟨by grind, by grind, by grind⟩)
    simp only [List.mem_cons, List.not_mem_nil, or_false] at hx
    rcases hx with hx | hx
    · rw [hx]
      exact ⟨.inr ⟨e0, e1, e2, 0, rfl, .inl rfl, I⟩, z 0⟩
    · rw [hx]
      exact ⟨.inr ⟨e0, e1, e2, 1, rfl, .inr rfl, I⟩, z 1⟩
theorem Sb.neg {n : Int} (h : Sb n) : Sb (-n) := by
  unfold Sb at *
  omega
theorem rts_facts {a b c : Int} (ha : Sb a) (hb : Sb b) (hc : Sb c) (hw : Wh a b c) : (rts a b c).length ≤ 2 ∧ ∀ x ∈ rts a b c, PlaceOk x ∧ sonD a b c x = 0 := by
  have a1 : a.natAbs ≤ 72 := ha
  have b1 : b.natAbs ≤ 72 := hb
  unfold rts
  by_cases z : c = 0
  · rw [if_pos z]
    by_cases y : b = 0
    · rw [if_pos y]
      exact ⟨by decide, fun _ h => nomatch h⟩
    · rw [if_neg y]
      refine ⟨by show 1 ≤ 2; decide, fun x hx => ?_⟩
      simp only [List.mem_cons, List.not_mem_nil, or_false] at hx
      rw [hx]
      refine frq_place y (by omega) (by omega) ?_
      rw [z]
      grind
  · rw [if_neg z]
    have g := wh_g3 hw z
    unfold rts2
    by_cases y : dsc a b c < 0
    · rw [if_pos y]
      exact ⟨by show 0 ≤ 2; decide, fun _ h => nomatch h⟩
    · rw [if_neg y]
      by_cases x : c < 0
      · rw [if_pos x]
        exact rtsP_facts ha.neg hb.neg hc.neg (by omega) (by rw [dsc_neg]; omega) (by rw [g3_neg]; exact g) (.inr ⟨by omega, by omega, by omega⟩)
      · rw [if_neg x]
        exact rtsP_facts ha hb hc (by omega) (by omega) g (.inl ⟨rfl, rfl, rfl⟩)


/-! ### places of the law -/
def PlaceN (x : D) : Prop := (∃ n d : Int, x = .tuple [.int n, .int d] ∧ n.natAbs ≤ 300 ∧ 0 < d ∧ d ≤ 150 ∧ Nat.gcd n.natAbs d.natAbs = 1) ∨
  (∃ b0 b1 b2 w : Int, x = rootD (tup3 b0 b1 b2) w ∧ (w = 0 ∨ w = 1) ∧ Irr b0 b1 b2 ∧ g3 b0 b1 b2 = 1)
theorem PlaceN.ok {x : D} (h : PlaceN x) : PlaceOk x := by
  rcases h with ⟨n, d, rfl, h1, h2, h3, _⟩ | ⟨b0, b1, b2, w, rfl, h1, h2, _⟩
  · exact .inl ⟨n, d, rfl, by omega, by omega, h2⟩
  · exact .inr ⟨b0, b1, b2, w, rfl, h1, h2⟩
def flD : D → Int
  | .tuple [.int n, .int d] => n * 2 ^ 90 / d
  | .tuple [.str _, .tuple [.int b0, .int b1, .int b2], .int w] => flr b0 b1 b2 w (2 ^ 90)
  | _ => 0
def ordN : D → D → Int
  | .tuple [.int n, .int d], .tuple [.int m, .int e] => sgn (n * e - m * d)
  | x, y => if PyData.eqv x y = true then 0 else if flD x < flD y then -1 else 1
theorem t90 : (2 : Int) ^ 60 ≤ 2 ^ 90 := by decide
theorem prop_eq {b0 b1 b2 a0 a1 a2 : Int} (hb : 0 < b2) (ha : 0 < a2) (gb : g3 b0 b1 b2 = 1) (ga : g3 a0 a1 a2 = 1) (h1 : a1 * b2 = a2 * b1) (h2 : a0 * b2 = a2 * b0) : a0 = b0 ∧ a1 = b1 ∧ a2 = b2 := by
  have div : ∀ {x0 x1 x2 y0 y1 y2 : Int}, g3 x0 x1 x2 = 1 → y1 * x2 = y2 * x1 → y0 * x2 = y2 * x0 → x2.natAbs ∣ y2.natAbs := fun {x0 x1 x2 y0 y1 y2} g e1 e0 => by
    have d0 : x2.natAbs ∣ y2.natAbs * x0.natAbs := by
      rw [← Int.natAbs_mul, ← e0, Int.natAbs_mul]
      exact Nat.dvd_mul_left _ _
    have d1 : x2.natAbs ∣ y2.natAbs * x1.natAbs := by
      rw [← Int.natAbs_mul, ← e1, Int.natAbs_mul]
      exact Nat.dvd_mul_left _ _
    have d2 : x2.natAbs ∣ y2.natAbs * x2.natAbs := Nat.dvd_mul_left _ _
    have := Nat.dvd_gcd (Nat.dvd_gcd d0 d1) d2
    rw [Nat.gcd_mul_left, Nat.gcd_mul_left] at this
    have e : Nat.gcd (Nat.gcd x0.natAbs x1.natAbs) x2.natAbs = 1 := g
    rw [e, Nat.mul_one] at this
    exact this
  have u := div gb h1 h2
  have v := div ga (y0 := b0) (y1 := b1) (y2 := b2) (by rw [Int.mul_comm, ← h1, Int.mul_comm]) (by rw [Int.mul_comm, ← h2, Int.mul_comm])
  have e := Nat.dvd_antisymm u v
  have e2 : a2 = b2 := by omega
  subst e2
  rw [Int.mul_comm] at h1 h2
  exact ⟨Int.eq_of_mul_eq_mul_left (by omega) h2, Int.eq_of_mul_eq_mul_left (by omega) h1, rfl⟩
theorem eqv_fr (n d b0 b1 b2 w : Int) : PyData.eqv (.tuple [.int n, .int d]) (rootD (tup3 b0 b1 b2) w) = false := by simp [rootD, PyData.eqv, PyData.eqvAll]
theorem eqv_rf (n d b0 b1 b2 w : Int) : PyData.eqv (rootD (tup3 b0 b1 b2) w) (.tuple [.int n, .int d]) = false := by simp [rootD, PyData.eqv, PyData.eqvAll]
theorem eqv_rr (a0 a1 a2 z b0 b1 b2 w : Int) : PyData.eqv (rootD (tup3 a0 a1 a2) z) (rootD (tup3 b0 b1 b2) w) = (decide (a0 = b0 ∧ a1 = b1 ∧ a2 = b2) && decide (z = w)) := by
  have e : PyData.eqv (.str "root") (.str "root") = true := eqRoot
  simp [PyData.eqv] at e
  simp [rootD, PyData.eqv, PyData.eqvAll]
  grind
theorem eqv_ff (n d m e : Int) : PyData.eqv (.tuple [.int n, .int d]) (.tuple [.int m, .int e]) = (decide (n = m) && decide (d = e)) := by
  simp [PyData.eqv, PyData.eqvAll]
  grind
/-! ### order_of -/
def SOrder : List D → (D → Prop) → Prop := fun ds W => ∃ x y : D, ds = [x, y] ∧ PlaceN x ∧ PlaceN y ∧ W (.int (ordN x y))
theorem ordN_RR_eq {b0 b1 b2 w z : Int} (I : Irr b0 b1 b2) (hw : w = 0 ∨ w = 1) (hz : z = 0 ∨ z = 1) : ordN (rootD (tup3 b0 b1 b2) w) (rootD (tup3 b0 b1 b2) z) = sgn (w - z) := by
  have s := sepS I t90
  show (if PyData.eqv (rootD (tup3 b0 b1 b2) w) (rootD (tup3 b0 b1 b2) z) = true then 0 else if flr b0 b1 b2 w (2 ^ 90) < flr b0 b1 b2 z (2 ^ 90) then -1 else 1) = _
  rw [eqv_rr]
  rcases hw with rfl | rfl <;> rcases hz with rfl | rfl
  · simp; rfl
  · rw [if_neg (by simp), if_pos s]; rfl
  · rw [if_neg (by simp), if_neg (by omega)]; rfl
  · simp; rfl


open PySem PySem.Spec PyProof.Rows L2 Vc

/-! ### places, and larger fractions -/
def PlaceG (x : D) : Prop := (∃ n d : Int, x = .tuple [.int n, .int d] ∧ n.natAbs ≤ 2 ^ 70 ∧ 0 < d ∧ d ≤ 2 ^ 70 ∧ True) ∨
  (∃ b0 b1 b2 w : Int, x = rootD (tup3 b0 b1 b2) w ∧ (w = 0 ∨ w = 1) ∧ Irr b0 b1 b2 ∧ True)
theorem PlaceG.ok {x : D} (h : PlaceG x) : PlaceOk x := by
  rcases h with ⟨n, d, rfl, h1, h2, h3, _⟩ | ⟨b0, b1, b2, w, rfl, h1, h2, _⟩
  · exact .inl ⟨n, d, rfl, by omega, by omega, h2⟩
  · exact .inr ⟨b0, b1, b2, w, rfl, h1, h2⟩
theorem PlaceN.g {x : D} (h : PlaceN x) : PlaceG x := by
  rcases h with ⟨n, d, rfl, h1, h2, h3, _⟩ | ⟨b0, b1, b2, w, rfl, h1, h2, _⟩
  · exact .inl ⟨n, d, rfl, by omega, h2, by omega, trivial⟩
  · exact .inr ⟨b0, b1, b2, w, rfl, h1, h2, trivial⟩

/-! ### _law_order, _law_in -/
theorem span_spec {x : D} {W : D → Prop} (P : PlaceG x) (w : W (.tuple [.int (flD x), .int (flD x + 1)])) : SSpan [x] W := by
  rcases P with ⟨n, d, rfl, hn, hd, hd2, _⟩ | ⟨b0, b1, b2, wh, rfl, hw, I, _⟩
  · exact .inl ⟨n, d, rfl, by omega, by omega, hd, w⟩
  · refine .inr ⟨b0, b1, b2, wh, rfl, hw, I, fun low high h => ?_⟩
    obtain ⟨e1, e2⟩ := spn_flr I h
    rw [e1, e2]
    exact w
def SLOrder : List D → (D → Prop) → Prop := fun ds W => ∃ x y : D, ds = [x, y] ∧ PlaceG x ∧ PlaceG y ∧ W (.int (ordN x y))
/-- two places that are not both fractions -/
theorem ordN_gen {x y : D} (P : PlaceG x) (Q : PlaceG y) (h : PyData.eqv x y = false) (nf : ¬ ∃ n d m e : Int, x = .tuple [.int n, .int d] ∧ y = .tuple [.int m, .int e]) : ordN x y = if flD x < flD y then -1 else 1 := by
  rcases P with ⟨n, d, rfl, _⟩ | ⟨b0, b1, b2, wh, rfl, _⟩
  · rcases Q with ⟨m, e, rfl, _⟩ | ⟨a0, a1, a2, z, rfl, _⟩
    · exact absurd ⟨n, d, m, e, rfl, rfl⟩ nf
    · exact if_neg (t := (0 : Int)) (c := PyData.eqv (.tuple [.int n, .int d]) (rootD (tup3 a0 a1 a2) z) = true) (by rw [eqv_fr]; decide)
  · rcases Q with ⟨m, e, rfl, _⟩ | ⟨a0, a1, a2, z, rfl, _⟩
    · exact if_neg (t := (0 : Int)) (c := PyData.eqv (rootD (tup3 b0 b1 b2) wh) (.tuple [.int m, .int e]) = true) (by rw [eqv_rf]; decide)
    · exact if_neg (t := (0 : Int)) (c := PyData.eqv (rootD (tup3 b0 b1 b2) wh) (rootD (tup3 a0 a1 a2) z) = true) (by rw [h]; decide)
theorem ordN_same {x y : D} (P : PlaceG x) (Q : PlaceG y) (h : PyData.eqv x y = true) : ordN x y = 0 := by
  have e := eqv_place P.ok Q.ok h
  subst e
  rcases P with ⟨n, d, rfl, _⟩ | ⟨b0, b1, b2, wh, rfl, _⟩
  · show sgn (n * d - n * d) = 0
    rw [Int.sub_self]
    rfl
  · show (if PyData.eqv (rootD (tup3 b0 b1 b2) wh) (rootD (tup3 b0 b1 b2) wh) = true then 0 else _) = _
    rw [h, if_pos rfl]
theorem cmp_eqP {x y : D} {K : Bool → Prop} (P : PlaceG x) (Q : PlaceG y) (q : K (PyData.eqv x y)) : cmpD .Eq x y K := by
  have h1 := P.ok.shaped
  have h2 := Q.ok.shaped
  rcases P with ⟨n, d, rfl, _⟩ | ⟨b0, b1, b2, wh, rfl, _⟩
  · exact ⟨h1, h2, q⟩
  · exact ⟨h1, h2, q⟩
theorem fLOrder {M : Md} {f : Addr} {fd : FuncData} (FS : FnD M 1 "_law_sign" 1 SSign) (FP : FnD M 3 "_law_span" 1 SSpan)
    (F : Fun M.K "_law_order" "_law_order" sLOrder f fd) (hm : M.mg "_law_order" = some (.ref f)) (b : L2.Binds M.K fd ["one", "other"] []) : FnD M 4 "_law_order" 2 SLOrder := by
  refine fnD_mk (k := 3) (NK := nkLOrder) (G := gLOrder) F scLOrder hm b rfl (by decide +kernel) rfl (by decide) fun X C ds W hl hS => ?_
  obtain ⟨x, y, rfl, P, Q, w⟩ := hS
  show VSs X _ [.dat x, .dat y, .no, .no] _
  walk_at "vv"
  refine cmp_eqP P Q ?_
  refine ⟨fun h => ?_, fun h => ?_⟩
  · rw [ordN_same P Q h] at w
    walk_at "vv"
    exact w
  · refine vss_nil ?_
    -- by the numbers around
    have far : (¬ ∃ n d m e : Int, x = .tuple [.int n, .int d] ∧ y = .tuple [.int m, .int e]) → VSs X ((defBody sLOrder).drop 2) [.dat x, .dat y, .no, .no] { nx := fun _ => W .none, rt := fun d _ => W d } := fun nf => by
      rw [ordN_gen P Q h nf] at w
      walk_at "v"
      refine vs_par C (i := 2) (j := 3) (by walk_at "at") (by walk_at "at") (by decide) ?_ (by walk_at "sw")
      refine vd_call C FP (by walk_at "at") ?_
      walk_at "vv"
      refine ⟨rfl, span_spec P ?_⟩
      refine vd_call C FP (by walk_at "at") ?_
      walk_at "vv"
      refine ⟨rfl, span_spec Q ?_⟩
      walk_at "vv"
      refine ⟨_, rfl, ?_⟩
      walk_at "vv"
      refine ⟨_, rfl, ?_⟩
      walk_at "vv"
      refine ⟨_, rfl, ?_⟩
      walk_at "vv"
      refine ⟨_, rfl, ?_⟩
      walk_at "vv"
      refine ⟨fun h => ?_, fun h => ?_⟩
      · have h := of_decide_eq_true h
        rw [if_pos (by omega)] at w
        walk_at "vv"
        exact ⟨_, rfl, w⟩
      · have h := of_decide_eq_false h
        rw [if_neg (by omega)] at w
        walk_at "vv"
        exact w
    refine vss_cons ?_
    refine vs_if (vt_w (vw_and ?_))
    walk_at "vv"
    rcases P with ⟨n, d, rfl, hn, hd, hd2, gd⟩ | ⟨b0, b1, b2, wh, rfl, hw, I, gI⟩
    · refine ⟨_, rfl, ?_⟩
      walk_at "vv"
      refine ⟨rfl, shRoot, ?_⟩
      refine ⟨fun _ => ?_, fun h => absurd h (by show ¬ (true = false); decide)⟩
      refine vw_and1 ?_
      walk_at "vv"
      rcases Q with ⟨m, e, rfl, hm', he, he2, ge⟩ | ⟨a0, a1, a2, z, rfl, hz, J, gJ⟩
      · refine ⟨_, rfl, ?_⟩
        walk_at "vv"
        refine ⟨rfl, shRoot, ?_⟩
        refine ⟨fun _ => ?_, fun h => absurd h (by show ¬ (true = false); decide)⟩
        refine vss_one (vs_ret ?_)
        refine vd_call C FS (by walk_at "at") ?_
        walk_at "vv"
        refine ⟨_, rfl, ?_⟩
        walk_at "vv"
        refine ⟨_, rfl, ?_⟩
        refine ⟨mulB (a := 90) (b := 90) (by omega) (by omega) (by decide) (by decide), ?_⟩
        walk_at "vv"
        refine ⟨_, rfl, ?_⟩
        walk_at "vv"
        refine ⟨_, rfl, ?_⟩
        refine ⟨mulB (a := 90) (b := 90) (by omega) (by omega) (by decide) (by decide), ?_⟩
        walk_at "vv"
        exact ⟨rfl, _, rfl, w⟩
      · refine ⟨_, rfl, ?_⟩
        walk_at "vv"
        refine ⟨shRoot, shRoot, ?_⟩
        refine ⟨fun h => absurd (h : (!PyData.eqv (.str "root") (.str "root")) = true) (by rw [eqRoot]; decide), fun _ => ?_⟩
        refine vss_nil ?_
        refine far ?_
        rintro ⟨_, _, _, _, _, h⟩
        cases h
    · refine ⟨_, rfl, ?_⟩
      walk_at "vv"
      refine ⟨shRoot, shRoot, ?_⟩
      refine ⟨fun h => absurd (h : (!PyData.eqv (.str "root") (.str "root")) = true) (by rw [eqRoot]; decide), fun _ => ?_⟩
      refine ⟨fun h => absurd h (by decide), fun _ => ?_⟩
      refine vss_nil ?_
      refine far ?_
      rintro ⟨_, _, _, _, h, _⟩
      cases h
/-- strictly between 0 and 1 -/
def innerB : D → Bool
  | .tuple [.int n, .int d] => decide (0 < n) && decide (n < d)
  | .tuple [.str _, .tuple [.int b0, .int b1, .int b2], .int w] => decide (flr b0 b1 b2 w 1 = 0)
  | _ => false
theorem pl01 : PlaceN (.tuple [.int 0, .int 1]) := .inl ⟨0, 1, rfl, by decide, by decide, by decide, by decide⟩
theorem pl11 : PlaceN (.tuple [.int 1, .int 1]) := .inl ⟨1, 1, rfl, by decide, by decide, by decide, by decide⟩
theorem inner_ord {x : D} (P : PlaceG x) : innerB x = (decide (ordN (.tuple [.int 0, .int 1]) x < 0) && decide (ordN x (.tuple [.int 1, .int 1]) < 0)) := by
  rcases P with ⟨n, d, rfl, _⟩ | ⟨b0, b1, b2, wh, rfl, hw, I, gI⟩
  · show (decide (0 < n) && decide (n < d)) = (decide (sgn (0 * d - n * 1) < 0) && decide (sgn (n * 1 - 1 * d) < 0))
    have e1 : decide (0 < n) = decide (sgn (0 * d - n * 1) < 0) := decide_eq_decide.mpr (by rw [sgn_lt]; omega)
    have e2 : decide (n < d) = decide (sgn (n * 1 - 1 * d) < 0) := decide_eq_decide.mpr (by rw [sgn_lt]; omega)
    rw [e1, e2]
  · have a : ordN (.tuple [.int 0, .int 1]) (rootD (tup3 b0 b1 b2) wh) = if 0 * 2 ^ 90 / 1 < flr b0 b1 b2 wh (2 ^ 90) then -1 else 1 := by
      show (if PyData.eqv (.tuple [.int 0, .int 1]) (rootD (tup3 b0 b1 b2) wh) = true then 0 else if 0 * 2 ^ 90 / 1 < flr b0 b1 b2 wh (2 ^ 90) then -1 else 1) = _
      rw [eqv_fr, if_neg (by decide)]
    have c : ordN (rootD (tup3 b0 b1 b2) wh) (.tuple [.int 1, .int 1]) = if flr b0 b1 b2 wh (2 ^ 90) < 1 * 2 ^ 90 / 1 then -1 else 1 := by
      show (if PyData.eqv (rootD (tup3 b0 b1 b2) wh) (.tuple [.int 1, .int 1]) = true then 0 else if flr b0 b1 b2 wh (2 ^ 90) < 1 * 2 ^ 90 / 1 then -1 else 1) = _
      rw [eqv_rf, if_neg (by decide)]
    have s := sepF (w := wh) (n := 0) (d := 1) I t90 (by decide) (by decide) (by decide)
    have l := ab_F (z := wh) (n := 0) (d := 1) I t90 (by decide) (by decide) (by decide)
    have u := ab_F (z := wh) (n := 1) (d := 1) I t90 (by decide) (by decide) (by decide)
    rw [ab_flr I (by decide)] at l u
    show decide (flr b0 b1 b2 wh 1 = 0) = _
    rw [a, c]
    have g1 : decide ((if 0 * 2 ^ 90 / 1 < flr b0 b1 b2 wh (2 ^ 90) then (-1 : Int) else 1) < 0) = decide (0 * 2 ^ 90 / 1 < flr b0 b1 b2 wh (2 ^ 90)) := decide_eq_decide.mpr (by split <;> omega)
    have g2 : decide ((if flr b0 b1 b2 wh (2 ^ 90) < 1 * 2 ^ 90 / 1 then (-1 : Int) else 1) < 0) = decide (flr b0 b1 b2 wh (2 ^ 90) < 1 * 2 ^ 90 / 1) := decide_eq_decide.mpr (by split <;> omega)
    rw [g1, g2, ← Bool.decide_and]
    exact decide_eq_decide.mpr (by omega)
def SLIn : List D → (D → Prop) → Prop := fun ds W => ∃ x : D, ds = [x] ∧ PlaceG x ∧ W (.bool (innerB x))
theorem fLIn {M : Md} {f : Addr} {fd : FuncData} (FO : FnD M 4 "_law_order" 2 SLOrder)
    (F : Fun M.K "_law_in" "_law_in" sLIn f fd) (hm : M.mg "_law_in" = some (.ref f)) (b : L2.Binds M.K fd ["place"] []) : FnD M 5 "_law_in" 1 SLIn := by
  refine fnD_mk (k := 4) (NK := nkLIn) (G := gLIn) F scLIn hm b rfl (by decide +kernel) rfl (by decide) fun X C ds W hl hS => ?_
  obtain ⟨x, rfl, P, w⟩ := hS
  show VSs X _ [.dat x] _
  rw [inner_ord P] at w
  walk_at "v"
  walk_at "v"
  refine vd_and ?_
  walk_at "v"
  refine vd_call C FO (by walk_at "at") ?_
  walk_at "vv"
  refine ⟨by show 2 ≤ 1000; decide, ?_⟩
  walk_at "vv"
  refine ⟨rfl, _, _, rfl, pl01.g, P, ?_⟩
  walk_at "vv"
  refine ⟨_, rfl, fun h => ?_, fun h => ?_⟩
  · rw [h, Bool.true_and] at w
    refine vd_one ?_
    walk_at "v"
    refine vd_call C FO (by walk_at "at") ?_
    walk_at "vv"
    refine ⟨by show 2 ≤ 1000; decide, ?_⟩
    walk_at "vv"
    refine ⟨rfl, _, _, rfl, P, pl11.g, ?_⟩
    walk_at "vv"
    exact w
  · rw [h, Bool.false_and] at w
    exact w


open PySem PySem.Spec PyProof.Rows L2 Vc

/-! ### is_own -/
def ownB (a b c : Int) : Bool := decide (0 < c) && (decide (g3 a b c = 1) && (decide (0 < dsc a b c) && !decide (((isq (dsc a b c) : Nat) : Int) * ((isq (dsc a b c) : Nat) : Int) = dsc a b c)))
def SOwn : List D → (D → Prop) → Prop := fun ds W => (∃ a b c : Int, ds = [tup3 a b c] ∧ Sb a ∧ Sb b ∧ Sb c ∧ W (.bool (ownB a b c))) ∨ (∃ l : List D, ds = [.list l] ∧ W (.bool false))
theorem fOwn {M : Md} {f : Addr} {fd : FuncData} (ms : M.mg "isinstance" = none) (mt : M.mg "tuple" = none) (ml : M.mg "len" = none) (ma : M.mg "all" = none) (mg : M.mg "gcd" = some (.builtin "math.gcd")) (mi : M.mg "isqrt" = some (.builtin "math.isqrt"))
    (FI : FnD M 1 "is_int" 1 SIsInt) (FD : FnD M 1 "discriminant" 3 (S3 300 fun a b c => .int (dsc a b c)))
    (F : Fun M.K "is_own" "is_own" sIsOwn f fd) (hm : M.mg "is_own" = some (.ref f)) (b : L2.Binds M.K fd ["thing"] []) : FnD M 2 "is_own" 1 SOwn := by
  refine fnD_mk (k := 1) (NK := nkIsOwn) (G := gIsOwn) F scIsOwn hm b rfl (by decide +kernel) rfl (by decide) fun X C ds W hl hS => ?_
  rcases hS with ⟨a, b, c, rfl, ha, hb, hc, w⟩ | ⟨l, rfl, w⟩
  · have hD := dsc_small ha.sm hb.sm hc.sm
    have hq := isq_small hD
    show VSs X _ [.dat (tup3 a b c), .no, .no, .no, .no, .no, .no] _
    refine vss_cons (vs_if (vt_not (vt_w (vw_and (vt_val ?_)))))
    refine vd_isi C (T := "tuple") (by walk_at "at") (by walk_at "at") ?_
    walk_at "v"
    refine ⟨true, by show kitB "tuple" "tuple" = some true; decide +kernel, ?_⟩
    refine ⟨true, rfl, fun _ => ?_, fun h => absurd h (by decide)⟩
    refine vw_and ?_
    walk_at "vv"
    refine ⟨_, .inr rfl, ?_⟩
    walk_at "vv"
    refine ⟨fun _ => ?_, fun h => absurd h (by show ¬ decide (((3 : Nat) : Int) = 3) = false; decide)⟩
    refine vw_and1 (vt_val ?_)
    refine vd_callB C (does_all C) (by walk_at "at") ?_
    refine va_cons (vn_vd ?_)
    refine vn_lc C nkIsOwn0 gIsOwn0 (i := 6) (by walk_at "at") ?_
    refine vi_tup ?_
    walk_at "v"
    refine ⟨_, rfl, by show 3 ≤ 100000; decide, fun j acc ρ' => acc = (List.replicate j true).map PyData.bool ∧ ∃ s : Sl, ρ' = [.dat (tup3 a b c), .no, .no, .no, .no, .no, s], ⟨rfl, _, rfl⟩, fun j d acc ρ' hj hW X' C' => ?_, fun acc ρ' hW => ?_⟩
    · obtain ⟨rfl, s, rfl⟩ := hW
      have hd : ∃ i : Int, d = .int i := by
        have := List.mem_of_getElem? hj
        simp only [List.mem_cons, List.not_mem_nil, or_false] at this
        rcases this with h | h | h <;> exact ⟨_, h⟩
      obtain ⟨i, rfl⟩ := hd
      refine vd_call C' FI (by walk_at "at") ?_
      walk_at "vv"
      refine ⟨rfl, .inl ⟨i, rfl, ?_, _, rfl⟩⟩
      rw [List.replicate_succ', List.map_append]
      rfl
    · obtain ⟨rfl, s, rfl⟩ := hW
      refine va_nil ?_
      refine ⟨_, rfl, ?_⟩
      refine ⟨true, rfl, ?_⟩
      refine ⟨fun h => absurd h (by decide), fun _ => ?_⟩
      refine vss_nil ?_
      walk_at "v"
      refine vs_asg ?_
      walk_at "v"
      refine vg_tup C ?_
      walk_at "v"
      walk_at "v"
      walk_at "v"
      walk_at "v"
      walk_at "v"
      walk_at "v"
      walk_at "v"
      show VSs X _ [.dat (tup3 a b c), .dat (.int a), .dat (.int b), .dat (.int c), .no, .no, s] _
      unfold ownB at w
      refine vss_cons (vs_if (vt_w (vw_or ?_)))
      walk_at "vv"
      refine ⟨fun h => ?_, fun h => ?_⟩
      · have h : c ≤ 0 := of_decide_eq_true h
        rw [decide_eq_false (show ¬ 0 < c by omega), Bool.false_and] at w
        refine ⟨fun _ => ?_, fun h => absurd h (by decide)⟩
        walk_at "vv"
        exact w
      · have h : ¬ c ≤ 0 := of_decide_eq_false h
        rw [decide_eq_true (show 0 < c by omega), Bool.true_and] at w
        refine vw_or1 ?_
        walk_at "v"
        refine vd_callM C does_gcd3 (by walk_at "at") ?_
        walk_at "vv"
        refine ⟨a, b, c, rfl, ?_⟩
        walk_at "vv"
        refine ⟨fun h => ?_, fun h => ?_⟩
        · have h : ¬ g3 a b c = 1 := fun e => by
            have q : (!decide (((g3 a b c : Nat) : Int) = 1)) = true := h
            rw [e] at q
            cases q
          rw [decide_eq_false h, Bool.false_and] at w
          walk_at "vv"
          exact w
        · have h : g3 a b c = 1 := by
            have q : (!decide (((g3 a b c : Nat) : Int) = 1)) = false := h
            have q2 : ((g3 a b c : Nat) : Int) = 1 := by simpa using q
            omega
          rw [decide_eq_true h, Bool.true_and] at w
          refine vss_nil ?_
          walk_at "v"
          walk_at "v"
          refine vd_call C FD (by walk_at "at") ?_
          walk_at "vv"
          refine ⟨rfl, a, b, c, rfl, absup ha.sm (by decide), absup hb.sm (by decide), absup hc.sm (by decide), ?_⟩
          walk_at "vv"
          refine ⟨fun h => ?_, fun h => ?_⟩
          · have h : dsc a b c ≤ 0 := of_decide_eq_true h
            rw [decide_eq_false (show ¬ 0 < dsc a b c by omega), Bool.false_and] at w
            walk_at "vv"
            exact w
          · have h : ¬ dsc a b c ≤ 0 := of_decide_eq_false h
            rw [decide_eq_true (show 0 < dsc a b c by omega), Bool.true_and] at w
            refine vss_nil ?_
            walk_at "v"
            walk_at "v"
            refine vd_callM C does_isqrt (by walk_at "at") ?_
            walk_at "vv"
            refine ⟨_, rfl, by omega, absup hD (by decide), fun r hr => ?_⟩
            have er : r = isq (dsc a b c) := hr.uniq (isqrt_root _)
            subst er
            walk_at "vv"
            refine ⟨mulB (a := 13) (b := 13) (by omega) (by omega) (by decide) (by decide), ?_⟩
            walk_at "vv"
            exact w
  · show VSs X _ [.dat (.list l), .no, .no, .no, .no, .no, .no] _
    refine vss_cons (vs_if (vt_not (vt_w (vw_and (vt_val ?_)))))
    refine vd_isi C (T := "tuple") (by walk_at "at") (by walk_at "at") ?_
    walk_at "v"
    refine ⟨false, by show kitB "list" "tuple" = some false; decide +kernel, ?_⟩
    refine ⟨false, rfl, fun h => absurd h (by decide), fun _ => ?_⟩
    refine ⟨fun _ => ?_, fun h => absurd h (by decide)⟩
    walk_at "vv"
    exact w
/-! ### is_place -/
def SPlF : List D → (D → Prop) → Prop := fun ds W => (∃ n d : Int, ds = [.int n, .int d] ∧ W (.bool (decide (0 < n) && (decide (n < d) && decide (Nat.gcd n.natAbs d.natAbs = 1))))) ∨ (∃ (b : Bool) (d : D), ds = [.bool b, d] ∧ W (.bool false))
theorem fPlF {M : Md} {f : Addr} {fd : FuncData} (mg : M.mg "gcd" = some (.builtin "math.gcd")) (FI : FnD M 1 "is_int" 1 SIsInt)
    (F : Fun M.K "is_place_fraction" "is_place_fraction" sIsPlaceFraction f fd) (hm : M.mg "is_place_fraction" = some (.ref f)) (b : L2.Binds M.K fd ["n", "d"] []) : FnD M 2 "is_place_fraction" 2 SPlF := by
  refine fnD_mk (k := 1) (NK := nkIsPlaceFraction) (G := gIsPlaceFraction) F scIsPlaceFraction hm b rfl (by decide +kernel) rfl (by decide) fun X C ds W hl hS => ?_
  rcases hS with ⟨n, d, rfl, w⟩ | ⟨bb, d, rfl, w⟩
  · show VSs X _ [.dat (.int n), .dat (.int d)] _
    refine vss_one (vs_ret (vd_and ?_))
    refine vd_call C FI (by walk_at "at") ?_
    walk_at "vv"
    refine ⟨rfl, .inl ⟨n, rfl, ?_⟩⟩
    refine ⟨true, rfl, fun _ => ?_, fun h => absurd h (by decide)⟩
    refine vd_and ?_
    refine vd_call C FI (by walk_at "at") ?_
    walk_at "vv"
    refine ⟨rfl, .inl ⟨d, rfl, ?_⟩⟩
    refine ⟨true, rfl, fun _ => ?_, fun h => absurd h (by decide)⟩
    refine vd_and (vd_chain C ?_)
    walk_at "vv"
    refine ⟨fun h => ?_, fun h => ?_⟩
    · rw [h, Bool.true_and] at w
      walk_at "vv"
      refine ⟨_, rfl, fun h => ?_, fun h => ?_⟩
      · rw [h, Bool.true_and] at w
        refine vd_one ?_
        walk_at "v"
        refine vd_callM C does_gcd2 (by walk_at "at") ?_
        walk_at "vv"
        refine ⟨n, d, rfl, ?_⟩
        walk_at "vv"
        have e : decide (((Nat.gcd n.natAbs d.natAbs : Nat) : Int) = 1) = decide (Nat.gcd n.natAbs d.natAbs = 1) := decide_eq_decide.mpr (by omega)
        show W (.bool (decide (((Nat.gcd n.natAbs d.natAbs : Nat) : Int) = 1)))
        rw [e]
        exact w
      · rw [h, Bool.false_and] at w
        exact w
    · rw [h, Bool.false_and] at w
      exact ⟨false, rfl, fun h => absurd h (by decide), fun _ => w⟩
  · show VSs X _ [.dat (.bool bb), .dat d] _
    refine vss_one (vs_ret (vd_and ?_))
    refine vd_call C FI (by walk_at "at") ?_
    walk_at "vv"
    refine ⟨rfl, .inr ⟨bb, rfl, ?_⟩⟩
    exact ⟨false, rfl, fun h => absurd h (by decide), fun _ => w⟩
def rootB (a b c w : Int) : Bool := ownB a b c && (decide (w = 0 ∨ w = 1) && decide (flr a b c w 1 = 0))
def SPlR : List D → (D → Prop) → Prop := fun ds W =>
  (∃ a b c w : Int, ds = [.str "root", tup3 a b c, .int w] ∧ Sb a ∧ Sb b ∧ Sb c ∧ W (.bool (rootB a b c w))) ∨
  (∃ (a b c : Int) (w : Bool), ds = [.str "root", tup3 a b c, .bool w] ∧ Sb a ∧ Sb b ∧ Sb c ∧ W (.bool false)) ∨
  (∃ (l : List D) (x : D), ds = [.str "root", .list l, x] ∧ W (.bool false)) ∨
  (∃ (s : Str) (x y : D), ds = [.str s, x, y] ∧ SeqAt.shaped (.str s) = true ∧ PyData.eqv (.str s) (.str "root") = false ∧ W (.bool false)) ∨
  (∃ (i : Int) (x y : D), ds = [.int i, x, y] ∧ W (.bool false))
theorem own_irr {a b c : Int} (ha : Sb a) (hb : Sb b) (hc : Sb c) (h : ownB a b c = true) : Irr a b c ∧ g3 a b c = 1 := by
  unfold ownB at h
  simp at h
  exact ⟨⟨ha, hb, hc, h.1, h.2.2.1, h.2.2.2⟩, h.2.1⟩
theorem fPlR {M : Md} {f : Addr} {fd : FuncData} (ms : M.mg "isinstance" = none) (mt : M.mg "str" = none) (FI : FnD M 1 "is_int" 1 SIsInt) (FO : FnD M 2 "is_own" 1 SOwn) (FN : FnD M 3 "is_inner" 1 SInner)
    (F : Fun M.K "is_place_root" "is_place_root" sIsPlaceRoot f fd) (hm : M.mg "is_place_root" = some (.ref f)) (b : L2.Binds M.K fd ["word", "own", "which"] []) : FnD M 4 "is_place_root" 3 SPlR := by
  refine fnD_mk (k := 3) (NK := nkIsPlaceRoot) (G := gIsPlaceRoot) F scIsPlaceRoot hm b rfl (by decide +kernel) rfl (by decide) fun X C ds W hl hS => ?_
  rcases hS with ⟨a, b, c, wh, rfl, ha, hb, hc, w⟩ | ⟨a, b, c, wh, rfl, ha, hb, hc, w⟩ | ⟨l, x, rfl, w⟩ | ⟨s, x, y, rfl, hs, he, w⟩ | ⟨i, x, y, rfl, w⟩
  · show VSs X _ [.dat (.str "root"), .dat (tup3 a b c), .dat (.int wh)] _
    refine vss_cons (vs_if (vt_not (vt_w (vw_and (vt_val ?_)))))
    refine vd_isi C (T := "str") (by walk_at "at") (by walk_at "at") ?_
    walk_at "v"
    refine ⟨true, by show kitB "str" "str" = some true; decide +kernel, ?_⟩
    refine ⟨true, rfl, fun _ => ?_, fun h => absurd h (by decide)⟩
    refine vw_and ?_
    walk_at "vv"
    refine ⟨shRoot, shRoot, ?_⟩
    refine ⟨fun _ => ?_, fun h => absurd (h : (PyData.eqv (.str "root") (.str "root")) = false) (by rw [eqRoot]; decide)⟩
    refine vw_and1 (vt_val ?_)
    refine vd_call C FO (by walk_at "at") ?_
    walk_at "vv"
    refine ⟨rfl, .inl ⟨a, b, c, rfl, ha, hb, hc, ?_⟩⟩
    refine ⟨_, rfl, ?_⟩
    unfold rootB at w
    refine ⟨fun h => ?_, fun h => ?_⟩
    · have h : ownB a b c = false := by simpa using h
      rw [h, Bool.false_and] at w
      walk_at "vv"
      exact w
    · have h : ownB a b c = true := by simpa using h
      obtain ⟨I, g⟩ := own_irr ha hb hc h
      rw [h, Bool.true_and] at w
      refine vss_nil ?_
      refine vss_one (vs_ret (vd_and ?_))
      refine vd_call C FI (by walk_at "at") ?_
      walk_at "vv"
      refine ⟨rfl, .inl ⟨wh, rfl, ?_⟩⟩
      refine ⟨true, rfl, fun _ => ?_, fun h => absurd h (by decide)⟩
      refine vd_and ?_
      walk_at "vv"
      refine ⟨by show 2 ≤ 1000; decide, ?_⟩
      refine ⟨[0, 1], rfl, ?_⟩
      have em : decide (wh ∈ [(0 : Int), 1]) = decide (wh = 0 ∨ wh = 1) := decide_eq_decide.mpr (by simp)
      rw [em]
      refine ⟨_, rfl, fun h => ?_, fun h => ?_⟩
      · rw [h, Bool.true_and] at w
        refine vd_one ?_
        refine vd_call C FN (by walk_at "at") ?_
        walk_at "vv"
        refine ⟨by show 3 ≤ 1000; decide, ?_⟩
        walk_at "vv"
        exact ⟨rfl, .inr ⟨a, b, c, wh, rfl, I, w⟩⟩
      · rw [h, Bool.false_and] at w
        exact w
  · show VSs X _ [.dat (.str "root"), .dat (tup3 a b c), .dat (.bool wh)] _
    refine vss_cons (vs_if (vt_not (vt_w (vw_and (vt_val ?_)))))
    refine vd_isi C (T := "str") (by walk_at "at") (by walk_at "at") ?_
    walk_at "v"
    refine ⟨true, by show kitB "str" "str" = some true; decide +kernel, ?_⟩
    refine ⟨true, rfl, fun _ => ?_, fun h => absurd h (by decide)⟩
    refine vw_and ?_
    walk_at "vv"
    refine ⟨shRoot, shRoot, ?_⟩
    refine ⟨fun _ => ?_, fun h => absurd (h : (PyData.eqv (.str "root") (.str "root")) = false) (by rw [eqRoot]; decide)⟩
    refine vw_and1 (vt_val ?_)
    refine vd_call C FO (by walk_at "at") ?_
    walk_at "vv"
    refine ⟨rfl, .inl ⟨a, b, c, rfl, ha, hb, hc, ?_⟩⟩
    refine ⟨_, rfl, ?_⟩
    refine ⟨fun h => ?_, fun h => ?_⟩
    · walk_at "vv"
      exact w
    · refine vss_nil ?_
      refine vss_one (vs_ret (vd_and ?_))
      refine vd_call C FI (by walk_at "at") ?_
      walk_at "vv"
      refine ⟨rfl, .inr ⟨wh, rfl, ?_⟩⟩
      exact ⟨false, rfl, fun h => absurd h (by decide), fun _ => w⟩
  · show VSs X _ [.dat (.str "root"), .dat (.list l), .dat x] _
    refine vss_cons (vs_if (vt_not (vt_w (vw_and (vt_val ?_)))))
    refine vd_isi C (T := "str") (by walk_at "at") (by walk_at "at") ?_
    walk_at "v"
    refine ⟨true, by show kitB "str" "str" = some true; decide +kernel, ?_⟩
    refine ⟨true, rfl, fun _ => ?_, fun h => absurd h (by decide)⟩
    refine vw_and ?_
    walk_at "vv"
    refine ⟨shRoot, shRoot, ?_⟩
    refine ⟨fun _ => ?_, fun h => absurd (h : (PyData.eqv (.str "root") (.str "root")) = false) (by rw [eqRoot]; decide)⟩
    refine vw_and1 (vt_val ?_)
    refine vd_call C FO (by walk_at "at") ?_
    walk_at "vv"
    refine ⟨rfl, .inr ⟨l, rfl, ?_⟩⟩
    refine ⟨_, rfl, ?_⟩
    refine ⟨fun _ => ?_, fun h => absurd h (by decide)⟩
    walk_at "vv"
    exact w
  · show VSs X _ [.dat (.str s), .dat x, .dat y] _
    refine vss_cons (vs_if (vt_not (vt_w (vw_and (vt_val ?_)))))
    refine vd_isi C (T := "str") (by walk_at "at") (by walk_at "at") ?_
    walk_at "v"
    refine ⟨true, by show kitB "str" "str" = some true; decide +kernel, ?_⟩
    refine ⟨true, rfl, fun _ => ?_, fun h => absurd h (by decide)⟩
    refine vw_and ?_
    walk_at "vv"
    refine ⟨hs, shRoot, ?_⟩
    refine ⟨fun h => absurd (h : (PyData.eqv (.str s) (.str "root")) = true) (by rw [he]; decide), fun _ => ?_⟩
    refine ⟨fun _ => ?_, fun h => absurd h (by decide)⟩
    walk_at "vv"
    exact w
  · show VSs X _ [.dat (.int i), .dat x, .dat y] _
    refine vss_cons (vs_if (vt_not (vt_w (vw_and (vt_val ?_)))))
    refine vd_isi C (T := "str") (by walk_at "at") (by walk_at "at") ?_
    walk_at "v"
    refine ⟨false, by show kitB "int" "str" = some false; decide +kernel, ?_⟩
    refine ⟨false, rfl, fun h => absurd h (by decide), fun _ => ?_⟩
    refine ⟨fun _ => ?_, fun h => absurd h (by decide)⟩
    walk_at "vv"
    exact w

def placeB : D → Bool
  | .tuple [.int n, .int d] => decide (0 < n) && (decide (n < d) && decide (Nat.gcd n.natAbs d.natAbs = 1))
  | .tuple [.str s, .tuple [.int a, .int b, .int c], .int w] => PyData.eqv (.str s) (.str "root") && rootB a b c w
  | _ => false
/-- what is_place is asked of here -/
def Asked (x : D) : Prop :=
  x = .none ∨ (∃ i : Int, x = .int i) ∨ x = .tuple [] ∨ (∃ n d : Int, x = .tuple [.int n, .int d]) ∨ (∃ (b : Bool) (d : Int), x = .tuple [.bool b, .int d]) ∨
  (∃ a b c w : Int, x = rootD (tup3 a b c) w ∧ Sb a ∧ Sb b ∧ Sb c) ∨ (∃ (a b c : Int) (w : Bool), x = .tuple [.str "root", tup3 a b c, .bool w] ∧ Sb a ∧ Sb b ∧ Sb c) ∨
  (∃ (l : List D) (w : Int), x = .tuple [.str "root", .list l, .int w]) ∨ (∃ i j k : Int, x = .tuple [.int i, .int j, .int k]) ∨
  (∃ (s : Str) (a b c w : Int), x = .tuple [.str s, tup3 a b c, .int w] ∧ SeqAt.shaped (.str s) = true ∧ PyData.eqv (.str s) (.str "root") = false)
def SIsPlace : List D → (D → Prop) → Prop := fun ds W => ∃ x : D, ds = [x] ∧ Asked x ∧ W (.bool (placeB x))
theorem fIsPlace {M : Md} {f : Addr} {fd : FuncData} (ms : M.mg "isinstance" = none) (mt : M.mg "tuple" = none) (ml : M.mg "len" = none) (FF : FnD M 2 "is_place_fraction" 2 SPlF) (FR : FnD M 4 "is_place_root" 3 SPlR)
    (F : Fun M.K "is_place" "is_place" sIsPlace f fd) (hm : M.mg "is_place" = some (.ref f)) (b : L2.Binds M.K fd ["thing"] []) : FnD M 5 "is_place" 1 SIsPlace := by
  refine fnD_mk (k := 4) (NK := nkIsPlace) (G := gIsPlace) F scIsPlace hm b rfl (by decide +kernel) rfl (by decide) fun X C ds W hl hS => ?_
  obtain ⟨x, rfl, hx, w⟩ := hS
  show VSs X _ [.dat x] _
  -- no tuple
  have no : tyN x = "NoneType" ∨ tyN x = "int" → W (.bool false) → VSs X (defBody sIsPlace) [.dat x] { nx := fun _ => W .none, rt := fun d _ => W d } := fun ht w => by
    refine vss_cons (vs_if (vt_not (vt_val ?_)))
    refine vd_isi C (T := "tuple") (by walk_at "at") (by walk_at "at") ?_
    walk_at "v"
    refine ⟨false, by rcases ht with h | h <;> (rw [h]; decide +kernel), ?_⟩
    refine ⟨false, rfl, ?_⟩
    refine ⟨fun _ => ?_, fun h => absurd h (by decide)⟩
    walk_at "vv"
    exact w
  -- a tuple
  have yes : ∀ l : List D, x = .tuple l → VSs X ((defBody sIsPlace).drop 1) [.dat (.tuple l)] { nx := fun _ => W .none, rt := fun d _ => W d } → VSs X (defBody sIsPlace) [.dat x] { nx := fun _ => W .none, rt := fun d _ => W d } := fun l hl h => by
    subst hl
    refine vss_cons (vs_if (vt_not (vt_val ?_)))
    refine vd_isi C (T := "tuple") (by walk_at "at") (by walk_at "at") ?_
    walk_at "v"
    refine ⟨true, by show kitB "tuple" "tuple" = some true; decide +kernel, ?_⟩
    refine ⟨true, rfl, ?_⟩
    refine ⟨fun h => absurd h (by decide), fun _ => ?_⟩
    exact vss_nil h
  -- two
  have two : ∀ (y z : D), SPlF [y, z] W → VSs X ((defBody sIsPlace).drop 1) [.dat (.tuple [y, z])] { nx := fun _ => W .none, rt := fun d _ => W d } := fun y z h => by
    walk_at "vv"
    refine ⟨_, .inr rfl, ?_⟩
    walk_at "vv"
    refine ⟨fun _ => ?_, fun h => absurd h (by show ¬ decide (((2 : Nat) : Int) = 2) = false; decide)⟩
    refine vss_one (vs_ret ?_)
    refine vd_call C FF (by walk_at "at") ?_
    walk_at "vv"
    refine ⟨_, rfl, ?_⟩
    walk_at "vv"
    refine ⟨_, rfl, ?_⟩
    walk_at "vv"
    exact ⟨rfl, h⟩
  -- three
  have three : ∀ (u y z : D), SPlR [u, y, z] W → VSs X ((defBody sIsPlace).drop 1) [.dat (.tuple [u, y, z])] { nx := fun _ => W .none, rt := fun d _ => W d } := fun u y z h => by
    walk_at "vv"
    refine ⟨_, .inr rfl, ?_⟩
    walk_at "vv"
    refine ⟨fun h => absurd h (by show ¬ decide (((3 : Nat) : Int) = 2) = true; decide), fun _ => ?_⟩
    refine vss_nil ?_
    walk_at "vv"
    refine ⟨_, .inr rfl, ?_⟩
    walk_at "vv"
    refine ⟨fun _ => ?_, fun h => absurd h (by show ¬ decide (((3 : Nat) : Int) = 3) = false; decide)⟩
    refine vss_one (vs_ret ?_)
    refine vd_call C FR (by walk_at "at") ?_
    walk_at "vv"
    refine ⟨_, rfl, ?_⟩
    walk_at "vv"
    refine ⟨_, rfl, ?_⟩
    walk_at "vv"
    refine ⟨_, rfl, ?_⟩
    walk_at "vv"
    exact ⟨rfl, h⟩
  rcases hx with rfl | ⟨i, rfl⟩ | rfl | ⟨n, d, rfl⟩ | ⟨bb, d, rfl⟩ | ⟨a, b, c, wh, rfl, ha, hb, hc⟩ | ⟨a, b, c, wh, rfl, ha, hb, hc⟩ | ⟨l, wh, rfl⟩ | ⟨i, j, k, rfl⟩ | ⟨s, a, b, c, wh, rfl, hs, he⟩
  · exact no (.inl rfl) w
  · exact no (.inr rfl) w
  · refine yes _ rfl ?_
    walk_at "vv"
    refine ⟨_, .inr rfl, ?_⟩
    walk_at "vv"
    refine ⟨fun h => absurd h (by show ¬ decide (((0 : Nat) : Int) = 2) = true; decide), fun _ => ?_⟩
    refine vss_nil ?_
    walk_at "vv"
    refine ⟨_, .inr rfl, ?_⟩
    walk_at "vv"
    refine ⟨fun h => absurd h (by show ¬ decide (((0 : Nat) : Int) = 3) = true; decide), fun _ => ?_⟩
    refine vss_nil ?_
    walk_at "vv"
    exact w
  · exact yes _ rfl (two _ _ (.inl ⟨n, d, rfl, w⟩))
  · exact yes _ rfl (two _ _ (.inr ⟨bb, _, rfl, w⟩))
  · refine yes _ rfl (three _ _ _ (.inl ⟨a, b, c, wh, rfl, ha, hb, hc, ?_⟩))
    have e : placeB (rootD (tup3 a b c) wh) = rootB a b c wh := by
      show (PyData.eqv (.str "root") (.str "root") && rootB a b c wh) = _
      rw [eqRoot, Bool.true_and]
    rw [e] at w
    exact w
  · exact yes _ rfl (three _ _ _ (.inr (.inl ⟨a, b, c, wh, rfl, ha, hb, hc, w⟩)))
  · exact yes _ rfl (three _ _ _ (.inr (.inr (.inl ⟨l, _, rfl, w⟩))))
  · exact yes _ rfl (three _ _ _ (.inr (.inr (.inr (.inr ⟨i, _, _, rfl, w⟩)))))
  · refine yes _ rfl (three _ _ _ (.inr (.inr (.inr (.inl ⟨s, _, _, rfl, hs, he, ?_⟩)))))
    have e : placeB (.tuple [.str s, tup3 a b c, .int wh]) = false := by
      show (PyData.eqv (.str s) (.str "root") && rootB a b c wh) = _
      rw [he, Bool.false_and]
    rw [e] at w
    exact w
theorem placeN_in {x : D} (P : PlaceN x) : Asked x ∧ placeB x = innerB x := by
  rcases P with ⟨n, d, rfl, h1, h2, h3, h4⟩ | ⟨b0, b1, b2, w, rfl, hw, I, g⟩
  · refine ⟨.inr (.inr (.inr (.inl ⟨n, d, rfl⟩))), ?_⟩
    show (decide (0 < n) && (decide (n < d) && decide (Nat.gcd n.natAbs d.natAbs = 1))) = (decide (0 < n) && decide (n < d))
    rw [decide_eq_true h4, Bool.and_true]
  · refine ⟨.inr (.inr (.inr (.inr (.inr (.inl ⟨b0, b1, b2, w, rfl, I.s0, I.s1, I.s2⟩))))), ?_⟩
    show (PyData.eqv (.str "root") (.str "root") && rootB b0 b1 b2 w) = decide (flr b0 b1 b2 w 1 = 0)
    have o : ownB b0 b1 b2 = true := by
      unfold ownB
      rw [decide_eq_true I.p2, decide_eq_true g, decide_eq_true I.pd, decide_eq_false I.ns]
      rfl
    unfold rootB
    rw [eqRoot, o, decide_eq_true hw, Bool.true_and, Bool.true_and, Bool.true_and]


open PySem PySem.Spec PyProof.Rows L2 Vc

/-! ### the roots of the law's polynomials are the law's places -/
structure PolyOk (q : Int × Int × Int) : Prop where
  a : Sb q.1
  b : Sb q.2.1
  c : Sb q.2.2
  w : Wh q.1 q.2.1 q.2.2
def plD (q : Int × Int × Int) : D := tup3 q.1 q.2.1 q.2.2
theorem fr_one {n d : Int} (hd : 0 < d) : Nat.gcd (n / ((Nat.gcd n.natAbs d.natAbs : Nat) : Int)).natAbs (d / ((Nat.gcd n.natAbs d.natAbs : Nat) : Int)).natAbs = 1 := by
  have hg : 0 < Nat.gcd n.natAbs d.natAbs := Nat.gcd_pos_of_pos_right _ (by omega)
  have e1 := congrArg Int.natAbs (Int.ediv_mul_cancel (gcd_dvdn n d))
  have e2 := congrArg Int.natAbs (Int.ediv_mul_cancel (gcd_dvdd n d))
  rw [Int.natAbs_mul, Int.natAbs_natCast] at e1 e2
  have k : Nat.gcd n.natAbs d.natAbs = Nat.gcd (n / ((Nat.gcd n.natAbs d.natAbs : Nat) : Int)).natAbs (d / ((Nat.gcd n.natAbs d.natAbs : Nat) : Int)).natAbs * Nat.gcd n.natAbs d.natAbs := by
    have := Nat.gcd_mul_right (n / ((Nat.gcd n.natAbs d.natAbs : Nat) : Int)).natAbs (Nat.gcd n.natAbs d.natAbs) (d / ((Nat.gcd n.natAbs d.natAbs : Nat) : Int)).natAbs
    rw [e1, e2] at this
    exact this
  have : 1 * Nat.gcd n.natAbs d.natAbs = Nat.gcd (n / ((Nat.gcd n.natAbs d.natAbs : Nat) : Int)).natAbs (d / ((Nat.gcd n.natAbs d.natAbs : Nat) : Int)).natAbs * Nat.gcd n.natAbs d.natAbs := by omega
  exact (Nat.eq_of_mul_eq_mul_right hg this).symm
theorem fr_N {n d : Int} (hn : n.natAbs ≤ 300) (hd : 0 < d) (hd2 : d ≤ 150) : PlaceN (fr n d) := by
  obtain ⟨n', d', g, e, g0, h1, h2, h3, h4, h5⟩ := fr_facts (n := n) hd
  have e' := e
  unfold fr at e'
  injection e' with e'
  injection e' with q1 q2
  injection q1 with q1
  injection q2 with q2
  injection q2 with q2
  have o := fr_one (n := n) hd
  rw [q1, q2] at o
  rw [e]
  exact .inl ⟨n', d', rfl, by omega, h3, by omega, o⟩
theorem frq_N {n d : Int} (hn : n.natAbs ≤ 300) (hd : d ≠ 0) (hd2 : d.natAbs ≤ 150) : PlaceN (frq n d) := by
  unfold frq
  by_cases h : d < 0
  · rw [if_pos h]
    exact fr_N (by omega) (by omega) (by omega)
  · rw [if_neg h]
    exact fr_N hn (by omega) (by omega)
theorem isq_181 {a b c : Int} (h0 : Sb a) (h1 : Sb b) (h2 : Sb c) (pd : 0 ≤ dsc a b c) : isq (dsc a b c) ≤ 182 := by
  have hd := dsc_b h0 h1 h2
  have r := (isqrt_root (dsc a b c).natAbs).1
  unfold isq
  rcases Nat.lt_or_ge 182 (Float64.isqrt (dsc a b c).natAbs) with z | z
  · have := Nat.mul_le_mul z z
    omega
  · exact z
theorem rtsP_N {a b c : Int} (ha : Sb a) (hb : Sb b) (hc : Sb c) (p : 0 < c) (pd : 0 ≤ dsc a b c) (g : g3 a b c = 1) : ∀ x ∈ rtsP a b c, PlaceN x := by
  have s := isq_181 ha hb hc pd
  have b1 : b.natAbs ≤ 72 := hb
  have c1 : c.natAbs ≤ 72 := hc
  intro x hx
  unfold rtsP at hx
  by_cases y : ((isq (dsc a b c) : Nat) : Int) * ((isq (dsc a b c) : Nat) : Int) = dsc a b c
  · rw [if_pos y] at hx
    by_cases z : ((isq (dsc a b c) : Nat) : Int) = 0
    · rw [if_pos z] at hx
      simp only [List.mem_cons, List.not_mem_nil, or_false] at hx
      rw [hx]
      exact frq_N (by omega) (by omega) (by omega)
    · rw [if_neg z] at hx
      simp only [List.mem_cons, List.not_mem_nil, or_false] at hx
      rcases hx with hx | hx
      · rw [hx]
        exact frq_N (by omega) (by omega) (by omega)
      · rw [hx]
        exact frq_N (by omega) (by omega) (by omega)
  · rw [if_neg y, und_wh g] at hx
    have I := irr_of ha hb hc p pd y
    simp only [List.mem_cons, List.not_mem_nil, or_false] at hx
    rcases hx with hx | hx
    · rw [hx]
      exact .inr ⟨a, b, c, 0, rfl, .inl rfl, I, g⟩
    · rw [hx]
      exact .inr ⟨a, b, c, 1, rfl, .inr rfl, I, g⟩
theorem rts_N {a b c : Int} (ha : Sb a) (hb : Sb b) (hc : Sb c) (hw : Wh a b c) : ∀ x ∈ rts a b c, PlaceN x := by
  have a1 : a.natAbs ≤ 72 := ha
  have b1 : b.natAbs ≤ 72 := hb
  unfold rts
  by_cases z : c = 0
  · rw [if_pos z]
    by_cases y : b = 0
    · rw [if_pos y]
      exact fun _ h => nomatch h
    · rw [if_neg y]
      intro x hx
      simp only [List.mem_cons, List.not_mem_nil, or_false] at hx
      rw [hx]
      exact frq_N (by omega) y (by omega)
  · rw [if_neg z]
    have g := wh_g3 hw z
    unfold rts2
    by_cases y : dsc a b c < 0
    · rw [if_pos y]
      exact fun _ h => nomatch h
    · rw [if_neg y]
      by_cases x : c < 0
      · rw [if_pos x]
        exact rtsP_N ha.neg hb.neg hc.neg (by omega) (by rw [dsc_neg]; omega) (by rw [g3_neg]; exact g)
      · rw [if_neg x]
        exact rtsP_N ha hb hc (by omega) (by omega) g
/-! ### _law_places -/
def insAt (f : List D) (x : D) : Nat := (f.filter fun o => decide (ordN o x < 0)).length
def insP (f : List D) (x : D) : List D := if innerB x = true ∧ (f.any fun z => PyData.eqv z x) = false then (f.take (insAt f x) ++ [x]) ++ f.drop (insAt f x) else f
def rtsQ (q : Int × Int × Int) : List D := rts q.1 q.2.1 q.2.2
def lawPl (qs : List (Int × Int × Int)) : List D := qs.foldl (fun f q => (rtsQ q).foldl insP f) []
theorem insP_mem {f : List D} {x y : D} (h : y ∈ insP f x) : y ∈ f ∨ y = x := by
  unfold insP at h
  split at h
  · rcases List.mem_append.mp h with h | h
    · rcases List.mem_append.mp h with h | h
      · exact .inl (List.mem_of_mem_take h)
      · exact .inr (List.mem_singleton.mp h)
    · exact .inl (List.mem_of_mem_drop h)
  · exact .inl h
theorem insP_len (f : List D) (x : D) : (insP f x).length ≤ f.length + 1 := by
  unfold insP
  split
  · rw [List.length_append, List.length_append, List.length_take, List.length_drop]
    show min (insAt f x) f.length + 1 + (f.length - insAt f x) ≤ f.length + 1
    omega
  · omega
theorem cmp_notinP {x : D} {ys : List D} {K : Bool → Prop} (P : PlaceN x) (h : ∀ y ∈ ys, PlaceN y) (q : K (!ys.any fun z => PyData.eqv z x)) : cmpD .NotIn x (.list ys) K := by
  have hs := P.ok.shaped
  have hl := shaped_list (ds := ys) fun y hy => (h y hy).ok
  rcases P with ⟨n, m, rfl, _⟩ | ⟨b0, b1, b2, w, rfl, _⟩
  · exact ⟨hs, hl, q⟩
  · exact ⟨hs, hl, q⟩
def SLPlaces : List D → (D → Prop) → Prop := fun ds W => ∃ qs : List (Int × Int × Int), ds = [.list (qs.map plD)] ∧ qs.length ≤ 100 ∧ (∀ q ∈ qs, PolyOk q) ∧ W (.list (lawPl qs))
theorem fLPlaces {M : Md} {f : Addr} {fd : FuncData} (ml : M.mg "len" = none) (FR : FnD M 3 "_law_roots" 1 SLRoots) (FI : FnD M 5 "_law_in" 1 SLIn) (FO : FnD M 4 "_law_order" 2 SLOrder)
    (F : Fun M.K "_law_places" "_law_places" sLPlaces f fd) (hm : M.mg "_law_places" = some (.ref f)) (b : L2.Binds M.K fd ["polys"] []) : FnD M 6 "_law_places" 1 SLPlaces := by
  refine fnD_mk (k := 5) (NK := nkLPlaces) (G := gLPlaces) F scLPlaces hm b rfl (by decide +kernel) rfl (by decide) fun X C ds W hl hS => ?_
  obtain ⟨qs, rfl, hq, good, w⟩ := hS
  show VSs X _ [.dat (.list (qs.map plD)), .no, .no, .no, .no, .no] _
  walk_at "v"
  walk_at "v"
  refine vn_vd (vn_lst ?_)
  walk_at "v"
  refine ⟨by show 0 ≤ 1000; decide, ?_⟩
  refine vss_cons (vs_for C (vi_lst ?_))
  walk_at "v"
  refine ⟨_, rfl, ?_⟩
  refine ⟨fun i ρ' => ∃ (fs : List D) (s2 s3 s4 s5 : Sl), fs = lawPl (qs.take i) ∧ (∀ y ∈ fs, PlaceN y) ∧ fs.length ≤ 2 * i ∧ ρ' = [.dat (.list (qs.map plD)), .dat (.list fs), s2, s3, s4, s5], ⟨[], _, _, _, _, rfl, (fun _ h => (nomatch h)), Nat.zero_le _, rfl⟩, fun i d ρ' hi hW => ?_, fun ρ' hW => ?_⟩
  · obtain ⟨fs, s2, s3, s4, s5, hfs, hN, hlen, rfl⟩ := hW
    have hil : i < qs.length := by
      have := (List.getElem?_eq_some_iff.mp hi).1
      rw [List.length_map] at this
      exact this
    obtain ⟨q, hqi, rfl⟩ : ∃ q, qs[i]? = some q ∧ d = plD q := by
      rw [List.getElem?_map] at hi
      cases hx : qs[i]? with
      | none => rw [hx] at hi; cases hi
      | some q =>
        rw [hx] at hi
        exact ⟨q, rfl, (Option.some.inj hi).symm⟩
    have O := good q (List.mem_of_getElem? hqi)
    have RN := rts_N O.a O.b O.c O.w
    have rl := (rts_facts O.a O.b O.c O.w).1
    have et : lawPl (qs.take (i + 1)) = (rtsQ q).foldl insP fs := by
      rw [List.take_succ, hqi]
      unfold lawPl
      rw [List.foldl_append]
      show List.foldl insP (lawPl (qs.take i)) (rtsQ q) = _
      rw [← hfs]
    walk_at "v"
    show VSs X _ [.dat (.list (qs.map plD)), .dat (.list fs), .dat (plD q), s3, s4, s5] _
    refine vss_one (vs_for C (vi_lst ?_))
    refine vd_call C FR (by walk_at "at") ?_
    walk_at "vv"
    refine ⟨rfl, q.1, q.2.1, q.2.2, rfl, O.a.sm, O.b.sm, O.c.sm, O.w, ?_⟩
    refine ⟨_, rfl, ?_⟩
    refine ⟨fun j ρ' => ∃ (gs : List D) (s3 s4 s5 : Sl), gs = ((rtsQ q).take j).foldl insP fs ∧ (∀ y ∈ gs, PlaceN y) ∧ gs.length ≤ 2 * i + j ∧ ρ' = [.dat (.list (qs.map plD)), .dat (.list gs), .dat (plD q), s3, s4, s5], ⟨fs, _, _, _, rfl, hN, hlen, rfl⟩, fun j x ρ' hj hW => ?_, fun ρ' hW => ?_⟩
    · obtain ⟨gs, s3, s4, s5, hgs, gN, glen, rfl⟩ := hW
      have P := RN x (List.mem_of_getElem? hj)
      have hjl := (List.getElem?_eq_some_iff.mp hj).1
      have ej : ((rtsQ q).take (j + 1)).foldl insP fs = insP gs x := by
        have hx : (rtsQ q)[j]? = some x := hj
        rw [List.take_succ, hx, List.foldl_append, ← hgs]
        rfl
      have nxt : ∀ hs : List D, hs = insP gs x → (∀ y ∈ hs, PlaceN y) ∧ hs.length ≤ 2 * i + (j + 1) := fun hs e => by
        subst e
        refine ⟨fun y hy => ?_, ?_⟩
        · rcases insP_mem hy with h | h
          · exact gN y h
          · rw [h]
            exact P
        · have := insP_len gs x
          omega
      walk_at "v"
      show VSs X _ [.dat (.list (qs.map plD)), .dat (.list gs), .dat (plD q), .dat x, s4, s5] _
      refine vss_one (vs_if (vt_w (vw_and (vt_val ?_))))
      refine vd_call C FI (by walk_at "at") ?_
      walk_at "vv"
      refine ⟨rfl, x, rfl, P.g, ?_⟩
      refine ⟨_, rfl, fun hin => ?_, fun hin => ?_⟩
      · refine vw_and1 ?_
        walk_at "vv"
        refine cmp_notinP P gN ?_
        refine ⟨fun hno => ?_, fun hno => ?_⟩
        · have hno : (gs.any fun z => PyData.eqv z x) = false := by simpa using hno
          have ei : insP gs x = (gs.take (insAt gs x) ++ [x]) ++ gs.drop (insAt gs x) := by
            unfold insP
            rw [if_pos ⟨hin, hno⟩]
          walk_at "v"
          walk_at "v"
          refine vd_callB C does_len (by walk_at "at") ?_
          refine va_cons (vn_vd ?_)
          refine vn_lcIf C nkLPlaces0 gLPlaces0 (i := 5) (by walk_at "at") ?_
          refine vi_lst ?_
          walk_at "v"
          refine ⟨_, rfl, by omega, fun l acc ρ' => acc = (gs.take l).filter (fun o => decide (ordN o x < 0)) ∧ ∃ s5 : Sl, ρ' = [.dat (.list (qs.map plD)), .dat (.list gs), .dat (plD q), .dat x, s4, s5], ⟨rfl, _, rfl⟩, fun l o acc ρ' hl hW X' C' => ?_, fun acc ρ' hW => ?_⟩
          · obtain ⟨rfl, s5, rfl⟩ := hW
            have Po := gN o (List.mem_of_getElem? hl)
            have ef : (gs.take (l + 1)).filter (fun o => decide (ordN o x < 0)) = (gs.take l).filter (fun o => decide (ordN o x < 0)) ++ (if decide (ordN o x < 0) = true then [o] else []) := by
              rw [List.take_succ, hl, List.filter_append]
              congr 1
              show List.filter _ [o] = _
              rw [List.filter_cons]
              rfl
            walk_at "v"
            refine vd_call C' FO (by walk_at "at") ?_
            walk_at "vv"
            refine ⟨rfl, o, x, rfl, Po.g, P.g, ?_⟩
            walk_at "vv"
            refine ⟨fun h X'' C'' => ?_, fun h => ?_⟩
            · walk_at "vv"
              exact ⟨by rw [ef, if_pos h], _, rfl⟩
            · exact ⟨by rw [ef, if_neg (by rw [h]; decide), List.append_nil], _, rfl⟩
          · obtain ⟨rfl, s5, rfl⟩ := hW
            rw [List.take_length]
            refine va_nil ?_
            refine ⟨_, .inl rfl, ?_⟩
            show VSs X _ [.dat (.list (qs.map plD)), .dat (.list gs), .dat (plD q), .dat x, .dat (.int ((insAt gs x : Nat) : Int)), s5] _
            walk_at "v"
            walk_at "v"
            refine vn_vd (vn_cat ?_)
            refine vn_vd (vn_cat ?_)
            refine vn_vd (vn_takeE ?_)
            walk_at "vv"
            refine ⟨_, _, rfl, rfl, ?_⟩
            refine vn_vd (vn_lst ?_)
            walk_at "vv"
            refine ⟨by show 1 ≤ 1000; decide, _, _, rfl, rfl, ?_, ?_⟩
            · rw [List.length_take]
              show min (insAt gs x) gs.length + 1 ≤ 100000
              omega
            refine vn_vd (vn_dropE ?_)
            walk_at "vv"
            refine ⟨_, _, rfl, rfl, ?_⟩
            refine ⟨_, _, rfl, rfl, ?_, ?_⟩
            · rw [List.length_append, List.length_take, List.length_drop]
              show min (insAt gs x) gs.length + 1 + (gs.length - insAt gs x) ≤ 100000
              omega
            obtain ⟨n1, n2⟩ := nxt _ ei.symm
            exact ⟨_, _, _, _, by rw [ej, ei], n1, n2, rfl⟩
        · have hno : (gs.any fun z => PyData.eqv z x) = true := by simpa using hno
          have ei : insP gs x = gs := by
            unfold insP
            rw [if_neg (fun h => by rw [hno] at h; cases h.2)]
          refine vss_nil ?_
          obtain ⟨n1, n2⟩ := nxt _ ei.symm
          exact ⟨_, _, _, _, by rw [ej, ei], n1, n2, rfl⟩
      · have ei : insP gs x = gs := by
          unfold insP
          rw [if_neg (fun h => by rw [hin] at h; cases h.1)]
        refine ⟨fun h => absurd h (by decide), fun _ => ?_⟩
        refine vss_nil ?_
        obtain ⟨n1, n2⟩ := nxt _ ei.symm
        exact ⟨_, _, _, _, by rw [ej, ei], n1, n2, rfl⟩
    · obtain ⟨gs, s3, s4, s5, hgs, gN, glen, rfl⟩ := hW
      have tl : (rtsQ q).take (rts q.1 q.2.1 q.2.2).length = rtsQ q := List.take_length
      rw [tl] at hgs
      exact ⟨gs, _, _, _, _, by rw [et, hgs], gN, by omega, rfl⟩
  · obtain ⟨fs, s2, s3, s4, s5, hfs, hN, hlen, rfl⟩ := hW
    rw [List.length_map, List.take_length] at hfs
    walk_at "vv"
    rw [hfs]
    exact w


open PySem PySem.Spec PyProof.Rows L2 Vc

/-! ### ascending by floors over 2 ^ 64 -/
def f64 : D → Int
  | .tuple [.int n, .int d] => n * 2 ^ 64 / d
  | .tuple [.str _, .tuple [.int b0, .int b1, .int b2], .int w] => flr b0 b1 b2 w (2 ^ 64)
  | _ => 0
theorem t64 : (2 : Int) ^ 60 ≤ 2 ^ 64 := by decide
theorem ite_lt {p q : Prop} [Decidable p] [Decidable q] (h : (if p then (-1 : Int) else 1) = if q then -1 else 1) : p ↔ q := by
  by_cases hp : p <;> by_cases hq : q
  · exact ⟨fun _ => hq, fun _ => hp⟩
  · rw [if_pos hp, if_neg hq] at h
    omega
  · rw [if_neg hp, if_pos hq] at h
    omega
  · exact ⟨fun z => absurd z hp, fun z => absurd z hq⟩
theorem ite_neg1 {p : Prop} [Decidable p] : (if p then (-1 : Int) else 1) < 0 ↔ p := by
  split <;> rename_i h <;> simp [h]
theorem ord64 {x y : D} (P : PlaceN x) (Q : PlaceN y) : ordN x y < 0 ↔ f64 x < f64 y := by
  rcases P with ⟨n, d, rfl, hn, hd, hd2, gd⟩ | ⟨b0, b1, b2, w, rfl, hw, I, gI⟩
  · rcases Q with ⟨m, e, rfl, hm, he, he2, ge⟩ | ⟨a0, a1, a2, z, rfl, hz, J, gJ⟩
    · show sgn (n * e - m * d) < 0 ↔ n * 2 ^ 64 / d < m * 2 ^ 64 / e
      rw [sgn_lt]
      generalize hF : n * 2 ^ 64 / d = F
      generalize hG : m * 2 ^ 64 / e = G
      obtain ⟨f1, f2⟩ := fdiv_b hd hF.symm
      obtain ⟨g1, g2⟩ := fdiv_b he hG.symm
      -- both over d e
      have F1 := Int.mul_le_mul_of_nonneg_right f1 (show 0 ≤ e by omega)
      have F2 := Int.mul_lt_mul_of_pos_right f2 he
      have G1 := Int.mul_le_mul_of_nonneg_right g1 (show 0 ≤ d by omega)
      have G2 := Int.mul_lt_mul_of_pos_right g2 hd
      have de := Int.mul_pos hd he
      have dele := mul_abs (i := d) (j := e) (a := 150) (b := 150) (by omega) (by omega) (by omega) (by omega)
      have e1 : n * 2 ^ 64 * e = 2 ^ 64 * (n * e) := by grind
      have e2 : m * 2 ^ 64 * d = 2 ^ 64 * (m * d) := by grind
      have e3 : F * d * e = F * (d * e) := by grind
      have e4 : (F * d + d) * e = F * (d * e) + d * e := by grind
      have e5 : G * e * d = G * (d * e) := by grind
      have e6 : (G * e + e) * d = G * (d * e) + d * e := by grind
      rw [e1, e3] at F1
      rw [e1, e4] at F2
      rw [e2, e5] at G1
      rw [e2, e6] at G2
      refine ⟨fun h => ?_, fun h => ?_⟩
      · rcases Int.lt_or_le F G with q | q
        · exact q
        · have := Int.mul_le_mul_of_nonneg_right q (show 0 ≤ d * e by omega)
          omega
      · have := Int.mul_le_mul_of_nonneg_right (show F + 1 ≤ G by omega) (show 0 ≤ d * e by omega)
        rw [Int.add_mul, Int.one_mul] at this
        omega
    · rw [ordN_gen (PlaceN.g (.inl ⟨n, d, rfl, hn, hd, hd2, gd⟩)) (PlaceN.g (.inr ⟨a0, a1, a2, z, rfl, hz, J, gJ⟩)) (eqv_fr ..) (by rintro ⟨_, _, _, _, _, h⟩; cases h), ite_neg1]
      exact ite_lt ((ord_FR J hz t90 hn hd hd2).2.symm.trans (ord_FR J hz t64 hn hd hd2).2)
  · rcases Q with ⟨m, e, rfl, hm, he, he2, ge⟩ | ⟨a0, a1, a2, z, rfl, hz, J, gJ⟩
    · rw [ordN_gen (PlaceN.g (.inr ⟨b0, b1, b2, w, rfl, hw, I, gI⟩)) (PlaceN.g (.inl ⟨m, e, rfl, hm, he, he2, ge⟩)) (eqv_rf ..) (by rintro ⟨_, _, _, _, h, _⟩; cases h), ite_neg1]
      exact ite_lt ((ord_RF (w := w) I t90 hm he he2).symm.trans (ord_RF I t64 hm he he2))
    · by_cases np : a1 * b2 - a2 * b1 = 0 ∧ a0 * b2 - a2 * b0 = 0
      · obtain ⟨e0, e1, e2⟩ := prop_eq I.p2 J.p2 gI gJ (by omega) (by omega)
        subst e0 e1 e2
        rw [ordN_RR_eq I hw hz, sgn_lt]
        have s := sepS I t64
        show w - z < 0 ↔ flr a0 a1 a2 w (2 ^ 64) < flr a0 a1 a2 z (2 ^ 64)
        rcases hw with rfl | rfl <;> rcases hz with rfl | rfl <;> omega
      · have ne : PyData.eqv (rootD (tup3 b0 b1 b2) w) (rootD (tup3 a0 a1 a2) z) = false := by
          rw [eqv_rr]
          have : ¬ (b0 = a0 ∧ b1 = a1 ∧ b2 = a2) := fun ⟨x0, x1, x2⟩ => np (by
            subst x0 x1 x2
            exact ⟨by rw [Int.mul_comm]; omega, by rw [Int.mul_comm]; omega⟩)
          rw [decide_eq_false this, Bool.false_and]
        rw [ordN_gen (PlaceN.g (.inr ⟨b0, b1, b2, w, rfl, hw, I, gI⟩)) (PlaceN.g (.inr ⟨a0, a1, a2, z, rfl, hz, J, gJ⟩)) ne (by rintro ⟨_, _, _, _, h, _⟩; cases h), ite_neg1]
        exact ite_lt ((ord_RR (w := w) I J hz t90 np).2.symm.trans (ord_RR I J hz t64 np).2)
theorem f64_inj {x y : D} (P : PlaceN x) (Q : PlaceN y) (h : f64 x = f64 y) : x = y := by
  have h1 : ¬ ordN x y < 0 := fun z => by have := (ord64 P Q).mp z; omega
  have h2 : ¬ ordN y x < 0 := fun z => by have := (ord64 Q P).mp z; omega
  rcases P with ⟨n, d, rfl, hn, hd, hd2, gd⟩ | ⟨b0, b1, b2, w, rfl, hw, I, gI⟩
  · rcases Q with ⟨m, e, rfl, hm, he, he2, ge⟩ | ⟨a0, a1, a2, z, rfl, hz, J, gJ⟩
    · have k1 : ¬ sgn (n * e - m * d) < 0 := h1
      have k2 : ¬ sgn (m * d - n * e) < 0 := h2
      rw [sgn_lt] at k1 k2
      have k : n * e = m * d := by omega
      have kn : n.natAbs * e.natAbs = m.natAbs * d.natAbs := by rw [← Int.natAbs_mul, ← Int.natAbs_mul, k]
      have d1 : d.natAbs ∣ e.natAbs := Nat.Coprime.dvd_of_dvd_mul_left (show Nat.Coprime d.natAbs n.natAbs by rw [Nat.coprime_comm]; exact gd) ⟨m.natAbs, by rw [kn, Nat.mul_comm]⟩
      have d2 : e.natAbs ∣ d.natAbs := Nat.Coprime.dvd_of_dvd_mul_left (show Nat.Coprime e.natAbs m.natAbs by rw [Nat.coprime_comm]; exact ge) ⟨n.natAbs, by rw [← kn, Nat.mul_comm]⟩
      have ed : d = e := by
        have := Nat.dvd_antisymm d1 d2
        omega
      subst ed
      have := Int.eq_of_mul_eq_mul_right (by omega) k
      rw [this]
    · exact absurd h.symm (sepF J t64 hn hd hd2)
  · rcases Q with ⟨m, e, rfl, hm, he, he2, ge⟩ | ⟨a0, a1, a2, z, rfl, hz, J, gJ⟩
    · exact absurd h (sepF I t64 hm he he2)
    · by_cases np : a1 * b2 - a2 * b1 = 0 ∧ a0 * b2 - a2 * b0 = 0
      · obtain ⟨e0, e1, e2⟩ := prop_eq I.p2 J.p2 gI gJ (by omega) (by omega)
        subst e0 e1 e2
        have s := sepS I t64
        have h' : flr a0 a1 a2 w (2 ^ 64) = flr a0 a1 a2 z (2 ^ 64) := h
        rcases hw with rfl | rfl <;> rcases hz with rfl | rfl
        · rfl
        · omega
        · omega
        · rfl
      · exact absurd h (sepR I J t64 np)
/-- strictly ascending -/
def Asc (l : List D) : Prop := l.Pairwise fun x y => f64 x < f64 y
theorem asc_uniq : ∀ {l m : List D}, Asc l → Asc m → (∀ x, x ∈ l ↔ x ∈ m) → l = m
  | [], [], _, _, _ => rfl
  | [], b :: m, _, _, h => absurd ((h b).mpr (by simp)) (by simp)
  | a :: l, [], _, _, h => absurd ((h a).mp (by simp)) (by simp)
  | a :: l, b :: m, hl, hm, h => by
    unfold Asc at hl hm
    rw [List.pairwise_cons] at hl hm
    have e : a = b := by
      rcases List.mem_cons.mp ((h a).mp (by simp)) with q | q
      · exact q
      · rcases List.mem_cons.mp ((h b).mpr (by simp)) with r | r
        · exact r.symm
        · have x1 := hm.1 a q
          have x2 := hl.1 b r
          omega
    subst e
    rw [asc_uniq hl.2 hm.2 fun x => ⟨fun hx => ?_, fun hx => ?_⟩]
    · rcases List.mem_cons.mp ((h x).mp (by simp [hx])) with q | q
      · subst q
        have := hl.1 x hx
        omega
      · exact q
    · rcases List.mem_cons.mp ((h x).mpr (by simp [hx])) with q | q
      · subst q
        have := hm.1 x hx
        omega
      · exact q
/-- those below stand first -/
theorem asc_cut : ∀ {l : List D} (v : Int), Asc l → l.take (l.filter fun o => decide (f64 o < v)).length = l.filter (fun o => decide (f64 o < v)) ∧ (∀ o ∈ l.drop (l.filter fun o => decide (f64 o < v)).length, v ≤ f64 o)
  | [], _, _ => ⟨rfl, fun _ h => nomatch h⟩
  | a :: l, v, h => by
    unfold Asc at h
    rw [List.pairwise_cons] at h
    rw [List.filter_cons]
    by_cases q : f64 a < v
    · rw [if_pos (decide_eq_true q)]
      obtain ⟨h1, h2⟩ := asc_cut v h.2
      refine ⟨?_, ?_⟩
      · rw [List.length_cons, List.take_succ_cons, h1]
      · rw [List.length_cons, List.drop_succ_cons]
        exact h2
    · rw [if_neg (by rw [decide_eq_false q]; decide)]
      have hn : l.filter (fun o => decide (f64 o < v)) = [] := List.filter_eq_nil_iff.mpr fun o ho z => by
        have := h.1 o ho
        have := of_decide_eq_true z
        omega
      rw [hn]
      refine ⟨rfl, fun o ho => ?_⟩
      have ho : o ∈ a :: l := ho
      rcases List.mem_cons.mp ho with r | r
      · subst r
        omega
      · have := h.1 o r
        omega
theorem ins_asc {f : List D} {x : D} (hf : Asc f) (N : ∀ y ∈ f, PlaceN y) (P : PlaceN x) : Asc (insP f x) ∧ ∀ y, y ∈ insP f x ↔ y ∈ f ∨ (y = x ∧ innerB x = true) := by
  have any_iff : (f.any fun z => PyData.eqv z x) = true ↔ x ∈ f := by
    refine ⟨fun h => ?_, fun h => ?_⟩
    · obtain ⟨z, hz, he⟩ := List.any_eq_true.mp h
      rw [← eqv_place (N z hz).ok P.ok he]
      exact hz
    · exact List.any_eq_true.mpr ⟨x, h, SeqAt.eqv_refl _ P.ok.lay.1⟩
  unfold insP
  by_cases c : innerB x = true ∧ (f.any fun z => PyData.eqv z x) = false
  · rw [if_pos c]
    have hx : x ∉ f := fun z => by
      rw [any_iff.mpr z] at c
      cases c.2
    have ea : insAt f x = (f.filter fun o => decide (f64 o < f64 x)).length := by
      unfold insAt
      congr 1
      refine List.filter_congr fun o ho => ?_
      exact decide_eq_decide.mpr (ord64 (N o ho) P)
    obtain ⟨h1, h2⟩ := asc_cut (f64 x) hf
    rw [ea]
    refine ⟨?_, fun y => ?_⟩
    · unfold Asc
      rw [List.pairwise_append, List.pairwise_append]
      refine ⟨⟨List.Pairwise.sublist (List.take_sublist _ _) hf, List.pairwise_singleton _ _, fun a ha b hb => ?_⟩, List.Pairwise.sublist (List.drop_sublist _ _) hf, fun a ha b hb => ?_⟩
      · rw [List.mem_singleton.mp hb]
        rw [h1] at ha
        exact of_decide_eq_true (List.mem_filter.mp ha).2
      · have hb2 := h2 b hb
        have hb3 : f64 x ≠ f64 b := fun z => by
          have hbf := List.mem_of_mem_drop hb
          rw [f64_inj P (N b hbf) z] at hx
          exact hx hbf
        rcases List.mem_append.mp ha with q | q
        · rw [h1] at q
          have := of_decide_eq_true (List.mem_filter.mp q).2
          omega
        · rw [List.mem_singleton.mp q]
          omega
    · have td : y ∈ f ↔ y ∈ f.take (f.filter fun o => decide (f64 o < f64 x)).length ∨ y ∈ f.drop (f.filter fun o => decide (f64 o < f64 x)).length := by
        rw [← List.mem_append, List.take_append_drop]
      rw [List.mem_append, List.mem_append, List.mem_singleton, td]
      refine ⟨fun h => ?_, fun h => ?_⟩
      · rcases h with (h | h) | h
        · exact .inl (.inl h)
        · exact .inr ⟨h, c.1⟩
        · exact .inl (.inr h)
      · rcases h with (h | h) | h
        · exact .inl (.inl h)
        · exact .inr h
        · exact .inl (.inr h.1)
  · rw [if_neg c]
    refine ⟨hf, fun y => ⟨fun h => .inl h, fun h => ?_⟩⟩
    rcases h with h | ⟨rfl, h⟩
    · exact h
    · refine any_iff.mp ?_
      cases e : f.any fun z => PyData.eqv z y with
      | true => rfl
      | false => exact absurd ⟨h, e⟩ c
theorem fold_asc : ∀ {l f : List D}, Asc f → (∀ y ∈ f, PlaceN y) → (∀ y ∈ l, PlaceN y) → Asc (l.foldl insP f) ∧ (∀ y ∈ l.foldl insP f, PlaceN y) ∧ ∀ y, y ∈ l.foldl insP f ↔ y ∈ f ∨ (y ∈ l ∧ innerB y = true)
  | [], f, hf, N, _ => ⟨hf, N, fun y => ⟨fun h => .inl h, fun h => h.elim id fun h => nomatch h.1⟩⟩
  | x :: l, f, hf, N, M => by
    obtain ⟨h1, h2⟩ := ins_asc hf N (M x (by simp))
    have N2 : ∀ y ∈ insP f x, PlaceN y := fun y hy => by
      rcases (h2 y).mp hy with h | h
      · exact N y h
      · rw [h.1]
        exact M x (by simp)
    obtain ⟨g1, g2, g3⟩ := fold_asc (l := l) h1 N2 fun y hy => M y (by simp [hy])
    refine ⟨g1, g2, fun y => ?_⟩
    show y ∈ l.foldl insP (insP f x) ↔ _
    rw [g3, h2, List.mem_cons]
    refine ⟨fun h => ?_, fun h => ?_⟩
    · rcases h with (h | ⟨rfl, h⟩) | ⟨h, k⟩
      · exact .inl h
      · exact .inr ⟨.inl rfl, h⟩
      · exact .inr ⟨.inr h, k⟩
    · rcases h with h | ⟨h | h, k⟩
      · exact .inl (.inl h)
      · subst h
        exact .inl (.inr ⟨rfl, k⟩)
      · exact .inr ⟨h, k⟩
/-- what the places of polynomials are -/
def IsPlaces (qs : List (Int × Int × Int)) (l : List D) : Prop := Asc l ∧ ∀ y, y ∈ l ↔ ∃ q ∈ qs, y ∈ rtsQ q ∧ innerB y = true
theorem lawPl_go : ∀ {qs : List (Int × Int × Int)} {f : List D}, Asc f → (∀ y ∈ f, PlaceN y) → (∀ q ∈ qs, PolyOk q) → Asc (qs.foldl (fun f q => (rtsQ q).foldl insP f) f) ∧ ∀ y, y ∈ qs.foldl (fun f q => (rtsQ q).foldl insP f) f ↔ y ∈ f ∨ ∃ q ∈ qs, y ∈ rtsQ q ∧ innerB y = true
  | [], f, hf, N, _ => ⟨hf, fun y => ⟨fun h => .inl h, fun h => h.elim id fun ⟨_, h, _⟩ => nomatch h⟩⟩
  | q :: qs, f, hf, N, good => by
    have O := good q (by simp)
    obtain ⟨h1, h2, h3⟩ := fold_asc (l := rtsQ q) hf N (rts_N O.a O.b O.c O.w)
    obtain ⟨g1, g2⟩ := lawPl_go (qs := qs) h1 h2 fun q hq => good q (by simp [hq])
    refine ⟨g1, fun y => ?_⟩
    show y ∈ qs.foldl (fun f q => (rtsQ q).foldl insP f) ((rtsQ q).foldl insP f) ↔ _
    rw [g2, h3]
    refine ⟨fun h => ?_, fun h => ?_⟩
    · rcases h with (h | h) | ⟨r, hr, h⟩
      · exact .inl h
      · exact .inr ⟨q, by simp, h⟩
      · exact .inr ⟨r, by simp [hr], h⟩
    · rcases h with h | ⟨r, hr, h⟩
      · exact .inl (.inl h)
      · rcases List.mem_cons.mp hr with rfl | hr
        · exact .inl (.inr h)
        · exact .inr ⟨r, hr, h⟩
theorem lawPl_is {qs : List (Int × Int × Int)} (good : ∀ q ∈ qs, PolyOk q) : IsPlaces qs (lawPl qs) := by
  obtain ⟨h1, h2⟩ := lawPl_go (qs := qs) (f := []) List.Pairwise.nil (fun _ h => nomatch h) good
  refine ⟨h1, fun y => ?_⟩
  unfold lawPl
  rw [h2]
  exact ⟨fun h => h.elim (fun h => nomatch h) id, .inr⟩
theorem isPlaces_uniq {qs rs : List (Int × Int × Int)} {l m : List D} (h1 : IsPlaces qs l) (h2 : IsPlaces rs m) (e : ∀ q, q ∈ qs ↔ q ∈ rs) : l = m :=
  asc_uniq h1.1 h2.1 fun y => by
    rw [h1.2, h2.2]
    exact ⟨fun ⟨q, hq, h⟩ => ⟨q, (e q).mp hq, h⟩, fun ⟨q, hq, h⟩ => ⟨q, (e q).mpr hq, h⟩⟩


/-! ### ascending -/
def SAsc : List D → (D → Prop) → Prop := fun ds W => ∃ xs : List D, ds = [.list xs, .int 64] ∧ xs.length < 60 ∧ (∀ x ∈ xs, PlaceN x) ∧ xs.Nodup ∧ ∀ l, Asc l → (∀ y, y ∈ l ↔ y ∈ xs) → W (.list l)
theorem floor_spec {x : D} {W : D → Prop} (P : PlaceN x) (w : W (.int (f64 x))) : SFloor [x, .int 64] W := by
  rcases P with ⟨n, d, rfl, hn, hd, hd2, _⟩ | ⟨b0, b1, b2, wh, rfl, hw, I, _⟩
  · exact ⟨_, 64, rfl, by decide, .inl ⟨n, d, rfl, by omega, hd, by omega, w⟩⟩
  · exact ⟨_, 64, rfl, by decide, .inr ⟨b0, b1, b2, wh, rfl, I, w⟩⟩
def grp (x : D) : Int × D := (f64 x, .list [x])
theorem find_grp : ∀ {xs : List D} {x : D}, (∀ y ∈ xs, PlaceN y) → x ∈ xs → (xs.map grp).find? (fun e => decide (e.1 = f64 x)) = some (f64 x, .list [x])
  | [], _, _, h => nomatch h
  | a :: xs, x, N, h => by
    rw [List.map_cons, List.find?_cons]
    by_cases q : f64 a = f64 x
    · have e : a = x := by
        have Px := N x h
        exact f64_inj (N a (by simp)) Px q
      subst e
      have : decide ((grp a).1 = f64 a) = true := decide_eq_true rfl
      rw [this]
      rfl
    · have : decide ((grp a).1 = f64 x) = false := decide_eq_false q
      rw [this]
      refine find_grp (fun y hy => N y (by simp [hy])) ?_
      rcases List.mem_cons.mp h with r | r
      · exact absurd (by rw [r]) q
      · exact r
theorem strict_of : ∀ {ys : List Int}, ys.Pairwise (· ≤ ·) → ys.Nodup → ys.Pairwise (· < ·)
  | [], _, _ => .nil
  | a :: ys, h, n => by
    rw [List.pairwise_cons] at h ⊢
    rw [List.nodup_cons] at n
    refine ⟨fun b hb => ?_, strict_of h.2 n.2⟩
    have h1 := h.1 b hb
    have h2 : a ≠ b := fun e => n.1 (by rw [e]; exact hb)
    omega
theorem nodup_f64 : ∀ {xs : List D}, (∀ y ∈ xs, PlaceN y) → xs.Nodup → (xs.map f64).Nodup
  | [], _, _ => .nil
  | a :: xs, N, h => by
    rw [List.nodup_cons] at h
    rw [List.map_cons, List.nodup_cons]
    refine ⟨fun z => ?_, nodup_f64 (fun y hy => N y (by simp [hy])) h.2⟩
    obtain ⟨b, hb, e⟩ := List.mem_map.mp z
    rw [f64_inj (N b (by simp [hb])) (N a (by simp)) e] at hb
    exact h.1 hb
theorem fAscending {M : Md} {f : Addr} {fd : FuncData} (ml : M.mg "len" = none) (ms : M.mg "sorted" = none) (FF : FnD M 2 "floor_of" 2 SFloor)
    (F : Fun M.K "ascending" "ascending" sAscending f fd) (hm : M.mg "ascending" = some (.ref f)) (b : L2.Binds M.K fd ["unlike", "bits"] []) : FnD M 3 "ascending" 2 SAsc := by
  refine fnD_mk (k := 2) (NK := nkAscending) (G := gAscending) F scAscending hm b rfl (by decide +kernel) rfl (by decide) fun X C ds W hl hS => ?_
  obtain ⟨xs, rfl, hlen, N, nd, w⟩ := hS
  show VSs X _ [.dat (.list xs), .dat (.int 64), .no, .no, .no, .no, .no] _
  refine vss_cons (vs_newDi C (i := 2) (by walk_at "at") (by show 2 < 7; decide) fun p => ?_)
  show VSs X _ [.dat (.list xs), .dat (.int 64), .own p (.di []), .no, .no, .no, .no] _
  refine vss_cons (vs_for C (vi_lst ?_))
  walk_at "v"
  refine ⟨_, rfl, fun i ρ' => ∃ s : Sl, ρ' = [.dat (.list xs), .dat (.int 64), .own p (.di ((xs.take i).map grp)), s, .no, .no, .no], ⟨_, rfl⟩, fun i x ρ' hi hW => ?_, fun ρ' hW => ?_⟩
  · obtain ⟨s, rfl⟩ := hW
    have P := N x (List.mem_of_getElem? hi)
    walk_at "v"
    show VSs X _ [.dat (.list xs), .dat (.int 64), .own p (.di ((xs.take i).map grp)), .dat x, .no, .no, .no] _
    refine vss_one (vs_dapp C (i := 2) (j := 3) (by walk_at "at") rfl (by walk_at "at") ?_)
    refine vd_call C FF (by walk_at "at") ?_
    walk_at "vv"
    refine ⟨rfl, floor_spec P ?_⟩
    refine ⟨f64 x, _, x, rfl, rfl, rfl, fun e he z => ?_, ?_, ?_⟩
    · obtain ⟨a, ha, rfl⟩ := List.mem_map.mp he
      have e2 := f64_inj (N a (List.mem_of_mem_take ha)) P z
      subst e2
      obtain ⟨j, hj, ej⟩ := List.mem_iff_getElem.mp ha
      rw [List.length_take] at hj
      rw [List.getElem_take] at ej
      obtain ⟨hil, ei⟩ := List.getElem?_eq_some_iff.mp hi
      exact absurd (ej.trans ei.symm) (List.pairwise_iff_getElem.mp nd j i (by omega) hil (by omega))
    · rw [List.length_map, List.length_take]
      omega
    · refine ⟨.dat x, ?_⟩
      have et : (xs.take (i + 1)).map grp = (xs.take i).map grp ++ [grp x] := by
        rw [List.take_succ, hi, List.map_append]
        rfl
      rw [et]
      rfl
  · obtain ⟨s, rfl⟩ := hW
    rw [List.take_length]
    refine vss_cons ?_
    refine vs_new C (i := 4) (by walk_at "at") (by show 4 < 7; decide) ?_
    refine vn_lst ?_
    walk_at "v"
    refine ⟨by show 0 ≤ 1000; decide, fun q => ?_⟩
    show VSs X _ [.dat (.list xs), .dat (.int 64), .own p (.di (xs.map grp)), s, .own q (.l []), .no, .no] _
    refine vss_cons (vs_for C (vi_lst (vn_vd (vn_sortedDi C (i := 2) (by walk_at "at") (by walk_at "at") rfl (by rw [List.length_map]; omega) fun ys hperm hpw => ?_))))
    have ek : (xs.map grp).map (·.1) = xs.map f64 := by
      rw [List.map_map]
      rfl
    rw [ek] at hperm
    have yl : ys.length < 60 := by
      rw [hperm.length_eq, List.length_map]
      exact hlen
    refine ⟨_, rfl, fun j ρ' => ∃ (acc : List D) (s5 s6 : Sl), acc.map f64 = ys.take j ∧ (∀ a ∈ acc, a ∈ xs) ∧ ρ' = [.dat (.list xs), .dat (.int 64), .own p (.di (xs.map grp)), s, .own q (.l acc), s5, s6], ⟨[], _, _, rfl, (fun _ h => (nomatch h)), rfl⟩, fun j t ρ' hj hW => ?_, fun ρ' hW => ?_⟩
    · obtain ⟨acc, s5, s6, hacc, hin, rfl⟩ := hW
      obtain ⟨t, ht, rfl⟩ : ∃ t' : Int, ys[j]? = some t' ∧ t = .int t' := by
        rw [List.getElem?_map] at hj
        cases hx : ys[j]? with
        | none => rw [hx] at hj; cases hj
        | some u =>
          rw [hx] at hj
          exact ⟨u, rfl, (Option.some.inj hj).symm⟩
      obtain ⟨x, hx, rfl⟩ := List.mem_map.mp (hperm.mem_iff.mp (List.mem_of_getElem? ht))
      walk_at "v"
      show VSs X _ [.dat (.list xs), .dat (.int 64), .own p (.di (xs.map grp)), s, .own q (.l acc), .dat (.int (f64 x)), s6] _
      walk_at "v"
      walk_at "v"
      refine vd_dgetDi C (i := 2) (by walk_at "at") rfl ?_
      walk_at "v"
      refine ⟨f64 x, _, _, rfl, rfl, find_grp N hx, ?_⟩
      show VSs X _ [.dat (.list xs), .dat (.int 64), .own p (.di (xs.map grp)), s, .own q (.l acc), .dat (.int (f64 x)), .dat (.list [x])] _
      have al : acc.length ≤ 60 := by
        have := congrArg List.length hacc
        rw [List.length_map, List.length_take] at this
        omega
      refine vss_one (vs_extend C (i := 4) (by walk_at "at") rfl ?_)
      walk_at "vv"
      refine ⟨_, .inl rfl, ?_⟩
      walk_at "vv"
      refine ⟨fun _ => ?_, fun h => absurd h (by show ¬ decide (((1 : Nat) : Int) = 1) = false; decide)⟩
      walk_at "vv"
      refine ⟨[x], acc, rfl, rfl, by show acc.length + 1 ≤ 100000; omega, ?_⟩
      refine ⟨acc ++ [x], _, _, ?_, fun a ha => ?_, rfl⟩
      · rw [List.map_append, hacc, List.take_succ, ht]
        rfl
      · rcases List.mem_append.mp ha with h | h
        · exact hin a h
        · rw [List.mem_singleton.mp h]
          exact hx
    · obtain ⟨acc, s5, s6, hacc, hin, rfl⟩ := hW
      rw [List.length_map, List.take_length] at hacc
      refine vss_frz (i := 4) rfl ?_
      show VSs X _ [.dat (.list xs), .dat (.int 64), .own p (.di (xs.map grp)), s, .dat (.list acc), s5, s6] _
      walk_at "vv"
      have st := strict_of hpw (hperm.nodup_iff.mpr (nodup_f64 N nd))
      rw [← hacc, List.pairwise_map] at st
      refine w acc st fun y => ⟨hin y, fun hy => ?_⟩
      have hm : f64 y ∈ acc.map f64 := by
        rw [hacc]
        exact hperm.mem_iff.mpr (List.mem_map.mpr ⟨y, hy, rfl⟩)
      obtain ⟨a, ha, e⟩ := List.mem_map.mp hm
      rw [f64_inj (N a (hin a ha)) (N y hy) e] at ha
      exact ha


instance sbDec (n : Int) : Decidable (Sb n) := by
  unfold Sb
  infer_instance
def SPlaces : List D → (D → Prop) → Prop := fun ds W => ∃ qs : List (Int × Int × Int), ds = [.list (qs.map plD)] ∧ qs.length ≤ 29 ∧ (∀ q ∈ qs, PolyOk q) ∧ ∀ l, IsPlaces qs l → W (.list l)


/-! ### places_of -/
theorem nk_place {x y : D} (hx : PlaceN x) (hy : PlaceN y) (h : nkD x = nkD y) : x = y := by
  rcases hx with ⟨n, d, rfl, _⟩ | ⟨b0, b1, b2, w, rfl, _⟩
  · rcases hy with ⟨m, e, rfl, _⟩ | ⟨a0, a1, a2, z, rfl, _⟩
    · have h' : NestedKey.tup [.num n, .num d] = NestedKey.tup [.num m, .num e] := h
      injection h' with h'
      injection h' with h1 h2
      injection h1 with h1
      injection h2 with h2 _
      injection h2 with h2
      rw [h1, h2]
    · have h' : NestedKey.tup [.num n, .num d] = NestedKey.tup [.text "root", .tup [.num a0, .num a1, .num a2], .num z] := h
      injection h' with h'
      injection h' with h1 h2
      cases h1
  · rcases hy with ⟨m, e, rfl, _⟩ | ⟨a0, a1, a2, z, rfl, _⟩
    · have h' : NestedKey.tup [.text "root", .tup [.num b0, .num b1, .num b2], .num w] = NestedKey.tup [.num m, .num e] := h
      injection h' with h'
      injection h' with h1 h2
      cases h1
    · have h' : NestedKey.tup [.text "root", .tup [.num b0, .num b1, .num b2], .num w] = NestedKey.tup [.text "root", .tup [.num a0, .num a1, .num a2], .num z] := h
      injection h' with h'
      injection h' with h1 h2
      injection h2 with h2 h3
      injection h3 with h3 _
      injection h3 with h3
      injection h2 with h2
      injection h2 with k0 k1
      injection k1 with k1 k2
      injection k2 with k2 _
      injection k0 with k0
      injection k1 with k1
      injection k2 with k2
      rw [k0, k1, k2, h3]
theorem place_ky {x : D} (hx : PlaceN x) : kyD x = true ∧ (nkD x).depth ≤ 8 ∧ ∃ ys, x = .tuple ys := by
  rcases hx with ⟨n, d, rfl, _⟩ | ⟨b0, b1, b2, w, rfl, _⟩
  · refine ⟨rfl, ?_, _, rfl⟩
    show 0 + 1 ≤ 8
    decide
  · refine ⟨rfl, ?_, _, rfl⟩
    show 1 + 1 ≤ 8
    decide
/-- what was found: these, each once -/
structure Fnd (T : D → Prop) (es : List (D × D)) : Prop where
  mem : ∀ y, y ∈ es.map (·.1) ↔ T y
  nd : (es.map (·.1)).Nodup
  pl : ∀ y ∈ es.map (·.1), PlaceN y
theorem Fnd.congr {T U : D → Prop} {es : List (D × D)} (h : Fnd T es) (e : ∀ y, T y ↔ U y) : Fnd U es := ⟨fun y => (h.mem y).trans (e y), h.nd, h.pl⟩
theorem Fnd.put {T : D → Prop} {es : List (D × D)} {x d : D} (h : Fnd T es) (hx : PlaceN x) : Fnd (fun y => T y ∨ y = x) (putN es x d) ∧ (putN es x d).length ≤ es.length + 1 := by
  unfold putN
  by_cases q : (es.any fun e => decide (nkD e.1 = nkD x)) = true
  · rw [if_pos q]
    have ek : (es.map fun e => if nkD e.1 = nkD x then (e.1, d) else e).map (·.1) = es.map (·.1) := by
      rw [List.map_map]
      refine List.map_congr_left fun e _ => ?_
      show (if nkD e.1 = nkD x then (e.1, d) else e).1 = e.1
      split <;> rfl
    refine ⟨⟨fun y => ?_, by rw [ek]; exact h.nd, fun y hy => h.pl y (by rw [ek] at hy; exact hy)⟩, by rw [List.length_map]; omega⟩
    rw [ek, h.mem]
    refine ⟨.inl, fun z => z.elim id fun z => ?_⟩
    subst z
    obtain ⟨e, he, hk⟩ := List.any_eq_true.mp q
    have m1 : e.1 ∈ es.map (·.1) := List.mem_map.mpr ⟨e, he, rfl⟩
    have := nk_place (h.pl _ m1) hx (of_decide_eq_true hk)
    rw [← this]
    exact (h.mem _).mp m1
  · rw [if_neg q]
    have no : x ∉ es.map (·.1) := fun z => by
      obtain ⟨e, he, hk⟩ := List.mem_map.mp z
      exact q (List.any_eq_true.mpr ⟨e, he, decide_eq_true (by rw [← hk])⟩)
    have ek : (es ++ [(x, d)]).map (·.1) = es.map (·.1) ++ [x] := by rw [List.map_append]; rfl
    refine ⟨⟨fun y => ?_, ?_, fun y hy => ?_⟩, by rw [List.length_append]; exact Nat.le_refl _⟩
    · rw [ek, List.mem_append, h.mem, List.mem_singleton]
    · rw [ek, List.nodup_append]
      refine ⟨h.nd, (List.nodup_cons.mpr ⟨fun z => (nomatch z), List.nodup_nil⟩ : [x].Nodup), fun a ha b hb e => ?_⟩
      rw [List.mem_singleton.mp hb] at e
      exact no (by rw [← e]; exact ha)
    · rw [ek] at hy
      rcases List.mem_append.mp hy with z | z
      · exact h.pl y z
      · rw [List.mem_singleton.mp z]
        exact hx
theorem inner_spec {x : D} {W : D → Prop} (P : PlaceN x) (w : W (.bool (innerB x))) : SInner [x] W := by
  rcases P with ⟨n, d, rfl, _⟩ | ⟨b0, b1, b2, wh, rfl, hw, I, _⟩
  · exact .inl ⟨n, d, rfl, w⟩
  · exact .inr ⟨b0, b1, b2, wh, rfl, I, w⟩
theorem take_mem {α : Type} {l : List α} {i : Nat} {x : α} (h : l[i]? = some x) (y : α) : y ∈ l.take (i + 1) ↔ y ∈ l.take i ∨ y = x := by
  rw [List.take_succ, h, List.mem_append]
  show _ ∨ y ∈ [x] ↔ _
  rw [List.mem_singleton]
theorem fPlacesOf {M : Md} {f : Addr} {fd : FuncData} {tok : Tok} (ml : M.mg "list" = none) (mb : M.mg "FIRST_BITS" = some (.int 64 tok)) (FR : FnD M 3 "roots" 1 SRoots) (FI : FnD M 3 "is_inner" 1 SInner) (FA : FnD M 3 "ascending" 2 SAsc)
    (F : Fun M.K "places_of" "places_of" sPlacesOf f fd) (hm : M.mg "places_of" = some (.ref f)) (b : L2.Binds M.K fd ["polys"] []) : FnD M 6 "places_of" 1 SPlaces := by
  refine fnD_mk (k := 5) (NK := nkPlacesOf) (G := gPlacesOf) F scPlacesOf hm b rfl (by decide +kernel) rfl (by decide) fun X C ds W hl hS => ?_
  obtain ⟨qs, rfl, hq, good, w⟩ := hS
  show VSs X _ [.dat (.list (qs.map plD)), .no, .no, .no] _
  refine vss_cons (vs_newDn C (i := 1) (by walk_at "at") (by show 1 < 4; decide) fun p => ?_)
  show VSs X _ [.dat (.list (qs.map plD)), .own p (.dn []), .no, .no] _
  refine vss_cons (vs_for C (vi_lst ?_))
  walk_at "v"
  refine ⟨_, rfl, fun i ρ' => ∃ (es : List (D × D)) (s2 s3 : Sl), Fnd (fun y => ∃ q ∈ qs.take i, y ∈ rtsQ q ∧ innerB y = true) es ∧ es.length ≤ 2 * i ∧ ρ' = [.dat (.list (qs.map plD)), .own p (.dn es), s2, s3], ⟨[], _, _, ⟨fun y => ⟨fun h => (nomatch h), fun ⟨_, h, _⟩ => (nomatch h)⟩, List.nodup_nil, fun _ h => (nomatch h)⟩, Nat.le_refl _, rfl⟩, fun i d ρ' hi hW => ?_, fun ρ' hW => ?_⟩
  · obtain ⟨es, s2, s3, hF, hlen, rfl⟩ := hW
    obtain ⟨q, hqi, rfl⟩ : ∃ q, qs[i]? = some q ∧ d = plD q := by
      rw [List.getElem?_map] at hi
      cases hx : qs[i]? with
      | none => rw [hx] at hi; cases hi
      | some q =>
        rw [hx] at hi
        exact ⟨q, rfl, (Option.some.inj hi).symm⟩
    have O := good q (List.mem_of_getElem? hqi)
    have hi2 := (List.getElem?_eq_some_iff.mp hqi).1
    have rl := (rts_facts O.a O.b O.c O.w).1
    have rN := rts_N O.a O.b O.c O.w
    walk_at "v"
    show VSs X _ [.dat (.list (qs.map plD)), .own p (.dn es), .dat (plD q), s3] _
    refine vss_one (vs_for C (vi_lst ?_))
    refine vd_call C FR (by walk_at "at") ?_
    walk_at "vv"
    refine ⟨rfl, q.1, q.2.1, q.2.2, rfl, O.a.sm, O.b.sm, O.c.sm, ?_⟩
    refine ⟨_, rfl, fun j ρ' => ∃ (es : List (D × D)) (s3 : Sl), Fnd (fun y => (∃ q ∈ qs.take i, y ∈ rtsQ q ∧ innerB y = true) ∨ (y ∈ (rtsQ q).take j ∧ innerB y = true)) es ∧ es.length ≤ 2 * i + j ∧ ρ' = [.dat (.list (qs.map plD)), .own p (.dn es), .dat (plD q), s3], ⟨es, _, hF.congr fun y => ⟨.inl, fun h => h.elim id fun ⟨h, _⟩ => (nomatch h)⟩, by omega, rfl⟩, fun j x ρ' hj hW => ?_, fun ρ' hW => ?_⟩
    · obtain ⟨es, s3, hF, hlen, rfl⟩ := hW
      have P := rN x (List.mem_of_getElem? hj)
      have hj2 := (List.getElem?_eq_some_iff.mp hj).1
      walk_at "v"
      show VSs X _ [.dat (.list (qs.map plD)), .own p (.dn es), .dat (plD q), .dat x] _
      refine vss_one (vs_if (vt_val ?_))
      refine vd_call C FI (by walk_at "at") ?_
      walk_at "vv"
      refine ⟨rfl, inner_spec P ?_⟩
      refine ⟨innerB x, rfl, fun h => ?_, fun h => ?_⟩
      · obtain ⟨k1, k2, ys, k3⟩ := place_ky P
        obtain ⟨f1, f2⟩ := hF.put (d := .bool true) P
        refine vss_one (vs_putN C (i := 1) (by walk_at "at") rfl ?_)
        walk_at "vv"
        refine ⟨es, ys, k3, rfl, k1, k2, by omega, ?_⟩
        refine ⟨putN es x (.bool true), _, f1.congr fun y => ?_, by omega, rfl⟩
        rw [take_mem (l := rtsQ q) hj, or_assoc]
        refine or_congr Iff.rfl ⟨fun z => ?_, fun z => ?_⟩
        · rcases z with ⟨z1, z2⟩ | rfl
          · exact ⟨.inl z1, z2⟩
          · exact ⟨.inr rfl, h⟩
        · obtain ⟨z1 | rfl, z2⟩ := z
          · exact .inl ⟨z1, z2⟩
          · exact .inr rfl
      · refine vss_nil ?_
        refine ⟨es, _, hF.congr fun y => ?_, by omega, rfl⟩
        rw [take_mem (l := rtsQ q) hj]
        refine or_congr Iff.rfl ⟨fun ⟨z1, z2⟩ => ⟨.inl z1, z2⟩, fun ⟨z1, z2⟩ => ?_⟩
        rcases z1 with z1 | rfl
        · exact ⟨z1, z2⟩
        · rw [h] at z2
          cases z2
    · obtain ⟨es, s3, hF, hlen, rfl⟩ := hW
      refine ⟨es, _, _, hF.congr fun y => ?_, ?_, rfl⟩
      · have el : (rtsQ q).take (rts q.1 q.2.1 q.2.2).length = rtsQ q := List.take_length
        rw [el]
        refine ⟨fun z => ?_, fun ⟨q', z, zz⟩ => ?_⟩
        · rcases z with ⟨q', z, zz⟩ | z
          · exact ⟨q', (take_mem hqi q').mpr (.inl z), zz⟩
          · exact ⟨q, (take_mem hqi q).mpr (.inr rfl), z⟩
        · rcases (take_mem hqi q').mp z with z | rfl
          · exact .inl ⟨q', z, zz⟩
          · exact .inr zz
      · omega
  · obtain ⟨es, s2, s3, hF, hlen, rfl⟩ := hW
    have hl2 : (qs.map plD).length = qs.length := List.length_map ..
    rw [hl2] at hF hlen
    rw [List.take_length] at hF
    refine vss_one (vs_ret ?_)
    refine vd_call C FA (by walk_at "at") ?_
    refine va_cons (vn_vd ?_)
    refine vn_listDn C (i := 1) (by walk_at "at") (by walk_at "at") rfl ?_
    refine va_cons ?_
    refine vd_gint C (by walk_at "at") mb ?_
    refine va_nil ?_
    refine ⟨rfl, es.map (·.1), rfl, by rw [List.length_map]; omega, hF.pl, hF.nd, fun l hA hM => ?_⟩
    exact w l ⟨hA, fun y => (hM y).trans (hF.mem y)⟩


open PySem PySem.Spec PyProof.Rows L2 Vc

/-! ### a rational number near a place; what is above and below it -/
def rep : D → Int × Int
  | .tuple [.int n, .int d] => (n, d)
  | .tuple [.str _, .tuple [.int b0, .int b1, .int b2], .int w] => (2 * flr b0 b1 b2 w (2 ^ 64) + 1, 2 * 2 ^ 64)
  | _ => (0, 1)
def above : D → Int → Int → Prop
  | .tuple [.int m, .int e], N, d => m * d < N * e
  | .tuple [.str _, .tuple [.int b0, .int b1, .int b2], .int w], N, d => Ab b0 b1 b2 w N d
  | _, _, _ => False
def below : D → Int → Int → Prop
  | .tuple [.int m, .int e], N, d => N * e < m * d
  | .tuple [.str _, .tuple [.int b0, .int b1, .int b2], .int w], N, d => ¬ Ab b0 b1 b2 w N d
  | _, _, _ => False
theorem rep_pos {x : D} (P : PlaceN x) : 0 < (rep x).2 := by
  rcases P with ⟨n, d, rfl, _, h, _⟩ | ⟨b0, b1, b2, w, rfl, _⟩
  · exact h
  · show (0 : Int) < 2 * 2 ^ 64
    decide
theorem root_side {b0 b1 b2 z F : Int} (J : Irr b0 b1 b2) (h : F ≠ flr b0 b1 b2 z (2 ^ 64)) : Ab b0 b1 b2 z (2 * F + 1) (2 * 2 ^ 64) ↔ flr b0 b1 b2 z (2 ^ 64) < F := by
  refine ⟨fun q => ?_, fun q => ?_⟩
  · rcases Int.lt_or_le (flr b0 b1 b2 z (2 ^ 64)) F with g | g
    · exact g
    · have l : ¬ Ab b0 b1 b2 z (flr b0 b1 b2 z (2 ^ 64)) (2 ^ 64) := by rw [ab_flr J (by decide)]; omega
      exact absurd (ab_le J.p2 (by decide) (by decide) (by omega) q) l
  · have u : Ab b0 b1 b2 z (flr b0 b1 b2 z (2 ^ 64) + 1) (2 ^ 64) := by rw [ab_flr J (by decide)]; omega
    exact ab_le J.p2 (by decide) (by decide) (by omega) u
theorem side_rep {x r : D} (P : PlaceN x) (R : PlaceN r) (h : f64 x ≠ f64 r) : (f64 r < f64 x → above r (rep x).1 (rep x).2) ∧ (f64 x < f64 r → below r (rep x).1 (rep x).2) := by
  have o1 := ord64 P R
  have o2 := ord64 R P
  rcases P with ⟨n, d, rfl, hn, hd, hd2, gd⟩ | ⟨b0, b1, b2, w, rfl, hw, I, gI⟩
  · rcases R with ⟨m, e, rfl, hm, he, he2, ge⟩ | ⟨a0, a1, a2, z, rfl, hz, J, gJ⟩
    · have k1 : sgn (n * e - m * d) < 0 ↔ f64 (.tuple [.int n, .int d]) < f64 (.tuple [.int m, .int e]) := o1
      have k2 : sgn (m * d - n * e) < 0 ↔ f64 (.tuple [.int m, .int e]) < f64 (.tuple [.int n, .int d]) := o2
      rw [sgn_lt] at k1 k2
      refine ⟨fun q => ?_, fun q => ?_⟩
      · have := k2.mpr q
        show m * d < n * e
        omega
      · have := k1.mpr q
        show n * e < m * d
        omega
    · have k := ab_F (z := z) J t64 hd hd2 hn
      refine ⟨fun q => k.mpr q, fun q => ?_⟩
      show ¬ Ab a0 a1 a2 z n d
      have q : n * 2 ^ 64 / d < flr a0 a1 a2 z (2 ^ 64) := q
      rw [k]
      omega
  · rcases R with ⟨m, e, rfl, hm, he, he2, ge⟩ | ⟨a0, a1, a2, z, rfl, hz, J, gJ⟩
    · show (m * 2 ^ 64 / e < flr b0 b1 b2 w (2 ^ 64) → m * (2 * 2 ^ 64) < (2 * flr b0 b1 b2 w (2 ^ 64) + 1) * e) ∧ (flr b0 b1 b2 w (2 ^ 64) < m * 2 ^ 64 / e → (2 * flr b0 b1 b2 w (2 ^ 64) + 1) * e < m * (2 * 2 ^ 64))
      generalize flr b0 b1 b2 w (2 ^ 64) = F
      generalize hG : m * 2 ^ 64 / e = G
      obtain ⟨g1, g2⟩ := fdiv_b he hG.symm
      refine ⟨fun q => ?_, fun q => ?_⟩
      · have := Int.mul_le_mul_of_nonneg_right (show G + 1 ≤ F by omega) (show 0 ≤ e by omega)
        have e1 : (G + 1) * e = G * e + e := by grind
        have e2 : (2 * F + 1) * e = 2 * (F * e) + e := by grind
        omega
      · have := Int.mul_le_mul_of_nonneg_right (show F + 1 ≤ G by omega) (show 0 ≤ e by omega)
        have e1 : (F + 1) * e = F * e + e := by grind
        have e2 : (2 * F + 1) * e = 2 * (F * e) + e := by grind
        omega
    · have h' : flr b0 b1 b2 w (2 ^ 64) ≠ flr a0 a1 a2 z (2 ^ 64) := h
      have k := root_side (z := z) J h'
      refine ⟨fun q => k.mpr q, fun q => ?_⟩
      show ¬ Ab a0 a1 a2 z (2 * flr b0 b1 b2 w (2 ^ 64) + 1) (2 * 2 ^ 64)
      have q : flr b0 b1 b2 w (2 ^ 64) < flr a0 a1 a2 z (2 ^ 64) := q
      rw [k]
      omega
theorem sgn_mulp {v d : Int} (hd : 0 < d) : sgn (v * d) = sgn v := by
  rcases Int.lt_trichotomy v 0 with q | q | q
  · rw [sgn_neg q]
    refine sgn_neg ?_
    have := Int.mul_pos (show 0 < -v by omega) hd
    rw [Int.neg_mul] at this
    omega
  · rw [q, Int.zero_mul]
  · rw [sgn_pos q]
    exact sgn_pos (Int.mul_pos q hd)
/-- the sign of the slope at a place -/
theorem turn_rep {x : D} {c1 c2 : Int} (P : PlaceN x) (h1 : Sb c1) (h2 : Sb c2) (hc : c2 ≠ 0) : sonD c1 (2 * c2) 0 x = sgn (vat c1 c2 (rep x).1 (rep x).2) := by
  rcases P with ⟨n, d, rfl, hn, hd, hd2, gd⟩ | ⟨b0, b1, b2, w, rfl, hw, I, gI⟩
  · show sgn ((c1 * d + 2 * c2 * n) * d + 0 * n * n) = sgn (vat c1 c2 n d)
    have e : (c1 * d + 2 * c2 * n) * d + 0 * n * n = vat c1 c2 n d * d := by unfold vat; grind
    rw [e, sgn_mulp hd]
  · have B := der_b I h1 h2
    have np : ¬ (2 * c2 * b2 - 0 * b1 = 0 ∧ c1 * b2 - 0 * b0 = 0) := fun ⟨q, _⟩ => by
      have p := I.p2
      have : 2 * c2 * b2 = 0 := by omega
      rcases Int.mul_eq_zero.mp this with z | z <;> omega
    have g := (son_gen (c0 := c1) (c1 := 2 * c2) (c2 := 0) (w := w) I t64 B.1 B.2 (by decide) np).1
    show sonR c1 (2 * c2) 0 b0 b1 b2 w = sgn (vat c1 c2 (2 * flr b0 b1 b2 w (2 ^ 64) + 1) (2 * 2 ^ 64))
    rw [← g]
    have e : latv c1 (2 * c2) 0 (2 * flr b0 b1 b2 w (2 ^ 64) + 1) (2 * 2 ^ 64) = vat c1 c2 (2 * flr b0 b1 b2 w (2 ^ 64) + 1) (2 * 2 ^ 64) * (2 * 2 ^ 64) := by unfold latv vat; grind
    rw [e, sgn_mulp (by decide)]
/-- the sign at a place, by a rational number near it -/
theorem son_rep {x : D} {c0 c1 c2 : Int} (P : PlaceN x) (h0 : Sb c0) (h1 : Sb c1) (h2 : Sb c2) (np : ∀ b0 b1 b2 w : Int, x = rootD (tup3 b0 b1 b2) w → Irr b0 b1 b2 → g3 b0 b1 b2 = 1 → (w = 0 ∨ w = 1) → ¬ (c1 * b2 - c2 * b1 = 0 ∧ c0 * b2 - c2 * b0 = 0)) : sonD c0 c1 c2 x = sgn (latv c0 c1 c2 (rep x).1 (rep x).2) := by
  rcases P with ⟨n, d, rfl, hn, hd, hd2, gd⟩ | ⟨b0, b1, b2, w, rfl, hw, I, gI⟩
  · show sgn ((c0 * d + c1 * n) * d + c2 * n * n) = sgn (latv c0 c1 c2 n d)
    have e : (c0 * d + c1 * n) * d + c2 * n * n = latv c0 c1 c2 n d := by unfold latv; grind
    rw [e]
  · have B := quad_b I h0 h1 h2
    have hc : c2.natAbs ≤ 72 := h2
    exact ((son_gen (w := w) I t64 B.1 B.2 (by omega) (np b0 b1 b2 w rfl I gI hw)).1).symm
/-! ### a polynomial without surds has no part in those with them -/
theorem rat_np {c0 c1 c2 s : Int} (hc : c2 ≠ 0) (hs : s * s = dsc c0 c1 c2) {b0 b1 b2 : Int} (I : Irr b0 b1 b2) : ¬ (c1 * b2 - c2 * b1 = 0 ∧ c0 * b2 - c2 * b0 = 0) := fun ⟨q1, q2⟩ => by
  have e1 : c2 * b1 = c1 * b2 := by omega
  have e2 : c2 * b0 = c0 * b2 := by omega
  have k : (b2 * s) * (b2 * s) = c2 * c2 * dsc b0 b1 b2 := by
    have : c2 * c2 * dsc b0 b1 b2 = (c2 * b1) * (c2 * b1) - 4 * (c2 * b0) * (c2 * b2) := by unfold dsc; grind
    rw [this, e1, e2]
    have : (b2 * s) * (b2 * s) = b2 * b2 * (s * s) := by grind
    rw [this, hs]
    unfold dsc
    grind
  exact hc (sq_zero k I.ns I.pd).1
theorem neg_np {c0 c1 c2 : Int} (hc : c2 ≠ 0) (hs : dsc c0 c1 c2 < 0) {b0 b1 b2 : Int} (I : Irr b0 b1 b2) : ¬ (c1 * b2 - c2 * b1 = 0 ∧ c0 * b2 - c2 * b0 = 0) := fun ⟨q1, q2⟩ => by
  have e1 : c2 * b1 = c1 * b2 := by omega
  have e2 : c2 * b0 = c0 * b2 := by omega
  have k : b2 * b2 * dsc c0 c1 c2 = c2 * c2 * dsc b0 b1 b2 := by
    have : c2 * c2 * dsc b0 b1 b2 = (c2 * b1) * (c2 * b1) - 4 * (c2 * b0) * (c2 * b2) := by unfold dsc; grind
    rw [this, e1, e2]
    unfold dsc
    grind
  have p1 := Int.mul_pos (Int.mul_pos I.p2 I.p2) (show 0 < -dsc c0 c1 c2 by omega)
  rw [Int.mul_neg] at p1
  have p2 : 0 ≤ c2 * c2 := by
    rcases Int.lt_or_le c2 0 with z | z
    · have := Int.mul_nonneg (show 0 ≤ -c2 by omega) (show 0 ≤ -c2 by omega)
      rw [Int.neg_mul_neg] at this
      exact this
    · exact Int.mul_nonneg z z
  have p3 := Int.mul_nonneg p2 (Int.le_of_lt I.pd)
  omega
theorem lin_np0 {c0 c1 : Int} (hc : ¬ (c1 = 0 ∧ c0 = 0)) {b0 b1 b2 : Int} (I : Irr b0 b1 b2) : ¬ (c1 * b2 - 0 * b1 = 0 ∧ c0 * b2 - 0 * b0 = 0) := fun ⟨q1, q2⟩ => by
  have p := I.p2
  have z1 : c1 * b2 = 0 := by omega
  have z2 : c0 * b2 = 0 := by omega
  exact hc ⟨(Int.mul_eq_zero.mp z1).elim id (fun z => by omega), (Int.mul_eq_zero.mp z2).elim id (fun z => by omega)⟩
/-! ### where a place is, and the signs there -/
def Loc2 (x r1 r2 : D) (s t : Int) : Prop := (f64 x < f64 r1 ∧ s = 1 ∧ t = -1) ∨ (f64 x = f64 r1 ∧ s = 0 ∧ t = -1) ∨ (f64 r1 < f64 x ∧ f64 x < f64 r2 ∧ s = -1) ∨ (f64 x = f64 r2 ∧ s = 0 ∧ t = 1) ∨ (f64 r2 < f64 x ∧ s = 1 ∧ t = 1)
def Loc1 (x r : D) (s t : Int) : Prop := (f64 x < f64 r ∧ s = 1 ∧ t = -1) ∨ (f64 x = f64 r ∧ s = 0 ∧ t = 0) ∨ (f64 r < f64 x ∧ s = 1 ∧ t = 1)
def LocL (x r : D) (s : Int) : Prop := (f64 x < f64 r ∧ s = -1) ∨ (f64 x = f64 r ∧ s = 0) ∨ (f64 r < f64 x ∧ s = 1)
theorem loc2 {c0 c1 c2 : Int} {r1 r2 x : D} (h0 : Sb c0) (h1 : Sb c1) (h2 : Sb c2) (p : 0 < c2) (R1 : PlaceN r1) (R2 : PlaceN r2) (P : PlaceN x)
    (H1 : ∀ N d : Int, 0 < d → below r1 N d → 0 < latv c0 c1 c2 N d ∧ vat c1 c2 N d < 0) (H2 : ∀ N d : Int, 0 < d → above r1 N d → below r2 N d → latv c0 c1 c2 N d < 0) (H3 : ∀ N d : Int, 0 < d → above r2 N d → 0 < latv c0 c1 c2 N d ∧ 0 < vat c1 c2 N d)
    (E1 : sonD c0 c1 c2 r1 = 0 ∧ vat c1 c2 (rep r1).1 (rep r1).2 < 0) (E2 : sonD c0 c1 c2 r2 = 0 ∧ 0 < vat c1 c2 (rep r2).1 (rep r2).2)
    (np : x ≠ r1 → x ≠ r2 → ∀ b0 b1 b2 w : Int, x = rootD (tup3 b0 b1 b2) w → Irr b0 b1 b2 → g3 b0 b1 b2 = 1 → (w = 0 ∨ w = 1) → ¬ (c1 * b2 - c2 * b1 = 0 ∧ c0 * b2 - c2 * b0 = 0)) (h12 : f64 r1 < f64 r2) : Loc2 x r1 r2 (sonD c0 c1 c2 x) (sonD c1 (2 * c2) 0 x) := by
  have hd := rep_pos P
  have tr := turn_rep P h1 h2 (by omega)
  by_cases q1 : f64 x = f64 r1
  · have e := f64_inj P R1 q1
    subst e
    exact .inr (.inl ⟨rfl, E1.1, by rw [tr, sgn_neg E1.2]⟩)
  by_cases q2 : f64 x = f64 r2
  · have e := f64_inj P R2 q2
    subst e
    exact .inr (.inr (.inr (.inl ⟨rfl, E2.1, by rw [tr, sgn_pos E2.2]⟩)))
  have s1 := side_rep P R1 q1
  have s2 := side_rep P R2 q2
  have so := son_rep P h0 h1 h2 (np (fun e => q1 (by rw [e])) (fun e => q2 (by rw [e])))
  rcases Int.lt_or_le (f64 x) (f64 r1) with g | g
  · obtain ⟨a, b⟩ := H1 _ _ hd (s1.2 g)
    exact .inl ⟨g, by rw [so, sgn_pos a], by rw [tr, sgn_neg b]⟩
  · rcases Int.lt_or_le (f64 x) (f64 r2) with g2 | g2
    · exact .inr (.inr (.inl ⟨by omega, g2, by rw [so, sgn_neg (H2 _ _ hd (s1.1 (by omega)) (s2.2 g2))]⟩))
    · obtain ⟨a, b⟩ := H3 _ _ hd (s2.1 (by omega))
      exact .inr (.inr (.inr (.inr ⟨by omega, by rw [so, sgn_pos a], by rw [tr, sgn_pos b]⟩)))
theorem latsgn {c0 c1 c2 N d : Int} (p : 0 < c2) : (dsc c0 c1 c2 * (d * d) < vat c1 c2 N d * vat c1 c2 N d → 0 < latv c0 c1 c2 N d) ∧ (vat c1 c2 N d * vat c1 c2 N d < dsc c0 c1 c2 * (d * d) → latv c0 c1 c2 N d < 0) := by
  have l := lat4 c0 c1 c2 N d
  refine ⟨fun h => ?_, fun h => ?_⟩
  · rcases Int.lt_or_le 0 (latv c0 c1 c2 N d) with q | q
    · exact q
    · have := Int.mul_nonneg (show 0 ≤ 4 * c2 by omega) (show 0 ≤ -latv c0 c1 c2 N d by omega)
      rw [Int.mul_neg] at this
      omega
  · rcases Int.lt_or_le (latv c0 c1 c2 N d) 0 with q | q
    · exact q
    · have := Int.mul_nonneg (show 0 ≤ 4 * c2 by omega) q
      omega
/-- two roots with a surd -/
theorem loc_irr {c0 c1 c2 : Int} {x : D} (J : Irr c0 c1 c2) (g : g3 c0 c1 c2 = 1) (P : PlaceN x) : f64 (rootD (tup3 c0 c1 c2) 0) < f64 (rootD (tup3 c0 c1 c2) 1) ∧ Loc2 x (rootD (tup3 c0 c1 c2) 0) (rootD (tup3 c0 c1 c2) 1) (sonD c0 c1 c2 x) (sonD c1 (2 * c2) 0 x) := by
  have h12 : f64 (rootD (tup3 c0 c1 c2) 0) < f64 (rootD (tup3 c0 c1 c2) 1) := sepS J t64
  have z : ∀ w : Int, sonD c0 c1 c2 (rootD (tup3 c0 c1 c2) w) = 0 := fun w => son_zero ⟨Int.mul_comm _ _, Int.mul_comm _ _, Int.mul_comm _ _⟩
  have DD : ∀ d : Int, 0 < d → 0 < dsc c0 c1 c2 * (d * d) := fun d hd => Int.mul_pos J.pd (Int.mul_pos hd hd)
  have A0 : ∀ N d : Int, Ab c0 c1 c2 0 N d ↔ 0 < vat c1 c2 N d ∨ vat c1 c2 N d * vat c1 c2 N d < dsc c0 c1 c2 * (d * d) := fun N d => by
    unfold Ab Abv
    rw [if_pos rfl]
  have A1 : ∀ N d : Int, Ab c0 c1 c2 1 N d ↔ 0 < vat c1 c2 N d ∧ dsc c0 c1 c2 * (d * d) ≤ vat c1 c2 N d * vat c1 c2 N d := fun N d => by
    unfold Ab Abv
    rw [if_neg (by decide)]
  have ne : ∀ N d : Int, 0 < d → vat c1 c2 N d * vat c1 c2 N d ≠ dsc c0 c1 c2 * (d * d) := fun N d hd q => by
    have l := lat4 c0 c1 c2 N d
    have := lat_ne (n := N) J hd
    have p := J.p2
    have e : 4 * c2 * latv c0 c1 c2 N d = 0 := by omega
    rcases Int.mul_eq_zero.mp e with y | y
    · omega
    · exact this y
  refine ⟨h12, loc2 J.s0 J.s1 J.s2 J.p2 (.inr ⟨_, _, _, _, rfl, .inl rfl, J, g⟩) (.inr ⟨_, _, _, _, rfl, .inr rfl, J, g⟩) P (fun N d hd h => ?_) (fun N d hd ha hb => ?_) (fun N d hd h => ?_) ⟨z 0, ?_⟩ ⟨z 1, ?_⟩ (fun n1 n2 b0 b1 b2 w e I gI hw => ?_) h12⟩
  · have h : ¬ Ab c0 c1 c2 0 N d := h
    rw [A0] at h
    have := ne N d hd
    have k : dsc c0 c1 c2 * (d * d) < vat c1 c2 N d * vat c1 c2 N d := by
      rcases Int.lt_or_le (vat c1 c2 N d * vat c1 c2 N d) (dsc c0 c1 c2 * (d * d)) with q | q
      · exact absurd (.inr q) h
      · omega
    refine ⟨(latsgn J.p2).1 k, ?_⟩
    rcases Int.lt_trichotomy (vat c1 c2 N d) 0 with q | q | q
    · exact q
    · rw [q, Int.mul_zero] at k
      have := DD d hd
      omega
    · exact absurd (.inl q) h
  · have hb : ¬ Ab c0 c1 c2 1 N d := hb
    have ha : Ab c0 c1 c2 0 N d := ha
    rw [A1] at hb
    rw [A0] at ha
    refine (latsgn J.p2).2 ?_
    rcases ha with q | q
    · rcases Int.lt_or_le (vat c1 c2 N d * vat c1 c2 N d) (dsc c0 c1 c2 * (d * d)) with y | y
      · exact y
      · exact absurd ⟨q, y⟩ hb
    · exact q
  · have h : Ab c0 c1 c2 1 N d := h
    rw [A1] at h
    have := ne N d hd
    exact ⟨(latsgn J.p2).1 (by omega), h.1⟩
  · obtain ⟨X, V, hV, hX, x0, _⟩ := flr_x (w := 0) J (t := 2 ^ 64) (by decide)
    rw [if_pos rfl] at hX
    show vat c1 c2 (2 * flr c0 c1 c2 0 (2 ^ 64) + 1) (2 * 2 ^ 64) < 0
    omega
  · obtain ⟨X, V, hV, hX, x0, _⟩ := flr_x (w := 1) J (t := 2 ^ 64) (by decide)
    rw [if_neg (by decide)] at hX
    show 0 < vat c1 c2 (2 * flr c0 c1 c2 1 (2 ^ 64) + 1) (2 * 2 ^ 64)
    omega
  · rintro ⟨q1, q2⟩
    obtain ⟨e0, e1, e2⟩ := prop_eq I.p2 J.p2 gI g (by omega) (by omega)
    subst e0 e1 e2
    rcases hw with rfl | rfl
    · exact n1 e
    · exact n2 e


/-! ### the other kinds of polynomials -/
theorem frq_pos {n d : Int} (hd : 0 < d) : ∃ m e g : Int, frq n d = .tuple [.int m, .int e] ∧ 0 < g ∧ n = m * g ∧ d = e * g ∧ 0 < e := by
  obtain ⟨m, e, g, h1, h2, h3, h4, h5, _⟩ := frq_facts (n := n) (d := d) (by omega)
  refine ⟨m, e, g, h1, ?_, h3, h4, h5⟩
  rcases Int.lt_or_le 0 g with q | q
  · exact q
  · have := Int.mul_nonneg (show 0 ≤ e by omega) (show 0 ≤ -g by omega)
    rw [Int.mul_neg] at this
    omega
theorem sq_lt_of {v w : Int} (h0 : 0 < w) (h : w < v ∨ v < -w) : w * w < v * v := by
  rcases h with h | h
  · have a := Int.mul_lt_mul_of_pos_left h h0
    have b := Int.mul_lt_mul_of_pos_right h (show 0 < v by omega)
    omega
  · have a := Int.mul_lt_mul_of_pos_left (show w < -v by omega) h0
    have b := Int.mul_lt_mul_of_pos_right (show w < -v by omega) (show 0 < -v by omega)
    rw [Int.neg_mul_neg] at b
    omega
theorem sq_gt_of {v w : Int} (h : v < w) (h2 : -w < v) : v * v < w * w := by
  have p := Int.mul_pos (show 0 < w - v by omega) (show 0 < w + v by omega)
  have e : (w - v) * (w + v) = w * w - v * v := by grind
  omega
theorem mulneg {g y : Int} (hg : 0 < g) (h : y < 0) : g * y < 0 := by
  have := Int.mul_pos hg (show 0 < -y by omega)
  rw [Int.mul_neg] at this
  omega
theorem loc_two {c0 c1 c2 s : Int} {x : D} (h0 : Sb c0) (h1 : Sb c1) (h2 : Sb c2) (p : 0 < c2) (hs : s * s = dsc c0 c1 c2) (sp : 0 < s) (P : PlaceN x)
    (R1 : PlaceN (frq (-c1 - s) (2 * c2))) (R2 : PlaceN (frq (-c1 + s) (2 * c2))) (Z1 : sonD c0 c1 c2 (frq (-c1 - s) (2 * c2)) = 0) (Z2 : sonD c0 c1 c2 (frq (-c1 + s) (2 * c2)) = 0) :
    f64 (frq (-c1 - s) (2 * c2)) < f64 (frq (-c1 + s) (2 * c2)) ∧ Loc2 x (frq (-c1 - s) (2 * c2)) (frq (-c1 + s) (2 * c2)) (sonD c0 c1 c2 x) (sonD c1 (2 * c2) 0 x) := by
  obtain ⟨m1, e1, g1, k1, gp1, n1, d1, ep1⟩ := frq_pos (n := -c1 - s) (d := 2 * c2) (by omega)
  obtain ⟨m2, e2, g2, k2, gp2, n2, d2, ep2⟩ := frq_pos (n := -c1 + s) (d := 2 * c2) (by omega)
  rw [k1] at R1 Z1 ⊢
  rw [k2] at R2 Z2 ⊢
  have V1 : ∀ N d : Int, vat c1 c2 N d + s * d = g1 * (N * e1 - m1 * d) := fun N d => by
    have : g1 * (N * e1 - m1 * d) = (e1 * g1) * N - (m1 * g1) * d := by grind
    rw [this, ← n1, ← d1]
    unfold vat
    grind
  have V2 : ∀ N d : Int, vat c1 c2 N d - s * d = g2 * (N * e2 - m2 * d) := fun N d => by
    have : g2 * (N * e2 - m2 * d) = (e2 * g2) * N - (m2 * g2) * d := by grind
    rw [this, ← n2, ← d2]
    unfold vat
    grind
  have sq : ∀ d : Int, s * d * (s * d) = dsc c0 c1 c2 * (d * d) := fun d => by
    rw [← hs]
    grind
  have h12 : f64 (.tuple [.int m1, .int e1]) < f64 (.tuple [.int m2, .int e2]) := by
    rw [← ord64 R1 R2]
    show sgn (m1 * e2 - m2 * e1) < 0
    rw [sgn_lt]
    have a := V1 m1 e1
    have b := V2 m1 e1
    rw [Int.sub_self, Int.mul_zero] at a
    have c := Int.mul_pos sp ep1
    rcases Int.lt_or_le (m1 * e2 - m2 * e1) 0 with q | q
    · exact q
    · have := Int.mul_nonneg (show 0 ≤ g2 by omega) q
      omega
  refine ⟨h12, loc2 h0 h1 h2 p R1 R2 P (fun N d hd h => ?_) (fun N d hd ha hb => ?_) (fun N d hd h => ?_) ⟨Z1, ?_⟩ ⟨Z2, ?_⟩ (fun _ _ b0 b1 b2 w e I gI hw => rat_np (by omega) hs I) h12⟩
  · have h : N * e1 < m1 * d := h
    have sd := Int.mul_pos sp hd
    have := V1 N d
    have := mulneg gp1 (show N * e1 - m1 * d < 0 by omega)
    have k := sq_lt_of sd (v := vat c1 c2 N d) (.inr (by omega))
    rw [sq] at k
    exact ⟨(latsgn p).1 k, by omega⟩
  · have ha : m1 * d < N * e1 := ha
    have hb : N * e2 < m2 * d := hb
    have := V1 N d
    have := V2 N d
    have := Int.mul_pos gp1 (show 0 < N * e1 - m1 * d by omega)
    have := mulneg gp2 (show N * e2 - m2 * d < 0 by omega)
    have k := sq_gt_of (v := vat c1 c2 N d) (w := s * d) (by omega) (by omega)
    rw [sq] at k
    exact (latsgn p).2 k
  · have h : m2 * d < N * e2 := h
    have sd := Int.mul_pos sp hd
    have := V2 N d
    have := Int.mul_pos gp2 (show 0 < N * e2 - m2 * d by omega)
    have k := sq_lt_of sd (v := vat c1 c2 N d) (.inl (by omega))
    rw [sq] at k
    exact ⟨(latsgn p).1 k, by omega⟩
  · show vat c1 c2 m1 e1 < 0
    have a := V1 m1 e1
    rw [Int.sub_self, Int.mul_zero] at a
    have c := Int.mul_pos sp ep1
    omega
  · show 0 < vat c1 c2 m2 e2
    have a := V2 m2 e2
    rw [Int.sub_self, Int.mul_zero] at a
    have c := Int.mul_pos sp ep2
    omega
theorem loc_one {c0 c1 c2 : Int} {x : D} (h0 : Sb c0) (h1 : Sb c1) (h2 : Sb c2) (p : 0 < c2) (hs : dsc c0 c1 c2 = 0) (P : PlaceN x) (R : PlaceN (frq (-c1) (2 * c2))) (Z : sonD c0 c1 c2 (frq (-c1) (2 * c2)) = 0) :
    Loc1 x (frq (-c1) (2 * c2)) (sonD c0 c1 c2 x) (sonD c1 (2 * c2) 0 x) := by
  obtain ⟨m, e, g, k, gp, n, d', ep⟩ := frq_pos (n := -c1) (d := 2 * c2) (by omega)
  rw [k] at R Z ⊢
  have V : ∀ N d : Int, vat c1 c2 N d = g * (N * e - m * d) := fun N d => by
    have : g * (N * e - m * d) = (e * g) * N - (m * g) * d := by grind
    rw [this, ← n, ← d']
    unfold vat
    grind
  have hd := rep_pos P
  have tr := turn_rep P h1 h2 (by omega)
  by_cases q : f64 x = f64 (.tuple [.int m, .int e])
  · have ex := f64_inj P R q
    subst ex
    refine .inr (.inl ⟨rfl, Z, ?_⟩)
    rw [tr]
    show sgn (vat c1 c2 m e) = 0
    rw [V, Int.sub_self, Int.mul_zero]
    rfl
  have s1 := side_rep P R q
  have so := son_rep P h0 h1 h2 fun b0 b1 b2 w ex I gI hw => rat_np (s := 0) (by omega) (by rw [hs]; rfl) I
  have L := lat4 c0 c1 c2 (rep x).1 (rep x).2
  rw [hs, Int.zero_mul, Int.sub_zero] at L
  have pos : vat c1 c2 (rep x).1 (rep x).2 ≠ 0 → 0 < latv c0 c1 c2 (rep x).1 (rep x).2 := fun ne => by
    refine (latsgn p).1 ?_
    rw [hs, Int.zero_mul]
    rcases Int.lt_or_le (vat c1 c2 (rep x).1 (rep x).2) 0 with y | y
    · have := Int.mul_pos (show 0 < -vat c1 c2 (rep x).1 (rep x).2 by omega) (show 0 < -vat c1 c2 (rep x).1 (rep x).2 by omega)
      rw [Int.neg_mul_neg] at this
      exact this
    · exact Int.mul_pos (by omega) (by omega)
  rcases Int.lt_or_le (f64 x) (f64 (.tuple [.int m, .int e])) with y | y
  · have h : (rep x).1 * e < m * (rep x).2 := s1.2 y
    have v : vat c1 c2 (rep x).1 (rep x).2 < 0 := by rw [V]; exact mulneg gp (by omega)
    exact .inl ⟨y, by rw [so, sgn_pos (pos (by omega))], by rw [tr, sgn_neg v]⟩
  · have h : m * (rep x).2 < (rep x).1 * e := s1.1 (by omega)
    have v : 0 < vat c1 c2 (rep x).1 (rep x).2 := by rw [V]; exact Int.mul_pos gp (by omega)
    exact .inr (.inr ⟨by omega, by rw [so, sgn_pos (pos (by omega))], by rw [tr, sgn_pos v]⟩)
theorem loc_lin {c0 c1 : Int} {x : D} (h0 : Sb c0) (h1 : Sb c1) (p : c1 ≠ 0) (P : PlaceN x) (R : PlaceN (frq (-c0) c1)) (Z : sonD c0 c1 0 (frq (-c0) c1) = 0) :
    (f64 x < f64 (frq (-c0) c1) ∧ sonD c0 c1 0 x = -sgn c1) ∨ (f64 x = f64 (frq (-c0) c1) ∧ sonD c0 c1 0 x = 0) ∨ (f64 (frq (-c0) c1) < f64 x ∧ sonD c0 c1 0 x = sgn c1) := by
  obtain ⟨m, e, g, k, g0, n, d', ep, _⟩ := frq_facts (n := -c0) p
  rw [k] at R Z ⊢
  have V : ∀ N d : Int, latv c0 c1 0 N d = g * (N * e - m * d) * d := fun N d => by
    have : g * (N * e - m * d) * d = ((e * g) * N - (m * g) * d) * d := by grind
    rw [this, ← n, ← d']
    unfold latv
    grind
  have sg : sgn c1 = sgn g := by rw [d', Int.mul_comm, sgn_mulp ep]
  have hd := rep_pos P
  by_cases q : f64 x = f64 (.tuple [.int m, .int e])
  · have ex := f64_inj P R q
    subst ex
    exact .inr (.inl ⟨rfl, Z⟩)
  have s1 := side_rep P R q
  have so := son_rep (c2 := 0) P h0 h1 (by decide) fun b0 b1 b2 w ex I gI hw => lin_np0 (fun z => p z.1) I
  rw [V, sgn_mulp hd] at so
  rcases Int.lt_or_le (f64 x) (f64 (.tuple [.int m, .int e])) with y | y
  · have h : (rep x).1 * e < m * (rep x).2 := s1.2 y
    refine .inl ⟨y, ?_⟩
    rw [so, sg]
    rcases Int.lt_or_le g 0 with z | z
    · rw [sgn_neg z]
      have := Int.mul_pos (show 0 < -g by omega) (show 0 < -((rep x).1 * e - m * (rep x).2) by omega)
      rw [Int.neg_mul_neg] at this
      exact sgn_pos this
    · rw [sgn_pos (show 0 < g by omega)]
      exact sgn_neg (mulneg (by omega) (by omega))
  · have h : m * (rep x).2 < (rep x).1 * e := s1.1 (by omega)
    refine .inr (.inr ⟨by omega, ?_⟩)
    rw [so, sg]
    rcases Int.lt_or_le g 0 with z | z
    · rw [sgn_neg z]
      have := mulneg (show 0 < -g by omega) (show -((rep x).1 * e - m * (rep x).2) < 0 by omega)
      rw [Int.neg_mul_neg] at this
      exact sgn_neg this
    · rw [sgn_pos (show 0 < g by omega)]
      exact sgn_pos (Int.mul_pos (by omega) (by omega))
/-- no roots -/
theorem loc_none {c0 c1 c2 : Int} {x : D} (h0 : Sb c0) (h1 : Sb c1) (h2 : Sb c2) (p : 0 < c2) (hs : dsc c0 c1 c2 < 0) (P : PlaceN x) : sonD c0 c1 c2 x = 1 := by
  have hd := rep_pos P
  rw [son_rep P h0 h1 h2 fun b0 b1 b2 w ex I gI hw => neg_np (by omega) hs I]
  refine sgn_pos ((latsgn p).1 ?_)
  have a := Int.mul_pos (show 0 < -dsc c0 c1 c2 by omega) (Int.mul_pos hd hd)
  rw [Int.neg_mul] at a
  have b : 0 ≤ vat c1 c2 (rep x).1 (rep x).2 * vat c1 c2 (rep x).1 (rep x).2 := by
    rcases Int.lt_or_le (vat c1 c2 (rep x).1 (rep x).2) 0 with y | y
    · have := Int.mul_pos (show 0 < -vat c1 c2 (rep x).1 (rep x).2 by omega) (show 0 < -vat c1 c2 (rep x).1 (rep x).2 by omega)
      rw [Int.neg_mul_neg] at this
      omega
    · exact Int.mul_nonneg y y
  omega
theorem loc_con {c0 : Int} {x : D} (h0 : Sb c0) (P : PlaceN x) : sonD c0 0 0 x = sgn c0 := by
  by_cases z : c0 = 0
  · subst z
    rw [sonD_0 P.ok]
    rfl
  · have hd := rep_pos P
    rw [son_rep (c1 := 0) (c2 := 0) P h0 (by decide) (by decide) fun b0 b1 b2 w ex I gI hw => lin_np0 (fun y => z y.2) I]
    have e : latv c0 0 0 (rep x).1 (rep x).2 = c0 * (rep x).2 * (rep x).2 := by unfold latv; grind
    rw [e, sgn_mulp hd, sgn_mulp hd]
/-! ### the polynomial times -1 -/
theorem sgn_opp (n : Int) : sgn (-n) = -sgn n := by
  rcases Int.lt_trichotomy n 0 with q | q | q
  · rw [sgn_neg q, sgn_pos (by omega)]
    rfl
  · rw [q]
    rfl
  · rw [sgn_pos q, sgn_neg (by omega)]
theorem surd_opp (f s q : Int) : surd (-f) (-s) q = -surd f s q := by
  unfold surd
  rw [sgn_opp, sgn_opp, Int.neg_mul_neg, Int.neg_mul_neg, Int.neg_mul_neg]
  by_cases h : 0 ≤ sgn f * sgn s
  · rw [if_pos h, if_pos h]
    by_cases z : sgn f = 0
    · rw [if_pos z, if_pos (by omega)]
    · rw [if_neg z, if_neg (by omega)]
  · rw [if_neg h, if_neg h]
    split <;> rfl
theorem sonD_opp {c0 c1 c2 : Int} {x : D} (P : PlaceN x) : sonD (-c0) (-c1) (-c2) x = -sonD c0 c1 c2 x := by
  rcases P with ⟨n, d, rfl, _⟩ | ⟨b0, b1, b2, w, rfl, _⟩
  · show sgn ((-c0 * d + -c1 * n) * d + -c2 * n * n) = -sgn ((c0 * d + c1 * n) * d + c2 * n * n)
    rw [← sgn_opp]
    congr 1
    grind
  · show sonR (-c0) (-c1) (-c2) b0 b1 b2 w = -sonR c0 c1 c2 b0 b1 b2 w
    unfold sonR
    rw [← surd_opp]
    congr 1
    · grind
    · split <;> grind
/-! ### is_still -/
def stillE (outer low high : Int) (dn : Bool) (ta tb : Int) : Bool :=
  if low * high < 0 then false else if outer = 0 ∨ low = -outer ∨ high = -outer ∨ (low = high ∧ high = 0) then true else if dn = true then true else decide (0 ≤ ta * tb)
theorem still_opp (o l h : Int) (dn : Bool) (a b : Int) : stillE (-o) (-l) (-h) dn (-a) (-b) = stillE o l h dn a b := by
  unfold stillE
  rw [Int.neg_mul_neg, Int.neg_mul_neg]
  have e1 : (-o = 0 ∨ -l = - -o ∨ -h = - -o ∨ (-l = -h ∧ -h = 0)) ↔ (o = 0 ∨ l = -o ∨ h = -o ∨ (l = h ∧ h = 0)) := by omega
  by_cases q : o = 0 ∨ l = -o ∨ h = -o ∨ (l = h ∧ h = 0)
  · rw [if_pos q, if_pos (e1.mpr q)]
  · rw [if_neg q, if_neg (fun z => q (e1.mp z))]
def Clear (l : List D) (a b : D) : Prop := ∀ r ∈ l, ¬ (f64 a < f64 r ∧ f64 r < f64 b)
theorem still_two {a b r1 r2 : D} {sa ta sb tb : Int} (h : f64 a < f64 b) (h12 : f64 r1 < f64 r2) (A : Loc2 a r1 r2 sa ta) (B : Loc2 b r1 r2 sb tb) : stillE 1 sa sb false ta tb = true ↔ Clear [r1, r2] a b := by
  have c : Clear [r1, r2] a b ↔ ¬ (f64 a < f64 r1 ∧ f64 r1 < f64 b) ∧ ¬ (f64 a < f64 r2 ∧ f64 r2 < f64 b) := by
    unfold Clear
    simp
  rw [c]
  unfold stillE
  rcases A with ⟨a1, rfl, rfl⟩ | ⟨a1, rfl, rfl⟩ | ⟨a1, a2, rfl⟩ | ⟨a1, rfl, rfl⟩ | ⟨a1, rfl, rfl⟩ <;> rcases B with ⟨b1, rfl, rfl⟩ | ⟨b1, rfl, rfl⟩ | ⟨b1, b2, rfl⟩ | ⟨b1, rfl, rfl⟩ | ⟨b1, rfl, rfl⟩ <;> simp <;> omega
theorem still_one {a b r : D} {sa ta sb tb : Int} (h : f64 a < f64 b) (A : Loc1 a r sa ta) (B : Loc1 b r sb tb) : stillE 1 sa sb false ta tb = true ↔ Clear [r] a b := by
  have c : Clear [r] a b ↔ ¬ (f64 a < f64 r ∧ f64 r < f64 b) := by
    unfold Clear
    simp
  rw [c]
  unfold stillE
  rcases A with ⟨a1, rfl, rfl⟩ | ⟨a1, rfl, rfl⟩ | ⟨a1, rfl, rfl⟩ <;> rcases B with ⟨b1, rfl, rfl⟩ | ⟨b1, rfl, rfl⟩ | ⟨b1, rfl, rfl⟩ <;> simp <;> omega
theorem clear_nil (a b : D) : Clear [] a b := fun _ h => nomatch h
theorem still_P {c0 c1 c2 : Int} {a b : D} (h0 : Sb c0) (h1 : Sb c1) (h2 : Sb c2) (p : 0 < c2) (pd : 0 ≤ dsc c0 c1 c2) (g : g3 c0 c1 c2 = 1) (A : PlaceN a) (B : PlaceN b) (h : f64 a < f64 b) :
    stillE 1 (sonD c0 c1 c2 a) (sonD c0 c1 c2 b) false (sonD c1 (2 * c2) 0 a) (sonD c1 (2 * c2) 0 b) = true ↔ Clear (rtsP c0 c1 c2) a b := by
  have F := (rtsP_facts (c0 := c0) (c1 := c1) (c2 := c2) h0 h1 h2 p pd g (.inl ⟨rfl, rfl, rfl⟩)).2
  have N := rtsP_N h0 h1 h2 p pd g
  unfold rtsP at F N ⊢
  by_cases y : ((isq (dsc c0 c1 c2) : Nat) : Int) * ((isq (dsc c0 c1 c2) : Nat) : Int) = dsc c0 c1 c2
  · rw [if_pos y] at F N ⊢
    by_cases z : ((isq (dsc c0 c1 c2) : Nat) : Int) = 0
    · rw [if_pos z] at F N ⊢
      have d0 : dsc c0 c1 c2 = 0 := by rw [← y, z]; rfl
      exact still_one h (loc_one h0 h1 h2 p d0 A (N _ (by simp)) (F _ (by simp)).2) (loc_one h0 h1 h2 p d0 B (N _ (by simp)) (F _ (by simp)).2)
    · rw [if_neg z] at F N ⊢
      have sp : (0 : Int) < ((isq (dsc c0 c1 c2) : Nat) : Int) := by omega
      have la := loc_two h0 h1 h2 p y sp A (N _ (by simp)) (N _ (by simp)) (F _ (by simp)).2 (F _ (by simp)).2
      have lb := loc_two h0 h1 h2 p y sp B (N _ (by simp)) (N _ (by simp)) (F _ (by simp)).2 (F _ (by simp)).2
      exact still_two h la.1 la.2 lb.2
  · rw [if_neg y, und_wh g] at ⊢
    have J := irr_of h0 h1 h2 p pd y
    have la := loc_irr J g A
    have lb := loc_irr J g B
    exact still_two h la.1 la.2 lb.2
theorem still_ok {c0 c1 c2 : Int} {a b : D} (h0 : Sb c0) (h1 : Sb c1) (h2 : Sb c2) (hw : Wh c0 c1 c2) (A : PlaceN a) (B : PlaceN b) (h : f64 a < f64 b) :
    stillE (sgn c2) (sonD c0 c1 c2 a) (sonD c0 c1 c2 b) (decide (dsc c0 c1 c2 < 0)) (sonD c1 (2 * c2) 0 a) (sonD c1 (2 * c2) 0 b) = true ↔ Clear (rts c0 c1 c2) a b := by
  have F := (rts_facts h0 h1 h2 hw).2
  have N := rts_N h0 h1 h2 hw
  unfold rts at F N ⊢
  by_cases z : c2 = 0
  · subst z
    rw [if_pos rfl] at F N ⊢
    by_cases y : c1 = 0
    · subst y
      rw [if_pos rfl, loc_con h0 A, loc_con h0 B]
      refine ⟨fun _ => clear_nil a b, fun _ => ?_⟩
      unfold stillE
      have k : ¬ sgn c0 * sgn c0 < 0 := by
        rcases Int.lt_trichotomy c0 0 with q | q | q
        · rw [sgn_neg q]; decide
        · rw [q]; decide
        · rw [sgn_pos q]; decide
      rw [if_neg k, if_pos (.inl rfl)]
    · rw [if_neg y] at F N ⊢
      have la := loc_lin h0 h1 y A (N _ (by simp)) (F _ (by simp)).2
      have lb := loc_lin h0 h1 y B (N _ (by simp)) (F _ (by simp)).2
      have c : Clear [frq (-c0) c1] a b ↔ ¬ (f64 a < f64 (frq (-c0) c1) ∧ f64 (frq (-c0) c1) < f64 b) := by
        unfold Clear
        simp
      rw [c]
      have o : sgn c1 = 1 ∨ sgn c1 = -1 := by
        rcases Int.lt_or_le c1 0 with q | q
        · exact .inr (sgn_neg q)
        · exact .inl (sgn_pos (by omega))
      have sz : sgn 0 = 0 := rfl
      rw [sz]
      unfold stillE
      rcases o with o | o <;> rw [o] at la lb <;> rcases la with ⟨a1, a2⟩ | ⟨a1, a2⟩ | ⟨a1, a2⟩ <;> rcases lb with ⟨b1, b2⟩ | ⟨b1, b2⟩ | ⟨b1, b2⟩ <;> rw [a2, b2] <;> simp <;> omega
  · rw [if_neg z] at F N ⊢
    have g := wh_g3 hw z
    unfold rts2 at F N ⊢
    by_cases y : dsc c0 c1 c2 < 0
    · rw [if_pos y, decide_eq_true y]
      refine ⟨fun _ => clear_nil a b, fun _ => ?_⟩
      rcases Int.lt_or_le c2 0 with q | q
      · have ea : sonD c0 c1 c2 a = -1 := by
          have := loc_none h0.neg h1.neg h2.neg (by omega) (by rw [dsc_neg]; exact y) A
          rw [sonD_opp A] at this
          omega
        have eb : sonD c0 c1 c2 b = -1 := by
          have := loc_none h0.neg h1.neg h2.neg (by omega) (by rw [dsc_neg]; exact y) B
          rw [sonD_opp B] at this
          omega
        rw [ea, eb, sgn_neg q]
        unfold stillE
        simp
      · rw [loc_none h0 h1 h2 (by omega) y A, loc_none h0 h1 h2 (by omega) y B, sgn_pos (by omega)]
        unfold stillE
        simp
    · rw [if_neg y, decide_eq_false y]
      by_cases x : c2 < 0
      · rw [if_pos x]
        have k := still_P h0.neg h1.neg h2.neg (by omega) (by rw [dsc_neg]; omega) (by rw [g3_neg]; exact g) A B h
        have t : ∀ {q : D}, PlaceN q → sonD (-c1) (2 * -c2) 0 q = -sonD c1 (2 * c2) 0 q := fun {q} Q => by
          have := sonD_opp (c0 := c1) (c1 := 2 * c2) (c2 := 0) Q
          rw [Int.neg_zero, show -(2 * c2) = 2 * -c2 by omega] at this
          exact this
        rw [sonD_opp A, sonD_opp B, t A, t B] at k
        have so := still_opp (-1) (sonD c0 c1 c2 a) (sonD c0 c1 c2 b) false (sonD c1 (2 * c2) 0 a) (sonD c1 (2 * c2) 0 b)
        rw [show (- -1 : Int) = 1 by rfl] at so
        rw [so] at k
        rw [sgn_neg x]
        exact k
      · rw [if_neg x, sgn_pos (by omega)]
        exact still_P h0 h1 h2 (by omega) (by omega) g A B h


/-! ### the floors of two places over 2 ^ 64 are not neighbours -/
theorem sepF2 {b0 b1 b2 w n d : Int} (I : Irr b0 b1 b2) (hn : n.natAbs ≤ 300) (hd : 0 < d) (hd2 : d ≤ 150) : flr b0 b1 b2 w (2 ^ 64) + 1 ≠ n * 2 ^ 64 / d ∧ flr b0 b1 b2 w (2 ^ 64) ≠ n * 2 ^ 64 / d + 1 := by
  have B := lin_b (n := -n) (d := d) I (by rw [Int.natAbs_neg]; exact hn) (by omega)
  have g := (son_gen (c0 := -n) (c1 := d) (c2 := 0) (w := w) I t64 B.1 B.2 (by decide) (lin_np I.p2 hd)).2
  have M := m_b I
  generalize flr b0 b1 b2 w (2 ^ 64) = L at *
  have ev : latv (-n) d 0 (2 * L + 1) (2 * 2 ^ 64) = 2 * 2 ^ 64 * (2 * (L * d) + d - 2 * (n * 2 ^ 64)) := by unfold latv; grind
  rw [ev] at g
  have key : -450 ≤ 2 * (L * d) + d - 2 * (n * 2 ^ 64) → 2 * (L * d) + d - 2 * (n * 2 ^ 64) ≤ 450 → False := fun l u => by
    have h1 := mul_abs (i := 2 * 2 ^ 64) (j := 2 * (L * d) + d - 2 * (n * 2 ^ 64)) (a := 2 * 2 ^ 64) (b := 450) (by omega) (by omega) (by omega) (by omega)
    have h2 := mul_abs (i := 4 * b2 * b2) (j := 2 * 2 ^ 64 * (2 * (L * d) + d - 2 * (n * 2 ^ 64))) (a := 20736) (b := 2 * 2 ^ 64 * 450) (by omega) (by omega) (by omega) (by omega)
    omega
  refine ⟨fun e => ?_, fun e => ?_⟩
  · obtain ⟨f1, f2⟩ := fdiv_b hd e
    have e1 : (L + 1) * d = L * d + d := by grind
    rw [e1] at f1 f2
    exact key (by omega) (by omega)
  · generalize hF : n * 2 ^ 64 / d = F at *
    obtain ⟨f1, f2⟩ := fdiv_b hd hF.symm
    have e1 : L * d = F * d + d := by rw [e]; grind
    exact key (by omega) (by omega)
theorem sepR2 {b0 b1 b2 w a0 a1 a2 z : Int} (I : Irr b0 b1 b2) (J : Irr a0 a1 a2) (np : ¬ (a1 * b2 - a2 * b1 = 0 ∧ a0 * b2 - a2 * b0 = 0)) : flr b0 b1 b2 w (2 ^ 64) + 1 ≠ flr a0 a1 a2 z (2 ^ 64) := fun e => by
  have B := quad_b I J.s0 J.s1 J.s2
  have s2 : a2.natAbs ≤ 72 := J.s2
  have p2 := J.p2
  have g := (son_gen (w := w) I t64 B.1 B.2 (by omega) np).2
  obtain ⟨X, V, hV, hX, x0, x1, e1, e2⟩ := flr_x (w := z) J (t := 2 ^ 64) (by decide)
  have ex : X * X = V * V := by
    split at hX
    · rw [hX, Int.neg_mul_neg]
    · rw [hX]
  have vb : -(2 ^ 9 * (2 * 2 ^ 64)) ≤ V ∧ V ≤ 2 ^ 9 * (2 * 2 ^ 64) := by
    split at hX <;> omega
  have l := lat4 a0 a1 a2 (2 * flr b0 b1 b2 w (2 ^ 64) + 1) (2 * 2 ^ 64)
  have ev : vat a1 a2 (2 * flr b0 b1 b2 w (2 ^ 64) + 1) (2 * 2 ^ 64) = V - 4 * a2 := by
    rw [hV, ← e]
    unfold vat
    grind
  rw [ev] at l
  have eq2 : (V - 4 * a2) * (V - 4 * a2) = V * V - 8 * (a2 * V) + 16 * (a2 * a2) := by grind
  rw [eq2] at l
  have m1 := mul_abs (i := a2) (j := V) (a := 72) (b := 2 ^ 9 * (2 * 2 ^ 64)) (by omega) (by omega) vb.1 vb.2
  have m2 := mul_abs (i := a2) (j := a2) (a := 72) (b := 72) (by omega) (by omega) (by omega) (by omega)
  rw [ex] at e1 e2
  have M := m_b I
  generalize latv a0 a1 a2 (2 * flr b0 b1 b2 w (2 ^ 64) + 1) (2 * 2 ^ 64) = Y at *
  have hY : -(2 ^ 19 * (2 * 2 ^ 64)) ≤ Y ∧ Y ≤ 2 ^ 19 * (2 * 2 ^ 64) := by
    have k : 4 * a2 * Y = 4 * (a2 * Y) := Int.mul_assoc _ _ _
    refine ⟨?_, ?_⟩
    · rcases Int.lt_or_le Y (-(2 ^ 19 * (2 * 2 ^ 64))) with q | q
      · have := Int.mul_le_mul_of_nonneg_right (show (1 : Int) ≤ a2 by omega) (show 0 ≤ -Y by omega)
        have e : a2 * -Y = -(a2 * Y) := Int.mul_neg _ _
        omega
      · exact q
    · rcases Int.lt_or_le (2 ^ 19 * (2 * 2 ^ 64)) Y with q | q
      · have := Int.mul_le_mul_of_nonneg_right (show (1 : Int) ≤ a2 by omega) (show 0 ≤ Y by omega)
        omega
      · exact q
  have h2 := mul_abs (i := 4 * b2 * b2) (j := Y) (a := 20736) (b := 2 ^ 19 * (2 * 2 ^ 64)) (by omega) (by omega) hY.1 hY.2
  omega
theorem sepS2 {b0 b1 b2 : Int} (I : Irr b0 b1 b2) : flr b0 b1 b2 0 (2 ^ 64) + 1 ≠ flr b0 b1 b2 1 (2 ^ 64) := fun e => by
  obtain ⟨X, V, hV, hX, x0, x1, e1, e2⟩ := flr_x (w := 0) I (t := 2 ^ 64) (by decide)
  obtain ⟨Y, U, hU, hY, y0, _⟩ := flr_x (w := 1) I (t := 2 ^ 64) (by decide)
  rw [if_pos rfl] at hX
  rw [if_neg (by decide)] at hY
  have s2 : b2.natAbs ≤ 72 := I.s2
  have p2 := I.p2
  have ev : U = V + 4 * b2 := by
    rw [hU, hV, ← e]
    unfold vat
    grind
  have xs := mul_abs (i := X) (j := X) (a := 288) (b := 288) (by omega) (by omega) (by omega) (by omega)
  have pd := I.pd
  have := Int.mul_le_mul_of_nonneg_right (show (1 : Int) ≤ dsc b0 b1 b2 by omega) (show (0 : Int) ≤ 2 * 2 ^ 64 * (2 * 2 ^ 64) by decide)
  omega
theorem sep2 {x y : D} (P : PlaceN x) (Q : PlaceN y) (h : f64 x < f64 y) : f64 x + 2 ≤ f64 y := by
  have ne : f64 x + 1 ≠ f64 y := by
    have o := (ord64 P Q).mpr h
    rcases P with ⟨n, d, rfl, hn, hd, hd2, gd⟩ | ⟨b0, b1, b2, w, rfl, hw, I, gI⟩
    · rcases Q with ⟨m, e, rfl, hm, he, he2, ge⟩ | ⟨a0, a1, a2, z, rfl, hz, J, gJ⟩
      · have o : sgn (n * e - m * d) < 0 := o
        rw [sgn_lt] at o
        show n * 2 ^ 64 / d + 1 ≠ m * 2 ^ 64 / e
        intro q
        generalize hF : n * 2 ^ 64 / d = F at *
        obtain ⟨f1, f2⟩ := fdiv_b hd hF.symm
        obtain ⟨g1, g2⟩ := fdiv_b he q
        have F1 := Int.mul_le_mul_of_nonneg_right f1 (show 0 ≤ e by omega)
        have G2 := Int.mul_lt_mul_of_pos_right g2 hd
        have de := mul_abs (i := d) (j := e) (a := 150) (b := 150) (by omega) (by omega) (by omega) (by omega)
        have e1 : F * d * e = F * (d * e) := by grind
        have e2 : ((F + 1) * e + e) * d = F * (d * e) + 2 * (d * e) := by grind
        have e3 : n * 2 ^ 64 * e = 2 ^ 64 * (n * e) := by grind
        have e4 : m * 2 ^ 64 * d = 2 ^ 64 * (m * d) := by grind
        rw [e1, e3] at F1
        rw [e2, e4] at G2
        omega
      · exact fun q => (sepF2 (w := z) J hn hd hd2).2 q.symm
    · rcases Q with ⟨m, e, rfl, hm, he, he2, ge⟩ | ⟨a0, a1, a2, z, rfl, hz, J, gJ⟩
      · exact (sepF2 (w := w) I hm he he2).1
      · by_cases np : a1 * b2 - a2 * b1 = 0 ∧ a0 * b2 - a2 * b0 = 0
        · obtain ⟨e0, e1, e2⟩ := prop_eq I.p2 J.p2 gI gJ (by omega) (by omega)
          subst e0 e1 e2
          have s := sepS I t64
          have h' : flr a0 a1 a2 w (2 ^ 64) < flr a0 a1 a2 z (2 ^ 64) := h
          rcases hw with rfl | rfl <;> rcases hz with rfl | rfl
          · omega
          · exact sepS2 I
          · omega
          · omega
        · exact sepR2 I J np
  omega


open PySem PySem.Spec PyProof.Rows L2 Vc

/-! ### a place in a stretch -/
def flT (kb : Nat) : D → Int
  | .tuple [.int n, .int d] => n * 2 ^ kb / d
  | .tuple [.str _, .tuple [.int b0, .int b1, .int b2], .int w] => flr b0 b1 b2 w (2 ^ kb)
  | _ => 0
theorem flT64 {x : D} (P : PlaceN x) : flT 64 x = f64 x := by
  rcases P with ⟨n, d, rfl, _⟩ | ⟨b0, b1, b2, wh, rfl, _⟩ <;> rfl
theorem floorT_spec {x : D} {kb : Nat} {W : D → Prop} (P : PlaceN x) (hk : kb ≤ 64) (w : W (.int (flT kb x))) : SFloor [x, .int (kb : Int)] W := by
  rcases P with ⟨n, d, rfl, hn, hd, hd2, _⟩ | ⟨b0, b1, b2, wh, rfl, hw, I, _⟩
  · exact ⟨_, kb, rfl, hk, .inl ⟨n, d, rfl, by omega, hd, by omega, w⟩⟩
  · exact ⟨_, kb, rfl, hk, .inr ⟨b0, b1, b2, wh, rfl, I, w⟩⟩
/-- what a stretch may begin and end with -/
def EndL (a : D) : Prop := a = .tuple [.int 0, .int 1] ∨ innerB a = true
def EndR (a : D) : Prop := a = .tuple [.int 1, .int 1] ∨ innerB a = true
theorem inner_fl {x : D} (P : PlaceN x) (h : innerB x = true) (kb : Nat) : 0 ≤ flT kb x ∧ flT kb x < 2 ^ kb := by
  have t0 := tpow kb
  rcases P with ⟨n, d, rfl, hn, hd, hd2, _⟩ | ⟨b0, b1, b2, wh, rfl, hw, I, _⟩
  · have h : (decide (0 < n) && decide (n < d)) = true := h
    rw [Bool.and_eq_true] at h
    have h1 := of_decide_eq_true h.1
    have h2 := of_decide_eq_true h.2
    show 0 ≤ n * 2 ^ kb / d ∧ n * 2 ^ kb / d < 2 ^ kb
    generalize (2 : Int) ^ kb = t at *
    refine ⟨Int.ediv_nonneg (Int.mul_nonneg (by omega) (by omega)) (by omega), ?_⟩
    refine Int.ediv_lt_of_lt_mul hd ?_
    have := Int.mul_lt_mul_of_pos_right h2 t0
    rw [Int.mul_comm t d]
    exact this
  · have h : flr b0 b1 b2 wh 1 = 0 := of_decide_eq_true h
    show 0 ≤ flr b0 b1 b2 wh (2 ^ kb) ∧ flr b0 b1 b2 wh (2 ^ kb) < 2 ^ kb
    generalize (2 : Int) ^ kb = t at *
    have l : ¬ Ab b0 b1 b2 wh 0 1 := by rw [ab_flr I (by decide)]; omega
    have u : Ab b0 b1 b2 wh 1 1 := by rw [ab_flr I (by decide)]; omega
    refine ⟨?_, ?_⟩
    · rcases Int.lt_or_le (flr b0 b1 b2 wh t) 0 with q | q
      · exact absurd (ab_le I.p2 t0 (by decide) (by omega) ((ab_flr I t0).mpr q)) l
      · exact q
    · exact (ab_flr I t0).mp (ab_le I.p2 (by decide) t0 (by omega) u)
theorem endL_fl {x : D} (P : PlaceN x) (h : EndL x) (kb : Nat) : 0 ≤ flT kb x := by
  rcases h with rfl | h
  · show (0 : Int) ≤ 0 * 2 ^ kb / 1
    rw [Int.zero_mul]
    decide
  · exact (inner_fl P h kb).1
theorem endR_fl {x : D} (P : PlaceN x) (h : EndR x) (kb : Nat) : flT kb x ≤ 2 ^ kb := by
  rcases h with rfl | h
  · show (1 : Int) * 2 ^ kb / 1 ≤ 2 ^ kb
    rw [Int.one_mul, Int.ediv_one]
    exact Int.le_refl _
  · exact Int.le_of_lt (inner_fl P h kb).2
/-- a dyadic number over 2 ^ 90 -/
theorem dy90 {m e g k : Int} {kb : Nat} (hk : kb ≤ 64) (ep : 0 < e) (gp : 0 < g) (hm : k = m * g) (he : (2 : Int) ^ kb = e * g) : m * 2 ^ 90 / e = k * 2 ^ (90 - kb) := by
  have e90 : (2 : Int) ^ 90 = 2 ^ kb * 2 ^ (90 - kb) := by
    rw [← Int.pow_add]
    congr 1
    omega
  have q : m * 2 ^ 90 = k * 2 ^ (90 - kb) * e := by
    rw [e90, he, hm]
    grind
  rw [q]
  exact Int.mul_ediv_cancel _ (by omega)
theorem smp {a b : D} {kb : Nat} (P : PlaceN a) (Q : PlaceN b) (L : EndL a) (R : EndR b) (hk : kb ≤ 64) (h : flT kb a + 2 ≤ flT kb b) :
    ∃ m e : Int, frq (flT kb a + 1) (2 ^ kb) = .tuple [.int m, .int e] ∧ 0 < m ∧ m < e ∧ e ≤ 2 ^ 64 ∧ Nat.gcd m.natAbs e.natAbs = 1 ∧ ordN a (.tuple [.int m, .int e]) < 0 ∧ ordN (.tuple [.int m, .int e]) b < 0 := by
  have t0 := tpow kb
  have tl := tle hk
  have l0 := endL_fl P L kb
  have r0 := endR_fl Q R kb
  obtain ⟨m, e, g, k, gp, n1, d1, ep⟩ := frq_pos (n := flT kb a + 1) t0
  have gg : Nat.gcd m.natAbs e.natAbs = 1 := by
    have o := fr_one (n := flT kb a + 1) t0
    have k2 := k
    unfold frq at k2
    rw [if_neg (by omega)] at k2
    unfold fr at k2
    injection k2 with k2
    injection k2 with q1 q2
    injection q1 with q1
    injection q2 with q2
    injection q2 with q2
    rw [q1, q2] at o
    exact o
  have mp : 0 < m := by
    rcases Int.lt_or_le 0 m with q | q
    · exact q
    · have := Int.mul_nonneg (show 0 ≤ -m by omega) (show 0 ≤ g by omega)
      rw [Int.neg_mul] at this
      omega
  have me : m < e := by
    rcases Int.lt_or_le m e with q | q
    · exact q
    · have := Int.mul_le_mul_of_nonneg_right q (show 0 ≤ g by omega)
      omega
  have el : e ≤ 2 ^ 64 := by
    have := Int.mul_le_mul_of_nonneg_left (show 1 ≤ g by omega) (show 0 ≤ e by omega)
    omega
  have e90 := dy90 hk ep gp n1 d1
  have p90 : (0 : Int) < 2 ^ (90 - kb) := tpow _
  have x90 : (2 : Int) ^ 90 = 2 ^ kb * 2 ^ (90 - kb) := by
    rw [← Int.pow_add]
    congr 1
    omega
  have z90 : (0 : Int) < 2 ^ 90 := by decide
  refine ⟨m, e, k, mp, me, el, gg, ?_, ?_⟩
  · rcases P with ⟨n, d, rfl, hn, hd, hd2, gd⟩ | ⟨b0, b1, b2, w, rfl, hw, I, gI⟩
    · show sgn (n * e - m * d) < 0
      rw [sgn_lt]
      have n1 : n * 2 ^ kb / d + 1 = m * g := n1
      generalize hF : n * 2 ^ kb / d = F at *
      obtain ⟨f1, f2⟩ := fdiv_b hd hF.symm
      rw [d1] at f2
      have q : (n * e) * g < (m * d) * g := by
        have e1 : (m * d) * g = (F + 1) * d := by rw [n1]; grind
        have e2 : (F + 1) * d = F * d + d := by grind
        have e3 : n * (e * g) = n * e * g := by grind
        omega
      have := Int.lt_of_mul_lt_mul_right q (by omega)
      omega
    · show (if PyData.eqv (rootD (tup3 b0 b1 b2) w) (.tuple [.int m, .int e]) = true then (0 : Int) else if flr b0 b1 b2 w (2 ^ 90) < m * 2 ^ 90 / e then -1 else 1) < 0
      rw [eqv_rf, if_neg (by decide), if_pos]
      · decide
      rw [e90, ← ab_flr I z90]
      have u : Ab b0 b1 b2 w (flr b0 b1 b2 w (2 ^ kb) + 1) (2 ^ kb) := by rw [ab_flr I t0]; omega
      refine ab_le I.p2 t0 z90 ?_ u
      rw [x90]
      show (flr b0 b1 b2 w (2 ^ kb) + 1) * (2 ^ kb * 2 ^ (90 - kb)) ≤ (flr b0 b1 b2 w (2 ^ kb) + 1) * 2 ^ (90 - kb) * 2 ^ kb
      have : (flr b0 b1 b2 w (2 ^ kb) + 1) * (2 ^ kb * 2 ^ (90 - kb)) = (flr b0 b1 b2 w (2 ^ kb) + 1) * 2 ^ (90 - kb) * 2 ^ kb := by grind
      omega
  · generalize flT kb a = K at *
    rcases Q with ⟨n, d, rfl, hn, hd, hd2, gd⟩ | ⟨b0, b1, b2, w, rfl, hw, I, gI⟩
    · show sgn (m * d - n * e) < 0
      rw [sgn_lt]
      have h : K + 2 ≤ n * 2 ^ kb / d := h
      generalize hF : n * 2 ^ kb / d = F at *
      obtain ⟨f1, f2⟩ := fdiv_b hd hF.symm
      rw [d1] at f1
      have q : (m * d) * g < (n * e) * g := by
        have e1 : (m * d) * g = (K + 1) * d := by rw [n1]; grind
        have e2 := Int.mul_le_mul_of_nonneg_right (show K + 1 + 1 ≤ F by omega) (show 0 ≤ d by omega)
        have e3 : n * (e * g) = n * e * g := by grind
        have e4 : (K + 1 + 1) * d = (K + 1) * d + d := by grind
        omega
      have := Int.lt_of_mul_lt_mul_right q (by omega)
      omega
    · show (if PyData.eqv (.tuple [.int m, .int e]) (rootD (tup3 b0 b1 b2) w) = true then (0 : Int) else if m * 2 ^ 90 / e < flr b0 b1 b2 w (2 ^ 90) then -1 else 1) < 0
      rw [eqv_fr, if_neg (by decide), if_pos]
      · decide
      rw [e90]
      have h : K + 2 ≤ flr b0 b1 b2 w (2 ^ kb) := h
      have l : ¬ Ab b0 b1 b2 w (K + 2) (2 ^ kb) := by rw [ab_flr I t0]; omega
      have l2 : ¬ Ab b0 b1 b2 w ((K + 2) * 2 ^ (90 - kb)) (2 ^ 90) := fun q => l (ab_le I.p2 z90 t0 (by
        rw [x90]
        have : (K + 2) * 2 ^ (90 - kb) * 2 ^ kb = (K + 2) * (2 ^ kb * 2 ^ (90 - kb)) := by grind
        omega) q)
      rw [ab_flr I z90] at l2
      have := Int.mul_lt_mul_of_pos_right (show K + 1 < K + 2 by omega) p90
      omega


open PySem PySem.Spec PyProof.Rows L2 Vc

/-! ### the defs of cells -/
def SFractionW : List D → (D → Prop) → Prop := fun ds W => ∃ n d : Int, ds = [.int n, .int d] ∧ n.natAbs < 2 ^ 300 ∧ d.natAbs < 2 ^ 300 ∧ 0 < d ∧ W (frq n d)
theorem fFractionW {M : Md} {f : Addr} {fd : FuncData} (mg : M.mg "gcd" = some (.builtin "math.gcd")) (F : Fun M.K "fraction" "fraction" sFraction f fd) (hm : M.mg "fraction" = some (.ref f)) (b : L2.Binds M.K fd ["above", "below"] []) : FnD M 1 "fraction" 2 SFractionW := by
  refine fnD_mk (k := 0) (NK := nkFraction) (G := gFraction) F scFraction hm b rfl (by decide +kernel) rfl (by decide) fun X C ds W hl hS => ?_
  obtain ⟨n, d, rfl, hn, hd, h0, w⟩ := hS
  have hg : 0 < Nat.gcd n.natAbs d.natAbs := Nat.gcd_pos_of_pos_right _ (by omega)
  have hle : Nat.gcd n.natAbs d.natAbs ≤ d.natAbs := Nat.le_of_dvd (by omega) (Nat.gcd_dvd_right _ _)
  have hgd : (((Nat.gcd n.natAbs d.natAbs : Nat) : Int)).natAbs < 2 ^ 1000 := by
    rw [Int.natAbs_natCast]
    exact Nat.lt_trans (Nat.lt_of_le_of_lt hle hd) (by decide +kernel)
  show VSs X _ [.dat (.int n), .dat (.int d), .no] _
  walk_at "vv"
  refine vd_callM C does_gcd2 (by walk_at "at") ?_
  walk_at "vv"
  refine ⟨n, d, rfl, ?_⟩
  walk_at "vv"
  refine ⟨fun h => absurd (of_decide_eq_true h) (by omega), fun h => ?_⟩
  refine vss_nil ?_
  walk_at "vv"
  refine ⟨divW (by omega) hgd, ?_⟩
  walk_at "vv"
  refine ⟨divW (by omega) hgd, ?_⟩
  walk_at "vv"
  refine ⟨by show 2 ≤ 1000; decide, ?_⟩
  unfold frq at w
  rw [if_neg (by omega)] at w
  exact w
abbrev atD (p : D) : D := .tuple [.str "at", p]
abbrev btD (a b : D) : D := .tuple [.str "between", a, b]
theorem shAt : SeqAt.shaped (.str "at") = true := by decide +kernel
theorem shBt : SeqAt.shaped (.str "between") = true := by decide +kernel
theorem eqAt : PyData.eqv (.str "at") (.str "at") = true := by decide +kernel
theorem neAt : PyData.eqv (.str "between") (.str "at") = false := by decide +kernel
def SSample : List D → (D → Prop) → Prop := fun ds W => (∃ p : D, ds = [atD p] ∧ W p) ∨
  (∃ a b : D, ds = [btD a b] ∧ PlaceN a ∧ PlaceN b ∧ f64 a + 2 ≤ f64 b ∧ ∀ kb : Nat, kb ≤ 64 → flT kb a + 2 ≤ flT kb b → W (frq (flT kb a + 1) (2 ^ kb)))
theorem flT_small {x : D} {kb : Nat} (P : PlaceN x) (hk : kb ≤ 64) : (flT kb x).natAbs < 2 ^ 120 := by
  have t0 := tpow kb
  have tl := tle hk
  rcases P with ⟨n, d, rfl, hn, hd, hd2, _⟩ | ⟨b0, b1, b2, wh, rfl, hw, I, _⟩
  · show (n * 2 ^ kb / d).natAbs < 2 ^ 120
    generalize (2 : Int) ^ kb = t at *
    have m := mul_abs (i := n) (j := t) (a := 300) (b := 2 ^ 64) (by omega) (by omega) (by omega) (by omega)
    generalize hF : n * t / d = F
    obtain ⟨f1, f2⟩ := fdiv_b hd hF.symm
    rcases Int.lt_or_le F 0 with q | q
    · have := Int.mul_le_mul_of_nonneg_left (show 1 ≤ d from hd) (show 0 ≤ -F - 1 by omega)
      have e : (-F - 1) * d = -(F * d) - d := by grind
      omega
    · have := Int.mul_le_mul_of_nonneg_left (show 1 ≤ d from hd) q
      omega
  · obtain ⟨q0, q1, q2⟩ := flr_isq I.s0 I.s1 I.s2 (tpow kb) (tle hk) I.pd
    show (flr b0 b1 b2 wh (2 ^ kb)).natAbs < 2 ^ 120
    have s1 : b1.natAbs ≤ 72 := I.s1
    have p2 := I.p2
    generalize (2 : Int) ^ kb = t at *
    have m := mul_abs (i := -b1) (j := t) (a := 72) (b := 2 ^ 64) (by omega) (by omega) (by omega) (by omega)
    have div : ∀ y : Int, y.natAbs < 2 ^ 110 → (y / (2 * b2)).natAbs < 2 ^ 120 := fun y hy => by
      generalize hF : y / (2 * b2) = F
      have a := Int.mul_ediv_self_le (x := y) (k := 2 * b2) (by omega)
      have b := Int.lt_mul_ediv_self_add (x := y) (k := 2 * b2) (by omega)
      rw [hF] at a b
      rcases Int.lt_or_le F 0 with q | q
      · have := Int.mul_le_mul_of_nonneg_left (show 1 ≤ 2 * b2 by omega) (show 0 ≤ -F - 1 by omega)
        have e : (-F - 1) * (2 * b2) = -(2 * b2 * F) - 2 * b2 := by grind
        omega
      · have := Int.mul_le_mul_of_nonneg_left (show 1 ≤ 2 * b2 by omega) q
        have e : F * (2 * b2) = 2 * b2 * F := Int.mul_comm _ _
        omega
    unfold flr
    split
    · exact div _ (by omega)
    · exact div _ (by omega)
theorem fSample {M : Md} {f : Addr} {fd : FuncData} (FF : FnD M 2 "floor_of" 2 SFloor) (FR : FnD M 1 "fraction" 2 SFractionW)
    (F : Fun M.K "sample" "sample" sSample f fd) (hm : M.mg "sample" = some (.ref f)) (b : L2.Binds M.K fd ["cell"] []) : FnD M 3 "sample" 1 SSample := by
  refine fnD_mk (k := 2) (NK := nkSample) (G := gSample) F scSample hm b rfl (by decide +kernel) rfl (by decide) fun X C ds W hl hS => ?_
  rcases hS with ⟨p, rfl, w⟩ | ⟨a, b, rfl, P, Q, h2, w⟩
  · show VSs X _ [.dat (atD p), .no, .no, .no, .no] _
    walk_at "vv"
    refine ⟨_, rfl, ?_⟩
    walk_at "vv"
    refine ⟨shAt, shAt, ?_⟩
    refine ⟨fun _ => ?_, fun h => absurd (h : PyData.eqv (.str "at") (.str "at") = false) (by rw [eqAt]; decide)⟩
    walk_at "vv"
    exact ⟨_, rfl, w⟩
  · show VSs X _ [.dat (btD a b), .no, .no, .no, .no] _
    walk_at "vv"
    refine ⟨_, rfl, ?_⟩
    walk_at "vv"
    refine ⟨shBt, shAt, ?_⟩
    refine ⟨fun h => absurd (h : PyData.eqv (.str "between") (.str "at") = true) (by rw [neAt]; decide), fun _ => ?_⟩
    refine vss_nil ?_
    walk_at "v"
    refine vs_asg ?_
    walk_at "v"
    refine vg_tup C ?_
    walk_at "vv"
    show VS X _ [.dat (btD a b), .dat (.str "between"), .dat a, .dat b, .dat (.int 1)] _
    refine vs_while C (fun m ρ' => ∃ j : Nat, j ≤ 6 ∧ m = 6 - j ∧ ρ' = [.dat (btD a b), .dat (.str "between"), .dat a, .dat b, .dat (.int ((2 ^ j : Nat) : Int))]) 6 ⟨0, by decide, rfl, rfl⟩ fun m ρ' hW => ?_
    obtain ⟨j, hj, rfl, rfl⟩ := hW
    have hb : 2 ^ j ≤ 64 := by
      have := Nat.pow_le_pow_right (show 0 < 2 by decide) hj
      exact this
    walk_at "v"
    walk_at "v"
    refine vd_call C FF (by walk_at "at") ?_
    walk_at "vv"
    refine ⟨rfl, floorT_spec Q hb ?_⟩
    refine vd_call C FF (by walk_at "at") ?_
    walk_at "vv"
    refine ⟨rfl, floorT_spec P hb ?_⟩
    walk_at "vv"
    refine ⟨fun h => ?_, fun h => ?_⟩
    · have h := of_decide_eq_true h
      have j6 : j ≠ 6 := fun e => by
        subst e
        have k1 := flT64 P
        have k2 := flT64 Q
        have e64 : (2 : Nat) ^ 6 = 64 := rfl
        rw [e64] at h
        omega
      walk_at "vv"
      refine ⟨mulB (a := 10) (b := 10) (by decide) ?_ (by decide) (by decide), ?_⟩
      · rw [Int.natAbs_natCast]
        omega
      · refine ⟨6 - (j + 1), by omega, j + 1, by omega, rfl, ?_⟩
        have e : (2 : Int) * ((2 ^ j : Nat) : Int) = ((2 ^ (j + 1) : Nat) : Int) := by
          rw [Nat.pow_succ, Int.natCast_mul, Int.mul_comm]
          rfl
        rw [e]
        rfl
    · have h := of_decide_eq_false h
      have s1 := flT_small P hb
      have ek : (((2 ^ j : Nat) : Int)).toNat = 2 ^ j := Int.toNat_natCast _
      walk_at "v"
      walk_at "v"
      refine vd_call C FR (by walk_at "at") ?_
      walk_at "v"
      walk_at "v"
      refine vd_call C FF (by walk_at "at") ?_
      walk_at "vv"
      refine ⟨rfl, floorT_spec P hb ?_⟩
      walk_at "vv"
      refine ⟨⟨by omega, by omega, by omega⟩, ?_⟩
      rw [ek, Int.one_mul]
      walk_at "vv"
      have t0 := tpow (2 ^ j)
      have tl := tle hb
      refine ⟨rfl, _, _, rfl, Nat.lt_trans (show (flT (2 ^ j) a + 1).natAbs < 2 ^ 200 by omega) (by decide +kernel), Nat.lt_trans (show ((2 : Int) ^ 2 ^ j).natAbs < 2 ^ 200 by omega) (by decide +kernel), t0, ?_⟩
      exact w (2 ^ j) hb (by omega)
def SStill : List D → (D → Prop) → Prop := fun ds W => ∃ (c0 c1 c2 : Int) (cell : D), ds = [tup3 c0 c1 c2, cell] ∧ Sb c0 ∧ Sb c1 ∧ Sb c2 ∧ ((∃ p : D, cell = atD p ∧ W (.bool true)) ∨
  (∃ a b : D, cell = btD a b ∧ PlaceN a ∧ PlaceN b ∧ W (.bool (stillE (sgn c2) (sonD c0 c1 c2 a) (sonD c0 c1 c2 b) (decide (dsc c0 c1 c2 < 0)) (sonD c1 (2 * c2) 0 a) (sonD c1 (2 * c2) 0 b)))))


open PySem PySem.Spec PyProof.Rows L2 Vc

/-! ### is_still, the def -/
theorem surd_s (f s q : Int) : (surd f s q).natAbs < 2 ^ 1 := by
  unfold surd
  split
  · split
    · exact sgn_small s
    · exact sgn_small f
  · split
    · exact sgn_small f
    · exact sgn_small s
theorem sonD_s {x : D} (c0 c1 c2 : Int) (P : PlaceN x) : (sonD c0 c1 c2 x).natAbs < 2 ^ 1 := by
  rcases P with ⟨n, d, rfl, _⟩ | ⟨b0, b1, b2, w, rfl, _⟩
  · exact sgn_small _
  · exact surd_s _ _ _
theorem fStill {M : Md} {f : Addr} {fd : FuncData} (FS : FnD M 3 "sign_on" 2 SSon) (FG : FnD M 1 "sign_of" 1 SSign) (FD : FnD M 1 "discriminant" 3 (S3 300 fun a b c => .int (dsc a b c)))
    (F : Fun M.K "is_still" "is_still" sIsStill f fd) (hm : M.mg "is_still" = some (.ref f)) (b : L2.Binds M.K fd ["poly", "cell"] []) : FnD M 4 "is_still" 2 SStill := by
  refine fnD_mk (k := 3) (NK := nkIsStill) (G := gIsStill) F scIsStill hm b rfl (by decide +kernel) rfl (by decide) fun X C ds W hl hS => ?_
  obtain ⟨c0, c1, c2, cell, rfl, h0, h1, h2, hS⟩ := hS
  rcases hS with ⟨p, rfl, w⟩ | ⟨a, b, rfl, A, B, w⟩
  · show VSs X _ [.dat (tup3 c0 c1 c2), .dat (atD p), .no, .no, .no, .no, .no, .no, .no, .no, .no, .no] _
    walk_at "vv"
    refine ⟨_, rfl, ?_⟩
    walk_at "vv"
    refine ⟨shAt, shAt, ?_⟩
    refine ⟨fun _ => ?_, fun h => absurd (h : PyData.eqv (.str "at") (.str "at") = false) (by rw [eqAt]; decide)⟩
    walk_at "vv"
    exact w
  · show VSs X _ [.dat (tup3 c0 c1 c2), .dat (btD a b), .no, .no, .no, .no, .no, .no, .no, .no, .no, .no] _
    have la := sonD_s c0 c1 c2 A
    have lb := sonD_s c0 c1 c2 B
    have ta := sonD_s c1 (2 * c2) 0 A
    have tb := sonD_s c1 (2 * c2) 0 B
    have k1 : c1.natAbs ≤ 72 := h1
    have k2 : c2.natAbs ≤ 72 := h2
    walk_at "vv"
    refine ⟨_, rfl, ?_⟩
    walk_at "vv"
    refine ⟨shBt, shAt, ?_⟩
    refine ⟨fun h => absurd (h : PyData.eqv (.str "between") (.str "at") = true) (by rw [neAt]; decide), fun _ => ?_⟩
    refine vss_nil ?_
    walk_at "v"
    refine vs_asg ?_
    walk_at "v"
    refine vg_tup C ?_
    walk_at "vv"
    refine vd_call C FS (by walk_at "at") ?_
    walk_at "vv"
    refine ⟨rfl, son_spec h0.sm h1.sm h2.sm A.ok ?_⟩
    walk_at "vv"
    refine vd_call C FS (by walk_at "at") ?_
    walk_at "vv"
    refine ⟨rfl, son_spec h0.sm h1.sm h2.sm B.ok ?_⟩
    walk_at "vv"
    refine ⟨mulB la lb (by decide) (by decide), ?_⟩
    walk_at "vv"
    unfold stillE at w
    refine ⟨fun h => ?_, fun h => ?_⟩
    · have h := of_decide_eq_true h
      rw [if_pos h] at w
      walk_at "vv"
      exact w
    have h := of_decide_eq_false h
    rw [if_neg h] at w
    refine vss_nil ?_
    walk_at "v"
    refine vs_asg ?_
    walk_at "v"
    refine vg_tup C ?_
    walk_at "vv"
    refine vd_call C FG (by walk_at "at") ?_
    walk_at "vv"
    refine ⟨rfl, c2, rfl, ?_⟩
    show VSs X _ [.dat (tup3 c0 c1 c2), .dat (btD a b), .dat (.str "between"), .dat a, .dat b, .dat (.int (sonD c0 c1 c2 a)), .dat (.int (sonD c0 c1 c2 b)), .dat (.int c0), .dat (.int c1), .dat (.int c2), .dat (.int (sgn c2)), .no] _
    generalize sonD c0 c1 c2 a = lo at *
    generalize sonD c0 c1 c2 b = hi at *
    generalize sgn c2 = o at *
    have yes : (o = 0 ∨ lo = -o ∨ hi = -o ∨ (lo = hi ∧ hi = 0)) → W (.bool true) := fun q => by
      rw [if_pos q] at w
      exact w
    have no : ¬ (o = 0 ∨ lo = -o ∨ hi = -o ∨ (lo = hi ∧ hi = 0)) → VSs X ((defBody sIsStill).drop 8) [.dat (tup3 c0 c1 c2), .dat (btD a b), .dat (.str "between"), .dat a, .dat b, .dat (.int lo), .dat (.int hi), .dat (.int c0), .dat (.int c1), .dat (.int c2), .dat (.int o), .no] { nx := fun _ => W .none, rt := fun d _ => W d } := fun q => by
      rw [if_neg q] at w
      walk_at "v"
      walk_at "v"
      walk_at "v"
      refine vd_call C FD (by walk_at "at") ?_
      walk_at "vv"
      refine ⟨rfl, c0, c1, c2, rfl, absup h0.sm (by decide), absup h1.sm (by decide), absup h2.sm (by decide), ?_⟩
      walk_at "vv"
      refine ⟨fun h => ?_, fun h => ?_⟩
      · rw [if_pos h] at w
        walk_at "vv"
        exact w
      rw [h, if_neg (by decide)] at w
      refine vss_nil ?_
      walk_at "vv"
      refine ⟨mulB (a := 10) (b := 10) (by decide) (by omega) (by decide) (by decide), ?_⟩
      walk_at "vv"
      refine ⟨by show 3 ≤ 1000; decide, ?_⟩
      walk_at "vv"
      refine vd_call C FS (by walk_at "at") ?_
      walk_at "vv"
      refine ⟨rfl, son_spec h1.sm (by show (2 * c2).natAbs < 2 ^ 10; omega) (by show (0 : Int).natAbs < 2 ^ 10; decide) A.ok ?_⟩
      refine vd_call C FS (by walk_at "at") ?_
      walk_at "vv"
      refine ⟨rfl, son_spec h1.sm (by show (2 * c2).natAbs < 2 ^ 10; omega) (by show (0 : Int).natAbs < 2 ^ 10; decide) B.ok ?_⟩
      refine ⟨mulB ta tb (by decide) (by decide), ?_⟩
      walk_at "vv"
      exact w
    refine vss_cons (vs_if (vt_w (vw_or ?_)))
    walk_at "vv"
    refine ⟨fun q1 => ?_, fun q1 => ?_⟩
    · refine ⟨fun _ => ?_, fun h => absurd h (by decide)⟩
      walk_at "vv"
      exact yes (.inl (of_decide_eq_true q1))
    have q1 := of_decide_eq_false q1
    refine vw_or ?_
    walk_at "vv"
    refine ⟨_, rfl, ?_⟩
    refine ⟨fun q2 => ?_, fun q2 => ?_⟩
    · refine ⟨fun _ => ?_, fun h => absurd h (by decide)⟩
      walk_at "vv"
      exact yes (.inr (.inl (of_decide_eq_true q2)))
    have q2 := of_decide_eq_false q2
    refine vw_or ?_
    walk_at "vv"
    refine ⟨_, rfl, ?_⟩
    refine ⟨fun q3 => ?_, fun q3 => ?_⟩
    · refine ⟨fun _ => ?_, fun h => absurd h (by decide)⟩
      walk_at "vv"
      exact yes (.inr (.inr (.inl (of_decide_eq_true q3))))
    have q3 := of_decide_eq_false q3
    refine vw_or1 (vt_chain C ?_)
    walk_at "vv"
    refine ⟨fun q4 => ?_, fun q4 => ?_⟩
    · have q4 := of_decide_eq_true q4
      walk_at "vv"
      refine ⟨fun q5 => ?_, fun q5 => ?_⟩
      · walk_at "vv"
        exact yes (.inr (.inr (.inr ⟨q4, of_decide_eq_true q5⟩)))
      · have q5 := of_decide_eq_false q5
        refine vss_nil ?_
        exact no fun z => by rcases z with z | z | z | z <;> omega
    · have q4 := of_decide_eq_false q4
      refine ⟨fun h => absurd h (by decide), fun _ => ?_⟩
      refine vss_nil ?_
      exact no fun z => by rcases z with z | z | z | z <;> omega


open PySem PySem.Spec PyProof.Rows L2 Vc

/-! ### cells_between, cells_of -/
def cellsD : D → List D → D → List D
  | a, [], b => [btD a b]
  | a, p :: ps, b => btD a p :: atD p :: cellsD p ps b
def SCB : List D → (D → Prop) → Prop := fun ds W => ∃ (a b : D) (ps : List D), ds = [a, .list ps, b] ∧ ps.length ≤ 1000 ∧ W (.list (cellsD a ps b))
theorem fCellsBetween {M : Md} {f : Addr} {fd : FuncData} (F : Fun M.K "cells_between" "cells_between" sCellsBetween f fd) (hm : M.mg "cells_between" = some (.ref f)) (b : L2.Binds M.K fd ["one", "places", "other"] []) : FnD M 1 "cells_between" 3 SCB := by
  refine fnD_mk (k := 0) (NK := nkCellsBetween) (G := gCellsBetween) F scCellsBetween hm b rfl (by decide +kernel) rfl (by decide) fun X C ds W hl hS => ?_
  obtain ⟨a, b, ps, rfl, hps, w⟩ := hS
  show VSs X _ [.dat a, .dat (.list ps), .dat b, .no, .no] _
  refine vss_cons ?_
  refine vs_new C (i := 3) (by walk_at "at") (by show 3 < 5; decide) ?_
  refine vn_lst ?_
  walk_at "v"
  refine ⟨by show 0 ≤ 1000; decide, fun q => ?_⟩
  show VSs X _ [.dat a, .dat (.list ps), .dat b, .own q (.l []), .no] _
  refine vss_cons (vs_for C (vi_lst ?_))
  walk_at "v"
  refine ⟨_, rfl, fun i ρ' => ∃ (a' : D) (acc : List D) (s : Sl), acc ++ cellsD a' (ps.drop i) b = cellsD a ps b ∧ acc.length = 2 * i ∧ ρ' = [.dat a', .dat (.list ps), .dat b, .own q (.l acc), s], ⟨a, [], _, rfl, rfl, rfl⟩, fun i x ρ' hi hW => ?_, fun ρ' hW => ?_⟩
  · obtain ⟨a', acc, s, he, hlen, rfl⟩ := hW
    have hi2 := (List.getElem?_eq_some_iff.mp hi).1
    have hd : ps.drop i = x :: ps.drop (i + 1) := by
      rw [List.drop_eq_getElem_cons hi2]
      congr 1
      exact (List.getElem?_eq_some_iff.mp hi).2
    rw [hd] at he
    walk_at "v"
    show VSs X _ [.dat a', .dat (.list ps), .dat b, .own q (.l acc), .dat x] _
    refine vss_cons (vs_append C (i := 3) (by walk_at "at") rfl ?_)
    walk_at "vv"
    refine ⟨by show 3 ≤ 1000; decide, ?_⟩
    refine ⟨acc, rfl, by omega, ?_⟩
    show VSs X _ [.dat a', .dat (.list ps), .dat b, .own q (.l (acc ++ [btD a' x])), .dat x] _
    refine vss_cons (vs_append C (i := 3) (by walk_at "at") rfl ?_)
    walk_at "vv"
    refine ⟨by show 2 ≤ 1000; decide, ?_⟩
    refine ⟨acc ++ [btD a' x], rfl, by rw [List.length_append]; show acc.length + 1 ≤ 100000; omega, ?_⟩
    show VSs X _ [.dat a', .dat (.list ps), .dat b, .own q (.l (acc ++ [btD a' x] ++ [atD x])), .dat x] _
    walk_at "vv"
    refine ⟨x, acc ++ [btD a' x] ++ [atD x], _, ?_, ?_, rfl⟩
    · rw [← he, List.append_assoc, List.append_assoc]
      rfl
    · rw [List.length_append, List.length_append, hlen]
      rfl
  · obtain ⟨a', acc, s, he, hlen, rfl⟩ := hW
    rw [List.drop_length] at he
    refine vss_cons (vs_append C (i := 3) (by walk_at "at") rfl ?_)
    walk_at "vv"
    refine ⟨by show 3 ≤ 1000; decide, ?_⟩
    refine ⟨acc, rfl, by omega, ?_⟩
    have he2 : acc ++ [btD a' b] = cellsD a ps b := he
    show VSs X _ [.dat a', .dat (.list ps), .dat b, .own q (.l (acc ++ [btD a' b])), s] _
    rw [he2]
    refine vss_frz (i := 3) rfl ?_
    walk_at "vv"
    exact w
abbrev e01 : D := .tuple [.int 0, .int 1]
abbrev e11 : D := .tuple [.int 1, .int 1]
def SCells : List D → (D → Prop) → Prop := fun ds W => ∃ qs : List (Int × Int × Int), ds = [.list (qs.map plD)] ∧ qs.length ≤ 29 ∧ (∀ q ∈ qs, PolyOk q) ∧ ∀ l, IsPlaces qs l → W (.list (cellsD e01 l e11))
theorem places_len {qs : List (Int × Int × Int)} (good : ∀ q ∈ qs, PolyOk q) : (lawPl qs).length ≤ 2 * qs.length := by
  have ins : ∀ (f : List D) (x : D), (insP f x).length ≤ f.length + 1 := fun f x => by
    unfold insP
    split
    · rw [List.length_append, List.length_append, List.length_take, List.length_drop]
      show min _ _ + 1 + _ ≤ _
      omega
    · omega
  have fol : ∀ (l f : List D), (l.foldl insP f).length ≤ f.length + l.length := fun l => by
    induction l with
    | nil => exact fun f => by show f.length ≤ f.length + 0; omega
    | cons x l ih =>
      intro f
      have := ih (insP f x)
      have := ins f x
      rw [List.length_cons, List.foldl_cons]
      omega
  have key : ∀ (qs : List (Int × Int × Int)) (f : List D), (∀ q ∈ qs, PolyOk q) → (qs.foldl (fun f q => (rtsQ q).foldl insP f) f).length ≤ f.length + 2 * qs.length := fun qs => by
    induction qs with
    | nil => exact fun f _ => by show f.length ≤ f.length + 2 * 0; omega
    | cons q qs ih =>
      intro f good
      have O := good q (by simp)
      have a := ih ((rtsQ q).foldl insP f) fun q' h => good q' (by simp [h])
      have b := fol (rtsQ q) f
      have c : (rtsQ q).length ≤ 2 := (rts_facts O.a O.b O.c O.w).1
      rw [List.length_cons, List.foldl_cons]
      omega
  have := key qs [] good
  show (qs.foldl (fun f q => (rtsQ q).foldl insP f) []).length ≤ _
  simpa using this
theorem fCellsOf {M : Md} {f : Addr} {fd : FuncData} (FB : FnD M 1 "cells_between" 3 SCB) (FC : FnD M 6 "places_of" 1 SPlaces)
    (F : Fun M.K "cells_of" "cells_of" sCellsOf f fd) (hm : M.mg "cells_of" = some (.ref f)) (b : L2.Binds M.K fd ["polys"] []) : FnD M 7 "cells_of" 1 SCells := by
  refine fnD_mk (k := 6) (NK := nkCellsOf) (G := gCellsOf) F scCellsOf hm b rfl (by decide +kernel) rfl (by decide) fun X C ds W hl hS => ?_
  obtain ⟨qs, rfl, hq, good, w⟩ := hS
  show VSs X _ [.dat (.list (qs.map plD))] _
  walk_at "v"
  walk_at "v"
  refine vd_call C FB (by walk_at "at") ?_
  walk_at "vv"
  refine ⟨by show 2 ≤ 1000; decide, ?_⟩
  walk_at "v"
  refine vd_call C FC (by walk_at "at") ?_
  walk_at "vv"
  refine ⟨rfl, qs, rfl, hq, good, fun l hl => ?_⟩
  walk_at "vv"
  refine ⟨by show 2 ≤ 1000; decide, ?_⟩
  walk_at "vv"
  have el := isPlaces_uniq hl (lawPl_is good) fun q => Iff.rfl
  have ln := places_len good
  rw [← el] at ln
  exact ⟨rfl, e01, e11, l, rfl, by omega, w l hl⟩
/-! ### what the cells are -/
def CellOk (c : D) : Prop := (∃ p, c = atD p ∧ PlaceN p ∧ innerB p = true) ∨ (∃ a b, c = btD a b ∧ PlaceN a ∧ PlaceN b ∧ EndL a ∧ EndR b ∧ f64 a < f64 b)
theorem inner_f64 {p : D} (P : PlaceN p) (h : innerB p = true) : f64 e01 < f64 p ∧ f64 p < f64 e11 := by
  rw [inner_ord P.g, Bool.and_eq_true] at h
  exact ⟨(ord64 pl01 P).mp (of_decide_eq_true h.1), (ord64 P pl11).mp (of_decide_eq_true h.2)⟩
theorem cells_ok : ∀ {l : List D} {a : D}, PlaceN a → EndL a → (∀ p ∈ l, PlaceN p ∧ innerB p = true) → (∀ p ∈ l, f64 a < f64 p) → Asc l → f64 a < f64 e11 → ∀ c ∈ cellsD a l e11, CellOk c
  | [], a, A, L, _, _, _, h, c, hc => by
    rw [List.mem_singleton.mp hc]
    exact .inr ⟨a, e11, rfl, A, pl11, L, .inl rfl, h⟩
  | p :: l, a, A, L, N, hlt, hA, h, c, hc => by
    have P := N p (by simp)
    unfold Asc at hA
    rw [List.pairwise_cons] at hA
    rcases List.mem_cons.mp hc with rfl | hc
    · exact .inr ⟨a, p, rfl, A, P.1, L, .inr P.2, hlt p (by simp)⟩
    rcases List.mem_cons.mp hc with rfl | hc
    · exact .inl ⟨p, rfl, P.1, P.2⟩
    · exact cells_ok P.1 (.inr P.2) (fun q hq => N q (by simp [hq])) hA.1 hA.2 (inner_f64 P.1 P.2).2 c hc
/-- what holds of a place that is told for a cell -/
structure Smp (c x : D) : Prop where
  g : PlaceG x
  asked : Asked x
  pl : placeB x = true
  inn : innerB x = true
  one : ∀ p, c = atD p → x = p ∧ PlaceN p
  two : ∀ a b, c = btD a b → ordN a x < 0 ∧ ordN x b < 0
theorem smp_at {p : D} (P : PlaceN p) (h : innerB p = true) : Smp (atD p) p := by
  obtain ⟨a, e⟩ := placeN_in P
  refine ⟨P.g, a, by rw [e]; exact h, h, fun q e => ?_, fun a b e => ?_⟩
  · injection e with e
    injection e with _ e
    injection e with e
    exact ⟨e, by rw [← e]; exact P⟩
  · injection e with e
    injection e with _ e
    injection e with _ e
    cases e
theorem smp_bt {a b : D} {kb : Nat} (A : PlaceN a) (B : PlaceN b) (L : EndL a) (R : EndR b) (hk : kb ≤ 64) (h : flT kb a + 2 ≤ flT kb b) : Smp (btD a b) (frq (flT kb a + 1) (2 ^ kb)) := by
  obtain ⟨m, e, k, mp, me, el, gg, o1, o2⟩ := smp A B L R hk h
  rw [k]
  refine ⟨.inl ⟨m, e, rfl, by omega, by omega, by omega, trivial⟩, .inr (.inr (.inr (.inl ⟨m, e, rfl⟩))), ?_, ?_, fun q e => ?_, fun a' b' e => ?_⟩
  · show (decide (0 < m) && (decide (m < e) && decide (Nat.gcd m.natAbs e.natAbs = 1))) = true
    rw [decide_eq_true mp, decide_eq_true me, decide_eq_true gg]
    rfl
  · show (decide (0 < m) && decide (m < e)) = true
    rw [decide_eq_true mp, decide_eq_true me]
    rfl
  · injection e with e
    injection e with _ e
    injection e with _ e
    cases e
  · injection e with e
    injection e with _ e
    injection e with e1 e
    injection e with e2 _
    rw [← e1, ← e2]
    exact ⟨o1, o2⟩


open PySem PySem.Spec PyProof.Rows L2 Vc
local macro_rules | `(tactic| walk_at "kk") => `(tactic| repeat (first | refine vd_int ?_ | refine vd_str ?_ | refine vd_bool ?_ | refine vd_none ?_ | refine vd_neg ?_ | refine vd_tup ?_ | refine va_nil ?_ | refine va_cons ?_ | refine vn_vd (vn_lst ?_) | refine ⟨(by first | decide | (show 1 ≤ 1000; decide) | (show 2 ≤ 1000; decide) | (show 3 ≤ 1000; decide)), ?_⟩ | refine ⟨_, rfl, ?_⟩))

/-! ### the law -/
theorem cell_lay {c : D} (h : CellOk c) : PyData.canLay0 c = true ∧ PyData.depth c ≤ 3 := by
  have la := SeqAt.canLay_of_shaped shAt
  have lb := SeqAt.canLay_of_shaped shBt
  have da : PyData.depth (.str "at") ≤ 3 := by simp [PyData.depth]
  rcases h with ⟨p, rfl, P, _⟩ | ⟨a, b, rfl, A, B, _⟩
  · have p1 := P.ok.lay
    refine ⟨by simp [PyData.canLay0, PyData.canLayAll0, p1.1] at la ⊢; exact la, ?_⟩
    simp [PyData.depth, PyData.depthAll]
    omega
  · have p1 := A.ok.lay
    have p2 := B.ok.lay
    refine ⟨by simp [PyData.canLay0, PyData.canLayAll0, p1.1, p2.1] at lb ⊢; exact lb, ?_⟩
    simp [PyData.depth, PyData.depthAll]
    omega
theorem cells_lay : ∀ {ds : List D}, (∀ x ∈ ds, CellOk x) → PyData.canLayAll0 ds = true ∧ PyData.depthAll ds ≤ 3
  | [], _ => ⟨rfl, Nat.zero_le _⟩
  | x :: xs, h => by
    have a := cell_lay (h x (by simp))
    have b := cells_lay (ds := xs) fun y hy => h y (by simp [hy])
    refine ⟨?_, ?_⟩
    · simp [PyData.canLayAll0, a.1, b.1]
    · have e : PyData.depthAll (x :: xs) = max x.depth (PyData.depthAll xs) := by simp [PyData.depthAll]
      rw [e]
      omega
theorem cells_ne {ds : List D} {K : Bool → Prop} (h : ∀ x ∈ ds, CellOk x) (k : K false) : cmpD .NotEq (.list ds) (.list ds) K := by
  have a := cells_lay h
  have e : PyData.depth (.list ds) = PyData.depthAll ds + 1 := by simp [PyData.depth]
  have e2 : PyData.canLay0 (.list ds) = PyData.canLayAll0 ds := by simp [PyData.canLay0]
  have s : SeqAt.shaped (.list ds) = true := by
    unfold SeqAt.shaped
    rw [e, e2, a.1, Bool.true_and]
    exact decide_eq_true (by omega)
  refine ⟨s, s, ?_⟩
  rw [SeqAt.eqv_refl _ (by rw [e2]; exact a.1)]
  exact k
theorem eq_nil {ds : List D} {K : Bool → Prop} (h : ∀ x ∈ ds, PlaceOk x) (k : K (decide (ds = []))) : cmpD .Eq (.list ds) (.list []) K := by
  refine ⟨shaped_list h, by decide +kernel, ?_⟩
  have e : PyData.eqv (.list ds) (.list []) = decide (ds = []) := by
    cases ds with
    | nil => decide +kernel
    | cons x xs => simp [PyData.eqv, PyData.eqvAll]
  rw [e]
  exact k
theorem ne_bools {p q : Bool} {K : Bool → Prop} (e : p = q) (k : K false) : cmpD .NotEq (.bool p) (.bool q) K := by
  subst e
  refine ⟨by cases p <;> decide +kernel, by cases p <;> decide +kernel, ?_⟩
  have : (!PyData.eqv (.bool p) (.bool p)) = false := by cases p <;> decide +kernel
  rw [this]
  exact k
/-- the roots that lie within a stretch -/
def insideR (a b : D) (l : List D) : List D := l.filter fun r => decide (ordN a r < 0) && decide (ordN r b < 0)
theorem inside_clear {a b : D} {l : List D} (A : PlaceN a) (B : PlaceN b) (N : ∀ r ∈ l, PlaceN r) : decide (insideR a b l = []) = true ↔ Clear l a b := by
  rw [decide_eq_true_iff]
  unfold insideR Clear
  rw [List.filter_eq_nil_iff]
  refine ⟨fun h r hr ⟨h1, h2⟩ => h r hr ?_, fun h r hr q => ?_⟩
  · rw [Bool.and_eq_true]
    exact ⟨decide_eq_true ((ord64 A (N r hr)).mpr h1), decide_eq_true ((ord64 (N r hr) B).mpr h2)⟩
  · rw [Bool.and_eq_true] at q
    exact h r hr ⟨(ord64 A (N r hr)).mp (of_decide_eq_true q.1), (ord64 (N r hr) B).mp (of_decide_eq_true q.2)⟩
theorem still_inside {q : Int × Int × Int} {a b : D} (O : PolyOk q) (A : PlaceN a) (B : PlaceN b) (h : f64 a < f64 b) :
    stillE (sgn q.2.2) (sonD q.1 q.2.1 q.2.2 a) (sonD q.1 q.2.1 q.2.2 b) (decide (dsc q.1 q.2.1 q.2.2 < 0)) (sonD q.2.1 (2 * q.2.2) 0 a) (sonD q.2.1 (2 * q.2.2) 0 b) = decide (insideR a b (rts q.1 q.2.1 q.2.2) = []) := by
  have k := still_ok O.a O.b O.c O.w A B h
  have j := inside_clear A B (l := rts q.1 q.2.1 q.2.2) (rts_N O.a O.b O.c O.w)
  exact Bool.eq_iff_iff.mpr (k.trans j.symm)
theorem fLaw {M : Md} {f : Addr} {fd : FuncData} (mr : M.mg "range" = none) (ml : M.mg "list" = none)
    (FP : FnM M 4 "_law_poly" 1 SPoly) (FX : FnM M 3 "_law_next" 1 SNext) (FR : FnD M 3 "_law_roots" 1 SLRoots) (FI : FnD M 5 "is_place" 1 SIsPlace) (FN : FnD M 5 "_law_in" 1 SLIn) (FL : FnD M 4 "_law_order" 2 SLOrder) (FD : FnD M 6 "_law_places" 1 SLPlaces)
    (FC : FnD M 7 "cells_of" 1 SCells) (FS : FnD M 3 "sample" 1 SSample) (FT : FnD M 4 "is_still" 2 SStill)
    (F : Fun M.K "law" "law" sLaw f fd) : FnOk M.prog M.w M.K M.mg M.base CX0 8 f fd ["script"] (DS M.K 1 (LawS 63)) := by
  refine fnOk_mk (k := 7) (NK := nkLaw) (G := gLaw) F scLaw rfl (by decide +kernel) rfl (by decide) fun X C ds W hl hS => ?_
  obtain ⟨ns, rfl, hns, w⟩ := hS
  show VSs X _ [.dat (.list (ns.map PyData.int)), .no, .no, .no, .no, .no, .no, .no, .no, .no, .no, .no] _
  refine vss_cons ?_
  refine vs_new C (i := 1) (by walk_at "at") (by show 1 < 12; decide) ?_
  refine vn_lst ?_
  refine va_cons ?_
  refine vn_vd ?_
  refine vn_take (n := 63) ?_
  walk_at "v"
  refine ⟨_, rfl, ?_⟩
  walk_at "vv"
  refine ⟨by show 3 ≤ 1000; decide, fun p => ?_⟩
  rw [← List.map_take]
  generalize hms : ns.take 63 = ms
  show VSs X _ [.dat (.list (ns.map PyData.int)), .own p (drw ms 0), .no, .no, .no, .no, .no, .no, .no, .no, .no, .no] _
  -- the polynomials
  refine vss_cons ?_
  refine vs_setLc C nkLaw0 gLaw0 (i := 10) (m := 2) (by walk_at "at") (by walk_at "at") ?_
  refine vi_range C (by walk_at "at") ?_
  refine vd_callO C FX (m := 1) (by walk_at "at") (by walk_at "at") rfl ?_
  walk_at "vv"
  refine ⟨rfl, _, rfl, ms, 0, 6, rfl, rfl, by decide, by decide, fun r r0 r1 => ?_⟩
  obtain ⟨n, rfl⟩ := Int.eq_ofNat_of_zero_le r0
  have hn6 : n < 6 := by
    have : (n : Int) < 6 := r1
    omega
  refine ⟨n, rfl, by omega, ?_⟩
  refine ⟨by rw [List.length_map, List.length_range]; omega, fun j acc ρ' => ∃ (qs : List (Int × Int × Int)) (c : Nat) (s : Sl), acc = qs.map plD ∧ qs.length = j ∧ (∀ q ∈ qs, PolyOk q) ∧ c ≤ 1 + 8 * j ∧ ρ' = [.dat (.list (ns.map PyData.int)), .own p (drw ms c), .no, .no, .no, .no, .no, .no, .no, .no, s, .no], ⟨[], 1, _, rfl, rfl, (fun _ h => (nomatch h)), by omega, rfl⟩, fun j d acc ρ' hj hW X' C' => ?_, fun acc ρ' hW => ?_⟩
  · obtain ⟨qs, c, s, rfl, hqs, hgood, hc, rfl⟩ := hW
    have hj5 : j < n := by
      have := (List.getElem?_eq_some_iff.mp hj).1
      rw [List.length_map, List.length_range] at this
      exact this
    refine vd_callO C' FP (m := 1) (by walk_at "at") (by walk_at "at") rfl ?_
    walk_at "vv"
    refine ⟨rfl, _, rfl, ms, c, rfl, ⟨12, rfl, by decide, by decide⟩, by omega, fun c' a b e hc' ha hb he hw => ?_⟩
    refine ⟨qs ++ [(a, b, e)], c', _, by rw [List.map_append]; rfl, by rw [List.length_append, hqs]; rfl, fun g hg => ?_, by omega, rfl⟩
    rcases List.mem_append.mp hg with z | z
    · exact hgood g z
    · rw [List.mem_singleton.mp z]
      exact ⟨ha, hb, he, hw⟩
  obtain ⟨qs, c1, s10, rfl, hqs, hgood, hc1, rfl⟩ := hW
  rw [List.length_map, List.length_range] at hqs hc1
  show VSs X _ [.dat (.list (ns.map PyData.int)), .own p (drw ms c1), .dat (.list (qs.map plD)), .no, .no, .no, .no, .no, .no, .no, s10, .no] _
  -- the others
  refine vss_cons ?_
  refine vs_set C (i := 3) (by walk_at "at") ?_
  refine vn_vd (vn_cat ?_)
  refine vn_vd (vn_lc C nkLaw1 gLaw1 (i := 10) (by walk_at "at") ?_)
  refine vi_range C (by walk_at "at") ?_
  walk_at "v"
  refine ⟨4, rfl, by decide, by decide, fun j acc ρ' => ∃ (os : List (Int × Int × Int)) (c : Nat) (s : Sl), acc = os.map plD ∧ os.length = j ∧ (∀ q ∈ os, PolyOk q) ∧ c ≤ 41 + 8 * j ∧ ρ' = [.dat (.list (ns.map PyData.int)), .own p (drw ms c), .dat (.list (qs.map plD)), .no, .no, .no, .no, .no, .no, .no, s, .no], ⟨[], c1, _, rfl, rfl, (fun _ h => (nomatch h)), by omega, rfl⟩, fun j d acc ρ' hj hW X' C' => ?_, fun acc ρ' hW => ?_⟩
  · obtain ⟨os, c, s, rfl, hos, og, hc, rfl⟩ := hW
    have hj5 : j < 4 := by
      have := (List.getElem?_eq_some_iff.mp hj).1
      rw [List.length_map, List.length_range] at this
      exact this
    refine vd_callO C' FP (m := 1) (by walk_at "at") (by walk_at "at") rfl ?_
    walk_at "vv"
    refine ⟨rfl, _, rfl, ms, c, rfl, ⟨12, rfl, by decide, by decide⟩, by omega, fun c' a b e hc' ha hb he hw => ?_⟩
    refine ⟨os ++ [(a, b, e)], c', _, by rw [List.map_append]; rfl, by rw [List.length_append, hos]; rfl, fun g hg => ?_, by omega, rfl⟩
    rcases List.mem_append.mp hg with z | z
    · exact og g z
    · rw [List.mem_singleton.mp z]
      exact ⟨ha, hb, he, hw⟩
  obtain ⟨os, c2, s10', rfl, hos, og, hc2, rfl⟩ := hW
  rw [List.length_map, List.length_range] at hos hc2
  refine vn_vd (vn_lst ?_)
  walk_at "kk"
  refine ⟨os.map plD, [plD (0, 0, 0), plD (1, 0, 0)], rfl, rfl, by rw [List.length_map, hos]; decide, ?_⟩
  obtain ⟨ps, hps, eps⟩ : ∃ ps : List (Int × Int × Int), ps = os ++ [(0, 0, 0), (1, 0, 0)] ∧ os.map plD ++ [plD (0, 0, 0), plD (1, 0, 0)] = ps.map plD := ⟨_, rfl, by rw [List.map_append]; rfl⟩
  rw [eps]
  have pg : ∀ q ∈ ps, PolyOk q := fun q hq => by
    rw [hps] at hq
    rcases List.mem_append.mp hq with z | z
    · exact og q z
    · rcases List.mem_cons.mp z with rfl | z
      · exact ⟨by decide, by decide, by decide, .inr ⟨rfl, rfl, rfl⟩⟩
      · rw [List.mem_singleton.mp z]
        exact ⟨by decide, by decide, by decide, .inl (by decide)⟩
  have pl6 : ps.length = 6 := by rw [hps, List.length_append, hos]; rfl
  show VSs X _ [.dat (.list (ns.map PyData.int)), .own p (drw ms c2), .dat (.list (qs.map plD)), .dat (.list (ps.map plD)), .no, .no, .no, .no, .no, .no, s10', .no] _
  -- the cells that are due
  have L := lawPl_is hgood
  have LN : ∀ y ∈ lawPl qs, PlaceN y ∧ innerB y = true := fun y hy => by
    obtain ⟨q, hq, h, hi⟩ := (L.2 y).mp hy
    have O := hgood q hq
    exact ⟨rts_N O.a O.b O.c O.w y h, hi⟩
  have ln := places_len hgood
  refine vss_cons (vs_parN C (i := 4) (j := 5) (by walk_at "at") (by walk_at "at") (by decide) (by show 4 < 12; decide) ?_ (by walk_at "sw"))
  refine vn_lst ?_
  walk_at "v"
  refine ⟨by show 0 ≤ 1000; decide, ?_⟩
  walk_at "kk"
  intro q
  show VSs X _ [.dat (.list (ns.map PyData.int)), .own p (drw ms c2), .dat (.list (qs.map plD)), .dat (.list (ps.map plD)), .own q (.l []), .dat e01, .no, .no, .no, .no, s10', .no] _
  refine vss_cons (vs_for C (vi_lst ?_))
  refine vd_call C FD (by walk_at "at") ?_
  walk_at "vv"
  refine ⟨rfl, qs, rfl, by omega, hgood, ?_⟩
  generalize hpl : lawPl qs = pl at *
  refine ⟨_, rfl, fun i ρ' => ∃ (a' : D) (q : Addr) (acc : List D) (s6 : Sl), acc ++ cellsD a' (pl.drop i) e11 = cellsD e01 pl e11 ∧ acc.length = 2 * i ∧ ρ' = [.dat (.list (ns.map PyData.int)), .own p (drw ms c2), .dat (.list (qs.map plD)), .dat (.list (ps.map plD)), .own q (.l acc), .dat a', s6, .no, .no, .no, s10', .no], ⟨e01, q, [], _, rfl, rfl, rfl⟩, fun i x ρ' hi hW => ?_, fun ρ' hW => ?_⟩
  · obtain ⟨a', q, acc, s6, he, hlen, rfl⟩ := hW
    have hi2 := (List.getElem?_eq_some_iff.mp hi).1
    have hd : pl.drop i = x :: pl.drop (i + 1) := by
      rw [List.drop_eq_getElem_cons hi2]
      congr 1
      exact (List.getElem?_eq_some_iff.mp hi).2
    rw [hd] at he
    walk_at "v"
    show VSs X _ [.dat (.list (ns.map PyData.int)), .own p (drw ms c2), .dat (.list (qs.map plD)), .dat (.list (ps.map plD)), .own q (.l acc), .dat a', .dat x, .no, .no, .no, s10', .no] _
    refine vss_cons ?_
    refine vs_new C (i := 4) (by walk_at "at") (by show 4 < 12; decide) ?_
    refine vn_catO C (i := 4) (by walk_at "at") rfl ?_
    refine vn_vd (vn_lst ?_)
    walk_at "vv"
    refine ⟨by show 3 ≤ 1000; decide, ?_⟩
    walk_at "vv"
    refine ⟨by show 2 ≤ 1000; decide, ?_⟩
    walk_at "vv"
    refine ⟨by show 2 ≤ 1000; decide, ?_⟩
    refine ⟨acc, [btD a' x, atD x], rfl, rfl, by show acc.length + 2 ≤ 100000; omega, fun z => ?_⟩
    show VSs X _ [.dat (.list (ns.map PyData.int)), .own p (drw ms c2), .dat (.list (qs.map plD)), .dat (.list (ps.map plD)), .own z (.l (acc ++ [btD a' x, atD x])), .dat a', .dat x, .no, .no, .no, s10', .no] _
    walk_at "vv"
    refine ⟨x, z, _, _, ?_, ?_, rfl⟩
    · rw [← he, List.append_assoc]
      rfl
    · rw [List.length_append, hlen]
      rfl
  obtain ⟨a', q, acc, s6, he, hlen, rfl⟩ := hW
  rw [List.drop_length] at he
  have he2 : acc ++ [btD a' e11] = cellsD e01 pl e11 := he
  refine vss_cons (vs_append C (i := 4) (by walk_at "at") rfl ?_)
  walk_at "vv"
  refine ⟨by show 2 ≤ 1000; decide, ?_⟩
  walk_at "vv"
  refine ⟨by show 3 ≤ 1000; decide, ?_⟩
  refine ⟨acc, rfl, by omega, ?_⟩
  show VSs X _ [.dat (.list (ns.map PyData.int)), .own p (drw ms c2), .dat (.list (qs.map plD)), .dat (.list (ps.map plD)), .own q (.l (acc ++ [btD a' e11])), .dat a', s6, .no, .no, .no, s10', .no] _
  rw [he2]
  refine vss_frz (i := 4) rfl ?_
  have CO : ∀ c ∈ cellsD e01 pl e11, CellOk c := cells_ok pl01 (.inl rfl) LN (fun r hr => (inner_f64 (LN r hr).1 (LN r hr).2).1) L.1 (by decide +kernel)
  generalize hcl : cellsD e01 pl e11 = cl at *
  show VSs X _ [.dat (.list (ns.map PyData.int)), .own p (drw ms c2), .dat (.list (qs.map plD)), .dat (.list (ps.map plD)), .dat (.list cl), .dat a', s6, .no, .no, .no, s10', .no] _
  refine vss_cons (vs_if (vt_cmp C ?_))
  refine vn_vd (vn_list C (by walk_at "at") ?_)
  refine vd_call C FC (by walk_at "at") ?_
  walk_at "vv"
  refine ⟨rfl, qs, rfl, by omega, hgood, fun l hl => ?_⟩
  have el := isPlaces_uniq hl (lawPl_is hgood) fun q => Iff.rfl
  rw [el, hpl, hcl]
  refine ⟨_, rfl, ?_⟩
  walk_at "vv"
  refine cells_ne CO ?_
  refine ⟨fun h => absurd h (by decide), fun _ => ?_⟩
  refine vss_nil ?_
  -- each cell
  refine vss_cons (vs_for C (vi_lst ?_))
  walk_at "v"
  refine ⟨_, rfl, fun _ ρ' => ∃ (s6 s7 s8 s9 : Sl), ρ' = [.dat (.list (ns.map PyData.int)), .own p (drw ms c2), .dat (.list (qs.map plD)), .dat (.list (ps.map plD)), .dat (.list cl), .dat a', s6, s7, s8, s9, s10', .no], ⟨_, _, _, _, rfl⟩, fun i c ρ' hi hW => ?_, fun ρ' hW => ?_⟩
  · obtain ⟨s6, s7, s8, s9, rfl⟩ := hW
    have Cc := CO c (List.mem_of_getElem? hi)
    walk_at "v"
    show VSs X _ [.dat (.list (ns.map PyData.int)), .own p (drw ms c2), .dat (.list (qs.map plD)), .dat (.list (ps.map plD)), .dat (.list cl), .dat a', s6, .dat c, s8, s9, s10', .no] _
    walk_at "v"
    walk_at "v"
    refine vd_call C FS (by walk_at "at") ?_
    walk_at "vv"
    rcases Cc with ⟨r, rfl, P, hin⟩ | ⟨a, b, rfl, A, B, EL, ER, hab⟩
    · refine ⟨rfl, .inl ⟨r, rfl, ?_⟩⟩
      have S := smp_at P hin
      show VSs X _ [.dat (.list (ns.map PyData.int)), .own p (drw ms c2), .dat (.list (qs.map plD)), .dat (.list (ps.map plD)), .dat (.list cl), .dat a', .dat r, .dat (atD r), s8, s9, s10', .no] _
      refine vss_cons (vs_if (vt_w (vw_or (vt_not (vt_val ?_)))))
      refine vd_call C FI (by walk_at "at") ?_
      walk_at "vv"
      refine ⟨rfl, r, rfl, S.asked, ?_⟩
      rw [S.pl]
      refine ⟨true, rfl, ?_⟩
      refine ⟨fun h => absurd h (by decide), fun _ => ?_⟩
      refine vw_or1 (vt_not (vt_val ?_))
      refine vd_call C FN (by walk_at "at") ?_
      walk_at "vv"
      refine ⟨rfl, r, rfl, S.g, ?_⟩
      rw [S.inn]
      refine ⟨true, rfl, ?_⟩
      refine ⟨fun h => absurd h (by decide), fun _ => ?_⟩
      refine vss_nil ?_
      refine vss_cons (vs_if (vt_w (vw_and ?_)))
      walk_at "vv"
      refine ⟨_, rfl, ?_⟩
      walk_at "vv"
      refine ⟨shAt, shAt, ?_⟩
      refine ⟨fun _ => ?_, fun h => absurd (h : PyData.eqv (.str "at") (.str "at") = false) (by rw [eqAt]; decide)⟩
      refine vw_and1 ?_
      walk_at "v"
      refine vd_call C FL (by walk_at "at") ?_
      walk_at "vv"
      refine ⟨_, rfl, ?_⟩
      walk_at "vv"
      refine ⟨rfl, r, r, rfl, P.g, P.g, ?_⟩
      walk_at "vv"
      have o0 : ordN r r = 0 := ordN_same P.g P.g (SeqAt.eqv_refl _ P.ok.lay.1)
      refine ⟨fun h => absurd (h : (!decide (ordN r r = 0)) = true) (by rw [o0]; decide), fun _ => ?_⟩
      refine vss_nil ?_
      refine vss_cons (vs_if (vt_w (vw_and ?_)))
      walk_at "vv"
      refine ⟨_, rfl, ?_⟩
      walk_at "vv"
      refine ⟨shAt, shBt, ?_⟩
      have neBt : PyData.eqv (.str "at") (.str "between") = false := by decide +kernel
      refine ⟨fun h => absurd (h : PyData.eqv (.str "at") (.str "between") = true) (by rw [neBt]; decide), fun _ => ?_⟩
      refine ⟨fun h => absurd h (by decide), fun _ => ?_⟩
      refine vss_nil ?_
      refine vss_one (vs_for C (vi_lst ?_))
      refine vn_vd (vn_cat ?_)
      walk_at "vv"
      refine ⟨_, _, rfl, rfl, by rw [List.length_map, List.length_map]; omega, ?_⟩
      rw [← List.map_append]
      refine ⟨_, rfl, fun _ ρ' => ∃ (s8 s9 : Sl), ρ' = [.dat (.list (ns.map PyData.int)), .own p (drw ms c2), .dat (.list (qs.map plD)), .dat (.list (ps.map plD)), .dat (.list cl), .dat a', .dat r, .dat (atD r), s8, s9, s10', .no], ⟨_, _, rfl⟩, fun j d ρ' hj hW => ?_, fun ρ' hW => ?_⟩
      · obtain ⟨s8, s9, rfl⟩ := hW
        obtain ⟨g, hg, rfl⟩ : ∃ g, g ∈ qs ++ ps ∧ d = plD g := by
          rw [List.getElem?_map] at hj
          cases hx : (qs ++ ps)[j]? with
          | none => rw [hx] at hj; cases hj
          | some g =>
            rw [hx] at hj
            exact ⟨g, List.mem_of_getElem? hx, (Option.some.inj hj).symm⟩
        have O : PolyOk g := (List.mem_append.mp hg).elim (hgood g) (pg g)
        have rl := (rts_facts O.a O.b O.c O.w).1
        walk_at "v"
        show VSs X _ [.dat (.list (ns.map PyData.int)), .own p (drw ms c2), .dat (.list (qs.map plD)), .dat (.list (ps.map plD)), .dat (.list cl), .dat a', .dat r, .dat (atD r), .dat (plD g), s9, s10', .no] _
        refine vss_cons (vs_setLcIf C nkLaw2 gLaw2 (i := 11) (m := 9) (by walk_at "at") (by walk_at "at") ?_)
        refine vi_lst ?_
        refine vd_call C FR (by walk_at "at") ?_
        walk_at "vv"
        refine ⟨rfl, g.1, g.2.1, g.2.2, rfl, O.a.sm, O.b.sm, O.c.sm, O.w, ?_⟩
        refine ⟨_, rfl, by omega, fun l acc ρ' => acc = [] ∧ ρ' = [.dat (.list (ns.map PyData.int)), .own p (drw ms c2), .dat (.list (qs.map plD)), .dat (.list (ps.map plD)), .dat (.list cl), .dat a', .dat r, .dat (atD r), .dat (plD g), s9, s10', .no], ⟨rfl, rfl⟩, fun l o acc ρ' hl hW X' C' => ?_, fun acc ρ' hW => ?_⟩
        · obtain ⟨rfl, rfl⟩ := hW
          refine vt_w (vw_and ?_)
          walk_at "vv"
          refine ⟨_, rfl, ?_⟩
          walk_at "vv"
          refine ⟨shAt, shBt, ?_⟩
          refine ⟨fun h => absurd (h : PyData.eqv (.str "at") (.str "between") = true) (by rw [neBt]; decide), fun _ => ?_⟩
          exact ⟨fun h => absurd h (by decide), fun _ => ⟨rfl, rfl⟩⟩
        · obtain ⟨rfl, rfl⟩ := hW
          show VSs X _ [.dat (.list (ns.map PyData.int)), .own p (drw ms c2), .dat (.list (qs.map plD)), .dat (.list (ps.map plD)), .dat (.list cl), .dat a', .dat r, .dat (atD r), .dat (plD g), .dat (.list []), s10', .no] _
          refine vss_one (vs_if (vt_cmp C ?_))
          refine vd_call C FT (by walk_at "at") ?_
          walk_at "vv"
          refine ⟨rfl, g.1, g.2.1, g.2.2, atD r, rfl, O.a, O.b, O.c, .inl ⟨r, rfl, ?_⟩⟩
          walk_at "v"
          walk_at "v"
          refine vn_vd (vn_lst ?_)
          walk_at "v"
          refine ⟨by show 0 ≤ 1000; decide, ?_⟩
          refine eq_nil (fun _ h => (nomatch h)) ?_
          refine ne_bools (by decide) ?_
          refine ⟨fun h => absurd h (by decide), fun _ => ?_⟩
          refine vss_nil ?_
          exact ⟨_, _, rfl⟩
      · obtain ⟨s8, s9, rfl⟩ := hW
        exact ⟨_, _, _, _, rfl⟩
    · refine ⟨rfl, .inr ⟨a, b, rfl, A, B, sep2 A B hab, fun kb hk h2 => ?_⟩⟩
      have S := smp_bt A B EL ER hk h2
      generalize frq (flT kb a + 1) (2 ^ kb) = x at *
      obtain ⟨o1, o2⟩ := S.two a b rfl
      show VSs X _ [.dat (.list (ns.map PyData.int)), .own p (drw ms c2), .dat (.list (qs.map plD)), .dat (.list (ps.map plD)), .dat (.list cl), .dat a', .dat x, .dat (btD a b), s8, s9, s10', .no] _
      refine vss_cons (vs_if (vt_w (vw_or (vt_not (vt_val ?_)))))
      refine vd_call C FI (by walk_at "at") ?_
      walk_at "vv"
      refine ⟨rfl, x, rfl, S.asked, ?_⟩
      rw [S.pl]
      refine ⟨true, rfl, ?_⟩
      refine ⟨fun h => absurd h (by decide), fun _ => ?_⟩
      refine vw_or1 (vt_not (vt_val ?_))
      refine vd_call C FN (by walk_at "at") ?_
      walk_at "vv"
      refine ⟨rfl, x, rfl, S.g, ?_⟩
      rw [S.inn]
      refine ⟨true, rfl, ?_⟩
      refine ⟨fun h => absurd h (by decide), fun _ => ?_⟩
      refine vss_nil ?_
      refine vss_cons (vs_if (vt_w (vw_and ?_)))
      walk_at "vv"
      refine ⟨_, rfl, ?_⟩
      walk_at "vv"
      refine ⟨shBt, shAt, ?_⟩
      refine ⟨fun h => absurd (h : PyData.eqv (.str "between") (.str "at") = true) (by rw [neAt]; decide), fun _ => ?_⟩
      refine ⟨fun h => absurd h (by decide), fun _ => ?_⟩
      refine vss_nil ?_
      have eqBt : PyData.eqv (.str "between") (.str "between") = true := by decide +kernel
      refine vss_cons (vs_if (vt_w (vw_and ?_)))
      walk_at "vv"
      refine ⟨_, rfl, ?_⟩
      walk_at "vv"
      refine ⟨shBt, shBt, ?_⟩
      refine ⟨fun _ => ?_, fun h => absurd (h : PyData.eqv (.str "between") (.str "between") = false) (by rw [eqBt]; decide)⟩
      refine vw_and1 (vt_w (vw_or ?_))
      walk_at "v"
      refine vd_call C FL (by walk_at "at") ?_
      walk_at "vv"
      refine ⟨_, rfl, ?_⟩
      walk_at "vv"
      refine ⟨rfl, a, x, rfl, A.g, S.g, ?_⟩
      walk_at "vv"
      refine ⟨fun h => absurd (of_decide_eq_true h) (by omega), fun _ => ?_⟩
      refine vw_or1 ?_
      walk_at "v"
      refine vd_call C FL (by walk_at "at") ?_
      walk_at "vv"
      refine ⟨_, rfl, ?_⟩
      walk_at "vv"
      refine ⟨rfl, x, b, rfl, S.g, B.g, ?_⟩
      walk_at "vv"
      refine ⟨fun h => absurd (of_decide_eq_true h) (by omega), fun _ => ?_⟩
      refine vss_nil ?_
      refine vss_one (vs_for C (vi_lst ?_))
      refine vn_vd (vn_cat ?_)
      walk_at "vv"
      refine ⟨_, _, rfl, rfl, by rw [List.length_map, List.length_map]; omega, ?_⟩
      rw [← List.map_append]
      refine ⟨_, rfl, fun _ ρ' => ∃ (s8 s9 : Sl), ρ' = [.dat (.list (ns.map PyData.int)), .own p (drw ms c2), .dat (.list (qs.map plD)), .dat (.list (ps.map plD)), .dat (.list cl), .dat a', .dat x, .dat (btD a b), s8, s9, s10', .no], ⟨_, _, rfl⟩, fun j d ρ' hj hW => ?_, fun ρ' hW => ?_⟩
      · obtain ⟨s8, s9, rfl⟩ := hW
        obtain ⟨g, hg, rfl⟩ : ∃ g, g ∈ qs ++ ps ∧ d = plD g := by
          rw [List.getElem?_map] at hj
          cases hx : (qs ++ ps)[j]? with
          | none => rw [hx] at hj; cases hj
          | some g =>
            rw [hx] at hj
            exact ⟨g, List.mem_of_getElem? hx, (Option.some.inj hj).symm⟩
        have O : PolyOk g := (List.mem_append.mp hg).elim (hgood g) (pg g)
        have rl := (rts_facts O.a O.b O.c O.w).1
        have rN := rts_N O.a O.b O.c O.w
        walk_at "v"
        show VSs X _ [.dat (.list (ns.map PyData.int)), .own p (drw ms c2), .dat (.list (qs.map plD)), .dat (.list (ps.map plD)), .dat (.list cl), .dat a', .dat x, .dat (btD a b), .dat (plD g), s9, s10', .no] _
        refine vss_cons (vs_setLcIf C nkLaw2 gLaw2 (i := 11) (m := 9) (by walk_at "at") (by walk_at "at") ?_)
        refine vi_lst ?_
        refine vd_call C FR (by walk_at "at") ?_
        walk_at "vv"
        refine ⟨rfl, g.1, g.2.1, g.2.2, rfl, O.a.sm, O.b.sm, O.c.sm, O.w, ?_⟩
        refine ⟨_, rfl, by omega, fun l acc ρ' => acc = insideR a b ((rts g.1 g.2.1 g.2.2).take l) ∧ ρ' = [.dat (.list (ns.map PyData.int)), .own p (drw ms c2), .dat (.list (qs.map plD)), .dat (.list (ps.map plD)), .dat (.list cl), .dat a', .dat x, .dat (btD a b), .dat (plD g), s9, s10', .no], ⟨rfl, rfl⟩, fun l o acc ρ' hl hW X' C' => ?_, fun acc ρ' hW => ?_⟩
        · obtain ⟨rfl, rfl⟩ := hW
          have Po := rN o (List.mem_of_getElem? hl)
          have ef : insideR a b ((rts g.1 g.2.1 g.2.2).take (l + 1)) = insideR a b ((rts g.1 g.2.1 g.2.2).take l) ++ (if (decide (ordN a o < 0) && decide (ordN o b < 0)) = true then [o] else []) := by
            unfold insideR
            rw [List.take_succ, hl, List.filter_append]
            congr 1
            show List.filter _ [o] = _
            rw [List.filter_cons]
            rfl
          refine vt_w (vw_and ?_)
          walk_at "vv"
          refine ⟨_, rfl, ?_⟩
          walk_at "vv"
          refine ⟨shBt, shBt, ?_⟩
          refine ⟨fun _ => ?_, fun h => absurd (h : PyData.eqv (.str "between") (.str "between") = false) (by rw [eqBt]; decide)⟩
          refine vw_and ?_
          walk_at "v"
          refine vd_call C' FL (by walk_at "at") ?_
          walk_at "vv"
          refine ⟨_, rfl, ?_⟩
          walk_at "vv"
          refine ⟨rfl, a, o, rfl, A.g, Po.g, ?_⟩
          walk_at "vv"
          refine ⟨fun h1 => ?_, fun h1 => ?_⟩
          · refine vw_and1 ?_
            walk_at "v"
            refine vd_call C' FL (by walk_at "at") ?_
            walk_at "vv"
            refine ⟨_, rfl, ?_⟩
            walk_at "vv"
            refine ⟨rfl, o, b, rfl, Po.g, B.g, ?_⟩
            walk_at "vv"
            refine ⟨fun h2 X'' C'' => ?_, fun h2 => ?_⟩
            · walk_at "vv"
              exact ⟨by rw [ef, h1, h2]; rfl, rfl⟩
            · exact ⟨by rw [ef, h1, h2, if_neg (by decide), List.append_nil], rfl⟩
          · refine ⟨fun h => absurd h (by decide), fun _ => ?_⟩
            exact ⟨by rw [ef, h1, Bool.false_and, if_neg (by decide), List.append_nil], rfl⟩
        · obtain ⟨rfl, rfl⟩ := hW
          rw [List.take_length]
          show VSs X _ [.dat (.list (ns.map PyData.int)), .own p (drw ms c2), .dat (.list (qs.map plD)), .dat (.list (ps.map plD)), .dat (.list cl), .dat a', .dat x, .dat (btD a b), .dat (plD g), .dat (.list (insideR a b (rts g.1 g.2.1 g.2.2))), s10', .no] _
          refine vss_one (vs_if (vt_cmp C ?_))
          refine vd_call C FT (by walk_at "at") ?_
          walk_at "vv"
          refine ⟨rfl, g.1, g.2.1, g.2.2, btD a b, rfl, O.a, O.b, O.c, .inr ⟨a, b, rfl, A, B, ?_⟩⟩
          walk_at "v"
          walk_at "v"
          refine vn_vd (vn_lst ?_)
          walk_at "v"
          refine ⟨by show 0 ≤ 1000; decide, ?_⟩
          refine eq_nil (fun r hr => (rN r ((List.mem_filter.mp hr).1)).ok) ?_
          refine ne_bools (still_inside O A B hab) ?_
          refine ⟨fun h => absurd h (by decide), fun _ => ?_⟩
          refine vss_nil ?_
          exact ⟨_, _, rfl⟩
      · obtain ⟨s8, s9, rfl⟩ := hW
        exact ⟨_, _, _, _, rfl⟩
  · obtain ⟨s6, s7, s8, s9, rfl⟩ := hW
    walk_at "vv"
    exact w


open PySem PySem.Spec PyProof.Rows L2 Vc
/-! ### what the top has written; the law's own head -/
theorem all_mk {l : PySem.W.OpenLaw} {w : World} {K : PySem.W.Frag} {h : Heap} {mg : Str → Option Value} {fa f0 f1 f2 f3 f4 f5 f6 f7 f8 f9 f10 f11 f12 f13 f14 f15 f16 f17 f18 f19 f20 f21 f22 f23 f24 f25 f26 f27 f28 f29 f30 f31 f32 f33 f34 f35 f36 : Addr} (X : K.In h) (G : h.Ns mainGlobals mg) (hfa : mg "law" = some (.ref fa))
    {od0 an0 od1 an1 od2 an2 od3 an3 od4 an4 od5 an5 od6 an6 od7 an7 od8 an8 od9 an9 od10 an10 od11 an11 od12 an12 od13 an13 od14 an14 od15 an15 od16 an16 od17 an17 od18 an18 od19 an19 od20 an20 od21 an21 od22 an22 od23 an23 od24 an24 od25 an25 od26 an26 od27 an27 od28 an28 od29 an29 od30 an30 od31 an31 od32 an32 od33 an33 od34 an34 od35 an35 od36 an36 : Option Addr} {sl0 sl1 sl2 sl3 sl4 sl5 sl6 sl7 sl8 sl9 sl10 sl11 sl12 sl13 sl14 sl15 sl16 sl17 sl18 sl19 sl20 sl21 sl22 sl23 sl24 sl25 sl26 sl27 sl28 sl29 sl30 sl31 sl32 sl33 sl34 sl35 sl36 : Array (Option Value)} {oc0 kV0 dc0 pm0 cd0 ct0 oc1 kV1 dc1 pm1 cd1 ct1 oc2 kV2 dc2 pm2 cd2 ct2 oc3 kV3 dc3 pm3 cd3 ct3 oc4 kV4 dc4 pm4 cd4 ct4 oc5 kV5 dc5 pm5 cd5 ct5 oc6 kV6 dc6 pm6 cd6 ct6 oc7 kV7 dc7 pm7 cd7 ct7 oc8 kV8 dc8 pm8 cd8 ct8 oc9 kV9 dc9 pm9 cd9 ct9 oc10 kV10 dc10 pm10 cd10 ct10 oc11 kV11 dc11 pm11 cd11 ct11 oc12 kV12 dc12 pm12 cd12 ct12 oc13 kV13 dc13 pm13 cd13 ct13 oc14 kV14 dc14 pm14 cd14 ct14 oc15 kV15 dc15 pm15 cd15 ct15 oc16 kV16 dc16 pm16 cd16 ct16 oc17 kV17 dc17 pm17 cd17 ct17 oc18 kV18 dc18 pm18 cd18 ct18 oc19 kV19 dc19 pm19 cd19 ct19 oc20 kV20 dc20 pm20 cd20 ct20 oc21 kV21 dc21 pm21 cd21 ct21 oc22 kV22 dc22 pm22 cd22 ct22 oc23 kV23 dc23 pm23 cd23 ct23 oc24 kV24 dc24 pm24 cd24 ct24 oc25 kV25 dc25 pm25 cd25 ct25 oc26 kV26 dc26 pm26 cd26 ct26 oc27 kV27 dc27 pm27 cd27 ct27 oc28 kV28 dc28 pm28 cd28 ct28 oc29 kV29 dc29 pm29 cd29 ct29 oc30 kV30 dc30 pm30 cd30 ct30 oc31 kV31 dc31 pm31 cd31 ct31 oc32 kV32 dc32 pm32 cd32 ct32 oc33 kV33 dc33 pm33 cd33 ct33 oc34 kV34 dc34 pm34 cd34 ct34 oc35 kV35 dc35 pm35 cd35 ct35 oc36 kV36 dc36 pm36 cd36 ct36 : Value}
    (a0 : PySem.W.nsIn K mainGlobals "sign_of" = some (some (.ref f0))) (l0 : K.lookup f0 = some ⟨oc0, od0, .func (PySem.W.fnOf "sign_of" "sign_of" (defArgs sSignOf) (defBody sSignOf) (defScope sSignOf) .none kV0 dc0 pm0 an0 cd0 ct0), sl0⟩) (c0 : PySem.W.codeIn K cd0 "sign_of" = true) (k0 : PySem.W.keepIn K (.ref f0) = true)
    (a1 : PySem.W.nsIn K mainGlobals "fraction" = some (some (.ref f1))) (l1 : K.lookup f1 = some ⟨oc1, od1, .func (PySem.W.fnOf "fraction" "fraction" (defArgs sFraction) (defBody sFraction) (defScope sFraction) .none kV1 dc1 pm1 an1 cd1 ct1), sl1⟩) (c1 : PySem.W.codeIn K cd1 "fraction" = true) (k1 : PySem.W.keepIn K (.ref f1) = true)
    (a2 : PySem.W.nsIn K mainGlobals "undivided" = some (some (.ref f2))) (l2 : K.lookup f2 = some ⟨oc2, od2, .func (PySem.W.fnOf "undivided" "undivided" (defArgs sUndivided) (defBody sUndivided) (defScope sUndivided) .none kV2 dc2 pm2 an2 cd2 ct2), sl2⟩) (c2 : PySem.W.codeIn K cd2 "undivided" = true) (k2 : PySem.W.keepIn K (.ref f2) = true)
    (a3 : PySem.W.nsIn K mainGlobals "discriminant" = some (some (.ref f3))) (l3 : K.lookup f3 = some ⟨oc3, od3, .func (PySem.W.fnOf "discriminant" "discriminant" (defArgs sDiscriminant) (defBody sDiscriminant) (defScope sDiscriminant) .none kV3 dc3 pm3 an3 cd3 ct3), sl3⟩) (c3 : PySem.W.codeIn K cd3 "discriminant" = true) (k3 : PySem.W.keepIn K (.ref f3) = true)
    (a4 : PySem.W.nsIn K mainGlobals "roots" = some (some (.ref f4))) (l4 : K.lookup f4 = some ⟨oc4, od4, .func (PySem.W.fnOf "roots" "roots" (defArgs sRoots) (defBody sRoots) (defScope sRoots) .none kV4 dc4 pm4 an4 cd4 ct4), sl4⟩) (c4 : PySem.W.codeIn K cd4 "roots" = true) (k4 : PySem.W.keepIn K (.ref f4) = true)
    (a5 : PySem.W.nsIn K mainGlobals "square_roots" = some (some (.ref f5))) (l5 : K.lookup f5 = some ⟨oc5, od5, .func (PySem.W.fnOf "square_roots" "square_roots" (defArgs sSquareRoots) (defBody sSquareRoots) (defScope sSquareRoots) .none kV5 dc5 pm5 an5 cd5 ct5), sl5⟩) (c5 : PySem.W.codeIn K cd5 "square_roots" = true) (k5 : PySem.W.keepIn K (.ref f5) = true)
    (a6 : PySem.W.nsIn K mainGlobals "sign_on" = some (some (.ref f6))) (l6 : K.lookup f6 = some ⟨oc6, od6, .func (PySem.W.fnOf "sign_on" "sign_on" (defArgs sSignOn) (defBody sSignOn) (defScope sSignOn) .none kV6 dc6 pm6 an6 cd6 ct6), sl6⟩) (c6 : PySem.W.codeIn K cd6 "sign_on" = true) (k6 : PySem.W.keepIn K (.ref f6) = true)
    (a7 : PySem.W.nsIn K mainGlobals "sign_of_surd" = some (some (.ref f7))) (l7 : K.lookup f7 = some ⟨oc7, od7, .func (PySem.W.fnOf "sign_of_surd" "sign_of_surd" (defArgs sSignOfSurd) (defBody sSignOfSurd) (defScope sSignOfSurd) .none kV7 dc7 pm7 an7 cd7 ct7), sl7⟩) (c7 : PySem.W.codeIn K cd7 "sign_of_surd" = true) (k7 : PySem.W.keepIn K (.ref f7) = true)
    (a8 : PySem.W.nsIn K mainGlobals "is_int" = some (some (.ref f8))) (l8 : K.lookup f8 = some ⟨oc8, od8, .func (PySem.W.fnOf "is_int" "is_int" (defArgs sIsInt) (defBody sIsInt) (defScope sIsInt) .none kV8 dc8 pm8 an8 cd8 ct8), sl8⟩) (c8 : PySem.W.codeIn K cd8 "is_int" = true) (k8 : PySem.W.keepIn K (.ref f8) = true)
    (a9 : PySem.W.nsIn K mainGlobals "is_place" = some (some (.ref f9))) (l9 : K.lookup f9 = some ⟨oc9, od9, .func (PySem.W.fnOf "is_place" "is_place" (defArgs sIsPlace) (defBody sIsPlace) (defScope sIsPlace) .none kV9 dc9 pm9 an9 cd9 ct9), sl9⟩) (c9 : PySem.W.codeIn K cd9 "is_place" = true) (k9 : PySem.W.keepIn K (.ref f9) = true)
    (a10 : PySem.W.nsIn K mainGlobals "is_place_fraction" = some (some (.ref f10))) (l10 : K.lookup f10 = some ⟨oc10, od10, .func (PySem.W.fnOf "is_place_fraction" "is_place_fraction" (defArgs sIsPlaceFraction) (defBody sIsPlaceFraction) (defScope sIsPlaceFraction) .none kV10 dc10 pm10 an10 cd10 ct10), sl10⟩) (c10 : PySem.W.codeIn K cd10 "is_place_fraction" = true) (k10 : PySem.W.keepIn K (.ref f10) = true)
    (a11 : PySem.W.nsIn K mainGlobals "is_place_root" = some (some (.ref f11))) (l11 : K.lookup f11 = some ⟨oc11, od11, .func (PySem.W.fnOf "is_place_root" "is_place_root" (defArgs sIsPlaceRoot) (defBody sIsPlaceRoot) (defScope sIsPlaceRoot) .none kV11 dc11 pm11 an11 cd11 ct11), sl11⟩) (c11 : PySem.W.codeIn K cd11 "is_place_root" = true) (k11 : PySem.W.keepIn K (.ref f11) = true)
    (a12 : PySem.W.nsIn K mainGlobals "is_own" = some (some (.ref f12))) (l12 : K.lookup f12 = some ⟨oc12, od12, .func (PySem.W.fnOf "is_own" "is_own" (defArgs sIsOwn) (defBody sIsOwn) (defScope sIsOwn) .none kV12 dc12 pm12 an12 cd12 ct12), sl12⟩) (c12 : PySem.W.codeIn K cd12 "is_own" = true) (k12 : PySem.W.keepIn K (.ref f12) = true)
    (a13 : PySem.W.nsIn K mainGlobals "is_inner" = some (some (.ref f13))) (l13 : K.lookup f13 = some ⟨oc13, od13, .func (PySem.W.fnOf "is_inner" "is_inner" (defArgs sIsInner) (defBody sIsInner) (defScope sIsInner) .none kV13 dc13 pm13 an13 cd13 ct13), sl13⟩) (c13 : PySem.W.codeIn K cd13 "is_inner" = true) (k13 : PySem.W.keepIn K (.ref f13) = true)
    (a14 : PySem.W.nsIn K mainGlobals "floor_of" = some (some (.ref f14))) (l14 : K.lookup f14 = some ⟨oc14, od14, .func (PySem.W.fnOf "floor_of" "floor_of" (defArgs sFloorOf) (defBody sFloorOf) (defScope sFloorOf) .none kV14 dc14 pm14 an14 cd14 ct14), sl14⟩) (c14 : PySem.W.codeIn K cd14 "floor_of" = true) (k14 : PySem.W.keepIn K (.ref f14) = true)
    (a15 : PySem.W.nsIn K mainGlobals "ascending" = some (some (.ref f15))) (l15 : K.lookup f15 = some ⟨oc15, od15, .func (PySem.W.fnOf "ascending" "ascending" (defArgs sAscending) (defBody sAscending) (defScope sAscending) .none kV15 dc15 pm15 an15 cd15 ct15), sl15⟩) (c15 : PySem.W.codeIn K cd15 "ascending" = true) (k15 : PySem.W.keepIn K (.ref f15) = true)
    (a16 : PySem.W.nsIn K mainGlobals "places_of" = some (some (.ref f16))) (l16 : K.lookup f16 = some ⟨oc16, od16, .func (PySem.W.fnOf "places_of" "places_of" (defArgs sPlacesOf) (defBody sPlacesOf) (defScope sPlacesOf) .none kV16 dc16 pm16 an16 cd16 ct16), sl16⟩) (c16 : PySem.W.codeIn K cd16 "places_of" = true) (k16 : PySem.W.keepIn K (.ref f16) = true)
    (a17 : PySem.W.nsIn K mainGlobals "cells_of" = some (some (.ref f17))) (l17 : K.lookup f17 = some ⟨oc17, od17, .func (PySem.W.fnOf "cells_of" "cells_of" (defArgs sCellsOf) (defBody sCellsOf) (defScope sCellsOf) .none kV17 dc17 pm17 an17 cd17 ct17), sl17⟩) (c17 : PySem.W.codeIn K cd17 "cells_of" = true) (k17 : PySem.W.keepIn K (.ref f17) = true)
    (a18 : PySem.W.nsIn K mainGlobals "cells_between" = some (some (.ref f18))) (l18 : K.lookup f18 = some ⟨oc18, od18, .func (PySem.W.fnOf "cells_between" "cells_between" (defArgs sCellsBetween) (defBody sCellsBetween) (defScope sCellsBetween) .none kV18 dc18 pm18 an18 cd18 ct18), sl18⟩) (c18 : PySem.W.codeIn K cd18 "cells_between" = true) (k18 : PySem.W.keepIn K (.ref f18) = true)
    (a19 : PySem.W.nsIn K mainGlobals "sample" = some (some (.ref f19))) (l19 : K.lookup f19 = some ⟨oc19, od19, .func (PySem.W.fnOf "sample" "sample" (defArgs sSample) (defBody sSample) (defScope sSample) .none kV19 dc19 pm19 an19 cd19 ct19), sl19⟩) (c19 : PySem.W.codeIn K cd19 "sample" = true) (k19 : PySem.W.keepIn K (.ref f19) = true)
    (a20 : PySem.W.nsIn K mainGlobals "is_still" = some (some (.ref f20))) (l20 : K.lookup f20 = some ⟨oc20, od20, .func (PySem.W.fnOf "is_still" "is_still" (defArgs sIsStill) (defBody sIsStill) (defScope sIsStill) .none kV20 dc20 pm20 an20 cd20 ct20), sl20⟩) (c20 : PySem.W.codeIn K cd20 "is_still" = true) (k20 : PySem.W.keepIn K (.ref f20) = true)
    (a21 : PySem.W.nsIn K mainGlobals "_law_cell_at" = some (some (.ref f21))) (l21 : K.lookup f21 = some ⟨oc21, od21, .func (PySem.W.fnOf "_law_cell_at" "_law_cell_at" (defArgs sLCellAt) (defBody sLCellAt) (defScope sLCellAt) .none kV21 dc21 pm21 an21 cd21 ct21), sl21⟩) (c21 : PySem.W.codeIn K cd21 "_law_cell_at" = true) (k21 : PySem.W.keepIn K (.ref f21) = true)
    (a22 : PySem.W.nsIn K mainGlobals "_law_draw" = some (some (.ref f22))) (l22 : K.lookup f22 = some ⟨oc22, od22, .func (PySem.W.fnOf "_law_draw" "_law_draw" (defArgs sLDraw) (defBody sLDraw) (defScope sLDraw) .none kV22 dc22 pm22 an22 cd22 ct22), sl22⟩) (c22 : PySem.W.codeIn K cd22 "_law_draw" = true) (k22 : PySem.W.keepIn K (.ref f22) = true)
    (a23 : PySem.W.nsIn K mainGlobals "_law_number" = some (some (.ref f23))) (l23 : K.lookup f23 = some ⟨oc23, od23, .func (PySem.W.fnOf "_law_number" "_law_number" (defArgs sLNumber) (defBody sLNumber) (defScope sLNumber) .none kV23 dc23 pm23 an23 cd23 ct23), sl23⟩) (c23 : PySem.W.codeIn K cd23 "_law_number" = true) (k23 : PySem.W.keepIn K (.ref f23) = true)
    (a24 : PySem.W.nsIn K mainGlobals "_law_next" = some (some (.ref f24))) (l24 : K.lookup f24 = some ⟨oc24, od24, .func (PySem.W.fnOf "_law_next" "_law_next" (defArgs sLNext) (defBody sLNext) (defScope sLNext) .none kV24 dc24 pm24 an24 cd24 ct24), sl24⟩) (c24 : PySem.W.codeIn K cd24 "_law_next" = true) (k24 : PySem.W.keepIn K (.ref f24) = true)
    (a25 : PySem.W.nsIn K mainGlobals "_law_common" = some (some (.ref f25))) (l25 : K.lookup f25 = some ⟨oc25, od25, .func (PySem.W.fnOf "_law_common" "_law_common" (defArgs sLCommon) (defBody sLCommon) (defScope sLCommon) .none kV25 dc25 pm25 an25 cd25 ct25), sl25⟩) (c25 : PySem.W.codeIn K cd25 "_law_common" = true) (k25 : PySem.W.keepIn K (.ref f25) = true)
    (a26 : PySem.W.nsIn K mainGlobals "_law_frac" = some (some (.ref f26))) (l26 : K.lookup f26 = some ⟨oc26, od26, .func (PySem.W.fnOf "_law_frac" "_law_frac" (defArgs sLFrac) (defBody sLFrac) (defScope sLFrac) .none kV26 dc26 pm26 an26 cd26 ct26), sl26⟩) (c26 : PySem.W.codeIn K cd26 "_law_frac" = true) (k26 : PySem.W.keepIn K (.ref f26) = true)
    (a27 : PySem.W.nsIn K mainGlobals "_law_sign" = some (some (.ref f27))) (l27 : K.lookup f27 = some ⟨oc27, od27, .func (PySem.W.fnOf "_law_sign" "_law_sign" (defArgs sLSign) (defBody sLSign) (defScope sLSign) .none kV27 dc27 pm27 an27 cd27 ct27), sl27⟩) (c27 : PySem.W.codeIn K cd27 "_law_sign" = true) (k27 : PySem.W.keepIn K (.ref f27) = true)
    (a28 : PySem.W.nsIn K mainGlobals "_law_at" = some (some (.ref f28))) (l28 : K.lookup f28 = some ⟨oc28, od28, .func (PySem.W.fnOf "_law_at" "_law_at" (defArgs sLAt) (defBody sLAt) (defScope sLAt) .none kV28 dc28 pm28 an28 cd28 ct28), sl28⟩) (c28 : PySem.W.codeIn K cd28 "_law_at" = true) (k28 : PySem.W.keepIn K (.ref f28) = true)
    (a29 : PySem.W.nsIn K mainGlobals "_law_root_of" = some (some (.ref f29))) (l29 : K.lookup f29 = some ⟨oc29, od29, .func (PySem.W.fnOf "_law_root_of" "_law_root_of" (defArgs sLRootOf) (defBody sLRootOf) (defScope sLRootOf) .none kV29 dc29 pm29 an29 cd29 ct29), sl29⟩) (c29 : PySem.W.codeIn K cd29 "_law_root_of" = true) (k29 : PySem.W.keepIn K (.ref f29) = true)
    (a30 : PySem.W.nsIn K mainGlobals "_law_poly" = some (some (.ref f30))) (l30 : K.lookup f30 = some ⟨oc30, od30, .func (PySem.W.fnOf "_law_poly" "_law_poly" (defArgs sLPoly) (defBody sLPoly) (defScope sLPoly) .none kV30 dc30 pm30 an30 cd30 ct30), sl30⟩) (c30 : PySem.W.codeIn K cd30 "_law_poly" = true) (k30 : PySem.W.keepIn K (.ref f30) = true)
    (a31 : PySem.W.nsIn K mainGlobals "_law_roots" = some (some (.ref f31))) (l31 : K.lookup f31 = some ⟨oc31, od31, .func (PySem.W.fnOf "_law_roots" "_law_roots" (defArgs sLRoots) (defBody sLRoots) (defScope sLRoots) .none kV31 dc31 pm31 an31 cd31 ct31), sl31⟩) (c31 : PySem.W.codeIn K cd31 "_law_roots" = true) (k31 : PySem.W.keepIn K (.ref f31) = true)
    (a32 : PySem.W.nsIn K mainGlobals "_law_span" = some (some (.ref f32))) (l32 : K.lookup f32 = some ⟨oc32, od32, .func (PySem.W.fnOf "_law_span" "_law_span" (defArgs sLSpan) (defBody sLSpan) (defScope sLSpan) .none kV32 dc32 pm32 an32 cd32 ct32), sl32⟩) (c32 : PySem.W.codeIn K cd32 "_law_span" = true) (k32 : PySem.W.keepIn K (.ref f32) = true)
    (a33 : PySem.W.nsIn K mainGlobals "_law_order" = some (some (.ref f33))) (l33 : K.lookup f33 = some ⟨oc33, od33, .func (PySem.W.fnOf "_law_order" "_law_order" (defArgs sLOrder) (defBody sLOrder) (defScope sLOrder) .none kV33 dc33 pm33 an33 cd33 ct33), sl33⟩) (c33 : PySem.W.codeIn K cd33 "_law_order" = true) (k33 : PySem.W.keepIn K (.ref f33) = true)
    (a34 : PySem.W.nsIn K mainGlobals "_law_in" = some (some (.ref f34))) (l34 : K.lookup f34 = some ⟨oc34, od34, .func (PySem.W.fnOf "_law_in" "_law_in" (defArgs sLIn) (defBody sLIn) (defScope sLIn) .none kV34 dc34 pm34 an34 cd34 ct34), sl34⟩) (c34 : PySem.W.codeIn K cd34 "_law_in" = true) (k34 : PySem.W.keepIn K (.ref f34) = true)
    (a35 : PySem.W.nsIn K mainGlobals "_law_places" = some (some (.ref f35))) (l35 : K.lookup f35 = some ⟨oc35, od35, .func (PySem.W.fnOf "_law_places" "_law_places" (defArgs sLPlaces) (defBody sLPlaces) (defScope sLPlaces) .none kV35 dc35 pm35 an35 cd35 ct35), sl35⟩) (c35 : PySem.W.codeIn K cd35 "_law_places" = true) (k35 : PySem.W.keepIn K (.ref f35) = true)
    (a36 : PySem.W.nsIn K mainGlobals "law" = some (some (.ref f36))) (l36 : K.lookup f36 = some ⟨oc36, od36, .func (PySem.W.fnOf "law" "law" (defArgs sLaw) (defBody sLaw) (defScope sLaw) .none kV36 dc36 pm36 an36 cd36 ct36), sl36⟩) (c36 : PySem.W.codeIn K cd36 "law" = true) (k36 : PySem.W.keepIn K (.ref f36) = true)
    (z_len : PySem.W.nsIn K mainGlobals "len" = some none)
    (z_int : PySem.W.nsIn K mainGlobals "int" = some none)
    (z_range : PySem.W.nsIn K mainGlobals "range" = some none)
    (z_abs : PySem.W.nsIn K mainGlobals "abs" = some none)
    (z_tuple : PySem.W.nsIn K mainGlobals "tuple" = some none)
    (z_max : PySem.W.nsIn K mainGlobals "max" = some none)
    (z_isinstance : PySem.W.nsIn K mainGlobals "isinstance" = some none)
    (z_bool : PySem.W.nsIn K mainGlobals "bool" = some none)
    (z_str : PySem.W.nsIn K mainGlobals "str" = some none)
    (z_all : PySem.W.nsIn K mainGlobals "all" = some none)
    (z_sorted : PySem.W.nsIn K mainGlobals "sorted" = some none)
    (z_list : PySem.W.nsIn K mainGlobals "list" = some none)
    (z_gcd : PySem.W.nsIn K mainGlobals "gcd" = some (some (.builtin "math.gcd")))
    (z_isqrt : PySem.W.nsIn K mainGlobals "isqrt" = some (some (.builtin "math.isqrt")))
    {tk_FIRST_BITS : Tok} (z_FIRST_BITS : PySem.W.nsIn K mainGlobals "FIRST_BITS" = some (some (.int 64 tk_FIRST_BITS)))
    : ∃ fd : FuncData, (∀ (s : Shared) (v : Value), BindsTo s fd ⟨[v], []⟩ [("script", v)]) ∧ ∀ base : Heap, K.In base → base.Ns mainGlobals mg → FnOk l.prog w K mg base CX0 8 fa fd ["script"] (DS K 1 (LawS 63)) := by
  have e := hfa.symm.trans (PySem.W.mg_of X G a36)
  cases e
  have F_SignOf := fun_mk (st := sSignOf) l0 c0 k0
  have b_SignOf := F_SignOf.binds (ps := ["number"]) fun _ _ _ _ _ _ us hl => match us, hl with | [_], _ => rfl
  have m_SignOf := PySem.W.mg_of X G a0
  have F_Fraction := fun_mk (st := sFraction) l1 c1 k1
  have b_Fraction := F_Fraction.binds (ps := ["above", "below"]) fun _ _ _ _ _ _ us hl => match us, hl with | [_, _], _ => rfl
  have m_Fraction := PySem.W.mg_of X G a1
  have F_Undivided := fun_mk (st := sUndivided) l2 c2 k2
  have b_Undivided := F_Undivided.binds (ps := ["c0", "c1", "c2"]) fun _ _ _ _ _ _ us hl => match us, hl with | [_, _, _], _ => rfl
  have m_Undivided := PySem.W.mg_of X G a2
  have F_Discriminant := fun_mk (st := sDiscriminant) l3 c3 k3
  have b_Discriminant := F_Discriminant.binds (ps := ["c0", "c1", "c2"]) fun _ _ _ _ _ _ us hl => match us, hl with | [_, _, _], _ => rfl
  have m_Discriminant := PySem.W.mg_of X G a3
  have F_Roots := fun_mk (st := sRoots) l4 c4 k4
  have b_Roots := F_Roots.binds (ps := ["poly"]) fun _ _ _ _ _ _ us hl => match us, hl with | [_], _ => rfl
  have m_Roots := PySem.W.mg_of X G a4
  have F_SquareRoots := fun_mk (st := sSquareRoots) l5 c5 k5
  have b_SquareRoots := F_SquareRoots.binds (ps := ["c0", "c1", "c2"]) fun _ _ _ _ _ _ us hl => match us, hl with | [_, _, _], _ => rfl
  have m_SquareRoots := PySem.W.mg_of X G a5
  have F_SignOn := fun_mk (st := sSignOn) l6 c6 k6
  have b_SignOn := F_SignOn.binds (ps := ["poly", "place"]) fun _ _ _ _ _ _ us hl => match us, hl with | [_, _], _ => rfl
  have m_SignOn := PySem.W.mg_of X G a6
  have F_SignOfSurd := fun_mk (st := sSignOfSurd) l7 c7 k7
  have b_SignOfSurd := F_SignOfSurd.binds (ps := ["flat", "steep", "square"]) fun _ _ _ _ _ _ us hl => match us, hl with | [_, _, _], _ => rfl
  have m_SignOfSurd := PySem.W.mg_of X G a7
  have F_IsInt := fun_mk (st := sIsInt) l8 c8 k8
  have b_IsInt := F_IsInt.binds (ps := ["thing"]) fun _ _ _ _ _ _ us hl => match us, hl with | [_], _ => rfl
  have m_IsInt := PySem.W.mg_of X G a8
  have F_IsPlace := fun_mk (st := sIsPlace) l9 c9 k9
  have b_IsPlace := F_IsPlace.binds (ps := ["thing"]) fun _ _ _ _ _ _ us hl => match us, hl with | [_], _ => rfl
  have m_IsPlace := PySem.W.mg_of X G a9
  have F_IsPlaceFraction := fun_mk (st := sIsPlaceFraction) l10 c10 k10
  have b_IsPlaceFraction := F_IsPlaceFraction.binds (ps := ["n", "d"]) fun _ _ _ _ _ _ us hl => match us, hl with | [_, _], _ => rfl
  have m_IsPlaceFraction := PySem.W.mg_of X G a10
  have F_IsPlaceRoot := fun_mk (st := sIsPlaceRoot) l11 c11 k11
  have b_IsPlaceRoot := F_IsPlaceRoot.binds (ps := ["word", "own", "which"]) fun _ _ _ _ _ _ us hl => match us, hl with | [_, _, _], _ => rfl
  have m_IsPlaceRoot := PySem.W.mg_of X G a11
  have F_IsOwn := fun_mk (st := sIsOwn) l12 c12 k12
  have b_IsOwn := F_IsOwn.binds (ps := ["thing"]) fun _ _ _ _ _ _ us hl => match us, hl with | [_], _ => rfl
  have m_IsOwn := PySem.W.mg_of X G a12
  have F_IsInner := fun_mk (st := sIsInner) l13 c13 k13
  have b_IsInner := F_IsInner.binds (ps := ["root"]) fun _ _ _ _ _ _ us hl => match us, hl with | [_], _ => rfl
  have m_IsInner := PySem.W.mg_of X G a13
  have F_FloorOf := fun_mk (st := sFloorOf) l14 c14 k14
  have b_FloorOf := F_FloorOf.binds (ps := ["root", "bits"]) fun _ _ _ _ _ _ us hl => match us, hl with | [_, _], _ => rfl
  have m_FloorOf := PySem.W.mg_of X G a14
  have F_Ascending := fun_mk (st := sAscending) l15 c15 k15
  have b_Ascending := F_Ascending.binds (ps := ["unlike", "bits"]) fun _ _ _ _ _ _ us hl => match us, hl with | [_, _], _ => rfl
  have m_Ascending := PySem.W.mg_of X G a15
  have F_PlacesOf := fun_mk (st := sPlacesOf) l16 c16 k16
  have b_PlacesOf := F_PlacesOf.binds (ps := ["polys"]) fun _ _ _ _ _ _ us hl => match us, hl with | [_], _ => rfl
  have m_PlacesOf := PySem.W.mg_of X G a16
  have F_CellsOf := fun_mk (st := sCellsOf) l17 c17 k17
  have b_CellsOf := F_CellsOf.binds (ps := ["polys"]) fun _ _ _ _ _ _ us hl => match us, hl with | [_], _ => rfl
  have m_CellsOf := PySem.W.mg_of X G a17
  have F_CellsBetween := fun_mk (st := sCellsBetween) l18 c18 k18
  have b_CellsBetween := F_CellsBetween.binds (ps := ["one", "places", "other"]) fun _ _ _ _ _ _ us hl => match us, hl with | [_, _, _], _ => rfl
  have m_CellsBetween := PySem.W.mg_of X G a18
  have F_Sample := fun_mk (st := sSample) l19 c19 k19
  have b_Sample := F_Sample.binds (ps := ["cell"]) fun _ _ _ _ _ _ us hl => match us, hl with | [_], _ => rfl
  have m_Sample := PySem.W.mg_of X G a19
  have F_IsStill := fun_mk (st := sIsStill) l20 c20 k20
  have b_IsStill := F_IsStill.binds (ps := ["poly", "cell"]) fun _ _ _ _ _ _ us hl => match us, hl with | [_, _], _ => rfl
  have m_IsStill := PySem.W.mg_of X G a20
  have F_LCellAt := fun_mk (st := sLCellAt) l21 c21 k21
  have b_LCellAt := F_LCellAt.binds (ps := ["script", "k"]) fun _ _ _ _ _ _ us hl => match us, hl with | [_, _], _ => rfl
  have m_LCellAt := PySem.W.mg_of X G a21
  have F_LDraw := fun_mk (st := sLDraw) l22 c22 k22
  have b_LDraw := F_LDraw.binds (ps := ["cell", "k", "bound"]) fun _ _ _ _ _ _ us hl => match us, hl with | [_, _, _], _ => rfl
  have m_LDraw := PySem.W.mg_of X G a22
  have F_LNumber := fun_mk (st := sLNumber) l23 c23 k23
  have b_LNumber := F_LNumber.binds (ps := ["cell", "k", "bound"]) fun _ _ _ _ _ _ us hl => match us, hl with | [_, _, _], _ => rfl
  have m_LNumber := PySem.W.mg_of X G a23
  have F_LNext := fun_mk (st := sLNext) l24 c24 k24
  have b_LNext := F_LNext.binds (ps := ["draw", "bound"]) fun _ _ _ _ _ _ us hl => match us, hl with | [_, _], _ => rfl
  have m_LNext := PySem.W.mg_of X G a24
  have F_LCommon := fun_mk (st := sLCommon) l25 c25 k25
  have b_LCommon := F_LCommon.binds (ps := ["a", "b"]) fun _ _ _ _ _ _ us hl => match us, hl with | [_, _], _ => rfl
  have m_LCommon := PySem.W.mg_of X G a25
  have F_LFrac := fun_mk (st := sLFrac) l26 c26 k26
  have b_LFrac := F_LFrac.binds (ps := ["n", "d"]) fun _ _ _ _ _ _ us hl => match us, hl with | [_, _], _ => rfl
  have m_LFrac := PySem.W.mg_of X G a26
  have F_LSign := fun_mk (st := sLSign) l27 c27 k27
  have b_LSign := F_LSign.binds (ps := ["number"]) fun _ _ _ _ _ _ us hl => match us, hl with | [_], _ => rfl
  have m_LSign := PySem.W.mg_of X G a27
  have F_LAt := fun_mk (st := sLAt) l28 c28 k28
  have b_LAt := F_LAt.binds (ps := ["poly", "n", "d"]) fun _ _ _ _ _ _ us hl => match us, hl with | [_, _, _], _ => rfl
  have m_LAt := PySem.W.mg_of X G a28
  have F_LRootOf := fun_mk (st := sLRootOf) l29 c29 k29
  have b_LRootOf := F_LRootOf.binds (ps := ["number"]) fun _ _ _ _ _ _ us hl => match us, hl with | [_], _ => rfl
  have m_LRootOf := PySem.W.mg_of X G a29
  have F_LPoly := fun_mk (st := sLPoly) l30 c30 k30
  have b_LPoly := F_LPoly.binds (ps := ["draw", "big"]) fun _ _ _ _ _ _ us hl => match us, hl with | [_, _], _ => rfl
  have m_LPoly := PySem.W.mg_of X G a30
  have F_LRoots := fun_mk (st := sLRoots) l31 c31 k31
  have b_LRoots := F_LRoots.binds (ps := ["poly"]) fun _ _ _ _ _ _ us hl => match us, hl with | [_], _ => rfl
  have m_LRoots := PySem.W.mg_of X G a31
  have F_LSpan := fun_mk (st := sLSpan) l32 c32 k32
  have b_LSpan := F_LSpan.binds (ps := ["place"]) fun _ _ _ _ _ _ us hl => match us, hl with | [_], _ => rfl
  have m_LSpan := PySem.W.mg_of X G a32
  have F_LOrder := fun_mk (st := sLOrder) l33 c33 k33
  have b_LOrder := F_LOrder.binds (ps := ["one", "other"]) fun _ _ _ _ _ _ us hl => match us, hl with | [_, _], _ => rfl
  have m_LOrder := PySem.W.mg_of X G a33
  have F_LIn := fun_mk (st := sLIn) l34 c34 k34
  have b_LIn := F_LIn.binds (ps := ["place"]) fun _ _ _ _ _ _ us hl => match us, hl with | [_], _ => rfl
  have m_LIn := PySem.W.mg_of X G a34
  have F_LPlaces := fun_mk (st := sLPlaces) l35 c35 k35
  have b_LPlaces := F_LPlaces.binds (ps := ["polys"]) fun _ _ _ _ _ _ us hl => match us, hl with | [_], _ => rfl
  have m_LPlaces := PySem.W.mg_of X G a35
  have F_Law := fun_mk (st := sLaw) l36 c36 k36
  have b_Law := F_Law.binds (ps := ["script"]) fun _ _ _ _ _ _ us hl => match us, hl with | [_], _ => rfl
  have m_Law := PySem.W.mg_of X G a36
  have n_len := PySem.W.mg_none_of X G z_len
  have n_int := PySem.W.mg_none_of X G z_int
  have n_range := PySem.W.mg_none_of X G z_range
  have n_abs := PySem.W.mg_none_of X G z_abs
  have n_tuple := PySem.W.mg_none_of X G z_tuple
  have n_max := PySem.W.mg_none_of X G z_max
  have n_isinstance := PySem.W.mg_none_of X G z_isinstance
  have n_bool := PySem.W.mg_none_of X G z_bool
  have n_str := PySem.W.mg_none_of X G z_str
  have n_all := PySem.W.mg_none_of X G z_all
  have n_sorted := PySem.W.mg_none_of X G z_sorted
  have n_list := PySem.W.mg_none_of X G z_list
  have n_gcd := PySem.W.mg_of X G z_gcd
  have n_isqrt := PySem.W.mg_of X G z_isqrt
  have n_FIRST_BITS := PySem.W.mg_of X G z_FIRST_BITS
  refine ⟨PySem.W.fnOf "law" "law" (defArgs sLaw) (defBody sLaw) (defScope sLaw) .none kV36 dc36 pm36 an36 cd36 ct36, fun s v => .of_eq rfl, fun base _ _ => ?_⟩
  let M : Md := ⟨l.prog, w, K, mg, base⟩
  have qS : FnD M 1 "_law_sign" 1 SSign := fSign F_LSign m_LSign b_LSign
  have qC : FnD M 1 "_law_cell_at" 2 SCell := fCell n_len F_LCellAt m_LCellAt b_LCellAt
  have qD : FnD M 1 "_law_draw" 3 SDraw := fDraw n_int F_LDraw m_LDraw b_LDraw
  have qN : FnD M 2 "_law_number" 3 SNumber := fNumber n_int n_range qD F_LNumber m_LNumber b_LNumber
  have qX : FnM M 3 "_law_next" 1 SNext := fNext n_int qC qN F_LNext m_LNext b_LNext
  have qG : FnD M 1 "_law_common" 2 SCommon := fCommon n_abs n_range F_LCommon m_LCommon b_LCommon
  have qF : FnD M 2 "_law_frac" 2 SFrac := fFrac qG F_LFrac m_LFrac b_LFrac
  have qA : FnD M 2 "_law_at" 3 SAt := fAt qS F_LAt m_LAt b_LAt
  have qO : FnD M 1 "_law_root_of" 1 SRootOf := fRootOf n_range F_LRootOf m_LRootOf b_LRootOf
  have qP : FnM M 4 "_law_poly" 1 SPoly := fPoly n_range n_max n_tuple qX qG F_LPoly m_LPoly b_LPoly
  have qR : FnD M 3 "_law_roots" 1 SLRoots := fLRoots qF qO F_LRoots m_LRoots b_LRoots
  have qW : FnD M 3 "_law_span" 1 SSpan := fSpan n_abs n_range qA F_LSpan m_LSpan b_LSpan
  have qB : FnD M 4 "_law_order" 2 SLOrder := fLOrder qS qW F_LOrder m_LOrder b_LOrder
  have qI : FnD M 5 "_law_in" 1 SLIn := fLIn qB F_LIn m_LIn b_LIn
  have qL : FnD M 6 "_law_places" 1 SLPlaces := fLPlaces n_len qR qI qB F_LPlaces m_LPlaces b_LPlaces
  have pS : FnD M 1 "sign_of" 1 SSign := fSignOf F_SignOf m_SignOf b_SignOf
  have pF : FnD M 1 "fraction" 2 SFraction := fFraction n_gcd F_Fraction m_Fraction b_Fraction
  have pU : FnD M 1 "undivided" 3 SUnd := fUnd n_gcd F_Undivided m_Undivided b_Undivided
  have pD : FnD M 1 "discriminant" 3 (S3 300 fun a b c => .int (dsc a b c)) := fDisc F_Discriminant m_Discriminant b_Discriminant
  have pQ : FnD M 2 "square_roots" 3 SSq := fSq n_isqrt pD pU pF F_SquareRoots m_SquareRoots b_SquareRoots
  have pR : FnD M 3 "roots" 1 SRoots := fRoots pQ pF F_Roots m_Roots b_Roots
  have pV : FnD M 2 "sign_of_surd" 3 (S3 2000 fun a b c => .int (surd a b c)) := fSurd pS F_SignOfSurd m_SignOfSurd b_SignOfSurd
  have pN : FnD M 3 "sign_on" 2 SSon := fSon pS pV pD F_SignOn m_SignOn b_SignOn
  have rI : FnD M 1 "is_int" 1 SIsInt := fIsInt n_isinstance n_int n_bool F_IsInt m_IsInt b_IsInt
  have rL : FnD M 2 "floor_of" 2 SFloor := fFloor n_isqrt pD F_FloorOf m_FloorOf b_FloorOf
  have rN : FnD M 3 "is_inner" 1 SInner := fInner rL F_IsInner m_IsInner b_IsInner
  have rW : FnD M 2 "is_own" 1 SOwn := fOwn n_isinstance n_tuple n_len n_all n_gcd n_isqrt rI pD F_IsOwn m_IsOwn b_IsOwn
  have rF : FnD M 2 "is_place_fraction" 2 SPlF := fPlF n_gcd rI F_IsPlaceFraction m_IsPlaceFraction b_IsPlaceFraction
  have rR : FnD M 4 "is_place_root" 3 SPlR := fPlR n_isinstance n_str rI rW rN F_IsPlaceRoot m_IsPlaceRoot b_IsPlaceRoot
  have rP : FnD M 5 "is_place" 1 SIsPlace := fIsPlace n_isinstance n_tuple n_len rF rR F_IsPlace m_IsPlace b_IsPlace
  have rA : FnD M 3 "ascending" 2 SAsc := fAscending n_len n_sorted rL F_Ascending m_Ascending b_Ascending
  have rC : FnD M 6 "places_of" 1 SPlaces := fPlacesOf n_list n_FIRST_BITS pR rN rA F_PlacesOf m_PlacesOf b_PlacesOf
  have pG : FnD M 1 "fraction" 2 SFractionW := fFractionW n_gcd F_Fraction m_Fraction b_Fraction
  have cS : FnD M 3 "sample" 1 SSample := fSample rL pG F_Sample m_Sample b_Sample
  have cT : FnD M 4 "is_still" 2 SStill := fStill pN pS pD F_IsStill m_IsStill b_IsStill
  have cB : FnD M 1 "cells_between" 3 SCB := fCellsBetween F_CellsBetween m_CellsBetween b_CellsBetween
  have cC : FnD M 7 "cells_of" 1 SCells := fCellsOf cB rC F_CellsOf m_CellsOf b_CellsOf
  exact fLaw (M := M) n_range n_list qP qX qR rP qI qB qL cC cS cT F_Law
end K4
open PySem PySem.W PyProof.Rows
set_option maxHeartbeats 0 in
theorem PySem.Challenge.cw_justthepart_k04_whole_cells_holds : PySem.Challenge.rw_justthepart_k04_whole_cells.Holds := by
  w_on; o_law; k_head; (case hw => w_witness2)
  k_fill
  refine L2.walk_of (l := PySem.Challenge.rw_justthepart_k04_whole_cells) (n := 63) (k := 8) (x := "script") (CX := fun _ => L2.CX0) (sp := fun w => Vc.DS _ 1 (Vc.LawS 63)) rfl (by decide) rfl ⟨rfl, by decide, by decide⟩ (fun w h Y => PySem.W.kIn_of Y) ?F (fun _ _ a ns hl _ hS => Vc.law_sp hl hS) (fun _ _ _ _ _ h => h)
  case F =>
    intro w mg fa h KX G hmg
    refine' K4.all_mk KX G hmg ?a0 ?l0 ?c0 ?k0 ?a1 ?l1 ?c1 ?k1 ?a2 ?l2 ?c2 ?k2 ?a3 ?l3 ?c3 ?k3 ?a4 ?l4 ?c4 ?k4 ?a5 ?l5 ?c5 ?k5 ?a6 ?l6 ?c6 ?k6 ?a7 ?l7 ?c7 ?k7 ?a8 ?l8 ?c8 ?k8 ?a9 ?l9 ?c9 ?k9 ?a10 ?l10 ?c10 ?k10 ?a11 ?l11 ?c11 ?k11 ?a12 ?l12 ?c12 ?k12 ?a13 ?l13 ?c13 ?k13 ?a14 ?l14 ?c14 ?k14 ?a15 ?l15 ?c15 ?k15 ?a16 ?l16 ?c16 ?k16 ?a17 ?l17 ?c17 ?k17 ?a18 ?l18 ?c18 ?k18 ?a19 ?l19 ?c19 ?k19 ?a20 ?l20 ?c20 ?k20 ?a21 ?l21 ?c21 ?k21 ?a22 ?l22 ?c22 ?k22 ?a23 ?l23 ?c23 ?k23 ?a24 ?l24 ?c24 ?k24 ?a25 ?l25 ?c25 ?k25 ?a26 ?l26 ?c26 ?k26 ?a27 ?l27 ?c27 ?k27 ?a28 ?l28 ?c28 ?k28 ?a29 ?l29 ?c29 ?k29 ?a30 ?l30 ?c30 ?k30 ?a31 ?l31 ?c31 ?k31 ?a32 ?l32 ?c32 ?k32 ?a33 ?l33 ?c33 ?k33 ?a34 ?l34 ?c34 ?k34 ?a35 ?l35 ?c35 ?k35 ?a36 ?l36 ?c36 ?k36 ?z_len ?z_int ?z_range ?z_abs ?z_tuple ?z_max ?z_isinstance ?z_bool ?z_str ?z_all ?z_sorted ?z_list ?z_gcd ?z_isqrt ?z_FIRST_BITS
    (case a0 => k_is); (case l0 => k_is); (case c0 => k_is); (case k0 => k_is); (case a1 => k_is); (case l1 => k_is); (case c1 => k_is); (case k1 => k_is); (case a2 => k_is); (case l2 => k_is); (case c2 => k_is); (case k2 => k_is); (case a3 => k_is); (case l3 => k_is); (case c3 => k_is); (case k3 => k_is); (case a4 => k_is); (case l4 => k_is); (case c4 => k_is); (case k4 => k_is); (case a5 => k_is); (case l5 => k_is); (case c5 => k_is); (case k5 => k_is); (case a6 => k_is); (case l6 => k_is); (case c6 => k_is); (case k6 => k_is); (case a7 => k_is); (case l7 => k_is); (case c7 => k_is); (case k7 => k_is); (case a8 => k_is); (case l8 => k_is); (case c8 => k_is); (case k8 => k_is); (case a9 => k_is); (case l9 => k_is); (case c9 => k_is); (case k9 => k_is); (case a10 => k_is); (case l10 => k_is); (case c10 => k_is); (case k10 => k_is); (case a11 => k_is); (case l11 => k_is); (case c11 => k_is); (case k11 => k_is); (case a12 => k_is); (case l12 => k_is); (case c12 => k_is); (case k12 => k_is); (case a13 => k_is); (case l13 => k_is); (case c13 => k_is); (case k13 => k_is); (case a14 => k_is); (case l14 => k_is); (case c14 => k_is); (case k14 => k_is); (case a15 => k_is); (case l15 => k_is); (case c15 => k_is); (case k15 => k_is); (case a16 => k_is); (case l16 => k_is); (case c16 => k_is); (case k16 => k_is); (case a17 => k_is); (case l17 => k_is); (case c17 => k_is); (case k17 => k_is); (case a18 => k_is); (case l18 => k_is); (case c18 => k_is); (case k18 => k_is); (case a19 => k_is); (case l19 => k_is); (case c19 => k_is); (case k19 => k_is); (case a20 => k_is); (case l20 => k_is); (case c20 => k_is); (case k20 => k_is); (case a21 => k_is); (case l21 => k_is); (case c21 => k_is); (case k21 => k_is); (case a22 => k_is); (case l22 => k_is); (case c22 => k_is); (case k22 => k_is); (case a23 => k_is); (case l23 => k_is); (case c23 => k_is); (case k23 => k_is); (case a24 => k_is); (case l24 => k_is); (case c24 => k_is); (case k24 => k_is); (case a25 => k_is); (case l25 => k_is); (case c25 => k_is); (case k25 => k_is); (case a26 => k_is); (case l26 => k_is); (case c26 => k_is); (case k26 => k_is); (case a27 => k_is); (case l27 => k_is); (case c27 => k_is); (case k27 => k_is); (case a28 => k_is); (case l28 => k_is); (case c28 => k_is); (case k28 => k_is); (case a29 => k_is); (case l29 => k_is); (case c29 => k_is); (case k29 => k_is); (case a30 => k_is); (case l30 => k_is); (case c30 => k_is); (case k30 => k_is); (case a31 => k_is); (case l31 => k_is); (case c31 => k_is); (case k31 => k_is); (case a32 => k_is); (case l32 => k_is); (case c32 => k_is); (case k32 => k_is); (case a33 => k_is); (case l33 => k_is); (case c33 => k_is); (case k33 => k_is); (case a34 => k_is); (case l34 => k_is); (case c34 => k_is); (case k34 => k_is); (case a35 => k_is); (case l35 => k_is); (case c35 => k_is); (case k35 => k_is); (case a36 => k_is); (case l36 => k_is); (case c36 => k_is); (case k36 => k_is); (case z_len => k_is); (case z_int => k_is); (case z_range => k_is); (case z_abs => k_is); (case z_tuple => k_is); (case z_max => k_is); (case z_isinstance => k_is); (case z_bool => k_is); (case z_str => k_is); (case z_all => k_is); (case z_sorted => k_is); (case z_list => k_is); (case z_gcd => k_is); (case z_isqrt => k_is); (case z_FIRST_BITS => k_is)
