import PyProof.Rows.All
import Wide.All
import OpenK.AllK
import Wide.FinOn
import HandS.ForMost
import HandS.Evl
import HandS.Wide
import HandS.NoneIn
import HandS.IsInst
import HandS.Gcd
import KE.KMathGC
import HandS.Deep
import HandS.Flow
import HandS.Style
import KE.KTupSum
import PySem.Challenge.RW_justthepart_k02_whole_roots
set_option Elab.async false
set_option linter.all false
set_option maxRecDepth 100000
set_option maxHeartbeats 4000000
/-! Vc: a calculus of what is wanted behind a piece of a program, over data (own work). -/
namespace Vc
open PySem PySem.Spec PyProof.Rows L2
open Evl (Ex)

abbrev D := PyData
/-- what a slot holds: nothing known, data that nobody changes, a list of its own -/
inductive Sl where
  | no
  | dat (d : D)
  | own (a : Addr) (ds : List D)
abbrev En := List Sl
def Own (ρ : En) (a : Addr) : Prop := ∃ (i : Nat) (ds : List D), ρ[i]? = some (Sl.own a ds)

/-! ### data in a growing heap -/
theorem ex_l {K : PySem.W.Frag} {H H' : Hp} {a : Addr} {xs : List V} (e : Ex H H') (h : SqL K H a xs) : SqL K H' a xs := Evl.ex_l e h
theorem ex_t {K : PySem.W.Frag} {H H' : Hp} {a : Addr} {xs : List V} (e : Ex H H') (h : SqT K H a xs) : SqT K H' a xs := Evl.ex_t e h
mutual
theorem Dp.mono {K : PySem.W.Frag} {H H' : Hp} (e : Ex H H') : ∀ {v : V} {d : D}, Dp K H v d → Dp K H' v d
  | _, _, .non => .non
  | _, _, .bl b => .bl b
  | _, _, .int i => .int i
  | _, _, .str x => .str x
  | _, _, .lst h hs => .lst (ex_l e h) (DpAll.mono e hs)
  | _, _, .tup h hs => .tup (ex_t e h) (DpAll.mono e hs)
theorem DpAll.mono {K : PySem.W.Frag} {H H' : Hp} (e : Ex H H') : ∀ {vs : List V} {ds : List D}, DpAll K H vs ds → DpAll K H' vs ds
  | _, _, .nil => .nil
  | _, _, .cons h hs => .cons (Dp.mono e h) (DpAll.mono e hs)
end
theorem DpAll.len {K : PySem.W.Frag} {H : Hp} : ∀ {vs : List V} {ds : List D}, DpAll K H vs ds → vs.length = ds.length
  | _, _, .nil => rfl
  | _, _, .cons _ hs => congrArg (· + 1) (DpAll.len hs)
theorem DpAll.get {K : PySem.W.Frag} {H : Hp} : ∀ {vs : List V} {ds : List D} {i : Nat} {d : D}, DpAll K H vs ds → ds[i]? = some d → ∃ v, vs[i]? = some v ∧ Dp K H v d
  | _, _, _, _, .nil, h => by simp at h
  | _, _, 0, _, .cons (v := v) h _, e => ⟨v, rfl, by cases e; exact h⟩
  | _, _, i + 1, _, .cons _ hs, e => by
    obtain ⟨v, h1, h2⟩ := DpAll.get (i := i) hs (by simpa using e)
    exact ⟨v, by simpa using h1, h2⟩
theorem DpAll.getV {K : PySem.W.Frag} {H : Hp} : ∀ {vs : List V} {ds : List D} {i : Nat} {v : V}, DpAll K H vs ds → vs[i]? = some v → ∃ d, ds[i]? = some d ∧ Dp K H v d
  | _, _, _, _, .nil, h => by simp at h
  | _, _, 0, _, .cons (d := d) h _, e => ⟨d, rfl, by cases e; exact h⟩
  | _, _, i + 1, _, .cons _ hs, e => by
    obtain ⟨v, h1, h2⟩ := DpAll.getV (i := i) hs (by simpa using e)
    exact ⟨v, by simpa using h1, h2⟩
theorem DpAll.app {K : PySem.W.Frag} {H : Hp} : ∀ {vs ws : List V} {ds es : List D}, DpAll K H vs ds → DpAll K H ws es → DpAll K H (vs ++ ws) (ds ++ es)
  | _, _, _, _, .nil, h => h
  | _, _, _, _, .cons h hs, k => .cons h (DpAll.app hs k)
theorem DpAll.set {K : PySem.W.Frag} {H : Hp} {v : V} {d : D} (hd : Dp K H v d) : ∀ {vs : List V} {ds : List D} (i : Nat), DpAll K H vs ds → DpAll K H (vs.set i v) (ds.set i d)
  | _, _, _, .nil => .nil
  | _, _, 0, .cons _ hs => .cons hd hs
  | _, _, i + 1, .cons h hs => .cons h (DpAll.set hd i hs)
theorem DpAll.take {K : PySem.W.Frag} {H : Hp} : ∀ {vs : List V} {ds : List D} (n : Nat), DpAll K H vs ds → DpAll K H (vs.take n) (ds.take n)
  | _, _, 0, _ => .nil
  | _, _, _ + 1, .nil => .nil
  | _, _, n + 1, .cons h hs => .cons h (DpAll.take n hs)
theorem DpAll.drop {K : PySem.W.Frag} {H : Hp} : ∀ {vs : List V} {ds : List D} (n : Nat), DpAll K H vs ds → DpAll K H (vs.drop n) (ds.drop n)
  | _, _, 0, h => h
  | _, _, _ + 1, .nil => .nil
  | _, _, n + 1, .cons _ hs => DpAll.drop n hs
theorem dp_int {K : PySem.W.Frag} {H : Hp} {v : V} {i : Int} (h : Dp K H v (.int i)) : v = .int i := by cases h; rfl
theorem dp_bool {K : PySem.W.Frag} {H : Hp} {v : V} {b : Bool} (h : Dp K H v (.bool b)) : v = .bl b := by cases h; rfl
theorem dp_str {K : PySem.W.Frag} {H : Hp} {v : V} {x : Str} (h : Dp K H v (.str x)) : v = .str x := by cases h; rfl
theorem dp_tup {K : PySem.W.Frag} {H : Hp} {v : V} {ds : List D} (h : Dp K H v (.tuple ds)) : ∃ a xs, v = .ref a ∧ SqT K H a xs ∧ DpAll K H xs ds := by
  cases h with
  | tup h hs => exact ⟨_, _, rfl, h, hs⟩
theorem dp_lst {K : PySem.W.Frag} {H : Hp} {v : V} {ds : List D} (h : Dp K H v (.list ds)) : ∃ a xs, v = .ref a ∧ SqL K H a xs ∧ DpAll K H xs ds := by
  cases h with
  | lst h hs => exact ⟨_, _, rfl, h, hs⟩
theorem dp_ints {K : PySem.W.Frag} {H : Hp} : ∀ (ns : List Int), DpAll K H (ns.map V.int) (ns.map PyData.int)
  | [] => .nil
  | n :: r => .cons (.int n) (dp_ints r)

/-! ### what holds between the slots, the heap and what is known -/
structure Rel (K : PySem.W.Frag) (B H : Hp) (σ : L2.St) (ρ : En) : Prop where
  ex : Ex B H
  len : ρ.length = σ.length
  dat : ∀ (i : Nat) d, ρ[i]? = some (Sl.dat d) → ∃ v, σ[i]? = some (some v) ∧ Dp K B v d
  own : ∀ (i : Nat) a ds, ρ[i]? = some (Sl.own a ds) → σ[i]? = some (some (V.ref a)) ∧ B a = none ∧ ∃ vs, H a = some (.lst vs) ∧ DpAll K B vs ds
  dis : ∀ (i j : Nat) a ds es, ρ[i]? = some (Sl.own a ds) → ρ[j]? = some (Sl.own a es) → i = j
/-- from (B, H, ρ) to (B', H', ρ') -/
structure Go (B H : Hp) (ρ : En) (B' H' : Hp) (ρ' : En) : Prop where
  ex : Ex B B'
  keep : ∀ a o, H a = some o → ¬ Own ρ a → H' a = some o
  out : ∀ a, H a ≠ none → B a = none → ¬ Own ρ a → B' a = none
  own : ∀ a, Own ρ' a → Own ρ a ∨ H a = none
  dom : ∀ a, H' a = none → H a = none
theorem Go.refl {B H : Hp} {ρ : En} : Go B H ρ B H ρ := ⟨Evl.Ex.refl B, fun _ _ h _ => h, fun _ _ h _ => h, fun _ h => .inl h, fun _ h => h⟩
theorem Go.trans {B H B1 H1 B2 H2 : Hp} {ρ ρ1 ρ2 : En} (p : Go B H ρ B1 H1 ρ1) (q : Go B1 H1 ρ1 B2 H2 ρ2) : Go B H ρ B2 H2 ρ2 where
  ex := p.ex.trans q.ex
  keep := fun a o h n => q.keep a o (p.keep a o h n) fun z => (p.own a z).elim n fun e => by rw [e] at h; cases h
  out := fun a h b n => by
    obtain ⟨o, ho⟩ := Option.ne_none_iff_exists'.mp h
    refine q.out a ?_ (p.out a h b n) fun z => (p.own a z).elim n fun e => h e
    rw [p.keep a o ho n]
    exact fun z => by cases z
  own := fun a z => by
    rcases q.own a z with z | z
    · exact p.own a z
    · exact .inr (p.dom a z)
  dom := fun a z => p.dom a (q.dom a z)
/-- what is known grows, the heap grows, nothing else -/
theorem Rel.grow {K : PySem.W.Frag} {B H B' H' : Hp} {σ : L2.St} {ρ : En} (r : Rel K B H σ ρ) (eB : Ex B B') (e : Ex B' H') (eH : Ex H H') (out : ∀ a, H a ≠ none → B a = none → B' a = none) : Rel K B' H' σ ρ where
  ex := e
  len := r.len
  dat := fun i d h => let ⟨v, h1, h2⟩ := r.dat i d h; ⟨v, h1, Dp.mono eB h2⟩
  own := fun i a ds h => by
    obtain ⟨h1, h2, vs, h3, h4⟩ := r.own i a ds h
    exact ⟨h1, out a (by rw [h3]; exact fun z => by cases z) h2, vs, eH a _ h3, DpAll.mono eB h4⟩
  dis := r.dis
theorem Go.grow {B H B' H' : Hp} {ρ : En} (eB : Ex B B') (eH : Ex H H') (out : ∀ a, H a ≠ none → B a = none → B' a = none) : Go B H ρ B' H' ρ := ⟨eB, fun a o h _ => eH a o h, fun a h b _ => out a h b, fun _ z => .inl z, fun a z => by
  cases e : H a with
  | none => rfl
  | some u =>
    rw [eH a u e] at z
    cases z⟩
/-- a new object comes into the heap and into what is known -/
theorem new_both {K : PySem.W.Frag} {B H : Hp} {σ : L2.St} {ρ : En} {p : Addr} {o : HO} (r : Rel K B H σ ρ) (hp : H p = none) : Rel K (upd B p o) (upd H p o) σ ρ ∧ Go B H ρ (upd B p o) (upd H p o) ρ := by
  have bp : B p = none := by
    cases e : B p with
    | none => rfl
    | some u =>
      rw [r.ex p u e] at hp
      cases hp
  have eB : Ex B (upd B p o) := Evl.Ex.new bp
  have eH : Ex H (upd H p o) := Evl.Ex.new hp
  have out : ∀ a, H a ≠ none → B a = none → upd B p o a = none := fun a h b => by
    rw [upd_ne (fun z => h (by rw [z]; exact hp))]
    exact b
  refine ⟨r.grow eB (fun a u h => ?_) eH out, Go.grow eB eH out⟩
  by_cases z : a = p
  · rw [z, upd_same] at h ⊢
    exact h
  · rw [upd_ne z] at h ⊢
    exact r.ex a u h
/-- a new object comes into the heap alone -/
theorem new_one {K : PySem.W.Frag} {B H : Hp} {σ : L2.St} {ρ : En} {p : Addr} {o : HO} (r : Rel K B H σ ρ) (hp : H p = none) : Rel K B (upd H p o) σ ρ ∧ Go B H ρ B (upd H p o) ρ ∧ B p = none := by
  have bp : B p = none := by
    cases e : B p with
    | none => rfl
    | some u =>
      rw [r.ex p u e] at hp
      cases hp
  have eH : Ex H (upd H p o) := Evl.Ex.new hp
  exact ⟨r.grow (Evl.Ex.refl B) (r.ex.trans eH) eH (fun a _ b => b), Go.grow (Evl.Ex.refl B) eH (fun a _ b => b), bp⟩

/-! ### readings by themselves -/
def eSem (X : Cx) (e : Expr) : TE := fun σ H Q => ∀ pins s, Inv X pins σ H s → wpAny (model X.prog X.w) X.A (eval e X.env) (EP X pins σ Q) X.xe s
def bSem (X : Cx) (e : Expr) : TT := fun σ H Q => ∀ pins s, Inv X pins σ H s → wpAny (model X.prog X.w) X.A (isTrue e X.env (eval e X.env)) (TP X pins σ Q) X.xe s
def wSem (X : Cx) (e : Expr) : TT := fun σ H Q => ∀ whole pins s, Inv X pins σ H s → wpAny (model X.prog X.w) X.A (isTrue e X.env whole) (TP X pins σ Q) X.xe s
def aSem (X : Cx) (es : List Expr) : TA := fun σ H Q => ∀ pos pins s, Inv X pins σ H s → wpAny (model X.prog X.w) X.A (spliced (backTo pos (starEach es X.env))) (AP X pins σ Q) X.xe s
def sSem (X : Cx) (st : Stmt) : TS := fun Z σ H => ∀ pins s, Inv X pins σ H s → wpAny (model X.prog X.w) X.A (exec st X.env) (SP X pins Z) X.xe s
def ssSem (X : Cx) (st : List Stmt) : TS := fun Z σ H => ∀ pins s, Inv X pins σ H s → wpAny (model X.prog X.w) X.A (execs st X.env) (SP X pins Z) X.xe s
def gSem (X : Cx) (tg : Expr) : TG := fun v σ H Q => ∀ pins s u, Inv X pins σ H s → RelV v u → wpAny (model X.prog X.w) X.A (assign tg X.env u) (fun _ s' => ∃ σ' H', Inv X pins σ' H' s' ∧ Q σ' H') X.xe s
def gsSem (X : Cx) (ts : List Expr) : TGs := fun vs σ H Q => ∀ pins s us, Inv X pins σ H s → Vals vs us → wpAny (model X.prog X.w) X.A (assignInOrder ((assignEach ts X.env).map (·.2)) us) (fun _ s' => ∃ σ' H', Inv X pins σ' H' s' ∧ Q σ' H') X.xe s
section
variable {X : Cx} {e : Expr} {es : List Expr} {st : Stmt} {sts : List Stmt}
theorem pe_sem : PE X e (eSem X e) := ⟨fun pins s σ H Q I h => h pins s I⟩
theorem pb_sem : PT X e (bSem X e) := ⟨fun pins s σ H Q I h => h pins s I⟩
theorem pw_sem : PW X e (wSem X e) := ⟨fun wh pins s σ H Q I h => h wh pins s I⟩
theorem pa_sem : PA X es (aSem X es) := ⟨fun pos pins s σ H Q I h => h pos pins s I⟩
theorem ps_sem : PS X st (sSem X st) := ⟨fun pins s σ H Q I h => h pins s I⟩
theorem pss_sem : PSs X sts (ssSem X sts) := ⟨fun pins s σ H Q I h => h pins s I⟩
theorem pg_sem : PG X e (gSem X e) := ⟨fun pins s σ H v u Q I r h => h pins s u I r⟩
theorem pgs_sem : PGs X es (gsSem X es) := ⟨fun pins s σ H v u Q I r h => h pins s u I r⟩
theorem PE.sem {t : TE} (h : PE X e t) {σ : L2.St} {H : Hp} {Q : VK} (q : t σ H Q) : eSem X e σ H Q := fun pins s I => h.run pins s σ H Q I q
theorem PT.sem {t : TT} (h : PT X e t) {σ : L2.St} {H : Hp} {Q : Bool → Hp → Prop} (q : t σ H Q) : bSem X e σ H Q := fun pins s I => h.run pins s σ H Q I q
theorem PW.sem {t : TT} (h : PW X e t) {σ : L2.St} {H : Hp} {Q : Bool → Hp → Prop} (q : t σ H Q) : wSem X e σ H Q := fun wh pins s I => h.run wh pins s σ H Q I q
theorem PA.sem {t : TA} (h : PA X es t) {σ : L2.St} {H : Hp} {Q : List V → Hp → Prop} (q : t σ H Q) : aSem X es σ H Q := fun pos pins s I => h.run pos pins s σ H Q I q
theorem PS.sem {t : TS} (h : PS X st t) {σ : L2.St} {H : Hp} {Z : Ends} (q : t Z σ H) : sSem X st Z σ H := fun pins s I => h.run pins s σ H Z I q
theorem PSs.sem {t : TS} (h : PSs X sts t) {σ : L2.St} {H : Hp} {Z : Ends} (q : t Z σ H) : ssSem X sts Z σ H := fun pins s I => h.run pins s σ H Z I q
theorem PG.sem {t : TG} (h : PG X e t) {σ : L2.St} {H : Hp} {v : V} {Q : L2.St → Hp → Prop} (q : t v σ H Q) : gSem X e v σ H Q := fun pins s u I r => h.run pins s σ H v u Q I r q
theorem PGs.sem {t : TGs} (h : PGs X es t) {σ : L2.St} {H : Hp} {vs : List V} {Q : L2.St → Hp → Prop} (q : t vs σ H Q) : gsSem X es vs σ H Q := fun pins s u I r => h.run pins s σ H vs u Q I r q
end

/-! ### the judgements -/
/-- an expression's value, as data; what is behind it -/
structure VD (X : Cx) (e : Expr) (ρ : En) (P : D → En → Prop) : Prop where
  run : ∀ B H σ (Q : VK), Rel X.K B H σ ρ →
  (∀ v d B' H' ρ', P d ρ' → Dp X.K B' v d → Go B H ρ B' H' ρ' → Rel X.K B' H' σ ρ' → Q v H') → eSem X e σ H Q
/-- a list that was just made -/
structure VN (X : Cx) (e : Expr) (ρ : En) (P : List D → En → Prop) : Prop where
  run : ∀ B H σ (Q : VK), Rel X.K B H σ ρ →
  (∀ p vs ds B' H' ρ', P ds ρ' → H p = none → H' p = some (.lst vs) → B' p = none → ¬ Own ρ' p → DpAll X.K B' vs ds → Go B H ρ B' H' ρ' → Rel X.K B' H' σ ρ' → Q (.ref p) H') → eSem X e σ H Q
structure VT (X : Cx) (e : Expr) (ρ : En) (P : Bool → En → Prop) : Prop where
  run : ∀ B H σ (Q : Bool → Hp → Prop), Rel X.K B H σ ρ →
  (∀ b B' H' ρ', P b ρ' → Go B H ρ B' H' ρ' → Rel X.K B' H' σ ρ' → Q b H') → bSem X e σ H Q
structure VW (X : Cx) (e : Expr) (ρ : En) (P : Bool → En → Prop) : Prop where
  run : ∀ B H σ (Q : Bool → Hp → Prop), Rel X.K B H σ ρ →
  (∀ b B' H' ρ', P b ρ' → Go B H ρ B' H' ρ' → Rel X.K B' H' σ ρ' → Q b H') → wSem X e σ H Q
structure VA (X : Cx) (es : List Expr) (ρ : En) (P : List D → En → Prop) : Prop where
  run : ∀ B H σ (Q : List V → Hp → Prop), Rel X.K B H σ ρ →
  (∀ vs ds B' H' ρ', P ds ρ' → DpAll X.K B' vs ds → Go B H ρ B' H' ρ' → Rel X.K B' H' σ ρ' → Q vs H') → aSem X es σ H Q
/-- the ends of a block -/
structure Fin where
  nx : En → Prop
  rt : D → En → Prop
  bk : En → Prop := fun _ => False
  ct : En → Prop := fun _ => False
structure FinOk (K : PySem.W.Frag) (B H : Hp) (ρ : En) (F : Fin) (Z : Ends) : Prop where
  nx : ∀ B' H' σ' ρ', F.nx ρ' → Go B H ρ B' H' ρ' → Rel K B' H' σ' ρ' → Z.nx σ' H'
  rt : ∀ v d B' H' σ' ρ', F.rt d ρ' → Dp K B' v d → Go B H ρ B' H' ρ' → Rel K B' H' σ' ρ' → Z.rt v H'
  bk : ∀ B' H' σ' ρ', F.bk ρ' → Go B H ρ B' H' ρ' → Rel K B' H' σ' ρ' → Z.bk σ' H'
  ct : ∀ B' H' σ' ρ', F.ct ρ' → Go B H ρ B' H' ρ' → Rel K B' H' σ' ρ' → Z.ct σ' H'
structure VS (X : Cx) (st : Stmt) (ρ : En) (F : Fin) : Prop where
  run : ∀ B H σ (Z : Ends), Rel X.K B H σ ρ → FinOk X.K B H ρ F Z → sSem X st Z σ H
structure VSs (X : Cx) (sts : List Stmt) (ρ : En) (F : Fin) : Prop where
  run : ∀ B H σ (Z : Ends), Rel X.K B H σ ρ → FinOk X.K B H ρ F Z → ssSem X sts Z σ H
/-- data into a target -/
structure VG (X : Cx) (tg : Expr) (d : D) (ρ : En) (P : En → Prop) : Prop where
  run : ∀ v B H σ (Q : L2.St → Hp → Prop), Rel X.K B H σ ρ → Dp X.K B v d →
  (∀ B' H' σ' ρ', P ρ' → Go B H ρ B' H' ρ' → Rel X.K B' H' σ' ρ' → Q σ' H') → gSem X tg v σ H Q
structure VGs (X : Cx) (tg : List Expr) (ds : List D) (ρ : En) (P : En → Prop) : Prop where
  run : ∀ vs B H σ (Q : L2.St → Hp → Prop), Rel X.K B H σ ρ → DpAll X.K B vs ds →
  (∀ B' H' σ' ρ', P ρ' → Go B H ρ B' H' ρ' → Rel X.K B' H' σ' ρ' → Q σ' H') → gsSem X tg vs σ H Q

theorem FinOk.go {K : PySem.W.Frag} {B H B1 H1 : Hp} {ρ ρ1 : En} {F : Fin} {Z : Ends} (f : FinOk K B H ρ F Z) (g : Go B H ρ B1 H1 ρ1) : FinOk K B1 H1 ρ1 F Z where
  nx := fun B' H' σ' ρ' p q r => f.nx B' H' σ' ρ' p (g.trans q) r
  rt := fun v d B' H' σ' ρ' p h q r => f.rt v d B' H' σ' ρ' p h (g.trans q) r
  bk := fun B' H' σ' ρ' p q r => f.bk B' H' σ' ρ' p (g.trans q) r
  ct := fun B' H' σ' ρ' p q r => f.ct B' H' σ' ρ' p (g.trans q) r

/-! ### the context -/
inductive At {α : Type} : List α → Nat → α → Prop where
  | here {x : α} {l : List α} : At (x :: l) 0 x
  | there {x y : α} {l : List α} {i : Nat} : At l i x → At (y :: l) (i + 1) x
theorem At.get {α : Type} {l : List α} {i : Nat} {x : α} (h : At l i x) : l[i]? = some x := by
  induction h with
  | here => rfl
  | there _ ih => simpa using ih
theorem At.mem {α : Type} {l : List α} {i : Nat} {x : α} (h : At l i x) : x ∈ l := by
  induction h with
  | here => exact List.mem_cons_self
  | there _ ih => exact List.mem_cons_of_mem _ ih
/-- the program -/
structure Md where
  prog : Program
  w : World
  K : PySem.W.Frag
  mg : Str → Option Value
  base : Heap
def mdOf (X : Cx) : Md := ⟨X.prog, X.w, X.K, X.mg, X.base⟩
/-- a def's scope, its names by slot (seen in its body or not, stored there or not), its global names -/
structure Cst (X : Cx) (M : Md) (sc : Scope) (NK : List (Str × Bool × Bool)) (G : List Str) (k : Nat) : Prop where
  m : mdOf X = M
  s : X.env.scope = sc
  n : X.N = NK.map (·.1)
  vis : ∀ (i : Nat) x l, NK[i]? = some (x, true, l) → Vis X.env.scope x
  loc : ∀ (i : Nat) x v, NK[i]? = some (x, v, true) → L2.Loc X.env.scope x ∧ (X.fn x = true ∨ X.env.scope.names.lookup x = some .local)
  gl : ∀ x ∈ G, Gl X x
  nd : X.N.Nodup
  calm : X.calm = true
  room : Room k X.A
  xe : X.xe = fun _ _ => False
def kindOk (sc : Scope) (d : Bool) (q : Str × Bool × Bool) : Bool :=
  (!q.2.1 || (match sc.names.lookup q.1 with | some .local => true | some .cell => true | some .free => true | _ => false)) &&
  (!q.2.2 || (match sc.names.lookup q.1 with | some .local => true | some .cell => d | _ => false))
def chk (sc : Scope) (d : Bool) (NK : List (Str × Bool × Bool)) (G : List Str) : Bool :=
  NK.all (kindOk sc d) && G.all (fun x => match sc.names.lookup x with | some .globalImplicit => true | _ => false)
section
variable {X : Cx} {M : Md} {sc : Scope} {NK : List (Str × Bool × Bool)} {G : List Str} {k : Nat}
theorem chk_vis {sc : Scope} {d : Bool} (h : chk sc d NK G = true) (i : Nat) (x : Str) (l : Bool) (e : NK[i]? = some (x, true, l)) : Vis sc x := by
  unfold chk at h
  rw [Bool.and_eq_true, List.all_eq_true] at h
  have q := h.1 _ (List.mem_of_getElem? e)
  unfold kindOk at q
  rw [Bool.and_eq_true] at q
  have q1 := q.1
  simp only [Bool.not_true, Bool.false_or] at q1
  unfold Vis
  split at q1 <;> first
    | (rename_i e; exact .inl e)
    | (rename_i e; exact .inr (.inl e))
    | (rename_i e; exact .inr (.inr e))
    | cases q1
theorem chk_loc {sc : Scope} {d : Bool} (h : chk sc d NK G = true) (i : Nat) (x : Str) (v : Bool) (e : NK[i]? = some (x, v, true)) : L2.Loc sc x ∧ (d = true ∨ sc.names.lookup x = some .local) := by
  unfold chk at h
  rw [Bool.and_eq_true, List.all_eq_true] at h
  have q := h.1 _ (List.mem_of_getElem? e)
  unfold kindOk at q
  rw [Bool.and_eq_true] at q
  have q1 := q.2
  simp only [Bool.not_true, Bool.false_or] at q1
  unfold L2.Loc
  split at q1 <;> first
    | (rename_i e; exact ⟨.inl e, .inr e⟩)
    | (rename_i e; exact ⟨.inr e, .inl q1⟩)
    | cases q1
theorem chk_gl {sc : Scope} {d : Bool} (h : chk sc d NK G = true) (x : Str) (e : x ∈ G) : sc.names.lookup x = some .globalImplicit := by
  unfold chk at h
  rw [Bool.and_eq_true, List.all_eq_true, List.all_eq_true] at h
  have q := h.2 _ e
  split at q
  · assumption
  · cases q
theorem Cst.ix (C : Cst X M sc NK G k) {i : Nat} {x : Str} {v l : Bool} (h : At NK i (x, v, l)) : X.N[i]? = some x := by
  rw [C.n, List.getElem?_map, h.get]
  rfl
theorem Cst.vi (C : Cst X M sc NK G k) {i : Nat} {x : Str} {l : Bool} (h : At NK i (x, true, l)) : Vis X.env.scope x := C.vis i x l h.get
theorem Cst.lo (C : Cst X M sc NK G k) {i : Nat} {x : Str} {v : Bool} (h : At NK i (x, v, true)) : L2.Loc X.env.scope x := (C.loc i x v h.get).1
theorem Cst.fn (C : Cst X M sc NK G k) {i : Nat} {x : Str} {v : Bool} (h : At NK i (x, v, true)) : X.fn x = true ∨ X.env.scope.names.lookup x = some .local := (C.loc i x v h.get).2
theorem Cst.g (C : Cst X M sc NK G k) {i : Nat} {x : Str} (h : At G i x) : Gl X x := C.gl x h.mem
theorem Cst.hu (C : Cst X M sc NK G k) : X.A.units + 64 < cLine := C.room.units
theorem Cst.hu1 (C : Cst X M sc NK G k) : X.A.units + 65 < cLine := by
  have := C.room.un
  omega
theorem Cst.mg (C : Cst X M sc NK G k) {x : Str} {o : Option Value} (h : M.mg x = o) : X.mg x = o := by
  have e := C.m
  subst e
  exact h
theorem Cst.never (C : Cst X M sc NK G k) : PassesOwn (model X.prog X.w) X.A X.env X.xe := by
  rw [C.xe]
  exact PassesOwn.never
/-- a def's own body -/
theorem cst_def {P : Program} {w : World} {K : PySem.W.Frag} {mg : Str → Option Value} {base : Heap} {N : List Str} {qual : Str} {sc : Scope} {f : Addr} {cdv : Value} {A : Around} {outer : List Env} {s : Shared} {H : Hp} {E : XK}
    (hN : N = NK.map (·.1)) (nd : N.Nodup) (h : chk sc true NK G = true) (hr : Room k (A.deeper (envOfC qual sc s.heap.objs.size f cdv))) : Cst (cxOf CX0 P w K mg base N qual sc f cdv A outer s H E).nox ⟨P, w, K, mg, base⟩ sc NK G k where
  m := rfl
  s := rfl
  n := hN
  vis := chk_vis h
  loc := fun i x v e => ⟨(chk_loc h i x v e).1, .inl rfl⟩
  gl := fun x e => chk_gl h x e
  nd := nd
  calm := rfl
  room := hr
  xe := rfl
/-- a comprehension's block -/
theorem cst_blk {scope : Scope} {s : Shared} {H : Hp} {C : Addr} {cl : List (Str × Addr)} {fp : List Addr} {NK' : List (Str × Bool × Bool)} {G' : List Str} (c : Cst X M sc NK G k) 
    (hN : NK'.map (·.1) = NK.map (·.1)) (h : chk (relS scope sc) false NK' G' = true) : Cst (X.blk s H scope (compEnvC scope cl C X.env) fp) M (relS scope sc) NK' G' k where
  m := c.m
  s := by
    rw [← c.s]
    rfl
  n := c.n.trans hN.symm
  vis := fun i x l e => by
    have q := chk_vis h i x l e
    rw [← c.s] at q
    exact q
  loc := fun i x v e => by
    have q := chk_loc h i x v e
    rw [← c.s] at q
    refine ⟨q.1, .inr ?_⟩
    rcases q.2 with z | z
    · cases z
    · exact z
  gl := fun x e => by
    have q := chk_gl h x e
    rw [← c.s] at q
    exact q
  nd := c.nd
  calm := c.calm
  room := c.room
  xe := rfl
end

open PySem PySem.Spec PyProof.Rows L2
open Evl (Ex)

/-! ### operators on data -/
def binD : Operator → D → D → (D → Prop) → Prop
  | .Add, .int i, .int j, k => k (.int (i + j))
  | .Sub, .int i, .int j, k => k (.int (i - j))
  | .Sub, .bool p, .bool q, k => k (.int (PyProof.Rows.b2i p - PyProof.Rows.b2i q))
  | .Mult, .int i, .int j, k => CMulW i j ∧ k (.int (i * j))
  | .FloorDiv, .int i, .int j, k => CDivW i j ∧ k (.int (i / j))
  | .Mod, .int i, .int j, k => 0 < j ∧ k (.int (i % j))
  | .Pow, .int i, .int j, k => CPow i j ∧ k (.int (i ^ j.toNat))
  | .LShift, .int i, .int j, k => CPow i j ∧ k (.int (i * 2 ^ j.toNat))
  | _, _, _, _ => False
def unD : UnaryOp → D → (D → Prop) → Prop
  | .USub, .int i, k => k (.int (-i))
  | _, _, _ => False
def cmpD : CmpOp → D → D → (Bool → Prop) → Prop
  | .Lt, .int i, .int j, k => k (decide (i < j))
  | .LtE, .int i, .int j, k => k (decide (i ≤ j))
  | .Gt, .int i, .int j, k => k (decide (j < i))
  | .GtE, .int i, .int j, k => k (decide (j ≤ i))
  | .Eq, .int i, .int j, k => k (decide (i = j))
  | .NotEq, .int i, .int j, k => k (!decide (i = j))
  | .Eq, x, y, k => SeqAt.shaped x = true ∧ SeqAt.shaped y = true ∧ k (PyData.eqv x y)
  | .NotEq, x, y, k => SeqAt.shaped x = true ∧ SeqAt.shaped y = true ∧ k (!PyData.eqv x y)
  | .In, .int i, .tuple ys, k => ∃ js : List Int, ys = js.map PyData.int ∧ k (decide (i ∈ js))
  | .NotIn, .int i, .tuple ys, k => ∃ js : List Int, ys = js.map PyData.int ∧ k (!decide (i ∈ js))
  | .In, .int i, .list ys, k => ∃ js : List Int, ys = js.map PyData.int ∧ k (decide (i ∈ js))
  | .NotIn, .int i, .list ys, k => ∃ js : List Int, ys = js.map PyData.int ∧ k (!decide (i ∈ js))
  | .In, x, .list ys, k => SeqAt.shaped x = true ∧ SeqAt.shaped (.list ys) = true ∧ k (ys.any fun z => PyData.eqv z x)
  | .NotIn, x, .list ys, k => SeqAt.shaped x = true ∧ SeqAt.shaped (.list ys) = true ∧ k (!ys.any fun z => PyData.eqv z x)
  | _, _, _, _ => False
def ixD : D → D → (D → Prop) → Prop
  | .tuple ds, .int n, k => ∃ d, atI ds n = some d ∧ k d
  | .list ds, .int n, k => ∃ d, atI ds n = some d ∧ k d
  | _, _, _ => False
/-- a two-place step by itself -/
def oSem (X : Cx) (f : Value → Value → Sem Value) : R2 := fun x y H Q => ∀ pins s σ v u, Inv X pins σ H s → RelV x v → RelV y u → wpAny (model X.prog X.w) X.A (f v u) (EP X pins σ Q) X.xe s
theorem or_sem {X : Cx} {f : Value → Value → Sem Value} : OpR X f (oSem X f) := fun pins s σ H x y v u Q I rx ry h => h pins s σ v u I rx ry
theorem OpR.sem {X : Cx} {f : Value → Value → Sem Value} {r : R2} (h : OpR X f r) {x y : V} {H : Hp} {Q : VK} (q : r x y H Q) : oSem X f x y H Q := fun pins s σ v u I rx ry => h pins s σ H x y v u Q I rx ry q

section
variable {X : Cx} {M : Md} {sc : Scope} {NK : List (Str × Bool × Bool)} {G : List Str} {k : Nat} {ρ : En} {P : D → En → Prop} {PB : Bool → En → Prop} {PL : List D → En → Prop} {pos : Pos} {a b c e : Expr} {es rest : List Expr} {x : Str}

/-! ### names, constants -/
theorem vd_name (C : Cst X M sc NK G k) {i : Nat} {l : Bool} {d : D} (ha : At NK i (x, true, l)) (h : ρ[i]? = some (.dat d)) (p : P d ρ) (hd : (x == ("__debug__" : Str)) = false := by decide) (hcd : (x == ("__classdict__" : Str)) = false := by decide) : VD X (.Name x pos) ρ P := VD.mk fun B H σ Q r q => by
  obtain ⟨v, h1, h2⟩ := r.dat i d h
  exact PE.sem (pe_var (C.ix ha) (C.vi ha) hd hcd) ⟨v, h1, q v d B H ρ p h2 Go.refl r⟩
theorem vd_int {i : Int} {j : Nat} (p : P (.int i) ρ) : VD X (.Constant (.int i) j pos) ρ P := VD.mk fun B H σ Q r q => PE.sem pe_int (q _ _ B H ρ p (.int i) Go.refl r)
theorem vd_bool {i : Bool} {j : Nat} (p : P (.bool i) ρ) : VD X (.Constant (.bool i) j pos) ρ P := VD.mk fun B H σ Q r q => PE.sem pe_bl (q _ _ B H ρ p (.bl i) Go.refl r)
theorem vd_none {j : Nat} (p : P .none ρ) : VD X (.Constant .none j pos) ρ P := VD.mk fun B H σ Q r q => PE.sem pe_non (q _ _ B H ρ p .non Go.refl r)
theorem vd_str {z : Str} {j : Nat} (p : P (.str z) ρ) : VD X (.Constant (.str z) j pos) ρ P := VD.mk fun B H σ Q r q => PE.sem pe_str (q _ _ B H ρ p (.str z) Go.refl r)
theorem VD.imp {P' : D → En → Prop} (h : VD X e ρ P) (w : ∀ d ρ', P d ρ' → P' d ρ') : VD X e ρ P' := VD.mk fun B H σ Q r q => h.run B H σ Q r fun v d B' H' ρ' p => q v d B' H' ρ' (w d ρ' p)
theorem VN.imp {P' : List D → En → Prop} (h : VN X e ρ PL) (w : ∀ d ρ', PL d ρ' → P' d ρ') : VN X e ρ P' := VN.mk fun B H σ Q r q => h.run B H σ Q r fun p vs d B' H' ρ' pp => q p vs d B' H' ρ' (w d ρ' pp)

/-! ### operators -/
theorem op_bsub : OpR X (binaryOp .Sub) (fun x y H Q => ∃ p q, x = .bl p ∧ y = .bl q ∧ Q (.int (PyProof.Rows.b2i p - PyProof.Rows.b2i q)) H) := by
  intro pins s σ H x y v u Q I rx ry h
  obtain ⟨p, q, rfl, rfl, w⟩ := h
  cases rx
  cases ry
  exact PyProof.Rows.sub_bool ⟨.int _, H, I.tok _, ⟨_, rfl⟩, w⟩
theorem bin_ok {op : Operator} {x y : D} {vx vy : V} {B H : Hp} {σ : L2.St} {K : D → Prop} {Q : VK} (h : binD op x y K) (dx : Dp X.K B vx x) (dy : Dp X.K B vy y) (q : ∀ v d, K d → Dp X.K B v d → Q v H) : oSem X (binaryOp op) vx vy H Q := by
  unfold binD at h
  split at h <;> first
    | exact h.elim
    | (rw [dp_int dx, dp_int dy]; first
        | exact OpR.sem op_add ⟨_, _, rfl, rfl, q _ _ h (.int _)⟩
        | exact OpR.sem op_sub ⟨_, _, rfl, rfl, q _ _ h (.int _)⟩
        | exact OpR.sem op_mulW ⟨_, _, rfl, rfl, h.1, q _ _ h.2 (.int _)⟩
        | exact OpR.sem op_fdivW ⟨_, _, rfl, rfl, h.1, q _ _ h.2 (.int _)⟩
        | exact OpR.sem op_mod ⟨_, _, rfl, rfl, h.1, q _ _ h.2 (.int _)⟩
        | exact OpR.sem op_pow ⟨_, _, rfl, rfl, h.1, q _ _ h.2 (.int _)⟩
        | exact OpR.sem op_shl ⟨_, _, rfl, rfl, h.1, q _ _ h.2 (.int _)⟩)
    | (rw [dp_bool dx, dp_bool dy]; exact OpR.sem op_bsub ⟨_, _, rfl, rfl, q _ _ h (.int _)⟩)
theorem vd_bin {op : Operator} (h : VD X a ρ fun x ρ1 => VD X b ρ1 fun y ρ2 => binD op x y fun d => P d ρ2) : VD X (.BinOp a op b pos) ρ P := VD.mk fun B H σ Q r q => by
  refine PE.sem (pe_op or_sem pe_sem pe_sem) ?_
  refine h.run B H σ _ r fun vx x B1 H1 ρ1 p1 dx g1 r1 => ?_
  refine p1.run B1 H1 σ _ r1 fun vy y B2 H2 ρ2 p2 dy g2 r2 => ?_
  exact bin_ok (σ := σ) p2 (Dp.mono g2.ex dx) dy fun v d kd dv => q v d B2 H2 ρ2 kd dv (g1.trans g2) r2
theorem vd_neg (h : VD X a ρ fun x ρ1 => ∃ i, x = .int i ∧ P (.int (-i)) ρ1) : VD X (.UnaryOp .USub a pos) ρ P := VD.mk fun B H σ Q r q => by
  refine PE.sem (pe_un un_neg pe_sem) ?_
  refine h.run B H σ _ r fun vx x B1 H1 ρ1 p1 dx g1 r1 => ?_
  obtain ⟨i, rfl, p⟩ := p1
  exact ⟨i, dp_int dx, q _ _ B1 H1 ρ1 p (.int _) g1 r1⟩
theorem eqV_int {K : PySem.W.Frag} {B : Hp} {i : Int} : ∀ {js : List Int} {xs : List V}, DpAll K B xs (js.map PyData.int) → inV (.int i) xs = decide (i ∈ js) ∧ xs.all flatV = true
  | [], _, .nil => ⟨by unfold inV; simp, rfl⟩
  | j :: js, _, .cons (v := v) h hs => by
    obtain ⟨h1, h2⟩ := eqV_int (i := i) hs
    have hv := dp_int h
    subst hv
    refine ⟨?_, ?_⟩
    · unfold inV at h1 ⊢
      rw [List.any_cons, h1]
      by_cases e : j = i
      · subst e
        simp [eqV]
      · have e2 : ¬ i = j := fun z => e z.symm
        simp [eqV, e, e2]
    · rw [List.all_cons, h2]
      rfl
theorem cmp_ok (C : Cst X M sc NK G k) {op : CmpOp} {x y : D} {vx vy : V} {B H : Hp} (eB : Ex B H) {K : Bool → Prop} {Q : VK} (h : cmpD op x y K) (dx : Dp X.K B vx x) (dy : Dp X.K B vy y) (q : ∀ b, K b → Q (.bl b) H) : oSem X (compareOp op) vx vy H Q := by
  unfold cmpD at h
  split at h
  · rw [dp_int dx, dp_int dy]; exact OpR.sem op_lt ⟨_, _, rfl, rfl, q _ h⟩
  · rw [dp_int dx, dp_int dy]; exact OpR.sem op_le ⟨_, _, rfl, rfl, q _ h⟩
  · rw [dp_int dx, dp_int dy]; exact OpR.sem op_gt ⟨_, _, rfl, rfl, q _ h⟩
  · rw [dp_int dx, dp_int dy]; exact OpR.sem op_ge ⟨_, _, rfl, rfl, q _ h⟩
  · rename_i i j
    rw [dp_int dx, dp_int dy]
    refine OpR.sem op_eq ⟨rfl, ?_⟩
    have e : decide (V.int i = V.int j) = decide (i = j) := by
      by_cases z : i = j
      · rw [z, decide_eq_true rfl, decide_eq_true rfl]
      · rw [decide_eq_false z, decide_eq_false (fun w => z (V.int.inj w))]
    rw [e]
    exact q _ h
  · rename_i i j
    rw [dp_int dx, dp_int dy]
    refine OpR.sem op_ne ⟨rfl, ?_⟩
    have e : decide (V.int i = V.int j) = decide (i = j) := by
      by_cases z : i = j
      · rw [z, decide_eq_true rfl, decide_eq_true rfl]
      · rw [decide_eq_false z, decide_eq_false (fun w => z (V.int.inj w))]
    rw [e]
    exact q _ h
  · exact OpR.sem (op_eqD C.hu) ⟨_, _, Dp.mono eB dx, Dp.mono eB dy, h.1, h.2.1, q _ h.2.2⟩
  · exact OpR.sem (op_neD C.hu) ⟨_, _, Dp.mono eB dx, Dp.mono eB dy, h.1, h.2.1, q _ h.2.2⟩
  · obtain ⟨js, rfl, kk⟩ := h
    obtain ⟨t, xs, rfl, hT, hx⟩ := dp_tup dy
    obtain ⟨e1, e2⟩ := eqV_int (i := by assumption) hx
    rw [dp_int dx]
    refine OpR.sem op_in_seq ⟨t, xs, rfl, .inr (ex_t eB hT), rfl, e2, ?_⟩
    rw [if_neg Bool.false_ne_true, e1]
    exact q _ kk
  · obtain ⟨js, rfl, kk⟩ := h
    obtain ⟨t, xs, rfl, hT, hx⟩ := dp_tup dy
    obtain ⟨e1, e2⟩ := eqV_int (i := by assumption) hx
    rw [dp_int dx]
    refine OpR.sem op_notIn_seq ⟨t, xs, rfl, .inr (ex_t eB hT), rfl, e2, ?_⟩
    rw [if_pos rfl, e1]
    exact q _ kk
  · obtain ⟨js, rfl, kk⟩ := h
    obtain ⟨t, xs, rfl, hT, hx⟩ := dp_lst dy
    obtain ⟨e1, e2⟩ := eqV_int (i := by assumption) hx
    rw [dp_int dx]
    refine OpR.sem op_in_seq ⟨t, xs, rfl, .inl (ex_l eB hT), rfl, e2, ?_⟩
    rw [if_neg Bool.false_ne_true, e1]
    exact q _ kk
  · obtain ⟨js, rfl, kk⟩ := h
    obtain ⟨t, xs, rfl, hT, hx⟩ := dp_lst dy
    obtain ⟨e1, e2⟩ := eqV_int (i := by assumption) hx
    rw [dp_int dx]
    refine OpR.sem op_notIn_seq ⟨t, xs, rfl, .inl (ex_l eB hT), rfl, e2, ?_⟩
    rw [if_pos rfl, e1]
    exact q _ kk
  · exact OpR.sem (op_inD C.hu1) ⟨_, _, Dp.mono eB dx, Dp.mono eB dy, h.1, h.2.1, q _ h.2.2⟩
  · exact OpR.sem (op_notInD C.hu1) ⟨_, _, Dp.mono eB dx, Dp.mono eB dy, h.1, h.2.1, q _ h.2.2⟩
  · exact h.elim
theorem vd_cmp (C : Cst X M sc NK G k) {op : CmpOp} (h : VD X a ρ fun x ρ1 => VD X b ρ1 fun y ρ2 => cmpD op x y fun bb => P (.bool bb) ρ2) (hm : behindInMarks op b = false := by first | exact nobehind _ (by decide) (by decide) | rfl) : VD X (.Compare a [op] [b] pos) ρ P := VD.mk fun B H σ Q r q => by
  refine PE.sem (pe_cmpR or_sem pe_sem pe_sem hm) ?_
  refine h.run B H σ _ r fun vx x B1 H1 ρ1 p1 dx g1 r1 => ?_
  refine p1.run B1 H1 σ _ r1 fun vy y B2 H2 ρ2 p2 dy g2 r2 => ?_
  exact cmp_ok C r2.ex p2 (Dp.mono g2.ex dx) dy fun bb kb => q _ _ B2 H2 ρ2 kb (.bl bb) (g1.trans g2) r2

/-! ### tests -/
theorem vt_cmp (C : Cst X M sc NK G k) {op : CmpOp} (h : VD X a ρ fun x ρ1 => VD X b ρ1 fun y ρ2 => cmpD op x y fun bb => PB bb ρ2) (hm : behindInMarks op b = false := by first | exact nobehind _ (by decide) (by decide) | rfl) : VT X (.Compare a [op] [b] pos) ρ PB := VT.mk fun B H σ Q r q => by
  refine PT.sem (pt_cmpR or_sem pe_sem pe_sem hm) ?_
  refine h.run B H σ _ r fun vx x B1 H1 ρ1 p1 dx g1 r1 => ?_
  refine p1.run B1 H1 σ _ r1 fun vy y B2 H2 ρ2 p2 dy g2 r2 => ?_
  exact cmp_ok C r2.ex p2 (Dp.mono g2.ex dx) dy fun bb kb => ⟨bb, rfl, q bb B2 H2 ρ2 kb (g1.trans g2) r2⟩
theorem vt_val (h : VD X e ρ fun d ρ1 => ∃ bb, d = .bool bb ∧ PB bb ρ1) (he : ∀ whole, isTrue e X.env whole = (do let v ← whole; standAt e.pos; holding [v] (truthy v)) := by intro _; rfl) : VT X e ρ PB := VT.mk fun B H σ Q r q => by
  refine PT.sem (pt_val pe_sem he) ?_
  refine h.run B H σ _ r fun v d B1 H1 ρ1 p1 dx g1 r1 => ?_
  obtain ⟨bb, rfl, p⟩ := p1
  exact ⟨bb, dp_bool dx, q bb B1 H1 ρ1 p g1 r1⟩
theorem vt_w (h : VW X e ρ PB) : VT X e ρ PB := VT.mk fun B H σ Q r q => PT.sem (PW.pt pw_sem) (h.run B H σ Q r q)
theorem vt_not (h : VT X a ρ fun bb ρ1 => PB (!bb) ρ1) : VT X (.UnaryOp .Not a pos) ρ PB := VT.mk fun B H σ Q r q => PT.sem (pt_not pb_sem) (h.run B H σ _ r fun bb B1 H1 ρ1 p g r1 => q (!bb) B1 H1 ρ1 p g r1)
theorem vw_and1 (h : VT X a ρ PB) : VW X (.BoolOp .And [a] pos) ρ PB := VW.mk fun B H σ Q r q => PW.sem (pw_and1 pb_sem) (h.run B H σ Q r q)
theorem vw_or1 (h : VT X a ρ PB) : VW X (.BoolOp .Or [a] pos) ρ PB := VW.mk fun B H σ Q r q => PW.sem (pw_or1 pb_sem) (h.run B H σ Q r q)
theorem vw_and (h : VT X a ρ fun bb ρ1 => (bb = true → VW X (.BoolOp .And (b :: rest) pos) ρ1 PB) ∧ (bb = false → PB false ρ1)) : VW X (.BoolOp .And (a :: b :: rest) pos) ρ PB := VW.mk fun B H σ Q r q => by
  refine PW.sem (pw_and pb_sem pw_sem) ?_
  refine h.run B H σ _ r fun bb B1 H1 ρ1 p g1 r1 => ?_
  cases bb with
  | true => exact (p.1 rfl).run B1 H1 σ Q r1 fun b2 B2 H2 ρ2 p2 g2 r2 => q b2 B2 H2 ρ2 p2 (g1.trans g2) r2
  | false => exact q false B1 H1 ρ1 (p.2 rfl) g1 r1
theorem vw_or (h : VT X a ρ fun bb ρ1 => (bb = true → PB true ρ1) ∧ (bb = false → VW X (.BoolOp .Or (b :: rest) pos) ρ1 PB)) : VW X (.BoolOp .Or (a :: b :: rest) pos) ρ PB := VW.mk fun B H σ Q r q => by
  refine PW.sem (pw_or pb_sem pw_sem) ?_
  refine h.run B H σ _ r fun bb B1 H1 ρ1 p g1 r1 => ?_
  cases bb with
  | true => exact q true B1 H1 ρ1 (p.1 rfl) g1 r1
  | false => exact (p.2 rfl).run B1 H1 σ Q r1 fun b2 B2 H2 ρ2 p2 g2 r2 => q b2 B2 H2 ρ2 p2 (g1.trans g2) r2
theorem vd_if (h : VT X c ρ fun bb ρ1 => (bb = true → VD X a ρ1 P) ∧ (bb = false → VD X b ρ1 P)) : VD X (.IfExp c a b pos) ρ P := VD.mk fun B H σ Q r q => by
  refine PE.sem (pe_ifExp pb_sem pe_sem pe_sem) ?_
  refine h.run B H σ _ r fun bb B1 H1 ρ1 p g1 r1 => ?_
  cases bb with
  | true => exact (p.1 rfl).run B1 H1 σ Q r1 fun v d B2 H2 ρ2 p2 dd g2 r2 => q v d B2 H2 ρ2 p2 dd (g1.trans g2) r2
  | false => exact (p.2 rfl).run B1 H1 σ Q r1 fun v d B2 H2 ρ2 p2 dd g2 r2 => q v d B2 H2 ρ2 p2 dd (g1.trans g2) r2
theorem vd_one {op : BoolOp} (h : VD X a ρ P) : VD X (.BoolOp op [a] pos) ρ P := VD.mk fun B H σ Q r q => PE.sem (pe_one pe_sem) (h.run B H σ Q r q)
theorem vd_and (h : VD X a ρ fun d ρ1 => ∃ bb, d = .bool bb ∧ (bb = true → VD X (.BoolOp .And (b :: rest) pos) ρ1 P) ∧ (bb = false → P (.bool false) ρ1)) : VD X (.BoolOp .And (a :: b :: rest) pos) ρ P := VD.mk fun B H σ Q r q => by
  refine PE.sem (pe_and pe_sem pe_sem) ?_
  refine h.run B H σ _ r fun v d B1 H1 ρ1 p dx g1 r1 => ?_
  obtain ⟨bb, rfl, p1, p2⟩ := p
  refine ⟨bb, dp_bool dx, ?_⟩
  cases bb with
  | true => exact (p1 rfl).run B1 H1 σ Q r1 fun v d B2 H2 ρ2 p2 dd g2 r2 => q v d B2 H2 ρ2 p2 dd (g1.trans g2) r2
  | false => exact q _ _ B1 H1 ρ1 (p2 rfl) (.bl false) g1 r1
theorem vd_or (h : VD X a ρ fun d ρ1 => ∃ bb, d = .bool bb ∧ (bb = true → P (.bool true) ρ1) ∧ (bb = false → VD X (.BoolOp .Or (b :: rest) pos) ρ1 P)) : VD X (.BoolOp .Or (a :: b :: rest) pos) ρ P := VD.mk fun B H σ Q r q => by
  refine PE.sem (pe_or pe_sem pe_sem) ?_
  refine h.run B H σ _ r fun v d B1 H1 ρ1 p dx g1 r1 => ?_
  obtain ⟨bb, rfl, p1, p2⟩ := p
  refine ⟨bb, dp_bool dx, ?_⟩
  cases bb with
  | true => exact q _ _ B1 H1 ρ1 (p1 rfl) (.bl true) g1 r1
  | false => exact (p2 rfl).run B1 H1 σ Q r1 fun v d B2 H2 ρ2 p2 dd g2 r2 => q v d B2 H2 ρ2 p2 dd (g1.trans g2) r2
theorem vd_not (h : VD X a ρ fun d ρ1 => ∃ bb, d = .bool bb ∧ P (.bool (!bb)) ρ1) : VD X (.UnaryOp .Not a pos) ρ P := VD.mk fun B H σ Q r q => by
  refine PE.sem (pe_not pe_sem) ?_
  refine h.run B H σ _ r fun v d B1 H1 ρ1 p dx g1 r1 => ?_
  obtain ⟨bb, rfl, p1⟩ := p
  exact ⟨bb, dp_bool dx, q _ _ B1 H1 ρ1 p1 (.bl _) g1 r1⟩

/-! ### lists of arguments, displays -/
theorem va_nil (p : PL [] ρ) : VA X [] ρ PL := VA.mk fun B H σ Q r q => PA.sem pa_nil (q [] [] B H ρ p .nil Go.refl r)
theorem va_cons (h : VD X e ρ fun d ρ1 => VA X es ρ1 fun ds ρ2 => PL (d :: ds) ρ2) (hs : starEach (e :: es) X.env = (false, eval e X.env) :: starEach es X.env := by rfl) : VA X (e :: es) ρ PL := VA.mk fun B H σ Q r q => by
  refine PA.sem (pa_cons pe_sem pa_sem hs) ?_
  refine h.run B H σ _ r fun v d B1 H1 ρ1 p1 dv g1 r1 => ?_
  exact p1.run B1 H1 σ _ r1 fun vs ds B2 H2 ρ2 p2 dvs g2 r2 => q (v :: vs) (d :: ds) B2 H2 ρ2 p2 (.cons (Dp.mono g2.ex dv) dvs) (g1.trans g2) r2
theorem vd_tup {kk : Nat} (h : VA X es ρ fun ds ρ1 => ds.length ≤ 1000 ∧ P (.tuple ds) ρ1) : VD X (.Tuple es kk pos) ρ P := VD.mk fun B H σ Q r q => by
  refine PE.sem (pe_tup pa_sem) ?_
  refine h.run B H σ _ r fun vs ds B1 H1 ρ1 p1 dvs g1 r1 => ⟨?_, fun p hp => ?_⟩
  · rw [DpAll.len dvs]
    exact Nat.le_trans p1.1 (by decide)
  · obtain ⟨r2, g2⟩ := new_both (o := .tup vs) r1 hp
    exact q _ _ _ _ ρ1 p1.2 (.tup (.inl (.inl upd_same)) (DpAll.mono g2.ex dvs)) (g1.trans g2) r2
theorem vn_lst (h : VA X es ρ fun ds ρ1 => ds.length ≤ 1000 ∧ PL ds ρ1) : VN X (.List es pos) ρ PL := VN.mk fun B H σ Q r q => by
  refine PE.sem (pe_lst pa_sem) ?_
  refine h.run B H σ _ r fun vs ds B1 H1 ρ1 p1 dvs g1 r1 => ⟨?_, fun p hp => ?_⟩
  · rw [DpAll.len dvs]
    exact Nat.le_trans p1.1 (by decide)
  · obtain ⟨r2, g2, bp⟩ := new_one (o := .lst vs) r1 hp
    refine q p vs ds _ _ ρ1 p1.2 ?_ upd_same bp (fun z => ?_) dvs (g1.trans g2) r2
    · exact g1.dom p hp
    · obtain ⟨i, fs, hf⟩ := z
      obtain ⟨_, _, ws, h5, _⟩ := r1.own i p fs hf
      rw [hp] at h5
      cases h5
end

open PySem PySem.Spec PyProof.Rows L2
open Evl (Ex)

section
variable {X : Cx} {M : Md} {sc : Scope} {NK : List (Str × Bool × Bool)} {G : List Str} {k : Nat} {ρ : En} {P : D → En → Prop} {PB : Bool → En → Prop} {PL : List D → En → Prop} {pos : Pos} {a b c e : Expr} {es rest : List Expr} {x : Str}

/-- a new list as data that stays -/
theorem vn_vd (h : VN X e ρ fun ds ρ1 => P (.list ds) ρ1) : VD X e ρ P := VD.mk fun B H σ Q r q => by
  refine h.run B H σ Q r fun p vs ds B1 H1 ρ1 p1 hp h1 bp no dvs g1 r1 => ?_
  have eB : Ex B1 (upd B1 p (.lst vs)) := Evl.Ex.new bp
  have ne : ∀ a, Own ρ1 a → a ≠ p := fun a z e => no (e ▸ z)
  refine q _ _ (upd B1 p (.lst vs)) H1 ρ1 p1 (.lst (.inl (.inl upd_same)) (DpAll.mono eB dvs)) ⟨g1.ex.trans eB, g1.keep, fun a h1 h2 h3 => ?_, g1.own, g1.dom⟩ ⟨fun a u ha => ?_, r1.len, fun i d hi => ?_, fun i a ds' hi => ?_, r1.dis⟩
  · rw [upd_ne (fun z => h1 (by rw [z]; exact hp))]
    exact g1.out a h1 h2 h3
  · by_cases z : a = p
    · rw [z, upd_same] at ha
      rw [z, h1]
      exact ha
    · rw [upd_ne z] at ha
      exact r1.ex a u ha
  · obtain ⟨v, h1, h2⟩ := r1.dat i d hi
    exact ⟨v, h1, Dp.mono eB h2⟩
  · obtain ⟨h1, h2, ws, h3, h4⟩ := r1.own i a ds' hi
    refine ⟨h1, ?_, ws, h3, DpAll.mono eB h4⟩
    rw [upd_ne (ne a ⟨i, ds', hi⟩)]
    exact h2

/-! ### subscripts -/
def iSem (X : Cx) : R2 := fun x y H Q => ∀ value slice pins s σ v u, Inv X pins σ H s → RelV x v → RelV y u → subscripted slice false v u = operate [v, u] (getItem v u) → wpAny (model X.prog X.w) X.A (subscriptTail value slice v u) (EP X pins σ Q) X.xe s
theorem ir_sem : IxR X (iSem X) := fun value slice pins s σ H x y v u Q I rx ry h hs => h value slice pins s σ v u I rx ry hs
theorem IxR.sem {r : R2} (h : IxR X r) {x y : V} {H : Hp} {Q : VK} (q : r x y H Q) : iSem X x y H Q := fun value slice pins s σ v u I rx ry hs => h value slice pins s σ H x y v u Q I rx ry q hs
theorem atI_dp {K : PySem.W.Frag} {B : Hp} {vs : List V} {ds : List D} {n : Int} {d : D} (h : DpAll K B vs ds) (e : atI ds n = some d) : ∃ v, atI vs n = some v ∧ Dp K B v d := by
  unfold atI at e ⊢
  rw [DpAll.len h]
  cases q : ixN ds.length n with
  | none =>
    rw [q] at e
    cases e
  | some j =>
    rw [q] at e
    have e' : ds[j]? = some d := e
    exact DpAll.get h e'
theorem vd_ix (h : VD X a ρ fun x ρ1 => VD X b ρ1 fun y ρ2 => ixD x y fun d => P d ρ2) (hs : PlainIx b := by exact fun _ _ => rfl) : VD X (.Subscript a b pos) ρ P := VD.mk fun B H σ Q r q => by
  refine PE.sem (pe_ix ir_sem pe_sem pe_sem hs) ?_
  refine h.run B H σ _ r fun vx x B1 H1 ρ1 p1 dx g1 r1 => ?_
  refine p1.run B1 H1 σ _ r1 fun vy y B2 H2 ρ2 p2 dy g2 r2 => ?_
  replace p2 : ixD x y (fun d => P d ρ2) := p2
  unfold ixD at p2
  split at p2
  · obtain ⟨d, e, p⟩ := p2
    obtain ⟨t, vs, rfl, hT, hv⟩ := dp_tup dx
    obtain ⟨v, ev, dv⟩ := atI_dp hv e
    rw [dp_int dy]
    exact IxR.sem ix_tup ⟨t, vs, _, v, rfl, rfl, ex_t (g2.ex.trans r2.ex) hT, ev, q v d B2 H2 ρ2 p (Dp.mono g2.ex dv) (g1.trans g2) r2⟩
  · obtain ⟨d, e, p⟩ := p2
    obtain ⟨t, vs, rfl, hT, hv⟩ := dp_lst dx
    obtain ⟨v, ev, dv⟩ := atI_dp hv e
    rw [dp_int dy]
    exact IxR.sem ix_list ⟨t, vs, _, v, rfl, rfl, ex_l (g2.ex.trans r2.ex) hT, ev, q v d B2 H2 ρ2 p (Dp.mono g2.ex dv) (g1.trans g2) r2⟩
  · exact p2.elim
/-- xs[i], xs a list of one's own -/
theorem vd_ixo (C : Cst X M sc NK G k) {i : Nat} {l : Bool} {p : Addr} {cs : List D} {px : Pos} (ha : At NK i (x, true, l)) (ho : ρ[i]? = some (.own p cs))
    (h : VD X b ρ fun y ρ1 => ∃ n cs1 d, y = .int n ∧ ρ1[i]? = some (.own p cs1) ∧ atI cs1 n = some d ∧ P d ρ1) (hs : PlainIx b := by exact fun _ _ => rfl) (hd : (x == ("__debug__" : Str)) = false := by decide) (hcd : (x == ("__classdict__" : Str)) = false := by decide) : VD X (.Subscript (.Name x px) b pos) ρ P := VD.mk fun B H σ Q r q => by
  refine PE.sem (pe_ix ix_list (pe_var (C.ix ha) (C.vi ha) hd hcd) pe_sem hs) ?_
  refine ⟨.ref p, (r.own i p cs ho).1, ?_⟩
  refine h.run B H σ _ r fun vy y B1 H1 ρ1 p1 dy g1 r1 => ?_
  obtain ⟨n, cs1, d, rfl, ho1, e, pp⟩ := p1
  obtain ⟨_, _, vs, h3, h4⟩ := r1.own i p cs1 ho1
  obtain ⟨v, ev, dv⟩ := atI_dp h4 e
  exact ⟨p, vs, n, v, rfl, dp_int dy, .inl (.inl h3), ev, q v d B1 H1 ρ1 pp dv g1 r1⟩
theorem cut_take {vs : List V} (n : Nat) : cutV vs none (some (n : Int)) = vs.take n := by
  unfold cutV
  rw [HT.sIx_none, HT.sIx_nat, Nat.sub_zero, List.drop_zero]
  by_cases h : n ≤ vs.length
  · rw [Nat.min_eq_left h]
  · rw [Nat.min_eq_right (by omega), List.take_length, List.take_of_length_le (by omega)]
theorem cut_drop {vs : List V} (n : Nat) : cutV vs (some (n : Int)) none = vs.drop n := by
  unfold cutV
  rw [HT.sIx_none, HT.sIx_nat]
  by_cases h : n ≤ vs.length
  · rw [Nat.min_eq_left h, List.take_of_length_le (by rw [List.length_drop]; omega)]
  · rw [Nat.min_eq_right (by omega), List.drop_length, List.drop_of_length_le (by omega), List.take_nil]
/-- xs[:n], n written -/
theorem vn_take {n j : Nat} {pc p2 : Pos} (h : VD X a ρ fun d ρ1 => ∃ ds, d = .list ds ∧ PL (ds.take n) ρ1) : VN X (.Subscript a (.Slice none (some (.Constant (.int (n : Int)) j pc)) none p2) pos) ρ PL := VN.mk fun B H σ Q r q => by
  refine PE.sem (pe_slice sl_list pe_sem po_none (po_some pe_int)) ?_
  refine h.run B H σ _ r fun v d B1 H1 ρ1 p1 dv g1 r1 => ?_
  obtain ⟨ds, rfl, p⟩ := p1
  obtain ⟨t, vs, rfl, hT, hv⟩ := dp_lst dv
  refine ⟨(n : Int), rfl, t, vs, rfl, ex_l r1.ex hT, fun z hz => ?_⟩
  rw [cut_take]
  obtain ⟨r2, g2, bp⟩ := new_one (o := .lst (vs.take n)) r1 hz
  refine q z _ _ _ _ ρ1 p (g1.dom z hz) upd_same bp (fun w => ?_) (DpAll.take n hv) (g1.trans g2) r2
  obtain ⟨i, fs, hf⟩ := w
  obtain ⟨_, _, ws, h5, _⟩ := r1.own i z fs hf
  rw [hz] at h5
  cases h5

/-! ### built-in functions -/
def cSem (X : Cx) (f : Value) : List V → Hp → VK → Prop := fun vs H Q => ∀ pins s σ us, Inv X pins σ H s → Vals vs us → wpAny (model X.prog X.w) X.A (call f us) (EP X pins σ Q) X.xe s
theorem cr_sem {f : Value} : CallR X f (cSem X f) := fun pins s σ H xs us Q I r h => h pins s σ us I r
theorem CallR.sem {f : Value} {r : List V → Hp → VK → Prop} (h : CallR X f r) {xs : List V} {H : Hp} {Q : VK} (q : r xs H Q) : cSem X f xs H Q := fun pins s σ us I rv => h pins s σ H xs us Q I rv q
/-- what a built-in does with data -/
def Does (X : Cx) (f : Value) (S : List D → (D → Prop) → Prop) : Prop := ∀ (B H : Hp) (vs : List V) (ds : List D) (W : D → Prop) (Q : VK), Ex B H → DpAll X.K B vs ds → S ds W →
  (∀ v d B' H', W d → Dp X.K B' v d → Ex B B' → Ex B' H' → Ex H H' → (∀ a, H a ≠ none → B a = none → B' a = none) → Q v H') → cSem X f vs H Q
theorem vd_call_with {f : Value} {S : List D → (D → Prop) → Prop} {nm : Expr} (hp : ∀ t, PA X (e :: es) t → PE X (.Call nm (e :: es) [] pos) (tCB (cSem X f) t)) (hS : Does X f S)
    (h : VA X (e :: es) ρ fun ds ρ1 => S ds fun d => P d ρ1) : VD X (.Call nm (e :: es) [] pos) ρ P := VD.mk fun B H σ Q r q => by
  refine PE.sem (hp _ pa_sem) ?_
  refine h.run B H σ _ r fun vs ds B1 H1 ρ1 p1 dvs g1 r1 => ?_
  refine hS B1 H1 vs ds _ Q r1.ex dvs p1 fun v d B2 H2 p2 dv eB e2 eH out => ?_
  exact q v d B2 H2 ρ1 p2 dv (g1.trans (Go.grow eB eH out)) (r1.grow eB e2 eH out)
theorem vd_callB (C : Cst X M sc NK G k) {id : String} {S : List D → (D → Prop) → Prop} {i : Nat} {p : Pos} (hS : Does X (.builtin id) S) (hg : At G i x) (h : VA X (e :: es) ρ fun ds ρ1 => S ds fun d => P d ρ1) (hm : M.mg x = none := by assumption) (hv : bootBuiltins x = some (.builtin id) := by decide +kernel)
    (hn : x ≠ "__name__" := by decide) (hdb : (x == ("__debug__" : Str)) = false := by decide) (he : starEach (e :: es) X.env = (false, eval e X.env) :: starEach es X.env := by rfl) (hpl : (backTo pos (starEach es X.env)).any (·.1) = false := by rfl) : VD X (.Call (.Name x p) (e :: es) [] pos) ρ P :=
  vd_call_with (fun t ht => pe_callB cr_sem (C.g hg) (C.mg hm) hv ht hn hdb he hpl) hS h
theorem vd_callT (C : Cst X M sc NK G k) {T : String} {S : List D → (D → Prop) → Prop} {i : Nat} {p : Pos} (hS : Does X (.type T) S) (hg : At G i x) (h : VA X (e :: es) ρ fun ds ρ1 => S ds fun d => P d ρ1) (hm : M.mg x = none := by assumption) (hv : bootBuiltins x = some (.type T) := by decide +kernel)
    (hn : x ≠ "__name__" := by decide) (hdb : (x == ("__debug__" : Str)) = false := by decide) (he : starEach (e :: es) X.env = (false, eval e X.env) :: starEach es X.env := by rfl) (hpl : (backTo pos (starEach es X.env)).any (·.1) = false := by rfl) : VD X (.Call (.Name x p) (e :: es) [] pos) ρ P :=
  vd_call_with (fun t ht => pe_callTy cr_sem (C.g hg) (C.mg hm) hv ht hn hdb he hpl) hS h
/-- a built-in that the module imports -/
theorem vd_callM (C : Cst X M sc NK G k) {id : String} {S : List D → (D → Prop) → Prop} {i : Nat} {p : Pos} (hS : Does X (.builtin id) S) (hg : At G i x) (h : VA X (e :: es) ρ fun ds ρ1 => S ds fun d => P d ρ1) (hm : M.mg x = some (.builtin id) := by assumption)
    (hdb : (x == ("__debug__" : Str)) = false := by decide) (he : starEach (e :: es) X.env = (false, eval e X.env) :: starEach es X.env := by rfl) (hpl : (backTo pos (starEach es X.env)).any (·.1) = false := by rfl) : VD X (.Call (.Name x p) (e :: es) [] pos) ρ P :=
  vd_call_with (fun t ht => pe_callBfun cr_sem (C.g hg) (C.mg hm) ht hdb he hpl) hS h
/-- a def of one's own, by what it does with data -/
def DS (K : PySem.W.Frag) (n : Nat) (S : List D → (D → Prop) → Prop) : Sp := fun vs H Q _ => ∃ B ds W, Ex B H ∧ DpAll K B vs ds ∧ ds.length = n ∧ S ds W ∧
  ∀ v d B' H', W d → Dp K B' v d → Ex B B' → Ex B' H' → Ex H H' → (∀ a, H a ≠ none → B a = none → B' a = none) → Q v H'
structure FnD (M : Md) (j : Nat) (x : Str) (n : Nat) (S : List D → (D → Prop) → Prop) : Prop where
  ex : ∃ f fd ps, FnOk M.prog M.w M.K M.mg M.base CX0 j f fd ps (DS M.K n S) ∧ M.mg x = some (.ref f) ∧ PySem.W.keepIn M.K (.ref f) = true ∧ Binds M.K fd ps []
theorem vd_call (C : Cst X M sc NK G k) {j n : Nat} {S : List D → (D → Prop) → Prop} {i : Nat} {p : Pos} (F : FnD M j x n S) (hg : At G i x) (h : VA X (e :: es) ρ fun ds ρ1 => ds.length = n ∧ S ds fun d => P d ρ1) (hj : j ≤ k := by decide)
    (hdb : (x == ("__debug__" : Str)) = false := by decide) (he : starEach (e :: es) X.env = (false, eval e X.env) :: starEach es X.env := by rfl) (hpl : (backTo pos (starEach es X.env)).any (·.1) = false := by rfl) : VD X (.Call (.Name x p) (e :: es) [] pos) ρ P := VD.mk fun B H σ Q r q => by
  have eM := C.m
  subst eM
  obtain ⟨f, fd, ps, F, hm, hk, hb⟩ := F.ex
  refine PE.sem (pe_call (E := E0) F (C.room.mono hj) (C.g hg) hm hk hb .nil pass0 pa_sem hdb he hpl) ?_
  refine h.run B H σ _ r fun vs ds B1 H1 ρ1 p1 dvs g1 r1 => ?_
  show DS X.K n S (vs ++ []) H1 Q _
  rw [List.append_nil]
  refine ⟨B1, ds, _, r1.ex, dvs, p1.1, p1.2, fun v d B2 H2 p2 dv eB e2 eH out => ?_⟩
  exact q v d B2 H2 ρ1 p2 dv (g1.trans (Go.grow eB eH out)) (r1.grow eB e2 eH out)
/-- a def that changes the list of one's own which it is handed first: what stands in it, the other arguments; its value, what stands in it behind -/
def DSm (K : PySem.W.Frag) (n : Nat) (S : List D → List D → (D → List D → Prop) → Prop) : Sp := fun vs H Q _ => ∃ B p xs cs ws ds W, vs = .ref p :: ws ∧ Ex B H ∧ B p = none ∧ H p = some (.lst xs) ∧ DpAll K B xs cs ∧ DpAll K B ws ds ∧ ds.length = n ∧ S cs ds W ∧
  ∀ v d B' H' xs' cs', W d cs' → Dp K B' v d → Ex B B' → Ex B' H' → B' p = none → H' p = some (.lst xs') → DpAll K B' xs' cs' → (∀ a o, a ≠ p → H a = some o → H' a = some o) → (∀ a, a ≠ p → H a ≠ none → B a = none → B' a = none) → Q v H'
structure FnM (M : Md) (j : Nat) (x : Str) (n : Nat) (S : List D → List D → (D → List D → Prop) → Prop) : Prop where
  ex : ∃ f fd ps, FnOk M.prog M.w M.K M.mg M.base CX0 j f fd ps (DSm M.K n S) ∧ M.mg x = some (.ref f) ∧ PySem.W.keepIn M.K (.ref f) = true ∧ Binds M.K fd ps []
theorem getElem?_set_own {ρ : En} {i : Nat} {s u : Sl} (h : ρ[i]? = some s) : (ρ.set i u)[i]? = some u := by
  obtain ⟨hl, _⟩ := List.getElem?_eq_some_iff.mp h
  rw [List.getElem?_set_self hl]
theorem vd_callO (C : Cst X M sc NK G k) {j n : Nat} {S : List D → List D → (D → List D → Prop) → Prop} {i m : Nat} {l : Bool} {y : Str} {p py : Pos} {q0 : Addr} {cs0 : List D} (F : FnM M j x n S) (hg : At G i x) (ha : At NK m (y, true, l)) (ho : ρ[m]? = some (.own q0 cs0))
    (h : VA X es ρ fun ds ρ1 => ds.length = n ∧ ∃ cs, ρ1[m]? = some (.own q0 cs) ∧ S cs ds fun d cs' => P d (ρ1.set m (.own q0 cs'))) (hj : j ≤ k := by decide)
    (hdb : (x == ("__debug__" : Str)) = false := by decide) (he : starEach (.Name y py :: es) X.env = (false, eval (.Name y py) X.env) :: starEach es X.env := by rfl) (hpl : (backTo pos (starEach es X.env)).any (·.1) = false := by rfl)
    (hd : (y == ("__debug__" : Str)) = false := by decide) (hcd : (y == ("__classdict__" : Str)) = false := by decide) : VD X (.Call (.Name x p) (.Name y py :: es) [] pos) ρ P := VD.mk fun B H σ Q r q => by
  have eM := C.m
  subst eM
  obtain ⟨f, fd, ps, F, hm, hk, hb⟩ := F.ex
  refine PE.sem (pe_call (E := E0) F (C.room.mono hj) (C.g hg) hm hk hb .nil pass0 (pa_cons (pe_var (C.ix ha) (C.vi ha) hd hcd) pa_sem he) hdb he hpl) ?_
  refine ⟨.ref q0, (r.own m q0 cs0 ho).1, ?_⟩
  refine h.run B H σ _ r fun ws ds B1 H1 ρ1 p1 dws g1 r1 => ?_
  obtain ⟨hl, cs, ho1, hS⟩ := p1
  obtain ⟨hs1, hB1, xs, hx, dxs⟩ := r1.own m q0 cs ho1
  show DSm X.K n S ((.ref q0 :: ws) ++ []) H1 Q _
  rw [List.append_nil]
  refine ⟨B1, q0, xs, cs, ws, ds, _, rfl, r1.ex, hB1, hx, dxs, dws, hl, hS, fun v d B2 H2 xs' cs' p2 dv eB e2 b2 h2 dx2 keep out => ?_⟩
  have hlt := (List.getElem?_eq_some_iff.mp ho1).1
  have own_of : ∀ a, Own (ρ1.set m (.own q0 cs')) a → Own ρ1 a := fun a ⟨j, fs, hf⟩ => by
    by_cases z : m = j
    · subst z
      rw [List.getElem?_set_self hlt] at hf
      cases hf
      exact ⟨m, cs, ho1⟩
    · rw [List.getElem?_set_ne z] at hf
      exact ⟨j, fs, hf⟩
  refine q v d B2 H2 _ p2 dv (g1.trans ⟨eB, fun a o h n => keep a o (fun z => n ⟨m, cs, z ▸ ho1⟩) h, fun a h1 h2 h3 => out a (fun z => h3 ⟨m, cs, z ▸ ho1⟩) h1 h2, fun a z => .inl (own_of a z), fun a z => ?_⟩) ⟨e2, by rw [List.length_set]; exact r1.len, fun j d' hj => ?_, fun j a fs hf => ?_, fun j j' a fs gs hj hj' => ?_⟩
  · cases e : H1 a with
    | none => rfl
    | some u =>
      by_cases w : a = q0
      · rw [w, h2] at z
        cases z
      · rw [keep a u w e] at z
        cases z
  · by_cases z : m = j
    · subst z
      rw [List.getElem?_set_self hlt] at hj
      cases hj
    · rw [List.getElem?_set_ne z] at hj
      obtain ⟨v', h5, h6⟩ := r1.dat j d' hj
      exact ⟨v', h5, Dp.mono eB h6⟩
  · by_cases z : m = j
    · subst z
      rw [List.getElem?_set_self hlt] at hf
      cases hf
      exact ⟨hs1, b2, xs', h2, dx2⟩
    · rw [List.getElem?_set_ne z] at hf
      obtain ⟨h5, h6, ys, h7, h8⟩ := r1.own j a fs hf
      have na : a ≠ q0 := fun w => z (r1.dis m j q0 cs fs ho1 (w ▸ hf))
      exact ⟨h5, out a na (by rw [h7]; exact fun z => by cases z) h6, ys, keep a _ na h7, DpAll.mono eB h8⟩
  · have back : ∀ (j : Nat) gs, (ρ1.set m (.own q0 cs'))[j]? = some (.own a gs) → ∃ hs, ρ1[j]? = some (.own a hs) := fun j gs hj => by
      by_cases z : m = j
      · subst z
        rw [List.getElem?_set_self hlt] at hj
        cases hj
        exact ⟨cs, ho1⟩
      · rw [List.getElem?_set_ne z] at hj
        exact ⟨gs, hj⟩
    obtain ⟨h5, e5⟩ := back j fs hj
    obtain ⟨h6, e6⟩ := back j' gs hj'
    exact r1.dis j j' a h5 h6 e5 e6

/-! ### what some built-ins do -/
theorem does_int : Does X (.type "int") (fun ds W => ∃ i, ds = [.int i] ∧ W (.int i)) := fun B H vs ds W Q e h s q => by
  obtain ⟨i, rfl, w⟩ := s
  cases h with
  | cons h1 h2 =>
    cases h2
    rw [dp_int h1]
    exact CallR.sem call_int1 (.inl ⟨i, rfl, q _ _ B H w (.int i) (Evl.Ex.refl B) e (Evl.Ex.refl H) fun _ _ b => b⟩)
theorem does_abs : Does X (.builtin "abs") (fun ds W => ∃ i, ds = [.int i] ∧ W (.int (if i < 0 then -i else i))) := fun B H vs ds W Q e h s q => by
  obtain ⟨i, rfl, w⟩ := s
  cases h with
  | cons h1 h2 =>
    cases h2
    rw [dp_int h1]
    exact CallR.sem call_abs ⟨i, rfl, q _ _ B H w (.int _) (Evl.Ex.refl B) e (Evl.Ex.refl H) fun _ _ b => b⟩
theorem does_len : Does X (.builtin "len") (fun ds W => ∃ es, (ds = [.list es] ∨ ds = [.tuple es]) ∧ W (.int es.length)) := fun B H vs ds W Q e h s q => by
  obtain ⟨es, z, w⟩ := s
  rcases z with rfl | rfl
  · cases h with
    | cons h1 h2 =>
      cases h2
      obtain ⟨t, ys, rfl, hT, hy⟩ := dp_lst h1
      refine CallR.sem call_len_seq ⟨t, ys, rfl, .inl (ex_l e hT), q _ _ B H w ?_ (Evl.Ex.refl B) e (Evl.Ex.refl H) fun _ _ b => b⟩
      rw [DpAll.len hy]
      exact .int _
  · cases h with
    | cons h1 h2 =>
      cases h2
      obtain ⟨t, ys, rfl, hT, hy⟩ := dp_tup h1
      refine CallR.sem call_len_seq ⟨t, ys, rfl, .inr (ex_t e hT), q _ _ B H w ?_ (Evl.Ex.refl B) e (Evl.Ex.refl H) fun _ _ b => b⟩
      rw [DpAll.len hy]
      exact .int _
/-- tuple(a new list) -/
theorem vd_tupleN (C : Cst X M sc NK G k) {i : Nat} {p : Pos} (hg : At G i "tuple") (h : VN X e ρ fun ds ρ1 => P (.tuple ds) ρ1) (hm : M.mg "tuple" = none := by assumption)
    (he : starEach [e] X.env = (false, eval e X.env) :: starEach [] X.env := by rfl) (hpl : (backTo pos (starEach [] X.env)).any (·.1) = false := by rfl) : VD X (.Call (.Name "tuple" p) [e] [] pos) ρ P := VD.mk fun B H σ Q r q => by
  refine PE.sem (pe_callTy call_tuple_of (C.g hg) (C.mg hm) (by decide +kernel) (pa_cons pe_sem pa_nil he) (by decide) (by decide) he hpl) ?_
  refine h.run B H σ _ r fun z vs ds B1 H1 ρ1 p1 hz h1 bz no dvs g1 r1 => ?_
  refine ⟨z, vs, rfl, .inl ⟨.inl (.inl h1), fun l hl => ?_⟩⟩
  obtain ⟨r2, g2⟩ := new_both (o := .tup vs) r1 hl
  exact q _ _ _ _ ρ1 p1 (.tup (.inl (.inl upd_same)) (DpAll.mono g2.ex dvs)) (g1.trans g2) r2
def tyN : D → String
  | .none => "NoneType"
  | .bool _ => "bool"
  | .int _ => "int"
  | .str _ => "str"
  | .list _ => "list"
  | .tuple _ => "tuple"
  | .dict _ => "dict"
theorem ty_dp {K : PySem.W.Frag} {B H : Hp} (e : Ex B H) {v : V} {d : D} (h : Dp K B v d) : TyX K H v (.type (tyN d)) := by
  cases h with
  | non => exact .base .non
  | bl b => exact .base (.bl b)
  | int i => exact .base (.int i)
  | str x => exact .base (.str x)
  | lst h hs =>
    rcases h with (h | ⟨o, h⟩) | ⟨o, _, _, h1, h2, _⟩
    · exact .base (.lst (e _ _ h))
    · exact .base (.frz (e _ _ h))
    · exact .kList h1 h2
  | tup h hs =>
    rcases h with (h | ⟨o, h⟩) | ⟨o, _, _, h1, h2, _⟩
    · exact .base (.tup (e _ _ h))
    · exact .fTuple (e _ _ h)
    · exact .kTuple h1 h2
/-- isinstance(e, T), T a built-in class -/
theorem vd_isi (C : Cst X M sc NK G k) {i j : Nat} {T : String} {p pT : Pos} (hg : At G i "isinstance") (hgT : At G j x) (h : VD X e ρ fun d ρ1 => ∃ b, kitB (tyN d) T = some b ∧ P (.bool b) ρ1)
    (hm : M.mg "isinstance" = none := by assumption) (hmT : M.mg x = none := by assumption) (hv : bootBuiltins x = some (.type T) := by decide +kernel)
    (hn : x ≠ "__name__" := by decide) (hdb : (x == ("__debug__" : Str)) = false := by decide)
    (he : starEach [e, .Name x pT] X.env = (false, eval e X.env) :: starEach [.Name x pT] X.env := by rfl) (he2 : starEach [.Name x pT] X.env = (false, eval (.Name x pT) X.env) :: starEach [] X.env := by rfl) (hpl : (backTo pos (starEach [.Name x pT] X.env)).any (·.1) = false := by rfl) :
    VD X (.Call (.Name "isinstance" p) [e, .Name x pT] [] pos) ρ P := VD.mk fun B H σ Q r q => by
  refine PE.sem (pe_callB call_isi (C.g hg) (C.mg hm) (by decide +kernel) (pa_cons pe_sem (pa_cons (pe_bltn (v := .ty T) (C.g hgT) (C.mg hmT) hv rfl hn hdb) pa_nil he2) he) (by decide) (by decide) he hpl) ?_
  refine h.run B H σ _ r fun v d B1 H1 ρ1 p1 dv g1 r1 => ?_
  obtain ⟨b, hb, pp⟩ := p1
  exact ⟨v, .ty T, _, _, b, rfl, .ty T, ty_dp r1.ex dv, kit_ty hb, q _ _ B1 H1 ρ1 pp (.bl b) g1 r1⟩
end

open PySem PySem.Spec PyProof.Rows L2
open Evl (Ex)

section
variable {X : Cx} {M : Md} {sc : Scope} {NK : List (Str × Bool × Bool)} {G : List Str} {k : Nat} {ρ : En} {P : D → En → Prop} {PN : En → Prop} {PB : Bool → En → Prop} {PL : List D → En → Prop} {pos : Pos} {a b c e tg : Expr} {es rest : List Expr} {x : Str} {F : Fin} {st : Stmt} {sts : List Stmt}

/-! ### storing -/
theorem own_set {ρ : En} {i : Nat} {d : D} {a : Addr} (h : Own (ρ.set i (.dat d)) a) : Own ρ a := by
  obtain ⟨j, ds, hj⟩ := h
  by_cases z : i = j
  · subst z
    by_cases hl : i < ρ.length
    · rw [List.getElem?_set_self hl] at hj
      cases hj
    · rw [List.getElem?_eq_none (by rw [List.length_set]; omega)] at hj
      cases hj
  · rw [List.getElem?_set_ne z] at hj
    exact ⟨j, ds, hj⟩
theorem rel_set {K : PySem.W.Frag} {B H : Hp} {σ : L2.St} {ρ : En} (r : Rel K B H σ ρ) {i : Nat} {v : V} {d : D} (hd : Dp K B v d) : Rel K B H (σ.set i (some v)) (ρ.set i (.dat d)) := by
  refine ⟨r.ex, by rw [List.length_set, List.length_set]; exact r.len, fun j d' hj => ?_, fun j a ds hj => ?_, fun j j' a ds es hj hj' => ?_⟩
  · by_cases z : i = j
    · subst z
      by_cases hl : i < ρ.length
      · rw [List.getElem?_set_self hl] at hj
        cases hj
        exact ⟨v, by rw [List.getElem?_set_self (by rw [← r.len]; exact hl)], hd⟩
      · rw [List.getElem?_eq_none (by rw [List.length_set]; omega)] at hj
        cases hj
    · rw [List.getElem?_set_ne z] at hj ⊢
      exact r.dat j d' hj
  · by_cases z : i = j
    · subst z
      by_cases hl : i < ρ.length
      · rw [List.getElem?_set_self hl] at hj
        cases hj
      · rw [List.getElem?_eq_none (by rw [List.length_set]; omega)] at hj
        cases hj
    · rw [List.getElem?_set_ne z] at hj ⊢
      exact r.own j a ds hj
  · have back : ∀ (j : Nat) gs, (ρ.set i (.dat d))[j]? = some (.own a gs) → ρ[j]? = some (.own a gs) := fun j gs hj => by
      by_cases z : i = j
      · subst z
        by_cases hl : i < ρ.length
        · rw [List.getElem?_set_self hl] at hj
          cases hj
        · rw [List.getElem?_eq_none (by rw [List.length_set]; omega)] at hj
          cases hj
      · rw [List.getElem?_set_ne z] at hj
        exact hj
    exact r.dis j j' a ds es (back j ds hj) (back j' es hj')
theorem go_set {B H : Hp} {ρ : En} {i : Nat} {d : D} : Go B H ρ B H (ρ.set i (.dat d)) := ⟨Evl.Ex.refl B, fun _ _ h _ => h, fun _ _ h _ => h, fun _ h => .inl (own_set h), fun _ h => h⟩
theorem FinOk.nxGo {K : PySem.W.Frag} {B H : Hp} {Z : Ends} (f : FinOk K B H ρ F Z) {B' H' : Hp} {σ' : L2.St} {ρ' : En} (p : F.nx ρ') (g : Go B H ρ B' H' ρ') (r : Rel K B' H' σ' ρ') : Z.nx σ' H' := f.nx B' H' σ' ρ' p g r

/-! ### targets -/
theorem vg_name (C : Cst X M sc NK G k) {i : Nat} {v : Bool} {d : D} {p : Pos} (ha : At NK i (x, v, true)) (h : PN (ρ.set i (.dat d))) : VG X (.Name x p) d ρ PN := VG.mk fun vv B H σ Q r dv q =>
  PG.sem (pg_name C.nd (C.ix ha) (C.lo ha) (C.fn ha)) (q B H _ _ h go_set (rel_set r dv))
theorem vgs_nil (h : PN ρ) : VGs X [] [] ρ PN := VGs.mk fun vs B H σ Q r dv q => PGs.sem pgs_nil (by
  cases dv
  exact ⟨rfl, q B H σ ρ h Go.refl r⟩)
theorem vgs_cons {d : D} {ds : List D} (h : VG X e d ρ fun ρ1 => VGs X es ds ρ1 PN) (hs : (assignEach (e :: es) X.env).map (·.2) = assign e X.env :: (assignEach es X.env).map (·.2) := by rfl) : VGs X (e :: es) (d :: ds) ρ PN := VGs.mk fun vs B H σ Q r dv q => by
  refine PGs.sem (pgs_cons pg_sem pgs_sem hs) ?_
  cases dv with
  | cons d1 d2 =>
    refine ⟨_, _, rfl, h.run _ B H σ _ r d1 fun B1 H1 σ1 ρ1 p1 g1 r1 => ?_⟩
    exact p1.run _ B1 H1 σ1 Q r1 (DpAll.mono g1.ex d2) fun B2 H2 σ2 ρ2 p2 g2 r2 => q B2 H2 σ2 ρ2 p2 (g1.trans g2) r2
theorem vg_tup (C : Cst X M sc NK G k) {kk : Nat} {ds : List D} (h : VGs X es ds ρ PN) (hl : ds.length = es.length := by rfl) (hn : (assignEach es X.env).length = es.length := by rfl) (hst : (assignEach es X.env).findIdx? (·.1) = none := by rfl) : VG X (.Tuple es kk pos) (.tuple ds) ρ PN := VG.mk fun vv B H σ Q r dv q => by
  obtain ⟨t, vs, rfl, hT, hv⟩ := dp_tup dv
  exact PG.sem (pg_tup C.calm pgs_sem hn hst) ⟨t, vs, rfl, ex_t r.ex hT, (DpAll.len hv).trans hl, h.run vs B H σ Q r hv q⟩
theorem vg_lst (C : Cst X M sc NK G k) {kk : Nat} {ds : List D} (h : VGs X es ds ρ PN) (hl : ds.length = es.length := by rfl) (hn : (assignEach es X.env).length = es.length := by rfl) (hst : (assignEach es X.env).findIdx? (·.1) = none := by rfl) : VG X (.Tuple es kk pos) (.list ds) ρ PN := VG.mk fun vv B H σ Q r dv q => by
  obtain ⟨t, vs, rfl, hT, hv⟩ := dp_lst dv
  exact PG.sem (pg_unl C.calm pgs_sem hn hst) ⟨t, vs, rfl, ex_l r.ex hT, (DpAll.len hv).trans hl, h.run vs B H σ Q r hv q⟩

/-! ### statements -/
theorem vss_nil (h : F.nx ρ) : VSs X [] ρ F := VSs.mk fun B H σ Z r f => PSs.sem pss_nil (f.nx B H σ ρ h Go.refl r)
theorem vss_one (h : VS X st ρ F) : VSs X [st] ρ F := VSs.mk fun B H σ Z r f => PSs.sem (pss_one ps_sem) (h.run B H σ Z r f)
theorem vss_cons (h : VS X st ρ { F with nx := fun ρ1 => VSs X sts ρ1 F }) : VSs X (st :: sts) ρ F := VSs.mk fun B H σ Z r f => by
  refine PSs.sem (pss_cons ps_sem pss_sem) ?_
  refine h.run B H σ _ r ⟨fun B1 H1 σ1 ρ1 p g r1 => p.run B1 H1 σ1 Z r1 (f.go g), f.rt, f.bk, f.ct⟩
theorem vs_pass (h : F.nx ρ) : VS X (.Pass pos) ρ F := VS.mk fun B H σ Z r f => PS.sem ps_pass (f.nx B H σ ρ h Go.refl r)
theorem vs_break (h : F.bk ρ) : VS X (.Break pos) ρ F := VS.mk fun B H σ Z r f => PS.sem ps_break (f.bk B H σ ρ h Go.refl r)
theorem vs_cont (h : F.ct ρ) : VS X (.Continue pos) ρ F := VS.mk fun B H σ Z r f => PS.sem ps_continue (f.ct B H σ ρ h Go.refl r)
theorem vs_ret (h : VD X e ρ F.rt) : VS X (.Return (some e) pos) ρ F := VS.mk fun B H σ Z r f => PS.sem (ps_ret pe_sem) (h.run B H σ _ r fun v d B1 H1 ρ1 p dv g r1 => f.rt v d B1 H1 σ ρ1 p dv g r1)
theorem vs_retN (h : F.rt .none ρ) : VS X (.Return none pos) ρ F := VS.mk fun B H σ Z r f => PS.sem ps_retN (f.rt .non .none B H σ ρ h .non Go.refl r)
theorem vs_if {u v : List Stmt} (h : VT X c ρ fun bb ρ1 => (bb = true → VSs X u ρ1 F) ∧ (bb = false → VSs X v ρ1 F)) : VS X (.If c u v pos) ρ F := VS.mk fun B H σ Z r f => by
  refine PS.sem (ps_if pb_sem pss_sem pss_sem) ?_
  refine h.run B H σ _ r fun bb B1 H1 ρ1 p g r1 => ?_
  cases bb with
  | true => exact (p.1 rfl).run B1 H1 σ Z r1 (f.go g)
  | false => exact (p.2 rfl).run B1 H1 σ Z r1 (f.go g)
theorem vs_expr (h : VD X e ρ fun _ ρ1 => F.nx ρ1) (hs : swapsWith e none pos.line X.env = pure false := by rfl) : VS X (.Expr e pos) ρ F := VS.mk fun B H σ Z r f =>
  PS.sem (ps_expr pe_sem hs) (h.run B H σ _ r fun v d B1 H1 ρ1 p dv g r1 => f.nx B1 H1 σ ρ1 p g r1)
/-- name = e -/
theorem vs_set (C : Cst X M sc NK G k) {i : Nat} {v : Bool} {p : Pos} (ha : At NK i (x, v, true)) (h : VD X e ρ fun d ρ1 => F.nx (ρ1.set i (.dat d))) (hs : swapsWith e (some (.Name x p)) pos.line X.env = pure false := by rfl) : VS X (.Assign [.Name x p] e pos) ρ F := VS.mk fun B H σ Z r f => by
  refine PS.sem (ps_set C.nd (C.ix ha) (C.lo ha) pe_sem hs (C.fn ha)) ?_
  exact h.run B H σ _ r fun w d B1 H1 ρ1 p1 dv g1 r1 => f.nx B1 H1 _ _ p1 (g1.trans go_set) (rel_set r1 dv)
/-- (a, ..) = e -/
theorem vs_asg {tg : Expr} (h : VD X e ρ fun d ρ1 => VG X tg d ρ1 F.nx) (hs : swapsWithSole [tg] e pos.line X.env = pure false := by rfl) (hw : swappedStores [tg] e X.env = pure none := by rfl)
    (h1 : (assignEach [tg] X.env).map (·.2) = [assign tg X.env] := by rfl) : VS X (.Assign [tg] e pos) ρ F := VS.mk fun B H σ Z r f => by
  refine PS.sem (ps_asg pe_sem pg_sem hs hw h1) ?_
  refine h.run B H σ _ r fun v d B1 H1 ρ1 p1 dv g1 r1 => ?_
  exact p1.run v B1 H1 σ _ r1 dv fun B2 H2 σ2 ρ2 p2 g2 r2 => f.nx B2 H2 σ2 ρ2 p2 (g1.trans g2) r2
theorem sw_env {env env' : Env} {ts : List Expr} {v : Expr} (h : env.scope = env'.scope) : swappedStores ts v env = swappedStores ts v env' := by
  unfold swappedStores Env.blockKind Env.kindOf
  rw [h]
/-- a, b = e1, e2 -/
theorem vs_par (C : Cst X M sc NK G k) {i j : Nat} {v w : Bool} {y : Str} {px py pt : Pos} {kt k2 pt2} (hi : At NK i (x, v, true)) (hj : At NK j (y, w, true)) (hij : i ≠ j)
    (h : VD X a ρ fun d ρ1 => VD X b ρ1 fun d2 ρ2 => F.nx ((ρ2.set i (.dat d)).set j (.dat d2)))
    (hw : ∀ env : Env, env.scope = sc → swappedStores [.Tuple [.Name x px, .Name y py] kt pt] (.Tuple [a, b] k2 pt2) env = pure (some [x, y])) (hx : sc.names.lookup x = some .local := by decide +kernel) (hy : sc.names.lookup y = some .local := by decide +kernel)
    (hs : swapsWithSole [.Tuple [.Name x px, .Name y py] kt pt] (.Tuple [a, b] k2 pt2) pos.line X.env = pure false := by rfl)
    (he : starEach [a, b] X.env = (false, eval a X.env) :: starEach [b] X.env := by rfl) (he2 : starEach [b] X.env = (false, eval b X.env) :: starEach [] X.env := by rfl) :
    VS X (.Assign [.Tuple [.Name x px, .Name y py] kt pt] (.Tuple [a, b] k2 pt2) pos) ρ F := VS.mk fun B H σ Z r f => by
  refine PS.sem (ps_par C.calm C.nd (C.ix hi) (C.ix hj) hij (by rw [C.s]; exact hx) (by rw [C.s]; exact hy) (pa_cons pe_sem (pa_cons pe_sem pa_nil he2) he) (hw _ C.s) hs) ?_
  refine h.run B H σ _ r fun vv d B1 H1 ρ1 p1 dv g1 r1 => ?_
  refine p1.run B1 H1 σ _ r1 fun ww d2 B2 H2 ρ2 p2 dw g2 r2 => ⟨vv, ww, rfl, ?_⟩
  exact f.nx B2 H2 _ _ p2 (((g1.trans g2).trans go_set).trans go_set) (rel_set (rel_set r2 (Dp.mono g2.ex dv)) dw)
/-- name = a new list: it is the name's own -/
theorem vs_new (C : Cst X M sc NK G k) {i : Nat} {v : Bool} {p : Pos} (ha : At NK i (x, v, true)) (hi : i < ρ.length) (h : VN X e ρ fun ds ρ1 => ∀ z, F.nx (ρ1.set i (.own z ds))) (hs : swapsWith e (some (.Name x p)) pos.line X.env = pure false := by rfl) : VS X (.Assign [.Name x p] e pos) ρ F := VS.mk fun B H σ Z r f => by
  refine PS.sem (ps_set C.nd (C.ix ha) (C.lo ha) pe_sem hs (C.fn ha)) ?_
  refine h.run B H σ _ r fun z vs ds B1 H1 ρ1 p1 hz h1 bz no dvs g1 r1 => ?_
  have hl : i < ρ1.length := by rw [r1.len, ← r.len]; exact hi
  have own_of : ∀ (j : Nat) a es, (ρ1.set i (.own z ds))[j]? = some (.own a es) → (j = i ∧ a = z ∧ es = ds) ∨ (j ≠ i ∧ ρ1[j]? = some (.own a es)) := fun j a es hj => by
    by_cases w : i = j
    · subst w
      rw [List.getElem?_set_self hl] at hj
      cases hj
      exact .inl ⟨rfl, rfl, rfl⟩
    · rw [List.getElem?_set_ne w] at hj
      exact .inr ⟨fun q => w q.symm, hj⟩
  refine f.nx B1 H1 _ _ (p1 z) ⟨g1.ex, g1.keep, g1.out, fun a ⟨j, es, hj⟩ => ?_, g1.dom⟩ ⟨r1.ex, by rw [List.length_set, List.length_set]; exact r1.len, fun j d hj => ?_, fun j a es hj => ?_, fun j j' a es fs hj hj' => ?_⟩
  · rcases own_of j a es hj with ⟨_, rfl, _⟩ | ⟨_, q⟩
    · exact .inr hz
    · exact g1.own a ⟨j, es, q⟩
  · by_cases w : i = j
    · subst w
      rw [List.getElem?_set_self hl] at hj
      cases hj
    · rw [List.getElem?_set_ne w] at hj ⊢
      exact r1.dat j d hj
  · rcases own_of j a es hj with ⟨rfl, rfl, rfl⟩ | ⟨w, q⟩
    · exact ⟨by rw [List.getElem?_set_self (by rw [← r1.len]; exact hl)], bz, vs, h1, dvs⟩
    · rw [List.getElem?_set_ne (fun q => w q.symm)]
      exact r1.own j a es q
  · rcases own_of j a es hj with ⟨rfl, rfl, rfl⟩ | ⟨w, q⟩
    · rcases own_of j' a fs hj' with ⟨rfl, _, _⟩ | ⟨w', q'⟩
      · rfl
      · exact absurd ⟨j', fs, q'⟩ no
    · rcases own_of j' a fs hj' with ⟨rfl, rfl, _⟩ | ⟨w', q'⟩
      · exact absurd ⟨j, es, q⟩ no
      · exact r1.dis j j' a es fs q q'
/-- a list of one's own is written -/
theorem own_write {K : PySem.W.Frag} {B H : Hp} {σ : L2.St} {ρ : En} (r : Rel K B H σ ρ) {i : Nat} {p : Addr} {cs cs' : List D} {vs' : List V} (ho : ρ[i]? = some (.own p cs)) (hd : DpAll K B vs' cs') : Rel K B (upd H p (.lst vs')) σ (ρ.set i (.own p cs')) ∧ Go B H ρ B (upd H p (.lst vs')) (ρ.set i (.own p cs')) := by
  obtain ⟨h1, h2, vs, h3, h4⟩ := r.own i p cs ho
  have hlt := (List.getElem?_eq_some_iff.mp ho).1
  have own_of : ∀ (j : Nat) a es, (ρ.set i (.own p cs'))[j]? = some (.own a es) → (j = i ∧ a = p ∧ es = cs') ∨ (j ≠ i ∧ ρ[j]? = some (.own a es)) := fun j a es hj => by
    by_cases w : i = j
    · subst w
      rw [List.getElem?_set_self hlt] at hj
      cases hj
      exact .inl ⟨rfl, rfl, rfl⟩
    · rw [List.getElem?_set_ne w] at hj
      exact .inr ⟨fun q => w q.symm, hj⟩
  have ne : ∀ (j : Nat) a es, j ≠ i → ρ[j]? = some (.own a es) → a ≠ p := fun j a es w q z => w (r.dis j i p es cs (z ▸ q) ho)
  refine ⟨⟨Evl.Ex.mut r.ex h2, by rw [List.length_set]; exact r.len, fun j d hj => ?_, fun j a es hj => ?_, fun j j' a es fs hj hj' => ?_⟩, ⟨Evl.Ex.refl B, fun a o h n => ?_, fun _ _ h _ => h, fun a ⟨j, es, hj⟩ => ?_, fun a z => ?_⟩⟩
  · by_cases w : i = j
    · subst w
      rw [List.getElem?_set_self hlt] at hj
      cases hj
    · rw [List.getElem?_set_ne w] at hj
      exact r.dat j d hj
  · rcases own_of j a es hj with ⟨rfl, rfl, rfl⟩ | ⟨w, q⟩
    · exact ⟨h1, h2, vs', upd_same, hd⟩
    · obtain ⟨h5, h6, ws, h7, h8⟩ := r.own j a es q
      exact ⟨h5, h6, ws, by rw [upd_ne (ne j a es w q)]; exact h7, h8⟩
  · rcases own_of j a es hj with ⟨rfl, rfl, rfl⟩ | ⟨w, q⟩
    · rcases own_of j' a fs hj' with ⟨rfl, _, _⟩ | ⟨w', q'⟩
      · rfl
      · exact absurd rfl (ne j' a fs w' q')
    · rcases own_of j' a fs hj' with ⟨rfl, rfl, _⟩ | ⟨w', q'⟩
      · exact absurd rfl (ne j a es w q)
      · exact r.dis j j' a es fs q q'
  · rw [upd_ne (fun z => n ⟨i, cs, by rw [z]; exact ho⟩)]
    exact h
  · rcases own_of j a es hj with ⟨rfl, rfl, rfl⟩ | ⟨w, q⟩
    · exact .inl ⟨_, cs, ho⟩
    · exact .inl ⟨j, es, q⟩
  · by_cases w : a = p
    · rw [w, upd_same] at z
      cases z
    · rw [upd_ne w] at z
      exact z
/-- xs[j] = e, xs a list of one's own -/
theorem vs_put (C : Cst X M sc NK G k) {i : Nat} {l : Bool} {p : Addr} {cs0 : List D} {px p2 : Pos} (ha : At NK i (x, true, l)) (ho : ρ[i]? = some (.own p cs0))
    (h : VD X e ρ fun d ρ1 => VD X b ρ1 fun y ρ2 => ∃ n j cs, y = .int n ∧ ρ2[i]? = some (.own p cs) ∧ ixN cs.length n = some j ∧ F.nx (ρ2.set i (.own p (cs.set j d))))
    (hs : swapsWithSole [.Subscript (.Name x px) b p2] e pos.line X.env = pure false := by rfl) (hw : swappedStores [.Subscript (.Name x px) b p2] e X.env = pure none := by rfl) (h1 : (assignEach [.Subscript (.Name x px) b p2] X.env).map (·.2) = [assign (.Subscript (.Name x px) b p2) X.env] := by rfl)
    (hd : (x == ("__debug__" : Str)) = false := by decide) (hcd : (x == ("__classdict__" : Str)) = false := by decide)
    (hg : ∀ v, assign (.Subscript (.Name x px) b p2) X.env v = (do
      let ov ← holding [v] (eval (.Name x px) X.env)
      let iv ← holding [v, ov] (eval b X.env)
      standAt p2
      holding [v, ov, iv] (setItem ov iv v)
      release [v, ov, iv] []) := by intro _; rfl) : VS X (.Assign [.Subscript (.Name x px) b p2] e pos) ρ F := VS.mk fun B H σ Z r f => by
  refine PS.sem (ps_asg pe_sem (pg_sub (pe_var (C.ix ha) (C.vi ha) hd hcd) pe_sem set_list hg) hs hw h1) ?_
  refine h.run B H σ _ r fun v d B1 H1 ρ1 p1 dv g1 r1 => ⟨.ref p, (r.own i p cs0 ho).1, ?_⟩
  refine p1.run B1 H1 σ _ r1 fun vy y B2 H2 ρ2 p2 dy g2 r2 => ?_
  obtain ⟨n, j, cs, rfl, ho2, hj, pp⟩ := p2
  obtain ⟨_, _, vs, h3, h4⟩ := r2.own i p cs ho2
  obtain ⟨r3, g3⟩ := own_write r2 ho2 (DpAll.set (Dp.mono g2.ex dv) j h4)
  exact ⟨p, vs, n, j, rfl, dp_int dy, h3, by rw [DpAll.len h4]; exact hj, f.nx B2 _ σ _ pp ((g1.trans g2).trans g3) r3⟩

/-! ### what is walked -/
/-- the iterator's turns give these data -/
def Yields (K : PySem.W.Frag) (J : It) (B : Hp) (ds : List D) : Prop := ∀ (i : Nat) (B1 H1 : Hp), Ex B B1 → Ex B1 H1 →
  (i < ds.length → J.go i H1 ∧ ∀ x H', J.yld i H1 x H' → H' = H1 ∧ ∃ d, ds[i]? = some d ∧ Dp K B1 x d) ∧ (ds.length ≤ i → J.stop i H1)
def iSemI (X : Cx) (tg iter : Expr) : TI := fun σ H R => ∀ pins s, Inv X pins σ H s → wpAny (model X.prog X.w) X.A (eval iter X.env) (fun v s1 => wpAny (model X.prog X.w) X.A (pyIter v) (PIE X pins σ tg R) X.xe s1) X.xe s
theorem pi_sem : PI X tg e (iSemI X tg e) := ⟨fun pins s σ H R I h => h pins s I⟩
theorem PI.sem {wi : TI} (h : PI X tg e wi) {σ : L2.St} {H : Hp} {R : It → Hp → Prop} (q : wi σ H R) : iSemI X tg e σ H R := fun pins s I => h.run pins s σ H R I q
structure VI (X : Cx) (tg iter : Expr) (ρ : En) (P : List D → En → Prop) : Prop where
  run : ∀ B H σ (R : It → Hp → Prop), Rel X.K B H σ ρ →
  (∀ J ds B' H' ρ', P ds ρ' → Yields X.K J B' ds → Go B H ρ B' H' ρ' → Rel X.K B' H' σ ρ' → R J H') → iSemI X tg iter σ H R
theorem vi_range {i : Nat} {p : Pos} (C : Cst X M sc NK G k) (hg : At G i "range") (h : VD X a ρ fun d ρ1 => ∃ n : Nat, d = .int (n : Int) ∧ n < 2 ^ 62 ∧ PL ((List.range n).map fun (j : Nat) => PyData.int (j : Int)) ρ1) (hm : M.mg "range" = none := by assumption)
    (hs : starEach [a] X.env = [(false, eval a X.env)] := by rfl) : VI X tg (.Call (.Name "range" p) [a] [] pos) ρ PL := VI.mk fun B H σ R r q => by
  refine PI.sem (pi_range1 (C.g hg) (C.mg hm) (pa_cons pe_sem pa_nil hs) hs) ?_
  refine h.run B H σ _ r fun v d B1 H1 ρ1 p1 dv g1 r1 => ?_
  obtain ⟨n, rfl, hn, pp⟩ := p1
  refine ⟨(n : Int), by rw [dp_int dv], by omega, by omega, q _ _ B1 H1 ρ1 pp (fun j B2 H2 e1 e2 => ⟨fun hj => ⟨?_, fun x H' y => ?_⟩, fun hj => ?_⟩) g1 r1⟩
  · rw [List.length_map, List.length_range] at hj
    show j < (n : Int).toNat
    rw [Int.toNat_natCast]
    exact hj
  · obtain ⟨rfl, rfl⟩ := y
    rw [List.length_map, List.length_range] at hj
    refine ⟨rfl, .int (j : Int), ?_, ?_⟩
    · rw [List.getElem?_map, List.getElem?_range hj]
      rfl
    · rw [Int.zero_add]
      exact .int _
  · rw [List.length_map, List.length_range] at hj
    show (n : Int).toNat ≤ j
    rw [Int.toNat_natCast]
    exact hj
theorem vi_tup (h : VD X e ρ fun d ρ1 => ∃ ds, d = .tuple ds ∧ PL ds ρ1) : VI X tg e ρ PL := VI.mk fun B H σ R r q => by
  refine PI.sem (pi_tup pe_sem) ?_
  refine h.run B H σ _ r fun v d B1 H1 ρ1 p1 dv g1 r1 => ?_
  obtain ⟨ds, rfl, pp⟩ := p1
  obtain ⟨t, vs, rfl, hT, hv⟩ := dp_tup dv
  refine ⟨t, rfl, ⟨vs, ex_t r1.ex hT⟩, q _ ds B1 H1 ρ1 pp (fun j B2 H2 e1 e2 => ⟨fun hj => ?_, fun hj => ⟨vs, ex_t (e1.trans e2) hT, by rw [DpAll.len hv]; exact hj⟩⟩) g1 r1⟩
  have hj' : j < vs.length := by rw [DpAll.len hv]; exact hj
  refine ⟨⟨vs, vs[j], ex_t (e1.trans e2) hT, List.getElem?_eq_getElem hj'⟩, fun x H' y => ?_⟩
  obtain ⟨rfl, y2⟩ := y
  refine ⟨rfl, ?_⟩
  obtain ⟨d, h1, h2⟩ := DpAll.getV hv (y2 vs (ex_t (e1.trans e2) hT))
  exact ⟨d, h1, Dp.mono e1 h2⟩
theorem vi_lst (h : VD X e ρ fun d ρ1 => ∃ ds, d = .list ds ∧ PL ds ρ1) : VI X tg e ρ PL := VI.mk fun B H σ R r q => by
  refine PI.sem (pi_list pe_sem) ?_
  refine h.run B H σ _ r fun v d B1 H1 ρ1 p1 dv g1 r1 => ?_
  obtain ⟨ds, rfl, pp⟩ := p1
  obtain ⟨t, vs, rfl, hT, hv⟩ := dp_lst dv
  refine ⟨t, rfl, ⟨vs, ex_l r1.ex hT⟩, q _ ds B1 H1 ρ1 pp (fun j B2 H2 e1 e2 => ⟨fun hj => ?_, fun hj => ⟨vs, ex_l (e1.trans e2) hT, by rw [DpAll.len hv]; exact hj⟩⟩) g1 r1⟩
  have hj' : j < vs.length := by rw [DpAll.len hv]; exact hj
  refine ⟨⟨vs, vs[j], ex_l (e1.trans e2) hT, List.getElem?_eq_getElem hj'⟩, fun x H' y => ?_⟩
  obtain ⟨rfl, y2⟩ := y
  refine ⟨rfl, ?_⟩
  obtain ⟨d, h1, h2⟩ := DpAll.getV hv (y2 vs (ex_l (e1.trans e2) hT))
  exact ⟨d, h1, Dp.mono e1 h2⟩

/-! ### for -/
theorem vs_for (C : Cst X M sc NK G k) {body : List Stmt} (h : VI X tg e ρ fun ds ρ1 => ∃ W : Nat → En → Prop, W 0 ρ1 ∧
      (∀ (i : Nat) d ρ', ds[i]? = some d → W i ρ' → VG X tg d ρ' fun ρ2 => VSs X body ρ2 { nx := W (i + 1), rt := F.rt, bk := F.nx, ct := W (i + 1) }) ∧ ∀ ρ', W ds.length ρ' → F.nx ρ')
    (hs : ∀ x, foldedSetIterable e X.env x = pure x := by intro _; rfl) : VS X (.For tg e body [] pos) ρ F := VS.mk fun B H σ Z r f => by
  refine PS.sem (ps_for C.never C.calm pi_sem pg_sem pss_sem hs) ?_
  refine h.run B H σ _ r fun J ds B1 H1 ρ1 p1 yl g1 r1 => ?_
  obtain ⟨W, w0, step, done⟩ := p1
  refine ⟨fun i m σ' H' => m = ds.length - i ∧ i ≤ ds.length ∧ ∃ B' ρ', W i ρ' ∧ Go B1 H1 ρ1 B' H' ρ' ∧ Rel X.K B' H' σ' ρ', ⟨ds.length, by omega, by omega, B1, ρ1, w0, Go.refl, r1⟩, ?_⟩
  rintro i m σ' H' ⟨rfl, hi, B', ρ', w, g, r'⟩
  obtain ⟨y1, y2⟩ := yl i B' H' g.ex r'.ex
  by_cases hlt : i < ds.length
  · obtain ⟨go, y⟩ := y1 hlt
    refine .inr ⟨go, fun σ2 H2 => ∃ B2 ρ2, W (i + 1) ρ2 ∧ Go B1 H1 ρ1 B2 H2 ρ2 ∧ Rel X.K B2 H2 σ2 ρ2, fun σ2 H2 ⟨B2, ρ2, w2, g2, r2⟩ => ⟨ds.length - (i + 1), by omega, rfl, hlt, B2, ρ2, w2, g2, r2⟩, fun x H2 hy => ?_⟩
    obtain ⟨rfl, d, hd, dx⟩ := y x H2 hy
    refine (step i d ρ' hd w).run x B' H2 σ' _ r' dx fun B2 H3 σ2 ρ2 p2 g2 r2 => ?_
    refine p2.run B2 H3 σ2 _ r2 ⟨fun B3 H4 σ3 ρ3 p3 g3 r3 => ⟨B3, ρ3, p3, (g.trans g2).trans g3, r3⟩, fun v d B3 H4 σ3 ρ3 p3 dv g3 r3 => f.rt v d B3 H4 σ3 ρ3 p3 dv (g1.trans ((g.trans g2).trans g3)) r3, fun B3 H4 σ3 ρ3 p3 g3 r3 => f.nx B3 H4 σ3 ρ3 p3 (g1.trans ((g.trans g2).trans g3)) r3, fun B3 H4 σ3 ρ3 p3 g3 r3 => ⟨B3, ρ3, p3, (g.trans g2).trans g3, r3⟩⟩
  · have e : i = ds.length := by omega
    subst e
    exact .inl ⟨y2 (Nat.le_refl _), f.nx B' H' σ' ρ' (done ρ' w) (g1.trans g) r'⟩
theorem vs_while (C : Cst X M sc NK G k) {body : List Stmt} (W : Nat → En → Prop) (m0 : Nat) (h0 : W m0 ρ)
    (h : ∀ m ρ', W m ρ' → VT X c ρ' fun bb ρ1 => (bb = true → VSs X body ρ1 { nx := fun ρ2 => ∃ m', m' < m ∧ W m' ρ2, rt := F.rt, bk := F.nx, ct := fun ρ2 => ∃ m', m' < m ∧ W m' ρ2 }) ∧ (bb = false → F.nx ρ1)) : VS X (.While c body [] pos) ρ F := VS.mk fun B H σ Z r f => by
  refine PS.sem (ps_while C.never pb_sem pss_sem) ?_
  refine ⟨fun m σ' H' => ∃ B' ρ', W m ρ' ∧ Go B H ρ B' H' ρ' ∧ Rel X.K B' H' σ' ρ', ⟨m0, B, ρ, h0, Go.refl, r⟩, fun m σ' H' ⟨B', ρ', w, g, r'⟩ => ?_⟩
  refine (h m ρ' w).run B' H' σ' _ r' fun bb B1 H1 ρ1 p1 g1 r1 => ?_
  cases bb with
  | true =>
    rw [if_pos rfl]
    refine ⟨fun σ2 H2 => ∃ m', m' < m ∧ ∃ B' ρ', W m' ρ' ∧ Go B H ρ B' H2 ρ' ∧ Rel X.K B' H2 σ2 ρ', fun σ2 H2 ⟨m', hm, q⟩ => ⟨m', hm, q⟩, (p1.1 rfl).run B1 H1 σ' _ r1 ⟨fun B3 H4 σ3 ρ3 p3 g3 r3 => ?_, fun v d B3 H4 σ3 ρ3 p3 dv g3 r3 => f.rt v d B3 H4 σ3 ρ3 p3 dv ((g.trans g1).trans g3) r3, fun B3 H4 σ3 ρ3 p3 g3 r3 => f.nx B3 H4 σ3 ρ3 p3 ((g.trans g1).trans g3) r3, fun B3 H4 σ3 ρ3 p3 g3 r3 => ?_⟩⟩
    · obtain ⟨m', hm, w'⟩ := p3
      exact ⟨m', hm, B3, ρ3, w', (g.trans g1).trans g3, r3⟩
    · obtain ⟨m', hm, w'⟩ := p3
      exact ⟨m', hm, B3, ρ3, w', (g.trans g1).trans g3, r3⟩
  | false =>
    rw [if_neg Bool.false_ne_true]
    exact f.nx B1 H1 σ' ρ1 (p1.2 rfl) (g.trans g1) r1
end

open PySem PySem.Spec PyProof.Rows L2
open Evl (Ex)

section
variable {X : Cx} {M : Md} {sc : Scope} {NK : List (Str × Bool × Bool)} {G : List Str} {k : Nat} {ρ : En} {P : D → En → Prop} {PL : List D → En → Prop} {pos : Pos} {e : Expr}

/-! ### comprehensions -/
def uSem (X : Cx) (scope : Scope) (e : Expr) : TE := fun σ H Q => ∀ s H0 C cl fp, eSem (X.blk s H0 scope (compEnvC scope cl C X.env) fp) e σ H Q
theorem pe_uSem {scope : Scope} : ∀ (s : Shared) (H : Hp) (C : Addr) (cl : List (Str × Addr)) (fp : List Addr), PE (X.blk s H scope (compEnvC scope cl C X.env) fp) e (uSem X scope e) :=
  fun s H C cl fp => ⟨fun pins s' σ H' Q I h => h s H C cl fp pins s' I⟩
theorem rel_no {K : PySem.W.Frag} {B H : Hp} {σ σ2 : L2.St} {ρ : En} {i : Nat} (r : Rel K B H σ2 ρ) (h : σ2.set i none = σ.set i none) : Rel K B H σ (ρ.set i .no) := by
  have hl : σ2.length = σ.length := by
    have := congrArg List.length h
    rw [List.length_set, List.length_set] at this
    exact this
  have back : ∀ (j : Nat) s, s ≠ Sl.no → (ρ.set i .no)[j]? = some s → j ≠ i ∧ ρ[j]? = some s := fun j s hs hj => by
    by_cases z : i = j
    · subst z
      by_cases hi : i < ρ.length
      · rw [List.getElem?_set_self hi] at hj
        exact absurd (Option.some.inj hj).symm hs
      · rw [List.getElem?_eq_none (by rw [List.length_set]; omega)] at hj
        cases hj
    · rw [List.getElem?_set_ne z] at hj
      exact ⟨fun q => z q.symm, hj⟩
  have eq : ∀ j, j ≠ i → σ2[j]? = σ[j]? := fun j hj => by
    have := congrArg (fun l : L2.St => l[j]?) h
    simp only [List.getElem?_set_ne (Ne.symm hj)] at this
    exact this
  refine ⟨r.ex, by rw [List.length_set, r.len, hl], fun j d hj => ?_, fun j a ds hj => ?_, fun j j' a ds es hj hj' => ?_⟩
  · obtain ⟨h1, h2⟩ := back j (.dat d) (by intro z; cases z) hj
    rw [← eq j h1]
    exact r.dat j d h2
  · obtain ⟨h1, h2⟩ := back j (.own a ds) (by intro z; cases z) hj
    rw [← eq j h1]
    exact r.own j a ds h2
  · exact r.dis j j' a ds es (back j (.own a ds) (by intro z; cases z) hj).2 (back j' (.own a es) (by intro z; cases z) hj').2
theorem own_no {ρ : En} {i : Nat} {a : Addr} (h : Own (ρ.set i .no) a) : Own ρ a := by
  obtain ⟨j, ds, hj⟩ := h
  by_cases z : i = j
  · subst z
    by_cases hl : i < ρ.length
    · rw [List.getElem?_set_self hl] at hj
      cases hj
    · rw [List.getElem?_eq_none (by rw [List.length_set]; omega)] at hj
      cases hj
  · rw [List.getElem?_set_ne z] at hj
    exact ⟨j, ds, hj⟩
theorem go_no {B H : Hp} {ρ : En} {i : Nat} : Go B H ρ B H (ρ.set i .no) := ⟨Evl.Ex.refl B, fun _ _ h _ => h, fun _ _ h _ => h, fun _ h => .inl (own_no h), fun _ h => h⟩
/-- the list that is being made, one more -/
theorem acc_put {K : PySem.W.Frag} {B H B1 H1 : Hp} {σ : L2.St} {ρ ρ1 : En} {p : Addr} {o : HO} (g : Go B H ρ B1 H1 ρ1) (r : Rel K B1 H1 σ ρ1) (hp : H p = none) (bp : B1 p = none) (no : ¬ Own ρ1 p) : Go B H ρ B1 (upd H1 p o) ρ1 ∧ Rel K B1 (upd H1 p o) σ ρ1 := by
  refine ⟨⟨g.ex, fun a u h n => ?_, g.out, g.own, fun a z => ?_⟩, ⟨Evl.Ex.mut r.ex bp, r.len, r.dat, fun i a ds h => ?_, r.dis⟩⟩
  · rw [upd_ne (ne_of_none h hp)]
    exact g.keep a u h n
  · by_cases w : a = p
    · rw [w]
      exact hp
    · rw [upd_ne w] at z
      exact g.dom a z
  · obtain ⟨h1, h2, vs, h3, h4⟩ := r.own i a ds h
    exact ⟨h1, h2, vs, by rw [upd_ne (fun z => no ⟨i, ds, by rw [← z]; exact h⟩)]; exact h3, h4⟩
/-- what a comprehension's reading asks -/
theorem lc_read {B H : Hp} {σ : L2.St} {Q : VK} {scope : Scope} {i : Nat} {y : Str} {py : Pos} {elt iter : Expr} {Cb : Cx → Prop} (r : Rel X.K B H σ ρ)
    (cb : ∀ (s : Shared) (H : Hp) (Ca : Addr) (cl : List (Str × Addr)) (fp : List Addr), Cb (X.blk s H scope (compEnvC scope cl Ca X.env) fp))
    (h : VI X (.Name y py) iter ρ fun ds ρ1 => ds.length ≤ 100000 ∧ ∃ W : Nat → List D → En → Prop, W 0 [] ρ1 ∧
      (∀ (j : Nat) d acc ρ', ds[j]? = some d → W j acc ρ' → ∀ X', Cb X' → VD X' elt (ρ'.set i (.dat d)) fun u ρ4 => W (j + 1) (acc ++ [u]) (ρ4.set i .no)) ∧
      ∀ acc ρ', W ds.length acc ρ' → PL acc ρ')
    (q : ∀ p vs ds B' H' ρ', PL ds ρ' → H p = none → H' p = some (.lst vs) → B' p = none → ¬ Own ρ' p → DpAll X.K B' vs ds → Go B H ρ B' H' ρ' → Rel X.K B' H' σ ρ' → Q (.ref p) H') :
    tLc (iSemI X (.Name y py) iter) (gName i) tYes (uSem X scope elt) [i] σ H Q := by
  refine h.run B H σ _ r fun J ds B1 H1 ρ1 p1 yl g1 r1 Dl hD => ?_
  obtain ⟨hlen, W, w0, step, done⟩ := p1
  have bD : B1 Dl = none := by
    cases e : B1 Dl with
    | none => rfl
    | some u =>
      rw [r1.ex Dl u e] at hD
      cases hD
  have nD : ¬ Own ρ1 Dl := fun ⟨j, es, hj⟩ => by
    obtain ⟨_, _, ws, h7, _⟩ := r1.own j Dl es hj
    rw [hD] at h7
    cases h7
  refine ⟨fun j m H' => m = ds.length - j ∧ j ≤ ds.length ∧ ∃ acc vs B' ρ', W j acc ρ' ∧ acc.length = j ∧ H' Dl = some (.lst vs) ∧ B' Dl = none ∧ ¬ Own ρ' Dl ∧ DpAll X.K B' vs acc ∧ Go B1 H1 ρ1 B' H' ρ' ∧ Rel X.K B' H' σ ρ', ⟨ds.length, by omega, by omega, [], [], B1, ρ1, w0, rfl, upd_same, bD, nD, .nil, (acc_put Go.refl r1 hD bD nD).1, (acc_put Go.refl r1 hD bD nD).2⟩, ?_⟩
  rintro j m H' ⟨rfl, hj, acc, vs, B', ρ', w, hacc, hl, bl, nl, dacc, g, r'⟩
  obtain ⟨y1, y2⟩ := yl j B' H' g.ex r'.ex
  by_cases hlt : j < ds.length
  · obtain ⟨go, yy⟩ := y1 hlt
    refine .inr ⟨go, fun H2 => ∃ acc vs B' ρ', W (j + 1) acc ρ' ∧ acc.length = j + 1 ∧ H2 Dl = some (.lst vs) ∧ B' Dl = none ∧ ¬ Own ρ' Dl ∧ DpAll X.K B' vs acc ∧ Go B1 H1 ρ1 B' H2 ρ' ∧ Rel X.K B' H2 σ ρ', fun H2 hN2 => ⟨ds.length - (j + 1), by omega, rfl, hlt, hN2⟩, fun x H2 hy2 => ?_⟩
    obtain ⟨rfl, d, hd, dx⟩ := yy x H2 hy2
    have st := step j d acc ρ' hd w
    -- the block's slots
    have rw0 : Rel X.K B' H2 (σ.set i none) (ρ'.set i .no) := rel_no r' (by rw [List.set_set])
    have rw1 : Rel X.K B' H2 ((wipe σ [i]).set i (some x)) (ρ'.set i (.dat d)) := by
      have q1 : Rel X.K B' H2 ((σ.set i none).set i (some x)) ((ρ'.set i .no).set i (.dat d)) := rel_set (i := i) rw0 dx
      have q2 : (ρ'.set i .no).set i (Sl.dat d) = ρ'.set i (.dat d) := List.set_set ..
      rw [q2] at q1
      exact q1
    refine ⟨?_, fun s0 H0 Ca cl fp => ?_⟩
    · show (((σ.set i none).set i (some x)).set i none) = σ.set i none
      rw [List.set_set, List.set_set]
    · have vd := st _ (cb s0 H0 Ca cl fp)
      refine vd.run B' H2 ((wipe σ [i]).set i (some x)) _ rw1 fun u du B4 H4 ρ4 p4 dv g4 r4 => ?_
      have gA : Go B1 H1 ρ1 B4 H4 ρ4 := (g.trans go_set).trans g4
      have nl2 : ¬ Own (ρ'.set i (.dat d)) Dl := fun z => nl (own_set z)
      have hD4 : H4 Dl = some (.lst vs) := g4.keep Dl _ hl nl2
      have bD4 : B4 Dl = none := g4.out Dl (by rw [hl]; exact fun z => by cases z) bl nl2
      have nD4 : ¬ Own ρ4 Dl := fun z => (g4.own Dl z).elim nl2 fun e => by rw [hl] at e; cases e
      have rS : Rel X.K B4 H4 σ (ρ4.set i .no) := rel_no r4 (by
        show ((σ.set i none).set i (some x)).set i none = σ.set i none
        rw [List.set_set, List.set_set])
      have gS : Go B1 H1 ρ1 B4 H4 (ρ4.set i .no) := gA.trans go_no
      have nS : ¬ Own (ρ4.set i .no) Dl := fun z => nD4 (own_no z)
      obtain ⟨gF, rF⟩ := acc_put (o := .lst (vs ++ [u])) gS rS hD bD4 nS
      refine ⟨vs, hD4, ?_, acc ++ [du], vs ++ [u], B4, ρ4.set i .no, p4, by rw [List.length_append, hacc]; rfl, upd_same, bD4, nS, DpAll.app (DpAll.mono g4.ex dacc) (.cons dv .nil), gF, rF⟩
      rw [DpAll.len dacc, hacc]
      exact Nat.lt_of_lt_of_le hlt (Nat.le_trans hlen (by decide))
  · have e : j = ds.length := by omega
    subst e
    exact .inl ⟨y2 (Nat.le_refl _), q Dl vs acc B' H' ρ' (done acc ρ' w) (g1.dom Dl hD) hl bl nl dacc (g1.trans g) r'⟩
/-- [elt for y in iter] -/
theorem vn_lc (C : Cst X M sc NK G k) {scope : Scope} {i : Nat} {y : Str} {py : Pos} {elt iter : Expr} {v : Bool} (NK' : List (Str × Bool × Bool)) (G' : List Str) (hy : At NK' i (y, v, true))
    (h : VI X (.Name y py) iter ρ fun ds ρ1 => ds.length ≤ 100000 ∧ ∃ W : Nat → List D → En → Prop, W 0 [] ρ1 ∧
      (∀ (j : Nat) d acc ρ', ds[j]? = some d → W j acc ρ' → ∀ X', Cst X' M (relS scope sc) NK' G' k → VD X' elt (ρ'.set i (.dat d)) fun u ρ4 => W (j + 1) (acc ++ [u]) (ρ4.set i .no)) ∧
      ∀ acc ρ', W ds.length acc ρ' → PL acc ρ')
    (ok : blkC (NK.map (·.1)) sc scope [(y, i)] = true := by decide +kernel) (hN : NK'.map (·.1) = NK.map (·.1) := by rfl) (hc : chk (relS scope sc) false NK' G' = true := by decide +kernel)
    (hs : ∀ x, foldedSetIterable iter X.env x = pure x := by intro _; rfl) : VN X (.ListComp elt [⟨.Name y py, iter, [], 0⟩] scope pos) ρ PL := VN.mk fun B H σ Q r q => by
  have ok' : BlkOk X.N X.env.scope scope [(y, i)] := by
    rw [C.n, C.s]
    exact blkOk_by ok
  have cb : ∀ (s : Shared) (H : Hp) (Ca : Addr) (cl : List (Str × Addr)) (fp : List Addr), Cst (X.blk s H scope (compEnvC scope cl Ca X.env) fp) M (relS scope sc) NK' G' k := fun s H Ca cl fp => cst_blk C hN hc
  exact PE.sem (pe_lc (g := gName i) (tt := tYes) C.calm C.nd pi_sem ok' (fun s H Ca cl fp => pg_name (cb s H Ca cl fp).nd ((cb s H Ca cl fp).ix hy) ((cb s H Ca cl fp).lo hy) ((cb s H Ca cl fp).fn hy)) (fun _ _ _ _ _ => pts_nil) pe_uSem hs)
    (lc_read (Cb := fun X' => Cst X' M (relS scope sc) NK' G' k) r cb h q)
/-- a new list into a slot: as one's own -/
theorem own_new {K : PySem.W.Frag} {B H B1 H1 : Hp} {σ : L2.St} {ρ ρ1 : En} {i : Nat} {z : Addr} {vs : List V} {ds : List D} (hl : i < ρ1.length) (hz : H z = none) (h1 : H1 z = some (.lst vs)) (bz : B1 z = none) (no : ¬ Own ρ1 z) (dvs : DpAll K B1 vs ds) (g1 : Go B H ρ B1 H1 ρ1) (r1 : Rel K B1 H1 σ ρ1) :
    Go B H ρ B1 H1 (ρ1.set i (.own z ds)) ∧ Rel K B1 H1 (σ.set i (some (.ref z))) (ρ1.set i (.own z ds)) := by
  have own_of : ∀ (j : Nat) a es, (ρ1.set i (.own z ds))[j]? = some (.own a es) → (j = i ∧ a = z ∧ es = ds) ∨ (j ≠ i ∧ ρ1[j]? = some (.own a es)) := fun j a es hj => by
    by_cases w : i = j
    · subst w
      rw [List.getElem?_set_self hl] at hj
      cases hj
      exact .inl ⟨rfl, rfl, rfl⟩
    · rw [List.getElem?_set_ne w] at hj
      exact .inr ⟨fun q => w q.symm, hj⟩
  refine ⟨⟨g1.ex, g1.keep, g1.out, fun a ⟨j, es, hj⟩ => ?_, g1.dom⟩, ⟨r1.ex, by rw [List.length_set, List.length_set]; exact r1.len, fun j d hj => ?_, fun j a es hj => ?_, fun j j' a es fs hj hj' => ?_⟩⟩
  · rcases own_of j a es hj with ⟨_, rfl, _⟩ | ⟨_, q⟩
    · exact .inr hz
    · exact g1.own a ⟨j, es, q⟩
  · by_cases w : i = j
    · subst w
      rw [List.getElem?_set_self hl] at hj
      cases hj
    · rw [List.getElem?_set_ne w] at hj ⊢
      exact r1.dat j d hj
  · rcases own_of j a es hj with ⟨rfl, rfl, rfl⟩ | ⟨w, q⟩
    · exact ⟨by rw [List.getElem?_set_self (by rw [← r1.len]; exact hl)], bz, vs, h1, dvs⟩
    · rw [List.getElem?_set_ne (fun q => w q.symm)]
      exact r1.own j a es q
  · rcases own_of j a es hj with ⟨rfl, rfl, rfl⟩ | ⟨w, q⟩
    · rcases own_of j' a fs hj' with ⟨rfl, _, _⟩ | ⟨w', q'⟩
      · rfl
      · exact absurd ⟨j', fs, q'⟩ no
    · rcases own_of j' a fs hj' with ⟨rfl, rfl, _⟩ | ⟨w', q'⟩
      · exact absurd ⟨j, es, q⟩ no
      · exact r1.dis j j' a es fs q q'
/-- a slot's own list is told as data that stays -/
theorem own_frz {K : PySem.W.Frag} {B H B1 H1 : Hp} {σ : L2.St} {ρ ρ1 : En} {z : Addr} {vs : List V} {ds : List D} (hz : H z = none) (h1 : H1 z = some (.lst vs)) (bz : B1 z = none) (no : ¬ Own ρ1 z) (dvs : DpAll K B1 vs ds) (g1 : Go B H ρ B1 H1 ρ1) (r1 : Rel K B1 H1 σ ρ1) :
    Go B H ρ (upd B1 z (.lst vs)) H1 ρ1 ∧ Rel K (upd B1 z (.lst vs)) H1 σ ρ1 ∧ Dp K (upd B1 z (.lst vs)) (.ref z) (.list ds) := by
  have eB : Ex B1 (upd B1 z (.lst vs)) := Evl.Ex.new bz
  have ne : ∀ a, Own ρ1 a → a ≠ z := fun a w e => no (by rw [← e]; exact w)
  refine ⟨⟨g1.ex.trans eB, g1.keep, fun a h1 h2 h3 => ?_, g1.own, g1.dom⟩, ⟨fun a u ha => ?_, r1.len, fun i d hi => ?_, fun i a ds' hi => ?_, r1.dis⟩, .lst (.inl (.inl upd_same)) (DpAll.mono eB dvs)⟩
  · rw [upd_ne (fun w => h1 (by rw [w]; exact hz))]
    exact g1.out a h1 h2 h3
  · by_cases w : a = z
    · rw [w, upd_same] at ha
      rw [w, h1]
      exact ha
    · rw [upd_ne w] at ha
      exact r1.ex a u ha
  · obtain ⟨v, h1, h2⟩ := r1.dat i d hi
    exact ⟨v, h1, Dp.mono eB h2⟩
  · obtain ⟨h1, h2, ws, h3, h4⟩ := r1.own i a ds' hi
    refine ⟨h1, ?_, ws, h3, DpAll.mono eB h4⟩
    rw [upd_ne (ne a ⟨i, ds', hi⟩)]
    exact h2
/-- name = [elt for y in iter], on one line, as data that stays -/
theorem vs_setLc (C : Cst X M sc NK G k) {F : Fin} {scope : Scope} {i m : Nat} {x y : Str} {px py spos : Pos} {elt iter : Expr} {v v2 : Bool} (NK' : List (Str × Bool × Bool)) (G' : List Str) (hx : At NK m (x, v2, true)) (hy : At NK' i (y, v, true))
    (h : VI X (.Name y py) iter ρ fun ds ρ1 => ds.length ≤ 100000 ∧ ∃ W : Nat → List D → En → Prop, W 0 [] ρ1 ∧
      (∀ (j : Nat) d acc ρ', ds[j]? = some d → W j acc ρ' → ∀ X', Cst X' M (relS scope sc) NK' G' k → VD X' elt (ρ'.set i (.dat d)) fun u ρ4 => W (j + 1) (acc ++ [u]) (ρ4.set i .no)) ∧
      ∀ acc ρ', W ds.length acc ρ' → F.nx (ρ'.set m (.dat (.list acc))))
    (hk : sc.kind = .function := by rfl) (hxl : sc.names.lookup x = some .local := by decide +kernel) (hpl : (px.line == pos.line) = true := by rfl) (hpa : (scope.names.any fun (n, k) => n == x && (k == .local || k == .cell)) = false := by decide +kernel)
    (ok : blkC (NK.map (·.1)) sc scope [(y, i)] = true := by decide +kernel) (hN : NK'.map (·.1) = NK.map (·.1) := by rfl) (hc : chk (relS scope sc) false NK' G' = true := by decide +kernel)
    (hs : ∀ x, foldedSetIterable iter X.env x = pure x := by intro _; rfl) : VS X (.Assign [.Name x px] (.ListComp elt [⟨.Name y py, iter, [], 0⟩] scope pos) spos) ρ F := VS.mk fun B H σ Z r f => by
  have ok' : BlkOk X.N X.env.scope scope [(y, i)] := by
    rw [C.n, C.s]
    exact blkOk_by ok
  have cb : ∀ (s : Shared) (H : Hp) (Ca : Addr) (cl : List (Str × Addr)) (fp : List Addr), Cst (X.blk s H scope (compEnvC scope cl Ca X.env) fp) M (relS scope sc) NK' G' k := fun s H Ca cl fp => cst_blk C hN hc
  refine PS.sem (ps_setLc (g := gName i) (tt := tYes) (i := m) C.calm C.nd (C.ix hx) (by rw [C.s]; exact hxl) (sw_true (by rw [C.s]; exact hk) (by rw [C.s]; exact hxl) hpl hpa) pi_sem ok' (fun s H Ca cl fp => pg_name (cb s H Ca cl fp).nd ((cb s H Ca cl fp).ix hy) ((cb s H Ca cl fp).lo hy) ((cb s H Ca cl fp).fn hy)) (fun _ _ _ _ _ => pts_nil) pe_uSem hs) ?_
  refine lc_read (Cb := fun X' => Cst X' M (relS scope sc) NK' G' k) (PL := fun acc ρ' => F.nx (ρ'.set m (.dat (.list acc)))) r cb h fun z vs ds B1 H1 ρ1 p hz h1 bz no dvs g1 r1 => ?_
  obtain ⟨g2, r2, d2⟩ := own_frz hz h1 bz no dvs g1 r1
  exact f.nx _ H1 _ _ p (g2.trans go_set) (rel_set r2 d2)
end

/-! ### defs -/
section
variable {M : Md} {x : Str} {st : Stmt} {f : Addr} {fd : FuncData} {N ps : List Str} {NK : List (Str × Bool × Bool)} {G : List Str} {k n : Nat}
theorem start_get {vs : List V} {N : List Str} {i : Nat} {v : V} (h : vs[i]? = some v) : (L2.start N vs)[i]? = some (some v) := by
  unfold L2.start
  rw [List.getElem?_append_left (by rw [List.length_map]; exact (List.getElem?_eq_some_iff.mp h).1), List.getElem?_map, h]
  rfl
theorem slots_get {ds : List D} {m i : Nat} {s : Sl} (h : (ds.map Sl.dat ++ List.replicate m Sl.no)[i]? = some s) : (∃ d, s = .dat d ∧ ds[i]? = some d) ∨ s = .no := by
  by_cases hi : i < ds.length
  · rw [List.getElem?_append_left (by rw [List.length_map]; exact hi), List.getElem?_map] at h
    cases e : ds[i]? with
    | none =>
      rw [e] at h
      cases h
    | some d =>
      rw [e] at h
      cases h
      exact .inl ⟨d, rfl, rfl⟩
  · rw [List.getElem?_append_right (by rw [List.length_map]; omega), List.getElem?_replicate] at h
    split at h
    · cases h
      exact .inr rfl
    · cases h
theorem rel_start {K : PySem.W.Frag} {B H : Hp} {vs : List V} {ds : List D} (e : Ex B H) (h : DpAll K B vs ds) (hl : ds.length ≤ N.length) : Rel K B H (L2.start N vs) (ds.map Sl.dat ++ List.replicate (N.length - ds.length) Sl.no) := by
  refine ⟨e, ?_, fun i d hi => ?_, fun i a es hi => ?_, fun i j a es fs hi _ => ?_⟩
  · unfold L2.start
    rw [List.length_append, List.length_append, List.length_map, List.length_map, List.length_replicate, List.length_replicate, DpAll.len h]
  · rcases slots_get hi with ⟨d', e1, e2⟩ | e1
    · cases e1
      obtain ⟨v, h1, h2⟩ := DpAll.get h e2
      exact ⟨v, start_get h1, h2⟩
    · cases e1
  · rcases slots_get hi with ⟨d', e1, e2⟩ | e1 <;> cases e1
  · rcases slots_get hi with ⟨d', e1, e2⟩ | e1 <;> cases e1
theorem fnOk_mk {S : List D → (D → Prop) → Prop} (F : Fun M.K x x st f fd) (Sc : FnScope N ps (defScope st)) (hN : N = NK.map (·.1)) (hc : chk (defScope st) true NK G = true) (hn : ps.length = n) (hnN : n ≤ N.length)
    (body : ∀ X, Cst X M (defScope st) NK G k → ∀ ds W, ds.length = n → S ds W → VSs X (defBody st) (ds.map Sl.dat ++ List.replicate (N.length - n) Sl.no) { nx := fun _ => W .none, rt := fun d _ => W d }) : FnOk M.prog M.w M.K M.mg M.base CX0 (k + 1) f fd ps (DS M.K n S) := by
  refine F.ok Sc (fun vs H Q E h => ?_) (fun cdv A outer s H vs Q E hr h => ?_)
  · obtain ⟨B, ds, W, e, d, hl, _⟩ := h
    rw [DpAll.len d, hl, hn]
  · obtain ⟨B, ds, W, e, d, hl, hS, q⟩ := h
    have C : Cst (cxOf CX0 M.prog M.w M.K M.mg M.base N x (defScope st) f cdv A outer s H E).nox M (defScope st) NK G k := cst_def hN Sc.nd hc hr
    refine ⟨_, pss_sem, ?_⟩
    have bd := body _ C ds W hl hS
    have r0 := rel_start (N := N) e d (by omega)
    rw [hl] at r0
    have no0 : ∀ a, ¬ Own (ds.map Sl.dat ++ List.replicate (N.length - n) Sl.no) a := fun a ⟨i, es, hi⟩ => by
      rcases slots_get hi with ⟨d', e1, e2⟩ | e1 <;> cases e1
    refine bd.run B H _ _ r0 ⟨fun B' H' σ' ρ' p g r => ?_, fun v dd B' H' σ' ρ' p dv g r => ?_, fun _ _ _ _ p => p.elim, fun _ _ _ _ p => p.elim⟩
    · exact q .non .none B' H' p .non g.ex r.ex (fun a o h => g.keep a o h (no0 a)) fun a h1 h2 => g.out a h1 h2 (no0 a)
    · exact q v dd B' H' p dv g.ex r.ex (fun a o h => g.keep a o h (no0 a)) fun a h1 h2 => g.out a h1 h2 (no0 a)
theorem fnD_mk {S : List D → (D → Prop) → Prop} (F : Fun M.K x x st f fd) (Sc : FnScope N ps (defScope st)) (hm : M.mg x = some (.ref f)) (b : Binds M.K fd ps []) (hN : N = NK.map (·.1)) (hc : chk (defScope st) true NK G = true) (hn : ps.length = n) (hnN : n ≤ N.length)
    (body : ∀ X, Cst X M (defScope st) NK G k → ∀ ds W, ds.length = n → S ds W → VSs X (defBody st) (ds.map Sl.dat ++ List.replicate (N.length - n) Sl.no) { nx := fun _ => W .none, rt := fun d _ => W d }) : FnD M (k + 1) x n S :=
  ⟨f, fd, ps, fnOk_mk F Sc hN hc hn hnN body, hm, F.kp, b⟩
theorem fnM_mk {S : List D → List D → (D → List D → Prop) → Prop} (F : Fun M.K x x st f fd) (Sc : FnScope N ps (defScope st)) (hm : M.mg x = some (.ref f)) (b : Binds M.K fd ps []) (hN : N = NK.map (·.1)) (hc : chk (defScope st) true NK G = true) (hn : ps.length = n + 1) (hnN : n + 1 ≤ N.length)
    (body : ∀ X, Cst X M (defScope st) NK G k → ∀ p cs ds W, ds.length = n → S cs ds W → VSs X (defBody st) (.own p cs :: (ds.map Sl.dat ++ List.replicate (N.length - (n + 1)) Sl.no)) { nx := fun ρ' => ∃ cs', ρ'[0]? = some (.own p cs') ∧ W .none cs', rt := fun d ρ' => ∃ cs', ρ'[0]? = some (.own p cs') ∧ W d cs' }) : FnM M (k + 1) x n S := by
  refine ⟨f, fd, ps, ?_, hm, F.kp, b⟩
  refine F.ok Sc (fun vs H Q E h => ?_) (fun cdv A outer s H vs Q E hr h => ?_)
  · obtain ⟨B, p, xs, cs, ws, ds, W, rfl, e, bp, hp, dx, d, hl, _⟩ := h
    rw [List.length_cons, DpAll.len d, hl, hn]
  · obtain ⟨B, p, xs, cs, ws, ds, W, rfl, e, bp, hp, dx, d, hl, hS, q⟩ := h
    have C : Cst (cxOf CX0 M.prog M.w M.K M.mg M.base N x (defScope st) f cdv A outer s H E).nox M (defScope st) NK G k := cst_def hN Sc.nd hc hr
    refine ⟨_, pss_sem, ?_⟩
    have bd := body _ C p cs ds W hl hS
    have own0 : ∀ a, Own (.own p cs :: (ds.map Sl.dat ++ List.replicate (N.length - (n + 1)) Sl.no)) a → a = p := fun a ⟨i, es, hi⟩ => by
      cases i with
      | zero => cases hi; rfl
      | succ i =>
        rw [List.getElem?_cons_succ] at hi
        rcases slots_get hi with ⟨d', e1, e2⟩ | e1 <;> cases e1
    have r0 : Rel M.K B H (L2.start N (.ref p :: ws)) (.own p cs :: (ds.map Sl.dat ++ List.replicate (N.length - (n + 1)) Sl.no)) := by
      refine ⟨e, ?_, fun i dd hi => ?_, fun i a es hi => ?_, fun i j a es fs hi hj => ?_⟩
      · unfold L2.start
        simp only [List.length_cons, List.length_append, List.length_map, List.length_replicate, DpAll.len d, hl]
        omega
      · cases i with
        | zero => cases hi
        | succ i =>
          rw [List.getElem?_cons_succ] at hi
          rcases slots_get hi with ⟨d', e1, e2⟩ | e1
          · cases e1
            obtain ⟨v, h1, h2⟩ := DpAll.get d e2
            exact ⟨v, start_get (by rw [List.getElem?_cons_succ]; exact h1), h2⟩
          · cases e1
      · cases i with
        | zero =>
          cases hi
          exact ⟨start_get rfl, bp, xs, hp, dx⟩
        | succ i =>
          rw [List.getElem?_cons_succ] at hi
          rcases slots_get hi with ⟨d', e1, e2⟩ | e1 <;> cases e1
      · cases i with
        | zero =>
          cases j with
          | zero => rfl
          | succ j =>
            rw [List.getElem?_cons_succ] at hj
            rcases slots_get hj with ⟨d', e1, e2⟩ | e1 <;> cases e1
        | succ i =>
          rw [List.getElem?_cons_succ] at hi
          rcases slots_get hi with ⟨d', e1, e2⟩ | e1 <;> cases e1
    have fin : ∀ v dd B' H' σ' ρ', (∃ cs', ρ'[0]? = some (.own p cs') ∧ W dd cs') → Dp M.K B' v dd → Go B H (.own p cs :: (ds.map Sl.dat ++ List.replicate (N.length - (n + 1)) Sl.no)) B' H' ρ' → Rel M.K B' H' σ' ρ' → Q v H' := fun v dd B' H' σ' ρ' ⟨cs', h0, w⟩ dv g r => by
      obtain ⟨_, h2, vs', h3, h4⟩ := r.own 0 p cs' h0
      exact q v dd B' H' vs' cs' w dv g.ex r.ex h2 h3 h4 (fun a o hne h => g.keep a o h fun z => hne (own0 a z)) fun a hne h1 h2 => g.out a h1 h2 fun z => hne (own0 a z)
    refine bd.run B H _ _ r0 ⟨fun B' H' σ' ρ' p' g r => fin .non .none B' H' σ' ρ' p' .non g r, fun v dd B' H' σ' ρ' p' dv g r => fin v dd B' H' σ' ρ' p' dv g r, fun _ _ _ _ p => p.elim, fun _ _ _ _ p => p.elim⟩
end
/-- a law: of every script of at most n numbers it says True -/
def LawS (n : Nat) : List D → (D → Prop) → Prop := fun ds W => ∃ ns : List Int, ds = [.list (ns.map PyData.int)] ∧ ns.length ≤ n ∧ W (.bool true)
theorem law_sp {K : PySem.W.Frag} {H : Hp} {a : Addr} {ns : List Int} {n : Nat} (hl : ns.length ≤ n) (h : SqL K H a (ns.map V.int)) : DS K 1 (LawS n) [.ref a] H (fun v _ => v = .bl true) fun _ _ _ => False :=
  ⟨H, [.list (ns.map PyData.int)], fun d => d = .bool true, Evl.Ex.refl H, .cons (.lst h (dp_ints ns)) .nil, rfl, ⟨ns, rfl, hl, rfl⟩, fun v d B' H' w dv _ _ _ _ => by
    subst w
    exact dp_bool dv⟩

open PySem PySem.Calls PySem.W
theorem args_gcd3 (a b c : Value) : argsOk "math.gcd" ⟨[a, b, c], []⟩ := by unfold argsOk; kernel_rfl
theorem args_lcm3 (a b c : Value) : argsOk "math.lcm" ⟨[a, b, c], []⟩ := by unfold argsOk; kernel_rfl
theorem run_gcd3 (a : Int) (t : Tok) (b : Int) (u : Tok) (c : Int) (v : Tok) :
    Gives (Builtin.«math.gcd» ⟨[.int a t, .int b u, .int c v], []⟩) (.int (((((Nat.gcd 0 a.natAbs).gcd b.natAbs).gcd c.natAbs : Nat) : Int))) :=
  .of_wp fun M A E s Q h => by obtain ⟨hp, g, d, tk, os⟩ := s; wp_walk; exact ⟨_, rfl, h⟩
theorem run_lcm3 (a : Int) (t : Tok) (b : Int) (u : Tok) (c : Int) (v : Tok) (hc0 : ¬(max 1 a.natAbs).log2 / 30 + 1 > 450) (hc1 : ¬(max (Nat.lcm 1 a.natAbs) b.natAbs).log2 / 30 + 1 > 450) (hc2 : ¬(max ((Nat.lcm 1 a.natAbs).lcm b.natAbs) c.natAbs).log2 / 30 + 1 > 450) (hsz : (((((Nat.lcm 1 a.natAbs).lcm b.natAbs).lcm c.natAbs : Nat) : Int)).natAbs.log2 < bitsLine) :
    Gives (Builtin.«math.lcm» ⟨[.int a t, .int b u, .int c v], []⟩) (.int (((((Nat.lcm 1 a.natAbs).lcm b.natAbs).lcm c.natAbs : Nat) : Int))) :=
  .of_wp fun M A E s Q h => by obtain ⟨hp, g, d, tk, os⟩ := s; wp_walk; rw [if_neg hc1]; wp_walk; (try rw [if_neg hc2]); (try wp_walk); (try (refine wpAny_ite_false (decide_eq_false (Nat.not_le.mpr hsz)) ?_; wp_walk)); exact ⟨_, rfl, h⟩
theorem lcm_le (m n : Nat) : m.lcm n ≤ m * n := mc_lcm_le m n
open L2 PyProof.Rows Evl
section
variable {X : Cx}
theorem does_gcd3 : Does X (.builtin "math.gcd") (fun ds W => ∃ a b c : Int, ds = [.int a, .int b, .int c] ∧ W (.int ((Nat.gcd (Nat.gcd a.natAbs b.natAbs) c.natAbs : Nat) : Int))) := fun B H vs ds W Q e h s q => by
  obtain ⟨a, b, c, rfl, w⟩ := s
  cases h with
  | cons h1 h2 =>
    cases h2 with
    | cons h2 h3 =>
      cases h3 with
      | cons h3 h4 =>
        cases h4
        rw [dp_int h1, dp_int h2, dp_int h3]
        intro pins s σ us I rv
        cases rv with
        | cons r1 rv =>
          cases rv with
          | cons r2 rv =>
            cases rv with
            | cons r3 rv =>
              cases rv
              obtain ⟨t, rfl⟩ := r1
              obtain ⟨u, rfl⟩ := r2
              obtain ⟨v, rfl⟩ := r3
              have g := run_gcd3 a t b u c v
              rw [Nat.gcd_zero_left] at g
              exact call_function_meets MGF.kind_gcd MGF.plain_gcd MGF.entry_gcd (args_gcd3 _ _ _) g.meets ⟨.int _, H, I.tok _, ⟨_, rfl⟩, q _ _ B H w (.int _) (Ex.refl B) e (Ex.refl H) fun _ _ b => b⟩
theorem does_lcm3 : Does X (.builtin "math.lcm") (fun ds W => ∃ a b c : Int, ds = [.int a, .int b, .int c] ∧ a.natAbs < 2 ^ 64 ∧ b.natAbs < 2 ^ 64 ∧ c.natAbs < 2 ^ 64 ∧ W (.int ((Nat.lcm (Nat.lcm a.natAbs b.natAbs) c.natAbs : Nat) : Int))) := fun B H vs ds W Q e h s q => by
  obtain ⟨a, b, c, rfl, ha, hb, hc, w⟩ := s
  cases h with
  | cons h1 h2 =>
    cases h2 with
    | cons h2 h3 =>
      cases h3 with
      | cons h3 h4 =>
        cases h4
        rw [dp_int h1, dp_int h2, dp_int h3]
        intro pins s σ us I rv
        cases rv with
        | cons r1 rv =>
          cases rv with
          | cons r2 rv =>
            cases rv with
            | cons r3 rv =>
              cases rv
              obtain ⟨t, rfl⟩ := r1
              obtain ⟨u, rfl⟩ := r2
              obtain ⟨v, rfl⟩ := r3
              have l1 : Nat.lcm 1 a.natAbs = a.natAbs := mc_lcm_one _
              have l2 : Nat.lcm a.natAbs b.natAbs < 2 ^ 128 := Nat.lt_of_le_of_lt (lcm_le _ _) (by
                have := Nat.mul_le_mul (Nat.le_of_lt ha) (Nat.le_of_lt hb)
                rcases Nat.lt_or_ge (a.natAbs * b.natAbs) (2 ^ 128) with z | z
                · exact z
                · have h3 : a.natAbs * b.natAbs ≤ (2 ^ 64 - 1) * (2 ^ 64 - 1) := Nat.mul_le_mul (by omega) (by omega)
                  exact Nat.lt_of_le_of_lt h3 (by decide))
              have l3 : Nat.lcm (Nat.lcm a.natAbs b.natAbs) c.natAbs < 2 ^ 192 := Nat.lt_of_le_of_lt (lcm_le _ _) (by
                have h3 : Nat.lcm a.natAbs b.natAbs * c.natAbs ≤ (2 ^ 128 - 1) * (2 ^ 64 - 1) := Nat.mul_le_mul (by omega) (by omega)
                exact Nat.lt_of_le_of_lt h3 (by decide))
              have g := run_lcm3 a t b u c v (by have := mg_log (n := max 1 a.natAbs) (k := 200) (by omega); omega) (by rw [l1]; have := mg_log (n := max a.natAbs b.natAbs) (k := 200) (by omega); omega)
                (by rw [l1]; have := mg_log (n := max (Nat.lcm a.natAbs b.natAbs) c.natAbs) (k := 200) (by omega); omega)
                (by rw [l1, Int.natAbs_natCast]; have := mg_log (n := Nat.lcm (Nat.lcm a.natAbs b.natAbs) c.natAbs) (k := 200) (by omega); rw [bitsLine_eq]; omega)
              rw [l1] at g
              exact call_function_meets MGF.kind_lcm MGF.plain_lcm MGF.entry_lcm (args_lcm3 _ _ _) g.meets ⟨.int _, H, I.tok _, ⟨_, rfl⟩, q _ _ B H w (.int _) (Ex.refl B) e (Ex.refl H) fun _ _ b => b⟩
end

open PySem
/-! ### the integer square root -/
def IsRoot (n r : Nat) : Prop := r * r ≤ n ∧ n < (r + 1) * (r + 1)
theorem below8 {n : Nat} (h : n < 8) : IsRoot n (Float64.rootBelow8 n) := by
  have : n = 0 ∨ n = 1 ∨ n = 2 ∨ n = 3 ∨ n = 4 ∨ n = 5 ∨ n = 6 ∨ n = 7 := by omega
  rcases this with h | h | h | h | h | h | h | h <;> (subst h; exact ⟨by decide, by decide⟩)
theorem newton {n r P m : Nat} (hP : 2 ≤ P) (h1 : P * P * m ≤ n) (h2 : n < P * P * (m + 1)) (h3 : P * P * (P * P) ≤ 2 * n) (hr : IsRoot m r) (h8 : 8 ≤ n) :
    IsRoot n (if ((r + 1) * P + n / ((r + 1) * P)) / 2 * (((r + 1) * P + n / ((r + 1) * P)) / 2) > n then ((r + 1) * P + n / ((r + 1) * P)) / 2 - 1 else ((r + 1) * P + n / ((r + 1) * P)) / 2) := by
  obtain ⟨r1, r2⟩ := hr
  have hx0 : 0 < (r + 1) * P := Nat.mul_pos (by omega) (by omega)
  -- x x > n
  have hxx : n < ((r + 1) * P) * ((r + 1) * P) := by
    have e : P * P * (m + 1) ≤ P * P * ((r + 1) * (r + 1)) := Nat.mul_le_mul_left _ r2
    have e2 : P * P * ((r + 1) * (r + 1)) = ((r + 1) * P) * ((r + 1) * P) := by grind
    omega
  have hrp : (r * P) * (r * P) ≤ n := by
    have e : P * P * (r * r) ≤ P * P * m := Nat.mul_le_mul_left _ r1
    have e2 : P * P * (r * r) = (r * P) * (r * P) := by grind
    omega
  have hxr : (r + 1) * P = r * P + P := by grind
  generalize hx : (r + 1) * P = x at *
  have q1 : x * (n / x) ≤ n := Nat.mul_div_le n x
  have q2 : n < x * (n / x + 1) := Nat.lt_mul_div_succ n hx0
  generalize n / x = q at *
  have hqx : q < x := by
    rcases Nat.lt_or_ge q x with z | z
    · exact z
    · have := Nat.mul_le_mul_left x z
      omega
  generalize hy : (x + q) / 2 = y at *
  have y1 : 2 * y ≤ x + q := by omega
  have y2 : x + q ≤ 2 * y + 1 := by omega
  have hA : n < (y + 1) * (y + 1) := by
    have e1 : (x + q + 1) * (x + q + 1) ≤ (2 * y + 2) * (2 * y + 2) := Nat.mul_le_mul (by omega) (by omega)
    have e2 : (2 * y + 2) * (2 * y + 2) = 4 * ((y + 1) * (y + 1)) := by grind
    have e3 : 4 * (x * (q + 1)) ≤ (x + q + 1) * (x + q + 1) := by
      obtain ⟨t, rfl⟩ : ∃ t, x = q + 1 + t := ⟨x - (q + 1), by omega⟩
      have : (q + 1 + t + q + 1) * (q + 1 + t + q + 1) = 4 * ((q + 1 + t) * (q + 1)) + t * t := by grind
      omega
    omega
  have hB : n < y * y → (y - 1) * (y - 1) ≤ n := by
    intro hyn
    rcases Nat.lt_or_ge n ((y - 1) * (y - 1)) with z | z
    · exfalso
      have hy1 : 1 ≤ y := by
        rcases Nat.eq_zero_or_pos y with w | w
        · rw [w] at hyn; omega
        · exact w
      obtain ⟨u, rfl⟩ : ∃ u, y = u + 1 := ⟨y - 1, by omega⟩
      have z : n < u * u := z
      have hux : u < x := by omega
      obtain ⟨v, hv⟩ : ∃ v, x = u + v := ⟨x - u, by omega⟩
      have hur : r * P < u := by
        rcases Nat.lt_or_ge (r * P) u with w | w
        · exact w
        · have := Nat.mul_le_mul w w
          omega
      have hvP : v + 1 ≤ P := by omega
      -- v v > 2 x
      have e1 : x * (2 * u + 2) ≤ x * x + n := by
        have : x * (2 * u + 2) ≤ x * (x + q) := Nat.mul_le_mul_left _ (by omega)
        have e : x * (x + q) = x * x + x * q := Nat.mul_add _ _ _
        omega
      have e2 : 2 * x < v * v := by
        subst hv
        have : (u + v) * (u + v) + u * u = (u + v) * (2 * u) + v * v := by grind
        have e3 : (u + v) * (2 * u + 2) = (u + v) * (2 * u) + 2 * (u + v) := by grind
        omega
      have e4 : v * v ≤ P * P := Nat.mul_le_mul (by omega) (by omega)
      -- 2 (r + 1) < P
      have e5 : 2 * (r + 1) < P := by
        rcases Nat.lt_or_ge (2 * (r + 1)) P with w | w
        · exact w
        · have : P * P ≤ 2 * (r + 1) * P := Nat.mul_le_mul_right _ w
          have e : 2 * (r + 1) * P = 2 * ((r + 1) * P) := Nat.mul_assoc _ _ _
          omega
      have e6 : (2 * (r + 1)) * (2 * (r + 1)) ≤ P * P := Nat.mul_le_mul (by omega) (by omega)
      have e7 : P * P * ((2 * (r + 1)) * (2 * (r + 1))) ≤ P * P * (P * P) := Nat.mul_le_mul_left _ e6
      have e8 : P * P * ((2 * (r + 1)) * (2 * (r + 1))) = 4 * (((r + 1) * P) * ((r + 1) * P)) := by grind
      rw [hx] at e8
      omega
    · exact z
  by_cases h : y * y > n
  · rw [if_pos h]
    refine ⟨hB h, ?_⟩
    have hy1 : 1 ≤ y := by
      rcases Nat.eq_zero_or_pos y with w | w
      · rw [w] at h; omega
      · exact w
    rw [Nat.sub_add_cancel hy1]
    exact h
  · rw [if_neg h]
    exact ⟨by omega, hA⟩
theorem byHalves : ∀ (lv n : Nat), n.log2 ≤ lv → IsRoot n (Float64.rootByHalves lv n)
  | 0, n, h => by
    refine below8 ?_
    by_cases z : n = 0
    · omega
    · have := (Nat.log2_lt (k := 1) z).mp (by omega)
      omega
  | lv + 1, n, h => by
    unfold Float64.rootByHalves
    by_cases h8 : n < 8
    · rw [if_pos h8]
      exact below8 h8
    · rw [if_neg h8]
      have hn : n ≠ 0 := by omega
      have hL : 3 ≤ n.log2 := by
        rcases Nat.lt_or_ge n.log2 3 with z | z
        · have := (Nat.log2_lt (k := 3) hn).mp z
          omega
        · exact z
      have hk : 1 ≤ (n.log2 + 1) / 4 := by omega
      generalize hkk : (n.log2 + 1) / 4 = k at *
      have h4k : 4 * k ≤ n.log2 + 1 := by omega
      have e4 : (4 : Nat) ^ k = 2 ^ k * 2 ^ k := by
        rw [show (4 : Nat) = 2 * 2 from rfl, Nat.mul_pow]
      have hP : 2 ≤ 2 ^ k := by
        have := Nat.pow_le_pow_right (n := 2) (by decide) hk
        omega
      have hpp : 2 ^ k * 2 ^ k * (2 ^ k * 2 ^ k) ≤ 2 * n := by
        have e1 : (2 : Nat) ^ (4 * k) ≤ 2 ^ (n.log2 + 1) := Nat.pow_le_pow_right (by decide) h4k
        have e2 : (2 : Nat) ^ (4 * k) = 2 ^ k * 2 ^ k * (2 ^ k * 2 ^ k) := by
          rw [show 4 * k = (k + k) + (k + k) by omega, Nat.pow_add, Nat.pow_add]
        have e3 : (2 : Nat) ^ (n.log2 + 1) = 2 ^ n.log2 * 2 := Nat.pow_succ ..
        have e5 := Nat.log2_self_le hn
        omega
      have hpos : 0 < 2 ^ k * 2 ^ k := Nat.mul_pos (by omega) (by omega)
      have m1 : 2 ^ k * 2 ^ k * (n / 4 ^ k) ≤ n := by
        rw [e4]
        exact Nat.mul_div_le _ _
      have m2 : n < 2 ^ k * 2 ^ k * (n / 4 ^ k + 1) := by
        rw [e4]
        exact Nat.lt_mul_div_succ _ hpos
      have hlog : (n / 4 ^ k).log2 ≤ lv := by
        by_cases z : n / 4 ^ k = 0
        · rw [z]
          exact Nat.zero_le _
        · have hb : n < 2 ^ (lv + 2) := (Nat.log2_lt hn).mp (by omega)
          have hq : 4 * (n / 4 ^ k) ≤ n := by
            have : 4 * (n / 4 ^ k) ≤ 2 ^ k * 2 ^ k * (n / 4 ^ k) := Nat.mul_le_mul_right _ (by
              have := Nat.mul_le_mul hP hP
              omega)
            omega
          have hc : n / 4 ^ k < 2 ^ (lv + 1) := by
            have e : (2 : Nat) ^ (lv + 2) = 2 ^ (lv + 1) * 2 := Nat.pow_succ ..
            omega
          have := (Nat.log2_lt z).mpr hc
          omega
      exact newton hP m1 m2 hpp (byHalves lv _ hlog) (by omega)
theorem isqrt_root (n : Nat) : IsRoot n (Float64.isqrt n) := byHalves _ n (Nat.le_refl _)
theorem IsRoot.uniq {n a b : Nat} (h1 : IsRoot n a) (h2 : IsRoot n b) : a = b := by
  rcases Nat.lt_trichotomy a b with z | z | z
  · have := Nat.mul_le_mul (show a + 1 ≤ b from z) (show a + 1 ≤ b from z)
    have := h1.2
    have := h2.1
    omega
  · exact z
  · have := Nat.mul_le_mul (show b + 1 ≤ a from z) (show b + 1 ≤ a from z)
    have := h2.2
    have := h1.1
    omega

open PySem PySem.Spec PyProof.Rows L2
open Evl (Ex)

section
variable {X : Cx} {M : Md} {sc : Scope} {NK : List (Str × Bool × Bool)} {G : List Str} {k : Nat} {ρ : En} {P : D → En → Prop} {PL : List D → En → Prop} {pos : Pos} {a b c e : Expr} {es rest : List Expr} {x : Str}

/-- a // b, b of either sign -/
theorem vd_fdivN (h : VD X a ρ fun x ρ1 => VD X b ρ1 fun y ρ2 => ∃ i j, x = .int i ∧ y = .int j ∧ CDivN i j ∧ P (.int (i.fdiv j)) ρ2) : VD X (.BinOp a .FloorDiv b pos) ρ P := VD.mk fun B H σ Q r q => by
  refine PE.sem (pe_op or_sem pe_sem pe_sem) ?_
  refine h.run B H σ _ r fun vx x B1 H1 ρ1 p1 dx g1 r1 => ?_
  refine p1.run B1 H1 σ _ r1 fun vy y B2 H2 ρ2 p2 dy g2 r2 => ?_
  obtain ⟨i, j, rfl, rfl, hc, pp⟩ := p2
  rw [dp_int dx, dp_int dy]
  exact OpR.sem op_fdivN ⟨_, _, rfl, rfl, hc, q _ _ B2 H2 ρ2 pp (.int _) (g1.trans g2) r2⟩
/-- x or y, x a number -/
theorem vd_orI (h : VD X a ρ fun d ρ1 => ∃ i, d = .int i ∧ (i ≠ 0 → P (.int i) ρ1) ∧ (i = 0 → VD X (.BoolOp .Or (b :: rest) pos) ρ1 P)) : VD X (.BoolOp .Or (a :: b :: rest) pos) ρ P := VD.mk fun B H σ Q r q => by
  refine PE.sem (pe_orT pe_sem pe_sem) ?_
  refine h.run B H σ _ r fun v d B1 H1 ρ1 p dx g1 r1 => ?_
  obtain ⟨i, rfl, p1, p2⟩ := p
  rw [dp_int dx]
  refine ⟨i != 0, rfl, ?_⟩
  by_cases z : i = 0
  · subst z
    exact (p2 rfl).run B1 H1 σ Q r1 fun v d B2 H2 ρ2 p2 dd g2 r2 => q v d B2 H2 ρ2 p2 dd (g1.trans g2) r2
  · have e : (i != 0) = true := bne_iff_ne.mpr z
    rw [e, if_pos rfl]
    exact q _ _ B1 H1 ρ1 (p1 z) (.int i) g1 r1
theorem does_gcd2 : Does X (.builtin "math.gcd") (fun ds W => ∃ a b : Int, ds = [.int a, .int b] ∧ W (.int ((Nat.gcd a.natAbs b.natAbs : Nat) : Int))) := fun B H vs ds W Q e h s q => by
  obtain ⟨a, b, rfl, w⟩ := s
  cases h with
  | cons h1 h2 =>
    cases h2 with
    | cons h2 h3 =>
      cases h3
      rw [dp_int h1, dp_int h2]
      exact CallR.sem cr_gcd ⟨a, b, rfl, q _ _ B H w (.int _) (Ex.refl B) e (Ex.refl H) fun _ _ b => b⟩
theorem does_isqrt : Does X (.builtin "math.isqrt") (fun ds W => ∃ a : Int, ds = [.int a] ∧ 0 ≤ a ∧ a.natAbs < 2 ^ 9000 ∧ ∀ r : Nat, IsRoot a.natAbs r → W (.int (r : Int))) := fun B H vs ds W Q e h s q => by
  obtain ⟨a, rfl, h0, ha, w⟩ := s
  cases h with
  | cons h1 h2 =>
    cases h2
    rw [dp_int h1]
    intro pins s σ us I rv
    cases rv with
    | cons r1 rv =>
      cases rv
      obtain ⟨t, rfl⟩ := r1
      have et : a.toNat = a.natAbs := by omega
      have hl : a.toNat.log2 ≤ 9000 := PySem.W.mg_log (by
        rw [et, Nat.pow_succ]
        omega)
      exact call_function_meets PySem.W.MGF.kind_isqrt PySem.W.MGF.plain_isqrt PySem.W.MGF.entry_isqrt (PySem.W.MGF.args_isqrt _) (PySem.W.mg_run_isqrt a t (by omega) (by omega) (by omega)).meets
        ⟨.int _, H, I.tok _, ⟨_, rfl⟩, q _ _ B H (w _ (by rw [et]; exact isqrt_root _)) (.int _) (Ex.refl B) e (Ex.refl H) fun _ _ b => b⟩
theorem dps_ints {K : PySem.W.Frag} {B : Hp} : ∀ {ns : List Int} {xs : List V}, DpAll K B xs (ns.map PyData.int) → xs = ns.map V.int
  | [], _, .nil => rfl
  | n :: ns, _, .cons h hs => by
    rw [dp_int h, dps_ints hs]
    rfl
theorem does_max (C : Cst X M sc NK G k) : Does X (.builtin "max") (fun ds W => ∃ ns : List Int, ds = [.list (ns.map PyData.int)] ∧ 0 < ns.length ∧ ∀ m, m ∈ ns → (∀ y, y ∈ ns → y ≤ m) → W (.int m)) := fun B H vs ds W Q e h s q => by
  obtain ⟨ns, rfl, hl, w⟩ := s
  cases h with
  | cons h1 h2 =>
    cases h2
    obtain ⟨t, xs, rfl, hT, hx⟩ := dp_lst h1
    have ex := dps_ints hx
    subst ex
    exact CallR.sem (cr_max C.calm) ⟨t, ns, rfl, ex_l e hT, hl, fun m m1 m2 => q _ _ B H (w m m1 m2) (.int _) (Ex.refl B) e (Ex.refl H) fun _ _ b => b⟩
theorem does_sumT (C : Cst X M sc NK G k) : Does X (.builtin "sum") (fun ds W => ∃ ns : List Int, ds = [.tuple (ns.map PyData.int)] ∧ W (.int ns.sum)) := fun B H vs ds W Q e h s q => by
  obtain ⟨ns, rfl, w⟩ := s
  cases h with
  | cons h1 h2 =>
    cases h2
    obtain ⟨t, xs, rfl, hT, hx⟩ := dp_tup h1
    have ex := dps_ints hx
    subst ex
    intro pins s σ us I rv
    obtain ⟨its, r, pl, hz⟩ := I.tuple (ex_t e hT)
    rw [Vals.ref1 rv]
    have hi := r.ints
    obtain ⟨ys, hy⟩ := hi.allInts.items
    have hn : numsOf its.toArray.toList = ns := by
      rw [show its.toArray.toList = its from rfl, hi.numsOf]
    have pl' : s.heap.IsTuple t its.toArray := pl
    rw [hy] at pl' hn
    rw [nums_intItems] at hn
    refine PySem.W.ktm_sumG (I.ok.hd C.calm) pl' fun h' tk t' hk => ?_
    rw [PySem.preSum_eq, List.take_of_length_le (by simp), hn]
    exact ⟨.int _, H, I.kept hk, ⟨_, rfl⟩, q _ _ B H w (.int _) (Ex.refl B) e (Ex.refl H) fun _ _ b => b⟩

/-! ### xs + ys -/
theorem meets_cat (l : Addr) (xs : Array Value) (n : Nat) (t : Array (Option Value)) (b : Addr) (ys : Array Value) (m : Nat) (u : Array (Option Value)) (hz : xs.size + ys.size ≤ sizeLine) :
    Meets (Builtin.«list.__add__» ⟨[.ref l, .ref b], []⟩) (fun _ R s => s.heap.get? l = some ⟨.type "list", none, .seq xs n, t⟩ ∧ s.heap.get? b = some ⟨.type "list", none, .seq ys m, u⟩ ∧
      R (.ok (.ret (Value.ref s.heap.objs.size))) { s with heap := s.heap.push { cls := Value.type "list", data := Data.seq (xs ++ ys) }, toks := s.toks }) :=
  .of_wp fun prog w A R s h => by
    obtain ⟨hp, g, d, tk, os⟩ := s
    obtain ⟨h1, h2, h⟩ := h
    have f1 := PySem.AutoSeq1.idx_int
    have f2 := PySem.AutoSeq1.sub_tuple_tuple
    have f3 := PySem.AutoSeq1.sub_list_list
    have f4 := PySem.AutoSeq1.sub_tuple_list
    have f5 := PySem.AutoSeq1.sub_list_tuple
    wp_walk using PySem.AutoSeq1.wpAny_loadPart' h1, PySem.AutoSeq1.wpAny_loadPart' h2
    exact ⟨_, rfl, h⟩
def rCatS (K : PySem.W.Frag) : R2 := fun x y H Q => ∃ l b xs ys, x = V.ref l ∧ y = V.ref b ∧ SqL K H l xs ∧ SqL K H b ys ∧ xs.length + ys.length ≤ sizeLine ∧ ∀ p, H p = none → Q (.ref p) (upd H p (.lst (xs ++ ys)))
theorem op_catS : OpR X (binaryOp .Add) (rCatS X.K) := by
  intro pins s σ H x y v u Q I rx ry h
  obtain ⟨l, b, xs, ys, rfl, rfl, h1, h2, hz, q⟩ := h
  cases rx
  cases ry
  obtain ⟨its, r, ⟨⟨c1, d1, q1, s1⟩, n, e1, e2, e3, e4⟩, z1⟩ := I.list h1
  obtain ⟨jts, r', ⟨⟨c2, d2, q2, s2⟩, m, g1, g2, g3, g4⟩, z2⟩ := I.list h2
  simp only at e2 e3 e4 g2 g3 g4
  subst e2 e3 e4 g2 g3 g4
  have l1 := r.length
  have l2 := r'.length
  refine concat_meets ⟨_, e1, rfl⟩ ⟨_, g1, rfl⟩ noFill_list_add seq_list_add F.slot_list_add F.entry_list_add (F.args_list_add_2 _ _) (meets_cat l its.toArray n s1 b jts.toArray m s2 (by rw [List.size_toArray, List.size_toArray]; omega)) ⟨e1, g1, ?_⟩
  have ea : its.toArray ++ jts.toArray = (its ++ jts).toArray := by simp
  rw [ea]
  exact ⟨.ref _, _, I.lnew (t' := s.toks) (r.append r') (by rw [List.length_append]; omega), rfl, q _ I.fresh⟩
theorem vn_cat (h : VD X a ρ fun x ρ1 => VD X b ρ1 fun y ρ2 => ∃ xs ys, x = .list xs ∧ y = .list ys ∧ xs.length + ys.length ≤ 100000 ∧ PL (xs ++ ys) ρ2) : VN X (.BinOp a .Add b pos) ρ PL := VN.mk fun B H σ Q r q => by
  refine PE.sem (pe_op or_sem pe_sem pe_sem) ?_
  refine h.run B H σ _ r fun vx x B1 H1 ρ1 p1 dx g1 r1 => ?_
  refine p1.run B1 H1 σ _ r1 fun vy y B2 H2 ρ2 p2 dy g2 r2 => ?_
  obtain ⟨xs, ys, rfl, rfl, hz, pp⟩ := p2
  obtain ⟨l1, us, rfl, hT, hu⟩ := dp_lst dx
  obtain ⟨l2, ws, rfl, hT2, hw⟩ := dp_lst dy
  refine OpR.sem op_catS ⟨l1, l2, us, ws, rfl, rfl, ex_l (g2.ex.trans r2.ex) hT, ex_l r2.ex hT2, ?_, fun z hz2 => ?_⟩
  · rw [DpAll.len hu, DpAll.len hw]
    exact Nat.le_trans hz (by decide)
  · obtain ⟨r3, g3, bp⟩ := new_one (o := .lst (us ++ ws)) r2 hz2
    refine q z _ _ _ _ ρ2 pp (g1.dom z (g2.dom z hz2)) upd_same bp (fun w => ?_) (DpAll.app (DpAll.mono g2.ex hu) hw) ((g1.trans g2).trans g3) r3
    obtain ⟨i, fs, hf⟩ := w
    obtain ⟨_, _, vs, h5, _⟩ := r2.own i z fs hf
    rw [hz2] at h5
    cases h5

/-- a, b, c = e1, e2, e3 -/
theorem vs_par3 (C : Cst X M sc NK G k) {F : Fin} {i j l : Nat} {v1 v2 v3 : Bool} {y z : Str} {px py pz pt : Pos} {kt k2 pt2} (hi : At NK i (x, v1, true)) (hj : At NK j (y, v2, true)) (hl : At NK l (z, v3, true)) (hij : i ≠ j) (hil : i ≠ l) (hjl : j ≠ l)
    (h : VD X a ρ fun d ρ1 => VD X b ρ1 fun d2 ρ2 => VD X c ρ2 fun d3 ρ3 => F.nx (((ρ3.set i (.dat d)).set j (.dat d2)).set l (.dat d3)))
    (hw : ∀ env : Env, env.scope = sc → swappedStores [.Tuple [.Name x px, .Name y py, .Name z pz] kt pt] (.Tuple [a, b, c] k2 pt2) env = pure (some [x, y, z])) (hx : sc.names.lookup x = some .local := by decide +kernel) (hy : sc.names.lookup y = some .local := by decide +kernel) (hz : sc.names.lookup z = some .local := by decide +kernel)
    (hs : swapsWithSole [.Tuple [.Name x px, .Name y py, .Name z pz] kt pt] (.Tuple [a, b, c] k2 pt2) pos.line X.env = pure false := by rfl)
    (he : starEach [a, b, c] X.env = (false, eval a X.env) :: starEach [b, c] X.env := by rfl) (he2 : starEach [b, c] X.env = (false, eval b X.env) :: starEach [c] X.env := by rfl) (he3 : starEach [c] X.env = (false, eval c X.env) :: starEach [] X.env := by rfl) :
    VS X (.Assign [.Tuple [.Name x px, .Name y py, .Name z pz] kt pt] (.Tuple [a, b, c] k2 pt2) pos) ρ F := VS.mk fun B H σ Z r f => by
  refine PS.sem (ps_par3 C.calm C.nd (C.ix hi) (C.ix hj) (C.ix hl) hij hil hjl (by rw [C.s]; exact hx) (by rw [C.s]; exact hy) (by rw [C.s]; exact hz) (pa_cons pe_sem (pa_cons pe_sem (pa_cons pe_sem pa_nil he3) he2) he) (hw _ C.s) hs) ?_
  refine h.run B H σ _ r fun vv d B1 H1 ρ1 p1 dv g1 r1 => ?_
  refine p1.run B1 H1 σ _ r1 fun ww d2 B2 H2 ρ2 p2 dw g2 r2 => ?_
  refine p2.run B2 H2 σ _ r2 fun uu d3 B3 H3 ρ3 p3 du g3 r3 => ⟨vv, ww, uu, rfl, ?_⟩
  exact f.nx B3 H3 _ _ p3 (((((g1.trans g2).trans g3).trans go_set).trans go_set).trans go_set) (rel_set (rel_set (rel_set r3 (Dp.mono g3.ex (Dp.mono g2.ex dv))) (Dp.mono g3.ex dw)) du)

/-! ### lists of one's own -/
/-- name = [elt for y in iter], on one line, the name's own list -/
theorem vs_ownLc (C : Cst X M sc NK G k) {F : Fin} {scope : Scope} {i m : Nat} {x y : Str} {px py spos : Pos} {elt iter : Expr} {v v2 : Bool} (NK' : List (Str × Bool × Bool)) (G' : List Str) (hx : At NK m (x, v2, true)) (hy : At NK' i (y, v, true)) (hm : m < ρ.length)
    (h : VI X (.Name y py) iter ρ fun ds ρ1 => ds.length ≤ 100000 ∧ ∃ W : Nat → List D → En → Prop, W 0 [] ρ1 ∧
      (∀ (j : Nat) d acc ρ', ds[j]? = some d → W j acc ρ' → ∀ X', Cst X' M (relS scope sc) NK' G' k → VD X' elt (ρ'.set i (.dat d)) fun u ρ4 => W (j + 1) (acc ++ [u]) (ρ4.set i .no)) ∧
      ∀ acc ρ', W ds.length acc ρ' → ∀ z, F.nx (ρ'.set m (.own z acc)))
    (hk : sc.kind = .function := by rfl) (hxl : sc.names.lookup x = some .local := by decide +kernel) (hpl : (px.line == pos.line) = true := by rfl) (hpa : (scope.names.any fun (n, k) => n == x && (k == .local || k == .cell)) = false := by decide +kernel)
    (ok : blkC (NK.map (·.1)) sc scope [(y, i)] = true := by decide +kernel) (hN : NK'.map (·.1) = NK.map (·.1) := by rfl) (hc : chk (relS scope sc) false NK' G' = true := by decide +kernel)
    (hs : ∀ x, foldedSetIterable iter X.env x = pure x := by intro _; rfl) : VS X (.Assign [.Name x px] (.ListComp elt [⟨.Name y py, iter, [], 0⟩] scope pos) spos) ρ F := VS.mk fun B H σ Z r f => by
  have ok' : BlkOk X.N X.env.scope scope [(y, i)] := by
    rw [C.n, C.s]
    exact blkOk_by ok
  have cb : ∀ (s : Shared) (H : Hp) (Ca : Addr) (cl : List (Str × Addr)) (fp : List Addr), Cst (X.blk s H scope (compEnvC scope cl Ca X.env) fp) M (relS scope sc) NK' G' k := fun s H Ca cl fp => cst_blk C hN hc
  refine PS.sem (ps_setLc (g := gName i) (tt := tYes) (i := m) C.calm C.nd (C.ix hx) (by rw [C.s]; exact hxl) (sw_true (by rw [C.s]; exact hk) (by rw [C.s]; exact hxl) hpl hpa) pi_sem ok' (fun s H Ca cl fp => pg_name (cb s H Ca cl fp).nd ((cb s H Ca cl fp).ix hy) ((cb s H Ca cl fp).lo hy) ((cb s H Ca cl fp).fn hy)) (fun _ _ _ _ _ => pts_nil) pe_uSem hs) ?_
  refine lc_read (Cb := fun X' => Cst X' M (relS scope sc) NK' G' k) (PL := fun acc ρ' => ∀ z, F.nx (ρ'.set m (.own z acc))) r cb h fun z vs ds B1 H1 ρ1 p hz h1 bz no dvs g1 r1 => ?_
  have hl : m < ρ1.length := by rw [r1.len, ← r.len]; exact hm
  obtain ⟨g2, r2⟩ := own_new (i := m) hl hz h1 bz no dvs g1 r1
  exact f.nx _ H1 _ _ (p z) g2 r2
end

open PySem PySem.Spec PyProof.Rows L2
open Evl (Ex)
section
variable {X : Cx} {sts : List Stmt} {ρ : En} {F : Fin}
/-- from here on a slot's own list is told as data -/
theorem vss_frz {i : Nat} {p : Addr} {ds : List D} (ho : ρ[i]? = some (.own p ds)) (h : VSs X sts (ρ.set i (.dat (.list ds))) F) : VSs X sts ρ F := VSs.mk fun B H σ Z r f => by
  obtain ⟨h1, h2, vs, h3, h4⟩ := r.own i p ds ho
  have hlt := (List.getElem?_eq_some_iff.mp ho).1
  have eB : Ex B (upd B p (.lst vs)) := Evl.Ex.new h2
  have at_ : ∀ (j : Nat) s, (ρ.set i (.dat (.list ds)))[j]? = some s → (j = i ∧ s = .dat (.list ds)) ∨ (j ≠ i ∧ ρ[j]? = some s) := fun j s hj => by
    by_cases w : i = j
    · subst w
      rw [List.getElem?_set_self hlt] at hj
      exact .inl ⟨rfl, (Option.some.inj hj).symm⟩
    · rw [List.getElem?_set_ne w] at hj
      exact .inr ⟨fun z => w z.symm, hj⟩
  have ne : ∀ (j : Nat) a es, j ≠ i → ρ[j]? = some (.own a es) → a ≠ p := fun j a es w hj e => by
    subst e
    exact w (r.dis j i a es ds hj ho)
  have r2 : Rel X.K (upd B p (.lst vs)) H σ (ρ.set i (.dat (.list ds))) := by
    refine ⟨fun a u ha => ?_, by rw [List.length_set]; exact r.len, fun j d hj => ?_, fun j a es hj => ?_, fun j j' a es fs hj hj' => ?_⟩
    · by_cases w : a = p
      · rw [w, upd_same] at ha
        rw [w, h3]
        exact ha
      · rw [upd_ne w] at ha
        exact r.ex a u ha
    · rcases at_ j _ hj with ⟨rfl, e⟩ | ⟨_, hj⟩
      · cases e
        exact ⟨_, h1, .lst (.inl (.inl upd_same)) (DpAll.mono eB h4)⟩
      · obtain ⟨v, q1, q2⟩ := r.dat j d hj
        exact ⟨v, q1, Dp.mono eB q2⟩
    · rcases at_ j _ hj with ⟨_, e⟩ | ⟨w, hj⟩
      · cases e
      · obtain ⟨q1, q2, ws, q3, q4⟩ := r.own j a es hj
        refine ⟨q1, ?_, ws, q3, DpAll.mono eB q4⟩
        rw [upd_ne (ne j a es w hj)]
        exact q2
    · rcases at_ j _ hj with ⟨_, e⟩ | ⟨w, hj⟩
      · cases e
      · rcases at_ j' _ hj' with ⟨_, e⟩ | ⟨w', hj'⟩
        · cases e
        · exact r.dis j j' a es fs hj hj'
  have g2 : Go B H ρ (upd B p (.lst vs)) H (ρ.set i (.dat (.list ds))) := by
    refine ⟨eB, fun _ _ q _ => q, fun a q1 q2 q3 => ?_, fun a ⟨j, es, hj⟩ => ?_, fun _ q => q⟩
    · rw [upd_ne (fun e => q3 (by rw [e]; exact ⟨i, ds, ho⟩))]
      exact q2
    · rcases at_ j _ hj with ⟨_, e⟩ | ⟨w, hj⟩
      · cases e
      · exact .inl ⟨j, es, hj⟩
  exact h.run _ H σ Z r2 (f.go g2)
end
end Vc

namespace K2
open PySem PySem.Spec PyProof.Rows L2 Vc
local macro_rules | `(tactic| walk_at "at") => `(tactic| (repeat (first | with_reducible exact At.here | apply At.there)))
local macro_rules | `(tactic| walk_at "v") => `(tactic| first
  | refine vd_bin ?_
  | (refine vd_name (by assumption) (by walk_at "at") rfl ?_)
  | refine vd_int ?_
  | refine vd_bool ?_
  | refine vd_none ?_
  | refine vd_str ?_
  | refine vd_if ?_
  | (refine vd_neg ?_)
  | refine vd_tup ?_
  | refine va_nil ?_
  | refine va_cons ?_
  | refine vs_ret ?_
  | refine vss_nil ?_
  | refine vss_one ?_
  | refine vss_cons ?_
  | refine vs_if ?_
  | refine vt_cmp (by assumption) ?_
  | refine vs_set (by assumption) (by walk_at "at") ?_
  | refine vgs_nil ?_
  | refine vgs_cons ?_
  | refine vg_name (by assumption) (by walk_at "at") ?_
  | (refine vd_callT (x := "int") (by assumption) does_int (by walk_at "at") ?_)
  | (refine vd_callB (x := "len") (by assumption) does_len (by walk_at "at") ?_)
  | (refine vd_callB (x := "abs") (by assumption) does_abs (by walk_at "at") ?_)
  | (refine vd_ixo (by assumption) (by walk_at "at") rfl ?_)
  | refine vd_ix ?_)
local macro_rules | `(tactic| walk_at "sw") => `(tactic| (intro env h; cases env; dsimp only at h; subst h; rfl))
local macro_rules | `(tactic| walk_at "vv") => `(tactic| repeat (walk_at "v"))
def topS (i : Nat) : Stmt := PySem.Challenge.pw_justthepart_k02_whole_roots.main.body.getD i (.Pass ⟨0, 0, 0, 0⟩)
/-! sign_of(number): slots 0 number -/
abbrev sSignOf : Stmt := topS 2
abbrev nSignOf : List Str := ["number"]
theorem scSignOf : FnScope nSignOf ["number"] (defScope sSignOf) := ⟨rfl, rfl, rfl, by decide +kernel, rfl, by decide +kernel, by decide +kernel⟩
abbrev nkSignOf : List (Str × Bool × Bool) := [("number", true, true)]
abbrev gSignOf : List Str := []
/-! fraction(above, below): slots 0 above, 1 below, 2 common -/
abbrev sFraction : Stmt := topS 3
abbrev nFraction : List Str := ["above", "below", "common"]
theorem scFraction : FnScope nFraction ["above", "below"] (defScope sFraction) := ⟨rfl, rfl, rfl, by decide +kernel, rfl, by decide +kernel, by decide +kernel⟩
abbrev nkFraction : List (Str × Bool × Bool) := [("above", true, true), ("below", true, true), ("common", true, true)]
abbrev gFraction : List Str := ["gcd"]
/-! undivided(c0, c1, c2): slots 0 c0, 1 c1, 2 c2, 3 common -/
abbrev sUndivided : Stmt := topS 4
abbrev nUndivided : List Str := ["c0", "c1", "c2", "common"]
theorem scUndivided : FnScope nUndivided ["c0", "c1", "c2"] (defScope sUndivided) := ⟨rfl, rfl, rfl, by decide +kernel, rfl, by decide +kernel, by decide +kernel⟩
abbrev nkUndivided : List (Str × Bool × Bool) := [("c0", true, true), ("c1", true, true), ("c2", true, true), ("common", true, true)]
abbrev gUndivided : List Str := ["gcd"]
/-! discriminant(c0, c1, c2): slots 0 c0, 1 c1, 2 c2 -/
abbrev sDiscriminant : Stmt := topS 5
abbrev nDiscriminant : List Str := ["c0", "c1", "c2"]
theorem scDiscriminant : FnScope nDiscriminant ["c0", "c1", "c2"] (defScope sDiscriminant) := ⟨rfl, rfl, rfl, by decide +kernel, rfl, by decide +kernel, by decide +kernel⟩
abbrev nkDiscriminant : List (Str × Bool × Bool) := [("c0", true, true), ("c1", true, true), ("c2", true, true)]
abbrev gDiscriminant : List Str := []
/-! roots(poly): slots 0 poly, 1 c0, 2 c1, 3 c2 -/
abbrev sRoots : Stmt := topS 6
abbrev nRoots : List Str := ["poly", "c0", "c1", "c2"]
theorem scRoots : FnScope nRoots ["poly"] (defScope sRoots) := ⟨rfl, rfl, rfl, by decide +kernel, rfl, by decide +kernel, by decide +kernel⟩
abbrev nkRoots : List (Str × Bool × Bool) := [("poly", true, true), ("c0", true, true), ("c1", true, true), ("c2", true, true)]
abbrev gRoots : List Str := ["square_roots", "fraction"]
/-! square_roots(c0, c1, c2): slots 0 c0, 1 c1, 2 c2, 3 square, 4 side, 5 own -/
abbrev sSquareRoots : Stmt := topS 7
abbrev nSquareRoots : List Str := ["c0", "c1", "c2", "square", "side", "own"]
theorem scSquareRoots : FnScope nSquareRoots ["c0", "c1", "c2"] (defScope sSquareRoots) := ⟨rfl, rfl, rfl, by decide +kernel, rfl, by decide +kernel, by decide +kernel⟩
abbrev nkSquareRoots : List (Str × Bool × Bool) := [("c0", true, true), ("c1", true, true), ("c2", true, true), ("square", true, true), ("side", true, true), ("own", true, true)]
abbrev gSquareRoots : List Str := ["discriminant", "isqrt", "undivided", "fraction"]
/-! sign_on(poly, place): slots 0 poly, 1 place, 2 c0, 3 c1, 4 c2, 5 n, 6 d, 7 _, 8 b0, 9 b1, 10 b2, 11 which, 12 flat, 13 steep -/
abbrev sSignOn : Stmt := topS 8
abbrev nSignOn : List Str := ["poly", "place", "c0", "c1", "c2", "n", "d", "_", "b0", "b1", "b2", "which", "flat", "steep"]
theorem scSignOn : FnScope nSignOn ["poly", "place"] (defScope sSignOn) := ⟨rfl, rfl, rfl, by decide +kernel, rfl, by decide +kernel, by decide +kernel⟩
abbrev nkSignOn : List (Str × Bool × Bool) := [("poly", true, true), ("place", true, true), ("c0", true, true), ("c1", true, true), ("c2", true, true), ("n", true, true), ("d", true, true), ("_", true, true), ("b0", true, true), ("b1", true, true), ("b2", true, true), ("which", true, true), ("flat", true, true), ("steep", true, true)]
abbrev gSignOn : List Str := ["sign_of", "sign_of_surd", "discriminant"]
/-! sign_of_surd(flat, steep, square): slots 0 flat, 1 steep, 2 square, 3 one, 4 other -/
abbrev sSignOfSurd : Stmt := topS 9
abbrev nSignOfSurd : List Str := ["flat", "steep", "square", "one", "other"]
theorem scSignOfSurd : FnScope nSignOfSurd ["flat", "steep", "square"] (defScope sSignOfSurd) := ⟨rfl, rfl, rfl, by decide +kernel, rfl, by decide +kernel, by decide +kernel⟩
abbrev nkSignOfSurd : List (Str × Bool × Bool) := [("flat", true, true), ("steep", true, true), ("square", true, true), ("one", true, true), ("other", true, true)]
abbrev gSignOfSurd : List Str := ["sign_of"]
/-! _law_cell_at(script, k): slots 0 script, 1 k -/
abbrev sLCellAt : Stmt := topS 11
abbrev nLCellAt : List Str := ["script", "k"]
theorem scLCellAt : FnScope nLCellAt ["script", "k"] (defScope sLCellAt) := ⟨rfl, rfl, rfl, by decide +kernel, rfl, by decide +kernel, by decide +kernel⟩
abbrev nkLCellAt : List (Str × Bool × Bool) := [("script", true, true), ("k", true, true)]
abbrev gLCellAt : List Str := ["len"]
/-! _law_draw(cell, k, bound): slots 0 cell, 1 k, 2 bound, 3 primes -/
abbrev sLDraw : Stmt := topS 12
abbrev nLDraw : List Str := ["cell", "k", "bound", "primes"]
theorem scLDraw : FnScope nLDraw ["cell", "k", "bound"] (defScope sLDraw) := ⟨rfl, rfl, rfl, by decide +kernel, rfl, by decide +kernel, by decide +kernel⟩
abbrev nkLDraw : List (Str × Bool × Bool) := [("cell", true, true), ("k", true, true), ("bound", true, true), ("primes", true, true)]
abbrev gLDraw : List Str := ["int"]
/-! _law_number(cell, k, bound): slots 0 cell, 1 k, 2 bound, 3 power, 4 lap, 5 remains, 6 small -/
abbrev sLNumber : Stmt := topS 13
abbrev nLNumber : List Str := ["cell", "k", "bound", "power", "lap", "remains", "small"]
theorem scLNumber : FnScope nLNumber ["cell", "k", "bound"] (defScope sLNumber) := ⟨rfl, rfl, rfl, by decide +kernel, rfl, by decide +kernel, by decide +kernel⟩
abbrev nkLNumber : List (Str × Bool × Bool) := [("cell", true, true), ("k", true, true), ("bound", true, true), ("power", true, true), ("lap", true, true), ("remains", true, true), ("small", true, true)]
abbrev gLNumber : List Str := ["range", "int", "_law_draw"]
/-! _law_next(draw, bound): slots 0 draw, 1 bound, 2 at, 3 cell -/
abbrev sLNext : Stmt := topS 14
abbrev nLNext : List Str := ["draw", "bound", "at", "cell"]
theorem scLNext : FnScope nLNext ["draw", "bound"] (defScope sLNext) := ⟨rfl, rfl, rfl, by decide +kernel, rfl, by decide +kernel, by decide +kernel⟩
abbrev nkLNext : List (Str × Bool × Bool) := [("draw", true, true), ("bound", true, true), ("at", true, true), ("cell", true, true)]
abbrev gLNext : List Str := ["_law_cell_at", "_law_number", "int"]
/-! _law_common(a, b): slots 0 a, 1 b, 2 lap -/
abbrev sLCommon : Stmt := topS 15
abbrev nLCommon : List Str := ["a", "b", "lap"]
theorem scLCommon : FnScope nLCommon ["a", "b"] (defScope sLCommon) := ⟨rfl, rfl, rfl, by decide +kernel, rfl, by decide +kernel, by decide +kernel⟩
abbrev nkLCommon : List (Str × Bool × Bool) := [("a", true, true), ("b", true, true), ("lap", true, true)]
abbrev gLCommon : List Str := ["abs", "range"]
/-! _law_frac(n, d): slots 0 n, 1 d, 2 by -/
abbrev sLFrac : Stmt := topS 16
abbrev nLFrac : List Str := ["n", "d", "by"]
theorem scLFrac : FnScope nLFrac ["n", "d"] (defScope sLFrac) := ⟨rfl, rfl, rfl, by decide +kernel, rfl, by decide +kernel, by decide +kernel⟩
abbrev nkLFrac : List (Str × Bool × Bool) := [("n", true, true), ("d", true, true), ("by", true, true)]
abbrev gLFrac : List Str := ["_law_common"]
/-! _law_sign(number): slots 0 number -/
abbrev sLSign : Stmt := topS 17
abbrev nLSign : List Str := ["number"]
theorem scLSign : FnScope nLSign ["number"] (defScope sLSign) := ⟨rfl, rfl, rfl, by decide +kernel, rfl, by decide +kernel, by decide +kernel⟩
abbrev nkLSign : List (Str × Bool × Bool) := [("number", true, true)]
abbrev gLSign : List Str := []
/-! _law_at(poly, n, d): slots 0 poly, 1 n, 2 d -/
abbrev sLAt : Stmt := topS 18
abbrev nLAt : List Str := ["poly", "n", "d"]
theorem scLAt : FnScope nLAt ["poly", "n", "d"] (defScope sLAt) := ⟨rfl, rfl, rfl, by decide +kernel, rfl, by decide +kernel, by decide +kernel⟩
abbrev nkLAt : List (Str × Bool × Bool) := [("poly", true, true), ("n", true, true), ("d", true, true)]
abbrev gLAt : List Str := ["_law_sign"]
/-! _law_root_of(number): slots 0 number, 1 low, 2 high, 3 lap, 4 mid -/
abbrev sLRootOf : Stmt := topS 19
abbrev nLRootOf : List Str := ["number", "low", "high", "lap", "mid"]
theorem scLRootOf : FnScope nLRootOf ["number"] (defScope sLRootOf) := ⟨rfl, rfl, rfl, by decide +kernel, rfl, by decide +kernel, by decide +kernel⟩
abbrev nkLRootOf : List (Str × Bool × Bool) := [("number", true, true), ("low", true, true), ("high", true, true), ("lap", true, true), ("mid", true, true)]
abbrev gLRootOf : List Str := ["range"]
/-! _law_poly(draw, big): slots 0 draw, 1 big, 2 kind, 3 some, 4 a, 5 b, 6 c, 7 d, 8 m, 9 by, 10 turn, 11 number -/
abbrev sLPoly : Stmt := topS 20
abbrev nLPoly : List Str := ["draw", "big", "kind", "some", "a", "b", "c", "d", "m", "by", "turn", "number"]
theorem scLPoly : FnScope nLPoly ["draw", "big"] (defScope sLPoly) := ⟨rfl, rfl, rfl, by decide +kernel, rfl, by decide +kernel, by decide +kernel⟩
abbrev nkLPoly : List (Str × Bool × Bool) := [("draw", true, true), ("big", true, true), ("kind", true, true), ("some", true, true), ("a", true, true), ("b", true, true), ("c", true, true), ("d", true, true), ("m", true, true), ("by", true, true), ("turn", false, false), ("number", false, false)]
abbrev gLPoly : List Str := ["_law_next", "range", "max", "_law_common", "tuple"]
abbrev nkLPoly0 : List (Str × Bool × Bool) := [("draw", true, false), ("big", true, false), ("kind", false, false), ("some", false, false), ("a", false, false), ("b", false, false), ("c", false, false), ("d", false, false), ("m", false, false), ("by", false, false), ("turn", true, true), ("number", false, false)]
abbrev gLPoly0 : List Str := ["_law_next"]
abbrev nkLPoly1 : List (Str × Bool × Bool) := [("draw", false, false), ("big", false, false), ("kind", false, false), ("some", false, false), ("a", false, false), ("b", false, false), ("c", false, false), ("d", false, false), ("m", false, false), ("by", true, false), ("turn", false, false), ("number", true, true)]
abbrev gLPoly1 : List Str := []
/-! _law_roots(poly): slots 0 poly, 1 c0, 2 c1, 3 c2, 4 inner, 5 side, 6 low, 7 high, 8 both, 9 own -/
abbrev sLRoots : Stmt := topS 21
abbrev nLRoots : List Str := ["poly", "c0", "c1", "c2", "inner", "side", "low", "high", "both", "own"]
theorem scLRoots : FnScope nLRoots ["poly"] (defScope sLRoots) := ⟨rfl, rfl, rfl, by decide +kernel, rfl, by decide +kernel, by decide +kernel⟩
abbrev nkLRoots : List (Str × Bool × Bool) := [("poly", true, true), ("c0", true, true), ("c1", true, true), ("c2", true, true), ("inner", true, true), ("side", true, true), ("low", true, true), ("high", true, true), ("both", true, true), ("own", true, true)]
abbrev gLRoots : List Str := ["_law_frac", "_law_root_of"]
/-! _law_span(place): slots 0 place, 1 low, 2 word, 3 own, 4 which, 5 far, 6 high, 7 lap, 8 mid, 9 is_right, 10 inside -/
abbrev sLSpan : Stmt := topS 22
abbrev nLSpan : List Str := ["place", "low", "word", "own", "which", "far", "high", "lap", "mid", "is_right", "inside"]
theorem scLSpan : FnScope nLSpan ["place"] (defScope sLSpan) := ⟨rfl, rfl, rfl, by decide +kernel, rfl, by decide +kernel, by decide +kernel⟩
abbrev nkLSpan : List (Str × Bool × Bool) := [("place", true, true), ("low", true, true), ("word", true, true), ("own", true, true), ("which", true, true), ("far", true, true), ("high", true, true), ("lap", true, true), ("mid", true, true), ("is_right", true, true), ("inside", true, true)]
abbrev gLSpan : List Str := ["abs", "range", "_law_at"]
/-! _law_sign_on(poly, place): slots 0 poly, 1 place, 2 own -/
abbrev sLSignOn : Stmt := topS 23
abbrev nLSignOn : List Str := ["poly", "place", "own"]
theorem scLSignOn : FnScope nLSignOn ["poly", "place"] (defScope sLSignOn) := ⟨rfl, rfl, rfl, by decide +kernel, rfl, by decide +kernel, by decide +kernel⟩
abbrev nkLSignOn : List (Str × Bool × Bool) := [("poly", true, true), ("place", true, true), ("own", true, true)]
abbrev gLSignOn : List Str := ["_law_at", "sum", "_law_span"]
/-! law(script): slots 0 script, 1 draw, 2 polys, 3 poly, 4 found, 5 place, 6 other, 7 turn -/
abbrev sLaw : Stmt := topS 24
abbrev nLaw : List Str := ["script", "draw", "polys", "poly", "found", "place", "other", "turn"]
theorem scLaw : FnScope nLaw ["script"] (defScope sLaw) := ⟨rfl, rfl, rfl, by decide +kernel, rfl, by decide +kernel, by decide +kernel⟩
abbrev nkLaw : List (Str × Bool × Bool) := [("script", true, true), ("draw", true, true), ("polys", true, true), ("poly", true, true), ("found", true, true), ("place", true, true), ("other", true, true), ("turn", false, false)]
abbrev gLaw : List Str := ["range", "roots", "_law_roots", "_law_frac", "_law_next", "sign_on", "_law_sign_on"]
abbrev nkLaw0 : List (Str × Bool × Bool) := [("script", false, false), ("draw", true, false), ("polys", false, false), ("poly", false, false), ("found", false, false), ("place", false, false), ("other", false, false), ("turn", true, true)]
abbrev gLaw0 : List Str := ["_law_poly"]
/-! ### the sign -/
def sgn (n : Int) : Int := if 0 < n then 1 else if n = 0 then 0 else -1
def SSign : List D → (D → Prop) → Prop := fun ds W => ∃ n : Int, ds = [.int n] ∧ W (.int (sgn n))
theorem fSign {M : Md} {f : Addr} {fd : FuncData} (F : Fun M.K "_law_sign" "_law_sign" sLSign f fd) (hm : M.mg "_law_sign" = some (.ref f)) (b : L2.Binds M.K fd ["number"] []) : FnD M 1 "_law_sign" 1 SSign := by
  refine fnD_mk (k := 0) (NK := nkLSign) (G := gLSign) F scLSign hm b rfl (by decide +kernel) rfl (by decide) fun X C ds W hl hS => ?_
  obtain ⟨n, rfl, w⟩ := hS
  show VSs X _ [.dat (.int n)] _
  walk_at "v"
  walk_at "v"
  walk_at "v"
  walk_at "v"
  walk_at "v"
  walk_at "v"
  refine ⟨fun h => ?_, fun h => ?_⟩
  · walk_at "v"
    have h := of_decide_eq_true h
    unfold sgn at w
    rw [if_pos h] at w
    exact w
  · have h := of_decide_eq_false h
    walk_at "v"
    walk_at "v"
    walk_at "v"
    walk_at "v"
    refine ⟨fun h2 => ?_, fun h2 => ?_⟩
    · walk_at "v"
      have h2 := of_decide_eq_true h2
      unfold sgn at w
      rw [if_neg h, if_pos h2] at w
      exact w
    · walk_at "v"
      walk_at "v"
      have h2 := of_decide_eq_false h2
      unfold sgn at w
      rw [if_neg h, if_neg h2] at w
      exact ⟨1, rfl, w⟩
/-! ### a cell of the script -/
def SCell : List D → (D → Prop) → Prop := fun ds W => ∃ (ns : List Int) (j : Nat), ds = [.list (ns.map PyData.int), .int (j : Int)] ∧ W (.int (ns.getD j 0))
theorem fCell {M : Md} {f : Addr} {fd : FuncData} (ml : M.mg "len" = none) (F : Fun M.K "_law_cell_at" "_law_cell_at" sLCellAt f fd) (hm : M.mg "_law_cell_at" = some (.ref f)) (b : L2.Binds M.K fd ["script", "k"] []) : FnD M 1 "_law_cell_at" 2 SCell := by
  refine fnD_mk (k := 0) (NK := nkLCellAt) (G := gLCellAt) F scLCellAt hm b rfl (by decide +kernel) rfl (by decide) fun X C ds W hl hS => ?_
  obtain ⟨ns, j, rfl, w⟩ := hS
  show VSs X _ [.dat (.list (ns.map PyData.int)), .dat (.int (j : Int))] _
  walk_at "v"
  walk_at "v"
  walk_at "v"
  walk_at "v"
  refine vd_callB C does_len (by walk_at "at") ?_
  walk_at "v"
  walk_at "v"
  walk_at "v"
  refine ⟨_, .inl rfl, ?_⟩
  refine ⟨fun h => ?_, fun h => ?_⟩
  · have h := of_decide_eq_true h
    rw [List.length_map] at h
    have h : j < ns.length := by omega
    walk_at "v"
    walk_at "v"
    walk_at "v"
    walk_at "v"
    walk_at "v"
    refine ⟨.int ns[j], ?_, ?_⟩
    · refine atI_nat ?_
      rw [List.getElem?_map, List.getElem?_eq_getElem h]
      rfl
    · rw [List.getD_eq_getElem?_getD, List.getElem?_eq_getElem h] at w
      exact w
  · have h := of_decide_eq_false h
    rw [List.length_map] at h
    walk_at "v"
    walk_at "v"
    walk_at "v"
    walk_at "v"
    rw [List.getD_eq_getElem?_getD, List.getElem?_eq_none (by omega)] at w
    exact w

/-! ### a draw -/
theorem mulW {i j : Int} (h1 : i.natAbs < 2 ^ 1000) (h2 : j.natAbs < 2 ^ 1000) : CMulW i j := wide_mul h1 h2 (by decide) (by decide) (by decide)
theorem mulW64 {i j : Int} (h1 : i.natAbs < 2 ^ 64) (h2 : j.natAbs < 2 ^ 64) : CMulW i j := wide_mul h1 h2 (by decide) (by decide) (by decide)
theorem divW {i j : Int} (h0 : 0 < j) (h2 : j.natAbs < 2 ^ 1000) : CDivW i j := ⟨h0, Nat.lt_of_lt_of_le (PySem.Flt.log2_lt_of (by decide) h2) (by decide)⟩
theorem divW64 {i j : Int} (h0 : 0 < j) (h2 : j.natAbs < 2 ^ 64) : CDivW i j := ⟨h0, Nat.lt_of_lt_of_le (PySem.Flt.log2_lt_of (by decide) h2) (by decide)⟩
def SDraw : List D → (D → Prop) → Prop := fun ds W => ∃ cell j bound : Int, ds = [.int cell, .int j, .int bound] ∧ cell.natAbs < 2 ^ 64 ∧ j.natAbs < 2 ^ 64 ∧ 0 < bound ∧ ∀ r, 0 ≤ r → r < bound → W (.int r)
theorem primes_at {n : Int} (h0 : 0 ≤ n) (h1 : n < 16) : ∃ p : Int, 0 < p ∧ atI [PyData.int 1000003, .int 1000033, .int 1000037, .int 1000039, .int 1000081, .int 1000099, .int 1000117, .int 1000121, .int 1000133, .int 1000151, .int 1000159, .int 1000171, .int 1000183, .int 1000187, .int 1000193, .int 1000199] n = some (.int p) := by
  have h : n = 0 ∨ n = 1 ∨ n = 2 ∨ n = 3 ∨ n = 4 ∨ n = 5 ∨ n = 6 ∨ n = 7 ∨ n = 8 ∨ n = 9 ∨ n = 10 ∨ n = 11 ∨ n = 12 ∨ n = 13 ∨ n = 14 ∨ n = 15 := by omega
  rcases h with h | h | h | h | h | h | h | h | h | h | h | h | h | h | h | h <;> (subst h; exact ⟨_, by decide, rfl⟩)
theorem fDraw {M : Md} {f : Addr} {fd : FuncData} (mi : M.mg "int" = none) (F : Fun M.K "_law_draw" "_law_draw" sLDraw f fd) (hm : M.mg "_law_draw" = some (.ref f)) (b : L2.Binds M.K fd ["cell", "k", "bound"] []) : FnD M 1 "_law_draw" 3 SDraw := by
  refine fnD_mk (k := 0) (NK := nkLDraw) (G := gLDraw) F scLDraw hm b rfl (by decide +kernel) rfl (by decide) fun X C ds W hl hS => ?_
  obtain ⟨cell, j, bound, rfl, h1, h2, h3, w⟩ := hS
  show VSs X _ [.dat (.int cell), .dat (.int j), .dat (.int bound), .no] _
  walk_at "vv"
  refine ⟨by decide, ?_⟩
  walk_at "vv"
  refine ⟨mulW64 h1 (by decide), ?_⟩
  walk_at "vv"
  refine ⟨mulW64 h2 (by decide), ?_⟩
  walk_at "vv"
  refine ⟨_, rfl, ?_⟩
  walk_at "vv"
  refine ⟨_, rfl, ?_⟩
  walk_at "vv"
  refine ⟨by decide, ?_⟩
  obtain ⟨p, hp, e⟩ := primes_at (n := j % 16) (Int.emod_nonneg _ (by decide)) (Int.emod_lt_of_pos _ (by decide))
  refine ⟨_, e, ?_⟩
  refine ⟨hp, ?_⟩
  walk_at "vv"
  exact ⟨h3, w _ (Int.emod_nonneg _ (by omega)) (Int.emod_lt_of_pos _ h3)⟩
/-! ### a number -/
def SNumber : List D → (D → Prop) → Prop := fun ds W => ∃ cell j bound : Int, ds = [.int cell, .int j, .int bound] ∧ 0 ≤ j ∧ j ≤ 1000 ∧ 0 < bound ∧ ∀ r, 0 ≤ r → r < bound → W (.int r)
theorem pw_pos (i : Nat) : (0 : Int) < 1009 ^ i := Int.pow_pos (by decide)
theorem pw_small {i : Nat} (h : i ≤ 24) : ((1009 : Int) ^ i).natAbs < 2 ^ 1000 := by
  rw [Int.natAbs_pow]
  exact Nat.lt_of_le_of_lt (Nat.pow_le_pow_right (by decide) h) (by decide +kernel)
theorem fNumber {M : Md} {f : Addr} {fd : FuncData} (mi : M.mg "int" = none) (mr : M.mg "range" = none) (FD : FnD M 1 "_law_draw" 3 SDraw) (F : Fun M.K "_law_number" "_law_number" sLNumber f fd) (hm : M.mg "_law_number" = some (.ref f)) (b : L2.Binds M.K fd ["cell", "k", "bound"] []) : FnD M 2 "_law_number" 3 SNumber := by
  refine fnD_mk (k := 1) (NK := nkLNumber) (G := gLNumber) F scLNumber hm b rfl (by decide +kernel) rfl (by decide) fun X C ds W hl hS => ?_
  obtain ⟨cell, j, bound, rfl, h1, h2, h3, w⟩ := hS
  show VSs X _ [.dat (.int cell), .dat (.int j), .dat (.int bound), .no, .no, .no, .no] _
  walk_at "vv"
  refine vs_for C (vi_range C (by walk_at "at") ?_)
  walk_at "vv"
  refine ⟨_, rfl, ?_⟩
  walk_at "vv"
  refine ⟨by decide, ?_⟩
  refine ⟨(j % 24).toNat, by rw [Int.toNat_of_nonneg (Int.emod_nonneg _ (by decide))], by omega, ?_⟩
  refine ⟨fun i ρ' => ∃ s, ρ' = [.dat (.int cell), .dat (.int j), .dat (.int bound), .dat (.int (1009 ^ i)), s, .no, .no], ⟨_, rfl⟩, fun i d ρ' hi hW => ?_, fun ρ' hW => ?_⟩
  · obtain ⟨s, rfl⟩ := hW
    have hi2 : i < (j % 24).toNat := by
      have := (List.getElem?_eq_some_iff.mp hi).1
      rw [List.length_map, List.length_range] at this
      exact this
    have hi3 : i ≤ 24 := by omega
    walk_at "vv"
    refine ⟨mulW (pw_small hi3) (by decide +kernel), ?_⟩
    exact ⟨_, rfl⟩
  · obtain ⟨s, rfl⟩ := hW
    have hp : (j % 24).toNat ≤ 24 := by omega
    rw [List.length_map, List.length_range]
    walk_at "vv"
    refine ⟨⟨by decide, by decide, by decide⟩, ?_⟩
    walk_at "vv"
    refine ⟨divW (pw_pos _) (pw_small hp), ?_⟩
    walk_at "vv"
    refine ⟨fun h => ?_, fun h => ?_⟩
    · walk_at "vv"
      refine ⟨_, rfl, ?_⟩
      walk_at "vv"
      refine ⟨by decide, ?_⟩
      walk_at "vv"
      exact ⟨h3, w _ (Int.emod_nonneg _ (by omega)) (Int.emod_lt_of_pos _ h3)⟩
    · have q0 := Int.emod_nonneg cell (show (1000003 : Int) ≠ 0 by decide)
      have q1 := Int.emod_lt_of_pos cell (show (0 : Int) < 1000003 by decide)
      walk_at "vv"
      refine ⟨_, rfl, ?_⟩
      walk_at "vv"
      refine ⟨by decide, ?_⟩
      walk_at "vv"
      refine vd_call C FD (by walk_at "at") ?_
      walk_at "vv"
      refine ⟨mulW64 (by decide) (by omega), ?_⟩
      walk_at "vv"
      refine ⟨mulW64 (by decide) (by omega), ?_⟩
      walk_at "vv"
      refine ⟨mulW64 (by omega) (by omega), ?_⟩
      walk_at "vv"
      refine ⟨_, rfl, ?_⟩
      walk_at "vv"
      refine ⟨by decide, ?_⟩
      walk_at "vv"
      refine ⟨rfl, _, _, _, rfl, ?_, by omega, by decide, fun r r0 r1 => ?_⟩
      · rw [Int.natAbs_mul]
        exact Nat.lt_of_le_of_lt (Nat.mul_le_mul (show _ ≤ 2 ^ 31 by omega) (show _ ≤ 2 ^ 31 by omega)) (by decide)
      · walk_at "vv"
        exact ⟨h3, w _ (Int.emod_nonneg _ (by omega)) (Int.emod_lt_of_pos _ h3)⟩
/-! ### the next draw -/
/-- what stands in the list of draws: the script, 0, how many were drawn -/
def drw (ns : List Int) (c : Nat) : List D := [.list (ns.map PyData.int), .int 0, .int (c : Int)]
def SNext : List D → List D → (D → List D → Prop) → Prop := fun cs ds W => ∃ (ns : List Int) (c : Nat) (bound : Int), cs = drw ns c ∧ ds = [.int bound] ∧ c ≤ 1000000 ∧ 0 < bound ∧ ∀ r, 0 ≤ r → r < bound → W (.int r) (drw ns (c + 1))
theorem fNext {M : Md} {f : Addr} {fd : FuncData} (mi : M.mg "int" = none) (FC : FnD M 1 "_law_cell_at" 2 SCell) (FN : FnD M 2 "_law_number" 3 SNumber) (F : Fun M.K "_law_next" "_law_next" sLNext f fd) (hm : M.mg "_law_next" = some (.ref f)) (b : L2.Binds M.K fd ["draw", "bound"] []) : FnM M 3 "_law_next" 1 SNext := by
  refine fnM_mk (k := 2) (NK := nkLNext) (G := gLNext) F scLNext hm b rfl (by decide +kernel) rfl (by decide) fun X C p cs ds W hl hS => ?_
  obtain ⟨ns, c, bound, rfl, rfl, hc, hb, w⟩ := hS
  show VSs X _ [.own p (drw ns c), .dat (.int bound), .no, .no] _
  walk_at "vv"
  refine vs_put C (i := 0) At.here rfl ?_
  walk_at "vv"
  refine ⟨_, _, .int (c : Int), rfl, rfl, rfl, ?_⟩
  walk_at "vv"
  refine ⟨_, 2, _, rfl, rfl, rfl, ?_⟩
  show VSs X _ [.own p (drw ns (c + 1)), .dat (.int bound), .no, .no] _
  walk_at "vv"
  refine ⟨_, _, .int ((c + 1 : Nat) : Int), rfl, rfl, rfl, ?_⟩
  walk_at "vv"
  refine ⟨divW64 (by decide) (by decide), ?_⟩
  walk_at "vv"
  refine vd_call C FC (by walk_at "at") ?_
  walk_at "vv"
  refine ⟨_, _, .list (ns.map PyData.int), rfl, rfl, rfl, ?_⟩
  walk_at "vv"
  refine ⟨_, _, .int 0, rfl, rfl, rfl, ?_⟩
  walk_at "vv"
  have e : (0 : Int) + ((c + 1 : Nat) : Int) / 12 = (((c + 1) / 12 : Nat) : Int) := by omega
  refine ⟨rfl, ns, (c + 1) / 12, by rw [e], ?_⟩
  walk_at "vv"
  refine ⟨mulW64 (by decide) (by omega), ?_⟩
  walk_at "vv"
  refine vd_call C FN (by walk_at "at") ?_
  walk_at "vv"
  refine ⟨_, _, .int ((c + 1 : Nat) : Int), rfl, rfl, rfl, ?_⟩
  walk_at "vv"
  refine ⟨_, rfl, ?_⟩
  walk_at "vv"
  refine ⟨by decide, ?_⟩
  walk_at "vv"
  exact ⟨rfl, _, _, _, rfl, by omega, by omega, hb, fun r r0 r1 => ⟨_, rfl, w r r0 r1⟩⟩
/-! ### the greatest common divisor by 400 laps -/
/-- behind i laps -/
def Gw (A B : Nat) : Nat → Nat → Nat → Prop
  | 0, a, b => a = A ∧ b = B
  | i + 1, a, b => Nat.gcd a b = Nat.gcd A B ∧ b < a ∧ a * b * 2 ^ i ≤ A * B
theorem gw_gcd {A B : Nat} : ∀ {i a b : Nat}, Gw A B i a b → Nat.gcd a b = Nat.gcd A B
  | 0, _, _, h => by rw [h.1, h.2]
  | _ + 1, _, _, h => h.1
theorem gw_step {A B : Nat} : ∀ {i a b : Nat}, Gw A B i a b → b ≠ 0 → Gw A B (i + 1) b (a % b)
  | 0, a, b, h, hb => by
    obtain ⟨h1, h2⟩ := h
    subst h1
    subst h2
    refine ⟨?_, Nat.mod_lt _ (Nat.pos_of_ne_zero hb), ?_⟩
    · rw [Nat.gcd_comm a b, Nat.gcd_rec b a, Nat.gcd_comm]
    · rw [Nat.pow_zero, Nat.mul_one, Nat.mul_comm]
      exact Nat.mul_le_mul_right _ (Nat.mod_le _ _)
  | i + 1, a, b, ⟨h1, h2, h3⟩, hb => by
    refine ⟨?_, Nat.mod_lt _ (Nat.pos_of_ne_zero hb), ?_⟩
    · rw [← h1, Nat.gcd_comm a b, Nat.gcd_rec b a, Nat.gcd_comm]
    · have hm := Nat.mod_lt a (Nat.pos_of_ne_zero hb)
      have hd := Nat.div_add_mod a b
      have hq : 1 ≤ a / b := Nat.div_pos (Nat.le_of_lt h2) (Nat.pos_of_ne_zero hb)
      have hq2 : b * 1 ≤ b * (a / b) := Nat.mul_le_mul_left _ hq
      have h5 : 2 * (a % b) ≤ a := by omega
      have e : b * (a % b) * 2 ^ (i + 1) = b * (2 * (a % b)) * 2 ^ i := by
        rw [Nat.pow_succ, Nat.mul_comm (2 ^ i) 2, ← Nat.mul_assoc, Nat.mul_assoc b (a % b) 2, Nat.mul_comm (a % b) 2]
      rw [e]
      refine Nat.le_trans (Nat.mul_le_mul_right _ (Nat.mul_le_mul_left b h5)) ?_
      rw [Nat.mul_comm b a]
      exact h3
theorem gw_end {A B a b : Nat} (hA : A < 2 ^ 190) (hB : B < 2 ^ 190) (h : Gw A B 400 a b) : b = 0 := by
  obtain ⟨h1, h2, h3⟩ := h
  by_cases hb : b = 0
  · exact hb
  · have h4 : A * B < 2 ^ 399 := Nat.lt_of_le_of_lt (Nat.mul_le_mul (Nat.le_of_lt hA) (Nat.le_of_lt hB)) (by decide +kernel)
    have h5 : 1 ≤ a * b := Nat.mul_pos (by omega) (by omega)
    have h6 : 1 * 2 ^ 399 ≤ a * b * 2 ^ 399 := Nat.mul_le_mul_right _ h5
    rw [Nat.one_mul] at h6
    exact absurd (Nat.lt_of_le_of_lt (Nat.le_trans h6 h3) h4) (Nat.lt_irrefl _)
def SCommon : List D → (D → Prop) → Prop := fun ds W => ∃ a b : Int, ds = [.int a, .int b] ∧ a.natAbs < 2 ^ 190 ∧ b.natAbs < 2 ^ 190 ∧ W (.int ((Nat.gcd a.natAbs b.natAbs : Nat) : Int))
theorem abs_eq (a : Int) : (if a < 0 then -a else a) = ((a.natAbs : Nat) : Int) := by
  split <;> omega
theorem fCommon {M : Md} {f : Addr} {fd : FuncData} (ma : M.mg "abs" = none) (mr : M.mg "range" = none) (F : Fun M.K "_law_common" "_law_common" sLCommon f fd) (hm : M.mg "_law_common" = some (.ref f)) (b : L2.Binds M.K fd ["a", "b"] []) : FnD M 1 "_law_common" 2 SCommon := by
  refine fnD_mk (k := 0) (NK := nkLCommon) (G := gLCommon) F scLCommon hm b rfl (by decide +kernel) rfl (by decide) fun X C ds W hl hS => ?_
  obtain ⟨a, b, rfl, h1, h2, w⟩ := hS
  show VSs X _ [.dat (.int a), .dat (.int b), .no] _
  walk_at "vv"
  refine vs_par C (i := 0) (j := 1) At.here (At.there At.here) (by decide) ?_ (by walk_at "sw")
  · walk_at "vv"
    refine ⟨_, rfl, ?_⟩
    walk_at "vv"
    refine ⟨_, rfl, ?_⟩
    rw [abs_eq, abs_eq]
    show VSs X _ [.dat (.int ((a.natAbs : Nat) : Int)), .dat (.int ((b.natAbs : Nat) : Int)), .no] _
    walk_at "vv"
    refine vs_for C (vi_range C (by walk_at "at") ?_)
    walk_at "vv"
    refine ⟨400, rfl, by decide, ?_⟩
    refine ⟨fun i ρ' => ∃ (x y : Nat) (s : Sl), ρ' = [.dat (.int (x : Int)), .dat (.int (y : Int)), s] ∧ Gw a.natAbs b.natAbs i x y, ⟨_, _, _, rfl, rfl, rfl⟩, fun i d ρ' hi hW => ?_, fun ρ' hW => ?_⟩
    · obtain ⟨x, y, s, rfl, g⟩ := hW
      walk_at "vv"
      refine ⟨fun h => ?_, fun h => ?_⟩
      · have h := of_decide_eq_true h
        have hy : y = 0 := by omega
        subst hy
        walk_at "vv"
        have e := gw_gcd g
        rw [Nat.gcd_zero_right] at e
        rw [← e] at w
        exact w
      · have h := of_decide_eq_false h
        have hy : y ≠ 0 := by omega
        walk_at "vv"
        refine vs_par C (i := 0) (j := 1) At.here (At.there At.here) (by decide) ?_ (by walk_at "sw")
        · walk_at "vv"
          refine ⟨by omega, ?_⟩
          exact ⟨y, x % y, _, by rw [← Int.natCast_emod]; rfl, gw_step g hy⟩
    · obtain ⟨x, y, s, rfl, g⟩ := hW
      rw [List.length_map, List.length_range] at g
      have hy := gw_end h1 h2 g
      subst hy
      walk_at "vv"
      have e := gw_gcd g
      rw [Nat.gcd_zero_right] at e
      rw [← e] at w
      exact w
/-! ### a fraction in its least form -/
/-- n / d in its least form, d above 0 -/
def fr (n d : Int) : D := .tuple [.int (n / ((Nat.gcd n.natAbs d.natAbs : Nat) : Int)), .int (d / ((Nat.gcd n.natAbs d.natAbs : Nat) : Int))]
def SFrac : List D → (D → Prop) → Prop := fun ds W => ∃ n d : Int, ds = [.int n, .int d] ∧ n.natAbs < 2 ^ 190 ∧ d.natAbs < 2 ^ 190 ∧ d ≠ 0 ∧ W (if d < 0 then fr (-n) (-d) else fr n d)
theorem fFrac {M : Md} {f : Addr} {fd : FuncData} (FC : FnD M 1 "_law_common" 2 SCommon) (F : Fun M.K "_law_frac" "_law_frac" sLFrac f fd) (hm : M.mg "_law_frac" = some (.ref f)) (b : L2.Binds M.K fd ["n", "d"] []) : FnD M 2 "_law_frac" 2 SFrac := by
  refine fnD_mk (k := 1) (NK := nkLFrac) (G := gLFrac) F scLFrac hm b rfl (by decide +kernel) rfl (by decide) fun X C ds W hl hS => ?_
  obtain ⟨n, d, rfl, h1, h2, h0, w⟩ := hS
  have go : ∀ n d : Int, n.natAbs < 2 ^ 190 → d.natAbs < 2 ^ 190 → 0 < d → W (fr n d) → VSs X [(defBody sLFrac).getD 1 (.Pass ⟨0, 0, 0, 0⟩), (defBody sLFrac).getD 2 (.Pass ⟨0, 0, 0, 0⟩)] [.dat (.int n), .dat (.int d), .no] { nx := fun _ => W .none, rt := fun d _ => W d } := fun n d h1 h2 hp w => by
    have hg : 0 < Nat.gcd n.natAbs d.natAbs := Nat.gcd_pos_of_pos_right _ (by omega)
    have hle : Nat.gcd n.natAbs d.natAbs ≤ d.natAbs := Nat.le_of_dvd (by omega) (Nat.gcd_dvd_right _ _)
    have hb : (((Nat.gcd n.natAbs d.natAbs : Nat) : Int)).natAbs < 2 ^ 1000 := by
      rw [Int.natAbs_natCast]
      exact Nat.lt_of_le_of_lt hle (Nat.lt_trans h2 (by decide +kernel))
    walk_at "vv"
    refine vd_call C FC (by walk_at "at") ?_
    walk_at "vv"
    refine ⟨rfl, n, d, rfl, h1, h2, ?_⟩
    walk_at "vv"
    refine ⟨divW (by omega) hb, ?_⟩
    walk_at "vv"
    refine ⟨divW (by omega) hb, ?_⟩
    walk_at "vv"
    exact ⟨by show 2 ≤ 1000; decide, w⟩
  show VSs X _ [.dat (.int n), .dat (.int d), .no] _
  walk_at "vv"
  refine ⟨fun h => ?_, fun h => ?_⟩
  · have h := of_decide_eq_true h
    rw [if_pos h] at w
    walk_at "vv"
    refine vs_par C (i := 0) (j := 1) At.here (At.there At.here) (by decide) ?_ (by walk_at "sw")
    · walk_at "vv"
      refine ⟨_, rfl, ?_⟩
      walk_at "vv"
      refine ⟨_, rfl, ?_⟩
      exact go (-n) (-d) (by omega) (by omega) (by omega) w
  · have h := of_decide_eq_false h
    rw [if_neg h] at w
    refine vss_nil ?_
    exact go n d h1 h2 (by omega) w

open PySem PySem.Spec PyProof.Rows L2 Vc
local macro_rules | `(tactic| walk_at "v") => `(tactic| first
  | refine vd_bin ?_
  | (refine vd_name (by assumption) (by walk_at "at") rfl ?_)
  | refine vd_int ?_
  | refine vd_bool ?_
  | refine vd_none ?_
  | refine vd_str ?_
  | refine vd_if ?_
  | (refine vd_neg ?_)
  | refine vd_tup ?_
  | refine va_nil ?_
  | refine va_cons ?_
  | refine vs_ret ?_
  | refine vss_nil ?_
  | refine vss_one ?_
  | refine vss_cons ?_
  | refine vs_if ?_
  | refine vt_cmp (by assumption) ?_
  | refine vs_set (by assumption) (by walk_at "at") ?_
  | refine vd_cmp (by assumption) ?_
  | refine vgs_nil ?_
  | refine vgs_cons ?_
  | refine vg_name (by assumption) (by walk_at "at") ?_
  | (refine vd_callT (x := "int") (by assumption) does_int (by walk_at "at") ?_)
  | (refine vd_callB (x := "len") (by assumption) does_len (by walk_at "at") ?_)
  | (refine vd_callB (x := "abs") (by assumption) does_abs (by walk_at "at") ?_)
  | (refine vd_ixo (by assumption) (by walk_at "at") rfl ?_)
  | refine vd_ix ?_)

/-! ### sign_of -/
theorem sgn_b (n : Int) : PyProof.Rows.b2i (decide (0 < n)) - PyProof.Rows.b2i (decide (n < 0)) = sgn n := by
  unfold PyProof.Rows.b2i sgn
  by_cases h : 0 < n
  · have h2 : ¬ n < 0 := by omega
    rw [decide_eq_true h, decide_eq_false h2, if_pos rfl, if_neg (by decide), if_pos h]
    rfl
  · by_cases h2 : n < 0
    · rw [decide_eq_false h, decide_eq_true h2, if_neg (by decide), if_pos rfl, if_neg h, if_neg (by omega)]
      rfl
    · rw [decide_eq_false h, decide_eq_false h2, if_neg (by decide), if_neg h, if_pos (by omega)]
      rfl
theorem fSignOf {M : Md} {f : Addr} {fd : FuncData} (F : Fun M.K "sign_of" "sign_of" sSignOf f fd) (hm : M.mg "sign_of" = some (.ref f)) (b : L2.Binds M.K fd ["number"] []) : FnD M 1 "sign_of" 1 SSign := by
  refine fnD_mk (k := 0) (NK := nkSignOf) (G := gSignOf) F scSignOf hm b rfl (by decide +kernel) rfl (by decide) fun X C ds W hl hS => ?_
  obtain ⟨n, rfl, w⟩ := hS
  show VSs X _ [.dat (.int n)] _
  walk_at "vv"
  show W (.int (PyProof.Rows.b2i (decide (0 < n)) - PyProof.Rows.b2i (decide (n < 0))))
  rw [sgn_b]
  exact w
/-! ### fraction -/
def frq (n d : Int) : D := if d < 0 then fr (-n) (-d) else fr n d
def SFraction : List D → (D → Prop) → Prop := fun ds W => ∃ n d : Int, ds = [.int n, .int d] ∧ n.natAbs < 2 ^ 29 ∧ d.natAbs < 2 ^ 29 ∧ d ≠ 0 ∧ W (frq n d)
theorem fdiv_neg {n g : Int} (hg : 0 < g) (h : g ∣ n) : n.fdiv (-g) = (-n) / g := by
  obtain ⟨t, rfl⟩ := h
  have e : g * t = (-t) * (-g) := by rw [Int.neg_mul_neg, Int.mul_comm]
  rw [e, Int.mul_fdiv_cancel _ (by omega), ← e, ← Int.mul_neg, Int.mul_ediv_cancel_left _ (by omega)]
theorem gcd_dvdn (n d : Int) : ((Nat.gcd n.natAbs d.natAbs : Nat) : Int) ∣ n := Int.natAbs_dvd_natAbs.mp (by
  rw [Int.natAbs_natCast]
  exact Nat.gcd_dvd_left _ _)
theorem gcd_dvdd (n d : Int) : ((Nat.gcd n.natAbs d.natAbs : Nat) : Int) ∣ d := Int.natAbs_dvd_natAbs.mp (by
  rw [Int.natAbs_natCast]
  exact Nat.gcd_dvd_right _ _)
theorem fFraction {M : Md} {f : Addr} {fd : FuncData} (mg : M.mg "gcd" = some (.builtin "math.gcd")) (F : Fun M.K "fraction" "fraction" sFraction f fd) (hm : M.mg "fraction" = some (.ref f)) (b : L2.Binds M.K fd ["above", "below"] []) : FnD M 1 "fraction" 2 SFraction := by
  refine fnD_mk (k := 0) (NK := nkFraction) (G := gFraction) F scFraction hm b rfl (by decide +kernel) rfl (by decide) fun X C ds W hl hS => ?_
  obtain ⟨n, d, rfl, hn, hd, h0, w⟩ := hS
  have hg : 0 < Nat.gcd n.natAbs d.natAbs := Nat.gcd_pos_of_pos_right _ (by omega)
  have hle : Nat.gcd n.natAbs d.natAbs ≤ d.natAbs := Nat.le_of_dvd (by omega) (Nat.gcd_dvd_right _ _)
  show VSs X _ [.dat (.int n), .dat (.int d), .no] _
  walk_at "vv"
  refine vd_callM C does_gcd2 (by walk_at "at") ?_
  walk_at "vv"
  refine ⟨n, d, rfl, ?_⟩
  walk_at "vv"
  refine ⟨fun h => ?_, fun h => ?_⟩
  · have h := of_decide_eq_true h
    walk_at "vv"
    refine ⟨_, rfl, ?_⟩
    walk_at "v"
    walk_at "v"
    walk_at "v"
    refine va_cons (vd_fdivN ?_)
    walk_at "vv"
    refine ⟨n, -((Nat.gcd n.natAbs d.natAbs : Nat) : Int), rfl, rfl, ⟨by omega, by omega⟩, ?_⟩
    refine va_cons (vd_fdivN ?_)
    walk_at "vv"
    refine ⟨d, -((Nat.gcd n.natAbs d.natAbs : Nat) : Int), rfl, rfl, ⟨by omega, by omega⟩, ?_⟩
    walk_at "vv"
    refine ⟨by show 2 ≤ 1000; decide, ?_⟩
    rw [fdiv_neg (by omega) (gcd_dvdn n d), fdiv_neg (by omega) (gcd_dvdd n d)]
    unfold frq at w
    rw [if_pos h] at w
    unfold fr at w
    rw [Int.natAbs_neg, Int.natAbs_neg] at w
    exact w
  · have h := of_decide_eq_false h
    refine vss_nil ?_
    walk_at "v"
    walk_at "v"
    walk_at "v"
    refine va_cons (vd_fdivN ?_)
    walk_at "vv"
    refine ⟨n, ((Nat.gcd n.natAbs d.natAbs : Nat) : Int), rfl, rfl, ⟨by omega, by omega⟩, ?_⟩
    refine va_cons (vd_fdivN ?_)
    walk_at "vv"
    refine ⟨d, ((Nat.gcd n.natAbs d.natAbs : Nat) : Int), rfl, rfl, ⟨by omega, by omega⟩, ?_⟩
    walk_at "vv"
    refine ⟨by show 2 ≤ 1000; decide, ?_⟩
    rw [Int.fdiv_eq_ediv_of_nonneg _ (by omega), Int.fdiv_eq_ediv_of_nonneg _ (by omega)]
    unfold frq at w
    rw [if_neg h] at w
    exact w
/-! ### undivided -/
abbrev tup3 (a b c : Int) : D := .tuple [.int a, .int b, .int c]
def g3 (a b c : Int) : Nat := Nat.gcd (Nat.gcd a.natAbs b.natAbs) c.natAbs
def und (a b c : Int) : D := if (g3 a b c : Int) = 0 then tup3 0 0 0 else tup3 (a / (g3 a b c : Int)) (b / (g3 a b c : Int)) (c / (g3 a b c : Int))
def SUnd : List D → (D → Prop) → Prop := fun ds W => ∃ a b c : Int, ds = [.int a, .int b, .int c] ∧ c.natAbs < 2 ^ 900 ∧ b.natAbs < 2 ^ 900 ∧ a.natAbs < 2 ^ 900 ∧ W (und a b c)
theorem g3_small {a b c : Int} (ha : a.natAbs < 2 ^ 900) (hb : b.natAbs < 2 ^ 900) (hc : c.natAbs < 2 ^ 900) : (g3 a b c : Int).natAbs < 2 ^ 1000 := by
  rw [Int.natAbs_natCast]
  have h9 : 2 ^ 900 < 2 ^ 1000 := by decide +kernel
  unfold g3
  by_cases z : c.natAbs = 0
  · rw [z, Nat.gcd_zero_right]
    by_cases y : b.natAbs = 0
    · rw [y, Nat.gcd_zero_right]
      exact Nat.lt_trans ha h9
    · exact Nat.lt_of_le_of_lt (Nat.le_of_dvd (Nat.pos_of_ne_zero y) (Nat.gcd_dvd_right _ _)) (Nat.lt_trans hb h9)
  · exact Nat.lt_of_le_of_lt (Nat.le_of_dvd (Nat.pos_of_ne_zero z) (Nat.gcd_dvd_right _ _)) (Nat.lt_trans hc h9)
theorem fUnd {M : Md} {f : Addr} {fd : FuncData} (mg : M.mg "gcd" = some (.builtin "math.gcd")) (F : Fun M.K "undivided" "undivided" sUndivided f fd) (hm : M.mg "undivided" = some (.ref f)) (b : L2.Binds M.K fd ["c0", "c1", "c2"] []) : FnD M 1 "undivided" 3 SUnd := by
  refine fnD_mk (k := 0) (NK := nkUndivided) (G := gUndivided) F scUndivided hm b rfl (by decide +kernel) rfl (by decide) fun X C ds W hl hS => ?_
  obtain ⟨a, b, c, rfl, hc, hb, ha, w⟩ := hS
  have hs := g3_small ha hb hc
  show VSs X _ [.dat (.int a), .dat (.int b), .dat (.int c), .no] _
  walk_at "vv"
  refine vd_callM C does_gcd3 (by walk_at "at") ?_
  walk_at "vv"
  refine ⟨a, b, c, rfl, ?_⟩
  show VSs X _ [.dat (.int a), .dat (.int b), .dat (.int c), .dat (.int (g3 a b c : Int))] _
  walk_at "vv"
  refine ⟨fun h => ?_, fun h => ?_⟩
  · have h := of_decide_eq_true h
    walk_at "vv"
    refine ⟨by decide, ?_⟩
    unfold und at w
    rw [if_pos h] at w
    exact w
  · have h := of_decide_eq_false h
    have hp : 0 < (g3 a b c : Int) := by omega
    walk_at "vv"
    refine ⟨divW hp hs, ?_⟩
    walk_at "vv"
    refine ⟨divW hp hs, ?_⟩
    walk_at "vv"
    refine ⟨divW hp hs, ?_⟩
    walk_at "vv"
    refine ⟨by show 3 ≤ 1000; decide, ?_⟩
    unfold und at w
    rw [if_neg h] at w
    exact w

/-! ### the discriminant -/
def dsc (c0 c1 c2 : Int) : Int := c1 * c1 - 4 * c0 * c2
def S3 (n : Nat) (g : Int → Int → Int → D) : List D → (D → Prop) → Prop := fun ds W => ∃ a b c : Int, ds = [.int a, .int b, .int c] ∧ a.natAbs < 2 ^ n ∧ b.natAbs < 2 ^ n ∧ c.natAbs < 2 ^ n ∧ W (g a b c)
theorem mulB {i j : Int} {a b : Nat} (h1 : i.natAbs < 2 ^ a) (h2 : j.natAbs < 2 ^ b) (ha : a ≤ 400000) (hb : b ≤ 400000) : CMulW i j :=
  wide_mul (a := a + 1) (b := b + 1) (Nat.lt_trans h1 (Nat.pow_lt_pow_right (by decide) (by omega))) (Nat.lt_trans h2 (Nat.pow_lt_pow_right (by decide) (by omega))) (by omega) (by omega) (by omega)
theorem absmul {i j : Int} {a b : Nat} (h1 : i.natAbs < 2 ^ a) (h2 : j.natAbs < 2 ^ b) : (i * j).natAbs < 2 ^ (a + b) := by
  rw [Int.natAbs_mul, Nat.pow_add]
  exact Nat.mul_lt_mul'' h1 h2
theorem absadd {i j : Int} {a : Nat} (h1 : i.natAbs < 2 ^ a) (h2 : j.natAbs < 2 ^ a) : (i + j).natAbs < 2 ^ (a + 1) := by
  have := Int.natAbs_add_le i j
  rw [Nat.pow_succ]
  omega
theorem abssub {i j : Int} {a : Nat} (h1 : i.natAbs < 2 ^ a) (h2 : j.natAbs < 2 ^ a) : (i - j).natAbs < 2 ^ (a + 1) := by
  have := Int.natAbs_sub_le i j
  rw [Nat.pow_succ]
  omega
theorem absup {i : Int} {a b : Nat} (h1 : i.natAbs < 2 ^ a) (h : a ≤ b) : i.natAbs < 2 ^ b := Nat.lt_of_lt_of_le h1 (Nat.pow_le_pow_right (by decide) h)
theorem fDisc {M : Md} {f : Addr} {fd : FuncData} (F : Fun M.K "discriminant" "discriminant" sDiscriminant f fd) (hm : M.mg "discriminant" = some (.ref f)) (b : L2.Binds M.K fd ["c0", "c1", "c2"] []) : FnD M 1 "discriminant" 3 (S3 300 fun a b c => .int (dsc a b c)) := by
  refine fnD_mk (k := 0) (NK := nkDiscriminant) (G := gDiscriminant) F scDiscriminant hm b rfl (by decide +kernel) rfl (by decide) fun X C ds W hl hS => ?_
  obtain ⟨a, b, c, rfl, h1, h2, h3, w⟩ := hS
  show VSs X _ [.dat (.int a), .dat (.int b), .dat (.int c)] _
  walk_at "vv"
  refine ⟨mulB h2 h2 (by decide) (by decide), ?_⟩
  walk_at "vv"
  refine ⟨mulB (a := 3) (by decide) h1 (by decide) (by decide), ?_⟩
  walk_at "vv"
  exact ⟨mulB (absmul (a := 3) (by decide) h1) h3 (by decide) (by decide), w⟩
/-! ### the sign of flat plus steep times a root -/
def surd (f s q : Int) : Int := if 0 ≤ sgn f * sgn s then (if sgn f = 0 then sgn s else sgn f) else if s * s * q < f * f then sgn f else sgn s
theorem sgn_small (n : Int) : (sgn n).natAbs < 2 ^ 1 := by
  unfold sgn
  split
  · decide
  · split <;> decide
theorem fSurd {M : Md} {f : Addr} {fd : FuncData} (FS : FnD M 1 "sign_of" 1 SSign) (F : Fun M.K "sign_of_surd" "sign_of_surd" sSignOfSurd f fd) (hm : M.mg "sign_of_surd" = some (.ref f)) (b : L2.Binds M.K fd ["flat", "steep", "square"] []) : FnD M 2 "sign_of_surd" 3 (S3 2000 fun a b c => .int (surd a b c)) := by
  refine fnD_mk (k := 1) (NK := nkSignOfSurd) (G := gSignOfSurd) F scSignOfSurd hm b rfl (by decide +kernel) rfl (by decide) fun X C ds W hl hS => ?_
  obtain ⟨p, s, q, rfl, h1, h2, h3, w⟩ := hS
  show VSs X _ [.dat (.int p), .dat (.int s), .dat (.int q), .no, .no] _
  replace w : W (.int (surd p s q)) := w
  unfold surd at w
  walk_at "vv"
  refine vd_call C FS (by walk_at "at") ?_
  walk_at "vv"
  refine ⟨rfl, p, rfl, ?_⟩
  walk_at "vv"
  refine vd_call C FS (by walk_at "at") ?_
  walk_at "vv"
  refine ⟨rfl, s, rfl, ?_⟩
  walk_at "vv"
  refine ⟨mulB (sgn_small p) (sgn_small s) (by decide) (by decide), ?_⟩
  walk_at "vv"
  refine ⟨fun h => ?_, fun h => ?_⟩
  · have h := of_decide_eq_true h
    rw [if_pos h] at w
    walk_at "v"
    walk_at "v"
    refine vd_orI ?_
    walk_at "vv"
    refine ⟨_, rfl, fun z => ?_, fun z => ?_⟩
    · rw [if_neg z] at w
      exact w
    · rw [if_pos z] at w
      refine vd_one ?_
      walk_at "vv"
      exact w
  · have h := of_decide_eq_false h
    rw [if_neg h] at w
    walk_at "vv"
    refine ⟨mulB h1 h1 (by decide) (by decide), ?_⟩
    walk_at "vv"
    refine ⟨mulB h2 h2 (by decide) (by decide), ?_⟩
    walk_at "vv"
    refine ⟨mulB (absmul h2 h2) h3 (by decide) (by decide), ?_⟩
    refine ⟨fun h => ?_, fun h => ?_⟩
    · have h := of_decide_eq_true h
      rw [if_pos h] at w
      walk_at "vv"
      exact w
    · have h := of_decide_eq_false h
      rw [if_neg h] at w
      walk_at "vv"
      exact w

open PySem PySem.Spec PyProof.Rows L2 Vc

/-! ### the roots -/
def rootD (own : D) (w : Int) : D := .tuple [.str "root", own, .int w]
def isq (n : Int) : Nat := Float64.isqrt n.natAbs
/-- of a polynomial whose last number is above 0, its discriminant not below 0 -/
def rtsP (e0 e1 e2 : Int) : List D :=
  if ((isq (dsc e0 e1 e2) : Nat) : Int) * ((isq (dsc e0 e1 e2) : Nat) : Int) = dsc e0 e1 e2 then
    (if ((isq (dsc e0 e1 e2) : Nat) : Int) = 0 then [frq (-e1) (2 * e2)] else [frq (-e1 - ((isq (dsc e0 e1 e2) : Nat) : Int)) (2 * e2), frq (-e1 + ((isq (dsc e0 e1 e2) : Nat) : Int)) (2 * e2)])
  else [rootD (und e0 e1 e2) 0, rootD (und e0 e1 e2) 1]
def rts2 (c0 c1 c2 : Int) : List D := if dsc c0 c1 c2 < 0 then [] else if c2 < 0 then rtsP (-c0) (-c1) (-c2) else rtsP c0 c1 c2
def rts (c0 c1 c2 : Int) : List D := if c2 = 0 then (if c1 = 0 then [] else [frq (-c0) c1]) else rts2 c0 c1 c2
def Sm (n : Int) : Prop := n.natAbs < 2 ^ 10
theorem dsc_neg (a b c : Int) : dsc (-a) (-b) (-c) = dsc a b c := by
  unfold dsc
  rw [Int.neg_mul_neg, Int.mul_assoc 4 (-a), Int.neg_mul_neg, Int.mul_assoc 4 a]
theorem dsc_small {a b c : Int} (ha : Sm a) (hb : Sm b) (hc : Sm c) : (dsc a b c).natAbs < 2 ^ 24 := by
  unfold dsc
  have h1 := absmul hb hb
  have h2 := absmul (absmul (i := 4) (a := 3) (by decide) ha) hc
  have := abssub (absup h1 (show 20 ≤ 23 by decide)) (absup h2 (show 3 + 10 + 10 ≤ 23 by decide))
  exact this
theorem isq_small {n : Int} (h : n.natAbs < 2 ^ 24) : isq n < 2 ^ 13 := by
  have r := (isqrt_root n.natAbs).1
  unfold isq
  rcases Nat.lt_or_ge (Float64.isqrt n.natAbs) (2 ^ 13) with z | z
  · exact z
  · have := Nat.mul_le_mul z z
    omega
def SSq : List D → (D → Prop) → Prop := fun ds W => ∃ a b c : Int, ds = [.int a, .int b, .int c] ∧ Sm a ∧ Sm b ∧ Sm c ∧ c ≠ 0 ∧ W (.list (rts2 a b c))
theorem fSq {M : Md} {f : Addr} {fd : FuncData} (mi : M.mg "isqrt" = some (.builtin "math.isqrt")) (FD : FnD M 1 "discriminant" 3 (S3 300 fun a b c => .int (dsc a b c))) (FU : FnD M 1 "undivided" 3 SUnd) (FF : FnD M 1 "fraction" 2 SFraction)
    (F : Fun M.K "square_roots" "square_roots" sSquareRoots f fd) (hm : M.mg "square_roots" = some (.ref f)) (b : L2.Binds M.K fd ["c0", "c1", "c2"] []) : FnD M 2 "square_roots" 3 SSq := by
  refine fnD_mk (k := 1) (NK := nkSquareRoots) (G := gSquareRoots) F scSquareRoots hm b rfl (by decide +kernel) rfl (by decide) fun X C ds W hl hS => ?_
  obtain ⟨a, b, c, rfl, ha, hb, hc, h0, w⟩ := hS
  have up : ∀ {n : Int} (m : Nat), 10 ≤ m → Sm n → n.natAbs < 2 ^ m := fun m h s => absup s h
  show VSs X _ [.dat (.int a), .dat (.int b), .dat (.int c), .no, .no, .no] _
  have hD := dsc_small ha hb hc
  -- from here on the last number is above 0
  have go : ∀ a b c : Int, Sm a → Sm b → Sm c → 0 < c → 0 ≤ dsc a b c → W (.list (rtsP a b c)) → VSs X ((defBody sSquareRoots).drop 3) [.dat (.int a), .dat (.int b), .dat (.int c), .dat (.int (dsc a b c)), .no, .no] { nx := fun _ => W .none, rt := fun d _ => W d } := fun a b c ha hb hc hp h0 w => by
    have hD := dsc_small ha hb hc
    have hq := isq_small hD
    walk_at "vv"
    refine vd_callM C does_isqrt (by walk_at "at") ?_
    walk_at "vv"
    refine ⟨_, rfl, h0, absup hD (by decide), fun r hr => ?_⟩
    have er : r = isq (dsc a b c) := hr.uniq (isqrt_root _)
    subst er
    unfold rtsP at w
    have hs : ((isq (dsc a b c) : Nat) : Int).natAbs < 2 ^ 13 := by omega
    walk_at "vv"
    refine ⟨mulB hs hs (by decide) (by decide), ?_⟩
    walk_at "vv"
    refine ⟨fun h => ?_, fun h => ?_⟩
    · have h : ¬ ((isq (dsc a b c) : Nat) : Int) * ((isq (dsc a b c) : Nat) : Int) = dsc a b c := by
        have h' : (!decide (((isq (dsc a b c) : Nat) : Int) * ((isq (dsc a b c) : Nat) : Int) = dsc a b c)) = true := h
        simpa using h'
      rw [if_neg h] at w
      walk_at "vv"
      refine vd_call C FU (by walk_at "at") ?_
      walk_at "vv"
      refine ⟨rfl, a, b, c, rfl, up 900 (by decide) hc, up 900 (by decide) hb, up 900 (by decide) ha, ?_⟩
      walk_at "v"
      walk_at "v"
      refine vn_vd (vn_lst ?_)
      walk_at "vv"
      refine ⟨by show 3 ≤ 1000; decide, ?_⟩
      walk_at "vv"
      refine ⟨by show 3 ≤ 1000; decide, ?_⟩
      walk_at "vv"
      exact ⟨by show 2 ≤ 1000; decide, w⟩
    · have h : ((isq (dsc a b c) : Nat) : Int) * ((isq (dsc a b c) : Nat) : Int) = dsc a b c := by
        have h' : (!decide (((isq (dsc a b c) : Nat) : Int) * ((isq (dsc a b c) : Nat) : Int) = dsc a b c)) = false := h
        simpa using h'
      rw [if_pos h] at w
      walk_at "vv"
      refine ⟨fun h => ?_, fun h => ?_⟩
      · have h := of_decide_eq_true h
        rw [if_pos h] at w
        walk_at "v"
        walk_at "v"
        refine vn_vd (vn_lst ?_)
        walk_at "v"
        refine vd_call C FF (by walk_at "at") ?_
        walk_at "vv"
        refine ⟨_, rfl, ?_⟩
        walk_at "vv"
        refine ⟨mulB (a := 2) (by decide) hc (by decide) (by decide), ?_⟩
        walk_at "vv"
        have h2c := absmul (i := 2) (a := 2) (by decide) hc
        refine ⟨rfl, -b, 2 * c, rfl, by rw [Int.natAbs_neg]; exact up 29 (by decide) hb, absup h2c (by decide), by omega, ?_⟩
        walk_at "vv"
        exact ⟨by show 1 ≤ 1000; decide, w⟩
      · have h := of_decide_eq_false h
        rw [if_neg h] at w
        refine vss_nil ?_
        walk_at "v"
        walk_at "v"
        refine vn_vd (vn_lst ?_)
        walk_at "v"
        refine vd_call C FF (by walk_at "at") ?_
        walk_at "vv"
        refine ⟨_, rfl, ?_⟩
        walk_at "vv"
        refine ⟨mulB (a := 2) (by decide) hc (by decide) (by decide), ?_⟩
        walk_at "vv"
        have h2c := absmul (i := 2) (a := 2) (by decide) hc
        have hnb : (-b).natAbs < 2 ^ 13 := by rw [Int.natAbs_neg]; exact up 13 (by decide) hb
        refine ⟨rfl, -b - ((isq (dsc a b c) : Nat) : Int), 2 * c, rfl, absup (abssub hnb hs) (by decide), absup h2c (by decide), by omega, ?_⟩
        walk_at "v"
        refine vd_call C FF (by walk_at "at") ?_
        walk_at "vv"
        refine ⟨_, rfl, ?_⟩
        walk_at "vv"
        refine ⟨mulB (a := 2) (by decide) hc (by decide) (by decide), ?_⟩
        walk_at "vv"
        refine ⟨rfl, -b + ((isq (dsc a b c) : Nat) : Int), 2 * c, rfl, absup (absadd hnb hs) (by decide), absup h2c (by decide), by omega, ?_⟩
        walk_at "vv"
        exact ⟨by show 2 ≤ 1000; decide, w⟩
  walk_at "vv"
  refine vd_call C FD (by walk_at "at") ?_
  walk_at "vv"
  refine ⟨rfl, a, b, c, rfl, up 300 (by decide) ha, up 300 (by decide) hb, up 300 (by decide) hc, ?_⟩
  unfold rts2 at w
  walk_at "vv"
  refine ⟨fun h => ?_, fun h => ?_⟩
  · have h := of_decide_eq_true h
    rw [if_pos h] at w
    walk_at "v"
    walk_at "v"
    refine vn_vd (vn_lst ?_)
    walk_at "vv"
    exact ⟨by decide, w⟩
  · have h := of_decide_eq_false h
    rw [if_neg h] at w
    walk_at "vv"
    refine ⟨fun h2 => ?_, fun h2 => ?_⟩
    · have h2 := of_decide_eq_true h2
      rw [if_pos h2] at w
      refine vss_one ?_
      refine vs_par3 C (i := 0) (j := 1) (l := 2) (by walk_at "at") (by walk_at "at") (by walk_at "at") (by decide) (by decide) (by decide) ?_ (by walk_at "sw")
      walk_at "vv"
      refine ⟨_, rfl, ?_⟩
      walk_at "vv"
      refine ⟨_, rfl, ?_⟩
      walk_at "vv"
      refine ⟨_, rfl, ?_⟩
      have g := go (-a) (-b) (-c) (by unfold Sm; rw [Int.natAbs_neg]; exact ha) (by unfold Sm; rw [Int.natAbs_neg]; exact hb) (by unfold Sm; rw [Int.natAbs_neg]; exact hc) (by omega) (by rw [dsc_neg]; omega) w
      rw [dsc_neg] at g
      exact g
    · have h2 := of_decide_eq_false h2
      rw [if_neg h2] at w
      refine vss_nil ?_
      exact go a b c ha hb hc (by omega) (by omega) w

open PySem PySem.Spec PyProof.Rows L2 Vc

/-! ### roots -/
theorem shRoot : SeqAt.shaped (.str "root") = true := by decide +kernel
theorem eqRoot : PyData.eqv (.str "root") (.str "root") = true := by decide +kernel

def SRoots : List D → (D → Prop) → Prop := fun ds W => ∃ a b c : Int, ds = [tup3 a b c] ∧ Sm a ∧ Sm b ∧ Sm c ∧ W (.list (rts a b c))
theorem fRoots {M : Md} {f : Addr} {fd : FuncData} (FQ : FnD M 2 "square_roots" 3 SSq) (FF : FnD M 1 "fraction" 2 SFraction)
    (F : Fun M.K "roots" "roots" sRoots f fd) (hm : M.mg "roots" = some (.ref f)) (b : L2.Binds M.K fd ["poly"] []) : FnD M 3 "roots" 1 SRoots := by
  refine fnD_mk (k := 2) (NK := nkRoots) (G := gRoots) F scRoots hm b rfl (by decide +kernel) rfl (by decide) fun X C ds W hl hS => ?_
  obtain ⟨a, b, c, rfl, ha, hb, hc, w⟩ := hS
  show VSs X _ [.dat (tup3 a b c), .no, .no, .no] _
  unfold rts at w
  walk_at "v"
  refine vs_asg ?_
  walk_at "v"
  refine vg_tup C ?_
  walk_at "vv"
  refine ⟨fun h => ?_, fun h => ?_⟩
  · have h : ¬ c = 0 := by simpa using h
    rw [if_neg h] at w
    walk_at "vv"
    refine vd_call C FQ (by walk_at "at") ?_
    walk_at "vv"
    exact ⟨rfl, a, b, c, rfl, ha, hb, hc, h, w⟩
  · have h : c = 0 := of_decide_eq_true (by simpa using h)
    rw [if_pos h] at w
    walk_at "vv"
    refine ⟨fun h => ?_, fun h => ?_⟩
    · have h : ¬ b = 0 := by simpa using h
      rw [if_neg h] at w
      walk_at "vv"
      refine vn_vd (vn_lst ?_)
      walk_at "v"
      refine vd_call C FF (by walk_at "at") ?_
      walk_at "vv"
      refine ⟨_, rfl, ?_⟩
      walk_at "vv"
      refine ⟨rfl, -a, b, rfl, by rw [Int.natAbs_neg]; exact absup ha (by decide), absup hb (by decide), h, ?_⟩
      walk_at "vv"
      exact ⟨by show 1 ≤ 1000; decide, w⟩
    · have h : b = 0 := of_decide_eq_true (by simpa using h)
      rw [if_pos h] at w
      walk_at "vv"
      refine vn_vd (vn_lst ?_)
      walk_at "vv"
      exact ⟨by show 0 ≤ 1000; decide, w⟩
/-! ### sign_on -/
def sonF (c0 c1 c2 n d : Int) : Int := sgn ((c0 * d + c1 * n) * d + c2 * n * n)
def sonR (c0 c1 c2 b0 b1 b2 w : Int) : Int :=
  surd (2 * b2 * (c0 * b2 - c2 * b0) - b1 * (c1 * b2 - c2 * b1)) (if w = 0 then -(c1 * b2 - c2 * b1) else c1 * b2 - c2 * b1) (dsc b0 b1 b2)
def SSon : List D → (D → Prop) → Prop := fun ds W => ∃ (c0 c1 c2 : Int) (pl : D), ds = [tup3 c0 c1 c2, pl] ∧ Sm c0 ∧ Sm c1 ∧ Sm c2 ∧
  ((∃ n d : Int, pl = .tuple [.int n, .int d] ∧ n.natAbs < 2 ^ 200 ∧ d.natAbs < 2 ^ 200 ∧ W (.int (sonF c0 c1 c2 n d))) ∨
   (∃ b0 b1 b2 w : Int, pl = rootD (tup3 b0 b1 b2) w ∧ Sm b0 ∧ Sm b1 ∧ Sm b2 ∧ W (.int (sonR c0 c1 c2 b0 b1 b2 w))))
theorem fSon {M : Md} {f : Addr} {fd : FuncData} (FS : FnD M 1 "sign_of" 1 SSign) (FU : FnD M 2 "sign_of_surd" 3 (S3 2000 fun a b c => .int (surd a b c))) (FD : FnD M 1 "discriminant" 3 (S3 300 fun a b c => .int (dsc a b c)))
    (F : Fun M.K "sign_on" "sign_on" sSignOn f fd) (hm : M.mg "sign_on" = some (.ref f)) (b : L2.Binds M.K fd ["poly", "place"] []) : FnD M 3 "sign_on" 2 SSon := by
  refine fnD_mk (k := 2) (NK := nkSignOn) (G := gSignOn) F scSignOn hm b rfl (by decide +kernel) rfl (by decide) fun X C ds W hl hS => ?_
  obtain ⟨c0, c1, c2, pl, rfl, h0, h1, h2, hS⟩ := hS
  have up : ∀ {n : Int} (m : Nat), 10 ≤ m → Sm n → n.natAbs < 2 ^ m := fun m h s => absup s h
  show VSs X _ [.dat (tup3 c0 c1 c2), .dat pl, .no, .no, .no, .no, .no, .no, .no, .no, .no, .no, .no, .no] _
  rcases hS with ⟨n, d, rfl, hn, hd, w⟩ | ⟨b0, b1, b2, wh, rfl, g0, g1, g2, w⟩
  · walk_at "v"
    refine vs_asg ?_
    walk_at "v"
    refine vg_tup C ?_
    walk_at "vv"
    refine ⟨_, rfl, ?_⟩
    walk_at "vv"
    refine ⟨rfl, shRoot, ?_⟩
    refine ⟨fun _ => ?_, fun h => absurd h (by show ¬ (true = false); decide)⟩
    walk_at "v"
    refine vs_asg ?_
    walk_at "v"
    refine vg_tup C ?_
    walk_at "vv"
    refine vd_call C FS (by walk_at "at") ?_
    walk_at "vv"
    refine ⟨mulB (up 10 (by decide) h0) hd (by decide) (by decide), ?_⟩
    walk_at "vv"
    refine ⟨mulB (up 10 (by decide) h1) hn (by decide) (by decide), ?_⟩
    walk_at "vv"
    refine ⟨mulB (absadd (absmul h0 hd) (absmul h1 hn)) hd (by decide) (by decide), ?_⟩
    walk_at "vv"
    refine ⟨mulB (up 10 (by decide) h2) hn (by decide) (by decide), ?_⟩
    walk_at "vv"
    refine ⟨mulB (absmul h2 hn) hn (by decide) (by decide), ?_⟩
    walk_at "vv"
    exact ⟨rfl, _, rfl, w⟩
  · walk_at "v"
    refine vs_asg ?_
    walk_at "v"
    refine vg_tup C ?_
    walk_at "vv"
    refine ⟨_, rfl, ?_⟩
    walk_at "vv"
    refine ⟨shRoot, shRoot, ?_⟩
    refine ⟨fun h => absurd (h : (!PyData.eqv (.str "root") (.str "root")) = true) (by rw [eqRoot]; decide), fun _ => ?_⟩
    walk_at "vv"
    refine vs_asg ?_
    walk_at "v"
    refine vg_tup C ?_
    walk_at "vv"
    refine vg_tup C ?_
    walk_at "vv"
    refine ⟨mulB h0 g2 (by decide) (by decide), ?_⟩
    walk_at "vv"
    refine ⟨mulB h2 g0 (by decide) (by decide), ?_⟩
    walk_at "vv"
    refine ⟨mulB h1 g2 (by decide) (by decide), ?_⟩
    walk_at "vv"
    refine ⟨mulB h2 g1 (by decide) (by decide), ?_⟩
    have hf := abssub (absmul h0 g2) (absmul h2 g0)
    have hs := abssub (absmul h1 g2) (absmul h2 g1)
    walk_at "vv"
    refine ⟨mulB (a := 2) (by decide) g2 (by decide) (by decide), ?_⟩
    have h2b := absmul (i := 2) (a := 2) (by decide) g2
    walk_at "vv"
    refine ⟨mulB h2b hf (by decide) (by decide), ?_⟩
    walk_at "vv"
    refine ⟨mulB g1 hs (by decide) (by decide), ?_⟩
    have hF := abssub (absup (absmul h2b hf) (show 2 + 10 + (10 + 10 + 1) ≤ 40 by decide)) (absup (absmul g1 hs) (show 10 + (10 + 10 + 1) ≤ 40 by decide))
    have hD := dsc_small g0 g1 g2
    unfold sonR at w
    walk_at "vv"
    refine ⟨fun h => ?_, fun h => ?_⟩
    · have h : wh = 0 := of_decide_eq_true h
      rw [if_pos h] at w
      walk_at "vv"
      refine ⟨_, rfl, ?_⟩
      refine vss_one (vs_ret ?_)
      refine vd_call C FU (by walk_at "at") ?_
      walk_at "vv"
      refine vd_call C FD (by walk_at "at") ?_
      walk_at "vv"
      refine ⟨rfl, b0, b1, b2, rfl, up 300 (by decide) g0, up 300 (by decide) g1, up 300 (by decide) g2, ?_⟩
      walk_at "vv"
      exact ⟨rfl, _, _, _, rfl, absup hF (by decide), by rw [Int.natAbs_neg]; exact absup hs (by decide), absup hD (by decide), w⟩
    · have h : ¬ wh = 0 := of_decide_eq_false h
      rw [if_neg h] at w
      refine vss_nil ?_
      refine vss_one (vs_ret ?_)
      refine vd_call C FU (by walk_at "at") ?_
      walk_at "vv"
      refine vd_call C FD (by walk_at "at") ?_
      walk_at "vv"
      refine ⟨rfl, b0, b1, b2, rfl, up 300 (by decide) g0, up 300 (by decide) g1, up 300 (by decide) g2, ?_⟩
      walk_at "vv"
      exact ⟨rfl, _, _, _, rfl, absup hF (by decide), absup hs (by decide), absup hD (by decide), w⟩

open PySem PySem.Spec PyProof.Rows L2 Vc

/-! ### _law_at -/
def latv (a b c n d : Int) : Int := a * d * d + b * n * d + c * n * n
def SAt : List D → (D → Prop) → Prop := fun ds W => ∃ a b c n d : Int, ds = [tup3 a b c, .int n, .int d] ∧ Sm a ∧ Sm b ∧ Sm c ∧ n.natAbs < 2 ^ 200 ∧ d.natAbs < 2 ^ 200 ∧ W (.int (sgn (latv a b c n d)))
theorem fAt {M : Md} {f : Addr} {fd : FuncData} (FS : FnD M 1 "_law_sign" 1 SSign)
    (F : Fun M.K "_law_at" "_law_at" sLAt f fd) (hm : M.mg "_law_at" = some (.ref f)) (b : L2.Binds M.K fd ["poly", "n", "d"] []) : FnD M 2 "_law_at" 3 SAt := by
  refine fnD_mk (k := 1) (NK := nkLAt) (G := gLAt) F scLAt hm b rfl (by decide +kernel) rfl (by decide) fun X C ds W hl hS => ?_
  obtain ⟨a, b, c, n, d, rfl, ha, hb, hc, hn, hd, w⟩ := hS
  show VSs X _ [.dat (tup3 a b c), .dat (.int n), .dat (.int d)] _
  refine vss_one (vs_ret ?_)
  refine vd_call C FS (by walk_at "at") ?_
  walk_at "vv"
  refine ⟨_, rfl, ?_⟩
  walk_at "vv"
  refine ⟨mulB ha hd (by decide) (by decide), ?_⟩
  walk_at "vv"
  refine ⟨mulB (absmul ha hd) hd (by decide) (by decide), ?_⟩
  walk_at "vv"
  refine ⟨_, rfl, ?_⟩
  walk_at "vv"
  refine ⟨mulB hb hn (by decide) (by decide), ?_⟩
  walk_at "vv"
  refine ⟨mulB (absmul hb hn) hd (by decide) (by decide), ?_⟩
  walk_at "vv"
  refine ⟨_, rfl, ?_⟩
  walk_at "vv"
  refine ⟨mulB hc hn (by decide) (by decide), ?_⟩
  walk_at "vv"
  refine ⟨mulB (absmul hc hn) hn (by decide) (by decide), ?_⟩
  walk_at "vv"
  exact ⟨rfl, _, rfl, w⟩
/-! ### _law_root_of -/
/-- behind i laps -/
structure Rw (n : Int) (i : Nat) (low high : Int) : Prop where
  l0 : 0 ≤ low
  lh : low < high
  hn : high ≤ n + 1
  ll : low * low ≤ n
  hh : n < high * high
  gap : (high - low - 1) * 2 ^ i ≤ n
theorem pow_succI (i : Nat) : (2 : Int) ^ (i + 1) = 2 * 2 ^ i := by
  rw [Int.pow_succ, Int.mul_comm]
theorem pow_posI (i : Nat) : (0 : Int) < 2 ^ i := Int.pow_pos (by decide)
theorem half_gap {g h n p : Int} (hp : 0 < p) (h1 : 2 * h ≤ g) (hg : g * p ≤ n) : h * (2 * p) ≤ n := by
  have : h * (2 * p) = (2 * h) * p := by grind
  rw [this]
  exact Int.le_trans (Int.mul_le_mul_of_nonneg_right h1 (by omega)) hg
theorem rw_step {n : Int} {i : Nat} {low high : Int} (h : Rw n i low high) :
    ((low + high) / 2 * ((low + high) / 2) ≤ n → Rw n (i + 1) ((low + high) / 2) high) ∧ (¬ (low + high) / 2 * ((low + high) / 2) ≤ n → Rw n (i + 1) low ((low + high) / 2)) := by
  have h1 := h.lh
  have h0 := h.l0
  refine ⟨fun z => ⟨by omega, by omega, h.hn, z, h.hh, ?_⟩, fun z => ⟨h0, ?_, ?_, h.ll, by omega, ?_⟩⟩
  · rw [pow_succI]
    exact half_gap (pow_posI i) (by omega) h.gap
  · have := h.ll
    by_cases e : (low + high) / 2 = low
    · rw [e] at z
      exact absurd this z
    · omega
  · have := h.hn
    omega
  · rw [pow_succI]
    exact half_gap (pow_posI i) (by omega) h.gap
theorem rw_end {n low high : Int} (hn : n.natAbs < 2 ^ 24) (h : Rw n 200 low high) : low = ((isq n : Nat) : Int) := by
  have h1 := h.lh
  have h0 := h.l0
  have hg := h.gap
  have e : high = low + 1 := by
    rcases Int.lt_or_le (low + 1) high with z | z
    · have := Int.mul_le_mul_of_nonneg_right (show (1 : Int) ≤ high - low - 1 by omega) (show (0 : Int) ≤ 2 ^ 200 by decide)
      have p : (1 : Int) * 2 ^ 200 > 2 ^ 24 := by decide
      omega
    · omega
  have r := isqrt_root n.natAbs
  have hr : IsRoot n.natAbs low.toNat := by
    have a1 := h.ll
    have a2 := h.hh
    subst e
    have n0 : 0 ≤ n := Int.le_trans (Int.mul_nonneg h0 h0) a1
    refine ⟨?_, ?_⟩
    · apply Int.ofNat_le.mp
      rw [Int.natCast_mul, Int.toNat_of_nonneg h0]
      omega
    · apply Int.ofNat_lt.mp
      rw [Int.natCast_mul, Int.natCast_add, Int.toNat_of_nonneg h0]
      show (n.natAbs : Int) < (low + 1) * (low + 1)
      omega
  have := hr.uniq r
  unfold isq
  omega
theorem rw_small {n : Int} {i : Nat} {low high : Int} (hn : n.natAbs < 2 ^ 24) (h : Rw n i low high) : ((low + high) / 2).natAbs < 2 ^ 30 := by
  have h1 := h.lh
  have h0 := h.l0
  have h2 := h.hn
  omega
def SRootOf : List D → (D → Prop) → Prop := fun ds W => ∃ n : Int, ds = [.int n] ∧ 0 ≤ n ∧ n.natAbs < 2 ^ 24 ∧ W (.int ((isq n : Nat) : Int))
theorem fRootOf {M : Md} {f : Addr} {fd : FuncData} (mr : M.mg "range" = none)
    (F : Fun M.K "_law_root_of" "_law_root_of" sLRootOf f fd) (hm : M.mg "_law_root_of" = some (.ref f)) (b : L2.Binds M.K fd ["number"] []) : FnD M 1 "_law_root_of" 1 SRootOf := by
  refine fnD_mk (k := 0) (NK := nkLRootOf) (G := gLRootOf) F scLRootOf hm b rfl (by decide +kernel) rfl (by decide) fun X C ds W hl hS => ?_
  obtain ⟨n, rfl, n0, hn, w⟩ := hS
  show VSs X _ [.dat (.int n), .no, .no, .no, .no] _
  walk_at "v"
  refine vs_par C (i := 1) (j := 2) (by walk_at "at") (by walk_at "at") (by decide) ?_ (by walk_at "sw")
  walk_at "vv"
  refine vs_for C (vi_range C (by walk_at "at") ?_)
  walk_at "vv"
  refine ⟨200, rfl, by decide, ?_⟩
  refine ⟨fun i ρ' => ∃ (low high : Int) (s t : Sl), ρ' = [.dat (.int n), .dat (.int low), .dat (.int high), s, t] ∧ Rw n i low high, ⟨0, n + 1, _, _, rfl, ?_⟩, fun i d ρ' hi hW => ?_, fun ρ' hW => ?_⟩
  · refine ⟨by omega, by omega, by omega, by omega, ?_, by omega⟩
    have := Int.mul_le_mul_of_nonneg_left (show 1 ≤ n + 1 by omega) (show 0 ≤ n + 1 by omega)
    omega
  · obtain ⟨low, high, s, t, rfl, h⟩ := hW
    have st := rw_step h
    have sm := rw_small hn h
    walk_at "vv"
    refine ⟨divW (by decide) (by decide), ?_⟩
    walk_at "vv"
    refine ⟨mulB sm sm (by decide) (by decide), ?_⟩
    walk_at "vv"
    refine ⟨fun z => ?_, fun z => ?_⟩
    · have z := of_decide_eq_true z
      walk_at "vv"
      exact ⟨_, high, _, _, rfl, st.1 z⟩
    · have z := of_decide_eq_false z
      walk_at "vv"
      exact ⟨low, _, _, _, rfl, st.2 z⟩
  · obtain ⟨low, high, s, t, rfl, h⟩ := hW
    rw [List.length_map, List.length_range] at h
    rw [← rw_end hn h] at w
    walk_at "vv"
    exact w
/-! ### _law_roots -/
/-- the numbers have no divisor in common, or are 0 all -/
def Wh (a b c : Int) : Prop := g3 a b c = 1 ∨ (a = 0 ∧ b = 0 ∧ c = 0)
theorem und_wh {a b c : Int} (h : g3 a b c = 1) : und a b c = tup3 a b c := by
  unfold und
  rw [h, if_neg (by decide)]
  show tup3 (a / 1) (b / 1) (c / 1) = _
  rw [Int.ediv_one, Int.ediv_one, Int.ediv_one]
theorem g3_neg (a b c : Int) : g3 (-a) (-b) (-c) = g3 a b c := by
  unfold g3
  rw [Int.natAbs_neg, Int.natAbs_neg, Int.natAbs_neg]
theorem wh_g3 {a b c : Int} (h : Wh a b c) (hc : c ≠ 0) : g3 a b c = 1 := h.elim id fun z => absurd z.2.2 hc
theorem frq_neg {n d : Int} (h : d < 0) : frq n d = frq (-n) (-d) := by
  unfold frq
  rw [if_pos h, if_neg (by omega)]
theorem frq_le (n d : Int) : (if d < 0 then fr (-n) (-d) else fr n d) = frq n d := rfl
def SLRoots : List D → (D → Prop) → Prop := fun ds W => ∃ a b c : Int, ds = [tup3 a b c] ∧ Sm a ∧ Sm b ∧ Sm c ∧ Wh a b c ∧ W (.list (rts a b c))
theorem fLRoots {M : Md} {f : Addr} {fd : FuncData} (FF : FnD M 2 "_law_frac" 2 SFrac) (FO : FnD M 1 "_law_root_of" 1 SRootOf)
    (F : Fun M.K "_law_roots" "_law_roots" sLRoots f fd) (hm : M.mg "_law_roots" = some (.ref f)) (b : L2.Binds M.K fd ["poly"] []) : FnD M 3 "_law_roots" 1 SLRoots := by
  refine fnD_mk (k := 2) (NK := nkLRoots) (G := gLRoots) F scLRoots hm b rfl (by decide +kernel) rfl (by decide) fun X C ds W hl hS => ?_
  obtain ⟨a, b, c, rfl, ha, hb, hc, hw, w⟩ := hS
  have up : ∀ {n : Int} (m : Nat), 10 ≤ m → Sm n → n.natAbs < 2 ^ m := fun m h s => absup s h
  have hD := dsc_small ha hb hc
  show VSs X _ [.dat (tup3 a b c), .no, .no, .no, .no, .no, .no, .no, .no, .no] _
  unfold rts at w
  walk_at "v"
  refine vs_asg ?_
  walk_at "v"
  refine vg_tup C ?_
  walk_at "vv"
  refine ⟨fun h => ?_, fun h => ?_⟩
  · have h : c = 0 := of_decide_eq_true h
    rw [if_pos h] at w
    walk_at "vv"
    refine ⟨fun h => ?_, fun h => ?_⟩
    · have h : b = 0 := of_decide_eq_true h
      rw [if_pos h] at w
      refine vn_vd (vn_lst ?_)
      walk_at "vv"
      exact ⟨by show 0 ≤ 1000; decide, w⟩
    · have h : ¬ b = 0 := of_decide_eq_false h
      rw [if_neg h] at w
      refine vn_vd (vn_lst ?_)
      walk_at "v"
      refine vd_call C FF (by walk_at "at") ?_
      walk_at "vv"
      refine ⟨_, rfl, ?_⟩
      walk_at "vv"
      refine ⟨rfl, -a, b, rfl, by rw [Int.natAbs_neg]; exact absup ha (by decide), absup hb (by decide), h, ?_⟩
      walk_at "vv"
      exact ⟨by show 1 ≤ 1000; decide, w⟩
  · have h : ¬ c = 0 := of_decide_eq_false h
    have g1 := wh_g3 hw h
    rw [if_neg h] at w
    unfold rts2 at w
    walk_at "vv"
    refine ⟨mulB hb hb (by decide) (by decide), ?_⟩
    walk_at "vv"
    refine ⟨mulB (a := 3) (by decide) ha (by decide) (by decide), ?_⟩
    walk_at "vv"
    refine ⟨mulB (absmul (a := 3) (by decide) ha) hc (by decide) (by decide), ?_⟩
    show VSs X _ [.dat (tup3 a b c), .dat (.int a), .dat (.int b), .dat (.int c), .dat (.int (dsc a b c)), .no, .no, .no, .no, .no] _
    walk_at "vv"
    refine ⟨fun z => ?_, fun z => ?_⟩
    · have z := of_decide_eq_true z
      rw [if_pos z] at w
      walk_at "vv"
      refine vn_vd (vn_lst ?_)
      walk_at "vv"
      exact ⟨by show 0 ≤ 1000; decide, w⟩
    · have z := of_decide_eq_false z
      rw [if_neg z] at w
      have hq := isq_small hD
      have hs : ((isq (dsc a b c) : Nat) : Int).natAbs < 2 ^ 13 := by omega
      have hnb : (-b).natAbs < 2 ^ 13 := by rw [Int.natAbs_neg]; exact up 13 (by decide) hb
      have h2c := absmul (i := 2) (a := 2) (by decide) hc
      walk_at "vv"
      refine vd_call C FO (by walk_at "at") ?_
      walk_at "vv"
      refine ⟨rfl, _, rfl, by omega, hD, ?_⟩
      walk_at "vv"
      refine ⟨mulB hs hs (by decide) (by decide), ?_⟩
      walk_at "vv"
      refine ⟨fun y => ?_, fun y => ?_⟩
      · have y : ((isq (dsc a b c) : Nat) : Int) * ((isq (dsc a b c) : Nat) : Int) = dsc a b c := of_decide_eq_true y
        -- behind low and high
        have go : ∀ lo hi : Int, lo.natAbs < 2 ^ 14 → hi.natAbs < 2 ^ 14 → W (.list (if ((isq (dsc a b c) : Nat) : Int) = 0 then [frq lo (2 * c)] else [frq lo (2 * c), frq hi (2 * c)])) →
            VSs X [(match (defBody sLRoots).getD 5 (.Pass ⟨0, 0, 0, 0⟩) with | .If _ u _ _ => u.getD 1 (.Pass ⟨0, 0, 0, 0⟩) | _ => .Pass ⟨0, 0, 0, 0⟩), (match (defBody sLRoots).getD 5 (.Pass ⟨0, 0, 0, 0⟩) with | .If _ u _ _ => u.getD 2 (.Pass ⟨0, 0, 0, 0⟩) | _ => .Pass ⟨0, 0, 0, 0⟩)]
              [.dat (tup3 a b c), .dat (.int a), .dat (.int b), .dat (.int c), .dat (.int (dsc a b c)), .dat (.int ((isq (dsc a b c) : Nat) : Int)), .dat (.int lo), .dat (.int hi), .no, .no]
              { nx := fun ρ1 => VSs X ((defBody sLRoots).drop 6) ρ1 { nx := fun _ => W .none, rt := fun d _ => W d }, rt := fun d _ => W d } := fun lo hi l1 l2 w => by
          walk_at "v"
          walk_at "v"
          refine vn_vd (vn_lst ?_)
          walk_at "v"
          refine vd_call C FF (by walk_at "at") ?_
          walk_at "vv"
          refine ⟨mulB (a := 2) (by decide) hc (by decide) (by decide), ?_⟩
          walk_at "vv"
          refine ⟨rfl, lo, 2 * c, rfl, absup l1 (by decide), absup h2c (by decide), by omega, ?_⟩
          rw [frq_le]
          walk_at "v"
          refine vd_call C FF (by walk_at "at") ?_
          walk_at "vv"
          refine ⟨mulB (a := 2) (by decide) hc (by decide) (by decide), ?_⟩
          walk_at "vv"
          refine ⟨rfl, hi, 2 * c, rfl, absup l2 (by decide), absup h2c (by decide), by omega, ?_⟩
          rw [frq_le]
          walk_at "vv"
          refine ⟨by show 2 ≤ 1000; decide, ?_⟩
          walk_at "vv"
          have e0 : dsc a b c = 0 ↔ ((isq (dsc a b c) : Nat) : Int) = 0 := by
            refine ⟨fun e => ?_, fun e => ?_⟩
            · rw [e] at y ⊢
              exact (Int.mul_eq_zero.mp y).elim id id
            · rw [e] at y
              exact y.symm
          refine ⟨fun v => ?_, fun v => ?_⟩
          · have v := of_decide_eq_true v
            rw [if_pos (e0.mp v)] at w
            refine vn_vd (vn_take (n := 1) ?_)
            walk_at "vv"
            exact ⟨_, rfl, w⟩
          · have v := of_decide_eq_false v
            rw [if_neg (fun u => v (e0.mpr u))] at w
            walk_at "vv"
            exact w
        refine vss_cons ?_
        refine vs_asg ?_
        walk_at "vv"
        refine ⟨fun v => ?_, fun v => ?_⟩
        · have v := of_decide_eq_true v
          rw [if_neg (by omega)] at w
          unfold rtsP at w
          rw [if_pos y] at w
          walk_at "vv"
          refine ⟨_, rfl, ?_⟩
          walk_at "vv"
          refine ⟨_, rfl, ?_⟩
          walk_at "vv"
          refine ⟨by show 2 ≤ 1000; decide, ?_⟩
          refine vg_tup C ?_
          walk_at "v"
          walk_at "v"
          walk_at "v"
          walk_at "v"
          walk_at "v"
          refine go _ _ (abssub hnb hs) (absadd hnb hs) ?_
          split
          · rename_i e
            rw [if_pos e] at w
            rw [e, Int.sub_zero]
            exact w
          · rename_i e
            rw [if_neg e] at w
            exact w
        · have v := of_decide_eq_false v
          have vc : c < 0 := by omega
          rw [if_pos vc] at w
          unfold rtsP at w
          rw [dsc_neg, if_pos y] at w
          walk_at "vv"
          refine ⟨_, rfl, ?_⟩
          walk_at "vv"
          refine ⟨_, rfl, ?_⟩
          walk_at "vv"
          refine ⟨by show 2 ≤ 1000; decide, ?_⟩
          refine vg_tup C ?_
          walk_at "v"
          walk_at "v"
          walk_at "v"
          walk_at "v"
          walk_at "v"
          refine go _ _ (absadd hnb hs) (abssub hnb hs) ?_
          have e1 : -(2 * c) = 2 * (-c) := by omega
          split
          · rename_i e
            rw [if_pos e] at w
            rw [e, Int.add_zero, frq_neg (by omega), e1]
            exact w
          · rename_i e
            rw [if_neg e] at w
            rw [frq_neg (d := 2 * c) (by omega), frq_neg (d := 2 * c) (by omega), e1]
            have e2 : -(-b + ((isq (dsc a b c) : Nat) : Int)) = -(-b) - ((isq (dsc a b c) : Nat) : Int) := by omega
            have e3 : -(-b - ((isq (dsc a b c) : Nat) : Int)) = -(-b) + ((isq (dsc a b c) : Nat) : Int) := by omega
            rw [e2, e3]
            exact w
      · have y : ¬ ((isq (dsc a b c) : Nat) : Int) * ((isq (dsc a b c) : Nat) : Int) = dsc a b c := of_decide_eq_false y
        refine vss_nil ?_
        walk_at "vv"
        refine ⟨fun v => ?_, fun v => ?_⟩
        · have v := of_decide_eq_true v
          rw [if_neg (by omega)] at w
          unfold rtsP at w
          rw [if_neg y, und_wh g1] at w
          walk_at "vv"
          refine vn_vd (vn_lst ?_)
          walk_at "vv"
          refine ⟨by show 3 ≤ 1000; decide, ?_⟩
          walk_at "vv"
          refine ⟨by show 3 ≤ 1000; decide, ?_⟩
          walk_at "vv"
          exact ⟨by show 2 ≤ 1000; decide, w⟩
        · have v := of_decide_eq_false v
          rw [if_pos (by omega)] at w
          unfold rtsP at w
          rw [dsc_neg, if_neg y, und_wh (by rw [g3_neg]; exact g1)] at w
          walk_at "vv"
          refine ⟨_, rfl, ?_⟩
          walk_at "vv"
          refine ⟨_, rfl, ?_⟩
          walk_at "vv"
          refine ⟨_, rfl, ?_⟩
          walk_at "vv"
          refine ⟨by show 3 ≤ 1000; decide, ?_⟩
          walk_at "vv"
          refine vn_vd (vn_lst ?_)
          walk_at "vv"
          refine ⟨by show 3 ≤ 1000; decide, ?_⟩
          walk_at "vv"
          refine ⟨by show 3 ≤ 1000; decide, ?_⟩
          walk_at "vv"
          exact ⟨by show 2 ≤ 1000; decide, w⟩

open PySem PySem.Spec PyProof.Rows L2 Vc

/-! ### _law_poly -/
def Sb (n : Int) : Prop := n.natAbs ≤ 72
theorem Sb.sm {n : Int} (h : Sb n) : Sm n := Nat.lt_of_le_of_lt h (by decide)
theorem mulLe {i j : Int} {a b : Nat} (h1 : i.natAbs ≤ a) (h2 : j.natAbs ≤ b) : (i * j).natAbs ≤ a * b := by
  rw [Int.natAbs_mul]
  exact Nat.mul_le_mul h1 h2
/-- the divisor of the numbers, 1 if these are 0 -/
def byOf (a b c : Int) : Int := if g3 a b c = 0 then 1 else (g3 a b c : Int)
theorem byOf_pos (a b c : Int) : 0 < byOf a b c := by
  unfold byOf
  split <;> omega
theorem g3_dvd (a b c : Int) : (g3 a b c : Int) ∣ a ∧ (g3 a b c : Int) ∣ b ∧ (g3 a b c : Int) ∣ c := by
  have h12 : Nat.gcd a.natAbs b.natAbs ∣ a.natAbs := Nat.gcd_dvd_left _ _
  have h13 : Nat.gcd a.natAbs b.natAbs ∣ b.natAbs := Nat.gcd_dvd_right _ _
  have h0 : g3 a b c ∣ Nat.gcd a.natAbs b.natAbs := Nat.gcd_dvd_left _ _
  have h2 : g3 a b c ∣ c.natAbs := Nat.gcd_dvd_right _ _
  have up : ∀ {x : Int}, g3 a b c ∣ x.natAbs → (g3 a b c : Int) ∣ x := fun h => Int.natAbs_dvd_natAbs.mp (by
    rw [Int.natAbs_natCast]
    exact h)
  exact ⟨up (Nat.dvd_trans h0 h12), up (Nat.dvd_trans h0 h13), up h2⟩
theorem by_wh (a b c : Int) : Wh (a / byOf a b c) (b / byOf a b c) (c / byOf a b c) := by
  unfold byOf
  by_cases z : g3 a b c = 0
  · rw [if_pos z]
    right
    have h : Nat.gcd a.natAbs b.natAbs = 0 ∧ c.natAbs = 0 := Nat.gcd_eq_zero_iff.mp z
    have h2 := Nat.gcd_eq_zero_iff.mp h.1
    rw [Int.ediv_one, Int.ediv_one, Int.ediv_one]
    omega
  · rw [if_neg z]
    left
    obtain ⟨⟨x, hx⟩, ⟨y, hy⟩, ⟨w, hw⟩⟩ := g3_dvd a b c
    have gp : 0 < g3 a b c := Nat.pos_of_ne_zero z
    have e1 : a / (g3 a b c : Int) = x := by
      conv => lhs; lhs; rw [hx]
      exact Int.mul_ediv_cancel_left _ (by omega)
    have e2 : b / (g3 a b c : Int) = y := by
      conv => lhs; lhs; rw [hy]
      exact Int.mul_ediv_cancel_left _ (by omega)
    have e3 : c / (g3 a b c : Int) = w := by
      conv => lhs; lhs; rw [hw]
      exact Int.mul_ediv_cancel_left _ (by omega)
    rw [e1, e2, e3]
    have k : g3 a b c = g3 a b c * g3 x y w := by
      have : g3 a b c = Nat.gcd (Nat.gcd (g3 a b c * x.natAbs) (g3 a b c * y.natAbs)) (g3 a b c * w.natAbs) := by
        have q : ∀ {u v : Int}, u = (g3 a b c : Int) * v → g3 a b c * v.natAbs = u.natAbs := fun {u v} e => by
          rw [e, Int.natAbs_mul, Int.natAbs_natCast]
        rw [q hx, q hy, q hw]
        rfl
      rw [Nat.gcd_mul_left, Nat.gcd_mul_left] at this
      exact this
    have : g3 a b c * 1 = g3 a b c * g3 x y w := by omega
    exact (Nat.eq_of_mul_eq_mul_left gp this).symm
theorem divLe {n d : Int} (hd : 0 < d) (h : Sb n) : Sb (n / d) := by
  unfold Sb at *
  have a : d * (n / d) ≤ n := Int.mul_ediv_self_le (by omega)
  have b : n < d * (n / d) + d := Int.lt_mul_ediv_self_add hd
  rcases Int.lt_or_le (n / d) 0 with z | z
  · have := Int.mul_le_mul_of_nonneg_right (show 1 ≤ d by omega) (show 0 ≤ -(n / d) - 1 by omega)
    have e : d * (-(n / d) - 1) = -(d * (n / d)) - d := by grind
    rw [e] at this
    omega
  · have := Int.mul_le_mul_of_nonneg_right (show 1 ≤ d by omega) z
    omega
def SPoly : List D → List D → (D → List D → Prop) → Prop := fun cs ds W => ∃ (ns : List Int) (c : Nat), cs = drw ns c ∧ ds = [.int 30] ∧ c ≤ 900000 ∧ ∀ (c' : Nat) (a b e : Int), c' ≤ c + 8 → Sb a → Sb b → Sb e → Wh a b e → W (tup3 a b e) (drw ns c')
theorem fPoly {M : Md} {f : Addr} {fd : FuncData} (mr : M.mg "range" = none) (mx : M.mg "max" = none) (mt : M.mg "tuple" = none) (FX : FnM M 3 "_law_next" 1 SNext) (FC : FnD M 1 "_law_common" 2 SCommon)
    (F : Fun M.K "_law_poly" "_law_poly" sLPoly f fd) (hm : M.mg "_law_poly" = some (.ref f)) (b : L2.Binds M.K fd ["draw", "big"] []) : FnM M 4 "_law_poly" 1 SPoly := by
  refine fnM_mk (k := 3) (NK := nkLPoly) (G := gLPoly) F scLPoly hm b rfl (by decide +kernel) rfl (by decide) fun X C p cs ds W hl hS => ?_
  obtain ⟨ns, c, rfl, rfl, hc, w⟩ := hS
  show VSs X _ [.own p (drw ns c), .dat (.int 30), .no, .no, .no, .no, .no, .no, .no, .no, .no, .no] _
  -- behind the three numbers
  have tail : ∀ (c' : Nat) (a b e : Int) (q : Addr) (s2 s4 s5 s6 s7 s8 s10 s11 : Sl), c' ≤ c + 8 → Sb a → Sb b → Sb e → VSs X ((defBody sLPoly).drop 5) [.own p (drw ns c'), .dat (.int 30), s2, .own q [.int a, .int b, .int e], s4, s5, s6, s7, s8, .no, s10, s11]
      { nx := fun ρ' => ∃ cs', ρ'[0]? = some (.own p cs') ∧ W .none cs', rt := fun d ρ' => ∃ cs', ρ'[0]? = some (.own p cs') ∧ W d cs' } := fun c' a b e q s2 s4 s5 s6 s7 s8 s10 s11 hc' ha hb he => by
    refine vss_frz (i := 3) rfl ?_
    show VSs X _ [.own p (drw ns c'), .dat (.int 30), s2, .dat (.list [.int a, .int b, .int e]), s4, s5, s6, s7, s8, .no, s10, s11] _
    have l190 : ∀ {n : Int}, Sb n → n.natAbs < 2 ^ 190 := fun h => Nat.lt_of_le_of_lt h (by decide +kernel)
    walk_at "v"
    walk_at "v"
    refine vd_callB C (does_max C) (by walk_at "at") ?_
    walk_at "v"
    refine vn_vd (vn_lst ?_)
    walk_at "v"
    walk_at "v"
    walk_at "v"
    refine vd_call C FC (by walk_at "at") ?_
    walk_at "v"
    refine vd_call C FC (by walk_at "at") ?_
    walk_at "vv"
    refine ⟨_, rfl, ?_⟩
    walk_at "vv"
    refine ⟨_, rfl, ?_⟩
    walk_at "vv"
    refine ⟨rfl, a, b, rfl, l190 ha, l190 hb, ?_⟩
    walk_at "vv"
    refine ⟨_, rfl, ?_⟩
    walk_at "vv"
    have hg1 : Nat.gcd a.natAbs b.natAbs < 2 ^ 190 := by
      by_cases z : b.natAbs = 0
      · rw [z, Nat.gcd_zero_right]
        exact l190 ha
      · exact Nat.lt_of_le_of_lt (Nat.le_of_dvd (Nat.pos_of_ne_zero z) (Nat.gcd_dvd_right _ _)) (l190 hb)
    refine ⟨rfl, _, e, rfl, by rw [Int.natAbs_natCast]; exact hg1, l190 he, ?_⟩
    rw [Int.natAbs_natCast]
    walk_at "vv"
    refine ⟨by show 2 ≤ 1000; decide, ?_⟩
    walk_at "vv"
    refine ⟨[1, (g3 a b e : Int)], rfl, by show 0 < 2; decide, fun m m1 m2 => ?_⟩
    have em : m = byOf a b e := by
      have x1 := m2 1 (by simp)
      have x2 := m2 (g3 a b e : Int) (by simp)
      unfold byOf
      simp only [List.mem_cons, List.not_mem_nil, or_false] at m1
      split <;> omega
    subst em
    have bp := byOf_pos a b e
    have bl : (byOf a b e).natAbs < 2 ^ 1000 := by
      have : g3 a b e < 2 ^ 190 := by
        unfold g3
        by_cases z : e.natAbs = 0
        · rw [z, Nat.gcd_zero_right]
          exact hg1
        · exact Nat.lt_of_le_of_lt (Nat.le_of_dvd (Nat.pos_of_ne_zero z) (Nat.gcd_dvd_right _ _)) (l190 he)
      have h2 : (2 : Nat) ^ 190 < 2 ^ 1000 := by decide +kernel
      unfold byOf
      split
      · exact by decide +kernel
      · rw [Int.natAbs_natCast]
        exact Nat.lt_trans this h2
    have W1 := w c' (a / byOf a b e) (b / byOf a b e) (e / byOf a b e) hc' (divLe bp ha) (divLe bp hb) (divLe bp he) (by_wh a b e)
    refine vss_one (vs_ret ?_)
    refine vd_tupleN C (by walk_at "at") ?_
    refine vn_lc C nkLPoly1 gLPoly1 (i := 11) (by walk_at "at") ?_
    refine vi_lst ?_
    walk_at "v"
    refine ⟨_, rfl, by show 3 ≤ 100000; decide, fun j acc ρ' => acc = ([a, b, e].take j).map (fun n => .int (n / byOf a b e)) ∧ ∃ s : Sl, ρ' = [.own p (drw ns c'), .dat (.int 30), s2, .dat (.list [.int a, .int b, .int e]), s4, s5, s6, s7, s8, .dat (.int (byOf a b e)), s10, s], ⟨rfl, _, rfl⟩, fun j d acc ρ' hj hW X' C' => ?_, fun acc ρ' hW => ?_⟩
    · obtain ⟨rfl, s, rfl⟩ := hW
      match j, hj with
      | 0, hj =>
        cases hj
        walk_at "vv"
        exact ⟨divW bp bl, rfl, _, rfl⟩
      | 1, hj =>
        cases hj
        walk_at "vv"
        exact ⟨divW bp bl, rfl, _, rfl⟩
      | 2, hj =>
        cases hj
        walk_at "vv"
        exact ⟨divW bp bl, rfl, _, rfl⟩
      | n + 3, hj => cases hj
    · obtain ⟨rfl, s, rfl⟩ := hW
      exact ⟨_, rfl, W1⟩
  walk_at "v"
  walk_at "v"
  refine vd_callO C FX (m := 0) (by walk_at "at") (by walk_at "at") rfl ?_
  walk_at "vv"
  refine ⟨rfl, _, rfl, ns, c, 6, rfl, rfl, by omega, by decide, fun r r0 r1 => ?_⟩
  show VSs X _ [.own p (drw ns (c + 1)), .dat (.int 30), .dat (.int r), .no, .no, .no, .no, .no, .no, .no, .no, .no] _
  refine vss_cons ?_
  refine vs_ownLc C nkLPoly0 gLPoly0 (i := 10) (m := 3) (by walk_at "at") (by walk_at "at") (by show 3 < 12; decide) ?_
  refine vi_range C (by walk_at "at") ?_
  walk_at "v"
  refine ⟨3, rfl, by decide, by decide, fun j acc ρ' => ∃ (fs : List Int) (c' : Nat) (s : Sl), acc = fs.map PyData.int ∧ fs.length = j ∧ (∀ f ∈ fs, f.natAbs ≤ 30) ∧ c' ≤ c + 1 + j ∧ ρ' = [.own p (drw ns c'), .dat (.int 30), .dat (.int r), .no, .no, .no, .no, .no, .no, .no, s, .no], ⟨[], c + 1, _, rfl, rfl, fun _ h => (nomatch h), by omega, rfl⟩, fun j d acc ρ' hj hW X' C' => ?_, fun acc ρ' hW q => ?_⟩
  · obtain ⟨fs, c', s, rfl, hfs, hgood, hc', rfl⟩ := hW
    have hj3 : j < 3 := by
      have := (List.getElem?_eq_some_iff.mp hj).1
      rw [List.length_map, List.length_range] at this
      exact this
    walk_at "v"
    refine vd_callO C' FX (m := 0) (by walk_at "at") (by walk_at "at") rfl ?_
    walk_at "vv"
    refine ⟨mulB (a := 10) (b := 10) (by decide) (by decide) (by decide) (by decide), ?_⟩
    walk_at "vv"
    refine ⟨rfl, _, rfl, ns, c', 61, rfl, rfl, by omega, by decide, fun x x0 x1 => ?_⟩
    walk_at "vv"
    refine ⟨fs ++ [x - 30], c' + 1, _, by rw [List.map_append]; rfl, by rw [List.length_append, hfs]; rfl, fun g hg => ?_, by omega, rfl⟩
    rcases List.mem_append.mp hg with z | z
    · exact hgood g z
    · rw [List.mem_singleton.mp z]
      omega
  · obtain ⟨fs, c1, s, rfl, hfs, hgood, hc1, rfl⟩ := hW
    rw [List.length_map, List.length_range] at hfs hc1
    obtain ⟨f0, f1, f2, rfl⟩ : ∃ f0 f1 f2, fs = [f0, f1, f2] := by
      match fs, hfs with
      | [a, b, c], _ => exact ⟨a, b, c, rfl⟩
    have o0 : f0.natAbs ≤ 30 := hgood f0 (by simp)
    have o1 : f1.natAbs ≤ 30 := hgood f1 (by simp)
    have o2 : f2.natAbs ≤ 30 := hgood f2 (by simp)
    have b0 : Sb f0 := Nat.le_trans o0 (by decide)
    have b1 : Sb f1 := Nat.le_trans o1 (by decide)
    have b2 : Sb f2 := Nat.le_trans o2 (by decide)
    show VSs X _ [.own p (drw ns c1), .dat (.int 30), .dat (.int r), .own q [.int f0, .int f1, .int f2], .no, .no, .no, .no, .no, .no, s, .no] _
    walk_at "vv"
    refine ⟨fun h => ?_, fun h => ?_⟩
    · have h : r = 0 := of_decide_eq_true h
      refine vss_cons ?_
      refine vs_asg ?_
      walk_at "v"
      walk_at "v"
      walk_at "v"
      walk_at "v"
      refine vd_callO C FX (m := 0) (by walk_at "at") (by walk_at "at") rfl ?_
      walk_at "vv"
      refine ⟨rfl, _, rfl, ns, c1, 6, rfl, rfl, by omega, by decide, fun a a0 a1 => ?_⟩
      walk_at "v"
      walk_at "v"
      refine vd_callO C FX (m := 0) (by walk_at "at") (by walk_at "at") rfl ?_
      walk_at "vv"
      refine ⟨rfl, _, rfl, ns, c1 + 1, 9, rfl, rfl, by omega, by decide, fun b b0 b1 => ?_⟩
      walk_at "v"
      walk_at "v"
      walk_at "v"
      walk_at "v"
      refine vd_callO C FX (m := 0) (by walk_at "at") (by walk_at "at") rfl ?_
      walk_at "vv"
      refine ⟨rfl, _, rfl, ns, c1 + 1 + 1, 6, rfl, rfl, by omega, by decide, fun e e0 e1 => ?_⟩
      walk_at "v"
      walk_at "v"
      refine vd_callO C FX (m := 0) (by walk_at "at") (by walk_at "at") rfl ?_
      walk_at "vv"
      refine ⟨rfl, _, rfl, ns, c1 + 1 + 1 + 1, 9, rfl, rfl, by omega, by decide, fun g g0 g1 => ?_⟩
      walk_at "vv"
      refine ⟨by show 4 ≤ 1000; decide, ?_⟩
      refine vg_tup C ?_
      walk_at "v"
      walk_at "v"
      walk_at "v"
      walk_at "v"
      walk_at "v"
      walk_at "v"
      walk_at "v"
      walk_at "v"
      walk_at "v"
      show VSs X _ [.own p (drw ns (c1 + 1 + 1 + 1 + 1)), .dat (.int 30), .dat (.int r), .own q [.int f0, .int f1, .int f2], .dat (.int (1 + a)), .dat (.int (b - 2)), .dat (.int (1 + e)), .dat (.int (g - 2)), .no, .no, s, .no] _
      refine vss_one ?_
      have ha : (1 + a).natAbs ≤ 6 := by omega
      have hb : (b - 2).natAbs ≤ 6 := by omega
      have hnb : (-(b - 2)).natAbs ≤ 6 := by omega
      have he : (1 + e).natAbs ≤ 6 := by omega
      have hg : (g - 2).natAbs ≤ 6 := by omega
      have q6 : ∀ {i j : Int}, i.natAbs ≤ 6 → j.natAbs ≤ 6 → CMulW i j := fun h1 h2 => mulB (a := 10) (b := 10) (by omega) (by omega) (by decide) (by decide)
      refine vs_new C (i := 3) (by walk_at "at") (by show 3 < 12; decide) ?_
      refine vn_lst ?_
      walk_at "vv"
      refine ⟨q6 hb hg, ?_⟩
      walk_at "vv"
      refine ⟨_, rfl, ?_⟩
      walk_at "vv"
      refine ⟨q6 hnb he, ?_⟩
      walk_at "vv"
      refine ⟨q6 ha hg, ?_⟩
      walk_at "vv"
      refine ⟨q6 ha he, ?_⟩
      walk_at "vv"
      refine ⟨by show 3 ≤ 1000; decide, fun q2 => ?_⟩
      walk_at "vv"
      refine ⟨fun h1 => absurd (of_decide_eq_true h1) (by omega), fun _ => ?_⟩
      refine vss_nil ?_
      walk_at "vv"
      refine ⟨fun h1 => absurd (of_decide_eq_true h1) (by omega), fun _ => ?_⟩
      refine vss_nil ?_
      have m1 := mulLe hb hg
      have m2 := mulLe hnb he
      have m3 := mulLe ha hg
      have m4 := mulLe ha he
      exact tail _ _ _ _ _ _ _ _ _ _ _ _ _ (by omega) (by unfold Sb; omega) (by unfold Sb; omega) (by unfold Sb; omega)
    · have h : ¬ r = 0 := of_decide_eq_false h
      refine vss_nil ?_
      walk_at "vv"
      refine ⟨fun h1 => ?_, fun h1 => ?_⟩
      · have h1 : r = 1 := of_decide_eq_true h1
        refine vss_one ?_
        refine vs_put C (i := 3) (by walk_at "at") rfl ?_
        walk_at "vv"
        refine ⟨_, 2, _, rfl, rfl, rfl, ?_⟩
        walk_at "vv"
        refine ⟨fun h1 => absurd (of_decide_eq_true h1) (by omega), fun _ => ?_⟩
        refine vss_nil ?_
        exact tail _ _ _ _ _ _ _ _ _ _ _ _ _ (by omega) b0 b1 (by show (0 : Int).natAbs ≤ 72; decide)
      · have h1 : ¬ r = 1 := of_decide_eq_false h1
        refine vss_nil ?_
        walk_at "vv"
        refine ⟨fun h2 => ?_, fun h2 => ?_⟩
        · refine vss_cons ?_
          refine vs_par C (i := 6) (j := 8) (by walk_at "at") (by walk_at "at") (by decide) ?_ (by walk_at "sw")
          walk_at "v"
          walk_at "v"
          refine vd_callO C FX (m := 0) (by walk_at "at") (by walk_at "at") rfl ?_
          walk_at "vv"
          refine ⟨rfl, _, rfl, ns, c1, 9, rfl, rfl, by omega, by decide, fun a a0 a1 => ?_⟩
          walk_at "v"
          walk_at "v"
          refine vd_callO C FX (m := 0) (by walk_at "at") (by walk_at "at") rfl ?_
          walk_at "vv"
          refine ⟨rfl, _, rfl, ns, c1 + 1, 7, rfl, rfl, by omega, by decide, fun b b0 b1 => ?_⟩
          show VSs X _ [.own p (drw ns (c1 + 1 + 1)), .dat (.int 30), .dat (.int r), .own q [.int f0, .int f1, .int f2], .no, .no, .dat (.int (1 + a)), .no, .dat (.int (2 + b)), .no, s, .no] _
          have ha : (1 + a).natAbs ≤ 9 := by omega
          have hb : (2 + b).natAbs ≤ 8 := by omega
          refine vss_one ?_
          refine vs_new C (i := 3) (by walk_at "at") (by show 3 < 12; decide) ?_
          refine vn_lst ?_
          walk_at "v"
          walk_at "v"
          refine vd_callO C FX (m := 0) (by walk_at "at") (by walk_at "at") rfl ?_
          walk_at "vv"
          refine ⟨rfl, _, rfl, ns, c1 + 1 + 1, 4, rfl, rfl, by omega, by decide, fun e e0 e1 => ?_⟩
          walk_at "vv"
          refine ⟨_, rfl, ?_⟩
          walk_at "vv"
          refine ⟨mulB (a := 10) (b := 10) (by omega) (by omega) (by decide) (by decide), ?_⟩
          walk_at "vv"
          refine ⟨by show 3 ≤ 1000; decide, fun q2 => ?_⟩
          have m1 := mulLe ha hb
          exact tail _ _ _ _ _ _ _ _ _ _ _ _ _ (by omega) (by unfold Sb; omega) (by unfold Sb; omega) (by unfold Sb; omega)
        · refine vss_nil ?_
          exact tail _ _ _ _ _ _ _ _ _ _ _ _ _ (by omega) b0 b1 b2

open PySem PySem.Spec PyProof.Rows L2 Vc

/-! ### the mathematics of a root's place -/
theorem zpos {Z Y T : Int} (hT : 0 < T) (hY : 0 < Y) (hYb : Y ≤ 2 ^ 24 * T) (h : T * 2 ^ 90 ≤ Z * Y) : 2 ^ 60 ≤ Z := by
  rcases Int.lt_or_le Z (2 ^ 60) with z | z
  · exfalso
    rcases Int.lt_or_le 0 Z with p | p
    · have h1 := Int.mul_le_mul_of_nonneg_left hYb (show 0 ≤ Z by omega)
      have h2 := Int.mul_le_mul_of_nonneg_right (show Z ≤ 2 ^ 60 by omega) (show 0 ≤ 2 ^ 24 * T by omega)
      omega
    · have h1 := Int.mul_nonneg (show 0 ≤ -Z by omega) (show 0 ≤ Y by omega)
      have e : -Z * Y = -(Z * Y) := Int.neg_mul _ _
      omega
  · exact z
theorem absLe {i : Int} {n : Nat} (h : i.natAbs < n) : -(n : Int) ≤ i ∧ i ≤ n := by omega
theorem mul_abs {i j : Int} {a b : Int} (h1 : -a ≤ i) (h2 : i ≤ a) (h3 : -b ≤ j) (h4 : j ≤ b) : -(a * b) ≤ i * j ∧ i * j ≤ a * b := by
  have a0 : 0 ≤ a := by omega
  have b0 : 0 ≤ b := by omega
  have p1 := Int.mul_nonneg (show 0 ≤ a - i by omega) (show 0 ≤ b - j by omega)
  have p2 := Int.mul_nonneg (show 0 ≤ a + i by omega) (show 0 ≤ b + j by omega)
  have p3 := Int.mul_nonneg (show 0 ≤ a - i by omega) (show 0 ≤ b + j by omega)
  have p4 := Int.mul_nonneg (show 0 ≤ a + i by omega) (show 0 ≤ b - j by omega)
  have e1 : (a - i) * (b - j) = a * b - a * j - i * b + i * j := by grind
  have e2 : (a + i) * (b + j) = a * b + a * j + i * b + i * j := by grind
  have e3 : (a - i) * (b + j) = a * b + a * j - i * b - i * j := by grind
  have e4 : (a + i) * (b - j) = a * b - a * j + i * b - i * j := by grind
  omega
theorem sgn_pos {n : Int} (h : 0 < n) : sgn n = 1 := by
  unfold sgn
  rw [if_pos h]
theorem sgn_zero : sgn 0 = 0 := by decide
theorem sgn_neg {n : Int} (h : n < 0) : sgn n = -1 := by
  unfold sgn
  rw [if_neg (by omega), if_neg (by omega)]
theorem z_big {T f s X D E1 : Int} (hT : T = 2 ^ 91) (hX : 0 < X) (hX2 : X ≤ 2 ^ 9 * T) (hE : X * X - D * (T * T) = E1) (e1 : -(2 ^ 20 * T) ≤ E1) (e2 : E1 ≤ 2 ^ 20 * T)
    (hf : f.natAbs < 2 ^ 22) (hs : s.natAbs < 2 ^ 14) (hne : f * f ≠ s * s * D) :
    (surd f s D = 1 ∧ 2 ^ 60 ≤ T * f + X * s) ∨ (surd f s D = -1 ∧ T * f + X * s ≤ -2 ^ 60) := by
  have T0 : 0 < T := by omega
  obtain ⟨f1, f2⟩ := absLe hf
  obtain ⟨s1, s2⟩ := absLe hs
  have id : (T * f + X * s) * (T * f - X * s) = T * (T * (f * f - s * s * D)) - s * s * E1 := by rw [← hE]; grind
  have yb : -(2 ^ 24 * T) ≤ T * f - X * s ∧ T * f - X * s ≤ 2 ^ 24 * T := by
    have a := mul_abs (i := T) (j := f) (a := T) (b := 2 ^ 22) (by omega) (by omega) f1 f2
    have b := mul_abs (i := X) (j := s) (a := 2 ^ 9 * T) (b := 2 ^ 14) (by omega) (by omega) s1 s2
    omega
  have ss := mul_abs s1 s2 s1 s2
  have se := mul_abs (i := s * s) (j := E1) (a := 2 ^ 28) (b := 2 ^ 20 * T) (by omega) (by omega) e1 e2
  -- the product's size
  have big : (1 ≤ f * f - s * s * D ∧ T * 2 ^ 90 ≤ (T * f + X * s) * (T * f - X * s)) ∨ (f * f - s * s * D ≤ -1 ∧ T * 2 ^ 90 ≤ -((T * f + X * s) * (T * f - X * s))) := by
    rw [id]
    rcases Int.lt_or_le 0 (f * f - s * s * D) with g | g
    · left
      refine ⟨g, ?_⟩
      have h1 := Int.mul_le_mul_of_nonneg_left (show 1 ≤ f * f - s * s * D from g) (show 0 ≤ T by omega)
      have h2 := Int.mul_le_mul_of_nonneg_left h1 (show 0 ≤ T by omega)
      have h3 : T * (T * 1) = T * 2 ^ 91 := by rw [Int.mul_one]; conv => lhs; rhs; rw [hT]
      omega
    · right
      have g' : f * f - s * s * D ≤ -1 := by omega
      refine ⟨g', ?_⟩
      have h1 := Int.mul_le_mul_of_nonneg_left (show 1 ≤ -(f * f - s * s * D) by omega) (show 0 ≤ T by omega)
      have h2 := Int.mul_le_mul_of_nonneg_left h1 (show 0 ≤ T by omega)
      have h3 : T * (T * 1) = T * 2 ^ 91 := by rw [Int.mul_one]; conv => lhs; rhs; rw [hT]
      have h4 : T * (T * -(f * f - s * s * D)) = -(T * (T * (f * f - s * s * D))) := by grind
      omega
  have upN : ∀ {Z Y : Int}, -Z * -Y = Z * Y := fun {Z Y} => Int.neg_mul_neg Z Y
  rcases Int.lt_trichotomy f 0 with hf0 | hf0 | hf0
  · rcases Int.lt_or_le 0 s with hs0 | hs0
    · -- f below, s above 0
      have Yn : T * f - X * s < 0 := by
        have a := Int.mul_pos T0 (show 0 < -f by omega)
        have b := Int.mul_pos hX hs0
        have e : T * -f = -(T * f) := Int.mul_neg _ _
        omega
      unfold surd
      rw [sgn_neg hf0, sgn_pos hs0, if_neg (by decide)]
      rcases big with ⟨g, h⟩ | ⟨g, h⟩
      · right
        rw [if_pos (by omega)]
        refine ⟨rfl, ?_⟩
        have := zpos (Z := -(T * f + X * s)) (Y := -(T * f - X * s)) T0 (by omega) (by omega) (by rw [upN]; exact h)
        omega
      · left
        rw [if_neg (by omega)]
        refine ⟨rfl, ?_⟩
        exact zpos (Z := T * f + X * s) (Y := -(T * f - X * s)) T0 (by omega) (by omega) (by rw [Int.mul_neg]; exact h)
    · -- both not above 0
      have Zn : T * f + X * s < 0 := by
        have a := Int.mul_pos T0 (show 0 < -f by omega)
        have b := Int.mul_nonneg (show 0 ≤ X by omega) (show 0 ≤ -s by omega)
        have e : T * -f = -(T * f) := Int.mul_neg _ _
        have e' : X * -s = -(X * s) := Int.mul_neg _ _
        omega
      right
      refine ⟨?_, ?_⟩
      · unfold surd
        rw [sgn_neg hf0]
        have : 0 ≤ -1 * sgn s := by
          rcases Int.lt_or_le s 0 with q | q
          · rw [sgn_neg q]; decide
          · rw [show s = 0 by omega]; decide
        rw [if_pos this, if_neg (by decide)]
      · rcases Int.lt_trichotomy (T * f - X * s) 0 with y | y | y
        · rcases big with ⟨g, h⟩ | ⟨g, h⟩
          · have := zpos (Z := -(T * f + X * s)) (Y := -(T * f - X * s)) T0 (by omega) (by omega) (by rw [upN]; exact h)
            omega
          · have := zpos (Z := T * f + X * s) (Y := -(T * f - X * s)) T0 (by omega) (by omega) (by rw [Int.mul_neg]; exact h)
            omega
        · rw [y, Int.mul_zero] at big
          omega
        · rcases big with ⟨g, h⟩ | ⟨g, h⟩
          · have := zpos (Z := T * f + X * s) (Y := T * f - X * s) T0 (by omega) (by omega) h
            omega
          · have := zpos (Z := -(T * f + X * s)) (Y := T * f - X * s) T0 (by omega) (by omega) (by rw [Int.neg_mul]; exact h)
            omega
  · subst hf0
    have hs0 : s ≠ 0 := fun z => hne (by rw [z]; simp)
    have z1 : T * 0 + X * s = X * s := by rw [Int.mul_zero, Int.zero_add]
    have z2 : T * 0 - X * s = -(X * s) := by rw [Int.mul_zero, Int.zero_sub]
    rw [z1, z2] at big
    rw [z2] at yb
    rw [z1]
    unfold surd
    rw [sgn_zero, Int.zero_mul, if_pos (by decide), if_pos rfl]
    rcases Int.lt_or_le 0 s with q | q
    · left
      rw [sgn_pos q]
      refine ⟨rfl, ?_⟩
      have b := Int.mul_pos hX q
      rcases big with ⟨g, h⟩ | ⟨g, h⟩
      · have := Int.mul_pos b b
        rw [Int.mul_neg] at h
        omega
      · exact zpos (Z := X * s) (Y := X * s) T0 b (by omega) (by rw [Int.mul_neg, Int.neg_neg] at h; exact h)
    · right
      have q : s < 0 := by omega
      rw [sgn_neg q]
      refine ⟨rfl, ?_⟩
      have b := Int.mul_pos hX (show 0 < -s by omega)
      have e : X * -s = -(X * s) := Int.mul_neg _ _
      rw [e] at b
      rcases big with ⟨g, h⟩ | ⟨g, h⟩
      · have := Int.mul_pos b b
        rw [upN] at this
        rw [Int.mul_neg] at h
        omega
      · have := zpos (Z := -(X * s)) (Y := -(X * s)) T0 b (by omega) (by rw [Int.mul_neg, Int.neg_neg] at h; rw [upN]; exact h)
        omega
  · rcases Int.lt_or_le s 0 with hs0 | hs0
    · have Yp : 0 < T * f - X * s := by
        have a := Int.mul_pos T0 hf0
        have b := Int.mul_pos hX (show 0 < -s by omega)
        have e : X * -s = -(X * s) := Int.mul_neg _ _
        omega
      unfold surd
      rw [sgn_pos hf0, sgn_neg hs0, if_neg (by decide)]
      rcases big with ⟨g, h⟩ | ⟨g, h⟩
      · left
        rw [if_pos (by omega)]
        exact ⟨rfl, zpos (Z := T * f + X * s) (Y := T * f - X * s) T0 Yp (by omega) h⟩
      · right
        rw [if_neg (by omega)]
        refine ⟨rfl, ?_⟩
        have := zpos (Z := -(T * f + X * s)) (Y := T * f - X * s) T0 Yp (by omega) (by rw [Int.neg_mul]; exact h)
        omega
    · have Zp : 0 < T * f + X * s := by
        have a := Int.mul_pos T0 hf0
        have b := Int.mul_nonneg (show 0 ≤ X by omega) hs0
        omega
      left
      refine ⟨?_, ?_⟩
      · unfold surd
        rw [sgn_pos hf0]
        have : 0 ≤ 1 * sgn s := by
          rcases Int.lt_or_le 0 s with q | q
          · rw [sgn_pos q]; decide
          · rw [show s = 0 by omega]; decide
        rw [if_pos this, if_neg (by decide)]
      · rcases Int.lt_trichotomy (T * f - X * s) 0 with y | y | y
        · rcases big with ⟨g, h⟩ | ⟨g, h⟩
          · have := zpos (Z := -(T * f + X * s)) (Y := -(T * f - X * s)) T0 (by omega) (by omega) (by rw [upN]; exact h)
            omega
          · exact zpos (Z := T * f + X * s) (Y := -(T * f - X * s)) T0 (by omega) (by omega) (by rw [Int.mul_neg]; exact h)
        · rw [y, Int.mul_zero] at big
          omega
        · rcases big with ⟨g, h⟩ | ⟨g, h⟩
          · exact zpos (Z := T * f + X * s) (Y := T * f - X * s) T0 (by omega) (by omega) h
          · have := zpos (Z := -(T * f + X * s)) (Y := T * f - X * s) T0 (by omega) (by omega) (by rw [Int.neg_mul]; exact h)
            omega
theorem q_sign {T f s X D E1 c2 L m : Int} (hT : T = 2 ^ 91) (hX : 0 < X) (hX2 : X ≤ 2 ^ 9 * T) (hE : X * X - D * (T * T) = E1) (e1 : -(2 ^ 20 * T) ≤ E1) (e2 : E1 ≤ 2 ^ 20 * T)
    (hf : f.natAbs < 2 ^ 22) (hs : s.natAbs < 2 ^ 14) (hne : f * f ≠ s * s * D) (hc : c2.natAbs < 2 ^ 10) (hm : 0 < m) (hq : m * L = 2 * (T * (T * f + X * s)) + c2 * E1) : sgn L = surd f s D := by
  have T0 : 0 < T := by omega
  obtain ⟨c1', c2'⟩ := absLe hc
  have ce := mul_abs c1' c2' e1 e2
  rcases z_big hT hX hX2 hE e1 e2 hf hs hne with ⟨q, z⟩ | ⟨q, z⟩
  · rw [q]
    have h1 := Int.mul_le_mul_of_nonneg_left z (show 0 ≤ T by omega)
    refine sgn_pos ?_
    rcases Int.lt_or_le 0 L with l | l
    · exact l
    · have := Int.mul_nonneg (show 0 ≤ m by omega) (show 0 ≤ -L by omega)
      rw [Int.mul_neg] at this
      omega
  · rw [q]
    have h1 := Int.mul_le_mul_of_nonneg_left z (show 0 ≤ T by omega)
    refine sgn_neg ?_
    rcases Int.lt_or_le L 0 with l | l
    · exact l
    · have := Int.mul_nonneg (show 0 ≤ m by omega) l
      omega

open PySem PySem.Spec PyProof.Rows L2 Vc

/-! ### a root between two numbers over 2 ^ 90 -/
def vtx (b1 b2 m : Int) : Int := 2 * b2 * m + b1 * 2 ^ 90
def eOf (b0 b1 b2 : Int) : Int := dsc b0 b1 b2 * (2 ^ 90 * 2 ^ 90)
/-- a number is above the root (0: the lower one) -/
def Abv (w v e : Int) : Prop := if w = 0 then 0 < v ∨ v * v < e else 0 < v ∧ e ≤ v * v
def farOf (b0 b1 : Int) : Int := ((b0.natAbs : Int) + (b1.natAbs : Int) + 1) * 2 ^ 90
structure Spn (b0 b1 b2 w : Int) (i : Nat) (low high : Int) : Prop where
  lh : low < high
  lo : ¬ Abv w (vtx b1 b2 low) (eOf b0 b1 b2)
  hi : Abv w (vtx b1 b2 high) (eOf b0 b1 b2)
  gap : (high - low - 1) * 2 ^ i ≤ 2 * farOf b0 b1
  lb : -farOf b0 b1 ≤ low
  hb : high ≤ farOf b0 b1
/-- a polynomial whose roots are told as roots -/
structure Irr (b0 b1 b2 : Int) : Prop where
  s0 : Sb b0
  s1 : Sb b1
  s2 : Sb b2
  p2 : 0 < b2
  pd : 0 < dsc b0 b1 b2
  ns : ¬ ((isq (dsc b0 b1 b2) : Nat) : Int) * ((isq (dsc b0 b1 b2) : Nat) : Int) = dsc b0 b1 b2
theorem far_y {b0 b1 b2 A y : Int} (hb : 0 < b2) (hA : A = (b0.natAbs : Int) + (b1.natAbs : Int) + 1) (hy : y = 2 * b2 * A + b1 ∨ y = 2 * b2 * A - b1) : 0 < y ∧ dsc b0 b1 b2 ≤ y * y := by
  have A1 : 1 ≤ A := by omega
  have h1 := Int.mul_le_mul_of_nonneg_right (show 1 ≤ b2 from hb) (show 0 ≤ A by omega)
  rw [Int.one_mul] at h1
  have e2 : 2 * b2 * A = 2 * (b2 * A) := Int.mul_assoc _ _ _
  have key : ∀ z : Int, z = b1 ∨ z = -b1 → 0 ≤ A * (b2 * A + z) + b0 := fun z hz => by
    have h2 : 1 ≤ b2 * A + z := by omega
    have h3 := Int.mul_le_mul_of_nonneg_left h2 (show 0 ≤ A by omega)
    omega
  rcases hy with rfl | rfl
  · refine ⟨by omega, ?_⟩
    have k := Int.mul_nonneg (show 0 ≤ 4 * b2 by omega) (key b1 (.inl rfl))
    have e : (2 * b2 * A + b1) * (2 * b2 * A + b1) - dsc b0 b1 b2 = 4 * b2 * (A * (b2 * A + b1) + b0) := by unfold dsc; grind
    omega
  · refine ⟨by omega, ?_⟩
    have k := Int.mul_nonneg (show 0 ≤ 4 * b2 by omega) (key (-b1) (.inr rfl))
    have e : (2 * b2 * A - b1) * (2 * b2 * A - b1) - dsc b0 b1 b2 = 4 * b2 * (A * (b2 * A + -b1) + b0) := by unfold dsc; grind
    omega
theorem e_le {D y v t : Int} (h : D ≤ y * y) (hv : v = t * y ∨ v = -(t * y)) : D * (t * t) ≤ v * v := by
  have h1 := Int.mul_le_mul_of_nonneg_right h (show 0 ≤ t * t from by
    rcases Int.lt_or_le t 0 with q | q
    · exact Int.le_of_lt (Int.mul_pos_of_neg_of_neg q q)
    · exact Int.mul_nonneg q q)
  rcases hv with rfl | rfl
  · have e : t * y * (t * y) = y * y * (t * t) := by grind
    rw [e]
    exact h1
  · have e : -(t * y) * -(t * y) = y * y * (t * t) := by grind
    rw [e]
    exact h1
theorem spn_start {b0 b1 b2 w : Int} (h : 0 < b2) : Spn b0 b1 b2 w 0 (-farOf b0 b1) (farOf b0 b1) := by
  have u := far_y (b0 := b0) (b1 := b1) (A := (b0.natAbs : Int) + (b1.natAbs : Int) + 1) h rfl (.inl rfl)
  have l := far_y (b0 := b0) (b1 := b1) (A := (b0.natAbs : Int) + (b1.natAbs : Int) + 1) h rfl (.inr rfl)
  have ev : vtx b1 b2 (farOf b0 b1) = 2 ^ 90 * (2 * b2 * ((b0.natAbs : Int) + (b1.natAbs : Int) + 1) + b1) := by unfold vtx farOf; grind
  have el : vtx b1 b2 (-farOf b0 b1) = -(2 ^ 90 * (2 * b2 * ((b0.natAbs : Int) + (b1.natAbs : Int) + 1) - b1)) := by unfold vtx farOf; grind
  have up := e_le (t := 2 ^ 90) u.2 (.inl ev)
  have lp := e_le (t := 2 ^ 90) l.2 (.inr el)
  have fp : 0 < farOf b0 b1 := by unfold farOf; omega
  have uv : 0 < vtx b1 b2 (farOf b0 b1) := by omega
  have lv : vtx b1 b2 (-farOf b0 b1) < 0 := by omega
  refine ⟨by omega, ?_, ?_, by omega, by omega, by omega⟩
  · unfold Abv eOf
    split <;> omega
  · unfold Abv eOf
    split
    · exact .inl uv
    · exact ⟨uv, up⟩
theorem spn_step {b0 b1 b2 w : Int} {i : Nat} {low high : Int} (h : Spn b0 b1 b2 w i low high) :
    (Abv w (vtx b1 b2 ((low + high) / 2)) (eOf b0 b1 b2) → Spn b0 b1 b2 w (i + 1) low ((low + high) / 2)) ∧ (¬ Abv w (vtx b1 b2 ((low + high) / 2)) (eOf b0 b1 b2) → Spn b0 b1 b2 w (i + 1) ((low + high) / 2) high) := by
  have h1 := h.lh
  have hl := h.lb
  have hh := h.hb
  refine ⟨fun z => ⟨?_, h.lo, z, ?_, by omega, by omega⟩, fun z => ⟨by omega, z, h.hi, ?_, by omega, by omega⟩⟩
  · by_cases e : (low + high) / 2 = low
    · rw [e] at z
      exact absurd z h.lo
    · omega
  · rw [pow_succI]
    exact half_gap (pow_posI i) (by omega) h.gap
  · rw [pow_succI]
    exact half_gap (pow_posI i) (by omega) h.gap
theorem far_small {b0 b1 : Int} (h0 : Sb b0) (h1 : Sb b1) : 0 < farOf b0 b1 ∧ farOf b0 b1 < 2 ^ 98 := by
  unfold Sb at h0 h1
  unfold farOf
  omega
theorem spn_end {b0 b1 b2 w low high : Int} (I : Irr b0 b1 b2) (h : Spn b0 b1 b2 w 130 low high) : high = low + 1 := by
  have h1 := h.lh
  have hg := h.gap
  have hf := far_small I.s0 I.s1
  rcases Int.lt_or_le (low + 1) high with z | z
  · have := Int.mul_le_mul_of_nonneg_right (show (1 : Int) ≤ high - low - 1 by omega) (show (0 : Int) ≤ 2 ^ 130 by decide)
    omega
  · omega
theorem near {p k e : Int} (hp : 0 < p) (hk : 0 < k) (hk2 : k ≤ 144) (h1 : p * p < e) (h2 : e ≤ (p + k) * (p + k)) (he : e ≤ 2 ^ 196) :
    2 * p + k ≤ 2 ^ 100 ∧ -(2 ^ 111) ≤ (2 * p + k) * (2 * p + k) - 4 * e ∧ (2 * p + k) * (2 * p + k) - 4 * e ≤ 2 ^ 111 := by
  have hp2 : p < 2 ^ 98 := by
    rcases Int.lt_or_le p (2 ^ 98) with q | q
    · exact q
    · have a := Int.mul_le_mul_of_nonneg_left q (show 0 ≤ p by omega)
      have b := Int.mul_le_mul_of_nonneg_right q (show (0 : Int) ≤ 2 ^ 98 by decide)
      omega
  have a := Int.mul_le_mul_of_nonneg_left hk2 (show 0 ≤ p by omega)
  have b := Int.mul_le_mul_of_nonneg_left hk2 (show 0 ≤ k by omega)
  have c := Int.mul_nonneg (show 0 ≤ p by omega) (show 0 ≤ k by omega)
  have d := Int.mul_nonneg (show 0 ≤ k by omega) (show 0 ≤ k by omega)
  have e1 : (2 * p + k) * (2 * p + k) = 4 * (p * p) + 4 * (p * k) + k * k := by grind
  have e2 : (p + k) * (p + k) = p * p + 2 * (p * k) + k * k := by grind
  rw [e2] at h2
  rw [e1]
  omega
theorem dsc_b {b0 b1 b2 : Int} (h0 : Sb b0) (h1 : Sb b1) (h2 : Sb b2) : dsc b0 b1 b2 ≤ 2 ^ 15 := by
  unfold Sb at *
  have a := mulLe h1 h1
  have b := mulLe (mulLe (i := 4) (a := 4) (by decide) h0) h2
  unfold dsc
  omega
theorem spn_x {b0 b1 b2 w low high : Int} (I : Irr b0 b1 b2) (h : Spn b0 b1 b2 w 130 low high) :
    ∃ X V : Int, V = 2 * b2 * (low + high) + b1 * 2 ^ 91 ∧ (if w = 0 then X = -V else X = V) ∧ 0 < X ∧ X ≤ 2 ^ 100 ∧ -(2 ^ 111) ≤ X * X - dsc b0 b1 b2 * (2 ^ 91 * 2 ^ 91) ∧ X * X - dsc b0 b1 b2 * (2 ^ 91 * 2 ^ 91) ≤ 2 ^ 111 := by
  have e := spn_end I h
  subst e
  have hd := dsc_b I.s0 I.s1 I.s2
  have pd := I.pd
  have p2 := I.p2
  have s2 : b2.natAbs ≤ 72 := I.s2
  have e4 : dsc b0 b1 b2 * (2 ^ 91 * 2 ^ 91) = 4 * eOf b0 b1 b2 := by unfold eOf; omega
  have eb : eOf b0 b1 b2 ≤ 2 ^ 196 := by unfold eOf; omega
  have es : 2 ^ 180 ≤ eOf b0 b1 b2 := by unfold eOf; omega
  have vh : vtx b1 b2 (low + 1) = vtx b1 b2 low + 2 * b2 := by unfold vtx; grind
  have lo := h.lo
  have hi := h.hi
  rw [vh] at hi
  have eV : 2 * b2 * (low + (low + 1)) + b1 * 2 ^ 91 = 2 * vtx b1 b2 low + 2 * b2 := by unfold vtx; grind
  rw [eV, e4]
  generalize vtx b1 b2 low = p at *
  generalize eOf b0 b1 b2 = E at *
  have small : ∀ x : Int, 0 ≤ x → x ≤ 144 → ¬ E ≤ x * x := fun x x0 x1 q => by
    have a := Int.mul_le_mul_of_nonneg_left x1 x0
    omega
  by_cases hw : w = 0
  · unfold Abv at lo hi
    rw [if_pos hw] at lo hi
    have hp : p ≤ 0 := by omega
    have hE : E ≤ p * p := by omega
    have hn : p + 2 * b2 ≤ 0 := by
      rcases Int.lt_or_le 0 (p + 2 * b2) with q | q
      · exact absurd (by rw [Int.neg_mul_neg]; exact hE) (small (-p) (by omega) (by omega))
      · exact q
    have h3 : (p + 2 * b2) * (p + 2 * b2) < E := by
      rcases hi with q | q
      · omega
      · exact q
    have hp0 : 0 < -(p + 2 * b2) := by
      rcases Int.lt_or_le 0 (-(p + 2 * b2)) with q | q
      · exact q
      · exact absurd (by rw [Int.neg_mul_neg]; exact hE) (small (-p) (by omega) (by omega))
    have ep : -(p + 2 * b2) + 2 * b2 = -p := by omega
    have n := near (p := -(p + 2 * b2)) (k := 2 * b2) (e := E) hp0 (by omega) (by omega) (by rw [Int.neg_mul_neg]; exact h3) (by rw [ep, Int.neg_mul_neg]; exact hE) eb
    have ex : 2 * -(p + 2 * b2) + 2 * b2 = -(2 * p + 2 * b2) := by omega
    rw [ex] at n
    exact ⟨-(2 * p + 2 * b2), 2 * p + 2 * b2, rfl, by rw [if_pos hw], by omega, n.1, n.2.1, n.2.2⟩
  · unfold Abv at lo hi
    rw [if_neg hw] at lo hi
    have hp : 0 < p := by
      rcases Int.lt_or_le 0 p with q | q
      · exact q
      · exact absurd hi.2 (small (p + 2 * b2) (by omega) (by omega))
    have hE : p * p < E := by
      rcases Int.lt_or_le (p * p) E with q | q
      · exact q
      · exact absurd ⟨hp, q⟩ lo
    have n := near (p := p) (k := 2 * b2) (e := E) hp (by omega) (by omega) hE hi.2 eb
    exact ⟨2 * p + 2 * b2, 2 * p + 2 * b2, rfl, by rw [if_neg hw], by omega, n.1, n.2.1, n.2.2⟩
theorem sq_zero {f s d : Int} (h : f * f = s * s * d) (ns : ¬ ((isq d : Nat) : Int) * ((isq d : Nat) : Int) = d) (hd : 0 < d) : s = 0 ∧ f = 0 := by
  by_cases hs : s = 0
  · subst hs
    refine ⟨rfl, ?_⟩
    have : f * f = 0 := by rw [h]; simp
    exact (Int.mul_eq_zero.mp this).elim id id
  · exfalso
    have h1 : f.natAbs ^ 2 = s.natAbs ^ 2 * d.natAbs := by
      have := congrArg Int.natAbs h
      rw [Int.natAbs_mul, Int.natAbs_mul, Int.natAbs_mul] at this
      rw [Nat.pow_two, Nat.pow_two]
      exact this
    have h2 : s.natAbs ∣ f.natAbs := (Nat.pow_dvd_pow_iff (by decide)).mp ⟨d.natAbs, h1⟩
    obtain ⟨m, hm⟩ := h2
    have h3 : s.natAbs ^ 2 * (m * m) = s.natAbs ^ 2 * d.natAbs := by
      rw [← h1, hm, Nat.mul_pow, Nat.pow_two m]
    have h4 : m * m = d.natAbs := Nat.eq_of_mul_eq_mul_left (Nat.pow_pos (by omega)) h3
    have r : IsRoot d.natAbs m := by
      refine ⟨by omega, ?_⟩
      rw [← h4]
      exact Nat.mul_lt_mul'' (by omega) (by omega)
    have e := r.uniq (isqrt_root d.natAbs)
    have e2 : isq d = m := e.symm
    rw [e2] at ns
    apply ns
    have : ((m * m : Nat) : Int) = d := by omega
    rw [← this, Int.natCast_mul]
/-- the two tell the same numbers, but for a factor -/
def Prop3 (c0 c1 c2 b0 b1 b2 : Int) : Prop := c0 * b1 = c1 * b0 ∧ c0 * b2 = c2 * b0 ∧ c1 * b2 = c2 * b1
theorem lat_id (c0 c1 c2 b0 b1 b2 u T V : Int) (hV : V = 2 * b2 * u + b1 * T) :
    4 * b2 * b2 * latv c0 c1 c2 u T = 2 * (T * (T * (2 * b2 * (c0 * b2 - c2 * b0) - b1 * (c1 * b2 - c2 * b1)) + V * (c1 * b2 - c2 * b1))) + c2 * (V * V - dsc b0 b1 b2 * (T * T)) := by
  subst hV
  unfold latv dsc
  grind
theorem son_zero {c0 c1 c2 b0 b1 b2 w : Int} (h : Prop3 c0 c1 c2 b0 b1 b2) : sonR c0 c1 c2 b0 b1 b2 w = 0 := by
  obtain ⟨h1, h2, h3⟩ := h
  unfold sonR
  rw [h2, h3, Int.sub_self, Int.sub_self, Int.mul_zero, Int.mul_zero, Int.sub_self, Int.neg_zero, ite_self]
  unfold surd
  rw [sgn_zero]
  rfl
theorem son_sign {c0 c1 c2 b0 b1 b2 w low high : Int} (I : Irr b0 b1 b2) (h : Spn b0 b1 b2 w 130 low high) (k0 : Sb c0) (k1 : Sb c1) (k2 : Sb c2) (np : ¬ Prop3 c0 c1 c2 b0 b1 b2) :
    sgn (latv c0 c1 c2 (low + high) (2 ^ 91)) = sonR c0 c1 c2 b0 b1 b2 w := by
  obtain ⟨X, V, hV, hX, x0, x1, e1, e2⟩ := spn_x I h
  have id := lat_id c0 c1 c2 b0 b1 b2 (low + high) (2 ^ 91) V hV
  have p2 := I.p2
  have ne : ∀ s : Int, s = c1 * b2 - c2 * b1 ∨ s = -(c1 * b2 - c2 * b1) → (2 * b2 * (c0 * b2 - c2 * b0) - b1 * (c1 * b2 - c2 * b1)) * (2 * b2 * (c0 * b2 - c2 * b0) - b1 * (c1 * b2 - c2 * b1)) ≠ s * s * dsc b0 b1 b2 := fun s hs q => by
    obtain ⟨z1, z2⟩ := sq_zero q I.ns I.pd
    have s0 : c1 * b2 - c2 * b1 = 0 := by omega
    rw [s0, Int.mul_zero, Int.sub_zero] at z2
    have z3 : c0 * b2 - c2 * b0 = 0 := (Int.mul_eq_zero.mp z2).elim (fun q => absurd q (by omega)) (fun q => q)
    apply np
    refine ⟨?_, by omega, by omega⟩
    have e : b2 * (c0 * b1 - c1 * b0) = b1 * (c0 * b2 - c2 * b0) - b0 * (c1 * b2 - c2 * b1) := by grind
    rw [z3, s0, Int.mul_zero, Int.mul_zero, Int.sub_self] at e
    have := (Int.mul_eq_zero.mp e).elim (fun q => absurd q (by omega)) (fun q => q)
    omega
  have bs : (c1 * b2 - c2 * b1).natAbs < 2 ^ 14 := by
    have a := mulLe k1 I.s2
    have b := mulLe k2 I.s1
    omega
  have bf : (2 * b2 * (c0 * b2 - c2 * b0) - b1 * (c1 * b2 - c2 * b1)).natAbs < 2 ^ 22 := by
    have a := mulLe k0 I.s2
    have b := mulLe k2 I.s0
    have c := mulLe (i := 2 * b2) (j := c0 * b2 - c2 * b0) (a := 144) (b := 10368) (by have := I.s2; unfold Sb at this; omega) (by omega)
    have a2 := mulLe k1 I.s2
    have b2' := mulLe k2 I.s1
    have d := mulLe (i := b1) (j := c1 * b2 - c2 * b1) (a := 72) (b := 10368) I.s1 (by omega)
    omega
  have hm : 0 < 4 * b2 * b2 := Int.mul_pos (by omega) p2
  unfold sonR
  by_cases hw : w = 0
  · rw [if_pos hw] at hX ⊢
    have ex : X * X = V * V := by rw [hX, Int.neg_mul_neg]
    refine q_sign (T := 2 ^ 91) (X := X) (m := 4 * b2 * b2) (c2 := c2) (E1 := X * X - dsc b0 b1 b2 * (2 ^ 91 * 2 ^ 91)) rfl x0 (by omega) rfl (by omega) (by omega) bf (by rw [Int.natAbs_neg]; exact bs) (ne _ (.inr rfl)) k2.sm hm ?_
    rw [id, ex]
    have : X * -(c1 * b2 - c2 * b1) = V * (c1 * b2 - c2 * b1) := by rw [hX, Int.neg_mul_neg]
    rw [this]
  · rw [if_neg hw] at hX ⊢
    subst hX
    exact q_sign (T := 2 ^ 91) (X := X) (m := 4 * b2 * b2) (c2 := c2) (E1 := X * X - dsc b0 b1 b2 * (2 ^ 91 * 2 ^ 91)) rfl x0 (by omega) rfl (by omega) (by omega) bf bs (ne _ (.inl rfl)) k2.sm hm id
/-- what the law's test tells of a number -/
theorem abv_test {b0 b1 b2 m : Int} (hb : 0 < b2) : latv b0 b1 b2 m (2 ^ 90) < 0 ↔ vtx b1 b2 m * vtx b1 b2 m < eOf b0 b1 b2 := by
  have e : 4 * b2 * latv b0 b1 b2 m (2 ^ 90) = vtx b1 b2 m * vtx b1 b2 m - eOf b0 b1 b2 := by unfold latv vtx eOf dsc; grind
  refine ⟨fun h => ?_, fun h => ?_⟩
  · have := Int.mul_pos (show 0 < 4 * b2 by omega) (show 0 < -latv b0 b1 b2 m (2 ^ 90) by omega)
    rw [Int.mul_neg] at this
    omega
  · rcases Int.lt_or_le (latv b0 b1 b2 m (2 ^ 90)) 0 with q | q
    · exact q
    · have := Int.mul_nonneg (show 0 ≤ 4 * b2 by omega) q
      omega

open PySem PySem.Spec PyProof.Rows L2 Vc

/-! ### _law_span, of a root -/
theorem sgn_lt (n : Int) : sgn n < 0 ↔ n < 0 := by
  unfold sgn
  split
  · omega
  · split <;> omega
theorem cp1 {j : Int} (h0 : 0 ≤ j) (h1 : j ≤ 1000000) : CPow 1 j := ⟨h0, h1, by decide⟩
theorem spn_small {b0 b1 b2 w : Int} {i : Nat} {low high : Int} (I : Irr b0 b1 b2) (h : Spn b0 b1 b2 w i low high) : low.natAbs < 2 ^ 99 ∧ high.natAbs < 2 ^ 99 ∧ ((low + high) / 2).natAbs < 2 ^ 99 := by
  have f := far_small I.s0 I.s1
  have h1 := h.lh
  have h2 := h.lb
  have h3 := h.hb
  omega
def SSpan : List D → (D → Prop) → Prop := fun ds W => ∃ b0 b1 b2 w : Int, ds = [rootD (tup3 b0 b1 b2) w] ∧ (w = 0 ∨ w = 1) ∧ Irr b0 b1 b2 ∧ ∀ low high : Int, Spn b0 b1 b2 w 130 low high → W (.tuple [.int low, .int high])
theorem fSpan {M : Md} {f : Addr} {fd : FuncData} (ma : M.mg "abs" = none) (mr : M.mg "range" = none) (FA : FnD M 2 "_law_at" 3 SAt)
    (F : Fun M.K "_law_span" "_law_span" sLSpan f fd) (hm : M.mg "_law_span" = some (.ref f)) (b : L2.Binds M.K fd ["place"] []) : FnD M 3 "_law_span" 1 SSpan := by
  refine fnD_mk (k := 2) (NK := nkLSpan) (G := gLSpan) F scLSpan hm b rfl (by decide +kernel) rfl (by decide) fun X C ds W hl hS => ?_
  obtain ⟨b0, b1, b2, wh, rfl, hw, I, w⟩ := hS
  show VSs X _ [.dat (rootD (tup3 b0 b1 b2) wh), .no, .no, .no, .no, .no, .no, .no, .no, .no, .no] _
  have t90 : (1 : Int) * 2 ^ (90 : Int).toNat = 2 ^ 90 := rfl
  have hs0 : b0.natAbs ≤ 72 := I.s0
  have hs1 : b1.natAbs ≤ 72 := I.s1
  have hs2 : b2.natAbs ≤ 72 := I.s2
  walk_at "vv"
  refine ⟨_, rfl, ?_⟩
  walk_at "vv"
  refine ⟨shRoot, shRoot, ?_⟩
  refine ⟨fun h => absurd (h : (!PyData.eqv (.str "root") (.str "root")) = true) (by rw [eqRoot]; decide), fun _ => ?_⟩
  refine vss_nil ?_
  walk_at "v"
  refine vs_asg ?_
  walk_at "v"
  refine vg_tup C ?_
  walk_at "vv"
  refine ⟨_, rfl, ?_⟩
  walk_at "vv"
  refine ⟨_, rfl, ?_⟩
  walk_at "vv"
  refine ⟨_, rfl, ?_⟩
  walk_at "vv"
  refine ⟨_, rfl, ?_⟩
  rw [abs_eq, abs_eq]
  walk_at "vv"
  refine ⟨cp1 (by decide) (by decide), ?_⟩
  rw [t90]
  refine ⟨mulB (a := 10) (b := 100) (by omega) (by decide) (by decide) (by decide), ?_⟩
  show VSs X _ [.dat (rootD (tup3 b0 b1 b2) wh), .no, .dat (.str "root"), .dat (tup3 b0 b1 b2), .dat (.int wh), .dat (.int (farOf b0 b1)), .no, .no, .no, .no, .no] _
  walk_at "v"
  refine vs_par C (i := 1) (j := 6) (by walk_at "at") (by walk_at "at") (by decide) ?_ (by walk_at "sw")
  walk_at "vv"
  refine ⟨_, rfl, ?_⟩
  walk_at "vv"
  refine vs_for C (vi_range C (by walk_at "at") ?_)
  walk_at "vv"
  refine ⟨130, rfl, by decide, ?_⟩
  refine ⟨fun i ρ' => ∃ (low high : Int) (s7 s8 s9 s10 : Sl), ρ' = [.dat (rootD (tup3 b0 b1 b2) wh), .dat (.int low), .dat (.str "root"), .dat (tup3 b0 b1 b2), .dat (.int wh), .dat (.int (farOf b0 b1)), .dat (.int high), s7, s8, s9, s10] ∧ Spn b0 b1 b2 wh i low high, ⟨_, _, _, _, _, _, rfl, spn_start I.p2⟩, fun i d ρ' hi hW => ?_, fun ρ' hW => ?_⟩
  · obtain ⟨low, high, s7, s8, s9, s10, rfl, h⟩ := hW
    have sm := spn_small I h
    have st := spn_step h
    walk_at "vv"
    refine ⟨divW (by decide) (by decide), ?_⟩
    generalize hmid : (low + high) / 2 = mid at *
    show VSs X _ [.dat (rootD (tup3 b0 b1 b2) wh), .dat (.int low), .dat (.str "root"), .dat (tup3 b0 b1 b2), .dat (.int wh), .dat (.int (farOf b0 b1)), .dat (.int high), .dat d, .dat (.int mid), s9, s10] _
    walk_at "vv"
    refine ⟨_, rfl, ?_⟩
    refine ⟨mulB (a := 2) (b := 10) (by decide) (by omega) (by decide) (by decide), ?_⟩
    walk_at "vv"
    have h2b := absmul (i := 2) (j := b2) (a := 2) (b := 10) (by decide) (by omega)
    refine ⟨mulB h2b sm.2.2 (by decide) (by decide), ?_⟩
    walk_at "vv"
    refine ⟨_, rfl, ?_⟩
    walk_at "vv"
    refine ⟨cp1 (by decide) (by decide), ?_⟩
    rw [t90]
    refine ⟨mulB (a := 10) (b := 100) (by omega) (by decide) (by decide) (by decide), ?_⟩
    walk_at "vv"
    show VD X _ [.dat (rootD (tup3 b0 b1 b2) wh), .dat (.int low), .dat (.str "root"), .dat (tup3 b0 b1 b2), .dat (.int wh), .dat (.int (farOf b0 b1)), .dat (.int high), .dat d, .dat (.int mid), .dat (.bool (decide (0 < vtx b1 b2 mid))), s10] _
    refine vd_call C FA (by walk_at "at") ?_
    walk_at "vv"
    refine ⟨cp1 (by decide) (by decide), ?_⟩
    rw [t90]
    walk_at "vv"
    refine ⟨rfl, b0, b1, b2, mid, 2 ^ 90, rfl, I.s0.sm, I.s1.sm, I.s2.sm, Nat.lt_trans sm.2.2 (by decide), by decide, ?_⟩
    walk_at "vv"
    show VT X _ [.dat (rootD (tup3 b0 b1 b2) wh), .dat (.int low), .dat (.str "root"), .dat (tup3 b0 b1 b2), .dat (.int wh), .dat (.int (farOf b0 b1)), .dat (.int high), .dat d, .dat (.int mid), .dat (.bool (decide (0 < vtx b1 b2 mid))), .dat (.bool (decide (sgn (latv b0 b1 b2 mid (2 ^ 90)) < 0)))] _
    have tst := abv_test (b0 := b0) (b1 := b1) (b2 := b2) (m := mid) I.p2
    have sl := sgn_lt (latv b0 b1 b2 mid (2 ^ 90))
    rcases hw with rfl | rfl
    · refine vt_w (vw_or (vt_w (vw_and ?_)))
      walk_at "vv"
      refine ⟨fun _ => ?_, fun h => absurd h (by decide)⟩
      refine vw_and1 (vt_w (vw_or (vt_val ?_)))
      walk_at "vv"
      refine ⟨_, rfl, fun r => ?_, fun r => ?_⟩
      · have r := of_decide_eq_true r
        refine ⟨fun _ => ?_, fun h => absurd h (by decide)⟩
        refine ⟨fun _ => ?_, fun h => absurd h (by decide)⟩
        walk_at "vv"
        exact ⟨low, mid, _, _, _, _, rfl, st.1 (by unfold Abv; rw [if_pos rfl]; exact .inl r)⟩
      · have r := of_decide_eq_false r
        refine vw_or1 (vt_val ?_)
        walk_at "vv"
        refine ⟨_, rfl, fun r2 => ?_, fun r2 => ?_⟩
        · have r2 := of_decide_eq_true r2
          refine ⟨fun _ => ?_, fun h => absurd h (by decide)⟩
          walk_at "vv"
          exact ⟨low, mid, _, _, _, _, rfl, st.1 (by unfold Abv; rw [if_pos rfl]; exact .inr (tst.mp (sl.mp r2)))⟩
        · have r2 := of_decide_eq_false r2
          refine vw_or1 (vt_w (vw_and ?_))
          walk_at "vv"
          refine ⟨fun h => absurd h (by decide), fun _ => ?_⟩
          refine ⟨fun h => absurd h (by decide), fun _ => ?_⟩
          walk_at "vv"
          refine ⟨mid, high, _, _, _, _, rfl, st.2 (by
            unfold Abv
            rw [if_pos rfl]
            rintro (z | z)
            · exact r z
            · exact r2 (sl.mpr (tst.mpr z)))⟩
    · refine vt_w (vw_or (vt_w (vw_and ?_)))
      walk_at "vv"
      refine ⟨fun h => absurd h (by decide), fun _ => ?_⟩
      refine ⟨fun h => absurd h (by decide), fun _ => ?_⟩
      refine vw_or1 (vt_w (vw_and ?_))
      walk_at "vv"
      refine ⟨fun _ => ?_, fun h => absurd h (by decide)⟩
      refine vw_and (vt_val ?_)
      walk_at "vv"
      refine ⟨_, rfl, fun r => ?_, fun r => ?_⟩
      · have r := of_decide_eq_true r
        refine vw_and1 (vt_not (vt_val ?_))
        walk_at "vv"
        refine ⟨_, rfl, fun r2 => ?_, fun r2 => ?_⟩
        · have r2 : ¬ sgn (latv b0 b1 b2 mid (2 ^ 90)) < 0 := by
            have q : (!decide (sgn (latv b0 b1 b2 mid (2 ^ 90)) < 0)) = true := r2
            simpa using q
          walk_at "vv"
          exact ⟨low, mid, _, _, _, _, rfl, st.1 (by
            unfold Abv
            rw [if_neg (by decide)]
            refine ⟨r, ?_⟩
            rcases Int.lt_or_le (vtx b1 b2 mid * vtx b1 b2 mid) (eOf b0 b1 b2) with z | z
            · exact absurd (sl.mpr (tst.mpr z)) r2
            · exact z)⟩
        · have r2 : sgn (latv b0 b1 b2 mid (2 ^ 90)) < 0 := by
            have q : (!decide (sgn (latv b0 b1 b2 mid (2 ^ 90)) < 0)) = false := r2
            simpa using q
          walk_at "vv"
          exact ⟨mid, high, _, _, _, _, rfl, st.2 (by
            unfold Abv
            rw [if_neg (by decide)]
            rintro ⟨_, z⟩
            have := tst.mp (sl.mp r2)
            omega)⟩
      · have r := of_decide_eq_false r
        refine ⟨fun h => absurd h (by decide), fun _ => ?_⟩
        walk_at "vv"
        exact ⟨mid, high, _, _, _, _, rfl, st.2 (by
          unfold Abv
          rw [if_neg (by decide)]
          exact fun z => r z.1)⟩
  · obtain ⟨low, high, s7, s8, s9, s10, rfl, h⟩ := hW
    rw [List.length_map, List.length_range] at h
    walk_at "vv"
    exact ⟨by show 2 ≤ 1000; decide, w low high h⟩
/-! ### _law_sign_on -/
def SLSon : List D → (D → Prop) → Prop := fun ds W => ∃ (c0 c1 c2 : Int) (pl : D), ds = [tup3 c0 c1 c2, pl] ∧ Sb c0 ∧ Sb c1 ∧ Sb c2 ∧
  ((∃ n d : Int, pl = .tuple [.int n, .int d] ∧ n.natAbs < 2 ^ 200 ∧ d.natAbs < 2 ^ 200 ∧ W (.int (sonF c0 c1 c2 n d))) ∨
   (∃ b0 b1 b2 w : Int, pl = rootD (tup3 b0 b1 b2) w ∧ (w = 0 ∨ w = 1) ∧ Irr b0 b1 b2 ∧ W (.int (sonR c0 c1 c2 b0 b1 b2 w))))
theorem fLSon {M : Md} {f : Addr} {fd : FuncData} (mu : M.mg "sum" = none) (FA : FnD M 2 "_law_at" 3 SAt) (FP : FnD M 3 "_law_span" 1 SSpan)
    (F : Fun M.K "_law_sign_on" "_law_sign_on" sLSignOn f fd) (hm : M.mg "_law_sign_on" = some (.ref f)) (b : L2.Binds M.K fd ["poly", "place"] []) : FnD M 4 "_law_sign_on" 2 SLSon := by
  refine fnD_mk (k := 3) (NK := nkLSignOn) (G := gLSignOn) F scLSignOn hm b rfl (by decide +kernel) rfl (by decide) fun X C ds W hl hS => ?_
  obtain ⟨c0, c1, c2, pl, rfl, h0, h1, h2, hS⟩ := hS
  show VSs X _ [.dat (tup3 c0 c1 c2), .dat pl, .no] _
  rcases hS with ⟨n, d, rfl, hn, hd, w⟩ | ⟨b0, b1, b2, wh, rfl, hw, I, w⟩
  · walk_at "vv"
    refine ⟨_, rfl, ?_⟩
    walk_at "vv"
    refine ⟨rfl, shRoot, ?_⟩
    refine ⟨fun _ => ?_, fun h => absurd h (by show ¬ (true = false); decide)⟩
    refine vss_one (vs_ret ?_)
    refine vd_call C FA (by walk_at "at") ?_
    walk_at "vv"
    refine ⟨_, rfl, ?_⟩
    walk_at "vv"
    refine ⟨_, rfl, ?_⟩
    walk_at "vv"
    refine ⟨rfl, c0, c1, c2, n, d, rfl, h0.sm, h1.sm, h2.sm, hn, hd, ?_⟩
    have e : latv c0 c1 c2 n d = (c0 * d + c1 * n) * d + c2 * n * n := by unfold latv; grind
    rw [e]
    exact w
  · have t91 : (1 : Int) * 2 ^ (91 : Int).toNat = 2 ^ 91 := rfl
    have m : ∀ {x y : Int}, Sb x → Sb y → CMulW x y := fun {x y} hx hy => mulB (a := 10) (b := 10) hx.sm hy.sm (by decide) (by decide)
    have fin : ¬ Prop3 c0 c1 c2 b0 b1 b2 → VSs X ((defBody sLSignOn).drop 3) [.dat (tup3 c0 c1 c2), .dat (rootD (tup3 b0 b1 b2) wh), .dat (tup3 b0 b1 b2)] { nx := fun _ => W .none, rt := fun d _ => W d } := fun np => by
      refine vss_one (vs_ret ?_)
      refine vd_call C FA (by walk_at "at") ?_
      walk_at "v"
      walk_at "v"
      walk_at "v"
      refine vd_callB C (does_sumT C) (by walk_at "at") ?_
      walk_at "v"
      refine vd_call C FP (by walk_at "at") ?_
      walk_at "vv"
      refine ⟨rfl, b0, b1, b2, wh, rfl, hw, I, fun low high hS => ?_⟩
      have sm := spn_small I hS
      walk_at "vv"
      refine ⟨[low, high], rfl, ?_⟩
      have es : [low, high].sum = low + high := by
        show low + (high + 0) = low + high
        omega
      rw [es]
      walk_at "vv"
      refine ⟨cp1 (by decide) (by decide), ?_⟩
      rw [t91]
      walk_at "vv"
      refine ⟨rfl, c0, c1, c2, low + high, 2 ^ 91, rfl, h0.sm, h1.sm, h2.sm, by omega, by decide, ?_⟩
      rw [son_sign I hS h0 h1 h2 np]
      exact w
    walk_at "vv"
    refine ⟨_, rfl, ?_⟩
    walk_at "vv"
    refine ⟨shRoot, shRoot, ?_⟩
    refine ⟨fun h => absurd (h : (!PyData.eqv (.str "root") (.str "root")) = true) (by rw [eqRoot]; decide), fun _ => ?_⟩
    refine vss_nil ?_
    walk_at "vv"
    refine ⟨_, rfl, ?_⟩
    walk_at "v"
    refine vs_if (vt_w (vw_and ?_))
    walk_at "vv"
    refine ⟨_, rfl, ?_⟩
    walk_at "vv"
    refine ⟨_, rfl, ?_⟩
    refine ⟨m h0 I.s1, ?_⟩
    walk_at "vv"
    refine ⟨_, rfl, ?_⟩
    walk_at "vv"
    refine ⟨_, rfl, ?_⟩
    refine ⟨m h1 I.s0, ?_⟩
    refine ⟨fun z1 => ?_, fun z1 => ?_⟩
    · have z1 := of_decide_eq_true z1
      refine vw_and ?_
      walk_at "vv"
      refine ⟨_, rfl, ?_⟩
      walk_at "vv"
      refine ⟨_, rfl, ?_⟩
      refine ⟨m h0 I.s2, ?_⟩
      walk_at "vv"
      refine ⟨_, rfl, ?_⟩
      walk_at "vv"
      refine ⟨_, rfl, ?_⟩
      refine ⟨m h2 I.s0, ?_⟩
      refine ⟨fun z2 => ?_, fun z2 => ?_⟩
      · have z2 := of_decide_eq_true z2
        refine vw_and1 ?_
        walk_at "vv"
        refine ⟨_, rfl, ?_⟩
        walk_at "vv"
        refine ⟨_, rfl, ?_⟩
        refine ⟨m h1 I.s2, ?_⟩
        walk_at "vv"
        refine ⟨_, rfl, ?_⟩
        walk_at "vv"
        refine ⟨_, rfl, ?_⟩
        refine ⟨m h2 I.s1, ?_⟩
        refine ⟨fun z3 => ?_, fun z3 => ?_⟩
        · have z3 := of_decide_eq_true z3
          walk_at "vv"
          rw [son_zero ⟨z1, z2, z3⟩] at w
          exact w
        · have z3 := of_decide_eq_false z3
          refine vss_nil ?_
          exact fin fun p => z3 p.2.2
      · have z2 := of_decide_eq_false z2
        refine ⟨fun h => absurd h (by decide), fun _ => ?_⟩
        refine vss_nil ?_
        exact fin fun p => z2 p.2.1
    · have z1 := of_decide_eq_false z1
      refine ⟨fun h => absurd h (by decide), fun _ => ?_⟩
      refine vss_nil ?_
      exact fin fun p => z1 p.1

open PySem PySem.Spec PyProof.Rows L2 Vc

/-! ### places as data -/
def PlaceOk (x : D) : Prop := (∃ n m : Int, x = .tuple [.int n, .int m] ∧ n.natAbs < 2 ^ 200 ∧ m.natAbs < 2 ^ 200 ∧ 0 < m) ∨
  (∃ b0 b1 b2 w : Int, x = rootD (tup3 b0 b1 b2) w ∧ (w = 0 ∨ w = 1) ∧ Irr b0 b1 b2)
theorem lay_frac (n m : Int) : PyData.canLay0 (.tuple [.int n, .int m]) = true := by simp [PyData.canLay0, PyData.canLayAll0]
theorem lay_str : PyData.canLay0 (.str "root") = true := by decide +kernel
theorem lay_root (b0 b1 b2 w : Int) : PyData.canLay0 (rootD (tup3 b0 b1 b2) w) = true := by
  have := lay_str
  simp [rootD, PyData.canLay0, PyData.canLayAll0] at this ⊢
  exact this
theorem dep_frac (n m : Int) : PyData.depth (.tuple [.int n, .int m]) ≤ 2 := by simp [PyData.depth, PyData.depthAll]
theorem dep_root (b0 b1 b2 w : Int) : PyData.depth (rootD (tup3 b0 b1 b2) w) ≤ 2 := by simp [rootD, PyData.depth, PyData.depthAll]
theorem PlaceOk.lay {x : D} (h : PlaceOk x) : PyData.canLay0 x = true ∧ PyData.depth x ≤ 2 := by
  rcases h with ⟨n, m, rfl, _⟩ | ⟨b0, b1, b2, w, rfl, _⟩
  · exact ⟨lay_frac n m, dep_frac n m⟩
  · exact ⟨lay_root b0 b1 b2 w, dep_root b0 b1 b2 w⟩
theorem lay_all : ∀ {ds : List D}, (∀ x ∈ ds, PlaceOk x) → PyData.canLayAll0 ds = true ∧ PyData.depthAll ds ≤ 2
  | [], _ => ⟨rfl, Nat.zero_le _⟩
  | x :: xs, h => by
    have a := (h x (by simp)).lay
    have b := lay_all (ds := xs) fun y hy => h y (by simp [hy])
    refine ⟨?_, ?_⟩
    · simp [PyData.canLayAll0, a.1, b.1]
    · have e : PyData.depthAll (x :: xs) = max x.depth (PyData.depthAll xs) := by simp [PyData.depthAll]
      rw [e]
      omega
theorem shaped_list {ds : List D} (h : ∀ x ∈ ds, PlaceOk x) : SeqAt.shaped (.list ds) = true := by
  have a := lay_all h
  unfold SeqAt.shaped
  have e : PyData.depth (.list ds) = PyData.depthAll ds + 1 := by simp [PyData.depth]
  have e2 : PyData.canLay0 (.list ds) = PyData.canLayAll0 ds := by simp [PyData.canLay0]
  rw [e, e2, a.1, Bool.true_and]
  exact decide_eq_true (by omega)
theorem PlaceOk.shaped {x : D} (h : PlaceOk x) : SeqAt.shaped x = true := by
  have a := h.lay
  unfold SeqAt.shaped
  rw [a.1, Bool.true_and]
  exact decide_eq_true (by omega)
theorem eqv_list {ds : List D} (h : ∀ x ∈ ds, PlaceOk x) : PyData.eqv (.list ds) (.list ds) = true := SeqAt.eqv_refl _ (by
  have e2 : PyData.canLay0 (.list ds) = PyData.canLayAll0 ds := by simp [PyData.canLay0]
  rw [e2]
  exact (lay_all h).1)
theorem eqv_place {x y : D} (hx : PlaceOk x) (hy : PlaceOk y) (e : PyData.eqv x y = true) : x = y := by
  rcases hx with ⟨n, m, rfl, _⟩ | ⟨b0, b1, b2, w, rfl, _⟩
  · rcases hy with ⟨n', m', rfl, _⟩ | ⟨b0', b1', b2', w', rfl, _⟩
    · simp [PyData.eqv, PyData.eqvAll] at e
      rw [e.1, e.2]
    · simp [rootD, PyData.eqv, PyData.eqvAll] at e
  · rcases hy with ⟨n', m', rfl, _⟩ | ⟨b0', b1', b2', w', rfl, _⟩
    · simp [rootD, PyData.eqv, PyData.eqvAll] at e
    · simp [rootD, PyData.eqv, PyData.eqvAll] at e
      obtain ⟨⟨e1, e2, e3⟩, e4⟩ := e
      rw [e1, e2, e3, e4]
/-- the sign at a place -/
def sonD (c0 c1 c2 : Int) : D → Int
  | .tuple [.int n, .int m] => sonF c0 c1 c2 n m
  | .tuple [.str _, .tuple [.int b0, .int b1, .int b2], .int w] => sonR c0 c1 c2 b0 b1 b2 w
  | _ => 0
theorem son_spec {c0 c1 c2 : Int} {x : D} {W : D → Prop} (h0 : Sm c0) (h1 : Sm c1) (h2 : Sm c2) (h : PlaceOk x) (w : W (.int (sonD c0 c1 c2 x))) : SSon [tup3 c0 c1 c2, x] W := by
  refine ⟨c0, c1, c2, x, rfl, h0, h1, h2, ?_⟩
  rcases h with ⟨n, m, rfl, hn, hm, _⟩ | ⟨b0, b1, b2, wh, rfl, _, I⟩
  · exact .inl ⟨n, m, rfl, hn, hm, w⟩
  · exact .inr ⟨b0, b1, b2, wh, rfl, I.s0.sm, I.s1.sm, I.s2.sm, w⟩
theorem lson_spec {c0 c1 c2 : Int} {x : D} {W : D → Prop} (h0 : Sb c0) (h1 : Sb c1) (h2 : Sb c2) (h : PlaceOk x) (w : W (.int (sonD c0 c1 c2 x))) : SLSon [tup3 c0 c1 c2, x] W := by
  refine ⟨c0, c1, c2, x, rfl, h0, h1, h2, ?_⟩
  rcases h with ⟨n, m, rfl, hn, hm, _⟩ | ⟨b0, b1, b2, wh, rfl, hw, I⟩
  · exact .inl ⟨n, m, rfl, hn, hm, w⟩
  · exact .inr ⟨b0, b1, b2, wh, rfl, hw, I, w⟩
theorem sonD_0 {x : D} (h : PlaceOk x) : sonD 0 0 0 x = 0 := by
  rcases h with ⟨n, m, rfl, _⟩ | ⟨b0, b1, b2, w, rfl, _⟩
  · show sgn ((0 * m + 0 * n) * m + 0 * n * n) = 0
    rw [show (0 * m + 0 * n) * m + 0 * n * n = 0 by simp]
    rfl
  · show sonR 0 0 0 b0 b1 b2 w = 0
    exact son_zero ⟨by simp, by simp, by simp⟩
theorem sonD_m {x : D} (h : PlaceOk x) : sonD (-1) 0 0 x = -1 := by
  rcases h with ⟨n, m, rfl, _, _, hm⟩ | ⟨b0, b1, b2, w, rfl, _, I⟩
  · show sgn ((-1 * m + 0 * n) * m + 0 * n * n) = -1
    refine sgn_neg ?_
    have := Int.mul_pos hm hm
    have e : (-1 * m + 0 * n) * m + 0 * n * n = -(m * m) := by grind
    omega
  · show sonR (-1) 0 0 b0 b1 b2 w = -1
    unfold sonR
    have e1 : 2 * b2 * (-1 * b2 - 0 * b0) - b1 * (0 * b2 - 0 * b1) = -(2 * (b2 * b2)) := by grind
    have e2 : 0 * b2 - 0 * b1 = 0 := by simp
    rw [e1, e2, Int.neg_zero, ite_self]
    have := Int.mul_pos I.p2 I.p2
    unfold surd
    rw [sgn_neg (n := -(2 * (b2 * b2))) (by omega), sgn_zero]
    rfl
/-! ### the roots are places, and there the sign is 0 -/
theorem fr_facts {n d : Int} (hd : 0 < d) : ∃ n' d' g : Int, fr n d = .tuple [.int n', .int d'] ∧ g ≠ 0 ∧ n = n' * g ∧ d = d' * g ∧ 0 < d' ∧ n'.natAbs ≤ n.natAbs ∧ d'.natAbs ≤ d.natAbs := by
  have hg : 0 < Nat.gcd n.natAbs d.natAbs := Nat.gcd_pos_of_pos_right _ (by omega)
  have e1 := Int.ediv_mul_cancel (gcd_dvdn n d)
  have e2 := Int.ediv_mul_cancel (gcd_dvdd n d)
  refine ⟨_, _, ((Nat.gcd n.natAbs d.natAbs : Nat) : Int), rfl, by omega, e1.symm, e2.symm, ?_, ?_, ?_⟩
  · rcases Int.lt_or_le 0 (d / ((Nat.gcd n.natAbs d.natAbs : Nat) : Int)) with q | q
    · exact q
    · have := Int.mul_nonneg (show 0 ≤ -(d / ((Nat.gcd n.natAbs d.natAbs : Nat) : Int)) by omega) (show (0 : Int) ≤ ((Nat.gcd n.natAbs d.natAbs : Nat) : Int) by omega)
      rw [Int.neg_mul] at this
      omega
  · have h := congrArg Int.natAbs e1
    rw [Int.natAbs_mul, Int.natAbs_natCast] at h
    have := Nat.mul_le_mul_left (n / ((Nat.gcd n.natAbs d.natAbs : Nat) : Int)).natAbs hg
    omega
  · have h := congrArg Int.natAbs e2
    rw [Int.natAbs_mul, Int.natAbs_natCast] at h
    have := Nat.mul_le_mul_left (d / ((Nat.gcd n.natAbs d.natAbs : Nat) : Int)).natAbs hg
    omega
theorem frq_facts {n d : Int} (hd : d ≠ 0) : ∃ n' d' g : Int, frq n d = .tuple [.int n', .int d'] ∧ g ≠ 0 ∧ n = n' * g ∧ d = d' * g ∧ 0 < d' ∧ n'.natAbs ≤ n.natAbs ∧ d'.natAbs ≤ d.natAbs := by
  unfold frq
  by_cases h : d < 0
  · rw [if_pos h]
    obtain ⟨n', d', g, e, g0, h1, h2, h3, h4, h5⟩ := fr_facts (n := -n) (d := -d) (by omega)
    exact ⟨n', d', -g, e, by omega, by rw [Int.mul_neg, ← h1, Int.neg_neg], by rw [Int.mul_neg, ← h2, Int.neg_neg], h3, by omega, by omega⟩
  · rw [if_neg h]
    exact fr_facts (by omega)
theorem frq_place {n d c0 c1 c2 : Int} (hd : d ≠ 0) (hn : n.natAbs < 2 ^ 200) (hd2 : d.natAbs < 2 ^ 200) (hz : c0 * d * d + c1 * n * d + c2 * n * n = 0) : PlaceOk (frq n d) ∧ sonD c0 c1 c2 (frq n d) = 0 := by
  obtain ⟨n', d', g, e, g0, h1, h2, h3, h4, h5⟩ := frq_facts (n := n) hd
  rw [e]
  refine ⟨.inl ⟨n', d', rfl, by omega, by omega, h3⟩, ?_⟩
  show sgn ((c0 * d' + c1 * n') * d' + c2 * n' * n') = 0
  have q : g * g * ((c0 * d' + c1 * n') * d' + c2 * n' * n') = 0 := by
    rw [h1, h2] at hz
    rw [← hz]
    grind
  have g2 : g * g ≠ 0 := fun z => (Int.mul_eq_zero.mp z).elim g0 g0
  have z := (Int.mul_eq_zero.mp q).elim (fun z => absurd z g2) (fun z => z)
  rw [z]
  rfl
theorem irr_of {a b c : Int} (ha : Sb a) (hb : Sb b) (hc : Sb c) (p : 0 < c) (pd : 0 ≤ dsc a b c) (ns : ¬ ((isq (dsc a b c) : Nat) : Int) * ((isq (dsc a b c) : Nat) : Int) = dsc a b c) : Irr a b c := by
  refine ⟨ha, hb, hc, p, ?_, ns⟩
  rcases Int.lt_or_le 0 (dsc a b c) with q | q
  · exact q
  · have z : dsc a b c = 0 := by omega
    rw [z] at ns
    exact absurd (by decide +kernel) ns
theorem rtsP_facts {e0 e1 e2 c0 c1 c2 : Int} (h0 : Sb e0) (h1 : Sb e1) (h2 : Sb e2) (p : 0 < e2) (pd : 0 ≤ dsc e0 e1 e2) (g : g3 e0 e1 e2 = 1) (hs : (c0 = e0 ∧ c1 = e1 ∧ c2 = e2) ∨ (c0 = -e0 ∧ c1 = -e1 ∧ c2 = -e2)) :
    (rtsP e0 e1 e2).length ≤ 2 ∧ ∀ x ∈ rtsP e0 e1 e2, PlaceOk x ∧ sonD c0 c1 c2 x = 0 := by
  have sd := dsc_small h0.sm h1.sm h2.sm
  have sq := isq_small sd
  have b0 : e0.natAbs ≤ 72 := h0
  have b1 : e1.natAbs ≤ 72 := h1
  have b2 : e2.natAbs ≤ 72 := h2
  unfold rtsP
  by_cases y : ((isq (dsc e0 e1 e2) : Nat) : Int) * ((isq (dsc e0 e1 e2) : Nat) : Int) = dsc e0 e1 e2
  · rw [if_pos y]
    have one : ∀ s : Int, s = ((isq (dsc e0 e1 e2) : Nat) : Int) ∨ s = -((isq (dsc e0 e1 e2) : Nat) : Int) → PlaceOk (frq (-e1 + s) (2 * e2)) ∧ sonD c0 c1 c2 (frq (-e1 + s) (2 * e2)) = 0 := fun s hsg => by
      have ss : s * s = dsc e0 e1 e2 := by
        rcases hsg with z | z
        · rw [z]; exact y
        · rw [z, Int.neg_mul_neg]; exact y
      refine frq_place (by omega) (by omega) (by omega) ?_
      unfold dsc at ss
      rcases hs with ⟨rfl, rfl, rfl⟩ | ⟨rfl, rfl, rfl⟩
      · have : c0 * (2 * c2) * (2 * c2) + c1 * (-c1 + s) * (2 * c2) + c2 * (-c1 + s) * (-c1 + s) = c2 * (s * s - (c1 * c1 - 4 * c0 * c2)) := by grind
        rw [this, ss, Int.sub_self, Int.mul_zero]
      · have : -e0 * (2 * e2) * (2 * e2) + -e1 * (-e1 + s) * (2 * e2) + -e2 * (-e1 + s) * (-e1 + s) = -(e2 * (s * s - (e1 * e1 - 4 * e0 * e2))) := by grind
        rw [this, ss, Int.sub_self, Int.mul_zero]
        rfl
    by_cases z : ((isq (dsc e0 e1 e2) : Nat) : Int) = 0
    · rw [if_pos z]
      refine ⟨by show 1 ≤ 2; decide, fun x hx => ?_⟩
      have := one 0 (.inl z.symm)
      rw [Int.add_zero] at this
      simp only [List.mem_cons, List.not_mem_nil, or_false] at hx
      rw [hx]
      exact this
    · rw [if_neg z]
      refine ⟨by show 2 ≤ 2; decide, fun x hx => ?_⟩
      simp only [List.mem_cons, List.not_mem_nil, or_false] at hx
      rcases hx with hx | hx
      · rw [hx, Int.sub_eq_add_neg]
        exact one _ (.inr rfl)
      · rw [hx]
        exact one _ (.inl rfl)
  · rw [if_neg y, und_wh g]
    have I := irr_of h0 h1 h2 p pd y
    refine ⟨by show 2 ≤ 2; decide, fun x hx => ?_⟩
    have z : ∀ w : Int, sonR c0 c1 c2 e0 e1 e2 w = 0 := fun w => son_zero (by
      rcases hs with ⟨rfl, rfl, rfl⟩ | ⟨rfl, rfl, rfl⟩
      · exact ⟨Int.mul_comm _ _, Int.mul_comm _ _, Int.mul_comm _ _⟩
      · exact ⟨by grind, by grind, by grind⟩)
    simp only [List.mem_cons, List.not_mem_nil, or_false] at hx
    rcases hx with hx | hx
    · rw [hx]
      exact ⟨.inr ⟨e0, e1, e2, 0, rfl, .inl rfl, I⟩, z 0⟩
    · rw [hx]
      exact ⟨.inr ⟨e0, e1, e2, 1, rfl, .inr rfl, I⟩, z 1⟩
theorem Sb.neg {n : Int} (h : Sb n) : Sb (-n) := by
  unfold Sb at *
  omega
theorem rts_facts {a b c : Int} (ha : Sb a) (hb : Sb b) (hc : Sb c) (hw : Wh a b c) : (rts a b c).length ≤ 2 ∧ ∀ x ∈ rts a b c, PlaceOk x ∧ sonD a b c x = 0 := by
  have a1 : a.natAbs ≤ 72 := ha
  have b1 : b.natAbs ≤ 72 := hb
  unfold rts
  by_cases z : c = 0
  · rw [if_pos z]
    by_cases y : b = 0
    · rw [if_pos y]
      exact ⟨by decide, fun _ h => nomatch h⟩
    · rw [if_neg y]
      refine ⟨by show 1 ≤ 2; decide, fun x hx => ?_⟩
      simp only [List.mem_cons, List.not_mem_nil, or_false] at hx
      rw [hx]
      refine frq_place y (by omega) (by omega) ?_
      rw [z]
      grind
  · rw [if_neg z]
    have g := wh_g3 hw z
    unfold rts2
    by_cases y : dsc a b c < 0
    · rw [if_pos y]
      exact ⟨by show 0 ≤ 2; decide, fun _ h => nomatch h⟩
    · rw [if_neg y]
      by_cases x : c < 0
      · rw [if_pos x]
        exact rtsP_facts ha.neg hb.neg hc.neg (by omega) (by rw [dsc_neg]; omega) (by rw [g3_neg]; exact g) (.inr ⟨by omega, by omega, by omega⟩)
      · rw [if_neg x]
        exact rtsP_facts ha hb hc (by omega) (by omega) g (.inl ⟨rfl, rfl, rfl⟩)

open PySem PySem.Spec PyProof.Rows L2 Vc

/-! ### the law -/
theorem cmp_in {x : D} {ys : List D} {K : Bool → Prop} (P : PlaceOk x) (h : SeqAt.shaped (.list ys) = true) (q : K (ys.any fun z => PyData.eqv z x)) : cmpD .In x (.list ys) K := by
  have hs := P.shaped
  rcases P with ⟨n, m, rfl, _⟩ | ⟨b0, b1, b2, w, rfl, _⟩
  · exact ⟨hs, h, q⟩
  · exact ⟨hs, h, q⟩
theorem sm0 : Sm 0 := by show (0 : Int).natAbs < 2 ^ 10; decide
theorem sm1 : Sm 1 := by show (1 : Int).natAbs < 2 ^ 10; decide
theorem smm : Sm (-1) := by show (-1 : Int).natAbs < 2 ^ 10; decide
structure PolyOk (q : Int × Int × Int) : Prop where
  a : Sb q.1
  b : Sb q.2.1
  c : Sb q.2.2
  w : Wh q.1 q.2.1 q.2.2
def plD (q : Int × Int × Int) : D := tup3 q.1 q.2.1 q.2.2
theorem fLaw {M : Md} {f : Addr} {fd : FuncData} (mr : M.mg "range" = none)
    (FR : FnD M 3 "roots" 1 SRoots) (FL : FnD M 3 "_law_roots" 1 SLRoots) (FF : FnD M 2 "_law_frac" 2 SFrac) (FX : FnM M 3 "_law_next" 1 SNext) (FP : FnM M 4 "_law_poly" 1 SPoly) (FS : FnD M 3 "sign_on" 2 SSon) (FG : FnD M 4 "_law_sign_on" 2 SLSon)
    (F : Fun M.K "law" "law" sLaw f fd) : FnOk M.prog M.w M.K M.mg M.base CX0 5 f fd ["script"] (DS M.K 1 (LawS 63)) := by
  refine fnOk_mk (k := 4) (NK := nkLaw) (G := gLaw) F scLaw rfl (by decide +kernel) rfl (by decide) fun X C ds W hl hS => ?_
  obtain ⟨ns, rfl, hns, w⟩ := hS
  show VSs X _ [.dat (.list (ns.map PyData.int)), .no, .no, .no, .no, .no, .no, .no] _
  refine vss_cons ?_
  refine vs_new C (i := 1) (by walk_at "at") (by show 1 < 8; decide) ?_
  refine vn_lst ?_
  refine va_cons ?_
  refine vn_vd ?_
  refine vn_take (n := 63) ?_
  walk_at "v"
  refine ⟨_, rfl, ?_⟩
  walk_at "vv"
  refine ⟨by show 3 ≤ 1000; decide, fun p => ?_⟩
  rw [← List.map_take]
  generalize hms : ns.take 63 = ms
  show VSs X _ [.dat (.list (ns.map PyData.int)), .own p (drw ms 0), .no, .no, .no, .no, .no, .no] _
  -- the polynomials
  refine vss_cons ?_
  refine vs_setLc C nkLaw0 gLaw0 (i := 7) (m := 2) (by walk_at "at") (by walk_at "at") ?_
  refine vi_range C (by walk_at "at") ?_
  walk_at "v"
  refine ⟨5, rfl, by decide, by decide, fun j acc ρ' => ∃ (qs : List (Int × Int × Int)) (c : Nat) (s : Sl), acc = qs.map plD ∧ qs.length = j ∧ (∀ q ∈ qs, PolyOk q) ∧ c ≤ 8 * j ∧ ρ' = [.dat (.list (ns.map PyData.int)), .own p (drw ms c), .no, .no, .no, .no, .no, s], ⟨[], 0, _, rfl, rfl, fun _ h => (nomatch h), by omega, rfl⟩, fun j d acc ρ' hj hW X' C' => ?_, fun acc ρ' hW => ?_⟩
  · obtain ⟨qs, c, s, rfl, hqs, hgood, hc, rfl⟩ := hW
    have hj5 : j < 5 := by
      have := (List.getElem?_eq_some_iff.mp hj).1
      rw [List.length_map, List.length_range] at this
      exact this
    refine vd_callO C' FP (m := 1) (by walk_at "at") (by walk_at "at") rfl ?_
    walk_at "vv"
    refine ⟨rfl, _, rfl, ms, c, rfl, rfl, by omega, fun c' a b e hc' ha hb he hw => ?_⟩
    refine ⟨qs ++ [(a, b, e)], c', _, by rw [List.map_append]; rfl, by rw [List.length_append, hqs]; rfl, fun g hg => ?_, by omega, rfl⟩
    rcases List.mem_append.mp hg with z | z
    · exact hgood g z
    · rw [List.mem_singleton.mp z]
      exact ⟨ha, hb, he, hw⟩
  · obtain ⟨qs, c1, s, rfl, hqs, hgood, hc1, rfl⟩ := hW
    rw [List.length_map, List.length_range] at hqs hc1
    show VSs X _ [.dat (.list (ns.map PyData.int)), .own p (drw ms c1), .dat (.list (qs.map plD)), .no, .no, .no, .no, s] _
    refine vss_cons ?_
    refine vs_for C (vi_lst ?_)
    walk_at "v"
    refine ⟨_, rfl, ?_⟩
    refine ⟨fun i ρ' => ∃ (c : Nat) (s3 s4 s5 s6 s7 : Sl), c ≤ 40 + 2 * i ∧ ρ' = [.dat (.list (ns.map PyData.int)), .own p (drw ms c), .dat (.list (qs.map plD)), s3, s4, s5, s6, s7], ⟨c1, _, _, _, _, _, by omega, rfl⟩, fun i d ρ' hi hW => ?_, fun ρ' hW => ?_⟩
    · obtain ⟨c, s3, s4, s5, s6, s7, hc, rfl⟩ := hW
      have hi5 : i < 5 := by
        have := (List.getElem?_eq_some_iff.mp hi).1
        rw [List.length_map] at this
        omega
      obtain ⟨q, hq, rfl⟩ : ∃ q, q ∈ qs ∧ d = plD q := by
        rw [List.getElem?_map] at hi
        cases hx : qs[i]? with
        | none => rw [hx] at hi; cases hi
        | some q =>
          rw [hx] at hi
          exact ⟨q, List.mem_of_getElem? hx, (Option.some.inj hi).symm⟩
      have O := hgood q hq
      obtain ⟨rl, rf⟩ := rts_facts O.a O.b O.c O.w
      have fnd : ∀ x ∈ rts q.1 q.2.1 q.2.2, PlaceOk x := fun x hx => (rf x hx).1
      walk_at "v"
      show VSs X _ [.dat (.list (ns.map PyData.int)), .own p (drw ms c), .dat (.list (qs.map plD)), .dat (plD q), s4, s5, s6, s7] _
      walk_at "v"
      walk_at "v"
      refine vd_call C FR (by walk_at "at") ?_
      walk_at "vv"
      refine ⟨rfl, q.1, q.2.1, q.2.2, rfl, O.a.sm, O.b.sm, O.c.sm, ?_⟩
      show VSs X _ [.dat (.list (ns.map PyData.int)), .own p (drw ms c), .dat (.list (qs.map plD)), .dat (plD q), .dat (.list (rts q.1 q.2.1 q.2.2)), s5, s6, s7] _
      generalize hR : rts q.1 q.2.1 q.2.2 = R at *
      walk_at "vv"
      refine vd_call C FL (by walk_at "at") ?_
      walk_at "vv"
      refine ⟨rfl, q.1, q.2.1, q.2.2, rfl, O.a.sm, O.b.sm, O.c.sm, O.w, ?_⟩
      rw [hR]
      refine ⟨shaped_list fnd, shaped_list fnd, ?_⟩
      rw [eqv_list fnd]
      refine ⟨fun h => (nomatch h), fun _ => ?_⟩
      refine vss_nil ?_
      -- the places
      refine vss_one ?_
      refine vs_for C (vi_lst (vn_vd (vn_cat ?_)))
      walk_at "v"
      refine vn_vd (vn_lst ?_)
      walk_at "v"
      refine vd_call C FF (by walk_at "at") ?_
      walk_at "v"
      walk_at "v"
      refine vd_callO C FX (m := 1) (by walk_at "at") (by walk_at "at") rfl ?_
      walk_at "vv"
      refine ⟨rfl, _, rfl, ms, c, 60, rfl, rfl, by omega, by decide, fun x x0 x1 => ?_⟩
      walk_at "v"
      walk_at "v"
      walk_at "v"
      walk_at "v"
      refine vd_callO C FX (m := 1) (by walk_at "at") (by walk_at "at") rfl ?_
      walk_at "vv"
      refine ⟨rfl, _, rfl, ms, c + 1, 30, rfl, rfl, by omega, by decide, fun y y0 y1 => ?_⟩
      walk_at "vv"
      refine ⟨rfl, x - 20, 1 + y, rfl, by omega, by omega, by omega, ?_⟩
      rw [frq_le]
      walk_at "vv"
      refine ⟨by show 1 ≤ 1000; decide, R, [frq (x - 20) (1 + y)], rfl, rfl, by show R.length + 1 ≤ 100000; omega, ?_⟩
      have fx : PlaceOk (frq (x - 20) (1 + y)) := by
        obtain ⟨n', d', g, e, g0, h1, h2, h3, h4, h5⟩ := frq_facts (n := x - 20) (d := 1 + y) (by omega)
        rw [e]
        exact .inl ⟨n', d', rfl, by omega, by omega, h3⟩
      have all : ∀ z ∈ R ++ [frq (x - 20) (1 + y)], PlaceOk z := fun z hz => by
        rcases List.mem_append.mp hz with h | h
        · exact fnd z h
        · rw [List.mem_singleton.mp h]
          exact fx
      refine ⟨_, rfl, fun _ ρ' => ∃ s5 s6 s7 : Sl, ρ' = [.dat (.list (ns.map PyData.int)), .own p (drw ms (c + 1 + 1)), .dat (.list (qs.map plD)), .dat (plD q), .dat (.list R), s5, s6, s7], ⟨_, _, _, rfl⟩, fun j pl ρ' hj hW => ?_, fun ρ' hW => ?_⟩
      · obtain ⟨s5, s6, s7, rfl⟩ := hW
        have P := all pl (List.mem_of_getElem? hj)
        walk_at "v"
        show VSs X _ [.dat (.list (ns.map PyData.int)), .own p (drw ms (c + 1 + 1)), .dat (.list (qs.map plD)), .dat (plD q), .dat (.list R), .dat pl, s6, s7] _
        refine vss_cons ?_
        refine vs_for C (vi_lst ?_)
        walk_at "v"
        refine ⟨_, rfl, fun _ ρ' => ∃ s6 : Sl, ρ' = [.dat (.list (ns.map PyData.int)), .own p (drw ms (c + 1 + 1)), .dat (.list (qs.map plD)), .dat (plD q), .dat (.list R), .dat pl, s6, s7], ⟨_, rfl⟩, fun l o ρ' hl hW => ?_, fun ρ' hW => ?_⟩
        · obtain ⟨s6, rfl⟩ := hW
          obtain ⟨u, hu, rfl⟩ : ∃ u, u ∈ qs ∧ o = plD u := by
            rw [List.getElem?_map] at hl
            cases hx : qs[l]? with
            | none => rw [hx] at hl; cases hl
            | some u =>
              rw [hx] at hl
              exact ⟨u, List.mem_of_getElem? hx, (Option.some.inj hl).symm⟩
          have U := hgood u hu
          walk_at "v"
          show VSs X _ [.dat (.list (ns.map PyData.int)), .own p (drw ms (c + 1 + 1)), .dat (.list (qs.map plD)), .dat (plD q), .dat (.list R), .dat pl, .dat (plD u), s7] _
          walk_at "vv"
          refine vd_call C FS (by walk_at "at") ?_
          walk_at "vv"
          refine ⟨rfl, son_spec U.a.sm U.b.sm U.c.sm P ?_⟩
          refine vd_call C FG (by walk_at "at") ?_
          walk_at "vv"
          refine ⟨rfl, lson_spec U.a U.b U.c P ?_⟩
          refine ⟨fun h => absurd (h : (!decide (sonD u.1 u.2.1 u.2.2 pl = sonD u.1 u.2.1 u.2.2 pl)) = true) (by rw [decide_eq_true rfl]; decide), fun _ => ?_⟩
          refine vss_nil ?_
          exact ⟨_, rfl⟩
        · obtain ⟨s6, rfl⟩ := hW
          refine vss_one ?_
          refine vs_if (vt_w (vw_or (vt_w (vw_and ?_))))
          walk_at "vv"
          refine cmp_in P (shaped_list fnd) ?_
          refine ⟨fun hin => ?_, fun _ => ?_⟩
          · have zero : sonD q.1 q.2.1 q.2.2 pl = 0 := by
              obtain ⟨z, hz, he⟩ := List.any_eq_true.mp hin
              have e := eqv_place (fnd z hz) P he
              subst e
              exact (rf z hz).2
            refine vw_and1 ?_
            walk_at "vv"
            refine vd_call C FS (by walk_at "at") ?_
            walk_at "vv"
            refine ⟨rfl, son_spec O.a.sm O.b.sm O.c.sm P ?_⟩
            rw [zero]
            walk_at "vv"
            refine ⟨fun h => absurd h (by decide), fun _ => ?_⟩
            refine vw_or ?_
            walk_at "vv"
            refine vd_call C FS (by walk_at "at") ?_
            walk_at "vv"
            refine ⟨by show 3 ≤ 1000; decide, ?_⟩
            walk_at "vv"
            refine ⟨rfl, son_spec sm0 sm0 sm0 P ?_⟩
            rw [sonD_0 P]
            walk_at "vv"
            refine ⟨fun h => absurd h (by decide), fun _ => ?_⟩
            refine vw_or1 ?_
            walk_at "vv"
            refine vd_call C FS (by walk_at "at") ?_
            walk_at "vv"
            refine ⟨_, rfl, ?_⟩
            walk_at "vv"
            refine ⟨by show 3 ≤ 1000; decide, ?_⟩
            walk_at "vv"
            refine ⟨rfl, son_spec smm sm0 sm0 P ?_⟩
            rw [sonD_m P]
            walk_at "vv"
            refine ⟨_, rfl, ?_⟩
            refine ⟨fun h => absurd h (by decide), fun _ => ?_⟩
            refine vss_nil ?_
            exact ⟨_, _, _, rfl⟩
          · refine ⟨fun h => absurd h (by decide), fun _ => ?_⟩
            refine vw_or ?_
            walk_at "vv"
            refine vd_call C FS (by walk_at "at") ?_
            walk_at "vv"
            refine ⟨by show 3 ≤ 1000; decide, ?_⟩
            walk_at "vv"
            refine ⟨rfl, son_spec sm0 sm0 sm0 P ?_⟩
            rw [sonD_0 P]
            walk_at "vv"
            refine ⟨fun h => absurd h (by decide), fun _ => ?_⟩
            refine vw_or1 ?_
            walk_at "vv"
            refine vd_call C FS (by walk_at "at") ?_
            walk_at "vv"
            refine ⟨_, rfl, ?_⟩
            walk_at "vv"
            refine ⟨by show 3 ≤ 1000; decide, ?_⟩
            walk_at "vv"
            refine ⟨rfl, son_spec smm sm0 sm0 P ?_⟩
            rw [sonD_m P]
            walk_at "vv"
            refine ⟨_, rfl, ?_⟩
            refine ⟨fun h => absurd h (by decide), fun _ => ?_⟩
            refine vss_nil ?_
            exact ⟨_, _, _, rfl⟩
      · obtain ⟨s5, s6, s7, rfl⟩ := hW
        exact ⟨c + 1 + 1, _, _, _, _, _, by omega, rfl⟩
    · obtain ⟨c, s3, s4, s5, s6, s7, hc, rfl⟩ := hW
      have sh : SeqAt.shaped (.list []) = true := by decide +kernel
      have ev : PyData.eqv (.list []) (.list []) = true := by decide +kernel
      walk_at "v"
      walk_at "v"
      refine vd_and ?_
      walk_at "v"
      refine vd_call C FR (by walk_at "at") ?_
      walk_at "vv"
      refine ⟨by show 3 ≤ 1000; decide, ?_⟩
      walk_at "vv"
      refine ⟨rfl, 0, 0, 0, rfl, sm0, sm0, sm0, ?_⟩
      rw [show rts 0 0 0 = [] by rfl]
      refine vn_vd (vn_lst ?_)
      walk_at "vv"
      refine ⟨by show 0 ≤ 1000; decide, ?_⟩
      refine ⟨sh, sh, ?_⟩
      rw [ev]
      refine ⟨true, rfl, fun _ => ?_, fun h => absurd h (by decide)⟩
      refine vd_one ?_
      walk_at "v"
      refine vd_call C FR (by walk_at "at") ?_
      walk_at "vv"
      refine ⟨by show 3 ≤ 1000; decide, ?_⟩
      walk_at "vv"
      refine ⟨rfl, 1, 0, 0, rfl, sm1, sm0, sm0, ?_⟩
      rw [show rts 1 0 0 = [] by rfl]
      refine vn_vd (vn_lst ?_)
      walk_at "vv"
      refine ⟨by show 0 ≤ 1000; decide, ?_⟩
      refine ⟨sh, sh, ?_⟩
      rw [ev]
      exact w

open PySem PySem.Spec PyProof.Rows L2 Vc
/-! ### what the top has written; the law's own head -/
theorem all_mk {l : PySem.W.OpenLaw} {w : World} {K : PySem.W.Frag} {h : Heap} {mg : Str → Option Value} {fa f0 f1 f2 f3 f4 f5 f6 f7 f8 f9 f10 f11 f12 f13 f14 f15 f16 f17 f18 f19 f20 f21 : Addr} (X : K.In h) (G : h.Ns mainGlobals mg) (hfa : mg "law" = some (.ref fa))
    {od0 an0 od1 an1 od2 an2 od3 an3 od4 an4 od5 an5 od6 an6 od7 an7 od8 an8 od9 an9 od10 an10 od11 an11 od12 an12 od13 an13 od14 an14 od15 an15 od16 an16 od17 an17 od18 an18 od19 an19 od20 an20 od21 an21 : Option Addr} {sl0 sl1 sl2 sl3 sl4 sl5 sl6 sl7 sl8 sl9 sl10 sl11 sl12 sl13 sl14 sl15 sl16 sl17 sl18 sl19 sl20 sl21 : Array (Option Value)} {oc0 kV0 dc0 pm0 cd0 ct0 oc1 kV1 dc1 pm1 cd1 ct1 oc2 kV2 dc2 pm2 cd2 ct2 oc3 kV3 dc3 pm3 cd3 ct3 oc4 kV4 dc4 pm4 cd4 ct4 oc5 kV5 dc5 pm5 cd5 ct5 oc6 kV6 dc6 pm6 cd6 ct6 oc7 kV7 dc7 pm7 cd7 ct7 oc8 kV8 dc8 pm8 cd8 ct8 oc9 kV9 dc9 pm9 cd9 ct9 oc10 kV10 dc10 pm10 cd10 ct10 oc11 kV11 dc11 pm11 cd11 ct11 oc12 kV12 dc12 pm12 cd12 ct12 oc13 kV13 dc13 pm13 cd13 ct13 oc14 kV14 dc14 pm14 cd14 ct14 oc15 kV15 dc15 pm15 cd15 ct15 oc16 kV16 dc16 pm16 cd16 ct16 oc17 kV17 dc17 pm17 cd17 ct17 oc18 kV18 dc18 pm18 cd18 ct18 oc19 kV19 dc19 pm19 cd19 ct19 oc20 kV20 dc20 pm20 cd20 ct20 oc21 kV21 dc21 pm21 cd21 ct21 : Value}
    (a0 : PySem.W.nsIn K mainGlobals "sign_of" = some (some (.ref f0))) (l0 : K.lookup f0 = some ⟨oc0, od0, .func (PySem.W.fnOf "sign_of" "sign_of" (defArgs sSignOf) (defBody sSignOf) (defScope sSignOf) .none kV0 dc0 pm0 an0 cd0 ct0), sl0⟩) (c0 : PySem.W.codeIn K cd0 "sign_of" = true) (k0 : PySem.W.keepIn K (.ref f0) = true)
    (a1 : PySem.W.nsIn K mainGlobals "fraction" = some (some (.ref f1))) (l1 : K.lookup f1 = some ⟨oc1, od1, .func (PySem.W.fnOf "fraction" "fraction" (defArgs sFraction) (defBody sFraction) (defScope sFraction) .none kV1 dc1 pm1 an1 cd1 ct1), sl1⟩) (c1 : PySem.W.codeIn K cd1 "fraction" = true) (k1 : PySem.W.keepIn K (.ref f1) = true)
    (a2 : PySem.W.nsIn K mainGlobals "undivided" = some (some (.ref f2))) (l2 : K.lookup f2 = some ⟨oc2, od2, .func (PySem.W.fnOf "undivided" "undivided" (defArgs sUndivided) (defBody sUndivided) (defScope sUndivided) .none kV2 dc2 pm2 an2 cd2 ct2), sl2⟩) (c2 : PySem.W.codeIn K cd2 "undivided" = true) (k2 : PySem.W.keepIn K (.ref f2) = true)
    (a3 : PySem.W.nsIn K mainGlobals "discriminant" = some (some (.ref f3))) (l3 : K.lookup f3 = some ⟨oc3, od3, .func (PySem.W.fnOf "discriminant" "discriminant" (defArgs sDiscriminant) (defBody sDiscriminant) (defScope sDiscriminant) .none kV3 dc3 pm3 an3 cd3 ct3), sl3⟩) (c3 : PySem.W.codeIn K cd3 "discriminant" = true) (k3 : PySem.W.keepIn K (.ref f3) = true)
    (a4 : PySem.W.nsIn K mainGlobals "roots" = some (some (.ref f4))) (l4 : K.lookup f4 = some ⟨oc4, od4, .func (PySem.W.fnOf "roots" "roots" (defArgs sRoots) (defBody sRoots) (defScope sRoots) .none kV4 dc4 pm4 an4 cd4 ct4), sl4⟩) (c4 : PySem.W.codeIn K cd4 "roots" = true) (k4 : PySem.W.keepIn K (.ref f4) = true)
    (a5 : PySem.W.nsIn K mainGlobals "square_roots" = some (some (.ref f5))) (l5 : K.lookup f5 = some ⟨oc5, od5, .func (PySem.W.fnOf "square_roots" "square_roots" (defArgs sSquareRoots) (defBody sSquareRoots) (defScope sSquareRoots) .none kV5 dc5 pm5 an5 cd5 ct5), sl5⟩) (c5 : PySem.W.codeIn K cd5 "square_roots" = true) (k5 : PySem.W.keepIn K (.ref f5) = true)
    (a6 : PySem.W.nsIn K mainGlobals "sign_on" = some (some (.ref f6))) (l6 : K.lookup f6 = some ⟨oc6, od6, .func (PySem.W.fnOf "sign_on" "sign_on" (defArgs sSignOn) (defBody sSignOn) (defScope sSignOn) .none kV6 dc6 pm6 an6 cd6 ct6), sl6⟩) (c6 : PySem.W.codeIn K cd6 "sign_on" = true) (k6 : PySem.W.keepIn K (.ref f6) = true)
    (a7 : PySem.W.nsIn K mainGlobals "sign_of_surd" = some (some (.ref f7))) (l7 : K.lookup f7 = some ⟨oc7, od7, .func (PySem.W.fnOf "sign_of_surd" "sign_of_surd" (defArgs sSignOfSurd) (defBody sSignOfSurd) (defScope sSignOfSurd) .none kV7 dc7 pm7 an7 cd7 ct7), sl7⟩) (c7 : PySem.W.codeIn K cd7 "sign_of_surd" = true) (k7 : PySem.W.keepIn K (.ref f7) = true)
    (a8 : PySem.W.nsIn K mainGlobals "_law_cell_at" = some (some (.ref f8))) (l8 : K.lookup f8 = some ⟨oc8, od8, .func (PySem.W.fnOf "_law_cell_at" "_law_cell_at" (defArgs sLCellAt) (defBody sLCellAt) (defScope sLCellAt) .none kV8 dc8 pm8 an8 cd8 ct8), sl8⟩) (c8 : PySem.W.codeIn K cd8 "_law_cell_at" = true) (k8 : PySem.W.keepIn K (.ref f8) = true)
    (a9 : PySem.W.nsIn K mainGlobals "_law_draw" = some (some (.ref f9))) (l9 : K.lookup f9 = some ⟨oc9, od9, .func (PySem.W.fnOf "_law_draw" "_law_draw" (defArgs sLDraw) (defBody sLDraw) (defScope sLDraw) .none kV9 dc9 pm9 an9 cd9 ct9), sl9⟩) (c9 : PySem.W.codeIn K cd9 "_law_draw" = true) (k9 : PySem.W.keepIn K (.ref f9) = true)
    (a10 : PySem.W.nsIn K mainGlobals "_law_number" = some (some (.ref f10))) (l10 : K.lookup f10 = some ⟨oc10, od10, .func (PySem.W.fnOf "_law_number" "_law_number" (defArgs sLNumber) (defBody sLNumber) (defScope sLNumber) .none kV10 dc10 pm10 an10 cd10 ct10), sl10⟩) (c10 : PySem.W.codeIn K cd10 "_law_number" = true) (k10 : PySem.W.keepIn K (.ref f10) = true)
    (a11 : PySem.W.nsIn K mainGlobals "_law_next" = some (some (.ref f11))) (l11 : K.lookup f11 = some ⟨oc11, od11, .func (PySem.W.fnOf "_law_next" "_law_next" (defArgs sLNext) (defBody sLNext) (defScope sLNext) .none kV11 dc11 pm11 an11 cd11 ct11), sl11⟩) (c11 : PySem.W.codeIn K cd11 "_law_next" = true) (k11 : PySem.W.keepIn K (.ref f11) = true)
    (a12 : PySem.W.nsIn K mainGlobals "_law_common" = some (some (.ref f12))) (l12 : K.lookup f12 = some ⟨oc12, od12, .func (PySem.W.fnOf "_law_common" "_law_common" (defArgs sLCommon) (defBody sLCommon) (defScope sLCommon) .none kV12 dc12 pm12 an12 cd12 ct12), sl12⟩) (c12 : PySem.W.codeIn K cd12 "_law_common" = true) (k12 : PySem.W.keepIn K (.ref f12) = true)
    (a13 : PySem.W.nsIn K mainGlobals "_law_frac" = some (some (.ref f13))) (l13 : K.lookup f13 = some ⟨oc13, od13, .func (PySem.W.fnOf "_law_frac" "_law_frac" (defArgs sLFrac) (defBody sLFrac) (defScope sLFrac) .none kV13 dc13 pm13 an13 cd13 ct13), sl13⟩) (c13 : PySem.W.codeIn K cd13 "_law_frac" = true) (k13 : PySem.W.keepIn K (.ref f13) = true)
    (a14 : PySem.W.nsIn K mainGlobals "_law_sign" = some (some (.ref f14))) (l14 : K.lookup f14 = some ⟨oc14, od14, .func (PySem.W.fnOf "_law_sign" "_law_sign" (defArgs sLSign) (defBody sLSign) (defScope sLSign) .none kV14 dc14 pm14 an14 cd14 ct14), sl14⟩) (c14 : PySem.W.codeIn K cd14 "_law_sign" = true) (k14 : PySem.W.keepIn K (.ref f14) = true)
    (a15 : PySem.W.nsIn K mainGlobals "_law_at" = some (some (.ref f15))) (l15 : K.lookup f15 = some ⟨oc15, od15, .func (PySem.W.fnOf "_law_at" "_law_at" (defArgs sLAt) (defBody sLAt) (defScope sLAt) .none kV15 dc15 pm15 an15 cd15 ct15), sl15⟩) (c15 : PySem.W.codeIn K cd15 "_law_at" = true) (k15 : PySem.W.keepIn K (.ref f15) = true)
    (a16 : PySem.W.nsIn K mainGlobals "_law_root_of" = some (some (.ref f16))) (l16 : K.lookup f16 = some ⟨oc16, od16, .func (PySem.W.fnOf "_law_root_of" "_law_root_of" (defArgs sLRootOf) (defBody sLRootOf) (defScope sLRootOf) .none kV16 dc16 pm16 an16 cd16 ct16), sl16⟩) (c16 : PySem.W.codeIn K cd16 "_law_root_of" = true) (k16 : PySem.W.keepIn K (.ref f16) = true)
    (a17 : PySem.W.nsIn K mainGlobals "_law_poly" = some (some (.ref f17))) (l17 : K.lookup f17 = some ⟨oc17, od17, .func (PySem.W.fnOf "_law_poly" "_law_poly" (defArgs sLPoly) (defBody sLPoly) (defScope sLPoly) .none kV17 dc17 pm17 an17 cd17 ct17), sl17⟩) (c17 : PySem.W.codeIn K cd17 "_law_poly" = true) (k17 : PySem.W.keepIn K (.ref f17) = true)
    (a18 : PySem.W.nsIn K mainGlobals "_law_roots" = some (some (.ref f18))) (l18 : K.lookup f18 = some ⟨oc18, od18, .func (PySem.W.fnOf "_law_roots" "_law_roots" (defArgs sLRoots) (defBody sLRoots) (defScope sLRoots) .none kV18 dc18 pm18 an18 cd18 ct18), sl18⟩) (c18 : PySem.W.codeIn K cd18 "_law_roots" = true) (k18 : PySem.W.keepIn K (.ref f18) = true)
    (a19 : PySem.W.nsIn K mainGlobals "_law_span" = some (some (.ref f19))) (l19 : K.lookup f19 = some ⟨oc19, od19, .func (PySem.W.fnOf "_law_span" "_law_span" (defArgs sLSpan) (defBody sLSpan) (defScope sLSpan) .none kV19 dc19 pm19 an19 cd19 ct19), sl19⟩) (c19 : PySem.W.codeIn K cd19 "_law_span" = true) (k19 : PySem.W.keepIn K (.ref f19) = true)
    (a20 : PySem.W.nsIn K mainGlobals "_law_sign_on" = some (some (.ref f20))) (l20 : K.lookup f20 = some ⟨oc20, od20, .func (PySem.W.fnOf "_law_sign_on" "_law_sign_on" (defArgs sLSignOn) (defBody sLSignOn) (defScope sLSignOn) .none kV20 dc20 pm20 an20 cd20 ct20), sl20⟩) (c20 : PySem.W.codeIn K cd20 "_law_sign_on" = true) (k20 : PySem.W.keepIn K (.ref f20) = true)
    (a21 : PySem.W.nsIn K mainGlobals "law" = some (some (.ref f21))) (l21 : K.lookup f21 = some ⟨oc21, od21, .func (PySem.W.fnOf "law" "law" (defArgs sLaw) (defBody sLaw) (defScope sLaw) .none kV21 dc21 pm21 an21 cd21 ct21), sl21⟩) (c21 : PySem.W.codeIn K cd21 "law" = true) (k21 : PySem.W.keepIn K (.ref f21) = true)
    (z_len : PySem.W.nsIn K mainGlobals "len" = some none)
    (z_int : PySem.W.nsIn K mainGlobals "int" = some none)
    (z_range : PySem.W.nsIn K mainGlobals "range" = some none)
    (z_abs : PySem.W.nsIn K mainGlobals "abs" = some none)
    (z_tuple : PySem.W.nsIn K mainGlobals "tuple" = some none)
    (z_max : PySem.W.nsIn K mainGlobals "max" = some none)
    (z_sum : PySem.W.nsIn K mainGlobals "sum" = some none)
    (z_gcd : PySem.W.nsIn K mainGlobals "gcd" = some (some (.builtin "math.gcd")))
    (z_isqrt : PySem.W.nsIn K mainGlobals "isqrt" = some (some (.builtin "math.isqrt")))
    : ∃ fd : FuncData, (∀ (s : Shared) (v : Value), BindsTo s fd ⟨[v], []⟩ [("script", v)]) ∧ ∀ base : Heap, K.In base → base.Ns mainGlobals mg → FnOk l.prog w K mg base CX0 5 fa fd ["script"] (DS K 1 (LawS 63)) := by
  have e := hfa.symm.trans (PySem.W.mg_of X G a21)
  cases e
  have F_SignOf := fun_mk (st := sSignOf) l0 c0 k0
  have b_SignOf := F_SignOf.binds (ps := ["number"]) fun _ _ _ _ _ _ us hl => match us, hl with | [_], _ => rfl
  have m_SignOf := PySem.W.mg_of X G a0
  have F_Fraction := fun_mk (st := sFraction) l1 c1 k1
  have b_Fraction := F_Fraction.binds (ps := ["above", "below"]) fun _ _ _ _ _ _ us hl => match us, hl with | [_, _], _ => rfl
  have m_Fraction := PySem.W.mg_of X G a1
  have F_Undivided := fun_mk (st := sUndivided) l2 c2 k2
  have b_Undivided := F_Undivided.binds (ps := ["c0", "c1", "c2"]) fun _ _ _ _ _ _ us hl => match us, hl with | [_, _, _], _ => rfl
  have m_Undivided := PySem.W.mg_of X G a2
  have F_Discriminant := fun_mk (st := sDiscriminant) l3 c3 k3
  have b_Discriminant := F_Discriminant.binds (ps := ["c0", "c1", "c2"]) fun _ _ _ _ _ _ us hl => match us, hl with | [_, _, _], _ => rfl
  have m_Discriminant := PySem.W.mg_of X G a3
  have F_Roots := fun_mk (st := sRoots) l4 c4 k4
  have b_Roots := F_Roots.binds (ps := ["poly"]) fun _ _ _ _ _ _ us hl => match us, hl with | [_], _ => rfl
  have m_Roots := PySem.W.mg_of X G a4
  have F_SquareRoots := fun_mk (st := sSquareRoots) l5 c5 k5
  have b_SquareRoots := F_SquareRoots.binds (ps := ["c0", "c1", "c2"]) fun _ _ _ _ _ _ us hl => match us, hl with | [_, _, _], _ => rfl
  have m_SquareRoots := PySem.W.mg_of X G a5
  have F_SignOn := fun_mk (st := sSignOn) l6 c6 k6
  have b_SignOn := F_SignOn.binds (ps := ["poly", "place"]) fun _ _ _ _ _ _ us hl => match us, hl with | [_, _], _ => rfl
  have m_SignOn := PySem.W.mg_of X G a6
  have F_SignOfSurd := fun_mk (st := sSignOfSurd) l7 c7 k7
  have b_SignOfSurd := F_SignOfSurd.binds (ps := ["flat", "steep", "square"]) fun _ _ _ _ _ _ us hl => match us, hl with | [_, _, _], _ => rfl
  have m_SignOfSurd := PySem.W.mg_of X G a7
  have F_LCellAt := fun_mk (st := sLCellAt) l8 c8 k8
  have b_LCellAt := F_LCellAt.binds (ps := ["script", "k"]) fun _ _ _ _ _ _ us hl => match us, hl with | [_, _], _ => rfl
  have m_LCellAt := PySem.W.mg_of X G a8
  have F_LDraw := fun_mk (st := sLDraw) l9 c9 k9
  have b_LDraw := F_LDraw.binds (ps := ["cell", "k", "bound"]) fun _ _ _ _ _ _ us hl => match us, hl with | [_, _, _], _ => rfl
  have m_LDraw := PySem.W.mg_of X G a9
  have F_LNumber := fun_mk (st := sLNumber) l10 c10 k10
  have b_LNumber := F_LNumber.binds (ps := ["cell", "k", "bound"]) fun _ _ _ _ _ _ us hl => match us, hl with | [_, _, _], _ => rfl
  have m_LNumber := PySem.W.mg_of X G a10
  have F_LNext := fun_mk (st := sLNext) l11 c11 k11
  have b_LNext := F_LNext.binds (ps := ["draw", "bound"]) fun _ _ _ _ _ _ us hl => match us, hl with | [_, _], _ => rfl
  have m_LNext := PySem.W.mg_of X G a11
  have F_LCommon := fun_mk (st := sLCommon) l12 c12 k12
  have b_LCommon := F_LCommon.binds (ps := ["a", "b"]) fun _ _ _ _ _ _ us hl => match us, hl with | [_, _], _ => rfl
  have m_LCommon := PySem.W.mg_of X G a12
  have F_LFrac := fun_mk (st := sLFrac) l13 c13 k13
  have b_LFrac := F_LFrac.binds (ps := ["n", "d"]) fun _ _ _ _ _ _ us hl => match us, hl with | [_, _], _ => rfl
  have m_LFrac := PySem.W.mg_of X G a13
  have F_LSign := fun_mk (st := sLSign) l14 c14 k14
  have b_LSign := F_LSign.binds (ps := ["number"]) fun _ _ _ _ _ _ us hl => match us, hl with | [_], _ => rfl
  have m_LSign := PySem.W.mg_of X G a14
  have F_LAt := fun_mk (st := sLAt) l15 c15 k15
  have b_LAt := F_LAt.binds (ps := ["poly", "n", "d"]) fun _ _ _ _ _ _ us hl => match us, hl with | [_, _, _], _ => rfl
  have m_LAt := PySem.W.mg_of X G a15
  have F_LRootOf := fun_mk (st := sLRootOf) l16 c16 k16
  have b_LRootOf := F_LRootOf.binds (ps := ["number"]) fun _ _ _ _ _ _ us hl => match us, hl with | [_], _ => rfl
  have m_LRootOf := PySem.W.mg_of X G a16
  have F_LPoly := fun_mk (st := sLPoly) l17 c17 k17
  have b_LPoly := F_LPoly.binds (ps := ["draw", "big"]) fun _ _ _ _ _ _ us hl => match us, hl with | [_, _], _ => rfl
  have m_LPoly := PySem.W.mg_of X G a17
  have F_LRoots := fun_mk (st := sLRoots) l18 c18 k18
  have b_LRoots := F_LRoots.binds (ps := ["poly"]) fun _ _ _ _ _ _ us hl => match us, hl with | [_], _ => rfl
  have m_LRoots := PySem.W.mg_of X G a18
  have F_LSpan := fun_mk (st := sLSpan) l19 c19 k19
  have b_LSpan := F_LSpan.binds (ps := ["place"]) fun _ _ _ _ _ _ us hl => match us, hl with | [_], _ => rfl
  have m_LSpan := PySem.W.mg_of X G a19
  have F_LSignOn := fun_mk (st := sLSignOn) l20 c20 k20
  have b_LSignOn := F_LSignOn.binds (ps := ["poly", "place"]) fun _ _ _ _ _ _ us hl => match us, hl with | [_, _], _ => rfl
  have m_LSignOn := PySem.W.mg_of X G a20
  have F_Law := fun_mk (st := sLaw) l21 c21 k21
  have b_Law := F_Law.binds (ps := ["script"]) fun _ _ _ _ _ _ us hl => match us, hl with | [_], _ => rfl
  have m_Law := PySem.W.mg_of X G a21
  have n_len := PySem.W.mg_none_of X G z_len
  have n_int := PySem.W.mg_none_of X G z_int
  have n_range := PySem.W.mg_none_of X G z_range
  have n_abs := PySem.W.mg_none_of X G z_abs
  have n_tuple := PySem.W.mg_none_of X G z_tuple
  have n_max := PySem.W.mg_none_of X G z_max
  have n_sum := PySem.W.mg_none_of X G z_sum
  have n_gcd := PySem.W.mg_of X G z_gcd
  have n_isqrt := PySem.W.mg_of X G z_isqrt
  refine ⟨PySem.W.fnOf "law" "law" (defArgs sLaw) (defBody sLaw) (defScope sLaw) .none kV21 dc21 pm21 an21 cd21 ct21, fun s v => .of_eq rfl, fun base _ _ => ?_⟩
  let M : Md := ⟨l.prog, w, K, mg, base⟩
  have qS : FnD M 1 "_law_sign" 1 SSign := fSign F_LSign m_LSign b_LSign
  have qC : FnD M 1 "_law_cell_at" 2 SCell := fCell n_len F_LCellAt m_LCellAt b_LCellAt
  have qD : FnD M 1 "_law_draw" 3 SDraw := fDraw n_int F_LDraw m_LDraw b_LDraw
  have qN : FnD M 2 "_law_number" 3 SNumber := fNumber n_int n_range qD F_LNumber m_LNumber b_LNumber
  have qX : FnM M 3 "_law_next" 1 SNext := fNext n_int qC qN F_LNext m_LNext b_LNext
  have qG : FnD M 1 "_law_common" 2 SCommon := fCommon n_abs n_range F_LCommon m_LCommon b_LCommon
  have qF : FnD M 2 "_law_frac" 2 SFrac := fFrac qG F_LFrac m_LFrac b_LFrac
  have qA : FnD M 2 "_law_at" 3 SAt := fAt qS F_LAt m_LAt b_LAt
  have qO : FnD M 1 "_law_root_of" 1 SRootOf := fRootOf n_range F_LRootOf m_LRootOf b_LRootOf
  have qP : FnM M 4 "_law_poly" 1 SPoly := fPoly n_range n_max n_tuple qX qG F_LPoly m_LPoly b_LPoly
  have qR : FnD M 3 "_law_roots" 1 SLRoots := fLRoots qF qO F_LRoots m_LRoots b_LRoots
  have qW : FnD M 3 "_law_span" 1 SSpan := fSpan n_abs n_range qA F_LSpan m_LSpan b_LSpan
  have qT : FnD M 4 "_law_sign_on" 2 SLSon := fLSon n_sum qA qW F_LSignOn m_LSignOn b_LSignOn
  have pS : FnD M 1 "sign_of" 1 SSign := fSignOf F_SignOf m_SignOf b_SignOf
  have pF : FnD M 1 "fraction" 2 SFraction := fFraction n_gcd F_Fraction m_Fraction b_Fraction
  have pU : FnD M 1 "undivided" 3 SUnd := fUnd n_gcd F_Undivided m_Undivided b_Undivided
  have pD : FnD M 1 "discriminant" 3 (S3 300 fun a b c => .int (dsc a b c)) := fDisc F_Discriminant m_Discriminant b_Discriminant
  have pQ : FnD M 2 "square_roots" 3 SSq := fSq n_isqrt pD pU pF F_SquareRoots m_SquareRoots b_SquareRoots
  have pR : FnD M 3 "roots" 1 SRoots := fRoots pQ pF F_Roots m_Roots b_Roots
  have pV : FnD M 2 "sign_of_surd" 3 (S3 2000 fun a b c => .int (surd a b c)) := fSurd pS F_SignOfSurd m_SignOfSurd b_SignOfSurd
  have pN : FnD M 3 "sign_on" 2 SSon := fSon pS pV pD F_SignOn m_SignOn b_SignOn
  exact fLaw (M := M) n_range pR qR qF qX qP pN qT F_Law
end K2
open PySem PySem.W PyProof.Rows
set_option maxHeartbeats 0 in
theorem PySem.Challenge.cw_justthepart_k02_whole_roots_holds : PySem.Challenge.rw_justthepart_k02_whole_roots.Holds := by
  w_on; o_law; k_head; (case hw => w_witness2)
  k_fill
  refine L2.walk_of (l := PySem.Challenge.rw_justthepart_k02_whole_roots) (n := 63) (k := 5) (x := "script") (CX := fun _ => L2.CX0) (sp := fun w => Vc.DS _ 1 (Vc.LawS 63)) rfl (by decide) rfl ⟨rfl, by decide, by decide⟩ (fun w h Y => PySem.W.kIn_of Y) ?F (fun _ _ a ns hl _ hS => Vc.law_sp hl hS) (fun _ _ _ _ _ h => h)
  case F =>
    intro w mg fa h KX G hmg
    refine' K2.all_mk KX G hmg ?a0 ?l0 ?c0 ?k0 ?a1 ?l1 ?c1 ?k1 ?a2 ?l2 ?c2 ?k2 ?a3 ?l3 ?c3 ?k3 ?a4 ?l4 ?c4 ?k4 ?a5 ?l5 ?c5 ?k5 ?a6 ?l6 ?c6 ?k6 ?a7 ?l7 ?c7 ?k7 ?a8 ?l8 ?c8 ?k8 ?a9 ?l9 ?c9 ?k9 ?a10 ?l10 ?c10 ?k10 ?a11 ?l11 ?c11 ?k11 ?a12 ?l12 ?c12 ?k12 ?a13 ?l13 ?c13 ?k13 ?a14 ?l14 ?c14 ?k14 ?a15 ?l15 ?c15 ?k15 ?a16 ?l16 ?c16 ?k16 ?a17 ?l17 ?c17 ?k17 ?a18 ?l18 ?c18 ?k18 ?a19 ?l19 ?c19 ?k19 ?a20 ?l20 ?c20 ?k20 ?a21 ?l21 ?c21 ?k21 ?z_len ?z_int ?z_range ?z_abs ?z_tuple ?z_max ?z_sum ?z_gcd ?z_isqrt
    (case a0 => k_is); (case l0 => k_is); (case c0 => k_is); (case k0 => k_is); (case a1 => k_is); (case l1 => k_is); (case c1 => k_is); (case k1 => k_is); (case a2 => k_is); (case l2 => k_is); (case c2 => k_is); (case k2 => k_is); (case a3 => k_is); (case l3 => k_is); (case c3 => k_is); (case k3 => k_is); (case a4 => k_is); (case l4 => k_is); (case c4 => k_is); (case k4 => k_is); (case a5 => k_is); (case l5 => k_is); (case c5 => k_is); (case k5 => k_is); (case a6 => k_is); (case l6 => k_is); (case c6 => k_is); (case k6 => k_is); (case a7 => k_is); (case l7 => k_is); (case c7 => k_is); (case k7 => k_is); (case a8 => k_is); (case l8 => k_is); (case c8 => k_is); (case k8 => k_is); (case a9 => k_is); (case l9 => k_is); (case c9 => k_is); (case k9 => k_is); (case a10 => k_is); (case l10 => k_is); (case c10 => k_is); (case k10 => k_is); (case a11 => k_is); (case l11 => k_is); (case c11 => k_is); (case k11 => k_is); (case a12 => k_is); (case l12 => k_is); (case c12 => k_is); (case k12 => k_is); (case a13 => k_is); (case l13 => k_is); (case c13 => k_is); (case k13 => k_is); (case a14 => k_is); (case l14 => k_is); (case c14 => k_is); (case k14 => k_is); (case a15 => k_is); (case l15 => k_is); (case c15 => k_is); (case k15 => k_is); (case a16 => k_is); (case l16 => k_is); (case c16 => k_is); (case k16 => k_is); (case a17 => k_is); (case l17 => k_is); (case c17 => k_is); (case k17 => k_is); (case a18 => k_is); (case l18 => k_is); (case c18 => k_is); (case k18 => k_is); (case a19 => k_is); (case l19 => k_is); (case c19 => k_is); (case k19 => k_is); (case a20 => k_is); (case l20 => k_is); (case c20 => k_is); (case k20 => k_is); (case a21 => k_is); (case l21 => k_is); (case c21 => k_is); (case k21 => k_is); (case z_len => k_is); (case z_int => k_is); (case z_range => k_is); (case z_abs => k_is); (case z_tuple => k_is); (case z_max => k_is); (case z_sum => k_is); (case z_gcd => k_is); (case z_isqrt => k_is)
