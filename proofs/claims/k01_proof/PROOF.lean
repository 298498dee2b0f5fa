import PyProof.Rows.All
import Wide.All
import OpenK.AllK
import Wide.FinOn
import HandS.ForMost
import HandS.Evl
import HandS.Wide
import HandS.NoneIn
import HandS.IsInst
import HandS.Gcd
import KE.KMathGC
import PySem.Challenge.RW_justthepart_k01_whole_polynomials
set_option Elab.async false
set_option linter.all false
set_option maxRecDepth 100000
set_option maxHeartbeats 4000000
/-! Vc: a calculus of what is wanted behind a piece of a program, over data (own work). -/
namespace Vc
open PySem PySem.Spec PyProof.Rows L2
open Evl (Ex)

abbrev D := PyData
/-- what a slot holds: nothing known, data that nobody changes, a list of its own -/
inductive Sl where
  | no
  | dat (d : D)
  | own (a : Addr) (ds : List D)
abbrev En := List Sl
def Own (ρ : En) (a : Addr) : Prop := ∃ (i : Nat) (ds : List D), ρ[i]? = some (Sl.own a ds)

/-! ### data in a growing heap -/
theorem ex_l {K : PySem.W.Frag} {H H' : Hp} {a : Addr} {xs : List V} (e : Ex H H') (h : SqL K H a xs) : SqL K H' a xs := Evl.ex_l e h
theorem ex_t {K : PySem.W.Frag} {H H' : Hp} {a : Addr} {xs : List V} (e : Ex H H') (h : SqT K H a xs) : SqT K H' a xs := Evl.ex_t e h
mutual
theorem Dp.mono {K : PySem.W.Frag} {H H' : Hp} (e : Ex H H') : ∀ {v : V} {d : D}, Dp K H v d → Dp K H' v d
  | _, _, .non => .non
  | _, _, .bl b => .bl b
  | _, _, .int i => .int i
  | _, _, .str x => .str x
  | _, _, .lst h hs => .lst (ex_l e h) (DpAll.mono e hs)
  | _, _, .tup h hs => .tup (ex_t e h) (DpAll.mono e hs)
theorem DpAll.mono {K : PySem.W.Frag} {H H' : Hp} (e : Ex H H') : ∀ {vs : List V} {ds : List D}, DpAll K H vs ds → DpAll K H' vs ds
  | _, _, .nil => .nil
  | _, _, .cons h hs => .cons (Dp.mono e h) (DpAll.mono e hs)
end
theorem DpAll.len {K : PySem.W.Frag} {H : Hp} : ∀ {vs : List V} {ds : List D}, DpAll K H vs ds → vs.length = ds.length
  | _, _, .nil => rfl
  | _, _, .cons _ hs => congrArg (· + 1) (DpAll.len hs)
theorem DpAll.get {K : PySem.W.Frag} {H : Hp} : ∀ {vs : List V} {ds : List D} {i : Nat} {d : D}, DpAll K H vs ds → ds[i]? = some d → ∃ v, vs[i]? = some v ∧ Dp K H v d
  | _, _, _, _, .nil, h => by simp at h
  | _, _, 0, _, .cons (v := v) h _, e => ⟨v, rfl, by cases e; exact h⟩
  | _, _, i + 1, _, .cons _ hs, e => by
    obtain ⟨v, h1, h2⟩ := DpAll.get (i := i) hs (by simpa using e)
    exact ⟨v, by simpa using h1, h2⟩
theorem DpAll.getV {K : PySem.W.Frag} {H : Hp} : ∀ {vs : List V} {ds : List D} {i : Nat} {v : V}, DpAll K H vs ds → vs[i]? = some v → ∃ d, ds[i]? = some d ∧ Dp K H v d
  | _, _, _, _, .nil, h => by simp at h
  | _, _, 0, _, .cons (d := d) h _, e => ⟨d, rfl, by cases e; exact h⟩
  | _, _, i + 1, _, .cons _ hs, e => by
    obtain ⟨v, h1, h2⟩ := DpAll.getV (i := i) hs (by simpa using e)
    exact ⟨v, by simpa using h1, h2⟩
theorem DpAll.app {K : PySem.W.Frag} {H : Hp} : ∀ {vs ws : List V} {ds es : List D}, DpAll K H vs ds → DpAll K H ws es → DpAll K H (vs ++ ws) (ds ++ es)
  | _, _, _, _, .nil, h => h
  | _, _, _, _, .cons h hs, k => .cons h (DpAll.app hs k)
theorem DpAll.set {K : PySem.W.Frag} {H : Hp} {v : V} {d : D} (hd : Dp K H v d) : ∀ {vs : List V} {ds : List D} (i : Nat), DpAll K H vs ds → DpAll K H (vs.set i v) (ds.set i d)
  | _, _, _, .nil => .nil
  | _, _, 0, .cons _ hs => .cons hd hs
  | _, _, i + 1, .cons h hs => .cons h (DpAll.set hd i hs)
theorem DpAll.take {K : PySem.W.Frag} {H : Hp} : ∀ {vs : List V} {ds : List D} (n : Nat), DpAll K H vs ds → DpAll K H (vs.take n) (ds.take n)
  | _, _, 0, _ => .nil
  | _, _, _ + 1, .nil => .nil
  | _, _, n + 1, .cons h hs => .cons h (DpAll.take n hs)
theorem DpAll.drop {K : PySem.W.Frag} {H : Hp} : ∀ {vs : List V} {ds : List D} (n : Nat), DpAll K H vs ds → DpAll K H (vs.drop n) (ds.drop n)
  | _, _, 0, h => h
  | _, _, _ + 1, .nil => .nil
  | _, _, n + 1, .cons _ hs => DpAll.drop n hs
theorem dp_int {K : PySem.W.Frag} {H : Hp} {v : V} {i : Int} (h : Dp K H v (.int i)) : v = .int i := by cases h; rfl
theorem dp_bool {K : PySem.W.Frag} {H : Hp} {v : V} {b : Bool} (h : Dp K H v (.bool b)) : v = .bl b := by cases h; rfl
theorem dp_str {K : PySem.W.Frag} {H : Hp} {v : V} {x : Str} (h : Dp K H v (.str x)) : v = .str x := by cases h; rfl
theorem dp_tup {K : PySem.W.Frag} {H : Hp} {v : V} {ds : List D} (h : Dp K H v (.tuple ds)) : ∃ a xs, v = .ref a ∧ SqT K H a xs ∧ DpAll K H xs ds := by
  cases h with
  | tup h hs => exact ⟨_, _, rfl, h, hs⟩
theorem dp_lst {K : PySem.W.Frag} {H : Hp} {v : V} {ds : List D} (h : Dp K H v (.list ds)) : ∃ a xs, v = .ref a ∧ SqL K H a xs ∧ DpAll K H xs ds := by
  cases h with
  | lst h hs => exact ⟨_, _, rfl, h, hs⟩
theorem dp_ints {K : PySem.W.Frag} {H : Hp} : ∀ (ns : List Int), DpAll K H (ns.map V.int) (ns.map PyData.int)
  | [] => .nil
  | n :: r => .cons (.int n) (dp_ints r)

/-! ### what holds between the slots, the heap and what is known -/
structure Rel (K : PySem.W.Frag) (B H : Hp) (σ : L2.St) (ρ : En) : Prop where
  ex : Ex B H
  len : ρ.length = σ.length
  dat : ∀ (i : Nat) d, ρ[i]? = some (Sl.dat d) → ∃ v, σ[i]? = some (some v) ∧ Dp K B v d
  own : ∀ (i : Nat) a ds, ρ[i]? = some (Sl.own a ds) → σ[i]? = some (some (V.ref a)) ∧ B a = none ∧ ∃ vs, H a = some (.lst vs) ∧ DpAll K B vs ds
  dis : ∀ (i j : Nat) a ds es, ρ[i]? = some (Sl.own a ds) → ρ[j]? = some (Sl.own a es) → i = j
/-- from (B, H, ρ) to (B', H', ρ') -/
structure Go (B H : Hp) (ρ : En) (B' H' : Hp) (ρ' : En) : Prop where
  ex : Ex B B'
  keep : ∀ a o, H a = some o → ¬ Own ρ a → H' a = some o
  out : ∀ a, H a ≠ none → B a = none → ¬ Own ρ a → B' a = none
  own : ∀ a, Own ρ' a → Own ρ a ∨ H a = none
  dom : ∀ a, H' a = none → H a = none
theorem Go.refl {B H : Hp} {ρ : En} : Go B H ρ B H ρ := ⟨Evl.Ex.refl B, fun _ _ h _ => h, fun _ _ h _ => h, fun _ h => .inl h, fun _ h => h⟩
theorem Go.trans {B H B1 H1 B2 H2 : Hp} {ρ ρ1 ρ2 : En} (p : Go B H ρ B1 H1 ρ1) (q : Go B1 H1 ρ1 B2 H2 ρ2) : Go B H ρ B2 H2 ρ2 where
  ex := p.ex.trans q.ex
  keep := fun a o h n => q.keep a o (p.keep a o h n) fun z => (p.own a z).elim n fun e => by rw [e] at h; cases h
  out := fun a h b n => by
    obtain ⟨o, ho⟩ := Option.ne_none_iff_exists'.mp h
    refine q.out a ?_ (p.out a h b n) fun z => (p.own a z).elim n fun e => h e
    rw [p.keep a o ho n]
    exact fun z => by cases z
  own := fun a z => by
    rcases q.own a z with z | z
    · exact p.own a z
    · exact .inr (p.dom a z)
  dom := fun a z => p.dom a (q.dom a z)
/-- what is known grows, the heap grows, nothing else -/
theorem Rel.grow {K : PySem.W.Frag} {B H B' H' : Hp} {σ : L2.St} {ρ : En} (r : Rel K B H σ ρ) (eB : Ex B B') (e : Ex B' H') (eH : Ex H H') (out : ∀ a, H a ≠ none → B a = none → B' a = none) : Rel K B' H' σ ρ where
  ex := e
  len := r.len
  dat := fun i d h => let ⟨v, h1, h2⟩ := r.dat i d h; ⟨v, h1, Dp.mono eB h2⟩
  own := fun i a ds h => by
    obtain ⟨h1, h2, vs, h3, h4⟩ := r.own i a ds h
    exact ⟨h1, out a (by rw [h3]; exact fun z => by cases z) h2, vs, eH a _ h3, DpAll.mono eB h4⟩
  dis := r.dis
theorem Go.grow {B H B' H' : Hp} {ρ : En} (eB : Ex B B') (eH : Ex H H') (out : ∀ a, H a ≠ none → B a = none → B' a = none) : Go B H ρ B' H' ρ := ⟨eB, fun a o h _ => eH a o h, fun a h b _ => out a h b, fun _ z => .inl z, fun a z => by
  cases e : H a with
  | none => rfl
  | some u =>
    rw [eH a u e] at z
    cases z⟩
/-- a new object comes into the heap and into what is known -/
theorem new_both {K : PySem.W.Frag} {B H : Hp} {σ : L2.St} {ρ : En} {p : Addr} {o : HO} (r : Rel K B H σ ρ) (hp : H p = none) : Rel K (upd B p o) (upd H p o) σ ρ ∧ Go B H ρ (upd B p o) (upd H p o) ρ := by
  have bp : B p = none := by
    cases e : B p with
    | none => rfl
    | some u =>
      rw [r.ex p u e] at hp
      cases hp
  have eB : Ex B (upd B p o) := Evl.Ex.new bp
  have eH : Ex H (upd H p o) := Evl.Ex.new hp
  have out : ∀ a, H a ≠ none → B a = none → upd B p o a = none := fun a h b => by
    rw [upd_ne (fun z => h (by rw [z]; exact hp))]
    exact b
  refine ⟨r.grow eB (fun a u h => ?_) eH out, Go.grow eB eH out⟩
  by_cases z : a = p
  · rw [z, upd_same] at h ⊢
    exact h
  · rw [upd_ne z] at h ⊢
    exact r.ex a u h
/-- a new object comes into the heap alone -/
theorem new_one {K : PySem.W.Frag} {B H : Hp} {σ : L2.St} {ρ : En} {p : Addr} {o : HO} (r : Rel K B H σ ρ) (hp : H p = none) : Rel K B (upd H p o) σ ρ ∧ Go B H ρ B (upd H p o) ρ ∧ B p = none := by
  have bp : B p = none := by
    cases e : B p with
    | none => rfl
    | some u =>
      rw [r.ex p u e] at hp
      cases hp
  have eH : Ex H (upd H p o) := Evl.Ex.new hp
  exact ⟨r.grow (Evl.Ex.refl B) (r.ex.trans eH) eH (fun a _ b => b), Go.grow (Evl.Ex.refl B) eH (fun a _ b => b), bp⟩

/-! ### readings by themselves -/
def eSem (X : Cx) (e : Expr) : TE := fun σ H Q => ∀ pins s, Inv X pins σ H s → wpAny (model X.prog X.w) X.A (eval e X.env) (EP X pins σ Q) X.xe s
def bSem (X : Cx) (e : Expr) : TT := fun σ H Q => ∀ pins s, Inv X pins σ H s → wpAny (model X.prog X.w) X.A (isTrue e X.env (eval e X.env)) (TP X pins σ Q) X.xe s
def wSem (X : Cx) (e : Expr) : TT := fun σ H Q => ∀ whole pins s, Inv X pins σ H s → wpAny (model X.prog X.w) X.A (isTrue e X.env whole) (TP X pins σ Q) X.xe s
def aSem (X : Cx) (es : List Expr) : TA := fun σ H Q => ∀ pos pins s, Inv X pins σ H s → wpAny (model X.prog X.w) X.A (spliced (backTo pos (starEach es X.env))) (AP X pins σ Q) X.xe s
def sSem (X : Cx) (st : Stmt) : TS := fun Z σ H => ∀ pins s, Inv X pins σ H s → wpAny (model X.prog X.w) X.A (exec st X.env) (SP X pins Z) X.xe s
def ssSem (X : Cx) (st : List Stmt) : TS := fun Z σ H => ∀ pins s, Inv X pins σ H s → wpAny (model X.prog X.w) X.A (execs st X.env) (SP X pins Z) X.xe s
def gSem (X : Cx) (tg : Expr) : TG := fun v σ H Q => ∀ pins s u, Inv X pins σ H s → RelV v u → wpAny (model X.prog X.w) X.A (assign tg X.env u) (fun _ s' => ∃ σ' H', Inv X pins σ' H' s' ∧ Q σ' H') X.xe s
def gsSem (X : Cx) (ts : List Expr) : TGs := fun vs σ H Q => ∀ pins s us, Inv X pins σ H s → Vals vs us → wpAny (model X.prog X.w) X.A (assignInOrder ((assignEach ts X.env).map (·.2)) us) (fun _ s' => ∃ σ' H', Inv X pins σ' H' s' ∧ Q σ' H') X.xe s
section
variable {X : Cx} {e : Expr} {es : List Expr} {st : Stmt} {sts : List Stmt}
theorem pe_sem : PE X e (eSem X e) := ⟨fun pins s σ H Q I h => h pins s I⟩
theorem pb_sem : PT X e (bSem X e) := ⟨fun pins s σ H Q I h => h pins s I⟩
theorem pw_sem : PW X e (wSem X e) := ⟨fun wh pins s σ H Q I h => h wh pins s I⟩
theorem pa_sem : PA X es (aSem X es) := ⟨fun pos pins s σ H Q I h => h pos pins s I⟩
theorem ps_sem : PS X st (sSem X st) := ⟨fun pins s σ H Q I h => h pins s I⟩
theorem pss_sem : PSs X sts (ssSem X sts) := ⟨fun pins s σ H Q I h => h pins s I⟩
theorem pg_sem : PG X e (gSem X e) := ⟨fun pins s σ H v u Q I r h => h pins s u I r⟩
theorem pgs_sem : PGs X es (gsSem X es) := ⟨fun pins s σ H v u Q I r h => h pins s u I r⟩
theorem PE.sem {t : TE} (h : PE X e t) {σ : L2.St} {H : Hp} {Q : VK} (q : t σ H Q) : eSem X e σ H Q := fun pins s I => h.run pins s σ H Q I q
theorem PT.sem {t : TT} (h : PT X e t) {σ : L2.St} {H : Hp} {Q : Bool → Hp → Prop} (q : t σ H Q) : bSem X e σ H Q := fun pins s I => h.run pins s σ H Q I q
theorem PW.sem {t : TT} (h : PW X e t) {σ : L2.St} {H : Hp} {Q : Bool → Hp → Prop} (q : t σ H Q) : wSem X e σ H Q := fun wh pins s I => h.run wh pins s σ H Q I q
theorem PA.sem {t : TA} (h : PA X es t) {σ : L2.St} {H : Hp} {Q : List V → Hp → Prop} (q : t σ H Q) : aSem X es σ H Q := fun pos pins s I => h.run pos pins s σ H Q I q
theorem PS.sem {t : TS} (h : PS X st t) {σ : L2.St} {H : Hp} {Z : Ends} (q : t Z σ H) : sSem X st Z σ H := fun pins s I => h.run pins s σ H Z I q
theorem PSs.sem {t : TS} (h : PSs X sts t) {σ : L2.St} {H : Hp} {Z : Ends} (q : t Z σ H) : ssSem X sts Z σ H := fun pins s I => h.run pins s σ H Z I q
theorem PG.sem {t : TG} (h : PG X e t) {σ : L2.St} {H : Hp} {v : V} {Q : L2.St → Hp → Prop} (q : t v σ H Q) : gSem X e v σ H Q := fun pins s u I r => h.run pins s σ H v u Q I r q
theorem PGs.sem {t : TGs} (h : PGs X es t) {σ : L2.St} {H : Hp} {vs : List V} {Q : L2.St → Hp → Prop} (q : t vs σ H Q) : gsSem X es vs σ H Q := fun pins s u I r => h.run pins s σ H vs u Q I r q
end

/-! ### the judgements -/
/-- an expression's value, as data; what is behind it -/
structure VD (X : Cx) (e : Expr) (ρ : En) (P : D → En → Prop) : Prop where
  run : ∀ B H σ (Q : VK), Rel X.K B H σ ρ →
  (∀ v d B' H' ρ', P d ρ' → Dp X.K B' v d → Go B H ρ B' H' ρ' → Rel X.K B' H' σ ρ' → Q v H') → eSem X e σ H Q
/-- a list that was just made -/
structure VN (X : Cx) (e : Expr) (ρ : En) (P : List D → En → Prop) : Prop where
  run : ∀ B H σ (Q : VK), Rel X.K B H σ ρ →
  (∀ p vs ds B' H' ρ', P ds ρ' → H p = none → H' p = some (.lst vs) → B' p = none → ¬ Own ρ' p → DpAll X.K B' vs ds → Go B H ρ B' H' ρ' → Rel X.K B' H' σ ρ' → Q (.ref p) H') → eSem X e σ H Q
structure VT (X : Cx) (e : Expr) (ρ : En) (P : Bool → En → Prop) : Prop where
  run : ∀ B H σ (Q : Bool → Hp → Prop), Rel X.K B H σ ρ →
  (∀ b B' H' ρ', P b ρ' → Go B H ρ B' H' ρ' → Rel X.K B' H' σ ρ' → Q b H') → bSem X e σ H Q
structure VW (X : Cx) (e : Expr) (ρ : En) (P : Bool → En → Prop) : Prop where
  run : ∀ B H σ (Q : Bool → Hp → Prop), Rel X.K B H σ ρ →
  (∀ b B' H' ρ', P b ρ' → Go B H ρ B' H' ρ' → Rel X.K B' H' σ ρ' → Q b H') → wSem X e σ H Q
structure VA (X : Cx) (es : List Expr) (ρ : En) (P : List D → En → Prop) : Prop where
  run : ∀ B H σ (Q : List V → Hp → Prop), Rel X.K B H σ ρ →
  (∀ vs ds B' H' ρ', P ds ρ' → DpAll X.K B' vs ds → Go B H ρ B' H' ρ' → Rel X.K B' H' σ ρ' → Q vs H') → aSem X es σ H Q
/-- the ends of a block -/
structure Fin where
  nx : En → Prop
  rt : D → En → Prop
  bk : En → Prop := fun _ => False
  ct : En → Prop := fun _ => False
structure FinOk (K : PySem.W.Frag) (B H : Hp) (ρ : En) (F : Fin) (Z : Ends) : Prop where
  nx : ∀ B' H' σ' ρ', F.nx ρ' → Go B H ρ B' H' ρ' → Rel K B' H' σ' ρ' → Z.nx σ' H'
  rt : ∀ v d B' H' σ' ρ', F.rt d ρ' → Dp K B' v d → Go B H ρ B' H' ρ' → Rel K B' H' σ' ρ' → Z.rt v H'
  bk : ∀ B' H' σ' ρ', F.bk ρ' → Go B H ρ B' H' ρ' → Rel K B' H' σ' ρ' → Z.bk σ' H'
  ct : ∀ B' H' σ' ρ', F.ct ρ' → Go B H ρ B' H' ρ' → Rel K B' H' σ' ρ' → Z.ct σ' H'
structure VS (X : Cx) (st : Stmt) (ρ : En) (F : Fin) : Prop where
  run : ∀ B H σ (Z : Ends), Rel X.K B H σ ρ → FinOk X.K B H ρ F Z → sSem X st Z σ H
structure VSs (X : Cx) (sts : List Stmt) (ρ : En) (F : Fin) : Prop where
  run : ∀ B H σ (Z : Ends), Rel X.K B H σ ρ → FinOk X.K B H ρ F Z → ssSem X sts Z σ H
/-- data into a target -/
structure VG (X : Cx) (tg : Expr) (d : D) (ρ : En) (P : En → Prop) : Prop where
  run : ∀ v B H σ (Q : L2.St → Hp → Prop), Rel X.K B H σ ρ → Dp X.K B v d →
  (∀ B' H' σ' ρ', P ρ' → Go B H ρ B' H' ρ' → Rel X.K B' H' σ' ρ' → Q σ' H') → gSem X tg v σ H Q
structure VGs (X : Cx) (tg : List Expr) (ds : List D) (ρ : En) (P : En → Prop) : Prop where
  run : ∀ vs B H σ (Q : L2.St → Hp → Prop), Rel X.K B H σ ρ → DpAll X.K B vs ds →
  (∀ B' H' σ' ρ', P ρ' → Go B H ρ B' H' ρ' → Rel X.K B' H' σ' ρ' → Q σ' H') → gsSem X tg vs σ H Q

theorem FinOk.go {K : PySem.W.Frag} {B H B1 H1 : Hp} {ρ ρ1 : En} {F : Fin} {Z : Ends} (f : FinOk K B H ρ F Z) (g : Go B H ρ B1 H1 ρ1) : FinOk K B1 H1 ρ1 F Z where
  nx := fun B' H' σ' ρ' p q r => f.nx B' H' σ' ρ' p (g.trans q) r
  rt := fun v d B' H' σ' ρ' p h q r => f.rt v d B' H' σ' ρ' p h (g.trans q) r
  bk := fun B' H' σ' ρ' p q r => f.bk B' H' σ' ρ' p (g.trans q) r
  ct := fun B' H' σ' ρ' p q r => f.ct B' H' σ' ρ' p (g.trans q) r

/-! ### the context -/
inductive At {α : Type} : List α → Nat → α → Prop where
  | here {x : α} {l : List α} : At (x :: l) 0 x
  | there {x y : α} {l : List α} {i : Nat} : At l i x → At (y :: l) (i + 1) x
theorem At.get {α : Type} {l : List α} {i : Nat} {x : α} (h : At l i x) : l[i]? = some x := by
  induction h with
  | here => rfl
  | there _ ih => simpa using ih
theorem At.mem {α : Type} {l : List α} {i : Nat} {x : α} (h : At l i x) : x ∈ l := by
  induction h with
  | here => exact List.mem_cons_self
  | there _ ih => exact List.mem_cons_of_mem _ ih
/-- the program -/
structure Md where
  prog : Program
  w : World
  K : PySem.W.Frag
  mg : Str → Option Value
  base : Heap
def mdOf (X : Cx) : Md := ⟨X.prog, X.w, X.K, X.mg, X.base⟩
/-- a def's scope, its names by slot (seen in its body or not, stored there or not), its global names -/
structure Cst (X : Cx) (M : Md) (sc : Scope) (NK : List (Str × Bool × Bool)) (G : List Str) (k : Nat) : Prop where
  m : mdOf X = M
  s : X.env.scope = sc
  n : X.N = NK.map (·.1)
  vis : ∀ (i : Nat) x l, NK[i]? = some (x, true, l) → Vis X.env.scope x
  loc : ∀ (i : Nat) x v, NK[i]? = some (x, v, true) → L2.Loc X.env.scope x ∧ (X.fn x = true ∨ X.env.scope.names.lookup x = some .local)
  gl : ∀ x ∈ G, Gl X x
  nd : X.N.Nodup
  calm : X.calm = true
  room : Room k X.A
  xe : X.xe = fun _ _ => False
def kindOk (sc : Scope) (d : Bool) (q : Str × Bool × Bool) : Bool :=
  (!q.2.1 || (match sc.names.lookup q.1 with | some .local => true | some .cell => true | some .free => true | _ => false)) &&
  (!q.2.2 || (match sc.names.lookup q.1 with | some .local => true | some .cell => d | _ => false))
def chk (sc : Scope) (d : Bool) (NK : List (Str × Bool × Bool)) (G : List Str) : Bool :=
  NK.all (kindOk sc d) && G.all (fun x => match sc.names.lookup x with | some .globalImplicit => true | _ => false)
section
variable {X : Cx} {M : Md} {sc : Scope} {NK : List (Str × Bool × Bool)} {G : List Str} {k : Nat}
theorem chk_vis {sc : Scope} {d : Bool} (h : chk sc d NK G = true) (i : Nat) (x : Str) (l : Bool) (e : NK[i]? = some (x, true, l)) : Vis sc x := by
  unfold chk at h
  rw [Bool.and_eq_true, List.all_eq_true] at h
  have q := h.1 _ (List.mem_of_getElem? e)
  unfold kindOk at q
  rw [Bool.and_eq_true] at q
  have q1 := q.1
  simp only [Bool.not_true, Bool.false_or] at q1
  unfold Vis
  split at q1 <;> first
    | (rename_i e; exact .inl e)
    | (rename_i e; exact .inr (.inl e))
    | (rename_i e; exact .inr (.inr e))
    | cases q1
theorem chk_loc {sc : Scope} {d : Bool} (h : chk sc d NK G = true) (i : Nat) (x : Str) (v : Bool) (e : NK[i]? = some (x, v, true)) : L2.Loc sc x ∧ (d = true ∨ sc.names.lookup x = some .local) := by
  unfold chk at h
  rw [Bool.and_eq_true, List.all_eq_true] at h
  have q := h.1 _ (List.mem_of_getElem? e)
  unfold kindOk at q
  rw [Bool.and_eq_true] at q
  have q1 := q.2
  simp only [Bool.not_true, Bool.false_or] at q1
  unfold L2.Loc
  split at q1 <;> first
    | (rename_i e; exact ⟨.inl e, .inr e⟩)
    | (rename_i e; exact ⟨.inr e, .inl q1⟩)
    | cases q1
theorem chk_gl {sc : Scope} {d : Bool} (h : chk sc d NK G = true) (x : Str) (e : x ∈ G) : sc.names.lookup x = some .globalImplicit := by
  unfold chk at h
  rw [Bool.and_eq_true, List.all_eq_true, List.all_eq_true] at h
  have q := h.2 _ e
  split at q
  · assumption
  · cases q
theorem Cst.ix (C : Cst X M sc NK G k) {i : Nat} {x : Str} {v l : Bool} (h : At NK i (x, v, l)) : X.N[i]? = some x := by
  rw [C.n, List.getElem?_map, h.get]
  rfl
theorem Cst.vi (C : Cst X M sc NK G k) {i : Nat} {x : Str} {l : Bool} (h : At NK i (x, true, l)) : Vis X.env.scope x := C.vis i x l h.get
theorem Cst.lo (C : Cst X M sc NK G k) {i : Nat} {x : Str} {v : Bool} (h : At NK i (x, v, true)) : L2.Loc X.env.scope x := (C.loc i x v h.get).1
theorem Cst.fn (C : Cst X M sc NK G k) {i : Nat} {x : Str} {v : Bool} (h : At NK i (x, v, true)) : X.fn x = true ∨ X.env.scope.names.lookup x = some .local := (C.loc i x v h.get).2
theorem Cst.g (C : Cst X M sc NK G k) {i : Nat} {x : Str} (h : At G i x) : Gl X x := C.gl x h.mem
theorem Cst.hu (C : Cst X M sc NK G k) : X.A.units + 64 < cLine := C.room.units
theorem Cst.mg (C : Cst X M sc NK G k) {x : Str} {o : Option Value} (h : M.mg x = o) : X.mg x = o := by
  have e := C.m
  subst e
  exact h
theorem Cst.never (C : Cst X M sc NK G k) : PassesOwn (model X.prog X.w) X.A X.env X.xe := by
  rw [C.xe]
  exact PassesOwn.never
/-- a def's own body -/
theorem cst_def {P : Program} {w : World} {K : PySem.W.Frag} {mg : Str → Option Value} {base : Heap} {N : List Str} {qual : Str} {sc : Scope} {f : Addr} {cdv : Value} {A : Around} {outer : List Env} {s : Shared} {H : Hp} {E : XK}
    (hN : N = NK.map (·.1)) (nd : N.Nodup) (h : chk sc true NK G = true) (hr : Room k (A.deeper (envOfC qual sc s.heap.objs.size f cdv))) : Cst (cxOf CX0 P w K mg base N qual sc f cdv A outer s H E).nox ⟨P, w, K, mg, base⟩ sc NK G k where
  m := rfl
  s := rfl
  n := hN
  vis := chk_vis h
  loc := fun i x v e => ⟨(chk_loc h i x v e).1, .inl rfl⟩
  gl := fun x e => chk_gl h x e
  nd := nd
  calm := rfl
  room := hr
  xe := rfl
/-- a comprehension's block -/
theorem cst_blk {scope : Scope} {s : Shared} {H : Hp} {C : Addr} {cl : List (Str × Addr)} {fp : List Addr} {NK' : List (Str × Bool × Bool)} {G' : List Str} (c : Cst X M sc NK G k) 
    (hN : NK'.map (·.1) = NK.map (·.1)) (h : chk (relS scope sc) false NK' G' = true) : Cst (X.blk s H scope (compEnvC scope cl C X.env) fp) M (relS scope sc) NK' G' k where
  m := c.m
  s := by
    rw [← c.s]
    rfl
  n := c.n.trans hN.symm
  vis := fun i x l e => by
    have q := chk_vis h i x l e
    rw [← c.s] at q
    exact q
  loc := fun i x v e => by
    have q := chk_loc h i x v e
    rw [← c.s] at q
    refine ⟨q.1, .inr ?_⟩
    rcases q.2 with z | z
    · cases z
    · exact z
  gl := fun x e => by
    have q := chk_gl h x e
    rw [← c.s] at q
    exact q
  nd := c.nd
  calm := c.calm
  room := c.room
  xe := rfl
end

open PySem PySem.Spec PyProof.Rows L2
open Evl (Ex)

/-! ### operators on data -/
def binD : Operator → D → D → (D → Prop) → Prop
  | .Add, .int i, .int j, k => k (.int (i + j))
  | .Sub, .int i, .int j, k => k (.int (i - j))
  | .Mult, .int i, .int j, k => CMulW i j ∧ k (.int (i * j))
  | .FloorDiv, .int i, .int j, k => CDivW i j ∧ k (.int (i / j))
  | .Mod, .int i, .int j, k => 0 < j ∧ k (.int (i % j))
  | .Pow, .int i, .int j, k => CPow i j ∧ k (.int (i ^ j.toNat))
  | .LShift, .int i, .int j, k => CPow i j ∧ k (.int (i * 2 ^ j.toNat))
  | _, _, _, _ => False
def unD : UnaryOp → D → (D → Prop) → Prop
  | .USub, .int i, k => k (.int (-i))
  | _, _, _ => False
def cmpD : CmpOp → D → D → (Bool → Prop) → Prop
  | .Lt, .int i, .int j, k => k (decide (i < j))
  | .LtE, .int i, .int j, k => k (decide (i ≤ j))
  | .Gt, .int i, .int j, k => k (decide (j < i))
  | .GtE, .int i, .int j, k => k (decide (j ≤ i))
  | .Eq, .int i, .int j, k => k (decide (i = j))
  | .NotEq, .int i, .int j, k => k (!decide (i = j))
  | .Eq, x, y, k => SeqAt.shaped x = true ∧ SeqAt.shaped y = true ∧ k (PyData.eqv x y)
  | .NotEq, x, y, k => SeqAt.shaped x = true ∧ SeqAt.shaped y = true ∧ k (!PyData.eqv x y)
  | .In, .int i, .tuple ys, k => ∃ js : List Int, ys = js.map PyData.int ∧ k (decide (i ∈ js))
  | .NotIn, .int i, .tuple ys, k => ∃ js : List Int, ys = js.map PyData.int ∧ k (!decide (i ∈ js))
  | .In, .int i, .list ys, k => ∃ js : List Int, ys = js.map PyData.int ∧ k (decide (i ∈ js))
  | .NotIn, .int i, .list ys, k => ∃ js : List Int, ys = js.map PyData.int ∧ k (!decide (i ∈ js))
  | _, _, _, _ => False
def ixD : D → D → (D → Prop) → Prop
  | .tuple ds, .int n, k => ∃ d, atI ds n = some d ∧ k d
  | .list ds, .int n, k => ∃ d, atI ds n = some d ∧ k d
  | _, _, _ => False
/-- a two-place step by itself -/
def oSem (X : Cx) (f : Value → Value → Sem Value) : R2 := fun x y H Q => ∀ pins s σ v u, Inv X pins σ H s → RelV x v → RelV y u → wpAny (model X.prog X.w) X.A (f v u) (EP X pins σ Q) X.xe s
theorem or_sem {X : Cx} {f : Value → Value → Sem Value} : OpR X f (oSem X f) := fun pins s σ H x y v u Q I rx ry h => h pins s σ v u I rx ry
theorem OpR.sem {X : Cx} {f : Value → Value → Sem Value} {r : R2} (h : OpR X f r) {x y : V} {H : Hp} {Q : VK} (q : r x y H Q) : oSem X f x y H Q := fun pins s σ v u I rx ry => h pins s σ H x y v u Q I rx ry q

section
variable {X : Cx} {M : Md} {sc : Scope} {NK : List (Str × Bool × Bool)} {G : List Str} {k : Nat} {ρ : En} {P : D → En → Prop} {PB : Bool → En → Prop} {PL : List D → En → Prop} {pos : Pos} {a b c e : Expr} {es rest : List Expr} {x : Str}

/-! ### names, constants -/
theorem vd_name (C : Cst X M sc NK G k) {i : Nat} {l : Bool} {d : D} (ha : At NK i (x, true, l)) (h : ρ[i]? = some (.dat d)) (p : P d ρ) (hd : (x == ("__debug__" : Str)) = false := by decide) (hcd : (x == ("__classdict__" : Str)) = false := by decide) : VD X (.Name x pos) ρ P := VD.mk fun B H σ Q r q => by
  obtain ⟨v, h1, h2⟩ := r.dat i d h
  exact PE.sem (pe_var (C.ix ha) (C.vi ha) hd hcd) ⟨v, h1, q v d B H ρ p h2 Go.refl r⟩
theorem vd_int {i : Int} {j : Nat} (p : P (.int i) ρ) : VD X (.Constant (.int i) j pos) ρ P := VD.mk fun B H σ Q r q => PE.sem pe_int (q _ _ B H ρ p (.int i) Go.refl r)
theorem vd_bool {i : Bool} {j : Nat} (p : P (.bool i) ρ) : VD X (.Constant (.bool i) j pos) ρ P := VD.mk fun B H σ Q r q => PE.sem pe_bl (q _ _ B H ρ p (.bl i) Go.refl r)
theorem vd_none {j : Nat} (p : P .none ρ) : VD X (.Constant .none j pos) ρ P := VD.mk fun B H σ Q r q => PE.sem pe_non (q _ _ B H ρ p .non Go.refl r)
theorem vd_str {z : Str} {j : Nat} (p : P (.str z) ρ) : VD X (.Constant (.str z) j pos) ρ P := VD.mk fun B H σ Q r q => PE.sem pe_str (q _ _ B H ρ p (.str z) Go.refl r)
theorem VD.imp {P' : D → En → Prop} (h : VD X e ρ P) (w : ∀ d ρ', P d ρ' → P' d ρ') : VD X e ρ P' := VD.mk fun B H σ Q r q => h.run B H σ Q r fun v d B' H' ρ' p => q v d B' H' ρ' (w d ρ' p)
theorem VN.imp {P' : List D → En → Prop} (h : VN X e ρ PL) (w : ∀ d ρ', PL d ρ' → P' d ρ') : VN X e ρ P' := VN.mk fun B H σ Q r q => h.run B H σ Q r fun p vs d B' H' ρ' pp => q p vs d B' H' ρ' (w d ρ' pp)

/-! ### operators -/
theorem bin_ok {op : Operator} {x y : D} {vx vy : V} {B H : Hp} {σ : L2.St} {K : D → Prop} {Q : VK} (h : binD op x y K) (dx : Dp X.K B vx x) (dy : Dp X.K B vy y) (q : ∀ v d, K d → Dp X.K B v d → Q v H) : oSem X (binaryOp op) vx vy H Q := by
  unfold binD at h
  split at h <;> first
    | exact h.elim
    | (rw [dp_int dx, dp_int dy]; first
        | exact OpR.sem op_add ⟨_, _, rfl, rfl, q _ _ h (.int _)⟩
        | exact OpR.sem op_sub ⟨_, _, rfl, rfl, q _ _ h (.int _)⟩
        | exact OpR.sem op_mulW ⟨_, _, rfl, rfl, h.1, q _ _ h.2 (.int _)⟩
        | exact OpR.sem op_fdivW ⟨_, _, rfl, rfl, h.1, q _ _ h.2 (.int _)⟩
        | exact OpR.sem op_mod ⟨_, _, rfl, rfl, h.1, q _ _ h.2 (.int _)⟩
        | exact OpR.sem op_pow ⟨_, _, rfl, rfl, h.1, q _ _ h.2 (.int _)⟩
        | exact OpR.sem op_shl ⟨_, _, rfl, rfl, h.1, q _ _ h.2 (.int _)⟩)
theorem vd_bin {op : Operator} (h : VD X a ρ fun x ρ1 => VD X b ρ1 fun y ρ2 => binD op x y fun d => P d ρ2) : VD X (.BinOp a op b pos) ρ P := VD.mk fun B H σ Q r q => by
  refine PE.sem (pe_op or_sem pe_sem pe_sem) ?_
  refine h.run B H σ _ r fun vx x B1 H1 ρ1 p1 dx g1 r1 => ?_
  refine p1.run B1 H1 σ _ r1 fun vy y B2 H2 ρ2 p2 dy g2 r2 => ?_
  exact bin_ok (σ := σ) p2 (Dp.mono g2.ex dx) dy fun v d kd dv => q v d B2 H2 ρ2 kd dv (g1.trans g2) r2
theorem vd_neg (h : VD X a ρ fun x ρ1 => ∃ i, x = .int i ∧ P (.int (-i)) ρ1) : VD X (.UnaryOp .USub a pos) ρ P := VD.mk fun B H σ Q r q => by
  refine PE.sem (pe_un un_neg pe_sem) ?_
  refine h.run B H σ _ r fun vx x B1 H1 ρ1 p1 dx g1 r1 => ?_
  obtain ⟨i, rfl, p⟩ := p1
  exact ⟨i, dp_int dx, q _ _ B1 H1 ρ1 p (.int _) g1 r1⟩
theorem eqV_int {K : PySem.W.Frag} {B : Hp} {i : Int} : ∀ {js : List Int} {xs : List V}, DpAll K B xs (js.map PyData.int) → inV (.int i) xs = decide (i ∈ js) ∧ xs.all flatV = true
  | [], _, .nil => ⟨by unfold inV; simp, rfl⟩
  | j :: js, _, .cons (v := v) h hs => by
    obtain ⟨h1, h2⟩ := eqV_int (i := i) hs
    have hv := dp_int h
    subst hv
    refine ⟨?_, ?_⟩
    · unfold inV at h1 ⊢
      rw [List.any_cons, h1]
      by_cases e : j = i
      · subst e
        simp [eqV]
      · have e2 : ¬ i = j := fun z => e z.symm
        simp [eqV, e, e2]
    · rw [List.all_cons, h2]
      rfl
theorem cmp_ok (C : Cst X M sc NK G k) {op : CmpOp} {x y : D} {vx vy : V} {B H : Hp} (eB : Ex B H) {K : Bool → Prop} {Q : VK} (h : cmpD op x y K) (dx : Dp X.K B vx x) (dy : Dp X.K B vy y) (q : ∀ b, K b → Q (.bl b) H) : oSem X (compareOp op) vx vy H Q := by
  unfold cmpD at h
  split at h
  · rw [dp_int dx, dp_int dy]; exact OpR.sem op_lt ⟨_, _, rfl, rfl, q _ h⟩
  · rw [dp_int dx, dp_int dy]; exact OpR.sem op_le ⟨_, _, rfl, rfl, q _ h⟩
  · rw [dp_int dx, dp_int dy]; exact OpR.sem op_gt ⟨_, _, rfl, rfl, q _ h⟩
  · rw [dp_int dx, dp_int dy]; exact OpR.sem op_ge ⟨_, _, rfl, rfl, q _ h⟩
  · rename_i i j
    rw [dp_int dx, dp_int dy]
    refine OpR.sem op_eq ⟨rfl, ?_⟩
    have e : decide (V.int i = V.int j) = decide (i = j) := by
      by_cases z : i = j
      · rw [z, decide_eq_true rfl, decide_eq_true rfl]
      · rw [decide_eq_false z, decide_eq_false (fun w => z (V.int.inj w))]
    rw [e]
    exact q _ h
  · rename_i i j
    rw [dp_int dx, dp_int dy]
    refine OpR.sem op_ne ⟨rfl, ?_⟩
    have e : decide (V.int i = V.int j) = decide (i = j) := by
      by_cases z : i = j
      · rw [z, decide_eq_true rfl, decide_eq_true rfl]
      · rw [decide_eq_false z, decide_eq_false (fun w => z (V.int.inj w))]
    rw [e]
    exact q _ h
  · exact OpR.sem (op_eqD C.hu) ⟨_, _, Dp.mono eB dx, Dp.mono eB dy, h.1, h.2.1, q _ h.2.2⟩
  · exact OpR.sem (op_neD C.hu) ⟨_, _, Dp.mono eB dx, Dp.mono eB dy, h.1, h.2.1, q _ h.2.2⟩
  · obtain ⟨js, rfl, kk⟩ := h
    obtain ⟨t, xs, rfl, hT, hx⟩ := dp_tup dy
    obtain ⟨e1, e2⟩ := eqV_int (i := by assumption) hx
    rw [dp_int dx]
    refine OpR.sem op_in_seq ⟨t, xs, rfl, .inr (ex_t eB hT), rfl, e2, ?_⟩
    rw [if_neg Bool.false_ne_true, e1]
    exact q _ kk
  · obtain ⟨js, rfl, kk⟩ := h
    obtain ⟨t, xs, rfl, hT, hx⟩ := dp_tup dy
    obtain ⟨e1, e2⟩ := eqV_int (i := by assumption) hx
    rw [dp_int dx]
    refine OpR.sem op_notIn_seq ⟨t, xs, rfl, .inr (ex_t eB hT), rfl, e2, ?_⟩
    rw [if_pos rfl, e1]
    exact q _ kk
  · obtain ⟨js, rfl, kk⟩ := h
    obtain ⟨t, xs, rfl, hT, hx⟩ := dp_lst dy
    obtain ⟨e1, e2⟩ := eqV_int (i := by assumption) hx
    rw [dp_int dx]
    refine OpR.sem op_in_seq ⟨t, xs, rfl, .inl (ex_l eB hT), rfl, e2, ?_⟩
    rw [if_neg Bool.false_ne_true, e1]
    exact q _ kk
  · obtain ⟨js, rfl, kk⟩ := h
    obtain ⟨t, xs, rfl, hT, hx⟩ := dp_lst dy
    obtain ⟨e1, e2⟩ := eqV_int (i := by assumption) hx
    rw [dp_int dx]
    refine OpR.sem op_notIn_seq ⟨t, xs, rfl, .inl (ex_l eB hT), rfl, e2, ?_⟩
    rw [if_pos rfl, e1]
    exact q _ kk
  · exact h.elim
theorem vd_cmp (C : Cst X M sc NK G k) {op : CmpOp} (h : VD X a ρ fun x ρ1 => VD X b ρ1 fun y ρ2 => cmpD op x y fun bb => P (.bool bb) ρ2) (hm : behindInMarks op b = false := by first | exact nobehind _ (by decide) (by decide) | rfl) : VD X (.Compare a [op] [b] pos) ρ P := VD.mk fun B H σ Q r q => by
  refine PE.sem (pe_cmpR or_sem pe_sem pe_sem hm) ?_
  refine h.run B H σ _ r fun vx x B1 H1 ρ1 p1 dx g1 r1 => ?_
  refine p1.run B1 H1 σ _ r1 fun vy y B2 H2 ρ2 p2 dy g2 r2 => ?_
  exact cmp_ok C r2.ex p2 (Dp.mono g2.ex dx) dy fun bb kb => q _ _ B2 H2 ρ2 kb (.bl bb) (g1.trans g2) r2

/-! ### tests -/
theorem vt_cmp (C : Cst X M sc NK G k) {op : CmpOp} (h : VD X a ρ fun x ρ1 => VD X b ρ1 fun y ρ2 => cmpD op x y fun bb => PB bb ρ2) (hm : behindInMarks op b = false := by first | exact nobehind _ (by decide) (by decide) | rfl) : VT X (.Compare a [op] [b] pos) ρ PB := VT.mk fun B H σ Q r q => by
  refine PT.sem (pt_cmpR or_sem pe_sem pe_sem hm) ?_
  refine h.run B H σ _ r fun vx x B1 H1 ρ1 p1 dx g1 r1 => ?_
  refine p1.run B1 H1 σ _ r1 fun vy y B2 H2 ρ2 p2 dy g2 r2 => ?_
  exact cmp_ok C r2.ex p2 (Dp.mono g2.ex dx) dy fun bb kb => ⟨bb, rfl, q bb B2 H2 ρ2 kb (g1.trans g2) r2⟩
theorem vt_val (h : VD X e ρ fun d ρ1 => ∃ bb, d = .bool bb ∧ PB bb ρ1) (he : ∀ whole, isTrue e X.env whole = (do let v ← whole; standAt e.pos; holding [v] (truthy v)) := by intro _; rfl) : VT X e ρ PB := VT.mk fun B H σ Q r q => by
  refine PT.sem (pt_val pe_sem he) ?_
  refine h.run B H σ _ r fun v d B1 H1 ρ1 p1 dx g1 r1 => ?_
  obtain ⟨bb, rfl, p⟩ := p1
  exact ⟨bb, dp_bool dx, q bb B1 H1 ρ1 p g1 r1⟩
theorem vt_w (h : VW X e ρ PB) : VT X e ρ PB := VT.mk fun B H σ Q r q => PT.sem (PW.pt pw_sem) (h.run B H σ Q r q)
theorem vt_not (h : VT X a ρ fun bb ρ1 => PB (!bb) ρ1) : VT X (.UnaryOp .Not a pos) ρ PB := VT.mk fun B H σ Q r q => PT.sem (pt_not pb_sem) (h.run B H σ _ r fun bb B1 H1 ρ1 p g r1 => q (!bb) B1 H1 ρ1 p g r1)
theorem vw_and1 (h : VT X a ρ PB) : VW X (.BoolOp .And [a] pos) ρ PB := VW.mk fun B H σ Q r q => PW.sem (pw_and1 pb_sem) (h.run B H σ Q r q)
theorem vw_or1 (h : VT X a ρ PB) : VW X (.BoolOp .Or [a] pos) ρ PB := VW.mk fun B H σ Q r q => PW.sem (pw_or1 pb_sem) (h.run B H σ Q r q)
theorem vw_and (h : VT X a ρ fun bb ρ1 => (bb = true → VW X (.BoolOp .And (b :: rest) pos) ρ1 PB) ∧ (bb = false → PB false ρ1)) : VW X (.BoolOp .And (a :: b :: rest) pos) ρ PB := VW.mk fun B H σ Q r q => by
  refine PW.sem (pw_and pb_sem pw_sem) ?_
  refine h.run B H σ _ r fun bb B1 H1 ρ1 p g1 r1 => ?_
  cases bb with
  | true => exact (p.1 rfl).run B1 H1 σ Q r1 fun b2 B2 H2 ρ2 p2 g2 r2 => q b2 B2 H2 ρ2 p2 (g1.trans g2) r2
  | false => exact q false B1 H1 ρ1 (p.2 rfl) g1 r1
theorem vw_or (h : VT X a ρ fun bb ρ1 => (bb = true → PB true ρ1) ∧ (bb = false → VW X (.BoolOp .Or (b :: rest) pos) ρ1 PB)) : VW X (.BoolOp .Or (a :: b :: rest) pos) ρ PB := VW.mk fun B H σ Q r q => by
  refine PW.sem (pw_or pb_sem pw_sem) ?_
  refine h.run B H σ _ r fun bb B1 H1 ρ1 p g1 r1 => ?_
  cases bb with
  | true => exact q true B1 H1 ρ1 (p.1 rfl) g1 r1
  | false => exact (p.2 rfl).run B1 H1 σ Q r1 fun b2 B2 H2 ρ2 p2 g2 r2 => q b2 B2 H2 ρ2 p2 (g1.trans g2) r2
theorem vd_if (h : VT X c ρ fun bb ρ1 => (bb = true → VD X a ρ1 P) ∧ (bb = false → VD X b ρ1 P)) : VD X (.IfExp c a b pos) ρ P := VD.mk fun B H σ Q r q => by
  refine PE.sem (pe_ifExp pb_sem pe_sem pe_sem) ?_
  refine h.run B H σ _ r fun bb B1 H1 ρ1 p g1 r1 => ?_
  cases bb with
  | true => exact (p.1 rfl).run B1 H1 σ Q r1 fun v d B2 H2 ρ2 p2 dd g2 r2 => q v d B2 H2 ρ2 p2 dd (g1.trans g2) r2
  | false => exact (p.2 rfl).run B1 H1 σ Q r1 fun v d B2 H2 ρ2 p2 dd g2 r2 => q v d B2 H2 ρ2 p2 dd (g1.trans g2) r2
theorem vd_one {op : BoolOp} (h : VD X a ρ P) : VD X (.BoolOp op [a] pos) ρ P := VD.mk fun B H σ Q r q => PE.sem (pe_one pe_sem) (h.run B H σ Q r q)
theorem vd_and (h : VD X a ρ fun d ρ1 => ∃ bb, d = .bool bb ∧ (bb = true → VD X (.BoolOp .And (b :: rest) pos) ρ1 P) ∧ (bb = false → P (.bool false) ρ1)) : VD X (.BoolOp .And (a :: b :: rest) pos) ρ P := VD.mk fun B H σ Q r q => by
  refine PE.sem (pe_and pe_sem pe_sem) ?_
  refine h.run B H σ _ r fun v d B1 H1 ρ1 p dx g1 r1 => ?_
  obtain ⟨bb, rfl, p1, p2⟩ := p
  refine ⟨bb, dp_bool dx, ?_⟩
  cases bb with
  | true => exact (p1 rfl).run B1 H1 σ Q r1 fun v d B2 H2 ρ2 p2 dd g2 r2 => q v d B2 H2 ρ2 p2 dd (g1.trans g2) r2
  | false => exact q _ _ B1 H1 ρ1 (p2 rfl) (.bl false) g1 r1
theorem vd_or (h : VD X a ρ fun d ρ1 => ∃ bb, d = .bool bb ∧ (bb = true → P (.bool true) ρ1) ∧ (bb = false → VD X (.BoolOp .Or (b :: rest) pos) ρ1 P)) : VD X (.BoolOp .Or (a :: b :: rest) pos) ρ P := VD.mk fun B H σ Q r q => by
  refine PE.sem (pe_or pe_sem pe_sem) ?_
  refine h.run B H σ _ r fun v d B1 H1 ρ1 p dx g1 r1 => ?_
  obtain ⟨bb, rfl, p1, p2⟩ := p
  refine ⟨bb, dp_bool dx, ?_⟩
  cases bb with
  | true => exact q _ _ B1 H1 ρ1 (p1 rfl) (.bl true) g1 r1
  | false => exact (p2 rfl).run B1 H1 σ Q r1 fun v d B2 H2 ρ2 p2 dd g2 r2 => q v d B2 H2 ρ2 p2 dd (g1.trans g2) r2
theorem vd_not (h : VD X a ρ fun d ρ1 => ∃ bb, d = .bool bb ∧ P (.bool (!bb)) ρ1) : VD X (.UnaryOp .Not a pos) ρ P := VD.mk fun B H σ Q r q => by
  refine PE.sem (pe_not pe_sem) ?_
  refine h.run B H σ _ r fun v d B1 H1 ρ1 p dx g1 r1 => ?_
  obtain ⟨bb, rfl, p1⟩ := p
  exact ⟨bb, dp_bool dx, q _ _ B1 H1 ρ1 p1 (.bl _) g1 r1⟩

/-! ### lists of arguments, displays -/
theorem va_nil (p : PL [] ρ) : VA X [] ρ PL := VA.mk fun B H σ Q r q => PA.sem pa_nil (q [] [] B H ρ p .nil Go.refl r)
theorem va_cons (h : VD X e ρ fun d ρ1 => VA X es ρ1 fun ds ρ2 => PL (d :: ds) ρ2) (hs : starEach (e :: es) X.env = (false, eval e X.env) :: starEach es X.env := by rfl) : VA X (e :: es) ρ PL := VA.mk fun B H σ Q r q => by
  refine PA.sem (pa_cons pe_sem pa_sem hs) ?_
  refine h.run B H σ _ r fun v d B1 H1 ρ1 p1 dv g1 r1 => ?_
  exact p1.run B1 H1 σ _ r1 fun vs ds B2 H2 ρ2 p2 dvs g2 r2 => q (v :: vs) (d :: ds) B2 H2 ρ2 p2 (.cons (Dp.mono g2.ex dv) dvs) (g1.trans g2) r2
theorem vd_tup {kk : Nat} (h : VA X es ρ fun ds ρ1 => ds.length ≤ 1000 ∧ P (.tuple ds) ρ1) : VD X (.Tuple es kk pos) ρ P := VD.mk fun B H σ Q r q => by
  refine PE.sem (pe_tup pa_sem) ?_
  refine h.run B H σ _ r fun vs ds B1 H1 ρ1 p1 dvs g1 r1 => ⟨?_, fun p hp => ?_⟩
  · rw [DpAll.len dvs]
    exact Nat.le_trans p1.1 (by decide)
  · obtain ⟨r2, g2⟩ := new_both (o := .tup vs) r1 hp
    exact q _ _ _ _ ρ1 p1.2 (.tup (.inl (.inl upd_same)) (DpAll.mono g2.ex dvs)) (g1.trans g2) r2
theorem vn_lst (h : VA X es ρ fun ds ρ1 => ds.length ≤ 1000 ∧ PL ds ρ1) : VN X (.List es pos) ρ PL := VN.mk fun B H σ Q r q => by
  refine PE.sem (pe_lst pa_sem) ?_
  refine h.run B H σ _ r fun vs ds B1 H1 ρ1 p1 dvs g1 r1 => ⟨?_, fun p hp => ?_⟩
  · rw [DpAll.len dvs]
    exact Nat.le_trans p1.1 (by decide)
  · obtain ⟨r2, g2, bp⟩ := new_one (o := .lst vs) r1 hp
    refine q p vs ds _ _ ρ1 p1.2 ?_ upd_same bp (fun z => ?_) dvs (g1.trans g2) r2
    · exact g1.dom p hp
    · obtain ⟨i, fs, hf⟩ := z
      obtain ⟨_, _, ws, h5, _⟩ := r1.own i p fs hf
      rw [hp] at h5
      cases h5
end

open PySem PySem.Spec PyProof.Rows L2
open Evl (Ex)

section
variable {X : Cx} {M : Md} {sc : Scope} {NK : List (Str × Bool × Bool)} {G : List Str} {k : Nat} {ρ : En} {P : D → En → Prop} {PB : Bool → En → Prop} {PL : List D → En → Prop} {pos : Pos} {a b c e : Expr} {es rest : List Expr} {x : Str}

/-- a new list as data that stays -/
theorem vn_vd (h : VN X e ρ fun ds ρ1 => P (.list ds) ρ1) : VD X e ρ P := VD.mk fun B H σ Q r q => by
  refine h.run B H σ Q r fun p vs ds B1 H1 ρ1 p1 hp h1 bp no dvs g1 r1 => ?_
  have eB : Ex B1 (upd B1 p (.lst vs)) := Evl.Ex.new bp
  have ne : ∀ a, Own ρ1 a → a ≠ p := fun a z e => no (e ▸ z)
  refine q _ _ (upd B1 p (.lst vs)) H1 ρ1 p1 (.lst (.inl (.inl upd_same)) (DpAll.mono eB dvs)) ⟨g1.ex.trans eB, g1.keep, fun a h1 h2 h3 => ?_, g1.own, g1.dom⟩ ⟨fun a u ha => ?_, r1.len, fun i d hi => ?_, fun i a ds' hi => ?_, r1.dis⟩
  · rw [upd_ne (fun z => h1 (by rw [z]; exact hp))]
    exact g1.out a h1 h2 h3
  · by_cases z : a = p
    · rw [z, upd_same] at ha
      rw [z, h1]
      exact ha
    · rw [upd_ne z] at ha
      exact r1.ex a u ha
  · obtain ⟨v, h1, h2⟩ := r1.dat i d hi
    exact ⟨v, h1, Dp.mono eB h2⟩
  · obtain ⟨h1, h2, ws, h3, h4⟩ := r1.own i a ds' hi
    refine ⟨h1, ?_, ws, h3, DpAll.mono eB h4⟩
    rw [upd_ne (ne a ⟨i, ds', hi⟩)]
    exact h2

/-! ### subscripts -/
def iSem (X : Cx) : R2 := fun x y H Q => ∀ value slice pins s σ v u, Inv X pins σ H s → RelV x v → RelV y u → subscripted slice false v u = operate [v, u] (getItem v u) → wpAny (model X.prog X.w) X.A (subscriptTail value slice v u) (EP X pins σ Q) X.xe s
theorem ir_sem : IxR X (iSem X) := fun value slice pins s σ H x y v u Q I rx ry h hs => h value slice pins s σ v u I rx ry hs
theorem IxR.sem {r : R2} (h : IxR X r) {x y : V} {H : Hp} {Q : VK} (q : r x y H Q) : iSem X x y H Q := fun value slice pins s σ v u I rx ry hs => h value slice pins s σ H x y v u Q I rx ry q hs
theorem atI_dp {K : PySem.W.Frag} {B : Hp} {vs : List V} {ds : List D} {n : Int} {d : D} (h : DpAll K B vs ds) (e : atI ds n = some d) : ∃ v, atI vs n = some v ∧ Dp K B v d := by
  unfold atI at e ⊢
  rw [DpAll.len h]
  cases q : ixN ds.length n with
  | none =>
    rw [q] at e
    cases e
  | some j =>
    rw [q] at e
    have e' : ds[j]? = some d := e
    exact DpAll.get h e'
theorem vd_ix (h : VD X a ρ fun x ρ1 => VD X b ρ1 fun y ρ2 => ixD x y fun d => P d ρ2) (hs : PlainIx b := by exact fun _ _ => rfl) : VD X (.Subscript a b pos) ρ P := VD.mk fun B H σ Q r q => by
  refine PE.sem (pe_ix ir_sem pe_sem pe_sem hs) ?_
  refine h.run B H σ _ r fun vx x B1 H1 ρ1 p1 dx g1 r1 => ?_
  refine p1.run B1 H1 σ _ r1 fun vy y B2 H2 ρ2 p2 dy g2 r2 => ?_
  replace p2 : ixD x y (fun d => P d ρ2) := p2
  unfold ixD at p2
  split at p2
  · obtain ⟨d, e, p⟩ := p2
    obtain ⟨t, vs, rfl, hT, hv⟩ := dp_tup dx
    obtain ⟨v, ev, dv⟩ := atI_dp hv e
    rw [dp_int dy]
    exact IxR.sem ix_tup ⟨t, vs, _, v, rfl, rfl, ex_t (g2.ex.trans r2.ex) hT, ev, q v d B2 H2 ρ2 p (Dp.mono g2.ex dv) (g1.trans g2) r2⟩
  · obtain ⟨d, e, p⟩ := p2
    obtain ⟨t, vs, rfl, hT, hv⟩ := dp_lst dx
    obtain ⟨v, ev, dv⟩ := atI_dp hv e
    rw [dp_int dy]
    exact IxR.sem ix_list ⟨t, vs, _, v, rfl, rfl, ex_l (g2.ex.trans r2.ex) hT, ev, q v d B2 H2 ρ2 p (Dp.mono g2.ex dv) (g1.trans g2) r2⟩
  · exact p2.elim
/-- xs[i], xs a list of one's own -/
theorem vd_ixo (C : Cst X M sc NK G k) {i : Nat} {l : Bool} {p : Addr} {cs : List D} {px : Pos} (ha : At NK i (x, true, l)) (ho : ρ[i]? = some (.own p cs))
    (h : VD X b ρ fun y ρ1 => ∃ n cs1 d, y = .int n ∧ ρ1[i]? = some (.own p cs1) ∧ atI cs1 n = some d ∧ P d ρ1) (hs : PlainIx b := by exact fun _ _ => rfl) (hd : (x == ("__debug__" : Str)) = false := by decide) (hcd : (x == ("__classdict__" : Str)) = false := by decide) : VD X (.Subscript (.Name x px) b pos) ρ P := VD.mk fun B H σ Q r q => by
  refine PE.sem (pe_ix ix_list (pe_var (C.ix ha) (C.vi ha) hd hcd) pe_sem hs) ?_
  refine ⟨.ref p, (r.own i p cs ho).1, ?_⟩
  refine h.run B H σ _ r fun vy y B1 H1 ρ1 p1 dy g1 r1 => ?_
  obtain ⟨n, cs1, d, rfl, ho1, e, pp⟩ := p1
  obtain ⟨_, _, vs, h3, h4⟩ := r1.own i p cs1 ho1
  obtain ⟨v, ev, dv⟩ := atI_dp h4 e
  exact ⟨p, vs, n, v, rfl, dp_int dy, .inl (.inl h3), ev, q v d B1 H1 ρ1 pp dv g1 r1⟩
theorem cut_take {vs : List V} (n : Nat) : cutV vs none (some (n : Int)) = vs.take n := by
  unfold cutV
  rw [HT.sIx_none, HT.sIx_nat, Nat.sub_zero, List.drop_zero]
  by_cases h : n ≤ vs.length
  · rw [Nat.min_eq_left h]
  · rw [Nat.min_eq_right (by omega), List.take_length, List.take_of_length_le (by omega)]
theorem cut_drop {vs : List V} (n : Nat) : cutV vs (some (n : Int)) none = vs.drop n := by
  unfold cutV
  rw [HT.sIx_none, HT.sIx_nat]
  by_cases h : n ≤ vs.length
  · rw [Nat.min_eq_left h, List.take_of_length_le (by rw [List.length_drop]; omega)]
  · rw [Nat.min_eq_right (by omega), List.drop_length, List.drop_of_length_le (by omega), List.take_nil]
/-- xs[:n], n written -/
theorem vn_take {n j : Nat} {pc p2 : Pos} (h : VD X a ρ fun d ρ1 => ∃ ds, d = .list ds ∧ PL (ds.take n) ρ1) : VN X (.Subscript a (.Slice none (some (.Constant (.int (n : Int)) j pc)) none p2) pos) ρ PL := VN.mk fun B H σ Q r q => by
  refine PE.sem (pe_slice sl_list pe_sem po_none (po_some pe_int)) ?_
  refine h.run B H σ _ r fun v d B1 H1 ρ1 p1 dv g1 r1 => ?_
  obtain ⟨ds, rfl, p⟩ := p1
  obtain ⟨t, vs, rfl, hT, hv⟩ := dp_lst dv
  refine ⟨(n : Int), rfl, t, vs, rfl, ex_l r1.ex hT, fun z hz => ?_⟩
  rw [cut_take]
  obtain ⟨r2, g2, bp⟩ := new_one (o := .lst (vs.take n)) r1 hz
  refine q z _ _ _ _ ρ1 p (g1.dom z hz) upd_same bp (fun w => ?_) (DpAll.take n hv) (g1.trans g2) r2
  obtain ⟨i, fs, hf⟩ := w
  obtain ⟨_, _, ws, h5, _⟩ := r1.own i z fs hf
  rw [hz] at h5
  cases h5

/-! ### built-in functions -/
def cSem (X : Cx) (f : Value) : List V → Hp → VK → Prop := fun vs H Q => ∀ pins s σ us, Inv X pins σ H s → Vals vs us → wpAny (model X.prog X.w) X.A (call f us) (EP X pins σ Q) X.xe s
theorem cr_sem {f : Value} : CallR X f (cSem X f) := fun pins s σ H xs us Q I r h => h pins s σ us I r
theorem CallR.sem {f : Value} {r : List V → Hp → VK → Prop} (h : CallR X f r) {xs : List V} {H : Hp} {Q : VK} (q : r xs H Q) : cSem X f xs H Q := fun pins s σ us I rv => h pins s σ H xs us Q I rv q
/-- what a built-in does with data -/
def Does (X : Cx) (f : Value) (S : List D → (D → Prop) → Prop) : Prop := ∀ (B H : Hp) (vs : List V) (ds : List D) (W : D → Prop) (Q : VK), Ex B H → DpAll X.K B vs ds → S ds W →
  (∀ v d B' H', W d → Dp X.K B' v d → Ex B B' → Ex B' H' → Ex H H' → (∀ a, H a ≠ none → B a = none → B' a = none) → Q v H') → cSem X f vs H Q
theorem vd_call_with {f : Value} {S : List D → (D → Prop) → Prop} {nm : Expr} (hp : ∀ t, PA X (e :: es) t → PE X (.Call nm (e :: es) [] pos) (tCB (cSem X f) t)) (hS : Does X f S)
    (h : VA X (e :: es) ρ fun ds ρ1 => S ds fun d => P d ρ1) : VD X (.Call nm (e :: es) [] pos) ρ P := VD.mk fun B H σ Q r q => by
  refine PE.sem (hp _ pa_sem) ?_
  refine h.run B H σ _ r fun vs ds B1 H1 ρ1 p1 dvs g1 r1 => ?_
  refine hS B1 H1 vs ds _ Q r1.ex dvs p1 fun v d B2 H2 p2 dv eB e2 eH out => ?_
  exact q v d B2 H2 ρ1 p2 dv (g1.trans (Go.grow eB eH out)) (r1.grow eB e2 eH out)
theorem vd_callB (C : Cst X M sc NK G k) {id : String} {S : List D → (D → Prop) → Prop} {i : Nat} {p : Pos} (hS : Does X (.builtin id) S) (hg : At G i x) (h : VA X (e :: es) ρ fun ds ρ1 => S ds fun d => P d ρ1) (hm : M.mg x = none := by assumption) (hv : bootBuiltins x = some (.builtin id) := by decide +kernel)
    (hn : x ≠ "__name__" := by decide) (hdb : (x == ("__debug__" : Str)) = false := by decide) (he : starEach (e :: es) X.env = (false, eval e X.env) :: starEach es X.env := by rfl) (hpl : (backTo pos (starEach es X.env)).any (·.1) = false := by rfl) : VD X (.Call (.Name x p) (e :: es) [] pos) ρ P :=
  vd_call_with (fun t ht => pe_callB cr_sem (C.g hg) (C.mg hm) hv ht hn hdb he hpl) hS h
theorem vd_callT (C : Cst X M sc NK G k) {T : String} {S : List D → (D → Prop) → Prop} {i : Nat} {p : Pos} (hS : Does X (.type T) S) (hg : At G i x) (h : VA X (e :: es) ρ fun ds ρ1 => S ds fun d => P d ρ1) (hm : M.mg x = none := by assumption) (hv : bootBuiltins x = some (.type T) := by decide +kernel)
    (hn : x ≠ "__name__" := by decide) (hdb : (x == ("__debug__" : Str)) = false := by decide) (he : starEach (e :: es) X.env = (false, eval e X.env) :: starEach es X.env := by rfl) (hpl : (backTo pos (starEach es X.env)).any (·.1) = false := by rfl) : VD X (.Call (.Name x p) (e :: es) [] pos) ρ P :=
  vd_call_with (fun t ht => pe_callTy cr_sem (C.g hg) (C.mg hm) hv ht hn hdb he hpl) hS h
/-- a built-in that the module imports -/
theorem vd_callM (C : Cst X M sc NK G k) {id : String} {S : List D → (D → Prop) → Prop} {i : Nat} {p : Pos} (hS : Does X (.builtin id) S) (hg : At G i x) (h : VA X (e :: es) ρ fun ds ρ1 => S ds fun d => P d ρ1) (hm : M.mg x = some (.builtin id) := by assumption)
    (hdb : (x == ("__debug__" : Str)) = false := by decide) (he : starEach (e :: es) X.env = (false, eval e X.env) :: starEach es X.env := by rfl) (hpl : (backTo pos (starEach es X.env)).any (·.1) = false := by rfl) : VD X (.Call (.Name x p) (e :: es) [] pos) ρ P :=
  vd_call_with (fun t ht => pe_callBfun cr_sem (C.g hg) (C.mg hm) ht hdb he hpl) hS h
/-- a def of one's own, by what it does with data -/
def DS (K : PySem.W.Frag) (n : Nat) (S : List D → (D → Prop) → Prop) : Sp := fun vs H Q _ => ∃ B ds W, Ex B H ∧ DpAll K B vs ds ∧ ds.length = n ∧ S ds W ∧
  ∀ v d B' H', W d → Dp K B' v d → Ex B B' → Ex B' H' → Ex H H' → (∀ a, H a ≠ none → B a = none → B' a = none) → Q v H'
structure FnD (M : Md) (j : Nat) (x : Str) (n : Nat) (S : List D → (D → Prop) → Prop) : Prop where
  ex : ∃ f fd ps, FnOk M.prog M.w M.K M.mg M.base CX0 j f fd ps (DS M.K n S) ∧ M.mg x = some (.ref f) ∧ PySem.W.keepIn M.K (.ref f) = true ∧ Binds M.K fd ps []
theorem vd_call (C : Cst X M sc NK G k) {j n : Nat} {S : List D → (D → Prop) → Prop} {i : Nat} {p : Pos} (F : FnD M j x n S) (hg : At G i x) (h : VA X (e :: es) ρ fun ds ρ1 => ds.length = n ∧ S ds fun d => P d ρ1) (hj : j ≤ k := by decide)
    (hdb : (x == ("__debug__" : Str)) = false := by decide) (he : starEach (e :: es) X.env = (false, eval e X.env) :: starEach es X.env := by rfl) (hpl : (backTo pos (starEach es X.env)).any (·.1) = false := by rfl) : VD X (.Call (.Name x p) (e :: es) [] pos) ρ P := VD.mk fun B H σ Q r q => by
  have eM := C.m
  subst eM
  obtain ⟨f, fd, ps, F, hm, hk, hb⟩ := F.ex
  refine PE.sem (pe_call (E := E0) F (C.room.mono hj) (C.g hg) hm hk hb .nil pass0 pa_sem hdb he hpl) ?_
  refine h.run B H σ _ r fun vs ds B1 H1 ρ1 p1 dvs g1 r1 => ?_
  show DS X.K n S (vs ++ []) H1 Q _
  rw [List.append_nil]
  refine ⟨B1, ds, _, r1.ex, dvs, p1.1, p1.2, fun v d B2 H2 p2 dv eB e2 eH out => ?_⟩
  exact q v d B2 H2 ρ1 p2 dv (g1.trans (Go.grow eB eH out)) (r1.grow eB e2 eH out)
/-- a def that changes the list of one's own which it is handed first: what stands in it, the other arguments; its value, what stands in it behind -/
def DSm (K : PySem.W.Frag) (n : Nat) (S : List D → List D → (D → List D → Prop) → Prop) : Sp := fun vs H Q _ => ∃ B p xs cs ws ds W, vs = .ref p :: ws ∧ Ex B H ∧ B p = none ∧ H p = some (.lst xs) ∧ DpAll K B xs cs ∧ DpAll K B ws ds ∧ ds.length = n ∧ S cs ds W ∧
  ∀ v d B' H' xs' cs', W d cs' → Dp K B' v d → Ex B B' → Ex B' H' → B' p = none → H' p = some (.lst xs') → DpAll K B' xs' cs' → (∀ a o, a ≠ p → H a = some o → H' a = some o) → (∀ a, a ≠ p → H a ≠ none → B a = none → B' a = none) → Q v H'
structure FnM (M : Md) (j : Nat) (x : Str) (n : Nat) (S : List D → List D → (D → List D → Prop) → Prop) : Prop where
  ex : ∃ f fd ps, FnOk M.prog M.w M.K M.mg M.base CX0 j f fd ps (DSm M.K n S) ∧ M.mg x = some (.ref f) ∧ PySem.W.keepIn M.K (.ref f) = true ∧ Binds M.K fd ps []
theorem getElem?_set_own {ρ : En} {i : Nat} {s u : Sl} (h : ρ[i]? = some s) : (ρ.set i u)[i]? = some u := by
  obtain ⟨hl, _⟩ := List.getElem?_eq_some_iff.mp h
  rw [List.getElem?_set_self hl]
theorem vd_callO (C : Cst X M sc NK G k) {j n : Nat} {S : List D → List D → (D → List D → Prop) → Prop} {i m : Nat} {l : Bool} {y : Str} {p py : Pos} {q0 : Addr} {cs0 : List D} (F : FnM M j x n S) (hg : At G i x) (ha : At NK m (y, true, l)) (ho : ρ[m]? = some (.own q0 cs0))
    (h : VA X es ρ fun ds ρ1 => ds.length = n ∧ ∃ cs, ρ1[m]? = some (.own q0 cs) ∧ S cs ds fun d cs' => P d (ρ1.set m (.own q0 cs'))) (hj : j ≤ k := by decide)
    (hdb : (x == ("__debug__" : Str)) = false := by decide) (he : starEach (.Name y py :: es) X.env = (false, eval (.Name y py) X.env) :: starEach es X.env := by rfl) (hpl : (backTo pos (starEach es X.env)).any (·.1) = false := by rfl)
    (hd : (y == ("__debug__" : Str)) = false := by decide) (hcd : (y == ("__classdict__" : Str)) = false := by decide) : VD X (.Call (.Name x p) (.Name y py :: es) [] pos) ρ P := VD.mk fun B H σ Q r q => by
  have eM := C.m
  subst eM
  obtain ⟨f, fd, ps, F, hm, hk, hb⟩ := F.ex
  refine PE.sem (pe_call (E := E0) F (C.room.mono hj) (C.g hg) hm hk hb .nil pass0 (pa_cons (pe_var (C.ix ha) (C.vi ha) hd hcd) pa_sem he) hdb he hpl) ?_
  refine ⟨.ref q0, (r.own m q0 cs0 ho).1, ?_⟩
  refine h.run B H σ _ r fun ws ds B1 H1 ρ1 p1 dws g1 r1 => ?_
  obtain ⟨hl, cs, ho1, hS⟩ := p1
  obtain ⟨hs1, hB1, xs, hx, dxs⟩ := r1.own m q0 cs ho1
  show DSm X.K n S ((.ref q0 :: ws) ++ []) H1 Q _
  rw [List.append_nil]
  refine ⟨B1, q0, xs, cs, ws, ds, _, rfl, r1.ex, hB1, hx, dxs, dws, hl, hS, fun v d B2 H2 xs' cs' p2 dv eB e2 b2 h2 dx2 keep out => ?_⟩
  have hlt := (List.getElem?_eq_some_iff.mp ho1).1
  have own_of : ∀ a, Own (ρ1.set m (.own q0 cs')) a → Own ρ1 a := fun a ⟨j, fs, hf⟩ => by
    by_cases z : m = j
    · subst z
      rw [List.getElem?_set_self hlt] at hf
      cases hf
      exact ⟨m, cs, ho1⟩
    · rw [List.getElem?_set_ne z] at hf
      exact ⟨j, fs, hf⟩
  refine q v d B2 H2 _ p2 dv (g1.trans ⟨eB, fun a o h n => keep a o (fun z => n ⟨m, cs, z ▸ ho1⟩) h, fun a h1 h2 h3 => out a (fun z => h3 ⟨m, cs, z ▸ ho1⟩) h1 h2, fun a z => .inl (own_of a z), fun a z => ?_⟩) ⟨e2, by rw [List.length_set]; exact r1.len, fun j d' hj => ?_, fun j a fs hf => ?_, fun j j' a fs gs hj hj' => ?_⟩
  · cases e : H1 a with
    | none => rfl
    | some u =>
      by_cases w : a = q0
      · rw [w, h2] at z
        cases z
      · rw [keep a u w e] at z
        cases z
  · by_cases z : m = j
    · subst z
      rw [List.getElem?_set_self hlt] at hj
      cases hj
    · rw [List.getElem?_set_ne z] at hj
      obtain ⟨v', h5, h6⟩ := r1.dat j d' hj
      exact ⟨v', h5, Dp.mono eB h6⟩
  · by_cases z : m = j
    · subst z
      rw [List.getElem?_set_self hlt] at hf
      cases hf
      exact ⟨hs1, b2, xs', h2, dx2⟩
    · rw [List.getElem?_set_ne z] at hf
      obtain ⟨h5, h6, ys, h7, h8⟩ := r1.own j a fs hf
      have na : a ≠ q0 := fun w => z (r1.dis m j q0 cs fs ho1 (w ▸ hf))
      exact ⟨h5, out a na (by rw [h7]; exact fun z => by cases z) h6, ys, keep a _ na h7, DpAll.mono eB h8⟩
  · have back : ∀ (j : Nat) gs, (ρ1.set m (.own q0 cs'))[j]? = some (.own a gs) → ∃ hs, ρ1[j]? = some (.own a hs) := fun j gs hj => by
      by_cases z : m = j
      · subst z
        rw [List.getElem?_set_self hlt] at hj
        cases hj
        exact ⟨cs, ho1⟩
      · rw [List.getElem?_set_ne z] at hj
        exact ⟨gs, hj⟩
    obtain ⟨h5, e5⟩ := back j fs hj
    obtain ⟨h6, e6⟩ := back j' gs hj'
    exact r1.dis j j' a h5 h6 e5 e6

/-! ### what some built-ins do -/
theorem does_int : Does X (.type "int") (fun ds W => ∃ i, ds = [.int i] ∧ W (.int i)) := fun B H vs ds W Q e h s q => by
  obtain ⟨i, rfl, w⟩ := s
  cases h with
  | cons h1 h2 =>
    cases h2
    rw [dp_int h1]
    exact CallR.sem call_int1 (.inl ⟨i, rfl, q _ _ B H w (.int i) (Evl.Ex.refl B) e (Evl.Ex.refl H) fun _ _ b => b⟩)
theorem does_abs : Does X (.builtin "abs") (fun ds W => ∃ i, ds = [.int i] ∧ W (.int (if i < 0 then -i else i))) := fun B H vs ds W Q e h s q => by
  obtain ⟨i, rfl, w⟩ := s
  cases h with
  | cons h1 h2 =>
    cases h2
    rw [dp_int h1]
    exact CallR.sem call_abs ⟨i, rfl, q _ _ B H w (.int _) (Evl.Ex.refl B) e (Evl.Ex.refl H) fun _ _ b => b⟩
theorem does_len : Does X (.builtin "len") (fun ds W => ∃ es, (ds = [.list es] ∨ ds = [.tuple es]) ∧ W (.int es.length)) := fun B H vs ds W Q e h s q => by
  obtain ⟨es, z, w⟩ := s
  rcases z with rfl | rfl
  · cases h with
    | cons h1 h2 =>
      cases h2
      obtain ⟨t, ys, rfl, hT, hy⟩ := dp_lst h1
      refine CallR.sem call_len_seq ⟨t, ys, rfl, .inl (ex_l e hT), q _ _ B H w ?_ (Evl.Ex.refl B) e (Evl.Ex.refl H) fun _ _ b => b⟩
      rw [DpAll.len hy]
      exact .int _
  · cases h with
    | cons h1 h2 =>
      cases h2
      obtain ⟨t, ys, rfl, hT, hy⟩ := dp_tup h1
      refine CallR.sem call_len_seq ⟨t, ys, rfl, .inr (ex_t e hT), q _ _ B H w ?_ (Evl.Ex.refl B) e (Evl.Ex.refl H) fun _ _ b => b⟩
      rw [DpAll.len hy]
      exact .int _
/-- tuple(a new list) -/
theorem vd_tupleN (C : Cst X M sc NK G k) {i : Nat} {p : Pos} (hg : At G i "tuple") (h : VN X e ρ fun ds ρ1 => P (.tuple ds) ρ1) (hm : M.mg "tuple" = none := by assumption)
    (he : starEach [e] X.env = (false, eval e X.env) :: starEach [] X.env := by rfl) (hpl : (backTo pos (starEach [] X.env)).any (·.1) = false := by rfl) : VD X (.Call (.Name "tuple" p) [e] [] pos) ρ P := VD.mk fun B H σ Q r q => by
  refine PE.sem (pe_callTy call_tuple_of (C.g hg) (C.mg hm) (by decide +kernel) (pa_cons pe_sem pa_nil he) (by decide) (by decide) he hpl) ?_
  refine h.run B H σ _ r fun z vs ds B1 H1 ρ1 p1 hz h1 bz no dvs g1 r1 => ?_
  refine ⟨z, vs, rfl, .inl ⟨.inl (.inl h1), fun l hl => ?_⟩⟩
  obtain ⟨r2, g2⟩ := new_both (o := .tup vs) r1 hl
  exact q _ _ _ _ ρ1 p1 (.tup (.inl (.inl upd_same)) (DpAll.mono g2.ex dvs)) (g1.trans g2) r2
def tyN : D → String
  | .none => "NoneType"
  | .bool _ => "bool"
  | .int _ => "int"
  | .str _ => "str"
  | .list _ => "list"
  | .tuple _ => "tuple"
  | .dict _ => "dict"
theorem ty_dp {K : PySem.W.Frag} {B H : Hp} (e : Ex B H) {v : V} {d : D} (h : Dp K B v d) : TyX K H v (.type (tyN d)) := by
  cases h with
  | non => exact .base .non
  | bl b => exact .base (.bl b)
  | int i => exact .base (.int i)
  | str x => exact .base (.str x)
  | lst h hs =>
    rcases h with (h | ⟨o, h⟩) | ⟨o, _, _, h1, h2, _⟩
    · exact .base (.lst (e _ _ h))
    · exact .base (.frz (e _ _ h))
    · exact .kList h1 h2
  | tup h hs =>
    rcases h with (h | ⟨o, h⟩) | ⟨o, _, _, h1, h2, _⟩
    · exact .base (.tup (e _ _ h))
    · exact .fTuple (e _ _ h)
    · exact .kTuple h1 h2
/-- isinstance(e, T), T a built-in class -/
theorem vd_isi (C : Cst X M sc NK G k) {i j : Nat} {T : String} {p pT : Pos} (hg : At G i "isinstance") (hgT : At G j x) (h : VD X e ρ fun d ρ1 => ∃ b, kitB (tyN d) T = some b ∧ P (.bool b) ρ1)
    (hm : M.mg "isinstance" = none := by assumption) (hmT : M.mg x = none := by assumption) (hv : bootBuiltins x = some (.type T) := by decide +kernel)
    (hn : x ≠ "__name__" := by decide) (hdb : (x == ("__debug__" : Str)) = false := by decide)
    (he : starEach [e, .Name x pT] X.env = (false, eval e X.env) :: starEach [.Name x pT] X.env := by rfl) (he2 : starEach [.Name x pT] X.env = (false, eval (.Name x pT) X.env) :: starEach [] X.env := by rfl) (hpl : (backTo pos (starEach [.Name x pT] X.env)).any (·.1) = false := by rfl) :
    VD X (.Call (.Name "isinstance" p) [e, .Name x pT] [] pos) ρ P := VD.mk fun B H σ Q r q => by
  refine PE.sem (pe_callB call_isi (C.g hg) (C.mg hm) (by decide +kernel) (pa_cons pe_sem (pa_cons (pe_bltn (v := .ty T) (C.g hgT) (C.mg hmT) hv rfl hn hdb) pa_nil he2) he) (by decide) (by decide) he hpl) ?_
  refine h.run B H σ _ r fun v d B1 H1 ρ1 p1 dv g1 r1 => ?_
  obtain ⟨b, hb, pp⟩ := p1
  exact ⟨v, .ty T, _, _, b, rfl, .ty T, ty_dp r1.ex dv, kit_ty hb, q _ _ B1 H1 ρ1 pp (.bl b) g1 r1⟩
end

open PySem PySem.Spec PyProof.Rows L2
open Evl (Ex)

section
variable {X : Cx} {M : Md} {sc : Scope} {NK : List (Str × Bool × Bool)} {G : List Str} {k : Nat} {ρ : En} {P : D → En → Prop} {PN : En → Prop} {PB : Bool → En → Prop} {PL : List D → En → Prop} {pos : Pos} {a b c e tg : Expr} {es rest : List Expr} {x : Str} {F : Fin} {st : Stmt} {sts : List Stmt}

/-! ### storing -/
theorem own_set {ρ : En} {i : Nat} {d : D} {a : Addr} (h : Own (ρ.set i (.dat d)) a) : Own ρ a := by
  obtain ⟨j, ds, hj⟩ := h
  by_cases z : i = j
  · subst z
    by_cases hl : i < ρ.length
    · rw [List.getElem?_set_self hl] at hj
      cases hj
    · rw [List.getElem?_eq_none (by rw [List.length_set]; omega)] at hj
      cases hj
  · rw [List.getElem?_set_ne z] at hj
    exact ⟨j, ds, hj⟩
theorem rel_set {K : PySem.W.Frag} {B H : Hp} {σ : L2.St} {ρ : En} (r : Rel K B H σ ρ) {i : Nat} {v : V} {d : D} (hd : Dp K B v d) : Rel K B H (σ.set i (some v)) (ρ.set i (.dat d)) := by
  refine ⟨r.ex, by rw [List.length_set, List.length_set]; exact r.len, fun j d' hj => ?_, fun j a ds hj => ?_, fun j j' a ds es hj hj' => ?_⟩
  · by_cases z : i = j
    · subst z
      by_cases hl : i < ρ.length
      · rw [List.getElem?_set_self hl] at hj
        cases hj
        exact ⟨v, by rw [List.getElem?_set_self (by rw [← r.len]; exact hl)], hd⟩
      · rw [List.getElem?_eq_none (by rw [List.length_set]; omega)] at hj
        cases hj
    · rw [List.getElem?_set_ne z] at hj ⊢
      exact r.dat j d' hj
  · by_cases z : i = j
    · subst z
      by_cases hl : i < ρ.length
      · rw [List.getElem?_set_self hl] at hj
        cases hj
      · rw [List.getElem?_eq_none (by rw [List.length_set]; omega)] at hj
        cases hj
    · rw [List.getElem?_set_ne z] at hj ⊢
      exact r.own j a ds hj
  · have back : ∀ (j : Nat) gs, (ρ.set i (.dat d))[j]? = some (.own a gs) → ρ[j]? = some (.own a gs) := fun j gs hj => by
      by_cases z : i = j
      · subst z
        by_cases hl : i < ρ.length
        · rw [List.getElem?_set_self hl] at hj
          cases hj
        · rw [List.getElem?_eq_none (by rw [List.length_set]; omega)] at hj
          cases hj
      · rw [List.getElem?_set_ne z] at hj
        exact hj
    exact r.dis j j' a ds es (back j ds hj) (back j' es hj')
theorem go_set {B H : Hp} {ρ : En} {i : Nat} {d : D} : Go B H ρ B H (ρ.set i (.dat d)) := ⟨Evl.Ex.refl B, fun _ _ h _ => h, fun _ _ h _ => h, fun _ h => .inl (own_set h), fun _ h => h⟩
theorem FinOk.nxGo {K : PySem.W.Frag} {B H : Hp} {Z : Ends} (f : FinOk K B H ρ F Z) {B' H' : Hp} {σ' : L2.St} {ρ' : En} (p : F.nx ρ') (g : Go B H ρ B' H' ρ') (r : Rel K B' H' σ' ρ') : Z.nx σ' H' := f.nx B' H' σ' ρ' p g r

/-! ### targets -/
theorem vg_name (C : Cst X M sc NK G k) {i : Nat} {v : Bool} {d : D} {p : Pos} (ha : At NK i (x, v, true)) (h : PN (ρ.set i (.dat d))) : VG X (.Name x p) d ρ PN := VG.mk fun vv B H σ Q r dv q =>
  PG.sem (pg_name C.nd (C.ix ha) (C.lo ha) (C.fn ha)) (q B H _ _ h go_set (rel_set r dv))
theorem vgs_nil (h : PN ρ) : VGs X [] [] ρ PN := VGs.mk fun vs B H σ Q r dv q => PGs.sem pgs_nil (by
  cases dv
  exact ⟨rfl, q B H σ ρ h Go.refl r⟩)
theorem vgs_cons {d : D} {ds : List D} (h : VG X e d ρ fun ρ1 => VGs X es ds ρ1 PN) (hs : (assignEach (e :: es) X.env).map (·.2) = assign e X.env :: (assignEach es X.env).map (·.2) := by rfl) : VGs X (e :: es) (d :: ds) ρ PN := VGs.mk fun vs B H σ Q r dv q => by
  refine PGs.sem (pgs_cons pg_sem pgs_sem hs) ?_
  cases dv with
  | cons d1 d2 =>
    refine ⟨_, _, rfl, h.run _ B H σ _ r d1 fun B1 H1 σ1 ρ1 p1 g1 r1 => ?_⟩
    exact p1.run _ B1 H1 σ1 Q r1 (DpAll.mono g1.ex d2) fun B2 H2 σ2 ρ2 p2 g2 r2 => q B2 H2 σ2 ρ2 p2 (g1.trans g2) r2
theorem vg_tup (C : Cst X M sc NK G k) {kk : Nat} {ds : List D} (h : VGs X es ds ρ PN) (hl : ds.length = es.length := by rfl) (hn : (assignEach es X.env).length = es.length := by rfl) (hst : (assignEach es X.env).findIdx? (·.1) = none := by rfl) : VG X (.Tuple es kk pos) (.tuple ds) ρ PN := VG.mk fun vv B H σ Q r dv q => by
  obtain ⟨t, vs, rfl, hT, hv⟩ := dp_tup dv
  exact PG.sem (pg_tup C.calm pgs_sem hn hst) ⟨t, vs, rfl, ex_t r.ex hT, (DpAll.len hv).trans hl, h.run vs B H σ Q r hv q⟩
theorem vg_lst (C : Cst X M sc NK G k) {kk : Nat} {ds : List D} (h : VGs X es ds ρ PN) (hl : ds.length = es.length := by rfl) (hn : (assignEach es X.env).length = es.length := by rfl) (hst : (assignEach es X.env).findIdx? (·.1) = none := by rfl) : VG X (.Tuple es kk pos) (.list ds) ρ PN := VG.mk fun vv B H σ Q r dv q => by
  obtain ⟨t, vs, rfl, hT, hv⟩ := dp_lst dv
  exact PG.sem (pg_unl C.calm pgs_sem hn hst) ⟨t, vs, rfl, ex_l r.ex hT, (DpAll.len hv).trans hl, h.run vs B H σ Q r hv q⟩

/-! ### statements -/
theorem vss_nil (h : F.nx ρ) : VSs X [] ρ F := VSs.mk fun B H σ Z r f => PSs.sem pss_nil (f.nx B H σ ρ h Go.refl r)
theorem vss_one (h : VS X st ρ F) : VSs X [st] ρ F := VSs.mk fun B H σ Z r f => PSs.sem (pss_one ps_sem) (h.run B H σ Z r f)
theorem vss_cons (h : VS X st ρ { F with nx := fun ρ1 => VSs X sts ρ1 F }) : VSs X (st :: sts) ρ F := VSs.mk fun B H σ Z r f => by
  refine PSs.sem (pss_cons ps_sem pss_sem) ?_
  refine h.run B H σ _ r ⟨fun B1 H1 σ1 ρ1 p g r1 => p.run B1 H1 σ1 Z r1 (f.go g), f.rt, f.bk, f.ct⟩
theorem vs_pass (h : F.nx ρ) : VS X (.Pass pos) ρ F := VS.mk fun B H σ Z r f => PS.sem ps_pass (f.nx B H σ ρ h Go.refl r)
theorem vs_break (h : F.bk ρ) : VS X (.Break pos) ρ F := VS.mk fun B H σ Z r f => PS.sem ps_break (f.bk B H σ ρ h Go.refl r)
theorem vs_cont (h : F.ct ρ) : VS X (.Continue pos) ρ F := VS.mk fun B H σ Z r f => PS.sem ps_continue (f.ct B H σ ρ h Go.refl r)
theorem vs_ret (h : VD X e ρ F.rt) : VS X (.Return (some e) pos) ρ F := VS.mk fun B H σ Z r f => PS.sem (ps_ret pe_sem) (h.run B H σ _ r fun v d B1 H1 ρ1 p dv g r1 => f.rt v d B1 H1 σ ρ1 p dv g r1)
theorem vs_retN (h : F.rt .none ρ) : VS X (.Return none pos) ρ F := VS.mk fun B H σ Z r f => PS.sem ps_retN (f.rt .non .none B H σ ρ h .non Go.refl r)
theorem vs_if {u v : List Stmt} (h : VT X c ρ fun bb ρ1 => (bb = true → VSs X u ρ1 F) ∧ (bb = false → VSs X v ρ1 F)) : VS X (.If c u v pos) ρ F := VS.mk fun B H σ Z r f => by
  refine PS.sem (ps_if pb_sem pss_sem pss_sem) ?_
  refine h.run B H σ _ r fun bb B1 H1 ρ1 p g r1 => ?_
  cases bb with
  | true => exact (p.1 rfl).run B1 H1 σ Z r1 (f.go g)
  | false => exact (p.2 rfl).run B1 H1 σ Z r1 (f.go g)
theorem vs_expr (h : VD X e ρ fun _ ρ1 => F.nx ρ1) (hs : swapsWith e none pos.line X.env = pure false := by rfl) : VS X (.Expr e pos) ρ F := VS.mk fun B H σ Z r f =>
  PS.sem (ps_expr pe_sem hs) (h.run B H σ _ r fun v d B1 H1 ρ1 p dv g r1 => f.nx B1 H1 σ ρ1 p g r1)
/-- name = e -/
theorem vs_set (C : Cst X M sc NK G k) {i : Nat} {v : Bool} {p : Pos} (ha : At NK i (x, v, true)) (h : VD X e ρ fun d ρ1 => F.nx (ρ1.set i (.dat d))) (hs : swapsWith e (some (.Name x p)) pos.line X.env = pure false := by rfl) : VS X (.Assign [.Name x p] e pos) ρ F := VS.mk fun B H σ Z r f => by
  refine PS.sem (ps_set C.nd (C.ix ha) (C.lo ha) pe_sem hs (C.fn ha)) ?_
  exact h.run B H σ _ r fun w d B1 H1 ρ1 p1 dv g1 r1 => f.nx B1 H1 _ _ p1 (g1.trans go_set) (rel_set r1 dv)
/-- (a, ..) = e -/
theorem vs_asg {tg : Expr} (h : VD X e ρ fun d ρ1 => VG X tg d ρ1 F.nx) (hs : swapsWithSole [tg] e pos.line X.env = pure false := by rfl) (hw : swappedStores [tg] e X.env = pure none := by rfl)
    (h1 : (assignEach [tg] X.env).map (·.2) = [assign tg X.env] := by rfl) : VS X (.Assign [tg] e pos) ρ F := VS.mk fun B H σ Z r f => by
  refine PS.sem (ps_asg pe_sem pg_sem hs hw h1) ?_
  refine h.run B H σ _ r fun v d B1 H1 ρ1 p1 dv g1 r1 => ?_
  exact p1.run v B1 H1 σ _ r1 dv fun B2 H2 σ2 ρ2 p2 g2 r2 => f.nx B2 H2 σ2 ρ2 p2 (g1.trans g2) r2
theorem sw_env {env env' : Env} {ts : List Expr} {v : Expr} (h : env.scope = env'.scope) : swappedStores ts v env = swappedStores ts v env' := by
  unfold swappedStores Env.blockKind Env.kindOf
  rw [h]
/-- a, b = e1, e2 -/
theorem vs_par (C : Cst X M sc NK G k) {i j : Nat} {v w : Bool} {y : Str} {px py pt : Pos} {kt k2 pt2} (hi : At NK i (x, v, true)) (hj : At NK j (y, w, true)) (hij : i ≠ j)
    (h : VD X a ρ fun d ρ1 => VD X b ρ1 fun d2 ρ2 => F.nx ((ρ2.set i (.dat d)).set j (.dat d2)))
    (hw : ∀ env : Env, env.scope = sc → swappedStores [.Tuple [.Name x px, .Name y py] kt pt] (.Tuple [a, b] k2 pt2) env = pure (some [x, y])) (hx : sc.names.lookup x = some .local := by decide +kernel) (hy : sc.names.lookup y = some .local := by decide +kernel)
    (hs : swapsWithSole [.Tuple [.Name x px, .Name y py] kt pt] (.Tuple [a, b] k2 pt2) pos.line X.env = pure false := by rfl)
    (he : starEach [a, b] X.env = (false, eval a X.env) :: starEach [b] X.env := by rfl) (he2 : starEach [b] X.env = (false, eval b X.env) :: starEach [] X.env := by rfl) :
    VS X (.Assign [.Tuple [.Name x px, .Name y py] kt pt] (.Tuple [a, b] k2 pt2) pos) ρ F := VS.mk fun B H σ Z r f => by
  refine PS.sem (ps_par C.calm C.nd (C.ix hi) (C.ix hj) hij (by rw [C.s]; exact hx) (by rw [C.s]; exact hy) (pa_cons pe_sem (pa_cons pe_sem pa_nil he2) he) (hw _ C.s) hs) ?_
  refine h.run B H σ _ r fun vv d B1 H1 ρ1 p1 dv g1 r1 => ?_
  refine p1.run B1 H1 σ _ r1 fun ww d2 B2 H2 ρ2 p2 dw g2 r2 => ⟨vv, ww, rfl, ?_⟩
  exact f.nx B2 H2 _ _ p2 (((g1.trans g2).trans go_set).trans go_set) (rel_set (rel_set r2 (Dp.mono g2.ex dv)) dw)
/-- name = a new list: it is the name's own -/
theorem vs_new (C : Cst X M sc NK G k) {i : Nat} {v : Bool} {p : Pos} (ha : At NK i (x, v, true)) (hi : i < ρ.length) (h : VN X e ρ fun ds ρ1 => ∀ z, F.nx (ρ1.set i (.own z ds))) (hs : swapsWith e (some (.Name x p)) pos.line X.env = pure false := by rfl) : VS X (.Assign [.Name x p] e pos) ρ F := VS.mk fun B H σ Z r f => by
  refine PS.sem (ps_set C.nd (C.ix ha) (C.lo ha) pe_sem hs (C.fn ha)) ?_
  refine h.run B H σ _ r fun z vs ds B1 H1 ρ1 p1 hz h1 bz no dvs g1 r1 => ?_
  have hl : i < ρ1.length := by rw [r1.len, ← r.len]; exact hi
  have own_of : ∀ (j : Nat) a es, (ρ1.set i (.own z ds))[j]? = some (.own a es) → (j = i ∧ a = z ∧ es = ds) ∨ (j ≠ i ∧ ρ1[j]? = some (.own a es)) := fun j a es hj => by
    by_cases w : i = j
    · subst w
      rw [List.getElem?_set_self hl] at hj
      cases hj
      exact .inl ⟨rfl, rfl, rfl⟩
    · rw [List.getElem?_set_ne w] at hj
      exact .inr ⟨fun q => w q.symm, hj⟩
  refine f.nx B1 H1 _ _ (p1 z) ⟨g1.ex, g1.keep, g1.out, fun a ⟨j, es, hj⟩ => ?_, g1.dom⟩ ⟨r1.ex, by rw [List.length_set, List.length_set]; exact r1.len, fun j d hj => ?_, fun j a es hj => ?_, fun j j' a es fs hj hj' => ?_⟩
  · rcases own_of j a es hj with ⟨_, rfl, _⟩ | ⟨_, q⟩
    · exact .inr hz
    · exact g1.own a ⟨j, es, q⟩
  · by_cases w : i = j
    · subst w
      rw [List.getElem?_set_self hl] at hj
      cases hj
    · rw [List.getElem?_set_ne w] at hj ⊢
      exact r1.dat j d hj
  · rcases own_of j a es hj with ⟨rfl, rfl, rfl⟩ | ⟨w, q⟩
    · exact ⟨by rw [List.getElem?_set_self (by rw [← r1.len]; exact hl)], bz, vs, h1, dvs⟩
    · rw [List.getElem?_set_ne (fun q => w q.symm)]
      exact r1.own j a es q
  · rcases own_of j a es hj with ⟨rfl, rfl, rfl⟩ | ⟨w, q⟩
    · rcases own_of j' a fs hj' with ⟨rfl, _, _⟩ | ⟨w', q'⟩
      · rfl
      · exact absurd ⟨j', fs, q'⟩ no
    · rcases own_of j' a fs hj' with ⟨rfl, rfl, _⟩ | ⟨w', q'⟩
      · exact absurd ⟨j, es, q⟩ no
      · exact r1.dis j j' a es fs q q'
/-- a list of one's own is written -/
theorem own_write {K : PySem.W.Frag} {B H : Hp} {σ : L2.St} {ρ : En} (r : Rel K B H σ ρ) {i : Nat} {p : Addr} {cs cs' : List D} {vs' : List V} (ho : ρ[i]? = some (.own p cs)) (hd : DpAll K B vs' cs') : Rel K B (upd H p (.lst vs')) σ (ρ.set i (.own p cs')) ∧ Go B H ρ B (upd H p (.lst vs')) (ρ.set i (.own p cs')) := by
  obtain ⟨h1, h2, vs, h3, h4⟩ := r.own i p cs ho
  have hlt := (List.getElem?_eq_some_iff.mp ho).1
  have own_of : ∀ (j : Nat) a es, (ρ.set i (.own p cs'))[j]? = some (.own a es) → (j = i ∧ a = p ∧ es = cs') ∨ (j ≠ i ∧ ρ[j]? = some (.own a es)) := fun j a es hj => by
    by_cases w : i = j
    · subst w
      rw [List.getElem?_set_self hlt] at hj
      cases hj
      exact .inl ⟨rfl, rfl, rfl⟩
    · rw [List.getElem?_set_ne w] at hj
      exact .inr ⟨fun q => w q.symm, hj⟩
  have ne : ∀ (j : Nat) a es, j ≠ i → ρ[j]? = some (.own a es) → a ≠ p := fun j a es w q z => w (r.dis j i p es cs (z ▸ q) ho)
  refine ⟨⟨Evl.Ex.mut r.ex h2, by rw [List.length_set]; exact r.len, fun j d hj => ?_, fun j a es hj => ?_, fun j j' a es fs hj hj' => ?_⟩, ⟨Evl.Ex.refl B, fun a o h n => ?_, fun _ _ h _ => h, fun a ⟨j, es, hj⟩ => ?_, fun a z => ?_⟩⟩
  · by_cases w : i = j
    · subst w
      rw [List.getElem?_set_self hlt] at hj
      cases hj
    · rw [List.getElem?_set_ne w] at hj
      exact r.dat j d hj
  · rcases own_of j a es hj with ⟨rfl, rfl, rfl⟩ | ⟨w, q⟩
    · exact ⟨h1, h2, vs', upd_same, hd⟩
    · obtain ⟨h5, h6, ws, h7, h8⟩ := r.own j a es q
      exact ⟨h5, h6, ws, by rw [upd_ne (ne j a es w q)]; exact h7, h8⟩
  · rcases own_of j a es hj with ⟨rfl, rfl, rfl⟩ | ⟨w, q⟩
    · rcases own_of j' a fs hj' with ⟨rfl, _, _⟩ | ⟨w', q'⟩
      · rfl
      · exact absurd rfl (ne j' a fs w' q')
    · rcases own_of j' a fs hj' with ⟨rfl, rfl, _⟩ | ⟨w', q'⟩
      · exact absurd rfl (ne j a es w q)
      · exact r.dis j j' a es fs q q'
  · rw [upd_ne (fun z => n ⟨i, cs, by rw [z]; exact ho⟩)]
    exact h
  · rcases own_of j a es hj with ⟨rfl, rfl, rfl⟩ | ⟨w, q⟩
    · exact .inl ⟨_, cs, ho⟩
    · exact .inl ⟨j, es, q⟩
  · by_cases w : a = p
    · rw [w, upd_same] at z
      cases z
    · rw [upd_ne w] at z
      exact z
/-- xs[j] = e, xs a list of one's own -/
theorem vs_put (C : Cst X M sc NK G k) {i : Nat} {l : Bool} {p : Addr} {cs0 : List D} {px p2 : Pos} (ha : At NK i (x, true, l)) (ho : ρ[i]? = some (.own p cs0))
    (h : VD X e ρ fun d ρ1 => VD X b ρ1 fun y ρ2 => ∃ n j cs, y = .int n ∧ ρ2[i]? = some (.own p cs) ∧ ixN cs.length n = some j ∧ F.nx (ρ2.set i (.own p (cs.set j d))))
    (hs : swapsWithSole [.Subscript (.Name x px) b p2] e pos.line X.env = pure false := by rfl) (hw : swappedStores [.Subscript (.Name x px) b p2] e X.env = pure none := by rfl) (h1 : (assignEach [.Subscript (.Name x px) b p2] X.env).map (·.2) = [assign (.Subscript (.Name x px) b p2) X.env] := by rfl)
    (hd : (x == ("__debug__" : Str)) = false := by decide) (hcd : (x == ("__classdict__" : Str)) = false := by decide)
    (hg : ∀ v, assign (.Subscript (.Name x px) b p2) X.env v = (do
      let ov ← holding [v] (eval (.Name x px) X.env)
      let iv ← holding [v, ov] (eval b X.env)
      standAt p2
      holding [v, ov, iv] (setItem ov iv v)
      release [v, ov, iv] []) := by intro _; rfl) : VS X (.Assign [.Subscript (.Name x px) b p2] e pos) ρ F := VS.mk fun B H σ Z r f => by
  refine PS.sem (ps_asg pe_sem (pg_sub (pe_var (C.ix ha) (C.vi ha) hd hcd) pe_sem set_list hg) hs hw h1) ?_
  refine h.run B H σ _ r fun v d B1 H1 ρ1 p1 dv g1 r1 => ⟨.ref p, (r.own i p cs0 ho).1, ?_⟩
  refine p1.run B1 H1 σ _ r1 fun vy y B2 H2 ρ2 p2 dy g2 r2 => ?_
  obtain ⟨n, j, cs, rfl, ho2, hj, pp⟩ := p2
  obtain ⟨_, _, vs, h3, h4⟩ := r2.own i p cs ho2
  obtain ⟨r3, g3⟩ := own_write r2 ho2 (DpAll.set (Dp.mono g2.ex dv) j h4)
  exact ⟨p, vs, n, j, rfl, dp_int dy, h3, by rw [DpAll.len h4]; exact hj, f.nx B2 _ σ _ pp ((g1.trans g2).trans g3) r3⟩

/-! ### what is walked -/
/-- the iterator's turns give these data -/
def Yields (K : PySem.W.Frag) (J : It) (B : Hp) (ds : List D) : Prop := ∀ (i : Nat) (B1 H1 : Hp), Ex B B1 → Ex B1 H1 →
  (i < ds.length → J.go i H1 ∧ ∀ x H', J.yld i H1 x H' → H' = H1 ∧ ∃ d, ds[i]? = some d ∧ Dp K B1 x d) ∧ (ds.length ≤ i → J.stop i H1)
def iSemI (X : Cx) (tg iter : Expr) : TI := fun σ H R => ∀ pins s, Inv X pins σ H s → wpAny (model X.prog X.w) X.A (eval iter X.env) (fun v s1 => wpAny (model X.prog X.w) X.A (pyIter v) (PIE X pins σ tg R) X.xe s1) X.xe s
theorem pi_sem : PI X tg e (iSemI X tg e) := ⟨fun pins s σ H R I h => h pins s I⟩
theorem PI.sem {wi : TI} (h : PI X tg e wi) {σ : L2.St} {H : Hp} {R : It → Hp → Prop} (q : wi σ H R) : iSemI X tg e σ H R := fun pins s I => h.run pins s σ H R I q
structure VI (X : Cx) (tg iter : Expr) (ρ : En) (P : List D → En → Prop) : Prop where
  run : ∀ B H σ (R : It → Hp → Prop), Rel X.K B H σ ρ →
  (∀ J ds B' H' ρ', P ds ρ' → Yields X.K J B' ds → Go B H ρ B' H' ρ' → Rel X.K B' H' σ ρ' → R J H') → iSemI X tg iter σ H R
theorem vi_range {i : Nat} {p : Pos} (C : Cst X M sc NK G k) (hg : At G i "range") (h : VD X a ρ fun d ρ1 => ∃ n : Nat, d = .int (n : Int) ∧ n < 2 ^ 62 ∧ PL ((List.range n).map fun (j : Nat) => PyData.int (j : Int)) ρ1) (hm : M.mg "range" = none := by assumption)
    (hs : starEach [a] X.env = [(false, eval a X.env)] := by rfl) : VI X tg (.Call (.Name "range" p) [a] [] pos) ρ PL := VI.mk fun B H σ R r q => by
  refine PI.sem (pi_range1 (C.g hg) (C.mg hm) (pa_cons pe_sem pa_nil hs) hs) ?_
  refine h.run B H σ _ r fun v d B1 H1 ρ1 p1 dv g1 r1 => ?_
  obtain ⟨n, rfl, hn, pp⟩ := p1
  refine ⟨(n : Int), by rw [dp_int dv], by omega, by omega, q _ _ B1 H1 ρ1 pp (fun j B2 H2 e1 e2 => ⟨fun hj => ⟨?_, fun x H' y => ?_⟩, fun hj => ?_⟩) g1 r1⟩
  · rw [List.length_map, List.length_range] at hj
    show j < (n : Int).toNat
    rw [Int.toNat_natCast]
    exact hj
  · obtain ⟨rfl, rfl⟩ := y
    rw [List.length_map, List.length_range] at hj
    refine ⟨rfl, .int (j : Int), ?_, ?_⟩
    · rw [List.getElem?_map, List.getElem?_range hj]
      rfl
    · rw [Int.zero_add]
      exact .int _
  · rw [List.length_map, List.length_range] at hj
    show (n : Int).toNat ≤ j
    rw [Int.toNat_natCast]
    exact hj
theorem vi_tup (h : VD X e ρ fun d ρ1 => ∃ ds, d = .tuple ds ∧ PL ds ρ1) : VI X tg e ρ PL := VI.mk fun B H σ R r q => by
  refine PI.sem (pi_tup pe_sem) ?_
  refine h.run B H σ _ r fun v d B1 H1 ρ1 p1 dv g1 r1 => ?_
  obtain ⟨ds, rfl, pp⟩ := p1
  obtain ⟨t, vs, rfl, hT, hv⟩ := dp_tup dv
  refine ⟨t, rfl, ⟨vs, ex_t r1.ex hT⟩, q _ ds B1 H1 ρ1 pp (fun j B2 H2 e1 e2 => ⟨fun hj => ?_, fun hj => ⟨vs, ex_t (e1.trans e2) hT, by rw [DpAll.len hv]; exact hj⟩⟩) g1 r1⟩
  have hj' : j < vs.length := by rw [DpAll.len hv]; exact hj
  refine ⟨⟨vs, vs[j], ex_t (e1.trans e2) hT, List.getElem?_eq_getElem hj'⟩, fun x H' y => ?_⟩
  obtain ⟨rfl, y2⟩ := y
  refine ⟨rfl, ?_⟩
  obtain ⟨d, h1, h2⟩ := DpAll.getV hv (y2 vs (ex_t (e1.trans e2) hT))
  exact ⟨d, h1, Dp.mono e1 h2⟩
theorem vi_lst (h : VD X e ρ fun d ρ1 => ∃ ds, d = .list ds ∧ PL ds ρ1) : VI X tg e ρ PL := VI.mk fun B H σ R r q => by
  refine PI.sem (pi_list pe_sem) ?_
  refine h.run B H σ _ r fun v d B1 H1 ρ1 p1 dv g1 r1 => ?_
  obtain ⟨ds, rfl, pp⟩ := p1
  obtain ⟨t, vs, rfl, hT, hv⟩ := dp_lst dv
  refine ⟨t, rfl, ⟨vs, ex_l r1.ex hT⟩, q _ ds B1 H1 ρ1 pp (fun j B2 H2 e1 e2 => ⟨fun hj => ?_, fun hj => ⟨vs, ex_l (e1.trans e2) hT, by rw [DpAll.len hv]; exact hj⟩⟩) g1 r1⟩
  have hj' : j < vs.length := by rw [DpAll.len hv]; exact hj
  refine ⟨⟨vs, vs[j], ex_l (e1.trans e2) hT, List.getElem?_eq_getElem hj'⟩, fun x H' y => ?_⟩
  obtain ⟨rfl, y2⟩ := y
  refine ⟨rfl, ?_⟩
  obtain ⟨d, h1, h2⟩ := DpAll.getV hv (y2 vs (ex_l (e1.trans e2) hT))
  exact ⟨d, h1, Dp.mono e1 h2⟩

/-! ### for -/
theorem vs_for (C : Cst X M sc NK G k) {body : List Stmt} (h : VI X tg e ρ fun ds ρ1 => ∃ W : Nat → En → Prop, W 0 ρ1 ∧
      (∀ (i : Nat) d ρ', ds[i]? = some d → W i ρ' → VG X tg d ρ' fun ρ2 => VSs X body ρ2 { nx := W (i + 1), rt := F.rt, bk := F.nx, ct := W (i + 1) }) ∧ ∀ ρ', W ds.length ρ' → F.nx ρ')
    (hs : ∀ x, foldedSetIterable e X.env x = pure x := by intro _; rfl) : VS X (.For tg e body [] pos) ρ F := VS.mk fun B H σ Z r f => by
  refine PS.sem (ps_for C.never C.calm pi_sem pg_sem pss_sem hs) ?_
  refine h.run B H σ _ r fun J ds B1 H1 ρ1 p1 yl g1 r1 => ?_
  obtain ⟨W, w0, step, done⟩ := p1
  refine ⟨fun i m σ' H' => m = ds.length - i ∧ i ≤ ds.length ∧ ∃ B' ρ', W i ρ' ∧ Go B1 H1 ρ1 B' H' ρ' ∧ Rel X.K B' H' σ' ρ', ⟨ds.length, by omega, by omega, B1, ρ1, w0, Go.refl, r1⟩, ?_⟩
  rintro i m σ' H' ⟨rfl, hi, B', ρ', w, g, r'⟩
  obtain ⟨y1, y2⟩ := yl i B' H' g.ex r'.ex
  by_cases hlt : i < ds.length
  · obtain ⟨go, y⟩ := y1 hlt
    refine .inr ⟨go, fun σ2 H2 => ∃ B2 ρ2, W (i + 1) ρ2 ∧ Go B1 H1 ρ1 B2 H2 ρ2 ∧ Rel X.K B2 H2 σ2 ρ2, fun σ2 H2 ⟨B2, ρ2, w2, g2, r2⟩ => ⟨ds.length - (i + 1), by omega, rfl, hlt, B2, ρ2, w2, g2, r2⟩, fun x H2 hy => ?_⟩
    obtain ⟨rfl, d, hd, dx⟩ := y x H2 hy
    refine (step i d ρ' hd w).run x B' H2 σ' _ r' dx fun B2 H3 σ2 ρ2 p2 g2 r2 => ?_
    refine p2.run B2 H3 σ2 _ r2 ⟨fun B3 H4 σ3 ρ3 p3 g3 r3 => ⟨B3, ρ3, p3, (g.trans g2).trans g3, r3⟩, fun v d B3 H4 σ3 ρ3 p3 dv g3 r3 => f.rt v d B3 H4 σ3 ρ3 p3 dv (g1.trans ((g.trans g2).trans g3)) r3, fun B3 H4 σ3 ρ3 p3 g3 r3 => f.nx B3 H4 σ3 ρ3 p3 (g1.trans ((g.trans g2).trans g3)) r3, fun B3 H4 σ3 ρ3 p3 g3 r3 => ⟨B3, ρ3, p3, (g.trans g2).trans g3, r3⟩⟩
  · have e : i = ds.length := by omega
    subst e
    exact .inl ⟨y2 (Nat.le_refl _), f.nx B' H' σ' ρ' (done ρ' w) (g1.trans g) r'⟩
theorem vs_while (C : Cst X M sc NK G k) {body : List Stmt} (W : Nat → En → Prop) (m0 : Nat) (h0 : W m0 ρ)
    (h : ∀ m ρ', W m ρ' → VT X c ρ' fun bb ρ1 => (bb = true → VSs X body ρ1 { nx := fun ρ2 => ∃ m', m' < m ∧ W m' ρ2, rt := F.rt, bk := F.nx, ct := fun ρ2 => ∃ m', m' < m ∧ W m' ρ2 }) ∧ (bb = false → F.nx ρ1)) : VS X (.While c body [] pos) ρ F := VS.mk fun B H σ Z r f => by
  refine PS.sem (ps_while C.never pb_sem pss_sem) ?_
  refine ⟨fun m σ' H' => ∃ B' ρ', W m ρ' ∧ Go B H ρ B' H' ρ' ∧ Rel X.K B' H' σ' ρ', ⟨m0, B, ρ, h0, Go.refl, r⟩, fun m σ' H' ⟨B', ρ', w, g, r'⟩ => ?_⟩
  refine (h m ρ' w).run B' H' σ' _ r' fun bb B1 H1 ρ1 p1 g1 r1 => ?_
  cases bb with
  | true =>
    rw [if_pos rfl]
    refine ⟨fun σ2 H2 => ∃ m', m' < m ∧ ∃ B' ρ', W m' ρ' ∧ Go B H ρ B' H2 ρ' ∧ Rel X.K B' H2 σ2 ρ', fun σ2 H2 ⟨m', hm, q⟩ => ⟨m', hm, q⟩, (p1.1 rfl).run B1 H1 σ' _ r1 ⟨fun B3 H4 σ3 ρ3 p3 g3 r3 => ?_, fun v d B3 H4 σ3 ρ3 p3 dv g3 r3 => f.rt v d B3 H4 σ3 ρ3 p3 dv ((g.trans g1).trans g3) r3, fun B3 H4 σ3 ρ3 p3 g3 r3 => f.nx B3 H4 σ3 ρ3 p3 ((g.trans g1).trans g3) r3, fun B3 H4 σ3 ρ3 p3 g3 r3 => ?_⟩⟩
    · obtain ⟨m', hm, w'⟩ := p3
      exact ⟨m', hm, B3, ρ3, w', (g.trans g1).trans g3, r3⟩
    · obtain ⟨m', hm, w'⟩ := p3
      exact ⟨m', hm, B3, ρ3, w', (g.trans g1).trans g3, r3⟩
  | false =>
    rw [if_neg Bool.false_ne_true]
    exact f.nx B1 H1 σ' ρ1 (p1.2 rfl) (g.trans g1) r1
end

open PySem PySem.Spec PyProof.Rows L2
open Evl (Ex)

section
variable {X : Cx} {M : Md} {sc : Scope} {NK : List (Str × Bool × Bool)} {G : List Str} {k : Nat} {ρ : En} {P : D → En → Prop} {PL : List D → En → Prop} {pos : Pos} {e : Expr}

/-! ### comprehensions -/
def uSem (X : Cx) (scope : Scope) (e : Expr) : TE := fun σ H Q => ∀ s H0 C cl fp, eSem (X.blk s H0 scope (compEnvC scope cl C X.env) fp) e σ H Q
theorem pe_uSem {scope : Scope} : ∀ (s : Shared) (H : Hp) (C : Addr) (cl : List (Str × Addr)) (fp : List Addr), PE (X.blk s H scope (compEnvC scope cl C X.env) fp) e (uSem X scope e) :=
  fun s H C cl fp => ⟨fun pins s' σ H' Q I h => h s H C cl fp pins s' I⟩
theorem rel_no {K : PySem.W.Frag} {B H : Hp} {σ σ2 : L2.St} {ρ : En} {i : Nat} (r : Rel K B H σ2 ρ) (h : σ2.set i none = σ.set i none) : Rel K B H σ (ρ.set i .no) := by
  have hl : σ2.length = σ.length := by
    have := congrArg List.length h
    rw [List.length_set, List.length_set] at this
    exact this
  have back : ∀ (j : Nat) s, s ≠ Sl.no → (ρ.set i .no)[j]? = some s → j ≠ i ∧ ρ[j]? = some s := fun j s hs hj => by
    by_cases z : i = j
    · subst z
      by_cases hi : i < ρ.length
      · rw [List.getElem?_set_self hi] at hj
        exact absurd (Option.some.inj hj).symm hs
      · rw [List.getElem?_eq_none (by rw [List.length_set]; omega)] at hj
        cases hj
    · rw [List.getElem?_set_ne z] at hj
      exact ⟨fun q => z q.symm, hj⟩
  have eq : ∀ j, j ≠ i → σ2[j]? = σ[j]? := fun j hj => by
    have := congrArg (fun l : L2.St => l[j]?) h
    simp only [List.getElem?_set_ne (Ne.symm hj)] at this
    exact this
  refine ⟨r.ex, by rw [List.length_set, r.len, hl], fun j d hj => ?_, fun j a ds hj => ?_, fun j j' a ds es hj hj' => ?_⟩
  · obtain ⟨h1, h2⟩ := back j (.dat d) (by intro z; cases z) hj
    rw [← eq j h1]
    exact r.dat j d h2
  · obtain ⟨h1, h2⟩ := back j (.own a ds) (by intro z; cases z) hj
    rw [← eq j h1]
    exact r.own j a ds h2
  · exact r.dis j j' a ds es (back j (.own a ds) (by intro z; cases z) hj).2 (back j' (.own a es) (by intro z; cases z) hj').2
theorem own_no {ρ : En} {i : Nat} {a : Addr} (h : Own (ρ.set i .no) a) : Own ρ a := by
  obtain ⟨j, ds, hj⟩ := h
  by_cases z : i = j
  · subst z
    by_cases hl : i < ρ.length
    · rw [List.getElem?_set_self hl] at hj
      cases hj
    · rw [List.getElem?_eq_none (by rw [List.length_set]; omega)] at hj
      cases hj
  · rw [List.getElem?_set_ne z] at hj
    exact ⟨j, ds, hj⟩
theorem go_no {B H : Hp} {ρ : En} {i : Nat} : Go B H ρ B H (ρ.set i .no) := ⟨Evl.Ex.refl B, fun _ _ h _ => h, fun _ _ h _ => h, fun _ h => .inl (own_no h), fun _ h => h⟩
/-- the list that is being made, one more -/
theorem acc_put {K : PySem.W.Frag} {B H B1 H1 : Hp} {σ : L2.St} {ρ ρ1 : En} {p : Addr} {o : HO} (g : Go B H ρ B1 H1 ρ1) (r : Rel K B1 H1 σ ρ1) (hp : H p = none) (bp : B1 p = none) (no : ¬ Own ρ1 p) : Go B H ρ B1 (upd H1 p o) ρ1 ∧ Rel K B1 (upd H1 p o) σ ρ1 := by
  refine ⟨⟨g.ex, fun a u h n => ?_, g.out, g.own, fun a z => ?_⟩, ⟨Evl.Ex.mut r.ex bp, r.len, r.dat, fun i a ds h => ?_, r.dis⟩⟩
  · rw [upd_ne (ne_of_none h hp)]
    exact g.keep a u h n
  · by_cases w : a = p
    · rw [w]
      exact hp
    · rw [upd_ne w] at z
      exact g.dom a z
  · obtain ⟨h1, h2, vs, h3, h4⟩ := r.own i a ds h
    exact ⟨h1, h2, vs, by rw [upd_ne (fun z => no ⟨i, ds, by rw [← z]; exact h⟩)]; exact h3, h4⟩
/-- what a comprehension's reading asks -/
theorem lc_read {B H : Hp} {σ : L2.St} {Q : VK} {scope : Scope} {i : Nat} {y : Str} {py : Pos} {elt iter : Expr} {Cb : Cx → Prop} (r : Rel X.K B H σ ρ)
    (cb : ∀ (s : Shared) (H : Hp) (Ca : Addr) (cl : List (Str × Addr)) (fp : List Addr), Cb (X.blk s H scope (compEnvC scope cl Ca X.env) fp))
    (h : VI X (.Name y py) iter ρ fun ds ρ1 => ds.length ≤ 100000 ∧ ∃ W : Nat → List D → En → Prop, W 0 [] ρ1 ∧
      (∀ (j : Nat) d acc ρ', ds[j]? = some d → W j acc ρ' → ∀ X', Cb X' → VD X' elt (ρ'.set i (.dat d)) fun u ρ4 => W (j + 1) (acc ++ [u]) (ρ4.set i .no)) ∧
      ∀ acc ρ', W ds.length acc ρ' → PL acc ρ')
    (q : ∀ p vs ds B' H' ρ', PL ds ρ' → H p = none → H' p = some (.lst vs) → B' p = none → ¬ Own ρ' p → DpAll X.K B' vs ds → Go B H ρ B' H' ρ' → Rel X.K B' H' σ ρ' → Q (.ref p) H') :
    tLc (iSemI X (.Name y py) iter) (gName i) tYes (uSem X scope elt) [i] σ H Q := by
  refine h.run B H σ _ r fun J ds B1 H1 ρ1 p1 yl g1 r1 Dl hD => ?_
  obtain ⟨hlen, W, w0, step, done⟩ := p1
  have bD : B1 Dl = none := by
    cases e : B1 Dl with
    | none => rfl
    | some u =>
      rw [r1.ex Dl u e] at hD
      cases hD
  have nD : ¬ Own ρ1 Dl := fun ⟨j, es, hj⟩ => by
    obtain ⟨_, _, ws, h7, _⟩ := r1.own j Dl es hj
    rw [hD] at h7
    cases h7
  refine ⟨fun j m H' => m = ds.length - j ∧ j ≤ ds.length ∧ ∃ acc vs B' ρ', W j acc ρ' ∧ acc.length = j ∧ H' Dl = some (.lst vs) ∧ B' Dl = none ∧ ¬ Own ρ' Dl ∧ DpAll X.K B' vs acc ∧ Go B1 H1 ρ1 B' H' ρ' ∧ Rel X.K B' H' σ ρ', ⟨ds.length, by omega, by omega, [], [], B1, ρ1, w0, rfl, upd_same, bD, nD, .nil, (acc_put Go.refl r1 hD bD nD).1, (acc_put Go.refl r1 hD bD nD).2⟩, ?_⟩
  rintro j m H' ⟨rfl, hj, acc, vs, B', ρ', w, hacc, hl, bl, nl, dacc, g, r'⟩
  obtain ⟨y1, y2⟩ := yl j B' H' g.ex r'.ex
  by_cases hlt : j < ds.length
  · obtain ⟨go, yy⟩ := y1 hlt
    refine .inr ⟨go, fun H2 => ∃ acc vs B' ρ', W (j + 1) acc ρ' ∧ acc.length = j + 1 ∧ H2 Dl = some (.lst vs) ∧ B' Dl = none ∧ ¬ Own ρ' Dl ∧ DpAll X.K B' vs acc ∧ Go B1 H1 ρ1 B' H2 ρ' ∧ Rel X.K B' H2 σ ρ', fun H2 hN2 => ⟨ds.length - (j + 1), by omega, rfl, hlt, hN2⟩, fun x H2 hy2 => ?_⟩
    obtain ⟨rfl, d, hd, dx⟩ := yy x H2 hy2
    have st := step j d acc ρ' hd w
    -- the block's slots
    have rw0 : Rel X.K B' H2 (σ.set i none) (ρ'.set i .no) := rel_no r' (by rw [List.set_set])
    have rw1 : Rel X.K B' H2 ((wipe σ [i]).set i (some x)) (ρ'.set i (.dat d)) := by
      have q1 : Rel X.K B' H2 ((σ.set i none).set i (some x)) ((ρ'.set i .no).set i (.dat d)) := rel_set (i := i) rw0 dx
      have q2 : (ρ'.set i .no).set i (Sl.dat d) = ρ'.set i (.dat d) := List.set_set ..
      rw [q2] at q1
      exact q1
    refine ⟨?_, fun s0 H0 Ca cl fp => ?_⟩
    · show (((σ.set i none).set i (some x)).set i none) = σ.set i none
      rw [List.set_set, List.set_set]
    · have vd := st _ (cb s0 H0 Ca cl fp)
      refine vd.run B' H2 ((wipe σ [i]).set i (some x)) _ rw1 fun u du B4 H4 ρ4 p4 dv g4 r4 => ?_
      have gA : Go B1 H1 ρ1 B4 H4 ρ4 := (g.trans go_set).trans g4
      have nl2 : ¬ Own (ρ'.set i (.dat d)) Dl := fun z => nl (own_set z)
      have hD4 : H4 Dl = some (.lst vs) := g4.keep Dl _ hl nl2
      have bD4 : B4 Dl = none := g4.out Dl (by rw [hl]; exact fun z => by cases z) bl nl2
      have nD4 : ¬ Own ρ4 Dl := fun z => (g4.own Dl z).elim nl2 fun e => by rw [hl] at e; cases e
      have rS : Rel X.K B4 H4 σ (ρ4.set i .no) := rel_no r4 (by
        show ((σ.set i none).set i (some x)).set i none = σ.set i none
        rw [List.set_set, List.set_set])
      have gS : Go B1 H1 ρ1 B4 H4 (ρ4.set i .no) := gA.trans go_no
      have nS : ¬ Own (ρ4.set i .no) Dl := fun z => nD4 (own_no z)
      obtain ⟨gF, rF⟩ := acc_put (o := .lst (vs ++ [u])) gS rS hD bD4 nS
      refine ⟨vs, hD4, ?_, acc ++ [du], vs ++ [u], B4, ρ4.set i .no, p4, by rw [List.length_append, hacc]; rfl, upd_same, bD4, nS, DpAll.app (DpAll.mono g4.ex dacc) (.cons dv .nil), gF, rF⟩
      rw [DpAll.len dacc, hacc]
      exact Nat.lt_of_lt_of_le hlt (Nat.le_trans hlen (by decide))
  · have e : j = ds.length := by omega
    subst e
    exact .inl ⟨y2 (Nat.le_refl _), q Dl vs acc B' H' ρ' (done acc ρ' w) (g1.dom Dl hD) hl bl nl dacc (g1.trans g) r'⟩
/-- [elt for y in iter] -/
theorem vn_lc (C : Cst X M sc NK G k) {scope : Scope} {i : Nat} {y : Str} {py : Pos} {elt iter : Expr} {v : Bool} (NK' : List (Str × Bool × Bool)) (G' : List Str) (hy : At NK' i (y, v, true))
    (h : VI X (.Name y py) iter ρ fun ds ρ1 => ds.length ≤ 100000 ∧ ∃ W : Nat → List D → En → Prop, W 0 [] ρ1 ∧
      (∀ (j : Nat) d acc ρ', ds[j]? = some d → W j acc ρ' → ∀ X', Cst X' M (relS scope sc) NK' G' k → VD X' elt (ρ'.set i (.dat d)) fun u ρ4 => W (j + 1) (acc ++ [u]) (ρ4.set i .no)) ∧
      ∀ acc ρ', W ds.length acc ρ' → PL acc ρ')
    (ok : blkC (NK.map (·.1)) sc scope [(y, i)] = true := by decide +kernel) (hN : NK'.map (·.1) = NK.map (·.1) := by rfl) (hc : chk (relS scope sc) false NK' G' = true := by decide +kernel)
    (hs : ∀ x, foldedSetIterable iter X.env x = pure x := by intro _; rfl) : VN X (.ListComp elt [⟨.Name y py, iter, [], 0⟩] scope pos) ρ PL := VN.mk fun B H σ Q r q => by
  have ok' : BlkOk X.N X.env.scope scope [(y, i)] := by
    rw [C.n, C.s]
    exact blkOk_by ok
  have cb : ∀ (s : Shared) (H : Hp) (Ca : Addr) (cl : List (Str × Addr)) (fp : List Addr), Cst (X.blk s H scope (compEnvC scope cl Ca X.env) fp) M (relS scope sc) NK' G' k := fun s H Ca cl fp => cst_blk C hN hc
  exact PE.sem (pe_lc (g := gName i) (tt := tYes) C.calm C.nd pi_sem ok' (fun s H Ca cl fp => pg_name (cb s H Ca cl fp).nd ((cb s H Ca cl fp).ix hy) ((cb s H Ca cl fp).lo hy) ((cb s H Ca cl fp).fn hy)) (fun _ _ _ _ _ => pts_nil) pe_uSem hs)
    (lc_read (Cb := fun X' => Cst X' M (relS scope sc) NK' G' k) r cb h q)
/-- a new list into a slot: as one's own -/
theorem own_new {K : PySem.W.Frag} {B H B1 H1 : Hp} {σ : L2.St} {ρ ρ1 : En} {i : Nat} {z : Addr} {vs : List V} {ds : List D} (hl : i < ρ1.length) (hz : H z = none) (h1 : H1 z = some (.lst vs)) (bz : B1 z = none) (no : ¬ Own ρ1 z) (dvs : DpAll K B1 vs ds) (g1 : Go B H ρ B1 H1 ρ1) (r1 : Rel K B1 H1 σ ρ1) :
    Go B H ρ B1 H1 (ρ1.set i (.own z ds)) ∧ Rel K B1 H1 (σ.set i (some (.ref z))) (ρ1.set i (.own z ds)) := by
  have own_of : ∀ (j : Nat) a es, (ρ1.set i (.own z ds))[j]? = some (.own a es) → (j = i ∧ a = z ∧ es = ds) ∨ (j ≠ i ∧ ρ1[j]? = some (.own a es)) := fun j a es hj => by
    by_cases w : i = j
    · subst w
      rw [List.getElem?_set_self hl] at hj
      cases hj
      exact .inl ⟨rfl, rfl, rfl⟩
    · rw [List.getElem?_set_ne w] at hj
      exact .inr ⟨fun q => w q.symm, hj⟩
  refine ⟨⟨g1.ex, g1.keep, g1.out, fun a ⟨j, es, hj⟩ => ?_, g1.dom⟩, ⟨r1.ex, by rw [List.length_set, List.length_set]; exact r1.len, fun j d hj => ?_, fun j a es hj => ?_, fun j j' a es fs hj hj' => ?_⟩⟩
  · rcases own_of j a es hj with ⟨_, rfl, _⟩ | ⟨_, q⟩
    · exact .inr hz
    · exact g1.own a ⟨j, es, q⟩
  · by_cases w : i = j
    · subst w
      rw [List.getElem?_set_self hl] at hj
      cases hj
    · rw [List.getElem?_set_ne w] at hj ⊢
      exact r1.dat j d hj
  · rcases own_of j a es hj with ⟨rfl, rfl, rfl⟩ | ⟨w, q⟩
    · exact ⟨by rw [List.getElem?_set_self (by rw [← r1.len]; exact hl)], bz, vs, h1, dvs⟩
    · rw [List.getElem?_set_ne (fun q => w q.symm)]
      exact r1.own j a es q
  · rcases own_of j a es hj with ⟨rfl, rfl, rfl⟩ | ⟨w, q⟩
    · rcases own_of j' a fs hj' with ⟨rfl, _, _⟩ | ⟨w', q'⟩
      · rfl
      · exact absurd ⟨j', fs, q'⟩ no
    · rcases own_of j' a fs hj' with ⟨rfl, rfl, _⟩ | ⟨w', q'⟩
      · exact absurd ⟨j, es, q⟩ no
      · exact r1.dis j j' a es fs q q'
/-- a slot's own list is told as data that stays -/
theorem own_frz {K : PySem.W.Frag} {B H B1 H1 : Hp} {σ : L2.St} {ρ ρ1 : En} {z : Addr} {vs : List V} {ds : List D} (hz : H z = none) (h1 : H1 z = some (.lst vs)) (bz : B1 z = none) (no : ¬ Own ρ1 z) (dvs : DpAll K B1 vs ds) (g1 : Go B H ρ B1 H1 ρ1) (r1 : Rel K B1 H1 σ ρ1) :
    Go B H ρ (upd B1 z (.lst vs)) H1 ρ1 ∧ Rel K (upd B1 z (.lst vs)) H1 σ ρ1 ∧ Dp K (upd B1 z (.lst vs)) (.ref z) (.list ds) := by
  have eB : Ex B1 (upd B1 z (.lst vs)) := Evl.Ex.new bz
  have ne : ∀ a, Own ρ1 a → a ≠ z := fun a w e => no (by rw [← e]; exact w)
  refine ⟨⟨g1.ex.trans eB, g1.keep, fun a h1 h2 h3 => ?_, g1.own, g1.dom⟩, ⟨fun a u ha => ?_, r1.len, fun i d hi => ?_, fun i a ds' hi => ?_, r1.dis⟩, .lst (.inl (.inl upd_same)) (DpAll.mono eB dvs)⟩
  · rw [upd_ne (fun w => h1 (by rw [w]; exact hz))]
    exact g1.out a h1 h2 h3
  · by_cases w : a = z
    · rw [w, upd_same] at ha
      rw [w, h1]
      exact ha
    · rw [upd_ne w] at ha
      exact r1.ex a u ha
  · obtain ⟨v, h1, h2⟩ := r1.dat i d hi
    exact ⟨v, h1, Dp.mono eB h2⟩
  · obtain ⟨h1, h2, ws, h3, h4⟩ := r1.own i a ds' hi
    refine ⟨h1, ?_, ws, h3, DpAll.mono eB h4⟩
    rw [upd_ne (ne a ⟨i, ds', hi⟩)]
    exact h2
/-- name = [elt for y in iter], on one line, as data that stays -/
theorem vs_setLc (C : Cst X M sc NK G k) {F : Fin} {scope : Scope} {i m : Nat} {x y : Str} {px py spos : Pos} {elt iter : Expr} {v v2 : Bool} (NK' : List (Str × Bool × Bool)) (G' : List Str) (hx : At NK m (x, v2, true)) (hy : At NK' i (y, v, true))
    (h : VI X (.Name y py) iter ρ fun ds ρ1 => ds.length ≤ 100000 ∧ ∃ W : Nat → List D → En → Prop, W 0 [] ρ1 ∧
      (∀ (j : Nat) d acc ρ', ds[j]? = some d → W j acc ρ' → ∀ X', Cst X' M (relS scope sc) NK' G' k → VD X' elt (ρ'.set i (.dat d)) fun u ρ4 => W (j + 1) (acc ++ [u]) (ρ4.set i .no)) ∧
      ∀ acc ρ', W ds.length acc ρ' → F.nx (ρ'.set m (.dat (.list acc))))
    (hk : sc.kind = .function := by rfl) (hxl : sc.names.lookup x = some .local := by decide +kernel) (hpl : (px.line == pos.line) = true := by rfl) (hpa : (scope.names.any fun (n, k) => n == x && (k == .local || k == .cell)) = false := by decide +kernel)
    (ok : blkC (NK.map (·.1)) sc scope [(y, i)] = true := by decide +kernel) (hN : NK'.map (·.1) = NK.map (·.1) := by rfl) (hc : chk (relS scope sc) false NK' G' = true := by decide +kernel)
    (hs : ∀ x, foldedSetIterable iter X.env x = pure x := by intro _; rfl) : VS X (.Assign [.Name x px] (.ListComp elt [⟨.Name y py, iter, [], 0⟩] scope pos) spos) ρ F := VS.mk fun B H σ Z r f => by
  have ok' : BlkOk X.N X.env.scope scope [(y, i)] := by
    rw [C.n, C.s]
    exact blkOk_by ok
  have cb : ∀ (s : Shared) (H : Hp) (Ca : Addr) (cl : List (Str × Addr)) (fp : List Addr), Cst (X.blk s H scope (compEnvC scope cl Ca X.env) fp) M (relS scope sc) NK' G' k := fun s H Ca cl fp => cst_blk C hN hc
  refine PS.sem (ps_setLc (g := gName i) (tt := tYes) (i := m) C.calm C.nd (C.ix hx) (by rw [C.s]; exact hxl) (sw_true (by rw [C.s]; exact hk) (by rw [C.s]; exact hxl) hpl hpa) pi_sem ok' (fun s H Ca cl fp => pg_name (cb s H Ca cl fp).nd ((cb s H Ca cl fp).ix hy) ((cb s H Ca cl fp).lo hy) ((cb s H Ca cl fp).fn hy)) (fun _ _ _ _ _ => pts_nil) pe_uSem hs) ?_
  refine lc_read (Cb := fun X' => Cst X' M (relS scope sc) NK' G' k) (PL := fun acc ρ' => F.nx (ρ'.set m (.dat (.list acc)))) r cb h fun z vs ds B1 H1 ρ1 p hz h1 bz no dvs g1 r1 => ?_
  obtain ⟨g2, r2, d2⟩ := own_frz hz h1 bz no dvs g1 r1
  exact f.nx _ H1 _ _ p (g2.trans go_set) (rel_set r2 d2)
end

/-! ### defs -/
section
variable {M : Md} {x : Str} {st : Stmt} {f : Addr} {fd : FuncData} {N ps : List Str} {NK : List (Str × Bool × Bool)} {G : List Str} {k n : Nat}
theorem start_get {vs : List V} {N : List Str} {i : Nat} {v : V} (h : vs[i]? = some v) : (L2.start N vs)[i]? = some (some v) := by
  unfold L2.start
  rw [List.getElem?_append_left (by rw [List.length_map]; exact (List.getElem?_eq_some_iff.mp h).1), List.getElem?_map, h]
  rfl
theorem slots_get {ds : List D} {m i : Nat} {s : Sl} (h : (ds.map Sl.dat ++ List.replicate m Sl.no)[i]? = some s) : (∃ d, s = .dat d ∧ ds[i]? = some d) ∨ s = .no := by
  by_cases hi : i < ds.length
  · rw [List.getElem?_append_left (by rw [List.length_map]; exact hi), List.getElem?_map] at h
    cases e : ds[i]? with
    | none =>
      rw [e] at h
      cases h
    | some d =>
      rw [e] at h
      cases h
      exact .inl ⟨d, rfl, rfl⟩
  · rw [List.getElem?_append_right (by rw [List.length_map]; omega), List.getElem?_replicate] at h
    split at h
    · cases h
      exact .inr rfl
    · cases h
theorem rel_start {K : PySem.W.Frag} {B H : Hp} {vs : List V} {ds : List D} (e : Ex B H) (h : DpAll K B vs ds) (hl : ds.length ≤ N.length) : Rel K B H (L2.start N vs) (ds.map Sl.dat ++ List.replicate (N.length - ds.length) Sl.no) := by
  refine ⟨e, ?_, fun i d hi => ?_, fun i a es hi => ?_, fun i j a es fs hi _ => ?_⟩
  · unfold L2.start
    rw [List.length_append, List.length_append, List.length_map, List.length_map, List.length_replicate, List.length_replicate, DpAll.len h]
  · rcases slots_get hi with ⟨d', e1, e2⟩ | e1
    · cases e1
      obtain ⟨v, h1, h2⟩ := DpAll.get h e2
      exact ⟨v, start_get h1, h2⟩
    · cases e1
  · rcases slots_get hi with ⟨d', e1, e2⟩ | e1 <;> cases e1
  · rcases slots_get hi with ⟨d', e1, e2⟩ | e1 <;> cases e1
theorem fnOk_mk {S : List D → (D → Prop) → Prop} (F : Fun M.K x x st f fd) (Sc : FnScope N ps (defScope st)) (hN : N = NK.map (·.1)) (hc : chk (defScope st) true NK G = true) (hn : ps.length = n) (hnN : n ≤ N.length)
    (body : ∀ X, Cst X M (defScope st) NK G k → ∀ ds W, ds.length = n → S ds W → VSs X (defBody st) (ds.map Sl.dat ++ List.replicate (N.length - n) Sl.no) { nx := fun _ => W .none, rt := fun d _ => W d }) : FnOk M.prog M.w M.K M.mg M.base CX0 (k + 1) f fd ps (DS M.K n S) := by
  refine F.ok Sc (fun vs H Q E h => ?_) (fun cdv A outer s H vs Q E hr h => ?_)
  · obtain ⟨B, ds, W, e, d, hl, _⟩ := h
    rw [DpAll.len d, hl, hn]
  · obtain ⟨B, ds, W, e, d, hl, hS, q⟩ := h
    have C : Cst (cxOf CX0 M.prog M.w M.K M.mg M.base N x (defScope st) f cdv A outer s H E).nox M (defScope st) NK G k := cst_def hN Sc.nd hc hr
    refine ⟨_, pss_sem, ?_⟩
    have bd := body _ C ds W hl hS
    have r0 := rel_start (N := N) e d (by omega)
    rw [hl] at r0
    have no0 : ∀ a, ¬ Own (ds.map Sl.dat ++ List.replicate (N.length - n) Sl.no) a := fun a ⟨i, es, hi⟩ => by
      rcases slots_get hi with ⟨d', e1, e2⟩ | e1 <;> cases e1
    refine bd.run B H _ _ r0 ⟨fun B' H' σ' ρ' p g r => ?_, fun v dd B' H' σ' ρ' p dv g r => ?_, fun _ _ _ _ p => p.elim, fun _ _ _ _ p => p.elim⟩
    · exact q .non .none B' H' p .non g.ex r.ex (fun a o h => g.keep a o h (no0 a)) fun a h1 h2 => g.out a h1 h2 (no0 a)
    · exact q v dd B' H' p dv g.ex r.ex (fun a o h => g.keep a o h (no0 a)) fun a h1 h2 => g.out a h1 h2 (no0 a)
theorem fnD_mk {S : List D → (D → Prop) → Prop} (F : Fun M.K x x st f fd) (Sc : FnScope N ps (defScope st)) (hm : M.mg x = some (.ref f)) (b : Binds M.K fd ps []) (hN : N = NK.map (·.1)) (hc : chk (defScope st) true NK G = true) (hn : ps.length = n) (hnN : n ≤ N.length)
    (body : ∀ X, Cst X M (defScope st) NK G k → ∀ ds W, ds.length = n → S ds W → VSs X (defBody st) (ds.map Sl.dat ++ List.replicate (N.length - n) Sl.no) { nx := fun _ => W .none, rt := fun d _ => W d }) : FnD M (k + 1) x n S :=
  ⟨f, fd, ps, fnOk_mk F Sc hN hc hn hnN body, hm, F.kp, b⟩
theorem fnM_mk {S : List D → List D → (D → List D → Prop) → Prop} (F : Fun M.K x x st f fd) (Sc : FnScope N ps (defScope st)) (hm : M.mg x = some (.ref f)) (b : Binds M.K fd ps []) (hN : N = NK.map (·.1)) (hc : chk (defScope st) true NK G = true) (hn : ps.length = n + 1) (hnN : n + 1 ≤ N.length)
    (body : ∀ X, Cst X M (defScope st) NK G k → ∀ p cs ds W, ds.length = n → S cs ds W → VSs X (defBody st) (.own p cs :: (ds.map Sl.dat ++ List.replicate (N.length - (n + 1)) Sl.no)) { nx := fun ρ' => ∃ cs', ρ'[0]? = some (.own p cs') ∧ W .none cs', rt := fun d ρ' => ∃ cs', ρ'[0]? = some (.own p cs') ∧ W d cs' }) : FnM M (k + 1) x n S := by
  refine ⟨f, fd, ps, ?_, hm, F.kp, b⟩
  refine F.ok Sc (fun vs H Q E h => ?_) (fun cdv A outer s H vs Q E hr h => ?_)
  · obtain ⟨B, p, xs, cs, ws, ds, W, rfl, e, bp, hp, dx, d, hl, _⟩ := h
    rw [List.length_cons, DpAll.len d, hl, hn]
  · obtain ⟨B, p, xs, cs, ws, ds, W, rfl, e, bp, hp, dx, d, hl, hS, q⟩ := h
    have C : Cst (cxOf CX0 M.prog M.w M.K M.mg M.base N x (defScope st) f cdv A outer s H E).nox M (defScope st) NK G k := cst_def hN Sc.nd hc hr
    refine ⟨_, pss_sem, ?_⟩
    have bd := body _ C p cs ds W hl hS
    have own0 : ∀ a, Own (.own p cs :: (ds.map Sl.dat ++ List.replicate (N.length - (n + 1)) Sl.no)) a → a = p := fun a ⟨i, es, hi⟩ => by
      cases i with
      | zero => cases hi; rfl
      | succ i =>
        rw [List.getElem?_cons_succ] at hi
        rcases slots_get hi with ⟨d', e1, e2⟩ | e1 <;> cases e1
    have r0 : Rel M.K B H (L2.start N (.ref p :: ws)) (.own p cs :: (ds.map Sl.dat ++ List.replicate (N.length - (n + 1)) Sl.no)) := by
      refine ⟨e, ?_, fun i dd hi => ?_, fun i a es hi => ?_, fun i j a es fs hi hj => ?_⟩
      · unfold L2.start
        simp only [List.length_cons, List.length_append, List.length_map, List.length_replicate, DpAll.len d, hl]
        omega
      · cases i with
        | zero => cases hi
        | succ i =>
          rw [List.getElem?_cons_succ] at hi
          rcases slots_get hi with ⟨d', e1, e2⟩ | e1
          · cases e1
            obtain ⟨v, h1, h2⟩ := DpAll.get d e2
            exact ⟨v, start_get (by rw [List.getElem?_cons_succ]; exact h1), h2⟩
          · cases e1
      · cases i with
        | zero =>
          cases hi
          exact ⟨start_get rfl, bp, xs, hp, dx⟩
        | succ i =>
          rw [List.getElem?_cons_succ] at hi
          rcases slots_get hi with ⟨d', e1, e2⟩ | e1 <;> cases e1
      · cases i with
        | zero =>
          cases j with
          | zero => rfl
          | succ j =>
            rw [List.getElem?_cons_succ] at hj
            rcases slots_get hj with ⟨d', e1, e2⟩ | e1 <;> cases e1
        | succ i =>
          rw [List.getElem?_cons_succ] at hi
          rcases slots_get hi with ⟨d', e1, e2⟩ | e1 <;> cases e1
    have fin : ∀ v dd B' H' σ' ρ', (∃ cs', ρ'[0]? = some (.own p cs') ∧ W dd cs') → Dp M.K B' v dd → Go B H (.own p cs :: (ds.map Sl.dat ++ List.replicate (N.length - (n + 1)) Sl.no)) B' H' ρ' → Rel M.K B' H' σ' ρ' → Q v H' := fun v dd B' H' σ' ρ' ⟨cs', h0, w⟩ dv g r => by
      obtain ⟨_, h2, vs', h3, h4⟩ := r.own 0 p cs' h0
      exact q v dd B' H' vs' cs' w dv g.ex r.ex h2 h3 h4 (fun a o hne h => g.keep a o h fun z => hne (own0 a z)) fun a hne h1 h2 => g.out a h1 h2 fun z => hne (own0 a z)
    refine bd.run B H _ _ r0 ⟨fun B' H' σ' ρ' p' g r => fin .non .none B' H' σ' ρ' p' .non g r, fun v dd B' H' σ' ρ' p' dv g r => fin v dd B' H' σ' ρ' p' dv g r, fun _ _ _ _ p => p.elim, fun _ _ _ _ p => p.elim⟩
end
/-- a law: of every script of at most n numbers it says True -/
def LawS (n : Nat) : List D → (D → Prop) → Prop := fun ds W => ∃ ns : List Int, ds = [.list (ns.map PyData.int)] ∧ ns.length ≤ n ∧ W (.bool true)
theorem law_sp {K : PySem.W.Frag} {H : Hp} {a : Addr} {ns : List Int} {n : Nat} (hl : ns.length ≤ n) (h : SqL K H a (ns.map V.int)) : DS K 1 (LawS n) [.ref a] H (fun v _ => v = .bl true) fun _ _ _ => False :=
  ⟨H, [.list (ns.map PyData.int)], fun d => d = .bool true, Evl.Ex.refl H, .cons (.lst h (dp_ints ns)) .nil, rfl, ⟨ns, rfl, hl, rfl⟩, fun v d B' H' w dv _ _ _ _ => by
    subst w
    exact dp_bool dv⟩

open PySem PySem.Calls PySem.W
theorem args_gcd3 (a b c : Value) : argsOk "math.gcd" ⟨[a, b, c], []⟩ := by unfold argsOk; kernel_rfl
theorem args_lcm3 (a b c : Value) : argsOk "math.lcm" ⟨[a, b, c], []⟩ := by unfold argsOk; kernel_rfl
theorem run_gcd3 (a : Int) (t : Tok) (b : Int) (u : Tok) (c : Int) (v : Tok) :
    Gives (Builtin.«math.gcd» ⟨[.int a t, .int b u, .int c v], []⟩) (.int (((((Nat.gcd 0 a.natAbs).gcd b.natAbs).gcd c.natAbs : Nat) : Int))) :=
  .of_wp fun M A E s Q h => by obtain ⟨hp, g, d, tk, os⟩ := s; wp_walk; exact ⟨_, rfl, h⟩
theorem run_lcm3 (a : Int) (t : Tok) (b : Int) (u : Tok) (c : Int) (v : Tok) (hc0 : ¬(max 1 a.natAbs).log2 / 30 + 1 > 450) (hc1 : ¬(max (Nat.lcm 1 a.natAbs) b.natAbs).log2 / 30 + 1 > 450) (hc2 : ¬(max ((Nat.lcm 1 a.natAbs).lcm b.natAbs) c.natAbs).log2 / 30 + 1 > 450) (hsz : (((((Nat.lcm 1 a.natAbs).lcm b.natAbs).lcm c.natAbs : Nat) : Int)).natAbs.log2 < bitsLine) :
    Gives (Builtin.«math.lcm» ⟨[.int a t, .int b u, .int c v], []⟩) (.int (((((Nat.lcm 1 a.natAbs).lcm b.natAbs).lcm c.natAbs : Nat) : Int))) :=
  .of_wp fun M A E s Q h => by obtain ⟨hp, g, d, tk, os⟩ := s; wp_walk; rw [if_neg hc1]; wp_walk; (try rw [if_neg hc2]); (try wp_walk); (try (refine wpAny_ite_false (decide_eq_false (Nat.not_le.mpr hsz)) ?_; wp_walk)); exact ⟨_, rfl, h⟩
theorem lcm_le (m n : Nat) : m.lcm n ≤ m * n := mc_lcm_le m n
open L2 PyProof.Rows Evl
section
variable {X : Cx}
theorem does_gcd3 : Does X (.builtin "math.gcd") (fun ds W => ∃ a b c : Int, ds = [.int a, .int b, .int c] ∧ W (.int ((Nat.gcd (Nat.gcd a.natAbs b.natAbs) c.natAbs : Nat) : Int))) := fun B H vs ds W Q e h s q => by
  obtain ⟨a, b, c, rfl, w⟩ := s
  cases h with
  | cons h1 h2 =>
    cases h2 with
    | cons h2 h3 =>
      cases h3 with
      | cons h3 h4 =>
        cases h4
        rw [dp_int h1, dp_int h2, dp_int h3]
        intro pins s σ us I rv
        cases rv with
        | cons r1 rv =>
          cases rv with
          | cons r2 rv =>
            cases rv with
            | cons r3 rv =>
              cases rv
              obtain ⟨t, rfl⟩ := r1
              obtain ⟨u, rfl⟩ := r2
              obtain ⟨v, rfl⟩ := r3
              have g := run_gcd3 a t b u c v
              rw [Nat.gcd_zero_left] at g
              exact call_function_meets MGF.kind_gcd MGF.plain_gcd MGF.entry_gcd (args_gcd3 _ _ _) g.meets ⟨.int _, H, I.tok _, ⟨_, rfl⟩, q _ _ B H w (.int _) (Ex.refl B) e (Ex.refl H) fun _ _ b => b⟩
theorem does_lcm3 : Does X (.builtin "math.lcm") (fun ds W => ∃ a b c : Int, ds = [.int a, .int b, .int c] ∧ a.natAbs < 2 ^ 64 ∧ b.natAbs < 2 ^ 64 ∧ c.natAbs < 2 ^ 64 ∧ W (.int ((Nat.lcm (Nat.lcm a.natAbs b.natAbs) c.natAbs : Nat) : Int))) := fun B H vs ds W Q e h s q => by
  obtain ⟨a, b, c, rfl, ha, hb, hc, w⟩ := s
  cases h with
  | cons h1 h2 =>
    cases h2 with
    | cons h2 h3 =>
      cases h3 with
      | cons h3 h4 =>
        cases h4
        rw [dp_int h1, dp_int h2, dp_int h3]
        intro pins s σ us I rv
        cases rv with
        | cons r1 rv =>
          cases rv with
          | cons r2 rv =>
            cases rv with
            | cons r3 rv =>
              cases rv
              obtain ⟨t, rfl⟩ := r1
              obtain ⟨u, rfl⟩ := r2
              obtain ⟨v, rfl⟩ := r3
              have l1 : Nat.lcm 1 a.natAbs = a.natAbs := mc_lcm_one _
              have l2 : Nat.lcm a.natAbs b.natAbs < 2 ^ 128 := Nat.lt_of_le_of_lt (lcm_le _ _) (by
                have := Nat.mul_le_mul (Nat.le_of_lt ha) (Nat.le_of_lt hb)
                rcases Nat.lt_or_ge (a.natAbs * b.natAbs) (2 ^ 128) with z | z
                · exact z
                · have h3 : a.natAbs * b.natAbs ≤ (2 ^ 64 - 1) * (2 ^ 64 - 1) := Nat.mul_le_mul (by omega) (by omega)
                  exact Nat.lt_of_le_of_lt h3 (by decide))
              have l3 : Nat.lcm (Nat.lcm a.natAbs b.natAbs) c.natAbs < 2 ^ 192 := Nat.lt_of_le_of_lt (lcm_le _ _) (by
                have h3 : Nat.lcm a.natAbs b.natAbs * c.natAbs ≤ (2 ^ 128 - 1) * (2 ^ 64 - 1) := Nat.mul_le_mul (by omega) (by omega)
                exact Nat.lt_of_le_of_lt h3 (by decide))
              have g := run_lcm3 a t b u c v (by have := mg_log (n := max 1 a.natAbs) (k := 200) (by omega); omega) (by rw [l1]; have := mg_log (n := max a.natAbs b.natAbs) (k := 200) (by omega); omega)
                (by rw [l1]; have := mg_log (n := max (Nat.lcm a.natAbs b.natAbs) c.natAbs) (k := 200) (by omega); omega)
                (by rw [l1, Int.natAbs_natCast]; have := mg_log (n := Nat.lcm (Nat.lcm a.natAbs b.natAbs) c.natAbs) (k := 200) (by omega); rw [bitsLine_eq]; omega)
              rw [l1] at g
              exact call_function_meets MGF.kind_lcm MGF.plain_lcm MGF.entry_lcm (args_lcm3 _ _ _) g.meets ⟨.int _, H, I.tok _, ⟨_, rfl⟩, q _ _ B H w (.int _) (Ex.refl B) e (Ex.refl H) fun _ _ b => b⟩
end
end Vc

namespace K1
open PySem PySem.Spec PyProof.Rows L2 Vc
local macro_rules | `(tactic| walk_at "at") => `(tactic| (repeat (first | with_reducible exact At.here | apply At.there)))
local macro_rules | `(tactic| walk_at "v") => `(tactic| first
  | refine vd_bin ?_
  | (refine vd_name (by assumption) (by walk_at "at") rfl ?_)
  | refine vd_int ?_
  | refine vd_bool ?_
  | refine vd_none ?_
  | refine vd_str ?_
  | refine vd_if ?_
  | (refine vd_neg ?_)
  | refine vd_tup ?_
  | refine va_nil ?_
  | refine va_cons ?_
  | refine vs_ret ?_
  | refine vss_nil ?_
  | refine vss_one ?_
  | refine vss_cons ?_
  | refine vs_if ?_
  | refine vt_cmp (by assumption) ?_
  | refine vs_set (by assumption) (by walk_at "at") ?_
  | refine vgs_nil ?_
  | refine vgs_cons ?_
  | refine vg_name (by assumption) (by walk_at "at") ?_
  | (refine vd_callT (x := "int") (by assumption) does_int (by walk_at "at") ?_)
  | (refine vd_callB (x := "len") (by assumption) does_len (by walk_at "at") ?_)
  | (refine vd_callB (x := "abs") (by assumption) does_abs (by walk_at "at") ?_)
  | (refine vd_ixo (by assumption) (by walk_at "at") rfl ?_)
  | refine vd_ix ?_)
local macro_rules | `(tactic| walk_at "vv") => `(tactic| repeat (walk_at "v"))

def topS (i : Nat) : Stmt := PySem.Challenge.pw_justthepart_k01_whole_polynomials.main.body.getD i (.Pass ⟨0, 0, 0, 0⟩)
/-! ### the sign -/
abbrev sSign : Stmt := topS 11
theorem scSign : FnScope ["number"] ["number"] (defScope sSign) := ⟨rfl, rfl, rfl, by decide +kernel, rfl, by decide +kernel, by decide +kernel⟩
abbrev nkSign : List (Str × Bool × Bool) := [("number", true, true)]
def sgn (n : Int) : Int := if 0 < n then 1 else if n = 0 then 0 else -1
def SSign : List D → (D → Prop) → Prop := fun ds W => ∃ n : Int, ds = [.int n] ∧ W (.int (sgn n))
theorem fSign {M : Md} {f : Addr} {fd : FuncData} (F : Fun M.K "_law_sign" "_law_sign" sSign f fd) (hm : M.mg "_law_sign" = some (.ref f)) (b : L2.Binds M.K fd ["number"] []) : FnD M 1 "_law_sign" 1 SSign := by
  refine fnD_mk (k := 0) (NK := nkSign) (G := []) F scSign hm b rfl (by decide +kernel) rfl (by decide) fun X C ds W hl hS => ?_
  obtain ⟨n, rfl, w⟩ := hS
  show VSs X _ [.dat (.int n)] _
  walk_at "v"
  walk_at "v"
  walk_at "v"
  walk_at "v"
  walk_at "v"
  walk_at "v"
  refine ⟨fun h => ?_, fun h => ?_⟩
  · walk_at "v"
    have h := of_decide_eq_true h
    unfold sgn at w
    rw [if_pos h] at w
    exact w
  · have h := of_decide_eq_false h
    walk_at "v"
    walk_at "v"
    walk_at "v"
    walk_at "v"
    refine ⟨fun h2 => ?_, fun h2 => ?_⟩
    · walk_at "v"
      have h2 := of_decide_eq_true h2
      unfold sgn at w
      rw [if_neg h, if_pos h2] at w
      exact w
    · walk_at "v"
      walk_at "v"
      have h2 := of_decide_eq_false h2
      unfold sgn at w
      rw [if_neg h, if_neg h2] at w
      exact ⟨1, rfl, w⟩
/-! ### a cell of the script -/
abbrev sCell : Stmt := topS 5
theorem scCell : FnScope ["script", "k"] ["script", "k"] (defScope sCell) := ⟨rfl, rfl, rfl, by decide +kernel, rfl, by decide +kernel, by decide +kernel⟩
abbrev nkCell : List (Str × Bool × Bool) := [("script", true, true), ("k", true, true)]
def SCell : List D → (D → Prop) → Prop := fun ds W => ∃ (ns : List Int) (j : Nat), ds = [.list (ns.map PyData.int), .int (j : Int)] ∧ W (.int (ns.getD j 0))
theorem fCell {M : Md} {f : Addr} {fd : FuncData} (ml : M.mg "len" = none) (F : Fun M.K "_law_cell_at" "_law_cell_at" sCell f fd) (hm : M.mg "_law_cell_at" = some (.ref f)) (b : L2.Binds M.K fd ["script", "k"] []) : FnD M 1 "_law_cell_at" 2 SCell := by
  refine fnD_mk (k := 0) (NK := nkCell) (G := ["len"]) F scCell hm b rfl (by decide +kernel) rfl (by decide) fun X C ds W hl hS => ?_
  obtain ⟨ns, j, rfl, w⟩ := hS
  show VSs X _ [.dat (.list (ns.map PyData.int)), .dat (.int (j : Int))] _
  walk_at "v"
  walk_at "v"
  walk_at "v"
  walk_at "v"
  refine vd_callB C does_len (by walk_at "at") ?_
  walk_at "v"
  walk_at "v"
  walk_at "v"
  refine ⟨_, .inl rfl, ?_⟩
  refine ⟨fun h => ?_, fun h => ?_⟩
  · have h := of_decide_eq_true h
    rw [List.length_map] at h
    have h : j < ns.length := by omega
    walk_at "v"
    walk_at "v"
    walk_at "v"
    walk_at "v"
    walk_at "v"
    refine ⟨.int ns[j], ?_, ?_⟩
    · refine atI_nat ?_
      rw [List.getElem?_map, List.getElem?_eq_getElem h]
      rfl
    · rw [List.getD_eq_getElem?_getD, List.getElem?_eq_getElem h] at w
      exact w
  · have h := of_decide_eq_false h
    rw [List.length_map] at h
    walk_at "v"
    walk_at "v"
    walk_at "v"
    walk_at "v"
    rw [List.getD_eq_getElem?_getD, List.getElem?_eq_none (by omega)] at w
    exact w

/-! ### a draw -/
theorem mulW {i j : Int} (h1 : i.natAbs < 2 ^ 1000) (h2 : j.natAbs < 2 ^ 1000) : CMulW i j := wide_mul h1 h2 (by decide) (by decide) (by decide)
theorem mulW64 {i j : Int} (h1 : i.natAbs < 2 ^ 64) (h2 : j.natAbs < 2 ^ 64) : CMulW i j := wide_mul h1 h2 (by decide) (by decide) (by decide)
theorem divW {i j : Int} (h0 : 0 < j) (h2 : j.natAbs < 2 ^ 1000) : CDivW i j := ⟨h0, Nat.lt_of_lt_of_le (PySem.Flt.log2_lt_of (by decide) h2) (by decide)⟩
theorem divW64 {i j : Int} (h0 : 0 < j) (h2 : j.natAbs < 2 ^ 64) : CDivW i j := ⟨h0, Nat.lt_of_lt_of_le (PySem.Flt.log2_lt_of (by decide) h2) (by decide)⟩
abbrev sDraw : Stmt := topS 6
abbrev nDraw : List Str := ["cell", "k", "bound", "primes"]
theorem scDraw : FnScope nDraw ["cell", "k", "bound"] (defScope sDraw) := ⟨rfl, rfl, rfl, by decide +kernel, rfl, by decide +kernel, by decide +kernel⟩
abbrev nkDraw : List (Str × Bool × Bool) := [("cell", true, true), ("k", true, true), ("bound", true, true), ("primes", true, true)]
def SDraw : List D → (D → Prop) → Prop := fun ds W => ∃ cell j bound : Int, ds = [.int cell, .int j, .int bound] ∧ cell.natAbs < 2 ^ 64 ∧ j.natAbs < 2 ^ 64 ∧ 0 < bound ∧ ∀ r, 0 ≤ r → r < bound → W (.int r)
theorem primes_at {n : Int} (h0 : 0 ≤ n) (h1 : n < 16) : ∃ p : Int, 0 < p ∧ atI [PyData.int 1000003, .int 1000033, .int 1000037, .int 1000039, .int 1000081, .int 1000099, .int 1000117, .int 1000121, .int 1000133, .int 1000151, .int 1000159, .int 1000171, .int 1000183, .int 1000187, .int 1000193, .int 1000199] n = some (.int p) := by
  have h : n = 0 ∨ n = 1 ∨ n = 2 ∨ n = 3 ∨ n = 4 ∨ n = 5 ∨ n = 6 ∨ n = 7 ∨ n = 8 ∨ n = 9 ∨ n = 10 ∨ n = 11 ∨ n = 12 ∨ n = 13 ∨ n = 14 ∨ n = 15 := by omega
  rcases h with h | h | h | h | h | h | h | h | h | h | h | h | h | h | h | h <;> (subst h; exact ⟨_, by decide, rfl⟩)
theorem fDraw {M : Md} {f : Addr} {fd : FuncData} (mi : M.mg "int" = none) (F : Fun M.K "_law_draw" "_law_draw" sDraw f fd) (hm : M.mg "_law_draw" = some (.ref f)) (b : L2.Binds M.K fd ["cell", "k", "bound"] []) : FnD M 1 "_law_draw" 3 SDraw := by
  refine fnD_mk (k := 0) (NK := nkDraw) (G := ["int"]) F scDraw hm b rfl (by decide +kernel) rfl (by decide) fun X C ds W hl hS => ?_
  obtain ⟨cell, j, bound, rfl, h1, h2, h3, w⟩ := hS
  show VSs X _ [.dat (.int cell), .dat (.int j), .dat (.int bound), .no] _
  walk_at "vv"
  refine ⟨by decide, ?_⟩
  walk_at "vv"
  refine ⟨mulW64 h1 (by decide), ?_⟩
  walk_at "vv"
  refine ⟨mulW64 h2 (by decide), ?_⟩
  walk_at "vv"
  refine ⟨_, rfl, ?_⟩
  walk_at "vv"
  refine ⟨_, rfl, ?_⟩
  walk_at "vv"
  refine ⟨by decide, ?_⟩
  obtain ⟨p, hp, e⟩ := primes_at (n := j % 16) (Int.emod_nonneg _ (by decide)) (Int.emod_lt_of_pos _ (by decide))
  refine ⟨_, e, ?_⟩
  refine ⟨hp, ?_⟩
  walk_at "vv"
  exact ⟨h3, w _ (Int.emod_nonneg _ (by omega)) (Int.emod_lt_of_pos _ h3)⟩
/-! ### a number -/
abbrev sNumber : Stmt := topS 7
abbrev nNumber : List Str := ["cell", "k", "bound", "power", "lap", "remains", "small"]
theorem scNumber : FnScope nNumber ["cell", "k", "bound"] (defScope sNumber) := ⟨rfl, rfl, rfl, by decide +kernel, rfl, by decide +kernel, by decide +kernel⟩
abbrev nkNumber : List (Str × Bool × Bool) := [("cell", true, true), ("k", true, true), ("bound", true, true), ("power", true, true), ("lap", true, true), ("remains", true, true), ("small", true, true)]
def SNumber : List D → (D → Prop) → Prop := fun ds W => ∃ cell j bound : Int, ds = [.int cell, .int j, .int bound] ∧ 0 ≤ j ∧ j ≤ 1000 ∧ 0 < bound ∧ ∀ r, 0 ≤ r → r < bound → W (.int r)
theorem pw_pos (i : Nat) : (0 : Int) < 1009 ^ i := Int.pow_pos (by decide)
theorem pw_small {i : Nat} (h : i ≤ 24) : ((1009 : Int) ^ i).natAbs < 2 ^ 1000 := by
  rw [Int.natAbs_pow]
  exact Nat.lt_of_le_of_lt (Nat.pow_le_pow_right (by decide) h) (by decide +kernel)
theorem fNumber {M : Md} {f : Addr} {fd : FuncData} (mi : M.mg "int" = none) (mr : M.mg "range" = none) (FD : FnD M 1 "_law_draw" 3 SDraw) (F : Fun M.K "_law_number" "_law_number" sNumber f fd) (hm : M.mg "_law_number" = some (.ref f)) (b : L2.Binds M.K fd ["cell", "k", "bound"] []) : FnD M 2 "_law_number" 3 SNumber := by
  refine fnD_mk (k := 1) (NK := nkNumber) (G := ["int", "range", "_law_draw"]) F scNumber hm b rfl (by decide +kernel) rfl (by decide) fun X C ds W hl hS => ?_
  obtain ⟨cell, j, bound, rfl, h1, h2, h3, w⟩ := hS
  show VSs X _ [.dat (.int cell), .dat (.int j), .dat (.int bound), .no, .no, .no, .no] _
  walk_at "vv"
  refine vs_for C (vi_range C (by walk_at "at") ?_)
  walk_at "vv"
  refine ⟨_, rfl, ?_⟩
  walk_at "vv"
  refine ⟨by decide, ?_⟩
  refine ⟨(j % 24).toNat, by rw [Int.toNat_of_nonneg (Int.emod_nonneg _ (by decide))], by omega, ?_⟩
  refine ⟨fun i ρ' => ∃ s, ρ' = [.dat (.int cell), .dat (.int j), .dat (.int bound), .dat (.int (1009 ^ i)), s, .no, .no], ⟨_, rfl⟩, fun i d ρ' hi hW => ?_, fun ρ' hW => ?_⟩
  · obtain ⟨s, rfl⟩ := hW
    have hi2 : i < (j % 24).toNat := by
      have := (List.getElem?_eq_some_iff.mp hi).1
      rw [List.length_map, List.length_range] at this
      exact this
    have hi3 : i ≤ 24 := by omega
    walk_at "vv"
    refine ⟨mulW (pw_small hi3) (by decide +kernel), ?_⟩
    exact ⟨_, rfl⟩
  · obtain ⟨s, rfl⟩ := hW
    have hp : (j % 24).toNat ≤ 24 := by omega
    rw [List.length_map, List.length_range]
    walk_at "vv"
    refine ⟨⟨by decide, by decide, by decide⟩, ?_⟩
    walk_at "vv"
    refine ⟨divW (pw_pos _) (pw_small hp), ?_⟩
    walk_at "vv"
    refine ⟨fun h => ?_, fun h => ?_⟩
    · walk_at "vv"
      refine ⟨_, rfl, ?_⟩
      walk_at "vv"
      refine ⟨by decide, ?_⟩
      walk_at "vv"
      exact ⟨h3, w _ (Int.emod_nonneg _ (by omega)) (Int.emod_lt_of_pos _ h3)⟩
    · have q0 := Int.emod_nonneg cell (show (1000003 : Int) ≠ 0 by decide)
      have q1 := Int.emod_lt_of_pos cell (show (0 : Int) < 1000003 by decide)
      walk_at "vv"
      refine ⟨_, rfl, ?_⟩
      walk_at "vv"
      refine ⟨by decide, ?_⟩
      walk_at "vv"
      refine vd_call C FD (by walk_at "at") ?_
      walk_at "vv"
      refine ⟨mulW64 (by decide) (by omega), ?_⟩
      walk_at "vv"
      refine ⟨mulW64 (by decide) (by omega), ?_⟩
      walk_at "vv"
      refine ⟨mulW64 (by omega) (by omega), ?_⟩
      walk_at "vv"
      refine ⟨_, rfl, ?_⟩
      walk_at "vv"
      refine ⟨by decide, ?_⟩
      walk_at "vv"
      refine ⟨rfl, _, _, _, rfl, ?_, by omega, by decide, fun r r0 r1 => ?_⟩
      · rw [Int.natAbs_mul]
        exact Nat.lt_of_le_of_lt (Nat.mul_le_mul (show _ ≤ 2 ^ 31 by omega) (show _ ≤ 2 ^ 31 by omega)) (by decide)
      · walk_at "vv"
        exact ⟨h3, w _ (Int.emod_nonneg _ (by omega)) (Int.emod_lt_of_pos _ h3)⟩

open PySem PySem.Spec PyProof.Rows L2 Vc
local macro_rules | `(tactic| walk_at "sw") => `(tactic| (intro env h; cases env; dsimp only at h; subst h; rfl))

/-! ### the next draw -/
abbrev sNext : Stmt := topS 8
abbrev nNext : List Str := ["draw", "bound", "at", "cell"]
theorem scNext : FnScope nNext ["draw", "bound"] (defScope sNext) := ⟨rfl, rfl, rfl, by decide +kernel, rfl, by decide +kernel, by decide +kernel⟩
abbrev nkNext : List (Str × Bool × Bool) := [("draw", true, true), ("bound", true, true), ("at", true, true), ("cell", true, true)]
/-- what stands in the list of draws: the script, 0, how many were drawn -/
def drw (ns : List Int) (c : Nat) : List D := [.list (ns.map PyData.int), .int 0, .int (c : Int)]
def SNext : List D → List D → (D → List D → Prop) → Prop := fun cs ds W => ∃ (ns : List Int) (c : Nat) (bound : Int), cs = drw ns c ∧ ds = [.int bound] ∧ c ≤ 1000000 ∧ 0 < bound ∧ ∀ r, 0 ≤ r → r < bound → W (.int r) (drw ns (c + 1))
theorem fNext {M : Md} {f : Addr} {fd : FuncData} (mi : M.mg "int" = none) (FC : FnD M 1 "_law_cell_at" 2 SCell) (FN : FnD M 2 "_law_number" 3 SNumber) (F : Fun M.K "_law_next" "_law_next" sNext f fd) (hm : M.mg "_law_next" = some (.ref f)) (b : L2.Binds M.K fd ["draw", "bound"] []) : FnM M 3 "_law_next" 1 SNext := by
  refine fnM_mk (k := 2) (NK := nkNext) (G := ["int", "_law_cell_at", "_law_number"]) F scNext hm b rfl (by decide +kernel) rfl (by decide) fun X C p cs ds W hl hS => ?_
  obtain ⟨ns, c, bound, rfl, rfl, hc, hb, w⟩ := hS
  show VSs X _ [.own p (drw ns c), .dat (.int bound), .no, .no] _
  walk_at "vv"
  refine vs_put C (i := 0) At.here rfl ?_
  walk_at "vv"
  refine ⟨_, _, .int (c : Int), rfl, rfl, rfl, ?_⟩
  walk_at "vv"
  refine ⟨_, 2, _, rfl, rfl, rfl, ?_⟩
  show VSs X _ [.own p (drw ns (c + 1)), .dat (.int bound), .no, .no] _
  walk_at "vv"
  refine ⟨_, _, .int ((c + 1 : Nat) : Int), rfl, rfl, rfl, ?_⟩
  walk_at "vv"
  refine ⟨divW64 (by decide) (by decide), ?_⟩
  walk_at "vv"
  refine vd_call C FC (by walk_at "at") ?_
  walk_at "vv"
  refine ⟨_, _, .list (ns.map PyData.int), rfl, rfl, rfl, ?_⟩
  walk_at "vv"
  refine ⟨_, _, .int 0, rfl, rfl, rfl, ?_⟩
  walk_at "vv"
  have e : (0 : Int) + ((c + 1 : Nat) : Int) / 12 = (((c + 1) / 12 : Nat) : Int) := by omega
  refine ⟨rfl, ns, (c + 1) / 12, by rw [e], ?_⟩
  walk_at "vv"
  refine ⟨mulW64 (by decide) (by omega), ?_⟩
  walk_at "vv"
  refine vd_call C FN (by walk_at "at") ?_
  walk_at "vv"
  refine ⟨_, _, .int ((c + 1 : Nat) : Int), rfl, rfl, rfl, ?_⟩
  walk_at "vv"
  refine ⟨_, rfl, ?_⟩
  walk_at "vv"
  refine ⟨by decide, ?_⟩
  walk_at "vv"
  exact ⟨rfl, _, _, _, rfl, by omega, by omega, hb, fun r r0 r1 => ⟨_, rfl, w r r0 r1⟩⟩
/-! ### the greatest common divisor by 400 laps -/
/-- behind i laps -/
def Gw (A B : Nat) : Nat → Nat → Nat → Prop
  | 0, a, b => a = A ∧ b = B
  | i + 1, a, b => Nat.gcd a b = Nat.gcd A B ∧ b < a ∧ a * b * 2 ^ i ≤ A * B
theorem gw_gcd {A B : Nat} : ∀ {i a b : Nat}, Gw A B i a b → Nat.gcd a b = Nat.gcd A B
  | 0, _, _, h => by rw [h.1, h.2]
  | _ + 1, _, _, h => h.1
theorem gw_step {A B : Nat} : ∀ {i a b : Nat}, Gw A B i a b → b ≠ 0 → Gw A B (i + 1) b (a % b)
  | 0, a, b, h, hb => by
    obtain ⟨h1, h2⟩ := h
    subst h1
    subst h2
    refine ⟨?_, Nat.mod_lt _ (Nat.pos_of_ne_zero hb), ?_⟩
    · rw [Nat.gcd_comm a b, Nat.gcd_rec b a, Nat.gcd_comm]
    · rw [Nat.pow_zero, Nat.mul_one, Nat.mul_comm]
      exact Nat.mul_le_mul_right _ (Nat.mod_le _ _)
  | i + 1, a, b, ⟨h1, h2, h3⟩, hb => by
    refine ⟨?_, Nat.mod_lt _ (Nat.pos_of_ne_zero hb), ?_⟩
    · rw [← h1, Nat.gcd_comm a b, Nat.gcd_rec b a, Nat.gcd_comm]
    · have hm := Nat.mod_lt a (Nat.pos_of_ne_zero hb)
      have hd := Nat.div_add_mod a b
      have hq : 1 ≤ a / b := Nat.div_pos (Nat.le_of_lt h2) (Nat.pos_of_ne_zero hb)
      have hq2 : b * 1 ≤ b * (a / b) := Nat.mul_le_mul_left _ hq
      have h5 : 2 * (a % b) ≤ a := by omega
      have e : b * (a % b) * 2 ^ (i + 1) = b * (2 * (a % b)) * 2 ^ i := by
        rw [Nat.pow_succ, Nat.mul_comm (2 ^ i) 2, ← Nat.mul_assoc, Nat.mul_assoc b (a % b) 2, Nat.mul_comm (a % b) 2]
      rw [e]
      refine Nat.le_trans (Nat.mul_le_mul_right _ (Nat.mul_le_mul_left b h5)) ?_
      rw [Nat.mul_comm b a]
      exact h3
theorem gw_end {A B a b : Nat} (hA : A < 2 ^ 190) (hB : B < 2 ^ 190) (h : Gw A B 400 a b) : b = 0 := by
  obtain ⟨h1, h2, h3⟩ := h
  by_cases hb : b = 0
  · exact hb
  · have h4 : A * B < 2 ^ 399 := Nat.lt_of_le_of_lt (Nat.mul_le_mul (Nat.le_of_lt hA) (Nat.le_of_lt hB)) (by decide +kernel)
    have h5 : 1 ≤ a * b := Nat.mul_pos (by omega) (by omega)
    have h6 : 1 * 2 ^ 399 ≤ a * b * 2 ^ 399 := Nat.mul_le_mul_right _ h5
    rw [Nat.one_mul] at h6
    exact absurd (Nat.lt_of_le_of_lt (Nat.le_trans h6 h3) h4) (Nat.lt_irrefl _)
abbrev sCommon : Stmt := topS 9
abbrev nCommon : List Str := ["a", "b", "lap"]
theorem scCommon : FnScope nCommon ["a", "b"] (defScope sCommon) := ⟨rfl, rfl, rfl, by decide +kernel, rfl, by decide +kernel, by decide +kernel⟩
abbrev nkCommon : List (Str × Bool × Bool) := [("a", true, true), ("b", true, true), ("lap", true, true)]
def SCommon : List D → (D → Prop) → Prop := fun ds W => ∃ a b : Int, ds = [.int a, .int b] ∧ a.natAbs < 2 ^ 190 ∧ b.natAbs < 2 ^ 190 ∧ W (.int ((Nat.gcd a.natAbs b.natAbs : Nat) : Int))
theorem abs_eq (a : Int) : (if a < 0 then -a else a) = ((a.natAbs : Nat) : Int) := by
  split <;> omega
theorem fCommon {M : Md} {f : Addr} {fd : FuncData} (ma : M.mg "abs" = none) (mr : M.mg "range" = none) (F : Fun M.K "_law_common" "_law_common" sCommon f fd) (hm : M.mg "_law_common" = some (.ref f)) (b : L2.Binds M.K fd ["a", "b"] []) : FnD M 1 "_law_common" 2 SCommon := by
  refine fnD_mk (k := 0) (NK := nkCommon) (G := ["abs", "range"]) F scCommon hm b rfl (by decide +kernel) rfl (by decide) fun X C ds W hl hS => ?_
  obtain ⟨a, b, rfl, h1, h2, w⟩ := hS
  show VSs X _ [.dat (.int a), .dat (.int b), .no] _
  walk_at "vv"
  refine vs_par C (i := 0) (j := 1) At.here (At.there At.here) (by decide) ?_ (by walk_at "sw")
  · walk_at "vv"
    refine ⟨_, rfl, ?_⟩
    walk_at "vv"
    refine ⟨_, rfl, ?_⟩
    rw [abs_eq, abs_eq]
    show VSs X _ [.dat (.int ((a.natAbs : Nat) : Int)), .dat (.int ((b.natAbs : Nat) : Int)), .no] _
    walk_at "vv"
    refine vs_for C (vi_range C (by walk_at "at") ?_)
    walk_at "vv"
    refine ⟨400, rfl, by decide, ?_⟩
    refine ⟨fun i ρ' => ∃ (x y : Nat) (s : Sl), ρ' = [.dat (.int (x : Int)), .dat (.int (y : Int)), s] ∧ Gw a.natAbs b.natAbs i x y, ⟨_, _, _, rfl, rfl, rfl⟩, fun i d ρ' hi hW => ?_, fun ρ' hW => ?_⟩
    · obtain ⟨x, y, s, rfl, g⟩ := hW
      walk_at "vv"
      refine ⟨fun h => ?_, fun h => ?_⟩
      · have h := of_decide_eq_true h
        have hy : y = 0 := by omega
        subst hy
        walk_at "vv"
        have e := gw_gcd g
        rw [Nat.gcd_zero_right] at e
        rw [← e] at w
        exact w
      · have h := of_decide_eq_false h
        have hy : y ≠ 0 := by omega
        walk_at "vv"
        refine vs_par C (i := 0) (j := 1) At.here (At.there At.here) (by decide) ?_ (by walk_at "sw")
        · walk_at "vv"
          refine ⟨by omega, ?_⟩
          exact ⟨y, x % y, _, by rw [← Int.natCast_emod]; rfl, gw_step g hy⟩
    · obtain ⟨x, y, s, rfl, g⟩ := hW
      rw [List.length_map, List.length_range] at g
      have hy := gw_end h1 h2 g
      subst hy
      walk_at "vv"
      have e := gw_gcd g
      rw [Nat.gcd_zero_right] at e
      rw [← e] at w
      exact w
/-! ### a fraction in its least form -/
abbrev sFrac : Stmt := topS 10
abbrev nFrac : List Str := ["n", "d", "by"]
theorem scFrac : FnScope nFrac ["n", "d"] (defScope sFrac) := ⟨rfl, rfl, rfl, by decide +kernel, rfl, by decide +kernel, by decide +kernel⟩
abbrev nkFrac : List (Str × Bool × Bool) := [("n", true, true), ("d", true, true), ("by", true, true)]
/-- n / d in its least form, d above 0 -/
def fr (n d : Int) : D := .tuple [.int (n / ((Nat.gcd n.natAbs d.natAbs : Nat) : Int)), .int (d / ((Nat.gcd n.natAbs d.natAbs : Nat) : Int))]
def SFrac : List D → (D → Prop) → Prop := fun ds W => ∃ n d : Int, ds = [.int n, .int d] ∧ n.natAbs < 2 ^ 190 ∧ d.natAbs < 2 ^ 190 ∧ d ≠ 0 ∧ W (if d < 0 then fr (-n) (-d) else fr n d)
theorem fFrac {M : Md} {f : Addr} {fd : FuncData} (FC : FnD M 1 "_law_common" 2 SCommon) (F : Fun M.K "_law_frac" "_law_frac" sFrac f fd) (hm : M.mg "_law_frac" = some (.ref f)) (b : L2.Binds M.K fd ["n", "d"] []) : FnD M 2 "_law_frac" 2 SFrac := by
  refine fnD_mk (k := 1) (NK := nkFrac) (G := ["_law_common"]) F scFrac hm b rfl (by decide +kernel) rfl (by decide) fun X C ds W hl hS => ?_
  obtain ⟨n, d, rfl, h1, h2, h0, w⟩ := hS
  have go : ∀ n d : Int, n.natAbs < 2 ^ 190 → d.natAbs < 2 ^ 190 → 0 < d → W (fr n d) → VSs X [(defBody sFrac).getD 1 (.Pass ⟨0, 0, 0, 0⟩), (defBody sFrac).getD 2 (.Pass ⟨0, 0, 0, 0⟩)] [.dat (.int n), .dat (.int d), .no] { nx := fun _ => W .none, rt := fun d _ => W d } := fun n d h1 h2 hp w => by
    have hg : 0 < Nat.gcd n.natAbs d.natAbs := Nat.gcd_pos_of_pos_right _ (by omega)
    have hle : Nat.gcd n.natAbs d.natAbs ≤ d.natAbs := Nat.le_of_dvd (by omega) (Nat.gcd_dvd_right _ _)
    have hb : (((Nat.gcd n.natAbs d.natAbs : Nat) : Int)).natAbs < 2 ^ 1000 := by
      rw [Int.natAbs_natCast]
      exact Nat.lt_of_le_of_lt hle (Nat.lt_trans h2 (by decide +kernel))
    walk_at "vv"
    refine vd_call C FC (by walk_at "at") ?_
    walk_at "vv"
    refine ⟨rfl, n, d, rfl, h1, h2, ?_⟩
    walk_at "vv"
    refine ⟨divW (by omega) hb, ?_⟩
    walk_at "vv"
    refine ⟨divW (by omega) hb, ?_⟩
    walk_at "vv"
    exact ⟨by show 2 ≤ 1000; decide, w⟩
  show VSs X _ [.dat (.int n), .dat (.int d), .no] _
  walk_at "vv"
  refine ⟨fun h => ?_, fun h => ?_⟩
  · have h := of_decide_eq_true h
    rw [if_pos h] at w
    walk_at "vv"
    refine vs_par C (i := 0) (j := 1) At.here (At.there At.here) (by decide) ?_ (by walk_at "sw")
    · walk_at "vv"
      refine ⟨_, rfl, ?_⟩
      walk_at "vv"
      refine ⟨_, rfl, ?_⟩
      exact go (-n) (-d) (by omega) (by omega) (by omega) w
  · have h := of_decide_eq_false h
    rw [if_neg h] at w
    refine vss_nil ?_
    exact go n d h1 h2 (by omega) w

open PySem PySem.Spec PyProof.Rows L2 Vc

/-! ### undivided -/
abbrev sUnd : Stmt := topS 2
abbrev nUnd : List Str := ["c0", "c1", "c2", "common"]
theorem scUnd : FnScope nUnd ["c0", "c1", "c2"] (defScope sUnd) := ⟨rfl, rfl, rfl, by decide +kernel, rfl, by decide +kernel, by decide +kernel⟩
abbrev nkUnd : List (Str × Bool × Bool) := [("c0", true, true), ("c1", true, true), ("c2", true, true), ("common", true, true)]
abbrev tup3 (a b c : Int) : D := .tuple [.int a, .int b, .int c]
def g3 (a b c : Int) : Nat := Nat.gcd (Nat.gcd a.natAbs b.natAbs) c.natAbs
def und (a b c : Int) : D := if (g3 a b c : Int) = 0 then tup3 0 0 0 else tup3 (a / (g3 a b c : Int)) (b / (g3 a b c : Int)) (c / (g3 a b c : Int))
def SUnd : List D → (D → Prop) → Prop := fun ds W => ∃ a b c : Int, ds = [.int a, .int b, .int c] ∧ c.natAbs < 2 ^ 900 ∧ b.natAbs < 2 ^ 900 ∧ a.natAbs < 2 ^ 900 ∧ W (und a b c)
theorem g3_small {a b c : Int} (ha : a.natAbs < 2 ^ 900) (hb : b.natAbs < 2 ^ 900) (hc : c.natAbs < 2 ^ 900) : (g3 a b c : Int).natAbs < 2 ^ 1000 := by
  rw [Int.natAbs_natCast]
  have h9 : 2 ^ 900 < 2 ^ 1000 := by decide +kernel
  unfold g3
  by_cases z : c.natAbs = 0
  · rw [z, Nat.gcd_zero_right]
    by_cases y : b.natAbs = 0
    · rw [y, Nat.gcd_zero_right]
      exact Nat.lt_trans ha h9
    · exact Nat.lt_of_le_of_lt (Nat.le_of_dvd (Nat.pos_of_ne_zero y) (Nat.gcd_dvd_right _ _)) (Nat.lt_trans hb h9)
  · exact Nat.lt_of_le_of_lt (Nat.le_of_dvd (Nat.pos_of_ne_zero z) (Nat.gcd_dvd_right _ _)) (Nat.lt_trans hc h9)
theorem fUnd {M : Md} {f : Addr} {fd : FuncData} (mg : M.mg "gcd" = some (.builtin "math.gcd")) (F : Fun M.K "undivided" "undivided" sUnd f fd) (hm : M.mg "undivided" = some (.ref f)) (b : L2.Binds M.K fd ["c0", "c1", "c2"] []) : FnD M 1 "undivided" 3 SUnd := by
  refine fnD_mk (k := 0) (NK := nkUnd) (G := ["gcd"]) F scUnd hm b rfl (by decide +kernel) rfl (by decide) fun X C ds W hl hS => ?_
  obtain ⟨a, b, c, rfl, hc, hb, ha, w⟩ := hS
  have hs := g3_small ha hb hc
  show VSs X _ [.dat (.int a), .dat (.int b), .dat (.int c), .no] _
  walk_at "vv"
  refine vd_callM C does_gcd3 (by walk_at "at") ?_
  walk_at "vv"
  refine ⟨a, b, c, rfl, ?_⟩
  show VSs X _ [.dat (.int a), .dat (.int b), .dat (.int c), .dat (.int (g3 a b c : Int))] _
  walk_at "vv"
  refine ⟨fun h => ?_, fun h => ?_⟩
  · have h := of_decide_eq_true h
    walk_at "vv"
    refine ⟨by decide, ?_⟩
    unfold und at w
    rw [if_pos h] at w
    exact w
  · have h := of_decide_eq_false h
    have hp : 0 < (g3 a b c : Int) := by omega
    walk_at "vv"
    refine ⟨divW hp hs, ?_⟩
    walk_at "vv"
    refine ⟨divW hp hs, ?_⟩
    walk_at "vv"
    refine ⟨divW hp hs, ?_⟩
    walk_at "vv"
    refine ⟨by show 3 ≤ 1000; decide, ?_⟩
    unfold und at w
    rw [if_neg h] at w
    exact w
/-! ### whole -/
abbrev sWhole : Stmt := topS 3
abbrev nWhole : List Str := ["poly", "pairs", "n0", "d0", "n1", "d1", "n2", "d2", "below", "part"]
theorem scWhole : FnScope nWhole ["poly"] (defScope sWhole) := ⟨rfl, rfl, rfl, by decide +kernel, rfl, by decide +kernel, by decide +kernel⟩
abbrev nkWhole : List (Str × Bool × Bool) := [("poly", true, true), ("pairs", true, true), ("n0", true, true), ("d0", true, true), ("n1", true, true), ("d1", true, true), ("n2", true, true), ("d2", true, true), ("below", true, true), ("part", false, false)]
abbrev nkWholeB : List (Str × Bool × Bool) := [("poly", false, false), ("pairs", false, false), ("n0", false, false), ("d0", false, false), ("n1", false, false), ("d1", false, false), ("n2", false, false), ("d2", false, false), ("below", false, false), ("part", true, true)]
abbrev frD (f : Int × Int) : D := .tuple [.int f.1, .int f.2]
def l3 (a b c : Int) : Nat := Nat.lcm (Nat.lcm a.natAbs b.natAbs) c.natAbs
def whl (f0 f1 f2 : Int × Int) : D := und (f0.1 * ((l3 f0.2 f1.2 f2.2 : Int) / f0.2)) (f1.1 * ((l3 f0.2 f1.2 f2.2 : Int) / f1.2)) (f2.1 * ((l3 f0.2 f1.2 f2.2 : Int) / f2.2))
def FOk (f : Int × Int) : Prop := f.1.natAbs < 2 ^ 60 ∧ 0 < f.2 ∧ f.2 < 2 ^ 60
def SWhole : List D → (D → Prop) → Prop := fun ds W => ∃ f0 f1 f2 : Int × Int, ds = [.tuple [frD f0, frD f1, frD f2]] ∧ FOk f0 ∧ FOk f1 ∧ FOk f2 ∧ W (whl f0 f1 f2)
theorem l3_small {a b c : Int} (ha : 0 < a) (hb : 0 < b) (hc : 0 < c) (ha1 : a < 2 ^ 60) (hb1 : b < 2 ^ 60) (hc1 : c < 2 ^ 60) : l3 a b c < 2 ^ 180 := by
  have h1 : Nat.lcm a.natAbs b.natAbs ≤ 2 ^ 60 * 2 ^ 60 := Nat.le_trans (Vc.lcm_le _ _) (Nat.mul_le_mul (by omega) (by omega))
  have h2 : l3 a b c ≤ (2 ^ 60 * 2 ^ 60) * (2 ^ 60 - 1) := Nat.le_trans (Vc.lcm_le _ _) (Nat.mul_le_mul h1 (by omega))
  exact Nat.lt_of_le_of_lt h2 (by decide +kernel)
theorem a_small {n d L : Int} (hn : n.natAbs < 2 ^ 60) (hL : 0 ≤ L) (hL2 : L < 2 ^ 180) (hd : 0 < d) : (n * (L / d)).natAbs < 2 ^ 900 := by
  have h1 : L / d ≤ L := Int.ediv_le_self _ hL
  have h0 : 0 ≤ L / d := Int.ediv_nonneg hL (by omega)
  rw [Int.natAbs_mul]
  have h2 : n.natAbs * (L / d).natAbs ≤ 2 ^ 60 * 2 ^ 180 := Nat.mul_le_mul (by omega) (by omega)
  exact Nat.lt_of_le_of_lt h2 (by decide +kernel)
theorem fWhole {M : Md} {f : Addr} {fd : FuncData} (ml : M.mg "lcm" = some (.builtin "math.lcm")) (mi : M.mg "isinstance" = none) (mt : M.mg "tuple" = none) (FU : FnD M 1 "undivided" 3 SUnd) (F : Fun M.K "whole" "whole" sWhole f fd) (hm : M.mg "whole" = some (.ref f)) (b : L2.Binds M.K fd ["poly"] []) : FnD M 2 "whole" 1 SWhole := by
  refine fnD_mk (k := 1) (NK := nkWhole) (G := ["lcm", "undivided"]) F scWhole hm b rfl (by decide +kernel) rfl (by decide) fun X C ds W hl hS => ?_
  obtain ⟨f0, f1, f2, rfl, o0, o1, o2, w⟩ := hS
  show VSs X _ [.dat (.tuple [frD f0, frD f1, frD f2]), .no, .no, .no, .no, .no, .no, .no, .no, .no] _
  refine vss_cons ?_
  refine vs_setLc C nkWholeB ["isinstance", "tuple"] (i := 9) (m := 1) (by walk_at "at") (by walk_at "at") ?_
  refine vi_tup ?_
  walk_at "vv"
  refine ⟨_, rfl, by show 3 ≤ 100000; decide, fun j acc ρ' => acc = [frD f0, frD f1, frD f2].take j ∧ ∃ s, ρ' = [.dat (.tuple [frD f0, frD f1, frD f2]), .no, .no, .no, .no, .no, .no, .no, .no, s], ⟨rfl, _, rfl⟩, fun j d acc ρ' hj hW X' C' => ?_, fun acc ρ' hW => ?_⟩
  · obtain ⟨rfl, s, rfl⟩ := hW
    have hd : ∃ f, d = frD f := by
      have hm := List.mem_of_getElem? hj
      simp only [List.mem_cons, List.not_mem_nil, or_false] at hm
      rcases hm with rfl | rfl | rfl <;> exact ⟨_, rfl⟩
    obtain ⟨f, rfl⟩ := hd
    walk_at "vv"
    refine vt_val ?_
    refine vd_isi C' (T := "tuple") (by walk_at "at") (by walk_at "at") ?_
    walk_at "vv"
    refine ⟨true, by show kitB "tuple" "tuple" = some true; decide +kernel, ?_⟩
    refine ⟨true, rfl, fun _ => ?_, fun h => by cases h⟩
    walk_at "vv"
    refine ⟨?_, _, rfl⟩
    rw [List.take_add_one, hj]
    rfl
  · obtain ⟨rfl, s, rfl⟩ := hW
    walk_at "vv"
    refine vs_asg ?_
    walk_at "vv"
    refine vg_lst C ?_
    refine vgs_cons ?_
    refine vg_tup C ?_
    walk_at "vv"
    refine vg_tup C ?_
    walk_at "vv"
    refine vg_tup C ?_
    walk_at "vv"
    refine vd_callM C does_lcm3 (by walk_at "at") ?_
    walk_at "vv"
    have hL := l3_small o0.2.1 o1.2.1 o2.2.1 o0.2.2 o1.2.2 o2.2.2
    refine ⟨f0.2, f1.2, f2.2, rfl, ?_, ?_, ?_, ?_⟩
    · have := o0.2; omega
    · have := o1.2; omega
    · have := o2.2; omega
    show VSs X _ [_, _, .dat (.int f0.1), .dat (.int f0.2), .dat (.int f1.1), .dat (.int f1.2), .dat (.int f2.1), .dat (.int f2.2), .dat (.int (l3 f0.2 f1.2 f2.2 : Int)), _] _
    have hq : ∀ d : Int, 0 < d → (((l3 f0.2 f1.2 f2.2 : Nat) : Int) / d).natAbs < 2 ^ 1000 := fun d hd => by
      have h1 : ((l3 f0.2 f1.2 f2.2 : Nat) : Int) / d ≤ (l3 f0.2 f1.2 f2.2 : Nat) := Int.ediv_le_self _ (by omega)
      have h0 : 0 ≤ ((l3 f0.2 f1.2 f2.2 : Nat) : Int) / d := Int.ediv_nonneg (by omega) (by omega)
      have h3 : (((l3 f0.2 f1.2 f2.2 : Nat) : Int) / d).natAbs < 2 ^ 180 := by omega
      exact Nat.lt_trans h3 (by decide +kernel)
    have hn : ∀ f : Int × Int, FOk f → f.1.natAbs < 2 ^ 1000 := fun f o => Nat.lt_trans o.1 (by decide +kernel)
    have hdd : ∀ f : Int × Int, FOk f → f.2.natAbs < 2 ^ 64 := fun f o => by have := o.2; omega
    walk_at "vv"
    refine vd_call C FU (by walk_at "at") ?_
    walk_at "vv"
    refine ⟨divW64 o0.2.1 (hdd _ o0), mulW (hn _ o0) (hq _ o0.2.1), ?_⟩
    walk_at "vv"
    refine ⟨divW64 o1.2.1 (hdd _ o1), mulW (hn _ o1) (hq _ o1.2.1), ?_⟩
    walk_at "vv"
    refine ⟨divW64 o2.2.1 (hdd _ o2), mulW (hn _ o2) (hq _ o2.2.1), ?_⟩
    walk_at "vv"
    exact ⟨rfl, _, _, _, rfl, a_small o2.1 (by omega) (by omega) o2.2.1, a_small o1.1 (by omega) (by omega) o1.2.1, a_small o0.1 (by omega) (by omega) o0.2.1, w⟩

open PySem PySem.Spec PyProof.Rows L2 Vc

/-! ### the mathematics -/
theorem gcd_mul3 (a b c g : Nat) : Nat.gcd (Nat.gcd (a * g) (b * g)) (c * g) = Nat.gcd (Nat.gcd a b) c * g := by
  rw [Nat.gcd_mul_right, Nat.gcd_mul_right]
theorem und_facts (a b c : Int) : ∃ t0 t1 t2 g : Int, und a b c = tup3 t0 t1 t2 ∧ 0 < g ∧ a = t0 * g ∧ b = t1 * g ∧ c = t2 * g ∧ (g3 t0 t1 t2 = 0 ∨ g3 t0 t1 t2 = 1) := by
  by_cases h : (g3 a b c : Int) = 0
  · have h0 : g3 a b c = 0 := by omega
    unfold g3 at h0
    have hc : c.natAbs = 0 := Nat.eq_zero_of_gcd_eq_zero_right h0
    have hab := Nat.eq_zero_of_gcd_eq_zero_left h0
    have hb : b.natAbs = 0 := Nat.eq_zero_of_gcd_eq_zero_right hab
    have ha : a.natAbs = 0 := Nat.eq_zero_of_gcd_eq_zero_left hab
    refine ⟨0, 0, 0, 1, ?_, by decide, by omega, by omega, by omega, .inl rfl⟩
    unfold und
    rw [if_pos h]
  · have hp : 0 < g3 a b c := by omega
    have da : ((g3 a b c : Nat) : Int) ∣ a := Int.natAbs_dvd_natAbs.mp (by
      rw [Int.natAbs_natCast]
      exact Nat.dvd_trans (Nat.gcd_dvd_left _ _) (Nat.gcd_dvd_left _ _))
    have db : ((g3 a b c : Nat) : Int) ∣ b := Int.natAbs_dvd_natAbs.mp (by
      rw [Int.natAbs_natCast]
      exact Nat.dvd_trans (Nat.gcd_dvd_left _ _) (Nat.gcd_dvd_right _ _))
    have dc : ((g3 a b c : Nat) : Int) ∣ c := Int.natAbs_dvd_natAbs.mp (by
      rw [Int.natAbs_natCast]
      exact Nat.gcd_dvd_right _ _)
    have ea := Int.ediv_mul_cancel da
    have eb := Int.ediv_mul_cancel db
    have ec := Int.ediv_mul_cancel dc
    refine ⟨_, _, _, (g3 a b c : Int), ?_, by omega, ea.symm, eb.symm, ec.symm, .inr ?_⟩
    · unfold und
      rw [if_neg h]
    · have e := gcd_mul3 (a / (g3 a b c : Int)).natAbs (b / (g3 a b c : Int)).natAbs (c / (g3 a b c : Int)).natAbs (g3 a b c)
      have e1 : (a / (g3 a b c : Int)).natAbs * g3 a b c = a.natAbs := by
        have := congrArg Int.natAbs ea
        rw [Int.natAbs_mul, Int.natAbs_natCast] at this
        exact this
      have e2 : (b / (g3 a b c : Int)).natAbs * g3 a b c = b.natAbs := by
        have := congrArg Int.natAbs eb
        rw [Int.natAbs_mul, Int.natAbs_natCast] at this
        exact this
      have e3 : (c / (g3 a b c : Int)).natAbs * g3 a b c = c.natAbs := by
        have := congrArg Int.natAbs ec
        rw [Int.natAbs_mul, Int.natAbs_natCast] at this
        exact this
      rw [e1, e2, e3] at e
      have e4 : 1 * g3 a b c = g3 (a / (g3 a b c : Int)) (b / (g3 a b c : Int)) (c / (g3 a b c : Int)) * g3 a b c := by
        rw [Nat.one_mul]
        exact e
      exact (Nat.eq_of_mul_eq_mul_right hp e4).symm
theorem sgn_mul {x p : Int} (hp : 0 < p) : sgn (x * p) = sgn x := by
  unfold sgn
  by_cases h : 0 < x
  · rw [if_pos h, if_pos (Int.mul_pos h hp)]
  · rw [if_neg h]
    by_cases z : x = 0
    · rw [if_pos z, z, Int.zero_mul]
      rfl
    · have hn : x * p < 0 := Int.mul_neg_of_neg_of_pos (by omega) hp
      rw [if_neg z, if_neg (by omega), if_neg (by omega)]
theorem cross {ti tj g ni nj di dj L : Int} (hg : 0 < g) (hi : ti * g * di = ni * L) (hj : tj * g * dj = nj * L) : ti * nj * di = tj * ni * dj := by
  refine Int.eq_of_mul_eq_mul_right (show g ≠ 0 by omega) ?_
  have e1 : ti * nj * di * g = nj * (ti * g * di) := by
    rw [Int.mul_assoc ti nj di, Int.mul_left_comm ti nj di, Int.mul_assoc nj, Int.mul_assoc ti di g, Int.mul_assoc ti g di, Int.mul_comm di g]
  have e2 : tj * ni * dj * g = ni * (tj * g * dj) := by
    rw [Int.mul_assoc tj ni dj, Int.mul_left_comm tj ni dj, Int.mul_assoc ni, Int.mul_assoc tj dj g, Int.mul_assoc tj g dj, Int.mul_comm dj g]
  rw [e1, e2, hi, hj, Int.mul_left_comm]
/-- a drawn fraction -/
def Good (f : Int × Int) : Prop := f.1.natAbs ≤ 20 ∧ 0 < f.2 ∧ f.2 ≤ 30
theorem Good.ok {f : Int × Int} (h : Good f) : FOk f := ⟨Nat.lt_of_le_of_lt h.1 (by decide), h.2.1, by have := h.2; omega⟩
structure Told (f0 f1 f2 : Int × Int) (t0 t1 t2 : Int) : Prop where
  val : whl f0 f1 f2 = tup3 t0 t1 t2
  g : g3 t0 t1 t2 = 0 ∨ g3 t0 t1 t2 = 1
  s0 : t0.natAbs < 2 ^ 60
  s1 : t1.natAbs < 2 ^ 60
  s2 : t2.natAbs < 2 ^ 60
  c01 : t0 * f1.1 * f0.2 = t1 * f0.1 * f1.2
  c02 : t0 * f2.1 * f0.2 = t2 * f0.1 * f2.2
  c12 : t1 * f2.1 * f1.2 = t2 * f1.1 * f2.2
  g0 : sgn t0 = sgn f0.1
  g1 : sgn t1 = sgn f1.1
  g2 : sgn t2 = sgn f2.1
theorem told_of {f0 f1 f2 : Int × Int} (h0 : Good f0) (h1 : Good f1) (h2 : Good f2) : ∃ t0 t1 t2, Told f0 f1 f2 t0 t1 t2 := by
  obtain ⟨n0, d0⟩ := f0
  obtain ⟨n1, d1⟩ := f1
  obtain ⟨n2, d2⟩ := f2
  obtain ⟨a0, b0, c0⟩ := h0
  obtain ⟨a1, b1, c1⟩ := h1
  obtain ⟨a2, b2, c2⟩ := h2
  simp only at a0 b0 c0 a1 b1 c1 a2 b2 c2
  have e0 : (d0.natAbs : Int) = d0 := Int.natAbs_of_nonneg (by omega)
  have e1 : (d1.natAbs : Int) = d1 := Int.natAbs_of_nonneg (by omega)
  have e2 : (d2.natAbs : Int) = d2 := Int.natAbs_of_nonneg (by omega)
  have v0 : d0 ∣ (l3 d0 d1 d2 : Int) := by
    have h : d0.natAbs ∣ l3 d0 d1 d2 := Nat.dvd_trans (Nat.dvd_lcm_left d0.natAbs d1.natAbs) (Nat.dvd_lcm_left _ _)
    have := Int.natCast_dvd_natCast.mpr h
    rw [e0] at this
    exact this
  have v1 : d1 ∣ (l3 d0 d1 d2 : Int) := by
    have h : d1.natAbs ∣ l3 d0 d1 d2 := Nat.dvd_trans (Nat.dvd_lcm_right d0.natAbs d1.natAbs) (Nat.dvd_lcm_left _ _)
    have := Int.natCast_dvd_natCast.mpr h
    rw [e1] at this
    exact this
  have v2 : d2 ∣ (l3 d0 d1 d2 : Int) := by
    have h : d2.natAbs ∣ l3 d0 d1 d2 := Nat.dvd_lcm_right (Nat.lcm d0.natAbs d1.natAbs) d2.natAbs
    have := Int.natCast_dvd_natCast.mpr h
    rw [e2] at this
    exact this
  have lp : 0 < l3 d0 d1 d2 := Nat.lcm_pos (Nat.lcm_pos (by omega) (by omega)) (by omega)
  have ll : l3 d0 d1 d2 ≤ 30 * 30 * 30 := Nat.le_trans (Vc.lcm_le _ _) (Nat.mul_le_mul (Nat.le_trans (Vc.lcm_le _ _) (Nat.mul_le_mul (by omega) (by omega))) (by omega))
  have w0 := Int.ediv_mul_cancel v0
  have w1 := Int.ediv_mul_cancel v1
  have w2 := Int.ediv_mul_cancel v2
  generalize hq0 : (l3 d0 d1 d2 : Int) / d0 = q0 at w0
  generalize hq1 : (l3 d0 d1 d2 : Int) / d1 = q1 at w1
  generalize hq2 : (l3 d0 d1 d2 : Int) / d2 = q2 at w2
  generalize hL : (l3 d0 d1 d2 : Int) = L at w0 w1 w2
  have Lp : 0 < L := by omega
  have qp : ∀ {q d : Int}, 0 < d → q * d = L → 0 < q := fun {q d} hd e => by
    by_cases z : 0 < q
    · exact z
    · have := Int.mul_nonneg (show 0 ≤ -q by omega) (show 0 ≤ d by omega)
      rw [Int.neg_mul] at this
      omega
  have ql : ∀ {q d : Int}, 0 < d → q * d = L → q ≤ 27000 := fun {q d} hd e => by
    have h1 := qp hd e
    have h2 : q * 1 ≤ q * d := Int.mul_le_mul_of_nonneg_left (by omega) (by omega)
    omega
  obtain ⟨t0, t1, t2, g, hv, hg, x0, x1, x2, hgg⟩ := und_facts (n0 * q0) (n1 * q1) (n2 * q2)
  have eqn : ∀ {t n q d : Int}, n * q = t * g → q * d = L → t * g * d = n * L := fun {t n q d} h1 h2 => by
    rw [← h1, ← h2, Int.mul_assoc]
  have small : ∀ {t n q d : Int}, n.natAbs ≤ 20 → 0 < d → n * q = t * g → q * d = L → t.natAbs < 2 ^ 60 := fun {t n q d} hn hd h1 h2 => by
    have h3 := ql hd h2
    have h4 := qp hd h2
    have h5 : t.natAbs * g.natAbs ≤ 20 * 27000 := by
      rw [← Int.natAbs_mul, ← h1, Int.natAbs_mul]
      exact Nat.mul_le_mul hn (by omega)
    have h6 : t.natAbs * 1 ≤ t.natAbs * g.natAbs := Nat.mul_le_mul_left _ (by omega)
    omega
  have sg : ∀ {t n q d : Int}, 0 < d → n * q = t * g → q * d = L → sgn t = sgn n := fun {t n q d} hd h1 h2 => by
    have h4 := qp hd h2
    rw [← sgn_mul (x := t) hg, ← h1, sgn_mul h4]
  refine ⟨t0, t1, t2, ?_, hgg, small a0 b0 x0 w0, small a1 b1 x1 w1, small a2 b2 x2 w2, cross hg (eqn x0 w0) (eqn x1 w1), cross hg (eqn x0 w0) (eqn x2 w2), cross hg (eqn x1 w1) (eqn x2 w2), sg b0 x0 w0, sg b1 x1 w1, sg b2 x2 w2⟩
  unfold whl
  simp only
  rw [hq0, hq1, hq2]
  exact hv
theorem whl_one {t0 t1 t2 : Int} (h : g3 t0 t1 t2 = 0 ∨ g3 t0 t1 t2 = 1) : whl (t0, 1) (t1, 1) (t2, 1) = tup3 t0 t1 t2 := by
  have e : (l3 1 1 1 : Int) / 1 = 1 := by decide +kernel
  unfold whl
  simp only
  rw [e, Int.mul_one, Int.mul_one, Int.mul_one]
  unfold und
  rcases h with h | h
  · rw [h]
    unfold g3 at h
    have hc : t2.natAbs = 0 := Nat.eq_zero_of_gcd_eq_zero_right h
    have hab := Nat.eq_zero_of_gcd_eq_zero_left h
    have hb : t1.natAbs = 0 := Nat.eq_zero_of_gcd_eq_zero_right hab
    have ha : t0.natAbs = 0 := Nat.eq_zero_of_gcd_eq_zero_left hab
    rw [if_pos (show ((0 : Nat) : Int) = 0 from rfl), Int.natAbs_eq_zero.mp hc, Int.natAbs_eq_zero.mp hb, Int.natAbs_eq_zero.mp ha]
  · rw [h, if_neg (by decide)]
    show tup3 (t0 / 1) (t1 / 1) (t2 / 1) = _
    rw [Int.ediv_one, Int.ediv_one, Int.ediv_one]
theorem fr_good {n d : Int} (h1 : n.natAbs ≤ 20) (h2 : 0 < d) (h3 : d ≤ 30) : ∃ f, fr n d = frD f ∧ Good f := by
  have hg : 0 < Nat.gcd n.natAbs d.natAbs := Nat.gcd_pos_of_pos_right _ (by omega)
  have dn : ((Nat.gcd n.natAbs d.natAbs : Nat) : Int) ∣ n := Int.natAbs_dvd_natAbs.mp (by
    rw [Int.natAbs_natCast]
    exact Nat.gcd_dvd_left _ _)
  have dd : ((Nat.gcd n.natAbs d.natAbs : Nat) : Int) ∣ d := Int.natAbs_dvd_natAbs.mp (by
    rw [Int.natAbs_natCast]
    exact Nat.gcd_dvd_right _ _)
  have en := Int.ediv_mul_cancel dn
  have ed := Int.ediv_mul_cancel dd
  refine ⟨(n / ((Nat.gcd n.natAbs d.natAbs : Nat) : Int), d / ((Nat.gcd n.natAbs d.natAbs : Nat) : Int)), rfl, ?_, ?_, ?_⟩
  · have h : (n / ((Nat.gcd n.natAbs d.natAbs : Nat) : Int)).natAbs * Nat.gcd n.natAbs d.natAbs = n.natAbs := by
      have := congrArg Int.natAbs en
      rw [Int.natAbs_mul, Int.natAbs_natCast] at this
      exact this
    have h4 : (n / ((Nat.gcd n.natAbs d.natAbs : Nat) : Int)).natAbs * 1 ≤ (n / ((Nat.gcd n.natAbs d.natAbs : Nat) : Int)).natAbs * Nat.gcd n.natAbs d.natAbs := Nat.mul_le_mul_left _ hg
    show (n / ((Nat.gcd n.natAbs d.natAbs : Nat) : Int)).natAbs ≤ 20
    omega
  · show 0 < d / ((Nat.gcd n.natAbs d.natAbs : Nat) : Int)
    exact Int.ediv_pos_of_pos_of_dvd h2 (by omega) dd
  · show d / ((Nat.gcd n.natAbs d.natAbs : Nat) : Int) ≤ 30
    have := Int.ediv_le_self ((Nat.gcd n.natAbs d.natAbs : Nat) : Int) (show 0 ≤ d by omega)
    omega

open PySem PySem.Spec PyProof.Rows L2 Vc

/-! ### the law -/
abbrev sLaw : Stmt := topS 12
abbrev nLaw : List Str := ["script", "draw", "turn", "poly", "told", "one", "other", "at", "number"]
theorem scLaw : FnScope nLaw ["script"] (defScope sLaw) := ⟨rfl, rfl, rfl, by decide +kernel, rfl, by decide +kernel, by decide +kernel⟩
abbrev nkLaw : List (Str × Bool × Bool) := [("script", true, true), ("draw", true, true), ("turn", true, true), ("poly", true, true), ("told", true, true), ("one", true, true), ("other", true, true), ("at", false, false), ("number", false, false)]
abbrev nkAt : List (Str × Bool × Bool) := [("script", false, false), ("draw", true, false), ("turn", false, false), ("poly", false, false), ("told", false, false), ("one", false, false), ("other", false, false), ("at", true, true), ("number", false, false)]
abbrev nkNum : List (Str × Bool × Bool) := [("script", false, false), ("draw", false, false), ("turn", false, false), ("poly", false, false), ("told", false, false), ("one", false, false), ("other", false, false), ("at", false, false), ("number", true, true)]
theorem ne_leaf {a b : Int} {K : Bool → Prop} (h : a = b) (k : K false) : cmpD .NotEq (.int a) (.int b) K := by
  show K (!decide (a = b))
  rw [decide_eq_true h]
  exact k
theorem fLaw {M : Md} {f : Addr} {fd : FuncData} (mr : M.mg "range" = none) (mt : M.mg "tuple" = none) (mi : M.mg "isinstance" = none) (ml : M.mg "len" = none)
    (FW : FnD M 2 "whole" 1 SWhole) (FC : FnD M 1 "_law_common" 2 SCommon) (FF : FnD M 2 "_law_frac" 2 SFrac) (FX : FnM M 3 "_law_next" 1 SNext) (FS : FnD M 1 "_law_sign" 1 SSign)
    (F : Fun M.K "law" "law" sLaw f fd) : FnOk M.prog M.w M.K M.mg M.base CX0 4 f fd ["script"] (DS M.K 1 (LawS 63)) := by
  refine fnOk_mk (k := 3) (NK := nkLaw) (G := ["range", "tuple", "whole", "isinstance", "len", "_law_common"]) F scLaw rfl (by decide +kernel) rfl (by decide) fun X C ds W hl hS => ?_
  obtain ⟨ns, rfl, hns, w⟩ := hS
  show VSs X _ [.dat (.list (ns.map PyData.int)), .no, .no, .no, .no, .no, .no, .no, .no] _
  refine vss_cons ?_
  refine vs_new C (i := 1) (by walk_at "at") (by show 1 < 9; decide) ?_
  refine vn_lst ?_
  refine va_cons ?_
  refine vn_vd ?_
  refine vn_take (n := 63) ?_
  walk_at "v"
  refine ⟨_, rfl, ?_⟩
  walk_at "vv"
  refine ⟨by show 3 ≤ 1000; decide, fun p => ?_⟩
  rw [← List.map_take]
  generalize hms : ns.take 63 = ms
  show VSs X _ [.dat (.list (ns.map PyData.int)), .own p (drw ms 0), .no, .no, .no, .no, .no, .no, .no] _
  walk_at "v"
  refine vs_for C (vi_range C (by walk_at "at") ?_)
  walk_at "v"
  refine ⟨12, rfl, by decide, ?_⟩
  refine ⟨fun i ρ' => ∃ (c : Nat) (s2 s3 s4 s5 s6 s7 s8 : Sl), c ≤ 9 * i ∧ ρ' = [.dat (.list (ns.map PyData.int)), .own p (drw ms c), s2, s3, s4, s5, s6, s7, s8], ⟨0, _, _, _, _, _, _, _, by decide, rfl⟩, fun i d ρ' hi hW => ?_, fun ρ' hW => ?_⟩
  · obtain ⟨c, s2, s3, s4, s5, s6, s7, s8, hc, rfl⟩ := hW
    have hi12 : i < 12 := by
      have := (List.getElem?_eq_some_iff.mp hi).1
      rw [List.length_map, List.length_range] at this
      exact this
    walk_at "v"
    walk_at "v"
    walk_at "v"
    -- poly
    refine vd_tupleN C (by walk_at "at") ?_
    refine vn_lc C nkAt ["_law_next", "_law_frac"] (i := 7) (by walk_at "at") ?_
    refine vi_range C (by walk_at "at") ?_
    walk_at "v"
    refine ⟨3, rfl, by decide, by decide, fun j acc ρ' => ∃ (fs : List (Int × Int)) (c' : Nat) (s7 : Sl), acc = fs.map frD ∧ fs.length = j ∧ (∀ f ∈ fs, Good f) ∧ c' ≤ c + 3 * j ∧ ρ' = [.dat (.list (ns.map PyData.int)), .own p (drw ms c'), .dat d, s3, s4, s5, s6, s7, s8], ⟨[], c, _, rfl, rfl, fun _ h => (nomatch h), by omega, rfl⟩, fun j e acc ρ' hj hW X' C' => ?_, fun acc ρ' hW => ?_⟩
    · obtain ⟨fs, c', s7, rfl, hfs, hgood, hc', rfl⟩ := hW
      have hj3 : j < 3 := by
        have := (List.getElem?_eq_some_iff.mp hj).1
        rw [List.length_map, List.length_range] at this
        exact this
      walk_at "vv"
      refine vd_callO C' FX (m := 1) (by walk_at "at") (by walk_at "at") rfl ?_
      walk_at "vv"
      refine ⟨rfl, _, rfl, ms, c', 4, rfl, rfl, by omega, by decide, fun r r0 r1 => ?_⟩
      walk_at "vv"
      refine ⟨fun h => ?_, fun h => ?_⟩
      · refine vd_call C' FF (by walk_at "at") ?_
        walk_at "vv"
        refine vd_callO C' FX (m := 1) (by walk_at "at") (by walk_at "at") rfl ?_
        walk_at "vv"
        refine ⟨rfl, _, rfl, ms, c' + 1, 41, rfl, rfl, by omega, by decide, fun x x0 x1 => ?_⟩
        walk_at "vv"
        refine vd_callO C' FX (m := 1) (by walk_at "at") (by walk_at "at") rfl ?_
        walk_at "vv"
        refine ⟨rfl, _, rfl, ms, c' + 1 + 1, 30, rfl, rfl, by omega, by decide, fun y y0 y1 => ?_⟩
        walk_at "vv"
        obtain ⟨f, ef, gf⟩ := fr_good (n := x - 20) (d := 1 + y) (by omega) (by omega) (by omega)
        refine ⟨rfl, x - 20, 1 + y, rfl, by omega, by omega, by omega, ?_⟩
        rw [if_neg (by omega), ef]
        refine ⟨fs ++ [f], c' + 1 + 1 + 1, _, by rw [List.map_append]; rfl, by rw [List.length_append, hfs]; rfl, fun g hg => ?_, by omega, rfl⟩
        rcases List.mem_append.mp hg with z | z
        · exact hgood g z
        · rw [List.mem_singleton.mp z]
          exact gf
      · walk_at "vv"
        refine ⟨by show 2 ≤ 1000; decide, ?_⟩
        refine ⟨fs ++ [(0, 1)], c' + 1, _, by rw [List.map_append]; rfl, by rw [List.length_append, hfs]; rfl, fun g hg => ?_, by omega, rfl⟩
        rcases List.mem_append.mp hg with z | z
        · exact hgood g z
        · rw [List.mem_singleton.mp z]
          exact ⟨by decide, by decide, by decide⟩
    · obtain ⟨fs, c', s7, rfl, hfs, hgood, hc', rfl⟩ := hW
      rw [List.length_map, List.length_range] at hfs hc'
      obtain ⟨f0, f1, f2, rfl⟩ : ∃ f0 f1 f2, fs = [f0, f1, f2] := by
        match fs, hfs with
        | [a, b, c], _ => exact ⟨a, b, c, rfl⟩
      have o0 := hgood f0 (by simp)
      have o1 := hgood f1 (by simp)
      have o2 := hgood f2 (by simp)
      obtain ⟨t0, t1, t2, T⟩ := told_of o0 o1 o2
      show VSs X _ [.dat (.list (ns.map PyData.int)), .own p (drw ms c'), .dat d, .dat (.tuple [frD f0, frD f1, frD f2]), s4, s5, s6, s7, s8] _
      -- told
      walk_at "vv"
      refine vd_call C FW (by walk_at "at") ?_
      walk_at "vv"
      refine ⟨rfl, f0, f1, f2, rfl, o0.ok, o1.ok, o2.ok, ?_⟩
      rw [T.val]
      show VSs X _ [.dat (.list (ns.map PyData.int)), .own p (drw ms c'), .dat d, .dat (.tuple [frD f0, frD f1, frD f2]), .dat (tup3 t0 t1 t2), s5, s6, s7, s8] _
      walk_at "vv"
      refine vt_w (vw_or (vt_not (vt_val ?_)))
      refine vd_isi C (T := "tuple") (by walk_at "at") (by walk_at "at") ?_
      walk_at "vv"
      refine ⟨true, by show kitB "tuple" "tuple" = some true; decide +kernel, ?_⟩
      refine ⟨true, rfl, fun h => (by cases h), fun _ => ?_⟩
      refine vw_or ?_
      walk_at "vv"
      refine ⟨_, .inr rfl, ?_⟩
      walk_at "vv"
      refine ⟨fun h => absurd h (by show ¬ (!decide (((3 : Nat) : Int) = 3)) = true; decide), fun _ => ?_⟩
      refine vw_or1 ?_
      walk_at "vv"
      refine vd_call C FC (by walk_at "at") ?_
      walk_at "vv"
      refine vd_call C FC (by walk_at "at") ?_
      walk_at "vv"
      refine ⟨_, rfl, ?_⟩
      walk_at "vv"
      refine ⟨_, rfl, ?_⟩
      walk_at "vv"
      refine ⟨rfl, t0, t1, rfl, Nat.lt_trans T.s0 (by decide +kernel), Nat.lt_trans T.s1 (by decide +kernel), ?_⟩
      walk_at "vv"
      refine ⟨_, rfl, ?_⟩
      walk_at "vv"
      have hg01 : Nat.gcd t0.natAbs t1.natAbs < 2 ^ 190 := by
        by_cases z : t1.natAbs = 0
        · rw [z, Nat.gcd_zero_right]
          exact Nat.lt_trans T.s0 (by decide +kernel)
        · exact Nat.lt_of_le_of_lt (Nat.le_of_dvd (Nat.pos_of_ne_zero z) (Nat.gcd_dvd_right _ _)) (Nat.lt_trans T.s1 (by decide +kernel))
      refine ⟨rfl, _, t2, rfl, by rw [Int.natAbs_natCast]; exact hg01, Nat.lt_trans T.s2 (by decide +kernel), ?_⟩
      walk_at "vv"
      refine ⟨by show 2 ≤ 1000; decide, ?_⟩
      refine ⟨[0, 1], rfl, ?_⟩
      rw [Int.natAbs_natCast]
      have hin : ((Nat.gcd (Nat.gcd t0.natAbs t1.natAbs) t2.natAbs : Nat) : Int) ∈ [(0 : Int), 1] := by
        have := T.g
        unfold g3 at this
        rcases this with z | z <;> (rw [z]; simp)
      rw [decide_eq_true hin]
      refine ⟨fun h => (by cases h), fun _ => ?_⟩
      walk_at "vv"
      -- the cross products
      refine vs_for C (vi_tup ?_)
      walk_at "vv"
      refine ⟨by show 2 ≤ 1000; decide, ?_⟩
      walk_at "vv"
      refine ⟨by show 2 ≤ 1000; decide, ?_⟩
      walk_at "vv"
      refine ⟨by show 2 ≤ 1000; decide, ?_⟩
      walk_at "vv"
      refine ⟨by show 3 ≤ 1000; decide, ?_⟩
      refine ⟨_, rfl, fun _ ρ' => ∃ a b : Sl, ρ' = [.dat (.list (ns.map PyData.int)), .own p (drw ms c'), .dat d, .dat (.tuple [frD f0, frD f1, frD f2]), .dat (tup3 t0 t1 t2), a, b, s7, s8], ⟨_, _, rfl⟩, fun j e ρ' hj hW => ?_, fun ρ' hW => ?_⟩
      · obtain ⟨a, b, rfl⟩ := hW
        have n60 : ∀ {f : Int × Int}, Good f → f.1.natAbs < 2 ^ 60 := fun h => Nat.lt_of_le_of_lt h.1 (by decide)
        have d60 : ∀ {f : Int × Int}, Good f → f.2.natAbs < 2 ^ 60 := fun h => by have := h.2; omega
        have q60 : (2 : Nat) ^ 60 < 2 ^ 1000 := by decide +kernel
        have m1 : ∀ {x y : Int}, x.natAbs < 2 ^ 60 → y.natAbs < 2 ^ 60 → CMulW x y := fun h1 h2 => mulW (Nat.lt_trans h1 q60) (Nat.lt_trans h2 q60)
        have m2 : ∀ {x y z : Int}, x.natAbs < 2 ^ 60 → y.natAbs < 2 ^ 60 → z.natAbs < 2 ^ 60 → CMulW (x * y) z := fun h1 h2 h3 => mulW (by
          rw [Int.natAbs_mul]
          exact Nat.lt_of_le_of_lt (Nat.mul_le_mul (Nat.le_of_lt h1) (Nat.le_of_lt h2)) (by decide +kernel)) (Nat.lt_trans h3 q60)
        have hm := List.mem_of_getElem? hj
        simp only [List.mem_cons, List.not_mem_nil, or_false] at hm
        rcases hm with rfl | rfl | rfl
        · refine vg_tup C ?_
          walk_at "vv"
          refine ⟨_, rfl, ?_⟩
          walk_at "vv"
          refine ⟨_, rfl, ?_⟩
          walk_at "vv"
          refine ⟨_, rfl, m1 T.s0 (n60 o1), ?_⟩
          walk_at "vv"
          refine ⟨_, rfl, ?_⟩
          walk_at "vv"
          refine ⟨_, rfl, m2 T.s0 (n60 o1) (d60 o0), ?_⟩
          walk_at "vv"
          refine ⟨_, rfl, ?_⟩
          walk_at "vv"
          refine ⟨_, rfl, ?_⟩
          walk_at "vv"
          refine ⟨_, rfl, m1 T.s1 (n60 o0), ?_⟩
          walk_at "vv"
          refine ⟨_, rfl, ?_⟩
          walk_at "vv"
          refine ⟨_, rfl, m2 T.s1 (n60 o0) (d60 o1), ?_⟩
          refine ne_leaf T.c01 ?_
          refine ⟨fun h => (by cases h), fun _ => ?_⟩
          refine vss_nil ?_
          exact ⟨_, _, rfl⟩
        · refine vg_tup C ?_
          walk_at "vv"
          refine ⟨_, rfl, ?_⟩
          walk_at "vv"
          refine ⟨_, rfl, ?_⟩
          walk_at "vv"
          refine ⟨_, rfl, m1 T.s0 (n60 o2), ?_⟩
          walk_at "vv"
          refine ⟨_, rfl, ?_⟩
          walk_at "vv"
          refine ⟨_, rfl, m2 T.s0 (n60 o2) (d60 o0), ?_⟩
          walk_at "vv"
          refine ⟨_, rfl, ?_⟩
          walk_at "vv"
          refine ⟨_, rfl, ?_⟩
          walk_at "vv"
          refine ⟨_, rfl, m1 T.s2 (n60 o0), ?_⟩
          walk_at "vv"
          refine ⟨_, rfl, ?_⟩
          walk_at "vv"
          refine ⟨_, rfl, m2 T.s2 (n60 o0) (d60 o2), ?_⟩
          refine ne_leaf T.c02 ?_
          refine ⟨fun h => (by cases h), fun _ => ?_⟩
          refine vss_nil ?_
          exact ⟨_, _, rfl⟩
        · refine vg_tup C ?_
          walk_at "vv"
          refine ⟨_, rfl, ?_⟩
          walk_at "vv"
          refine ⟨_, rfl, ?_⟩
          walk_at "vv"
          refine ⟨_, rfl, m1 T.s1 (n60 o2), ?_⟩
          walk_at "vv"
          refine ⟨_, rfl, ?_⟩
          walk_at "vv"
          refine ⟨_, rfl, m2 T.s1 (n60 o2) (d60 o1), ?_⟩
          walk_at "vv"
          refine ⟨_, rfl, ?_⟩
          walk_at "vv"
          refine ⟨_, rfl, ?_⟩
          walk_at "vv"
          refine ⟨_, rfl, m1 T.s2 (n60 o1), ?_⟩
          walk_at "vv"
          refine ⟨_, rfl, ?_⟩
          walk_at "vv"
          refine ⟨_, rfl, m2 T.s2 (n60 o1) (d60 o2), ?_⟩
          refine ne_leaf T.c12 ?_
          refine ⟨fun h => (by cases h), fun _ => ?_⟩
          refine vss_nil ?_
          exact ⟨_, _, rfl⟩
      · obtain ⟨a, b, rfl⟩ := hW
        -- the signs
        walk_at "vv"
        refine vn_vd ?_
        refine vn_lc C nkNum ["_law_sign"] (i := 8) (by walk_at "at") ?_
        refine vi_tup ?_
        walk_at "vv"
        refine ⟨_, rfl, by show 3 ≤ 100000; decide, fun j acc ρ' => acc = [PyData.int (sgn t0), .int (sgn t1), .int (sgn t2)].take j ∧ ∃ s8, ρ' = [.dat (.list (ns.map PyData.int)), .own p (drw ms c'), .dat d, .dat (.tuple [frD f0, frD f1, frD f2]), .dat (tup3 t0 t1 t2), a, b, s7, s8], ⟨rfl, _, rfl⟩, fun j e acc ρ' hj hW X' C' => ?_, fun acc ρ' hW => ?_⟩
        · obtain ⟨rfl, s8, rfl⟩ := hW
          have hz : ∃ z, e = .int z ∧ [PyData.int (sgn t0), .int (sgn t1), .int (sgn t2)][j]? = some (.int (sgn z)) := by
            match j, hj with
            | 0, hj => cases hj; exact ⟨_, rfl, rfl⟩
            | 1, hj => cases hj; exact ⟨_, rfl, rfl⟩
            | 2, hj => cases hj; exact ⟨_, rfl, rfl⟩
          obtain ⟨z, rfl, hz⟩ := hz
          refine vd_call C' FS (by walk_at "at") ?_
          walk_at "vv"
          refine ⟨rfl, z, rfl, ?_, _, rfl⟩
          rw [List.take_add_one, hz]
          rfl
        · obtain ⟨rfl, s8, rfl⟩ := hW
          refine vn_vd ?_
          refine vn_lc C nkNum ["_law_sign"] (i := 8) (by walk_at "at") ?_
          refine vi_tup ?_
          walk_at "vv"
          refine ⟨_, rfl, by show 3 ≤ 100000; decide, fun j acc ρ' => acc = [PyData.int (sgn f0.1), .int (sgn f1.1), .int (sgn f2.1)].take j ∧ ∃ s8, ρ' = [.dat (.list (ns.map PyData.int)), .own p (drw ms c'), .dat d, .dat (.tuple [frD f0, frD f1, frD f2]), .dat (tup3 t0 t1 t2), a, b, s7, s8], ⟨rfl, _, rfl⟩, fun j e acc ρ' hj hW X' C' => ?_, fun acc ρ' hW => ?_⟩
          · obtain ⟨rfl, s8, rfl⟩ := hW
            have hz : ∃ z, e = frD z ∧ [PyData.int (sgn f0.1), .int (sgn f1.1), .int (sgn f2.1)][j]? = some (.int (sgn z.1)) := by
              match j, hj with
              | 0, hj => cases hj; exact ⟨_, rfl, rfl⟩
              | 1, hj => cases hj; exact ⟨_, rfl, rfl⟩
              | 2, hj => cases hj; exact ⟨_, rfl, rfl⟩
            obtain ⟨z, rfl, hz⟩ := hz
            refine vd_call C' FS (by walk_at "at") ?_
            walk_at "vv"
            refine ⟨_, rfl, ?_⟩
            walk_at "vv"
            refine ⟨rfl, z.1, rfl, ?_, _, rfl⟩
            rw [List.take_add_one, hz]
            rfl
          · obtain ⟨rfl, s8, rfl⟩ := hW
            rw [T.g0, T.g1, T.g2]
            refine ⟨rfl, rfl, ?_⟩
            have ev : PyData.eqv (.list ([PyData.int (sgn f0.1), .int (sgn f1.1), .int (sgn f2.1)].take 3)) (.list ([PyData.int (sgn f0.1), .int (sgn f1.1), .int (sgn f2.1)].take 3)) = true := by
              simp [PyData.eqv, PyData.eqvAll]
            refine ⟨fun h => ?_, fun _ => ?_⟩
            · have h : (!PyData.eqv (.list ([PyData.int (sgn f0.1), .int (sgn f1.1), .int (sgn f2.1)].take 3)) (.list ([PyData.int (sgn f0.1), .int (sgn f1.1), .int (sgn f2.1)].take 3))) = true := h
              rw [ev] at h
              cases h
            · -- whole of a whole form
              walk_at "vv"
              refine vd_call C FW (by walk_at "at") ?_
              refine va_cons ?_
              refine vd_tupleN C (by walk_at "at") ?_
              refine vn_lc C nkNum [] (i := 8) (by walk_at "at") ?_
              refine vi_tup ?_
              walk_at "vv"
              refine ⟨_, rfl, by show 3 ≤ 100000; decide, fun j acc ρ' => acc = [frD (t0, 1), frD (t1, 1), frD (t2, 1)].take j ∧ ∃ s8, ρ' = [.dat (.list (ns.map PyData.int)), .own p (drw ms c'), .dat d, .dat (.tuple [frD f0, frD f1, frD f2]), .dat (tup3 t0 t1 t2), a, b, s7, s8], ⟨rfl, _, rfl⟩, fun j e acc ρ' hj hW X' C' => ?_, fun acc ρ' hW => ?_⟩
              · obtain ⟨rfl, s8, rfl⟩ := hW
                have hz : ∃ z, e = .int z ∧ [frD (t0, 1), frD (t1, 1), frD (t2, 1)][j]? = some (frD (z, 1)) := by
                  match j, hj with
                  | 0, hj => cases hj; exact ⟨_, rfl, rfl⟩
                  | 1, hj => cases hj; exact ⟨_, rfl, rfl⟩
                  | 2, hj => cases hj; exact ⟨_, rfl, rfl⟩
                obtain ⟨z, rfl, hz⟩ := hz
                walk_at "vv"
                refine ⟨by show 2 ≤ 1000; decide, ?_, _, rfl⟩
                rw [List.take_add_one, hz]
                rfl
              · obtain ⟨rfl, s8, rfl⟩ := hW
                refine va_nil ?_
                refine ⟨rfl, (t0, 1), (t1, 1), (t2, 1), rfl, ⟨T.s0, (by show (0 : Int) < 1; decide), (by show (1 : Int) < 2 ^ 60; decide)⟩, ⟨T.s1, (by show (0 : Int) < 1; decide), (by show (1 : Int) < 2 ^ 60; decide)⟩, ⟨T.s2, (by show (0 : Int) < 1; decide), (by show (1 : Int) < 2 ^ 60; decide)⟩, ?_⟩
                rw [whl_one T.g]
                walk_at "vv"
                refine ⟨rfl, rfl, ?_⟩
                have ev : PyData.eqv (tup3 t0 t1 t2) (tup3 t0 t1 t2) = true := by
                  simp [PyData.eqv, PyData.eqvAll]
                refine ⟨fun h => ?_, fun _ => ?_⟩
                · have h : (!PyData.eqv (tup3 t0 t1 t2) (tup3 t0 t1 t2)) = true := h
                  rw [ev] at h
                  cases h
                · refine vss_nil ?_
                  exact ⟨c', _, _, _, _, _, _, _, by omega, rfl⟩
  · obtain ⟨c, s2, s3, s4, s5, s6, s7, s8, hc, rfl⟩ := hW
    walk_at "vv"
    refine vd_cmp C ?_
    refine vd_call C FW (by walk_at "at") ?_
    walk_at "vv"
    refine ⟨by show 2 ≤ 1000; decide, ?_⟩
    walk_at "vv"
    refine ⟨by show 2 ≤ 1000; decide, ?_⟩
    walk_at "vv"
    refine ⟨by show 2 ≤ 1000; decide, ?_⟩
    walk_at "vv"
    refine ⟨by show 3 ≤ 1000; decide, ?_⟩
    walk_at "vv"
    refine ⟨rfl, (0, 1), (0, 1), (0, 1), rfl, ⟨by decide, by decide, by decide⟩, ⟨by decide, by decide, by decide⟩, ⟨by decide, by decide, by decide⟩, ?_⟩
    rw [whl_one (.inl rfl)]
    walk_at "vv"
    refine ⟨by show 3 ≤ 1000; decide, ?_⟩
    exact ⟨rfl, rfl, w⟩

open PySem PySem.Spec PyProof.Rows L2 Vc
/-! ### what the top has written; the law's own head -/
theorem all_mk {l : PySem.W.OpenLaw} {w : World} {K : PySem.W.Frag} {h : Heap} {mg : Str → Option Value} {fa f0 f1 f2 f3 f4 f5 f6 f7 f8 f9 : Addr} (X : K.In h) (G : h.Ns mainGlobals mg) (hfa : mg "law" = some (.ref fa))
    {od0 an0 od1 an1 od2 an2 od3 an3 od4 an4 od5 an5 od6 an6 od7 an7 od8 an8 od9 an9 : Option Addr} {sl0 sl1 sl2 sl3 sl4 sl5 sl6 sl7 sl8 sl9 : Array (Option Value)} {oc0 kV0 dc0 pm0 cd0 ct0 oc1 kV1 dc1 pm1 cd1 ct1 oc2 kV2 dc2 pm2 cd2 ct2 oc3 kV3 dc3 pm3 cd3 ct3 oc4 kV4 dc4 pm4 cd4 ct4 oc5 kV5 dc5 pm5 cd5 ct5 oc6 kV6 dc6 pm6 cd6 ct6 oc7 kV7 dc7 pm7 cd7 ct7 oc8 kV8 dc8 pm8 cd8 ct8 oc9 kV9 dc9 pm9 cd9 ct9 : Value}
    (a0 : PySem.W.nsIn K mainGlobals "undivided" = some (some (.ref f0))) (l0 : K.lookup f0 = some ⟨oc0, od0, .func (PySem.W.fnOf "undivided" "undivided" (defArgs sUnd) (defBody sUnd) (defScope sUnd) .none kV0 dc0 pm0 an0 cd0 ct0), sl0⟩) (c0 : PySem.W.codeIn K cd0 "undivided" = true) (k0 : PySem.W.keepIn K (.ref f0) = true)
    (a1 : PySem.W.nsIn K mainGlobals "whole" = some (some (.ref f1))) (l1 : K.lookup f1 = some ⟨oc1, od1, .func (PySem.W.fnOf "whole" "whole" (defArgs sWhole) (defBody sWhole) (defScope sWhole) .none kV1 dc1 pm1 an1 cd1 ct1), sl1⟩) (c1 : PySem.W.codeIn K cd1 "whole" = true) (k1 : PySem.W.keepIn K (.ref f1) = true)
    (a2 : PySem.W.nsIn K mainGlobals "_law_cell_at" = some (some (.ref f2))) (l2 : K.lookup f2 = some ⟨oc2, od2, .func (PySem.W.fnOf "_law_cell_at" "_law_cell_at" (defArgs sCell) (defBody sCell) (defScope sCell) .none kV2 dc2 pm2 an2 cd2 ct2), sl2⟩) (c2 : PySem.W.codeIn K cd2 "_law_cell_at" = true) (k2 : PySem.W.keepIn K (.ref f2) = true)
    (a3 : PySem.W.nsIn K mainGlobals "_law_draw" = some (some (.ref f3))) (l3 : K.lookup f3 = some ⟨oc3, od3, .func (PySem.W.fnOf "_law_draw" "_law_draw" (defArgs sDraw) (defBody sDraw) (defScope sDraw) .none kV3 dc3 pm3 an3 cd3 ct3), sl3⟩) (c3 : PySem.W.codeIn K cd3 "_law_draw" = true) (k3 : PySem.W.keepIn K (.ref f3) = true)
    (a4 : PySem.W.nsIn K mainGlobals "_law_number" = some (some (.ref f4))) (l4 : K.lookup f4 = some ⟨oc4, od4, .func (PySem.W.fnOf "_law_number" "_law_number" (defArgs sNumber) (defBody sNumber) (defScope sNumber) .none kV4 dc4 pm4 an4 cd4 ct4), sl4⟩) (c4 : PySem.W.codeIn K cd4 "_law_number" = true) (k4 : PySem.W.keepIn K (.ref f4) = true)
    (a5 : PySem.W.nsIn K mainGlobals "_law_next" = some (some (.ref f5))) (l5 : K.lookup f5 = some ⟨oc5, od5, .func (PySem.W.fnOf "_law_next" "_law_next" (defArgs sNext) (defBody sNext) (defScope sNext) .none kV5 dc5 pm5 an5 cd5 ct5), sl5⟩) (c5 : PySem.W.codeIn K cd5 "_law_next" = true) (k5 : PySem.W.keepIn K (.ref f5) = true)
    (a6 : PySem.W.nsIn K mainGlobals "_law_common" = some (some (.ref f6))) (l6 : K.lookup f6 = some ⟨oc6, od6, .func (PySem.W.fnOf "_law_common" "_law_common" (defArgs sCommon) (defBody sCommon) (defScope sCommon) .none kV6 dc6 pm6 an6 cd6 ct6), sl6⟩) (c6 : PySem.W.codeIn K cd6 "_law_common" = true) (k6 : PySem.W.keepIn K (.ref f6) = true)
    (a7 : PySem.W.nsIn K mainGlobals "_law_frac" = some (some (.ref f7))) (l7 : K.lookup f7 = some ⟨oc7, od7, .func (PySem.W.fnOf "_law_frac" "_law_frac" (defArgs sFrac) (defBody sFrac) (defScope sFrac) .none kV7 dc7 pm7 an7 cd7 ct7), sl7⟩) (c7 : PySem.W.codeIn K cd7 "_law_frac" = true) (k7 : PySem.W.keepIn K (.ref f7) = true)
    (a8 : PySem.W.nsIn K mainGlobals "_law_sign" = some (some (.ref f8))) (l8 : K.lookup f8 = some ⟨oc8, od8, .func (PySem.W.fnOf "_law_sign" "_law_sign" (defArgs sSign) (defBody sSign) (defScope sSign) .none kV8 dc8 pm8 an8 cd8 ct8), sl8⟩) (c8 : PySem.W.codeIn K cd8 "_law_sign" = true) (k8 : PySem.W.keepIn K (.ref f8) = true)
    (a9 : PySem.W.nsIn K mainGlobals "law" = some (some (.ref f9))) (l9 : K.lookup f9 = some ⟨oc9, od9, .func (PySem.W.fnOf "law" "law" (defArgs sLaw) (defBody sLaw) (defScope sLaw) .none kV9 dc9 pm9 an9 cd9 ct9), sl9⟩) (c9 : PySem.W.codeIn K cd9 "law" = true) (k9 : PySem.W.keepIn K (.ref f9) = true)
    (gG : PySem.W.nsIn K mainGlobals "gcd" = some (some (.builtin "math.gcd"))) (gL : PySem.W.nsIn K mainGlobals "lcm" = some (some (.builtin "math.lcm")))
    (z0 : PySem.W.nsIn K mainGlobals "len" = some none) (z1 : PySem.W.nsIn K mainGlobals "int" = some none) (z2 : PySem.W.nsIn K mainGlobals "range" = some none) (z3 : PySem.W.nsIn K mainGlobals "abs" = some none) (z4 : PySem.W.nsIn K mainGlobals "tuple" = some none) (z5 : PySem.W.nsIn K mainGlobals "isinstance" = some none) :
    ∃ fd : FuncData, (∀ (s : Shared) (v : Value), BindsTo s fd ⟨[v], []⟩ [("script", v)]) ∧ ∀ base : Heap, K.In base → base.Ns mainGlobals mg → FnOk l.prog w K mg base CX0 4 fa fd ["script"] (DS K 1 (LawS 63)) := by
  have e := hfa.symm.trans (PySem.W.mg_of X G a9)
  cases e
  have F0 := fun_mk (st := sUnd) l0 c0 k0
  have b0 := F0.binds (ps := ["c0", "c1", "c2"]) fun _ _ _ _ _ _ us hl => match us, hl with | [_, _, _], _ => rfl
  have m0 := PySem.W.mg_of X G a0
  have F1 := fun_mk (st := sWhole) l1 c1 k1
  have b1 := F1.binds (ps := ["poly"]) fun _ _ _ _ _ _ us hl => match us, hl with | [_], _ => rfl
  have m1 := PySem.W.mg_of X G a1
  have F2 := fun_mk (st := sCell) l2 c2 k2
  have b2 := F2.binds (ps := ["script", "k"]) fun _ _ _ _ _ _ us hl => match us, hl with | [_, _], _ => rfl
  have m2 := PySem.W.mg_of X G a2
  have F3 := fun_mk (st := sDraw) l3 c3 k3
  have b3 := F3.binds (ps := ["cell", "k", "bound"]) fun _ _ _ _ _ _ us hl => match us, hl with | [_, _, _], _ => rfl
  have m3 := PySem.W.mg_of X G a3
  have F4 := fun_mk (st := sNumber) l4 c4 k4
  have b4 := F4.binds (ps := ["cell", "k", "bound"]) fun _ _ _ _ _ _ us hl => match us, hl with | [_, _, _], _ => rfl
  have m4 := PySem.W.mg_of X G a4
  have F5 := fun_mk (st := sNext) l5 c5 k5
  have b5 := F5.binds (ps := ["draw", "bound"]) fun _ _ _ _ _ _ us hl => match us, hl with | [_, _], _ => rfl
  have m5 := PySem.W.mg_of X G a5
  have F6 := fun_mk (st := sCommon) l6 c6 k6
  have b6 := F6.binds (ps := ["a", "b"]) fun _ _ _ _ _ _ us hl => match us, hl with | [_, _], _ => rfl
  have m6 := PySem.W.mg_of X G a6
  have F7 := fun_mk (st := sFrac) l7 c7 k7
  have b7 := F7.binds (ps := ["n", "d"]) fun _ _ _ _ _ _ us hl => match us, hl with | [_, _], _ => rfl
  have m7 := PySem.W.mg_of X G a7
  have F8 := fun_mk (st := sSign) l8 c8 k8
  have b8 := F8.binds (ps := ["number"]) fun _ _ _ _ _ _ us hl => match us, hl with | [_], _ => rfl
  have m8 := PySem.W.mg_of X G a8
  have F9 := fun_mk (st := sLaw) l9 c9 k9
  have b9 := F9.binds (ps := ["script"]) fun _ _ _ _ _ _ us hl => match us, hl with | [_], _ => rfl
  have m9 := PySem.W.mg_of X G a9
  have n_len := PySem.W.mg_none_of X G z0
  have n_int := PySem.W.mg_none_of X G z1
  have n_range := PySem.W.mg_none_of X G z2
  have n_abs := PySem.W.mg_none_of X G z3
  have n_tuple := PySem.W.mg_none_of X G z4
  have n_isinstance := PySem.W.mg_none_of X G z5
  have gg := PySem.W.mg_of X G gG
  have gl := PySem.W.mg_of X G gL
  refine ⟨PySem.W.fnOf "law" "law" (defArgs sLaw) (defBody sLaw) (defScope sLaw) .none kV9 dc9 pm9 an9 cd9 ct9, fun s v => .of_eq rfl, fun base _ _ => ?_⟩
  let M : Md := ⟨l.prog, w, K, mg, base⟩
  have fS : FnD M 1 "_law_sign" 1 SSign := fSign F8 m8 b8
  have fC : FnD M 1 "_law_cell_at" 2 SCell := fCell n_len F2 m2 b2
  have fD : FnD M 1 "_law_draw" 3 SDraw := fDraw n_int F3 m3 b3
  have fN : FnD M 2 "_law_number" 3 SNumber := fNumber n_int n_range fD F4 m4 b4
  have fX : FnM M 3 "_law_next" 1 SNext := fNext n_int fC fN F5 m5 b5
  have fG : FnD M 1 "_law_common" 2 SCommon := fCommon n_abs n_range F6 m6 b6
  have fF : FnD M 2 "_law_frac" 2 SFrac := fFrac fG F7 m7 b7
  have fU : FnD M 1 "undivided" 3 SUnd := fUnd gg F0 m0 b0
  have fW : FnD M 2 "whole" 1 SWhole := fWhole gl n_isinstance n_tuple fU F1 m1 b1
  exact fLaw (M := M) n_range n_tuple n_isinstance n_len fW fG fF fX fS F9
end K1
open PySem PySem.W PyProof.Rows
set_option maxHeartbeats 0 in
theorem PySem.Challenge.cw_justthepart_k01_whole_polynomials_holds : PySem.Challenge.rw_justthepart_k01_whole_polynomials.Holds := by
  w_on; o_law; k_head; (case hw => w_witness2)
  k_fill
  refine L2.walk_of (l := PySem.Challenge.rw_justthepart_k01_whole_polynomials) (n := 63) (k := 4) (x := "script") (CX := fun _ => L2.CX0) (sp := fun w => Vc.DS _ 1 (Vc.LawS 63)) rfl (by decide) rfl ⟨rfl, by decide, by decide⟩ (fun w h Y => PySem.W.kIn_of Y) ?F (fun _ _ a ns hl _ hS => Vc.law_sp hl hS) (fun _ _ _ _ _ h => h)
  case F =>
    intro w mg fa h KX G hmg
    refine' K1.all_mk KX G hmg ?a0 ?l0 ?c0 ?k0 ?a1 ?l1 ?c1 ?k1 ?a2 ?l2 ?c2 ?k2 ?a3 ?l3 ?c3 ?k3 ?a4 ?l4 ?c4 ?k4 ?a5 ?l5 ?c5 ?k5 ?a6 ?l6 ?c6 ?k6 ?a7 ?l7 ?c7 ?k7 ?a8 ?l8 ?c8 ?k8 ?a9 ?l9 ?c9 ?k9 ?gG ?gL ?z0 ?z1 ?z2 ?z3 ?z4 ?z5
    (case a0 => k_is); (case l0 => k_is); (case c0 => k_is); (case k0 => k_is); (case a1 => k_is); (case l1 => k_is); (case c1 => k_is); (case k1 => k_is); (case a2 => k_is); (case l2 => k_is); (case c2 => k_is); (case k2 => k_is); (case a3 => k_is); (case l3 => k_is); (case c3 => k_is); (case k3 => k_is); (case a4 => k_is); (case l4 => k_is); (case c4 => k_is); (case k4 => k_is); (case a5 => k_is); (case l5 => k_is); (case c5 => k_is); (case k5 => k_is); (case a6 => k_is); (case l6 => k_is); (case c6 => k_is); (case k6 => k_is); (case a7 => k_is); (case l7 => k_is); (case c7 => k_is); (case k7 => k_is); (case a8 => k_is); (case l8 => k_is); (case c8 => k_is); (case k8 => k_is); (case a9 => k_is); (case l9 => k_is); (case c9 => k_is); (case k9 => k_is); (case gG => k_is); (case gL => k_is); (case z0 => k_is); (case z1 => k_is); (case z2 => k_is); (case z3 => k_is); (case z4 => k_is); (case z5 => k_is)
