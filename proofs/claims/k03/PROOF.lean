import PyProof.Rows.All
import Wide.All
import OpenK.AllK
import Wide.FinOn
import HandS.ForMost
import HandS.ForExc
import HandS.More
import HandS.IsInst
import HandS.Star
import HandS.ExcInit
import HandS.ExcField
import HandS.FStr
import HandS.ExcCtx
import HandS.SortInts
import KE.KOpsOwn
import HandS.ExcIs
import HandS.ClsMeth
import HandS.Property
import HandS.SortRule
import PySem.Challenge.RW_gaugemiss_k03_stretches_meet
set_option Elab.async false
set_option linter.all false
set_option maxRecDepth 100000
set_option maxHeartbeats 2000000
namespace G
open PySem L2

/-! ### the world: where classes stand, which objects change, what holds of those -/
/-- the classes of the program -/
inductive Cn where
  | GaugeError | BadStretch | NoLevel | Apart | BadNeed | BadLiars | BadGauge | DuplicateGauge | UnknownGauge | MissingReading | BadRule | BadText | BadLine | SharedFault | BadPaper | NoBound
  | BadLimit | NoCase | NoTruth | NoTick | NotPossible | NothingToUndo | NothingToRedo | NotRanked | NoRule
  | Stretch | Levels | Gauge | CoarseGauge | LateGauge | LateCoarseGauge | Rack | Rule | Leaf | Rank | Trim | Weigh | Miss | Case | Twins | Keeper | Desk | SteadyDesk | Finder
  | other (n : Nat)
structure Bs where
  K : PySem.W.Frag
  cl : Cn → Addr
structure Wc where
  B : Bs
  mu : Addr → Prop
  box : Addr → Prop
def Wc.plus (W : Wc) (D : Addr) : Wc := ⟨W.B, fun a => W.mu a ∨ a = D, W.box⟩
def Kp (W : Wc) (H H' : Hp) : Prop := ∀ a o, ¬ W.mu a → H a = some o → H' a = some o
/-- the box of draws at b: its cells, the place, what is pending, the salt -/
def BoxAt (b : Addr) (H : Hp) : Prop := ∃ (c : Addr) (ns : List Int) (i p s : Int), b ≠ c ∧ H b = some (.lst [.ref c, .int i, .int p, .int s]) ∧ H c = some (.lst (ns.map V.int)) ∧ 0 ≤ i ∧ 0 ≤ p
/-- the core, what the changing objects are, and what is wished of errors that leave -/
structure Wd extends Wc where
  ok : Hp → Prop
  live : ∀ H a, ok H → mu a → ∃ o, H a = some o
  st : ∀ H p o, ok H → ¬ mu p → ok (upd H p o)
  wish : Hp → Prop
  wst : ∀ H H', (∀ a o, ¬ mu a → H a = some o → H' a = some o) → ok H' → wish H → wish H'
  hasbox : ∀ H b, ok H → box b → BoxAt b H
  boxset : ∀ H b c i p s i' p' s', ok H → box b → H b = some (.lst [.ref c, .int i, .int p, .int s]) → 0 ≤ i' → 0 ≤ p' → ok (upd H b (.lst [.ref c, .int i', .int p', .int s']))
  boxmu : ∀ b, box b → mu b
  oke : ∀ H H', ok H → (∀ a o, H a = some o → H' a = some o) → ok H'
instance : Coe Wd Wc := ⟨Wd.toWc⟩
structure Ext (W : Wd) (H H' : Hp) : Prop where
  keep : Kp W H H'
  ok : W.ok H'
theorem Ext.refl {W : Wd} {H : Hp} (h : W.ok H) : Ext W H H := ⟨fun _ _ _ e => e, h⟩
theorem Ext.trans {W : Wd} {H H1 H2 : Hp} (a : Ext W H H1) (b : Ext W H1 H2) : Ext W H H2 := ⟨fun c o n e => b.keep c o n (a.keep c o n e), b.ok⟩
theorem fresh_mu {W : Wd} {H : Hp} {p : Addr} (h : W.ok H) (n : H p = none) : ¬ W.mu p := fun m => by
  obtain ⟨o, e⟩ := W.live H p h m
  rw [n] at e
  cases e
theorem Ext.new {W : Wd} {H : Hp} {p : Addr} {o : HO} (h : W.ok H) (n : H p = none) : Ext W H (upd H p o) :=
  ⟨fun a u _ e => by rw [upd_ne (ne_of_none e n)]; exact e, W.st H p o h (fresh_mu h n)⟩
/-- the world where a new list at D, not there in H1, is kept apart: it holds xs -/
def Wd.plus (W : Wd) (D : Addr) (xs : List V) (H1 : Hp) (n : H1 D = none) (o1 : W.ok H1) (w1 : W.wish H1) : Wd where
  toWc := W.toWc.plus D
  ok := fun H => W.ok H ∧ H D = some (.lst xs)
  live := fun H a ⟨h, e⟩ m => by
    rcases m with m | m
    · exact W.live H a h m
    · subst m; exact ⟨_, e⟩
  st := fun H p o ⟨h, e⟩ m => ⟨W.st H p o h (fun z => m (.inl z)), by rw [upd_ne (fun z => m (.inr z.symm))]; exact e⟩
  wish := fun H => (∀ a o, ¬ W.mu a → H1 a = some o → H a = some o)
  wst := fun H H' k _ w a o m e => k a o (fun z => z.elim m fun z => by subst z; rw [n] at e; cases e) (w a o m e)
  hasbox := fun H b ⟨h, _⟩ hb => W.hasbox H b h hb
  boxset := fun H b c i p s i' p' s' ⟨h, e⟩ hb q h1 h2 => ⟨W.boxset H b c i p s i' p' s' h hb q h1 h2, by
    have z : D ≠ b := fun z => by
      subst z
      exact fresh_mu o1 n (W.boxmu _ hb)
    rw [upd_ne z]; exact e⟩
  boxmu := fun b hb => .inl (W.boxmu b hb)
  oke := fun H H' ⟨h, e⟩ k => ⟨W.oke H H' h k, k _ _ e⟩
/-- W' is W with more objects that change -/
structure Sub (W W' : Wd) : Prop where
  B : W'.B = W.B
  ok : ∀ H, W'.ok H → W.ok H
  wish : ∀ H, W'.ok H → W'.wish H → W.wish H
theorem Sub.refl (W : Wd) : Sub W W := ⟨rfl, fun _ h => h, fun _ _ h => h⟩
theorem Sub.trans {W W1 W2 : Wd} (a : Sub W W1) (b : Sub W1 W2) : Sub W W2 := ⟨b.B.trans a.B, fun H h => a.ok H (b.ok H h), fun H o h => a.wish H (b.ok H o) (b.wish H o h)⟩
theorem Sub.plus {W : Wd} {D : Addr} {xs : List V} {H1 : Hp} {n : H1 D = none} {o1 : W.ok H1} {w1 : W.wish H1} : Sub W (W.plus D xs H1 n o1 w1) :=
  ⟨rfl, fun _ h => h.1, fun H h w => W.wst H1 H w h.1 w1⟩

/-! ### plain data and how it stands in the heap -/
class Rep (α : Type) where
  dn : Wc → Hp → V → α → Prop
  mono : ∀ {W : Wc} {H H' : Hp} {v : V} {a : α}, Kp W H H' → dn W H v a → dn W H' v a
  grow : ∀ {W : Wc} {H : Hp} {v : V} {a : α} (D : Addr), H D = none → dn W H v a → dn (W.plus D) H v a
  shrink : ∀ {W : Wc} {H : Hp} {v : V} {a : α} (D : Addr), dn (W.plus D) H v a → dn W H v a

abbrev den {α : Type} [r : Rep α] (W : Wc) (H : Hp) (v : V) (a : α) : Prop := r.dn W H v a
inductive Dl {α : Type} (f : V → α → Prop) : List V → List α → Prop
  | nil : Dl f [] []
  | cons {v : V} {a : α} {vs : List V} {as : List α} : f v a → Dl f vs as → Dl f (v :: vs) (a :: as)
theorem Dl.imp {α : Type} {f g : V → α → Prop} (h : ∀ v a, f v a → g v a) : ∀ {vs : List V} {as : List α}, Dl f vs as → Dl g vs as
  | _, _, .nil => .nil
  | _, _, .cons x y => .cons (h _ _ x) (y.imp h)
theorem Dl.length {α : Type} {f : V → α → Prop} : ∀ {vs : List V} {as : List α}, Dl f vs as → vs.length = as.length
  | _, _, .nil => rfl
  | _, _, .cons _ y => congrArg (· + 1) y.length
theorem Dl.append {α : Type} {f : V → α → Prop} : ∀ {vs ws : List V} {as bs : List α}, Dl f vs as → Dl f ws bs → Dl f (vs ++ ws) (as ++ bs)
  | _, _, _, _, .nil, h => h
  | _, _, _, _, .cons x y, h => .cons x (y.append h)
theorem Dl.at {α : Type} {f : V → α → Prop} : ∀ {vs : List V} {as : List α} {i : Nat} {v : V}, Dl f vs as → vs[i]? = some v → ∃ a, as[i]? = some a ∧ f v a
  | _, _, _, _, .nil, h => by simp at h
  | _, _, 0, _, .cons x y, h => ⟨_, rfl, by simp at h; subst h; exact x⟩
  | _, _, i + 1, _, .cons x y, h => by
    obtain ⟨a, h1, h2⟩ := Dl.at (i := i) y (by simpa using h)
    exact ⟨a, by simpa using h1, h2⟩
theorem Dl.at' {α : Type} {f : V → α → Prop} : ∀ {vs : List V} {as : List α} {i : Nat} {a : α}, Dl f vs as → as[i]? = some a → ∃ v, vs[i]? = some v ∧ f v a
  | _, _, _, _, .nil, h => by simp at h
  | _, _, 0, _, .cons x y, h => ⟨_, rfl, by simp at h; subst h; exact x⟩
  | _, _, i + 1, _, .cons x y, h => by
    obtain ⟨a, h1, h2⟩ := Dl.at' (i := i) y (by simpa using h)
    exact ⟨a, by simpa using h1, h2⟩
theorem Dl.ints {vs : List V} {as : List Int} (h : Dl (fun v (a : Int) => v = .int a) vs as) : vs = as.map V.int := by
  induction h with
  | nil => rfl
  | cons x _ ih => rw [x, ih]; rfl
theorem Dl.of_ints : ∀ as : List Int, Dl (fun v (a : Int) => v = .int a) (as.map V.int) as
  | [] => .nil
  | _ :: r => .cons rfl (Dl.of_ints r)

/-- a list that does not change now; a tuple: tracked, or of the written part -/
def Lq (W : Wc) (H : Hp) (p : Addr) (vs : List V) : Prop := ¬ W.mu p ∧ H p = some (.lst vs)
def Tq (W : Wc) (H : Hp) (p : Addr) (vs : List V) : Prop := ¬ W.mu p ∧ H p = some (.tup vs)
theorem Lq.sq {W : Wc} {H : Hp} {p : Addr} {vs : List V} (h : Lq W H p vs) : SqL W.B.K H p vs := .inl (.inl h.2)
theorem Tq.sq {W : Wc} {H : Hp} {p : Addr} {vs : List V} (h : Tq W H p vs) : SqT W.B.K H p vs := .inl (.inl h.2)
theorem Lq.mono {W : Wc} {H H' : Hp} {p : Addr} {vs : List V} (e : Kp W H H') (h : Lq W H p vs) : Lq W H' p vs := ⟨h.1, e _ _ h.1 h.2⟩
theorem Tq.mono {W : Wc} {H H' : Hp} {p : Addr} {vs : List V} (e : Kp W H H') (h : Tq W H p vs) : Tq W H' p vs := ⟨h.1, e _ _ h.1 h.2⟩
theorem mu_grow {W : Wc} {H : Hp} {p D : Addr} {o : HO} (n : H D = none) (m : ¬ W.mu p) (h : H p = some o) : ¬ (W.plus D).mu p := fun z => z.elim m fun z => by
  subst z
  rw [n] at h
  cases h
theorem Lq.grow {W : Wc} {H : Hp} {p : Addr} {vs : List V} (D : Addr) (n : H D = none) (h : Lq W H p vs) : Lq (W.plus D) H p vs := ⟨mu_grow n h.1 h.2, h.2⟩
theorem Tq.grow {W : Wc} {H : Hp} {p : Addr} {vs : List V} (D : Addr) (n : H D = none) (h : Tq W H p vs) : Tq (W.plus D) H p vs := ⟨mu_grow n h.1 h.2, h.2⟩
theorem Lq.shrink {W : Wc} {H : Hp} {p : Addr} {vs : List V} (D : Addr) (h : Lq (W.plus D) H p vs) : Lq W H p vs := ⟨fun z => h.1 (.inl z), h.2⟩
theorem Tq.shrink {W : Wc} {H : Hp} {p : Addr} {vs : List V} (D : Addr) (h : Tq (W.plus D) H p vs) : Tq W H p vs := ⟨fun z => h.1 (.inl z), h.2⟩
theorem Lq.new {W : Wc} {H : Hp} {p : Addr} {vs : List V} (m : ¬ W.mu p) (h : H p = some (.lst vs)) : Lq W H p vs := ⟨m, h⟩
theorem Tq.new {W : Wc} {H : Hp} {p : Addr} {vs : List V} (m : ¬ W.mu p) (h : H p = some (.tup vs)) : Tq W H p vs := ⟨m, h⟩

instance : Rep Int := ⟨fun _ _ v a => v = .int a, fun _ h => h, fun _ _ h => h, fun _ h => h⟩
instance : Rep Bool := ⟨fun _ _ v a => v = .bl a, fun _ h => h, fun _ _ h => h, fun _ h => h⟩
instance : Rep Str := ⟨fun _ _ v a => v = .str a, fun _ h => h, fun _ _ h => h, fun _ h => h⟩
instance : Rep Unit := ⟨fun _ _ v _ => v = .non, fun _ h => h, fun _ _ h => h, fun _ h => h⟩
instance {α β : Type} [Rep α] [Rep β] : Rep (α × β) :=
  ⟨fun W H v a => ∃ p x y, v = .ref p ∧ Tq W H p [x, y] ∧ den W H x a.1 ∧ den W H y a.2,
   fun e ⟨p, x, y, hv, s, h1, h2⟩ => ⟨p, x, y, hv, s.mono e, Rep.mono e h1, Rep.mono e h2⟩,
   fun D n ⟨p, x, y, hv, s, h1, h2⟩ => ⟨p, x, y, hv, s.grow D n, Rep.grow D n h1, Rep.grow D n h2⟩,
   fun D ⟨p, x, y, hv, s, h1, h2⟩ => ⟨p, x, y, hv, s.shrink D, Rep.shrink D h1, Rep.shrink D h2⟩⟩
/-- a tuple of three -/
structure T3 (α β γ : Type) where
  a : α
  b : β
  c : γ
instance {α β γ : Type} [Rep α] [Rep β] [Rep γ] : Rep (T3 α β γ) :=
  ⟨fun W H v t => ∃ p x y z, v = .ref p ∧ Tq W H p [x, y, z] ∧ den W H x t.a ∧ den W H y t.b ∧ den W H z t.c,
   fun e ⟨p, x, y, z, hv, s, h1, h2, h3⟩ => ⟨p, x, y, z, hv, s.mono e, Rep.mono e h1, Rep.mono e h2, Rep.mono e h3⟩,
   fun D n ⟨p, x, y, z, hv, s, h1, h2, h3⟩ => ⟨p, x, y, z, hv, s.grow D n, Rep.grow D n h1, Rep.grow D n h2, Rep.grow D n h3⟩,
   fun D ⟨p, x, y, z, hv, s, h1, h2, h3⟩ => ⟨p, x, y, z, hv, s.shrink D, Rep.shrink D h1, Rep.shrink D h2, Rep.shrink D h3⟩⟩
instance {α : Type} [Rep α] : Rep (List α) :=
  ⟨fun W H v as => ∃ p vs, v = .ref p ∧ Lq W H p vs ∧ Dl (den W H) vs as,
   fun e ⟨p, vs, hv, s, h⟩ => ⟨p, vs, hv, s.mono e, h.imp fun _ _ x => Rep.mono e x⟩,
   fun D n ⟨p, vs, hv, s, h⟩ => ⟨p, vs, hv, s.grow D n, h.imp fun _ _ x => Rep.grow D n x⟩,
   fun D ⟨p, vs, hv, s, h⟩ => ⟨p, vs, hv, s.shrink D, h.imp fun _ _ x => Rep.shrink D x⟩⟩
/-- the box of draws: an object that changes -/
structure Bx where
instance : Rep Bx := ⟨fun W _ v _ => ∃ b, v = .ref b ∧ W.box b, fun _ h => h, fun _ _ h => h, fun _ h => h⟩

/-! ### typed slots -/
structure Ty where
  α : Type
  r : Rep α
  a : α
abbrev T {α : Type} [r : Rep α] (a : α) : Ty := ⟨α, r, a⟩
def Ty.den (W : Wc) (H : Hp) (v : V) (t : Ty) : Prop := t.r.dn W H v t.a
theorem Ty.mono {W : Wc} {H H' : Hp} {v : V} {t : Ty} (e : Kp W H H') (h : t.den W H v) : t.den W H' v := t.r.mono e h
abbrev Gam := List (Option Ty)
structure GOk (W : Wd) (H : Hp) (σ : St) (Γ : Gam) : Prop where
  ok : W.ok H
  wish : W.wish H
  at_ : ∀ (i : Nat) (t : Ty), Γ[i]? = some (some t) → ∃ v, σ[i]? = some (some v) ∧ t.den W H v
  len : σ.length = Γ.length
theorem GOk.ext {W : Wd} {H H' : Hp} {σ : St} {Γ : Gam} (E : GOk W H σ Γ) (e : Ext W H H') : GOk W H' σ Γ :=
  ⟨e.ok, W.wst _ _ e.keep e.ok E.wish, fun i t h => let ⟨v, h1, h2⟩ := E.at_ i t h; ⟨v, h1, Ty.mono e.keep h2⟩, E.len⟩
theorem GOk.set {W : Wd} {H : Hp} {σ : St} {Γ : Gam} (E : GOk W H σ Γ) (i : Nat) {v : V} {t : Ty} (h : t.den W H v) : GOk W H (σ.set i (some v)) (Γ.set i (some t)) := by
  refine ⟨E.ok, E.wish, fun j u hj => ?_, by rw [List.length_set, List.length_set]; exact E.len⟩
  by_cases e : i = j
  · subst e
    have hl : i < Γ.length := by
      have := (List.getElem?_eq_some_iff.mp hj).1
      rwa [List.length_set] at this
    rw [List.getElem?_set_self hl] at hj
    cases hj
    exact ⟨v, List.getElem?_set_self (by rw [E.len]; exact hl), h⟩
  · rw [List.getElem?_set_ne e] at hj
    rw [List.getElem?_set_ne e]
    exact E.at_ j u hj
theorem GOk.unset {W : Wd} {H : Hp} {σ : St} {Γ : Gam} (E : GOk W H σ Γ) (i : Nat) : GOk W H (σ.set i none) (Γ.set i none) := by
  refine ⟨E.ok, E.wish, fun j u hj => ?_, by rw [List.length_set, List.length_set]; exact E.len⟩
  by_cases e : i = j
  · subst e
    have hl : i < Γ.length := by
      have := (List.getElem?_eq_some_iff.mp hj).1
      rwa [List.length_set] at this
    rw [List.getElem?_set_self hl] at hj
    cases hj
  · rw [List.getElem?_set_ne e] at hj
    rw [List.getElem?_set_ne e]
    exact E.at_ j u hj
def wipeE (Γ : Gam) : List Nat → Gam
  | [] => Γ
  | i :: r => (wipeE Γ r).set i none
theorem GOk.wipe {W : Wd} {H : Hp} {σ : St} {Γ : Gam} (E : GOk W H σ Γ) : ∀ vs : List Nat, GOk W H (wipe σ vs) (wipeE Γ vs)
  | [] => E
  | i :: r => (E.wipe r).unset i

/-! ### what an expression comes to, a predicate transformer over plain data -/
def EvK {α : Type} [Rep α] (W : Wd) (te : TE) (Γ : Gam) (k : α → Prop) : Prop :=
  ∀ σ H (Q : VK), GOk W H σ Γ → (∀ v H' (a : α), Ext W H H' → den W H' v a → k a → Q v H') → te σ H Q
def EvT (W : Wd) (tt : TT) (Γ : Gam) (k : Bool → Prop) : Prop :=
  ∀ σ H (Q : Bool → Hp → Prop), GOk W H σ Γ → (∀ H' b, Ext W H H' → k b → Q b H') → tt σ H Q
/-- arguments: a list of typed data -/
inductive DT (W : Wc) (H : Hp) : List V → List Ty → Prop
  | nil : DT W H [] []
  | cons {v : V} {t : Ty} {vs : List V} {ts : List Ty} : t.den W H v → DT W H vs ts → DT W H (v :: vs) (t :: ts)
theorem DT.mono {W : Wc} {H H' : Hp} (e : Kp W H H') : ∀ {vs : List V} {ts : List Ty}, DT W H vs ts → DT W H' vs ts
  | _, _, .nil => .nil
  | _, _, .cons x y => .cons (Ty.mono e x) (y.mono e)
theorem DT.length {W : Wc} {H : Hp} : ∀ {vs : List V} {ts : List Ty}, DT W H vs ts → vs.length = ts.length
  | _, _, .nil => rfl
  | _, _, .cons _ y => congrArg (· + 1) y.length
def EvA (W : Wd) (ta : TA) (Γ : Gam) (k : List Ty → Prop) : Prop :=
  ∀ σ H (Q : List V → Hp → Prop), GOk W H σ Γ → (∀ vs H' ts, Ext W H H' → DT W H' vs ts → k ts → Q vs H') → ta σ H Q
section
variable {W : Wd} {Γ : Gam} {ta tb tc te : TE} {tt tu : TT}

theorem EvK.imp {α : Type} {rα : Rep α} {k k' : α → Prop} (h : EvK W te Γ k) (i : ∀ a, k a → k' a) : EvK W te Γ k' :=
  fun σ H Q E q => h σ H Q E fun v H' a e d z => q v H' a e d (i a z)
theorem ev_var {α : Type} {r : Rep α} {i : Nat} {a : α} {k : α → Prop} (h : Γ[i]? = some (some (T a))) (q : k a) : EvK W (tVar i) Γ k := fun σ H Q E c => by
  obtain ⟨v, h1, h2⟩ := E.at_ i _ h
  exact ⟨v, h1, c v H a (Ext.refl E.ok) h2 q⟩
theorem ev_int {i : Int} {k : Int → Prop} (q : k i) : EvK W (tC (.int i)) Γ k := fun σ H Q E c => c _ H i (Ext.refl E.ok) rfl q
theorem ev_bl {i : Bool} {k : Bool → Prop} (q : k i) : EvK W (tC (.bl i)) Γ k := fun σ H Q E c => c _ H i (Ext.refl E.ok) rfl q
theorem ev_str {i : Str} {k : Str → Prop} (q : k i) : EvK W (tC (.str i)) Γ k := fun σ H Q E c => c _ H i (Ext.refl E.ok) rfl q
theorem ev_non {k : Unit → Prop} (q : k ()) : EvK W (tC .non) Γ k := fun σ H Q E c => c _ H () (Ext.refl E.ok) rfl q
/-- two parts, one behind the other -/
theorem ev_two {α β γ : Type} {rα : Rep α} {rβ : Rep β} {rγ : Rep γ} {r : R2} {k : γ → Prop}
    (h : EvK W ta Γ fun a : α => EvK W tb Γ fun b : β => ∀ x y H (Q : VK), W.ok H → den W H x a → den W H y b → (∀ v H' (c : γ), Ext W H H' → den W H' v c → k c → Q v H') → r x y H Q) : EvK W (tOp r ta tb) Γ k := fun σ H Q E c =>
  h σ H _ E fun x H1 a e1 d1 h1 => h1 σ H1 _ (E.ext e1) fun y H2 b e2 d2 h2 => h2 x y H2 Q e2.ok (Rep.mono e2.keep d1) d2 fun v H3 a3 e3 d3 z => c v H3 a3 ((e1.trans e2).trans e3) d3 z
theorem ev_opI {f : Int → Int → Int} {k : Int → Prop} (h : EvK W ta Γ fun i : Int => EvK W tb Γ fun j : Int => k (f i j)) : EvK W (tOp (rI0 fun i j => .int (f i j)) ta tb) Γ k :=
  ev_two (h.imp fun i hi => hi.imp fun j hj x y H Q o dx dy c => ⟨i, j, dx, dy, c _ H _ (Ext.refl o) rfl hj⟩)
theorem ev_opB {f : Int → Int → Bool} {k : Bool → Prop} (h : EvK W ta Γ fun i : Int => EvK W tb Γ fun j : Int => k (f i j)) : EvK W (tOp (rI0 fun i j => .bl (f i j)) ta tb) Γ k :=
  ev_two (h.imp fun i hi => hi.imp fun j hj x y H Q o dx dy c => ⟨i, j, dx, dy, c _ H _ (Ext.refl o) rfl hj⟩)
theorem ev_opC {C : Int → Int → Prop} {f : Int → Int → Int} {k : Int → Prop} (h : EvK W ta Γ fun i : Int => EvK W tb Γ fun j : Int => C i j ∧ k (f i j)) : EvK W (tOp (rI C fun i j => .int (f i j)) ta tb) Γ k :=
  ev_two (h.imp fun i hi => hi.imp fun j hj x y H Q o dx dy c => ⟨i, j, dx, dy, hj.1, c _ H _ (Ext.refl o) rfl hj.2⟩)
theorem ev_unI {f : Int → Int} {k : Int → Prop} (h : EvK W ta Γ fun i : Int => k (f i)) : EvK W (tUn (rU fun i => .int (f i)) ta) Γ k := fun σ H Q E c =>
  h σ H _ E fun x H1 i e1 d1 h1 => ⟨i, d1, c _ H1 _ e1 rfl h1⟩
theorem ev_if {α : Type} {rα : Rep α} {k : α → Prop} (h : EvT W tt Γ fun b => (b = true → EvK W ta Γ k) ∧ (b = false → EvK W tb Γ k)) : EvK W (tIf tt ta tb) Γ k := fun σ H Q E c =>
  h σ H _ E fun H1 b e1 ⟨h1, h2⟩ => by
    cases b with
    | true => exact h1 rfl σ H1 Q (E.ext e1) fun v H2 a e2 d z => c v H2 a (e1.trans e2) d z
    | false => exact h2 rfl σ H1 Q (E.ext e1) fun v H2 a e2 d z => c v H2 a (e1.trans e2) d z
theorem ev_andV {k : Bool → Prop} (h : EvK W ta Γ fun a : Bool => (a = true → EvK W tb Γ k) ∧ (a = false → k false)) : EvK W (tAndV ta tb) Γ k := fun σ H Q E c =>
  h σ H _ E fun x H1 a e1 d1 ⟨h1, h2⟩ => ⟨a, d1, by
    cases a with
    | true => exact h1 rfl σ H1 Q (E.ext e1) fun v H2 a e2 d z => c v H2 a (e1.trans e2) d z
    | false => exact c _ H1 false e1 rfl (h2 rfl)⟩
theorem ev_orV {k : Bool → Prop} (h : EvK W ta Γ fun a : Bool => (a = true → k true) ∧ (a = false → EvK W tb Γ k)) : EvK W (tOrV ta tb) Γ k := fun σ H Q E c =>
  h σ H _ E fun x H1 a e1 d1 ⟨h1, h2⟩ => ⟨a, d1, by
    cases a with
    | true => exact c _ H1 true e1 rfl (h1 rfl)
    | false => exact h2 rfl σ H1 Q (E.ext e1) fun v H2 a e2 d z => c v H2 a (e1.trans e2) d z⟩
theorem ev_notV {k : Bool → Prop} (h : EvK W ta Γ fun a : Bool => k (!a)) : EvK W (tNotV ta) Γ k := fun σ H Q E c =>
  h σ H _ E fun x H1 a e1 d1 h1 => ⟨a, d1, c _ H1 _ e1 rfl h1⟩
/-! tests -/
theorem et_test {k : Bool → Prop} (h : EvK W te Γ k) : EvT W (tTest te) Γ k := fun σ H Q E c => h σ H _ E fun v H1 b e1 d z => ⟨b, d, c H1 b e1 z⟩
theorem et_B {k : Bool → Prop} (h : EvK W te Γ k) : EvT W (tB te) Γ k := fun σ H Q E c => h σ H _ E fun v H1 b e1 d z => ⟨b, d, c H1 b e1 z⟩
theorem et_not {k : Bool → Prop} (h : EvT W tt Γ fun b => k (!b)) : EvT W (tNot tt) Γ k := fun σ H Q E c => h σ H _ E fun H1 b e1 z => c H1 _ e1 z
theorem et_and {k : Bool → Prop} (h : EvT W tt Γ fun a => (a = true → EvT W tu Γ k) ∧ (a = false → k false)) : EvT W (tAnd tt tu) Γ k := fun σ H Q E c =>
  h σ H _ E fun H1 a e1 ⟨h1, h2⟩ => by
    cases a with
    | true => exact h1 rfl σ H1 Q (E.ext e1) fun H2 b e2 z => c H2 b (e1.trans e2) z
    | false => exact c H1 false e1 (h2 rfl)
theorem et_or {k : Bool → Prop} (h : EvT W tt Γ fun a => (a = true → k true) ∧ (a = false → EvT W tu Γ k)) : EvT W (tOr tt tu) Γ k := fun σ H Q E c =>
  h σ H _ E fun H1 a e1 ⟨h1, h2⟩ => by
    cases a with
    | true => exact c H1 true e1 (h1 rfl)
    | false => exact h2 rfl σ H1 Q (E.ext e1) fun H2 b e2 z => c H2 b (e1.trans e2) z
theorem et_yes {k : Bool → Prop} (q : k true) : EvT W tYes Γ k := fun σ H Q E c => c H true (Ext.refl E.ok) q
/-! arguments -/
theorem ea_nil {k : List Ty → Prop} (q : k []) : EvA W tNil Γ k := fun σ H Q E c => c [] H [] (Ext.refl E.ok) .nil q
theorem ea_cons {α : Type} {rα : Rep α} {tr : TA} {k : List Ty → Prop} (h : EvK W te Γ fun a : α => EvA W tr Γ fun ts => k (T a :: ts)) : EvA W (tCons te tr) Γ k := fun σ H Q E c =>
  h σ H _ E fun v H1 a e1 d h1 => h1 σ H1 _ (E.ext e1) fun vs H2 ts e2 ds z => c (v :: vs) H2 _ (e1.trans e2) (.cons (Ty.mono (t := T a) e2.keep d) ds) z
/-! tuples, lists -/
theorem ev_tup2 {α β : Type} {rα : Rep α} {rβ : Rep β} {k : α × β → Prop} (h : EvK W ta Γ fun a : α => EvK W tb Γ fun b : β => k (a, b)) : EvK W (tTup (tCons ta (tCons tb tNil))) Γ k := fun σ H Q E c =>
  h σ H _ E fun x H1 a e1 d1 h1 => h1 σ H1 _ (E.ext e1) fun y H2 b e2 d2 z => ⟨by show 2 ≤ sizeLine; decide, fun p hp =>
    have e3 := Ext.new (o := .tup [x, y]) e2.ok hp
    c _ _ (a, b) ((e1.trans e2).trans e3) ⟨p, x, y, rfl, Tq.new (fresh_mu e2.ok hp) upd_same, Rep.mono (e2.trans e3).keep d1, Rep.mono e3.keep d2⟩ z⟩
theorem ev_tup3 {α β γ : Type} {rα : Rep α} {rβ : Rep β} {rγ : Rep γ} {k : T3 α β γ → Prop} (h : EvK W ta Γ fun a : α => EvK W tb Γ fun b : β => EvK W tc Γ fun c : γ => k ⟨a, b, c⟩) : EvK W (tTup (tCons ta (tCons tb (tCons tc tNil)))) Γ k := fun σ H Q E c =>
  h σ H _ E fun x H1 a e1 d1 h1 => h1 σ H1 _ (E.ext e1) fun y H2 b e2 d2 h2 => h2 σ H2 _ ((E.ext e1).ext e2) fun u H3 b3 e3 d3 z => ⟨by show 3 ≤ sizeLine; decide, fun p hp =>
    have e4 := Ext.new (o := .tup [x, y, u]) e3.ok hp
    c _ _ ⟨a, b, b3⟩ (((e1.trans e2).trans e3).trans e4) ⟨p, x, y, u, rfl, Tq.new (fresh_mu e3.ok hp) upd_same, Rep.mono ((e2.trans e3).trans e4).keep d1, Rep.mono (e3.trans e4).keep d2, Rep.mono e4.keep d3⟩ z⟩
/-- items of a display, all of one kind -/
def EvL {α : Type} [Rep α] (W : Wd) (ta : TA) (Γ : Gam) (k : List α → Prop) : Prop :=
  ∀ σ H (Q : List V → Hp → Prop), GOk W H σ Γ → (∀ vs H' as, Ext W H H' → Dl (den W H') vs as → k as → Q vs H') → ta σ H Q
theorem el_nil {α : Type} {rα : Rep α} {k : List α → Prop} (q : k []) : EvL W tNil Γ k := fun σ H Q E c => c [] H [] (Ext.refl E.ok) .nil q
theorem el_cons {α : Type} {rα : Rep α} {tr : TA} {k : List α → Prop} (h : EvK W te Γ fun a : α => EvL W tr Γ fun as => k (a :: as)) : EvL W (tCons te tr) Γ k := fun σ H Q E c =>
  h σ H _ E fun v H1 a e1 d h1 => h1 σ H1 _ (E.ext e1) fun vs H2 as e2 ds z => c (v :: vs) H2 _ (e1.trans e2) (.cons (Rep.mono e2.keep d) ds) z
theorem ev_lst {α : Type} {rα : Rep α} {t : TA} {k : List α → Prop} (h : EvL W t Γ fun as => as.length ≤ 100000 ∧ k as) : EvK W (tLst t) Γ k := fun σ H Q E c =>
  h σ H _ E fun vs H1 as e1 ds ⟨hl, z⟩ => ⟨Nat.le_trans (by rw [ds.length]; exact hl) (by decide : 100000 ≤ sizeLine), fun p hp =>
    have e2 := Ext.new (o := .lst vs) e1.ok hp
    c _ _ as (e1.trans e2) ⟨p, vs, rfl, Lq.new (fresh_mu e1.ok hp) upd_same, ds.imp fun _ _ d => Rep.mono e2.keep d⟩ z⟩
end

/-! comparisons of plain data, deep -/
class Dat (α : Type) [Rep α] where
  toD : α → PyData
  dp : ∀ {W : Wc} {H : Hp} {v : V} {a : α}, den W H v a → Dp W.B.K H v (toD a)
  dep : Nat
  ddep : ∀ a : α, (toD a).depth ≤ dep
  inj : ∀ a b : α, PyData.eqv (toD a) (toD b) = true ↔ a = b
  good : α → Prop
  gshp : ∀ a : α, good a → (toD a).canLay0 = true

instance : Dat Int := ⟨fun i => .int i, fun h => by cases h; exact .int _, 0, fun _ => Nat.le_refl 0, fun a b => by show (a == b) = true ↔ a = b; exact beq_iff_eq, fun _ => True, fun _ _ => rfl⟩
instance : Dat Bool := ⟨fun i => .bool i, fun h => by cases h; exact .bl _, 0, fun _ => Nat.le_refl 0, fun a b => by show (a == b) = true ↔ a = b; exact beq_iff_eq, fun _ => True, fun _ _ => rfl⟩
instance : Dat Str := ⟨fun i => .str i, fun h => by cases h; exact .str _, 0, fun _ => Nat.le_refl 0, fun a b => by show (a == b) = true ↔ a = b; exact beq_iff_eq, fun x => (PyData.str x).canLay0 = true, fun _ h => h⟩
instance : Dat Unit := ⟨fun _ => .none, fun h => by cases h; exact .non, 0, fun _ => Nat.le_refl 0, fun a b => ⟨fun _ => rfl, fun _ => rfl⟩, fun _ => True, fun _ _ => rfl⟩
theorem eqv2 (a b c d : PyData) : PyData.eqv (.tuple [a, b]) (.tuple [c, d]) = (PyData.eqv a c && PyData.eqv b d) := by
  show (PyData.eqv a c && (PyData.eqv b d && true)) = _
  rw [Bool.and_true]
theorem eqv3 (a b c d e f : PyData) : PyData.eqv (.tuple [a, b, e]) (.tuple [c, d, f]) = (PyData.eqv a c && (PyData.eqv b d && PyData.eqv e f)) := by
  show (PyData.eqv a c && (PyData.eqv b d && (PyData.eqv e f && true))) = _
  rw [Bool.and_true]
instance {α β : Type} [Rep α] [Rep β] [Dat α] [Dat β] : Dat (α × β) where
  toD := fun x => .tuple [Dat.toD x.1, Dat.toD x.2]
  dp := fun ⟨p, x, y, hv, s, h1, h2⟩ => by
    subst hv
    exact .tup s.sq (.cons (Dat.dp h1) (.cons (Dat.dp h2) .nil))
  dep := max (Dat.dep α) (Dat.dep β) + 1
  ddep := fun x => by
    have h1 := Dat.ddep x.1
    have h2 := Dat.ddep x.2
    show max (Dat.toD x.1).depth (max (Dat.toD x.2).depth 0) + 1 ≤ _
    omega
  inj := fun x y => by
    rw [eqv2, Bool.and_eq_true, Dat.inj, Dat.inj]
    exact ⟨fun h => Prod.ext h.1 h.2, fun h => by rw [h]; exact ⟨rfl, rfl⟩⟩
  good := fun x => Dat.good x.1 ∧ Dat.good x.2
  gshp := fun x h => by
    have h1 := Dat.gshp _ h.1
    have h2 := Dat.gshp _ h.2
    show ((Dat.toD x.1).canLay0 && ((Dat.toD x.2).canLay0 && true)) = true
    rw [h1, h2]
    rfl
instance {α β γ : Type} [Rep α] [Rep β] [Rep γ] [Dat α] [Dat β] [Dat γ] : Dat (T3 α β γ) where
  toD := fun x => .tuple [Dat.toD x.a, Dat.toD x.b, Dat.toD x.c]
  dp := fun ⟨p, x, y, z, hv, s, h1, h2, h3⟩ => by
    subst hv
    exact .tup s.sq (.cons (Dat.dp h1) (.cons (Dat.dp h2) (.cons (Dat.dp h3) .nil)))
  dep := max (Dat.dep α) (max (Dat.dep β) (Dat.dep γ)) + 1
  ddep := fun x => by
    have h1 := Dat.ddep x.a
    have h2 := Dat.ddep x.b
    have h3 := Dat.ddep x.c
    show max (Dat.toD x.a).depth (max (Dat.toD x.b).depth (max (Dat.toD x.c).depth 0)) + 1 ≤ _
    omega
  inj := fun x y => by
    rw [eqv3, Bool.and_eq_true, Bool.and_eq_true, Dat.inj, Dat.inj, Dat.inj]
    cases x; cases y
    exact ⟨fun h => by obtain ⟨h1, h2, h3⟩ := h; cases h1; cases h2; cases h3; rfl, fun h => by cases h; exact ⟨rfl, rfl, rfl⟩⟩
  good := fun x => Dat.good x.a ∧ Dat.good x.b ∧ Dat.good x.c
  gshp := fun x h => by
    have h1 := Dat.gshp _ h.1
    have h2 := Dat.gshp _ h.2.1
    have h3 := Dat.gshp _ h.2.2
    show ((Dat.toD x.a).canLay0 && ((Dat.toD x.b).canLay0 && ((Dat.toD x.c).canLay0 && true))) = true
    rw [h1, h2, h3]
    rfl
theorem dpAll {α : Type} [Rep α] [Dat α] {W : Wc} {H : Hp} : ∀ {vs : List V} {as : List α}, Dl (den W H) vs as → DpAll W.B.K H vs (as.map Dat.toD)
  | _, _, .nil => .nil
  | _, _, .cons x y => .cons (Dat.dp x) (dpAll y)
theorem depAll {α : Type} [Rep α] [Dat α] : ∀ as : List α, PyData.depthAll (as.map Dat.toD) ≤ Dat.dep α
  | [] => Nat.zero_le _
  | a :: r => by
    have h1 := Dat.ddep a
    have h2 := depAll r
    show max (Dat.toD a).depth (PyData.depthAll (r.map Dat.toD)) ≤ _
    omega
theorem injAll {α : Type} [Rep α] [Dat α] : ∀ as bs : List α, PyData.eqvAll (as.map Dat.toD) (bs.map Dat.toD) = true ↔ as = bs
  | [], [] => ⟨fun _ => rfl, fun _ => rfl⟩
  | [], _ :: _ => ⟨fun h => Bool.noConfusion h, fun h => nomatch h⟩
  | _ :: _, [] => ⟨fun h => Bool.noConfusion h, fun h => nomatch h⟩
  | a :: r, b :: s => by
    show (PyData.eqv (Dat.toD a) (Dat.toD b) && PyData.eqvAll (r.map Dat.toD) (s.map Dat.toD)) = true ↔ _
    rw [Bool.and_eq_true, Dat.inj, injAll r s]
    exact ⟨fun h => by rw [h.1, h.2], fun h => by injection h with h1 h2; exact ⟨h1, h2⟩⟩
theorem shpAll {α : Type} [Rep α] [Dat α] : ∀ as : List α, (∀ a ∈ as, Dat.good a) → PyData.canLayAll0 (as.map Dat.toD) = true
  | [], _ => rfl
  | a :: r, h => by
    show ((Dat.toD a).canLay0 && PyData.canLayAll0 (r.map Dat.toD)) = true
    rw [Dat.gshp _ (h a List.mem_cons_self), shpAll r fun x hx => h x (List.mem_cons_of_mem _ hx)]
    rfl
instance {α : Type} [Rep α] [Dat α] : Dat (List α) where
  toD := fun x => .list (x.map Dat.toD)
  dp := fun ⟨p, vs, hv, s, h⟩ => by
    subst hv
    exact .lst s.sq (dpAll h)
  dep := Dat.dep α + 1
  ddep := fun x => Nat.succ_le_succ (depAll x)
  inj := fun x y => injAll x y
  good := fun x => ∀ a ∈ x, Dat.good a
  gshp := fun x h => shpAll x h

section
variable {W : Wd} {Γ : Gam} {ta tb tc te : TE} {tt tu : TT}
theorem shaped_of {α : Type} [Rep α] [Dat α] {a : α} (g : Dat.good a) (h : Dat.dep α ≤ 64) : SeqAt.shaped (Dat.toD a) = true := by
  unfold SeqAt.shaped
  rw [Dat.gshp a g, decide_eq_true (Nat.le_trans (Dat.ddep a) h)]
  rfl
theorem ev_eqD2 {α β : Type} {rα : Rep α} {rβ : Rep β} {dα : Dat α} {dβ : Dat β} {K : PySem.W.Frag} {k : Bool → Prop} (hK : W.B.K = K) (hd1 : Dat.dep α ≤ 64) (hd2 : Dat.dep β ≤ 64)
    (h : EvK W ta Γ fun a : α => EvK W tb Γ fun b : β => (Dat.good a ∧ Dat.good b) ∧ k (PyData.eqv (Dat.toD a) (Dat.toD b))) : EvK W (tOp (rEqD K) ta tb) Γ k := by
  subst hK
  exact ev_two (h.imp fun a ha => ha.imp fun b hb x y H Q o dx dy c => ⟨_, _, Dat.dp dx, Dat.dp dy, shaped_of hb.1.1 hd1, shaped_of hb.1.2 hd2, c _ H _ (Ext.refl o) rfl hb.2⟩)
theorem ev_neD2 {α β : Type} {rα : Rep α} {rβ : Rep β} {dα : Dat α} {dβ : Dat β} {K : PySem.W.Frag} {k : Bool → Prop} (hK : W.B.K = K) (hd1 : Dat.dep α ≤ 64) (hd2 : Dat.dep β ≤ 64)
    (h : EvK W ta Γ fun a : α => EvK W tb Γ fun b : β => (Dat.good a ∧ Dat.good b) ∧ k (!PyData.eqv (Dat.toD a) (Dat.toD b))) : EvK W (tOp (rNeD K) ta tb) Γ k := by
  subst hK
  exact ev_two (h.imp fun a ha => ha.imp fun b hb x y H Q o dx dy c => ⟨_, _, Dat.dp dx, Dat.dp dy, shaped_of hb.1.1 hd1, shaped_of hb.1.2 hd2, c _ H _ (Ext.refl o) rfl hb.2⟩)
theorem eqv_dec {α : Type} [Rep α] [Dat α] [DecidableEq α] (a b : α) : PyData.eqv (Dat.toD a) (Dat.toD b) = decide (a = b) := by
  by_cases e : a = b
  · rw [decide_eq_true e]; exact (Dat.inj a b).mpr e
  · rw [decide_eq_false e]
    cases q : PyData.eqv (Dat.toD a) (Dat.toD b) with
    | false => rfl
    | true => exact absurd ((Dat.inj a b).mp q) e
theorem ev_eqD {α : Type} {rα : Rep α} {dα : Dat α} {_ : DecidableEq α} {K : PySem.W.Frag} {k : Bool → Prop} (hK : W.B.K = K) (hd1 : Dat.dep α ≤ 64)
    (h : EvK W ta Γ fun a : α => EvK W tb Γ fun b : α => (Dat.good a ∧ Dat.good b) ∧ k (decide (a = b))) : EvK W (tOp (rEqD K) ta tb) Γ k :=
  ev_eqD2 hK hd1 hd1 (h.imp fun a ha => ha.imp fun b hb => ⟨hb.1, by rw [eqv_dec]; exact hb.2⟩)
theorem ev_neD {α : Type} {rα : Rep α} {dα : Dat α} {_ : DecidableEq α} {K : PySem.W.Frag} {k : Bool → Prop} (hK : W.B.K = K) (hd1 : Dat.dep α ≤ 64)
    (h : EvK W ta Γ fun a : α => EvK W tb Γ fun b : α => (Dat.good a ∧ Dat.good b) ∧ k (!decide (a = b))) : EvK W (tOp (rNeD K) ta tb) Γ k :=
  ev_neD2 hK hd1 hd1 (h.imp fun a ha => ha.imp fun b hb => ⟨hb.1, by rw [eqv_dec]; exact hb.2⟩)
/-! items -/
theorem ev_ixL {α : Type} {rα : Rep α} {K : PySem.W.Frag} {k : α → Prop} (hK : W.B.K = K) (h : EvK W ta Γ fun as : List α => EvK W tb Γ fun i : Int => ∃ a, atI as i = some a ∧ k a) : EvK W (tOp (rIxL K) ta tb) Γ k := by
  subst hK
  refine ev_two (h.imp fun as ha => ha.imp fun i ⟨a, hi, z⟩ x y H Q o dx dy c => ?_)
  obtain ⟨p, vs, rfl, hp, hd⟩ := dx
  have e : ∃ v, atI vs i = some v ∧ den W H v a := by
    unfold atI at hi ⊢
    rw [hd.length]
    cases q : ixN as.length i with
    | none => rw [q] at hi; cases hi
    | some j =>
      rw [q, Option.bind_some] at hi
      rw [Option.bind_some]
      exact hd.at' hi
  obtain ⟨v, hv, dv⟩ := e
  exact ⟨p, vs, i, v, rfl, dy, hp.sq, hv, c _ H a (Ext.refl o) dv z⟩
theorem ev_ixT0 {α β : Type} {rα : Rep α} {rβ : Rep β} {K : PySem.W.Frag} {k : α → Prop} (hK : W.B.K = K) (h : EvK W ta Γ fun p : α × β => k p.1) : EvK W (tOp (rIxT K) ta (tC (.int 0))) Γ k := by
  subst hK
  refine fun σ H Q E c => h σ H _ E fun v H1 a e1 ⟨p, x, y, hv, s, d1, d2⟩ z => ?_
  exact ⟨p, _, 0, x, hv, rfl, s.sq, rfl, c _ H1 _ e1 d1 z⟩
theorem ev_ixT1 {α β : Type} {rα : Rep α} {rβ : Rep β} {K : PySem.W.Frag} {k : β → Prop} (hK : W.B.K = K) (h : EvK W ta Γ fun p : α × β => k p.2) : EvK W (tOp (rIxT K) ta (tC (.int 1))) Γ k := by
  subst hK
  refine fun σ H Q E c => h σ H _ E fun v H1 a e1 ⟨p, x, y, hv, s, d1, d2⟩ z => ?_
  exact ⟨p, _, 1, y, hv, rfl, s.sq, rfl, c _ H1 _ e1 d2 z⟩
/-! list + list, len -/
theorem ev_cat {α : Type} {rα : Rep α} {k : List α → Prop} (h : EvK W ta Γ fun as : List α => EvK W tb Γ fun bs : List α => as.length + bs.length ≤ 100000 ∧ k (as ++ bs)) : EvK W (tOp rCat ta tb) Γ k := by
  refine ev_two (h.imp fun as ha => ha.imp fun bs ⟨hl, z⟩ x y H Q o dx dy c => ?_)
  obtain ⟨p, vs, rfl, hp, hd⟩ := dx
  obtain ⟨q, ws, rfl, hq, hd2⟩ := dy
  refine ⟨p, q, vs, ws, rfl, rfl, hp.2, hq.2, Nat.le_trans (by rw [hd.length, hd2.length]; exact hl) (by decide : 100000 ≤ sizeLine), fun l hl => ?_⟩
  have e := Ext.new (o := .lst (vs ++ ws)) o hl
  exact c _ _ _ e ⟨l, _, rfl, Lq.new (fresh_mu o hl) upd_same, (hd.append hd2).imp fun _ _ d => Rep.mono e.keep d⟩ z
def rLenS (K : PySem.W.Frag) : List V → Hp → VK → Prop := fun xs H Q => ∃ p ys, xs = [.ref p] ∧ (SqL K H p ys ∨ SqT K H p ys) ∧ Q (.int ys.length) H
theorem ev_len {α : Type} {rα : Rep α} {K : PySem.W.Frag} {k : Int → Prop} (hK : W.B.K = K) (h : EvK W te Γ fun as : List α => k (as.length : Int)) : EvK W (tCB (fun xs H Q => ∃ p ys, xs = [.ref p] ∧ (SqL K H p ys ∨ SqT K H p ys) ∧ Q (.int ys.length) H) (tCons te tNil)) Γ k := by
  subst hK
  refine fun σ H Q E c => h σ H _ E fun v H1 as e1 ⟨p, vs, hv, hp, hd⟩ z => ?_
  exact ⟨p, vs, by rw [hv], .inl hp.sq, c _ H1 _ e1 (congrArg (fun n : Nat => V.int n) hd.length) z⟩
/-- int(x) of an int -/
theorem ev_intI {k : Int → Prop} (h : EvK W te Γ fun i : Int => k i) : EvK W (tCB (fun xs H Q => (∃ i, xs = [.int i] ∧ Q (.int i) H) ∨ ∃ k, xs = [.bl k] ∧ Q (.int (if k then 1 else 0)) H) (tCons te tNil)) Γ k :=
  fun σ H Q E c => h σ H _ E fun v H1 i e1 d z => .inl ⟨i, congrArg (fun x => [x]) d, c _ H1 i e1 rfl z⟩
/-- a chain of two comparisons of ints -/
theorem ev_chain {f g : Int → Int → Bool} {k : Bool → Prop} (h : EvK W ta Γ fun i : Int => EvK W tb Γ fun j : Int => (f i j = true → EvK W tc Γ fun l : Int => k (g j l)) ∧ (f i j = false → k false)) :
    EvK W (tChain (rI0 fun i j => .bl (f i j)) (rI0 fun i j => .bl (g i j)) ta tb tc) Γ k := by
  refine fun σ H Q E c => h σ H _ E fun x H1 i e1 d1 h1 => h1 σ H1 _ (E.ext e1) fun y H2 j e2 d2 h2 => ?_
  refine ⟨i, j, d1, d2, f i j, rfl, ?_⟩
  by_cases q : f i j = true
  · rw [if_pos q]
    exact h2.1 q σ H2 _ ((E.ext e1).ext e2) fun z H3 l e3 d3 h3 => ⟨j, l, d2, d3, c _ H3 _ ((e1.trans e2).trans e3) rfl h3⟩
  · rw [if_neg q]
    exact c _ H2 _ (e1.trans e2) rfl (h2.2 (by simpa using q))
end

/-! ### targets, statements -/
/-- js: the slots that the target sets -/
def Sm (js : List Nat) (σ σ' : St) : Prop := σ'.length = σ.length ∧ ∀ i : Nat, i ∉ js → σ'[i]? = σ[i]?
def Tj {α : Type} [Rep α] (W : Wd) (js : List Nat) (g : TG) (Γ : Gam) (a : α) (k : Gam → Prop) : Prop :=
  ∀ σ H v (Q : St → Hp → Prop), GOk W H σ Γ → den W H v a → (∀ σ' Γ', GOk W H σ' Γ' → Sm js σ σ' → k Γ' → Q σ' H) → g v σ H Q
abbrev Tg {α : Type} [Rep α] (W : Wd) (g : TG) (Γ : Gam) (a : α) (k : Gam → Prop) : Prop := ∃ js, Tj W js g Γ a k
structure Po where
  nx : Gam → Prop
  rt : Ty → Prop
  bk : Gam → Prop := fun _ => False
  ct : Gam → Prop := fun _ => False
structure EOk (W : Wd) (H : Hp) (D : Ends) (R : Po) : Prop where
  nx : ∀ σ' H' Γ', Ext W H H' → GOk W H' σ' Γ' → R.nx Γ' → D.nx σ' H'
  rt : ∀ v H' (t : Ty), Ext W H H' → t.den W H' v → R.rt t → D.rt v H'
  bk : ∀ σ' H' Γ', Ext W H H' → GOk W H' σ' Γ' → R.bk Γ' → D.bk σ' H'
  ct : ∀ σ' H' Γ', Ext W H H' → GOk W H' σ' Γ' → R.ct Γ' → D.ct σ' H'
theorem EOk.ext {W : Wd} {H H1 : Hp} {D : Ends} {R : Po} (h : EOk W H D R) (e : Ext W H H1) : EOk W H1 D R :=
  ⟨fun a b c d => h.nx a b c (e.trans d), fun a b c d => h.rt a b c (e.trans d), fun a b c d => h.bk a b c (e.trans d), fun a b c d => h.ct a b c (e.trans d)⟩
def Sx (W : Wd) (t : TS) (Γ : Gam) (R : Po) : Prop := ∀ D σ H, GOk W H σ Γ → EOk W H D R → t D σ H
section
variable {W : Wd} {Γ : Gam} {ta tb tc te : TE} {tt : TT} {t u : TS} {R : Po} {g : TG}
theorem tj_name {α : Type} {rα : Rep α} {i : Nat} {a : α} {k : Gam → Prop} (q : k (Γ.set i (some (T a)))) : Tj W [i] (gName i) Γ a k := fun σ H v Q E d c =>
  c _ _ (E.set i (t := T a) d) ⟨List.length_set, fun j hj => List.getElem?_set_ne (fun z => hj (by rw [z]; exact List.mem_singleton.mpr rfl))⟩ q
theorem tj_tup2 {α β : Type} {rα : Rep α} {rβ : Rep β} {K : PySem.W.Frag} {g1 g2 : TG} {j1 j2 : List Nat} {a : α × β} {k : Gam → Prop} (hK : W.B.K = K) (q : Tj W j1 g1 Γ a.1 fun Γ1 => Tj W j2 g2 Γ1 a.2 k) : Tj W (j1 ++ j2) (gTup K 2 (gCons g1 (gCons g2 gNil))) Γ a k := by
  subst hK
  refine fun σ H v Q E ⟨p, x, y, hv, s, d1, d2⟩ c => ⟨p, [x, y], hv, s.sq, rfl, ?_⟩
  refine ⟨x, [y], rfl, ?_⟩
  refine q σ H x _ E d1 fun σ1 Γ1 E1 m1 q1 => ?_
  exact ⟨y, [], rfl, q1 σ1 H y _ E1 d2 fun σ2 Γ2 E2 m2 q2 => ⟨rfl, c σ2 Γ2 E2 ⟨m2.1.trans m1.1, fun i hi => (m2.2 i fun z => hi (List.mem_append_right _ z)).trans (m1.2 i fun z => hi (List.mem_append_left _ z))⟩ q2⟩⟩
theorem tj_tup3 {α β γ : Type} {rα : Rep α} {rβ : Rep β} {rγ : Rep γ} {K : PySem.W.Frag} {g1 g2 g3 : TG} {j1 j2 j3 : List Nat} {a : T3 α β γ} {k : Gam → Prop} (hK : W.B.K = K) (q : Tj W j1 g1 Γ a.a fun Γ1 => Tj W j2 g2 Γ1 a.b fun Γ2 => Tj W j3 g3 Γ2 a.c k) : Tj W (j1 ++ (j2 ++ j3)) (gTup K 3 (gCons g1 (gCons g2 (gCons g3 gNil)))) Γ a k := by
  subst hK
  refine fun σ H v Q E ⟨p, x, y, z, hv, s, d1, d2, d3⟩ c => ⟨p, [x, y, z], hv, s.sq, rfl, ?_⟩
  refine ⟨x, [y, z], rfl, ?_⟩
  refine q σ H x _ E d1 fun σ1 Γ1 E1 m1 q1 => ⟨y, [z], rfl, ?_⟩
  refine q1 σ1 H y _ E1 d2 fun σ2 Γ2 E2 m2 q2 => ⟨z, [], rfl, ?_⟩
  exact q2 σ2 H z _ E2 d3 fun σ3 Γ3 E3 m3 q3 => ⟨rfl, c σ3 Γ3 E3 ⟨(m3.1.trans m2.1).trans m1.1, fun i hi => ((m3.2 i fun z => hi (List.mem_append_right _ (List.mem_append_right _ z))).trans (m2.2 i fun z => hi (List.mem_append_right _ (List.mem_append_left _ z)))).trans (m1.2 i fun z => hi (List.mem_append_left _ z))⟩ q3⟩
theorem tg_name {α : Type} {rα : Rep α} {i : Nat} {a : α} {k : Gam → Prop} (q : k (Γ.set i (some (T a)))) : Tg W (gName i) Γ a k := ⟨_, tj_name q⟩
theorem tg_of {α : Type} {rα : Rep α} {js : List Nat} {a : α} {k : Gam → Prop} (q : Tj W js g Γ a k) : Tg W g Γ a k := ⟨_, q⟩
theorem sx_seq (h : Sx W t Γ { R with nx := fun Γ' => Sx W u Γ' R }) : Sx W (tSeq t u) Γ R := fun D σ H E O =>
  h _ σ H E ⟨fun σ' H' Γ' e G q => q D σ' H' G (O.ext e), O.rt, O.bk, O.ct⟩
theorem sx_next (q : R.nx Γ) : Sx W tNext Γ R := fun D σ H E O => O.nx σ H Γ (Ext.refl E.ok) E q
theorem sx_break (q : R.bk Γ) : Sx W tBreak Γ R := fun D σ H E O => O.bk σ H Γ (Ext.refl E.ok) E q
theorem sx_cont (q : R.ct Γ) : Sx W tCont Γ R := fun D σ H E O => O.ct σ H Γ (Ext.refl E.ok) E q
theorem sx_asg {α : Type} {rα : Rep α} (h : EvK W te Γ fun a : α => Tg W g Γ a R.nx) : Sx W (tAsg te g) Γ R := fun D σ H E O =>
  h σ H _ E fun v H1 a e1 d ⟨_, h1⟩ => h1 σ H1 v _ (E.ext e1) d fun σ' Γ' G _ q => O.nx σ' H1 Γ' e1 G q
theorem sx_set {α : Type} {rα : Rep α} {i : Nat} (h : EvK W te Γ fun a : α => R.nx (Γ.set i (some (T a)))) : Sx W (tAsg te (gName i)) Γ R := sx_asg (h.imp fun a q => tg_name q)
theorem sx_drop {α : Type} {rα : Rep α} (h : EvK W te Γ fun _ : α => R.nx Γ) : Sx W (tDrop te) Γ R := fun D σ H E O =>
  h σ H _ E fun v H1 a e1 d q => O.nx σ H1 Γ e1 (E.ext e1) q
theorem sx_ret {α : Type} {rα : Rep α} (h : EvK W te Γ fun a : α => R.rt (T a)) : Sx W (tRet te) Γ R := fun D σ H E O =>
  h σ H _ E fun v H1 a e1 d q => O.rt v H1 (T a) e1 d q
theorem sx_retN (q : R.rt (T ())) : Sx W tRetN Γ R := fun D σ H E O => O.rt .non H (T ()) (Ext.refl E.ok) rfl q
theorem sx_if (h : EvT W tt Γ fun b => (b = true → Sx W t Γ R) ∧ (b = false → Sx W u Γ R)) : Sx W (tIfS tt t u) Γ R := fun D σ H E O =>
  h σ H _ E fun H1 b e1 ⟨h1, h2⟩ => by
    cases b with
    | true => exact h1 rfl D σ H1 (E.ext e1) (O.ext e1)
    | false => exact h2 rfl D σ H1 (E.ext e1) (O.ext e1)
/-- for x in a list -/
theorem sx_forL {α : Type} {rα : Rep α} {K : PySem.W.Frag} (hK : W.B.K = K) (h : EvK W te Γ fun as : List α => ∃ I : Nat → Gam → Prop, I 0 Γ ∧
      (∀ (i : Nat) (a : α) Γ', as[i]? = some a → I i Γ' → Tg W g Γ' a fun Γ1 => Sx W t Γ1 { R with nx := I (i + 1), ct := I (i + 1), bk := R.nx }) ∧ ∀ Γ', I as.length Γ' → R.nx Γ') : Sx W (tFor (iList K te) g t) Γ R := by
  subst hK
  refine fun D σ H E O => h σ H _ E fun v H1 as e1 ⟨p, vs, hv, hp, hd⟩ ⟨I, h0, hs, hl⟩ => ?_
  refine ⟨p, hv, ⟨vs, hp.sq⟩, for_list (K := W.B.K) (a := p) (xs := vs) (fun i σ' H' => Ext W H1 H' ∧ ∃ Γ', GOk W H' σ' Γ' ∧ I i Γ') ⟨Ext.refl e1.ok, Γ, E.ext e1, h0⟩ (fun i σ' H' _ ⟨e, _⟩ => (hp.mono e.keep).sq) ?_ ?_⟩
  · rintro i x σ' H' hx ⟨e, Γ', G, q⟩
    obtain ⟨a, ha, da⟩ := (hd.imp fun _ _ d => Rep.mono e.keep d).at hx
    obtain ⟨js, hj⟩ := hs i a Γ' ha q
    refine hj σ' H' x _ G da fun σ2 Γ2 G2 _ q2 => ?_
    exact q2 _ σ2 H' G2 ⟨fun σ3 H3 Γ3 e3 G3 q3 => ⟨e.trans e3, Γ3, G3, q3⟩, fun v3 H3 t3 e3 d3 q3 => O.rt v3 H3 t3 ((e1.trans e).trans e3) d3 q3,
      fun σ3 H3 Γ3 e3 G3 q3 => O.nx σ3 H3 Γ3 ((e1.trans e).trans e3) G3 q3, fun σ3 H3 Γ3 e3 G3 q3 => ⟨e.trans e3, Γ3, G3, q3⟩⟩
  · rintro σ' H' ⟨e, Γ', G, q⟩
    rw [hd.length] at q
    exact O.nx σ' H' Γ' (e1.trans e) G (hl Γ' q)
/-- for x in range(n) -/
theorem sx_forR {R : Po} (h : EvK W te Γ fun n : Int => (-(2 ^ 62) ≤ n ∧ n < 2 ^ 62) ∧ ∃ I : Nat → Gam → Prop, I 0 Γ ∧
      (∀ (i : Nat) Γ', i < n.toNat → I i Γ' → Tg W g Γ' (i : Int) fun Γ1 => Sx W t Γ1 { R with nx := I (i + 1), ct := I (i + 1), bk := R.nx }) ∧ ∀ Γ', I n.toNat Γ' → R.nx Γ') : Sx W (tFor (iRng1 (tCons te tNil)) g t) Γ R := by
  refine fun D σ H E O => h σ H _ E fun v H1 n e1 hv ⟨⟨b1, b2⟩, I, h0, hs, hl⟩ => ?_
  refine ⟨n, congrArg (fun x => [x]) hv, b1, b2, for_range (lo := 0) (n := n.toNat) (fun i σ' H' => Ext W H1 H' ∧ ∃ Γ', GOk W H' σ' Γ' ∧ I i Γ') ⟨Ext.refl e1.ok, Γ, E.ext e1, h0⟩ ?_ ?_⟩
  · rintro i σ' H' hi ⟨e, Γ', G, q⟩
    obtain ⟨js, hj⟩ := hs i Γ' hi q
    refine hj σ' H' _ _ G (by show V.int ((0 : Int) + i) = .int i; rw [Int.zero_add]) fun σ2 Γ2 G2 _ q2 => ?_
    exact q2 _ σ2 H' G2 ⟨fun σ3 H3 Γ3 e3 G3 q3 => ⟨e.trans e3, Γ3, G3, q3⟩, fun v3 H3 t3 e3 d3 q3 => O.rt v3 H3 t3 ((e1.trans e).trans e3) d3 q3,
      fun σ3 H3 Γ3 e3 G3 q3 => O.nx σ3 H3 Γ3 ((e1.trans e).trans e3) G3 q3, fun σ3 H3 Γ3 e3 G3 q3 => ⟨e.trans e3, Γ3, G3, q3⟩⟩
  · rintro σ' H' ⟨e, Γ', G, q⟩
    exact O.nx σ' H' Γ' (e1.trans e) G (hl Γ' q)
end

/-! ### comprehensions -/
theorem wipe_in {σ : St} {i : Nat} : ∀ {vs : List Nat}, i ∈ vs → i < σ.length → (wipe σ vs)[i]? = some none
  | j :: r, h, hl => by
    show ((wipe σ r).set j none)[i]? = some none
    by_cases e : j = i
    · subst e
      exact List.getElem?_set_self (by rw [wipe_length]; exact hl)
    · rw [List.getElem?_set_ne e]
      exact wipe_in ((List.mem_cons.mp h).resolve_left fun z => e z.symm) hl
theorem wipe_same {σ σ' : St} {vs js : List Nat} (h : Sm js (wipe σ vs) σ') (hs : ∀ j ∈ js, j ∈ vs) : wipe σ' vs = wipe σ vs := by
  have hl : σ'.length = σ.length := h.1.trans (wipe_length _ _)
  refine List.ext_getElem? fun i => ?_
  by_cases hi : i ∈ vs
  · by_cases hn : i < σ.length
    · rw [wipe_in hi hn, wipe_in hi (by rw [hl]; exact hn)]
    · rw [List.getElem?_eq_none (by rw [wipe_length, hl]; omega), List.getElem?_eq_none (by rw [wipe_length]; omega)]
  · rw [wipe_out hi, h.2 i fun z => hi (hs i z)]
section
variable {W : Wd} {Γ : Gam} {tl te : TE} {tt : TT} {g : TG}
/-- a turn of a comprehension: the item a; I holds of what is made so far -/
def LcTurn {α β : Type} [Rep α] [Rep β] (W : Wd) (g : TG) (tt : TT) (te : TE) (vs : List Nat) (Γ : Gam) (a : α) (no : Prop) (yes : β → Prop) : Prop :=
  ∃ js : List Nat, (js.all fun j => vs.contains j) = true ∧ Tj W js g (wipeE Γ vs) a fun Γ1 => EvT W tt Γ1 fun b => (b = true → EvK W te Γ1 yes) ∧ (b = false → no)
theorem lc_turn {α β : Type} {rα : Rep α} {rβ : Rep β} {vs : List Nat} {D : Addr} {H1 : Hp} {n : H1 D = none} {o1 : W.ok H1} {w1 : W.wish H1} {σ : St} {H' : Hp} {x : V} {a : α} {acc : List V} {bs : List β} {I : List β → Prop} {P : Hp → Prop}
    (t : LcTurn (W.plus D acc H1 n o1 w1) g tt te vs Γ a (I bs) fun y : β => I (bs ++ [y])) (G : GOk W H1 σ Γ) (e : Ext W H1 H') (hD : H' D = some (.lst acc)) (hb : Dl (den (W.toWc.plus D) H') acc bs) (da : den W H1 x a) (hz : acc.length < 100000)
    (fin : ∀ H2 acc2 bs2, Ext W H1 H2 → H2 D = some (.lst acc2) → Dl (den (W.toWc.plus D) H2) acc2 bs2 → acc2.length ≤ acc.length + 1 → I bs2 → P H2) :
    g x (wipe σ vs) H' fun σ2 H2 => wipe σ2 vs = wipe σ vs ∧ tt σ2 H2 fun b H3 => if b = true then te σ2 H3 fun y H4 => ∃ acc, H4 D = some (.lst acc) ∧ acc.length < sizeLine ∧ P (upd H4 D (.lst (acc ++ [y]))) else P H3 := by
  obtain ⟨js, hjs, t⟩ := t
  have nm : ¬ W.mu D := fresh_mu o1 n
  have kp : Kp (W.toWc.plus D) H1 H' := fun b o m z => e.keep b o (fun z => m (.inl z)) z
  have ok' : (W.plus D acc H1 n o1 w1).ok H' := ⟨e.ok, hD⟩
  have G' : GOk (W.plus D acc H1 n o1 w1) H' σ Γ := ⟨ok', fun b o m z => e.keep b o m z, fun i t h => by
    obtain ⟨v, h1, h2⟩ := G.at_ i t h
    exact ⟨v, h1, Ty.mono kp (t.r.grow D n h2)⟩, G.len⟩
  have back : ∀ H2, Ext (W.plus D acc H1 n o1 w1) H' H2 → Ext W H1 H2 := fun H2 e2 => ⟨fun b o m z => by
    have hb : b ≠ D := fun q => by subst q; rw [n] at z; cases z
    exact e2.keep b o (fun q => q.elim m hb) (e.keep b o m z), e2.ok.1⟩
  refine t (wipe σ vs) H' x _ (G'.wipe vs) (Rep.mono kp (Rep.grow D n da)) fun σ2 Γ2 G2 m2 q2 => ⟨?_, ?_⟩
  · exact wipe_same m2 fun j hj => by
      have := List.all_eq_true.mp hjs j hj
      simpa using this
  · refine q2 σ2 H' _ G2 fun H3 b e3 ⟨hy, hn⟩ => ?_
    have hD3 : H3 D = some (.lst acc) := e3.ok.2
    cases b with
    | false =>
      show P H3
      exact fin H3 acc bs (back H3 e3) hD3 (hb.imp fun _ _ d => Rep.mono e3.keep d) (Nat.le_succ _) (hn rfl)
    | true =>
      show te σ2 H3 _
      refine hy rfl σ2 H3 _ (G2.ext e3) fun y H4 b4 e4 d4 q4 => ?_
      have hD4 : H4 D = some (.lst acc) := e4.ok.2
      refine ⟨acc, hD4, Nat.lt_of_lt_of_le hz (by decide : 100000 ≤ sizeLine), ?_⟩
      have e5 := back H4 (e3.trans e4)
      have k5 : Kp (W.toWc.plus D) H4 (upd H4 D (.lst (acc ++ [y]))) := fun b o m z => by
        rw [upd_ne (fun q => m (.inr q))]
        exact z
      refine fin _ (acc ++ [y]) (bs ++ [b4]) ⟨fun b o m z => ?_, W.st _ _ _ e5.ok nm⟩ upd_same ?_ (by rw [List.length_append]; exact Nat.le_refl _) q4
      · rw [upd_ne (fun q => by subst q; rw [n] at z; cases z)]
        exact e5.keep b o m z
      · refine Dl.append (hb.imp fun _ _ d => Rep.mono k5 (Rep.mono (e3.trans e4).keep d)) (.cons (Rep.mono k5 d4) .nil)
/-- a new list: at p, not there before; its items do not lean on p -/
def EvF {β : Type} [Rep β] (W : Wd) (te : TE) (Γ : Gam) (k : List β → Prop) : Prop :=
  ∀ σ H (Q : VK), GOk W H σ Γ → (∀ p H' vs (bs : List β), H p = none → Ext W H H' → H' p = some (.lst vs) → Dl (den (W.toWc.plus p) H') vs bs → k bs → Q (.ref p) H') → te σ H Q
theorem fresh_back {W : Wd} {H H' : Hp} {p : Addr} (o : W.ok H') (e : Ext W H H') (h : H' p = none) : H p = none := by
  cases q : H p with
  | none => rfl
  | some u =>
    rw [e.keep p u (fresh_mu o h) q] at h
    cases h
theorem EvF.k {β : Type} {rβ : Rep β} {k : List β → Prop} (h : EvF W te Γ k) : EvK W te Γ k := fun σ H Q E c =>
  h σ H Q E fun p H' vs bs n e hp hb q => c (.ref p) H' bs e ⟨p, vs, rfl, Lq.new (fun m => by
    obtain ⟨o, z⟩ := W.live H p E.ok m
    rw [n] at z
    cases z) hp, hb.imp fun _ _ d => Rep.shrink p d⟩ q
/-- [te for g in a list if tt] -/
theorem evF_lc {α β : Type} {rα : Rep α} {rβ : Rep β} {K : PySem.W.Frag} {vs : List Nat} {k : List β → Prop} (hK : W.B.K = K)
    (h : EvK W tl Γ fun as : List α => as.length ≤ 100000 ∧ ∃ I : Nat → List β → Prop, I 0 [] ∧ (∀ W', Sub W W' → ∀ (i : Nat) (a : α) (bs : List β), as[i]? = some a → I i bs → LcTurn W' g tt te vs Γ a (I (i + 1) bs) fun y : β => I (i + 1) (bs ++ [y])) ∧ ∀ bs, I as.length bs → k bs) :
    EvF W (tLc (iList K tl) g tt te vs) Γ k := by
  subst hK
  refine fun σ H Q E c => h σ H _ E fun v H1 as e1 ⟨p, xs, hv, hp, hd⟩ ⟨hl, I, h0, hs, hf⟩ => ⟨p, hv, ⟨xs, hp.sq⟩, fun D n => ?_⟩
  have G1 := E.ext e1
  have eD : Ext W H1 (upd H1 D (.lst [])) := Ext.new e1.ok n
  refine lc_list (xs := xs) (fun i H' => Ext W H1 H' ∧ ∃ acc bs, H' D = some (.lst acc) ∧ Dl (den (W.toWc.plus D) H') acc bs ∧ acc.length ≤ i ∧ I i bs) ⟨eD, [], [], upd_same, .nil, Nat.le_refl _, h0⟩ (fun i H' _ ⟨e, _⟩ => (hp.mono e.keep).sq) ?_ ?_
  · rintro i x H' hx ⟨e, acc, bs, hD, hb, ha, q⟩
    obtain ⟨a, ea, da⟩ := hd.at hx
    have hil : i < as.length := (List.getElem?_eq_some_iff.mp ea).1
    exact lc_turn (I := I (i + 1)) (P := fun H' => Ext W H1 H' ∧ ∃ acc bs, H' D = some (.lst acc) ∧ Dl (den (W.toWc.plus D) H') acc bs ∧ acc.length ≤ i + 1 ∧ I (i + 1) bs) (hs _ (Sub.plus (n := n) (o1 := e1.ok) (w1 := G1.wish)) i a bs ea q) G1 e hD hb da (by omega) fun H2 acc2 bs2 e2 hD2 hb2 hl2 q2 => ⟨e2, acc2, bs2, hD2, hb2, by omega, q2⟩
  · rintro H' ⟨e, acc, bs, hD, hb, ha, q⟩
    rw [hd.length] at q
    exact c D H' acc bs (fresh_back e1.ok e1 n) (e1.trans e) hD hb (hf bs q)
theorem ev_lc {α β : Type} {rα : Rep α} {rβ : Rep β} {K : PySem.W.Frag} {vs : List Nat} {k : List β → Prop} (hK : W.B.K = K)
    (h : EvK W tl Γ fun as : List α => as.length ≤ 100000 ∧ ∃ I : Nat → List β → Prop, I 0 [] ∧ (∀ W', Sub W W' → ∀ (i : Nat) (a : α) (bs : List β), as[i]? = some a → I i bs → LcTurn W' g tt te vs Γ a (I (i + 1) bs) fun y : β => I (i + 1) (bs ++ [y])) ∧ ∀ bs, I as.length bs → k bs) :
    EvK W (tLc (iList K tl) g tt te vs) Γ k := (evF_lc hK h).k
/-- [te for g in range(n) if tt] -/
theorem evF_lcR {β : Type} {rβ : Rep β} {vs : List Nat} {k : List β → Prop}
    (h : EvK W tl Γ fun m : Int => m ≤ 100000 ∧ -100000 ≤ m ∧ ∃ I : Nat → List β → Prop, I 0 [] ∧ (∀ W', Sub W W' → ∀ (i : Nat) (bs : List β), i < m.toNat → I i bs → LcTurn W' g tt te vs Γ (i : Int) (I (i + 1) bs) fun y : β => I (i + 1) (bs ++ [y])) ∧ ∀ bs, I m.toNat bs → k bs) :
    EvF W (tLc (iRng1 (tCons tl tNil)) g tt te vs) Γ k := by
  refine fun σ H Q E c => h σ H _ E fun v H1 m e1 hv ⟨hl, hl2, I, h0, hs, hf⟩ => ⟨m, congrArg (fun x => [x]) hv, by omega, by omega, fun D n => ?_⟩
  have G1 := E.ext e1
  have eD : Ext W H1 (upd H1 D (.lst [])) := Ext.new e1.ok n
  refine lc_range (lo := 0) (n := m.toNat) (fun i H' => Ext W H1 H' ∧ ∃ acc bs, H' D = some (.lst acc) ∧ Dl (den (W.toWc.plus D) H') acc bs ∧ acc.length ≤ i ∧ I i bs) ⟨eD, [], [], upd_same, .nil, Nat.le_refl _, h0⟩ ?_ ?_
  · rintro i H' hi ⟨e, acc, bs, hD, hb, ha, q⟩
    exact lc_turn (I := I (i + 1)) (P := fun H' => Ext W H1 H' ∧ ∃ acc bs, H' D = some (.lst acc) ∧ Dl (den (W.toWc.plus D) H') acc bs ∧ acc.length ≤ i + 1 ∧ I (i + 1) bs) (hs _ (Sub.plus (n := n) (o1 := e1.ok) (w1 := G1.wish)) i bs hi q) G1 e hD hb (by show V.int ((0 : Int) + i) = .int i; rw [Int.zero_add]) (by omega) fun H2 acc2 bs2 e2 hD2 hb2 hl2 q2 => ⟨e2, acc2, bs2, hD2, hb2, by omega, q2⟩
  · rintro H' ⟨e, acc, bs, hD, hb, ha, q⟩
    exact c D H' acc bs (fresh_back e1.ok e1 n) (e1.trans e) hD hb (hf bs q)
theorem ev_lcR {β : Type} {rβ : Rep β} {vs : List Nat} {k : List β → Prop}
    (h : EvK W tl Γ fun m : Int => m ≤ 100000 ∧ -100000 ≤ m ∧ ∃ I : Nat → List β → Prop, I 0 [] ∧ (∀ W', Sub W W' → ∀ (i : Nat) (bs : List β), i < m.toNat → I i bs → LcTurn W' g tt te vs Γ (i : Int) (I (i + 1) bs) fun y : β => I (i + 1) (bs ++ [y])) ∧ ∀ bs, I m.toNat bs → k bs) :
    EvK W (tLc (iRng1 (tCons tl tNil)) g tt te vs) Γ k := (evF_lcR h).k
/-- a pure one -/
theorem ev_lcF {α β : Type} [rα : Rep α] [rβ : Rep β] {K : PySem.W.Frag} {vs : List Nat} {k : List β → Prop} (p : α → Bool) (f : α → β) (hK : W.B.K = K)
    (h : EvK W tl Γ fun as : List α => as.length ≤ 100000 ∧ (∀ W', Sub W W' → ∀ a ∈ as, LcTurn W' g tt te vs Γ a (p a = false) fun y : β => p a = true ∧ y = f a) ∧ k ((as.filter p).map f)) :
    EvK W (tLc (iList K tl) g tt te vs) Γ k := ev_lc hK (h.imp fun as ⟨hl, hs, q⟩ => ⟨hl, fun i bs => bs = ((as.take i).filter p).map f, by simp, fun W' s i a bs ha e => by
  have ht : as.take (i + 1) = as.take i ++ [a] := by
    rw [List.take_succ, ha]; rfl
  obtain ⟨js, h1, h2⟩ := hs W' s a (List.mem_of_getElem? ha)
  refine ⟨js, h1, fun σ H v Q E d c => h2 σ H v Q E d fun σ' Γ' G m q2 => c σ' Γ' G m ?_⟩
  intro σ2 H2 Q2 E2 c2
  refine q2 σ2 H2 Q2 E2 fun H3 b e3 ⟨hy, hn⟩ => c2 H3 b e3 ⟨fun hb => (hy hb).imp fun y ⟨hp, hyf⟩ => ?_, fun hb => ?_⟩
  · have e' : bs = ((as.take i).filter p).map f := e
    show bs ++ [y] = ((as.take (i + 1)).filter p).map f
    rw [ht, List.filter_append, List.map_append, ← e', List.filter_cons_of_pos hp, hyf]; rfl
  · have e' : bs = ((as.take i).filter p).map f := e
    show bs = ((as.take (i + 1)).filter p).map f
    rw [ht, List.filter_append, List.map_append, ← e', List.filter_cons_of_neg (by rw [hn hb]; exact Bool.false_ne_true)]; simp, fun bs e => by rw [e, List.take_length]; exact q⟩)
end

/-! ### defs: promises over plain data -/
/-- what a field of an error may hold -/
inductive Fv where
  | i (n : Int) | s (x : Str) | p (a b : Int) | l (xs : List Str) | no
def Fv.den (W : Wc) (H : Hp) (v : V) : Fv → Prop
  | .i n => Rep.dn W H v n
  | .s x => Rep.dn W H v x
  | .p a b => Rep.dn W H v (a, b)
  | .l xs => Rep.dn W H v xs
  | .no => v = .non
theorem Fv.mono {W : Wc} {H H' : Hp} {v : V} (e : Kp W H H') : ∀ {f : Fv}, f.den W H v → f.den W H' v
  | .i _, h => h
  | .s _, h => h
  | .p a b, h => Rep.mono (a := (a, b)) e h
  | .l xs, h => Rep.mono (a := xs) e h
  | .no, h => h
theorem Fv.grow {W : Wc} {H : Hp} {v : V} (D : Addr) (n : H D = none) : ∀ {f : Fv}, f.den W H v → f.den (W.plus D) H v
  | .i _, h => h
  | .s _, h => h
  | .p a b, h => Rep.grow (a := (a, b)) D n h
  | .l xs, h => Rep.grow (a := xs) D n h
  | .no, h => h
theorem Fv.shrink {W : Wc} {H : Hp} {v : V} (D : Addr) : ∀ {f : Fv}, f.den (W.plus D) H v → f.den W H v
  | .i _, h => h
  | .s _, h => h
  | .p a b, h => Rep.shrink (a := (a, b)) D h
  | .l xs, h => Rep.shrink (a := xs) D h
  | .no, h => h
/-- an error that leaves: its class by name, its fields -/
structure Xn where
  c : Cn
  fs : List (Str × Fv)
inductive DF (W : Wc) (H : Hp) : List (Str × V) → List (Str × Fv) → Prop
  | nil : DF W H [] []
  | cons {x : Str} {v : V} {t : Fv} {vs : List (Str × V)} {ts : List (Str × Fv)} : t.den W H v → DF W H vs ts → DF W H ((x, v) :: vs) ((x, t) :: ts)
theorem DF.imp {W W' : Wc} {H H' : Hp} (h : ∀ (v : V) (f : Fv), f.den W H v → f.den W' H' v) : ∀ {vs : List (Str × V)} {ts : List (Str × Fv)}, DF W H vs ts → DF W' H' vs ts
  | _, _, .nil => .nil
  | _, _, .cons x y => .cons (h _ _ x) (y.imp h)
theorem DF.at {W : Wc} {H : Hp} {f : Str} {t : Fv} : ∀ {vs : List (Str × V)} {ts : List (Str × Fv)}, DF W H vs ts → ts.lookup f = some t → ∃ v, vs.lookup f = some v ∧ t.den W H v
  | _, _, .nil, h => by cases h
  | _, _, .cons (x := x) (v := v) d r, h => by
    rw [List.lookup_cons] at h ⊢
    cases q : (f == x) with
    | true =>
      rw [q] at h
      cases h
      exact ⟨v, rfl, d⟩
    | false =>
      rw [q] at h
      exact DF.at r h
def xden (W : Wc) (H : Hp) (d : Option Addr) (fs : List (Str × Fv)) : Prop := (fs = [] ∧ d = none) ∨ ∃ dd vs, d = some dd ∧ ¬ W.mu dd ∧ H dd = some (.xd vs) ∧ DF W H vs fs
/-- an error in hand -/
structure Er where
  a : Addr
  d : Option Addr
  n : Xn
instance : Rep Er where
  dn := fun W H v e => v = .ref e.a ∧ xden W H e.d e.n.fs
  mono := fun k h => ⟨h.1, h.2.imp (fun h => h) fun ⟨dd, vs, h1, h2, h3, h4⟩ => ⟨dd, vs, h1, h2, k _ _ h2 h3, h4.imp fun _ _ z => Fv.mono k z⟩⟩
  grow := fun D n h => ⟨h.1, h.2.imp (fun h => h) fun ⟨dd, vs, h1, h2, h3, h4⟩ => ⟨dd, vs, h1, mu_grow n h2 h3, h3, h4.imp fun _ _ z => Fv.grow D n z⟩⟩
  shrink := fun D h => ⟨h.1, h.2.imp (fun h => h) fun ⟨dd, vs, h1, h2, h3, h4⟩ => ⟨dd, vs, h1, fun z => h2 (.inl z), h3, h4.imp fun _ _ z => Fv.shrink D z⟩⟩
def XOk (W : Wd) (H : Hp) (E : XK) (x : Xn → Prop) : Prop := ∀ n d H', Ext W H H' → xden W H' d n.fs → x n → E (.ref (W.B.cl n.c)) d H'
/-- P rt x ts: from the arguments ts to what is wished of the answer and of an error -/
abbrev PT := (Ty → Prop) → (Xn → Prop) → List Ty → Prop
def spG (B : Bs) (P : PT) : Sp := fun vs H Q E => ∃ (W : Wd) (ts : List Ty) (rt : Ty → Prop) (x : Xn → Prop), W.B = B ∧ W.ok H ∧ DT W H vs ts ∧ P rt x ts ∧ (∀ v H' (t : Ty), Ext W H H' → t.den W H' v → rt t → Q v H') ∧ XOk W H E x
def Wd.wth (W : Wd) (E : XK) (x : Xn → Prop) : Wd where
  toWc := W.toWc
  ok := W.ok
  live := W.live
  st := W.st
  wish := fun H => XOk W H E x
  wst := fun H H' k o w n d H2 e => w n d H2 ⟨fun a u m z => e.keep a u m (k a u m z), e.ok⟩
  hasbox := W.hasbox
  boxset := W.boxset
  boxmu := W.boxmu
  oke := W.oke
theorem Ext.wth {W : Wd} {E : XK} {x : Xn → Prop} {H H' : Hp} (e : Ext (W.wth E x) H H') : Ext W H H' := ⟨e.keep, e.ok⟩
theorem Ext.unwth {W : Wd} {E : XK} {x : Xn → Prop} {H H' : Hp} (e : Ext W H H') : Ext (W.wth E x) H H' := ⟨e.keep, e.ok⟩
theorem start_ok {W : Wd} {H : Hp} {vs : List V} {ts : List Ty} {N : List Str} (h : W.ok H) (w : W.wish H) (d : DT W H vs ts) : GOk W H (L2.start N vs) (ts.map some ++ List.replicate (N.length - ts.length) none) := by
  refine ⟨h, w, fun i t e => ?_, by unfold L2.start; rw [List.length_append, List.length_append, List.length_map, List.length_map, List.length_replicate, List.length_replicate, d.length]⟩
  have aux : ∀ {vs : List V} {ts : List Ty} {i : Nat} {m : Nat}, DT W H vs ts → (ts.map some ++ List.replicate m none)[i]? = some (some t) → ∃ v, vs[i]? = some v ∧ t.den W H v := by
    intro vs ts i m d
    induction d generalizing i with
    | nil =>
      intro e
      rw [List.map_nil, List.nil_append] at e
      have := List.mem_of_getElem? e
      rw [List.mem_replicate] at this
      cases this.2
    | cons x _ ih =>
      intro e
      cases i with
      | zero =>
        have : some _ = some (some t) := e
        cases this
        exact ⟨_, rfl, x⟩
      | succ i =>
        obtain ⟨v, h1, h2⟩ := ih (i := i) (by simpa using e)
        exact ⟨v, by simpa using h1, h2⟩
  obtain ⟨v, h1, h2⟩ := aux d e
  refine ⟨v, ?_, h2⟩
  unfold L2.start
  have hl : i < vs.length := (List.getElem?_eq_some_iff.mp h1).1
  rw [List.getElem?_append_left (by rw [List.length_map]; exact hl), List.getElem?_map, h1]
  rfl
/-- the body of a def keeps its promise -/
theorem body_ok {B : Bs} {P : PT} {t : TS} {N : List Str} {vs : List V} {H : Hp} {Q : VK} {E : XK}
    (hb : ∀ (W : Wd) ts rt x, W.B = B → W.ok H → (∀ H', W.ok H' → W.wish H' → XOk W H' E x) → P rt x ts → Sx W t (ts.map some ++ List.replicate (N.length - ts.length) none) { nx := fun _ => rt (T ()), rt := rt })
    (h : spG B P vs H Q E) : t { nx := fun _ H' => Q .non H', rt := Q } (L2.start N vs) H := by
  obtain ⟨W, ts, rt, x, hB, ho, d, hp, hq, hx⟩ := h
  refine hb (W.wth E x) ts rt x hB ho (fun H' _ w n d2 H2 e z q => w n d2 H2 e.wth z q) hp _ _ H (start_ok ho hx d) ⟨fun σ' H' Γ' e G q => hq .non H' (T ()) e.wth rfl q, fun v H' t e z q => hq v H' t e.wth z q, fun _ _ _ _ _ q => q.elim, fun _ _ _ _ _ q => q.elim⟩
theorem len_ok {B : Bs} {P : PT} {n : Nat} (hn : ∀ rt x ts, P rt x ts → ts.length = n) : ∀ vs H Q E, spG B P vs H Q E → vs.length = n := fun vs H Q E ⟨W, ts, rt, x, _, _, d, hp, _⟩ => d.length.trans (hn rt x ts hp)
section
variable {W : Wd} {Γ : Gam} {ta : TA} {to : TE}
/-- a call that raises nothing -/
theorem ev_call {α : Type} {rα : Rep α} {B : Bs} {P : PT} {E : XK} {k : α → Prop} (hB : W.B = B) (h : EvA W ta Γ fun ts => P (fun t => ∃ a : α, t = T a ∧ k a) (fun _ => False) ts) : EvK W (tCall (spG B P) [] E ta) Γ k := fun σ H Q G c =>
  h σ H _ G fun vs H1 ts e1 d z => ⟨W, ts, _, _, hB, e1.ok, by rw [List.append_nil]; exact d, z, fun v H2 t e2 dt ⟨a, ea, q⟩ => by
    subst ea
    exact c v H2 a (e1.trans e2) dt q, fun n d2 H2 _ _ q => q.elim⟩
/-- .. that may raise what is wished for -/
theorem ev_callX {α : Type} {rα : Rep α} {B : Bs} {P : PT} {E : XK} {x : Xn → Prop} {k : α → Prop} (hB : W.B = B) (hx : ∀ H', W.ok H' → W.wish H' → XOk W H' E x) (h : EvA W ta Γ fun ts => P (fun t => ∃ a : α, t = T a ∧ k a) x ts) : EvK W (tCall (spG B P) [] E ta) Γ k := fun σ H Q G c =>
  h σ H _ G fun vs H1 ts e1 d z => ⟨W, ts, _, x, hB, e1.ok, by rw [List.append_nil]; exact d, z, fun v H2 t e2 dt ⟨a, ea, q⟩ => by
    subst ea
    exact c v H2 a (e1.trans e2) dt q, hx H1 e1.ok (W.wst _ _ e1.keep e1.ok G.wish)⟩
end

end G
set_option Elab.async false
set_option linter.all false
set_option maxRecDepth 100000
set_option maxHeartbeats 2000000
namespace G
open PySem PySem.Spec PyProof.Rows L2 StX

/-! ### rules of the hand layer that were missing -/
section
variable {X : Cx} {CX : CXT} {k n : Nat} {f g C : Addr} {sp : Sp} {E : XK} {x : Str} {e : Expr} {es : List Expr} {t : TA} {p pos : Pos}
def tCallR (sp : Sp) (E : XK) (t : TA) : TE := fun σ H Q => t σ H fun vs H1 => sp vs H1 Q E
/-- f(e, ..) by a promise of values -/
theorem pe_callR (F : FnR X.prog X.w X.K X.mg X.base CX k f sp) (hr : Room k X.A) (hg : Gl X x) (hm : X.mg x = some (.ref f)) (hk : PySem.W.keepIn X.K (.ref f) = true) (hx : Passes CX X E)
    (ha : PA X (e :: es) t) (hdb : (x == ("__debug__" : Str)) = false := by decide) (he : starEach (e :: es) X.env = (false, eval e X.env) :: starEach es X.env := by rfl) (hpl : (backTo pos (starEach es X.env)).any (·.1) = false := by rfl) :
    PE X (.Call (.Name x p) (e :: es) [] pos) (tCallR sp E t) := by
  refine ⟨fun pins s σ H Q I h => ?_⟩
  refine wpAny_Call_Name_kw (ld_glob I hg hm ?_ hdb)
  refine PySem.W.callWith_K (h₀ := X.base) I.ok.mod.kin hk (thn (ha.run pos pins s σ H _ I h) fun us s1 ⟨vs, H1, I1, r, q⟩ => ⟨I1.kIn, ?_⟩) he hpl
  exact wpAny_call (run_fnR F hr hx I1 r q)
/-! the written part by name -/
theorem ix_listK (K : PySem.W.Frag) (h : X.K = K := by rfl) : IxR X (rIxL K) := by subst h; exact ix_list
theorem ix_tupK (K : PySem.W.Frag) (h : X.K = K := by rfl) : IxR X (rIxT K) := by subst h; exact ix_tup
theorem op_eqDK (K : PySem.W.Frag) (hu : X.A.units + 64 < cLine) (h : X.K = K := by rfl) : OpR X (compareOp .Eq) (rEqD K) := by subst h; exact op_eqD hu
theorem op_neDK (K : PySem.W.Frag) (hu : X.A.units + 64 < cLine) (h : X.K = K := by rfl) : OpR X (compareOp .NotEq) (rNeD K) := by subst h; exact op_neD hu
theorem op_inSeqK (K : PySem.W.Frag) (h : X.K = K := by rfl) : OpR X (compareOp .In) (rIn K false) := by subst h; exact op_in_seq
theorem op_notInSeqK (K : PySem.W.Frag) (h : X.K = K := by rfl) : OpR X (compareOp .NotIn) (rIn K true) := by subst h; exact op_notIn_seq
theorem call_lenK (K : PySem.W.Frag) (h : X.K = K := by rfl) : CallR X (.builtin "len") (fun xs H Q => ∃ p ys, xs = [.ref p] ∧ (SqL K H p ys ∨ SqT K H p ys) ∧ Q (.int ys.length) H) := by subst h; exact call_len_seq
theorem call_isiKK (K : PySem.W.Frag) (h : X.K = K := by rfl) : CallR X (.builtin "isinstance") (rIsi K) := by subst h; exact call_isi
theorem sl_listK (K : PySem.W.Frag) (h : X.K = K := by rfl) : SlR X (rSlL K) := by subst h; exact sl_list
theorem pe_fldK (K : PySem.W.Frag) {o : Expr} {fl : Str} {ta : TE} (he : PE X o ta) (hb : attributeBase o fl X.env (eval o X.env) = eval o X.env) (h : X.K = K := by rfl) : PE X (.Attribute o fl pos) (tFld K ta fl) := by subst h; exact pe_fld he hb
theorem pi_listK (K : PySem.W.Frag) {tg l : Expr} {tl : TE} (he : PE X l tl) (h : X.K = K := by rfl) : PI X tg l (iList K tl) := by subst h; exact pi_list he
theorem pi_tupK (K : PySem.W.Frag) {tg l : Expr} {tl : TE} (he : PE X l tl) (h : X.K = K := by rfl) : PI X tg l (iTup K tl) := by subst h; exact pi_tup he
theorem pg_tupK (K : PySem.W.Frag) {n : Nat} {u : TGs} {k : Nat} (hc : X.calm = true) (hs : PGs X es u) (hn : (assignEach es X.env).length = n := by rfl) (hst : (assignEach es X.env).findIdx? (·.1) = none := by rfl) (h : X.K = K := by rfl) : PG X (.Tuple es k pos) (gTup K n u) := by subst h; exact pg_tup hc hs hn hst
theorem pt_truthK (K : PySem.W.Frag) {a : Expr} {ta : TE} (ha : PE X a ta) (he : ∀ whole, isTrue a X.env whole = (do let v ← whole; standAt a.pos; holding [v] (truthy v))) (h : X.K = K := by rfl) :
    L2.PT X a (fun σ H Q => ta σ H fun x H' => ∃ k, TruV K x H' k ∧ Q k H') := by subst h; exact pt_truth ha he
theorem inst_of {pins : List (Addr × Obj)} {σ : L2.St} {H : Hp} {s : Shared} {a dx : Addr} {fs : List (Str × V)} (I : Inv X pins σ H s) (ea : H a = some (.ins C dx fs)) : ∃ od, PySem.W.InstAt s.heap a (PySem.W.instObj C dx) C (some od) := by
  obtain ⟨mA, O, _⟩ := ins_get I.hok ea
  obtain ⟨od, J, _⟩ := O.look
  exact ⟨od, J⟩
/-- x in o, o of a class with its own __contains__ -/
def rInOwn (C : Addr) (sp : Sp) (E : XK) : R2 := fun x y H Q => ∃ a dx fs, y = .ref a ∧ H a = some (.ins C dx fs) ∧ sp [y, x] H (fun v H' => ∃ b, v = .bl b ∧ Q (.bl b) H') E
def rNotInOwn (C : Addr) (sp : Sp) (E : XK) : R2 := fun x y H Q => ∃ a dx fs, y = .ref a ∧ H a = some (.ins C dx fs) ∧ sp [y, x] H (fun v H' => ∃ b, v = .bl b ∧ Q (.bl (!b)) H') E
theorem op_inOwn (m : Meth X.K C "__contains__" g) (F : FnR X.prog X.w X.K X.mg X.base CX n g sp) (hr : Room n X.A) (hx : Passes CX X E) : OpR X (compareOp .In) (rInOwn C sp E) := by
  intro pins s σ H x y v u Q I rx ry h
  obtain ⟨a, dx, fs, rfl, ea, q⟩ := h
  cases (show u = Value.ref a from ry)
  obtain ⟨od, J⟩ := inst_of I ea
  obtain ⟨m', hF⟩ := I.fr
  refine PySem.W.in_K hF I.ok.mod.kin J m.at_ m.fn ?_
  refine wpAny_mono (wpAny_call (run_fnR (us := [.ref a, v]) (vs := [.ref a, x]) F hr hx I (.cons rfl (.cons rx .nil)) q)) (fun w s' z => ?_) fun _ _ x => x
  obtain ⟨z', H', I', rz, b, eb, qz⟩ := z
  subst eb
  cases rz
  exact wpAny_truthy_bool ⟨.bl b, H', I', rfl, qz⟩
theorem op_notInOwn (m : Meth X.K C "__contains__" g) (F : FnR X.prog X.w X.K X.mg X.base CX n g sp) (hr : Room n X.A) (hx : Passes CX X E) : OpR X (compareOp .NotIn) (rNotInOwn C sp E) := by
  intro pins s σ H x y v u Q I rx ry h
  obtain ⟨a, dx, fs, rfl, ea, q⟩ := h
  cases (show u = Value.ref a from ry)
  obtain ⟨od, J⟩ := inst_of I ea
  obtain ⟨m', hF⟩ := I.fr
  refine PySem.W.notIn_K hF I.ok.mod.kin J m.at_ m.fn ?_
  refine wpAny_mono (wpAny_call (run_fnR (us := [.ref a, v]) (vs := [.ref a, x]) F hr hx I (.cons rfl (.cons rx .nil)) q)) (fun w s' z => ?_) fun _ _ x => x
  obtain ⟨z', H', I', rz, b, eb, qz⟩ := z
  subst eb
  cases rz
  exact wpAny_truthy_bool ⟨.bl (!b), H', I', rfl, qz⟩
/-- o op p, both of one class with its own def for op -/
def rBinOwn (C : Addr) (sp : Sp) (E : XK) : R2 := fun x y H Q => ∃ a dx fs b dy gs, x = .ref a ∧ H a = some (.ins C dx fs) ∧ y = .ref b ∧ H b = some (.ins C dy gs) ∧ sp [x, y] H (fun v H' => (∃ c, v = .ref c ∨ ∃ c, v = .bl c) ∧ Q v H') E
end

/-! ### over plain data -/
section
variable {W : Wd} {Γ : Gam} {ta : TA} {te tb to : TE}
theorem ev_callR {α : Type} {rα : Rep α} {B : Bs} {P : PT} {E : XK} {k : α → Prop} (hB : W.B = B) (h : EvA W ta Γ fun ts => P (fun t => ∃ a : α, t = T a ∧ k a) (fun _ => False) ts) : EvK W (tCallR (spG B P) E ta) Γ k := fun σ H Q G c =>
  h σ H _ G fun vs H1 ts e1 d z => ⟨W, ts, _, _, hB, e1.ok, d, z, fun v H2 t e2 dt ⟨a, ea, q⟩ => by
    subst ea
    exact c v H2 a (e1.trans e2) dt q, fun n d2 H2 _ _ q => q.elim⟩
theorem ev_callRX {α : Type} {rα : Rep α} {B : Bs} {P : PT} {E : XK} {x : Xn → Prop} {k : α → Prop} (hB : W.B = B) (hx : ∀ H', W.ok H' → W.wish H' → XOk W H' E x) (h : EvA W ta Γ fun ts => P (fun t => ∃ a : α, t = T a ∧ k a) x ts) : EvK W (tCallR (spG B P) E ta) Γ k := fun σ H Q G c =>
  h σ H _ G fun vs H1 ts e1 d z => ⟨W, ts, _, x, hB, e1.ok, d, z, fun v H2 t e2 dt ⟨a, ea, q⟩ => by
    subst ea
    exact c v H2 a (e1.trans e2) dt q, hx H1 e1.ok (W.wst _ _ e1.keep e1.ok G.wish)⟩
/-- data that is an instance of the class named c -/
class Ins (β : Type) [Rep β] (c : outParam Cn) (fl : outParam (List Str)) : Prop where
  at_ : ∀ {W : Wc} {H : Hp} {v : V} {b : β}, den W H v b → ∃ a dx fs, v = .ref a ∧ ¬ W.mu a ∧ H a = some (.ins (W.B.cl c) dx fs) ∧ fs.map (·.1) = fl
/-- the class of such data is at C -/
def OwnG (β : Type) [Rep β] (B : Bs) (C : Addr) (G : Prop) : Prop := ∃ c fl, Ins β c fl ∧ B.cl c = C ∧ G
theorem own_in {β : Type} [Rep β] {c : Cn} {fl : List Str} [i : Ins β c fl] {B : Bs} {C : Addr} {G : Prop} (hC : B.cl c = C) (h : G) : OwnG β B C G := ⟨c, fl, i, hC, h⟩
theorem ev_inOwn {α β : Type} {rα : Rep α} {rβ : Rep β} {C : Addr} {B : Bs} {P : PT} {E : XK} {k : Bool → Prop} (hB : W.B = B)
    (h : EvK W te Γ fun a : α => EvK W tb Γ fun s : β => OwnG β B C (P (fun t => ∃ b : Bool, t = T b ∧ k b) (fun _ => False) [T s, T a])) : EvK W (tOp (rInOwn C (spG B P) E) te tb) Γ k := by
  subst hB
  refine ev_two (h.imp fun a ha => ha.imp fun s ⟨c, fl, iβ, hC, hp⟩ x y H Q o dx dy q => ?_)
  subst hC
  obtain ⟨p, dp, fs, hv, _, hH, _⟩ := iβ.at_ dy
  exact ⟨p, dp, fs, hv, hH, W, _, _, _, rfl, o, .cons (t := T s) dy (.cons (t := T a) dx .nil), hp, fun v H2 t e2 dt ⟨b, eb, kb⟩ => by
    subst eb
    exact ⟨b, dt, q _ H2 b e2 rfl kb⟩, fun n d2 H2 _ _ z => z.elim⟩

/-- what == of plain data asks: that it is data -/
def EqG {α : Type} [Rep α] (a b : α) (k : Bool → Prop) : Prop := ∃ (d : Dat α) (_ : DecidableEq α), Dat.dep α ≤ 64 ∧ (Dat.good a ∧ Dat.good b) ∧ k (decide (a = b))
theorem eqg_in {α : Type} [Rep α] [Dat α] [DecidableEq α] {a b : α} {k : Bool → Prop} (h1 : Dat.dep α ≤ 64) (h2 : Dat.good a) (h3 : Dat.good b) (h : k (decide (a = b))) : EqG a b k := ⟨inferInstance, inferInstance, h1, ⟨h2, h3⟩, h⟩
def NeG {α : Type} [Rep α] (a b : α) (k : Bool → Prop) : Prop := EqG a b fun x => k (!x)
theorem neg_in {α : Type} [Rep α] [Dat α] [DecidableEq α] {a b : α} {k : Bool → Prop} (h1 : Dat.dep α ≤ 64) (h2 : Dat.good a) (h3 : Dat.good b) (h : k (!decide (a = b))) : NeG a b k := eqg_in h1 h2 h3 h
theorem ev_eqG {α : Type} {rα : Rep α} {K : PySem.W.Frag} {k : Bool → Prop} (hK : W.B.K = K) (h : EvK W te Γ fun a : α => EvK W tb Γ fun b : α => EqG a b k) : EvK W (tOp (rEqD K) te tb) Γ k := by
  subst hK
  exact ev_two (h.imp fun a ha => ha.imp fun b ⟨d, q, h1, h2, h3⟩ x y H Q o dx dy c => ⟨_, _, Dat.dp dx, Dat.dp dy, shaped_of h2.1 h1, shaped_of h2.2 h1, c _ H _ (Ext.refl o) rfl (by rw [eqv_dec]; exact h3)⟩)
theorem ev_neG {α : Type} {rα : Rep α} {K : PySem.W.Frag} {k : Bool → Prop} (hK : W.B.K = K) (h : EvK W te Γ fun a : α => EvK W tb Γ fun b : α => NeG a b k) : EvK W (tOp (rNeD K) te tb) Γ k := by
  subst hK
  exact ev_two (h.imp fun a ha => ha.imp fun b ⟨d, q, h1, h2, h3⟩ x y H Q o dx dy c => ⟨_, _, Dat.dp dx, Dat.dp dy, shaped_of h2.1 h1, shaped_of h2.2 h1, c _ H _ (Ext.refl o) rfl (by rw [eqv_dec]; exact h3)⟩)
theorem ev_pow {n m : Int} {k : Int → Prop} (hc : CPow n m) (h : k (n ^ m.toNat)) : EvK W (tOp (rI CPow fun i j => .int (i ^ j.toNat)) (tC (.int n)) (tC (.int m))) Γ k :=
  ev_opC (ev_int (ev_int ⟨hc, h⟩))
theorem ev_one {k : Bool → Prop} (h : EvK W te Γ k) : EvK W te Γ k := h
/-- isinstance of plain data -/
class PyTy (α : Type) [Rep α] (ty : String) : Prop where
  at_ : ∀ {W : Wc} {H : Hp} {v : V} {a : α}, den W H v a → TyX W.B.K H v (.type ty)
instance : PyTy Int "int" := ⟨fun h => by cases h; exact .base (.int _)⟩
instance : PyTy Bool "bool" := ⟨fun h => by cases h; exact .base (.bl _)⟩
instance : PyTy Str "str" := ⟨fun h => by cases h; exact .base (.str _)⟩
theorem ev_isi {α : Type} {rα : Rep α} {K : PySem.W.Frag} {ty n : String} {b : Bool} {k : Bool → Prop} (hK : W.B.K = K) (i : PyTy α ty) (hb : PySem.W.kitOne K (.type ty) (.type n) = some b) (h : EvK W te Γ fun _ : α => k b) :
    EvK W (tCB (rIsi K) (tCons te (tCons (tC (.ty n)) tNil))) Γ k := by
  subst hK
  exact fun σ H Q E c => h σ H _ E fun v H1 a e1 d z => ⟨v, .ty n, _, _, b, rfl, .ty n, i.at_ d, hb, c _ H1 b e1 rfl z⟩
/-! ### stretches -/
structure Stc where
  lo : Int
  hi : Int
  deriving DecidableEq
def stcF (lo hi : Int) : List (Str × V) := [("low", .int lo), ("high", .int hi)]
instance : Rep Stc :=
  ⟨fun W H v s => ∃ a dx, v = .ref a ∧ ¬ W.mu a ∧ H a = some (.ins (W.B.cl .Stretch) dx (stcF s.lo s.hi)),
   fun e ⟨a, dx, hv, m, h⟩ => ⟨a, dx, hv, m, e _ _ m h⟩,
   fun D n ⟨a, dx, hv, m, h⟩ => ⟨a, dx, hv, mu_grow n m h, h⟩,
   fun D ⟨a, dx, hv, m, h⟩ => ⟨a, dx, hv, fun z => m (.inl z), h⟩⟩
instance : Ins Stc .Stretch ["low", "high"] := ⟨fun ⟨a, dx, hv, m, h⟩ => ⟨a, dx, _, hv, m, h, rfl⟩⟩
theorem stc_low (lo hi : Int) : (stcF lo hi).lookup ("low" : Str) = some (V.int lo) := by simp [stcF, List.lookup]
theorem stc_high (lo hi : Int) : (stcF lo hi).lookup ("high" : Str) = some (V.int hi) := by
  have h : (("high" : Str) == ("low" : Str)) = false := by decide +kernel
  simp [stcF, List.lookup, h]
/-- what the text says of the class -/
structure StcT (B : Bs) : Prop where
  cl : Cls B.K (B.cl .Stretch)
  nlow : NoAttr B.K (B.cl .Stretch) "low"
  nhigh : NoAttr B.K (B.cl .Stretch) "high"
theorem stc_of {W : Wd} {B : Bs} (h : W.B = B) (s : StcT B) : StcT W.B := h ▸ s
theorem ev_low {K : PySem.W.Frag} {k : Int → Prop} (hK : W.B.K = K) (hS : StcT W.B) (h : EvK W te Γ fun s : Stc => k s.lo) : EvK W (tFld K te "low") Γ k := by
  subst hK
  refine fun σ H Q E c => h σ H _ E fun v H1 s e1 ⟨a, dx, hv, m, hH⟩ z => ?_
  exact ⟨a, _, dx, _, _, hv, hH, hS.cl, hS.nlow, stc_low _ _, c _ H1 _ e1 rfl z⟩
theorem ev_high {K : PySem.W.Frag} {k : Int → Prop} (hK : W.B.K = K) (hS : StcT W.B) (h : EvK W te Γ fun s : Stc => k s.hi) : EvK W (tFld K te "high") Γ k := by
  subst hK
  refine fun σ H Q E c => h σ H _ E fun v H1 s e1 ⟨a, dx, hv, m, hH⟩ z => ?_
  exact ⟨a, _, dx, _, _, hv, hH, hS.cl, hS.nhigh, stc_high _ _, c _ H1 _ e1 rfl z⟩
/-- __init__: the fields are set; or the error is made -/
def spSI (B : Bs) : Sp := fun vs H Q E => ∃ (p dx : Addr) (lo hi : Int), vs = [.ref p, .int lo, .int hi] ∧ H p = some (.ins (B.cl .Stretch) dx []) ∧
  lo ≤ hi ∧ Q .non (upd (upd H p (.ins (B.cl .Stretch) dx [("low", .int lo)])) p (.ins (B.cl .Stretch) dx (stcF lo hi)))
/-- Stretch(lo, hi), in order -/
theorem ev_stretch {B : Bs} {C : Addr} {E : XK} {ta tb : TE} {k : Stc → Prop} (hB : W.B = B) (hC : B.cl .Stretch = C) (h : EvK W ta Γ fun lo : Int => EvK W tb Γ fun hi : Int => lo ≤ hi ∧ k ⟨lo, hi⟩) : EvK W (tMakeR C (spSI B) E (tCons ta (tCons tb tNil))) Γ k := by
  subst hB
  subst hC
  refine fun σ H Q G c => h σ H _ G fun v H1 lo e1 d1 h1 => h1 σ H1 _ (G.ext e1) fun u H2 hi e2 d2 ⟨hle, z⟩ => ?_
  intro x dx nx ndx nex
  refine ⟨x, dx, lo, hi, by cases d1; cases d2; rfl, upd_same, hle, rfl, ?_⟩
  have o := e2.ok
  have m1 := fresh_mu o ndx
  have m2 := fresh_mu o nx
  have okx : W.ok (upd (upd (upd (upd H2 dx (.own x)) x (.ins (W.B.cl .Stretch) dx [])) x (.ins (W.B.cl .Stretch) dx [("low", .int lo)])) x (.ins (W.B.cl .Stretch) dx (stcF lo hi))) :=
    W.st _ _ _ (W.st _ _ _ (W.st _ _ _ (W.st _ _ _ o m1) m2) m2) m2
  refine c (.ref x) _ ⟨lo, hi⟩ ((e1.trans e2).trans ⟨fun a u _ q => ?_, okx⟩) ⟨x, dx, rfl, m2, upd_same⟩ z
  have n1 : a ≠ x := ne_of_none q nx
  have n2 : a ≠ dx := ne_of_none q ndx
  rw [upd_ne n1, upd_ne n1, upd_ne n1, upd_ne n2]
  exact q
end

theorem raw_seq {t u : TS} {D : Ends} {σ : L2.St} {H : Hp} (h : t { D with nx := u D } σ H) : tSeq t u D σ H := h
theorem raw_asg {te : TE} {g : TG} {D : Ends} {σ : L2.St} {H : Hp} (h : te σ H fun x H1 => g x σ H1 D.nx) : tAsg te g D σ H := h
theorem raw_ret {te : TE} {D : Ends} {σ : L2.St} {H : Hp} (h : te σ H D.rt) : tRet te D σ H := h
theorem raw_if {c : TT} {t u : TS} {D : Ends} {σ : L2.St} {H : Hp} (h : c σ H fun b H1 => if b = true then t D σ H1 else u D σ H1) : tIfS c t u D σ H := h
theorem yes_then {σ : L2.St} {H : Hp} {A B : Hp → Prop} (h : A H) : tYes σ H fun b H3 => if b = true then A H3 else B H3 := by
  show if true = true then A H else B H
  rw [if_pos rfl]
  exact h
theorem itT {c : Bool} {A B : Prop} (hc : c = true) (h : A) : if c = true then A else B := by
  rw [if_pos hc]
  exact h
theorem itF {c : Bool} {A B : Prop} (hc : c = false) (h : B) : if c = true then A else B := by
  rw [hc, if_neg Bool.false_ne_true]
  exact h
/-! ### an own list of a def, at p, kept apart -/
structure Ow where
  p : Addr
instance : Rep Ow := ⟨fun _ _ v a => v = .ref a.p, fun _ h => h, fun _ _ h => h, fun _ h => h⟩
theorem GOk.plus {W : Wd} {F H1 : Hp} {σ : L2.St} {Γ : Gam} {p : Addr} {vs : List V} (G : GOk W F σ Γ) (n : F p = none) (e : Ext W F H1) (hp : H1 p = some (.lst vs)) : GOk (W.plus p vs F n G.ok G.wish) H1 σ Γ :=
  ⟨⟨e.ok, hp⟩, fun b o m z => e.keep b o m z, fun i t h => by
    obtain ⟨v, h1, h2⟩ := G.at_ i t h
    exact ⟨v, h1, Ty.mono (fun b o m z => e.keep b o (fun z => m (.inl z)) z) (t.r.grow p n h2)⟩, G.len⟩
theorem ext_plus {W : Wd} {F H1 H2 : Hp} {p : Addr} {vs : List V} {n : F p = none} {o1 : W.ok F} {w1 : W.wish F} (e : Ext W F H1) (e2 : Ext (W.plus p vs F n o1 w1) H1 H2) : Ext W F H2 :=
  ⟨fun b o m z => e2.keep b o (fun q => q.elim m fun q => by subst q; rw [n] at z; cases z) (e.keep b o m z), e2.ok.1⟩
/-- the own list gets one more -/
theorem ext_upd {W : Wd} {F H1 : Hp} {p : Addr} {o' : HO} (n : F p = none) (o1 : W.ok F) (e : Ext W F H1) : Ext W F (upd H1 p o') :=
  ⟨fun b o m z => by rw [upd_ne (fun q => by subst q; rw [n] at z; cases z)]; exact e.keep b o m z, W.st _ _ _ e.ok (fresh_mu o1 n)⟩
theorem kp_upd {W : Wc} {H : Hp} {p : Addr} {o' : HO} : Kp (W.plus p) H (upd H p o') := fun b o m z => by rw [upd_ne (fun q => m (.inr q))]; exact z
theorem own_at {W : Wd} {H : Hp} {σ : L2.St} {Γ : Gam} {p : Addr} {i : Nat} (G : GOk W H σ Γ) (h : Γ[i]? = some (some (T (Ow.mk p)))) : σ[i]? = some (some (.ref p)) := by
  obtain ⟨v, h1, h2⟩ := G.at_ i _ h
  obtain rfl : v = .ref p := h2
  exact h1
/-! ### the law's own box -/
def boxW (B : Bs) (b c : Addr) (hbc : b ≠ c) (cells : List V) (ns : List Int) (hc : cells = ns.map V.int) : Wd where
  B := B
  mu := fun a => a = b ∨ a = c
  box := fun a => a = b
  ok := fun H => (∃ i p s : Int, H b = some (.lst [.ref c, .int i, .int p, .int s]) ∧ 0 ≤ i ∧ 0 ≤ p) ∧ H c = some (.lst cells)
  live := fun H a ⟨⟨i, p, s, h, _⟩, h2⟩ m => by
    rcases m with m | m
    · subst m; exact ⟨_, h⟩
    · subst m; exact ⟨_, h2⟩
  st := fun H p o ⟨⟨i, q, s, h, z⟩, h2⟩ m => ⟨⟨i, q, s, by rw [upd_ne (fun e => m (.inl e.symm))]; exact h, z⟩, by rw [upd_ne (fun e => m (.inr e.symm))]; exact h2⟩
  wish := fun _ => True
  wst := fun _ _ _ _ _ => trivial
  hasbox := fun H a ⟨⟨i, q, s, h, z⟩, h2⟩ e => by
    subst e
    exact ⟨c, ns, i, q, s, hbc, h, by rw [h2, hc], z⟩
  boxset := fun H a c1 i1 p1 s1 i' p' s' ⟨⟨i, q, s, h, z⟩, h2⟩ e h1 z1 z2 => by
    subst e
    rw [h] at h1
    obtain rfl : c = c1 := by injection h1 with h1; injection h1 with h1; injection h1 with h1 _; injection h1
    exact ⟨⟨i', p', s', upd_same, z1, z2⟩, by rw [upd_ne (Ne.symm hbc)]; exact h2⟩
  boxmu := fun a e => .inl e
  oke := fun H H' ⟨⟨i, p, s, h, z⟩, h2⟩ k => ⟨⟨i, p, s, k _ _ h, z⟩, k _ _ h2⟩
/-- the rest of the law, behind its box -/
theorem law_run {B : Bs} {t : TS} {σ : L2.St} {H : Hp} {Q : VK} {b c : Addr} {ns : List Int} {s : Int} {j : Nat} (hbc : b ≠ c) (hb : H b = some (.lst [.ref c, .int 0, .int 0, .int s])) (hc : H c = some (.lst (ns.map V.int)))
    (hj : σ[j]? = some (some (.ref b))) (hQ : ∀ H', Q (.bl true) H')
    (hs : ∀ W : Wd, W.B = B → Sx W t ((List.replicate σ.length none).set j (some (T Bx.mk))) { nx := fun _ => False, rt := fun t => t = T true }) : t { nx := fun _ H' => Q .non H', rt := Q } σ H := by
  refine hs (boxW B b c hbc _ ns rfl) rfl _ σ H ⟨⟨⟨0, 0, s, hb, Int.le_refl _, Int.le_refl _⟩, hc⟩, trivial, fun i t h => ?_, by rw [List.length_set, List.length_replicate]⟩ ⟨fun _ _ _ _ _ q => q.elim, fun v H' t _ d q => ?_, fun _ _ _ _ _ q => q.elim, fun _ _ _ _ _ q => q.elim⟩
  · by_cases e : j = i
    · subst e
      have hl : j < (List.replicate σ.length (none : Option Ty)).length := by rw [List.length_replicate]; exact (List.getElem?_eq_some_iff.mp hj).1
      rw [List.getElem?_set_self hl] at h
      cases h
      exact ⟨_, hj, b, rfl, rfl⟩
    · rw [List.getElem?_set_ne e] at h
      have := List.mem_of_getElem? h
      rw [List.mem_replicate] at this
      cases this.2
  · subst q
    obtain rfl : v = .bl true := d
    exact hQ H'
/-! ### the text of a law -/
theorem room {j k : Nat} {A : Around} (h : Room k A) (hjk : j ≤ k := by decide) : Room j A := h.mono hjk
theorem huD {k : Nat} {A : Around} (h : Room k A) : A.units + 64 < cLine := h.units
def DefM (K : PySem.W.Frag) (name qual : Str) (st : Stmt) (ps : List Str) (f : Addr) : Prop := ∃ fd, Fun K name qual st f fd ∧ Binds K fd ps []
structure DefAt (K : PySem.W.Frag) (mg : Str → Option Value) (name : Str) (st : Stmt) (ps : List Str) (f : Addr) : Prop where
  d : DefM K name name st ps f
  g : mg name = some (.ref f)
  kp : PySem.W.keepIn K (.ref f) = true
section
variable {P : Program} {w : World} {K : PySem.W.Frag} {mg : Str → Option Value} {base : Heap}
theorem fnR_of {st : Stmt} {N ps : List Str} {k : Nat} {sp : Sp} {f : Addr} {name qual : Str} (D : DefM K name qual st ps f) (S : FnScope N ps (defScope st)) (len : ∀ vs H Q E, sp vs H Q E → vs.length = ps.length)
    (hbody : ∀ (cdv : Value) (A : Around) (outer : List Env) (s : Shared) (H : Hp) (vs : List V) (Q : VK) (E : XK), Room k (A.deeper (envOfC qual (defScope st) s.heap.objs.size f cdv)) → sp vs H Q E →
      ∃ t, PSs (cxOf CX0 P w K mg base N qual (defScope st) f cdv A outer s H E).nox (defBody st) t ∧ t { nx := fun _ H' => Q .non H', rt := Q } (L2.start N vs) H) : FnR P w K mg base CX0 (k + 1) f sp := by
  obtain ⟨fd, F, b⟩ := D
  exact ((F.ok S len hbody).raw b .nil).imp fun vs H Q E h => by rw [List.append_nil]; exact h
end
end G
set_option Elab.async false
set_option linter.all false
set_option maxRecDepth 100000
set_option maxHeartbeats 2000000
namespace G
open PySem PySem.Spec PyProof.Rows L2 StX

/-! ### errors with an own __init__ that first says GaugeError.__init__(self, ..) -/
section
variable {X : Cx} {e : Expr} {es : List Expr} {ta : TA} {p1 p2 pos : Pos}
/-- what the text says of GaugeError, at CG -/
structure GeT (K : PySem.W.Frag) (mg : Str → Option Value) (CG : Addr) : Prop where
  g : mg "GaugeError" = some (.ref CG)
  ga : PySem.W.specialIn K (.ref CG) "__getattribute__" = some (some (.builtin "type.__getattribute__"))
  rd : PySem.W.readsIn K CG (.type "type") = true
  at_ : PySem.W.findCls K (.ref CG) (.type "type") "__init__" = some (.val (.builtin "ValueError.__init__"))
theorem pe_geinit {pl : Sem Bool} {CG : Addr} (T : GeT X.K X.mg CG) (ha : PA X (e :: es) ta) (hg : Gl X "GaugeError" := by rfl)
    (hc : eval (.Call (.Attribute (.Name "GaugeError" p1) "__init__" p2) (e :: es) [] pos) X.env = (do
      let ov ← eval (.Name "GaugeError" p1) X.env
      standAt p2.atName
      let (f, first) ← holding [ov] (getMethod ov "__init__" pl)
      callWith pos f first (backTo pos (starEach (e :: es) X.env)) (backToKw pos (keywordEach [] X.env))) := by rfl)
    (he : starEach (e :: es) X.env = (false, eval e X.env) :: starEach es X.env := by rfl) (hpl : (backTo pos (starEach es X.env)).any (·.1) = false := by rfl) :
    PE X (.Call (.Attribute (.Name "GaugeError" p1) "__init__" p2) (e :: es) [] pos) (tVeI X.K ta) := by
  refine ⟨fun pins s σ H Q I h => ?_⟩
  refine PySem.W.methodCall_KW (ld_glob I hg T.g ?_) hc
  refine PySem.W.method_cls I.kIn T.ga (PySem.W.cls_value I.kIn T.rd T.at_ (by decide +kernel) ?_)
  show wpAny _ _ (callWith pos (Value.builtin "ValueError.__init__") [] (backTo pos (starEach (e :: es) X.env)) []) _ _ _
  refine PyProof.Rows.callWith_method1 (thn (ha.run pos pins _ σ H _ (I.tok _) h) fun us s1 ⟨vs, H1, I1, r1, a, C, ws, ev, hl, T, ea, q⟩ => ?_) he hpl
  subst ev
  cases r1 with
  | @cons _ u0 _ ur ra rw' =>
    obtain rfl : u0 = Value.ref a := ra
    have hlen : ur.length ≤ sizeLine := by
      rw [← Paired.length rw', sizeLine_eq]
      omega
    exact oinit_ok T I1 ea hlen fun s' J => ⟨.non, H1, J, rfl, q⟩
end
/-- numbers that can be written into a text -/
def Small (i : Int) : Prop := i.natAbs.log2 < 1920
theorem small_of {i : Int} (h : i.natAbs < 2 ^ 1000) : Small i := by
  unfold Small
  rcases Nat.eq_zero_or_pos i.natAbs with h0 | h0
  · rw [h0]; decide
  · have := (Nat.log2_lt (by omega)).mpr h
    omega
/-- BadStretch.__init__ -/
def spBad2 (K : PySem.W.Frag) (C : Addr) (f1 f2 : Str) : Sp := fun vs H Q E => ∃ (a : Addr) (i j : Int), vs = [.ref a, .int i, .int j] ∧ Small i ∧ Small j ∧ H a = some (exo a C none) ∧
  ∀ dx, H dx = none → dx ≠ a → Q .non (upd (upd (upd H dx (exd dx [(f1, .int i)])) a (exo a C (some dx))) dx (exd dx [(f2, .int j), (f1, .int i)]))
/-- what the end of a raise leaves: the state before, and the error's own dict -/
theorem bad_end {H : Hp} {a d C : Addr} {fs f1 : List (Str × V)} (na : H a = none) (nd : H d = none) (hda : d ≠ a) :
    upd (del (upd (upd (upd (upd H a (exo a C none)) d (exd d f1)) a (exo a C (some d))) d (exd d fs)) a) d (.xd fs) = upd H d (.xd fs) := by
  funext b
  by_cases hb : b = d
  · subst hb
    rw [upd_same, upd_same]
  · rw [upd_ne hb, upd_ne hb]
    by_cases ha : b = a
    · subst ha
      rw [del_same, na]
    · rw [del_ne ha, upd_ne hb, upd_ne ha, upd_ne hb, upd_ne ha]
/-- __init__ of Stretch, all of it -/
def spSIX (B : Bs) : Sp := fun vs H Q E => ∃ (p dx : Addr) (lo hi : Int), vs = [.ref p, .int lo, .int hi] ∧ H p = some (.ins (B.cl .Stretch) dx []) ∧
  (lo ≤ hi → Q .non (upd (upd H p (.ins (B.cl .Stretch) dx [("low", .int lo)])) p (.ins (B.cl .Stretch) dx (stcF lo hi)))) ∧
  (hi < lo → Small lo ∧ Small hi ∧ ∀ d, H d = none → E (.ref (B.cl .BadStretch)) (some d) (upd H d (.xd [("high", .int hi), ("low", .int lo)])))
theorem XOk.ext {W : Wd} {H H' : Hp} {E : XK} {x : Xn → Prop} (w : XOk W H E x) (e : Ext W H H') : XOk W H' E x := fun n d H2 e2 => w n d H2 (e.trans e2)
section
variable {W : Wd} {Γ : Gam}
/-- Stretch(lo, hi), in order or not -/
theorem ev_stretchX {B : Bs} {C : Addr} {E : XK} {ta tb : TE} {k : Stc → Prop} {x : Xn → Prop} (hB : W.B = B) (hC : B.cl .Stretch = C) (hx : ∀ H', W.ok H' → W.wish H' → XOk W H' E x)
    (h : EvK W ta Γ fun lo : Int => EvK W tb Γ fun hi : Int => (lo ≤ hi → k ⟨lo, hi⟩) ∧ (hi < lo → Small lo ∧ Small hi ∧ x ⟨.BadStretch, [("high", .i hi), ("low", .i lo)]⟩)) : EvK W (tMakeR C (spSIX B) E (tCons ta (tCons tb tNil))) Γ k := by
  subst hB
  subst hC
  refine fun σ H Q G c => h σ H _ G fun v H1 lo e1 d1 h1 => h1 σ H1 _ (G.ext e1) fun u H2 hi e2 d2 ⟨hle, hlt⟩ => ?_
  intro xx dx nx ndx nex
  have o := e2.ok
  have m1 := fresh_mu o ndx
  have m2 := fresh_mu o nx
  have w2 : W.wish H2 := ((G.ext e1).ext e2).wish
  have e3 : ∀ o', Ext W H2 (upd (upd H2 dx (.own xx)) xx o') := fun o' => ⟨fun a u _ q => by rw [upd_ne (ne_of_none q nx), upd_ne (ne_of_none q ndx)]; exact q, W.st _ _ _ (W.st _ _ _ o m1) m2⟩
  refine ⟨xx, dx, lo, hi, by cases d1; cases d2; rfl, upd_same, fun hl => ⟨rfl, ?_⟩, fun hl => ?_⟩
  · have okx : W.ok (upd (upd (upd (upd H2 dx (.own xx)) xx (.ins (W.B.cl .Stretch) dx [])) xx (.ins (W.B.cl .Stretch) dx [("low", .int lo)])) xx (.ins (W.B.cl .Stretch) dx (stcF lo hi))) :=
      W.st _ _ _ (W.st _ _ _ (W.st _ _ _ (W.st _ _ _ o m1) m2) m2) m2
    refine c (.ref xx) _ ⟨lo, hi⟩ ((e1.trans e2).trans ⟨fun a u _ q => ?_, okx⟩) ⟨xx, dx, rfl, m2, upd_same⟩ (hle hl)
    have n1 : a ≠ xx := ne_of_none q nx
    have n2 : a ≠ dx := ne_of_none q ndx
    rw [upd_ne n1, upd_ne n1, upd_ne n1, upd_ne n2]
    exact q
  · obtain ⟨s1, s2, xq⟩ := hlt hl
    refine ⟨s1, s2, fun d hd => ?_⟩
    have e4 := (e3 (.ins (W.B.cl .Stretch) dx []))
    have md := fresh_mu e4.ok hd
    exact hx H2 o w2 _ _ _ (e4.trans (Ext.new (o := .xd [("high", .int hi), ("low", .int lo)]) e4.ok hd)) (.inr ⟨d, _, rfl, md, upd_same, .cons (t := .i hi) rfl (.cons (t := .i lo) rfl .nil)⟩) xq
end

/-! ### further rules of the hand layer -/
section
variable {X : Cx} {CX : CXT} {k n : Nat} {f g C : Addr} {sp : Sp} {E : XK} {o e : Expr} {es : List Expr} {to te ta : TE} {t : TA} {p p' pos apos : Pos} {m : Str}
theorem pe_geinitK (K : PySem.W.Frag) {p1 p2 : Pos} {pl : Sem Bool} {CG : Addr} (T : GeT X.K X.mg CG) (ha : PA X (e :: es) t) (hK : X.K = K := by rfl) (hg : Gl X "GaugeError" := by rfl)
    (hc : eval (.Call (.Attribute (.Name "GaugeError" p1) "__init__" p2) (e :: es) [] pos) X.env = (do
      let ov ← eval (.Name "GaugeError" p1) X.env
      standAt p2.atName
      let (f, first) ← holding [ov] (getMethod ov "__init__" pl)
      callWith pos f first (backTo pos (starEach (e :: es) X.env)) (backToKw pos (keywordEach [] X.env))) := by rfl)
    (he : starEach (e :: es) X.env = (false, eval e X.env) :: starEach es X.env := by rfl) (hpl : (backTo pos (starEach es X.env)).any (·.1) = false := by rfl) :
    PE X (.Call (.Attribute (.Name "GaugeError" p1) "__init__" p2) (e :: es) [] pos) (tVeI K t) := by subst hK; exact pe_geinit T ha hg hc he hpl
theorem ps_ostK (K : PySem.W.Frag) (ho : PE X o to) (he : PE X e te) (hs : swapsWith e (some (.Attribute o m p')) pos.line X.env = pure false := by rfl) (hK : X.K = K := by rfl) : PS X (.Assign [.Attribute o m p'] e pos) (tOst K m to te) := by subst hK; exact ps_ost ho he hs
/-- C(e, ..), an error with its own __init__ -/
theorem pmk_oexR {x : Str} {C fI : Addr} (T : OexC X.K C) (iC : PySem.W.findIn X.K (.ref C) "__init__" = some (some (.ref fI))) (tI : PySem.W.typeIn X.K (.ref fI) = some (.type "function"))
    (F : FnR X.prog X.w X.K X.mg X.base CX k fI sp) (hr : Room (k + 1) X.A) (hx : Passes CX X (fun _ _ _ => False)) (hg : Gl X x) (hm : X.mg x = some (.ref C)) (ha : PA X (e :: es) t)
    (hdb : (x == ("__debug__" : Str)) = false := by decide) (he : starEach (e :: es) X.env = (false, eval e X.env) :: starEach es X.env := by rfl) (hpl : (backTo pos (starEach es X.env)).any (·.1) = false := by rfl) :
    PMk X (.Call (.Name x p) (e :: es) [] pos) (tMkO C sp [] t) := by
  intro pins s σ H Q I h
  obtain ⟨nm, q, N, bs, bm, sn, sub, ab, col, dd, k0, k1, k2, k3, k5, hC, hbm⟩ := T.cls
  refine wpAny_Call_Name_kw (ld_glob I hg hm ?_ hdb)
  refine PySem.W.callWith_K (h₀ := X.base) I.ok.mod.kin T.kC (thn (ha.run pos pins s σ H _ I h) fun us s1 ⟨vs, H1, I1, r1, hz, q1⟩ => ⟨I1.kIn, ?_⟩) he hpl
  show wpAny _ _ (call (.ref C) us) _ _ _
  obtain ⟨hp, g, dr, tk, os⟩ := s1
  have hsz : hp.objs.size ≤ hp.objs.size + 1 := Nat.le_succ _
  have hn : H1 (hp.objs.size + 1) = none := I1.hok.fresh hsz
  have hq := q1 (hp.objs.size + 1) hn
  have kk : ∀ b o, hp.get? b = some o → ((hp.push (PySem.W.kdv_tup us)).push (PySem.HandSPX.excO C hp.objs.size)).get? b = some o := fun b o e => Heap.get?_push_of_some _ (Heap.get?_push_of_some _ e)
  have hget : ((hp.push (PySem.W.kdv_tup us)).push (PySem.HandSPX.excO C hp.objs.size)).get? (hp.objs.size + 1) = some (PySem.HandSPX.excO C hp.objs.size) := by heap_get
  have I2 : Inv X pins σ (upd H1 (hp.objs.size + 1) (exo (hp.objs.size + 1) C none)) ⟨(hp.push (PySem.W.kdv_tup us)).push (PySem.HandSPX.excO C hp.objs.size), g, dr, tk, os⟩ :=
    I1.laid (t' := tk) (a := hp.objs.size + 1) (o := exo (hp.objs.size + 1) C none) (h' := (hp.push (PySem.W.kdv_tup us)).push (PySem.HandSPX.excO C hp.objs.size)) kk hsz (exo_ok hget)
  have r2 : Vals (V.ref (hp.objs.size + 1) :: (vs ++ [])) (Value.ref (hp.objs.size + 1) :: us) := .cons rfl (by rw [List.append_nil]; exact r1)
  have hus : us.length ≤ sizeLine := by
    rw [← Paired.length r1, sizeLine_eq]
    omega
  refine wpAny_call (PySem.HandSPX.call_own PySem.F.excBase_ValueError (fun Y => PySem.HandSPX.refsVE_contains Y bm hbm) (I1.kIn _ _ hC) (PySem.W.looks_findIn I1.kIn iC) (fun self => PySem.W.bind_fn I1.kIn self tI) hus
    (codeAny_mono (F _ X.stack _ _ (Value.ref (hp.objs.size + 1) :: us) _ _ (fun _ _ _ => False) (hr.make C us []) (I2.env0.make C us []) r2 hq) fun r s' hq' => ?_))
  cases r with
  | error er => exact hx pins σ _ _ er s' I2 hq'
  | ok fl =>
    cases fl with
    | ret u =>
      obtain ⟨v, H2, os2, bare2, un2, hok2, rv, ev, d, fs, ea, ed, hd1, q2⟩ := hq'
      subst ev
      obtain ⟨h2, g2, d2, t2, os'⟩ := s'
      exact ⟨rv, mk_end (raises_own T.exC T.tyC) I1 hsz kk un2 hok2 os2 bare2 ea ed hd1 q2⟩
    | next => exact False.elim hq'
    | brk => exact False.elim hq'
    | cont => exact False.elim hq'
end
end G
set_option Elab.async false
set_option linter.all false
set_option maxRecDepth 100000
set_option maxHeartbeats 2000000
set_option exponentiation.threshold 2000
namespace G
open PySem PySem.Spec PyProof.Rows L2 StX

/-! ### calls whose errors go to a suite: the wish may speak of the slots -/
section
variable {X : Cx} {CX : CXT} {k n : Nat} {f g C : Addr} {sp : Sp} {E : L2.St → XK} {x m : Str} {o e e2 : Expr} {es : List Expr} {te to tb : TE} {t : TA} {p pos apos : Pos}
theorem passSL : ∀ σ, PassesAt (L2.CX X.prog X.w) X σ ((fun _ => E0) σ) := fun σ pins H s e s' I h => passL pins σ H s e s' I h
theorem passS0 : ∀ σ, PassesAt CX0 X σ ((fun _ => E0) σ) := fun σ pins H s e s' I h => pass0 pins σ H s e s' I h
theorem run_fnRS {pins : List (Addr × Obj)} {σ : L2.St} {H : Hp} {s : Shared} {E : XK} {Q : VK} {us : List Value} {vs : List V} (F : FnR X.prog X.w X.K X.mg X.base CX k f sp) (hr : Room k X.A) (hx : PassesAt CX X σ E) (I : L2.Inv X pins σ H s) (r : Vals vs us) (q : sp vs H Q E) :
    wpAny (model X.prog X.w) X.A (call (.ref f) us) (EP X pins σ Q) X.xe s := by
  refine wpAny_call (codeAny_mono (F _ X.stack _ _ us _ _ E hr I.env0 r q) fun r s' h => ?_)
  cases r with
  | error e => exact hx pins H s e s' I h
  | ok fl =>
    cases fl with
    | ret u =>
      obtain ⟨v, H2, os2, bare2, un2, hok2, rv, qv⟩ := h
      exact ⟨v, H2, I.call' os2 un2 hok2 bare2 (fun b hb => (nomatch hb)), rv, qv⟩
    | next => exact False.elim h
    | brk => exact False.elim h
    | cont => exact False.elim h
def tCallZ (sp : Sp) (E : L2.St → XK) (t : TA) : TE := fun σ H Q => t σ H fun vs H1 => sp vs H1 Q (E σ)
/-- f(e, ..) -/
theorem pe_callZ (F : FnR X.prog X.w X.K X.mg X.base CX k f sp) (hr : Room k X.A) (hg : Gl X x) (hm : X.mg x = some (.ref f)) (hk : PySem.W.keepIn X.K (.ref f) = true) (hx : ∀ σ, PassesAt CX X σ (E σ))
    (ha : PA X (e :: es) t) (hdb : (x == ("__debug__" : Str)) = false := by decide) (he : starEach (e :: es) X.env = (false, eval e X.env) :: starEach es X.env := by rfl) (hpl : (backTo pos (starEach es X.env)).any (·.1) = false := by rfl) :
    PE X (.Call (.Name x p) (e :: es) [] pos) (tCallZ sp E t) := by
  refine ⟨fun pins s σ H Q I h => ?_⟩
  refine wpAny_Call_Name_kw (ld_glob I hg hm ?_ hdb)
  exact PySem.W.callWith_K (h₀ := X.base) I.ok.mod.kin hk (thn (ha.run pos pins s σ H _ I h) fun us s1 ⟨vs, H1, I1, r, q⟩ => ⟨I1.kIn, run_fnRS F hr (hx σ) I1 r q⟩) he hpl
def tMakeZ (C : Addr) (sp : Sp) (E : L2.St → XK) (t : TA) : TE := fun σ H Q => t σ H fun vs H1 => ∀ x dx, H1 x = none → H1 dx = none → dx ≠ x → sp (.ref x :: vs) (upd (upd H1 dx (.own x)) x (.ins C dx [])) (fun v H2 => v = .non ∧ Q (.ref x) H2) (E σ)
theorem run_makeZ {pins : List (Addr × Obj)} {σ : L2.St} {H : Hp} {s : Shared} {E : XK} {Q : VK} {us : List Value} {vs : List V} (M : Mk X.K C f) (F : FnR X.prog X.w X.K X.mg X.base CX k f sp) (hr : Room (k + 1) X.A) (hx : PassesAt CX X σ E) (I : L2.Inv X pins σ H s) (r : Vals vs us)
    (q : ∀ x dx, H x = none → H dx = none → dx ≠ x → sp (.ref x :: vs) (upd (upd H dx (.own x)) x (.ins C dx [])) (fun v H2 => v = .non ∧ Q (.ref x) H2) E) :
    wpAny (model X.prog X.w) X.A (call (.ref C) us) (EP X pins σ Q) X.xe s := by
  have I2 := I.made (C := C)
  have n1 : H s.heap.objs.size = none := I.hok.fresh (Nat.le_refl _)
  have n2 : H (s.heap.objs.size + 1) = none := I.hok.fresh (Nat.le_succ _)
  have hq := q _ _ n2 n1 (Nat.ne_of_lt (Nat.lt_succ_self _))
  refine wpAny_call (make_map I.kIn M.makes M.init (by simpa [PySem.W.isFn] using M.fn) (codeAny_mono (F _ X.stack _ _ (.ref (s.heap.objs.size + 1) :: us) _ _ E (hr.make C us []) (I2.env0.make C us []) (.cons (show L2.RelV (.ref _) (.ref _) from rfl) r) hq) fun r s' h => ?_))
  cases r with
  | error e => exact hx pins _ _ e s' I2 h
  | ok fl =>
    cases fl with
    | ret u =>
      obtain ⟨v, H3, os2, bare2, un2, hok2, rv, ev, q3⟩ := h
      subst ev
      exact ⟨rv, .ref _, H3, I2.call' os2 un2 hok2 bare2 (fun b hb => (nomatch hb)), rfl, q3⟩
    | next => exact False.elim h
    | brk => exact False.elim h
    | cont => exact False.elim h
/-- C(e, ..) -/
theorem pe_makeZ (M : Mk X.K C f) (F : FnR X.prog X.w X.K X.mg X.base CX k f sp) (hr : Room (k + 1) X.A) (hg : Gl X x) (hm : X.mg x = some (.ref C)) (hx : ∀ σ, PassesAt CX X σ (E σ))
    (ha : PA X (e :: es) t) (hdb : (x == ("__debug__" : Str)) = false := by decide) (he : starEach (e :: es) X.env = (false, eval e X.env) :: starEach es X.env := by rfl) (hpl : (backTo pos (starEach es X.env)).any (·.1) = false := by rfl) :
    PE X (.Call (.Name x p) (e :: es) [] pos) (tMakeZ C sp E t) := by
  refine ⟨fun pins s σ H Q I h => ?_⟩
  refine wpAny_Call_Name_kw (ld_glob I hg hm ?_ hdb)
  exact PySem.W.callWith_K (h₀ := X.base) I.ok.mod.kin M.kp (thn (ha.run pos pins s σ H _ I h) fun us s1 ⟨vs, H1, I1, r, q⟩ => ⟨I1.kIn, run_makeZ M F hr (hx σ) I1 r q⟩) he hpl
def tMethZ (C : Addr) (m : Str) (sp : Sp) (E : L2.St → XK) (ta : TE) (t : TA) : TE := fun σ H Q => ta σ H fun x H1 => ∃ a dx fs, x = .ref a ∧ H1 a = some (.ins C dx fs) ∧ fs.lookup m = none ∧ t σ H1 fun vs H2 => sp (x :: vs) H2 Q (E σ)
/-- o.m(e, ..) -/
theorem pe_methZ {pl : Sem Bool} (ho : PE X o to) (c : Cls X.K C) (hm : Meth X.K C m f) (F : FnR X.prog X.w X.K X.mg X.base CX k f sp) (hr : Room k X.A) (hx : ∀ σ, PassesAt CX X σ (E σ)) (ha : PA X (e :: es) t)
    (he : starEach (e :: es) X.env = (false, eval e X.env) :: starEach es X.env := by rfl) (hpl : (backTo pos (starEach es X.env)).any (·.1) = false := by rfl)
    (hc : eval (.Call (.Attribute o m apos) (e :: es) [] pos) X.env = (do
      let ov ← eval o X.env
      standAt apos.atName
      let (f, first) ← holding [ov] (getMethod ov m pl)
      callWith pos f first (backTo pos (starEach (e :: es) X.env)) (backToKw pos (keywordEach [] X.env))) := by rfl) :
    PE X (.Call (.Attribute o m apos) (e :: es) [] pos) (tMethZ C m sp E to t) := by
  refine ⟨fun pins s σ H Q I h => ?_⟩
  refine PySem.W.methodCall_KW (thn (ho.run pins s σ H _ I h) fun ov s1 ⟨x, H1, I1, rx, a, dx, fs, ex, ea, hl, q⟩ => ?_) hc
  subst ex
  cases (show ov = Value.ref a from rx)
  refine getmeth_ok I1 ea c hm hl ?_
  show wpAny _ _ (callWith pos (Value.ref f) [Value.ref a] (backTo pos (starEach (e :: es) X.env)) []) _ _ _
  exact PySem.W.callWith_K (h₀ := X.base) I1.ok.mod.kin hm.kp (thn (ha.run pos pins s1 σ H1 _ I1 q) fun us s2 ⟨vs, H2, I2, r, q2⟩ => ⟨I2.kIn, run_fnRS (vs := .ref a :: vs) F hr (hx σ) I2 (.cons (show L2.RelV (.ref a) (.ref a) from rfl) r) q2⟩) he hpl
/-- o.m() -/
theorem pe_methZ0 {pl : Sem Bool} (ho : PE X o to) (c : Cls X.K C) (hm : Meth X.K C m f) (F : FnR X.prog X.w X.K X.mg X.base CX k f sp) (hr : Room k X.A) (hx : ∀ σ, PassesAt CX X σ (E σ))
    (hc : eval (.Call (.Attribute o m apos) [] [] pos) X.env = (do
      let ov ← eval o X.env
      standAt apos.atName
      let (f, first) ← holding [ov] (getMethod ov m pl)
      callWith pos f first (backTo pos (starEach [] X.env)) (backToKw pos (keywordEach [] X.env))) := by rfl) :
    PE X (.Call (.Attribute o m apos) [] [] pos) (tMethZ C m sp E to tNil) := by
  refine ⟨fun pins s σ H Q I h => ?_⟩
  refine PySem.W.methodCall_KW (thn (ho.run pins s σ H _ I h) fun ov s1 ⟨x, H1, I1, rx, a, dx, fs, ex, ea, hl, q⟩ => ?_) hc
  subst ex
  cases (show ov = Value.ref a from rx)
  refine getmeth_ok I1 ea c hm hl ?_
  show wpAny _ _ (callWith pos (Value.ref f) [Value.ref a] (backTo pos (starEach [] X.env)) []) _ _ _
  exact PySem.W.callWith_K0 I1.kIn hm.kp (run_fnRS (vs := [.ref a]) F hr (hx σ) I1 (.cons (show L2.RelV (.ref a) (.ref a) from rfl) .nil) q)
/-- values that are not NotImplemented -/
def Pl (v : V) : Prop := (∃ c, v = .ref c) ∨ (∃ b, v = .bl b) ∨ ∃ i, v = .int i
theorem cmp_back {pins : List (Addr × Obj)} {σ : L2.St} {Q : VK} {u : Value} {s : Shared} (h : EP X pins σ (fun v H' => Pl v ∧ Q v H') u s) : PySem.W.CmpBack (EP X pins σ Q) u s := by
  obtain ⟨v, H', I, r, hv, q⟩ := h
  rcases hv with ⟨c, rfl⟩ | ⟨c, rfl⟩ | ⟨c, rfl⟩
  · cases (show u = Value.ref c from r)
    exact ⟨.ref c, H', I, rfl, q⟩
  · cases (show u = Value.bool c from r)
    exact ⟨.bl c, H', I, rfl, q⟩
  · cases u with
    | int j tk => exact ⟨.int c, H', I, r, q⟩
    | _ => exact (nomatch r)
/-- own def for an operator: what the text says -/
structure OpT (K : PySem.W.Frag) (C : Addr) (m : Str) (f : Addr) : Prop where
  sf : PySem.W.selfFirst K C = true
  at_ : PySem.W.findIn K (.ref C) m = some (some (.ref f))
  fn : PySem.W.isFn K (.ref f) = true
/-- .. with an int on the right -/
structure OpTI (K : PySem.W.Frag) (C : Addr) (m mr : Str) (f : Addr) : Prop extends OpT K C m f where
  rc : PySem.W.findIn K (.ref C) mr = some none
  fo : ∃ fo, PySem.W.findIn K (.type "int") m = some fo
  ro : ∃ ro, PySem.W.findIn K (.type "int") mr = some ro
  sub : PySem.W.subIn K (.type "int") (.ref C) = some false
def tBinI (C : Addr) (sp : Sp) (E : L2.St → XK) (ta tb : TE) : TE := fun σ H Q => ta σ H fun x H1 => tb σ H1 fun y H2 => ∃ a dx fs i, x = .ref a ∧ H2 a = some (.ins C dx fs) ∧ y = .int i ∧ sp [x, y] H2 (fun v H' => Pl v ∧ Q v H') (E σ)
/-- o op i -/
theorem pe_binI {op : Operator} {m mr : Str} (T : OpTI X.K C m mr f) (hm : dunder op.info.2 = m) (hmr : dunderR op.info.2 = mr) (F : FnR X.prog X.w X.K X.mg X.base CX k f sp) (hr : Room k X.A) (hx : ∀ σ, PassesAt CX X σ (E σ)) (ha : PE X o to) (hb : PE X e te) :
    PE X (.BinOp o op e pos) (tBinI C sp E to te) := by
  refine ⟨fun pins s σ H Q I h => ?_⟩
  refine wpAny_BinOp (thn (ha.run pins s σ H _ I h) fun u s1 ⟨x, H1, I1, rx, q⟩ => thn (hb.run pins s1 σ H1 _ I1 q) fun w s2 ⟨y, H2, I2, ry, a, dx, fs, i, ex, ea, ey, q2⟩ => ?_)
  subst ex
  subst ey
  cases (show u = Value.ref a from rx)
  obtain ⟨od, J⟩ := inst_of I2 ea
  obtain ⟨m', hF⟩ := I2.fr
  obtain ⟨fo, hfo⟩ := T.fo
  obtain ⟨ro, hro⟩ := T.ro
  have ty : typeOf w = pure (Value.type "int") := by
    cases w with
    | int j tk => rfl
    | _ => exact (nomatch ry)
  subst hm
  subst hmr
  exact PySem.W.ksp_binT hF I2.ok.mod.kin J ty T.sf T.at_ T.fn T.rc (.inl rfl) hfo hro T.sub (thn (run_fnRS F hr (hx σ) I2 (.cons rx (.cons ry .nil)) q2) fun _ _ => cmp_back)
def tBinO (C : Addr) (sp : Sp) (E : L2.St → XK) (ta tb : TE) : TE := fun σ H Q => ta σ H fun x H1 => tb σ H1 fun y H2 => ∃ a dx fs b dy gs, x = .ref a ∧ H2 a = some (.ins C dx fs) ∧ y = .ref b ∧ H2 b = some (.ins C dy gs) ∧ sp [x, y] H2 (fun v H' => Pl v ∧ Q v H') (E σ)
/-- o op p, both of one class -/
theorem pe_binO {op : Operator} {m : Str} (T : OpT X.K C m f) (hm : dunder op.info.2 = m) (F : FnR X.prog X.w X.K X.mg X.base CX k f sp) (hr : Room k X.A) (hx : ∀ σ, PassesAt CX X σ (E σ)) (ha : PE X o to) (hb : PE X e te) :
    PE X (.BinOp o op e pos) (tBinO C sp E to te) := by
  refine ⟨fun pins s σ H Q I h => ?_⟩
  refine wpAny_BinOp (thn (ha.run pins s σ H _ I h) fun u s1 ⟨x, H1, I1, rx, q⟩ => thn (hb.run pins s1 σ H1 _ I1 q) fun w s2 ⟨y, H2, I2, ry, a, dx, fs, b, dy, gs, ex, ea, ey, eb, q2⟩ => ?_)
  subst ex
  subst ey
  cases (show u = Value.ref a from rx)
  cases (show w = Value.ref b from ry)
  obtain ⟨od, J⟩ := inst_of I2 ea
  obtain ⟨od2, J2⟩ := inst_of I2 eb
  obtain ⟨m', hF⟩ := I2.fr
  subst hm
  exact PySem.W.binop_K hF I2.ok.mod.kin J J2.type T.sf T.at_ T.fn (thn (run_fnRS F hr (hx σ) I2 (.cons rx (.cons ry .nil)) q2) fun _ _ => cmp_back)
def tUnO (C : Addr) (sp : Sp) (E : L2.St → XK) (ta : TE) : TE := fun σ H Q => ta σ H fun x H1 => ∃ a dx fs, x = .ref a ∧ H1 a = some (.ins C dx fs) ∧ sp [x] H1 Q (E σ)
/-- -o -/
theorem pe_negO (T : OpT X.K C "__neg__" f) (F : FnR X.prog X.w X.K X.mg X.base CX k f sp) (hr : Room k X.A) (hx : ∀ σ, PassesAt CX X σ (E σ)) (ha : PE X o to) :
    PE X (.UnaryOp .USub o pos) (tUnO C sp E to) := by
  refine ⟨fun pins s σ H Q I h => ?_⟩
  refine wpAny_UnaryOp (thn (ha.run pins s σ H _ I h) fun u s1 ⟨x, H1, I1, rx, a, dx, fs, ex, ea, q⟩ => ?_)
  subst ex
  cases (show u = Value.ref a from rx)
  obtain ⟨od, J⟩ := inst_of I1 ea
  obtain ⟨m', hF⟩ := I1.fr
  exact PySem.W.ksp_neg hF I1.ok.mod.kin J T.at_ T.fn (run_fnRS F hr (hx σ) I1 (.cons rx .nil) q)
/-- the body of a def that may raise -/
theorem fnRX_of {P : Program} {w : World} {K : PySem.W.Frag} {mg : Str → Option Value} {base : Heap} {st : Stmt} {N ps : List Str} {k : Nat} {sp : Sp} {f : Addr} {name qual : Str} (D : DefM K name qual st ps f) (S : FnScope N ps (defScope st)) (len : ∀ vs H Q E, sp vs H Q E → vs.length = ps.length)
    (hbody : ∀ (cdv : Value) (A : Around) (outer : List Env) (s : Shared) (H : Hp) (vs : List V) (Q : VK) (E : XK), Room k (A.deeper (envOfC qual (defScope st) s.heap.objs.size f cdv)) → sp vs H Q E →
      ∃ t, PSs (cxOf (L2.CX P w) P w K mg base N qual (defScope st) f cdv A outer s H E) (defBody st) t ∧ t { nx := fun _ H' => Q .non H', rt := Q } (L2.start N vs) H) : FnR P w K mg base (L2.CX P w) (k + 1) f sp := by
  obtain ⟨fd, F, b⟩ := D
  exact ((F.okX S len hbody).raw b .nil).imp fun vs H Q E h => by rw [List.append_nil]; exact h
end

/-! ### over plain data -/
/-- what is raised is wished for -/
def HX (W : Wd) (Γ : Gam) (E : L2.St → XK) (x : Xn → Prop) : Prop := ∀ σ H, GOk W H σ Γ → XOk W H (E σ) x
theorem hx0 {W : Wd} {Γ : Gam} {E : L2.St → XK} : HX W Γ E fun _ => False := fun σ H _ n d H2 _ _ q => q.elim
theorem hx_of {W : Wd} {Γ : Gam} {E : XK} {x : Xn → Prop} (h : ∀ H', W.ok H' → W.wish H' → XOk W H' E x) : HX W Γ (fun _ => E) x := fun σ H G => h H G.ok G.wish
class Pln (α : Type) [Rep α] : Prop where
  at_ : ∀ {W : Wc} {H : Hp} {v : V} {a : α}, den W H v a → Pl v
/-- such data is never NotImplemented -/
def PlnG (α : Type) [Rep α] (G : Prop) : Prop := Pln α ∧ G
theorem plnG_in {α : Type} [Rep α] [i : Pln α] {G : Prop} (h : G) : PlnG α G := ⟨i, h⟩
instance : Pln Int := ⟨fun h => .inr (.inr ⟨_, h⟩)⟩
instance : Pln Bool := ⟨fun h => .inr (.inl ⟨_, h⟩)⟩
instance : Pln Stc := ⟨fun ⟨a, dx, hv, _⟩ => .inl ⟨a, hv⟩⟩
section
variable {W : Wd} {Γ : Gam} {ta : TA} {te tb to : TE} {B : Bs} {P : PT} {E : L2.St → XK} {x : Xn → Prop} {C : Addr}
theorem ev_callZ {α : Type} {rα : Rep α} {k : α → Prop} (hB : W.B = B) (hx : HX W Γ E x) (h : EvA W ta Γ fun ts => P (fun t => ∃ a : α, t = T a ∧ k a) x ts) : EvK W (tCallZ (spG B P) E ta) Γ k := fun σ H Q G c =>
  h σ H _ G fun vs H1 ts e1 d z => ⟨W, ts, _, x, hB, e1.ok, d, z, fun v H2 t e2 dt ⟨a, ea, q⟩ => by
    subst ea
    exact c v H2 a (e1.trans e2) dt q, hx σ H1 (G.ext e1)⟩
/-- the class of such data is at C, m is none of its fields -/
def OwnM (β : Type) [Rep β] (B : Bs) (C : Addr) (m : Str) (G : Prop) : Prop := ∃ c fl, Ins β c fl ∧ B.cl c = C ∧ m ∉ fl ∧ G
theorem ownM_in {β : Type} [Rep β] {c : Cn} {fl : List Str} [i : Ins β c fl] {B : Bs} {C : Addr} {m : Str} {G : Prop} (hC : B.cl c = C) (hm : m ∉ fl) (h : G) : OwnM β B C m G := ⟨c, fl, i, hC, hm, h⟩
theorem look_none {m : Str} : ∀ {fs : List (Str × V)}, m ∉ fs.map (·.1) → fs.lookup m = none
  | [], _ => rfl
  | (y, v) :: r, h => by
    have h1 : ¬ m = y := fun e => h (by rw [e]; exact List.mem_cons_self)
    have h2 : m ∉ r.map (·.1) := fun e => h (List.mem_cons_of_mem _ e)
    have h3 : (m == y) = false := by
      cases q : (m == y) with
      | false => rfl
      | true => exact absurd (eq_of_beq q) h1
    rw [List.lookup_cons, h3]
    exact look_none h2
theorem ev_methZ {α β : Type} {rα : Rep α} {rβ : Rep β} {m : Str} {k : α → Prop} (hB : W.B = B) (hx : HX W Γ E x)
    (h : EvK W to Γ fun s : β => OwnM β B C m (EvA W ta Γ fun ts => P (fun t => ∃ a : α, t = T a ∧ k a) x (T s :: ts))) : EvK W (tMethZ C m (spG B P) E to ta) Γ k := by
  subst hB
  refine fun σ H Q G c => h σ H _ G fun v H1 s e1 d ⟨cc, fl, iβ, hC, hm, z⟩ => ?_
  subst hC
  obtain ⟨p, dp, fs, hv, _, hH, hfl⟩ := iβ.at_ d
  refine ⟨p, dp, fs, hv, hH, look_none (by rw [hfl]; exact hm), ?_⟩
  refine z σ H1 _ (G.ext e1) fun vs H2 ts e2 d2 z2 => ?_
  exact ⟨W, _, _, x, rfl, e2.ok, .cons (t := T s) (Rep.mono e2.keep d) d2, z2, fun v H3 t e3 dt ⟨a, ea, q⟩ => by
    subst ea
    exact c v H3 a ((e1.trans e2).trans e3) dt q, hx σ H2 ((G.ext e1).ext e2)⟩
theorem ev_binI {α β : Type} {rα : Rep α} {rβ : Rep β} {k : α → Prop} (hB : W.B = B) (hx : HX W Γ E x)
    (h : EvK W to Γ fun s : β => EvK W te Γ fun i : Int => OwnG β B C (P (fun t => ∃ a : α, t = T a ∧ PlnG α (k a)) x [T s, T i])) : EvK W (tBinI C (spG B P) E to te) Γ k := by
  subst hB
  refine fun σ H Q G c => h σ H _ G fun v H1 s e1 d h1 => h1 σ H1 _ (G.ext e1) fun u H2 i e2 d2 ⟨cc, fl, iβ, hC, z⟩ => ?_
  subst hC
  have d' := Rep.mono (W := W.toWc) (a := s) e2.keep d
  obtain ⟨p, dp, fs, hv, _, hH, _⟩ := iβ.at_ d'
  exact ⟨p, dp, fs, i, hv, hH, d2, W, _, _, x, rfl, e2.ok, .cons (t := T s) d' (.cons (t := T i) d2 .nil), z, fun v H3 t e3 dt ⟨a, ea, pα, q⟩ => by
    subst ea
    exact ⟨pα.at_ dt, c v H3 a ((e1.trans e2).trans e3) dt q⟩, hx σ H2 ((G.ext e1).ext e2)⟩
theorem ev_binO {α β : Type} {rα : Rep α} {rβ : Rep β} {k : α → Prop} (hB : W.B = B) (hx : HX W Γ E x)
    (h : EvK W to Γ fun s : β => EvK W te Γ fun s2 : β => OwnG β B C (P (fun t => ∃ a : α, t = T a ∧ PlnG α (k a)) x [T s, T s2])) : EvK W (tBinO C (spG B P) E to te) Γ k := by
  subst hB
  refine fun σ H Q G c => h σ H _ G fun v H1 s e1 d h1 => h1 σ H1 _ (G.ext e1) fun u H2 s2 e2 d2 ⟨cc, fl, iβ, hC, z⟩ => ?_
  subst hC
  have d' := Rep.mono (W := W.toWc) (a := s) e2.keep d
  obtain ⟨p, dp, fs, hv, _, hH, _⟩ := iβ.at_ d'
  obtain ⟨p2, dp2, fs2, hv2, _, hH2, _⟩ := iβ.at_ d2
  exact ⟨p, dp, fs, p2, dp2, fs2, hv, hH, hv2, hH2, W, _, _, x, rfl, e2.ok, .cons (t := T s) d' (.cons (t := T s2) d2 .nil), z, fun v H3 t e3 dt ⟨a, ea, pα, q⟩ => by
    subst ea
    exact ⟨pα.at_ dt, c v H3 a ((e1.trans e2).trans e3) dt q⟩, hx σ H2 ((G.ext e1).ext e2)⟩
theorem ev_negO {α β : Type} {rα : Rep α} {rβ : Rep β} {k : α → Prop} (hB : W.B = B) (hx : HX W Γ E x)
    (h : EvK W to Γ fun s : β => OwnG β B C (P (fun t => ∃ a : α, t = T a ∧ k a) x [T s])) : EvK W (tUnO C (spG B P) E to) Γ k := by
  subst hB
  refine fun σ H Q G c => h σ H _ G fun v H1 s e1 d ⟨cc, fl, iβ, hC, z⟩ => ?_
  subst hC
  obtain ⟨p, dp, fs, hv, _, hH, _⟩ := iβ.at_ d
  exact ⟨p, dp, fs, hv, hH, W, _, _, x, rfl, e1.ok, .cons (t := T s) d .nil, z, fun v H3 t e3 dt ⟨a, ea, q⟩ => by
    subst ea
    exact c v H3 a (e1.trans e3) dt q, hx σ H1 (G.ext e1)⟩
/-! built-ins of ints -/
/-- Stretch(lo, hi), in order or not -/
theorem ev_stretchZ {ta tb : TE} {k : Stc → Prop} (hB : W.B = B) (hC : B.cl .Stretch = C) (hx : HX W Γ E x)
    (h : EvK W ta Γ fun lo : Int => EvK W tb Γ fun hi : Int => (lo ≤ hi → k ⟨lo, hi⟩) ∧ (hi < lo → Small lo ∧ Small hi ∧ x ⟨.BadStretch, [("high", .i hi), ("low", .i lo)]⟩)) : EvK W (tMakeZ C (spSIX B) E (tCons ta (tCons tb tNil))) Γ k := by
  subst hB
  subst hC
  refine fun σ H Q G c => h σ H _ G fun v H1 lo e1 d1 h1 => h1 σ H1 _ (G.ext e1) fun u H2 hi e2 d2 ⟨hle, hlt⟩ => ?_
  intro xx dx nx ndx nex
  have o := e2.ok
  have m1 := fresh_mu o ndx
  have m2 := fresh_mu o nx
  have e3 : ∀ o', Ext W H2 (upd (upd H2 dx (.own xx)) xx o') := fun o' => ⟨fun a u _ q => by rw [upd_ne (ne_of_none q nx), upd_ne (ne_of_none q ndx)]; exact q, W.st _ _ _ (W.st _ _ _ o m1) m2⟩
  refine ⟨xx, dx, lo, hi, by cases d1; cases d2; rfl, upd_same, fun hl => ⟨rfl, ?_⟩, fun hl => ?_⟩
  · have okx : W.ok (upd (upd (upd (upd H2 dx (.own xx)) xx (.ins (W.B.cl .Stretch) dx [])) xx (.ins (W.B.cl .Stretch) dx [("low", .int lo)])) xx (.ins (W.B.cl .Stretch) dx (stcF lo hi))) :=
      W.st _ _ _ (W.st _ _ _ (W.st _ _ _ (W.st _ _ _ o m1) m2) m2) m2
    refine c (.ref xx) _ ⟨lo, hi⟩ ((e1.trans e2).trans ⟨fun a u _ q => ?_, okx⟩) ⟨xx, dx, rfl, m2, upd_same⟩ (hle hl)
    have n1 : a ≠ xx := ne_of_none q nx
    have n2 : a ≠ dx := ne_of_none q ndx
    rw [upd_ne n1, upd_ne n1, upd_ne n1, upd_ne n2]
    exact q
  · obtain ⟨s1, s2, xq⟩ := hlt hl
    refine ⟨s1, s2, fun d hd => ?_⟩
    have e4 := (e3 (.ins (W.B.cl .Stretch) dx []))
    have md := fresh_mu e4.ok hd
    exact hx σ H2 ((G.ext e1).ext e2) _ _ _ (e4.trans (Ext.new (o := .xd [("high", .int hi), ("low", .int lo)]) e4.ok hd)) (.inr ⟨d, _, rfl, md, upd_same, .cons (t := .i hi) rfl (.cons (t := .i lo) rfl .nil)⟩) xq
theorem ev_max2 {k : Int → Prop} (h : EvK W te Γ fun i : Int => EvK W tb Γ fun j : Int => k (max i j)) : EvK W (tCB (fun xs H Q => ∃ i j, xs = [.int i, .int j] ∧ Q (.int (if j > i then j else i)) H) (tCons te (tCons tb tNil))) Γ k := fun σ H Q G c =>
  h σ H _ G fun v H1 i e1 d h1 => h1 σ H1 _ (G.ext e1) fun u H2 j e2 d2 z => ⟨i, j, by rw [d, d2], c _ H2 (max i j) (e1.trans e2) (by show V.int _ = V.int _; congr 1; split <;> omega) z⟩
theorem ev_min2 {k : Int → Prop} (h : EvK W te Γ fun i : Int => EvK W tb Γ fun j : Int => k (min i j)) : EvK W (tCB (fun xs H Q => ∃ i j, xs = [.int i, .int j] ∧ Q (.int (if j < i then j else i)) H) (tCons te (tCons tb tNil))) Γ k := fun σ H Q G c =>
  h σ H _ G fun v H1 i e1 d h1 => h1 σ H1 _ (G.ext e1) fun u H2 j e2 d2 z => ⟨i, j, by rw [d, d2], c _ H2 (min i j) (e1.trans e2) (by show V.int _ = V.int _; congr 1; split <;> omega) z⟩
theorem ev_abs {k : Int → Prop} (h : EvK W te Γ fun i : Int => k (i.natAbs : Int)) : EvK W (tCB (fun xs H Q => ∃ i, xs = [.int i] ∧ Q (.int (if i < 0 then -i else i)) H) (tCons te tNil)) Γ k := fun σ H Q G c =>
  h σ H _ G fun v H1 i e1 d z => ⟨i, by rw [d], c _ H1 (i.natAbs : Int) e1 (by show V.int _ = V.int _; congr 1; split <;> omega) z⟩
theorem ev_sortedI {K : PySem.W.Frag} {k : List Int → Prop} (hK : W.B.K = K) (h : EvK W te Γ fun as : List Int => ∀ bs : List Int, bs.Perm as → bs.Pairwise (· ≤ ·) → k bs) : EvK W (tCB (rSortedI K) (tCons te tNil)) Γ k := by
  subst hK
  refine fun σ H Q G c => h σ H _ G fun v H1 as e1 ⟨p, vs, hv, hp, hd⟩ z => ?_
  obtain rfl := hd.ints
  refine ⟨p, as, by rw [hv], hp.sq, fun bs q hpm hpw hq => ?_⟩
  have e2 := Ext.new (o := .lst (bs.map V.int)) e1.ok hq
  exact c _ _ bs (e1.trans e2) ⟨q, _, rfl, Lq.new (fresh_mu e1.ok hq) upd_same, Dl.of_ints bs⟩ (z bs hpm hpw)
/-! isinstance of own classes -/
structure IsT (K : PySem.W.Frag) (C : Addr) : Prop where
  c : Cls K C
  f : PySem.W.findIn K (.ref C) "__class__" = some (some (.builtin "object.__class__"))
  s : PySem.W.specialIn K (.builtin "object.__class__") "__get__" = some (some (.builtin "getset_descriptor.__get__"))
  t : PySem.W.takesIn K (.builtin "object.__class__") = some true
  m : PySem.W.mroIn K C (.type "object") = some true
theorem kit_self {K : PySem.W.Frag} {C : Addr} : PySem.W.kitOne K (.ref C) (.ref C) = some true := by
  show (if (Value.ref C == Value.ref C) = true then some true else _) = some true
  rw [if_pos (beq_self_eq_true _)]
theorem ev_isiO {β : Type} {rβ : Rep β} {K : PySem.W.Frag} {C2 : Addr} {k : Bool → Prop} (hK : W.B.K = K) (h : EvK W te Γ fun _ : β => ∃ c fl b, Ins β c fl ∧ IsT K (W.B.cl c) ∧ PySem.W.kitOne K (.ref (W.B.cl c)) (.ref C2) = some b ∧ k b) :
    EvK W (tCB (rIsi K) (tCons te (tCons (tC (.ref C2)) tNil))) Γ k := by
  subst hK
  refine fun σ H Q E q => h σ H _ E fun v H1 a e1 d ⟨c, fl, b, i, T, hb, z⟩ => ?_
  obtain ⟨p, dp, fs, hv, _, hH, _⟩ := i.at_ d
  subst hv
  exact ⟨.ref p, .ref C2, _, _, b, rfl, .own C2, .base (.ins hH T.c T.f T.s T.t T.m), hb, q _ H1 b e1 rfl z⟩
end
/-! ### raise, try -/
/-- __init__ of an error: sh says which fields it gets from its arguments -/
def spEr (C : Addr) (sh : List V → List (Str × V) → Prop) : Sp := fun vs H Q E => ∃ a as fs, vs = .ref a :: as ∧ sh as fs ∧ H a = some (exo a C none) ∧
  ∀ d H2, H d = none → d ≠ a → H2 a = some (exo a C (some d)) → H2 d = some (exd d fs) → (∀ b, b ≠ a → b ≠ d → H2 b = H b) → Q .non H2
/-- sh over plain data -/
def ShT (sh : List V → List (Str × V) → Prop) (ts : List Ty) (fs : List (Str × Fv)) : Prop := ts.length ≤ 1000 ∧ ∀ (W : Wc) (H : Hp) vs, DT W H vs ts → ∃ gs, sh vs gs ∧ DF W H gs fs
section
variable {W : Wd} {Γ : Gam} {ta : TA} {te tb to : TE} {x : Xn → Prop} {C : Addr} {R : Po}
theorem sx_raise {c : Cn} {sh : List V → List (Str × V) → Prop} {Wx : WX} {B : Bs} (hB : W.B = B) (hC : B.cl c = C) (hx : HX W Γ (WE Wx) x) (h : EvA W ta Γ fun ts => ∃ fs, ShT sh ts fs ∧ x ⟨c, fs⟩) :
    Sx W (fun _ σ H => tMkO C (spEr C sh) [] ta σ H fun cls d H' => Wx cls d σ H') Γ R := by
  subst hB
  subst hC
  refine fun D σ H G O => h σ H _ G fun vs H1 ts e1 d ⟨fs, ⟨hl, hs⟩, xq⟩ => ⟨by rw [d.length]; exact hl, fun a ha => ?_⟩
  obtain ⟨gs, hsh, hdf⟩ := hs W.toWc H1 vs d
  refine ⟨a, vs ++ [], gs, rfl, by rw [List.append_nil]; exact hsh, upd_same, fun dd H2 hd hda h1 h2 h3 => ⟨rfl, dd, gs, h1, h2, ?_, ?_⟩⟩
  · rw [upd_ne hda] at hd
    exact hd
  · rw [upd_ne hda] at hd
    have e : upd (del H2 a) dd (.xd gs) = upd H1 dd (.xd gs) := by
      funext b
      by_cases hb : b = dd
      · subst hb
        rw [upd_same, upd_same]
      · rw [upd_ne hb, upd_ne hb]
        by_cases hba : b = a
        · subst hba
          rw [del_same, ha]
        · rw [del_ne hba, h3 b hba hb, upd_ne hba]
    rw [e]
    have e2 := Ext.new (o := .xd gs) e1.ok hd
    exact hx σ H1 (G.ext e1) ⟨c, fs⟩ (some dd) _ e2 (.inr ⟨dd, gs, rfl, fresh_mu e1.ok hd, upd_same, hdf.imp fun _ _ z => Fv.mono e2.keep z⟩) xq
/-- W with what is wished of errors in a try -/
def Wd.tr (W : Wd) (Γ : Gam) (Ew : L2.St → XK) (x : Xn → Prop) : Wd where
  toWc := W.toWc
  ok := W.ok
  live := W.live
  st := W.st
  wish := fun H => W.wish H ∧ ∀ (σ : L2.St) (n : Xn) (d : Option Addr) (H2 : Hp), Ext W H H2 → GOk W H2 σ Γ → xden W.toWc H2 d n.fs → x n → Ew σ (.ref (W.B.cl n.c)) d H2
  wst := fun H H' k o w => ⟨W.wst H H' k o w.1, fun σ n d H2 e => w.2 σ n d H2 ⟨fun a u m z => e.keep a u m (k a u m z), e.ok⟩⟩
  hasbox := W.hasbox
  boxset := W.boxset
  boxmu := W.boxmu
  oke := W.oke
theorem GOk.untr {W : Wd} {H : Hp} {σ : L2.St} {Γ Γ' : Gam} {Ew : L2.St → XK} {x : Xn → Prop} (G : GOk (W.tr Γ' Ew x) H σ Γ) : GOk W H σ Γ := ⟨G.ok, G.wish.1, G.at_, G.len⟩
theorem Ext.untr {W : Wd} {H H' : Hp} {Γ' : Gam} {Ew : L2.St → XK} {x : Xn → Prop} (e : Ext (W.tr Γ' Ew x) H H') : Ext W H H' := ⟨e.keep, e.ok⟩
def tTry (K : PySem.W.Frag) (c : Value) (i : Nat) (tb : WX → TS) (ts : Addr → Value → Option Addr → TS) (Wout : WX) : TS := fun D σ H => tb (wAs K c i ts Wout D) D σ H
theorem ps_tryZ {X : Cx} {y n : Str} {c : Value} {i : Nat} {body suite : List Stmt} {b₀ : Stmt} {np pos pos' : Pos} {tb : WX → TS} {ts : Addr → Value → Option Addr → TS} {Wout : WX} (K : PySem.W.Frag) (hs : X.stack = X.env :: X.outer) (hf : X.env.frame = some X.env.locals) (hN : X.N.Nodup) (hi : X.N[i]? = some n) (hln : X.env.kindOf n = some .local) (hc : Names X y c) (tk : Takes X Wout)
    (hb : ∀ (W : WX) (pn : List (Addr × Obj)) (xe : Value → Shared → Prop), Takes (X.tr pn xe) W → PassesOwn (model X.prog X.w) X.A X.env xe → PSs (X.tr pn xe) body (tb W))
    (hsu : ∀ (a : Addr) (oe : Obj) (cls : Value) (d : Option Addr) (pn : List (Addr × Obj)), Zc cls d oe → (∃ vs, oe.data = .fields vs) → PSs (X.suite a ((a, oe) :: pn)) (b₀ :: suite) (ts a cls d)) (hK : X.K = K := by rfl) :
    PS X (.Try body [.ExceptHandler (some (.Name y np)) (some n) (b₀ :: suite) pos'] [] [] pos) (tTry K c i tb ts Wout) := by subst hK; exact ps_try_as hs hf hN hi hln hc tk hb hsu
/-- try: .. except c as n (slot i): .. -/
theorem sx_try {K : PySem.W.Frag} {c : Value} {i : Nat} {tb : WX → TS} {ts : Addr → Value → Option Addr → TS} {Wout : WX} (x : Xn → Prop)
    (hb : ∀ (W' : Wd) (Wx : WX), W'.B = W.B → HX W' Γ (WE Wx) x → Sx W' (tb Wx) Γ R)
    (hs : ∀ a d n, x n → PySem.W.exmOne K (.ref (W.B.cl n.c)) c = some true ∧ Sx W (ts a (.ref (W.B.cl n.c)) d) (Γ.set i (some (T (Er.mk a d n)))) { nx := fun Γ' => R.nx (Γ'.set i none), rt := R.rt, bk := fun Γ' => R.bk (Γ'.set i none), ct := fun Γ' => R.ct (Γ'.set i none) }) :
    Sx W (tTry K c i tb ts Wout) Γ R := fun D σ H G O => by
  have key : ∀ σ n d H2, Ext W H H2 → GOk W H2 σ Γ → xden W.toWc H2 d n.fs → x n → WE (wAs K c i ts Wout D) σ (.ref (W.B.cl n.c)) d H2 := by
    intro σ n d H2 e G2 xd xn
    obtain ⟨h1, _⟩ := hs 0 d n xn
    refine ⟨true, h1, fun _ a ha => ?_, fun q => Bool.noConfusion q⟩
    refine (hs a d n xn).2 _ _ H2 (G2.set i (t := T (Er.mk a d n)) ⟨rfl, xd⟩) ⟨fun σ' H' Γ' e' G' q => ?_, fun v H' t e' dv q => ?_, fun σ' H' Γ' e' G' q => ?_, fun σ' H' Γ' e' G' q => ?_⟩
    · exact O.nx _ H' _ (e.trans e') (G'.unset i) q
    · exact O.rt v H' t (e.trans e') dv q
    · exact O.bk _ H' _ (e.trans e') (G'.unset i) q
    · exact O.ct _ H' _ (e.trans e') (G'.unset i) q
  refine hb (W.tr Γ (WE (wAs K c i ts Wout D)) x) _ rfl (fun σ' H' G' n d H2 e xd xn => ?_) D σ H ⟨G.ok, ⟨G.wish, key⟩, G.at_, G.len⟩ ⟨fun σ' H' Γ' e' G' q => O.nx σ' H' Γ' e'.untr G'.untr q, fun v H' t e' dv q => O.rt v H' t e'.untr dv q, fun σ' H' Γ' e' G' q => O.bk σ' H' Γ' e'.untr G'.untr q, fun σ' H' Γ' e' G' q => O.ct σ' H' Γ' e'.untr G'.untr q⟩
  exact G'.wish.2 σ' n d H2 e.untr (G'.untr.ext e.untr) xd xn
/-- e.f of an error in hand -/
theorem ev_xfI {a : Addr} {cls : Value} {d : Option Addr} {f : Str} {k : Int → Prop} (hC : cls = .ref C) (h : EvK W te Γ fun e : Er => (e.a = a ∧ e.d = d) ∧ ∃ z : Int, e.n.fs.lookup f = some (.i z) ∧ k z) : EvK W (tXf a cls d C f te) Γ k := by
  refine fun σ H Q E c => h σ H _ E fun v H1 e e1 ⟨hv, xd⟩ ⟨⟨ha, hd⟩, z, hf, q⟩ => ?_
  subst ha
  subst hd
  rcases xd with ⟨h0, _⟩ | ⟨dd, vs, h1, _, h3, h4⟩
  · rw [h0] at hf
    cases hf
  · obtain ⟨v, hv2, dv⟩ := h4.at hf
    exact ⟨hv, hC, dd, vs, v, h1, h3, hv2, c v H1 z e1 dv q⟩
theorem ev_xfP {a : Addr} {cls : Value} {d : Option Addr} {f : Str} {k : Int × Int → Prop} (hC : cls = .ref C) (h : EvK W te Γ fun e : Er => (e.a = a ∧ e.d = d) ∧ ∃ z w : Int, e.n.fs.lookup f = some (.p z w) ∧ k (z, w)) : EvK W (tXf a cls d C f te) Γ k := by
  refine fun σ H Q E c => h σ H _ E fun v H1 e e1 ⟨hv, xd⟩ ⟨⟨ha, hd⟩, z, w, hf, q⟩ => ?_
  subst ha
  subst hd
  rcases xd with ⟨h0, _⟩ | ⟨dd, vs, h1, _, h3, h4⟩
  · rw [h0] at hf
    cases hf
  · obtain ⟨v, hv2, dv⟩ := h4.at hf
    exact ⟨hv, hC, dd, vs, v, h1, h3, hv2, c v H1 (z, w) e1 dv q⟩
end
theorem huM {k : Nat} {A : Around} {m : Option Value} (h : Room k A) : (A.mark m).units + 64 < cLine := h.units
section
variable {W : Wd} {Γ : Gam} {te : TE} {t u : TS} {R : Po} {g : TG}
theorem sx_seqA (h : Sx W (tAsg te g) Γ { R with nx := fun Γ' => Sx W u Γ' R }) : Sx W (tSeq (tAsg te g) u) Γ R := sx_seq h
theorem sx_seqD (h : Sx W (tDrop te) Γ { R with nx := fun Γ' => Sx W u Γ' R }) : Sx W (tSeq (tDrop te) u) Γ R := sx_seq h
theorem Sx.imp {R' : Po} (h : Sx W t Γ R') (n : ∀ Γ', R'.nx Γ' → R.nx Γ') (r : ∀ v, R'.rt v → R.rt v) (b : ∀ Γ', R'.bk Γ' → R.bk Γ') (c : ∀ Γ', R'.ct Γ' → R.ct Γ') : Sx W t Γ R := fun D σ H G O =>
  h D σ H G ⟨fun a b' d e f q => O.nx a b' d e f (n _ q), fun a b' d e f q => O.rt a b' d e f (r _ q), fun a b' d e f q => O.bk a b' d e f (b _ q), fun a b' d e f q => O.ct a b' d e f (c _ q)⟩
theorem sx_seqI (I : Gam → Prop) (h : Sx W t Γ { R with nx := I }) (k : ∀ Γ', I Γ' → Sx W u Γ' R) : Sx W (tSeq t u) Γ R := sx_seq (h.imp k (fun _ q => q) (fun _ q => q) fun _ q => q)
end
/-! ### texts -/
/-- the parts of an f-string, no heap changed -/
inductive JP (σ : L2.St) (H : Hp) : List TE → Nat → Prop
  | nil : JP σ H [] 0
  | cons {t : TE} {y : Str} {ts : List TE} {n : Nat} : (∀ Q : VK, Q (.str y) H → t σ H Q) → y.length ≤ 3000 → JP σ H ts n → JP σ H (t :: ts) (n + 1)
theorem js_ok {σ : L2.St} {H : Hp} {Q : Str → Hp → Prop} (k : ∀ out, Q out H) : ∀ {ts : List TE} {n : Nat} {acc : Str}, JP σ H ts n → acc.length + 3000 * n ≤ 100000 → tJs ts acc σ H Q
  | _, _, acc, .nil, _ => k acc
  | _, _, acc, .cons (y := y) (n := n) h hl r, hb => by
    have h2 := Str.length_append acc y
    exact h _ ⟨y, rfl, by unfold sizeLine; omega, js_ok k r (by omega)⟩
theorem Small.of {i : Int} (h1 : -1000000000000000000000000000000 ≤ i) (h2 : i ≤ 1000000000000000000000000000000) : Small i := by
  refine small_of (Nat.lt_of_le_of_lt (m := 1000000000000000000000000000000) (by omega) (by decide))
theorem mko_out {H H2 : Hp} {a d : Addr} {o : HO} {gs : List (Str × V)} (ha : H a = none) (hd : upd H a o d = none) (hda : d ≠ a) (h3 : ∀ b, b ≠ a → b ≠ d → H2 b = upd H a o b) : H d = none ∧ upd (del H2 a) d (.xd gs) = upd H d (.xd gs) := by
  refine ⟨by rw [upd_ne hda] at hd; exact hd, ?_⟩
  funext b
  by_cases hb : b = d
  · subst hb
    rw [upd_same, upd_same]
  · rw [upd_ne hb, upd_ne hb]
    by_cases hba : b = a
    · subst hba
      rw [del_same, ha]
    · rw [del_ne hba, h3 b hba hb, upd_ne hba]
/-- raise of an error with fields, raw -/
theorem raw_raise {C : Addr} {sh : List V → List (Str × V) → Prop} {ta : TA} {σ : L2.St} {H : Hp} {Q : XK} {vs : List V} {gs : List (Str × V)} (ht : ∀ K : List V → Hp → Prop, K vs H → ta σ H K) (hl : vs.length ≤ 1000) (hs : sh vs gs) (k : ∀ d, H d = none → Q (.ref C) (some d) (upd H d (.xd gs))) : tMkO C (spEr C sh) [] ta σ H Q :=
  ht _ ⟨hl, fun a ha => ⟨a, vs ++ [], gs, rfl, by rw [List.append_nil]; exact hs, upd_same, fun d H2 hd hda h1 h2 h3 => by
    obtain ⟨n, e⟩ := mko_out (gs := gs) ha hd hda h3
    exact ⟨rfl, d, gs, h1, h2, n, by rw [e]; exact k d n⟩⟩⟩
theorem isO_self {β : Type} [Rep β] {c : Cn} {fl : List Str} [i : Ins β c fl] {K : PySem.W.Frag} {B : Bs} {C2 : Addr} {k : Bool → Prop} (hT : IsT K (B.cl c)) (hC : B.cl c = C2) (h : k true) : ∃ (c : Cn) (fl : List Str) (b : Bool), Ins β c fl ∧ IsT K (B.cl c) ∧ PySem.W.kitOne K (.ref (B.cl c)) (.ref C2) = some b ∧ k b :=
  ⟨c, fl, true, i, hT, by rw [hC]; exact kit_self, h⟩
theorem isT_of {K : PySem.W.Frag} {W : Wd} {B : Bs} {c : Cn} (h : W.B = B) (t : IsT K (B.cl c)) : IsT K (W.B.cl c) := h ▸ t
theorem cl_of {W : Wd} {B : Bs} {c : Cn} {C : Addr} (h : W.B = B) (t : B.cl c = C) : W.B.cl c = C := h ▸ t
theorem xcl_of {W : Wd} {B : Bs} {c : Cn} {C : Addr} (h : W.B = B) (t : B.cl c = C) : Value.ref (W.B.cl c) = Value.ref C := by rw [h, t]
theorem exm_at {K : PySem.W.Frag} {W : Wd} {B : Bs} {c : Cn} {S C : Addr} (h : W.B = B) (hc : B.cl c = C) (t : PySem.W.exmOne K (.ref C) (.ref S) = some true) : PySem.W.exmOne K (.ref (W.B.cl c)) (.ref S) = some true := by rw [h, hc]; exact t
theorem perm_sum {l1 l2 : List Int} (h : l1.Perm l2) : l1.foldr (· + ·) 0 = l2.foldr (· + ·) 0 := by
  induction h with
  | nil => rfl
  | cons x _ ih => simp only [List.foldr_cons]; rw [ih]
  | swap x y l => simp only [List.foldr_cons]; omega
  | trans _ _ ih1 ih2 => exact ih1.trans ih2
/-- the middle one of three -/
theorem med3 {a b c : Int} {bs : List Int} (h : a ≤ b) (hp : bs.Perm [a, c, b]) (hs : bs.Pairwise (· ≤ ·)) : atI bs 1 = some (max a (min b c)) := by
  have hl := hp.length_eq
  match bs, hl with
  | [x, y, z], _ =>
    simp only [List.pairwise_cons, List.mem_cons, List.not_mem_nil, or_false] at hs
    obtain ⟨h1, h2, _⟩ := hs
    have hxy : x ≤ y := h1 y (.inl rfl)
    have hyz : y ≤ z := h2 z rfl
    have ha : a ∈ [x, y, z] := hp.symm.subset (by simp)
    have hb : b ∈ [x, y, z] := hp.symm.subset (by simp)
    have hc : c ∈ [x, y, z] := hp.symm.subset (by simp)
    have hx : x ∈ [a, c, b] := hp.subset (by simp)
    have hy : y ∈ [a, c, b] := hp.subset (by simp)
    have hz : z ∈ [a, c, b] := hp.subset (by simp)
    have hsum : x + (y + (z + 0)) = a + (c + (b + 0)) := by
      exact perm_sum hp
    simp only [List.mem_cons, List.not_mem_nil, or_false] at ha hb hc hx hy hz
    show some y = some _
    congr 1
    omega
theorem fmt_int {σ : L2.St} {H : Hp} {te : TE} {i : Int} (h : ∀ Q : VK, Q (.int i) H → te σ H Q) (s : Small i) : ∀ Q : VK, Q (.str (toString i)) H → tFmt te σ H Q := fun Q q => h _ (.inr ⟨i, rfl, s, q⟩)
theorem txt_len {i : Int} (s : Small i) : (Str.ofString (toString i)).length ≤ 3000 := by
  have h := PySem.int_text_length_le (a := i) (k := 1920) (by decide) s
  rw [PySem.ofString_length]
  omega
section
variable {W : Wd} {Γ : Gam} {te tb to : TE}
/-- an f-string over plain data -/
def EvJ (W : Wd) (ts : List TE) (Γ : Gam) (acc : Str) (k : Str → Prop) : Prop := ∀ σ H (Q : Str → Hp → Prop), GOk W H σ Γ → (∀ out H', Ext W H H' → k out → Q out H') → tJs ts acc σ H Q
theorem ev_joined {ts : List TE} {k : Str → Prop} (h : EvJ W ts Γ Str.empty k) : EvK W (fun σ H Q => tJs ts Str.empty σ H fun out H1 => Q (.str out) H1) Γ k := fun σ H Q G c => h σ H _ G fun out H1 e q => c _ H1 out e rfl q
theorem ej_nil {acc : Str} {k : Str → Prop} (q : k acc) : EvJ W [] Γ acc k := fun σ H Q G c => c acc H (Ext.refl G.ok) q
theorem ej_cons {t : TE} {ts : List TE} {acc : Str} {k : Str → Prop} (h : EvK W t Γ fun y : Str => (acc ++ y).length ≤ 1000000 ∧ EvJ W ts Γ (acc ++ y) k) : EvJ W (t :: ts) Γ acc k := fun σ H Q G c =>
  h σ H _ G fun v H1 y e d ⟨hl, z⟩ => ⟨y, d, Nat.le_trans hl (by decide), z σ H1 _ (G.ext e) fun out H2 e2 q => c out H2 (e.trans e2) q⟩
theorem ev_fmtI {k : Str → Prop} (h : EvK W te Γ fun i : Int => Small i ∧ k (toString i)) : EvK W (tFmt te) Γ k := fun σ H Q G c =>
  h σ H _ G fun v H1 i e d ⟨s, q⟩ => .inr ⟨i, d, s, c _ H1 _ e rfl q⟩
theorem ev_fmtS {k : Str → Prop} (h : EvK W te Γ fun y : Str => y.length ≤ 1000000 ∧ k y) : EvK W (tFmt te) Γ k := fun σ H Q G c =>
  h σ H _ G fun v H1 y e d ⟨s, q⟩ => .inl ⟨y, d, Nat.le_trans s (by decide), c _ H1 y e rfl q⟩
end
/-! ### __init__ of errors -/
theorem err_one {K : PySem.W.Frag} {C a : Addr} {f1 : Str} {x : V} {D : Ends} {σ : L2.St} {H : Hp} {first : TE} (T : OexC K C) (n1 : PySem.W.findIn K (.ref C) f1 = some none) (h0 : σ[0]? = some (some (.ref a))) (h1 : σ[1]? = some (some x))
    (hF : ∀ Q : VK, Q .non H → first σ H Q) (ha : H a = some (exo a C none)) (k : ∀ d H2, H d = none → d ≠ a → H2 a = some (exo a C (some d)) → H2 d = some (exd d [(f1, x)]) → (∀ b, b ≠ a → b ≠ d → H2 b = H b) → D.nx σ H2) :
    tSeq (tDrop first) (tOst K f1 (tVar 0) (tVar 1)) D σ H := by
  refine hF _ ⟨x, h1, .ref a, h0, a, C, rfl, T, n1, .inl ⟨ha, fun d hd hda => ?_⟩⟩
  exact k d _ hd hda upd_same (by rw [upd_ne hda]; exact upd_same) fun b hb hb2 => by rw [upd_ne hb, upd_ne hb2]
theorem err_two {K : PySem.W.Frag} {C a : Addr} {f1 f2 : Str} {x y : V} {D : Ends} {σ : L2.St} {H : Hp} {first : TE} (T : OexC K C) (n1 : PySem.W.findIn K (.ref C) f1 = some none) (n2 : PySem.W.findIn K (.ref C) f2 = some none) (h0 : σ[0]? = some (some (.ref a))) (h1 : σ[1]? = some (some x)) (h2 : σ[2]? = some (some y))
    (hF : ∀ Q : VK, Q .non H → first σ H Q) (ha : H a = some (exo a C none)) (k : ∀ d H2, H d = none → d ≠ a → H2 a = some (exo a C (some d)) → H2 d = some (exd d [(f2, y), (f1, x)]) → (∀ b, b ≠ a → b ≠ d → H2 b = H b) → D.nx σ H2) :
    tSeq (tDrop first) (tSeq (tOst K f1 (tVar 0) (tVar 1)) (tOst K f2 (tVar 0) (tVar 2))) D σ H := by
  refine hF _ ⟨x, h1, .ref a, h0, a, C, rfl, T, n1, .inl ⟨ha, fun d hd hda => ?_⟩⟩
  refine ⟨y, h2, .ref a, h0, a, C, rfl, T, n2, .inr ⟨d, [(f1, x)], upd_same, by rw [upd_ne hda]; exact upd_same, by show 1 ≤ 900; decide, ?_⟩⟩
  exact k d _ hd hda (by rw [upd_ne (Ne.symm hda)]; exact upd_same) upd_same fun b hb hb2 => by rw [upd_ne hb2, upd_ne hb, upd_ne hb2]
/-- GaugeError.__init__(self, text) -/
theorem first_ge {K : PySem.W.Frag} {C a : Addr} {σ : L2.St} {H : Hp} {J : TE} (T : OexC K C) (h0 : σ[0]? = some (some (.ref a))) (ha : H a = some (exo a C none)) (hJ : ∀ Q : VK, (∀ y, Q (.str y) H) → J σ H Q) : ∀ Q : VK, Q .non H → tVeI K (tCons (tVar 0) (tCons J tNil)) σ H Q := fun Q q =>
  ⟨_, h0, hJ _ fun y => ⟨a, C, _, rfl, by show 1 ≤ 1000; decide, T, ha, q⟩⟩
theorem var_is {σ : L2.St} {H : Hp} {i : Nat} {v : V} (h : σ[i]? = some (some v)) : ∀ Q : VK, Q v H → tVar i σ H Q := fun Q q => ⟨v, h, q⟩
theorem c_is {σ : L2.St} {H : Hp} {v : V} : ∀ Q : VK, Q v H → tC v σ H Q := fun Q q => q
/-- an error of the class at E is what «except S» names -/
theorem exm_of {K : PySem.W.Frag} {E S : Addr} (h1 : PySem.W.subIn K (.ref S) (.type "BaseException") = some true) (h2 : PySem.W.isClsIn K S = true) (h3 : PySem.W.typeIn K (.ref S) = some (.type "type")) (h4 : PySem.W.subIn K (.ref E) (.ref S) = some true) :
    PySem.W.exmOne K (.ref E) (.ref S) = some true := by
  have e1 : (PySem.W.subIn K (.ref S) (.type "BaseException") == some true) = true := by rw [h1] <;> rfl
  have e2 : ((PySem.W.clsIn K S).isSome && PySem.W.typeIn K (.ref S) == some (.type "type")) = true := by
    have h2' : (PySem.W.clsIn K S).isSome = true := h2
    rw [h2', h3] <;> rfl
  show (if (PySem.W.subIn K (.ref S) (.type "BaseException") == some true) = true then (if ((PySem.W.clsIn K S).isSome && PySem.W.typeIn K (.ref S) == some (.type "type")) = true then PySem.W.subIn K (.ref E) (.ref S) else none) else none) = some true
  rw [if_pos e1, if_pos e2]
  exact h4
end G
set_option maxRecDepth 100000
set_option maxHeartbeats 400000
set_option Elab.async false
set_option linter.all false
namespace G
open PySem PySem.Spec PyProof.Rows L2
theorem class_find {K : PySem.W.Frag} {D : Addr} {od : Option Obj} {name : Str} {a g : Value} (hd : PySem.W.hasDictIn K D = true) (ha : PySem.W.findIn K (.ref D) name = some (some a)) (hn : PySem.W.specialIn K a "__get__" = some (some g)) (ht : PySem.W.takesIn K a = some true) :
    PySem.W.findObj K D od name = some (.bind g a) := by
  unfold PySem.W.hasDictIn at hd
  cases hc : PySem.W.clsIn K D with
  | none => rw [hc] at hd; cases hd
  | some cd =>
    unfold PySem.W.findObj
    rw [hc, Option.bind_some, ha, Option.bind_some]
    show (PySem.W.specialIn K a "__get__").bind _ = _
    rw [hn, Option.bind_some]
    show (PySem.W.takesIn K a).bind _ = _
    rw [ht, Option.bind_some]
theorem chk1 : builtinKind "BaseException.__getattribute__" = some Manifest.AttrKind.slot := PySem.W.kin_classE._proof_2
theorem chk2 : splitId "BaseException.__getattribute__" = some ("BaseException", "__getattribute__") := PySem.W.kin_classE._proof_3
theorem chk3 (x : Addr) (v : Value) : argsOk "BaseException.__getattribute__" { pos := Value.ref x :: [v], kw := [] } := F.args_bexc_ga _ _
theorem chk_aux {M : Model} {A : Around} {E : Value → Shared → Prop} {s : Shared} {x : Addr} {v : Value} {Q : Unit → Shared → Prop} (hi : PySem.W.Looks M s.heap (isInstance (.ref x) (.type "BaseException")) true) (q : Q () s) :
    wpAny M A (checkBuiltinCall "BaseException.__getattribute__" { pos := [.ref x, v] }) Q E s := by
  have := @PySem.W.check_slot M A E s "BaseException.__getattribute__" "BaseException" "__getattribute__" (.ref x) [v] [] Q chk1 chk2 hi (chk3 x v) q
  exact this
theorem exc_class {prog : Program} {w : World} {A : Around} {E : Value → Shared → Prop} {s : Shared} {K : PySem.W.Frag} {x D : Addr} {ox : Obj} {od : Option Obj} {Q : Option Value → Shared → Prop}
    (T : ExcC K D) (X : K.In s.heap) (J : PySem.W.InstAt s.heap x ox D od) (q : Q (some (.ref D)) { heap := s.heap, gens := s.gens, drawn := s.drawn, toks := s.toks + 1, os := s.os }) :
    wpAny (model prog w) A (getAttr? (.ref x) "__class__") Q E s := by
  obtain ⟨h, g, d, t, os⟩ := s
  have hf := class_find (od := od) T.hd T.ha T.hn T.ht
  have e1 : (onTheHeap (Value.ref D) && (Value.builtin "BaseException.__getattribute__" == Value.builtin "object.__getattribute__")) = false := by
    rw [show (Value.builtin "BaseException.__getattribute__" == Value.builtin "object.__getattribute__") = false by decide +kernel, Bool.and_false]
  unfold getAttr?
  refine wpAny_bind (wpAny_mkText ?_)
  unfold getAttrBy?
  refine wpAny_bind (wpAny_attempt ?_)
  unfold getAttrBy
  refine wpAny_holding (wpAny_bind (PySem.W.Looks.at J.type (wpAny_bind (PySem.W.Looks.at (PySem.W.looks_findIn X T.hg) ?_))))
  show wpAny _ _ (if (onTheHeap (Value.ref D) && (Value.builtin "BaseException.__getattribute__" == Value.builtin "object.__getattribute__")) = true then getAttrEveryday _ _ _ else getAttrByItsOwn _ _ _ _ _ _) _ _ _
  rw [e1, if_neg Bool.false_ne_true]
  unfold getAttrByItsOwn
  refine wpAny_bind (PySem.W.Looks.at (t := hookBefore (.ref D)) (show PySem.W.Looks _ _ (typeLookup (.ref D) "__getattr__") none from PySem.W.looks_findIn X T.hk) ?_)
  refine wpAny_bind (wpAny_attempt (wpAny_holding ?_))
  show wpAny _ _ (boundAndCalled _ _ _) _ _ _
  unfold boundAndCalled
  refine wpAny_bind (wpAny_of_eq ((ExcAttrFacts.ga F.excAttr_ValueError).bind _) ?_)
  show wpAny _ _ (call (.builtin "BaseException.__getattribute__") [.ref x, .str "__class__" t]) _ _ _
  refine wpAny_call ?_
  have hi : PySem.W.Looks (model prog w) h (isInstance (.ref x) (.type "BaseException")) true := PySem.W.Looks.andThen J.type (PySem.W.looks_subIn X T.hs)
  refine codeAny_call_builtin (b := Builtin.«object.__getattribute__») (Slot.plain (ExcAttrFacts.ga F.excAttr_ValueError)) F.entry_bexc_ga ?_
  refine chk_aux hi ?_
  unfold Builtin.«object.__getattribute__»
  refine wpAny_bind (wpAny_of_eq (a := (Value.ref x, [Value.str "__class__" t])) rfl ?_)
  refine wpAny_bind (wpAny_of_eq (a := ("__class__" : Str)) rfl ?_)
  refine wpAny_bind (PySem.W.Looks.at J.type (wpAny_bind (PySem.W.Looks.at (PySem.W.looks_find X J hf) ?_)))
  show wpAny _ _ (do let v ← holding [Value.builtin "object.__class__"] (call (.builtin "getset_descriptor.__get__") [.builtin "object.__class__", .ref x, .ref D]); ret v) _ _ _
  refine wpAny_bind (wpAny_holding (wpAny_call (PySem.W.class_get X J T.hm ?_)))
  show wpAny _ _ (ret (Value.ref D)) _ _ _
  refine wpAny_of_eq (a := Fin.done (.ret (.ref D))) rfl ?_
  show wpAny _ _ (handedOut (.ref D)) _ _ _
  refine wpAny_of_eq (a := Value.ref D) rfl ?_
  refine wpAny_of_eq (a := some (Value.ref D)) rfl ?_
  exact q
theorem kitx_excF (s0 : Shared) {K : PySem.W.Frag} {x D : Addr} {ox : Obj} {od : Option Obj} (T : ExcC K D) : PySem.W.KitX K (.ref x) (.ref D) fun h => PySem.W.InstAt h x ox D od :=
  ⟨fun M h X J => J.type, fun M h X J => PySem.W.mc_isType (s := { s0 with heap := h }) X T.hd, (PySem.W.handS_kitx_exc (x := x) (ox := ox) T.hg T.hk T.hs T.hd T.ha T.hn T.ht T.hm).ne, fun X J q => exc_class T X J q⟩
/-- isinstance(e, c) of the error in hand, with or without a dict -/
def rIsF (K : PySem.W.Frag) (cls : Value) (d : Option Addr) (a : Addr) : List V → Hp → VK → Prop := fun xs H Q => ∃ D c cv b, cls = .ref D ∧ ExcC K D ∧ (d = none ∨ ∃ dd fs, d = some dd ∧ H dd = some (.xd fs)) ∧ xs = [.ref a, c] ∧ (∀ u, L2.RelV c u → u = cv) ∧ PySem.W.kitOne K (.ref D) cv = some b ∧ Q (.bl b) H
theorem call_isF {X : Cx} {a : Addr} {oe : Obj} {cls : Value} {d : Option Addr} {pn : List (Addr × Obj)} (K : PySem.W.Frag) (hz : Zc cls d oe) (hf : ∃ vs, oe.data = .fields vs) (hK : X.K = K := by rfl) :
    CallR (X.suite a ((a, oe) :: pn)) (.builtin "isinstance") (rIsF K cls d a) := by
  subst hK
  intro pins s σ H xs us Q I r h
  obtain ⟨D, c, cv, b, hcls, T, hd, rfl, hc, hk, q⟩ := h
  subst hcls
  cases r with
  | @cons _ u0 _ ur ra rr =>
  cases rr with
  | @cons _ u1 _ ur2 rb rn =>
  cases rn
  obtain rfl : u0 = Value.ref a := ra
  obtain rfl : u1 = cv := hc _ rb
  obtain ⟨hg, _⟩ := I.pin (a, oe) (List.mem_append_left _ List.mem_cons_self)
  obtain ⟨vs, hvs⟩ := hf
  have J : ∃ od, PySem.W.InstAt s.heap a oe D od := by
    rcases hd with hd | ⟨dd, fs, hd, hH⟩
    · refine ⟨none, hg, hz.1, by unfold PySem.W.notCls; rw [hvs], ?_⟩
      rw [hz.2, hd]
      trivial
    · obtain ⟨mA, hN, _⟩ := I.hok dd _ hH
      obtain ⟨o, es, ep, ho, _⟩ := hN
      refine ⟨some o, hg, hz.1, by unfold PySem.W.notCls; rw [hvs], ?_⟩
      rw [hz.2, hd]
      exact ho
  obtain ⟨od, J⟩ := J
  refine PySem.W.kia_one (kitx_excF s (ox := oe) (od := od) T) I.kIn J hk (by intro e; cases e) fun tk => ⟨.bl b, H, I.tok tk, rfl, q⟩
section
variable {W : Wd} {Γ : Gam} {te : TE}
theorem ev_isF {K : PySem.W.Frag} {B : Bs} {cls : Value} {d : Option Addr} {a : Addr} {v : V} {k : Bool → Prop} (hB : W.B = B) (hK : B.K = K)
    (h : EvK W te Γ fun e : Er => (e.a = a ∧ e.d = d) ∧ ∃ D cv b, cls = .ref D ∧ ExcC K D ∧ (∀ u, L2.RelV v u → u = cv) ∧ PySem.W.kitOne K (.ref D) cv = some b ∧ k b) : EvK W (tCB (rIsF K cls d a) (tCons te (tCons (tC v) tNil))) Γ k := by
  refine fun σ H Q E q => h σ H _ E fun u H1 e e1 ⟨hv, xd⟩ ⟨⟨ha, hd⟩, D, cv, b, hcls, T, hc, hk, z⟩ => ?_
  subst ha
  subst hd
  refine ⟨D, v, cv, b, hcls, T, ?_, by rw [hv], hc, hk, q _ H1 b e1 rfl z⟩
  rcases xd with ⟨_, h0⟩ | ⟨dd, vs, h1, _, h3, _⟩
  · exact .inl h0
  · exact .inr ⟨dd, vs, h1, h3⟩
theorem rel_ref {C : Addr} : ∀ u, L2.RelV (.ref C) u → u = Value.ref C := fun _ h => h
theorem rel_ty {n : String} : ∀ u, L2.RelV (.ty n) u → u = Value.type n := fun _ h => h
/-- isinstance of an own error and an own class -/
theorem kit_own {K : PySem.W.Frag} {E C : Addr} {b : Bool} (h2 : PySem.W.isClsIn K C = true) (h3 : PySem.W.typeIn K (.ref C) = some (.type "type")) (h4 : PySem.W.subIn K (.ref E) (.ref C) = some b) (hne : (Value.ref E == Value.ref C) = false ∨ b = true) :
    PySem.W.kitOne K (.ref E) (.ref C) = some b := by
  have e2 : ((PySem.W.clsIn K C).isSome && PySem.W.typeIn K (.ref C) == some (.type "type")) = true := by
    have h2' : (PySem.W.clsIn K C).isSome = true := h2
    rw [h2', h3] <;> rfl
  show (if (Value.ref E == Value.ref C) = true then some true else (if ((PySem.W.clsIn K C).isSome && PySem.W.typeIn K (.ref C) == some (.type "type")) = true then PySem.W.subIn K (.ref E) (.ref C) else none)) = some b
  by_cases hq : (Value.ref E == Value.ref C) = true
  · rw [if_pos hq]
    rcases hne with h | h
    · rw [h] at hq; cases hq
    · rw [h]
  · rw [if_neg hq, if_pos e2]
    exact h4
end
theorem chkne {M : Model} {A : Around} {E : Value → Shared → Prop} {s : Shared} {x : Addr} {v : Value} {Q : Unit → Shared → Prop} (hi : PySem.W.Looks M s.heap (isInstance (.ref x) (.type "object")) true) (q : Q () s) :
    wpAny M A (checkBuiltinCall "object.__ne__" { pos := [.ref x, v] }) Q E s := by
  have := @PySem.W.check_slot M A E s "object.__ne__" "object" "__ne__" (.ref x) [v] [] Q F.cmpKind_ne F.cmpSplit_ne hi (F.cmpArgs_ne _ _) q
  exact this
theorem call_ne {prog : Program} {w : World} {A : Around} {E : Value → Shared → Prop} {s : Shared} {K : PySem.W.Frag} {x C f : Addr} {ox : Obj} {od : Option Obj} {b : Value} {Q : Value → Shared → Prop}
    (hu : A.units + 1 < cLine) (X : K.In s.heap) (J : PySem.W.InstAt s.heap x ox C od) (heq : PySem.W.findIn K (.ref C) "__eq__" = some (some (.ref f))) (hf : PySem.W.isFn K (.ref f) = true) (hm : PySem.W.subIn K (.ref C) (.type "object") = some true)
    (hc : wpAny (model prog w) A.in1 (call (.ref f) [.ref x, b]) (fun r s' => ∃ k, r = .bool k ∧ Q (.bool !k) s') E s) :
    wpAny (model prog w) A (call (.builtin "object.__ne__") [.ref x, b]) Q E s := by
  refine wpAny_call ?_
  have hi : PySem.W.Looks (model prog w) s.heap (isInstance (.ref x) (.type "object")) true := PySem.W.Looks.andThen J.type (PySem.W.looks_subIn X hm)
  refine codeAny_call_builtin (b := Builtin.«object.__ne__») (Slot.plain F.slot_object_ne) F.cmpEntry_ne ?_
  refine chkne hi ?_
  unfold Builtin.«object.__ne__»
  refine wpAny_bind (wpAny_of_eq (a := (Value.ref x, [b])) rfl ?_)
  refine wpAny_bind (wpAny_cRoomFor (by show A.units + 1 < cLine; exact hu) ?_)
  refine wpAny_bind (PySem.W.ifBound_K X J heq hf (thn hc fun r s' h => ?_))
  obtain ⟨k, rfl, q⟩ := h
  show wpAny _ _ (do let v ← truthy (.bool k); ret (.bool !v)) _ _ _
  refine wpAny_bind (wpAny_truthy_bool ?_)
  refine wpAny_of_eq (a := Fin.done (.ret (.bool !k))) rfl ?_
  exact q
theorem try_ne {prog : Program} {w : World} {A : Around} {E : Value → Shared → Prop} {s : Shared} {K : PySem.W.Frag} {x C f : Addr} {ox : Obj} {od : Option Obj} {b : Value} {Q : Option Value → Shared → Prop}
    (hu : A.units + 1 < cLine) (X : K.In s.heap) (J : PySem.W.InstAt s.heap x ox C od) (hne : PySem.W.findIn K (.ref C) "__ne__" = some (some (.builtin "object.__ne__"))) (heq : PySem.W.findIn K (.ref C) "__eq__" = some (some (.ref f))) (hf : PySem.W.isFn K (.ref f) = true) (hm : PySem.W.subIn K (.ref C) (.type "object") = some true)
    (hc : wpAny (model prog w) A.in1 (call (.ref f) [.ref x, b]) (fun r s' => ∃ k, r = .bool k ∧ Q (some (.bool !k)) s') E s) :
    wpAny (model prog w) A (tryCompare (.ref x) "__ne__" b) Q E s := by
  rw [tryCompare.eq_1, callSpecialIfBound?.eq_1]
  refine wpAny_bind (wpAny_holding (wpAny_bind ?_))
  unfold bindSpecialIfBound?
  refine wpAny_bind (PySem.W.Looks.here (r := some (Value.builtin "object.__ne__")) (PySem.W.Looks.andThen J.type (PySem.W.looks_findIn X hne)) ?_)
  refine wpAny_bind (wpAny_askSetting ?_)
  have hb := F.slot_object_ne.bind (.ref x)
  have fin : wpAny (model prog w) A (do let r ← call (.builtin "object.__ne__") ([.ref x] ++ [b]); pure (some r)) (fun a s' => wpAny (model prog w) A (match a with | some Value.notImplemented => pure none | none => pure none | some v => pure (some v)) Q E s') E s := by
    refine wpAny_bind (call_ne hu X J heq hf hm (thn hc fun r s' h => ?_))
    obtain ⟨k, rfl, q⟩ := h
    refine ⟨k, rfl, wpAny_of_eq rfl (wpAny_of_eq rfl q)⟩
  show wpAny (model prog w) A (if _ = true then (do let r ← bindSpecial (.builtin "object.__ne__") (.ref x); pure (some r)) else Sem.tryCatch (do let r ← bindSpecial (.builtin "object.__ne__") (.ref x); pure (some r)) _) _ _ _
  rw [hb]
  split
  · exact wpAny_of_eq (a := some (Value.builtin "object.__ne__", [Value.ref x])) rfl fin
  · exact wpAny_of_eq (a := some (Value.builtin "object.__ne__", [Value.ref x])) rfl fin
theorem ne_own {prog : Program} {w : World} {A : Around} {E : Value → Shared → Prop} {s : Shared} {K : PySem.W.Frag} {x C f : Addr} {ox : Obj} {od : Option Obj} {b tb : Value} {Q : Value → Shared → Prop}
    (hu : A.units + 1 < cLine) (X : K.In s.heap) (J : PySem.W.InstAt s.heap x ox C od) (Y : PySem.W.Looks (model prog w) s.heap (typeOf b) tb) (hn : PySem.W.notFirst K C tb = true) (hne : PySem.W.findIn K (.ref C) "__ne__" = some (some (.builtin "object.__ne__"))) (heq : PySem.W.findIn K (.ref C) "__eq__" = some (some (.ref f))) (hf : PySem.W.isFn K (.ref f) = true) (hm : PySem.W.subIn K (.ref C) (.type "object") = some true)
    (hc : wpAny (model prog w) A.in1 (call (.ref f) [.ref x, b]) (fun r s' => ∃ k, r = .bool k ∧ Q (.bool !k) s') E s) :
    wpAny (model prog w) A (richCompare .NotEq (.ref x) b) Q E s := by
  rw [richCompare.eq_1]
  refine wpAny_holding (wpAny_bind (wpAny_cRoomFor (by omega) ?_))
  rw [oneThing_ref]
  have fin : wpAny (model prog w) A (tryCompare (.ref x) "__ne__" b) (fun a s' => ∃ k, a = some (Value.bool k) ∧ Q (.bool k) s') E s := try_ne hu X J hne heq hf hm (thn hc fun r s' ⟨k, e, q⟩ => ⟨k, e, _, rfl, q⟩)
  refine wpAny_bind (PySem.W.Looks.here J.type (wpAny_bind (PySem.W.Looks.here Y ?_)))
  by_cases ht : (Value.ref C != tb) = true
  · rw [if_pos ht]
    have hs : PySem.W.subIn K tb (.ref C) = some false := by
      unfold PySem.W.notFirst at hn
      have h1 : (tb == Value.ref C) = false := by
        cases q : (tb == Value.ref C) with
        | false => rfl
        | true => rw [eq_of_beq q] at ht; simp at ht
      rw [h1, Bool.false_or] at hn
      exact eq_of_beq hn
    refine wpAny_bind (PySem.W.Looks.here (PySem.W.looks_subIn X hs) ?_)
    refine wpAny_bind (thn fin fun a s' h => ?_)
    obtain ⟨k, rfl, q⟩ := h
    exact wpAny_of_eq rfl q
  · rw [if_neg ht]
    refine wpAny_bind (wpAny_of_eq (a := false) rfl ?_)
    refine wpAny_bind (thn fin fun a s' h => ?_)
    obtain ⟨k, rfl, q⟩ := h
    exact wpAny_of_eq rfl q
/-! ### == and != of own objects -/
/-- the class of a value -/
inductive TyV (K : PySem.W.Frag) (H : Hp) : V → Value → Prop
  | non : TyV K H .non (.type "NoneType")
  | ins {a C dx : Addr} {fs : List (Str × V)} : H a = some (.ins C dx fs) → TyV K H (.ref a) (.ref C)
  | tup {a : Addr} {xs : List V} : SqT K H a xs → TyV K H (.ref a) (.type "tuple")
  | lst {a : Addr} {xs : List V} : SqL K H a xs → TyV K H (.ref a) (.type "list")
section
variable {X : Cx} {CX : CXT} {n : Nat} {f C : Addr} {sp : Sp} {E : XK}
theorem tyV_looks {pins : List (Addr × Obj)} {σ : L2.St} {H : Hp} {s : Shared} {x : V} {u t : Value} {M : Model} (I : L2.Inv X pins σ H s) (r : L2.RelV x u) (h : TyV X.K H x t) : PySem.W.Looks M s.heap (typeOf u) t := by
  cases h with
  | non =>
    obtain rfl : u = Value.none := r
    exact (PySem.W.kitx_none (K := X.K)).ty M s.heap I.kIn trivial
  | ins ea =>
    obtain rfl : u = Value.ref _ := r
    obtain ⟨od, J⟩ := inst_of I ea
    exact J.type
  | tup hs =>
    obtain rfl : u = Value.ref _ := r
    obtain ⟨its, _, ⟨o, ho, hc, _⟩, _⟩ := I.tuple hs
    exact PySem.W.kitx_tuple.ty M s.heap I.kIn ⟨o, ho, hc⟩
  | lst hs =>
    obtain rfl : u = Value.ref _ := r
    obtain ⟨its, _, ⟨o, n, ho, hc, _⟩, _⟩ := I.list hs
    exact PySem.W.kitx_list.ty M s.heap I.kIn ⟨o, ho, hc⟩
theorem run_fnR1 {pins : List (Addr × Obj)} {σ : L2.St} {H : Hp} {s : Shared} {Q : VK} {us : List Value} {vs : List V} (F : FnR X.prog X.w X.K X.mg X.base CX n f sp) (hr : Room (n + 1) X.A) (hx : Passes CX X E) (I : L2.Inv X pins σ H s) (r : Vals vs us) (q : sp vs H Q E) :
    wpAny (model X.prog X.w) X.A.in1 (call (.ref f) us) (EP X pins σ Q) X.xe s := by
  have E1 : Env0 X.prog X.w X.K X.mg X.base X.A.in1 X.stack s H := ⟨(Around.in1_frames X.A).trans I.env0.frames, I.env0.mod, I.env0.bs, I.env0.bsz, I.env0.funs, I.env0.frf, I.env0.hok, I.env0.bare⟩
  refine wpAny_call (codeAny_mono (F _ X.stack _ _ us _ _ E hr.in1 E1 r q) fun r s' h => ?_)
  cases r with
  | error e => exact hx pins σ H s e s' I h
  | ok fl =>
    cases fl with
    | ret u =>
      obtain ⟨v, H2, os2, bare2, un2, hok2, rv, qv⟩ := h
      exact ⟨v, H2, I.call' os2 un2 hok2 bare2 (fun b hb => (nomatch hb)), rv, qv⟩
    | next => exact False.elim h
    | brk => exact False.elim h
    | cont => exact False.elim h
/-- what the text says of == of the class -/
structure EqT (K : PySem.W.Frag) (C f : Addr) : Prop where
  ne : PySem.W.findIn K (.ref C) "__ne__" = some (some (.builtin "object.__ne__"))
  eq : PySem.W.findIn K (.ref C) "__eq__" = some (some (.ref f))
  fn : PySem.W.isFn K (.ref f) = true
  ob : PySem.W.subIn K (.ref C) (.type "object") = some true
def rEqO (K : PySem.W.Frag) (C : Addr) (sp : Sp) (E : XK) : R2 := fun x y H Q => ∃ a dx fs tb, x = .ref a ∧ H a = some (.ins C dx fs) ∧ TyV K H y tb ∧ PySem.W.notFirst K C tb = true ∧ sp [x, y] H (fun v H' => ∃ b, v = .bl b ∧ Q (.bl b) H') E
def rNeO (K : PySem.W.Frag) (C : Addr) (sp : Sp) (E : XK) : R2 := fun x y H Q => ∃ a dx fs tb, x = .ref a ∧ H a = some (.ins C dx fs) ∧ TyV K H y tb ∧ PySem.W.notFirst K C tb = true ∧ sp [x, y] H (fun v H' => ∃ b, v = .bl b ∧ Q (.bl (!b)) H') E
theorem op_eqO (K : PySem.W.Frag) (T : EqT X.K C f) (F : FnR X.prog X.w X.K X.mg X.base CX n f sp) (hr : Room (n + 1) X.A) (hx : Passes CX X E) (hK : X.K = K := by rfl) : OpR X (compareOp .Eq) (rEqO K C sp E) := by
  subst hK
  intro pins s σ H x y v u Q I rx ry h
  obtain ⟨a, dx, fs, tb, rfl, ea, ht, hn, q⟩ := h
  cases (show v = Value.ref a from rx)
  obtain ⟨od, J⟩ := inst_of I ea
  obtain ⟨m', hF⟩ := I.fr
  have hu := hr.units
  show wpAny _ _ (richCompare .Eq _ _) _ _ _
  refine PySem.W.cmp_K (by omega) hF I.ok.mod.kin J (tyV_looks I ry ht) hn T.eq T.fn (wpAny_mono (wpAny_call (run_fnR (us := [.ref a, u]) (vs := [.ref a, y]) F (hr.mono (Nat.le_succ _)) hx I (.cons rx (.cons ry .nil)) q)) (fun w s' z => ?_) fun _ _ x => x)
  obtain ⟨z', H', I', rz, b, eb, qz⟩ := z
  subst eb
  cases (show w = Value.bool b from rz)
  exact ⟨.bl b, H', I', rfl, qz⟩
theorem op_neO (K : PySem.W.Frag) (T : EqT X.K C f) (F : FnR X.prog X.w X.K X.mg X.base CX n f sp) (hr : Room (n + 1) X.A) (hx : Passes CX X E) (hK : X.K = K := by rfl) : OpR X (compareOp .NotEq) (rNeO K C sp E) := by
  subst hK
  intro pins s σ H x y v u Q I rx ry h
  obtain ⟨a, dx, fs, tb, rfl, ea, ht, hn, q⟩ := h
  cases (show v = Value.ref a from rx)
  obtain ⟨od, J⟩ := inst_of I ea
  have hu := hr.units
  show wpAny _ _ (richCompare .NotEq _ _) _ _ _
  refine ne_own (by omega) I.kIn J (tyV_looks I ry ht) hn T.ne T.eq T.fn T.ob (thn (run_fnR1 (us := [.ref a, u]) (vs := [.ref a, y]) F hr hx I (.cons rx (.cons ry .nil)) q) fun w s' z => ?_)
  obtain ⟨z', H', I', rz, b, eb, qz⟩ := z
  subst eb
  cases (show w = Value.bool b from rz)
  exact ⟨b, rfl, .bl (!b), H', I', rfl, qz⟩
end
class HasTy (α : Type) [Rep α] (ty : outParam (Bs → Value)) : Prop where
  at_ : ∀ {W : Wc} {H : Hp} {v : V} {a : α}, den W H v a → TyV W.B.K H v (ty W.B)
instance : HasTy Stc fun B => .ref (B.cl .Stretch) := ⟨fun ⟨a, dx, hv, m, h⟩ => by subst hv; exact .ins h⟩
instance : HasTy Unit fun _ => .type "NoneType" := ⟨fun h => by cases h; exact .non⟩
instance {α β : Type} [Rep α] [Rep β] : HasTy (α × β) fun _ => .type "tuple" := ⟨fun ⟨p, x, y, hv, s, _⟩ => by subst hv; exact .tup s.sq⟩
instance {α : Type} [Rep α] : HasTy (List α) fun _ => .type "list" := ⟨fun ⟨p, vs, hv, s, _⟩ => by subst hv; exact .lst s.sq⟩
/-- the right one is of a class that does not come first -/
def TyG (α : Type) [Rep α] (B : Bs) (C : Addr) (G : Prop) : Prop := ∃ ty, HasTy α ty ∧ PySem.W.notFirst B.K C (ty B) = true ∧ G
theorem tyG_in {α : Type} [Rep α] {ty : Bs → Value} [i : HasTy α ty] {B : Bs} {C : Addr} {G : Prop} (hn : PySem.W.notFirst B.K C (ty B) = true) (h : G) : TyG α B C G := ⟨ty, i, hn, h⟩
theorem nf_self {K : PySem.W.Frag} {C : Addr} : PySem.W.notFirst K C (.ref C) = true := by
  unfold PySem.W.notFirst
  rw [beq_self_eq_true, Bool.true_or]
theorem nf_of {K : PySem.W.Frag} {C : Addr} {t : Value} (h : PySem.W.subIn K t (.ref C) = some false) : PySem.W.notFirst K C t = true := by
  unfold PySem.W.notFirst
  rw [h, Bool.or_eq_true]
  exact .inr rfl
section
variable {W : Wd} {Γ : Gam} {te tb : TE} {B : Bs} {P : PT} {C : Addr} {K : PySem.W.Frag} {E : XK}
theorem ev_eqO {α β : Type} {rα : Rep α} {rβ : Rep β} {k : Bool → Prop} (hB : W.B = B) (hK : B.K = K)
    (h : EvK W te Γ fun s : β => EvK W tb Γ fun y : α => OwnG β B C (TyG α B C (P (fun t => ∃ b : Bool, t = T b ∧ k b) (fun _ => False) [T s, T y]))) : EvK W (tOp (rEqO K C (spG B P) E) te tb) Γ k := by
  subst hB
  subst hK
  refine ev_two (h.imp fun s hs => hs.imp fun y ⟨c, fl, iβ, hC, ty, iα, hn, hp⟩ x z H Q o dx dz q => ?_)
  subst hC
  obtain ⟨p, dp, fs, hv, _, hH, _⟩ := iβ.at_ dx
  exact ⟨p, dp, fs, _, hv, hH, iα.at_ dz, hn, W, _, _, _, rfl, o, .cons (t := T s) dx (.cons (t := T y) dz .nil), hp, fun v H2 t e2 dt ⟨b, eb, kb⟩ => by
    subst eb
    exact ⟨b, dt, q _ H2 b e2 rfl kb⟩, fun n d2 H2 _ _ z => z.elim⟩
theorem ev_neO {α β : Type} {rα : Rep α} {rβ : Rep β} {k : Bool → Prop} (hB : W.B = B) (hK : B.K = K)
    (h : EvK W te Γ fun s : β => EvK W tb Γ fun y : α => OwnG β B C (TyG α B C (P (fun t => ∃ b : Bool, t = T b ∧ k (!b)) (fun _ => False) [T s, T y]))) : EvK W (tOp (rNeO K C (spG B P) E) te tb) Γ k := by
  subst hB
  subst hK
  refine ev_two (h.imp fun s hs => hs.imp fun y ⟨c, fl, iβ, hC, ty, iα, hn, hp⟩ x z H Q o dx dz q => ?_)
  subst hC
  obtain ⟨p, dp, fs, hv, _, hH, _⟩ := iβ.at_ dx
  exact ⟨p, dp, fs, _, hv, hH, iα.at_ dz, hn, W, _, _, _, rfl, o, .cons (t := T s) dx (.cons (t := T y) dz .nil), hp, fun v H2 t e2 dt ⟨b, eb, kb⟩ => by
    subst eb
    exact ⟨b, dt, q _ H2 (!b) e2 rfl kb⟩, fun n d2 H2 _ _ z => z.elim⟩
end
end G
set_option Elab.async false
set_option linter.all false
set_option maxRecDepth 100000
set_option maxHeartbeats 2000000
namespace G
open PySem PySem.Spec PyProof.Rows L2 StX

/-! ### errors without fields -/
theorem mk_none {X : Cx} {pins : List (Addr × Obj)} {σ : L2.St} {H1 : Hp} {Q : XK} {hp hp2 h2 : Heap} {g1 g2 : Array GenState} {d1 d2 : Drawn} {t1 t2 : Nat} {os1 os2 : OsState} {a C : Addr}
    (r : Raises X (.ref C)) (I1 : L2.Inv X pins σ H1 ⟨hp, g1, d1, t1, os1⟩) (hsz : hp.objs.size ≤ a) (kk : ∀ b o, hp.get? b = some o → hp2.get? b = some o)
    (un : Un (frs X.stack) [] (upd H1 a (exo a C none)) (upd H1 a (exo a C none)) hp2 h2) (hok : HOk X.prog X.w (upd H1 a (exo a C none)) h2) (os : os2 = os1) (bare : AllBare g2) (q : Q (.ref C) none H1) :
    MkP X pins σ Q (.ref a) ⟨h2, g2, d2, t2, os2⟩ := by
  have na : H1 a = none := I1.hok.fresh hsz
  obtain ⟨t0, ho⟩ := exo_at hok upd_same
  obtain ⟨G, hG1, hG2⟩ := L2.restrict h2 (fun b => b != a)
  have hG : ∀ b o, b ≠ a → h2.get? b = some o → G.get? b = some o := fun b o hb ho => by rw [hG1 b (by simp [hb])]; exact ho
  have hne : ∀ b o, hp.get? b = some o → b ≠ a := fun b o h e => by
    have h1 := Heap.lt_size h
    rw [e] at h1
    exact Nat.lt_irrefl _ (Nat.lt_of_lt_of_le h1 hsz)
  have hokG : HOk X.prog X.w H1 G := by
    intro b o hb
    have hba : b ≠ a := ne_of_none hb na
    refine (hok b o (by rw [upd_ne hba]; exact hb)).stay (fun c u hc hu => ?_) (fun c hc => ?_) (fun c xs hc => ?_)
    · refine hG c u ?_ hu
      rcases hc with hc | hc
      · rw [hc]; exact hba
      · intro e
        subst e
        rw [upd_same] at hc
        exact exo_own (Option.some.inj hc)
    · by_cases e : c = a
      · subst e
        rw [upd_same] at hc
        exact absurd (Option.some.inj hc) exo_own
      · rw [upd_ne e] at hc
        exact hc
    · by_cases e : c = a
      · subst e
        rw [upd_same] at hc
        exact absurd (Option.some.inj hc) exo_tup
      · rw [upd_ne e] at hc
        exact hc
  have unG : Un (frs X.stack) [] H1 H1 hp G := by
    refine ⟨fun b o h n m z => ?_, fun b o h n m z => ?_, fun b o _ n _ => n, fun b o h z => ?_, fun b xs h => h, fun b o u h => h, fun b ps h => ⟨#[], by simpa using h⟩⟩
    · have e := hne b o h
      exact hG b o e (un.keep b o (kk b o h) (by rw [upd_ne e]; exact n) m z)
    · have e := hne b o h
      obtain ⟨sl, hs⟩ := un.slot b o (kk b o h) (by rw [upd_ne e]; exact n) m z
      exact ⟨sl, hG b _ e hs⟩
    · have e := hne b o h
      obtain ⟨o', hs⟩ := un.there b o (kk b o h) z
      exact ⟨o', hG b _ e hs⟩
  have IG : L2.Inv X pins σ H1 ⟨G, g2, d2, t2, os2⟩ := I1.call' (s' := ⟨G, g2, d2, t2, os2⟩) os unG hokG bare (fun b hb => (nomatch hb))
  refine ⟨a, _, _, ⟨G, g2, d2, t2, os2⟩, H1, .ref C, none, rfl, IG, fun b o h => ?_, hG2 a (by simp), ho, ⟨rfl, rfl⟩, rfl, rfl, na, rfl, bare, r, q⟩
  have e : b ≠ a := fun e => by
    subst e
    have h' : G.get? b = some o := h
    rw [hG2 b (by simp)] at h'
    cases h'
  have h' : G.get? b = some o := h
  rw [hG1 b (by simp [e])] at h'
  exact h'
section
variable {X : Cx} {CX : CXT} {k n : Nat} {f g C : Addr} {sp : Sp} {E : L2.St → XK} {x m : Str} {o e : Expr} {es : List Expr} {te : TE} {t : TA} {p p2 pos apos : Pos}
def tMkO0 (C : Addr) (sp : Sp) : L2.St → Hp → XK → Prop := fun σ H Q => ∀ a, H a = none → sp [.ref a] (upd H a (exo a C none)) (fun v H2 => v = .non ∧ H2 = upd H a (exo a C none) ∧ Q (.ref C) none H) (fun _ _ _ => False)
/-- C(), an error with its own __init__ that sets no field -/
theorem pmk_oexR0 {fI : Addr} (T : OexC X.K C) (iC : PySem.W.findIn X.K (.ref C) "__init__" = some (some (.ref fI))) (tI : PySem.W.typeIn X.K (.ref fI) = some (.type "function"))
    (F : FnR X.prog X.w X.K X.mg X.base CX k fI sp) (hr : Room (k + 1) X.A) (hx : Passes CX X (fun _ _ _ => False)) (hg : Gl X x) (hm : X.mg x = some (.ref C)) (hdb : (x == ("__debug__" : Str)) = false := by decide) :
    PMk X (.Call (.Name x p) [] [] pos) (tMkO0 C sp) := by
  intro pins s σ H Q I h
  obtain ⟨nm, q, N, bs, bm, sn, sub, ab, col, dd, k0, k1, k2, k3, k5, hC, hbm⟩ := T.cls
  refine wpAny_Call_Name_kw (ld_glob I hg hm ?_ hdb)
  refine PySem.W.callWith_K0 I.kIn T.kC ?_
  show wpAny _ _ (call (.ref C) []) _ _ _
  obtain ⟨hp, g, dr, tk, os⟩ := s
  have hsz : hp.objs.size ≤ hp.objs.size + 1 := Nat.le_succ _
  have hn : H (hp.objs.size + 1) = none := I.hok.fresh hsz
  have hq := h (hp.objs.size + 1) hn
  have kk : ∀ b o, hp.get? b = some o → ((hp.push (PySem.W.kdv_tup [])).push (PySem.HandSPX.excO C hp.objs.size)).get? b = some o := fun b o e => Heap.get?_push_of_some _ (Heap.get?_push_of_some _ e)
  have hget : ((hp.push (PySem.W.kdv_tup [])).push (PySem.HandSPX.excO C hp.objs.size)).get? (hp.objs.size + 1) = some (PySem.HandSPX.excO C hp.objs.size) := by heap_get
  have I2 : L2.Inv X pins σ (upd H (hp.objs.size + 1) (exo (hp.objs.size + 1) C none)) ⟨(hp.push (PySem.W.kdv_tup [])).push (PySem.HandSPX.excO C hp.objs.size), g, dr, tk, os⟩ :=
    I.laid (t' := tk) (a := hp.objs.size + 1) (o := exo (hp.objs.size + 1) C none) (h' := (hp.push (PySem.W.kdv_tup [])).push (PySem.HandSPX.excO C hp.objs.size)) kk hsz (exo_ok hget)
  refine wpAny_call (PySem.HandSPX.call_own PySem.F.excBase_ValueError (fun Y => PySem.HandSPX.refsVE_contains Y bm hbm) (I.kIn _ _ hC) (PySem.W.looks_findIn I.kIn iC) (fun self => PySem.W.bind_fn I.kIn self tI) (by decide)
    (codeAny_mono (F _ X.stack _ _ [Value.ref (hp.objs.size + 1)] _ _ (fun _ _ _ => False) (hr.make C [] []) (I2.env0.make C [] []) (.cons (show L2.RelV (.ref _) (.ref _) from rfl) .nil) hq) fun r s' hq' => ?_))
  cases r with
  | error er => exact hx pins σ _ _ er s' I2 hq'
  | ok fl =>
    cases fl with
    | ret u =>
      obtain ⟨v, H2, os2, bare2, un2, hok2, rv, ev, eH, q2⟩ := hq'
      subst ev
      subst eH
      obtain ⟨h2, g2, d2, t2, os'⟩ := s'
      exact ⟨rv, mk_none (raises_own T.exC T.tyC) I hsz kk un2 hok2 os2 bare2 q2⟩
    | next => exact False.elim hq'
    | brk => exact False.elim hq'
    | cont => exact False.elim hq'
/-- what the text says of C.__init__, a def at f, read from the class -/
structure CliT (K : PySem.W.Frag) (C f : Addr) : Prop where
  ga : PySem.W.specialIn K (.ref C) "__getattribute__" = some (some (.builtin "type.__getattribute__"))
  rd : PySem.W.readsIn K C (.type "type") = true
  at_ : PySem.W.findCls K (.ref C) (.type "type") "__init__" = some (.val (.ref f))
  kp : PySem.W.keepIn K (.ref f) = true
/-- C.__init__(self, ..) of an own class -/
theorem pe_cinit {pl : Sem Bool} (T : CliT X.K C f) (F : FnR X.prog X.w X.K X.mg X.base CX k f sp) (hr : Room k X.A) (hx : ∀ σ, PassesAt CX X σ (E σ)) (hm : X.mg x = some (.ref C)) (ha : PA X (e :: es) t) (hg : Gl X x := by rfl) (hdb : (x == ("__debug__" : Str)) = false := by decide)
    (hc : eval (.Call (.Attribute (.Name x p) "__init__" p2) (e :: es) [] pos) X.env = (do
      let ov ← eval (.Name x p) X.env
      standAt p2.atName
      let (f, first) ← holding [ov] (getMethod ov "__init__" pl)
      callWith pos f first (backTo pos (starEach (e :: es) X.env)) (backToKw pos (keywordEach [] X.env))) := by rfl)
    (he : starEach (e :: es) X.env = (false, eval e X.env) :: starEach es X.env := by rfl) (hpl : (backTo pos (starEach es X.env)).any (·.1) = false := by rfl) :
    PE X (.Call (.Attribute (.Name x p) "__init__" p2) (e :: es) [] pos) (tCallZ sp E t) := by
  refine ⟨fun pins s σ H Q I h => ?_⟩
  refine PySem.W.methodCall_KW (ld_glob I hg hm ?_ hdb) hc
  refine PySem.W.method_cls I.kIn T.ga (PySem.W.cls_value I.kIn T.rd T.at_ (by rfl) ?_)
  show wpAny _ _ (callWith pos (Value.ref f) [] (backTo pos (starEach (e :: es) X.env)) []) _ _ _
  exact PySem.W.callWith_K (h₀ := X.base) I.ok.mod.kin T.kp (thn (ha.run pos pins _ σ H _ (I.tok _) h) fun us s1 ⟨vs, H1, I1, r1, q⟩ => ⟨I1.kIn, run_fnRS F hr (hx σ) I1 r1 q⟩) he hpl
end
/-- __init__ of an error that sets no field -/
def spE0 (K : PySem.W.Frag) : Sp := fun vs H Q E => ∃ a C, vs = [.ref a] ∧ OexC K C ∧ H a = some (exo a C none) ∧ Q .non H
theorem sx_raise0 {W : Wd} {Γ : Gam} {x : Xn → Prop} {C : Addr} {R : Po} {c : Cn} {Wx : WX} {B : Bs} {K : PySem.W.Frag} (hB : W.B = B) (hC : B.cl c = C) (T : OexC K C) (hx : HX W Γ (WE Wx) x) (h : x ⟨c, []⟩) :
    Sx W (fun _ σ H => tMkO0 C (spE0 K) σ H fun cls d H' => Wx cls d σ H') Γ R := by
  subst hB
  subst hC
  refine fun D σ H G O a ha => ⟨a, _, rfl, T, upd_same, rfl, rfl, ?_⟩
  exact hx σ H G ⟨c, []⟩ none H (Ext.refl G.ok) (.inl ⟨rfl, rfl⟩) h
theorem isF_in {W : Wd} {B : Bs} {K : PySem.W.Frag} {c : Cn} {D : Addr} {e : Er} {v : V} {cv : Value} {b : Bool} {k : Bool → Prop} (hB : W.B = B) (hc : B.cl c = D) (T : ExcC K D) (hr : ∀ u, L2.RelV v u → u = cv) (hk : PySem.W.kitOne K (.ref D) cv = some b) (h : k b) :
    (e.a = e.a ∧ e.d = e.d) ∧ ∃ (D : Addr) (cv : Value) (b : Bool), Value.ref (W.B.cl c) = .ref D ∧ ExcC K D ∧ (∀ u, L2.RelV v u → u = cv) ∧ PySem.W.kitOne K (.ref D) cv = some b ∧ k b :=
  ⟨⟨rfl, rfl⟩, D, cv, b, xcl_of hB hc, T, hr, hk, h⟩
theorem kit_blt {K : PySem.W.Frag} {E : Addr} {n : String} {b : Bool} (hm : PySem.W.kitMeta n = true) (h : PySem.W.subIn K (.ref E) (.type n) = some b) : PySem.W.kitOne K (.ref E) (.type n) = some b := by
  have hne : (Value.ref E == Value.type n) = false := by
    cases q : (Value.ref E == Value.type n) with
    | false => rfl
    | true => exact absurd (eq_of_beq q) (by intro z; cases z)
  show (if (Value.ref E == Value.type n) = true then some true else (if PySem.W.kitMeta n = true then PySem.W.subIn K (.ref E) (.type n) else none)) = some b
  rw [hne, if_neg Bool.false_ne_true, if_pos hm]
  exact h
/-- a list of four of several kinds -/
structure L4 (α β γ δ : Type) where
  a : α
  b : β
  c : γ
  d : δ
  deriving DecidableEq
instance {α β γ δ : Type} [Rep α] [Rep β] [Rep γ] [Rep δ] : Rep (L4 α β γ δ) :=
  ⟨fun W H v t => ∃ p x y z u, v = .ref p ∧ Lq W H p [x, y, z, u] ∧ den W H x t.a ∧ den W H y t.b ∧ den W H z t.c ∧ den W H u t.d,
   fun e ⟨p, x, y, z, u, hv, s, h1, h2, h3, h4⟩ => ⟨p, x, y, z, u, hv, s.mono e, Rep.mono e h1, Rep.mono e h2, Rep.mono e h3, Rep.mono e h4⟩,
   fun D n ⟨p, x, y, z, u, hv, s, h1, h2, h3, h4⟩ => ⟨p, x, y, z, u, hv, s.grow D n, Rep.grow D n h1, Rep.grow D n h2, Rep.grow D n h3, Rep.grow D n h4⟩,
   fun D ⟨p, x, y, z, u, hv, s, h1, h2, h3, h4⟩ => ⟨p, x, y, z, u, hv, s.shrink D, Rep.shrink D h1, Rep.shrink D h2, Rep.shrink D h3, Rep.shrink D h4⟩⟩
theorem eqv4 (a b c d e f g h : PyData) : PyData.eqv (.list [a, b, c, d]) (.list [e, f, g, h]) = (PyData.eqv a e && (PyData.eqv b f && (PyData.eqv c g && PyData.eqv d h))) := by
  show (PyData.eqv a e && (PyData.eqv b f && (PyData.eqv c g && (PyData.eqv d h && true)))) = _
  rw [Bool.and_true]
instance {α β γ δ : Type} [Rep α] [Rep β] [Rep γ] [Rep δ] [Dat α] [Dat β] [Dat γ] [Dat δ] : Dat (L4 α β γ δ) where
  toD := fun x => .list [Dat.toD x.a, Dat.toD x.b, Dat.toD x.c, Dat.toD x.d]
  dp := fun ⟨p, x, y, z, u, hv, s, h1, h2, h3, h4⟩ => by
    subst hv
    exact .lst s.sq (.cons (Dat.dp h1) (.cons (Dat.dp h2) (.cons (Dat.dp h3) (.cons (Dat.dp h4) .nil))))
  dep := max (Dat.dep α) (max (Dat.dep β) (max (Dat.dep γ) (Dat.dep δ))) + 1
  ddep := fun x => by
    have h1 := Dat.ddep x.a
    have h2 := Dat.ddep x.b
    have h3 := Dat.ddep x.c
    have h4 := Dat.ddep x.d
    show max (Dat.toD x.a).depth (max (Dat.toD x.b).depth (max (Dat.toD x.c).depth (max (Dat.toD x.d).depth 0))) + 1 ≤ _
    omega
  inj := fun x y => by
    rw [eqv4, Bool.and_eq_true, Bool.and_eq_true, Bool.and_eq_true, Dat.inj, Dat.inj, Dat.inj, Dat.inj]
    cases x; cases y
    exact ⟨fun h => by obtain ⟨h1, h2, h3, h4⟩ := h; cases h1; cases h2; cases h3; cases h4; rfl, fun h => by cases h; exact ⟨rfl, rfl, rfl, rfl⟩⟩
  good := fun x => Dat.good x.a ∧ Dat.good x.b ∧ Dat.good x.c ∧ Dat.good x.d
  gshp := fun x h => by
    have h1 := Dat.gshp _ h.1
    have h2 := Dat.gshp _ h.2.1
    have h3 := Dat.gshp _ h.2.2.1
    have h4 := Dat.gshp _ h.2.2.2
    show ((Dat.toD x.a).canLay0 && ((Dat.toD x.b).canLay0 && ((Dat.toD x.c).canLay0 && ((Dat.toD x.d).canLay0 && true)))) = true
    rw [h1, h2, h3, h4]
    rfl
section
variable {W : Wd} {Γ : Gam} {ta tb tc td : TE}
theorem ev_lst4 {α β γ δ : Type} {rα : Rep α} {rβ : Rep β} {rγ : Rep γ} {rδ : Rep δ} {k : L4 α β γ δ → Prop} (h : EvK W ta Γ fun a : α => EvK W tb Γ fun b : β => EvK W tc Γ fun c : γ => EvK W td Γ fun d : δ => k ⟨a, b, c, d⟩) :
    EvK W (tLst (tCons ta (tCons tb (tCons tc (tCons td tNil))))) Γ k := fun σ H Q E c =>
  h σ H _ E fun x H1 a e1 d1 h1 => h1 σ H1 _ (E.ext e1) fun y H2 b e2 d2 h2 => h2 σ H2 _ ((E.ext e1).ext e2) fun u H3 b3 e3 d3 h3 => h3 σ H3 _ (((E.ext e1).ext e2).ext e3) fun w H4 b4 e4 d4 z => ⟨by show 4 ≤ sizeLine; decide, fun p hp =>
    have e5 := Ext.new (o := .lst [x, y, u, w]) e4.ok hp
    c _ _ ⟨a, b, b3, b4⟩ ((((e1.trans e2).trans e3).trans e4).trans e5) ⟨p, x, y, u, w, rfl, Lq.new (fresh_mu e4.ok hp) upd_same, Rep.mono (((e2.trans e3).trans e4).trans e5).keep d1, Rep.mono ((e3.trans e4).trans e5).keep d2, Rep.mono (e4.trans e5).keep d3, Rep.mono e5.keep d4⟩ z⟩
end
end G
set_option Elab.async false
set_option linter.all false
set_option maxRecDepth 100000
set_option maxHeartbeats 2000000
namespace G
open PySem PySem.Spec PyProof.Rows L2 StX

/-! ### lists of a def's own that change: each at its place, with its values now -/
abbrev Own := List (Addr × List V)
abbrev keys (L : Own) : List Addr := L.map (·.1)
structure Ol (α : Type) where
  p : Addr
  vs : List V
  as : List α
instance {α : Type} [Rep α] : Rep (Ol α) :=
  ⟨fun W H v a => v = .ref a.p ∧ Dl (den W H) a.vs a.as, fun e h => ⟨h.1, h.2.imp fun _ _ d => Rep.mono e d⟩, fun D n h => ⟨h.1, h.2.imp fun _ _ d => Rep.grow D n d⟩, fun D h => ⟨h.1, h.2.imp fun _ _ d => Rep.shrink D d⟩⟩
def Wc.plusL (W : Wc) : List Addr → Wc
  | [] => W
  | k :: r => (W.plusL r).plus k
theorem plusL_mu {W : Wc} {a : Addr} : ∀ {ks : List Addr}, (W.plusL ks).mu a ↔ W.mu a ∨ a ∈ ks
  | [] => ⟨.inl, fun h => h.elim id fun h => nomatch h⟩
  | k :: r => by
    show ((W.plusL r).mu a ∨ a = k) ↔ _
    rw [plusL_mu (ks := r), List.mem_cons]
    constructor
    · rintro ((h | h) | h)
      · exact .inl h
      · exact .inr (.inr h)
      · exact .inr (.inl h)
    · rintro (h | h | h)
      · exact .inl (.inl h)
      · exact .inr h
      · exact .inl (.inr h)
theorem plusL_B {W : Wc} : ∀ {ks : List Addr}, (W.plusL ks).B = W.B
  | [] => rfl
  | _ :: r => plusL_B (ks := r)
theorem plusL_box {W : Wc} : ∀ {ks : List Addr}, (W.plusL ks).box = W.box
  | [] => rfl
  | _ :: r => plusL_box (ks := r)
theorem shrinkL {W : Wc} {H : Hp} {v : V} {t : Ty} : ∀ {ks : List Addr}, t.den (W.plusL ks) H v → t.den W H v
  | [], h => h
  | k :: _, h => shrinkL (t.r.shrink k h)
theorem growL {W : Wc} {H : Hp} {v : V} {t : Ty} : ∀ {ks : List Addr}, (∀ k ∈ ks, H k = none) → t.den W H v → t.den (W.plusL ks) H v
  | [], _, h => h
  | k :: r, n, h => t.r.grow k (n k List.mem_cons_self) (growL (fun x hx => n x (List.mem_cons_of_mem _ hx)) h)
theorem fshrinkL {W : Wc} {H : Hp} {v : V} {t : Fv} : ∀ {ks : List Addr}, t.den (W.plusL ks) H v → t.den W H v
  | [], h => h
  | k :: _, h => fshrinkL (Fv.shrink k h)
def Wd.own (W : Wd) (F : Hp) (L : Own) (oF : W.ok F) (nF : ∀ k ∈ keys L, F k = none) : Wd where
  toWc := W.toWc.plusL (keys L)
  ok := fun H => W.ok H ∧ ∀ x ∈ L, H x.1 = some (.lst x.2)
  live := fun H a ⟨h, e⟩ m => by
    rcases plusL_mu.mp m with m | m
    · exact W.live H a h m
    · obtain ⟨x, hx, rfl⟩ := List.mem_map.mp m
      exact ⟨_, e x hx⟩
  st := fun H p o ⟨h, e⟩ m => ⟨W.st H p o h fun z => m (plusL_mu.mpr (.inl z)), fun x hx => by
    have hne : x.1 ≠ p := fun z => m (plusL_mu.mpr (.inr (by rw [← z]; exact List.mem_map.mpr ⟨x, hx, rfl⟩)))
    rw [upd_ne hne]
    exact e x hx⟩
  wish := fun H => Kp W.toWc F H
  wst := fun H H' k _ w a o m e => k a o (fun z => (plusL_mu.mp z).elim m fun z => by rw [nF a z] at e; cases e) (w a o m e)
  hasbox := fun H b ⟨h, _⟩ hb => W.hasbox H b h (by rw [plusL_box] at hb; exact hb)
  boxset := fun H b c i p s i' p' s' ⟨h, e⟩ hb q h1 h2 => by
    rw [plusL_box] at hb
    refine ⟨W.boxset H b c i p s i' p' s' h hb q h1 h2, fun x hx => ?_⟩
    have z : x.1 ≠ b := fun z => by
      have h3 := nF x.1 (List.mem_map.mpr ⟨x, hx, rfl⟩)
      rw [z] at h3
      exact fresh_mu oF h3 (W.boxmu b hb)
    rw [upd_ne z]
    exact e x hx
  boxmu := fun b hb => plusL_mu.mpr (.inl (W.boxmu b (by rw [plusL_box] at hb; exact hb)))
  oke := fun H H' ⟨h, e⟩ k => ⟨W.oke H H' h k, fun x hx => k _ _ (e x hx)⟩
/-- the world Wo is W with the own lists L kept apart -/
structure OwnW (W : Wd) (L : Own) (Wo : Wd) : Prop where
  B : Wo.B = W.B
  pin : ∀ H, Wo.ok H → ∀ x ∈ L, H x.1 = some (.lst x.2)
  err : ∀ (E : XK) (x : Xn → Prop), (∀ H', W.ok H' → W.wish H' → XOk W H' E x) → ∀ H', Wo.ok H' → Wo.wish H' → XOk Wo H' E x
section
variable {W : Wd} {F : Hp} {L L' : Own} {oF : W.ok F} {nF : ∀ k ∈ keys L, F k = none}
theorem own_ext {H H' : Hp} (o : (W.own F L oF nF).ok H) (e : Ext (W.own F L oF nF) H H') : Ext W H H' := ⟨fun a u m z => by
  by_cases h : a ∈ keys L
  · obtain ⟨x, hx, rfl⟩ := List.mem_map.mp h
    have h1 := o.2 x hx
    have h2 := e.ok.2 x hx
    rw [h1] at z
    cases z
    exact h2
  · exact e.keep a u (fun z => (plusL_mu.mp z).elim m h) z, e.ok.1⟩
theorem xdenL {H : Hp} {d : Option Addr} {fs : List (Str × Fv)} {ks : List Addr} (h : xden (W.toWc.plusL ks) H d fs) : xden W.toWc H d fs :=
  h.imp (fun h => h) fun ⟨dd, vs, h1, h2, h3, h4⟩ => ⟨dd, vs, h1, fun z => h2 (plusL_mu.mpr (.inl z)), h3, h4.imp fun _ _ z => fshrinkL z⟩
theorem own_w (wF : W.wish F) : OwnW W L (W.own F L oF nF) := by
  refine ⟨plusL_B, fun H o x hx => o.2 x hx, fun E x h H' o w n d H2 e xd xn => ?_⟩
  have wH : W.wish H' := W.wst F H' w o.1 wF
  have := h H' o.1 wH n d H2 (own_ext o e) (xdenL xd) xn
  have hB : (W.own F L oF nF).B = W.B := plusL_B
  rw [hB]
  exact this
end
/-- from L at H to L' at H' -/
def Stp (W : Wd) (L : Own) (H : Hp) (L' : Own) (H' : Hp) : Prop := Kp (W.toWc.plusL (keys L)) H H' ∧ ∀ k ∈ keys L', k ∈ keys L ∨ H k = none
theorem Stp.refl {W : Wd} {L : Own} {H : Hp} : Stp W L H L H := ⟨fun _ _ _ z => z, fun _ h => .inl h⟩
theorem Stp.trans {W : Wd} {L L1 L2 : Own} {H H1 H2 : Hp} (o1 : W.ok H1) (a : Stp W L H L1 H1) (b : Stp W L1 H1 L2 H2) : Stp W L H L2 H2 := by
  refine ⟨fun x o m z => b.1 x o (fun q => ?_) (a.1 x o m z), fun k hk => ?_⟩
  · rcases plusL_mu.mp q with q | q
    · exact m (plusL_mu.mpr (.inl q))
    · rcases a.2 x q with q | q
      · exact m (plusL_mu.mpr (.inr q))
      · rw [q] at z; cases z
  · rcases b.2 k hk with h | h
    · exact a.2 k h
    · by_cases hm : k ∈ keys L
      · exact .inl hm
      · refine .inr ?_
        cases q : H k with
        | none => rfl
        | some u =>
          by_cases hw : W.mu k
          · obtain ⟨o, e⟩ := W.live H1 k o1 hw
            rw [h] at e; cases e
          · rw [a.1 k u (fun z => (plusL_mu.mp z).elim hw hm) q] at h
            cases h
structure PoM where
  nx : Own → Gam → Prop
  rt : Ty → Prop
  bk : Own → Gam → Prop := fun _ _ => False
  ct : Own → Gam → Prop := fun _ _ => False
structure EOkM (W : Wd) (F : Hp) (L : Own) (H : Hp) (D : Ends) (R : PoM) : Prop where
  nx : ∀ L' oF nF σ' H' Γ', Stp W L H L' H' → (keys L').Nodup → GOk (W.own F L' oF nF) H' σ' Γ' → R.nx L' Γ' → D.nx σ' H'
  rt : ∀ v H' (t : Ty), Ext W F H' → t.den W H' v → R.rt t → D.rt v H'
  bk : ∀ L' oF nF σ' H' Γ', Stp W L H L' H' → (keys L').Nodup → GOk (W.own F L' oF nF) H' σ' Γ' → R.bk L' Γ' → D.bk σ' H'
  ct : ∀ L' oF nF σ' H' Γ', Stp W L H L' H' → (keys L').Nodup → GOk (W.own F L' oF nF) H' σ' Γ' → R.ct L' Γ' → D.ct σ' H'
theorem EOkM.step {W : Wd} {F : Hp} {L L1 : Own} {H H1 : Hp} {D : Ends} {R : PoM} (h : EOkM W F L H D R) (o1 : W.ok H1) (s : Stp W L H L1 H1) : EOkM W F L1 H1 D R :=
  ⟨fun L' oF nF σ' H' Γ' s' => h.nx L' oF nF σ' H' Γ' (s.trans o1 s'), h.rt, fun L' oF nF σ' H' Γ' s' => h.bk L' oF nF σ' H' Γ' (s.trans o1 s'), fun L' oF nF σ' H' Γ' s' => h.ct L' oF nF σ' H' Γ' (s.trans o1 s')⟩
/-- a statement in a def with own lists L; F: the heap ahead of the first of them -/
def SxM (W : Wd) (F : Hp) (t : TS) (L : Own) (Γ : Gam) (R : PoM) : Prop :=
  ∀ D σ H oF nF, W.wish F → (keys L).Nodup → GOk (W.own F L oF nF) H σ Γ → EOkM W F L H D R → t D σ H
theorem own_gok_nil {W : Wd} {F H : Hp} {σ : L2.St} {Γ : Gam} {oF : W.ok F} {nF : ∀ k ∈ keys [], F k = none} (k : Kp W.toWc F H) (G : GOk W H σ Γ) : GOk (W.own F [] oF nF) H σ Γ := ⟨⟨G.ok, fun _ h => nomatch h⟩, k, G.at_, G.len⟩
theorem own_gok_out {W : Wd} {F H : Hp} {L : Own} {σ : L2.St} {Γ : Gam} {oF : W.ok F} {nF : ∀ k ∈ keys L, F k = none} (wF : W.wish F) (G : GOk (W.own F L oF nF) H σ Γ) : GOk W H σ Γ :=
  ⟨G.ok.1, W.wst F H G.wish G.ok.1 wF, fun i t h => let ⟨v, h1, h2⟩ := G.at_ i t h; ⟨v, h1, shrinkL h2⟩, G.len⟩
theorem own_stp {W : Wd} {F H H' : Hp} {L : Own} {oF : W.ok F} {nF : ∀ k ∈ keys L, F k = none} (e : Ext (W.own F L oF nF) H H') : Stp W L H L H' := ⟨e.keep, fun _ h => .inl h⟩
section
variable {W : Wd} {F : Hp} {L : Own} {Γ : Gam} {ta tb te : TE} {tt : TT} {t u : TS} {R : PoM} {g : TG}
/-- into the part with own lists -/
theorem sx_own {R : Po} (h : ∀ F, SxM W F t [] Γ { nx := fun _ => R.nx, rt := R.rt, bk := fun _ => R.bk, ct := fun _ => R.ct }) : Sx W t Γ R := fun D σ H G O =>
  h H D σ H G.ok (fun _ z => nomatch z) G.wish .nil (own_gok_nil (fun _ _ _ z => z) G)
    ⟨fun L' oF nF σ' H' Γ' s _ G' q => O.nx σ' H' Γ' ⟨G'.wish, G'.ok.1⟩ (own_gok_out G.wish G') q, fun v H' t e d q => O.rt v H' t e d q,
     fun L' oF nF σ' H' Γ' s _ G' q => O.bk σ' H' Γ' ⟨G'.wish, G'.ok.1⟩ (own_gok_out G.wish G') q, fun L' oF nF σ' H' Γ' s _ G' q => O.ct σ' H' Γ' ⟨G'.wish, G'.ok.1⟩ (own_gok_out G.wish G') q⟩
theorem eok_un {D : Ends} {H : Hp} {oF : W.ok F} {nF : ∀ k ∈ keys L, F k = none} (nd : (keys L).Nodup) (O : EOkM W F L H D R) (wk : Kp W.toWc F H) (o : (W.own F L oF nF).ok H) : EOk (W.own F L oF nF) H D { nx := R.nx L, rt := R.rt, bk := R.bk L, ct := R.ct L } :=
  ⟨fun σ' H' Γ' e G q => O.nx L oF nF σ' H' Γ' (own_stp e) nd G q, fun v H' t e d q => O.rt v H' t (Ext.trans (W := W) ⟨wk, o.1⟩ (own_ext o e)) (shrinkL d) q,
   fun σ' H' Γ' e G q => O.bk L oF nF σ' H' Γ' (own_stp e) nd G q, fun σ' H' Γ' e G q => O.ct L oF nF σ' H' Γ' (own_stp e) nd G q⟩
/-- a statement that leaves the own lists -/
theorem sxm_pure (h : ∀ Wo, OwnW W L Wo → Sx Wo t Γ { nx := R.nx L, rt := R.rt, bk := R.bk L, ct := R.ct L }) : SxM W F t L Γ R := fun D σ H oF nF wF nd G O =>
  h _ (own_w wF) D σ H G (eok_un nd O G.wish G.ok)
theorem sxm_seq (h : SxM W F t L Γ { R with nx := fun L' Γ' => SxM W F u L' Γ' R }) : SxM W F (tSeq t u) L Γ R := fun D σ H oF nF wF nd G O =>
  h _ σ H oF nF wF nd G ⟨fun L' oF nF σ' H' Γ' s nd' G' q => q D σ' H' oF nF wF nd' G' (O.step G'.ok.1 s), O.rt, O.bk, O.ct⟩
theorem SxM.imp {R' : PoM} (h : SxM W F t L Γ R') (n : ∀ L Γ', R'.nx L Γ' → R.nx L Γ') (r : ∀ v, R'.rt v → R.rt v) (b : ∀ L Γ', R'.bk L Γ' → R.bk L Γ') (c : ∀ L Γ', R'.ct L Γ' → R.ct L Γ') : SxM W F t L Γ R := fun D σ H oF nF wF nd G O =>
  h D σ H oF nF wF nd G ⟨fun L' oF nF σ' H' Γ' s nd' G' q => O.nx L' oF nF σ' H' Γ' s nd' G' (n _ _ q), fun v H' t e d q => O.rt v H' t e d (r _ q), fun L' oF nF σ' H' Γ' s nd' G' q => O.bk L' oF nF σ' H' Γ' s nd' G' (b _ _ q), fun L' oF nF σ' H' Γ' s nd' G' q => O.ct L' oF nF σ' H' Γ' s nd' G' (c _ _ q)⟩
theorem sxm_seqI (I : Own → Gam → Prop) (h : SxM W F t L Γ { R with nx := I }) (k : ∀ L' Γ', I L' Γ' → SxM W F u L' Γ' R) : SxM W F (tSeq t u) L Γ R := sxm_seq (h.imp k (fun _ q => q) (fun _ _ q => q) fun _ _ q => q)
theorem sxm_if (h : ∀ Wo, OwnW W L Wo → EvT Wo tt Γ fun b => (b = true → SxM W F t L Γ R) ∧ (b = false → SxM W F u L Γ R)) : SxM W F (tIfS tt t u) L Γ R := fun D σ H oF nF wF nd G O =>
  h _ (own_w wF) σ H _ G fun H1 b e1 ⟨h1, h2⟩ => by
    have G1 := G.ext e1
    cases b with
    | true => exact h1 rfl D σ H1 oF nF wF nd G1 (O.step G1.ok.1 (own_stp e1))
    | false => exact h2 rfl D σ H1 oF nF wF nd G1 (O.step G1.ok.1 (own_stp e1))
theorem sxm_next (q : R.nx L Γ) : SxM W F tNext L Γ R := sxm_pure fun Wo _ => sx_next q
theorem fresh_F {H : Hp} {p : Addr} (oH : W.ok H) (wk : Kp W.toWc F H) (n : H p = none) : F p = none := by
  cases q : F p with
  | none => rfl
  | some u =>
    rw [wk p u (fresh_mu oH n) q] at n
    cases n
/-- x = a new list, from now on an own one -/
theorem sxm_new {β : Type} {rβ : Rep β} {i : Nat} (h : ∀ Wo, OwnW W L Wo → EvF Wo te Γ fun bs : List β => ∀ p vs, R.nx ((p, vs) :: L) (Γ.set i (some (T (Ol.mk p vs bs))))) : SxM W F (tAsg te (gName i)) L Γ R := fun D σ H oF nF wF nd G O => by
  refine h _ (own_w wF) σ H _ G fun p H1 vs bs n e hp hb q => ?_
  have nFp : F p = none := fresh_F G.ok.1 G.wish n
  have hpk : p ∉ keys L := fun hk => by
    obtain ⟨x, hx, e1⟩ := List.mem_map.mp hk
    have := G.ok.2 x hx
    rw [e1, n] at this
    cases this
  have nF' : ∀ k ∈ keys ((p, vs) :: L), F k = none := fun k hk => by
    rcases List.mem_cons.mp hk with rfl | hk
    · exact nFp
    · exact nF k hk
  have s : Stp W L H ((p, vs) :: L) H1 := ⟨e.keep, fun k hk => by
    rcases List.mem_cons.mp hk with rfl | hk
    · exact .inr n
    · exact .inl hk⟩
  have G1 := G.ext e
  have kp : Kp ((W.toWc.plusL (keys L)).plus p) H H1 := fun b o m z => e.keep b o (fun z => m (.inl z)) z
  have G2 : GOk (W.own F ((p, vs) :: L) oF nF') H1 σ Γ := ⟨⟨G1.ok.1, fun x hx => by
    rcases List.mem_cons.mp hx with rfl | hx
    · exact hp
    · exact G1.ok.2 x hx⟩, G1.wish, fun j t ht => by
      obtain ⟨v, h1, h2⟩ := G.at_ j t ht
      exact ⟨v, h1, Ty.mono kp (t.r.grow p n h2)⟩, G.len⟩
  exact O.nx _ oF nF' _ H1 _ s (List.nodup_cons.mpr ⟨hpk, nd⟩) (G2.set i (t := T (Ol.mk p vs bs)) ⟨rfl, hb⟩) (q p vs)
theorem keys_set {k : Nat} {p : Addr} {vs vs' : List V} (h : L[k]? = some (p, vs)) : keys (L.set k (p, vs')) = keys L := by
  refine List.ext_getElem? fun i => ?_
  rw [List.getElem?_map, List.getElem?_map, List.getElem?_set]
  by_cases e : k = i
  · subst e
    rw [if_pos rfl]
    have hl : k < L.length := (List.getElem?_eq_some_iff.mp h).1
    rw [if_pos hl, h]
    rfl
  · rw [if_neg e]
/-- an own list changes at its place -/
theorem own_put {H : Hp} {σ : L2.St} {D : Ends} {oF : W.ok F} {nF : ∀ k ∈ keys L, F k = none} {k i : Nat} {p : Addr} {vs vs' : List V} {β : Type} {rβ : Rep β} {bs : List β} (nd : (keys L).Nodup) (G : GOk (W.own F L oF nF) H σ Γ) (O : EOkM W F L H D R)
    (hk : L[k]? = some (p, vs)) (hi : σ[i]? = some (some (.ref p))) (hb : Dl (den (W.toWc.plusL (keys L)) H) vs' bs) (q : R.nx (L.set k (p, vs')) (Γ.set i (some (T (Ol.mk p vs' bs))))) : D.nx σ (upd H p (.lst vs')) := by
  have hks : keys (L.set k (p, vs')) = keys L := keys_set hk
  have hmem : p ∈ keys L := List.mem_map.mpr ⟨_, List.mem_of_getElem? hk, rfl⟩
  have kp : Kp (W.toWc.plusL (keys L)) H (upd H p (.lst vs')) := fun b o m z => by
    have hne : b ≠ p := fun e => m (plusL_mu.mpr (.inr (by rw [e]; exact hmem)))
    rw [upd_ne hne]
    exact z
  have nF' : ∀ k' ∈ keys (L.set k (p, vs')), F k' = none := fun k' h => nF k' (by rw [hks] at h; exact h)
  have nmu : ¬ W.mu p := fresh_mu oF (nF p hmem)
  have s : Stp W L H (L.set k (p, vs')) (upd H p (.lst vs')) := ⟨kp, fun k' h => .inl (by rw [hks] at h; exact h)⟩
  have hl : k < L.length := (List.getElem?_eq_some_iff.mp hk).1
  have G2 : GOk (W.own F (L.set k (p, vs')) oF nF') (upd H p (.lst vs')) σ (Γ.set i (some (T (Ol.mk p vs' bs)))) := by
    refine ⟨⟨W.st _ _ _ G.ok.1 nmu, fun x hx => ?_⟩, fun a o m z => ?_, fun j t ht => ?_, by rw [List.length_set]; exact G.len⟩
    · obtain ⟨j, hj⟩ := List.getElem?_of_mem hx
      rw [List.getElem?_set] at hj
      by_cases e : k = j
      · rw [if_pos e, if_pos hl] at hj
        cases hj
        exact upd_same
      · rw [if_neg e] at hj
        have hne : x.1 ≠ p := fun z => by
          have h1 : (keys L)[j]? = some p := by rw [List.getElem?_map, hj, ← z]; rfl
          have h2 : (keys L)[k]? = some p := by rw [List.getElem?_map, hk]; rfl
          exact e ((List.getElem?_inj (by rw [List.length_map]; exact hl) nd).mp (h2.trans h1.symm))
        rw [upd_ne hne]
        exact G.ok.2 x (List.mem_of_getElem? hj)
    · have hne : a ≠ p := fun e => by rw [e, nF p hmem] at z; cases z
      rw [upd_ne hne]
      exact G.wish a o m z
    · show ∃ v, σ[j]? = some (some v) ∧ t.den (W.toWc.plusL (keys (L.set k (p, vs')))) _ v
      rw [hks]
      by_cases e : i = j
      · subst e
        have hl2 : i < Γ.length := by
          have := (List.getElem?_eq_some_iff.mp hi).1
          rw [G.len] at this
          exact this
        rw [List.getElem?_set_self hl2] at ht
        cases ht
        exact ⟨_, hi, rfl, hb.imp fun _ _ d => Rep.mono kp d⟩
      · rw [List.getElem?_set_ne e] at ht
        obtain ⟨v, h1, h2⟩ := G.at_ j t ht
        exact ⟨v, h1, Ty.mono kp h2⟩
  exact O.nx _ oF nF' σ _ _ s (by rw [hks]; exact nd) G2 q
theorem ol_at {Wo : Wd} {H : Hp} {σ : L2.St} {α : Type} {rα : Rep α} {i : Nat} {p : Addr} {vs : List V} {as : List α} (G : GOk Wo H σ Γ) (h : Γ[i]? = some (some (T (Ol.mk p vs as)))) : σ[i]? = some (some (.ref p)) ∧ Dl (den Wo H) vs as := by
  obtain ⟨v, h1, h2, h3⟩ := G.at_ i _ h
  subst h2
  exact ⟨h1, h3⟩
/-- xs.append(e), xs an own list -/
theorem sxm_append {α : Type} {rα : Rep α} {K : PySem.W.Frag} {i : Nat} (k : Nat) {p : Addr} {vs : List V} {as : List α} (hk : L[k]? = some (p, vs)) (hi : Γ[i]? = some (some (T (Ol.mk p vs as))))
    (h : ∀ Wo, OwnW W L Wo → EvK Wo te Γ fun a : α => as.length < 100000 ∧ ∀ v, R.nx (L.set k (p, vs ++ [v])) (Γ.set i (some (T (Ol.mk p (vs ++ [v]) (as ++ [a])))))) : SxM W F (tDrop (tBM K "list" rAppend (tVar i) (tCons te tNil))) L Γ R := fun D σ H oF nF wF nd G O => by
  obtain ⟨h1, h2⟩ := ol_at G hi
  refine ⟨_, h1, .inl ⟨rfl, _, .inl (.inl (G.ok.2 _ (List.mem_of_getElem? hk)))⟩, ?_⟩
  refine h _ (own_w wF) σ H _ G fun v H1 a e1 d ⟨hl, q⟩ => ?_
  have G1 := G.ext e1
  refine ⟨p, vs, v, rfl, rfl, G1.ok.2 _ (List.mem_of_getElem? hk), Nat.lt_of_lt_of_le (by rw [h2.length]; exact hl) (by decide : 100000 ≤ sizeLine), ?_⟩
  exact own_put nd G1 (O.step G1.ok.1 (own_stp e1)) hk h1 (Dl.append (h2.imp fun _ _ d => Rep.mono e1.keep d) (.cons d .nil)) (q v)
theorem Dl.set {α : Type} {f : V → α → Prop} : ∀ {vs : List V} {as : List α} {m : Nat} {v : V} {a : α}, Dl f vs as → f v a → Dl f (vs.set m v) (as.set m a)
  | _, _, _, _, _, .nil, _ => .nil
  | _, _, 0, _, _, .cons _ y, h => .cons h y
  | _, _, m + 1, _, _, .cons x y, h => .cons x (y.set h)
/-- xs[j] = e, xs an own list -/
theorem sxm_put {α : Type} {rα : Rep α} {i : Nat} (k : Nat) {ti : TE} {p : Addr} {vs : List V} {as : List α} (hk : L[k]? = some (p, vs)) (hi : Γ[i]? = some (some (T (Ol.mk p vs as))))
    (h : ∀ Wo, OwnW W L Wo → EvK Wo te Γ fun a : α => EvK Wo ti Γ fun j : Int => ∃ m, ixN as.length j = some m ∧ ∀ v, R.nx (L.set k (p, vs.set m v)) (Γ.set i (some (T (Ol.mk p (vs.set m v) (as.set m a)))))) : SxM W F (tAsg te (gSub (tVar i) ti rSetL)) L Γ R := fun D σ H oF nF wF nd G O => by
  refine h _ (own_w wF) σ H _ G fun v H1 a e1 d h' => ?_
  have G1 := G.ext e1
  obtain ⟨h1, h2⟩ := ol_at G1 hi
  refine ⟨_, h1, ?_⟩
  refine h' σ H1 _ G1 fun w H2 j e2 dj ⟨m, hm, q⟩ => ?_
  have G2 := G1.ext e2
  obtain ⟨_, h3⟩ := ol_at G2 hi
  refine ⟨p, vs, j, m, rfl, dj, G2.ok.2 _ (List.mem_of_getElem? hk), by rw [h3.length]; exact hm, ?_⟩
  exact own_put nd G2 (O.step G2.ok.1 (own_stp (e1.trans e2))) hk h1 (h3.set (Rep.mono e2.keep d)) (q v)
/-- for x in a list, with own lists -/
theorem sxm_forL {α : Type} {rα : Rep α} {K : PySem.W.Frag} (hK : W.B.K = K) (h : ∀ Wo, OwnW W L Wo → EvK Wo te Γ fun as : List α => ∃ I : Nat → Own → Gam → Prop, I 0 L Γ ∧
      (∀ i L' Γ', I i L' Γ' → keys L' = keys L) ∧
      (∀ (i : Nat) (a : α) L' Γ', as[i]? = some a → I i L' Γ' → ∀ Wo', OwnW W L' Wo' → Tg Wo' g Γ' a fun Γ1 => SxM W F t L' Γ1 { R with nx := I (i + 1), ct := I (i + 1), bk := R.nx }) ∧ ∀ L' Γ', I as.length L' Γ' → R.nx L' Γ') : SxM W F (tFor (iList K te) g t) L Γ R := by
  subst hK
  refine fun D σ H oF nF wF nd G O => h _ (own_w wF) σ H _ G fun v H1 as e1 ⟨p, vs, hv, hp, hd⟩ ⟨I, h0, hI, hs, hl⟩ => ?_
  have hB : (W.own F L oF nF).B.K = W.B.K := congrArg Bs.K plusL_B
  have G1 := G.ext e1
  have O1 := O.step G1.ok.1 (own_stp e1)
  have sq : ∀ H', Kp (W.toWc.plusL (keys L)) H1 H' → SqL W.B.K H' p vs := fun H' kk => .inl (.inl (kk _ _ hp.1 hp.2))
  refine ⟨p, hv, ⟨vs, sq H1 fun _ _ _ z => z⟩, for_list (K := W.B.K) (a := p) (xs := vs) (fun i σ' H' => ∃ L' oF nF Γ', Stp W L H1 L' H' ∧ (keys L').Nodup ∧ GOk (W.own F L' oF nF) H' σ' Γ' ∧ I i L' Γ') ⟨L, oF, nF, Γ, .refl, nd, G1, h0⟩ (fun i σ' H' _ ⟨L', _, _, Γ', s, _⟩ => sq H' s.1) ?_ ?_⟩
  · rintro i x σ' H' hx ⟨L', oF', nF', Γ', s, nd', G', q⟩
    obtain ⟨a, ha, da⟩ := (hd.imp fun _ _ d => Rep.mono s.1 d).at hx
    obtain ⟨js, hj⟩ := hs i a L' Γ' ha q _ (own_w (oF := oF') (nF := nF') wF)
    have da' : den (W.own F L' oF' nF').toWc H' x a := by
      show den (W.toWc.plusL (keys L')) H' x a
      rw [hI i L' Γ' q]
      exact da
    refine hj σ' H' x _ G' da' fun σ2 Γ2 G2 _ q2 => ?_
    exact q2 _ σ2 H' oF' nF' wF nd' G2 ⟨fun L3 oF3 nF3 σ3 H3 Γ3 s3 nd3 G3 q3 => ⟨L3, oF3, nF3, Γ3, s.trans G'.ok.1 s3, nd3, G3, q3⟩, fun v3 H3 t3 e3 d3 q3 => O.rt v3 H3 t3 e3 d3 q3,
      fun L3 oF3 nF3 σ3 H3 Γ3 s3 nd3 G3 q3 => O1.nx L3 oF3 nF3 σ3 H3 Γ3 (s.trans G'.ok.1 s3) nd3 G3 q3, fun L3 oF3 nF3 σ3 H3 Γ3 s3 nd3 G3 q3 => ⟨L3, oF3, nF3, Γ3, s.trans G'.ok.1 s3, nd3, G3, q3⟩⟩
  · rintro σ' H' ⟨L', oF', nF', Γ', s, nd', G', q⟩
    rw [hd.length] at q
    exact O1.nx L' oF' nF' σ' H' Γ' s nd' G' (hl L' Γ' q)
/-- for x in range(n), with own lists -/
theorem sxm_forR (h : ∀ Wo, OwnW W L Wo → EvK Wo te Γ fun n : Int => (-(2 ^ 62) ≤ n ∧ n < 2 ^ 62) ∧ ∃ I : Nat → Own → Gam → Prop, I 0 L Γ ∧
      (∀ (i : Nat) L' Γ', i < n.toNat → I i L' Γ' → ∀ Wo', OwnW W L' Wo' → Tg Wo' g Γ' (i : Int) fun Γ1 => SxM W F t L' Γ1 { R with nx := I (i + 1), ct := I (i + 1), bk := R.nx }) ∧ ∀ L' Γ', I n.toNat L' Γ' → R.nx L' Γ') : SxM W F (tFor (iRng1 (tCons te tNil)) g t) L Γ R := by
  refine fun D σ H oF nF wF nd G O => h _ (own_w wF) σ H _ G fun v H1 n e1 hv ⟨⟨b1, b2⟩, I, h0, hs, hl⟩ => ?_
  have G1 := G.ext e1
  have O1 := O.step G1.ok.1 (own_stp e1)
  refine ⟨n, congrArg (fun x => [x]) hv, b1, b2, for_range (lo := 0) (n := n.toNat) (fun i σ' H' => ∃ L' oF nF Γ', Stp W L H1 L' H' ∧ (keys L').Nodup ∧ GOk (W.own F L' oF nF) H' σ' Γ' ∧ I i L' Γ') ⟨L, oF, nF, Γ, .refl, nd, G1, h0⟩ ?_ ?_⟩
  · rintro i σ' H' hi ⟨L', oF', nF', Γ', s, nd', G', q⟩
    obtain ⟨js, hj⟩ := hs i L' Γ' hi q _ (own_w (oF := oF') (nF := nF') wF)
    refine hj σ' H' _ _ G' (by show V.int ((0 : Int) + i) = .int i; rw [Int.zero_add]) fun σ2 Γ2 G2 _ q2 => ?_
    exact q2 _ σ2 H' oF' nF' wF nd' G2 ⟨fun L3 oF3 nF3 σ3 H3 Γ3 s3 nd3 G3 q3 => ⟨L3, oF3, nF3, Γ3, s.trans G'.ok.1 s3, nd3, G3, q3⟩, fun v3 H3 t3 e3 d3 q3 => O.rt v3 H3 t3 e3 d3 q3,
      fun L3 oF3 nF3 σ3 H3 Γ3 s3 nd3 G3 q3 => O1.nx L3 oF3 nF3 σ3 H3 Γ3 (s.trans G'.ok.1 s3) nd3 G3 q3, fun L3 oF3 nF3 σ3 H3 Γ3 s3 nd3 G3 q3 => ⟨L3, oF3, nF3, Γ3, s.trans G'.ok.1 s3, nd3, G3, q3⟩⟩
  · rintro σ' H' ⟨L', oF', nF', Γ', s, nd', G', q⟩
    exact O1.nx L' oF' nF' σ' H' Γ' s nd' G' (hl L' Γ' q)

/-! ### own lists seen as plain ones -/
inductive Frz (L : Own) : Gam → Gam → Prop
  | nil : Frz L [] []
  | own {α : Type} {rα : Rep α} {p : Addr} {vs : List V} {as : List α} {Γ Γ' : Gam} : (p, vs) ∈ L → Frz L Γ Γ' → Frz L (some (T (Ol.mk p vs as)) :: Γ) (some (T as) :: Γ')
  | same {t : Option Ty} {Γ Γ' : Gam} : Frz L Γ Γ' → Frz L (t :: Γ) (t :: Γ')
theorem Frz.len {Γ Γ' : Gam} (h : Frz L Γ Γ') : Γ.length = Γ'.length := by
  induction h with
  | nil => rfl
  | own _ _ ih => exact congrArg (· + 1) ih
  | same _ ih => exact congrArg (· + 1) ih
theorem frz_slots {H : Hp} {Γ Γ' : Gam} (nm : ∀ k ∈ keys L, ¬ W.mu k) (pin : ∀ x ∈ L, H x.1 = some (.lst x.2)) (f : Frz L Γ Γ') : ∀ (i : Nat) (t : Ty), Γ'[i]? = some (some t) → (∀ u v, Γ[i]? = some (some u) → u.den (W.toWc.plusL (keys L)) H v → t.den W.toWc H v) ∧ ∃ u, Γ[i]? = some (some u) := by
  induction f with
  | nil => intro i t h; simp at h
  | @own α rα p vs as Γ Γ' hm _ ih =>
    intro i t h
    cases i with
    | zero =>
      have h' : some (some (T as)) = some (some t) := by simpa using h
      cases h'
      refine ⟨fun u v hu hd => ?_, _, rfl⟩
      have hu' : some (some (T (Ol.mk p vs as))) = some (some u) := by simpa using hu
      cases hu'
      obtain ⟨hv, hb⟩ := hd
      exact ⟨p, vs, hv, ⟨nm p (List.mem_map.mpr ⟨_, hm, rfl⟩), pin _ hm⟩, hb.imp fun _ _ d => shrinkL (t := T _) d⟩
    | succ i => exact ih i t (by simpa using h)
  | @same t0 Γ Γ' _ ih =>
    intro i t h
    cases i with
    | zero =>
      have h' : some t0 = some (some t) := by simpa using h
      cases h'
      refine ⟨fun u v hu hd => ?_, _, rfl⟩
      have hu' : some (some t) = some (some u) := by simpa using hu
      cases hu'
      exact shrinkL hd
    | succ i => exact ih i t (by simpa using h)
/-- own lists come to rest: from now on they do not change -/
theorem sxm_freeze {Γ' : Gam} (f : Frz L Γ Γ') (h : SxM W F t [] Γ' R) : SxM W F t L Γ R := fun D σ H oF nF wF nd G O => by
  have nm : ∀ k ∈ keys L, ¬ W.mu k := fun k hk => fresh_mu oF (nF k hk)
  have G' : GOk (W.own F [] oF fun _ z => nomatch z) H σ Γ' := ⟨⟨G.ok.1, fun _ z => nomatch z⟩, G.wish, fun i t ht => by
    obtain ⟨h1, u, hu⟩ := frz_slots nm G.ok.2 f i t ht
    obtain ⟨v, h2, h3⟩ := G.at_ i u hu
    exact ⟨v, h2, h1 u v hu h3⟩, G.len.trans f.len⟩
  refine h D σ H oF (fun _ z => nomatch z) wF .nil G' ⟨fun L' oF' nF' σ' H' Γ2 s nd' G2 q => O.nx L' oF' nF' σ' H' Γ2 ?_ nd' G2 q, O.rt, fun L' oF' nF' σ' H' Γ2 s nd' G2 q => O.bk L' oF' nF' σ' H' Γ2 ?_ nd' G2 q, fun L' oF' nF' σ' H' Γ2 s nd' G2 q => O.ct L' oF' nF' σ' H' Γ2 ?_ nd' G2 q⟩ <;>
  exact ⟨fun a o m z => s.1 a o (fun q => m (plusL_mu.mpr (.inl q))) z, fun k hk => .inr ((s.2 k hk).resolve_left fun z => nomatch z)⟩
/-- data that holds no list -/
class NoLst (α : Type) [Rep α] : Prop where
  at_ : ∀ {W : Wc} {H : Hp} {v : V} {a : α} {D : Addr} {xs : List V}, H D = some (.lst xs) → den W H v a → den (W.plus D) H v a
instance : NoLst Int := ⟨fun _ h => h⟩
instance : NoLst Bool := ⟨fun _ h => h⟩
instance : NoLst Str := ⟨fun _ h => h⟩
instance : NoLst Unit := ⟨fun _ h => h⟩
theorem tq_nl {W : Wc} {H : Hp} {p D : Addr} {vs xs : List V} (h : H D = some (.lst xs)) (s : Tq W H p vs) : Tq (W.plus D) H p vs :=
  ⟨fun z => z.elim s.1 (fun z => by have s2 := s.2; rw [z, h] at s2; cases s2), s.2⟩
instance {α β : Type} [Rep α] [Rep β] [NoLst α] [NoLst β] : NoLst (α × β) := ⟨fun h ⟨p, x, y, hv, s, h1, h2⟩ => ⟨p, x, y, hv, tq_nl h s, NoLst.at_ h h1, NoLst.at_ h h2⟩⟩
instance {α β γ : Type} [Rep α] [Rep β] [Rep γ] [NoLst α] [NoLst β] [NoLst γ] : NoLst (T3 α β γ) := ⟨fun h ⟨p, x, y, z, hv, s, h1, h2, h3⟩ => ⟨p, x, y, z, hv, tq_nl h s, NoLst.at_ h h1, NoLst.at_ h h2, NoLst.at_ h h3⟩⟩
instance : NoLst Stc := ⟨fun h ⟨a, dx, hv, m, e⟩ => ⟨a, dx, hv, fun z => z.elim m (fun z => by rw [z, h] at e; cases e), e⟩⟩
theorem nolst_all {α : Type} [Rep α] [NoLst α] {W : Wc} {H : Hp} {v : V} {a : α} : ∀ {ks : List Addr}, (∀ k ∈ ks, ∃ xs, H k = some (.lst xs)) → den W H v a → den (W.plusL ks) H v a
  | [], _, h => h
  | k :: r, n, h => by
    obtain ⟨xs, e⟩ := n k List.mem_cons_self
    exact NoLst.at_ e (nolst_all (fun x hx => n x (List.mem_cons_of_mem _ hx)) h)
section
variable {oF : W.ok F} {nF : ∀ k ∈ keys L, F k = none}
theorem look_gok {H : Hp} {σ : L2.St} {Γ' : Gam} (wF : W.wish F) (f : Frz L Γ Γ') (G : GOk (W.own F L oF nF) H σ Γ) : GOk W H σ Γ' := by
  have nm : ∀ k ∈ keys L, ¬ W.mu k := fun k hk => fresh_mu oF (nF k hk)
  exact ⟨G.ok.1, W.wst F H G.wish G.ok.1 wF, fun i t ht => by
    obtain ⟨h1, u, hu⟩ := frz_slots nm G.ok.2 f i t ht
    obtain ⟨v, h2, h3⟩ := G.at_ i u hu
    exact ⟨v, h2, h1 u v hu h3⟩, G.len.trans f.len⟩
theorem look_ext {H H' : Hp} (o : (W.own F L oF nF).ok H) (e : Ext W H H') : Ext (W.own F L oF nF) H H' := ⟨fun a u m z => e.keep a u (fun q => m (plusL_mu.mpr (.inl q))) z, e.ok, fun x hx =>
  e.keep _ _ (fresh_mu oF (nF x.1 (List.mem_map.mpr ⟨x, hx, rfl⟩))) (o.2 x hx)⟩
theorem look_den {α : Type} [Rep α] [NoLst α] {H : Hp} {v : V} {a : α} (o : (W.own F L oF nF).ok H) (d : den W H v a) : den (W.own F L oF nF).toWc H v a :=
  nolst_all (fun k hk => by obtain ⟨x, hx, rfl⟩ := List.mem_map.mp hk; exact ⟨_, o.2 x hx⟩) d
/-- an expression that looks at own lists and gives data without lists -/
theorem look_K {α : Type} [rα : Rep α] [NoLst α] {Γ' : Gam} {k : α → Prop} (wF : W.wish F) (f : Frz L Γ Γ') (h : EvK W te Γ' k) : EvK (W.own F L oF nF) te Γ k := fun σ H Q G c =>
  h σ H Q (look_gok wF f G) fun v H' a e d q => c v H' a (look_ext G.ok e) (look_den (look_ext G.ok e).ok d) q
theorem look_T {Γ' : Gam} {k : Bool → Prop} (wF : W.wish F) (f : Frz L Γ Γ') (h : EvT W tt Γ' k) : EvT (W.own F L oF nF) tt Γ k := fun σ H Q G c =>
  h σ H Q (look_gok wF f G) fun H' b e q => c H' b (look_ext G.ok e) q
end
theorem sxm_ifB {Γ' : Gam} (f : Frz L Γ Γ') (h : EvT W tt Γ' fun b => (b = true → SxM W F t L Γ R) ∧ (b = false → SxM W F u L Γ R)) : SxM W F (tIfS tt t u) L Γ R := fun D σ H oF nF wF nd G O =>
  look_T wF f h σ H _ G fun H1 b e1 ⟨h1, h2⟩ => by
    have G1 := G.ext e1
    cases b with
    | true => exact h1 rfl D σ H1 oF nF wF nd G1 (O.step G1.ok.1 (own_stp e1))
    | false => exact h2 rfl D σ H1 oF nF wF nd G1 (O.step G1.ok.1 (own_stp e1))
theorem sxm_setB {α : Type} {rα : Rep α} [NoLst α] {Γ' : Gam} {i : Nat} (f : Frz L Γ Γ') (h : EvK W te Γ' fun a : α => R.nx L (Γ.set i (some (T a)))) : SxM W F (tAsg te (gName i)) L Γ R := fun D σ H oF nF wF nd G O =>
  look_K wF f h σ H _ G fun v H1 a e1 d q => by
    have G1 := G.ext e1
    exact O.nx L oF nF _ H1 _ (own_stp e1) nd (G1.set i (t := T a) d) q
theorem sxm_retB {α : Type} {rα : Rep α} {Γ' : Gam} (f : Frz L Γ Γ') (h : EvK W te Γ' fun a : α => R.rt (T a)) : SxM W F (tRet te) L Γ R := fun D σ H oF nF wF nd G O =>
  h σ H _ (look_gok wF f G) fun v H1 a e1 d q => O.rt v H1 (T a) (Ext.trans (W := W) ⟨G.wish, G.ok.1⟩ e1) d q
theorem sxm_appendB {α : Type} {rα : Rep α} [NoLst α] {K : PySem.W.Frag} {i : Nat} (k : Nat) {p : Addr} {vs : List V} {as : List α} {Γ' : Gam} (hk : L[k]? = some (p, vs)) (hi : Γ[i]? = some (some (T (Ol.mk p vs as)))) (f : Frz L Γ Γ')
    (h : EvK W te Γ' fun a : α => as.length < 100000 ∧ ∀ v, R.nx (L.set k (p, vs ++ [v])) (Γ.set i (some (T (Ol.mk p (vs ++ [v]) (as ++ [a])))))) : SxM W F (tDrop (tBM K "list" rAppend (tVar i) (tCons te tNil))) L Γ R := fun D σ H oF nF wF nd G O => by
  obtain ⟨h1, h2⟩ := ol_at G hi
  refine ⟨_, h1, .inl ⟨rfl, _, .inl (.inl (G.ok.2 _ (List.mem_of_getElem? hk)))⟩, ?_⟩
  refine look_K wF f h σ H _ G fun v H1 a e1 d ⟨hl, q⟩ => ?_
  have G1 := G.ext e1
  refine ⟨p, vs, v, rfl, rfl, G1.ok.2 _ (List.mem_of_getElem? hk), Nat.lt_of_lt_of_le (by rw [h2.length]; exact hl) (by decide : 100000 ≤ sizeLine), ?_⟩
  exact own_put nd G1 (O.step G1.ok.1 (own_stp e1)) hk h1 (Dl.append (h2.imp fun _ _ d => Rep.mono e1.keep d) (.cons d .nil)) (q v)
theorem sxm_putB {α : Type} {rα : Rep α} [NoLst α] {i : Nat} (k : Nat) {ti : TE} {p : Addr} {vs : List V} {as : List α} {Γ' : Gam} (hk : L[k]? = some (p, vs)) (hi : Γ[i]? = some (some (T (Ol.mk p vs as)))) (f : Frz L Γ Γ')
    (h : EvK W te Γ' fun a : α => EvK W ti Γ' fun j : Int => ∃ m, ixN as.length j = some m ∧ ∀ v, R.nx (L.set k (p, vs.set m v)) (Γ.set i (some (T (Ol.mk p (vs.set m v) (as.set m a)))))) : SxM W F (tAsg te (gSub (tVar i) ti rSetL)) L Γ R := fun D σ H oF nF wF nd G O => by
  refine look_K wF f h σ H _ G fun v H1 a e1 d h' => ?_
  have G1 := G.ext e1
  obtain ⟨h1, h2⟩ := ol_at G1 hi
  refine ⟨_, h1, ?_⟩
  refine look_K wF f h' σ H1 _ G1 fun w H2 j e2 dj ⟨m, hm, q⟩ => ?_
  have G2 := G1.ext e2
  obtain ⟨_, h3⟩ := ol_at G2 hi
  refine ⟨p, vs, j, m, rfl, dj, G2.ok.2 _ (List.mem_of_getElem? hk), by rw [h3.length]; exact hm, ?_⟩
  exact own_put nd G2 (O.step G2.ok.1 (own_stp (e1.trans e2))) hk h1 (h3.set (Rep.mono e2.keep d)) (q v)
theorem evF_lst {α : Type} {rα : Rep α} {Wo : Wd} {ta : TA} {k : List α → Prop} (h : EvL Wo ta Γ fun as => as.length ≤ 100000 ∧ k as) : EvF Wo (tLst ta) Γ k := fun σ H Q E c =>
  h σ H _ E fun vs H1 as e1 ds ⟨hl, z⟩ => ⟨Nat.le_trans (by rw [ds.length]; exact hl) (by decide : 100000 ≤ sizeLine), fun p hp => by
    have e2 := Ext.new (o := .lst vs) e1.ok hp
    exact c p _ vs as (fresh_back e1.ok e1 hp) (e1.trans e2) upd_same (ds.imp fun _ _ d => Rep.mono (W := Wo.toWc.plus p) (fun b o m z => by rw [upd_ne (ne_of_none z hp)]; exact z) (Rep.grow p hp d)) z⟩
end
end G
set_option Elab.async false
set_option linter.all false
set_option maxRecDepth 100000
set_option maxHeartbeats 2000000
namespace G
open PySem PySem.Spec PyProof.Rows L2 StX

/-! ### further rules of the hand layer: own lists, classes held in names, star calls, class methods, properties -/
section
variable {X : Cx} {CX : CXT} {k n : Nat} {f g C p : Addr} {sp : Sp} {E : L2.St → XK} {x m : Str} {o e e2 : Expr} {es : List Expr} {te to tb : TE} {t : TA} {pp sp_ pos apos : Pos} {mc : Value}
theorem pe_appendK (K : PySem.W.Frag) (ho : PE X o to) (ha : PA X (e :: es) t) (hK : X.K = K := by rfl)
    (hbase : attributeBase o "append" X.env (eval o X.env) = eval o X.env := by rfl)
    (hfew : ((backTo pos (starEach (e :: es) X.env)).all (fun x => !x.1) && (backToKw pos (keywordEach [] X.env)).all (fun x => x.1.isSome)
      && decide ((e :: es).length + ([] : List Keyword).length + (if ([] : List Keyword).isEmpty then 0 else 1) < 30)) = true := by rfl)
    (hline : (apos.endLine == pos.line) = true := by rfl) (hs : starEach (e :: es) X.env = (false, eval e X.env) :: starEach es X.env := by rfl) (hplain : (backTo pos (starEach es X.env)).any (·.1) = false := by rfl) :
    PE X (.Call (.Attribute o "append" apos) (e :: es) [] pos) (tBM K "list" rAppend to t) := by
  subst hK
  exact pe_bm PySem.F.plainAttrs_list PySem.F.slot_list_append PySem.F.type_list_append mt_append ho ha hbase hfew hline hs hplain
/-- x(e, ..), x a local name that holds the class at C -/
def tMakeV (i : Nat) (C : Addr) (sp : Sp) (E : L2.St → XK) (t : TA) : TE := fun σ H Q => ∃ v, σ[i]? = some (some v) ∧ v = .ref C ∧ tMakeZ C sp E t σ H Q
theorem pe_makeV {i : Nat} (M : Mk X.K C f) (F : FnR X.prog X.w X.K X.mg X.base CX k f sp) (hr : Room (k + 1) X.A) (hx : ∀ σ, PassesAt CX X σ (E σ)) (hN : X.N[i]? = some x) (hv : Vis X.env.scope x)
    (ha : PA X (e :: es) t) (hdb : (x == ("__debug__" : Str)) = false := by decide) (hcd : (x == ("__classdict__" : Str)) = false := by decide) (he : starEach (e :: es) X.env = (false, eval e X.env) :: starEach es X.env := by rfl) (hpl : (backTo pos (starEach es X.env)).any (·.1) = false := by rfl) :
    PE X (.Call (.Name x pp) (e :: es) [] pos) (tMakeV i C sp E t) := by
  refine ⟨fun pins s σ H Q I h => ?_⟩
  obtain ⟨v, h1, h2, h3⟩ := h
  subst h2
  refine wpAny_Call_Name_kw (thn ((pe_var (pos := pp) hN hv hdb hcd).run pins s σ H (fun v H' => v = .ref C ∧ tMakeZ C sp E t σ H' Q) I ⟨_, h1, rfl, h3⟩) fun u s1 ⟨y, H1, I1, ry, ey, q⟩ => ?_)
  subst ey
  obtain rfl : u = Value.ref C := ry
  exact PySem.W.callWith_K (h₀ := X.base) I1.ok.mod.kin M.kp (thn (ha.run pos pins s1 σ H1 _ I1 q) fun us s2 ⟨vs, H2, I2, r, q2⟩ => ⟨I2.kIn, run_makeZ M F hr (hx σ) I2 r q2⟩) he hpl
/-- a star call's items -/
def tStarZ (K : PySem.W.Frag) (te : TE) : TA := fun σ H Q => te σ H fun y H1 => ∃ a xs, y = V.ref a ∧ (SqT K H1 a xs ∨ SqL K H1 a xs) ∧ Q xs H1
/-- C(*y) -/
theorem pe_makeSZ (K : PySem.W.Frag) (M : Mk X.K C f) (F : FnR X.prog X.w X.K X.mg X.base CX k f sp) (hr : Room (k + 1) X.A) (hg : Gl X x) (hm : X.mg x = some (.ref C)) (hx : ∀ σ, PassesAt CX X σ (E σ))
    (he : PE X e te) (hK : X.K = K := by rfl) (hd : (x == ("__debug__" : Str)) = false := by decide) (hst : starEach [.Starred e sp_] X.env = [(true, eval e X.env)] := by rfl) :
    PE X (.Call (.Name x pp) [.Starred e sp_] [] pos) (tMakeZ C sp E (tStarZ K te)) := by
  subst hK
  refine ⟨fun pins s σ H Q I h => ?_⟩
  refine wpAny_Call_Name_kw (ld_glob I hg hm ?_ hd)
  refine PySem.W.callWith_S (h₀ := X.base) I.ok.mod.kin M.kp (thn (he.run pins s σ H _ I h) fun v s1 ⟨y, H1, I1, ry, a, xs, ey, hxs, q⟩ => ?_) hst
  subst ey
  obtain rfl : v = Value.ref a := ry
  exact star_any I1 hxs fun us s2 I2 rv => ⟨I2.kIn, run_makeZ M F hr (hx σ) I2 rv q⟩
/-- x(*y), x a local name that holds the class at C -/
theorem pe_makeSV (K : PySem.W.Frag) {i : Nat} (M : Mk X.K C f) (F : FnR X.prog X.w X.K X.mg X.base CX k f sp) (hr : Room (k + 1) X.A) (hx : ∀ σ, PassesAt CX X σ (E σ)) (hN : X.N[i]? = some x) (hv : Vis X.env.scope x)
    (he : PE X e te) (hK : X.K = K := by rfl) (hdb : (x == ("__debug__" : Str)) = false := by decide) (hcd : (x == ("__classdict__" : Str)) = false := by decide) (hst : starEach [.Starred e sp_] X.env = [(true, eval e X.env)] := by rfl) :
    PE X (.Call (.Name x pp) [.Starred e sp_] [] pos) (tMakeV i C sp E (tStarZ K te)) := by
  subst hK
  refine ⟨fun pins s σ H Q I h => ?_⟩
  obtain ⟨v, h1, h2, h3⟩ := h
  subst h2
  refine wpAny_Call_Name_kw (thn ((pe_var (pos := pp) hN hv hdb hcd).run pins s σ H (fun v H' => v = .ref C ∧ tMakeZ C sp E (tStarZ X.K te) σ H' Q) I ⟨_, h1, rfl, h3⟩) fun u s0 ⟨y, H0, I0, ry, ey, q0⟩ => ?_)
  subst ey
  obtain rfl : u = Value.ref C := ry
  refine PySem.W.callWith_S (h₀ := X.base) I0.ok.mod.kin M.kp (thn (he.run pins s0 σ H0 _ I0 q0) fun v s1 ⟨y, H1, I1, ry, a, xs, ey, hxs, q⟩ => ?_) hst
  subst ey
  obtain rfl : v = Value.ref a := ry
  exact star_any I1 hxs fun us s2 I2 rv => ⟨I2.kIn, run_makeZ M F hr (hx σ) I2 rv q⟩
/-- C() -/
theorem pe_makeZ0 (M : Mk X.K C f) (F : FnR X.prog X.w X.K X.mg X.base CX k f sp) (hr : Room (k + 1) X.A) (hg : Gl X x) (hm : X.mg x = some (.ref C)) (hx : ∀ σ, PassesAt CX X σ (E σ)) (hdb : (x == ("__debug__" : Str)) = false := by decide) :
    PE X (.Call (.Name x pp) [] [] pos) (tMakeZ C sp E tNil) := by
  refine ⟨fun pins s σ H Q I h => ?_⟩
  refine wpAny_Call_Name_kw (ld_glob I hg hm ?_ hdb)
  exact PySem.W.callWith_K0 I.kIn M.kp (run_makeZ M F hr (hx σ) I .nil h)
/-- C.m(e, ..), a class method -/
def tCMethZ (C : Addr) (sp : Sp) (E : L2.St → XK) (t : TA) : TE := fun σ H Q => t σ H fun vs H2 => sp (.ref C :: vs) H2 Q (E σ)
theorem cd_fnRS {pins : List (Addr × Obj)} {σ : L2.St} {H : Hp} {s : Shared} {E : XK} {Q : VK} {us : List Value} {vs : List V} (F : FnR X.prog X.w X.K X.mg X.base CX k f sp) (hr : Room k X.A) (hx : PassesAt CX X σ E) (I : L2.Inv X pins σ H s) (r : Vals vs us) (q : sp vs H Q E) :
    codeAny (model X.prog X.w) X.A (.call (.ref f) ⟨us, []⟩) (fun r s' => match r with
      | .ok (.ret v) => EP X pins σ Q v s'
      | .ok _ => False
      | .error e => X.xe e s') s := by
  refine codeAny_mono (F _ X.stack _ _ us _ _ E hr I.env0 r q) fun r s' h => ?_
  cases r with
  | error e => exact hx pins H s e s' I h
  | ok fl =>
    cases fl with
    | ret u =>
      obtain ⟨v, H2, os2, bare2, un2, hok2, rv, qv⟩ := h
      exact ⟨v, H2, I.call' os2 un2 hok2 bare2 (fun b hb => (nomatch hb)), rv, qv⟩
    | next => exact False.elim h
    | brk => exact False.elim h
    | cont => exact False.elim h
theorem run_cmZ {pins : List (Addr × Obj)} {σ : L2.St} {H : Hp} {s : Shared} {q : Addr} {E : XK} {Q : VK} {us : List Value} {vs : List V} (F : FnR X.prog X.w X.K X.mg X.base CX k g sp) (hr : Room k X.A) (hx : PassesAt CX X σ E) (I : Inv X ((q, PySem.W.methodObj (.ref g) (.ref C)) :: pins) σ H s)
    (r : Vals vs us) (h : sp (.ref C :: vs) H Q E) : wpAny (model X.prog X.w) X.A (call (.ref q) us) (EP X pins σ Q) X.xe s := by
  have z : wpAny (model X.prog X.w) X.A (call (.ref q) us) (EP X ((q, PySem.W.methodObj (.ref g) (.ref C)) :: pins) σ Q) X.xe s :=
    wpAny_call (PySem.W.method_call (ClX.pin_at I) (cd_fnRS (us := .ref C :: us) (vs := .ref C :: vs) F hr hx I (.cons rfl r) h))
  exact thn z fun _ _ y => ClX.unpinE y
theorem pe_cmethZ {pl : Sem Bool} (r : ClX.CRead X.K C mc) (c : ∃ p, ClX.CMet X.K C mc m p g) (F : FnR X.prog X.w X.K X.mg X.base CX k g sp) (hr : Room k X.A) (hx : ∀ σ, PassesAt CX X σ (E σ)) (hm : X.mg x = some (.ref C)) (ha : PA X (e :: es) t) (hg : Gl X x := by rfl) (hdb : (x == ("__debug__" : Str)) = false := by decide)
    (hst : starEach (e :: es) X.env = (false, eval e X.env) :: starEach es X.env := by rfl) (hpl : (backTo pos (starEach es X.env)).any (·.1) = false := by rfl)
    (ht : eval (.Call (.Attribute (.Name x pp) m apos) (e :: es) [] pos) X.env = (do
      let ov ← eval (.Name x pp) X.env
      standAt apos.atName
      let (f, first) ← holding [ov] (getMethod ov m pl)
      callWith pos f first (backTo pos (starEach (e :: es) X.env)) (backToKw pos (keywordEach [] X.env))) := by rfl) :
    PE X (.Call (.Attribute (.Name x pp) m apos) (e :: es) [] pos) (tCMethZ C sp E t) := by
  obtain ⟨p, c⟩ := c
  refine ⟨fun pins s σ H Q I h => ?_⟩
  refine PySem.W.methodCall_KW (pl := pl) (ld_glob I hg hm ?_ hdb) ht
  refine ClX.getmethcm_ok (I.tok _) r c fun s2 I2 => ?_
  refine ClX.callwith_cm I2 (ClX.base_none (I.tok _) (Nat.le_refl _)) c.fi (thn (ha.run pos _ s2 σ H _ I2 h) fun us s3 ⟨vs, H2, I3, rv, q2⟩ => ⟨⟨ClX.pin_at I3, I3.kIn⟩, ?_⟩) hst hpl
  exact run_cmZ F hr (hx σ) I3 rv q2
/-- e.f, a property that raises nothing, by a promise of values -/
def tPropZ (C : Addr) (sp : Sp) (ta : TE) : TE := fun σ H Q => ta σ H fun x H1 => ∃ a dx fs, x = .ref a ∧ H1 a = some (.ins C dx fs) ∧ sp [.ref a] H1 Q E0
theorem getpropZ_ok {pins : List (Addr × Obj)} {σ : L2.St} {H : Hp} {s : Shared} {Q : VK} {b : Bool} {E' : Value → Shared → Prop} {a dx : Addr} {fs : List (Str × V)} (I : Inv X pins σ H s) (ea : H a = some (.ins C dx fs)) (c : Cls X.K C) (hp : PropOf X.K C m p g)
    (F : FnR X.prog X.w X.K X.mg X.base CX k g sp) (hr : Room (k + 1) X.A) (hx : ∀ {pins σ H s e s'}, Inv X pins σ H s → CX X.stack H s E0 e s' → False) (h : sp [.ref a] H Q E0) :
    wpAny (model X.prog X.w) X.A (getAttr (.ref a) m b) (EP X pins σ Q) E' s := by
  obtain ⟨mA, O, _, _, _, _⟩ := ins_get I.hok ea
  obtain ⟨od, J, _⟩ := O.look
  obtain ⟨rest, hrec⟩ := hp.rec_
  have I1 := I.tok (s.toks + 1)
  have hc : (PySem.W.clsIn X.K C).isSome = true := by
    obtain ⟨cd, hc, _⟩ := PySem.W.any_some c.hd
    rw [hc]
    rfl
  refine PySem.W.get_bind I.kIn J (PySem.W.plainGet_of (c.get m)).1 (PySem.W.findObj_data hc hp.at_ hp.get hp.tak) (PySem.W.plainGet_of (c.get m)).2 (wpAny_call (PySem.W.prop_get (s := { s with toks := s.toks + 1 }) I.kIn hrec ?_))
  refine codeAny_mono (F X.A.in1 X.stack { s with toks := s.toks + 1 } H [.ref a] [.ref a] Q E0 hr.in1 I1.env0.in1 (.cons rfl .nil) h) fun r s' hq => ?_
  cases r with
  | error er => exact (hx I1 hq).elim
  | ok fl =>
    cases fl with
    | ret u =>
      obtain ⟨v, H', I3, rv, q3⟩ := I1.after hq
      show wpAny _ _ (handedOut u) _ _ _
      rw [PySem.W.handedOut_of (handed_of rv)]
      exact wpAny_pure ⟨v, H', I3, rv, q3⟩
    | next => exact False.elim hq
    | brk => exact False.elim hq
    | cont => exact False.elim hq
theorem pe_propZ (he : PE X e te) (c : Cls X.K C) (hp : ∃ p, PropOf X.K C m p g) (F : FnR X.prog X.w X.K X.mg X.base CX k g sp) (hr : Room (k + 1) X.A) (hx : ∀ {pins σ H s e s'}, Inv X pins σ H s → CX X.stack H s E0 e s' → False)
    (hab : attributeBase e m X.env (eval e X.env) = eval e X.env := by rfl) : PE X (.Attribute e m pos) (tPropZ C sp te) := by
  obtain ⟨p, hp⟩ := hp
  refine ⟨fun pins s σ H Q I h => ?_⟩
  refine attr_of hab (thn (he.run pins s σ H _ I h) fun u s1 ⟨x, H1, I1, rx, a, dx, fs, ex, ea, q⟩ => ?_)
  subst ex
  obtain rfl : u = Value.ref a := rx
  exact getpropZ_ok I1 ea c hp F hr hx q
theorem noXL {pins : List (Addr × Obj)} {σ : L2.St} {H : Hp} {s : Shared} {e : Value} {s' : Shared} (I : Inv X pins σ H s) (h : L2.CX X.prog X.w X.stack H s E0 e s') : False := by
  obtain ⟨a, B, H', cls, d, ea, fl, hok, ub, na, os, ag, he⟩ := h
  exact he
theorem noX0 {pins : List (Addr × Obj)} {σ : L2.St} {H : Hp} {s : Shared} {e : Value} {s' : Shared} (I : Inv X pins σ H s) (h : CX0 X.stack H s E0 e s') : False := h
end
end G
set_option Elab.async false
set_option linter.all false
set_option maxRecDepth 100000
set_option maxHeartbeats 2000000
namespace G
open PySem PySem.Spec PyProof.Rows L2 StX

/-! ### classes as values, tuples of any length -/
structure Cv where
  c : Cn
instance : Rep Cv := ⟨fun W _ v a => v = .ref (W.B.cl a.c), fun _ h => h, fun _ _ h => h, fun _ h => h⟩
instance : NoLst Cv := ⟨fun _ h => h⟩
structure Tl (α : Type) where
  xs : List α
instance {α : Type} [Rep α] : Rep (Tl α) :=
  ⟨fun W H v as => ∃ p vs, v = .ref p ∧ Tq W H p vs ∧ Dl (den W H) vs as.xs,
   fun e ⟨p, vs, hv, s, h⟩ => ⟨p, vs, hv, s.mono e, h.imp fun _ _ x => Rep.mono e x⟩,
   fun D n ⟨p, vs, hv, s, h⟩ => ⟨p, vs, hv, s.grow D n, h.imp fun _ _ x => Rep.grow D n x⟩,
   fun D ⟨p, vs, hv, s, h⟩ => ⟨p, vs, hv, s.shrink D, h.imp fun _ _ x => Rep.shrink D x⟩⟩
section
variable {W : Wd} {Γ : Gam} {ta : TA} {te tb to tl : TE} {tt : TT} {g : TG} {B : Bs} {P : PT} {E : L2.St → XK} {x : Xn → Prop} {C : Addr} {K : PySem.W.Frag}
/-- [te for g in a tuple if tt] -/
theorem evF_lcT {α β : Type} {rα : Rep α} {rβ : Rep β} {vs : List Nat} {k : List β → Prop} (hK : W.B.K = K)
    (h : EvK W tl Γ fun as : Tl α => as.xs.length ≤ 100000 ∧ ∃ I : Nat → List β → Prop, I 0 [] ∧ (∀ W', Sub W W' → ∀ (i : Nat) (a : α) (bs : List β), as.xs[i]? = some a → I i bs → LcTurn W' g tt te vs Γ a (I (i + 1) bs) fun y : β => I (i + 1) (bs ++ [y])) ∧ ∀ bs, I as.xs.length bs → k bs) :
    EvF W (tLc (iTup K tl) g tt te vs) Γ k := by
  subst hK
  refine fun σ H Q E c => h σ H _ E fun v H1 as e1 ⟨p, xs, hv, hp, hd⟩ ⟨hl, I, h0, hs, hf⟩ => ⟨p, hv, ⟨xs, hp.sq⟩, fun D n => ?_⟩
  have G1 := E.ext e1
  have eD : Ext W H1 (upd H1 D (.lst [])) := Ext.new e1.ok n
  refine lc_tup (xs := xs) (fun i H' => Ext W H1 H' ∧ ∃ acc bs, H' D = some (.lst acc) ∧ Dl (den (W.toWc.plus D) H') acc bs ∧ acc.length ≤ i ∧ I i bs) ⟨eD, [], [], upd_same, .nil, Nat.le_refl _, h0⟩ (fun i H' _ ⟨e, _⟩ => (hp.mono e.keep).sq) ?_ ?_
  · rintro i x H' hx ⟨e, acc, bs, hD, hb, ha, q⟩
    obtain ⟨a, ea, da⟩ := hd.at hx
    have hil : i < as.xs.length := (List.getElem?_eq_some_iff.mp ea).1
    exact lc_turn (I := I (i + 1)) (P := fun H' => Ext W H1 H' ∧ ∃ acc bs, H' D = some (.lst acc) ∧ Dl (den (W.toWc.plus D) H') acc bs ∧ acc.length ≤ i + 1 ∧ I (i + 1) bs) (hs _ (Sub.plus (n := n) (o1 := e1.ok) (w1 := G1.wish)) i a bs ea q) G1 e hD hb da (by omega) fun H2 acc2 bs2 e2 hD2 hb2 hl2 q2 => ⟨e2, acc2, bs2, hD2, hb2, by omega, q2⟩
  · rintro H' ⟨e, acc, bs, hD, hb, ha, q⟩
    rw [hd.length] at q
    exact c D H' acc bs (fresh_back e1.ok e1 n) (e1.trans e) hD hb (hf bs q)
/-- a pure comprehension gives a new list -/
theorem lcF_turns {α β : Type} {rα : Rep α} {rβ : Rep β} {vs : List Nat} {as : List α} (p : α → Bool) (f : α → β) (hs : ∀ W', Sub W W' → ∀ a ∈ as, LcTurn W' g tt te vs Γ a (p a = false) fun y : β => p a = true ∧ y = f a) :
    ∀ W', Sub W W' → ∀ (i : Nat) (a : α) (bs : List β), as[i]? = some a → bs = ((as.take i).filter p).map f → LcTurn W' g tt te vs Γ a (bs = ((as.take (i + 1)).filter p).map f) fun y : β => bs ++ [y] = ((as.take (i + 1)).filter p).map f := by
  intro W' s i a bs ha e
  have ht : as.take (i + 1) = as.take i ++ [a] := by
    rw [List.take_succ, ha]; rfl
  obtain ⟨js, h1, h2⟩ := hs W' s a (List.mem_of_getElem? ha)
  refine ⟨js, h1, fun σ H v Q E d c => h2 σ H v Q E d fun σ' Γ' G m q2 => c σ' Γ' G m ?_⟩
  intro σ2 H2 Q2 E2 c2
  refine q2 σ2 H2 Q2 E2 fun H3 b e3 ⟨hy, hn⟩ => c2 H3 b e3 ⟨fun hb => (hy hb).imp fun y ⟨hp, hyf⟩ => ?_, fun hb => ?_⟩
  · show bs ++ [y] = ((as.take (i + 1)).filter p).map f
    rw [ht, List.filter_append, List.map_append, ← e, List.filter_cons_of_pos hp, hyf]; rfl
  · show bs = ((as.take (i + 1)).filter p).map f
    rw [ht, List.filter_append, List.map_append, ← e, List.filter_cons_of_neg (by rw [hn hb]; exact Bool.false_ne_true)]; simp
theorem evF_lcF {α β : Type} [rα : Rep α] [rβ : Rep β] {vs : List Nat} {k : List β → Prop} (p : α → Bool) (f : α → β) (hK : W.B.K = K)
    (h : EvK W tl Γ fun as : List α => as.length ≤ 100000 ∧ (∀ W', Sub W W' → ∀ a ∈ as, LcTurn W' g tt te vs Γ a (p a = false) fun y : β => p a = true ∧ y = f a) ∧ k ((as.filter p).map f)) :
    EvF W (tLc (iList K tl) g tt te vs) Γ k := evF_lc hK (h.imp fun as ⟨hl, hs, q⟩ => ⟨hl, fun i bs => bs = ((as.take i).filter p).map f, by simp, lcF_turns p f hs, fun bs e => by rw [e, List.take_length]; exact q⟩)
theorem evF_lcTF {α β : Type} [rα : Rep α] [rβ : Rep β] {vs : List Nat} {k : List β → Prop} (p : α → Bool) (f : α → β) (hK : W.B.K = K)
    (h : EvK W tl Γ fun as : Tl α => as.xs.length ≤ 100000 ∧ (∀ W', Sub W W' → ∀ a ∈ as.xs, LcTurn W' g tt te vs Γ a (p a = false) fun y : β => p a = true ∧ y = f a) ∧ k ((as.xs.filter p).map f)) :
    EvF W (tLc (iTup K tl) g tt te vs) Γ k := evF_lcT hK (h.imp fun as ⟨hl, hs, q⟩ => ⟨hl, fun i bs => bs = ((as.xs.take i).filter p).map f, by simp, lcF_turns p f hs, fun bs e => by rw [e, List.take_length]; exact q⟩)

/-! ### sorted pairs -/
def lexLe (p q : Int × Int) : Bool := decide (p.1 < q.1 ∨ (p.1 = q.1 ∧ p.2 ≤ q.2))
theorem lexLe_iff {p q : Int × Int} : lexLe p q = true ↔ p.1 < q.1 ∨ (p.1 = q.1 ∧ p.2 ≤ q.2) := by unfold lexLe; exact decide_eq_true_iff
theorem lexLe_trans (a b c : Int × Int) (h1 : lexLe a b = true) (h2 : lexLe b c = true) : lexLe a c = true := by rw [lexLe_iff] at *; omega
theorem lexLe_total (a b : Int × Int) : (lexLe a b || lexLe b a) = true := by
  rw [Bool.or_eq_true, lexLe_iff, lexLe_iff]; omega
theorem lexLe_anti (a b : Int × Int) (h1 : lexLe a b = true) (h2 : lexLe b a = true) : a = b := by
  rw [lexLe_iff] at h1 h2
  exact Prod.ext (by omega) (by omega)
def sortP (as : List (Int × Int)) : List (Int × Int) := as.mergeSort lexLe
theorem sortP_perm (as : List (Int × Int)) : (sortP as).Perm as := List.mergeSort_perm _ _
theorem sortP_sorted (as : List (Int × Int)) : (sortP as).Pairwise fun a b => lexLe a b = true := List.pairwise_mergeSort lexLe_trans lexLe_total _
theorem sortP_uniq {as bs : List (Int × Int)} (hp : bs.Perm as) (hs : bs.Pairwise fun a b => lexLe a b = true) : bs = sortP as :=
  List.Perm.eq_of_pairwise (fun a b _ _ => lexLe_anti a b) hs (sortP_sorted as) (hp.trans (sortP_perm as).symm)
theorem sortP_length (as : List (Int × Int)) : (sortP as).length = as.length := (sortP_perm as).length_eq
theorem sortP_mem {as : List (Int × Int)} {a : Int × Int} : a ∈ sortP as ↔ a ∈ as := (sortP_perm as).mem_iff
theorem sortP_congr {as bs : List (Int × Int)} (h : as.Perm bs) : sortP as = sortP bs := sortP_uniq ((sortP_perm as).trans h) (sortP_sorted as)
/-- the ints of a pair that stands in the heap -/
def pairK (H : Hp) (v : V) : Int × Int := match v with
  | .ref t => match H t with
    | some (.tup [.int i, .int j]) => (i, j)
    | _ => (0, 0)
  | _ => (0, 0)
theorem pairK_of {W : Wc} {H : Hp} {v : V} {a : Int × Int} (h : den W H v a) : pairK H v = a ∧ ∃ t, v = V.ref t ∧ H t = some (.tup [.int (pairK H v).1, .int (pairK H v).2]) := by
  obtain ⟨p, x, y, hv, s, h1, h2⟩ := h
  have h1' : x = V.int a.1 := h1
  have h2' : y = V.int a.2 := h2
  subst h1' h2' hv
  have e : pairK H (.ref p) = a := by
    show (match H p with
      | some (.tup [.int i, .int j]) => (i, j)
      | _ => ((0 : Int), (0 : Int))) = a
    rw [s.2]
  exact ⟨e, p, rfl, by rw [e]; exact s.2⟩
theorem dl_pairK {W : Wc} {H : Hp} : ∀ {vs : List V} {as : List (Int × Int)}, Dl (den W H) vs as → vs.map (pairK H) = as
  | _, _, .nil => rfl
  | _, _, .cons x y => by rw [List.map_cons, (pairK_of x).1, dl_pairK y]
theorem Dl.mem {α : Type} {f : V → α → Prop} {v : V} : ∀ {vs : List V} {as : List α}, Dl f vs as → v ∈ vs → ∃ a, a ∈ as ∧ f v a
  | _, _, .nil, h => nomatch h
  | _, _, .cons x y, h => by
    rcases List.mem_cons.mp h with rfl | h
    · exact ⟨_, List.mem_cons_self, x⟩
    · obtain ⟨a, h1, h2⟩ := y.mem h
      exact ⟨a, List.mem_cons_of_mem _ h1, h2⟩
theorem dl_of_map {W : Wc} {H : Hp} : ∀ {vs : List V}, (∀ v ∈ vs, ∃ a : Int × Int, den W H v a) → Dl (den W H) vs (vs.map (pairK H))
  | [], _ => .nil
  | v :: r, h => by
    obtain ⟨a, d⟩ := h v List.mem_cons_self
    refine .cons ?_ (dl_of_map fun w hw => h w (List.mem_cons_of_mem _ hw))
    rw [(pairK_of d).1]
    exact d
theorem evF_sortedP {k : List (Int × Int) → Prop} (hK : W.B.K = K) (h : EvK W te Γ fun as : List (Int × Int) => k (sortP as)) : EvF W (tCB (rSortedPO K) (tCons te tNil)) Γ k := by
  subst hK
  refine fun σ H Q E c => h σ H _ E fun v H1 as e1 ⟨p, vs, hv, hp, hd⟩ z => ?_
  refine ⟨p, vs, pairK H1, by rw [hv], hp.sq, fun x hx => ?_, fun ys q hs hb hn => ?_⟩
  · obtain ⟨a, _, d⟩ := hd.mem hx
    exact (pairK_of d).2
  · have hperm : ys.Perm vs := hb.perm
    have e2 : ys.map (pairK H1) = sortP as := by
      refine sortP_uniq ?_ ?_
      · have := hperm.map (pairK H1)
        rw [dl_pairK hd] at this
        exact this
      · refine List.pairwise_map.mpr (List.Pairwise.imp (fun {a b} hab => ?_) hs)
        have hab' := SrtO.lexB_no.mp hab
        rw [lexLe_iff]
        omega
    have hd2 : Dl (den W H1) ys (sortP as) := by
      rw [← e2]
      exact dl_of_map fun w hw => by
        obtain ⟨a, _, d⟩ := hd.mem (hperm.mem_iff.mp hw)
        exact ⟨a, d⟩
    have e3 := Ext.new (o := .lst ys) e1.ok hn
    exact c q _ ys (sortP as) (fresh_back e1.ok e1 hn) (e1.trans e3) upd_same (hd2.imp fun _ _ d => Rep.mono (W := W.toWc.plus q) (fun b o m z => by rw [upd_ne (ne_of_none z hn)]; exact z) (Rep.grow q hn d)) z

/-! ### any, all, sum, greatest, least -/
theorem dl_bls {vs : List V} {as : List Bool} (h : Dl (fun v (a : Bool) => v = .bl a) vs as) : vs = as.map V.bl := by
  induction h with
  | nil => rfl
  | cons x _ ih => rw [x, ih]; rfl
theorem ev_any {k : Bool → Prop} (hK : W.B.K = K) (h : EvK W te Γ fun as : List Bool => k (as.any id)) : EvK W (tCB (rAny K) (tCons te tNil)) Γ k := by
  subst hK
  exact fun σ H Q E c => h σ H _ E fun v H1 as e1 ⟨p, vs, hv, hp, hd⟩ z => ⟨p, as, by rw [hv], by rw [← dl_bls hd]; exact hp.sq, c _ H1 _ e1 rfl z⟩
theorem ev_all {k : Bool → Prop} (hK : W.B.K = K) (h : EvK W te Γ fun as : List Bool => k (as.all id)) : EvK W (tCB (rAll K) (tCons te tNil)) Γ k := by
  subst hK
  exact fun σ H Q E c => h σ H _ E fun v H1 as e1 ⟨p, vs, hv, hp, hd⟩ z => ⟨p, as, by rw [hv], by rw [← dl_bls hd]; exact hp.sq, c _ H1 _ e1 rfl z⟩
theorem ev_sum {k : Int → Prop} (hK : W.B.K = K) (h : EvK W te Γ fun as : List Int => k as.sum) : EvK W (tCB (rSum K) (tCons te tNil)) Γ k := by
  subst hK
  exact fun σ H Q E c => h σ H _ E fun v H1 as e1 ⟨p, vs, hv, hp, hd⟩ z => ⟨p, as, by rw [hv], by rw [← Dl.ints hd]; exact hp.sq, c _ H1 _ e1 rfl z⟩
theorem ev_maxL {k : Int → Prop} (hK : W.B.K = K) (h : EvK W te Γ fun as : List Int => 0 < as.length ∧ ∀ m, m ∈ as → (∀ y, y ∈ as → y ≤ m) → k m) : EvK W (tCB (rMax K) (tCons te tNil)) Γ k := by
  subst hK
  exact fun σ H Q E c => h σ H _ E fun v H1 as e1 ⟨p, vs, hv, hp, hd⟩ ⟨hl, z⟩ => ⟨p, as, by rw [hv], by rw [← Dl.ints hd]; exact hp.sq, hl, fun m h1 h2 => c _ H1 _ e1 rfl (z m h1 h2)⟩
theorem ev_minL {k : Int → Prop} (hK : W.B.K = K) (h : EvK W te Γ fun as : List Int => 0 < as.length ∧ ∀ m, m ∈ as → (∀ y, y ∈ as → m ≤ y) → k m) : EvK W (tCB (rMin K) (tCons te tNil)) Γ k := by
  subst hK
  exact fun σ H Q E c => h σ H _ E fun v H1 as e1 ⟨p, vs, hv, hp, hd⟩ ⟨hl, z⟩ => ⟨p, as, by rw [hv], by rw [← Dl.ints hd]; exact hp.sq, hl, fun m h1 h2 => c _ H1 _ e1 rfl (z m h1 h2)⟩
/-- a list as a test -/
theorem et_truthL {α : Type} {rα : Rep α} {k : Bool → Prop} (hK : W.B.K = K) (h : EvK W te Γ fun as : List α => k (!as.isEmpty)) : EvT W (fun σ H Q => te σ H fun x H' => ∃ k, TruV K x H' k ∧ Q k H') Γ k := by
  subst hK
  refine fun σ H Q E c => h σ H _ E fun v H1 as e1 ⟨p, vs, hv, hp, hd⟩ z => ⟨!as.isEmpty, ?_, c H1 _ e1 z⟩
  subst hv
  refine .inl ⟨vs, hp.sq, ?_⟩
  cases hd <;> rfl

/-! ### class methods, properties, own makes -/
theorem ev_cmethZ {α : Type} {rα : Rep α} {k : α → Prop} (c : Cn) (hB : W.B = B) (hC : B.cl c = C) (hx : HX W Γ E x) (h : EvA W ta Γ fun ts => P (fun t => ∃ a : α, t = T a ∧ k a) x (T (Cv.mk c) :: ts)) : EvK W (tCMethZ C (spG B P) E ta) Γ k := by
  subst hB
  subst hC
  exact fun σ H Q G q => h σ H _ G fun vs H1 ts e1 d z => ⟨W, _, _, x, rfl, e1.ok, .cons (t := T (Cv.mk c)) rfl d, z, fun v H2 t e2 dt ⟨a, ea, qq⟩ => by
    subst ea
    exact q v H2 a (e1.trans e2) dt qq, hx σ H1 (G.ext e1)⟩
theorem ev_propZ {α β : Type} {rα : Rep α} {rβ : Rep β} {k : α → Prop} (hB : W.B = B)
    (h : EvK W te Γ fun s : β => OwnG β B C (P (fun t => ∃ a : α, t = T a ∧ k a) (fun _ => False) [T s])) : EvK W (tPropZ C (spG B P) te) Γ k := by
  subst hB
  refine fun σ H Q G c => h σ H _ G fun v H1 s e1 d ⟨cc, fl, iβ, hC, z⟩ => ?_
  subst hC
  obtain ⟨p, dp, fs, hv, _, hH, _⟩ := iβ.at_ d
  refine ⟨p, dp, fs, hv, hH, W, _, _, _, rfl, e1.ok, .cons (t := T s) (by rw [← hv]; exact d) .nil, z, fun v H3 t e3 dt ⟨a, ea, q⟩ => by
    subst ea
    exact c v H3 a (e1.trans e3) dt q, fun n d2 H2 _ _ q => q.elim⟩
theorem ev_makeV {α : Type} {rα : Rep α} {c : Cn} {sp : Sp} {i : Nat} {k : α → Prop} (hB : W.B = B) (hC : B.cl c = C) (hi : Γ[i]? = some (some (T (Cv.mk c)))) (h : EvK W (tMakeZ C sp E ta) Γ k) : EvK W (tMakeV i C sp E ta) Γ k := by
  subst hB
  subst hC
  exact fun σ H Q G q => by
    obtain ⟨v, h1, h2⟩ := G.at_ i _ hi
    exact ⟨v, h1, h2, h σ H Q G q⟩
/-- a star call's items from a list, a tuple -/
theorem el_starL {α : Type} {rα : Rep α} {k : List α → Prop} (hK : W.B.K = K) (h : EvK W te Γ fun as : List α => k as) : EvL W (tStarZ K te) Γ k := by
  subst hK
  exact fun σ H Q E c => h σ H _ E fun v H1 as e1 ⟨p, vs, hv, hp, hd⟩ z => ⟨p, vs, hv, .inr hp.sq, c vs H1 as e1 hd z⟩
theorem el_starT {α : Type} {rα : Rep α} {k : List α → Prop} (hK : W.B.K = K) (h : EvK W te Γ fun as : Tl α => k as.xs) : EvL W (tStarZ K te) Γ k := by
  subst hK
  exact fun σ H Q E c => h σ H _ E fun v H1 as e1 ⟨p, vs, hv, hp, hd⟩ z => ⟨p, vs, hv, .inl hp.sq, c vs H1 as.xs e1 hd z⟩

/-! ### sets of levels -/
end
structure Lvs where
  ps : List Stc
  deriving DecidableEq
instance : Rep Lvs :=
  ⟨fun W H v l => ∃ a dx y, v = .ref a ∧ ¬ W.mu a ∧ H a = some (.ins (W.B.cl .Levels) dx [("_pieces", y)]) ∧ den W H y l.ps,
   fun e ⟨a, dx, y, hv, m, h, d⟩ => ⟨a, dx, y, hv, m, e _ _ m h, Rep.mono e d⟩,
   fun D n ⟨a, dx, y, hv, m, h, d⟩ => ⟨a, dx, y, hv, mu_grow n m h, h, Rep.grow D n d⟩,
   fun D ⟨a, dx, y, hv, m, h, d⟩ => ⟨a, dx, y, hv, fun z => m (.inl z), h, Rep.shrink D d⟩⟩
instance : Ins Lvs .Levels ["_pieces"] := ⟨fun ⟨a, dx, y, hv, m, h, _⟩ => ⟨a, dx, _, hv, m, h, rfl⟩⟩
instance : Pln Lvs := ⟨fun ⟨a, dx, y, hv, _⟩ => .inl ⟨a, hv⟩⟩
structure LvsT (B : Bs) : Prop where
  cl : Cls B.K (B.cl .Levels)
  np : NoAttr B.K (B.cl .Levels) "_pieces"
theorem lvs_of {W : Wd} {B : Bs} (h : W.B = B) (s : LvsT B) : LvsT W.B := h ▸ s
section
variable {W : Wd} {Γ : Gam} {ta : TA} {te tb to tl : TE} {tt : TT} {g : TG} {B : Bs} {P : PT} {E : L2.St → XK} {x : Xn → Prop} {C : Addr} {K : PySem.W.Frag}
theorem ev_pieces {k : List Stc → Prop} (hK : W.B.K = K) (hL : LvsT W.B) (h : EvK W te Γ fun s : Lvs => k s.ps) : EvK W (tFld K te "_pieces") Γ k := by
  subst hK
  refine fun σ H Q E c => h σ H _ E fun v H1 s e1 ⟨a, dx, y, hv, m, hH, d⟩ z => ?_
  exact ⟨a, _, dx, _, y, hv, hH, hL.cl, hL.np, by simp [List.lookup], c y H1 _ e1 d z⟩
/-- the fewest pieces: pairs in order are joined -/
def joinStep (acc : List (Int × Int)) (p : Int × Int) : List (Int × Int) := match acc.getLast? with
  | some q => if p.1 ≤ q.2 + 1 then acc.dropLast ++ [(q.1, max q.2 p.2)] else acc ++ [p]
  | none => [p]
def joinF (ps : List (Int × Int)) : List (Int × Int) := ps.foldl joinStep []
def mkStc (p : Int × Int) : Stc := ⟨p.1, p.2⟩
def stcE (s : Stc) : Int × Int := (s.lo, s.hi)
def unionF (ps : List (Int × Int)) : List (Int × Int) := joinF (sortP ps)
def lvF (ss : List Stc) : List Stc := (unionF (ss.map stcE)).map mkStc
/-- __init__ of Levels, its stretches a tuple -/
def spLI (B : Bs) : Sp := fun vs H Q E => ∃ (W : Wd) (p dx q : Addr) (ss : List Stc), vs = [.ref p, .ref q] ∧ H p = some (.ins (B.cl .Levels) dx []) ∧ W.B = B ∧ W.ok H ∧ ¬ W.mu p ∧ den W H (.ref q) (Tl.mk ss) ∧ ss.length ≤ 1000 ∧ (∀ s ∈ ss, s.lo ≤ s.hi) ∧
  ∀ H' y, Ext W H H' → den W H' y (lvF ss) → Q .non (upd H' p (.ins (B.cl .Levels) dx [("_pieces", y)]))
/-- .. as a call sees it -/
def spLS (B : Bs) : Sp := fun vs H Q E => ∃ ws rest, vs = ws ++ rest ∧ ws.length = 1 ∧ rest.length ≤ sizeLine ∧ ∀ p, H p = Option.none → spLI B (ws ++ [V.ref p]) (upd H p (.tup rest)) Q E
theorem ev_levels {k : Lvs → Prop} (hB : W.B = B) (hC : B.cl .Levels = C) (h : EvL W ta Γ fun ss : List Stc => (ss.length ≤ 1000 ∧ ∀ s ∈ ss, s.lo ≤ s.hi) ∧ k ⟨lvF ss⟩) : EvK W (tMakeZ C (spLS B) E ta) Γ k := by
  subst hB
  subst hC
  refine fun σ H Q G c => h σ H _ G fun vs H1 ss e1 d ⟨⟨hl, ho⟩, z⟩ xx dx nx ndx nex => ?_
  have o := e1.ok
  have m1 := fresh_mu o ndx
  have m2 := fresh_mu o nx
  have ok3 : W.ok (upd (upd H1 dx (.own xx)) xx (.ins (W.B.cl .Levels) dx [])) := W.st _ _ _ (W.st _ _ _ o m1) m2
  have e3 : Ext W H1 (upd (upd H1 dx (.own xx)) xx (.ins (W.B.cl .Levels) dx [])) := ⟨fun a u _ q => by rw [upd_ne (ne_of_none q nx), upd_ne (ne_of_none q ndx)]; exact q, ok3⟩
  refine ⟨[V.ref xx], vs, rfl, rfl, Nat.le_trans (by rw [d.length]; omega : vs.length ≤ 1000) (by decide), fun p hp => ?_⟩
  have e4 := Ext.new (o := .tup vs) ok3 hp
  have hpx : xx ≠ p := fun e => by rw [← e, upd_same] at hp; cases hp
  refine ⟨W, xx, dx, p, ss, rfl, by rw [upd_ne hpx, upd_same], rfl, e4.ok, m2, ⟨p, vs, rfl, Tq.new (fresh_mu ok3 hp) upd_same, d.imp fun _ _ y => Rep.mono (e3.trans e4).keep y⟩, hl, ho, fun H' y e5 dy => ⟨rfl, ?_⟩⟩
  have e6 := (e3.trans e4).trans e5
  have nxH' : ∀ a u, H1 a = some u → a ≠ xx := fun a u q => ne_of_none q nx
  have k7 : Kp W.toWc H1 (upd H' xx (.ins (W.B.cl .Levels) dx [("_pieces", y)])) := fun a u m q => by rw [upd_ne (nxH' a u q)]; exact e6.keep a u m q
  have hx' : H' xx = some (.ins (W.B.cl .Levels) dx []) := (e4.trans e5).keep xx _ m2 upd_same
  refine c (.ref xx) _ ⟨lvF ss⟩ (e1.trans ⟨k7, W.st _ _ _ e6.ok m2⟩) ⟨xx, dx, y, rfl, m2, upd_same, ?_⟩ z
  -- the pieces do not lean on the new object itself
  obtain ⟨p2, ws, hv, hq, hw⟩ := dy
  have ne2 : p2 ≠ xx := fun e => by have := hq.2; rw [e, hx'] at this; cases this
  refine ⟨p2, ws, hv, ⟨hq.1, by rw [upd_ne ne2]; exact hq.2⟩, hw.imp fun v s ⟨a, da, hv2, ma, ha⟩ => ⟨a, da, hv2, ma, ?_⟩⟩
  have ne3 : a ≠ xx := fun e => by
    rw [e, hx'] at ha
    injection ha with ha
    injection ha with _ _ ha
    cases ha
  rw [upd_ne ne3]
  exact ha
end
end G
set_option Elab.async false
set_option linter.all false
set_option maxRecDepth 100000
set_option maxHeartbeats 2000000
namespace G
open PySem PySem.Spec PyProof.Rows L2 StX

/-! ### len, repr, str of own objects -/
section
variable {X : Cx} {CX : CXT} {k n : Nat} {f g C p : Addr} {sp : Sp} {E : XK}
theorem run_fnR2 {pins : List (Addr × Obj)} {σ : L2.St} {H : Hp} {s : Shared} {Q : VK} {us : List Value} {vs : List V} (F : FnR X.prog X.w X.K X.mg X.base CX n f sp) (hr : Room (n + 2) X.A) (hx : Passes CX X E) (I : L2.Inv X pins σ H s) (r : Vals vs us) (q : sp vs H Q E) :
    wpAny (model X.prog X.w) X.A.in1.in1 (call (.ref f) us) (EP X pins σ Q) X.xe s := by
  refine wpAny_call (codeAny_mono (F X.A.in1.in1 X.stack s H us vs Q E hr.in1.in1 I.env0.in1.in1 r q) fun r s' h => ?_)
  cases r with
  | error e => exact hx pins _ H s e s' I h
  | ok fl =>
    cases fl with
    | ret u =>
      obtain ⟨v, H2, os2, bare2, un2, hok2, rv, qv⟩ := h
      exact ⟨v, H2, I.call' os2 un2 hok2 bare2 (fun b hb => (nomatch hb)), rv, qv⟩
    | next => exact False.elim h
    | brk => exact False.elim h
    | cont => exact False.elim h
def rStrO (C : Addr) (sp : Sp) (E : XK) : List V → Hp → VK → Prop := fun xs H Q => ∃ a dx fs, xs = [.ref a] ∧ H a = some (.ins C dx fs) ∧ sp [.ref a] H (fun v H' => ∃ y, v = .str y ∧ Q (.str y) H') E
def rLenO (C : Addr) (sp : Sp) (E : XK) : List V → Hp → VK → Prop := fun xs H Q => ∃ a dx fs, xs = [.ref a] ∧ H a = some (.ins C dx fs) ∧ sp [.ref a] H (fun v H' => ∃ i : Int, v = .int i ∧ (0 ≤ i ∧ i < 2 ^ 63) ∧ Q (.int i) H') E
/-- what the text says of a special method of the class -/
structure SpT (K : PySem.W.Frag) (C : Addr) (m : Str) (f : Addr) : Prop where
  at_ : PySem.W.findIn K (.ref C) m = some (some (.ref f))
  fn : PySem.W.isFn K (.ref f) = true
theorem call_lenO (T : SpT X.K C "__len__" f) (F : FnR X.prog X.w X.K X.mg X.base CX n f sp) (hr : Room (n + 1) X.A) (hx : Passes CX X E) : CallR X (.builtin "len") (rLenO C sp E) := by
  intro pins s σ H xs us Q I r h
  obtain ⟨a, dx, fs, rfl, ea, q⟩ := h
  obtain ⟨u, rfl, rx⟩ := vals1 r
  obtain rfl : u = Value.ref a := rx
  obtain ⟨od, J⟩ := inst_of I ea
  obtain ⟨m', hF⟩ := I.fr
  refine PySem.W.len_K hF I.ok.mod.kin J T.at_ T.fn (thn (run_fnR1 (us := [.ref a]) (vs := [.ref a]) F hr hx I (.cons rfl .nil) q) fun w s' ⟨v, H', I', rv, i, ev, hb, q2⟩ => ?_)
  subst ev
  obtain ⟨t, rfl⟩ := rv
  exact ⟨hb, .int i, H', I'.tok _, ⟨_, rfl⟩, q2⟩
theorem call_reprO (T : SpT X.K C "__repr__" f) (F : FnR X.prog X.w X.K X.mg X.base CX n f sp) (hr : Room (n + 1) X.A) (hx : Passes CX X E) : CallR X (.builtin "repr") (rStrO C sp E) := by
  intro pins s σ H xs us Q I r h
  obtain ⟨a, dx, fs, rfl, ea, q⟩ := h
  obtain ⟨u, rfl, rx⟩ := vals1 r
  obtain rfl : u = Value.ref a := rx
  obtain ⟨od, J⟩ := inst_of I ea
  obtain ⟨m', hF⟩ := I.fr
  have hu := hr.in1.units
  refine PySem.W.repr_K (by omega) hF I.ok.mod.kin J T.at_ T.fn (thn (run_fnR1 (us := [.ref a]) (vs := [.ref a]) F hr hx I (.cons rfl .nil) q) fun w s' ⟨v, H', I', rv, y, ev, q2⟩ => ?_)
  subst ev
  obtain ⟨t, rfl⟩ := rv
  exact ⟨.str y, H', I', ⟨_, rfl⟩, q2⟩
theorem call_strO (T : SpT X.K C "__str__" f) (F : FnR X.prog X.w X.K X.mg X.base CX n f sp) (hr : Room (n + 2) X.A) (hx : Passes CX X E) : CallR X (.type "str") (rStrO C sp E) := by
  intro pins s σ H xs us Q I r h
  obtain ⟨a, dx, fs, rfl, ea, q⟩ := h
  obtain ⟨u, rfl, rx⟩ := vals1 r
  obtain rfl : u = Value.ref a := rx
  obtain ⟨od, J⟩ := inst_of I ea
  have hu := hr.in1.in1.units
  refine PySem.W.kso_call (by omega) I.kIn J T.at_ T.fn (thn (run_fnR2 (us := [.ref a]) (vs := [.ref a]) F hr hx I (.cons rfl .nil) q) fun w s' ⟨v, H', I', rv, y, ev, q2⟩ => ?_)
  subst ev
  obtain ⟨t, rfl⟩ := rv
  exact ⟨.str y, H', I', ⟨_, rfl⟩, q2⟩
/-- a def with a star parameter -/
def DefS (K : PySem.W.Frag) (name qual : Str) (st : Stmt) (ps : List Str) (pv : Str) (f : Addr) : Prop := ∃ fd, Fun K name qual st f fd ∧ ∀ us rest : List Value, us.length = ps.length → bindArgs fd ⟨us ++ rest, []⟩ = (newTuple rest >>= fun t => pure (ps.zip us ++ [(pv, t)]))
theorem defS1 {K : PySem.W.Frag} {name qual p1 pv : Str} {st : Stmt} {f : Addr} {fd : FuncData} (F : Fun K name qual st f fd) (h0 : ∀ a, bindArgs fd ⟨[a], []⟩ = (newTuple [] >>= fun t => pure [(p1, a), (pv, t)])) (h1 : ∀ a r rs, bindArgs fd ⟨a :: r :: rs, []⟩ = (newTuple (r :: rs) >>= fun t => pure [(p1, a), (pv, t)])) :
    DefS K name qual st [p1] pv f := ⟨fd, F, bind_star1 (B := fun us => bindArgs fd ⟨us, []⟩) h0 h1⟩
theorem fnR_ofS {P : Program} {w : World} {K : PySem.W.Frag} {mg : Str → Option Value} {base : Heap} {st : Stmt} {N ps : List Str} {pv : Str} {k : Nat} {sp : Sp} {f : Addr} {name qual : Str} (hCX : CXUp CX) (D : DefS K name qual st ps pv f) (S : FnScope N (ps ++ [pv]) (defScope st))
    (hbody : ∀ (cdv : Value) (A : Around) (outer : List Env) (s : Shared) (H : Hp) (vs : List V) (Q : VK) (E : XK), Room k (A.deeper (envOfC qual (defScope st) s.heap.objs.size f cdv)) → sp vs H Q E →
      ∃ t, PSs (cxOf CX P w K mg base N qual (defScope st) f cdv A outer s H E) (defBody st) t ∧ t { nx := fun _ H' => Q .non H', rt := Q } (L2.start N vs) H) :
    FnR P w K mg base CX (k + 1) f (fun vs H Q E => ∃ ws rest, vs = ws ++ rest ∧ ws.length = ps.length ∧ rest.length ≤ sizeLine ∧ ∀ p, H p = Option.none → sp (ws ++ [V.ref p]) (upd H p (.tup rest)) Q E) := by
  obtain ⟨fd, F, hb⟩ := D
  obtain ⟨oc, od, kV, doc, pm, an, cdv, ct, osl, rfl, l, c⟩ := F.ex
  exact fn_star l c S hCX hb (fun A outer s H vs Q E hr h => hbody cdv A outer s H vs Q E hr h)
end
section
variable {W : Wd} {Γ : Gam} {ta : TA} {te tb to tl : TE} {B : Bs} {P : PT} {E : XK} {x : Xn → Prop} {C C2 : Addr} {K : PySem.W.Frag}
theorem ev_strO {β : Type} {rβ : Rep β} {k : Str → Prop} (hB : W.B = B) (h : EvK W te Γ fun s : β => OwnG β B C (P (fun t => ∃ y : Str, t = T y ∧ k y) (fun _ => False) [T s])) : EvK W (tCB (rStrO C (spG B P) E) (tCons te tNil)) Γ k := by
  subst hB
  refine fun σ H Q G c => h σ H _ G fun v H1 s e1 d ⟨cc, fl, iβ, hC, z⟩ => ?_
  subst hC
  obtain ⟨p, dp, fs, hv, _, hH, _⟩ := iβ.at_ d
  exact ⟨p, dp, fs, by rw [hv], hH, W, _, _, _, rfl, e1.ok, .cons (t := T s) (by rw [← hv]; exact d) .nil, z, fun v H3 t e3 dt ⟨a, ea, q⟩ => by
    subst ea
    exact ⟨a, dt, c _ H3 a (e1.trans e3) rfl q⟩, fun n d2 H2 _ _ q => q.elim⟩
theorem ev_lenO {β : Type} {rβ : Rep β} {k : Int → Prop} (hB : W.B = B) (h : EvK W te Γ fun s : β => OwnG β B C (P (fun t => ∃ y : Int, t = T y ∧ (0 ≤ y ∧ y < 2 ^ 63) ∧ k y) (fun _ => False) [T s])) : EvK W (tCB (rLenO C (spG B P) E) (tCons te tNil)) Γ k := by
  subst hB
  refine fun σ H Q G c => h σ H _ G fun v H1 s e1 d ⟨cc, fl, iβ, hC, z⟩ => ?_
  subst hC
  obtain ⟨p, dp, fs, hv, _, hH, _⟩ := iβ.at_ d
  exact ⟨p, dp, fs, by rw [hv], hH, W, _, _, _, rfl, e1.ok, .cons (t := T s) (by rw [← hv]; exact d) .nil, z, fun v H3 t e3 dt ⟨a, ea, hb, q⟩ => by
    subst ea
    exact ⟨a, dt, hb, c _ H3 a (e1.trans e3) rfl q⟩, fun n d2 H2 _ _ q => q.elim⟩
/-- texts -/
theorem ev_addS {k : Str → Prop} (h : EvK W te Γ fun a : Str => EvK W tb Γ fun b : Str => a.length + b.length ≤ 1000000 ∧ k (a ++ b)) : EvK W (tOp (fun x y H Q => ∃ i j, x = .str i ∧ y = .str j ∧ i.length + j.length ≤ sizeLine ∧ Q (.str (i ++ j)) H) te tb) Γ k :=
  ev_two (h.imp fun a ha => ha.imp fun b ⟨hl, z⟩ x y H Q o dx dy c => ⟨a, b, dx, dy, Nat.le_trans hl (by decide), c _ H _ (Ext.refl o) rfl z⟩)
theorem ev_strI {k : Str → Prop} (h : EvK W te Γ fun i : Int => Small i ∧ k (toString i)) : EvK W (tCB (fun xs H Q => ∃ i, xs = [.int i] ∧ i.natAbs.log2 < 1920 ∧ Q (.str (toString i)) H) (tCons te tNil)) Γ k := fun σ H Q G c =>
  h σ H _ G fun v H1 i e1 d ⟨s, z⟩ => ⟨i, congrArg (fun x => [x]) d, s, c _ H1 _ e1 rfl z⟩
/-- data whose kind is known, and that it is no instance of the class at C -/
def NoI (K : PySem.W.Frag) (B : Bs) (C : Addr) (β : Type) [Rep β] : Prop := ∀ (W : Wc) (H : Hp) (v : V) (y : β), W.B = B → den W H v y → ∃ ty, TyX K H v ty ∧ PySem.W.kitOne K ty (.ref C) = some false
theorem ev_isiN {β : Type} {rβ : Rep β} {k : Bool → Prop} (hK : W.B.K = K) (hB : W.B = B) (n : NoI K B C2 β) (h : EvK W te Γ fun _ : β => k false) : EvK W (tCB (rIsi K) (tCons te (tCons (tC (.ref C2)) tNil))) Γ k := by
  subst hK
  refine fun σ H Q E q => h σ H _ E fun v H1 a e1 d z => ?_
  obtain ⟨ty, h1, h2⟩ := n _ _ _ _ hB d
  exact ⟨v, .ref C2, _, _, false, rfl, .own C2, h1, h2, q _ H1 false e1 rfl z⟩
theorem kit_bo {n : String} {b : Bool} (h2 : PySem.W.isClsIn K C = true) (h3 : PySem.W.typeIn K (.ref C) = some (.type "type")) (h4 : PySem.W.subIn K (.type n) (.ref C) = some b) : PySem.W.kitOne K (.type n) (.ref C) = some b := by
  have e2 : ((PySem.W.clsIn K C).isSome && PySem.W.typeIn K (.ref C) == some (.type "type")) = true := by
    have h2' : (PySem.W.clsIn K C).isSome = true := h2
    rw [h2', h3] <;> rfl
  have hne : (Value.type n == Value.ref C) = false := by
    cases q : (Value.type n == Value.ref C) with
    | false => rfl
    | true => exact absurd (eq_of_beq q) (by intro z; cases z)
  show (if (Value.type n == Value.ref C) = true then some true else (if ((PySem.W.clsIn K C).isSome && PySem.W.typeIn K (.ref C) == some (.type "type")) = true then PySem.W.subIn K (.type n) (.ref C) else none)) = some b
  rw [hne, if_neg Bool.false_ne_true, if_pos e2]
  exact h4
theorem noI_tup {α β : Type} [Rep α] [Rep β] (hBK : B.K = K) (h : PySem.W.kitOne K (.type "tuple") (.ref C) = some false) : NoI K B C (α × β) := fun W H v y hB ⟨p, a, b, hv, s, _⟩ => by
  subst hv
  exact ⟨_, .base (.tup s.2), h⟩
theorem noI_list {α : Type} [Rep α] (hBK : B.K = K) (h : PySem.W.kitOne K (.type "list") (.ref C) = some false) : NoI K B C (List α) := fun W H v y hB ⟨p, a, hv, s, _⟩ => by
  subst hv
  exact ⟨_, .base (.lst s.2), h⟩
theorem noI_unit (h : PySem.W.kitOne K (.type "NoneType") (.ref C) = some false) : NoI K B C Unit := fun W H v y hB d => by
  cases d
  exact ⟨_, .base .non, h⟩
theorem noI_ins {β : Type} [Rep β] {c : Cn} {fl : List Str} [i : Ins β c fl] {D : Addr} (hD : B.cl c = D) (T : IsT K D) (h : PySem.W.kitOne K (.ref D) (.ref C) = some false) : NoI K B C β := fun W H v y hB d => by
  obtain ⟨p, dp, fs, hv, _, hH, _⟩ := i.at_ d
  subst hv
  rw [hB, hD] at hH
  exact ⟨_, .base (.ins hH T.c T.f T.s T.t T.m), h⟩
instance : HasTy Lvs fun B => .ref (B.cl .Levels) := ⟨fun ⟨a, dx, y, hv, m, h, _⟩ => by subst hv; exact .ins h⟩
end

/-! ### texts -/
theorem strOk_of (s : String) : PyData.strOk (Str.ofString s) = true := by
  rw [Str.ofString_eq_toList]
  unfold PyData.strOk
  rw [Array.all_eq_true']
  intro x hx
  simp only [List.mem_toArray, List.mem_map] at hx
  obtain ⟨c, _, rfl⟩ := hx
  have := c.valid
  rcases this with h | ⟨_, h⟩
  · exact decide_eq_true (Nat.lt_trans h (by decide))
  · exact decide_eq_true h
theorem str_app_cps (a b : Str) : (a ++ b).cps = a.cps ++ b.cps := rfl
theorem strOk_app {a b : Str} (h1 : PyData.strOk a = true) (h2 : PyData.strOk b = true) : PyData.strOk (a ++ b) = true := by
  unfold PyData.strOk at *
  rw [str_app_cps, Array.all_append, h1, h2]; rfl
theorem strOk_emp : PyData.strOk Str.empty = true := by simp [PyData.strOk, Str.empty]
theorem emp_app (x : Str) : Str.empty ++ x = x := by
  cases x
  show Str.mk (#[] ++ _) = _
  rw [Array.empty_append]
theorem emp_len : Str.empty.length = 0 := rfl
section
variable {W : Wd} {Γ : Gam} {ta : TA} {te tb to tl : TE} {K : PySem.W.Frag}
theorem ev_sortedP {k : List (Int × Int) → Prop} (hK : W.B.K = K) (h : EvK W te Γ fun as : List (Int × Int) => k (sortP as)) : EvK W (tCB (rSortedPO K) (tCons te tNil)) Γ k := (evF_sortedP hK h).k
end

/-! ### the last item -/
theorem ixN_last {n : Nat} (h : 0 < n) : ixN n (-1) = some (n - 1) := by
  unfold ixN
  rw [if_neg (by omega), if_pos (by omega)]
  congr 1
  omega
theorem atI_last1 {α : Type} {xs : List α} {q : α} (h : xs.getLast? = some q) : atI xs (-1) = some q := by
  have hl : 0 < xs.length := by
    cases xs with
    | nil => cases h
    | cons x r => exact Nat.succ_pos _
  unfold atI
  rw [ixN_last hl, Option.bind_some, ← h, List.getLast?_eq_getElem?]
theorem set_last {α : Type} {xs : List α} {a : α} (h : 0 < xs.length) : xs.set (xs.length - 1) a = xs.dropLast ++ [a] := by
  have e : xs = xs.dropLast ++ [xs.getLast (by intro e; rw [e] at h; exact Nat.lt_irrefl 0 h)] := (List.dropLast_concat_getLast _).symm
  have hl : xs.dropLast.length = xs.length - 1 := List.length_dropLast
  conv => lhs; rw [e]
  rw [List.length_append, List.length_singleton, Nat.add_sub_cancel, List.set_append_right _ _ (Nat.le_refl _), Nat.sub_self]
  rfl
theorem joinF_more {ps : List (Int × Int)} {i : Nat} {a : Int × Int} (h : ps[i]? = some a) : joinF (ps.take (i + 1)) = joinStep (joinF (ps.take i)) a := by
  unfold joinF
  rw [List.take_succ, h, List.foldl_append]
  rfl
theorem joinF_concat (ps : List (Int × Int)) (a : Int × Int) : joinF (ps ++ [a]) = joinStep (joinF ps) a := by
  unfold joinF
  rw [List.foldl_append]
  rfl
theorem joinStep_len (acc : List (Int × Int)) (a : Int × Int) : (joinStep acc a).length ≤ acc.length + 1 := by
  unfold joinStep
  split
  · split
    · rw [List.length_append, List.length_dropLast]; simp
    · rw [List.length_append]; simp
  · simp
theorem foldl_len (ps acc : List (Int × Int)) : (ps.foldl joinStep acc).length ≤ acc.length + ps.length := by
  induction ps generalizing acc with
  | nil => simp
  | cons p r ih =>
    have h1 := ih (joinStep acc p)
    have h2 := joinStep_len acc p
    simp only [List.foldl_cons, List.length_cons]
    omega
theorem joinF_len (ps : List (Int × Int)) : (joinF ps).length ≤ ps.length := by
  have := foldl_len ps []
  simpa [joinF] using this
/-- what holds of all pairs holds of the joined ones: low ends not above high ends -/
theorem joinStep_ok {acc : List (Int × Int)} {p : Int × Int} (h : ∀ q ∈ acc, q.1 ≤ q.2) (hp : p.1 ≤ p.2) : ∀ q ∈ joinStep acc p, q.1 ≤ q.2 := by
  intro q hq
  unfold joinStep at hq
  split at hq
  · rename_i l hl
    have hm : l ∈ acc := List.mem_of_getLast? hl
    split at hq
    · rcases List.mem_append.mp hq with hq | hq
      · exact h q ((List.dropLast_sublist acc).subset hq)
      · rw [List.mem_singleton.mp hq]
        have := h l hm
        show l.1 ≤ max l.2 p.2
        omega
    · rcases List.mem_append.mp hq with hq | hq
      · exact h q hq
      · rw [List.mem_singleton.mp hq]; exact hp
  · rw [List.mem_singleton.mp hq]; exact hp
theorem joinF_ok {ps : List (Int × Int)} (h : ∀ q ∈ ps, q.1 ≤ q.2) : ∀ q ∈ joinF ps, q.1 ≤ q.2 := by
  have key : ∀ (ps acc : List (Int × Int)), (∀ q ∈ ps, q.1 ≤ q.2) → (∀ q ∈ acc, q.1 ≤ q.2) → ∀ q ∈ ps.foldl joinStep acc, q.1 ≤ q.2 := by
    intro ps
    induction ps with
    | nil => intro acc _ h2; exact h2
    | cons p r ih => intro acc h1 h2; exact ih _ (fun q hq => h1 q (List.mem_cons_of_mem _ hq)) (joinStep_ok h2 (h1 p List.mem_cons_self))
  exact key ps [] h (fun _ h => nomatch h)
theorem unionF_ok {ps : List (Int × Int)} (h : ∀ q ∈ ps, q.1 ≤ q.2) : ∀ q ∈ unionF ps, q.1 ≤ q.2 := joinF_ok fun q hq => h q (sortP_mem.mp hq)
theorem unionF_len (ps : List (Int × Int)) : (unionF ps).length ≤ ps.length := by
  have := joinF_len (sortP ps)
  rw [sortP_length] at this
  exact this

theorem mid {P Q : Prop} (h : P → Q) (p : P) : Q := h p
/-- a chain whose last part is plain -/
def ChG (W : Wd) (te : TE) (Γ : Gam) (k : Int → Prop) : Prop := ∃ l : Int, EvK W te Γ (fun a => a = l) ∧ k l
theorem chg_in {W : Wd} {te : TE} {Γ : Gam} {k : Int → Prop} {l : Int} (h1 : EvK W te Γ fun a => a = l) (h : k l) : ChG W te Γ k := ⟨l, h1, h⟩
theorem ev_chainP {W : Wd} {ta tb tc : TE} {Γ : Gam} {f g : Int → Int → Bool} {k : Bool → Prop} (h : EvK W ta Γ fun i : Int => EvK W tb Γ fun j : Int => ChG W tc Γ fun l => k (f i j && g j l)) :
    EvK W (tChain (rI0 fun i j => .bl (f i j)) (rI0 fun i j => .bl (g i j)) ta tb tc) Γ k :=
  ev_chain (h.imp fun i hi => hi.imp fun j ⟨l, h1, h2⟩ => ⟨fun e => h1.imp fun a ea => by rw [ea]; rw [e, Bool.true_and] at h2; exact h2, fun e => by rw [e, Bool.false_and] at h2; exact h2⟩)
/-! ### which kind of goal -/
section
variable {α : Type} {r : Rep α} {W : Wd} {Γ : Gam} {ta : TA} {te tb to : TE} {tt : TT} {ts : TS} {k : α → Prop} {kb : Bool → Prop} {kt : List Ty → Prop} {kl : List α → Prop} {R : Po} {K : PySem.W.Frag}
theorem gd_s (h : Sx W ts Γ R) : Sx W ts Γ R := h
theorem gd_set {i : Nat} {v : Option Ty} (h : Sx W ts (Γ.set i v) R) : Sx W ts (Γ.set i v) R := h
theorem gd_k (h : EvK W te Γ k) : EvK W te Γ k := h
theorem gd_var {i : Nat} (h : EvK W (tVar i) Γ k) : EvK W (tVar i) Γ k := h
theorem gd_c {v : V} (h : EvK W (tC v) Γ k) : EvK W (tC v) Γ k := h
theorem gd_op {q : R2} (h : EvK W (tOp q te tb) Γ k) : EvK W (tOp q te tb) Γ k := h
theorem gd_un {q : V → Hp → VK → Prop} (h : EvK W (tUn q te) Γ k) : EvK W (tUn q te) Γ k := h
theorem gd_cb {q : List V → Hp → VK → Prop} (h : EvK W (tCB q ta) Γ k) : EvK W (tCB q ta) Γ k := h
theorem gd_fld {f : Str} (h : EvK W (tFld K te f) Γ k) : EvK W (tFld K te f) Γ k := h
theorem gd_call {sp : Sp} {E : XK} (h : EvK W (tCallR sp E ta) Γ k) : EvK W (tCallR sp E ta) Γ k := h
theorem gd_tup (h : EvK W (tTup ta) Γ k) : EvK W (tTup ta) Γ k := h
theorem gd_lst (h : EvK W (tLst ta) Γ k) : EvK W (tLst ta) Γ k := h
theorem gd_t (h : EvT W tt Γ kb) : EvT W tt Γ kb := h
theorem gd_a (h : EvA W ta Γ kt) : EvA W ta Γ kt := h
theorem gd_l (h : EvL W ta Γ kl) : EvL W ta Γ kl := h
theorem gd_j {tj : List TE} {acc : Str} {ks : Str → Prop} (h : EvJ W tj Γ acc ks) : EvJ W tj Γ acc ks := h
end
end G
set_option Elab.async false
set_option linter.all false
set_option maxRecDepth 100000
set_option maxHeartbeats 4000000
namespace Lw
open PySem PySem.Spec PyProof.Rows L2 StX G
def top (i : Nat) : Stmt := PySem.Challenge.pw_gaugemiss_k03_stretches_meet.main.body.getD i (.Pass ⟨0, 0, 0, 0⟩)
abbrev s_take : Stmt := top 10
abbrev s_box : Stmt := top 9
abbrev s_span : Stmt := top 12
abbrev s_moved : Stmt := top 13
abbrev s_pair : Stmt := top 11
abbrev s_NoLevel_init : Stmt := inClass (top 4) 0
abbrev s_BadStretch_init : Stmt := inClass (top 3) 0
abbrev s_Apart_init : Stmt := inClass (top 5) 0
abbrev s_Stretch_init : Stmt := inClass (top 7) 0
abbrev s_Stretch_eq : Stmt := inClass (top 7) 8
abbrev s_Stretch_and : Stmt := inClass (top 7) 12
abbrev s_Stretch_or : Stmt := inClass (top 7) 13
abbrev s_met : Stmt := top 14
abbrev s_base : Stmt := top 15
abbrev s_law : Stmt := top 16
theorem sc_take : FnScope ["_law_box_here", "_law_many", "_law_cells", "_law_digit", "_law_cell"] ["_law_box_here", "_law_many"] (defScope s_take) := ⟨rfl, rfl, rfl, by decide +kernel, rfl, by decide +kernel, by decide +kernel⟩
theorem sc_box : FnScope ["_law_script", "_law_salt", "_law_cell"] ["_law_script", "_law_salt"] (defScope s_box) := ⟨rfl, rfl, rfl, by decide +kernel, rfl, by decide +kernel, by decide +kernel⟩
theorem sc_span : FnScope ["_law_box_here"] ["_law_box_here"] (defScope s_span) := ⟨rfl, rfl, rfl, by decide +kernel, rfl, by decide +kernel, by decide +kernel⟩
theorem sc_moved : FnScope ["_law_box_here"] ["_law_box_here"] (defScope s_moved) := ⟨rfl, rfl, rfl, by decide +kernel, rfl, by decide +kernel, by decide +kernel⟩
theorem sc_pair : FnScope ["_law_box_here", "_law_span_here", "_law_moved_here", "_law_bottom", "_law_wide"] ["_law_box_here", "_law_span_here", "_law_moved_here"] (defScope s_pair) := ⟨rfl, rfl, rfl, by decide +kernel, rfl, by decide +kernel, by decide +kernel⟩
theorem sc_NoLevel_init : FnScope ["self"] ["self"] (defScope s_NoLevel_init) := ⟨rfl, rfl, rfl, by decide +kernel, rfl, by decide +kernel, by decide +kernel⟩
theorem sc_BadStretch_init : FnScope ["self", "low", "high"] ["self", "low", "high"] (defScope s_BadStretch_init) := ⟨rfl, rfl, rfl, by decide +kernel, rfl, by decide +kernel, by decide +kernel⟩
theorem sc_Apart_init : FnScope ["self", "first", "second"] ["self", "first", "second"] (defScope s_Apart_init) := ⟨rfl, rfl, rfl, by decide +kernel, rfl, by decide +kernel, by decide +kernel⟩
theorem sc_Stretch_init : FnScope ["self", "low", "high"] ["self", "low", "high"] (defScope s_Stretch_init) := ⟨rfl, rfl, rfl, by decide +kernel, rfl, by decide +kernel, by decide +kernel⟩
theorem sc_Stretch_eq : FnScope ["self", "other"] ["self", "other"] (defScope s_Stretch_eq) := ⟨rfl, rfl, rfl, by decide +kernel, rfl, by decide +kernel, by decide +kernel⟩
theorem sc_Stretch_and : FnScope ["self", "other", "low", "high"] ["self", "other"] (defScope s_Stretch_and) := ⟨rfl, rfl, rfl, by decide +kernel, rfl, by decide +kernel, by decide +kernel⟩
theorem sc_Stretch_or : FnScope ["self", "other"] ["self", "other"] (defScope s_Stretch_or) := ⟨rfl, rfl, rfl, by decide +kernel, rfl, by decide +kernel, by decide +kernel⟩
theorem sc_met : FnScope ["_law_one", "_law_two", "_law_piece", "e"] ["_law_one", "_law_two"] (defScope s_met) := ⟨rfl, rfl, rfl, by decide +kernel, rfl, by decide +kernel, by decide +kernel⟩
theorem sc_base : FnScope ["_law_one", "_law_two", "_law_piece", "e"] ["_law_one", "_law_two"] (defScope s_base) := ⟨rfl, rfl, rfl, by decide +kernel, rfl, by decide +kernel, by decide +kernel⟩
theorem sc_law : FnScope ["_law_script", "_law_box_here", "_law_span_here", "_law_moved_here", "_law_left", "_law_right", "_law_near", "_law_one", "_law_two", "_law_bottom", "_law_top", "_law_hull", "_law_back"] ["_law_script"] (defScope s_law) := ⟨rfl, rfl, rfl, by decide +kernel, rfl, by decide +kernel, by decide +kernel⟩
structure Ad where
  c_GaugeError : Addr
  c_BadStretch : Addr
  c_NoLevel : Addr
  c_Apart : Addr
  c_Stretch : Addr
  f_take : Addr
  f_box : Addr
  f_span : Addr
  f_moved : Addr
  f_pair : Addr
  f_NoLevel_init : Addr
  f_BadStretch_init : Addr
  f_Apart_init : Addr
  f_Stretch_init : Addr
  f_Stretch_eq : Addr
  f_Stretch_and : Addr
  f_Stretch_or : Addr
  f_met : Addr
  f_base : Addr
  f_law : Addr
def bs (K : PySem.W.Frag) (A : Ad) : Bs := ⟨K, fun
  | .GaugeError => A.c_GaugeError
  | .BadStretch => A.c_BadStretch
  | .NoLevel => A.c_NoLevel
  | .Apart => A.c_Apart
  | .Stretch => A.c_Stretch
  | _ => 0⟩
structure Txt (K : PySem.W.Frag) (mg : Str → Option Value) (A : Ad) : Prop where
  g_take : DefAt K mg "_law_take" s_take ["_law_box_here", "_law_many"] A.f_take
  g_box : DefAt K mg "_law_box" s_box ["_law_script", "_law_salt"] A.f_box
  g_span : DefAt K mg "_law_span" s_span ["_law_box_here"] A.f_span
  g_moved : DefAt K mg "_law_moved" s_moved ["_law_box_here"] A.f_moved
  g_pair : DefAt K mg "_law_pair" s_pair ["_law_box_here", "_law_span_here", "_law_moved_here"] A.f_pair
  d_NoLevel_init : DefM K "__init__" "NoLevel.__init__" s_NoLevel_init ["self"] A.f_NoLevel_init
  xi_NoLevel : PySem.W.findIn K (.ref A.c_NoLevel) "__init__" = some (some (.ref A.f_NoLevel_init))
  xt_NoLevel : PySem.W.typeIn K (.ref A.f_NoLevel_init) = some (.type "function")
  d_BadStretch_init : DefM K "__init__" "BadStretch.__init__" s_BadStretch_init ["self", "low", "high"] A.f_BadStretch_init
  xi_BadStretch : PySem.W.findIn K (.ref A.c_BadStretch) "__init__" = some (some (.ref A.f_BadStretch_init))
  xt_BadStretch : PySem.W.typeIn K (.ref A.f_BadStretch_init) = some (.type "function")
  d_Apart_init : DefM K "__init__" "Apart.__init__" s_Apart_init ["self", "first", "second"] A.f_Apart_init
  xi_Apart : PySem.W.findIn K (.ref A.c_Apart) "__init__" = some (some (.ref A.f_Apart_init))
  xt_Apart : PySem.W.typeIn K (.ref A.f_Apart_init) = some (.type "function")
  d_Stretch_init : DefM K "__init__" "Stretch.__init__" s_Stretch_init ["self", "low", "high"] A.f_Stretch_init
  m_Stretch : Mk K A.c_Stretch A.f_Stretch_init
  d_Stretch_eq : DefM K "__eq__" "Stretch.__eq__" s_Stretch_eq ["self", "other"] A.f_Stretch_eq
  m_Stretch_eq : Meth K A.c_Stretch "__eq__" A.f_Stretch_eq
  d_Stretch_and : DefM K "__and__" "Stretch.__and__" s_Stretch_and ["self", "other"] A.f_Stretch_and
  o_Stretch_and : OpT K A.c_Stretch "__and__" A.f_Stretch_and
  m_Stretch_and : Meth K A.c_Stretch "__and__" A.f_Stretch_and
  d_Stretch_or : DefM K "__or__" "Stretch.__or__" s_Stretch_or ["self", "other"] A.f_Stretch_or
  o_Stretch_or : OpT K A.c_Stretch "__or__" A.f_Stretch_or
  m_Stretch_or : Meth K A.c_Stretch "__or__" A.f_Stretch_or
  g_met : DefAt K mg "_law_met" s_met ["_law_one", "_law_two"] A.f_met
  g_base : DefAt K mg "_law_base" s_base ["_law_one", "_law_two"] A.f_base
  g_law : DefAt K mg "law" s_law ["_law_script"] A.f_law
  c_GaugeError : mg "GaugeError" = some (.ref A.c_GaugeError)
  ge : GeT K mg A.c_GaugeError
  c_BadStretch : mg "BadStretch" = some (.ref A.c_BadStretch)
  xo_BadStretch : OexC K A.c_BadStretch
  xf_BadStretch : XfC K A.c_BadStretch
  n_BadStretch_low : PySem.W.findIn K (.ref A.c_BadStretch) "low" = some none
  n_BadStretch_high : PySem.W.findIn K (.ref A.c_BadStretch) "high" = some none
  c_NoLevel : mg "NoLevel" = some (.ref A.c_NoLevel)
  xo_NoLevel : OexC K A.c_NoLevel
  xf_NoLevel : XfC K A.c_NoLevel
  xm_NoLevel_NoLevel : PySem.W.exmOne K (.ref A.c_NoLevel) (.ref A.c_NoLevel) = some true
  c_Apart : mg "Apart" = some (.ref A.c_Apart)
  xo_Apart : OexC K A.c_Apart
  xf_Apart : XfC K A.c_Apart
  n_Apart_first : PySem.W.findIn K (.ref A.c_Apart) "first" = some none
  n_Apart_second : PySem.W.findIn K (.ref A.c_Apart) "second" = some none
  xm_Apart_Apart : PySem.W.exmOne K (.ref A.c_Apart) (.ref A.c_Apart) = some true
  xm_Apart_NoLevel : PySem.W.exmOne K (.ref A.c_Apart) (.ref A.c_NoLevel) = some true
  c_Stretch : mg "Stretch" = some (.ref A.c_Stretch)
  cl_Stretch : Cls K A.c_Stretch
  is_Stretch : IsT K A.c_Stretch
  n_Stretch_low : NoAttr K A.c_Stretch "low"
  n_Stretch_high : NoAttr K A.c_Stretch "high"
  ec_Apart : ExcC K A.c_Apart
  kit_Apart_BadStretch : PySem.W.kitOne K (.ref A.c_Apart) (.ref A.c_BadStretch) = some false
  kit_Apart_GaugeError : PySem.W.kitOne K (.ref A.c_Apart) (.ref A.c_GaugeError) = some true
  kit_Apart_NoLevel : PySem.W.kitOne K (.ref A.c_Apart) (.ref A.c_NoLevel) = some true
  kit_Apart_ValueError : PySem.W.kitOne K (.ref A.c_Apart) (.type "ValueError") = some true
  eq_Stretch : EqT K A.c_Stretch A.f_Stretch_eq
  cli_NoLevel : CliT K A.c_NoLevel A.f_NoLevel_init
  z_ValueError : mg "ValueError" = none
  z_int : mg "int" = none
  z_isinstance : mg "isinstance" = none
  z_len : mg "len" = none
  z_max : mg "max" = none
  z_min : mg "min" = none
theorem stcT {K : PySem.W.Frag} {mg : Str → Option Value} {A : Ad} (tx : Txt K mg A) : StcT (bs K A) := ⟨tx.cl_Stretch, tx.n_Stretch_low, tx.n_Stretch_high⟩
/-! ### one step of the calculus -/
local macro_rules | `(tactic| walk_at "good") => `(tactic| first | exact trivial | exact ⟨trivial, trivial⟩ | exact fun _ _ => trivial | exact fun _ _ => ⟨trivial, trivial⟩ | exact ⟨trivial, trivial, trivial⟩ | exact ⟨⟨trivial, trivial⟩, ⟨trivial, trivial⟩, trivial, trivial⟩ | exact ⟨strOk_of _, trivial⟩ | exact ⟨strOk_of _, trivial, trivial⟩ | assumption | (show PyData.strOk _ = true; walk_at "strok"))
local macro_rules | `(tactic| walk_at "len") => `(tactic| ((try dsimp only); (try simp only [Str.length_append, emp_len]); (try rw [show (Str.ofString "Stretch(").length = 8 by decide]); (try rw [show (Str.ofString ", ").length = 2 by decide]); (try rw [show (Str.ofString ")").length = 1 by decide]); (try rw [show (Str.ofString "..").length = 2 by decide]); (try rw [show (Str.ofString "none").length = 4 by decide]); (try rw [show (Str.ofString "Levels(").length = 7 by decide]); omega))
local macro_rules | `(tactic| walk_at "strok") => `(tactic| repeat (first | exact strOk_of _ | exact strOk_emp | assumption | apply strOk_app))
local macro_rules | `(tactic| walk_at "frz") => `(tactic| repeat (first | exact .nil | apply Frz.own (by simp) | apply Frz.same))
local macro_rules | `(tactic| walk_at "hx") => `(tactic| first | exact hx_of (by assumption) | assumption | exact hx0)
local macro_rules | `(tactic| walk_at "g0") => `(tactic| first
  | ((with_reducible apply gd_s); first
    | ((with_reducible apply sx_set))
    | ((with_reducible apply sx_ret))
    | ((with_reducible apply sx_if))
    | ((with_reducible apply sx_next))
    | ((with_reducible apply sx_retN)))
  | ((with_reducible apply gd_var); first
    | ((with_reducible apply ev_var); (case h => exact rfl)))
  | ((with_reducible apply gd_c); first
    | ((with_reducible apply ev_int))
    | ((with_reducible apply ev_bl))
    | ((with_reducible apply ev_str))
    | ((with_reducible apply ev_non)))
  | ((with_reducible apply gd_op); first
    | ((with_reducible apply ev_opI))
    | ((with_reducible apply ev_opB))
    | ((with_reducible apply ev_eqG); (case hK => assumption))
    | ((with_reducible apply ev_neG); (case hK => assumption))
    | ((with_reducible apply ev_ixSp0); (case hK => assumption); (with_reducible apply ev_var); (case h => exact rfl))
    | ((with_reducible apply ev_ixSp1); (case hK => assumption); (with_reducible apply ev_var); (case h => exact rfl))
    | ((with_reducible apply ev_ixSp2); (case hK => assumption); (with_reducible apply ev_var); (case h => exact rfl))
    | ((with_reducible apply ev_ixSp3); (case hK => assumption); (with_reducible apply ev_var); (case h => exact rfl))
    | ((with_reducible apply ev_ixSp4); (case hK => assumption); (with_reducible apply ev_var); (case h => exact rfl))
    | ((with_reducible apply ev_ixSp5); (case hK => assumption); (with_reducible apply ev_var); (case h => exact rfl))
    | ((with_reducible apply ev_ixT3a); (case hK => assumption); (with_reducible apply ev_var); (case h => exact rfl))
    | ((with_reducible apply ev_ixT3b); (case hK => assumption); (with_reducible apply ev_var); (case h => exact rfl))
    | ((with_reducible apply ev_ixT3c); (case hK => assumption); (with_reducible apply ev_var); (case h => exact rfl))
    | ((with_reducible apply ev_ixT0); (case hK => assumption))
    | ((with_reducible apply ev_ixT1); (case hK => assumption))
    | ((with_reducible apply ev_ixL); (case hK => assumption))
    | ((with_reducible apply ev_pow); (case hc => exact ⟨by decide, by decide, by decide⟩))
    | ((with_reducible apply ev_ltP); (case hK => assumption))
    | ((with_reducible apply ev_ixO); (case hB => assumption))
    | ((with_reducible apply ev_opC))
    | ((with_reducible apply ev_cat))
    | ((with_reducible apply ev_addS))
    | ((with_reducible apply ev_inOwn); (case hB => assumption))
    | ((with_reducible apply ev_inI); (case hK => assumption))
    | ((with_reducible apply ev_inS); (case hK => assumption))
    | ((with_reducible apply ev_ixS))
    | ((with_reducible apply ev_notInI); (case hK => assumption))
    | ((with_reducible apply ev_eqO); (case hB => assumption); (case hK => exact rfl))
    | ((with_reducible apply ev_neO); (case hB => assumption); (case hK => exact rfl)))
  | ((with_reducible apply gd_un); first
    | ((with_reducible apply ev_unI)))
  | ((with_reducible apply gd_cb); first
    | ((with_reducible apply ev_len); (case hK => assumption))
    | ((with_reducible apply ev_intB); (with_reducible apply gd_op); first | (with_reducible apply ev_opB) | ((with_reducible apply ev_eqG); (case hK => assumption)))
    | ((with_reducible apply ev_intB); (with_reducible apply gd_k); (with_reducible apply ev_orV))
    | ((with_reducible apply ev_intI))
    | ((with_reducible apply ev_max2))
    | ((with_reducible apply ev_min2))
    | ((with_reducible apply ev_abs))
    | ((with_reducible apply ev_any); (case hK => assumption))
    | ((with_reducible apply ev_all); (case hK => assumption))
    | ((with_reducible apply ev_sum); (case hK => assumption))
    | ((with_reducible apply ev_minP); (case hK => assumption))
    | ((with_reducible apply ev_boolO); (case hB => assumption))
    | ((with_reducible apply ev_sortedP); (case hK => assumption))
    | ((with_reducible apply ev_sortedI); (case hK => assumption))
    | ((with_reducible apply ev_strO); (case hB => assumption))
    | ((with_reducible apply ev_lenO); (case hB => assumption))
    | ((with_reducible apply ev_strI))
    | ((with_reducible apply ev_isiGv); (case hK => assumption); (with_reducible apply ev_var); (case h => exact rfl))
    | ((with_reducible apply ev_isiO); (case hK => assumption))
    | ((with_reducible apply ev_isF); (case hB => assumption); (case hK => exact rfl)))
  | ((with_reducible apply gd_fld); first
    | ((with_reducible apply ev_low); (case hK => assumption); (case hS => exact stc_of (by assumption) (stcT (by assumption))))
    | ((with_reducible apply ev_high); (case hK => assumption); (case hS => exact stc_of (by assumption) (stcT (by assumption))))
    | ((with_reducible apply ev_gname); (case hK => assumption); (case hG => exact gau_of (by assumption) (gauT (by assumption))))
    | ((with_reducible apply ev_radius); (case hK => assumption); (case hG => exact gau_of (by assumption) (gauT (by assumption))))
    | ((with_reducible apply ev_step); (case hK => assumption); (case hG => exact gau_of (by assumption) (gauT (by assumption))))
    | ((with_reducible apply ev_late); (case hK => assumption); (case hG => exact gau_of (by assumption) (gauT (by assumption))))
    | ((with_reducible apply ev_pace); (case hK => assumption); (case hG => exact gau_of (by assumption) (gauT (by assumption))))
    | ((with_reducible apply ev_pieces); (case hK => assumption); (case hL => exact lvs_of (by assumption) (lvsT (by assumption)))))
  | ((with_reducible apply gd_call); first
    | ((with_reducible apply ev_callR); (case hB => assumption)))
  | ((with_reducible apply gd_tup); first
    | ((with_reducible apply ev_tup2))
    | ((with_reducible apply ev_tup3)))
  | ((with_reducible apply gd_lst); first
    | ((with_reducible apply ev_lst4))
    | ((with_reducible apply ev_lst)))
  | ((with_reducible apply gd_k); first
    | ((with_reducible apply ev_if))
    | ((with_reducible apply ev_andV))
    | ((with_reducible apply ev_orV))
    | ((with_reducible apply ev_notV))
    | ((with_reducible apply ev_chainP))
    | ((with_reducible apply ev_stretch); (case hB => assumption); (case hC => exact rfl))
    | ((with_reducible apply ev_stretchZ); (case hB => assumption); (case hC => exact rfl); (case hx => walk_at "hx"))
    | ((with_reducible apply ev_callZ); (case hB => assumption); (case hx => walk_at "hx"))
    | ((with_reducible apply ev_methZ); (case hB => assumption); (case hx => walk_at "hx"))
    | ((with_reducible apply ev_binI); (case hB => assumption); (case hx => walk_at "hx"))
    | ((with_reducible apply ev_binO); (case hB => assumption); (case hx => walk_at "hx"))
    | ((with_reducible apply ev_negO); (case hB => assumption); (case hx => walk_at "hx"))
    | ((with_reducible apply ev_xfI); (case hC => exact xcl_of (by assumption) rfl))
    | ((with_reducible apply ev_xfP); (case hC => exact xcl_of (by assumption) rfl))
    | ((with_reducible apply ev_makeV); (case hB => assumption); (case hi => exact rfl); (case hC => exact rfl))
    | ((with_reducible apply ev_levels); (case hB => assumption); (case hC => exact rfl))
    | ((with_reducible apply (ev_cmethZ .Stretch)); (case hB => assumption); (case hC => exact rfl); (case hx => walk_at "hx"))
    | ((with_reducible apply (ev_cmethZ .Levels)); (case hB => assumption); (case hC => exact rfl); (case hx => walk_at "hx"))
    | ((with_reducible apply ev_propZ); (case hB => assumption))
    | ((with_reducible apply ev_propX); (case hB => assumption); (case hx => walk_at "hx"))
    | ((with_reducible apply ev_joined))
    | ((with_reducible apply ev_fmtI)))
  | ((with_reducible apply gd_t); first
    | ((with_reducible apply et_test))
    | ((with_reducible apply et_B))
    | ((with_reducible apply et_not))
    | ((with_reducible apply et_and))
    | ((with_reducible apply et_or))
    | ((with_reducible apply et_yes))
    | ((with_reducible apply et_truthL); (case hK => assumption)))
  | ((with_reducible apply gd_a); first
    | ((with_reducible apply ea_nil))
    | ((with_reducible apply ea_cons)))
  | ((with_reducible apply gd_l); first
    | ((with_reducible apply el_nil))
    | ((with_reducible apply el_cons))
    | ((with_reducible apply el_starL); (case hK => assumption))
    | ((with_reducible apply el_starT); (case hK => assumption)))
  | ((with_reducible apply gd_j); first
    | ((with_reducible apply ej_nil))
    | ((with_reducible apply ej_cons)))
  | ((with_reducible apply tg_name))
  | ((with_reducible apply tj_name))
  | ((with_reducible apply tj_tup2); (case hK => assumption))
  | ((with_reducible apply tj_tup3); (case hK => assumption))
  | ((with_reducible apply eqg_in); (case h1 => decide); (case h2 => walk_at "good"); (case h3 => walk_at "good"))
  | ((with_reducible apply neg_in); (case h1 => decide); (case h2 => walk_at "good"); (case h3 => walk_at "good"))
  | ((with_reducible apply ownM_in); (case hC => exact rfl); (case hm => decide))
  | ((with_reducible apply own_in); (case hC => exact rfl))
  | ((with_reducible apply tyG_in); (case hn => exact nf_self))
  | ((with_reducible apply plnG_in))
  | ((with_reducible apply isO_self); (case hT => exact isT_of (by assumption) (by first | exact (by assumption : Txt _ _ _).is_Stretch | exact (by assumption : Txt _ _ _).is_Levels)); (case hC => exact cl_of (by assumption) rfl))
  | ((with_reducible apply chg_in); (case h1 => walk_at "g"; exact rfl))
  | (refine And.intro (by show _ ≤ 100000; first | exact Nat.le_of_ble_eq_true rfl | omega | (dsimp only; omega)) ?_)
  | (refine And.intro (show CMul _ _ from Or.inl ⟨by omega, by omega⟩) ?_)
  | (refine And.intro (show CMul _ _ from Or.inr ⟨by omega, by omega⟩) ?_)
  | (refine And.intro (show CDiv _ _ from ⟨by omega, by omega⟩) ?_)
  | (refine And.intro (show (0 : Int) < _ by omega) ?_)
  | (refine And.intro (by assumption : Small _) ?_)
  | (refine And.intro (show Small _ from Small.of (by omega) (by omega)) ?_)
  | (refine And.intro (by show _ ≤ 1000000; walk_at "len") ?_)
  | fail)
local macro_rules | `(tactic| walk_at "g1") => `(tactic| first | ((with_reducible apply gd_set); (conv => arg 3; dsimp only [List.set])) | (with_reducible apply sx_seq) | walk_at "g0")
local macro_rules | `(tactic| walk_at "s1") => `(tactic| first | ((with_reducible apply gd_set); (conv => arg 3; dsimp only [List.set])) | (with_reducible apply sx_seqA) | (with_reducible apply sx_seqD) | walk_at "g0")
local macro_rules | `(tactic| walk_at "s") => `(tactic| repeat walk_at "s1")
local macro_rules | `(tactic| walk_at "g") => `(tactic| repeat walk_at "g1")

section
variable {P : Program} {w : World} {K : PySem.W.Frag} {mg : Str → Option Value} {base : Heap} {A : Ad}
def P_take : PT := fun rt xx ts => ∃ (m : Int), ts = [T Bx.mk, T m] ∧ (0 < m ∧ m < 1073741824 ∧ ∀ k : Int, 0 ≤ k → k < m → rt (T k))
theorem pc_take {rt : Ty → Prop} {xx : Xn → Prop} {m : Int} (h : 0 < m ∧ m < 1073741824 ∧ ∀ k : Int, 0 ≤ k → k < m → rt (T k)) : P_take rt xx [T Bx.mk, T m] := ⟨_, rfl, h⟩
theorem ok_take (tx : Txt K mg A) : FnR P w K mg base CX0 1 A.f_take (spG (bs K A) P_take) := by
  refine fnR_of tx.g_take.d sc_take (fun vs H Q E h => ?_) (fun cdv Ar outer s H vs Q E hr h => ?_)
  · exact len_ok (n := 2) (fun rt xx ts hp => by obtain ⟨_, rfl, _⟩ := hp; rfl) vs H Q E h
  · refine ⟨_, (pss_cons (ps_set (i := 2) sc_take.nd rfl (Or.inl rfl) (pe_ix (ix_listK K) (pv 0) pe_int (fun _ _ => rfl)))
        (pss_cons (ps_if (PW.pt (pw_and (pt_cmpR (op_eqDK K (huD hr)) (pe_ix (ix_listK K) (pv 0) pe_int (fun _ _ => rfl)) pe_int (nomark _)) (pw_and (pt_cmpR op_lt (pe_ix (ix_listK K) (pv 0) pe_int (fun _ _ => rfl)) (pe_callB (call_lenK K) (by rfl) tx.z_len PySem.boot_len (pa_cons (pv 2) pa_nil)) (nomark _)) (pw_and1 (pt_cmpR op_gt (pe_ix (ix_listK K) (pv 2) (pe_ix (ix_listK K) (pv 0) pe_int (fun _ _ => rfl)) (fun _ _ => rfl)) (pe_op op_pow pe_int pe_int) (nomark _)))))) (pss_cons (ps_asg (pe_op op_sub (pe_ix (ix_listK K) (pv 2) (pe_ix (ix_listK K) (pv 0) pe_int (fun _ _ => rfl)) (fun _ _ => rfl)) (pe_op op_pow pe_int pe_int)) (pg_sub (pv 0) pe_int set_list))
        (pss_one (ps_asg (pe_op op_add (pe_ix (ix_listK K) (pv 0) pe_int (fun _ _ => rfl)) pe_int) (pg_sub (pv 0) pe_int set_list)))) pss_nil)
        (pss_cons (ps_if (pt_cmpR op_gt (pe_ix (ix_listK K) (pv 0) pe_int (fun _ _ => rfl)) pe_int (nomark _)) (pss_cons (ps_set (i := 3) sc_take.nd rfl (Or.inl rfl) (pe_op op_mod (pe_callTy call_int1 (by rfl) tx.z_int (by decide +kernel) (pa_cons (pe_ix (ix_listK K) (pv 0) pe_int (fun _ _ => rfl)) pa_nil)) (pv 1)))
        (pss_cons (ps_asg (pe_op op_fdiv (pe_callTy call_int1 (by rfl) tx.z_int (by decide +kernel) (pa_cons (pe_ix (ix_listK K) (pv 0) pe_int (fun _ _ => rfl)) pa_nil)) (pv 1)) (pg_sub (pv 0) pe_int set_list))
        (pss_one (ps_ret (pv 3))))) pss_nil)
        (pss_cons (ps_set (i := 4) sc_take.nd rfl (Or.inl rfl) pe_int)
        (pss_cons (ps_if (pt_cmpR op_lt (pe_ix (ix_listK K) (pv 0) pe_int (fun _ _ => rfl)) (pe_callB (call_lenK K) (by rfl) tx.z_len PySem.boot_len (pa_cons (pv 2) pa_nil)) (nomark _)) (pss_one (ps_set (i := 4) sc_take.nd rfl (Or.inl rfl) (pe_callTy call_int1 (by rfl) tx.z_int (by decide +kernel) (pa_cons (pe_ix (ix_listK K) (pv 2) (pe_ix (ix_listK K) (pv 0) pe_int (fun _ _ => rfl)) (fun _ _ => rfl)) pa_nil)))) pss_nil)
        (pss_cons (ps_asg (pe_op op_add (pe_ix (ix_listK K) (pv 0) pe_int (fun _ _ => rfl)) pe_int) (pg_sub (pv 0) pe_int set_list))
        (pss_cons (ps_asg (pe_op op_mod (pe_callTy call_int1 (by rfl) tx.z_int (by decide +kernel) (pa_cons (pe_op op_add (pe_op op_add (pe_op op_mul (pe_ix (ix_listK K) (pv 0) pe_int (fun _ _ => rfl)) pe_int) (pe_op op_mul (pv 4) pe_int)) (pe_ix (ix_listK K) (pv 0) pe_int (fun _ _ => rfl))) pa_nil)) pe_int) (pg_sub (pv 0) pe_int set_list))
        (pss_one (ps_ret (pe_op op_mod (pe_op op_mod (pe_callTy call_int1 (by rfl) tx.z_int (by decide +kernel) (pa_cons (pe_op op_add (pe_op op_mul (pe_op op_fdiv (pe_ix (ix_listK K) (pv 0) pe_int (fun _ _ => rfl)) pe_int) pe_int) (pe_op op_mod (pe_callTy call_int1 (by rfl) tx.z_int (by decide +kernel) (pa_cons (pe_ix (ix_listK K) (pv 0) pe_int (fun _ _ => rfl)) pa_nil)) pe_int)) pa_nil)) pe_int) (pv 1))))))))))), ?_⟩
    try dsimp only [cxOf, Cx.nox]
    obtain ⟨W, ts, rt, xx, hB, ho, d, ⟨m, rfl, hm0, hm1, hk⟩, hq, hx⟩ := h
    cases d with
    | cons db d2 =>
    cases d2 with
    | cons dm d3 =>
    cases d3
    obtain ⟨b, rfl, hbx⟩ : ∃ b, _ = V.ref b ∧ W.box b := db
    obtain rfl : _ = V.int m := dm
    obtain ⟨c, ns, i, p, s, hbc, hb0, hc0, hi, hp⟩ := W.hasbox H b ho hbx
    have mb := W.boxmu b hbx
    -- the end: any state of the box will do
    have fin : ∀ (i' p' s' k : Int), 0 ≤ i' → 0 ≤ p' → 0 ≤ k → k < m → Q (.int k) (upd H b (.lst [.ref c, .int i', .int p', .int s'])) := by
      intro i' p' s' k h1 h2 h3 h4
      refine hq (.int k) _ (T k) ⟨fun a o n e => ?_, W.boxset H b c i p s i' p' s' ho hbx hb0 h1 h2⟩ rfl (hk k h3 h4)
      rw [upd_ne (fun z => n (by rw [z]; exact mb))]; exact e
    have hlen : ((ns.map V.int).length : Int) = ns.length := by rw [List.length_map]
    have cell : ∀ j : Int, 0 ≤ j → j < ns.length → ∃ z, atI (ns.map V.int) j = some (V.int z) := by
      intro j h1 h2
      obtain ⟨n, rfl⟩ : ∃ n : Nat, j = (n : Int) := ⟨j.toNat, by omega⟩
      have hn : n < ns.length := by omega
      exact ⟨ns[n], atI_nat (by rw [List.getElem?_map, List.getElem?_eq_getElem hn]; rfl)⟩
    have p18 : ((10 : Int) ^ (18 : Int).toNat) = 1000000000000000000 := by decide
    have c18 : CPow 10 18 := ⟨by decide, by decide, by decide⟩
    have modk : ∀ y : Int, 0 ≤ y % m ∧ y % m < m := fun y => ⟨Int.emod_nonneg _ (by omega), Int.emod_lt_of_pos _ hm0⟩
    refine ⟨_, rfl, b, _, 0, .ref c, rfl, rfl, .inl (.inl hb0), rfl, ?_⟩
    -- if box[2] == 0 and ..
    refine ⟨_, rfl, b, _, 2, .int p, rfl, rfl, .inl (.inl hb0), rfl, .int p, .int 0, .int p, .int 0, rfl, rfl, _, rfl, ?_⟩
    by_cases h0 : p = 0
    · refine itT (by rw [h0]; rfl) ?_
      refine ⟨_, rfl, b, _, 1, .int i, rfl, rfl, .inl (.inl hb0), rfl, _, rfl, c, _, rfl, .inl (.inl (.inl hc0)), i, _, rfl, rfl, _, rfl, ?_⟩
      -- the third test is False, or the place lies beyond: on with the cell
      have rest : ∀ cl : Int, tSeq
          (tAsg (tOp (rI0 fun i j => V.int (i + j)) (tOp (rIxL K) (tVar 0) (tC (V.int 1))) (tC (V.int 1))) (gSub (tVar 0) (tC (V.int 1)) rSetL))
          (tSeq
            (tAsg (tOp (rI (fun x j => 0 < j) fun i j => V.int (i % j)) (tCB (fun xs H Q => (∃ i, xs = [V.int i] ∧ Q (V.int i) H) ∨ ∃ k, xs = [V.bl k] ∧ Q (V.int (if k = true then 1 else 0)) H)
              (tCons (tOp (rI0 fun i j => V.int (i + j)) (tOp (rI0 fun i j => V.int (i + j)) (tOp (rI CMul fun i j => V.int (i * j)) (tOp (rIxL K) (tVar 0) (tC (V.int 3))) (tC (V.int 48271))) (tOp (rI CMul fun i j => V.int (i * j)) (tVar 4) (tC (V.int 7))))
                (tOp (rIxL K) (tVar 0) (tC (V.int 1)))) tNil)) (tC (V.int 2147483647))) (gSub (tVar 0) (tC (V.int 3)) rSetL))
            (tRet (tOp (rI (fun x j => 0 < j) fun i j => V.int (i % j)) (tOp (rI (fun x j => 0 < j) fun i j => V.int (i % j)) (tCB (fun xs H Q => (∃ i, xs = [V.int i] ∧ Q (V.int i) H) ∨ ∃ k, xs = [V.bl k] ∧ Q (V.int (if k = true then 1 else 0)) H)
              (tCons (tOp (rI0 fun i j => V.int (i + j)) (tOp (rI CMul fun i j => V.int (i * j)) (tOp (rI CDiv fun i j => V.int (i / j)) (tOp (rIxL K) (tVar 0) (tC (V.int 3))) (tC (V.int 8))) (tC (V.int 31)))
                (tOp (rI (fun x j => 0 < j) fun i j => V.int (i % j)) (tCB (fun xs H Q => (∃ i, xs = [V.int i] ∧ Q (V.int i) H) ∨ ∃ k, xs = [V.bl k] ∧ Q (V.int (if k = true then 1 else 0)) H) (tCons (tOp (rIxL K) (tVar 0) (tC (V.int 3))) tNil)) (tC (V.int 65537)))) tNil))
              (tC (V.int 1000003))) (tVar 1))))
          { nx := fun _ H' => Q .non H', rt := Q } [some (.ref b), some (.int m), some (.ref c), none, some (.int cl)] H := by
        intro cl
        refine ⟨_, rfl, b, _, 1, .int i, rfl, rfl, .inl (.inl hb0), rfl, i, 1, rfl, rfl, _, rfl, b, _, 1, 1, rfl, rfl, hb0, rfl, ?_⟩
        refine ⟨_, rfl, b, _, 3, .int s, rfl, rfl, .inl (.inl upd_same), rfl, s, 48271, rfl, rfl, .inr ⟨by decide, by decide⟩, ?_⟩
        refine ⟨_, rfl, cl, 7, rfl, rfl, .inr ⟨by decide, by decide⟩, _, _, rfl, rfl, ?_⟩
        refine ⟨_, rfl, b, _, 1, .int (i + 1), rfl, rfl, .inl (.inl upd_same), rfl, _, _, rfl, rfl, .inl ⟨_, rfl, _, 2147483647, rfl, rfl, by show (0 : Int) < 2147483647; decide, ?_⟩⟩
        refine ⟨_, rfl, b, _, 3, 3, rfl, rfl, upd_same, rfl, ?_⟩
        rw [upd_upd]
        refine ⟨_, rfl, b, _, 3, .int _, rfl, rfl, .inl (.inl upd_same), rfl, _, 8, rfl, rfl, ⟨by decide, by decide⟩, _, 31, rfl, rfl, .inr ⟨by decide, by decide⟩, ?_⟩
        refine ⟨_, rfl, b, _, 3, .int _, rfl, rfl, .inl (.inl upd_same), rfl, .inl ⟨_, rfl, _, 65537, rfl, rfl, by show (0 : Int) < 65537; decide, _, _, rfl, rfl, .inl ⟨_, rfl, _, 1000003, rfl, rfl, by show (0 : Int) < 1000003; decide, ?_⟩⟩⟩
        exact ⟨_, rfl, _, m, rfl, rfl, hm0, fin (i + 1) p _ _ (by omega) (by omega) (modk _).1 (modk _).2⟩
      -- behind the two ifs: no pending number
      have cont : ∀ σ2 : L2.St, σ2 = [some (.ref b), some (.int m), some (.ref c), none, none] → ∀ t1 : TS, ∀ t2, t2 = tSeq
          (tIfS (tTest (tOp (rI0 fun i j => V.bl (decide (j < i))) (tOp (rIxL K) (tVar 0) (tC (V.int 2))) (tC (V.int 0)))) t1 tNext)
          (tSeq (tAsg (tC (V.int 0)) (gName 4))
            (tSeq
              (tIfS (tTest (tOp (rI0 fun i j => V.bl (decide (i < j))) (tOp (rIxL K) (tVar 0) (tC (V.int 1))) (tCB (fun xs H Q => ∃ p ys, xs = [V.ref p] ∧ (SqL K H p ys ∨ SqT K H p ys) ∧ Q (V.int ↑ys.length) H) (tCons (tVar 2) tNil))))
                (tAsg (tCB (fun xs H Q => (∃ i, xs = [V.int i] ∧ Q (V.int i) H) ∨ ∃ k, xs = [V.bl k] ∧ Q (V.int (if k = true then 1 else 0)) H) (tCons (tOp (rIxL K) (tVar 2) (tOp (rIxL K) (tVar 0) (tC (V.int 1)))) tNil)) (gName 4)) tNext)
              (tSeq
          (tAsg (tOp (rI0 fun i j => V.int (i + j)) (tOp (rIxL K) (tVar 0) (tC (V.int 1))) (tC (V.int 1))) (gSub (tVar 0) (tC (V.int 1)) rSetL))
          (tSeq
            (tAsg (tOp (rI (fun x j => 0 < j) fun i j => V.int (i % j)) (tCB (fun xs H Q => (∃ i, xs = [V.int i] ∧ Q (V.int i) H) ∨ ∃ k, xs = [V.bl k] ∧ Q (V.int (if k = true then 1 else 0)) H)
              (tCons (tOp (rI0 fun i j => V.int (i + j)) (tOp (rI0 fun i j => V.int (i + j)) (tOp (rI CMul fun i j => V.int (i * j)) (tOp (rIxL K) (tVar 0) (tC (V.int 3))) (tC (V.int 48271))) (tOp (rI CMul fun i j => V.int (i * j)) (tVar 4) (tC (V.int 7))))
                (tOp (rIxL K) (tVar 0) (tC (V.int 1)))) tNil)) (tC (V.int 2147483647))) (gSub (tVar 0) (tC (V.int 3)) rSetL))
            (tRet (tOp (rI (fun x j => 0 < j) fun i j => V.int (i % j)) (tOp (rI (fun x j => 0 < j) fun i j => V.int (i % j)) (tCB (fun xs H Q => (∃ i, xs = [V.int i] ∧ Q (V.int i) H) ∨ ∃ k, xs = [V.bl k] ∧ Q (V.int (if k = true then 1 else 0)) H)
              (tCons (tOp (rI0 fun i j => V.int (i + j)) (tOp (rI CMul fun i j => V.int (i * j)) (tOp (rI CDiv fun i j => V.int (i / j)) (tOp (rIxL K) (tVar 0) (tC (V.int 3))) (tC (V.int 8))) (tC (V.int 31)))
                (tOp (rI (fun x j => 0 < j) fun i j => V.int (i % j)) (tCB (fun xs H Q => (∃ i, xs = [V.int i] ∧ Q (V.int i) H) ∨ ∃ k, xs = [V.bl k] ∧ Q (V.int (if k = true then 1 else 0)) H) (tCons (tOp (rIxL K) (tVar 0) (tC (V.int 3))) tNil)) (tC (V.int 65537)))) tNil))
              (tC (V.int 1000003))) (tVar 1))))))) → t2 { nx := fun _ H' => Q .non H', rt := Q } σ2 H := by
        intro σ2 e t1 t2 e2
        subst e
        subst e2
        refine ⟨_, rfl, b, _, 2, .int p, rfl, rfl, .inl (.inl hb0), rfl, p, 0, rfl, rfl, _, rfl, ?_⟩
        refine itF (decide_eq_false (by omega)) ?_
        refine ⟨_, rfl, b, _, 1, .int i, rfl, rfl, .inl (.inl hb0), rfl, _, rfl, c, _, rfl, .inl (.inl (.inl hc0)), i, _, rfl, rfl, _, rfl, ?_⟩
        by_cases h1 : i < ns.length
        · obtain ⟨z, hz⟩ := cell i hi h1
          refine itT (decide_eq_true (by omega)) ?_
          refine ⟨_, rfl, _, rfl, b, _, 1, .int i, rfl, rfl, .inl (.inl hb0), rfl, c, _, i, .int z, rfl, rfl, .inl (.inl hc0), hz, .inl ⟨z, rfl, ?_⟩⟩
          exact rest z
        · refine itF (decide_eq_false (by omega)) ?_
          exact rest 0
      by_cases h1 : i < ns.length
      · refine itT (decide_eq_true (by omega)) ?_
        obtain ⟨z, hz⟩ := cell i hi h1
        refine ⟨_, rfl, _, rfl, b, _, 1, .int i, rfl, rfl, .inl (.inl hb0), rfl, c, _, i, .int z, rfl, rfl, .inl (.inl hc0), hz, 10, 18, rfl, rfl, c18, z, _, rfl, rfl, _, rfl, ?_⟩
        by_cases h2 : (1000000000000000000 : Int) < z
        · -- the cell is a pending number
          refine itT (decide_eq_true (by rw [p18]; exact h2)) ?_
          refine ⟨_, rfl, _, rfl, b, _, 1, .int i, rfl, rfl, .inl (.inl hb0), rfl, c, _, i, .int z, rfl, rfl, .inl (.inl hc0), hz, 10, 18, rfl, rfl, c18, z, _, rfl, rfl, ?_⟩
          refine ⟨_, rfl, b, _, 2, 2, rfl, rfl, hb0, rfl, ?_⟩
          refine ⟨_, rfl, b, _, 1, .int i, rfl, rfl, .inl (.inl upd_same), rfl, i, 1, rfl, rfl, _, rfl, b, _, 1, 1, rfl, rfl, upd_same, rfl, ?_⟩
          rw [upd_upd]
          refine ⟨_, rfl, b, _, 2, .int _, rfl, rfl, .inl (.inl upd_same), rfl, _, 0, rfl, rfl, _, rfl, ?_⟩
          refine itT (decide_eq_true (by rw [p18]; omega)) ?_
          refine ⟨_, rfl, b, _, 2, .int _, rfl, rfl, .inl (.inl upd_same), rfl, .inl ⟨_, rfl, _, rfl, _, m, rfl, rfl, hm0, ?_⟩⟩
          refine ⟨_, rfl, b, _, 2, .int _, rfl, rfl, .inl (.inl upd_same), rfl, .inl ⟨_, rfl, _, rfl, _, m, rfl, rfl, ⟨hm0, hm1⟩, _, rfl, b, _, 2, 2, rfl, rfl, upd_same, rfl, ?_⟩⟩
          rw [upd_upd]
          refine ⟨_, rfl, fin (i + 1) _ s _ (by omega) (Int.ediv_nonneg (by rw [p18]; omega) (by omega)) (modk _).1 (modk _).2⟩
        · refine itF (decide_eq_false (by rw [p18]; exact h2)) ?_
          exact cont _ rfl _ _ rfl
      · refine itF (decide_eq_false (by omega)) ?_
        exact cont _ rfl _ _ rfl
    · refine itF (by show (p == 0) = false; simp [h0]) ?_
      refine ⟨_, rfl, b, _, 2, .int p, rfl, rfl, .inl (.inl hb0), rfl, p, 0, rfl, rfl, _, rfl, ?_⟩
      refine itT (decide_eq_true (by omega)) ?_
      refine ⟨_, rfl, b, _, 2, .int p, rfl, rfl, .inl (.inl hb0), rfl, .inl ⟨_, rfl, _, rfl, _, m, rfl, rfl, hm0, ?_⟩⟩
      refine ⟨_, rfl, b, _, 2, .int p, rfl, rfl, .inl (.inl hb0), rfl, .inl ⟨_, rfl, _, rfl, _, m, rfl, rfl, ⟨hm0, hm1⟩, _, rfl, b, _, 2, 2, rfl, rfl, hb0, rfl, ?_⟩⟩
      exact ⟨_, rfl, fin i _ s _ hi (Int.ediv_nonneg hp (by omega)) (modk _).1 (modk _).2⟩
def spBox (K : PySem.W.Frag) : Sp := fun vs H Q E => ∃ (a : Addr) (ns : List Int) (s : Int), vs = [.ref a, .int s] ∧ SqL K H a (ns.map V.int) ∧ ns.length ≤ 63 ∧
  ∀ (b c : Addr) (H' : Hp), b ≠ c → H' b = some (.lst [.ref c, .int 0, .int 0, .int s]) → H' c = some (.lst (ns.map V.int)) → Q (.ref b) H' 
theorem ok_box (tx : Txt K mg A) : FnR P w K mg base CX0 1 A.f_box (spBox K) := by
  refine fnR_of tx.g_box.d sc_box (fun vs H Q E h => ?_) (fun cdv Ar outer s H vs Q E hr h => ?_)
  · obtain ⟨a, ns, s, rfl, _⟩ := h; rfl
  · refine ⟨_, (pss_one (ps_ret (pe_lst (pa_cons (pe_lc (own := [("_law_cell", 2)]) rfl sc_box.nd (pi_listK K (pe_slice (sl_listK K) (pv 0) po_none (po_some pe_int))) (blkOk_by (N := ["_law_script", "_law_salt", "_law_cell"]) (sc := defScope s_box) (by decide +kernel)) (fun _ _ _ _ _ => (pg_name (i := 2) sc_box.nd rfl (Or.inl rfl))) (fun _ _ _ _ _ => pts_nil) (fun _ _ _ _ _ => (pe_callTy call_int1 (by rfl) tx.z_int (by decide +kernel) (pa_cons (pv 2) pa_nil)))) (pa_cons pe_int (pa_cons pe_int (pa_cons (pv 1) pa_nil))))))), ?_⟩
    try dsimp only [cxOf, Cx.nox]
    obtain ⟨a, ns, s, rfl, hS, hl, k⟩ := h
    refine ⟨_, rfl, _, rfl, a, _, rfl, hS, fun p hp => ⟨p, rfl, ⟨_, .inl (.inl upd_same)⟩, fun D nD => ?_⟩⟩
    have hpD : p ≠ D := ne_of_none upd_same nD
    have hcut : cutV (ns.map V.int) none (some 63) = ns.map V.int := by
      unfold cutV
      show (List.drop 0 (ns.map V.int)).take (HT.sIx (ns.map V.int).length (ns.map V.int).length (some 63) - 0) = _
      rw [List.drop_zero]
      have e : HT.sIx (ns.map V.int).length (ns.map V.int).length (some 63) = (ns.map V.int).length := by
        rw [List.length_map]
        unfold HT.sIx
        simp
        omega
      rw [e, Nat.sub_zero, List.take_length]
    rw [hcut]
    refine lc_list (xs := ns.map V.int) (fun i H' => H' p = some (.lst (ns.map V.int)) ∧ H' D = some (.lst ((ns.take i).map V.int))) ⟨by rw [upd_ne hpD]; exact upd_same, upd_same⟩ (fun i H' _ h => .inl (.inl h.1)) ?_ ?_
    · rintro i x H' hx ⟨h1, h2⟩
      obtain ⟨z, hz, rfl⟩ : ∃ z, ns[i]? = some z ∧ x = V.int z := by
        rw [List.getElem?_map] at hx
        cases e : ns[i]? with
        | none => rw [e] at hx; cases hx
        | some z => rw [e] at hx; exact ⟨z, rfl, (Option.some.inj hx).symm⟩
      have hi := (List.getElem?_eq_some_iff.mp hz).1
      refine ⟨rfl, ?_⟩
      refine yes_then ?_
      refine ⟨_, rfl, .inl ⟨z, rfl, _, h2, ?_, ?_, ?_⟩⟩
      · exact Nat.lt_of_le_of_lt (by rw [List.length_map]; exact List.length_take_le' _ _) (Nat.lt_of_le_of_lt hl (by decide : 63 < sizeLine))
      · rw [upd_ne hpD]; exact h1
      · rw [upd_same, List.take_succ, hz, List.map_append]; rfl
    · rintro H' ⟨h1, h2⟩
      rw [List.length_map, List.take_length] at h2
      refine ⟨_, rfl, by show 4 ≤ sizeLine; decide, fun b hb => ?_⟩
      have hbD : b ≠ D := (ne_of_none h2 hb).symm
      exact k b D _ hbD upd_same (by rw [upd_ne hbD.symm]; exact h2)
def P_span : PT := fun rt xx ts => ts = [T Bx.mk] ∧ (∀ k : Int, 1 ≤ k → k ≤ 300000 → rt (T k))
theorem pc_span {rt : Ty → Prop} {xx : Xn → Prop}  (h : ∀ k : Int, 1 ≤ k → k ≤ 300000 → rt (T k)) : P_span rt xx [T Bx.mk] := ⟨rfl, h⟩
theorem ok_span (tx : Txt K mg A) : FnR P w K mg base CX0 2 A.f_span (spG (bs K A) P_span) := by
  have G_take := ok_take (P := P) (w := w) (base := base) tx
  refine fnR_of tx.g_span.d sc_span (len_ok (n := 1) fun rt xx ts hp => by obtain ⟨rfl, _⟩ := hp; rfl) (fun cdv Ar outer s H vs Q E hr h => ⟨_, (pss_one (ps_ret (pe_ix (ix_listK K) (pe_lst (pa_cons pe_int (pa_cons pe_int (pa_cons pe_int (pa_cons pe_int pa_nil))))) (pe_callR G_take (room hr) rfl (tx.g_take).g (tx.g_take).kp pass0 (pa_cons (pv 0) (pa_cons pe_int pa_nil))) (fun _ _ => rfl)))),
      body_ok (N := ["_law_box_here"]) (fun W ts rt xx hB ho hw hp => ?_) h⟩)
  have hK : W.B.K = K := congrArg Bs.K hB
  obtain ⟨rfl, hp⟩ := hp
  show Sx W _ [some (T Bx.mk)] _
  walk_at "g"
  refine pc_take ⟨by decide, by decide, fun k h0 h1 => ⟨_, rfl, ?_⟩⟩
  have : k = 0 ∨ k = 1 ∨ k = 2 ∨ k = 3 := by omega
  rcases this with rfl | rfl | rfl | rfl <;> exact ⟨_, rfl, hp _ (by decide) (by decide)⟩
def P_moved : PT := fun rt xx ts => ts = [T Bx.mk] ∧ (∀ k : Int, -100000000000000000000 ≤ k → k ≤ 10000000000000 → rt (T k))
theorem pc_moved {rt : Ty → Prop} {xx : Xn → Prop}  (h : ∀ k : Int, -100000000000000000000 ≤ k → k ≤ 10000000000000 → rt (T k)) : P_moved rt xx [T Bx.mk] := ⟨rfl, h⟩
theorem ok_moved (tx : Txt K mg A) : FnR P w K mg base CX0 2 A.f_moved (spG (bs K A) P_moved) := by
  have G_take := ok_take (P := P) (w := w) (base := base) tx
  refine fnR_of tx.g_moved.d sc_moved (len_ok (n := 1) fun rt xx ts hp => by obtain ⟨rfl, _⟩ := hp; rfl) (fun cdv Ar outer s H vs Q E hr h => ⟨_, (pss_one (ps_ret (pe_ix (ix_listK K) (pe_lst (pa_cons pe_int (pa_cons pe_int (pa_cons (pe_un un_neg pe_int) (pa_cons (pe_op op_pow pe_int pe_int) (pa_cons (pe_un un_neg (pe_op op_pow pe_int pe_int)) pa_nil)))))) (pe_callR G_take (room hr) rfl (tx.g_take).g (tx.g_take).kp pass0 (pa_cons (pv 0) (pa_cons pe_int pa_nil))) (fun _ _ => rfl)))),
      body_ok (N := ["_law_box_here"]) (fun W ts rt xx hB ho hw hp => ?_) h⟩)
  have hK : W.B.K = K := congrArg Bs.K hB
  obtain ⟨rfl, hp⟩ := hp
  show Sx W _ [some (T Bx.mk)] _
  walk_at "g"
  refine pc_take ⟨by decide, by decide, fun k h0 h1 => ⟨_, rfl, ?_⟩⟩
  have : k = 0 ∨ k = 1 ∨ k = 2 ∨ k = 3 ∨ k = 4 := by omega
  rcases this with rfl | rfl | rfl | rfl | rfl <;> exact ⟨_, rfl, hp _ (by decide) (by decide)⟩
def P_pair : PT := fun rt xx ts => ∃ (sp : Int) (mv : Int), ts = [T Bx.mk, T sp, T mv] ∧ (1 ≤ sp ∧ sp ≤ 300000 ∧ ∀ l h : Int, l ≤ h → mv - sp ≤ l → l < mv + sp → h ≤ l + sp + 3 → rt (T (l, h)))
theorem pc_pair {rt : Ty → Prop} {xx : Xn → Prop} {sp : Int} {mv : Int} (h : 1 ≤ sp ∧ sp ≤ 300000 ∧ ∀ l h : Int, l ≤ h → mv - sp ≤ l → l < mv + sp → h ≤ l + sp + 3 → rt (T (l, h))) : P_pair rt xx [T Bx.mk, T sp, T mv] := ⟨_, _, rfl, h⟩
theorem ok_pair (tx : Txt K mg A) : FnR P w K mg base CX0 2 A.f_pair (spG (bs K A) P_pair) := by
  have G_take := ok_take (P := P) (w := w) (base := base) tx
  refine fnR_of tx.g_pair.d sc_pair (len_ok (n := 3) fun rt xx ts hp => by obtain ⟨_, _, rfl, _⟩ := hp; rfl) (fun cdv Ar outer s H vs Q E hr h => ⟨_, (pss_cons (ps_set (i := 3) sc_pair.nd rfl (Or.inl rfl) (pe_op op_add (pe_op op_sub (pe_callR G_take (room hr) rfl (tx.g_take).g (tx.g_take).kp pass0 (pa_cons (pv 0) (pa_cons (pe_op op_mul pe_int (pv 1)) pa_nil))) (pv 1)) (pv 2)))
        (pss_cons (ps_set (i := 4) sc_pair.nd rfl (Or.inl rfl) (pe_ix (ix_listK K) (pe_lst (pa_cons pe_int (pa_cons pe_int (pa_cons pe_int (pa_cons (pv 1) pa_nil))))) (pe_callR G_take (room hr) rfl (tx.g_take).g (tx.g_take).kp pass0 (pa_cons (pv 0) (pa_cons pe_int pa_nil))) (fun _ _ => rfl)))
        (pss_one (ps_ret (pe_tup (pa_cons (pv 3) (pa_cons (pe_op op_add (pv 3) (pe_callR G_take (room hr) rfl (tx.g_take).g (tx.g_take).kp pass0 (pa_cons (pv 0) (pa_cons (pe_op op_add (pv 4) pe_int) pa_nil)))) pa_nil))))))),
      body_ok (N := ["_law_box_here", "_law_span_here", "_law_moved_here", "_law_bottom", "_law_wide"]) (fun W ts rt xx hB ho hw hp => ?_) h⟩)
  have hK : W.B.K = K := congrArg Bs.K hB
  obtain ⟨sp, mv, rfl, hp⟩ := hp
  show Sx W _ [some (T Bx.mk), some (T sp), some (T mv), none, none] _
  obtain ⟨h1, h2, hp⟩ := hp
  walk_at "g"
  refine pc_take ⟨by omega, by omega, fun k hk0 hk1 => ⟨_, rfl, ?_⟩⟩
  walk_at "g"

  refine pc_take ⟨by omega, by omega, fun j hj0 hj1 => ⟨_, rfl, ?_⟩⟩
  have hw : ∃ w : Int, atI [0, 1, 3, sp] j = some w ∧ 0 ≤ w ∧ w ≤ sp + 3 := by
    have : j = 0 ∨ j = 1 ∨ j = 2 ∨ j = 3 := by omega
    rcases this with rfl | rfl | rfl | rfl
    · exact ⟨0, rfl, by omega, by omega⟩
    · exact ⟨1, rfl, by omega, by omega⟩
    · exact ⟨3, rfl, by omega, by omega⟩
    · exact ⟨sp, rfl, by omega, by omega⟩
  obtain ⟨w, hw, hw0, hw1⟩ := hw
  refine ⟨w, hw, ?_⟩
  walk_at "g"
  refine pc_take ⟨by omega, by omega, fun i hi0 hi1 => ⟨_, rfl, ?_⟩⟩
  exact hp _ _ (by omega) (by omega) (by omega) (by omega)
theorem ok_NoLevel_init (tx : Txt K mg A) : FnR P w K mg base CX0 1 A.f_NoLevel_init (spE0 K) := by
  refine fnR_of tx.d_NoLevel_init sc_NoLevel_init (fun vs H Q E h => ?_) (fun cdv Ar outer s H vs Q E hr h => ?_)
  · obtain ⟨a, C, rfl, _⟩ := h; rfl
  · refine ⟨_, (pss_one (ps_expr (pe_geinitK K tx.ge (pa_cons (pv 0) (pa_cons pe_str pa_nil))))), ?_⟩
    try dsimp only [cxOf, Cx.nox]
    obtain ⟨a, C, rfl, T, ha, k⟩ := h
    exact first_ge T rfl ha (fun Q q => q _) _ k
def shBad (vs : List V) (fs : List (Str × V)) : Prop := ∃ i j : Int, vs = [.int i, .int j] ∧ Small i ∧ Small j ∧ fs = ([("high", .int j), ("low", .int i)] : List (Str × V))
theorem ok_BadStretch_init (tx : Txt K mg A) : FnR P w K mg base CX0 1 A.f_BadStretch_init (spEr A.c_BadStretch shBad) := by
  refine fnR_of tx.d_BadStretch_init sc_BadStretch_init (fun vs H Q E h => ?_) (fun cdv Ar outer s H vs Q E hr h => ?_)
  · obtain ⟨a, as, fs, rfl, ⟨i, j, rfl, _⟩, _⟩ := h; rfl
  · refine ⟨_, (pss_cons (ps_expr (pe_geinitK K tx.ge (pa_cons (pv 0) (pa_cons (pe_joined (PJ.cons pe_str (PJ.cons (pe_fmt (pv 1)) (PJ.cons pe_str (PJ.cons (pe_fmt (pv 2)) PJ.nil))))) pa_nil))))
        (pss_cons (ps_ostK K (pv 0) (pv 1))
        (pss_one (ps_ostK K (pv 0) (pv 2))))), ?_⟩
    try dsimp only [cxOf, Cx.nox]
    obtain ⟨a, as, fs, rfl, ⟨i, j, rfl, si, sj, rfl⟩, ha, k⟩ := h
    exact err_two tx.xo_BadStretch tx.n_BadStretch_low tx.n_BadStretch_high rfl rfl rfl (first_ge tx.xo_BadStretch rfl ha fun Q q => js_ok q (.cons c_is (by decide) (.cons (fmt_int (var_is rfl) si) (txt_len si) (.cons c_is (by decide) (.cons (fmt_int (var_is rfl) sj) (txt_len sj) .nil)))) (by decide)) ha k
def shAp (vs : List V) (fs : List (Str × V)) : Prop := ∃ x y : V, vs = [x, y] ∧ fs = ([("second", y), ("first", x)] : List (Str × V))
theorem shAp_ok {a b c d : Int} : ShT shAp [T (a, b), T (c, d)] [("second", .p c d), ("first", .p a b)] := ⟨by show 2 ≤ 1000; decide, fun W H vs h => by
  cases h with
  | cons h1 h =>
  cases h with
  | cons h2 h =>
  cases h
  exact ⟨_, ⟨_, _, rfl, rfl⟩, .cons (t := .p c d) h2 (.cons (t := .p a b) h1 .nil)⟩⟩
theorem ok_Apart_init (tx : Txt K mg A) : FnR P w K mg base CX0 3 A.f_Apart_init (spEr A.c_Apart shAp) := by
  have G_NoLevel_init := ok_NoLevel_init (P := P) (w := w) (base := base) tx
  refine fnR_of tx.d_Apart_init sc_Apart_init (fun vs H Q E h => ?_) (fun cdv Ar outer s H vs Q E hr h => ?_)
  · obtain ⟨a, as, fs, rfl, ⟨x, y, rfl, _⟩, _⟩ := h; rfl
  · refine ⟨_, (pss_cons (ps_expr (pe_cinit (E := fun _ => E0) tx.cli_NoLevel G_NoLevel_init (room hr) passS0 tx.c_NoLevel (pa_cons (pv 0) pa_nil)))
        (pss_cons (ps_ostK K (pv 0) (pv 1))
        (pss_one (ps_ostK K (pv 0) (pv 2))))), ?_⟩
    try dsimp only [cxOf, Cx.nox]
    obtain ⟨a, as, fs, rfl, ⟨x, y, rfl, rfl⟩, ha, k⟩ := h
    exact err_two tx.xo_Apart tx.n_Apart_first tx.n_Apart_second rfl rfl rfl (fun Q q => ⟨_, rfl, a, _, rfl, tx.xo_Apart, ha, q⟩) ha k
theorem ok_Stretch_init (tx : Txt K mg A) : FnR P w K mg base (L2.CX P w) 3 A.f_Stretch_init (spSIX (bs K A)) := by
  have G_BadStretch_init := ok_BadStretch_init (P := P) (w := w) (base := base) tx
  refine fnRX_of tx.d_Stretch_init sc_Stretch_init (fun vs H Q E h => ?_) (fun cdv Ar outer s H vs Q E hr h => ?_)
  · obtain ⟨p, dx, lo, hi, rfl, _⟩ := h; rfl
  · refine ⟨_, (pss_cons (ps_if (pt_cmpR op_gt (pv 1) (pv 2) (nomark _)) (pss_one (ps_raise rfl (takes_of rfl rfl rfl rfl) (pmk_oexR tx.xo_BadStretch tx.xi_BadStretch tx.xt_BadStretch G_BadStretch_init (room hr) pass0 rfl tx.c_BadStretch (pa_cons (pv 1) (pa_cons (pv 2) pa_nil))))) pss_nil)
        (pss_cons (ps_fld (pv 0) (pv 1) rfl)
        (pss_one (ps_fld (pv 0) (pv 2) rfl)))), ?_⟩
    try dsimp only [cxOf, Cx.nox]
    obtain ⟨p, dx, lo, hi, rfl, hp, k, k2⟩ := h
    refine ⟨_, rfl, _, rfl, lo, hi, rfl, rfl, _, rfl, ?_⟩
    by_cases hl : hi < lo
    · refine itT (decide_eq_true hl) ?_
      obtain ⟨s1, s2, kx⟩ := k2 hl
      exact raw_raise (vs := [.int lo, .int hi]) (fun K q => ⟨_, rfl, _, rfl, q⟩) (by show 2 ≤ 1000; decide) ⟨lo, hi, rfl, s1, s2, rfl⟩ kx
    have hle : lo ≤ hi := by omega
    refine itF (decide_eq_false (by omega)) ?_
    refine ⟨_, rfl, _, rfl, p, A.c_Stretch, dx, [], rfl, hp, tx.cl_Stretch, tx.n_Stretch_low, (by show 0 < 1000; decide), ?_⟩
    refine ⟨_, rfl, _, rfl, p, A.c_Stretch, dx, _, rfl, upd_same, tx.cl_Stretch, tx.n_Stretch_high, (by show 1 < 1000; decide), ?_⟩
    have e : putF "high" (.int hi) [(("low" : Str), V.int lo)] = stcF lo hi := by
      have h : ¬ (("low" : Str) = "high") := by decide +kernel
      show (if ("low" : Str) = "high" then _ else _) = _
      rw [if_neg h]; rfl
    exact Eq.mp (congrArg (fun l => Q .non (upd (upd H p (.ins A.c_Stretch dx [("low", .int lo)])) p (.ins A.c_Stretch dx l))) e.symm) (k hle)
theorem stc_eq (s t : Stc) : decide (s = t) = (decide (s.lo = t.lo) && decide (s.hi = t.hi)) := by
  cases s; cases t
  rw [Bool.eq_iff_iff]
  simp
def P_Stretch_eq : PT := fun rt xx ts => ∃ (s : Stc) (t : Stc), ts = [T s, T t] ∧ (rt (T (decide (s = t))))
theorem pc_Stretch_eq {rt : Ty → Prop} {xx : Xn → Prop} {s : Stc} {t : Stc} (h : rt (T (decide (s = t)))) : P_Stretch_eq rt xx [T s, T t] := ⟨_, _, rfl, h⟩
theorem ok_Stretch_eq (tx : Txt K mg A) : FnR P w K mg base CX0 1 A.f_Stretch_eq (spG (bs K A) P_Stretch_eq) := by
  refine fnR_of tx.d_Stretch_eq sc_Stretch_eq (len_ok (n := 2) fun rt xx ts hp => by obtain ⟨_, _, rfl, _⟩ := hp; rfl) (fun cdv Ar outer s H vs Q E hr h => ⟨_, (pss_one (ps_ret (pe_and (pe_callB (call_isiKK K) (by rfl) tx.z_isinstance (by decide +kernel) (pa_cons (pv 1) (pa_cons (pe_glob (v := V.ref A.c_Stretch) rfl tx.c_Stretch rfl) pa_nil))) (pe_and (pe_cmpR (op_eqDK K (huD hr)) (pe_fldK K (pv 0) rfl) (pe_fldK K (pv 1) rfl) (nomark _)) (pe_one (pe_cmpR (op_eqDK K (huD hr)) (pe_fldK K (pv 0) rfl) (pe_fldK K (pv 1) rfl) (nomark _))))))),
      body_ok (N := ["self", "other"]) (fun W ts rt xx hB ho hw hp => ?_) h⟩)
  have hK : W.B.K = K := congrArg Bs.K hB
  obtain ⟨s, t, rfl, hp⟩ := hp
  show Sx W _ [some (T s), some (T t)] _
  rw [stc_eq] at hp
  walk_at "g"
  refine ⟨fun _ => ?_, fun h => absurd h (by decide)⟩
  walk_at "g"
  refine ⟨fun h1 => ?_, fun h1 => ?_⟩
  · walk_at "g"
    rw [h1, Bool.true_and] at hp
    exact hp
  · rw [h1, Bool.false_and] at hp
    exact hp
def P_Stretch_and : PT := fun rt xx ts => ∃ (s : Stc) (t : Stc), ts = [T s, T t] ∧ ((max s.lo t.lo ≤ min s.hi t.hi → rt (T (Stc.mk (max s.lo t.lo) (min s.hi t.hi)))) ∧ (min s.hi t.hi < max s.lo t.lo → xx ⟨.Apart, [("second", .p t.lo t.hi), ("first", .p s.lo s.hi)]⟩))
theorem pc_Stretch_and {rt : Ty → Prop} {xx : Xn → Prop} {s : Stc} {t : Stc} (h : (max s.lo t.lo ≤ min s.hi t.hi → rt (T (Stc.mk (max s.lo t.lo) (min s.hi t.hi)))) ∧ (min s.hi t.hi < max s.lo t.lo → xx ⟨.Apart, [("second", .p t.lo t.hi), ("first", .p s.lo s.hi)]⟩)) : P_Stretch_and rt xx [T s, T t] := ⟨_, _, rfl, h⟩
theorem ok_Stretch_and (tx : Txt K mg A) : FnR P w K mg base (L2.CX P w) 5 A.f_Stretch_and (spG (bs K A) P_Stretch_and) := by
  have G_Apart_init := ok_Apart_init (P := P) (w := w) (base := base) tx
  have G_Stretch_init := ok_Stretch_init (P := P) (w := w) (base := base) tx
  refine fnRX_of tx.d_Stretch_and sc_Stretch_and (len_ok (n := 2) fun rt xx ts hp => by obtain ⟨_, _, rfl, _⟩ := hp; rfl) (fun cdv Ar outer s H vs Q E hr h => ⟨_, (pss_cons (ps_set (i := 2) sc_Stretch_and.nd rfl (Or.inl rfl) (pe_callB (call_max2 rfl) (by rfl) tx.z_max (by decide +kernel) (pa_cons (pe_fldK K (pv 0) rfl) (pa_cons (pe_fldK K (pv 1) rfl) pa_nil))))
        (pss_cons (ps_set (i := 3) sc_Stretch_and.nd rfl (Or.inl rfl) (pe_callB (call_min2 rfl) (by rfl) tx.z_min (by decide +kernel) (pa_cons (pe_fldK K (pv 0) rfl) (pa_cons (pe_fldK K (pv 1) rfl) pa_nil))))
        (pss_cons (ps_if (pt_cmpR op_gt (pv 2) (pv 3) (nomark _)) (pss_one (ps_raise rfl (takes_of rfl rfl rfl rfl) (pmk_oexR tx.xo_Apart tx.xi_Apart tx.xt_Apart G_Apart_init (room hr) pass0 rfl tx.c_Apart (pa_cons (pe_tup (pa_cons (pe_fldK K (pv 0) rfl) (pa_cons (pe_fldK K (pv 0) rfl) pa_nil))) (pa_cons (pe_tup (pa_cons (pe_fldK K (pv 1) rfl) (pa_cons (pe_fldK K (pv 1) rfl) pa_nil))) pa_nil))))) pss_nil)
        (pss_one (ps_ret (pe_makeZ (E := WE (fun cls d _ H => E cls d H)) (tx.m_Stretch) G_Stretch_init (room hr) rfl tx.c_Stretch (passAt (takes_of rfl rfl rfl rfl)) (pa_cons (pv 2) (pa_cons (pv 3) pa_nil)))))))),
      body_ok (N := ["self", "other", "low", "high"]) (fun W ts rt xx hB ho hw hp => ?_) h⟩)
  have hK : W.B.K = K := congrArg Bs.K hB
  obtain ⟨s, t, rfl, hp⟩ := hp
  show Sx W _ [some (T s), some (T t), none, none] _
  obtain ⟨h1, h2⟩ := hp
  walk_at "g"
  refine ⟨fun hl => ?_, fun hl => ?_⟩
  · refine sx_raise (c := .Apart) (Wx := fun cls d _ H => E cls d H) hB rfl (hx_of hw) ?_
    walk_at "g"
    exact ⟨_, shAp_ok, h2 (by simpa using hl)⟩
  · have hl' : max s.lo t.lo ≤ min s.hi t.hi := by simpa using hl
    walk_at "g"
    exact ⟨fun _ => h1 hl', fun hl2 => absurd hl2 (by omega)⟩
def P_Stretch_or : PT := fun rt xx ts => ∃ (s : Stc) (t : Stc), ts = [T s, T t] ∧ (s.lo ≤ s.hi ∧ t.lo ≤ t.hi ∧ rt (T (Stc.mk (min s.lo t.lo) (max s.hi t.hi))))
theorem pc_Stretch_or {rt : Ty → Prop} {xx : Xn → Prop} {s : Stc} {t : Stc} (h : s.lo ≤ s.hi ∧ t.lo ≤ t.hi ∧ rt (T (Stc.mk (min s.lo t.lo) (max s.hi t.hi)))) : P_Stretch_or rt xx [T s, T t] := ⟨_, _, rfl, h⟩
theorem ok_Stretch_or (tx : Txt K mg A) : FnR P w K mg base (L2.CX P w) 5 A.f_Stretch_or (spG (bs K A) P_Stretch_or) := by
  have G_Stretch_init := ok_Stretch_init (P := P) (w := w) (base := base) tx
  refine fnRX_of tx.d_Stretch_or sc_Stretch_or (len_ok (n := 2) fun rt xx ts hp => by obtain ⟨_, _, rfl, _⟩ := hp; rfl) (fun cdv Ar outer s H vs Q E hr h => ⟨_, (pss_one (ps_ret (pe_makeZ (E := WE (fun cls d _ H => E cls d H)) (tx.m_Stretch) G_Stretch_init (room hr) rfl tx.c_Stretch (passAt (takes_of rfl rfl rfl rfl)) (pa_cons (pe_callB (call_min2 rfl) (by rfl) tx.z_min (by decide +kernel) (pa_cons (pe_fldK K (pv 0) rfl) (pa_cons (pe_fldK K (pv 1) rfl) pa_nil))) (pa_cons (pe_callB (call_max2 rfl) (by rfl) tx.z_max (by decide +kernel) (pa_cons (pe_fldK K (pv 0) rfl) (pa_cons (pe_fldK K (pv 1) rfl) pa_nil))) pa_nil))))),
      body_ok (N := ["self", "other"]) (fun W ts rt xx hB ho hw hp => ?_) h⟩)
  have hK : W.B.K = K := congrArg Bs.K hB
  obtain ⟨s, t, rfl, hp⟩ := hp
  show Sx W _ [some (T s), some (T t)] _
  obtain ⟨h0, h1, h2⟩ := hp
  walk_at "g"
  exact ⟨fun _ => h2, fun hl => absurd hl (by omega)⟩
def P_met : PT := fun rt xx ts => ∃ (s : Stc) (t : Stc), ts = [T s, T t] ∧ ((max s.lo t.lo ≤ min s.hi t.hi → rt (T (max s.lo t.lo, min s.hi t.hi))) ∧ (min s.hi t.hi < max s.lo t.lo → rt (T (L4.mk (s.lo, s.hi) (t.lo, t.hi) true false))))
theorem pc_met {rt : Ty → Prop} {xx : Xn → Prop} {s : Stc} {t : Stc} (h : (max s.lo t.lo ≤ min s.hi t.hi → rt (T (max s.lo t.lo, min s.hi t.hi))) ∧ (min s.hi t.hi < max s.lo t.lo → rt (T (L4.mk (s.lo, s.hi) (t.lo, t.hi) true false)))) : P_met rt xx [T s, T t] := ⟨_, _, rfl, h⟩
theorem ok_met (tx : Txt K mg A) : FnR P w K mg base CX0 6 A.f_met (spG (bs K A) P_met) := by
  have G_Stretch_and := ok_Stretch_and (P := P) (w := w) (base := base) tx
  refine fnR_of tx.g_met.d sc_met (len_ok (n := 2) fun rt xx ts hp => by obtain ⟨_, _, rfl, _⟩ := hp; rfl) (fun cdv Ar outer s H vs Q E hr h => ⟨_, (pss_cons (ps_tryZ K (i := 3) (c := .ref A.c_Apart) rfl rfl sc_met.nd rfl rfl ⟨rfl, by decide, Or.inl tx.c_Apart⟩ takes0 (fun Wx pn xe tk po => (pss_one (ps_set (i := 2) sc_met.nd rfl (Or.inl rfl) (pe_binO (E := WE Wx) tx.o_Stretch_and rfl G_Stretch_and (room hr) (passAt tk) (pv 0) (pv 1)))))
        (fun a oe cls d pn hz hf => (pss_one (ps_ret (pe_lst (pa_cons (pe_xf tx.xf_Apart tx.n_Apart_first hz hf (pv 3)) (pa_cons (pe_xf tx.xf_Apart tx.n_Apart_second hz hf (pv 3)) (pa_cons (pe_and (pe_callB (call_isF K hz hf) (by rfl) tx.z_isinstance (by decide +kernel) (pa_cons (pv 3) (pa_cons (pe_glob (v := V.ref A.c_NoLevel) rfl tx.c_NoLevel rfl) pa_nil))) (pe_one (pe_callB (call_isF K hz hf) (by rfl) tx.z_isinstance (by decide +kernel) (pa_cons (pv 3) (pa_cons (pe_glob (v := V.ref A.c_GaugeError) rfl tx.c_GaugeError rfl) pa_nil))))) (pa_cons (pe_callB (call_isF K hz hf) (by rfl) tx.z_isinstance (by decide +kernel) (pa_cons (pv 3) (pa_cons (pe_glob (v := V.ref A.c_BadStretch) rfl tx.c_BadStretch rfl) pa_nil))) pa_nil)))))))))
        (pss_one (ps_ret (pe_tup (pa_cons (pe_fldK K (pv 2) rfl) (pa_cons (pe_fldK K (pv 2) rfl) pa_nil)))))),
      body_ok (N := ["_law_one", "_law_two", "_law_piece", "e"]) (fun W ts rt xx hB ho hw hp => ?_) h⟩)
  have hK : W.B.K = K := congrArg Bs.K hB
  obtain ⟨s, t, rfl, hp⟩ := hp
  show Sx W _ [some (T s), some (T t), none, none] _
  obtain ⟨h1, h2⟩ := hp
  by_cases hl : max s.lo t.lo ≤ min s.hi t.hi
  · walk_at "g"
    refine sx_try (fun n => False) (fun W' Wx hB' hX => ?_) (fun a dd n hn => hn.elim)
    have hB2 : W'.B = bs K A := hB'.trans hB
    walk_at "g"
    refine pc_Stretch_and ⟨fun _ => ⟨_, rfl, ?_⟩, fun hl2 => absurd hl2 (by omega)⟩
    walk_at "g"
    exact h1 hl
  · walk_at "g"
    refine sx_try (fun n => n = ⟨.Apart, [("second", .p t.lo t.hi), ("first", .p s.lo s.hi)]⟩) (fun W' Wx hB' hX => ?_) (fun a dd n hn => ?_)
    · have hB2 : W'.B = bs K A := hB'.trans hB
      refine sx_set (α := Stc) (rα := inferInstance) ?_
      walk_at "g"
      exact pc_Stretch_and ⟨fun hl2 => absurd hl2 hl, fun _ => rfl⟩
    · subst hn
      refine ⟨exm_at hB rfl tx.xm_Apart_Apart, ?_⟩
      refine sx_ret (α := L4 (Int × Int) (Int × Int) Bool Bool) (rα := inferInstance) (ev_lst4 ?_)
      walk_at "g"
      refine ⟨⟨rfl, rfl⟩, s.lo, s.hi, by simp [List.lookup, show ((("first" : Str) == "second") = false) by decide +kernel], ?_⟩
      walk_at "g"
      refine ⟨⟨rfl, rfl⟩, t.lo, t.hi, by simp [List.lookup], ?_⟩
      walk_at "g"
      refine isF_in hB rfl tx.ec_Apart rel_ref tx.kit_Apart_NoLevel ⟨fun _ => ?_, fun h => absurd h (by decide)⟩
      walk_at "g"
      refine isF_in hB rfl tx.ec_Apart rel_ref tx.kit_Apart_GaugeError ?_
      walk_at "g"
      refine isF_in hB rfl tx.ec_Apart rel_ref tx.kit_Apart_BadStretch ?_
      exact h2 (by omega)
def P_base : PT := fun rt xx ts => ∃ (s : Stc) (t : Stc), ts = [T s, T t] ∧ (min s.hi t.hi < max s.lo t.lo ∧ rt (T true))
theorem pc_base {rt : Ty → Prop} {xx : Xn → Prop} {s : Stc} {t : Stc} (h : min s.hi t.hi < max s.lo t.lo ∧ rt (T true)) : P_base rt xx [T s, T t] := ⟨_, _, rfl, h⟩
theorem ok_base (tx : Txt K mg A) : FnR P w K mg base CX0 6 A.f_base (spG (bs K A) P_base) := by
  have G_Stretch_and := ok_Stretch_and (P := P) (w := w) (base := base) tx
  refine fnR_of tx.g_base.d sc_base (len_ok (n := 2) fun rt xx ts hp => by obtain ⟨_, _, rfl, _⟩ := hp; rfl) (fun cdv Ar outer s H vs Q E hr h => ⟨_, (pss_cons (ps_tryZ K (i := 3) (c := .ref A.c_NoLevel) rfl rfl sc_base.nd rfl rfl ⟨rfl, by decide, Or.inl tx.c_NoLevel⟩ takes0 (fun Wx pn xe tk po => (pss_one (ps_set (i := 2) sc_base.nd rfl (Or.inl rfl) (pe_binO (E := WE Wx) tx.o_Stretch_and rfl G_Stretch_and (room hr) (passAt tk) (pv 0) (pv 1)))))
        (fun a oe cls d pn hz hf => (pss_one (ps_ret (pe_callB (call_isF K hz hf) (by rfl) tx.z_isinstance (by decide +kernel) (pa_cons (pv 3) (pa_cons (pe_bltn (by rfl) tx.z_ValueError (by decide +kernel) (show RelV (.ty "ValueError") _ from rfl)) pa_nil)))))))
        (pss_one (ps_ret (pe_cmpR op_isN (pv 2) pe_non (nomark _))))),
      body_ok (N := ["_law_one", "_law_two", "_law_piece", "e"]) (fun W ts rt xx hB ho hw hp => ?_) h⟩)
  have hK : W.B.K = K := congrArg Bs.K hB
  obtain ⟨s, t, rfl, hp⟩ := hp
  show Sx W _ [some (T s), some (T t), none, none] _
  obtain ⟨hl, h2⟩ := hp
  refine sx_seqI (fun _ => False) ?_ (fun _ h => h.elim)
  refine sx_try (fun n => n = ⟨.Apart, [("second", .p t.lo t.hi), ("first", .p s.lo s.hi)]⟩) (fun W' Wx hB' hX => ?_) (fun a dd n hn => ?_)
  · have hB2 : W'.B = bs K A := hB'.trans hB
    refine sx_set (α := Stc) (rα := inferInstance) ?_
    walk_at "g"
    exact pc_Stretch_and ⟨fun hl2 => absurd hl2 (by omega), fun _ => rfl⟩
  · subst hn
    refine ⟨exm_at hB rfl tx.xm_Apart_NoLevel, ?_⟩
    walk_at "g"
    exact isF_in hB rfl tx.ec_Apart rel_ty tx.kit_Apart_ValueError h2
def spLaw (K : PySem.W.Frag) : Sp := fun vs H Q _ => ∃ (a : Addr) (ns : List Int), vs = [.ref a] ∧ SqL K H a (ns.map V.int) ∧ ns.length ≤ 63 ∧ ∀ H', Q (.bl true) H' 

theorem ok_law' (tx : Txt K mg A) {fd : FuncData} (F : Fun K "law" "law" s_law A.f_law fd) : FnOk P w K mg base CX0 7 A.f_law fd ["_law_script"] (spLaw K) := by
  have G_box := ok_box (P := P) (w := w) (base := base) tx
  have G_span := ok_span (P := P) (w := w) (base := base) tx
  have G_moved := ok_moved (P := P) (w := w) (base := base) tx
  have G_pair := ok_pair (P := P) (w := w) (base := base) tx
  have G_take := ok_take (P := P) (w := w) (base := base) tx
  have G_Stretch_init := ok_Stretch_init (P := P) (w := w) (base := base) tx
  have G_met := ok_met (P := P) (w := w) (base := base) tx
  have G_base := ok_base (P := P) (w := w) (base := base) tx
  have G_Stretch_or := ok_Stretch_or (P := P) (w := w) (base := base) tx
  have G_Stretch_eq := ok_Stretch_eq (P := P) (w := w) (base := base) tx
  refine F.ok sc_law (fun vs H Q E h => ?_) (fun cdv Ar outer s H vs Q E hr h => ?_)
  · obtain ⟨a, ns, rfl, _⟩ := h; rfl
  · refine ⟨_, (pss_cons (ps_set (i := 1) sc_law.nd rfl (Or.inl rfl) (pe_callR G_box (room hr) rfl (tx.g_box).g (tx.g_box).kp pass0 (pa_cons (pv 0) (pa_cons pe_int pa_nil))))
        (pss_cons (ps_set (i := 2) sc_law.nd rfl (Or.inl rfl) (pe_callR G_span (room hr) rfl (tx.g_span).g (tx.g_span).kp pass0 (pa_cons (pv 1) pa_nil)))
        (pss_cons (ps_set (i := 3) sc_law.nd rfl (Or.inl rfl) (pe_callR G_moved (room hr) rfl (tx.g_moved).g (tx.g_moved).kp pass0 (pa_cons (pv 1) pa_nil)))
        (pss_cons (ps_set (i := 4) sc_law.nd rfl (Or.inl rfl) (pe_callR G_pair (room hr) rfl (tx.g_pair).g (tx.g_pair).kp pass0 (pa_cons (pv 1) (pa_cons (pv 2) (pa_cons (pv 3) pa_nil)))))
        (pss_cons (ps_set (i := 5) sc_law.nd rfl (Or.inl rfl) (pe_callR G_pair (room hr) rfl (tx.g_pair).g (tx.g_pair).kp pass0 (pa_cons (pv 1) (pa_cons (pv 2) (pa_cons (pv 3) pa_nil)))))
        (pss_cons (ps_set (i := 6) sc_law.nd rfl (Or.inl rfl) (pe_callR G_take (room hr) rfl (tx.g_take).g (tx.g_take).kp pass0 (pa_cons (pv 1) (pa_cons pe_int pa_nil))))
        (pss_cons (ps_if (pt_cmpR op_lt (pv 6) pe_int (nomark _)) (pss_one (ps_set (i := 5) sc_law.nd rfl (Or.inl rfl) (pe_tup (pa_cons (pe_op op_add (pe_ix (ix_tupK K) (pv 4) pe_int (fun _ _ => rfl)) (pv 6)) (pa_cons (pe_op op_sub (pe_op op_add (pe_op op_add (pe_ix (ix_tupK K) (pv 4) pe_int (fun _ _ => rfl)) (pv 6)) (pe_ix (ix_tupK K) (pv 5) pe_int (fun _ _ => rfl))) (pe_ix (ix_tupK K) (pv 5) pe_int (fun _ _ => rfl))) pa_nil))))) pss_nil)
        (pss_cons (ps_set (i := 7) sc_law.nd rfl (Or.inl rfl) (pe_makeZ (E := fun _ => E0) (tx.m_Stretch) G_Stretch_init (room hr) rfl tx.c_Stretch passSL (pa_cons (pe_ix (ix_tupK K) (pv 4) pe_int (fun _ _ => rfl)) (pa_cons (pe_ix (ix_tupK K) (pv 4) pe_int (fun _ _ => rfl)) pa_nil))))
        (pss_cons (ps_set (i := 8) sc_law.nd rfl (Or.inl rfl) (pe_makeZ (E := fun _ => E0) (tx.m_Stretch) G_Stretch_init (room hr) rfl tx.c_Stretch passSL (pa_cons (pe_ix (ix_tupK K) (pv 5) pe_int (fun _ _ => rfl)) (pa_cons (pe_ix (ix_tupK K) (pv 5) pe_int (fun _ _ => rfl)) pa_nil))))
        (pss_cons (ps_set (i := 9) sc_law.nd rfl (Or.inl rfl) (pe_callB (call_max2 rfl) (by rfl) tx.z_max (by decide +kernel) (pa_cons (pe_ix (ix_tupK K) (pv 4) pe_int (fun _ _ => rfl)) (pa_cons (pe_ix (ix_tupK K) (pv 5) pe_int (fun _ _ => rfl)) pa_nil))))
        (pss_cons (ps_set (i := 10) sc_law.nd rfl (Or.inl rfl) (pe_callB (call_min2 rfl) (by rfl) tx.z_min (by decide +kernel) (pa_cons (pe_ix (ix_tupK K) (pv 4) pe_int (fun _ _ => rfl)) (pa_cons (pe_ix (ix_tupK K) (pv 5) pe_int (fun _ _ => rfl)) pa_nil))))
        (pss_cons (ps_if (pt_cmpR op_le (pv 9) (pv 10) (nomark _)) (pss_one (ps_if (PW.pt (pw_or (pt_cmpR (op_neDK K (huD hr)) (pe_callR G_met (room hr) rfl (tx.g_met).g (tx.g_met).kp pass0 (pa_cons (pv 7) (pa_cons (pv 8) pa_nil))) (pe_tup (pa_cons (pv 9) (pa_cons (pv 10) pa_nil))) (nomark _)) (pw_or1 (pt_cmpR (op_neDK K (huD hr)) (pe_callR G_met (room hr) rfl (tx.g_met).g (tx.g_met).kp pass0 (pa_cons (pv 8) (pa_cons (pv 7) pa_nil))) (pe_tup (pa_cons (pv 9) (pa_cons (pv 10) pa_nil))) (nomark _))))) (pss_one (ps_ret pe_bl)) pss_nil)) (pss_cons (ps_if (PW.pt (pw_or (pt_cmpR (op_neDK K (huD hr)) (pe_callR G_met (room hr) rfl (tx.g_met).g (tx.g_met).kp pass0 (pa_cons (pv 7) (pa_cons (pv 8) pa_nil))) (pe_lst (pa_cons (pv 4) (pa_cons (pv 5) (pa_cons pe_bl (pa_cons pe_bl pa_nil))))) (nomark _)) (pw_or1 (pt_cmpR (op_neDK K (huD hr)) (pe_callR G_met (room hr) rfl (tx.g_met).g (tx.g_met).kp pass0 (pa_cons (pv 8) (pa_cons (pv 7) pa_nil))) (pe_lst (pa_cons (pv 5) (pa_cons (pv 4) (pa_cons pe_bl (pa_cons pe_bl pa_nil))))) (nomark _))))) (pss_one (ps_ret pe_bl)) pss_nil)
        (pss_one (ps_if (pt_not (pt_val (pe_callR G_base (room hr) rfl (tx.g_base).g (tx.g_base).kp pass0 (pa_cons (pv 7) (pa_cons (pv 8) pa_nil))))) (pss_one (ps_ret pe_bl)) pss_nil))))
        (pss_cons (ps_set (i := 11) sc_law.nd rfl (Or.inl rfl) (pe_binO (E := fun _ => E0) tx.o_Stretch_or rfl G_Stretch_or (room hr) passSL (pv 7) (pv 8)))
        (pss_cons (ps_set (i := 12) sc_law.nd rfl (Or.inl rfl) (pe_binO (E := fun _ => E0) tx.o_Stretch_or rfl G_Stretch_or (room hr) passSL (pv 8) (pv 7)))
        (pss_cons (ps_if (PW.pt (pw_or (pt_cmpR (op_neDK K (huD hr)) (pe_tup (pa_cons (pe_fldK K (pv 11) rfl) (pa_cons (pe_fldK K (pv 11) rfl) pa_nil))) (pe_tup (pa_cons (pe_callB (call_min2 rfl) (by rfl) tx.z_min (by decide +kernel) (pa_cons (pe_ix (ix_tupK K) (pv 4) pe_int (fun _ _ => rfl)) (pa_cons (pe_ix (ix_tupK K) (pv 5) pe_int (fun _ _ => rfl)) pa_nil))) (pa_cons (pe_callB (call_max2 rfl) (by rfl) tx.z_max (by decide +kernel) (pa_cons (pe_ix (ix_tupK K) (pv 4) pe_int (fun _ _ => rfl)) (pa_cons (pe_ix (ix_tupK K) (pv 5) pe_int (fun _ _ => rfl)) pa_nil))) pa_nil))) (nomark _)) (pw_or1 (pt_cmpR (op_neO K tx.eq_Stretch G_Stretch_eq (room hr) pass0) (pv 11) (pv 12) (nomark _))))) (pss_one (ps_ret pe_bl)) pss_nil)
        (pss_one (ps_ret (pe_and (pe_cmpR (op_eqDK K (huD hr)) (pe_tup (pa_cons (pe_fldK K (pv 7) rfl) (pa_cons (pe_fldK K (pv 7) rfl) pa_nil))) (pv 4) (nomark _)) (pe_one (pe_cmpR (op_eqDK K (huD hr)) (pe_tup (pa_cons (pe_fldK K (pv 8) rfl) (pa_cons (pe_fldK K (pv 8) rfl) pa_nil))) (pv 5) (nomark _))))))))))))))))))))), ?_⟩
    try dsimp only [cxOf, Cx.nox]
    obtain ⟨a, ns, rfl, hS, hl, kq⟩ := h
    refine raw_seq (raw_asg ⟨_, rfl, a, ns, 103, rfl, hS, hl, fun b c H' hbc hb hc => ?_⟩)
    dsimp only
    refine law_run (B := bs K A) (j := 1) hbc hb hc (by exact rfl) kq fun W hB => ?_
    have hK : W.B.K = K := congrArg Bs.K hB
    show Sx W _ [none, some (T Bx.mk), none, none, none, none, none, none, none, none, none, none, none] _
    walk_at "g"
    refine pc_span fun sp h1 h2 => ⟨_, rfl, ?_⟩
    walk_at "g"
    refine pc_moved fun mv h3 h4 => ⟨_, rfl, ?_⟩
    walk_at "g"
    refine pc_pair ⟨h1, h2, fun lo hi h5 h6 h7 h8 => ⟨_, rfl, ?_⟩⟩
    walk_at "g"
    refine pc_pair ⟨h1, h2, fun lo2 hi2 h5' h6' h7' h8' => ⟨_, rfl, ?_⟩⟩
    walk_at "g"
    refine pc_take ⟨by decide, by decide, fun k9 h9 h10 => ⟨_, rfl, ?_⟩⟩
    walk_at "s"
    refine sx_seqI (fun Γ' => ∃ l r : Int, l ≤ r ∧ Γ' = [none, some (T Bx.mk), some (T sp), some (T mv), some (T (lo, hi)), some (T (l, r)), some (T k9), none, none, none, none, none, none]) ?_ ?_
    · walk_at "g"
      refine ⟨fun _ => ?_, fun _ => ?_⟩
      · walk_at "g"
        exact ⟨_, _, by dsimp only; omega, rfl⟩
      · walk_at "g"
        exact ⟨_, _, h5', rfl⟩
    rintro Γ' ⟨l, r, hlr, rfl⟩
    walk_at "s"
    refine ⟨fun _ => ?_, fun h => absurd h (by dsimp only; omega)⟩
    walk_at "s"
    refine ⟨fun _ => ?_, fun h => absurd h (by dsimp only; omega)⟩
    walk_at "s"
    refine sx_seqI (fun Γ' => Γ' = [none, some (T Bx.mk), some (T sp), some (T mv), some (T (lo, hi)), some (T (l, r)), some (T k9), some (T (Stc.mk lo hi)), some (T (Stc.mk l r)), some (T (max lo l)), some (T (min hi r)), none, none]) ?_ ?_
    · walk_at "s"
      refine ⟨fun hc => ?_, fun hc => ?_⟩
      · have hc' : max lo l ≤ min hi r := by simpa using hc
        walk_at "g"
        refine pc_met ⟨fun _ => ⟨_, rfl, ?_⟩, fun h => absurd h (by dsimp only; omega)⟩
        walk_at "g"
        refine ⟨fun h => absurd h (by simp), fun _ => ?_⟩
        walk_at "g"
        refine pc_met ⟨fun _ => ⟨_, rfl, ?_⟩, fun h => absurd h (by dsimp only; omega)⟩
        walk_at "g"
        refine ⟨fun h => ?_, fun _ => ?_⟩
        · have e1 : max l lo = max lo l := by omega
          have e2 : min r hi = min hi r := by omega
          simp [e1, e2] at h
        · walk_at "g"
          rfl
      · have hc' : min hi r < max lo l := by simpa using hc
        walk_at "g"
        refine pc_met ⟨fun h => absurd h (by dsimp only; omega), fun _ => ⟨_, rfl, ?_⟩⟩
        walk_at "g"
        refine ⟨fun h => absurd h (by simp), fun _ => ?_⟩
        walk_at "g"
        refine pc_met ⟨fun h => absurd h (by dsimp only; omega), fun _ => ⟨_, rfl, ?_⟩⟩
        walk_at "g"
        refine ⟨fun h => absurd h (by simp), fun _ => ?_⟩
        walk_at "g"
        refine pc_base ⟨hc', _, rfl, ?_⟩
        refine ⟨fun h => absurd h (by decide), fun _ => ?_⟩
        walk_at "g"
        rfl
    rintro Γ' rfl
    walk_at "g"
    refine pc_Stretch_or ⟨h5, hlr, _, rfl, ?_⟩
    walk_at "g"
    refine pc_Stretch_or ⟨hlr, h5, _, rfl, ?_⟩
    walk_at "g"
    refine ⟨fun h => absurd h (by simp), fun _ => ?_⟩
    walk_at "g"
    refine pc_Stretch_eq ⟨_, rfl, ?_⟩
    refine ⟨fun h => ?_, fun _ => ?_⟩
    · have e1 : min lo l = min l lo := by omega
      have e2 : max hi r = max r hi := by omega
      simp [e1, e2] at h
    · walk_at "g"
      refine ⟨fun _ => ?_, fun h => absurd h (by simp)⟩
      walk_at "g"
      rw [decide_eq_true rfl]
end
theorem all_mk {l : PySem.W.OpenLaw} {w : World} {K : PySem.W.Frag} {h : Heap} {mg : Str → Option Value} {fa C_GaugeError C_BadStretch C_NoLevel C_Apart C_Stretch f1 f2 f3 f4 f5 f6 f7 f8 f9 f10 f11 f12 f13 f14 f15 : Addr} (X : K.In h) (G : h.Ns mainGlobals mg) (hfa : mg "law" = some (.ref fa))
    {od1 an1 : Option Addr} {sl1 : Array (Option Value)} {oc1 kV1 dc1 pm1 cd1 ct1 : Value} {od2 an2 : Option Addr} {sl2 : Array (Option Value)} {oc2 kV2 dc2 pm2 cd2 ct2 : Value} {od3 an3 : Option Addr} {sl3 : Array (Option Value)} {oc3 kV3 dc3 pm3 cd3 ct3 : Value} {od4 an4 : Option Addr} {sl4 : Array (Option Value)} {oc4 kV4 dc4 pm4 cd4 ct4 : Value} {od5 an5 : Option Addr} {sl5 : Array (Option Value)} {oc5 kV5 dc5 pm5 cd5 ct5 : Value} {od6 an6 : Option Addr} {sl6 : Array (Option Value)} {oc6 kV6 dc6 pm6 cd6 ct6 : Value} {od7 an7 : Option Addr} {sl7 : Array (Option Value)} {oc7 kV7 dc7 pm7 cd7 ct7 : Value} {od8 an8 : Option Addr} {sl8 : Array (Option Value)} {oc8 kV8 dc8 pm8 cd8 ct8 : Value} {od9 an9 : Option Addr} {sl9 : Array (Option Value)} {oc9 kV9 dc9 pm9 cd9 ct9 : Value} {od10 an10 : Option Addr} {sl10 : Array (Option Value)} {oc10 kV10 dc10 pm10 cd10 ct10 : Value} {od11 an11 : Option Addr} {sl11 : Array (Option Value)} {oc11 kV11 dc11 pm11 cd11 ct11 : Value} {od12 an12 : Option Addr} {sl12 : Array (Option Value)} {oc12 kV12 dc12 pm12 cd12 ct12 : Value} {od13 an13 : Option Addr} {sl13 : Array (Option Value)} {oc13 kV13 dc13 pm13 cd13 ct13 : Value} {od14 an14 : Option Addr} {sl14 : Array (Option Value)} {oc14 kV14 dc14 pm14 cd14 ct14 : Value} {od15 an15 : Option Addr} {sl15 : Array (Option Value)} {oc15 kV15 dc15 pm15 cd15 ct15 : Value} {nmBadStretch qBadStretch : Str} {NBadStretch : Addr} {bsBadStretch : List Value} {snBadStretch : List Str} {subBadStretch : List Value} {abBadStretch : Bool} {colBadStretch : Option Bool} {ddBadStretch : Option Addr} {m0BadStretch m1BadStretch m2BadStretch m3BadStretch m5BadStretch : Option Value} {nmNoLevel qNoLevel : Str} {NNoLevel : Addr} {bsNoLevel : List Value} {snNoLevel : List Str} {subNoLevel : List Value} {abNoLevel : Bool} {colNoLevel : Option Bool} {ddNoLevel : Option Addr} {m0NoLevel m1NoLevel m2NoLevel m3NoLevel m5NoLevel : Option Value} {nmApart qApart : Str} {NApart : Addr} {bsApart : List Value} {snApart : List Str} {subApart : List Value} {abApart : Bool} {colApart : Option Bool} {ddApart : Option Addr} {m0Apart m1Apart m2Apart m3Apart m5Apart : Option Value} 
    (aC_GaugeError : PySem.W.nsIn K mainGlobals "GaugeError" = some (some (.ref C_GaugeError)))
    (aC_BadStretch : PySem.W.nsIn K mainGlobals "BadStretch" = some (some (.ref C_BadStretch)))
    (aC_NoLevel : PySem.W.nsIn K mainGlobals "NoLevel" = some (some (.ref C_NoLevel)))
    (aC_Apart : PySem.W.nsIn K mainGlobals "Apart" = some (some (.ref C_Apart)))
    (aC_Stretch : PySem.W.nsIn K mainGlobals "Stretch" = some (some (.ref C_Stretch)))
    (a1 : PySem.W.nsIn K mainGlobals "_law_take" = some (some (.ref f1)))
    (l1 : K.lookup f1 = some ⟨oc1, od1, .func (PySem.W.fnOf "_law_take" "_law_take" (defArgs s_take) (defBody s_take) (defScope s_take) .none kV1 dc1 pm1 an1 cd1 ct1), sl1⟩)
    (c1 : PySem.W.codeIn K cd1 "_law_take" = true)
    (k1 : PySem.W.keepIn K (.ref f1) = true)
    (a2 : PySem.W.nsIn K mainGlobals "_law_box" = some (some (.ref f2)))
    (l2 : K.lookup f2 = some ⟨oc2, od2, .func (PySem.W.fnOf "_law_box" "_law_box" (defArgs s_box) (defBody s_box) (defScope s_box) .none kV2 dc2 pm2 an2 cd2 ct2), sl2⟩)
    (c2 : PySem.W.codeIn K cd2 "_law_box" = true)
    (k2 : PySem.W.keepIn K (.ref f2) = true)
    (a3 : PySem.W.nsIn K mainGlobals "_law_span" = some (some (.ref f3)))
    (l3 : K.lookup f3 = some ⟨oc3, od3, .func (PySem.W.fnOf "_law_span" "_law_span" (defArgs s_span) (defBody s_span) (defScope s_span) .none kV3 dc3 pm3 an3 cd3 ct3), sl3⟩)
    (c3 : PySem.W.codeIn K cd3 "_law_span" = true)
    (k3 : PySem.W.keepIn K (.ref f3) = true)
    (a4 : PySem.W.nsIn K mainGlobals "_law_moved" = some (some (.ref f4)))
    (l4 : K.lookup f4 = some ⟨oc4, od4, .func (PySem.W.fnOf "_law_moved" "_law_moved" (defArgs s_moved) (defBody s_moved) (defScope s_moved) .none kV4 dc4 pm4 an4 cd4 ct4), sl4⟩)
    (c4 : PySem.W.codeIn K cd4 "_law_moved" = true)
    (k4 : PySem.W.keepIn K (.ref f4) = true)
    (a5 : PySem.W.nsIn K mainGlobals "_law_pair" = some (some (.ref f5)))
    (l5 : K.lookup f5 = some ⟨oc5, od5, .func (PySem.W.fnOf "_law_pair" "_law_pair" (defArgs s_pair) (defBody s_pair) (defScope s_pair) .none kV5 dc5 pm5 an5 cd5 ct5), sl5⟩)
    (c5 : PySem.W.codeIn K cd5 "_law_pair" = true)
    (k5 : PySem.W.keepIn K (.ref f5) = true)
    (a6 : PySem.W.findIn K (.ref C_NoLevel) "__init__" = some (some (.ref f6)))
    (i6 : PySem.W.isFn K (.ref f6) = true)
    (l6 : K.lookup f6 = some ⟨oc6, od6, .func (PySem.W.fnOf "__init__" "NoLevel.__init__" (defArgs s_NoLevel_init) (defBody s_NoLevel_init) (defScope s_NoLevel_init) .none kV6 dc6 pm6 an6 cd6 ct6), sl6⟩)
    (c6 : PySem.W.codeIn K cd6 "NoLevel.__init__" = true)
    (k6 : PySem.W.keepIn K (.ref f6) = true)
    (ty_NoLevel : PySem.W.typeIn K (.ref f6) = some (.type "function"))
    (a7 : PySem.W.findIn K (.ref C_BadStretch) "__init__" = some (some (.ref f7)))
    (i7 : PySem.W.isFn K (.ref f7) = true)
    (l7 : K.lookup f7 = some ⟨oc7, od7, .func (PySem.W.fnOf "__init__" "BadStretch.__init__" (defArgs s_BadStretch_init) (defBody s_BadStretch_init) (defScope s_BadStretch_init) .none kV7 dc7 pm7 an7 cd7 ct7), sl7⟩)
    (c7 : PySem.W.codeIn K cd7 "BadStretch.__init__" = true)
    (k7 : PySem.W.keepIn K (.ref f7) = true)
    (ty_BadStretch : PySem.W.typeIn K (.ref f7) = some (.type "function"))
    (a8 : PySem.W.findIn K (.ref C_Apart) "__init__" = some (some (.ref f8)))
    (i8 : PySem.W.isFn K (.ref f8) = true)
    (l8 : K.lookup f8 = some ⟨oc8, od8, .func (PySem.W.fnOf "__init__" "Apart.__init__" (defArgs s_Apart_init) (defBody s_Apart_init) (defScope s_Apart_init) .none kV8 dc8 pm8 an8 cd8 ct8), sl8⟩)
    (c8 : PySem.W.codeIn K cd8 "Apart.__init__" = true)
    (k8 : PySem.W.keepIn K (.ref f8) = true)
    (ty_Apart : PySem.W.typeIn K (.ref f8) = some (.type "function"))
    (a9 : PySem.W.findIn K (.ref C_Stretch) "__init__" = some (some (.ref f9)))
    (i9 : PySem.W.isFn K (.ref f9) = true)
    (l9 : K.lookup f9 = some ⟨oc9, od9, .func (PySem.W.fnOf "__init__" "Stretch.__init__" (defArgs s_Stretch_init) (defBody s_Stretch_init) (defScope s_Stretch_init) .none kV9 dc9 pm9 an9 cd9 ct9), sl9⟩)
    (c9 : PySem.W.codeIn K cd9 "Stretch.__init__" = true)
    (k9 : PySem.W.keepIn K (.ref f9) = true)
    (mk_Stretch : PySem.W.makesIn K C_Stretch = true)
    (kc_Stretch : PySem.W.keepIn K (.ref C_Stretch) = true)
    (a10 : PySem.W.findIn K (.ref C_Stretch) "__eq__" = some (some (.ref f10)))
    (i10 : PySem.W.isFn K (.ref f10) = true)
    (l10 : K.lookup f10 = some ⟨oc10, od10, .func (PySem.W.fnOf "__eq__" "Stretch.__eq__" (defArgs s_Stretch_eq) (defBody s_Stretch_eq) (defScope s_Stretch_eq) .none kV10 dc10 pm10 an10 cd10 ct10), sl10⟩)
    (c10 : PySem.W.codeIn K cd10 "Stretch.__eq__" = true)
    (k10 : PySem.W.keepIn K (.ref f10) = true)
    (a11 : PySem.W.findIn K (.ref C_Stretch) "__and__" = some (some (.ref f11)))
    (i11 : PySem.W.isFn K (.ref f11) = true)
    (l11 : K.lookup f11 = some ⟨oc11, od11, .func (PySem.W.fnOf "__and__" "Stretch.__and__" (defArgs s_Stretch_and) (defBody s_Stretch_and) (defScope s_Stretch_and) .none kV11 dc11 pm11 an11 cd11 ct11), sl11⟩)
    (c11 : PySem.W.codeIn K cd11 "Stretch.__and__" = true)
    (k11 : PySem.W.keepIn K (.ref f11) = true)
    (sf_Stretch : PySem.W.selfFirst K C_Stretch = true)
    (a12 : PySem.W.findIn K (.ref C_Stretch) "__or__" = some (some (.ref f12)))
    (i12 : PySem.W.isFn K (.ref f12) = true)
    (l12 : K.lookup f12 = some ⟨oc12, od12, .func (PySem.W.fnOf "__or__" "Stretch.__or__" (defArgs s_Stretch_or) (defBody s_Stretch_or) (defScope s_Stretch_or) .none kV12 dc12 pm12 an12 cd12 ct12), sl12⟩)
    (c12 : PySem.W.codeIn K cd12 "Stretch.__or__" = true)
    (k12 : PySem.W.keepIn K (.ref f12) = true)
    (a13 : PySem.W.nsIn K mainGlobals "_law_met" = some (some (.ref f13)))
    (l13 : K.lookup f13 = some ⟨oc13, od13, .func (PySem.W.fnOf "_law_met" "_law_met" (defArgs s_met) (defBody s_met) (defScope s_met) .none kV13 dc13 pm13 an13 cd13 ct13), sl13⟩)
    (c13 : PySem.W.codeIn K cd13 "_law_met" = true)
    (k13 : PySem.W.keepIn K (.ref f13) = true)
    (a14 : PySem.W.nsIn K mainGlobals "_law_base" = some (some (.ref f14)))
    (l14 : K.lookup f14 = some ⟨oc14, od14, .func (PySem.W.fnOf "_law_base" "_law_base" (defArgs s_base) (defBody s_base) (defScope s_base) .none kV14 dc14 pm14 an14 cd14 ct14), sl14⟩)
    (c14 : PySem.W.codeIn K cd14 "_law_base" = true)
    (k14 : PySem.W.keepIn K (.ref f14) = true)
    (a15 : PySem.W.nsIn K mainGlobals "law" = some (some (.ref f15)))
    (l15 : K.lookup f15 = some ⟨oc15, od15, .func (PySem.W.fnOf "law" "law" (defArgs s_law) (defBody s_law) (defScope s_law) .none kV15 dc15 pm15 an15 cd15 ct15), sl15⟩)
    (c15 : PySem.W.codeIn K cd15 "law" = true)
    (k15 : PySem.W.keepIn K (.ref f15) = true)
    (ge_ga : PySem.W.specialIn K (.ref C_GaugeError) "__getattribute__" = some (some (.builtin "type.__getattribute__")))
    (ge_rd : PySem.W.readsIn K C_GaugeError (.type "type") = true)
    (ge_at : PySem.W.findCls K (.ref C_GaugeError) (.type "type") "__init__" = some (.val (.builtin "ValueError.__init__")))
    (xL_BadStretch : K.lookup C_BadStretch = some (excClassObj nmBadStretch qBadStretch C_BadStretch NBadStretch bsBadStretch [.ref C_GaugeError, .type "ValueError", .type "Exception", .type "BaseException", .type "object"] true snBadStretch subBadStretch abBadStretch colBadStretch ddBadStretch m0BadStretch m1BadStretch m2BadStretch m3BadStretch m5BadStretch "ValueError.__new__"))
    (xsa_BadStretch : PySem.W.findIn K (.ref C_BadStretch) "__setattr__" = some (some (.builtin "object.__setattr__")))
    (xga_BadStretch : PySem.W.findIn K (.ref C_BadStretch) "__getattribute__" = some (some (.builtin "BaseException.__getattribute__")))
    (xgg_BadStretch : PySem.W.findIn K (.ref C_BadStretch) "__getattr__" = some none)
    (xkC_BadStretch : PySem.W.keepIn K (.ref C_BadStretch) = true)
    (xeC_BadStretch : PySem.W.subIn K (.ref C_BadStretch) (.type "BaseException") = some true)
    (xtC_BadStretch : PySem.W.typeIn K (.ref C_BadStretch) = some (.type "type"))
    (xhC_BadStretch : PySem.W.hasDictIn K C_BadStretch = true)
    (xic_BadStretch : PySem.W.isClsIn K C_BadStretch = true)
    (n_BadStretch_low : PySem.W.findIn K (.ref C_BadStretch) "low" = some none)
    (n_BadStretch_high : PySem.W.findIn K (.ref C_BadStretch) "high" = some none)
    (xL_NoLevel : K.lookup C_NoLevel = some (excClassObj nmNoLevel qNoLevel C_NoLevel NNoLevel bsNoLevel [.ref C_GaugeError, .type "ValueError", .type "Exception", .type "BaseException", .type "object"] true snNoLevel subNoLevel abNoLevel colNoLevel ddNoLevel m0NoLevel m1NoLevel m2NoLevel m3NoLevel m5NoLevel "ValueError.__new__"))
    (xsa_NoLevel : PySem.W.findIn K (.ref C_NoLevel) "__setattr__" = some (some (.builtin "object.__setattr__")))
    (xga_NoLevel : PySem.W.findIn K (.ref C_NoLevel) "__getattribute__" = some (some (.builtin "BaseException.__getattribute__")))
    (xgg_NoLevel : PySem.W.findIn K (.ref C_NoLevel) "__getattr__" = some none)
    (xkC_NoLevel : PySem.W.keepIn K (.ref C_NoLevel) = true)
    (xeC_NoLevel : PySem.W.subIn K (.ref C_NoLevel) (.type "BaseException") = some true)
    (xtC_NoLevel : PySem.W.typeIn K (.ref C_NoLevel) = some (.type "type"))
    (xhC_NoLevel : PySem.W.hasDictIn K C_NoLevel = true)
    (xic_NoLevel : PySem.W.isClsIn K C_NoLevel = true)
    (xs_NoLevel_NoLevel : PySem.W.subIn K (.ref C_NoLevel) (.ref C_NoLevel) = some true)
    (xL_Apart : K.lookup C_Apart = some (excClassObj nmApart qApart C_Apart NApart bsApart [.ref C_NoLevel, .ref C_GaugeError, .type "ValueError", .type "Exception", .type "BaseException", .type "object"] true snApart subApart abApart colApart ddApart m0Apart m1Apart m2Apart m3Apart m5Apart "ValueError.__new__"))
    (xsa_Apart : PySem.W.findIn K (.ref C_Apart) "__setattr__" = some (some (.builtin "object.__setattr__")))
    (xga_Apart : PySem.W.findIn K (.ref C_Apart) "__getattribute__" = some (some (.builtin "BaseException.__getattribute__")))
    (xgg_Apart : PySem.W.findIn K (.ref C_Apart) "__getattr__" = some none)
    (xkC_Apart : PySem.W.keepIn K (.ref C_Apart) = true)
    (xeC_Apart : PySem.W.subIn K (.ref C_Apart) (.type "BaseException") = some true)
    (xtC_Apart : PySem.W.typeIn K (.ref C_Apart) = some (.type "type"))
    (xhC_Apart : PySem.W.hasDictIn K C_Apart = true)
    (xic_Apart : PySem.W.isClsIn K C_Apart = true)
    (n_Apart_first : PySem.W.findIn K (.ref C_Apart) "first" = some none)
    (n_Apart_second : PySem.W.findIn K (.ref C_Apart) "second" = some none)
    (xs_Apart_Apart : PySem.W.subIn K (.ref C_Apart) (.ref C_Apart) = some true)
    (xs_Apart_NoLevel : PySem.W.subIn K (.ref C_Apart) (.ref C_NoLevel) = some true)
    (pg_Stretch : PySem.W.plainGet K C_Stretch Str.empty = true)
    (hd_Stretch : PySem.W.hasDictIn K C_Stretch = true)
    (po_Stretch : PySem.W.plainOver K C_Stretch = true)
    (sa_Stretch : PySem.W.findIn K (.ref C_Stretch) "__setattr__" = some (some (.builtin "object.__setattr__")))
    (cc_Stretch : PySem.W.findIn K (.ref C_Stretch) "__class__" = some (some (.builtin "object.__class__")))
    (oc_s : PySem.W.specialIn K (.builtin "object.__class__") "__get__" = some (some (.builtin "getset_descriptor.__get__")))
    (oc_t : PySem.W.takesIn K (.builtin "object.__class__") = some true)
    (mo_Stretch : PySem.W.mroIn K C_Stretch (.type "object") = some true)
    (n_Stretch_low : PySem.W.findIn K (.ref C_Stretch) "low" = some none)
    (n_Stretch_high : PySem.W.findIn K (.ref C_Stretch) "high" = some none)
    (xcc_Apart : PySem.W.findIn K (.ref C_Apart) "__class__" = some (some (.builtin "object.__class__")))
    (xmo_Apart : PySem.W.mroIn K C_Apart (.type "object") = some true)
    (xs_Apart_BadStretch : PySem.W.subIn K (.ref C_Apart) (.ref C_BadStretch) = some false)
    (xn_Apart_BadStretch : (Value.ref C_Apart == Value.ref C_BadStretch) = false)
    (xic_GaugeError : PySem.W.isClsIn K C_GaugeError = true)
    (xtC_GaugeError : PySem.W.typeIn K (.ref C_GaugeError) = some (.type "type"))
    (xs_Apart_GaugeError : PySem.W.subIn K (.ref C_Apart) (.ref C_GaugeError) = some true)
    (xs_Apart_ValueError : PySem.W.subIn K (.ref C_Apart) (.type "ValueError") = some true)
    (ne_Stretch : PySem.W.findIn K (.ref C_Stretch) "__ne__" = some (some (.builtin "object.__ne__")))
    (ob_Stretch : PySem.W.subIn K (.ref C_Stretch) (.type "object") = some true)
    (cg_NoLevel : PySem.W.specialIn K (.ref C_NoLevel) "__getattribute__" = some (some (.builtin "type.__getattribute__")))
    (cr_NoLevel : PySem.W.readsIn K C_NoLevel (.type "type") = true)
    (ca_NoLevel : PySem.W.findCls K (.ref C_NoLevel) (.type "type") "__init__" = some (.val (.ref f6)))
    (z_ValueError : PySem.W.nsIn K mainGlobals "ValueError" = some none)
    (z_int : PySem.W.nsIn K mainGlobals "int" = some none)
    (z_isinstance : PySem.W.nsIn K mainGlobals "isinstance" = some none)
    (z_len : PySem.W.nsIn K mainGlobals "len" = some none)
    (z_max : PySem.W.nsIn K mainGlobals "max" = some none)
    (z_min : PySem.W.nsIn K mainGlobals "min" = some none) :
    ∃ fd : FuncData, (∀ (s : Shared) (v : Value), BindsTo s fd ⟨[v], []⟩ [("_law_script", v)]) ∧ ∀ base : Heap, K.In base → base.Ns mainGlobals mg → FnOk l.prog w K mg base CX0 7 fa fd ["_law_script"] (spLaw K) := by
  have e := hfa.symm.trans (PySem.W.mg_of X G a15)
  cases e
  have tx : Txt K mg ⟨C_GaugeError, C_BadStretch, C_NoLevel, C_Apart, C_Stretch, f1, f2, f3, f4, f5, f6, f7, f8, f9, f10, f11, f12, f13, f14, fa⟩ := ⟨⟨⟨_, fun_mk (st := s_take) l1 c1 k1, (fun_mk (st := s_take) l1 c1 k1).binds (ps := ["_law_box_here", "_law_many"]) fun _ _ _ _ _ _ us hl => match us, hl with | [_, _], _ => rfl⟩, PySem.W.mg_of X G a1, k1⟩,
    ⟨⟨_, fun_mk (st := s_box) l2 c2 k2, (fun_mk (st := s_box) l2 c2 k2).binds (ps := ["_law_script", "_law_salt"]) fun _ _ _ _ _ _ us hl => match us, hl with | [_, _], _ => rfl⟩, PySem.W.mg_of X G a2, k2⟩,
    ⟨⟨_, fun_mk (st := s_span) l3 c3 k3, (fun_mk (st := s_span) l3 c3 k3).binds (ps := ["_law_box_here"]) fun _ _ _ _ _ _ us hl => match us, hl with | [_], _ => rfl⟩, PySem.W.mg_of X G a3, k3⟩,
    ⟨⟨_, fun_mk (st := s_moved) l4 c4 k4, (fun_mk (st := s_moved) l4 c4 k4).binds (ps := ["_law_box_here"]) fun _ _ _ _ _ _ us hl => match us, hl with | [_], _ => rfl⟩, PySem.W.mg_of X G a4, k4⟩,
    ⟨⟨_, fun_mk (st := s_pair) l5 c5 k5, (fun_mk (st := s_pair) l5 c5 k5).binds (ps := ["_law_box_here", "_law_span_here", "_law_moved_here"]) fun _ _ _ _ _ _ us hl => match us, hl with | [_, _, _], _ => rfl⟩, PySem.W.mg_of X G a5, k5⟩,
    ⟨_, fun_mk (st := s_NoLevel_init) l6 c6 k6, (fun_mk (st := s_NoLevel_init) l6 c6 k6).binds (ps := ["self"]) fun _ _ _ _ _ _ us hl => match us, hl with | [_], _ => rfl⟩,
    a6,
    ty_NoLevel,
    ⟨_, fun_mk (st := s_BadStretch_init) l7 c7 k7, (fun_mk (st := s_BadStretch_init) l7 c7 k7).binds (ps := ["self", "low", "high"]) fun _ _ _ _ _ _ us hl => match us, hl with | [_, _, _], _ => rfl⟩,
    a7,
    ty_BadStretch,
    ⟨_, fun_mk (st := s_Apart_init) l8 c8 k8, (fun_mk (st := s_Apart_init) l8 c8 k8).binds (ps := ["self", "first", "second"]) fun _ _ _ _ _ _ us hl => match us, hl with | [_, _, _], _ => rfl⟩,
    a8,
    ty_Apart,
    ⟨_, fun_mk (st := s_Stretch_init) l9 c9 k9, (fun_mk (st := s_Stretch_init) l9 c9 k9).binds (ps := ["self", "low", "high"]) fun _ _ _ _ _ _ us hl => match us, hl with | [_, _, _], _ => rfl⟩,
    ⟨mk_Stretch, a9, i9, kc_Stretch⟩,
    ⟨_, fun_mk (st := s_Stretch_eq) l10 c10 k10, (fun_mk (st := s_Stretch_eq) l10 c10 k10).binds (ps := ["self", "other"]) fun _ _ _ _ _ _ us hl => match us, hl with | [_, _], _ => rfl⟩,
    ⟨a10, i10, k10⟩,
    ⟨_, fun_mk (st := s_Stretch_and) l11 c11 k11, (fun_mk (st := s_Stretch_and) l11 c11 k11).binds (ps := ["self", "other"]) fun _ _ _ _ _ _ us hl => match us, hl with | [_, _], _ => rfl⟩,
    ⟨sf_Stretch, a11, i11⟩,
    ⟨a11, i11, k11⟩,
    ⟨_, fun_mk (st := s_Stretch_or) l12 c12 k12, (fun_mk (st := s_Stretch_or) l12 c12 k12).binds (ps := ["self", "other"]) fun _ _ _ _ _ _ us hl => match us, hl with | [_, _], _ => rfl⟩,
    ⟨sf_Stretch, a12, i12⟩,
    ⟨a12, i12, k12⟩,
    ⟨⟨_, fun_mk (st := s_met) l13 c13 k13, (fun_mk (st := s_met) l13 c13 k13).binds (ps := ["_law_one", "_law_two"]) fun _ _ _ _ _ _ us hl => match us, hl with | [_, _], _ => rfl⟩, PySem.W.mg_of X G a13, k13⟩,
    ⟨⟨_, fun_mk (st := s_base) l14 c14 k14, (fun_mk (st := s_base) l14 c14 k14).binds (ps := ["_law_one", "_law_two"]) fun _ _ _ _ _ _ us hl => match us, hl with | [_, _], _ => rfl⟩, PySem.W.mg_of X G a14, k14⟩,
    ⟨⟨_, fun_mk (st := s_law) l15 c15 k15, (fun_mk (st := s_law) l15 c15 k15).binds (ps := ["_law_script"]) fun _ _ _ _ _ _ us hl => match us, hl with | [_], _ => rfl⟩, PySem.W.mg_of X G a15, k15⟩,
    PySem.W.mg_of X G aC_GaugeError,
    ⟨PySem.W.mg_of X G aC_GaugeError, ge_ga, ge_rd, ge_at⟩,
    PySem.W.mg_of X G aC_BadStretch,
    ⟨⟨nmBadStretch, qBadStretch, NBadStretch, bsBadStretch, _, snBadStretch, subBadStretch, abBadStretch, colBadStretch, ddBadStretch, m0BadStretch, m1BadStretch, m2BadStretch, m3BadStretch, m5BadStretch, xL_BadStretch, by rfl⟩, xsa_BadStretch, xeC_BadStretch, xtC_BadStretch, xkC_BadStretch⟩,
    ⟨xga_BadStretch, xgg_BadStretch, xeC_BadStretch, xhC_BadStretch⟩,
    n_BadStretch_low,
    n_BadStretch_high,
    PySem.W.mg_of X G aC_NoLevel,
    ⟨⟨nmNoLevel, qNoLevel, NNoLevel, bsNoLevel, _, snNoLevel, subNoLevel, abNoLevel, colNoLevel, ddNoLevel, m0NoLevel, m1NoLevel, m2NoLevel, m3NoLevel, m5NoLevel, xL_NoLevel, by rfl⟩, xsa_NoLevel, xeC_NoLevel, xtC_NoLevel, xkC_NoLevel⟩,
    ⟨xga_NoLevel, xgg_NoLevel, xeC_NoLevel, xhC_NoLevel⟩,
    exm_of xeC_NoLevel xic_NoLevel xtC_NoLevel xs_NoLevel_NoLevel,
    PySem.W.mg_of X G aC_Apart,
    ⟨⟨nmApart, qApart, NApart, bsApart, _, snApart, subApart, abApart, colApart, ddApart, m0Apart, m1Apart, m2Apart, m3Apart, m5Apart, xL_Apart, by rfl⟩, xsa_Apart, xeC_Apart, xtC_Apart, xkC_Apart⟩,
    ⟨xga_Apart, xgg_Apart, xeC_Apart, xhC_Apart⟩,
    n_Apart_first,
    n_Apart_second,
    exm_of xeC_Apart xic_Apart xtC_Apart xs_Apart_Apart,
    exm_of xeC_NoLevel xic_NoLevel xtC_NoLevel xs_Apart_NoLevel,
    PySem.W.mg_of X G aC_Stretch,
    ⟨pg_Stretch, hd_Stretch, po_Stretch, sa_Stretch⟩,
    ⟨⟨pg_Stretch, hd_Stretch, po_Stretch, sa_Stretch⟩, cc_Stretch, oc_s, oc_t, mo_Stretch⟩,
    n_Stretch_low,
    n_Stretch_high,
    ⟨xga_Apart, xgg_Apart, xeC_Apart, xhC_Apart, xcc_Apart, oc_s, oc_t, xmo_Apart⟩,
    kit_own xic_BadStretch xtC_BadStretch xs_Apart_BadStretch (.inl xn_Apart_BadStretch),
    kit_own xic_GaugeError xtC_GaugeError xs_Apart_GaugeError (.inr rfl),
    kit_own xic_NoLevel xtC_NoLevel xs_Apart_NoLevel (.inr rfl),
    kit_blt (by decide +kernel) xs_Apart_ValueError,
    ⟨ne_Stretch, a10, i10, ob_Stretch⟩,
    ⟨cg_NoLevel, cr_NoLevel, ca_NoLevel, k6⟩,
    PySem.W.mg_none_of X G z_ValueError,
    PySem.W.mg_none_of X G z_int,
    PySem.W.mg_none_of X G z_isinstance,
    PySem.W.mg_none_of X G z_len,
    PySem.W.mg_none_of X G z_max,
    PySem.W.mg_none_of X G z_min⟩
  exact ⟨_, fun s v => .of_eq rfl, fun base _ _ => ok_law' tx (fun_mk (st := s_law) l15 c15 k15)⟩
theorem walk {l : PySem.W.OpenLaw} {q : Program} {loose : List Str} {XP : (Str → Option Value) → Heap → Prop} {YP : World → Heap → Prop} {d : DefRec} {K : Params → PySem.W.Frag} (hn : l.most = some 63) (hdf : d.params.defaults = [])
    (hY : ∀ (w : World) (h : Heap), YP w h → (K w.params).In h)
    (F : ∀ (w : World) (mg : Str → Option Value) (fa : Addr) (h : Heap), (K w.params).In h → h.Ns mainGlobals mg → mg d.name = some (.ref fa) →
      ∃ fd : FuncData, (∀ (s : Shared) (u : Value), BindsTo s fd ⟨[u], []⟩ [("_law_script", u)]) ∧ ∀ base : Heap, (K w.params).In base → base.Ns mainGlobals mg → FnOk l.prog w (K w.params) mg base CX0 7 fa fd ["_law_script"] (spLaw (K w.params))) :
    PySem.W.WalkO q loose XP YP l.row.toRowW d [] (fun f vs => PySem.call f vs) :=
  L2.walk_of (n := 63) (k := 7) (x := "_law_script") (CX := fun _ => CX0) (sp := fun w => spLaw (K w.params)) hn (by decide) hdf ⟨rfl, by decide, by decide⟩ hY F (fun _ _ a ns hl _ hS => ⟨a, ns, rfl, hS, hl, fun _ => rfl⟩) fun _ _ _ _ _ z => z
end Lw
open PySem PySem.W PyProof.Rows
set_option maxRecDepth 100000 in
set_option maxHeartbeats 0 in
theorem PySem.Challenge.cw_gaugemiss_k03_stretches_meet_holds : PySem.Challenge.rw_gaugemiss_k03_stretches_meet.Holds := by
  w_on; o_law; k_head; (case hw => w_witness2)
  k_fill
  refine Lw.walk (l := PySem.Challenge.rw_gaugemiss_k03_stretches_meet) rfl rfl (fun w h Y => PySem.W.kIn_of Y) ?F
  case F =>
    intro w mg fa h KX G hmg
    refine' Lw.all_mk KX G hmg ?aC_GaugeError ?aC_BadStretch ?aC_NoLevel ?aC_Apart ?aC_Stretch ?a1 ?l1 ?c1 ?k1 ?a2 ?l2 ?c2 ?k2 ?a3 ?l3 ?c3 ?k3 ?a4 ?l4 ?c4 ?k4 ?a5 ?l5 ?c5 ?k5 ?a6 ?i6 ?l6 ?c6 ?k6 ?ty_NoLevel ?a7 ?i7 ?l7 ?c7 ?k7 ?ty_BadStretch ?a8 ?i8 ?l8 ?c8 ?k8 ?ty_Apart ?a9 ?i9 ?l9 ?c9 ?k9 ?mk_Stretch ?kc_Stretch ?a10 ?i10 ?l10 ?c10 ?k10 ?a11 ?i11 ?l11 ?c11 ?k11 ?sf_Stretch ?a12 ?i12 ?l12 ?c12 ?k12 ?a13 ?l13 ?c13 ?k13 ?a14 ?l14 ?c14 ?k14 ?a15 ?l15 ?c15 ?k15 ?ge_ga ?ge_rd ?ge_at ?xL_BadStretch ?xsa_BadStretch ?xga_BadStretch ?xgg_BadStretch ?xkC_BadStretch ?xeC_BadStretch ?xtC_BadStretch ?xhC_BadStretch ?xic_BadStretch ?n_BadStretch_low ?n_BadStretch_high ?xL_NoLevel ?xsa_NoLevel ?xga_NoLevel ?xgg_NoLevel ?xkC_NoLevel ?xeC_NoLevel ?xtC_NoLevel ?xhC_NoLevel ?xic_NoLevel ?xs_NoLevel_NoLevel ?xL_Apart ?xsa_Apart ?xga_Apart ?xgg_Apart ?xkC_Apart ?xeC_Apart ?xtC_Apart ?xhC_Apart ?xic_Apart ?n_Apart_first ?n_Apart_second ?xs_Apart_Apart ?xs_Apart_NoLevel ?pg_Stretch ?hd_Stretch ?po_Stretch ?sa_Stretch ?cc_Stretch ?oc_s ?oc_t ?mo_Stretch ?n_Stretch_low ?n_Stretch_high ?xcc_Apart ?xmo_Apart ?xs_Apart_BadStretch ?xn_Apart_BadStretch ?xic_GaugeError ?xtC_GaugeError ?xs_Apart_GaugeError ?xs_Apart_ValueError ?ne_Stretch ?ob_Stretch ?cg_NoLevel ?cr_NoLevel ?ca_NoLevel ?z_ValueError ?z_int ?z_isinstance ?z_len ?z_max ?z_min
    (case aC_GaugeError => k_is)
    (case aC_BadStretch => k_is)
    (case aC_NoLevel => k_is)
    (case aC_Apart => k_is)
    (case aC_Stretch => k_is)
    (case a1 => k_is)
    (case l1 => k_is)
    (case c1 => k_is)
    (case k1 => k_is)
    (case a2 => k_is)
    (case l2 => k_is)
    (case c2 => k_is)
    (case k2 => k_is)
    (case a3 => k_is)
    (case l3 => k_is)
    (case c3 => k_is)
    (case k3 => k_is)
    (case a4 => k_is)
    (case l4 => k_is)
    (case c4 => k_is)
    (case k4 => k_is)
    (case a5 => k_is)
    (case l5 => k_is)
    (case c5 => k_is)
    (case k5 => k_is)
    (case a6 => k_is)
    (case i6 => k_is)
    (case l6 => k_is)
    (case c6 => k_is)
    (case k6 => k_is)
    (case ty_NoLevel => k_is)
    (case a7 => k_is)
    (case i7 => k_is)
    (case l7 => k_is)
    (case c7 => k_is)
    (case k7 => k_is)
    (case ty_BadStretch => k_is)
    (case a8 => k_is)
    (case i8 => k_is)
    (case l8 => k_is)
    (case c8 => k_is)
    (case k8 => k_is)
    (case ty_Apart => k_is)
    (case a9 => k_is)
    (case i9 => k_is)
    (case l9 => k_is)
    (case c9 => k_is)
    (case k9 => k_is)
    (case mk_Stretch => k_is)
    (case kc_Stretch => k_is)
    (case a10 => k_is)
    (case i10 => k_is)
    (case l10 => k_is)
    (case c10 => k_is)
    (case k10 => k_is)
    (case a11 => k_is)
    (case i11 => k_is)
    (case l11 => k_is)
    (case c11 => k_is)
    (case k11 => k_is)
    (case sf_Stretch => k_is)
    (case a12 => k_is)
    (case i12 => k_is)
    (case l12 => k_is)
    (case c12 => k_is)
    (case k12 => k_is)
    (case a13 => k_is)
    (case l13 => k_is)
    (case c13 => k_is)
    (case k13 => k_is)
    (case a14 => k_is)
    (case l14 => k_is)
    (case c14 => k_is)
    (case k14 => k_is)
    (case a15 => k_is)
    (case l15 => k_is)
    (case c15 => k_is)
    (case k15 => k_is)
    (case ge_ga => k_is)
    (case ge_rd => k_is)
    (case ge_at => k_is)
    (case xL_BadStretch => k_is)
    (case xsa_BadStretch => k_is)
    (case xga_BadStretch => k_is)
    (case xgg_BadStretch => k_is)
    (case xkC_BadStretch => k_is)
    (case xeC_BadStretch => k_is)
    (case xtC_BadStretch => k_is)
    (case xhC_BadStretch => k_is)
    (case xic_BadStretch => k_is)
    (case n_BadStretch_low => k_is)
    (case n_BadStretch_high => k_is)
    (case xL_NoLevel => k_is)
    (case xsa_NoLevel => k_is)
    (case xga_NoLevel => k_is)
    (case xgg_NoLevel => k_is)
    (case xkC_NoLevel => k_is)
    (case xeC_NoLevel => k_is)
    (case xtC_NoLevel => k_is)
    (case xhC_NoLevel => k_is)
    (case xic_NoLevel => k_is)
    (case xs_NoLevel_NoLevel => k_is)
    (case xL_Apart => k_is)
    (case xsa_Apart => k_is)
    (case xga_Apart => k_is)
    (case xgg_Apart => k_is)
    (case xkC_Apart => k_is)
    (case xeC_Apart => k_is)
    (case xtC_Apart => k_is)
    (case xhC_Apart => k_is)
    (case xic_Apart => k_is)
    (case n_Apart_first => k_is)
    (case n_Apart_second => k_is)
    (case xs_Apart_Apart => k_is)
    (case xs_Apart_NoLevel => k_is)
    (case pg_Stretch => k_is)
    (case hd_Stretch => k_is)
    (case po_Stretch => k_is)
    (case sa_Stretch => k_is)
    (case cc_Stretch => k_is)
    (case oc_s => k_is)
    (case oc_t => k_is)
    (case mo_Stretch => k_is)
    (case n_Stretch_low => k_is)
    (case n_Stretch_high => k_is)
    (case xcc_Apart => k_is)
    (case xmo_Apart => k_is)
    (case xs_Apart_BadStretch => k_is)
    (case xn_Apart_BadStretch => first | rfl | decide +kernel)
    (case xic_GaugeError => k_is)
    (case xtC_GaugeError => k_is)
    (case xs_Apart_GaugeError => k_is)
    (case xs_Apart_ValueError => k_is)
    (case ne_Stretch => k_is)
    (case ob_Stretch => k_is)
    (case cg_NoLevel => k_is)
    (case cr_NoLevel => k_is)
    (case ca_NoLevel => k_is)
    (case z_ValueError => k_is)
    (case z_int => k_is)
    (case z_isinstance => k_is)
    (case z_len => k_is)
    (case z_max => k_is)
    (case z_min => k_is)
