import PyProof.Rows.All
import Wide.All
import OpenK.AllK
import Wide.FinOn
import HandS.ForMost
import HandS.ForExc
import HandS.More
import HandS.IsInst
import HandS.Star
import HandS.ExcInit
import HandS.ExcField
import HandS.FStr
import HandS.ExcCtx
import HandS.SortInts
import KE.KOpsOwn
import HandS.ExcIs
import HandS.ClsMeth
import HandS.Property
import HandS.SortRule
import HandS.Strs
import HandS.SetBool
import HandS.Zip
import HandS.OwnEq
import HandS.TryMany
import HandS.Small
import HandS.Style
import KE.KRevSl
import KE.KSuper
import HandS.Defaults
import HandS.MakeKwOnly
import HandS.Flow
import HandS.Dict
import HandS.Conv
import KE.GoesZip
import KE.GoesMore
import HandS.DictComp
import KE.SortData
import HandS.Deep
import HandS.IterVal
import HandS.Head0
import HandS.Head1
import HandS.Head2
import HandS.HeadEnd
import HandS.HeadHook1
import HandS.HeadHook2
import HandS.HeadNt
import HandS.WordsDict
import KE.GoesRaise
import HandS.TupAny
import HandS.FStrTup
import HandS.Text
import HandS.SortKw
import KE.DatumOrd
import KE.KIndexOf
import PySem.Challenge.RW_gaugemiss_k87_whole_nine_names
set_option Elab.async false
set_option linter.all false
set_option maxRecDepth 100000
set_option maxHeartbeats 2000000
namespace G
open PySem L2
/-- the classes of the program -/
inductive Cn where
  | GaugeError | BadStretch | NoLevel | Apart | BadNeed | BadLiars | BadGauge | DuplicateGauge | UnknownGauge | MissingReading | BadRule | BadText | BadLine | SharedFault | BadPaper | NoBound
  | BadLimit | NoCase | NoTruth | NoTick | NotPossible | NothingToUndo | NothingToRedo | NotRanked | NoRule
  | Stretch | Levels | Gauge | CoarseGauge | LateGauge | LateCoarseGauge | Rack | Rule | Leaf | Rank | Trim | Weigh | Miss | Case | Twins | Keeper | Desk | SteadyDesk | Finder
  | other (n : Nat)
structure Bs where
  K : PySem.W.Frag
  cl : Cn → Addr
structure Wc where
  B : Bs
  mu : Addr → Prop
  box : Addr → Prop
def Wc.plus (W : Wc) (D : Addr) : Wc := ⟨W.B, fun a => W.mu a ∨ a = D, W.box⟩
def Kp (W : Wc) (H H' : Hp) : Prop := ∀ a o, ¬ W.mu a → H a = some o → H' a = some o
/-- the box of draws at b: its cells, the place, what is pending, the salt -/
def BoxAt (b : Addr) (H : Hp) : Prop := ∃ (c : Addr) (ns : List Int) (i p s : Int), b ≠ c ∧ H b = some (.lst [.ref c, .int i, .int p, .int s]) ∧ H c = some (.lst (ns.map V.int)) ∧ 0 ≤ i ∧ 0 ≤ p
/-- the core, what the changing objects are, and what is wished of errors that leave -/
structure Wd extends Wc where
  ok : Hp → Prop
  live : ∀ H a, ok H → mu a → ∃ o, H a = some o
  st : ∀ H p o, ok H → ¬ mu p → ok (upd H p o)
  wish : Hp → Prop
  wst : ∀ H H', (∀ a o, ¬ mu a → H a = some o → H' a = some o) → ok H' → wish H → wish H'
  hasbox : ∀ H b, ok H → box b → BoxAt b H
  boxset : ∀ H b c i p s i' p' s', ok H → box b → H b = some (.lst [.ref c, .int i, .int p, .int s]) → 0 ≤ i' → 0 ≤ p' → ok (upd H b (.lst [.ref c, .int i', .int p', .int s']))
  boxmu : ∀ b, box b → mu b
  oke : ∀ H H', ok H → (∀ a o, H a = some o → H' a = some o) → ok H'
instance : Coe Wd Wc := ⟨Wd.toWc⟩
structure Ext (W : Wd) (H H' : Hp) : Prop where
  keep : Kp W H H'
  ok : W.ok H'
theorem Ext.refl {W : Wd} {H : Hp} (h : W.ok H) : Ext W H H := ⟨fun _ _ _ e => e, h⟩
theorem Ext.trans {W : Wd} {H H1 H2 : Hp} (a : Ext W H H1) (b : Ext W H1 H2) : Ext W H H2 := ⟨fun c o n e => b.keep c o n (a.keep c o n e), b.ok⟩
theorem fresh_mu {W : Wd} {H : Hp} {p : Addr} (h : W.ok H) (n : H p = none) : ¬ W.mu p := fun m => by
  obtain ⟨o, e⟩ := W.live H p h m
  rw [n] at e
  cases e
theorem Ext.new {W : Wd} {H : Hp} {p : Addr} {o : HO} (h : W.ok H) (n : H p = none) : Ext W H (upd H p o) :=
  ⟨fun a u _ e => by rw [upd_ne (ne_of_none e n)]; exact e, W.st H p o h (fresh_mu h n)⟩
/-- the world where a new list at D, not there in H1, is kept apart: it holds xs -/
def Wd.plus (W : Wd) (D : Addr) (xs : List V) (H1 : Hp) (n : H1 D = none) (o1 : W.ok H1) (w1 : W.wish H1) : Wd where
  toWc := W.toWc.plus D
  ok := fun H => W.ok H ∧ H D = some (.lst xs)
  live := fun H a ⟨h, e⟩ m => by
    rcases m with m | m
    · exact W.live H a h m
    · subst m; exact ⟨_, e⟩
  st := fun H p o ⟨h, e⟩ m => ⟨W.st H p o h (fun z => m (.inl z)), by rw [upd_ne (fun z => m (.inr z.symm))]; exact e⟩
  wish := fun H => (∀ a o, ¬ W.mu a → H1 a = some o → H a = some o)
  wst := fun H H' k _ w a o m e => k a o (fun z => z.elim m fun z => by subst z; rw [n] at e; cases e) (w a o m e)
  hasbox := fun H b ⟨h, _⟩ hb => W.hasbox H b h hb
  boxset := fun H b c i p s i' p' s' ⟨h, e⟩ hb q h1 h2 => ⟨W.boxset H b c i p s i' p' s' h hb q h1 h2, by
    have z : D ≠ b := fun z => by
      subst z
      exact fresh_mu o1 n (W.boxmu _ hb)
    rw [upd_ne z]; exact e⟩
  boxmu := fun b hb => .inl (W.boxmu b hb)
  oke := fun H H' ⟨h, e⟩ k => ⟨W.oke H H' h k, k _ _ e⟩
/-- W' is W with more objects that change -/
structure Sub (W W' : Wd) : Prop where
  B : W'.B = W.B
  ok : ∀ H, W'.ok H → W.ok H
  wish : ∀ H, W'.ok H → W'.wish H → W.wish H
theorem Sub.refl (W : Wd) : Sub W W := ⟨rfl, fun _ h => h, fun _ _ h => h⟩
theorem Sub.trans {W W1 W2 : Wd} (a : Sub W W1) (b : Sub W1 W2) : Sub W W2 := ⟨b.B.trans a.B, fun H h => a.ok H (b.ok H h), fun H o h => a.wish H (b.ok H o) (b.wish H o h)⟩
theorem Sub.plus {W : Wd} {D : Addr} {xs : List V} {H1 : Hp} {n : H1 D = none} {o1 : W.ok H1} {w1 : W.wish H1} : Sub W (W.plus D xs H1 n o1 w1) :=
  ⟨rfl, fun _ h => h.1, fun H h w => W.wst H1 H w h.1 w1⟩
class Rep (α : Type) where
  dn : Wc → Hp → V → α → Prop
  mono : ∀ {W : Wc} {H H' : Hp} {v : V} {a : α}, Kp W H H' → dn W H v a → dn W H' v a
  grow : ∀ {W : Wc} {H : Hp} {v : V} {a : α} (D : Addr), H D = none → dn W H v a → dn (W.plus D) H v a
  shrink : ∀ {W : Wc} {H : Hp} {v : V} {a : α} (D : Addr), dn (W.plus D) H v a → dn W H v a
abbrev den {α : Type} [r : Rep α] (W : Wc) (H : Hp) (v : V) (a : α) : Prop := r.dn W H v a
inductive Dl {α : Type} (f : V → α → Prop) : List V → List α → Prop
  | nil : Dl f [] []
  | cons {v : V} {a : α} {vs : List V} {as : List α} : f v a → Dl f vs as → Dl f (v :: vs) (a :: as)
theorem Dl.imp {α : Type} {f g : V → α → Prop} (h : ∀ v a, f v a → g v a) : ∀ {vs : List V} {as : List α}, Dl f vs as → Dl g vs as
  | _, _, .nil => .nil
  | _, _, .cons x y => .cons (h _ _ x) (y.imp h)
theorem Dl.length {α : Type} {f : V → α → Prop} : ∀ {vs : List V} {as : List α}, Dl f vs as → vs.length = as.length
  | _, _, .nil => rfl
  | _, _, .cons _ y => congrArg (· + 1) y.length
theorem Dl.append {α : Type} {f : V → α → Prop} : ∀ {vs ws : List V} {as bs : List α}, Dl f vs as → Dl f ws bs → Dl f (vs ++ ws) (as ++ bs)
  | _, _, _, _, .nil, h => h
  | _, _, _, _, .cons x y, h => .cons x (y.append h)
theorem Dl.at {α : Type} {f : V → α → Prop} : ∀ {vs : List V} {as : List α} {i : Nat} {v : V}, Dl f vs as → vs[i]? = some v → ∃ a, as[i]? = some a ∧ f v a
  | _, _, _, _, .nil, h => by simp at h
  | _, _, 0, _, .cons x y, h => ⟨_, rfl, by simp at h; subst h; exact x⟩
  | _, _, i + 1, _, .cons x y, h => by
    obtain ⟨a, h1, h2⟩ := Dl.at (i := i) y (by simpa using h)
    exact ⟨a, by simpa using h1, h2⟩
theorem Dl.at' {α : Type} {f : V → α → Prop} : ∀ {vs : List V} {as : List α} {i : Nat} {a : α}, Dl f vs as → as[i]? = some a → ∃ v, vs[i]? = some v ∧ f v a
  | _, _, _, _, .nil, h => by simp at h
  | _, _, 0, _, .cons x y, h => ⟨_, rfl, by simp at h; subst h; exact x⟩
  | _, _, i + 1, _, .cons x y, h => by
    obtain ⟨a, h1, h2⟩ := Dl.at' (i := i) y (by simpa using h)
    exact ⟨a, by simpa using h1, h2⟩
theorem Dl.ints {vs : List V} {as : List Int} (h : Dl (fun v (a : Int) => v = .int a) vs as) : vs = as.map V.int := by
  induction h with
  | nil => rfl
  | cons x _ ih => rw [x, ih]; rfl
theorem Dl.of_ints : ∀ as : List Int, Dl (fun v (a : Int) => v = .int a) (as.map V.int) as
  | [] => .nil
  | _ :: r => .cons rfl (Dl.of_ints r)
/-- a list that does not change now; a tuple: tracked, or of the written part -/
def Lq (W : Wc) (H : Hp) (p : Addr) (vs : List V) : Prop := ¬ W.mu p ∧ H p = some (.lst vs)
def Tq (W : Wc) (H : Hp) (p : Addr) (vs : List V) : Prop := ¬ W.mu p ∧ H p = some (.tup vs)
theorem Lq.sq {W : Wc} {H : Hp} {p : Addr} {vs : List V} (h : Lq W H p vs) : SqL W.B.K H p vs := .inl (.inl h.2)
theorem Tq.sq {W : Wc} {H : Hp} {p : Addr} {vs : List V} (h : Tq W H p vs) : SqT W.B.K H p vs := .inl (.inl h.2)
theorem Lq.mono {W : Wc} {H H' : Hp} {p : Addr} {vs : List V} (e : Kp W H H') (h : Lq W H p vs) : Lq W H' p vs := ⟨h.1, e _ _ h.1 h.2⟩
theorem Tq.mono {W : Wc} {H H' : Hp} {p : Addr} {vs : List V} (e : Kp W H H') (h : Tq W H p vs) : Tq W H' p vs := ⟨h.1, e _ _ h.1 h.2⟩
theorem mu_grow {W : Wc} {H : Hp} {p D : Addr} {o : HO} (n : H D = none) (m : ¬ W.mu p) (h : H p = some o) : ¬ (W.plus D).mu p := fun z => z.elim m fun z => by
  subst z
  rw [n] at h
  cases h
theorem Lq.grow {W : Wc} {H : Hp} {p : Addr} {vs : List V} (D : Addr) (n : H D = none) (h : Lq W H p vs) : Lq (W.plus D) H p vs := ⟨mu_grow n h.1 h.2, h.2⟩
theorem Tq.grow {W : Wc} {H : Hp} {p : Addr} {vs : List V} (D : Addr) (n : H D = none) (h : Tq W H p vs) : Tq (W.plus D) H p vs := ⟨mu_grow n h.1 h.2, h.2⟩
theorem Lq.shrink {W : Wc} {H : Hp} {p : Addr} {vs : List V} (D : Addr) (h : Lq (W.plus D) H p vs) : Lq W H p vs := ⟨fun z => h.1 (.inl z), h.2⟩
theorem Tq.shrink {W : Wc} {H : Hp} {p : Addr} {vs : List V} (D : Addr) (h : Tq (W.plus D) H p vs) : Tq W H p vs := ⟨fun z => h.1 (.inl z), h.2⟩
theorem Lq.new {W : Wc} {H : Hp} {p : Addr} {vs : List V} (m : ¬ W.mu p) (h : H p = some (.lst vs)) : Lq W H p vs := ⟨m, h⟩
theorem Tq.new {W : Wc} {H : Hp} {p : Addr} {vs : List V} (m : ¬ W.mu p) (h : H p = some (.tup vs)) : Tq W H p vs := ⟨m, h⟩
instance : Rep Int := ⟨fun _ _ v a => v = .int a, fun _ h => h, fun _ _ h => h, fun _ h => h⟩
instance : Rep Bool := ⟨fun _ _ v a => v = .bl a, fun _ h => h, fun _ _ h => h, fun _ h => h⟩
instance : Rep Str := ⟨fun _ _ v a => v = .str a, fun _ h => h, fun _ _ h => h, fun _ h => h⟩
instance : Rep Unit := ⟨fun _ _ v _ => v = .non, fun _ h => h, fun _ _ h => h, fun _ h => h⟩
instance {α β : Type} [Rep α] [Rep β] : Rep (α × β) :=
  ⟨fun W H v a => ∃ p x y, v = .ref p ∧ Tq W H p [x, y] ∧ den W H x a.1 ∧ den W H y a.2,
   fun e ⟨p, x, y, hv, s, h1, h2⟩ => ⟨p, x, y, hv, s.mono e, Rep.mono e h1, Rep.mono e h2⟩,
   fun D n ⟨p, x, y, hv, s, h1, h2⟩ => ⟨p, x, y, hv, s.grow D n, Rep.grow D n h1, Rep.grow D n h2⟩,
   fun D ⟨p, x, y, hv, s, h1, h2⟩ => ⟨p, x, y, hv, s.shrink D, Rep.shrink D h1, Rep.shrink D h2⟩⟩
/-- a tuple of three -/
structure T3 (α β γ : Type) where
  a : α
  b : β
  c : γ
instance {α β γ : Type} [Rep α] [Rep β] [Rep γ] : Rep (T3 α β γ) :=
  ⟨fun W H v t => ∃ p x y z, v = .ref p ∧ Tq W H p [x, y, z] ∧ den W H x t.a ∧ den W H y t.b ∧ den W H z t.c,
   fun e ⟨p, x, y, z, hv, s, h1, h2, h3⟩ => ⟨p, x, y, z, hv, s.mono e, Rep.mono e h1, Rep.mono e h2, Rep.mono e h3⟩,
   fun D n ⟨p, x, y, z, hv, s, h1, h2, h3⟩ => ⟨p, x, y, z, hv, s.grow D n, Rep.grow D n h1, Rep.grow D n h2, Rep.grow D n h3⟩,
   fun D ⟨p, x, y, z, hv, s, h1, h2, h3⟩ => ⟨p, x, y, z, hv, s.shrink D, Rep.shrink D h1, Rep.shrink D h2, Rep.shrink D h3⟩⟩
instance {α : Type} [Rep α] : Rep (List α) :=
  ⟨fun W H v as => ∃ p vs, v = .ref p ∧ Lq W H p vs ∧ Dl (den W H) vs as,
   fun e ⟨p, vs, hv, s, h⟩ => ⟨p, vs, hv, s.mono e, h.imp fun _ _ x => Rep.mono e x⟩,
   fun D n ⟨p, vs, hv, s, h⟩ => ⟨p, vs, hv, s.grow D n, h.imp fun _ _ x => Rep.grow D n x⟩,
   fun D ⟨p, vs, hv, s, h⟩ => ⟨p, vs, hv, s.shrink D, h.imp fun _ _ x => Rep.shrink D x⟩⟩
/-- the box of draws: an object that changes -/
structure Bx where
instance : Rep Bx := ⟨fun W _ v _ => ∃ b, v = .ref b ∧ W.box b, fun _ h => h, fun _ _ h => h, fun _ h => h⟩
structure Ty where
  α : Type
  r : Rep α
  a : α
abbrev T {α : Type} [r : Rep α] (a : α) : Ty := ⟨α, r, a⟩
def Ty.den (W : Wc) (H : Hp) (v : V) (t : Ty) : Prop := t.r.dn W H v t.a
theorem Ty.mono {W : Wc} {H H' : Hp} {v : V} {t : Ty} (e : Kp W H H') (h : t.den W H v) : t.den W H' v := t.r.mono e h
abbrev Gam := List (Option Ty)
structure GOk (W : Wd) (H : Hp) (σ : St) (Γ : Gam) : Prop where
  ok : W.ok H
  wish : W.wish H
  at_ : ∀ (i : Nat) (t : Ty), Γ[i]? = some (some t) → ∃ v, σ[i]? = some (some v) ∧ t.den W H v
  len : σ.length = Γ.length
theorem GOk.ext {W : Wd} {H H' : Hp} {σ : St} {Γ : Gam} (E : GOk W H σ Γ) (e : Ext W H H') : GOk W H' σ Γ :=
  ⟨e.ok, W.wst _ _ e.keep e.ok E.wish, fun i t h => let ⟨v, h1, h2⟩ := E.at_ i t h; ⟨v, h1, Ty.mono e.keep h2⟩, E.len⟩
theorem GOk.set {W : Wd} {H : Hp} {σ : St} {Γ : Gam} (E : GOk W H σ Γ) (i : Nat) {v : V} {t : Ty} (h : t.den W H v) : GOk W H (σ.set i (some v)) (Γ.set i (some t)) := by
  refine ⟨E.ok, E.wish, fun j u hj => ?_, by rw [List.length_set, List.length_set]; exact E.len⟩
  by_cases e : i = j
  · subst e
    have hl : i < Γ.length := by
      have := (List.getElem?_eq_some_iff.mp hj).1
      rwa [List.length_set] at this
    rw [List.getElem?_set_self hl] at hj
    cases hj
    exact ⟨v, List.getElem?_set_self (by rw [E.len]; exact hl), h⟩
  · rw [List.getElem?_set_ne e] at hj
    rw [List.getElem?_set_ne e]
    exact E.at_ j u hj
theorem GOk.unset {W : Wd} {H : Hp} {σ : St} {Γ : Gam} (E : GOk W H σ Γ) (i : Nat) : GOk W H (σ.set i none) (Γ.set i none) := by
  refine ⟨E.ok, E.wish, fun j u hj => ?_, by rw [List.length_set, List.length_set]; exact E.len⟩
  by_cases e : i = j
  · subst e
    have hl : i < Γ.length := by
      have := (List.getElem?_eq_some_iff.mp hj).1
      rwa [List.length_set] at this
    rw [List.getElem?_set_self hl] at hj
    cases hj
  · rw [List.getElem?_set_ne e] at hj
    rw [List.getElem?_set_ne e]
    exact E.at_ j u hj
def wipeE (Γ : Gam) : List Nat → Gam
  | [] => Γ
  | i :: r => (wipeE Γ r).set i none
theorem GOk.wipe {W : Wd} {H : Hp} {σ : St} {Γ : Gam} (E : GOk W H σ Γ) : ∀ vs : List Nat, GOk W H (wipe σ vs) (wipeE Γ vs)
  | [] => E
  | i :: r => (E.wipe r).unset i
def EvK {α : Type} [Rep α] (W : Wd) (te : TE) (Γ : Gam) (k : α → Prop) : Prop :=
  ∀ σ H (Q : VK), GOk W H σ Γ → (∀ v H' (a : α), Ext W H H' → den W H' v a → k a → Q v H') → te σ H Q
def EvT (W : Wd) (tt : TT) (Γ : Gam) (k : Bool → Prop) : Prop :=
  ∀ σ H (Q : Bool → Hp → Prop), GOk W H σ Γ → (∀ H' b, Ext W H H' → k b → Q b H') → tt σ H Q
/-- arguments: a list of typed data -/
inductive DT (W : Wc) (H : Hp) : List V → List Ty → Prop
  | nil : DT W H [] []
  | cons {v : V} {t : Ty} {vs : List V} {ts : List Ty} : t.den W H v → DT W H vs ts → DT W H (v :: vs) (t :: ts)
theorem DT.mono {W : Wc} {H H' : Hp} (e : Kp W H H') : ∀ {vs : List V} {ts : List Ty}, DT W H vs ts → DT W H' vs ts
  | _, _, .nil => .nil
  | _, _, .cons x y => .cons (Ty.mono e x) (y.mono e)
theorem DT.length {W : Wc} {H : Hp} : ∀ {vs : List V} {ts : List Ty}, DT W H vs ts → vs.length = ts.length
  | _, _, .nil => rfl
  | _, _, .cons _ y => congrArg (· + 1) y.length
def EvA (W : Wd) (ta : TA) (Γ : Gam) (k : List Ty → Prop) : Prop :=
  ∀ σ H (Q : List V → Hp → Prop), GOk W H σ Γ → (∀ vs H' ts, Ext W H H' → DT W H' vs ts → k ts → Q vs H') → ta σ H Q
section
variable {W : Wd} {Γ : Gam} {ta tb tc te : TE} {tt tu : TT}
theorem EvK.imp {α : Type} {rα : Rep α} {k k' : α → Prop} (h : EvK W te Γ k) (i : ∀ a, k a → k' a) : EvK W te Γ k' :=
  fun σ H Q E q => h σ H Q E fun v H' a e d z => q v H' a e d (i a z)
theorem ev_var {α : Type} {r : Rep α} {i : Nat} {a : α} {k : α → Prop} (h : Γ[i]? = some (some (T a))) (q : k a) : EvK W (tVar i) Γ k := fun σ H Q E c => by
  obtain ⟨v, h1, h2⟩ := E.at_ i _ h
  exact ⟨v, h1, c v H a (Ext.refl E.ok) h2 q⟩
theorem ev_int {i : Int} {k : Int → Prop} (q : k i) : EvK W (tC (.int i)) Γ k := fun σ H Q E c => c _ H i (Ext.refl E.ok) rfl q
theorem ev_bl {i : Bool} {k : Bool → Prop} (q : k i) : EvK W (tC (.bl i)) Γ k := fun σ H Q E c => c _ H i (Ext.refl E.ok) rfl q
theorem ev_str {i : Str} {k : Str → Prop} (q : k i) : EvK W (tC (.str i)) Γ k := fun σ H Q E c => c _ H i (Ext.refl E.ok) rfl q
theorem ev_non {k : Unit → Prop} (q : k ()) : EvK W (tC .non) Γ k := fun σ H Q E c => c _ H () (Ext.refl E.ok) rfl q
/-- two parts, one behind the other -/
theorem ev_two {α β γ : Type} {rα : Rep α} {rβ : Rep β} {rγ : Rep γ} {r : R2} {k : γ → Prop}
    (h : EvK W ta Γ fun a : α => EvK W tb Γ fun b : β => ∀ x y H (Q : VK), W.ok H → den W H x a → den W H y b → (∀ v H' (c : γ), Ext W H H' → den W H' v c → k c → Q v H') → r x y H Q) : EvK W (tOp r ta tb) Γ k := fun σ H Q E c =>
  h σ H _ E fun x H1 a e1 d1 h1 => h1 σ H1 _ (E.ext e1) fun y H2 b e2 d2 h2 => h2 x y H2 Q e2.ok (Rep.mono e2.keep d1) d2 fun v H3 a3 e3 d3 z => c v H3 a3 ((e1.trans e2).trans e3) d3 z
theorem ev_opI {f : Int → Int → Int} {k : Int → Prop} (h : EvK W ta Γ fun i : Int => EvK W tb Γ fun j : Int => k (f i j)) : EvK W (tOp (rI0 fun i j => .int (f i j)) ta tb) Γ k :=
  ev_two (h.imp fun i hi => hi.imp fun j hj x y H Q o dx dy c => ⟨i, j, dx, dy, c _ H _ (Ext.refl o) rfl hj⟩)
theorem ev_opB {f : Int → Int → Bool} {k : Bool → Prop} (h : EvK W ta Γ fun i : Int => EvK W tb Γ fun j : Int => k (f i j)) : EvK W (tOp (rI0 fun i j => .bl (f i j)) ta tb) Γ k :=
  ev_two (h.imp fun i hi => hi.imp fun j hj x y H Q o dx dy c => ⟨i, j, dx, dy, c _ H _ (Ext.refl o) rfl hj⟩)
theorem ev_opC {C : Int → Int → Prop} {f : Int → Int → Int} {k : Int → Prop} (h : EvK W ta Γ fun i : Int => EvK W tb Γ fun j : Int => C i j ∧ k (f i j)) : EvK W (tOp (rI C fun i j => .int (f i j)) ta tb) Γ k :=
  ev_two (h.imp fun i hi => hi.imp fun j hj x y H Q o dx dy c => ⟨i, j, dx, dy, hj.1, c _ H _ (Ext.refl o) rfl hj.2⟩)
theorem ev_unI {f : Int → Int} {k : Int → Prop} (h : EvK W ta Γ fun i : Int => k (f i)) : EvK W (tUn (rU fun i => .int (f i)) ta) Γ k := fun σ H Q E c =>
  h σ H _ E fun x H1 i e1 d1 h1 => ⟨i, d1, c _ H1 _ e1 rfl h1⟩
theorem ev_if {α : Type} {rα : Rep α} {k : α → Prop} (h : EvT W tt Γ fun b => (b = true → EvK W ta Γ k) ∧ (b = false → EvK W tb Γ k)) : EvK W (tIf tt ta tb) Γ k := fun σ H Q E c =>
  h σ H _ E fun H1 b e1 ⟨h1, h2⟩ => by
    cases b with
    | true => exact h1 rfl σ H1 Q (E.ext e1) fun v H2 a e2 d z => c v H2 a (e1.trans e2) d z
    | false => exact h2 rfl σ H1 Q (E.ext e1) fun v H2 a e2 d z => c v H2 a (e1.trans e2) d z
theorem ev_andV {k : Bool → Prop} (h : EvK W ta Γ fun a : Bool => (a = true → EvK W tb Γ k) ∧ (a = false → k false)) : EvK W (tAndV ta tb) Γ k := fun σ H Q E c =>
  h σ H _ E fun x H1 a e1 d1 ⟨h1, h2⟩ => ⟨a, d1, by
    cases a with
    | true => exact h1 rfl σ H1 Q (E.ext e1) fun v H2 a e2 d z => c v H2 a (e1.trans e2) d z
    | false => exact c _ H1 false e1 rfl (h2 rfl)⟩
theorem ev_orV {k : Bool → Prop} (h : EvK W ta Γ fun a : Bool => (a = true → k true) ∧ (a = false → EvK W tb Γ k)) : EvK W (tOrV ta tb) Γ k := fun σ H Q E c =>
  h σ H _ E fun x H1 a e1 d1 ⟨h1, h2⟩ => ⟨a, d1, by
    cases a with
    | true => exact c _ H1 true e1 rfl (h1 rfl)
    | false => exact h2 rfl σ H1 Q (E.ext e1) fun v H2 a e2 d z => c v H2 a (e1.trans e2) d z⟩
theorem ev_notV {k : Bool → Prop} (h : EvK W ta Γ fun a : Bool => k (!a)) : EvK W (tNotV ta) Γ k := fun σ H Q E c =>
  h σ H _ E fun x H1 a e1 d1 h1 => ⟨a, d1, c _ H1 _ e1 rfl h1⟩
theorem et_test {k : Bool → Prop} (h : EvK W te Γ k) : EvT W (tTest te) Γ k := fun σ H Q E c => h σ H _ E fun v H1 b e1 d z => ⟨b, d, c H1 b e1 z⟩
theorem et_B {k : Bool → Prop} (h : EvK W te Γ k) : EvT W (tB te) Γ k := fun σ H Q E c => h σ H _ E fun v H1 b e1 d z => ⟨b, d, c H1 b e1 z⟩
theorem et_not {k : Bool → Prop} (h : EvT W tt Γ fun b => k (!b)) : EvT W (tNot tt) Γ k := fun σ H Q E c => h σ H _ E fun H1 b e1 z => c H1 _ e1 z
theorem et_and {k : Bool → Prop} (h : EvT W tt Γ fun a => (a = true → EvT W tu Γ k) ∧ (a = false → k false)) : EvT W (tAnd tt tu) Γ k := fun σ H Q E c =>
  h σ H _ E fun H1 a e1 ⟨h1, h2⟩ => by
    cases a with
    | true => exact h1 rfl σ H1 Q (E.ext e1) fun H2 b e2 z => c H2 b (e1.trans e2) z
    | false => exact c H1 false e1 (h2 rfl)
theorem et_or {k : Bool → Prop} (h : EvT W tt Γ fun a => (a = true → k true) ∧ (a = false → EvT W tu Γ k)) : EvT W (tOr tt tu) Γ k := fun σ H Q E c =>
  h σ H _ E fun H1 a e1 ⟨h1, h2⟩ => by
    cases a with
    | true => exact c H1 true e1 (h1 rfl)
    | false => exact h2 rfl σ H1 Q (E.ext e1) fun H2 b e2 z => c H2 b (e1.trans e2) z
theorem et_yes {k : Bool → Prop} (q : k true) : EvT W tYes Γ k := fun σ H Q E c => c H true (Ext.refl E.ok) q
theorem ea_nil {k : List Ty → Prop} (q : k []) : EvA W tNil Γ k := fun σ H Q E c => c [] H [] (Ext.refl E.ok) .nil q
theorem ea_cons {α : Type} {rα : Rep α} {tr : TA} {k : List Ty → Prop} (h : EvK W te Γ fun a : α => EvA W tr Γ fun ts => k (T a :: ts)) : EvA W (tCons te tr) Γ k := fun σ H Q E c =>
  h σ H _ E fun v H1 a e1 d h1 => h1 σ H1 _ (E.ext e1) fun vs H2 ts e2 ds z => c (v :: vs) H2 _ (e1.trans e2) (.cons (Ty.mono (t := T a) e2.keep d) ds) z
theorem ev_tup2 {α β : Type} {rα : Rep α} {rβ : Rep β} {k : α × β → Prop} (h : EvK W ta Γ fun a : α => EvK W tb Γ fun b : β => k (a, b)) : EvK W (tTup (tCons ta (tCons tb tNil))) Γ k := fun σ H Q E c =>
  h σ H _ E fun x H1 a e1 d1 h1 => h1 σ H1 _ (E.ext e1) fun y H2 b e2 d2 z => ⟨by show 2 ≤ sizeLine; decide, fun p hp =>
    have e3 := Ext.new (o := .tup [x, y]) e2.ok hp
    c _ _ (a, b) ((e1.trans e2).trans e3) ⟨p, x, y, rfl, Tq.new (fresh_mu e2.ok hp) upd_same, Rep.mono (e2.trans e3).keep d1, Rep.mono e3.keep d2⟩ z⟩
theorem ev_tup3 {α β γ : Type} {rα : Rep α} {rβ : Rep β} {rγ : Rep γ} {k : T3 α β γ → Prop} (h : EvK W ta Γ fun a : α => EvK W tb Γ fun b : β => EvK W tc Γ fun c : γ => k ⟨a, b, c⟩) : EvK W (tTup (tCons ta (tCons tb (tCons tc tNil)))) Γ k := fun σ H Q E c =>
  h σ H _ E fun x H1 a e1 d1 h1 => h1 σ H1 _ (E.ext e1) fun y H2 b e2 d2 h2 => h2 σ H2 _ ((E.ext e1).ext e2) fun u H3 b3 e3 d3 z => ⟨by show 3 ≤ sizeLine; decide, fun p hp =>
    have e4 := Ext.new (o := .tup [x, y, u]) e3.ok hp
    c _ _ ⟨a, b, b3⟩ (((e1.trans e2).trans e3).trans e4) ⟨p, x, y, u, rfl, Tq.new (fresh_mu e3.ok hp) upd_same, Rep.mono ((e2.trans e3).trans e4).keep d1, Rep.mono (e3.trans e4).keep d2, Rep.mono e4.keep d3⟩ z⟩
/-- items of a display, all of one kind -/
def EvL {α : Type} [Rep α] (W : Wd) (ta : TA) (Γ : Gam) (k : List α → Prop) : Prop :=
  ∀ σ H (Q : List V → Hp → Prop), GOk W H σ Γ → (∀ vs H' as, Ext W H H' → Dl (den W H') vs as → k as → Q vs H') → ta σ H Q
theorem el_nil {α : Type} {rα : Rep α} {k : List α → Prop} (q : k []) : EvL W tNil Γ k := fun σ H Q E c => c [] H [] (Ext.refl E.ok) .nil q
theorem el_cons {α : Type} {rα : Rep α} {tr : TA} {k : List α → Prop} (h : EvK W te Γ fun a : α => EvL W tr Γ fun as => k (a :: as)) : EvL W (tCons te tr) Γ k := fun σ H Q E c =>
  h σ H _ E fun v H1 a e1 d h1 => h1 σ H1 _ (E.ext e1) fun vs H2 as e2 ds z => c (v :: vs) H2 _ (e1.trans e2) (.cons (Rep.mono e2.keep d) ds) z
theorem ev_lst {α : Type} {rα : Rep α} {t : TA} {k : List α → Prop} (h : EvL W t Γ fun as => as.length ≤ 100000 ∧ k as) : EvK W (tLst t) Γ k := fun σ H Q E c =>
  h σ H _ E fun vs H1 as e1 ds ⟨hl, z⟩ => ⟨Nat.le_trans (by rw [ds.length]; exact hl) (by decide : 100000 ≤ sizeLine), fun p hp =>
    have e2 := Ext.new (o := .lst vs) e1.ok hp
    c _ _ as (e1.trans e2) ⟨p, vs, rfl, Lq.new (fresh_mu e1.ok hp) upd_same, ds.imp fun _ _ d => Rep.mono e2.keep d⟩ z⟩
end
class Dat (α : Type) [Rep α] where
  toD : α → PyData
  dp : ∀ {W : Wc} {H : Hp} {v : V} {a : α}, den W H v a → Dp W.B.K H v (toD a)
  dep : Nat
  ddep : ∀ a : α, (toD a).depth ≤ dep
  inj : ∀ a b : α, PyData.eqv (toD a) (toD b) = true ↔ a = b
  good : α → Prop
  gshp : ∀ a : α, good a → (toD a).canLay0 = true
instance : Dat Int := ⟨fun i => .int i, fun h => by cases h; exact .int _, 0, fun _ => Nat.le_refl 0, fun a b => by show (a == b) = true ↔ a = b; exact beq_iff_eq, fun _ => True, fun _ _ => rfl⟩
instance : Dat Bool := ⟨fun i => .bool i, fun h => by cases h; exact .bl _, 0, fun _ => Nat.le_refl 0, fun a b => by show (a == b) = true ↔ a = b; exact beq_iff_eq, fun _ => True, fun _ _ => rfl⟩
instance : Dat Str := ⟨fun i => .str i, fun h => by cases h; exact .str _, 0, fun _ => Nat.le_refl 0, fun a b => by show (a == b) = true ↔ a = b; exact beq_iff_eq, fun x => (PyData.str x).canLay0 = true, fun _ h => h⟩
instance : Dat Unit := ⟨fun _ => .none, fun h => by cases h; exact .non, 0, fun _ => Nat.le_refl 0, fun a b => ⟨fun _ => rfl, fun _ => rfl⟩, fun _ => True, fun _ _ => rfl⟩
theorem eqv2 (a b c d : PyData) : PyData.eqv (.tuple [a, b]) (.tuple [c, d]) = (PyData.eqv a c && PyData.eqv b d) := by
  show (PyData.eqv a c && (PyData.eqv b d && true)) = _
  rw [Bool.and_true]
theorem eqv3 (a b c d e f : PyData) : PyData.eqv (.tuple [a, b, e]) (.tuple [c, d, f]) = (PyData.eqv a c && (PyData.eqv b d && PyData.eqv e f)) := by
  show (PyData.eqv a c && (PyData.eqv b d && (PyData.eqv e f && true))) = _
  rw [Bool.and_true]
instance {α β : Type} [Rep α] [Rep β] [Dat α] [Dat β] : Dat (α × β) where
  toD := fun x => .tuple [Dat.toD x.1, Dat.toD x.2]
  dp := fun ⟨p, x, y, hv, s, h1, h2⟩ => by
    subst hv
    exact .tup s.sq (.cons (Dat.dp h1) (.cons (Dat.dp h2) .nil))
  dep := max (Dat.dep α) (Dat.dep β) + 1
  ddep := fun x => by
    have h1 := Dat.ddep x.1
    have h2 := Dat.ddep x.2
    show max (Dat.toD x.1).depth (max (Dat.toD x.2).depth 0) + 1 ≤ _
    omega
  inj := fun x y => by
    rw [eqv2, Bool.and_eq_true, Dat.inj, Dat.inj]
    exact ⟨fun h => Prod.ext h.1 h.2, fun h => by rw [h]; exact ⟨rfl, rfl⟩⟩
  good := fun x => Dat.good x.1 ∧ Dat.good x.2
  gshp := fun x h => by
    have h1 := Dat.gshp _ h.1
    have h2 := Dat.gshp _ h.2
    show ((Dat.toD x.1).canLay0 && ((Dat.toD x.2).canLay0 && true)) = true
    rw [h1, h2]
    rfl
instance {α β γ : Type} [Rep α] [Rep β] [Rep γ] [Dat α] [Dat β] [Dat γ] : Dat (T3 α β γ) where
  toD := fun x => .tuple [Dat.toD x.a, Dat.toD x.b, Dat.toD x.c]
  dp := fun ⟨p, x, y, z, hv, s, h1, h2, h3⟩ => by
    subst hv
    exact .tup s.sq (.cons (Dat.dp h1) (.cons (Dat.dp h2) (.cons (Dat.dp h3) .nil)))
  dep := max (Dat.dep α) (max (Dat.dep β) (Dat.dep γ)) + 1
  ddep := fun x => by
    have h1 := Dat.ddep x.a
    have h2 := Dat.ddep x.b
    have h3 := Dat.ddep x.c
    show max (Dat.toD x.a).depth (max (Dat.toD x.b).depth (max (Dat.toD x.c).depth 0)) + 1 ≤ _
    omega
  inj := fun x y => by
    rw [eqv3, Bool.and_eq_true, Bool.and_eq_true, Dat.inj, Dat.inj, Dat.inj]
    cases x; cases y
    exact ⟨fun h => by obtain ⟨h1, h2, h3⟩ := h; cases h1; cases h2; cases h3; rfl, fun h => by cases h; exact ⟨rfl, rfl, rfl⟩⟩
  good := fun x => Dat.good x.a ∧ Dat.good x.b ∧ Dat.good x.c
  gshp := fun x h => by
    have h1 := Dat.gshp _ h.1
    have h2 := Dat.gshp _ h.2.1
    have h3 := Dat.gshp _ h.2.2
    show ((Dat.toD x.a).canLay0 && ((Dat.toD x.b).canLay0 && ((Dat.toD x.c).canLay0 && true))) = true
    rw [h1, h2, h3]
    rfl
theorem dpAll {α : Type} [Rep α] [Dat α] {W : Wc} {H : Hp} : ∀ {vs : List V} {as : List α}, Dl (den W H) vs as → DpAll W.B.K H vs (as.map Dat.toD)
  | _, _, .nil => .nil
  | _, _, .cons x y => .cons (Dat.dp x) (dpAll y)
theorem depAll {α : Type} [Rep α] [Dat α] : ∀ as : List α, PyData.depthAll (as.map Dat.toD) ≤ Dat.dep α
  | [] => Nat.zero_le _
  | a :: r => by
    have h1 := Dat.ddep a
    have h2 := depAll r
    show max (Dat.toD a).depth (PyData.depthAll (r.map Dat.toD)) ≤ _
    omega
theorem injAll {α : Type} [Rep α] [Dat α] : ∀ as bs : List α, PyData.eqvAll (as.map Dat.toD) (bs.map Dat.toD) = true ↔ as = bs
  | [], [] => ⟨fun _ => rfl, fun _ => rfl⟩
  | [], _ :: _ => ⟨fun h => Bool.noConfusion h, fun h => nomatch h⟩
  | _ :: _, [] => ⟨fun h => Bool.noConfusion h, fun h => nomatch h⟩
  | a :: r, b :: s => by
    show (PyData.eqv (Dat.toD a) (Dat.toD b) && PyData.eqvAll (r.map Dat.toD) (s.map Dat.toD)) = true ↔ _
    rw [Bool.and_eq_true, Dat.inj, injAll r s]
    exact ⟨fun h => by rw [h.1, h.2], fun h => by injection h with h1 h2; exact ⟨h1, h2⟩⟩
theorem shpAll {α : Type} [Rep α] [Dat α] : ∀ as : List α, (∀ a ∈ as, Dat.good a) → PyData.canLayAll0 (as.map Dat.toD) = true
  | [], _ => rfl
  | a :: r, h => by
    show ((Dat.toD a).canLay0 && PyData.canLayAll0 (r.map Dat.toD)) = true
    rw [Dat.gshp _ (h a List.mem_cons_self), shpAll r fun x hx => h x (List.mem_cons_of_mem _ hx)]
    rfl
instance {α : Type} [Rep α] [Dat α] : Dat (List α) where
  toD := fun x => .list (x.map Dat.toD)
  dp := fun ⟨p, vs, hv, s, h⟩ => by
    subst hv
    exact .lst s.sq (dpAll h)
  dep := Dat.dep α + 1
  ddep := fun x => Nat.succ_le_succ (depAll x)
  inj := fun x y => injAll x y
  good := fun x => ∀ a ∈ x, Dat.good a
  gshp := fun x h => shpAll x h
section
variable {W : Wd} {Γ : Gam} {ta tb tc te : TE} {tt tu : TT}
theorem shaped_of {α : Type} [Rep α] [Dat α] {a : α} (g : Dat.good a) (h : Dat.dep α ≤ 64) : SeqAt.shaped (Dat.toD a) = true := by
  unfold SeqAt.shaped
  rw [Dat.gshp a g, decide_eq_true (Nat.le_trans (Dat.ddep a) h)]
  rfl
theorem eqv_dec {α : Type} [Rep α] [Dat α] [DecidableEq α] (a b : α) : PyData.eqv (Dat.toD a) (Dat.toD b) = decide (a = b) := by
  by_cases e : a = b
  · rw [decide_eq_true e]; exact (Dat.inj a b).mpr e
  · rw [decide_eq_false e]
    cases q : PyData.eqv (Dat.toD a) (Dat.toD b) with
    | false => rfl
    | true => exact absurd ((Dat.inj a b).mp q) e
theorem ev_ixL {α : Type} {rα : Rep α} {K : PySem.W.Frag} {k : α → Prop} (hK : W.B.K = K) (h : EvK W ta Γ fun as : List α => EvK W tb Γ fun i : Int => ∃ a, atI as i = some a ∧ k a) : EvK W (tOp (rIxL K) ta tb) Γ k := by
  subst hK
  refine ev_two (h.imp fun as ha => ha.imp fun i ⟨a, hi, z⟩ x y H Q o dx dy c => ?_)
  obtain ⟨p, vs, rfl, hp, hd⟩ := dx
  have e : ∃ v, atI vs i = some v ∧ den W H v a := by
    unfold atI at hi ⊢
    rw [hd.length]
    cases q : ixN as.length i with
    | none => rw [q] at hi; cases hi
    | some j =>
      rw [q, Option.bind_some] at hi
      rw [Option.bind_some]
      exact hd.at' hi
  obtain ⟨v, hv, dv⟩ := e
  exact ⟨p, vs, i, v, rfl, dy, hp.sq, hv, c _ H a (Ext.refl o) dv z⟩
theorem ev_ixT0 {α β : Type} {rα : Rep α} {rβ : Rep β} {K : PySem.W.Frag} {k : α → Prop} (hK : W.B.K = K) (h : EvK W ta Γ fun p : α × β => k p.1) : EvK W (tOp (rIxT K) ta (tC (.int 0))) Γ k := by
  subst hK
  refine fun σ H Q E c => h σ H _ E fun v H1 a e1 ⟨p, x, y, hv, s, d1, d2⟩ z => ?_
  exact ⟨p, _, 0, x, hv, rfl, s.sq, rfl, c _ H1 _ e1 d1 z⟩
theorem ev_ixT1 {α β : Type} {rα : Rep α} {rβ : Rep β} {K : PySem.W.Frag} {k : β → Prop} (hK : W.B.K = K) (h : EvK W ta Γ fun p : α × β => k p.2) : EvK W (tOp (rIxT K) ta (tC (.int 1))) Γ k := by
  subst hK
  refine fun σ H Q E c => h σ H _ E fun v H1 a e1 ⟨p, x, y, hv, s, d1, d2⟩ z => ?_
  exact ⟨p, _, 1, y, hv, rfl, s.sq, rfl, c _ H1 _ e1 d2 z⟩
theorem ev_cat {α : Type} {rα : Rep α} {k : List α → Prop} (h : EvK W ta Γ fun as : List α => EvK W tb Γ fun bs : List α => as.length + bs.length ≤ 100000 ∧ k (as ++ bs)) : EvK W (tOp rCat ta tb) Γ k := by
  refine ev_two (h.imp fun as ha => ha.imp fun bs ⟨hl, z⟩ x y H Q o dx dy c => ?_)
  obtain ⟨p, vs, rfl, hp, hd⟩ := dx
  obtain ⟨q, ws, rfl, hq, hd2⟩ := dy
  refine ⟨p, q, vs, ws, rfl, rfl, hp.2, hq.2, Nat.le_trans (by rw [hd.length, hd2.length]; exact hl) (by decide : 100000 ≤ sizeLine), fun l hl => ?_⟩
  have e := Ext.new (o := .lst (vs ++ ws)) o hl
  exact c _ _ _ e ⟨l, _, rfl, Lq.new (fresh_mu o hl) upd_same, (hd.append hd2).imp fun _ _ d => Rep.mono e.keep d⟩ z
theorem ev_len {α : Type} {rα : Rep α} {K : PySem.W.Frag} {k : Int → Prop} (hK : W.B.K = K) (h : EvK W te Γ fun as : List α => k (as.length : Int)) : EvK W (tCB (fun xs H Q => ∃ p ys, xs = [.ref p] ∧ (SqL K H p ys ∨ SqT K H p ys) ∧ Q (.int ys.length) H) (tCons te tNil)) Γ k := by
  subst hK
  refine fun σ H Q E c => h σ H _ E fun v H1 as e1 ⟨p, vs, hv, hp, hd⟩ z => ?_
  exact ⟨p, vs, by rw [hv], .inl hp.sq, c _ H1 _ e1 (congrArg (fun n : Nat => V.int n) hd.length) z⟩
/-- int(x) of an int -/
theorem ev_intI {k : Int → Prop} (h : EvK W te Γ fun i : Int => k i) : EvK W (tCB (fun xs H Q => (∃ i, xs = [.int i] ∧ Q (.int i) H) ∨ ∃ k, xs = [.bl k] ∧ Q (.int (if k then 1 else 0)) H) (tCons te tNil)) Γ k :=
  fun σ H Q E c => h σ H _ E fun v H1 i e1 d z => .inl ⟨i, congrArg (fun x => [x]) d, c _ H1 i e1 rfl z⟩
/-- a chain of two comparisons of ints -/
theorem ev_chain {f g : Int → Int → Bool} {k : Bool → Prop} (h : EvK W ta Γ fun i : Int => EvK W tb Γ fun j : Int => (f i j = true → EvK W tc Γ fun l : Int => k (g j l)) ∧ (f i j = false → k false)) :
    EvK W (tChain (rI0 fun i j => .bl (f i j)) (rI0 fun i j => .bl (g i j)) ta tb tc) Γ k := by
  refine fun σ H Q E c => h σ H _ E fun x H1 i e1 d1 h1 => h1 σ H1 _ (E.ext e1) fun y H2 j e2 d2 h2 => ?_
  refine ⟨i, j, d1, d2, f i j, rfl, ?_⟩
  by_cases q : f i j = true
  · rw [if_pos q]
    exact h2.1 q σ H2 _ ((E.ext e1).ext e2) fun z H3 l e3 d3 h3 => ⟨j, l, d2, d3, c _ H3 _ ((e1.trans e2).trans e3) rfl h3⟩
  · rw [if_neg q]
    exact c _ H2 _ (e1.trans e2) rfl (h2.2 (by simpa using q))
end
/-- js: the slots that the target sets -/
def Sm (js : List Nat) (σ σ' : St) : Prop := σ'.length = σ.length ∧ ∀ i : Nat, i ∉ js → σ'[i]? = σ[i]?
def Tj {α : Type} [Rep α] (W : Wd) (js : List Nat) (g : TG) (Γ : Gam) (a : α) (k : Gam → Prop) : Prop :=
  ∀ σ H v (Q : St → Hp → Prop), GOk W H σ Γ → den W H v a → (∀ σ' Γ', GOk W H σ' Γ' → Sm js σ σ' → k Γ' → Q σ' H) → g v σ H Q
abbrev Tg {α : Type} [Rep α] (W : Wd) (g : TG) (Γ : Gam) (a : α) (k : Gam → Prop) : Prop := ∃ js, Tj W js g Γ a k
structure Po where
  nx : Gam → Prop
  rt : Ty → Prop
  bk : Gam → Prop := fun _ => False
  ct : Gam → Prop := fun _ => False
structure EOk (W : Wd) (H : Hp) (D : Ends) (R : Po) : Prop where
  nx : ∀ σ' H' Γ', Ext W H H' → GOk W H' σ' Γ' → R.nx Γ' → D.nx σ' H'
  rt : ∀ v H' (t : Ty), Ext W H H' → t.den W H' v → R.rt t → D.rt v H'
  bk : ∀ σ' H' Γ', Ext W H H' → GOk W H' σ' Γ' → R.bk Γ' → D.bk σ' H'
  ct : ∀ σ' H' Γ', Ext W H H' → GOk W H' σ' Γ' → R.ct Γ' → D.ct σ' H'
theorem EOk.ext {W : Wd} {H H1 : Hp} {D : Ends} {R : Po} (h : EOk W H D R) (e : Ext W H H1) : EOk W H1 D R :=
  ⟨fun a b c d => h.nx a b c (e.trans d), fun a b c d => h.rt a b c (e.trans d), fun a b c d => h.bk a b c (e.trans d), fun a b c d => h.ct a b c (e.trans d)⟩
def Sx (W : Wd) (t : TS) (Γ : Gam) (R : Po) : Prop := ∀ D σ H, GOk W H σ Γ → EOk W H D R → t D σ H
section
variable {W : Wd} {Γ : Gam} {ta tb tc te : TE} {tt : TT} {t u : TS} {R : Po} {g : TG}
theorem tj_name {α : Type} {rα : Rep α} {i : Nat} {a : α} {k : Gam → Prop} (q : k (Γ.set i (some (T a)))) : Tj W [i] (gName i) Γ a k := fun σ H v Q E d c =>
  c _ _ (E.set i (t := T a) d) ⟨List.length_set, fun j hj => List.getElem?_set_ne (fun z => hj (by rw [z]; exact List.mem_singleton.mpr rfl))⟩ q
theorem tj_tup2 {α β : Type} {rα : Rep α} {rβ : Rep β} {K : PySem.W.Frag} {g1 g2 : TG} {j1 j2 : List Nat} {a : α × β} {k : Gam → Prop} (hK : W.B.K = K) (q : Tj W j1 g1 Γ a.1 fun Γ1 => Tj W j2 g2 Γ1 a.2 k) : Tj W (j1 ++ j2) (gTup K 2 (gCons g1 (gCons g2 gNil))) Γ a k := by
  subst hK
  refine fun σ H v Q E ⟨p, x, y, hv, s, d1, d2⟩ c => ⟨p, [x, y], hv, s.sq, rfl, ?_⟩
  refine ⟨x, [y], rfl, ?_⟩
  refine q σ H x _ E d1 fun σ1 Γ1 E1 m1 q1 => ?_
  exact ⟨y, [], rfl, q1 σ1 H y _ E1 d2 fun σ2 Γ2 E2 m2 q2 => ⟨rfl, c σ2 Γ2 E2 ⟨m2.1.trans m1.1, fun i hi => (m2.2 i fun z => hi (List.mem_append_right _ z)).trans (m1.2 i fun z => hi (List.mem_append_left _ z))⟩ q2⟩⟩
theorem tj_tup3 {α β γ : Type} {rα : Rep α} {rβ : Rep β} {rγ : Rep γ} {K : PySem.W.Frag} {g1 g2 g3 : TG} {j1 j2 j3 : List Nat} {a : T3 α β γ} {k : Gam → Prop} (hK : W.B.K = K) (q : Tj W j1 g1 Γ a.a fun Γ1 => Tj W j2 g2 Γ1 a.b fun Γ2 => Tj W j3 g3 Γ2 a.c k) : Tj W (j1 ++ (j2 ++ j3)) (gTup K 3 (gCons g1 (gCons g2 (gCons g3 gNil)))) Γ a k := by
  subst hK
  refine fun σ H v Q E ⟨p, x, y, z, hv, s, d1, d2, d3⟩ c => ⟨p, [x, y, z], hv, s.sq, rfl, ?_⟩
  refine ⟨x, [y, z], rfl, ?_⟩
  refine q σ H x _ E d1 fun σ1 Γ1 E1 m1 q1 => ⟨y, [z], rfl, ?_⟩
  refine q1 σ1 H y _ E1 d2 fun σ2 Γ2 E2 m2 q2 => ⟨z, [], rfl, ?_⟩
  exact q2 σ2 H z _ E2 d3 fun σ3 Γ3 E3 m3 q3 => ⟨rfl, c σ3 Γ3 E3 ⟨(m3.1.trans m2.1).trans m1.1, fun i hi => ((m3.2 i fun z => hi (List.mem_append_right _ (List.mem_append_right _ z))).trans (m2.2 i fun z => hi (List.mem_append_right _ (List.mem_append_left _ z)))).trans (m1.2 i fun z => hi (List.mem_append_left _ z))⟩ q3⟩
theorem tg_name {α : Type} {rα : Rep α} {i : Nat} {a : α} {k : Gam → Prop} (q : k (Γ.set i (some (T a)))) : Tg W (gName i) Γ a k := ⟨_, tj_name q⟩
theorem tg_of {α : Type} {rα : Rep α} {js : List Nat} {a : α} {k : Gam → Prop} (q : Tj W js g Γ a k) : Tg W g Γ a k := ⟨_, q⟩
theorem sx_seq (h : Sx W t Γ { R with nx := fun Γ' => Sx W u Γ' R }) : Sx W (tSeq t u) Γ R := fun D σ H E O =>
  h _ σ H E ⟨fun σ' H' Γ' e G q => q D σ' H' G (O.ext e), O.rt, O.bk, O.ct⟩
theorem sx_next (q : R.nx Γ) : Sx W tNext Γ R := fun D σ H E O => O.nx σ H Γ (Ext.refl E.ok) E q
theorem sx_asg {α : Type} {rα : Rep α} (h : EvK W te Γ fun a : α => Tg W g Γ a R.nx) : Sx W (tAsg te g) Γ R := fun D σ H E O =>
  h σ H _ E fun v H1 a e1 d ⟨_, h1⟩ => h1 σ H1 v _ (E.ext e1) d fun σ' Γ' G _ q => O.nx σ' H1 Γ' e1 G q
theorem sx_set {α : Type} {rα : Rep α} {i : Nat} (h : EvK W te Γ fun a : α => R.nx (Γ.set i (some (T a)))) : Sx W (tAsg te (gName i)) Γ R := sx_asg (h.imp fun a q => tg_name q)
theorem sx_drop {α : Type} {rα : Rep α} (h : EvK W te Γ fun _ : α => R.nx Γ) : Sx W (tDrop te) Γ R := fun D σ H E O =>
  h σ H _ E fun v H1 a e1 d q => O.nx σ H1 Γ e1 (E.ext e1) q
theorem sx_ret {α : Type} {rα : Rep α} (h : EvK W te Γ fun a : α => R.rt (T a)) : Sx W (tRet te) Γ R := fun D σ H E O =>
  h σ H _ E fun v H1 a e1 d q => O.rt v H1 (T a) e1 d q
theorem sx_retN (q : R.rt (T ())) : Sx W tRetN Γ R := fun D σ H E O => O.rt .non H (T ()) (Ext.refl E.ok) rfl q
theorem sx_if (h : EvT W tt Γ fun b => (b = true → Sx W t Γ R) ∧ (b = false → Sx W u Γ R)) : Sx W (tIfS tt t u) Γ R := fun D σ H E O =>
  h σ H _ E fun H1 b e1 ⟨h1, h2⟩ => by
    cases b with
    | true => exact h1 rfl D σ H1 (E.ext e1) (O.ext e1)
    | false => exact h2 rfl D σ H1 (E.ext e1) (O.ext e1)
/-- for x in a list -/
theorem sx_forL {α : Type} {rα : Rep α} {K : PySem.W.Frag} (hK : W.B.K = K) (h : EvK W te Γ fun as : List α => ∃ I : Nat → Gam → Prop, I 0 Γ ∧
      (∀ (i : Nat) (a : α) Γ', as[i]? = some a → I i Γ' → Tg W g Γ' a fun Γ1 => Sx W t Γ1 { R with nx := I (i + 1), ct := I (i + 1), bk := R.nx }) ∧ ∀ Γ', I as.length Γ' → R.nx Γ') : Sx W (tFor (iList K te) g t) Γ R := by
  subst hK
  refine fun D σ H E O => h σ H _ E fun v H1 as e1 ⟨p, vs, hv, hp, hd⟩ ⟨I, h0, hs, hl⟩ => ?_
  refine ⟨p, hv, ⟨vs, hp.sq⟩, for_list (K := W.B.K) (a := p) (xs := vs) (fun i σ' H' => Ext W H1 H' ∧ ∃ Γ', GOk W H' σ' Γ' ∧ I i Γ') ⟨Ext.refl e1.ok, Γ, E.ext e1, h0⟩ (fun i σ' H' _ ⟨e, _⟩ => (hp.mono e.keep).sq) ?_ ?_⟩
  · rintro i x σ' H' hx ⟨e, Γ', G, q⟩
    obtain ⟨a, ha, da⟩ := (hd.imp fun _ _ d => Rep.mono e.keep d).at hx
    obtain ⟨js, hj⟩ := hs i a Γ' ha q
    refine hj σ' H' x _ G da fun σ2 Γ2 G2 _ q2 => ?_
    exact q2 _ σ2 H' G2 ⟨fun σ3 H3 Γ3 e3 G3 q3 => ⟨e.trans e3, Γ3, G3, q3⟩, fun v3 H3 t3 e3 d3 q3 => O.rt v3 H3 t3 ((e1.trans e).trans e3) d3 q3,
      fun σ3 H3 Γ3 e3 G3 q3 => O.nx σ3 H3 Γ3 ((e1.trans e).trans e3) G3 q3, fun σ3 H3 Γ3 e3 G3 q3 => ⟨e.trans e3, Γ3, G3, q3⟩⟩
  · rintro σ' H' ⟨e, Γ', G, q⟩
    rw [hd.length] at q
    exact O.nx σ' H' Γ' (e1.trans e) G (hl Γ' q)
/-- for x in range(n) -/
theorem sx_forR {R : Po} (h : EvK W te Γ fun n : Int => (-(2 ^ 62) ≤ n ∧ n < 2 ^ 62) ∧ ∃ I : Nat → Gam → Prop, I 0 Γ ∧
      (∀ (i : Nat) Γ', i < n.toNat → I i Γ' → Tg W g Γ' (i : Int) fun Γ1 => Sx W t Γ1 { R with nx := I (i + 1), ct := I (i + 1), bk := R.nx }) ∧ ∀ Γ', I n.toNat Γ' → R.nx Γ') : Sx W (tFor (iRng1 (tCons te tNil)) g t) Γ R := by
  refine fun D σ H E O => h σ H _ E fun v H1 n e1 hv ⟨⟨b1, b2⟩, I, h0, hs, hl⟩ => ?_
  refine ⟨n, congrArg (fun x => [x]) hv, b1, b2, for_range (lo := 0) (n := n.toNat) (fun i σ' H' => Ext W H1 H' ∧ ∃ Γ', GOk W H' σ' Γ' ∧ I i Γ') ⟨Ext.refl e1.ok, Γ, E.ext e1, h0⟩ ?_ ?_⟩
  · rintro i σ' H' hi ⟨e, Γ', G, q⟩
    obtain ⟨js, hj⟩ := hs i Γ' hi q
    refine hj σ' H' _ _ G (by show V.int ((0 : Int) + i) = .int i; rw [Int.zero_add]) fun σ2 Γ2 G2 _ q2 => ?_
    exact q2 _ σ2 H' G2 ⟨fun σ3 H3 Γ3 e3 G3 q3 => ⟨e.trans e3, Γ3, G3, q3⟩, fun v3 H3 t3 e3 d3 q3 => O.rt v3 H3 t3 ((e1.trans e).trans e3) d3 q3,
      fun σ3 H3 Γ3 e3 G3 q3 => O.nx σ3 H3 Γ3 ((e1.trans e).trans e3) G3 q3, fun σ3 H3 Γ3 e3 G3 q3 => ⟨e.trans e3, Γ3, G3, q3⟩⟩
  · rintro σ' H' ⟨e, Γ', G, q⟩
    exact O.nx σ' H' Γ' (e1.trans e) G (hl Γ' q)
end
theorem wipe_in {σ : St} {i : Nat} : ∀ {vs : List Nat}, i ∈ vs → i < σ.length → (wipe σ vs)[i]? = some none
  | j :: r, h, hl => by
    show ((wipe σ r).set j none)[i]? = some none
    by_cases e : j = i
    · subst e
      exact List.getElem?_set_self (by rw [wipe_length]; exact hl)
    · rw [List.getElem?_set_ne e]
      exact wipe_in ((List.mem_cons.mp h).resolve_left fun z => e z.symm) hl
theorem wipe_same {σ σ' : St} {vs js : List Nat} (h : Sm js (wipe σ vs) σ') (hs : ∀ j ∈ js, j ∈ vs) : wipe σ' vs = wipe σ vs := by
  have hl : σ'.length = σ.length := h.1.trans (wipe_length _ _)
  refine List.ext_getElem? fun i => ?_
  by_cases hi : i ∈ vs
  · by_cases hn : i < σ.length
    · rw [wipe_in hi hn, wipe_in hi (by rw [hl]; exact hn)]
    · rw [List.getElem?_eq_none (by rw [wipe_length, hl]; omega), List.getElem?_eq_none (by rw [wipe_length]; omega)]
  · rw [wipe_out hi, h.2 i fun z => hi (hs i z)]
section
variable {W : Wd} {Γ : Gam} {tl te : TE} {tt : TT} {g : TG}
/-- a turn of a comprehension: the item a; I holds of what is made so far -/
def LcTurn {α β : Type} [Rep α] [Rep β] (W : Wd) (g : TG) (tt : TT) (te : TE) (vs : List Nat) (Γ : Gam) (a : α) (no : Prop) (yes : β → Prop) : Prop :=
  ∃ js : List Nat, (js.all fun j => vs.contains j) = true ∧ Tj W js g (wipeE Γ vs) a fun Γ1 => EvT W tt Γ1 fun b => (b = true → EvK W te Γ1 yes) ∧ (b = false → no)
theorem lc_turn {α β : Type} {rα : Rep α} {rβ : Rep β} {vs : List Nat} {D : Addr} {H1 : Hp} {n : H1 D = none} {o1 : W.ok H1} {w1 : W.wish H1} {σ : St} {H' : Hp} {x : V} {a : α} {acc : List V} {bs : List β} {I : List β → Prop} {P : Hp → Prop}
    (t : LcTurn (W.plus D acc H1 n o1 w1) g tt te vs Γ a (I bs) fun y : β => I (bs ++ [y])) (G : GOk W H1 σ Γ) (e : Ext W H1 H') (hD : H' D = some (.lst acc)) (hb : Dl (den (W.toWc.plus D) H') acc bs) (da : den W H1 x a) (hz : acc.length < 100000)
    (fin : ∀ H2 acc2 bs2, Ext W H1 H2 → H2 D = some (.lst acc2) → Dl (den (W.toWc.plus D) H2) acc2 bs2 → acc2.length ≤ acc.length + 1 → I bs2 → P H2) :
    g x (wipe σ vs) H' fun σ2 H2 => wipe σ2 vs = wipe σ vs ∧ tt σ2 H2 fun b H3 => if b = true then te σ2 H3 fun y H4 => ∃ acc, H4 D = some (.lst acc) ∧ acc.length < sizeLine ∧ P (upd H4 D (.lst (acc ++ [y]))) else P H3 := by
  obtain ⟨js, hjs, t⟩ := t
  have nm : ¬ W.mu D := fresh_mu o1 n
  have kp : Kp (W.toWc.plus D) H1 H' := fun b o m z => e.keep b o (fun z => m (.inl z)) z
  have ok' : (W.plus D acc H1 n o1 w1).ok H' := ⟨e.ok, hD⟩
  have G' : GOk (W.plus D acc H1 n o1 w1) H' σ Γ := ⟨ok', fun b o m z => e.keep b o m z, fun i t h => by
    obtain ⟨v, h1, h2⟩ := G.at_ i t h
    exact ⟨v, h1, Ty.mono kp (t.r.grow D n h2)⟩, G.len⟩
  have back : ∀ H2, Ext (W.plus D acc H1 n o1 w1) H' H2 → Ext W H1 H2 := fun H2 e2 => ⟨fun b o m z => by
    have hb : b ≠ D := fun q => by subst q; rw [n] at z; cases z
    exact e2.keep b o (fun q => q.elim m hb) (e.keep b o m z), e2.ok.1⟩
  refine t (wipe σ vs) H' x _ (G'.wipe vs) (Rep.mono kp (Rep.grow D n da)) fun σ2 Γ2 G2 m2 q2 => ⟨?_, ?_⟩
  · exact wipe_same m2 fun j hj => by
      have := List.all_eq_true.mp hjs j hj
      simpa using this
  · refine q2 σ2 H' _ G2 fun H3 b e3 ⟨hy, hn⟩ => ?_
    have hD3 : H3 D = some (.lst acc) := e3.ok.2
    cases b with
    | false =>
      show P H3
      exact fin H3 acc bs (back H3 e3) hD3 (hb.imp fun _ _ d => Rep.mono e3.keep d) (Nat.le_succ _) (hn rfl)
    | true =>
      show te σ2 H3 _
      refine hy rfl σ2 H3 _ (G2.ext e3) fun y H4 b4 e4 d4 q4 => ?_
      have hD4 : H4 D = some (.lst acc) := e4.ok.2
      refine ⟨acc, hD4, Nat.lt_of_lt_of_le hz (by decide : 100000 ≤ sizeLine), ?_⟩
      have e5 := back H4 (e3.trans e4)
      have k5 : Kp (W.toWc.plus D) H4 (upd H4 D (.lst (acc ++ [y]))) := fun b o m z => by
        rw [upd_ne (fun q => m (.inr q))]
        exact z
      refine fin _ (acc ++ [y]) (bs ++ [b4]) ⟨fun b o m z => ?_, W.st _ _ _ e5.ok nm⟩ upd_same ?_ (by rw [List.length_append]; exact Nat.le_refl _) q4
      · rw [upd_ne (fun q => by subst q; rw [n] at z; cases z)]
        exact e5.keep b o m z
      · refine Dl.append (hb.imp fun _ _ d => Rep.mono k5 (Rep.mono (e3.trans e4).keep d)) (.cons (Rep.mono k5 d4) .nil)
/-- a new list: at p, not there before; its items do not lean on p -/
def EvF {β : Type} [Rep β] (W : Wd) (te : TE) (Γ : Gam) (k : List β → Prop) : Prop :=
  ∀ σ H (Q : VK), GOk W H σ Γ → (∀ p H' vs (bs : List β), H p = none → Ext W H H' → H' p = some (.lst vs) → Dl (den (W.toWc.plus p) H') vs bs → k bs → Q (.ref p) H') → te σ H Q
theorem fresh_back {W : Wd} {H H' : Hp} {p : Addr} (o : W.ok H') (e : Ext W H H') (h : H' p = none) : H p = none := by
  cases q : H p with
  | none => rfl
  | some u =>
    rw [e.keep p u (fresh_mu o h) q] at h
    cases h
theorem EvF.k {β : Type} {rβ : Rep β} {k : List β → Prop} (h : EvF W te Γ k) : EvK W te Γ k := fun σ H Q E c =>
  h σ H Q E fun p H' vs bs n e hp hb q => c (.ref p) H' bs e ⟨p, vs, rfl, Lq.new (fun m => by
    obtain ⟨o, z⟩ := W.live H p E.ok m
    rw [n] at z
    cases z) hp, hb.imp fun _ _ d => Rep.shrink p d⟩ q
/-- [te for g in a list if tt] -/
theorem evF_lc {α β : Type} {rα : Rep α} {rβ : Rep β} {K : PySem.W.Frag} {vs : List Nat} {k : List β → Prop} (hK : W.B.K = K)
    (h : EvK W tl Γ fun as : List α => as.length ≤ 100000 ∧ ∃ I : Nat → List β → Prop, I 0 [] ∧ (∀ W', Sub W W' → ∀ (i : Nat) (a : α) (bs : List β), as[i]? = some a → I i bs → LcTurn W' g tt te vs Γ a (I (i + 1) bs) fun y : β => I (i + 1) (bs ++ [y])) ∧ ∀ bs, I as.length bs → k bs) :
    EvF W (tLc (iList K tl) g tt te vs) Γ k := by
  subst hK
  refine fun σ H Q E c => h σ H _ E fun v H1 as e1 ⟨p, xs, hv, hp, hd⟩ ⟨hl, I, h0, hs, hf⟩ => ⟨p, hv, ⟨xs, hp.sq⟩, fun D n => ?_⟩
  have G1 := E.ext e1
  have eD : Ext W H1 (upd H1 D (.lst [])) := Ext.new e1.ok n
  refine lc_list (xs := xs) (fun i H' => Ext W H1 H' ∧ ∃ acc bs, H' D = some (.lst acc) ∧ Dl (den (W.toWc.plus D) H') acc bs ∧ acc.length ≤ i ∧ I i bs) ⟨eD, [], [], upd_same, .nil, Nat.le_refl _, h0⟩ (fun i H' _ ⟨e, _⟩ => (hp.mono e.keep).sq) ?_ ?_
  · rintro i x H' hx ⟨e, acc, bs, hD, hb, ha, q⟩
    obtain ⟨a, ea, da⟩ := hd.at hx
    have hil : i < as.length := (List.getElem?_eq_some_iff.mp ea).1
    exact lc_turn (I := I (i + 1)) (P := fun H' => Ext W H1 H' ∧ ∃ acc bs, H' D = some (.lst acc) ∧ Dl (den (W.toWc.plus D) H') acc bs ∧ acc.length ≤ i + 1 ∧ I (i + 1) bs) (hs _ (Sub.plus (n := n) (o1 := e1.ok) (w1 := G1.wish)) i a bs ea q) G1 e hD hb da (by omega) fun H2 acc2 bs2 e2 hD2 hb2 hl2 q2 => ⟨e2, acc2, bs2, hD2, hb2, by omega, q2⟩
  · rintro H' ⟨e, acc, bs, hD, hb, ha, q⟩
    rw [hd.length] at q
    exact c D H' acc bs (fresh_back e1.ok e1 n) (e1.trans e) hD hb (hf bs q)
theorem ev_lc {α β : Type} {rα : Rep α} {rβ : Rep β} {K : PySem.W.Frag} {vs : List Nat} {k : List β → Prop} (hK : W.B.K = K)
    (h : EvK W tl Γ fun as : List α => as.length ≤ 100000 ∧ ∃ I : Nat → List β → Prop, I 0 [] ∧ (∀ W', Sub W W' → ∀ (i : Nat) (a : α) (bs : List β), as[i]? = some a → I i bs → LcTurn W' g tt te vs Γ a (I (i + 1) bs) fun y : β => I (i + 1) (bs ++ [y])) ∧ ∀ bs, I as.length bs → k bs) :
    EvK W (tLc (iList K tl) g tt te vs) Γ k := (evF_lc hK h).k
/-- [te for g in range(n) if tt] -/
theorem evF_lcR {β : Type} {rβ : Rep β} {vs : List Nat} {k : List β → Prop}
    (h : EvK W tl Γ fun m : Int => m ≤ 100000 ∧ -100000 ≤ m ∧ ∃ I : Nat → List β → Prop, I 0 [] ∧ (∀ W', Sub W W' → ∀ (i : Nat) (bs : List β), i < m.toNat → I i bs → LcTurn W' g tt te vs Γ (i : Int) (I (i + 1) bs) fun y : β => I (i + 1) (bs ++ [y])) ∧ ∀ bs, I m.toNat bs → k bs) :
    EvF W (tLc (iRng1 (tCons tl tNil)) g tt te vs) Γ k := by
  refine fun σ H Q E c => h σ H _ E fun v H1 m e1 hv ⟨hl, hl2, I, h0, hs, hf⟩ => ⟨m, congrArg (fun x => [x]) hv, by omega, by omega, fun D n => ?_⟩
  have G1 := E.ext e1
  have eD : Ext W H1 (upd H1 D (.lst [])) := Ext.new e1.ok n
  refine lc_range (lo := 0) (n := m.toNat) (fun i H' => Ext W H1 H' ∧ ∃ acc bs, H' D = some (.lst acc) ∧ Dl (den (W.toWc.plus D) H') acc bs ∧ acc.length ≤ i ∧ I i bs) ⟨eD, [], [], upd_same, .nil, Nat.le_refl _, h0⟩ ?_ ?_
  · rintro i H' hi ⟨e, acc, bs, hD, hb, ha, q⟩
    exact lc_turn (I := I (i + 1)) (P := fun H' => Ext W H1 H' ∧ ∃ acc bs, H' D = some (.lst acc) ∧ Dl (den (W.toWc.plus D) H') acc bs ∧ acc.length ≤ i + 1 ∧ I (i + 1) bs) (hs _ (Sub.plus (n := n) (o1 := e1.ok) (w1 := G1.wish)) i bs hi q) G1 e hD hb (by show V.int ((0 : Int) + i) = .int i; rw [Int.zero_add]) (by omega) fun H2 acc2 bs2 e2 hD2 hb2 hl2 q2 => ⟨e2, acc2, bs2, hD2, hb2, by omega, q2⟩
  · rintro H' ⟨e, acc, bs, hD, hb, ha, q⟩
    exact c D H' acc bs (fresh_back e1.ok e1 n) (e1.trans e) hD hb (hf bs q)
theorem ev_lcR {β : Type} {rβ : Rep β} {vs : List Nat} {k : List β → Prop}
    (h : EvK W tl Γ fun m : Int => m ≤ 100000 ∧ -100000 ≤ m ∧ ∃ I : Nat → List β → Prop, I 0 [] ∧ (∀ W', Sub W W' → ∀ (i : Nat) (bs : List β), i < m.toNat → I i bs → LcTurn W' g tt te vs Γ (i : Int) (I (i + 1) bs) fun y : β => I (i + 1) (bs ++ [y])) ∧ ∀ bs, I m.toNat bs → k bs) :
    EvK W (tLc (iRng1 (tCons tl tNil)) g tt te vs) Γ k := (evF_lcR h).k
/-- a pure one -/
theorem ev_lcF {α β : Type} [rα : Rep α] [rβ : Rep β] {K : PySem.W.Frag} {vs : List Nat} {k : List β → Prop} (p : α → Bool) (f : α → β) (hK : W.B.K = K)
    (h : EvK W tl Γ fun as : List α => as.length ≤ 100000 ∧ (∀ W', Sub W W' → ∀ a ∈ as, LcTurn W' g tt te vs Γ a (p a = false) fun y : β => p a = true ∧ y = f a) ∧ k ((as.filter p).map f)) :
    EvK W (tLc (iList K tl) g tt te vs) Γ k := ev_lc hK (h.imp fun as ⟨hl, hs, q⟩ => ⟨hl, fun i bs => bs = ((as.take i).filter p).map f, by simp, fun W' s i a bs ha e => by
  have ht : as.take (i + 1) = as.take i ++ [a] := by
    rw [List.take_succ, ha]; rfl
  obtain ⟨js, h1, h2⟩ := hs W' s a (List.mem_of_getElem? ha)
  refine ⟨js, h1, fun σ H v Q E d c => h2 σ H v Q E d fun σ' Γ' G m q2 => c σ' Γ' G m ?_⟩
  intro σ2 H2 Q2 E2 c2
  refine q2 σ2 H2 Q2 E2 fun H3 b e3 ⟨hy, hn⟩ => c2 H3 b e3 ⟨fun hb => (hy hb).imp fun y ⟨hp, hyf⟩ => ?_, fun hb => ?_⟩
  · have e' : bs = ((as.take i).filter p).map f := e
    show bs ++ [y] = ((as.take (i + 1)).filter p).map f
    rw [ht, List.filter_append, List.map_append, ← e', List.filter_cons_of_pos hp, hyf]; rfl
  · have e' : bs = ((as.take i).filter p).map f := e
    show bs = ((as.take (i + 1)).filter p).map f
    rw [ht, List.filter_append, List.map_append, ← e', List.filter_cons_of_neg (by rw [hn hb]; exact Bool.false_ne_true)]; simp, fun bs e => by rw [e, List.take_length]; exact q⟩)
end
/-- what a field of an error may hold -/
inductive Fv where
  | i (n : Int) | s (x : Str) | p (a b : Int) | l (xs : List Str) | no | t1 (x : Str)
def Fv.den (W : Wc) (H : Hp) (v : V) : Fv → Prop
  | .i n => Rep.dn W H v n
  | .s x => Rep.dn W H v x
  | .p a b => Rep.dn W H v (a, b)
  | .l xs => Rep.dn W H v xs
  | .no => v = .non
  | .t1 x => ∃ p, v = .ref p ∧ Tq W H p [.str x]
theorem Fv.mono {W : Wc} {H H' : Hp} {v : V} (e : Kp W H H') : ∀ {f : Fv}, f.den W H v → f.den W H' v
  | .i _, h => h
  | .s _, h => h
  | .p a b, h => Rep.mono (a := (a, b)) e h
  | .l xs, h => Rep.mono (a := xs) e h
  | .no, h => h
  | .t1 _, ⟨q, h1, h2⟩ => ⟨q, h1, h2.mono e⟩
theorem Fv.grow {W : Wc} {H : Hp} {v : V} (D : Addr) (n : H D = none) : ∀ {f : Fv}, f.den W H v → f.den (W.plus D) H v
  | .i _, h => h
  | .s _, h => h
  | .p a b, h => Rep.grow (a := (a, b)) D n h
  | .l xs, h => Rep.grow (a := xs) D n h
  | .no, h => h
  | .t1 _, ⟨q, h1, h2⟩ => ⟨q, h1, h2.grow D n⟩
theorem Fv.shrink {W : Wc} {H : Hp} {v : V} (D : Addr) : ∀ {f : Fv}, f.den (W.plus D) H v → f.den W H v
  | .i _, h => h
  | .s _, h => h
  | .p a b, h => Rep.shrink (a := (a, b)) D h
  | .l xs, h => Rep.shrink (a := xs) D h
  | .no, h => h
  | .t1 _, ⟨q, h1, h2⟩ => ⟨q, h1, h2.shrink D⟩
/-- an error that leaves: its class by name, its fields -/
structure Xn where
  c : Cn
  fs : List (Str × Fv)
inductive DF (W : Wc) (H : Hp) : List (Str × V) → List (Str × Fv) → Prop
  | nil : DF W H [] []
  | cons {x : Str} {v : V} {t : Fv} {vs : List (Str × V)} {ts : List (Str × Fv)} : t.den W H v → DF W H vs ts → DF W H ((x, v) :: vs) ((x, t) :: ts)
theorem DF.imp {W W' : Wc} {H H' : Hp} (h : ∀ (v : V) (f : Fv), f.den W H v → f.den W' H' v) : ∀ {vs : List (Str × V)} {ts : List (Str × Fv)}, DF W H vs ts → DF W' H' vs ts
  | _, _, .nil => .nil
  | _, _, .cons x y => .cons (h _ _ x) (y.imp h)
theorem DF.at {W : Wc} {H : Hp} {f : Str} {t : Fv} : ∀ {vs : List (Str × V)} {ts : List (Str × Fv)}, DF W H vs ts → ts.lookup f = some t → ∃ v, vs.lookup f = some v ∧ t.den W H v
  | _, _, .nil, h => by cases h
  | _, _, .cons (x := x) (v := v) d r, h => by
    rw [List.lookup_cons] at h ⊢
    cases q : (f == x) with
    | true =>
      rw [q] at h
      cases h
      exact ⟨v, rfl, d⟩
    | false =>
      rw [q] at h
      exact DF.at r h
def xden (W : Wc) (H : Hp) (d : Option Addr) (fs : List (Str × Fv)) : Prop := (fs = [] ∧ d = none) ∨ ∃ dd vs, d = some dd ∧ ¬ W.mu dd ∧ H dd = some (.xd vs) ∧ DF W H vs fs
/-- an error in hand -/
structure Er where
  a : Addr
  d : Option Addr
  n : Xn
instance : Rep Er where
  dn := fun W H v e => v = .ref e.a ∧ xden W H e.d e.n.fs
  mono := fun k h => ⟨h.1, h.2.imp (fun h => h) fun ⟨dd, vs, h1, h2, h3, h4⟩ => ⟨dd, vs, h1, h2, k _ _ h2 h3, h4.imp fun _ _ z => Fv.mono k z⟩⟩
  grow := fun D n h => ⟨h.1, h.2.imp (fun h => h) fun ⟨dd, vs, h1, h2, h3, h4⟩ => ⟨dd, vs, h1, mu_grow n h2 h3, h3, h4.imp fun _ _ z => Fv.grow D n z⟩⟩
  shrink := fun D h => ⟨h.1, h.2.imp (fun h => h) fun ⟨dd, vs, h1, h2, h3, h4⟩ => ⟨dd, vs, h1, fun z => h2 (.inl z), h3, h4.imp fun _ _ z => Fv.shrink D z⟩⟩
def XOk (W : Wd) (H : Hp) (E : XK) (x : Xn → Prop) : Prop := ∀ n d H', Ext W H H' → xden W H' d n.fs → x n → E (.ref (W.B.cl n.c)) d H'
/-- P rt x ts: from the arguments ts to what is wished of the answer and of an error -/
abbrev PT := (Ty → Prop) → (Xn → Prop) → List Ty → Prop
def spG (B : Bs) (P : PT) : Sp := fun vs H Q E => ∃ (W : Wd) (ts : List Ty) (rt : Ty → Prop) (x : Xn → Prop), W.B = B ∧ W.ok H ∧ DT W H vs ts ∧ P rt x ts ∧ (∀ v H' (t : Ty), Ext W H H' → t.den W H' v → rt t → Q v H') ∧ XOk W H E x
def Wd.wth (W : Wd) (E : XK) (x : Xn → Prop) : Wd where
  toWc := W.toWc
  ok := W.ok
  live := W.live
  st := W.st
  wish := fun H => XOk W H E x
  wst := fun H H' k o w n d H2 e => w n d H2 ⟨fun a u m z => e.keep a u m (k a u m z), e.ok⟩
  hasbox := W.hasbox
  boxset := W.boxset
  boxmu := W.boxmu
  oke := W.oke
theorem Ext.wth {W : Wd} {E : XK} {x : Xn → Prop} {H H' : Hp} (e : Ext (W.wth E x) H H') : Ext W H H' := ⟨e.keep, e.ok⟩
theorem start_ok {W : Wd} {H : Hp} {vs : List V} {ts : List Ty} {N : List Str} (h : W.ok H) (w : W.wish H) (d : DT W H vs ts) : GOk W H (L2.start N vs) (ts.map some ++ List.replicate (N.length - ts.length) none) := by
  refine ⟨h, w, fun i t e => ?_, by unfold L2.start; rw [List.length_append, List.length_append, List.length_map, List.length_map, List.length_replicate, List.length_replicate, d.length]⟩
  have aux : ∀ {vs : List V} {ts : List Ty} {i : Nat} {m : Nat}, DT W H vs ts → (ts.map some ++ List.replicate m none)[i]? = some (some t) → ∃ v, vs[i]? = some v ∧ t.den W H v := by
    intro vs ts i m d
    induction d generalizing i with
    | nil =>
      intro e
      rw [List.map_nil, List.nil_append] at e
      have := List.mem_of_getElem? e
      rw [List.mem_replicate] at this
      cases this.2
    | cons x _ ih =>
      intro e
      cases i with
      | zero =>
        have : some _ = some (some t) := e
        cases this
        exact ⟨_, rfl, x⟩
      | succ i =>
        obtain ⟨v, h1, h2⟩ := ih (i := i) (by simpa using e)
        exact ⟨v, by simpa using h1, h2⟩
  obtain ⟨v, h1, h2⟩ := aux d e
  refine ⟨v, ?_, h2⟩
  unfold L2.start
  have hl : i < vs.length := (List.getElem?_eq_some_iff.mp h1).1
  rw [List.getElem?_append_left (by rw [List.length_map]; exact hl), List.getElem?_map, h1]
  rfl
/-- the body of a def keeps its promise -/
theorem body_ok {B : Bs} {P : PT} {t : TS} {N : List Str} {vs : List V} {H : Hp} {Q : VK} {E : XK}
    (hb : ∀ (W : Wd) ts rt x, W.B = B → W.ok H → (∀ H', W.ok H' → W.wish H' → XOk W H' E x) → P rt x ts → Sx W t (ts.map some ++ List.replicate (N.length - ts.length) none) { nx := fun _ => rt (T ()), rt := rt })
    (h : spG B P vs H Q E) : t { nx := fun _ H' => Q .non H', rt := Q } (L2.start N vs) H := by
  obtain ⟨W, ts, rt, x, hB, ho, d, hp, hq, hx⟩ := h
  refine hb (W.wth E x) ts rt x hB ho (fun H' _ w n d2 H2 e z q => w n d2 H2 e.wth z q) hp _ _ H (start_ok ho hx d) ⟨fun σ' H' Γ' e G q => hq .non H' (T ()) e.wth rfl q, fun v H' t e z q => hq v H' t e.wth z q, fun _ _ _ _ _ q => q.elim, fun _ _ _ _ _ q => q.elim⟩
theorem len_ok {B : Bs} {P : PT} {n : Nat} (hn : ∀ rt x ts, P rt x ts → ts.length = n) : ∀ vs H Q E, spG B P vs H Q E → vs.length = n := fun vs H Q E ⟨W, ts, rt, x, _, _, d, hp, _⟩ => d.length.trans (hn rt x ts hp)
end G
set_option Elab.async false
set_option linter.all false
set_option maxRecDepth 100000
set_option maxHeartbeats 2000000
namespace G
open PySem PySem.Spec PyProof.Rows L2 StX
section
variable {X : Cx} {CX : CXT} {k n : Nat} {f g C : Addr} {sp : Sp} {E : XK} {x : Str} {e : Expr} {es : List Expr} {t : TA} {p pos : Pos}
def tCallR (sp : Sp) (E : XK) (t : TA) : TE := fun σ H Q => t σ H fun vs H1 => sp vs H1 Q E
/-- f(e, ..) by a promise of values -/
theorem pe_callR (F : FnR X.prog X.w X.K X.mg X.base CX k f sp) (hr : Room k X.A) (hg : Gl X x) (hm : X.mg x = some (.ref f)) (hk : PySem.W.keepIn X.K (.ref f) = true) (hx : Passes CX X E)
    (ha : PA X (e :: es) t) (hdb : (x == ("__debug__" : Str)) = false := by decide) (he : starEach (e :: es) X.env = (false, eval e X.env) :: starEach es X.env := by rfl) (hpl : (backTo pos (starEach es X.env)).any (·.1) = false := by rfl) :
    PE X (.Call (.Name x p) (e :: es) [] pos) (tCallR sp E t) := by
  refine ⟨fun pins s σ H Q I h => ?_⟩
  refine wpAny_Call_Name_kw (ld_glob I hg hm ?_ hdb)
  refine PySem.W.callWith_K (h₀ := X.base) I.ok.mod.kin hk (thn (ha.run pos pins s σ H _ I h) fun us s1 ⟨vs, H1, I1, r, q⟩ => ⟨I1.kIn, ?_⟩) he hpl
  exact wpAny_call (run_fnR F hr hx I1 r q)
theorem ix_listK (K : PySem.W.Frag) (h : X.K = K := by rfl) : IxR X (rIxL K) := by subst h; exact ix_list
theorem ix_tupK (K : PySem.W.Frag) (h : X.K = K := by rfl) : IxR X (rIxT K) := by subst h; exact ix_tup
theorem op_eqDK (K : PySem.W.Frag) (hu : X.A.units + 64 < cLine) (h : X.K = K := by rfl) : OpR X (compareOp .Eq) (rEqD K) := by subst h; exact op_eqD hu
theorem op_neDK (K : PySem.W.Frag) (hu : X.A.units + 64 < cLine) (h : X.K = K := by rfl) : OpR X (compareOp .NotEq) (rNeD K) := by subst h; exact op_neD hu
theorem op_inSeqK (K : PySem.W.Frag) (h : X.K = K := by rfl) : OpR X (compareOp .In) (rIn K false) := by subst h; exact op_in_seq
theorem op_notInSeqK (K : PySem.W.Frag) (h : X.K = K := by rfl) : OpR X (compareOp .NotIn) (rIn K true) := by subst h; exact op_notIn_seq
theorem call_lenK (K : PySem.W.Frag) (h : X.K = K := by rfl) : CallR X (.builtin "len") (fun xs H Q => ∃ p ys, xs = [.ref p] ∧ (SqL K H p ys ∨ SqT K H p ys) ∧ Q (.int ys.length) H) := by subst h; exact call_len_seq
theorem sl_listK (K : PySem.W.Frag) (h : X.K = K := by rfl) : SlR X (rSlL K) := by subst h; exact sl_list
theorem pe_fldK (K : PySem.W.Frag) {o : Expr} {fl : Str} {ta : TE} (he : PE X o ta) (hb : attributeBase o fl X.env (eval o X.env) = eval o X.env) (h : X.K = K := by rfl) : PE X (.Attribute o fl pos) (tFld K ta fl) := by subst h; exact pe_fld he hb
theorem pi_listK (K : PySem.W.Frag) {tg l : Expr} {tl : TE} (he : PE X l tl) (h : X.K = K := by rfl) : PI X tg l (iList K tl) := by subst h; exact pi_list he
theorem pi_tupK (K : PySem.W.Frag) {tg l : Expr} {tl : TE} (he : PE X l tl) (h : X.K = K := by rfl) : PI X tg l (iTup K tl) := by subst h; exact pi_tup he
theorem pg_tupK (K : PySem.W.Frag) {n : Nat} {u : TGs} {k : Nat} (hc : X.calm = true) (hs : PGs X es u) (hn : (assignEach es X.env).length = n := by rfl) (hst : (assignEach es X.env).findIdx? (·.1) = none := by rfl) (h : X.K = K := by rfl) : PG X (.Tuple es k pos) (gTup K n u) := by subst h; exact pg_tup hc hs hn hst
theorem pt_truthK (K : PySem.W.Frag) {a : Expr} {ta : TE} (ha : PE X a ta) (he : ∀ whole, isTrue a X.env whole = (do let v ← whole; standAt a.pos; holding [v] (truthy v))) (h : X.K = K := by rfl) :
    L2.PT X a (fun σ H Q => ta σ H fun x H' => ∃ k, TruV K x H' k ∧ Q k H') := by subst h; exact pt_truth ha he
/-- x in o, o of a class with its own __contains__ -/
def rInOwn (C : Addr) (sp : Sp) (E : XK) : R2 := fun x y H Q => ∃ a dx fs, y = .ref a ∧ H a = some (.ins C dx fs) ∧ sp [y, x] H (fun v H' => ∃ b, v = .bl b ∧ Q (.bl b) H') E
end
section
variable {W : Wd} {Γ : Gam} {ta : TA} {te tb to : TE}
theorem ev_callR {α : Type} {rα : Rep α} {B : Bs} {P : PT} {E : XK} {k : α → Prop} (hB : W.B = B) (h : EvA W ta Γ fun ts => P (fun t => ∃ a : α, t = T a ∧ k a) (fun _ => False) ts) : EvK W (tCallR (spG B P) E ta) Γ k := fun σ H Q G c =>
  h σ H _ G fun vs H1 ts e1 d z => ⟨W, ts, _, _, hB, e1.ok, d, z, fun v H2 t e2 dt ⟨a, ea, q⟩ => by
    subst ea
    exact c v H2 a (e1.trans e2) dt q, fun n d2 H2 _ _ q => q.elim⟩
/-- data that is an instance of the class named c -/
class Ins (β : Type) [Rep β] (c : outParam Cn) (fl : outParam (List Str)) : Prop where
  at_ : ∀ {W : Wc} {H : Hp} {v : V} {b : β}, den W H v b → ∃ a dx fs, v = .ref a ∧ ¬ W.mu a ∧ H a = some (.ins (W.B.cl c) dx fs) ∧ fs.map (·.1) = fl
/-- the class of such data is at C -/
def OwnG (β : Type) [Rep β] (B : Bs) (C : Addr) (G : Prop) : Prop := ∃ c fl, Ins β c fl ∧ B.cl c = C ∧ G
theorem own_in {β : Type} [Rep β] {c : Cn} {fl : List Str} [i : Ins β c fl] {B : Bs} {C : Addr} {G : Prop} (hC : B.cl c = C) (h : G) : OwnG β B C G := ⟨c, fl, i, hC, h⟩
theorem ev_inOwn {α β : Type} {rα : Rep α} {rβ : Rep β} {C : Addr} {B : Bs} {P : PT} {E : XK} {k : Bool → Prop} (hB : W.B = B)
    (h : EvK W te Γ fun a : α => EvK W tb Γ fun s : β => OwnG β B C (P (fun t => ∃ b : Bool, t = T b ∧ k b) (fun _ => False) [T s, T a])) : EvK W (tOp (rInOwn C (spG B P) E) te tb) Γ k := by
  subst hB
  refine ev_two (h.imp fun a ha => ha.imp fun s ⟨c, fl, iβ, hC, hp⟩ x y H Q o dx dy q => ?_)
  subst hC
  obtain ⟨p, dp, fs, hv, _, hH, _⟩ := iβ.at_ dy
  exact ⟨p, dp, fs, hv, hH, W, _, _, _, rfl, o, .cons (t := T s) dy (.cons (t := T a) dx .nil), hp, fun v H2 t e2 dt ⟨b, eb, kb⟩ => by
    subst eb
    exact ⟨b, dt, q _ H2 b e2 rfl kb⟩, fun n d2 H2 _ _ z => z.elim⟩
/-- what == of plain data asks: that it is data -/
def EqG {α : Type} [Rep α] (a b : α) (k : Bool → Prop) : Prop := ∃ (d : Dat α) (_ : DecidableEq α), Dat.dep α ≤ 64 ∧ (Dat.good a ∧ Dat.good b) ∧ k (decide (a = b))
theorem eqg_in {α : Type} [Rep α] [Dat α] [DecidableEq α] {a b : α} {k : Bool → Prop} (h1 : Dat.dep α ≤ 64) (h2 : Dat.good a) (h3 : Dat.good b) (h : k (decide (a = b))) : EqG a b k := ⟨inferInstance, inferInstance, h1, ⟨h2, h3⟩, h⟩
def NeG {α : Type} [Rep α] (a b : α) (k : Bool → Prop) : Prop := EqG a b fun x => k (!x)
theorem neg_in {α : Type} [Rep α] [Dat α] [DecidableEq α] {a b : α} {k : Bool → Prop} (h1 : Dat.dep α ≤ 64) (h2 : Dat.good a) (h3 : Dat.good b) (h : k (!decide (a = b))) : NeG a b k := eqg_in h1 h2 h3 h
theorem ev_eqG {α : Type} {rα : Rep α} {K : PySem.W.Frag} {k : Bool → Prop} (hK : W.B.K = K) (h : EvK W te Γ fun a : α => EvK W tb Γ fun b : α => EqG a b k) : EvK W (tOp (rEqD K) te tb) Γ k := by
  subst hK
  exact ev_two (h.imp fun a ha => ha.imp fun b ⟨d, q, h1, h2, h3⟩ x y H Q o dx dy c => ⟨_, _, Dat.dp dx, Dat.dp dy, shaped_of h2.1 h1, shaped_of h2.2 h1, c _ H _ (Ext.refl o) rfl (by rw [eqv_dec]; exact h3)⟩)
theorem ev_neG {α : Type} {rα : Rep α} {K : PySem.W.Frag} {k : Bool → Prop} (hK : W.B.K = K) (h : EvK W te Γ fun a : α => EvK W tb Γ fun b : α => NeG a b k) : EvK W (tOp (rNeD K) te tb) Γ k := by
  subst hK
  exact ev_two (h.imp fun a ha => ha.imp fun b ⟨d, q, h1, h2, h3⟩ x y H Q o dx dy c => ⟨_, _, Dat.dp dx, Dat.dp dy, shaped_of h2.1 h1, shaped_of h2.2 h1, c _ H _ (Ext.refl o) rfl (by rw [eqv_dec]; exact h3)⟩)
theorem ev_pow {n m : Int} {k : Int → Prop} (hc : CPow n m) (h : k (n ^ m.toNat)) : EvK W (tOp (rI CPow fun i j => .int (i ^ j.toNat)) (tC (.int n)) (tC (.int m))) Γ k :=
  ev_opC (ev_int (ev_int ⟨hc, h⟩))
/-- isinstance of plain data -/
class PyTy (α : Type) [Rep α] (ty : String) : Prop where
  at_ : ∀ {W : Wc} {H : Hp} {v : V} {a : α}, den W H v a → TyX W.B.K H v (.type ty)
instance : PyTy Int "int" := ⟨fun h => by cases h; exact .base (.int _)⟩
instance : PyTy Bool "bool" := ⟨fun h => by cases h; exact .base (.bl _)⟩
instance : PyTy Str "str" := ⟨fun h => by cases h; exact .base (.str _)⟩
structure Stc where
  lo : Int
  hi : Int
  deriving DecidableEq
def stcF (lo hi : Int) : List (Str × V) := [("low", .int lo), ("high", .int hi)]
instance : Rep Stc :=
  ⟨fun W H v s => ∃ a dx, v = .ref a ∧ ¬ W.mu a ∧ H a = some (.ins (W.B.cl .Stretch) dx (stcF s.lo s.hi)),
   fun e ⟨a, dx, hv, m, h⟩ => ⟨a, dx, hv, m, e _ _ m h⟩,
   fun D n ⟨a, dx, hv, m, h⟩ => ⟨a, dx, hv, mu_grow n m h, h⟩,
   fun D ⟨a, dx, hv, m, h⟩ => ⟨a, dx, hv, fun z => m (.inl z), h⟩⟩
instance : Ins Stc .Stretch ["low", "high"] := ⟨fun ⟨a, dx, hv, m, h⟩ => ⟨a, dx, _, hv, m, h, rfl⟩⟩
theorem stc_low (lo hi : Int) : (stcF lo hi).lookup ("low" : Str) = some (V.int lo) := by simp [stcF, List.lookup]
theorem stc_high (lo hi : Int) : (stcF lo hi).lookup ("high" : Str) = some (V.int hi) := by
  have h : (("high" : Str) == ("low" : Str)) = false := by decide +kernel
  simp [stcF, List.lookup, h]
/-- what the text says of the class -/
structure StcT (B : Bs) : Prop where
  cl : Cls B.K (B.cl .Stretch)
  nlow : NoAttr B.K (B.cl .Stretch) "low"
  nhigh : NoAttr B.K (B.cl .Stretch) "high"
theorem stc_of {W : Wd} {B : Bs} (h : W.B = B) (s : StcT B) : StcT W.B := h ▸ s
theorem ev_low {K : PySem.W.Frag} {k : Int → Prop} (hK : W.B.K = K) (hS : StcT W.B) (h : EvK W te Γ fun s : Stc => k s.lo) : EvK W (tFld K te "low") Γ k := by
  subst hK
  refine fun σ H Q E c => h σ H _ E fun v H1 s e1 ⟨a, dx, hv, m, hH⟩ z => ?_
  exact ⟨a, _, dx, _, _, hv, hH, hS.cl, hS.nlow, stc_low _ _, c _ H1 _ e1 rfl z⟩
theorem ev_high {K : PySem.W.Frag} {k : Int → Prop} (hK : W.B.K = K) (hS : StcT W.B) (h : EvK W te Γ fun s : Stc => k s.hi) : EvK W (tFld K te "high") Γ k := by
  subst hK
  refine fun σ H Q E c => h σ H _ E fun v H1 s e1 ⟨a, dx, hv, m, hH⟩ z => ?_
  exact ⟨a, _, dx, _, _, hv, hH, hS.cl, hS.nhigh, stc_high _ _, c _ H1 _ e1 rfl z⟩
/-- __init__: the fields are set; or the error is made -/
def spSI (B : Bs) : Sp := fun vs H Q E => ∃ (p dx : Addr) (lo hi : Int), vs = [.ref p, .int lo, .int hi] ∧ H p = some (.ins (B.cl .Stretch) dx []) ∧
  lo ≤ hi ∧ Q .non (upd (upd H p (.ins (B.cl .Stretch) dx [("low", .int lo)])) p (.ins (B.cl .Stretch) dx (stcF lo hi)))
/-- Stretch(lo, hi), in order -/
theorem ev_stretch {B : Bs} {C : Addr} {E : XK} {ta tb : TE} {k : Stc → Prop} (hB : W.B = B) (hC : B.cl .Stretch = C) (h : EvK W ta Γ fun lo : Int => EvK W tb Γ fun hi : Int => lo ≤ hi ∧ k ⟨lo, hi⟩) : EvK W (tMakeR C (spSI B) E (tCons ta (tCons tb tNil))) Γ k := by
  subst hB
  subst hC
  refine fun σ H Q G c => h σ H _ G fun v H1 lo e1 d1 h1 => h1 σ H1 _ (G.ext e1) fun u H2 hi e2 d2 ⟨hle, z⟩ => ?_
  intro x dx nx ndx nex
  refine ⟨x, dx, lo, hi, by cases d1; cases d2; rfl, upd_same, hle, rfl, ?_⟩
  have o := e2.ok
  have m1 := fresh_mu o ndx
  have m2 := fresh_mu o nx
  have okx : W.ok (upd (upd (upd (upd H2 dx (.own x)) x (.ins (W.B.cl .Stretch) dx [])) x (.ins (W.B.cl .Stretch) dx [("low", .int lo)])) x (.ins (W.B.cl .Stretch) dx (stcF lo hi))) :=
    W.st _ _ _ (W.st _ _ _ (W.st _ _ _ (W.st _ _ _ o m1) m2) m2) m2
  refine c (.ref x) _ ⟨lo, hi⟩ ((e1.trans e2).trans ⟨fun a u _ q => ?_, okx⟩) ⟨x, dx, rfl, m2, upd_same⟩ z
  have n1 : a ≠ x := ne_of_none q nx
  have n2 : a ≠ dx := ne_of_none q ndx
  rw [upd_ne n1, upd_ne n1, upd_ne n1, upd_ne n2]
  exact q
end
theorem raw_seq {t u : TS} {D : Ends} {σ : L2.St} {H : Hp} (h : t { D with nx := u D } σ H) : tSeq t u D σ H := h
theorem raw_asg {te : TE} {g : TG} {D : Ends} {σ : L2.St} {H : Hp} (h : te σ H fun x H1 => g x σ H1 D.nx) : tAsg te g D σ H := h
theorem yes_then {σ : L2.St} {H : Hp} {A B : Hp → Prop} (h : A H) : tYes σ H fun b H3 => if b = true then A H3 else B H3 := by
  show if true = true then A H else B H
  rw [if_pos rfl]
  exact h
theorem itT {c : Bool} {A B : Prop} (hc : c = true) (h : A) : if c = true then A else B := by
  rw [if_pos hc]
  exact h
theorem itF {c : Bool} {A B : Prop} (hc : c = false) (h : B) : if c = true then A else B := by
  rw [hc, if_neg Bool.false_ne_true]
  exact h
structure Ow where
  p : Addr
instance : Rep Ow := ⟨fun _ _ v a => v = .ref a.p, fun _ h => h, fun _ _ h => h, fun _ h => h⟩
theorem GOk.plus {W : Wd} {F H1 : Hp} {σ : L2.St} {Γ : Gam} {p : Addr} {vs : List V} (G : GOk W F σ Γ) (n : F p = none) (e : Ext W F H1) (hp : H1 p = some (.lst vs)) : GOk (W.plus p vs F n G.ok G.wish) H1 σ Γ :=
  ⟨⟨e.ok, hp⟩, fun b o m z => e.keep b o m z, fun i t h => by
    obtain ⟨v, h1, h2⟩ := G.at_ i t h
    exact ⟨v, h1, Ty.mono (fun b o m z => e.keep b o (fun z => m (.inl z)) z) (t.r.grow p n h2)⟩, G.len⟩
theorem kp_upd {W : Wc} {H : Hp} {p : Addr} {o' : HO} : Kp (W.plus p) H (upd H p o') := fun b o m z => by rw [upd_ne (fun q => m (.inr q))]; exact z
def boxW (B : Bs) (b c : Addr) (hbc : b ≠ c) (cells : List V) (ns : List Int) (hc : cells = ns.map V.int) : Wd where
  B := B
  mu := fun a => a = b ∨ a = c
  box := fun a => a = b
  ok := fun H => (∃ i p s : Int, H b = some (.lst [.ref c, .int i, .int p, .int s]) ∧ 0 ≤ i ∧ 0 ≤ p) ∧ H c = some (.lst cells)
  live := fun H a ⟨⟨i, p, s, h, _⟩, h2⟩ m => by
    rcases m with m | m
    · subst m; exact ⟨_, h⟩
    · subst m; exact ⟨_, h2⟩
  st := fun H p o ⟨⟨i, q, s, h, z⟩, h2⟩ m => ⟨⟨i, q, s, by rw [upd_ne (fun e => m (.inl e.symm))]; exact h, z⟩, by rw [upd_ne (fun e => m (.inr e.symm))]; exact h2⟩
  wish := fun _ => True
  wst := fun _ _ _ _ _ => trivial
  hasbox := fun H a ⟨⟨i, q, s, h, z⟩, h2⟩ e => by
    subst e
    exact ⟨c, ns, i, q, s, hbc, h, by rw [h2, hc], z⟩
  boxset := fun H a c1 i1 p1 s1 i' p' s' ⟨⟨i, q, s, h, z⟩, h2⟩ e h1 z1 z2 => by
    subst e
    rw [h] at h1
    obtain rfl : c = c1 := by injection h1 with h1; injection h1 with h1; injection h1 with h1 _; injection h1
    exact ⟨⟨i', p', s', upd_same, z1, z2⟩, by rw [upd_ne (Ne.symm hbc)]; exact h2⟩
  boxmu := fun a e => .inl e
  oke := fun H H' ⟨⟨i, p, s, h, z⟩, h2⟩ k => ⟨⟨i, p, s, k _ _ h, z⟩, k _ _ h2⟩
/-- the rest of the law, behind its box -/
theorem law_run {B : Bs} {t : TS} {σ : L2.St} {H : Hp} {Q : VK} {b c : Addr} {ns : List Int} {s : Int} {j : Nat} (hbc : b ≠ c) (hb : H b = some (.lst [.ref c, .int 0, .int 0, .int s])) (hc : H c = some (.lst (ns.map V.int)))
    (hj : σ[j]? = some (some (.ref b))) (hQ : ∀ H', Q (.bl true) H')
    (hs : ∀ W : Wd, W.B = B → Sx W t ((List.replicate σ.length none).set j (some (T Bx.mk))) { nx := fun _ => False, rt := fun t => t = T true }) : t { nx := fun _ H' => Q .non H', rt := Q } σ H := by
  refine hs (boxW B b c hbc _ ns rfl) rfl _ σ H ⟨⟨⟨0, 0, s, hb, Int.le_refl _, Int.le_refl _⟩, hc⟩, trivial, fun i t h => ?_, by rw [List.length_set, List.length_replicate]⟩ ⟨fun _ _ _ _ _ q => q.elim, fun v H' t _ d q => ?_, fun _ _ _ _ _ q => q.elim, fun _ _ _ _ _ q => q.elim⟩
  · by_cases e : j = i
    · subst e
      have hl : j < (List.replicate σ.length (none : Option Ty)).length := by rw [List.length_replicate]; exact (List.getElem?_eq_some_iff.mp hj).1
      rw [List.getElem?_set_self hl] at h
      cases h
      exact ⟨_, hj, b, rfl, rfl⟩
    · rw [List.getElem?_set_ne e] at h
      have := List.mem_of_getElem? h
      rw [List.mem_replicate] at this
      cases this.2
  · subst q
    obtain rfl : v = .bl true := d
    exact hQ H'
theorem room {j k : Nat} {A : Around} (h : Room k A) (hjk : j ≤ k := by decide) : Room j A := h.mono hjk
theorem huD {k : Nat} {A : Around} (h : Room k A) : A.units + 64 < cLine := h.units
def DefM (K : PySem.W.Frag) (name qual : Str) (st : Stmt) (ps : List Str) (f : Addr) : Prop := ∃ fd, Fun K name qual st f fd ∧ Binds K fd ps []
structure DefAt (K : PySem.W.Frag) (mg : Str → Option Value) (name : Str) (st : Stmt) (ps : List Str) (f : Addr) : Prop where
  d : DefM K name name st ps f
  g : mg name = some (.ref f)
  kp : PySem.W.keepIn K (.ref f) = true
section
variable {P : Program} {w : World} {K : PySem.W.Frag} {mg : Str → Option Value} {base : Heap}
theorem fnR_of {st : Stmt} {N ps : List Str} {k : Nat} {sp : Sp} {f : Addr} {name qual : Str} (D : DefM K name qual st ps f) (S : FnScope N ps (defScope st)) (len : ∀ vs H Q E, sp vs H Q E → vs.length = ps.length)
    (hbody : ∀ (cdv : Value) (A : Around) (outer : List Env) (s : Shared) (H : Hp) (vs : List V) (Q : VK) (E : XK), Room k (A.deeper (envOfC qual (defScope st) s.heap.objs.size f cdv)) → sp vs H Q E →
      ∃ t, PSs (cxOf CX0 P w K mg base N qual (defScope st) f cdv A outer s H E).nox (defBody st) t ∧ t { nx := fun _ H' => Q .non H', rt := Q } (L2.start N vs) H) : FnR P w K mg base CX0 (k + 1) f sp := by
  obtain ⟨fd, F, b⟩ := D
  exact ((F.ok S len hbody).raw b .nil).imp fun vs H Q E h => by rw [List.append_nil]; exact h
end
end G
set_option Elab.async false
set_option linter.all false
set_option maxRecDepth 100000
set_option maxHeartbeats 2000000
namespace G
open PySem PySem.Spec PyProof.Rows L2 StX
section
variable {X : Cx} {e : Expr} {es : List Expr} {ta : TA} {p1 p2 pos : Pos}
/-- what the text says of GaugeError, at CG -/
structure GeT (K : PySem.W.Frag) (mg : Str → Option Value) (CG : Addr) : Prop where
  g : mg "GaugeError" = some (.ref CG)
  ga : PySem.W.specialIn K (.ref CG) "__getattribute__" = some (some (.builtin "type.__getattribute__"))
  rd : PySem.W.readsIn K CG (.type "type") = true
  at_ : PySem.W.findCls K (.ref CG) (.type "type") "__init__" = some (.val (.builtin "ValueError.__init__"))
theorem pe_geinit {pl : Sem Bool} {CG : Addr} (T : GeT X.K X.mg CG) (ha : PA X (e :: es) ta) (hg : Gl X "GaugeError" := by rfl)
    (hc : eval (.Call (.Attribute (.Name "GaugeError" p1) "__init__" p2) (e :: es) [] pos) X.env = (do
      let ov ← eval (.Name "GaugeError" p1) X.env
      standAt p2.atName
      let (f, first) ← holding [ov] (getMethod ov "__init__" pl)
      callWith pos f first (backTo pos (starEach (e :: es) X.env)) (backToKw pos (keywordEach [] X.env))) := by rfl)
    (he : starEach (e :: es) X.env = (false, eval e X.env) :: starEach es X.env := by rfl) (hpl : (backTo pos (starEach es X.env)).any (·.1) = false := by rfl) :
    PE X (.Call (.Attribute (.Name "GaugeError" p1) "__init__" p2) (e :: es) [] pos) (tVeI X.K ta) := by
  refine ⟨fun pins s σ H Q I h => ?_⟩
  refine PySem.W.methodCall_KW (ld_glob I hg T.g ?_) hc
  refine PySem.W.method_cls I.kIn T.ga (PySem.W.cls_value I.kIn T.rd T.at_ (by decide +kernel) ?_)
  show wpAny _ _ (callWith pos (Value.builtin "ValueError.__init__") [] (backTo pos (starEach (e :: es) X.env)) []) _ _ _
  refine PyProof.Rows.callWith_method1 (thn (ha.run pos pins _ σ H _ (I.tok _) h) fun us s1 ⟨vs, H1, I1, r1, a, C, ws, ev, hl, T, ea, q⟩ => ?_) he hpl
  subst ev
  cases r1 with
  | @cons _ u0 _ ur ra rw' =>
    obtain rfl : u0 = Value.ref a := ra
    have hlen : ur.length ≤ sizeLine := by
      rw [← Paired.length rw', sizeLine_eq]
      omega
    exact oinit_ok T I1 ea hlen fun s' J => ⟨.non, H1, J, rfl, q⟩
end
/-- numbers that can be written into a text -/
def Small (i : Int) : Prop := i.natAbs.log2 < 1920
theorem small_of {i : Int} (h : i.natAbs < 2 ^ 1000) : Small i := by
  unfold Small
  rcases Nat.eq_zero_or_pos i.natAbs with h0 | h0
  · rw [h0]; decide
  · have := (Nat.log2_lt (by omega)).mpr h
    omega
/-- __init__ of Stretch, all of it -/
def spSIX (B : Bs) : Sp := fun vs H Q E => ∃ (p dx : Addr) (lo hi : Int), vs = [.ref p, .int lo, .int hi] ∧ H p = some (.ins (B.cl .Stretch) dx []) ∧
  (lo ≤ hi → Q .non (upd (upd H p (.ins (B.cl .Stretch) dx [("low", .int lo)])) p (.ins (B.cl .Stretch) dx (stcF lo hi)))) ∧
  (hi < lo → Small lo ∧ Small hi ∧ ∀ d, H d = none → E (.ref (B.cl .BadStretch)) (some d) (upd H d (.xd [("high", .int hi), ("low", .int lo)])))
theorem XOk.ext {W : Wd} {H H' : Hp} {E : XK} {x : Xn → Prop} (w : XOk W H E x) (e : Ext W H H') : XOk W H' E x := fun n d H2 e2 => w n d H2 (e.trans e2)
section
variable {X : Cx} {CX : CXT} {k n : Nat} {f g C : Addr} {sp : Sp} {E : XK} {o e : Expr} {es : List Expr} {to te ta : TE} {t : TA} {p p' pos apos : Pos} {m : Str}
theorem pe_geinitK (K : PySem.W.Frag) {p1 p2 : Pos} {pl : Sem Bool} {CG : Addr} (T : GeT X.K X.mg CG) (ha : PA X (e :: es) t) (hK : X.K = K := by rfl) (hg : Gl X "GaugeError" := by rfl)
    (hc : eval (.Call (.Attribute (.Name "GaugeError" p1) "__init__" p2) (e :: es) [] pos) X.env = (do
      let ov ← eval (.Name "GaugeError" p1) X.env
      standAt p2.atName
      let (f, first) ← holding [ov] (getMethod ov "__init__" pl)
      callWith pos f first (backTo pos (starEach (e :: es) X.env)) (backToKw pos (keywordEach [] X.env))) := by rfl)
    (he : starEach (e :: es) X.env = (false, eval e X.env) :: starEach es X.env := by rfl) (hpl : (backTo pos (starEach es X.env)).any (·.1) = false := by rfl) :
    PE X (.Call (.Attribute (.Name "GaugeError" p1) "__init__" p2) (e :: es) [] pos) (tVeI K t) := by subst hK; exact pe_geinit T ha hg hc he hpl
theorem ps_ostK (K : PySem.W.Frag) (ho : PE X o to) (he : PE X e te) (hs : swapsWith e (some (.Attribute o m p')) pos.line X.env = pure false := by rfl) (hK : X.K = K := by rfl) : PS X (.Assign [.Attribute o m p'] e pos) (tOst K m to te) := by subst hK; exact ps_ost ho he hs
/-- C(e, ..), an error with its own __init__ -/
theorem pmk_oexR {x : Str} {C fI : Addr} (T : OexC X.K C) (iC : PySem.W.findIn X.K (.ref C) "__init__" = some (some (.ref fI))) (tI : PySem.W.typeIn X.K (.ref fI) = some (.type "function"))
    (F : FnR X.prog X.w X.K X.mg X.base CX k fI sp) (hr : Room (k + 1) X.A) (hx : Passes CX X (fun _ _ _ => False)) (hg : Gl X x) (hm : X.mg x = some (.ref C)) (ha : PA X (e :: es) t)
    (hdb : (x == ("__debug__" : Str)) = false := by decide) (he : starEach (e :: es) X.env = (false, eval e X.env) :: starEach es X.env := by rfl) (hpl : (backTo pos (starEach es X.env)).any (·.1) = false := by rfl) :
    PMk X (.Call (.Name x p) (e :: es) [] pos) (tMkO C sp [] t) := by
  intro pins s σ H Q I h
  obtain ⟨nm, q, N, bs, bm, sn, sub, ab, col, dd, k0, k1, k2, k3, k5, hC, hbm⟩ := T.cls
  refine wpAny_Call_Name_kw (ld_glob I hg hm ?_ hdb)
  refine PySem.W.callWith_K (h₀ := X.base) I.ok.mod.kin T.kC (thn (ha.run pos pins s σ H _ I h) fun us s1 ⟨vs, H1, I1, r1, hz, q1⟩ => ⟨I1.kIn, ?_⟩) he hpl
  show wpAny _ _ (call (.ref C) us) _ _ _
  obtain ⟨hp, g, dr, tk, os⟩ := s1
  have hsz : hp.objs.size ≤ hp.objs.size + 1 := Nat.le_succ _
  have hn : H1 (hp.objs.size + 1) = none := I1.hok.fresh hsz
  have hq := q1 (hp.objs.size + 1) hn
  have kk : ∀ b o, hp.get? b = some o → ((hp.push (PySem.W.kdv_tup us)).push (PySem.HandSPX.excO C hp.objs.size)).get? b = some o := fun b o e => Heap.get?_push_of_some _ (Heap.get?_push_of_some _ e)
  have hget : ((hp.push (PySem.W.kdv_tup us)).push (PySem.HandSPX.excO C hp.objs.size)).get? (hp.objs.size + 1) = some (PySem.HandSPX.excO C hp.objs.size) := by heap_get
  have I2 : Inv X pins σ (upd H1 (hp.objs.size + 1) (exo (hp.objs.size + 1) C none)) ⟨(hp.push (PySem.W.kdv_tup us)).push (PySem.HandSPX.excO C hp.objs.size), g, dr, tk, os⟩ :=
    I1.laid (t' := tk) (a := hp.objs.size + 1) (o := exo (hp.objs.size + 1) C none) (h' := (hp.push (PySem.W.kdv_tup us)).push (PySem.HandSPX.excO C hp.objs.size)) kk hsz (exo_ok hget)
  have r2 : Vals (V.ref (hp.objs.size + 1) :: (vs ++ [])) (Value.ref (hp.objs.size + 1) :: us) := .cons rfl (by rw [List.append_nil]; exact r1)
  have hus : us.length ≤ sizeLine := by
    rw [← Paired.length r1, sizeLine_eq]
    omega
  refine wpAny_call (PySem.HandSPX.call_own PySem.F.excBase_ValueError (fun Y => PySem.HandSPX.refsVE_contains Y bm hbm) (I1.kIn _ _ hC) (PySem.W.looks_findIn I1.kIn iC) (fun self => PySem.W.bind_fn I1.kIn self tI) hus
    (codeAny_mono (F _ X.stack _ _ (Value.ref (hp.objs.size + 1) :: us) _ _ (fun _ _ _ => False) (hr.make C us []) (I2.env0.make C us []) r2 hq) fun r s' hq' => ?_))
  cases r with
  | error er => exact hx pins σ _ _ er s' I2 hq'
  | ok fl =>
    cases fl with
    | ret u =>
      obtain ⟨v, H2, os2, bare2, un2, hok2, rv, ev, d, fs, ea, ed, hd1, q2⟩ := hq'
      subst ev
      obtain ⟨h2, g2, d2, t2, os'⟩ := s'
      exact ⟨rv, mk_end (raises_own T.exC T.tyC) I1 hsz kk un2 hok2 os2 bare2 ea ed hd1 q2⟩
    | next => exact False.elim hq'
    | brk => exact False.elim hq'
    | cont => exact False.elim hq'
end
end G
set_option Elab.async false
set_option linter.all false
set_option maxRecDepth 100000
set_option maxHeartbeats 2000000
set_option exponentiation.threshold 2000
namespace G
open PySem PySem.Spec PyProof.Rows L2 StX
section
variable {X : Cx} {CX : CXT} {k n : Nat} {f g C : Addr} {sp : Sp} {E : L2.St → XK} {x m : Str} {o e e2 : Expr} {es : List Expr} {te to tb : TE} {t : TA} {p pos apos : Pos}
theorem passSL : ∀ σ, PassesAt (L2.CX X.prog X.w) X σ ((fun _ => E0) σ) := fun σ pins H s e s' I h => passL pins σ H s e s' I h
theorem passS0 : ∀ σ, PassesAt CX0 X σ ((fun _ => E0) σ) := fun σ pins H s e s' I h => pass0 pins σ H s e s' I h
theorem run_fnRS {pins : List (Addr × Obj)} {σ : L2.St} {H : Hp} {s : Shared} {E : XK} {Q : VK} {us : List Value} {vs : List V} (F : FnR X.prog X.w X.K X.mg X.base CX k f sp) (hr : Room k X.A) (hx : PassesAt CX X σ E) (I : L2.Inv X pins σ H s) (r : Vals vs us) (q : sp vs H Q E) :
    wpAny (model X.prog X.w) X.A (call (.ref f) us) (EP X pins σ Q) X.xe s := by
  refine wpAny_call (codeAny_mono (F _ X.stack _ _ us _ _ E hr I.env0 r q) fun r s' h => ?_)
  cases r with
  | error e => exact hx pins H s e s' I h
  | ok fl =>
    cases fl with
    | ret u =>
      obtain ⟨v, H2, os2, bare2, un2, hok2, rv, qv⟩ := h
      exact ⟨v, H2, I.call' os2 un2 hok2 bare2 (fun b hb => (nomatch hb)), rv, qv⟩
    | next => exact False.elim h
    | brk => exact False.elim h
    | cont => exact False.elim h
def tCallZ (sp : Sp) (E : L2.St → XK) (t : TA) : TE := fun σ H Q => t σ H fun vs H1 => sp vs H1 Q (E σ)
/-- f(e, ..) -/
theorem pe_callZ (F : FnR X.prog X.w X.K X.mg X.base CX k f sp) (hr : Room k X.A) (hg : Gl X x) (hm : X.mg x = some (.ref f)) (hk : PySem.W.keepIn X.K (.ref f) = true) (hx : ∀ σ, PassesAt CX X σ (E σ))
    (ha : PA X (e :: es) t) (hdb : (x == ("__debug__" : Str)) = false := by decide) (he : starEach (e :: es) X.env = (false, eval e X.env) :: starEach es X.env := by rfl) (hpl : (backTo pos (starEach es X.env)).any (·.1) = false := by rfl) :
    PE X (.Call (.Name x p) (e :: es) [] pos) (tCallZ sp E t) := by
  refine ⟨fun pins s σ H Q I h => ?_⟩
  refine wpAny_Call_Name_kw (ld_glob I hg hm ?_ hdb)
  exact PySem.W.callWith_K (h₀ := X.base) I.ok.mod.kin hk (thn (ha.run pos pins s σ H _ I h) fun us s1 ⟨vs, H1, I1, r, q⟩ => ⟨I1.kIn, run_fnRS F hr (hx σ) I1 r q⟩) he hpl
def tMakeZ (C : Addr) (sp : Sp) (E : L2.St → XK) (t : TA) : TE := fun σ H Q => t σ H fun vs H1 => ∀ x dx, H1 x = none → H1 dx = none → dx ≠ x → sp (.ref x :: vs) (upd (upd H1 dx (.own x)) x (.ins C dx [])) (fun v H2 => v = .non ∧ Q (.ref x) H2) (E σ)
theorem run_makeZ {pins : List (Addr × Obj)} {σ : L2.St} {H : Hp} {s : Shared} {E : XK} {Q : VK} {us : List Value} {vs : List V} (M : Mk X.K C f) (F : FnR X.prog X.w X.K X.mg X.base CX k f sp) (hr : Room (k + 1) X.A) (hx : PassesAt CX X σ E) (I : L2.Inv X pins σ H s) (r : Vals vs us)
    (q : ∀ x dx, H x = none → H dx = none → dx ≠ x → sp (.ref x :: vs) (upd (upd H dx (.own x)) x (.ins C dx [])) (fun v H2 => v = .non ∧ Q (.ref x) H2) E) :
    wpAny (model X.prog X.w) X.A (call (.ref C) us) (EP X pins σ Q) X.xe s := by
  have I2 := I.made (C := C)
  have n1 : H s.heap.objs.size = none := I.hok.fresh (Nat.le_refl _)
  have n2 : H (s.heap.objs.size + 1) = none := I.hok.fresh (Nat.le_succ _)
  have hq := q _ _ n2 n1 (Nat.ne_of_lt (Nat.lt_succ_self _))
  refine wpAny_call (make_map I.kIn M.makes M.init (by simpa [PySem.W.isFn] using M.fn) (codeAny_mono (F _ X.stack _ _ (.ref (s.heap.objs.size + 1) :: us) _ _ E (hr.make C us []) (I2.env0.make C us []) (.cons (show L2.RelV (.ref _) (.ref _) from rfl) r) hq) fun r s' h => ?_))
  cases r with
  | error e => exact hx pins _ _ e s' I2 h
  | ok fl =>
    cases fl with
    | ret u =>
      obtain ⟨v, H3, os2, bare2, un2, hok2, rv, ev, q3⟩ := h
      subst ev
      exact ⟨rv, .ref _, H3, I2.call' os2 un2 hok2 bare2 (fun b hb => (nomatch hb)), rfl, q3⟩
    | next => exact False.elim h
    | brk => exact False.elim h
    | cont => exact False.elim h
/-- C(e, ..) -/
theorem pe_makeZ (M : Mk X.K C f) (F : FnR X.prog X.w X.K X.mg X.base CX k f sp) (hr : Room (k + 1) X.A) (hg : Gl X x) (hm : X.mg x = some (.ref C)) (hx : ∀ σ, PassesAt CX X σ (E σ))
    (ha : PA X (e :: es) t) (hdb : (x == ("__debug__" : Str)) = false := by decide) (he : starEach (e :: es) X.env = (false, eval e X.env) :: starEach es X.env := by rfl) (hpl : (backTo pos (starEach es X.env)).any (·.1) = false := by rfl) :
    PE X (.Call (.Name x p) (e :: es) [] pos) (tMakeZ C sp E t) := by
  refine ⟨fun pins s σ H Q I h => ?_⟩
  refine wpAny_Call_Name_kw (ld_glob I hg hm ?_ hdb)
  exact PySem.W.callWith_K (h₀ := X.base) I.ok.mod.kin M.kp (thn (ha.run pos pins s σ H _ I h) fun us s1 ⟨vs, H1, I1, r, q⟩ => ⟨I1.kIn, run_makeZ M F hr (hx σ) I1 r q⟩) he hpl
def tMethZ (C : Addr) (m : Str) (sp : Sp) (E : L2.St → XK) (ta : TE) (t : TA) : TE := fun σ H Q => ta σ H fun x H1 => ∃ a dx fs, x = .ref a ∧ H1 a = some (.ins C dx fs) ∧ fs.lookup m = none ∧ t σ H1 fun vs H2 => sp (x :: vs) H2 Q (E σ)
/-- o.m(e, ..) -/
theorem pe_methZ {pl : Sem Bool} (ho : PE X o to) (c : Cls X.K C) (hm : Meth X.K C m f) (F : FnR X.prog X.w X.K X.mg X.base CX k f sp) (hr : Room k X.A) (hx : ∀ σ, PassesAt CX X σ (E σ)) (ha : PA X (e :: es) t)
    (he : starEach (e :: es) X.env = (false, eval e X.env) :: starEach es X.env := by rfl) (hpl : (backTo pos (starEach es X.env)).any (·.1) = false := by rfl)
    (hc : eval (.Call (.Attribute o m apos) (e :: es) [] pos) X.env = (do
      let ov ← eval o X.env
      standAt apos.atName
      let (f, first) ← holding [ov] (getMethod ov m pl)
      callWith pos f first (backTo pos (starEach (e :: es) X.env)) (backToKw pos (keywordEach [] X.env))) := by rfl) :
    PE X (.Call (.Attribute o m apos) (e :: es) [] pos) (tMethZ C m sp E to t) := by
  refine ⟨fun pins s σ H Q I h => ?_⟩
  refine PySem.W.methodCall_KW (thn (ho.run pins s σ H _ I h) fun ov s1 ⟨x, H1, I1, rx, a, dx, fs, ex, ea, hl, q⟩ => ?_) hc
  subst ex
  cases (show ov = Value.ref a from rx)
  refine getmeth_ok I1 ea c hm hl ?_
  show wpAny _ _ (callWith pos (Value.ref f) [Value.ref a] (backTo pos (starEach (e :: es) X.env)) []) _ _ _
  exact PySem.W.callWith_K (h₀ := X.base) I1.ok.mod.kin hm.kp (thn (ha.run pos pins s1 σ H1 _ I1 q) fun us s2 ⟨vs, H2, I2, r, q2⟩ => ⟨I2.kIn, run_fnRS (vs := .ref a :: vs) F hr (hx σ) I2 (.cons (show L2.RelV (.ref a) (.ref a) from rfl) r) q2⟩) he hpl
/-- o.m() -/
theorem pe_methZ0 {pl : Sem Bool} (ho : PE X o to) (c : Cls X.K C) (hm : Meth X.K C m f) (F : FnR X.prog X.w X.K X.mg X.base CX k f sp) (hr : Room k X.A) (hx : ∀ σ, PassesAt CX X σ (E σ))
    (hc : eval (.Call (.Attribute o m apos) [] [] pos) X.env = (do
      let ov ← eval o X.env
      standAt apos.atName
      let (f, first) ← holding [ov] (getMethod ov m pl)
      callWith pos f first (backTo pos (starEach [] X.env)) (backToKw pos (keywordEach [] X.env))) := by rfl) :
    PE X (.Call (.Attribute o m apos) [] [] pos) (tMethZ C m sp E to tNil) := by
  refine ⟨fun pins s σ H Q I h => ?_⟩
  refine PySem.W.methodCall_KW (thn (ho.run pins s σ H _ I h) fun ov s1 ⟨x, H1, I1, rx, a, dx, fs, ex, ea, hl, q⟩ => ?_) hc
  subst ex
  cases (show ov = Value.ref a from rx)
  refine getmeth_ok I1 ea c hm hl ?_
  show wpAny _ _ (callWith pos (Value.ref f) [Value.ref a] (backTo pos (starEach [] X.env)) []) _ _ _
  exact PySem.W.callWith_K0 I1.kIn hm.kp (run_fnRS (vs := [.ref a]) F hr (hx σ) I1 (.cons (show L2.RelV (.ref a) (.ref a) from rfl) .nil) q)
/-- values that are not NotImplemented -/
def Pl (v : V) : Prop := (∃ c, v = .ref c) ∨ (∃ b, v = .bl b) ∨ ∃ i, v = .int i
def tBinI (C : Addr) (sp : Sp) (E : L2.St → XK) (ta tb : TE) : TE := fun σ H Q => ta σ H fun x H1 => tb σ H1 fun y H2 => ∃ a dx fs i, x = .ref a ∧ H2 a = some (.ins C dx fs) ∧ y = .int i ∧ sp [x, y] H2 (fun v H' => Pl v ∧ Q v H') (E σ)
def tBinO (C : Addr) (sp : Sp) (E : L2.St → XK) (ta tb : TE) : TE := fun σ H Q => ta σ H fun x H1 => tb σ H1 fun y H2 => ∃ a dx fs b dy gs, x = .ref a ∧ H2 a = some (.ins C dx fs) ∧ y = .ref b ∧ H2 b = some (.ins C dy gs) ∧ sp [x, y] H2 (fun v H' => Pl v ∧ Q v H') (E σ)
def tUnO (C : Addr) (sp : Sp) (E : L2.St → XK) (ta : TE) : TE := fun σ H Q => ta σ H fun x H1 => ∃ a dx fs, x = .ref a ∧ H1 a = some (.ins C dx fs) ∧ sp [x] H1 Q (E σ)
/-- the body of a def that may raise -/
theorem fnRX_of {P : Program} {w : World} {K : PySem.W.Frag} {mg : Str → Option Value} {base : Heap} {st : Stmt} {N ps : List Str} {k : Nat} {sp : Sp} {f : Addr} {name qual : Str} (D : DefM K name qual st ps f) (S : FnScope N ps (defScope st)) (len : ∀ vs H Q E, sp vs H Q E → vs.length = ps.length)
    (hbody : ∀ (cdv : Value) (A : Around) (outer : List Env) (s : Shared) (H : Hp) (vs : List V) (Q : VK) (E : XK), Room k (A.deeper (envOfC qual (defScope st) s.heap.objs.size f cdv)) → sp vs H Q E →
      ∃ t, PSs (cxOf (L2.CX P w) P w K mg base N qual (defScope st) f cdv A outer s H E) (defBody st) t ∧ t { nx := fun _ H' => Q .non H', rt := Q } (L2.start N vs) H) : FnR P w K mg base (L2.CX P w) (k + 1) f sp := by
  obtain ⟨fd, F, b⟩ := D
  exact ((F.okX S len hbody).raw b .nil).imp fun vs H Q E h => by rw [List.append_nil]; exact h
end
/-- what is raised is wished for -/
def HX (W : Wd) (Γ : Gam) (E : L2.St → XK) (x : Xn → Prop) : Prop := ∀ σ H, GOk W H σ Γ → XOk W H (E σ) x
theorem hx0 {W : Wd} {Γ : Gam} {E : L2.St → XK} : HX W Γ E fun _ => False := fun σ H _ n d H2 _ _ q => q.elim
theorem hx_of {W : Wd} {Γ : Gam} {E : XK} {x : Xn → Prop} (h : ∀ H', W.ok H' → W.wish H' → XOk W H' E x) : HX W Γ (fun _ => E) x := fun σ H G => h H G.ok G.wish
class Pln (α : Type) [Rep α] : Prop where
  at_ : ∀ {W : Wc} {H : Hp} {v : V} {a : α}, den W H v a → Pl v
/-- such data is never NotImplemented -/
def PlnG (α : Type) [Rep α] (G : Prop) : Prop := Pln α ∧ G
theorem plnG_in {α : Type} [Rep α] [i : Pln α] {G : Prop} (h : G) : PlnG α G := ⟨i, h⟩
instance : Pln Int := ⟨fun h => .inr (.inr ⟨_, h⟩)⟩
instance : Pln Bool := ⟨fun h => .inr (.inl ⟨_, h⟩)⟩
instance : Pln Stc := ⟨fun ⟨a, dx, hv, _⟩ => .inl ⟨a, hv⟩⟩
section
variable {W : Wd} {Γ : Gam} {ta : TA} {te tb to : TE} {B : Bs} {P : PT} {E : L2.St → XK} {x : Xn → Prop} {C : Addr}
theorem ev_callZ {α : Type} {rα : Rep α} {k : α → Prop} (hB : W.B = B) (hx : HX W Γ E x) (h : EvA W ta Γ fun ts => P (fun t => ∃ a : α, t = T a ∧ k a) x ts) : EvK W (tCallZ (spG B P) E ta) Γ k := fun σ H Q G c =>
  h σ H _ G fun vs H1 ts e1 d z => ⟨W, ts, _, x, hB, e1.ok, d, z, fun v H2 t e2 dt ⟨a, ea, q⟩ => by
    subst ea
    exact c v H2 a (e1.trans e2) dt q, hx σ H1 (G.ext e1)⟩
/-- the class of such data is at C, m is none of its fields -/
def OwnM (β : Type) [Rep β] (B : Bs) (C : Addr) (m : Str) (G : Prop) : Prop := ∃ c fl, Ins β c fl ∧ B.cl c = C ∧ m ∉ fl ∧ G
theorem ownM_in {β : Type} [Rep β] {c : Cn} {fl : List Str} [i : Ins β c fl] {B : Bs} {C : Addr} {m : Str} {G : Prop} (hC : B.cl c = C) (hm : m ∉ fl) (h : G) : OwnM β B C m G := ⟨c, fl, i, hC, hm, h⟩
theorem look_none {m : Str} : ∀ {fs : List (Str × V)}, m ∉ fs.map (·.1) → fs.lookup m = none
  | [], _ => rfl
  | (y, v) :: r, h => by
    have h1 : ¬ m = y := fun e => h (by rw [e]; exact List.mem_cons_self)
    have h2 : m ∉ r.map (·.1) := fun e => h (List.mem_cons_of_mem _ e)
    have h3 : (m == y) = false := by
      cases q : (m == y) with
      | false => rfl
      | true => exact absurd (eq_of_beq q) h1
    rw [List.lookup_cons, h3]
    exact look_none h2
theorem ev_methZ {α β : Type} {rα : Rep α} {rβ : Rep β} {m : Str} {k : α → Prop} (hB : W.B = B) (hx : HX W Γ E x)
    (h : EvK W to Γ fun s : β => OwnM β B C m (EvA W ta Γ fun ts => P (fun t => ∃ a : α, t = T a ∧ k a) x (T s :: ts))) : EvK W (tMethZ C m (spG B P) E to ta) Γ k := by
  subst hB
  refine fun σ H Q G c => h σ H _ G fun v H1 s e1 d ⟨cc, fl, iβ, hC, hm, z⟩ => ?_
  subst hC
  obtain ⟨p, dp, fs, hv, _, hH, hfl⟩ := iβ.at_ d
  refine ⟨p, dp, fs, hv, hH, look_none (by rw [hfl]; exact hm), ?_⟩
  refine z σ H1 _ (G.ext e1) fun vs H2 ts e2 d2 z2 => ?_
  exact ⟨W, _, _, x, rfl, e2.ok, .cons (t := T s) (Rep.mono e2.keep d) d2, z2, fun v H3 t e3 dt ⟨a, ea, q⟩ => by
    subst ea
    exact c v H3 a ((e1.trans e2).trans e3) dt q, hx σ H2 ((G.ext e1).ext e2)⟩
theorem ev_binI {α β : Type} {rα : Rep α} {rβ : Rep β} {k : α → Prop} (hB : W.B = B) (hx : HX W Γ E x)
    (h : EvK W to Γ fun s : β => EvK W te Γ fun i : Int => OwnG β B C (P (fun t => ∃ a : α, t = T a ∧ PlnG α (k a)) x [T s, T i])) : EvK W (tBinI C (spG B P) E to te) Γ k := by
  subst hB
  refine fun σ H Q G c => h σ H _ G fun v H1 s e1 d h1 => h1 σ H1 _ (G.ext e1) fun u H2 i e2 d2 ⟨cc, fl, iβ, hC, z⟩ => ?_
  subst hC
  have d' := Rep.mono (W := W.toWc) (a := s) e2.keep d
  obtain ⟨p, dp, fs, hv, _, hH, _⟩ := iβ.at_ d'
  exact ⟨p, dp, fs, i, hv, hH, d2, W, _, _, x, rfl, e2.ok, .cons (t := T s) d' (.cons (t := T i) d2 .nil), z, fun v H3 t e3 dt ⟨a, ea, pα, q⟩ => by
    subst ea
    exact ⟨pα.at_ dt, c v H3 a ((e1.trans e2).trans e3) dt q⟩, hx σ H2 ((G.ext e1).ext e2)⟩
theorem ev_binO {α β : Type} {rα : Rep α} {rβ : Rep β} {k : α → Prop} (hB : W.B = B) (hx : HX W Γ E x)
    (h : EvK W to Γ fun s : β => EvK W te Γ fun s2 : β => OwnG β B C (P (fun t => ∃ a : α, t = T a ∧ PlnG α (k a)) x [T s, T s2])) : EvK W (tBinO C (spG B P) E to te) Γ k := by
  subst hB
  refine fun σ H Q G c => h σ H _ G fun v H1 s e1 d h1 => h1 σ H1 _ (G.ext e1) fun u H2 s2 e2 d2 ⟨cc, fl, iβ, hC, z⟩ => ?_
  subst hC
  have d' := Rep.mono (W := W.toWc) (a := s) e2.keep d
  obtain ⟨p, dp, fs, hv, _, hH, _⟩ := iβ.at_ d'
  obtain ⟨p2, dp2, fs2, hv2, _, hH2, _⟩ := iβ.at_ d2
  exact ⟨p, dp, fs, p2, dp2, fs2, hv, hH, hv2, hH2, W, _, _, x, rfl, e2.ok, .cons (t := T s) d' (.cons (t := T s2) d2 .nil), z, fun v H3 t e3 dt ⟨a, ea, pα, q⟩ => by
    subst ea
    exact ⟨pα.at_ dt, c v H3 a ((e1.trans e2).trans e3) dt q⟩, hx σ H2 ((G.ext e1).ext e2)⟩
theorem ev_negO {α β : Type} {rα : Rep α} {rβ : Rep β} {k : α → Prop} (hB : W.B = B) (hx : HX W Γ E x)
    (h : EvK W to Γ fun s : β => OwnG β B C (P (fun t => ∃ a : α, t = T a ∧ k a) x [T s])) : EvK W (tUnO C (spG B P) E to) Γ k := by
  subst hB
  refine fun σ H Q G c => h σ H _ G fun v H1 s e1 d ⟨cc, fl, iβ, hC, z⟩ => ?_
  subst hC
  obtain ⟨p, dp, fs, hv, _, hH, _⟩ := iβ.at_ d
  exact ⟨p, dp, fs, hv, hH, W, _, _, x, rfl, e1.ok, .cons (t := T s) d .nil, z, fun v H3 t e3 dt ⟨a, ea, q⟩ => by
    subst ea
    exact c v H3 a (e1.trans e3) dt q, hx σ H1 (G.ext e1)⟩
/-- Stretch(lo, hi), in order or not -/
theorem ev_stretchZ {ta tb : TE} {k : Stc → Prop} (hB : W.B = B) (hC : B.cl .Stretch = C) (hx : HX W Γ E x)
    (h : EvK W ta Γ fun lo : Int => EvK W tb Γ fun hi : Int => (lo ≤ hi → k ⟨lo, hi⟩) ∧ (hi < lo → Small lo ∧ Small hi ∧ x ⟨.BadStretch, [("high", .i hi), ("low", .i lo)]⟩)) : EvK W (tMakeZ C (spSIX B) E (tCons ta (tCons tb tNil))) Γ k := by
  subst hB
  subst hC
  refine fun σ H Q G c => h σ H _ G fun v H1 lo e1 d1 h1 => h1 σ H1 _ (G.ext e1) fun u H2 hi e2 d2 ⟨hle, hlt⟩ => ?_
  intro xx dx nx ndx nex
  have o := e2.ok
  have m1 := fresh_mu o ndx
  have m2 := fresh_mu o nx
  have e3 : ∀ o', Ext W H2 (upd (upd H2 dx (.own xx)) xx o') := fun o' => ⟨fun a u _ q => by rw [upd_ne (ne_of_none q nx), upd_ne (ne_of_none q ndx)]; exact q, W.st _ _ _ (W.st _ _ _ o m1) m2⟩
  refine ⟨xx, dx, lo, hi, by cases d1; cases d2; rfl, upd_same, fun hl => ⟨rfl, ?_⟩, fun hl => ?_⟩
  · have okx : W.ok (upd (upd (upd (upd H2 dx (.own xx)) xx (.ins (W.B.cl .Stretch) dx [])) xx (.ins (W.B.cl .Stretch) dx [("low", .int lo)])) xx (.ins (W.B.cl .Stretch) dx (stcF lo hi))) :=
      W.st _ _ _ (W.st _ _ _ (W.st _ _ _ (W.st _ _ _ o m1) m2) m2) m2
    refine c (.ref xx) _ ⟨lo, hi⟩ ((e1.trans e2).trans ⟨fun a u _ q => ?_, okx⟩) ⟨xx, dx, rfl, m2, upd_same⟩ (hle hl)
    have n1 : a ≠ xx := ne_of_none q nx
    have n2 : a ≠ dx := ne_of_none q ndx
    rw [upd_ne n1, upd_ne n1, upd_ne n1, upd_ne n2]
    exact q
  · obtain ⟨s1, s2, xq⟩ := hlt hl
    refine ⟨s1, s2, fun d hd => ?_⟩
    have e4 := (e3 (.ins (W.B.cl .Stretch) dx []))
    have md := fresh_mu e4.ok hd
    exact hx σ H2 ((G.ext e1).ext e2) _ _ _ (e4.trans (Ext.new (o := .xd [("high", .int hi), ("low", .int lo)]) e4.ok hd)) (.inr ⟨d, _, rfl, md, upd_same, .cons (t := .i hi) rfl (.cons (t := .i lo) rfl .nil)⟩) xq
theorem ev_max2 {k : Int → Prop} (h : EvK W te Γ fun i : Int => EvK W tb Γ fun j : Int => k (max i j)) : EvK W (tCB (fun xs H Q => ∃ i j, xs = [.int i, .int j] ∧ Q (.int (if j > i then j else i)) H) (tCons te (tCons tb tNil))) Γ k := fun σ H Q G c =>
  h σ H _ G fun v H1 i e1 d h1 => h1 σ H1 _ (G.ext e1) fun u H2 j e2 d2 z => ⟨i, j, by rw [d, d2], c _ H2 (max i j) (e1.trans e2) (by show V.int _ = V.int _; congr 1; split <;> omega) z⟩
theorem ev_min2 {k : Int → Prop} (h : EvK W te Γ fun i : Int => EvK W tb Γ fun j : Int => k (min i j)) : EvK W (tCB (fun xs H Q => ∃ i j, xs = [.int i, .int j] ∧ Q (.int (if j < i then j else i)) H) (tCons te (tCons tb tNil))) Γ k := fun σ H Q G c =>
  h σ H _ G fun v H1 i e1 d h1 => h1 σ H1 _ (G.ext e1) fun u H2 j e2 d2 z => ⟨i, j, by rw [d, d2], c _ H2 (min i j) (e1.trans e2) (by show V.int _ = V.int _; congr 1; split <;> omega) z⟩
theorem ev_abs {k : Int → Prop} (h : EvK W te Γ fun i : Int => k (i.natAbs : Int)) : EvK W (tCB (fun xs H Q => ∃ i, xs = [.int i] ∧ Q (.int (if i < 0 then -i else i)) H) (tCons te tNil)) Γ k := fun σ H Q G c =>
  h σ H _ G fun v H1 i e1 d z => ⟨i, by rw [d], c _ H1 (i.natAbs : Int) e1 (by show V.int _ = V.int _; congr 1; split <;> omega) z⟩
theorem ev_sortedI {K : PySem.W.Frag} {k : List Int → Prop} (hK : W.B.K = K) (h : EvK W te Γ fun as : List Int => ∀ bs : List Int, bs.Perm as → bs.Pairwise (· ≤ ·) → k bs) : EvK W (tCB (rSortedI K) (tCons te tNil)) Γ k := by
  subst hK
  refine fun σ H Q G c => h σ H _ G fun v H1 as e1 ⟨p, vs, hv, hp, hd⟩ z => ?_
  obtain rfl := hd.ints
  refine ⟨p, as, by rw [hv], hp.sq, fun bs q hpm hpw hq => ?_⟩
  have e2 := Ext.new (o := .lst (bs.map V.int)) e1.ok hq
  exact c _ _ bs (e1.trans e2) ⟨q, _, rfl, Lq.new (fresh_mu e1.ok hq) upd_same, Dl.of_ints bs⟩ (z bs hpm hpw)
structure IsT (K : PySem.W.Frag) (C : Addr) : Prop where
  c : Cls K C
  f : PySem.W.findIn K (.ref C) "__class__" = some (some (.builtin "object.__class__"))
  s : PySem.W.specialIn K (.builtin "object.__class__") "__get__" = some (some (.builtin "getset_descriptor.__get__"))
  t : PySem.W.takesIn K (.builtin "object.__class__") = some true
  m : PySem.W.mroIn K C (.type "object") = some true
theorem kit_self {K : PySem.W.Frag} {C : Addr} : PySem.W.kitOne K (.ref C) (.ref C) = some true := by
  show (if (Value.ref C == Value.ref C) = true then some true else _) = some true
  rw [if_pos (beq_self_eq_true _)]
theorem ev_isiO {β : Type} {rβ : Rep β} {K : PySem.W.Frag} {C2 : Addr} {k : Bool → Prop} (hK : W.B.K = K) (h : EvK W te Γ fun _ : β => ∃ c fl b, Ins β c fl ∧ IsT K (W.B.cl c) ∧ PySem.W.kitOne K (.ref (W.B.cl c)) (.ref C2) = some b ∧ k b) :
    EvK W (tCB (rIsi K) (tCons te (tCons (tC (.ref C2)) tNil))) Γ k := by
  subst hK
  refine fun σ H Q E q => h σ H _ E fun v H1 a e1 d ⟨c, fl, b, i, T, hb, z⟩ => ?_
  obtain ⟨p, dp, fs, hv, _, hH, _⟩ := i.at_ d
  subst hv
  exact ⟨.ref p, .ref C2, _, _, b, rfl, .own C2, .base (.ins hH T.c T.f T.s T.t T.m), hb, q _ H1 b e1 rfl z⟩
end
/-- __init__ of an error: sh says which fields it gets from its arguments -/
def spEr (C : Addr) (sh : List V → List (Str × V) → Prop) : Sp := fun vs H Q E => ∃ a as fs, vs = .ref a :: as ∧ sh as fs ∧ H a = some (exo a C none) ∧
  ∀ d H2, H d = none → d ≠ a → H2 a = some (exo a C (some d)) → H2 d = some (exd d fs) → (∀ b, b ≠ a → b ≠ d → H2 b = H b) → Q .non H2
/-- sh over plain data -/
def ShT (sh : List V → List (Str × V) → Prop) (ts : List Ty) (fs : List (Str × Fv)) : Prop := ts.length ≤ 1000 ∧ ∀ (W : Wc) (H : Hp) vs, DT W H vs ts → ∃ gs, sh vs gs ∧ DF W H gs fs
section
variable {W : Wd} {Γ : Gam} {ta : TA} {te tb to : TE} {x : Xn → Prop} {C : Addr} {R : Po}
theorem sx_raise {c : Cn} {sh : List V → List (Str × V) → Prop} {Wx : WX} {B : Bs} (hB : W.B = B) (hC : B.cl c = C) (hx : HX W Γ (WE Wx) x) (h : EvA W ta Γ fun ts => ∃ fs, ShT sh ts fs ∧ x ⟨c, fs⟩) :
    Sx W (fun _ σ H => tMkO C (spEr C sh) [] ta σ H fun cls d H' => Wx cls d σ H') Γ R := by
  subst hB
  subst hC
  refine fun D σ H G O => h σ H _ G fun vs H1 ts e1 d ⟨fs, ⟨hl, hs⟩, xq⟩ => ⟨by rw [d.length]; exact hl, fun a ha => ?_⟩
  obtain ⟨gs, hsh, hdf⟩ := hs W.toWc H1 vs d
  refine ⟨a, vs ++ [], gs, rfl, by rw [List.append_nil]; exact hsh, upd_same, fun dd H2 hd hda h1 h2 h3 => ⟨rfl, dd, gs, h1, h2, ?_, ?_⟩⟩
  · rw [upd_ne hda] at hd
    exact hd
  · rw [upd_ne hda] at hd
    have e : upd (del H2 a) dd (.xd gs) = upd H1 dd (.xd gs) := by
      funext b
      by_cases hb : b = dd
      · subst hb
        rw [upd_same, upd_same]
      · rw [upd_ne hb, upd_ne hb]
        by_cases hba : b = a
        · subst hba
          rw [del_same, ha]
        · rw [del_ne hba, h3 b hba hb, upd_ne hba]
    rw [e]
    have e2 := Ext.new (o := .xd gs) e1.ok hd
    exact hx σ H1 (G.ext e1) ⟨c, fs⟩ (some dd) _ e2 (.inr ⟨dd, gs, rfl, fresh_mu e1.ok hd, upd_same, hdf.imp fun _ _ z => Fv.mono e2.keep z⟩) xq
/-- e.f of an error in hand -/
theorem ev_xfI {a : Addr} {cls : Value} {d : Option Addr} {f : Str} {k : Int → Prop} (hC : cls = .ref C) (h : EvK W te Γ fun e : Er => (e.a = a ∧ e.d = d) ∧ ∃ z : Int, e.n.fs.lookup f = some (.i z) ∧ k z) : EvK W (tXf a cls d C f te) Γ k := by
  refine fun σ H Q E c => h σ H _ E fun v H1 e e1 ⟨hv, xd⟩ ⟨⟨ha, hd⟩, z, hf, q⟩ => ?_
  subst ha
  subst hd
  rcases xd with ⟨h0, _⟩ | ⟨dd, vs, h1, _, h3, h4⟩
  · rw [h0] at hf
    cases hf
  · obtain ⟨v, hv2, dv⟩ := h4.at hf
    exact ⟨hv, hC, dd, vs, v, h1, h3, hv2, c v H1 z e1 dv q⟩
theorem ev_xfP {a : Addr} {cls : Value} {d : Option Addr} {f : Str} {k : Int × Int → Prop} (hC : cls = .ref C) (h : EvK W te Γ fun e : Er => (e.a = a ∧ e.d = d) ∧ ∃ z w : Int, e.n.fs.lookup f = some (.p z w) ∧ k (z, w)) : EvK W (tXf a cls d C f te) Γ k := by
  refine fun σ H Q E c => h σ H _ E fun v H1 e e1 ⟨hv, xd⟩ ⟨⟨ha, hd⟩, z, w, hf, q⟩ => ?_
  subst ha
  subst hd
  rcases xd with ⟨h0, _⟩ | ⟨dd, vs, h1, _, h3, h4⟩
  · rw [h0] at hf
    cases hf
  · obtain ⟨v, hv2, dv⟩ := h4.at hf
    exact ⟨hv, hC, dd, vs, v, h1, h3, hv2, c v H1 (z, w) e1 dv q⟩
end
section
variable {W : Wd} {Γ : Gam} {te : TE} {t u : TS} {R : Po} {g : TG}
theorem sx_seqA (h : Sx W (tAsg te g) Γ { R with nx := fun Γ' => Sx W u Γ' R }) : Sx W (tSeq (tAsg te g) u) Γ R := sx_seq h
theorem sx_seqD (h : Sx W (tDrop te) Γ { R with nx := fun Γ' => Sx W u Γ' R }) : Sx W (tSeq (tDrop te) u) Γ R := sx_seq h
theorem Sx.imp {R' : Po} (h : Sx W t Γ R') (n : ∀ Γ', R'.nx Γ' → R.nx Γ') (r : ∀ v, R'.rt v → R.rt v) (b : ∀ Γ', R'.bk Γ' → R.bk Γ') (c : ∀ Γ', R'.ct Γ' → R.ct Γ') : Sx W t Γ R := fun D σ H G O =>
  h D σ H G ⟨fun a b' d e f q => O.nx a b' d e f (n _ q), fun a b' d e f q => O.rt a b' d e f (r _ q), fun a b' d e f q => O.bk a b' d e f (b _ q), fun a b' d e f q => O.ct a b' d e f (c _ q)⟩
theorem sx_seqI (I : Gam → Prop) (h : Sx W t Γ { R with nx := I }) (k : ∀ Γ', I Γ' → Sx W u Γ' R) : Sx W (tSeq t u) Γ R := sx_seq (h.imp k (fun _ q => q) (fun _ q => q) fun _ q => q)
end
/-- the parts of an f-string, no heap changed -/
inductive JP (σ : L2.St) (H : Hp) : List TE → Nat → Prop
  | nil : JP σ H [] 0
  | cons {t : TE} {y : Str} {ts : List TE} {n : Nat} : (∀ Q : VK, Q (.str y) H → t σ H Q) → y.length ≤ 3000 → JP σ H ts n → JP σ H (t :: ts) (n + 1)
theorem js_ok {σ : L2.St} {H : Hp} {Q : Str → Hp → Prop} (k : ∀ out, Q out H) : ∀ {ts : List TE} {n : Nat} {acc : Str}, JP σ H ts n → acc.length + 3000 * n ≤ 100000 → tJs ts acc σ H Q
  | _, _, acc, .nil, _ => k acc
  | _, _, acc, .cons (y := y) (n := n) h hl r, hb => by
    have h2 := Str.length_append acc y
    exact h _ ⟨y, rfl, by unfold sizeLine; omega, js_ok k r (by omega)⟩
theorem Small.of {i : Int} (h1 : -1000000000000000000000000000000 ≤ i) (h2 : i ≤ 1000000000000000000000000000000) : Small i := by
  refine small_of (Nat.lt_of_le_of_lt (m := 1000000000000000000000000000000) (by omega) (by decide))
theorem isO_self {β : Type} [Rep β] {c : Cn} {fl : List Str} [i : Ins β c fl] {K : PySem.W.Frag} {B : Bs} {C2 : Addr} {k : Bool → Prop} (hT : IsT K (B.cl c)) (hC : B.cl c = C2) (h : k true) : ∃ (c : Cn) (fl : List Str) (b : Bool), Ins β c fl ∧ IsT K (B.cl c) ∧ PySem.W.kitOne K (.ref (B.cl c)) (.ref C2) = some b ∧ k b :=
  ⟨c, fl, true, i, hT, by rw [hC]; exact kit_self, h⟩
theorem isT_of {K : PySem.W.Frag} {W : Wd} {B : Bs} {c : Cn} (h : W.B = B) (t : IsT K (B.cl c)) : IsT K (W.B.cl c) := h ▸ t
theorem cl_of {W : Wd} {B : Bs} {c : Cn} {C : Addr} (h : W.B = B) (t : B.cl c = C) : W.B.cl c = C := h ▸ t
theorem xcl_of {W : Wd} {B : Bs} {c : Cn} {C : Addr} (h : W.B = B) (t : B.cl c = C) : Value.ref (W.B.cl c) = Value.ref C := by rw [h, t]
theorem fmt_int {σ : L2.St} {H : Hp} {te : TE} {i : Int} (h : ∀ Q : VK, Q (.int i) H → te σ H Q) (s : Small i) : ∀ Q : VK, Q (.str (toString i)) H → tFmt te σ H Q := fun Q q => h _ (.inr ⟨i, rfl, s, q⟩)
theorem txt_len {i : Int} (s : Small i) : (Str.ofString (toString i)).length ≤ 3000 := by
  have h := PySem.int_text_length_le (a := i) (k := 1920) (by decide) s
  rw [PySem.ofString_length]
  omega
section
variable {W : Wd} {Γ : Gam} {te tb to : TE}
/-- an f-string over plain data -/
def EvJ (W : Wd) (ts : List TE) (Γ : Gam) (acc : Str) (k : Str → Prop) : Prop := ∀ σ H (Q : Str → Hp → Prop), GOk W H σ Γ → (∀ out H', Ext W H H' → k out → Q out H') → tJs ts acc σ H Q
theorem ev_joined {ts : List TE} {k : Str → Prop} (h : EvJ W ts Γ Str.empty k) : EvK W (fun σ H Q => tJs ts Str.empty σ H fun out H1 => Q (.str out) H1) Γ k := fun σ H Q G c => h σ H _ G fun out H1 e q => c _ H1 out e rfl q
theorem ej_nil {acc : Str} {k : Str → Prop} (q : k acc) : EvJ W [] Γ acc k := fun σ H Q G c => c acc H (Ext.refl G.ok) q
theorem ej_cons {t : TE} {ts : List TE} {acc : Str} {k : Str → Prop} (h : EvK W t Γ fun y : Str => (acc ++ y).length ≤ 1000000 ∧ EvJ W ts Γ (acc ++ y) k) : EvJ W (t :: ts) Γ acc k := fun σ H Q G c =>
  h σ H _ G fun v H1 y e d ⟨hl, z⟩ => ⟨y, d, Nat.le_trans hl (by decide), z σ H1 _ (G.ext e) fun out H2 e2 q => c out H2 (e.trans e2) q⟩
theorem ev_fmtI {k : Str → Prop} (h : EvK W te Γ fun i : Int => Small i ∧ k (toString i)) : EvK W (tFmt te) Γ k := fun σ H Q G c =>
  h σ H _ G fun v H1 i e d ⟨s, q⟩ => .inr ⟨i, d, s, c _ H1 _ e rfl q⟩
end
theorem err_one {K : PySem.W.Frag} {C a : Addr} {f1 : Str} {x : V} {D : Ends} {σ : L2.St} {H : Hp} {first : TE} (T : OexC K C) (n1 : PySem.W.findIn K (.ref C) f1 = some none) (h0 : σ[0]? = some (some (.ref a))) (h1 : σ[1]? = some (some x))
    (hF : ∀ Q : VK, Q .non H → first σ H Q) (ha : H a = some (exo a C none)) (k : ∀ d H2, H d = none → d ≠ a → H2 a = some (exo a C (some d)) → H2 d = some (exd d [(f1, x)]) → (∀ b, b ≠ a → b ≠ d → H2 b = H b) → D.nx σ H2) :
    tSeq (tDrop first) (tOst K f1 (tVar 0) (tVar 1)) D σ H := by
  refine hF _ ⟨x, h1, .ref a, h0, a, C, rfl, T, n1, .inl ⟨ha, fun d hd hda => ?_⟩⟩
  exact k d _ hd hda upd_same (by rw [upd_ne hda]; exact upd_same) fun b hb hb2 => by rw [upd_ne hb, upd_ne hb2]
/-- GaugeError.__init__(self, text) -/
theorem first_ge {K : PySem.W.Frag} {C a : Addr} {σ : L2.St} {H : Hp} {J : TE} (T : OexC K C) (h0 : σ[0]? = some (some (.ref a))) (ha : H a = some (exo a C none)) (hJ : ∀ Q : VK, (∀ y, Q (.str y) H) → J σ H Q) : ∀ Q : VK, Q .non H → tVeI K (tCons (tVar 0) (tCons J tNil)) σ H Q := fun Q q =>
  ⟨_, h0, hJ _ fun y => ⟨a, C, _, rfl, by show 1 ≤ 1000; decide, T, ha, q⟩⟩
theorem var_is {σ : L2.St} {H : Hp} {i : Nat} {v : V} (h : σ[i]? = some (some v)) : ∀ Q : VK, Q v H → tVar i σ H Q := fun Q q => ⟨v, h, q⟩
theorem c_is {σ : L2.St} {H : Hp} {v : V} : ∀ Q : VK, Q v H → tC v σ H Q := fun Q q => q
end G
set_option maxRecDepth 100000
set_option maxHeartbeats 400000
set_option Elab.async false
set_option linter.all false
namespace G
open PySem PySem.Spec PyProof.Rows L2
/-- isinstance(e, c) of the error in hand, with or without a dict -/
def rIsF (K : PySem.W.Frag) (cls : Value) (d : Option Addr) (a : Addr) : List V → Hp → VK → Prop := fun xs H Q => ∃ D c cv b, cls = .ref D ∧ ExcC K D ∧ (d = none ∨ ∃ dd fs, d = some dd ∧ H dd = some (.xd fs)) ∧ xs = [.ref a, c] ∧ (∀ u, L2.RelV c u → u = cv) ∧ PySem.W.kitOne K (.ref D) cv = some b ∧ Q (.bl b) H
section
variable {W : Wd} {Γ : Gam} {te : TE}
theorem ev_isF {K : PySem.W.Frag} {B : Bs} {cls : Value} {d : Option Addr} {a : Addr} {v : V} {k : Bool → Prop} (hB : W.B = B) (hK : B.K = K)
    (h : EvK W te Γ fun e : Er => (e.a = a ∧ e.d = d) ∧ ∃ D cv b, cls = .ref D ∧ ExcC K D ∧ (∀ u, L2.RelV v u → u = cv) ∧ PySem.W.kitOne K (.ref D) cv = some b ∧ k b) : EvK W (tCB (rIsF K cls d a) (tCons te (tCons (tC v) tNil))) Γ k := by
  refine fun σ H Q E q => h σ H _ E fun u H1 e e1 ⟨hv, xd⟩ ⟨⟨ha, hd⟩, D, cv, b, hcls, T, hc, hk, z⟩ => ?_
  subst ha
  subst hd
  refine ⟨D, v, cv, b, hcls, T, ?_, by rw [hv], hc, hk, q _ H1 b e1 rfl z⟩
  rcases xd with ⟨_, h0⟩ | ⟨dd, vs, h1, _, h3, _⟩
  · exact .inl h0
  · exact .inr ⟨dd, vs, h1, h3⟩
end
/-- the class of a value -/
inductive TyV (K : PySem.W.Frag) (H : Hp) : V → Value → Prop
  | non : TyV K H .non (.type "NoneType")
  | ins {a C dx : Addr} {fs : List (Str × V)} : H a = some (.ins C dx fs) → TyV K H (.ref a) (.ref C)
  | tup {a : Addr} {xs : List V} : SqT K H a xs → TyV K H (.ref a) (.type "tuple")
  | lst {a : Addr} {xs : List V} : SqL K H a xs → TyV K H (.ref a) (.type "list")
section
variable {X : Cx} {CX : CXT} {n : Nat} {f C : Addr} {sp : Sp} {E : XK}
def rEqO (K : PySem.W.Frag) (C : Addr) (sp : Sp) (E : XK) : R2 := fun x y H Q => ∃ a dx fs tb, x = .ref a ∧ H a = some (.ins C dx fs) ∧ TyV K H y tb ∧ PySem.W.notFirst K C tb = true ∧ sp [x, y] H (fun v H' => ∃ b, v = .bl b ∧ Q (.bl b) H') E
def rNeO (K : PySem.W.Frag) (C : Addr) (sp : Sp) (E : XK) : R2 := fun x y H Q => ∃ a dx fs tb, x = .ref a ∧ H a = some (.ins C dx fs) ∧ TyV K H y tb ∧ PySem.W.notFirst K C tb = true ∧ sp [x, y] H (fun v H' => ∃ b, v = .bl b ∧ Q (.bl (!b)) H') E
end
class HasTy (α : Type) [Rep α] (ty : outParam (Bs → Value)) : Prop where
  at_ : ∀ {W : Wc} {H : Hp} {v : V} {a : α}, den W H v a → TyV W.B.K H v (ty W.B)
instance : HasTy Stc fun B => .ref (B.cl .Stretch) := ⟨fun ⟨a, dx, hv, m, h⟩ => by subst hv; exact .ins h⟩
instance : HasTy Unit fun _ => .type "NoneType" := ⟨fun h => by cases h; exact .non⟩
instance {α β : Type} [Rep α] [Rep β] : HasTy (α × β) fun _ => .type "tuple" := ⟨fun ⟨p, x, y, hv, s, _⟩ => by subst hv; exact .tup s.sq⟩
instance {α : Type} [Rep α] : HasTy (List α) fun _ => .type "list" := ⟨fun ⟨p, vs, hv, s, _⟩ => by subst hv; exact .lst s.sq⟩
/-- the right one is of a class that does not come first -/
def TyG (α : Type) [Rep α] (B : Bs) (C : Addr) (G : Prop) : Prop := ∃ ty, HasTy α ty ∧ PySem.W.notFirst B.K C (ty B) = true ∧ G
theorem tyG_in {α : Type} [Rep α] {ty : Bs → Value} [i : HasTy α ty] {B : Bs} {C : Addr} {G : Prop} (hn : PySem.W.notFirst B.K C (ty B) = true) (h : G) : TyG α B C G := ⟨ty, i, hn, h⟩
theorem nf_self {K : PySem.W.Frag} {C : Addr} : PySem.W.notFirst K C (.ref C) = true := by
  unfold PySem.W.notFirst
  rw [beq_self_eq_true, Bool.true_or]
section
variable {W : Wd} {Γ : Gam} {te tb : TE} {B : Bs} {P : PT} {C : Addr} {K : PySem.W.Frag} {E : XK}
theorem ev_eqO {α β : Type} {rα : Rep α} {rβ : Rep β} {k : Bool → Prop} (hB : W.B = B) (hK : B.K = K)
    (h : EvK W te Γ fun s : β => EvK W tb Γ fun y : α => OwnG β B C (TyG α B C (P (fun t => ∃ b : Bool, t = T b ∧ k b) (fun _ => False) [T s, T y]))) : EvK W (tOp (rEqO K C (spG B P) E) te tb) Γ k := by
  subst hB
  subst hK
  refine ev_two (h.imp fun s hs => hs.imp fun y ⟨c, fl, iβ, hC, ty, iα, hn, hp⟩ x z H Q o dx dz q => ?_)
  subst hC
  obtain ⟨p, dp, fs, hv, _, hH, _⟩ := iβ.at_ dx
  exact ⟨p, dp, fs, _, hv, hH, iα.at_ dz, hn, W, _, _, _, rfl, o, .cons (t := T s) dx (.cons (t := T y) dz .nil), hp, fun v H2 t e2 dt ⟨b, eb, kb⟩ => by
    subst eb
    exact ⟨b, dt, q _ H2 b e2 rfl kb⟩, fun n d2 H2 _ _ z => z.elim⟩
theorem ev_neO {α β : Type} {rα : Rep α} {rβ : Rep β} {k : Bool → Prop} (hB : W.B = B) (hK : B.K = K)
    (h : EvK W te Γ fun s : β => EvK W tb Γ fun y : α => OwnG β B C (TyG α B C (P (fun t => ∃ b : Bool, t = T b ∧ k (!b)) (fun _ => False) [T s, T y]))) : EvK W (tOp (rNeO K C (spG B P) E) te tb) Γ k := by
  subst hB
  subst hK
  refine ev_two (h.imp fun s hs => hs.imp fun y ⟨c, fl, iβ, hC, ty, iα, hn, hp⟩ x z H Q o dx dz q => ?_)
  subst hC
  obtain ⟨p, dp, fs, hv, _, hH, _⟩ := iβ.at_ dx
  exact ⟨p, dp, fs, _, hv, hH, iα.at_ dz, hn, W, _, _, _, rfl, o, .cons (t := T s) dx (.cons (t := T y) dz .nil), hp, fun v H2 t e2 dt ⟨b, eb, kb⟩ => by
    subst eb
    exact ⟨b, dt, q _ H2 (!b) e2 rfl kb⟩, fun n d2 H2 _ _ z => z.elim⟩
end
end G
set_option Elab.async false
set_option linter.all false
set_option maxRecDepth 100000
set_option maxHeartbeats 2000000
namespace G
open PySem PySem.Spec PyProof.Rows L2 StX
theorem mk_none {X : Cx} {pins : List (Addr × Obj)} {σ : L2.St} {H1 : Hp} {Q : XK} {hp hp2 h2 : Heap} {g1 g2 : Array GenState} {d1 d2 : Drawn} {t1 t2 : Nat} {os1 os2 : OsState} {a C : Addr}
    (r : Raises X (.ref C)) (I1 : L2.Inv X pins σ H1 ⟨hp, g1, d1, t1, os1⟩) (hsz : hp.objs.size ≤ a) (kk : ∀ b o, hp.get? b = some o → hp2.get? b = some o)
    (un : Un (frs X.stack) [] (upd H1 a (exo a C none)) (upd H1 a (exo a C none)) hp2 h2) (hok : HOk X.prog X.w (upd H1 a (exo a C none)) h2) (os : os2 = os1) (bare : AllBare g2) (q : Q (.ref C) none H1) :
    MkP X pins σ Q (.ref a) ⟨h2, g2, d2, t2, os2⟩ := by
  have na : H1 a = none := I1.hok.fresh hsz
  obtain ⟨t0, ho⟩ := exo_at hok upd_same
  obtain ⟨G, hG1, hG2⟩ := L2.restrict h2 (fun b => b != a)
  have hG : ∀ b o, b ≠ a → h2.get? b = some o → G.get? b = some o := fun b o hb ho => by rw [hG1 b (by simp [hb])]; exact ho
  have hne : ∀ b o, hp.get? b = some o → b ≠ a := fun b o h e => by
    have h1 := Heap.lt_size h
    rw [e] at h1
    exact Nat.lt_irrefl _ (Nat.lt_of_lt_of_le h1 hsz)
  have hokG : HOk X.prog X.w H1 G := by
    intro b o hb
    have hba : b ≠ a := ne_of_none hb na
    refine (hok b o (by rw [upd_ne hba]; exact hb)).stay (fun c u hc hu => ?_) (fun c hc => ?_) (fun c xs hc => ?_)
    · refine hG c u ?_ hu
      rcases hc with hc | hc
      · rw [hc]; exact hba
      · intro e
        subst e
        rw [upd_same] at hc
        exact exo_own (Option.some.inj hc)
    · by_cases e : c = a
      · subst e
        rw [upd_same] at hc
        exact absurd (Option.some.inj hc) exo_own
      · rw [upd_ne e] at hc
        exact hc
    · by_cases e : c = a
      · subst e
        rw [upd_same] at hc
        exact absurd (Option.some.inj hc) exo_tup
      · rw [upd_ne e] at hc
        exact hc
  have unG : Un (frs X.stack) [] H1 H1 hp G := by
    refine ⟨fun b o h n m z => ?_, fun b o h n m z => ?_, fun b o _ n _ => n, fun b o h z => ?_, fun b xs h => h, fun b o u h => h, fun b ps h => ⟨#[], by simpa using h⟩⟩
    · have e := hne b o h
      exact hG b o e (un.keep b o (kk b o h) (by rw [upd_ne e]; exact n) m z)
    · have e := hne b o h
      obtain ⟨sl, hs⟩ := un.slot b o (kk b o h) (by rw [upd_ne e]; exact n) m z
      exact ⟨sl, hG b _ e hs⟩
    · have e := hne b o h
      obtain ⟨o', hs⟩ := un.there b o (kk b o h) z
      exact ⟨o', hG b _ e hs⟩
  have IG : L2.Inv X pins σ H1 ⟨G, g2, d2, t2, os2⟩ := I1.call' (s' := ⟨G, g2, d2, t2, os2⟩) os unG hokG bare (fun b hb => (nomatch hb))
  refine ⟨a, _, _, ⟨G, g2, d2, t2, os2⟩, H1, .ref C, none, rfl, IG, fun b o h => ?_, hG2 a (by simp), ho, ⟨rfl, rfl⟩, rfl, rfl, na, rfl, bare, r, q⟩
  have e : b ≠ a := fun e => by
    subst e
    have h' : G.get? b = some o := h
    rw [hG2 b (by simp)] at h'
    cases h'
  have h' : G.get? b = some o := h
  rw [hG1 b (by simp [e])] at h'
  exact h'
section
variable {X : Cx} {CX : CXT} {k n : Nat} {f g C : Addr} {sp : Sp} {E : L2.St → XK} {x m : Str} {o e : Expr} {es : List Expr} {te : TE} {t : TA} {p p2 pos apos : Pos}
def tMkO0 (C : Addr) (sp : Sp) : L2.St → Hp → XK → Prop := fun σ H Q => ∀ a, H a = none → sp [.ref a] (upd H a (exo a C none)) (fun v H2 => v = .non ∧ H2 = upd H a (exo a C none) ∧ Q (.ref C) none H) (fun _ _ _ => False)
/-- C(), an error with its own __init__ that sets no field -/
theorem pmk_oexR0 {fI : Addr} (T : OexC X.K C) (iC : PySem.W.findIn X.K (.ref C) "__init__" = some (some (.ref fI))) (tI : PySem.W.typeIn X.K (.ref fI) = some (.type "function"))
    (F : FnR X.prog X.w X.K X.mg X.base CX k fI sp) (hr : Room (k + 1) X.A) (hx : Passes CX X (fun _ _ _ => False)) (hg : Gl X x) (hm : X.mg x = some (.ref C)) (hdb : (x == ("__debug__" : Str)) = false := by decide) :
    PMk X (.Call (.Name x p) [] [] pos) (tMkO0 C sp) := by
  intro pins s σ H Q I h
  obtain ⟨nm, q, N, bs, bm, sn, sub, ab, col, dd, k0, k1, k2, k3, k5, hC, hbm⟩ := T.cls
  refine wpAny_Call_Name_kw (ld_glob I hg hm ?_ hdb)
  refine PySem.W.callWith_K0 I.kIn T.kC ?_
  show wpAny _ _ (call (.ref C) []) _ _ _
  obtain ⟨hp, g, dr, tk, os⟩ := s
  have hsz : hp.objs.size ≤ hp.objs.size + 1 := Nat.le_succ _
  have hn : H (hp.objs.size + 1) = none := I.hok.fresh hsz
  have hq := h (hp.objs.size + 1) hn
  have kk : ∀ b o, hp.get? b = some o → ((hp.push (PySem.W.kdv_tup [])).push (PySem.HandSPX.excO C hp.objs.size)).get? b = some o := fun b o e => Heap.get?_push_of_some _ (Heap.get?_push_of_some _ e)
  have hget : ((hp.push (PySem.W.kdv_tup [])).push (PySem.HandSPX.excO C hp.objs.size)).get? (hp.objs.size + 1) = some (PySem.HandSPX.excO C hp.objs.size) := by heap_get
  have I2 : L2.Inv X pins σ (upd H (hp.objs.size + 1) (exo (hp.objs.size + 1) C none)) ⟨(hp.push (PySem.W.kdv_tup [])).push (PySem.HandSPX.excO C hp.objs.size), g, dr, tk, os⟩ :=
    I.laid (t' := tk) (a := hp.objs.size + 1) (o := exo (hp.objs.size + 1) C none) (h' := (hp.push (PySem.W.kdv_tup [])).push (PySem.HandSPX.excO C hp.objs.size)) kk hsz (exo_ok hget)
  refine wpAny_call (PySem.HandSPX.call_own PySem.F.excBase_ValueError (fun Y => PySem.HandSPX.refsVE_contains Y bm hbm) (I.kIn _ _ hC) (PySem.W.looks_findIn I.kIn iC) (fun self => PySem.W.bind_fn I.kIn self tI) (by decide)
    (codeAny_mono (F _ X.stack _ _ [Value.ref (hp.objs.size + 1)] _ _ (fun _ _ _ => False) (hr.make C [] []) (I2.env0.make C [] []) (.cons (show L2.RelV (.ref _) (.ref _) from rfl) .nil) hq) fun r s' hq' => ?_))
  cases r with
  | error er => exact hx pins σ _ _ er s' I2 hq'
  | ok fl =>
    cases fl with
    | ret u =>
      obtain ⟨v, H2, os2, bare2, un2, hok2, rv, ev, eH, q2⟩ := hq'
      subst ev
      subst eH
      obtain ⟨h2, g2, d2, t2, os'⟩ := s'
      exact ⟨rv, mk_none (raises_own T.exC T.tyC) I hsz kk un2 hok2 os2 bare2 q2⟩
    | next => exact False.elim hq'
    | brk => exact False.elim hq'
    | cont => exact False.elim hq'
/-- what the text says of C.__init__, a def at f, read from the class -/
structure CliT (K : PySem.W.Frag) (C f : Addr) : Prop where
  ga : PySem.W.specialIn K (.ref C) "__getattribute__" = some (some (.builtin "type.__getattribute__"))
  rd : PySem.W.readsIn K C (.type "type") = true
  at_ : PySem.W.findCls K (.ref C) (.type "type") "__init__" = some (.val (.ref f))
  kp : PySem.W.keepIn K (.ref f) = true
/-- C.__init__(self, ..) of an own class -/
theorem pe_cinit {pl : Sem Bool} (T : CliT X.K C f) (F : FnR X.prog X.w X.K X.mg X.base CX k f sp) (hr : Room k X.A) (hx : ∀ σ, PassesAt CX X σ (E σ)) (hm : X.mg x = some (.ref C)) (ha : PA X (e :: es) t) (hg : Gl X x := by rfl) (hdb : (x == ("__debug__" : Str)) = false := by decide)
    (hc : eval (.Call (.Attribute (.Name x p) "__init__" p2) (e :: es) [] pos) X.env = (do
      let ov ← eval (.Name x p) X.env
      standAt p2.atName
      let (f, first) ← holding [ov] (getMethod ov "__init__" pl)
      callWith pos f first (backTo pos (starEach (e :: es) X.env)) (backToKw pos (keywordEach [] X.env))) := by rfl)
    (he : starEach (e :: es) X.env = (false, eval e X.env) :: starEach es X.env := by rfl) (hpl : (backTo pos (starEach es X.env)).any (·.1) = false := by rfl) :
    PE X (.Call (.Attribute (.Name x p) "__init__" p2) (e :: es) [] pos) (tCallZ sp E t) := by
  refine ⟨fun pins s σ H Q I h => ?_⟩
  refine PySem.W.methodCall_KW (ld_glob I hg hm ?_ hdb) hc
  refine PySem.W.method_cls I.kIn T.ga (PySem.W.cls_value I.kIn T.rd T.at_ (by rfl) ?_)
  show wpAny _ _ (callWith pos (Value.ref f) [] (backTo pos (starEach (e :: es) X.env)) []) _ _ _
  exact PySem.W.callWith_K (h₀ := X.base) I.ok.mod.kin T.kp (thn (ha.run pos pins _ σ H _ (I.tok _) h) fun us s1 ⟨vs, H1, I1, r1, q⟩ => ⟨I1.kIn, run_fnRS F hr (hx σ) I1 r1 q⟩) he hpl
end
/-- __init__ of an error that sets no field -/
def spE0 (K : PySem.W.Frag) : Sp := fun vs H Q E => ∃ a C, vs = [.ref a] ∧ OexC K C ∧ H a = some (exo a C none) ∧ Q .non H
theorem sx_raise0 {W : Wd} {Γ : Gam} {x : Xn → Prop} {C : Addr} {R : Po} {c : Cn} {Wx : WX} {B : Bs} {K : PySem.W.Frag} (hB : W.B = B) (hC : B.cl c = C) (T : OexC K C) (hx : HX W Γ (WE Wx) x) (h : x ⟨c, []⟩) :
    Sx W (fun _ σ H => tMkO0 C (spE0 K) σ H fun cls d H' => Wx cls d σ H') Γ R := by
  subst hB
  subst hC
  refine fun D σ H G O a ha => ⟨a, _, rfl, T, upd_same, rfl, rfl, ?_⟩
  exact hx σ H G ⟨c, []⟩ none H (Ext.refl G.ok) (.inl ⟨rfl, rfl⟩) h
/-- a list of four of several kinds -/
structure L4 (α β γ δ : Type) where
  a : α
  b : β
  c : γ
  d : δ
  deriving DecidableEq
instance {α β γ δ : Type} [Rep α] [Rep β] [Rep γ] [Rep δ] : Rep (L4 α β γ δ) :=
  ⟨fun W H v t => ∃ p x y z u, v = .ref p ∧ Lq W H p [x, y, z, u] ∧ den W H x t.a ∧ den W H y t.b ∧ den W H z t.c ∧ den W H u t.d,
   fun e ⟨p, x, y, z, u, hv, s, h1, h2, h3, h4⟩ => ⟨p, x, y, z, u, hv, s.mono e, Rep.mono e h1, Rep.mono e h2, Rep.mono e h3, Rep.mono e h4⟩,
   fun D n ⟨p, x, y, z, u, hv, s, h1, h2, h3, h4⟩ => ⟨p, x, y, z, u, hv, s.grow D n, Rep.grow D n h1, Rep.grow D n h2, Rep.grow D n h3, Rep.grow D n h4⟩,
   fun D ⟨p, x, y, z, u, hv, s, h1, h2, h3, h4⟩ => ⟨p, x, y, z, u, hv, s.shrink D, Rep.shrink D h1, Rep.shrink D h2, Rep.shrink D h3, Rep.shrink D h4⟩⟩
theorem eqv4 (a b c d e f g h : PyData) : PyData.eqv (.list [a, b, c, d]) (.list [e, f, g, h]) = (PyData.eqv a e && (PyData.eqv b f && (PyData.eqv c g && PyData.eqv d h))) := by
  show (PyData.eqv a e && (PyData.eqv b f && (PyData.eqv c g && (PyData.eqv d h && true)))) = _
  rw [Bool.and_true]
instance {α β γ δ : Type} [Rep α] [Rep β] [Rep γ] [Rep δ] [Dat α] [Dat β] [Dat γ] [Dat δ] : Dat (L4 α β γ δ) where
  toD := fun x => .list [Dat.toD x.a, Dat.toD x.b, Dat.toD x.c, Dat.toD x.d]
  dp := fun ⟨p, x, y, z, u, hv, s, h1, h2, h3, h4⟩ => by
    subst hv
    exact .lst s.sq (.cons (Dat.dp h1) (.cons (Dat.dp h2) (.cons (Dat.dp h3) (.cons (Dat.dp h4) .nil))))
  dep := max (Dat.dep α) (max (Dat.dep β) (max (Dat.dep γ) (Dat.dep δ))) + 1
  ddep := fun x => by
    have h1 := Dat.ddep x.a
    have h2 := Dat.ddep x.b
    have h3 := Dat.ddep x.c
    have h4 := Dat.ddep x.d
    show max (Dat.toD x.a).depth (max (Dat.toD x.b).depth (max (Dat.toD x.c).depth (max (Dat.toD x.d).depth 0))) + 1 ≤ _
    omega
  inj := fun x y => by
    rw [eqv4, Bool.and_eq_true, Bool.and_eq_true, Bool.and_eq_true, Dat.inj, Dat.inj, Dat.inj, Dat.inj]
    cases x; cases y
    exact ⟨fun h => by obtain ⟨h1, h2, h3, h4⟩ := h; cases h1; cases h2; cases h3; cases h4; rfl, fun h => by cases h; exact ⟨rfl, rfl, rfl, rfl⟩⟩
  good := fun x => Dat.good x.a ∧ Dat.good x.b ∧ Dat.good x.c ∧ Dat.good x.d
  gshp := fun x h => by
    have h1 := Dat.gshp _ h.1
    have h2 := Dat.gshp _ h.2.1
    have h3 := Dat.gshp _ h.2.2.1
    have h4 := Dat.gshp _ h.2.2.2
    show ((Dat.toD x.a).canLay0 && ((Dat.toD x.b).canLay0 && ((Dat.toD x.c).canLay0 && ((Dat.toD x.d).canLay0 && true)))) = true
    rw [h1, h2, h3, h4]
    rfl
section
variable {W : Wd} {Γ : Gam} {ta tb tc td : TE}
theorem ev_lst4 {α β γ δ : Type} {rα : Rep α} {rβ : Rep β} {rγ : Rep γ} {rδ : Rep δ} {k : L4 α β γ δ → Prop} (h : EvK W ta Γ fun a : α => EvK W tb Γ fun b : β => EvK W tc Γ fun c : γ => EvK W td Γ fun d : δ => k ⟨a, b, c, d⟩) :
    EvK W (tLst (tCons ta (tCons tb (tCons tc (tCons td tNil))))) Γ k := fun σ H Q E c =>
  h σ H _ E fun x H1 a e1 d1 h1 => h1 σ H1 _ (E.ext e1) fun y H2 b e2 d2 h2 => h2 σ H2 _ ((E.ext e1).ext e2) fun u H3 b3 e3 d3 h3 => h3 σ H3 _ (((E.ext e1).ext e2).ext e3) fun w H4 b4 e4 d4 z => ⟨by show 4 ≤ sizeLine; decide, fun p hp =>
    have e5 := Ext.new (o := .lst [x, y, u, w]) e4.ok hp
    c _ _ ⟨a, b, b3, b4⟩ ((((e1.trans e2).trans e3).trans e4).trans e5) ⟨p, x, y, u, w, rfl, Lq.new (fresh_mu e4.ok hp) upd_same, Rep.mono (((e2.trans e3).trans e4).trans e5).keep d1, Rep.mono ((e3.trans e4).trans e5).keep d2, Rep.mono (e4.trans e5).keep d3, Rep.mono e5.keep d4⟩ z⟩
end
end G
set_option Elab.async false
set_option linter.all false
set_option maxRecDepth 100000
set_option maxHeartbeats 2000000
namespace G
open PySem PySem.Spec PyProof.Rows L2 StX
abbrev Own := List (Addr × List V)
abbrev keys (L : Own) : List Addr := L.map (·.1)
structure Ol (α : Type) where
  p : Addr
  vs : List V
  as : List α
instance {α : Type} [Rep α] : Rep (Ol α) :=
  ⟨fun W H v a => v = .ref a.p ∧ Dl (den W H) a.vs a.as, fun e h => ⟨h.1, h.2.imp fun _ _ d => Rep.mono e d⟩, fun D n h => ⟨h.1, h.2.imp fun _ _ d => Rep.grow D n d⟩, fun D h => ⟨h.1, h.2.imp fun _ _ d => Rep.shrink D d⟩⟩
def Wc.plusL (W : Wc) : List Addr → Wc
  | [] => W
  | k :: r => (W.plusL r).plus k
theorem plusL_mu {W : Wc} {a : Addr} : ∀ {ks : List Addr}, (W.plusL ks).mu a ↔ W.mu a ∨ a ∈ ks
  | [] => ⟨.inl, fun h => h.elim id fun h => nomatch h⟩
  | k :: r => by
    show ((W.plusL r).mu a ∨ a = k) ↔ _
    rw [plusL_mu (ks := r), List.mem_cons]
    constructor
    · rintro ((h | h) | h)
      · exact .inl h
      · exact .inr (.inr h)
      · exact .inr (.inl h)
    · rintro (h | h | h)
      · exact .inl (.inl h)
      · exact .inr h
      · exact .inl (.inr h)
theorem plusL_B {W : Wc} : ∀ {ks : List Addr}, (W.plusL ks).B = W.B
  | [] => rfl
  | _ :: r => plusL_B (ks := r)
theorem plusL_box {W : Wc} : ∀ {ks : List Addr}, (W.plusL ks).box = W.box
  | [] => rfl
  | _ :: r => plusL_box (ks := r)
theorem shrinkL {W : Wc} {H : Hp} {v : V} {t : Ty} : ∀ {ks : List Addr}, t.den (W.plusL ks) H v → t.den W H v
  | [], h => h
  | k :: _, h => shrinkL (t.r.shrink k h)
theorem fshrinkL {W : Wc} {H : Hp} {v : V} {t : Fv} : ∀ {ks : List Addr}, t.den (W.plusL ks) H v → t.den W H v
  | [], h => h
  | k :: _, h => fshrinkL (Fv.shrink k h)
def Wd.own (W : Wd) (F : Hp) (L : Own) (oF : W.ok F) (nF : ∀ k ∈ keys L, F k = none) : Wd where
  toWc := W.toWc.plusL (keys L)
  ok := fun H => W.ok H ∧ ∀ x ∈ L, H x.1 = some (.lst x.2)
  live := fun H a ⟨h, e⟩ m => by
    rcases plusL_mu.mp m with m | m
    · exact W.live H a h m
    · obtain ⟨x, hx, rfl⟩ := List.mem_map.mp m
      exact ⟨_, e x hx⟩
  st := fun H p o ⟨h, e⟩ m => ⟨W.st H p o h fun z => m (plusL_mu.mpr (.inl z)), fun x hx => by
    have hne : x.1 ≠ p := fun z => m (plusL_mu.mpr (.inr (by rw [← z]; exact List.mem_map.mpr ⟨x, hx, rfl⟩)))
    rw [upd_ne hne]
    exact e x hx⟩
  wish := fun H => Kp W.toWc F H
  wst := fun H H' k _ w a o m e => k a o (fun z => (plusL_mu.mp z).elim m fun z => by rw [nF a z] at e; cases e) (w a o m e)
  hasbox := fun H b ⟨h, _⟩ hb => W.hasbox H b h (by rw [plusL_box] at hb; exact hb)
  boxset := fun H b c i p s i' p' s' ⟨h, e⟩ hb q h1 h2 => by
    rw [plusL_box] at hb
    refine ⟨W.boxset H b c i p s i' p' s' h hb q h1 h2, fun x hx => ?_⟩
    have z : x.1 ≠ b := fun z => by
      have h3 := nF x.1 (List.mem_map.mpr ⟨x, hx, rfl⟩)
      rw [z] at h3
      exact fresh_mu oF h3 (W.boxmu b hb)
    rw [upd_ne z]
    exact e x hx
  boxmu := fun b hb => plusL_mu.mpr (.inl (W.boxmu b (by rw [plusL_box] at hb; exact hb)))
  oke := fun H H' ⟨h, e⟩ k => ⟨W.oke H H' h k, fun x hx => k _ _ (e x hx)⟩
/-- the world Wo is W with the own lists L kept apart -/
structure OwnW (W : Wd) (L : Own) (Wo : Wd) : Prop where
  B : Wo.B = W.B
  pin : ∀ H, Wo.ok H → ∀ x ∈ L, H x.1 = some (.lst x.2)
  err : ∀ (E : XK) (x : Xn → Prop), (∀ H', W.ok H' → W.wish H' → XOk W H' E x) → ∀ H', Wo.ok H' → Wo.wish H' → XOk Wo H' E x
section
variable {W : Wd} {F : Hp} {L L' : Own} {oF : W.ok F} {nF : ∀ k ∈ keys L, F k = none}
theorem own_ext {H H' : Hp} (o : (W.own F L oF nF).ok H) (e : Ext (W.own F L oF nF) H H') : Ext W H H' := ⟨fun a u m z => by
  by_cases h : a ∈ keys L
  · obtain ⟨x, hx, rfl⟩ := List.mem_map.mp h
    have h1 := o.2 x hx
    have h2 := e.ok.2 x hx
    rw [h1] at z
    cases z
    exact h2
  · exact e.keep a u (fun z => (plusL_mu.mp z).elim m h) z, e.ok.1⟩
theorem xdenL {H : Hp} {d : Option Addr} {fs : List (Str × Fv)} {ks : List Addr} (h : xden (W.toWc.plusL ks) H d fs) : xden W.toWc H d fs :=
  h.imp (fun h => h) fun ⟨dd, vs, h1, h2, h3, h4⟩ => ⟨dd, vs, h1, fun z => h2 (plusL_mu.mpr (.inl z)), h3, h4.imp fun _ _ z => fshrinkL z⟩
theorem own_w (wF : W.wish F) : OwnW W L (W.own F L oF nF) := by
  refine ⟨plusL_B, fun H o x hx => o.2 x hx, fun E x h H' o w n d H2 e xd xn => ?_⟩
  have wH : W.wish H' := W.wst F H' w o.1 wF
  have := h H' o.1 wH n d H2 (own_ext o e) (xdenL xd) xn
  have hB : (W.own F L oF nF).B = W.B := plusL_B
  rw [hB]
  exact this
end
/-- from L at H to L' at H' -/
def Stp (W : Wd) (L : Own) (H : Hp) (L' : Own) (H' : Hp) : Prop := Kp (W.toWc.plusL (keys L)) H H' ∧ ∀ k ∈ keys L', k ∈ keys L ∨ H k = none
theorem Stp.refl {W : Wd} {L : Own} {H : Hp} : Stp W L H L H := ⟨fun _ _ _ z => z, fun _ h => .inl h⟩
theorem Stp.trans {W : Wd} {L L1 L2 : Own} {H H1 H2 : Hp} (o1 : W.ok H1) (a : Stp W L H L1 H1) (b : Stp W L1 H1 L2 H2) : Stp W L H L2 H2 := by
  refine ⟨fun x o m z => b.1 x o (fun q => ?_) (a.1 x o m z), fun k hk => ?_⟩
  · rcases plusL_mu.mp q with q | q
    · exact m (plusL_mu.mpr (.inl q))
    · rcases a.2 x q with q | q
      · exact m (plusL_mu.mpr (.inr q))
      · rw [q] at z; cases z
  · rcases b.2 k hk with h | h
    · exact a.2 k h
    · by_cases hm : k ∈ keys L
      · exact .inl hm
      · refine .inr ?_
        cases q : H k with
        | none => rfl
        | some u =>
          by_cases hw : W.mu k
          · obtain ⟨o, e⟩ := W.live H1 k o1 hw
            rw [h] at e; cases e
          · rw [a.1 k u (fun z => (plusL_mu.mp z).elim hw hm) q] at h
            cases h
structure PoM where
  nx : Own → Gam → Prop
  rt : Ty → Prop
  bk : Own → Gam → Prop := fun _ _ => False
  ct : Own → Gam → Prop := fun _ _ => False
structure EOkM (W : Wd) (F : Hp) (L : Own) (H : Hp) (D : Ends) (R : PoM) : Prop where
  nx : ∀ L' oF nF σ' H' Γ', Stp W L H L' H' → (keys L').Nodup → GOk (W.own F L' oF nF) H' σ' Γ' → R.nx L' Γ' → D.nx σ' H'
  rt : ∀ v H' (t : Ty), Ext W F H' → t.den W H' v → R.rt t → D.rt v H'
  bk : ∀ L' oF nF σ' H' Γ', Stp W L H L' H' → (keys L').Nodup → GOk (W.own F L' oF nF) H' σ' Γ' → R.bk L' Γ' → D.bk σ' H'
  ct : ∀ L' oF nF σ' H' Γ', Stp W L H L' H' → (keys L').Nodup → GOk (W.own F L' oF nF) H' σ' Γ' → R.ct L' Γ' → D.ct σ' H'
theorem EOkM.step {W : Wd} {F : Hp} {L L1 : Own} {H H1 : Hp} {D : Ends} {R : PoM} (h : EOkM W F L H D R) (o1 : W.ok H1) (s : Stp W L H L1 H1) : EOkM W F L1 H1 D R :=
  ⟨fun L' oF nF σ' H' Γ' s' => h.nx L' oF nF σ' H' Γ' (s.trans o1 s'), h.rt, fun L' oF nF σ' H' Γ' s' => h.bk L' oF nF σ' H' Γ' (s.trans o1 s'), fun L' oF nF σ' H' Γ' s' => h.ct L' oF nF σ' H' Γ' (s.trans o1 s')⟩
/-- a statement in a def with own lists L; F: the heap ahead of the first of them -/
def SxM (W : Wd) (F : Hp) (t : TS) (L : Own) (Γ : Gam) (R : PoM) : Prop :=
  ∀ D σ H oF nF, W.wish F → (keys L).Nodup → GOk (W.own F L oF nF) H σ Γ → EOkM W F L H D R → t D σ H
theorem own_gok_nil {W : Wd} {F H : Hp} {σ : L2.St} {Γ : Gam} {oF : W.ok F} {nF : ∀ k ∈ keys [], F k = none} (k : Kp W.toWc F H) (G : GOk W H σ Γ) : GOk (W.own F [] oF nF) H σ Γ := ⟨⟨G.ok, fun _ h => nomatch h⟩, k, G.at_, G.len⟩
theorem own_gok_out {W : Wd} {F H : Hp} {L : Own} {σ : L2.St} {Γ : Gam} {oF : W.ok F} {nF : ∀ k ∈ keys L, F k = none} (wF : W.wish F) (G : GOk (W.own F L oF nF) H σ Γ) : GOk W H σ Γ :=
  ⟨G.ok.1, W.wst F H G.wish G.ok.1 wF, fun i t h => let ⟨v, h1, h2⟩ := G.at_ i t h; ⟨v, h1, shrinkL h2⟩, G.len⟩
theorem own_stp {W : Wd} {F H H' : Hp} {L : Own} {oF : W.ok F} {nF : ∀ k ∈ keys L, F k = none} (e : Ext (W.own F L oF nF) H H') : Stp W L H L H' := ⟨e.keep, fun _ h => .inl h⟩
section
variable {W : Wd} {F : Hp} {L : Own} {Γ : Gam} {ta tb te : TE} {tt : TT} {t u : TS} {R : PoM} {g : TG}
/-- into the part with own lists -/
theorem sx_own {R : Po} (h : ∀ F, SxM W F t [] Γ { nx := fun _ => R.nx, rt := R.rt, bk := fun _ => R.bk, ct := fun _ => R.ct }) : Sx W t Γ R := fun D σ H G O =>
  h H D σ H G.ok (fun _ z => nomatch z) G.wish .nil (own_gok_nil (fun _ _ _ z => z) G)
    ⟨fun L' oF nF σ' H' Γ' s _ G' q => O.nx σ' H' Γ' ⟨G'.wish, G'.ok.1⟩ (own_gok_out G.wish G') q, fun v H' t e d q => O.rt v H' t e d q,
     fun L' oF nF σ' H' Γ' s _ G' q => O.bk σ' H' Γ' ⟨G'.wish, G'.ok.1⟩ (own_gok_out G.wish G') q, fun L' oF nF σ' H' Γ' s _ G' q => O.ct σ' H' Γ' ⟨G'.wish, G'.ok.1⟩ (own_gok_out G.wish G') q⟩
theorem eok_un {D : Ends} {H : Hp} {oF : W.ok F} {nF : ∀ k ∈ keys L, F k = none} (nd : (keys L).Nodup) (O : EOkM W F L H D R) (wk : Kp W.toWc F H) (o : (W.own F L oF nF).ok H) : EOk (W.own F L oF nF) H D { nx := R.nx L, rt := R.rt, bk := R.bk L, ct := R.ct L } :=
  ⟨fun σ' H' Γ' e G q => O.nx L oF nF σ' H' Γ' (own_stp e) nd G q, fun v H' t e d q => O.rt v H' t (Ext.trans (W := W) ⟨wk, o.1⟩ (own_ext o e)) (shrinkL d) q,
   fun σ' H' Γ' e G q => O.bk L oF nF σ' H' Γ' (own_stp e) nd G q, fun σ' H' Γ' e G q => O.ct L oF nF σ' H' Γ' (own_stp e) nd G q⟩
/-- a statement that leaves the own lists -/
theorem sxm_pure (h : ∀ Wo, OwnW W L Wo → Sx Wo t Γ { nx := R.nx L, rt := R.rt, bk := R.bk L, ct := R.ct L }) : SxM W F t L Γ R := fun D σ H oF nF wF nd G O =>
  h _ (own_w wF) D σ H G (eok_un nd O G.wish G.ok)
theorem sxm_seq (h : SxM W F t L Γ { R with nx := fun L' Γ' => SxM W F u L' Γ' R }) : SxM W F (tSeq t u) L Γ R := fun D σ H oF nF wF nd G O =>
  h _ σ H oF nF wF nd G ⟨fun L' oF nF σ' H' Γ' s nd' G' q => q D σ' H' oF nF wF nd' G' (O.step G'.ok.1 s), O.rt, O.bk, O.ct⟩
theorem SxM.imp {R' : PoM} (h : SxM W F t L Γ R') (n : ∀ L Γ', R'.nx L Γ' → R.nx L Γ') (r : ∀ v, R'.rt v → R.rt v) (b : ∀ L Γ', R'.bk L Γ' → R.bk L Γ') (c : ∀ L Γ', R'.ct L Γ' → R.ct L Γ') : SxM W F t L Γ R := fun D σ H oF nF wF nd G O =>
  h D σ H oF nF wF nd G ⟨fun L' oF nF σ' H' Γ' s nd' G' q => O.nx L' oF nF σ' H' Γ' s nd' G' (n _ _ q), fun v H' t e d q => O.rt v H' t e d (r _ q), fun L' oF nF σ' H' Γ' s nd' G' q => O.bk L' oF nF σ' H' Γ' s nd' G' (b _ _ q), fun L' oF nF σ' H' Γ' s nd' G' q => O.ct L' oF nF σ' H' Γ' s nd' G' (c _ _ q)⟩
theorem sxm_next (q : R.nx L Γ) : SxM W F tNext L Γ R := sxm_pure fun Wo _ => sx_next q
theorem fresh_F {H : Hp} {p : Addr} (oH : W.ok H) (wk : Kp W.toWc F H) (n : H p = none) : F p = none := by
  cases q : F p with
  | none => rfl
  | some u =>
    rw [wk p u (fresh_mu oH n) q] at n
    cases n
/-- x = a new list, from now on an own one -/
theorem sxm_new {β : Type} {rβ : Rep β} {i : Nat} (h : ∀ Wo, OwnW W L Wo → EvF Wo te Γ fun bs : List β => ∀ p vs, R.nx ((p, vs) :: L) (Γ.set i (some (T (Ol.mk p vs bs))))) : SxM W F (tAsg te (gName i)) L Γ R := fun D σ H oF nF wF nd G O => by
  refine h _ (own_w wF) σ H _ G fun p H1 vs bs n e hp hb q => ?_
  have nFp : F p = none := fresh_F G.ok.1 G.wish n
  have hpk : p ∉ keys L := fun hk => by
    obtain ⟨x, hx, e1⟩ := List.mem_map.mp hk
    have := G.ok.2 x hx
    rw [e1, n] at this
    cases this
  have nF' : ∀ k ∈ keys ((p, vs) :: L), F k = none := fun k hk => by
    rcases List.mem_cons.mp hk with rfl | hk
    · exact nFp
    · exact nF k hk
  have s : Stp W L H ((p, vs) :: L) H1 := ⟨e.keep, fun k hk => by
    rcases List.mem_cons.mp hk with rfl | hk
    · exact .inr n
    · exact .inl hk⟩
  have G1 := G.ext e
  have kp : Kp ((W.toWc.plusL (keys L)).plus p) H H1 := fun b o m z => e.keep b o (fun z => m (.inl z)) z
  have G2 : GOk (W.own F ((p, vs) :: L) oF nF') H1 σ Γ := ⟨⟨G1.ok.1, fun x hx => by
    rcases List.mem_cons.mp hx with rfl | hx
    · exact hp
    · exact G1.ok.2 x hx⟩, G1.wish, fun j t ht => by
      obtain ⟨v, h1, h2⟩ := G.at_ j t ht
      exact ⟨v, h1, Ty.mono kp (t.r.grow p n h2)⟩, G.len⟩
  exact O.nx _ oF nF' _ H1 _ s (List.nodup_cons.mpr ⟨hpk, nd⟩) (G2.set i (t := T (Ol.mk p vs bs)) ⟨rfl, hb⟩) (q p vs)
theorem keys_set {k : Nat} {p : Addr} {vs vs' : List V} (h : L[k]? = some (p, vs)) : keys (L.set k (p, vs')) = keys L := by
  refine List.ext_getElem? fun i => ?_
  rw [List.getElem?_map, List.getElem?_map, List.getElem?_set]
  by_cases e : k = i
  · subst e
    rw [if_pos rfl]
    have hl : k < L.length := (List.getElem?_eq_some_iff.mp h).1
    rw [if_pos hl, h]
    rfl
  · rw [if_neg e]
/-- an own list changes at its place -/
theorem own_put {H : Hp} {σ : L2.St} {D : Ends} {oF : W.ok F} {nF : ∀ k ∈ keys L, F k = none} {k i : Nat} {p : Addr} {vs vs' : List V} {β : Type} {rβ : Rep β} {bs : List β} (nd : (keys L).Nodup) (G : GOk (W.own F L oF nF) H σ Γ) (O : EOkM W F L H D R)
    (hk : L[k]? = some (p, vs)) (hi : σ[i]? = some (some (.ref p))) (hb : Dl (den (W.toWc.plusL (keys L)) H) vs' bs) (q : R.nx (L.set k (p, vs')) (Γ.set i (some (T (Ol.mk p vs' bs))))) : D.nx σ (upd H p (.lst vs')) := by
  have hks : keys (L.set k (p, vs')) = keys L := keys_set hk
  have hmem : p ∈ keys L := List.mem_map.mpr ⟨_, List.mem_of_getElem? hk, rfl⟩
  have kp : Kp (W.toWc.plusL (keys L)) H (upd H p (.lst vs')) := fun b o m z => by
    have hne : b ≠ p := fun e => m (plusL_mu.mpr (.inr (by rw [e]; exact hmem)))
    rw [upd_ne hne]
    exact z
  have nF' : ∀ k' ∈ keys (L.set k (p, vs')), F k' = none := fun k' h => nF k' (by rw [hks] at h; exact h)
  have nmu : ¬ W.mu p := fresh_mu oF (nF p hmem)
  have s : Stp W L H (L.set k (p, vs')) (upd H p (.lst vs')) := ⟨kp, fun k' h => .inl (by rw [hks] at h; exact h)⟩
  have hl : k < L.length := (List.getElem?_eq_some_iff.mp hk).1
  have G2 : GOk (W.own F (L.set k (p, vs')) oF nF') (upd H p (.lst vs')) σ (Γ.set i (some (T (Ol.mk p vs' bs)))) := by
    refine ⟨⟨W.st _ _ _ G.ok.1 nmu, fun x hx => ?_⟩, fun a o m z => ?_, fun j t ht => ?_, by rw [List.length_set]; exact G.len⟩
    · obtain ⟨j, hj⟩ := List.getElem?_of_mem hx
      rw [List.getElem?_set] at hj
      by_cases e : k = j
      · rw [if_pos e, if_pos hl] at hj
        cases hj
        exact upd_same
      · rw [if_neg e] at hj
        have hne : x.1 ≠ p := fun z => by
          have h1 : (keys L)[j]? = some p := by rw [List.getElem?_map, hj, ← z]; rfl
          have h2 : (keys L)[k]? = some p := by rw [List.getElem?_map, hk]; rfl
          exact e ((List.getElem?_inj (by rw [List.length_map]; exact hl) nd).mp (h2.trans h1.symm))
        rw [upd_ne hne]
        exact G.ok.2 x (List.mem_of_getElem? hj)
    · have hne : a ≠ p := fun e => by rw [e, nF p hmem] at z; cases z
      rw [upd_ne hne]
      exact G.wish a o m z
    · show ∃ v, σ[j]? = some (some v) ∧ t.den (W.toWc.plusL (keys (L.set k (p, vs')))) _ v
      rw [hks]
      by_cases e : i = j
      · subst e
        have hl2 : i < Γ.length := by
          have := (List.getElem?_eq_some_iff.mp hi).1
          rw [G.len] at this
          exact this
        rw [List.getElem?_set_self hl2] at ht
        cases ht
        exact ⟨_, hi, rfl, hb.imp fun _ _ d => Rep.mono kp d⟩
      · rw [List.getElem?_set_ne e] at ht
        obtain ⟨v, h1, h2⟩ := G.at_ j t ht
        exact ⟨v, h1, Ty.mono kp h2⟩
  exact O.nx _ oF nF' σ _ _ s (by rw [hks]; exact nd) G2 q
theorem ol_at {Wo : Wd} {H : Hp} {σ : L2.St} {α : Type} {rα : Rep α} {i : Nat} {p : Addr} {vs : List V} {as : List α} (G : GOk Wo H σ Γ) (h : Γ[i]? = some (some (T (Ol.mk p vs as)))) : σ[i]? = some (some (.ref p)) ∧ Dl (den Wo H) vs as := by
  obtain ⟨v, h1, h2, h3⟩ := G.at_ i _ h
  subst h2
  exact ⟨h1, h3⟩
/-- xs.append(e), xs an own list -/
theorem sxm_append {α : Type} {rα : Rep α} {K : PySem.W.Frag} {i : Nat} (k : Nat) {p : Addr} {vs : List V} {as : List α} (hk : L[k]? = some (p, vs)) (hi : Γ[i]? = some (some (T (Ol.mk p vs as))))
    (h : ∀ Wo, OwnW W L Wo → EvK Wo te Γ fun a : α => as.length < 100000 ∧ ∀ v, R.nx (L.set k (p, vs ++ [v])) (Γ.set i (some (T (Ol.mk p (vs ++ [v]) (as ++ [a])))))) : SxM W F (tDrop (tBM K "list" rAppend (tVar i) (tCons te tNil))) L Γ R := fun D σ H oF nF wF nd G O => by
  obtain ⟨h1, h2⟩ := ol_at G hi
  refine ⟨_, h1, .inl ⟨rfl, _, .inl (.inl (G.ok.2 _ (List.mem_of_getElem? hk)))⟩, ?_⟩
  refine h _ (own_w wF) σ H _ G fun v H1 a e1 d ⟨hl, q⟩ => ?_
  have G1 := G.ext e1
  refine ⟨p, vs, v, rfl, rfl, G1.ok.2 _ (List.mem_of_getElem? hk), Nat.lt_of_lt_of_le (by rw [h2.length]; exact hl) (by decide : 100000 ≤ sizeLine), ?_⟩
  exact own_put nd G1 (O.step G1.ok.1 (own_stp e1)) hk h1 (Dl.append (h2.imp fun _ _ d => Rep.mono e1.keep d) (.cons d .nil)) (q v)
theorem Dl.set {α : Type} {f : V → α → Prop} : ∀ {vs : List V} {as : List α} {m : Nat} {v : V} {a : α}, Dl f vs as → f v a → Dl f (vs.set m v) (as.set m a)
  | _, _, _, _, _, .nil, _ => .nil
  | _, _, 0, _, _, .cons _ y, h => .cons h y
  | _, _, m + 1, _, _, .cons x y, h => .cons x (y.set h)
/-- for x in range(n), with own lists -/
theorem sxm_forR (h : ∀ Wo, OwnW W L Wo → EvK Wo te Γ fun n : Int => (-(2 ^ 62) ≤ n ∧ n < 2 ^ 62) ∧ ∃ I : Nat → Own → Gam → Prop, I 0 L Γ ∧
      (∀ (i : Nat) L' Γ', i < n.toNat → I i L' Γ' → ∀ Wo', OwnW W L' Wo' → Tg Wo' g Γ' (i : Int) fun Γ1 => SxM W F t L' Γ1 { R with nx := I (i + 1), ct := I (i + 1), bk := R.nx }) ∧ ∀ L' Γ', I n.toNat L' Γ' → R.nx L' Γ') : SxM W F (tFor (iRng1 (tCons te tNil)) g t) L Γ R := by
  refine fun D σ H oF nF wF nd G O => h _ (own_w wF) σ H _ G fun v H1 n e1 hv ⟨⟨b1, b2⟩, I, h0, hs, hl⟩ => ?_
  have G1 := G.ext e1
  have O1 := O.step G1.ok.1 (own_stp e1)
  refine ⟨n, congrArg (fun x => [x]) hv, b1, b2, for_range (lo := 0) (n := n.toNat) (fun i σ' H' => ∃ L' oF nF Γ', Stp W L H1 L' H' ∧ (keys L').Nodup ∧ GOk (W.own F L' oF nF) H' σ' Γ' ∧ I i L' Γ') ⟨L, oF, nF, Γ, .refl, nd, G1, h0⟩ ?_ ?_⟩
  · rintro i σ' H' hi ⟨L', oF', nF', Γ', s, nd', G', q⟩
    obtain ⟨js, hj⟩ := hs i L' Γ' hi q _ (own_w (oF := oF') (nF := nF') wF)
    refine hj σ' H' _ _ G' (by show V.int ((0 : Int) + i) = .int i; rw [Int.zero_add]) fun σ2 Γ2 G2 _ q2 => ?_
    exact q2 _ σ2 H' oF' nF' wF nd' G2 ⟨fun L3 oF3 nF3 σ3 H3 Γ3 s3 nd3 G3 q3 => ⟨L3, oF3, nF3, Γ3, s.trans G'.ok.1 s3, nd3, G3, q3⟩, fun v3 H3 t3 e3 d3 q3 => O.rt v3 H3 t3 e3 d3 q3,
      fun L3 oF3 nF3 σ3 H3 Γ3 s3 nd3 G3 q3 => O1.nx L3 oF3 nF3 σ3 H3 Γ3 (s.trans G'.ok.1 s3) nd3 G3 q3, fun L3 oF3 nF3 σ3 H3 Γ3 s3 nd3 G3 q3 => ⟨L3, oF3, nF3, Γ3, s.trans G'.ok.1 s3, nd3, G3, q3⟩⟩
  · rintro σ' H' ⟨L', oF', nF', Γ', s, nd', G', q⟩
    exact O1.nx L' oF' nF' σ' H' Γ' s nd' G' (hl L' Γ' q)
inductive Frz (L : Own) : Gam → Gam → Prop
  | nil : Frz L [] []
  | own {α : Type} {rα : Rep α} {p : Addr} {vs : List V} {as : List α} {Γ Γ' : Gam} : (p, vs) ∈ L → Frz L Γ Γ' → Frz L (some (T (Ol.mk p vs as)) :: Γ) (some (T as) :: Γ')
  | same {t : Option Ty} {Γ Γ' : Gam} : Frz L Γ Γ' → Frz L (t :: Γ) (t :: Γ')
theorem Frz.len {Γ Γ' : Gam} (h : Frz L Γ Γ') : Γ.length = Γ'.length := by
  induction h with
  | nil => rfl
  | own _ _ ih => exact congrArg (· + 1) ih
  | same _ ih => exact congrArg (· + 1) ih
theorem frz_slots {H : Hp} {Γ Γ' : Gam} (nm : ∀ k ∈ keys L, ¬ W.mu k) (pin : ∀ x ∈ L, H x.1 = some (.lst x.2)) (f : Frz L Γ Γ') : ∀ (i : Nat) (t : Ty), Γ'[i]? = some (some t) → (∀ u v, Γ[i]? = some (some u) → u.den (W.toWc.plusL (keys L)) H v → t.den W.toWc H v) ∧ ∃ u, Γ[i]? = some (some u) := by
  induction f with
  | nil => intro i t h; simp at h
  | @own α rα p vs as Γ Γ' hm _ ih =>
    intro i t h
    cases i with
    | zero =>
      have h' : some (some (T as)) = some (some t) := by simpa using h
      cases h'
      refine ⟨fun u v hu hd => ?_, _, rfl⟩
      have hu' : some (some (T (Ol.mk p vs as))) = some (some u) := by simpa using hu
      cases hu'
      obtain ⟨hv, hb⟩ := hd
      exact ⟨p, vs, hv, ⟨nm p (List.mem_map.mpr ⟨_, hm, rfl⟩), pin _ hm⟩, hb.imp fun _ _ d => shrinkL (t := T _) d⟩
    | succ i => exact ih i t (by simpa using h)
  | @same t0 Γ Γ' _ ih =>
    intro i t h
    cases i with
    | zero =>
      have h' : some t0 = some (some t) := by simpa using h
      cases h'
      refine ⟨fun u v hu hd => ?_, _, rfl⟩
      have hu' : some (some t) = some (some u) := by simpa using hu
      cases hu'
      exact shrinkL hd
    | succ i => exact ih i t (by simpa using h)
/-- own lists come to rest: from now on they do not change -/
theorem sxm_freeze {Γ' : Gam} (f : Frz L Γ Γ') (h : SxM W F t [] Γ' R) : SxM W F t L Γ R := fun D σ H oF nF wF nd G O => by
  have nm : ∀ k ∈ keys L, ¬ W.mu k := fun k hk => fresh_mu oF (nF k hk)
  have G' : GOk (W.own F [] oF fun _ z => nomatch z) H σ Γ' := ⟨⟨G.ok.1, fun _ z => nomatch z⟩, G.wish, fun i t ht => by
    obtain ⟨h1, u, hu⟩ := frz_slots nm G.ok.2 f i t ht
    obtain ⟨v, h2, h3⟩ := G.at_ i u hu
    exact ⟨v, h2, h1 u v hu h3⟩, G.len.trans f.len⟩
  refine h D σ H oF (fun _ z => nomatch z) wF .nil G' ⟨fun L' oF' nF' σ' H' Γ2 s nd' G2 q => O.nx L' oF' nF' σ' H' Γ2 ?_ nd' G2 q, O.rt, fun L' oF' nF' σ' H' Γ2 s nd' G2 q => O.bk L' oF' nF' σ' H' Γ2 ?_ nd' G2 q, fun L' oF' nF' σ' H' Γ2 s nd' G2 q => O.ct L' oF' nF' σ' H' Γ2 ?_ nd' G2 q⟩ <;>
  exact ⟨fun a o m z => s.1 a o (fun q => m (plusL_mu.mpr (.inl q))) z, fun k hk => .inr ((s.2 k hk).resolve_left fun z => nomatch z)⟩
/-- data that holds no list -/
class NoLst (α : Type) [Rep α] : Prop where
  at_ : ∀ {W : Wc} {H : Hp} {v : V} {a : α} {D : Addr} {xs : List V}, H D = some (.lst xs) → den W H v a → den (W.plus D) H v a
instance : NoLst Int := ⟨fun _ h => h⟩
instance : NoLst Bool := ⟨fun _ h => h⟩
instance : NoLst Str := ⟨fun _ h => h⟩
instance : NoLst Unit := ⟨fun _ h => h⟩
theorem tq_nl {W : Wc} {H : Hp} {p D : Addr} {vs xs : List V} (h : H D = some (.lst xs)) (s : Tq W H p vs) : Tq (W.plus D) H p vs :=
  ⟨fun z => z.elim s.1 (fun z => by have s2 := s.2; rw [z, h] at s2; cases s2), s.2⟩
instance {α β : Type} [Rep α] [Rep β] [NoLst α] [NoLst β] : NoLst (α × β) := ⟨fun h ⟨p, x, y, hv, s, h1, h2⟩ => ⟨p, x, y, hv, tq_nl h s, NoLst.at_ h h1, NoLst.at_ h h2⟩⟩
instance {α β γ : Type} [Rep α] [Rep β] [Rep γ] [NoLst α] [NoLst β] [NoLst γ] : NoLst (T3 α β γ) := ⟨fun h ⟨p, x, y, z, hv, s, h1, h2, h3⟩ => ⟨p, x, y, z, hv, tq_nl h s, NoLst.at_ h h1, NoLst.at_ h h2, NoLst.at_ h h3⟩⟩
instance : NoLst Stc := ⟨fun h ⟨a, dx, hv, m, e⟩ => ⟨a, dx, hv, fun z => z.elim m (fun z => by rw [z, h] at e; cases e), e⟩⟩
theorem nolst_all {α : Type} [Rep α] [NoLst α] {W : Wc} {H : Hp} {v : V} {a : α} : ∀ {ks : List Addr}, (∀ k ∈ ks, ∃ xs, H k = some (.lst xs)) → den W H v a → den (W.plusL ks) H v a
  | [], _, h => h
  | k :: r, n, h => by
    obtain ⟨xs, e⟩ := n k List.mem_cons_self
    exact NoLst.at_ e (nolst_all (fun x hx => n x (List.mem_cons_of_mem _ hx)) h)
section
variable {oF : W.ok F} {nF : ∀ k ∈ keys L, F k = none}
theorem look_gok {H : Hp} {σ : L2.St} {Γ' : Gam} (wF : W.wish F) (f : Frz L Γ Γ') (G : GOk (W.own F L oF nF) H σ Γ) : GOk W H σ Γ' := by
  have nm : ∀ k ∈ keys L, ¬ W.mu k := fun k hk => fresh_mu oF (nF k hk)
  exact ⟨G.ok.1, W.wst F H G.wish G.ok.1 wF, fun i t ht => by
    obtain ⟨h1, u, hu⟩ := frz_slots nm G.ok.2 f i t ht
    obtain ⟨v, h2, h3⟩ := G.at_ i u hu
    exact ⟨v, h2, h1 u v hu h3⟩, G.len.trans f.len⟩
theorem look_ext {H H' : Hp} (o : (W.own F L oF nF).ok H) (e : Ext W H H') : Ext (W.own F L oF nF) H H' := ⟨fun a u m z => e.keep a u (fun q => m (plusL_mu.mpr (.inl q))) z, e.ok, fun x hx =>
  e.keep _ _ (fresh_mu oF (nF x.1 (List.mem_map.mpr ⟨x, hx, rfl⟩))) (o.2 x hx)⟩
theorem look_den {α : Type} [Rep α] [NoLst α] {H : Hp} {v : V} {a : α} (o : (W.own F L oF nF).ok H) (d : den W H v a) : den (W.own F L oF nF).toWc H v a :=
  nolst_all (fun k hk => by obtain ⟨x, hx, rfl⟩ := List.mem_map.mp hk; exact ⟨_, o.2 x hx⟩) d
/-- an expression that looks at own lists and gives data without lists -/
theorem look_K {α : Type} [rα : Rep α] [NoLst α] {Γ' : Gam} {k : α → Prop} (wF : W.wish F) (f : Frz L Γ Γ') (h : EvK W te Γ' k) : EvK (W.own F L oF nF) te Γ k := fun σ H Q G c =>
  h σ H Q (look_gok wF f G) fun v H' a e d q => c v H' a (look_ext G.ok e) (look_den (look_ext G.ok e).ok d) q
theorem look_T {Γ' : Gam} {k : Bool → Prop} (wF : W.wish F) (f : Frz L Γ Γ') (h : EvT W tt Γ' k) : EvT (W.own F L oF nF) tt Γ k := fun σ H Q G c =>
  h σ H Q (look_gok wF f G) fun H' b e q => c H' b (look_ext G.ok e) q
end
theorem sxm_ifB {Γ' : Gam} (f : Frz L Γ Γ') (h : EvT W tt Γ' fun b => (b = true → SxM W F t L Γ R) ∧ (b = false → SxM W F u L Γ R)) : SxM W F (tIfS tt t u) L Γ R := fun D σ H oF nF wF nd G O =>
  look_T wF f h σ H _ G fun H1 b e1 ⟨h1, h2⟩ => by
    have G1 := G.ext e1
    cases b with
    | true => exact h1 rfl D σ H1 oF nF wF nd G1 (O.step G1.ok.1 (own_stp e1))
    | false => exact h2 rfl D σ H1 oF nF wF nd G1 (O.step G1.ok.1 (own_stp e1))
theorem sxm_putB {α : Type} {rα : Rep α} [NoLst α] {i : Nat} (k : Nat) {ti : TE} {p : Addr} {vs : List V} {as : List α} {Γ' : Gam} (hk : L[k]? = some (p, vs)) (hi : Γ[i]? = some (some (T (Ol.mk p vs as)))) (f : Frz L Γ Γ')
    (h : EvK W te Γ' fun a : α => EvK W ti Γ' fun j : Int => ∃ m, ixN as.length j = some m ∧ ∀ v, R.nx (L.set k (p, vs.set m v)) (Γ.set i (some (T (Ol.mk p (vs.set m v) (as.set m a)))))) : SxM W F (tAsg te (gSub (tVar i) ti rSetL)) L Γ R := fun D σ H oF nF wF nd G O => by
  refine look_K wF f h σ H _ G fun v H1 a e1 d h' => ?_
  have G1 := G.ext e1
  obtain ⟨h1, h2⟩ := ol_at G1 hi
  refine ⟨_, h1, ?_⟩
  refine look_K wF f h' σ H1 _ G1 fun w H2 j e2 dj ⟨m, hm, q⟩ => ?_
  have G2 := G1.ext e2
  obtain ⟨_, h3⟩ := ol_at G2 hi
  refine ⟨p, vs, j, m, rfl, dj, G2.ok.2 _ (List.mem_of_getElem? hk), by rw [h3.length]; exact hm, ?_⟩
  exact own_put nd G2 (O.step G2.ok.1 (own_stp (e1.trans e2))) hk h1 (h3.set (Rep.mono e2.keep d)) (q v)
theorem evF_lst {α : Type} {rα : Rep α} {Wo : Wd} {ta : TA} {k : List α → Prop} (h : EvL Wo ta Γ fun as => as.length ≤ 100000 ∧ k as) : EvF Wo (tLst ta) Γ k := fun σ H Q E c =>
  h σ H _ E fun vs H1 as e1 ds ⟨hl, z⟩ => ⟨Nat.le_trans (by rw [ds.length]; exact hl) (by decide : 100000 ≤ sizeLine), fun p hp => by
    have e2 := Ext.new (o := .lst vs) e1.ok hp
    exact c p _ vs as (fresh_back e1.ok e1 hp) (e1.trans e2) upd_same (ds.imp fun _ _ d => Rep.mono (W := Wo.toWc.plus p) (fun b o m z => by rw [upd_ne (ne_of_none z hp)]; exact z) (Rep.grow p hp d)) z⟩
end
end G
set_option Elab.async false
set_option linter.all false
set_option maxRecDepth 100000
set_option maxHeartbeats 2000000
namespace G
open PySem PySem.Spec PyProof.Rows L2 StX
section
variable {X : Cx} {CX : CXT} {k n : Nat} {f g C p : Addr} {sp : Sp} {E : L2.St → XK} {x m : Str} {o e e2 : Expr} {es : List Expr} {te to tb : TE} {t : TA} {pp sp_ pos apos : Pos} {mc : Value}
theorem pe_appendK (K : PySem.W.Frag) (ho : PE X o to) (ha : PA X (e :: es) t) (hK : X.K = K := by rfl)
    (hbase : attributeBase o "append" X.env (eval o X.env) = eval o X.env := by rfl)
    (hfew : ((backTo pos (starEach (e :: es) X.env)).all (fun x => !x.1) && (backToKw pos (keywordEach [] X.env)).all (fun x => x.1.isSome)
      && decide ((e :: es).length + ([] : List Keyword).length + (if ([] : List Keyword).isEmpty then 0 else 1) < 30)) = true := by rfl)
    (hline : (apos.endLine == pos.line) = true := by rfl) (hs : starEach (e :: es) X.env = (false, eval e X.env) :: starEach es X.env := by rfl) (hplain : (backTo pos (starEach es X.env)).any (·.1) = false := by rfl) :
    PE X (.Call (.Attribute o "append" apos) (e :: es) [] pos) (tBM K "list" rAppend to t) := by
  subst hK
  exact pe_bm PySem.F.plainAttrs_list PySem.F.slot_list_append PySem.F.type_list_append mt_append ho ha hbase hfew hline hs hplain
/-- x(e, ..), x a local name that holds the class at C -/
def tMakeV (i : Nat) (C : Addr) (sp : Sp) (E : L2.St → XK) (t : TA) : TE := fun σ H Q => ∃ v, σ[i]? = some (some v) ∧ v = .ref C ∧ tMakeZ C sp E t σ H Q
/-- a star call's items -/
def tStarZ (K : PySem.W.Frag) (te : TE) : TA := fun σ H Q => te σ H fun y H1 => ∃ a xs, y = V.ref a ∧ (SqT K H1 a xs ∨ SqL K H1 a xs) ∧ Q xs H1
/-- x(*y), x a local name that holds the class at C -/
theorem pe_makeSV (K : PySem.W.Frag) {i : Nat} (M : Mk X.K C f) (F : FnR X.prog X.w X.K X.mg X.base CX k f sp) (hr : Room (k + 1) X.A) (hx : ∀ σ, PassesAt CX X σ (E σ)) (hN : X.N[i]? = some x) (hv : Vis X.env.scope x)
    (he : PE X e te) (hK : X.K = K := by rfl) (hdb : (x == ("__debug__" : Str)) = false := by decide) (hcd : (x == ("__classdict__" : Str)) = false := by decide) (hst : starEach [.Starred e sp_] X.env = [(true, eval e X.env)] := by rfl) :
    PE X (.Call (.Name x pp) [.Starred e sp_] [] pos) (tMakeV i C sp E (tStarZ K te)) := by
  subst hK
  refine ⟨fun pins s σ H Q I h => ?_⟩
  obtain ⟨v, h1, h2, h3⟩ := h
  subst h2
  refine wpAny_Call_Name_kw (thn ((pe_var (pos := pp) hN hv hdb hcd).run pins s σ H (fun v H' => v = .ref C ∧ tMakeZ C sp E (tStarZ X.K te) σ H' Q) I ⟨_, h1, rfl, h3⟩) fun u s0 ⟨y, H0, I0, ry, ey, q0⟩ => ?_)
  subst ey
  obtain rfl : u = Value.ref C := ry
  refine PySem.W.callWith_S (h₀ := X.base) I0.ok.mod.kin M.kp (thn (he.run pins s0 σ H0 _ I0 q0) fun v s1 ⟨y, H1, I1, ry, a, xs, ey, hxs, q⟩ => ?_) hst
  subst ey
  obtain rfl : v = Value.ref a := ry
  exact star_any I1 hxs fun us s2 I2 rv => ⟨I2.kIn, run_makeZ M F hr (hx σ) I2 rv q⟩
/-- C.m(e, ..), a class method -/
def tCMethZ (C : Addr) (sp : Sp) (E : L2.St → XK) (t : TA) : TE := fun σ H Q => t σ H fun vs H2 => sp (.ref C :: vs) H2 Q (E σ)
theorem cd_fnRS {pins : List (Addr × Obj)} {σ : L2.St} {H : Hp} {s : Shared} {E : XK} {Q : VK} {us : List Value} {vs : List V} (F : FnR X.prog X.w X.K X.mg X.base CX k f sp) (hr : Room k X.A) (hx : PassesAt CX X σ E) (I : L2.Inv X pins σ H s) (r : Vals vs us) (q : sp vs H Q E) :
    codeAny (model X.prog X.w) X.A (.call (.ref f) ⟨us, []⟩) (fun r s' => match r with
      | .ok (.ret v) => EP X pins σ Q v s'
      | .ok _ => False
      | .error e => X.xe e s') s := by
  refine codeAny_mono (F _ X.stack _ _ us _ _ E hr I.env0 r q) fun r s' h => ?_
  cases r with
  | error e => exact hx pins H s e s' I h
  | ok fl =>
    cases fl with
    | ret u =>
      obtain ⟨v, H2, os2, bare2, un2, hok2, rv, qv⟩ := h
      exact ⟨v, H2, I.call' os2 un2 hok2 bare2 (fun b hb => (nomatch hb)), rv, qv⟩
    | next => exact False.elim h
    | brk => exact False.elim h
    | cont => exact False.elim h
theorem run_cmZ {pins : List (Addr × Obj)} {σ : L2.St} {H : Hp} {s : Shared} {q : Addr} {E : XK} {Q : VK} {us : List Value} {vs : List V} (F : FnR X.prog X.w X.K X.mg X.base CX k g sp) (hr : Room k X.A) (hx : PassesAt CX X σ E) (I : Inv X ((q, PySem.W.methodObj (.ref g) (.ref C)) :: pins) σ H s)
    (r : Vals vs us) (h : sp (.ref C :: vs) H Q E) : wpAny (model X.prog X.w) X.A (call (.ref q) us) (EP X pins σ Q) X.xe s := by
  have z : wpAny (model X.prog X.w) X.A (call (.ref q) us) (EP X ((q, PySem.W.methodObj (.ref g) (.ref C)) :: pins) σ Q) X.xe s :=
    wpAny_call (PySem.W.method_call (ClX.pin_at I) (cd_fnRS (us := .ref C :: us) (vs := .ref C :: vs) F hr hx I (.cons rfl r) h))
  exact thn z fun _ _ y => ClX.unpinE y
theorem pe_cmethZ {pl : Sem Bool} (r : ClX.CRead X.K C mc) (c : ∃ p, ClX.CMet X.K C mc m p g) (F : FnR X.prog X.w X.K X.mg X.base CX k g sp) (hr : Room k X.A) (hx : ∀ σ, PassesAt CX X σ (E σ)) (hm : X.mg x = some (.ref C)) (ha : PA X (e :: es) t) (hg : Gl X x := by rfl) (hdb : (x == ("__debug__" : Str)) = false := by decide)
    (hst : starEach (e :: es) X.env = (false, eval e X.env) :: starEach es X.env := by rfl) (hpl : (backTo pos (starEach es X.env)).any (·.1) = false := by rfl)
    (ht : eval (.Call (.Attribute (.Name x pp) m apos) (e :: es) [] pos) X.env = (do
      let ov ← eval (.Name x pp) X.env
      standAt apos.atName
      let (f, first) ← holding [ov] (getMethod ov m pl)
      callWith pos f first (backTo pos (starEach (e :: es) X.env)) (backToKw pos (keywordEach [] X.env))) := by rfl) :
    PE X (.Call (.Attribute (.Name x pp) m apos) (e :: es) [] pos) (tCMethZ C sp E t) := by
  obtain ⟨p, c⟩ := c
  refine ⟨fun pins s σ H Q I h => ?_⟩
  refine PySem.W.methodCall_KW (pl := pl) (ld_glob I hg hm ?_ hdb) ht
  refine ClX.getmethcm_ok (I.tok _) r c fun s2 I2 => ?_
  refine ClX.callwith_cm I2 (ClX.base_none (I.tok _) (Nat.le_refl _)) c.fi (thn (ha.run pos _ s2 σ H _ I2 h) fun us s3 ⟨vs, H2, I3, rv, q2⟩ => ⟨⟨ClX.pin_at I3, I3.kIn⟩, ?_⟩) hst hpl
  exact run_cmZ F hr (hx σ) I3 rv q2
/-- e.f, a property that raises nothing, by a promise of values -/
def tPropZ (C : Addr) (sp : Sp) (ta : TE) : TE := fun σ H Q => ta σ H fun x H1 => ∃ a dx fs, x = .ref a ∧ H1 a = some (.ins C dx fs) ∧ sp [.ref a] H1 Q E0
end
end G
set_option Elab.async false
set_option linter.all false
set_option maxRecDepth 100000
set_option maxHeartbeats 2000000
namespace G
open PySem PySem.Spec PyProof.Rows L2 StX
structure Cv where
  c : Cn
instance : Rep Cv := ⟨fun W _ v a => v = .ref (W.B.cl a.c), fun _ h => h, fun _ _ h => h, fun _ h => h⟩
instance : NoLst Cv := ⟨fun _ h => h⟩
structure Tl (α : Type) where
  xs : List α
instance {α : Type} [Rep α] : Rep (Tl α) :=
  ⟨fun W H v as => ∃ p vs, v = .ref p ∧ Tq W H p vs ∧ Dl (den W H) vs as.xs,
   fun e ⟨p, vs, hv, s, h⟩ => ⟨p, vs, hv, s.mono e, h.imp fun _ _ x => Rep.mono e x⟩,
   fun D n ⟨p, vs, hv, s, h⟩ => ⟨p, vs, hv, s.grow D n, h.imp fun _ _ x => Rep.grow D n x⟩,
   fun D ⟨p, vs, hv, s, h⟩ => ⟨p, vs, hv, s.shrink D, h.imp fun _ _ x => Rep.shrink D x⟩⟩
section
variable {W : Wd} {Γ : Gam} {ta : TA} {te tb to tl : TE} {tt : TT} {g : TG} {B : Bs} {P : PT} {E : L2.St → XK} {x : Xn → Prop} {C : Addr} {K : PySem.W.Frag}
/-- [te for g in a tuple if tt] -/
theorem evF_lcT {α β : Type} {rα : Rep α} {rβ : Rep β} {vs : List Nat} {k : List β → Prop} (hK : W.B.K = K)
    (h : EvK W tl Γ fun as : Tl α => as.xs.length ≤ 100000 ∧ ∃ I : Nat → List β → Prop, I 0 [] ∧ (∀ W', Sub W W' → ∀ (i : Nat) (a : α) (bs : List β), as.xs[i]? = some a → I i bs → LcTurn W' g tt te vs Γ a (I (i + 1) bs) fun y : β => I (i + 1) (bs ++ [y])) ∧ ∀ bs, I as.xs.length bs → k bs) :
    EvF W (tLc (iTup K tl) g tt te vs) Γ k := by
  subst hK
  refine fun σ H Q E c => h σ H _ E fun v H1 as e1 ⟨p, xs, hv, hp, hd⟩ ⟨hl, I, h0, hs, hf⟩ => ⟨p, hv, ⟨xs, hp.sq⟩, fun D n => ?_⟩
  have G1 := E.ext e1
  have eD : Ext W H1 (upd H1 D (.lst [])) := Ext.new e1.ok n
  refine lc_tup (xs := xs) (fun i H' => Ext W H1 H' ∧ ∃ acc bs, H' D = some (.lst acc) ∧ Dl (den (W.toWc.plus D) H') acc bs ∧ acc.length ≤ i ∧ I i bs) ⟨eD, [], [], upd_same, .nil, Nat.le_refl _, h0⟩ (fun i H' _ ⟨e, _⟩ => (hp.mono e.keep).sq) ?_ ?_
  · rintro i x H' hx ⟨e, acc, bs, hD, hb, ha, q⟩
    obtain ⟨a, ea, da⟩ := hd.at hx
    have hil : i < as.xs.length := (List.getElem?_eq_some_iff.mp ea).1
    exact lc_turn (I := I (i + 1)) (P := fun H' => Ext W H1 H' ∧ ∃ acc bs, H' D = some (.lst acc) ∧ Dl (den (W.toWc.plus D) H') acc bs ∧ acc.length ≤ i + 1 ∧ I (i + 1) bs) (hs _ (Sub.plus (n := n) (o1 := e1.ok) (w1 := G1.wish)) i a bs ea q) G1 e hD hb da (by omega) fun H2 acc2 bs2 e2 hD2 hb2 hl2 q2 => ⟨e2, acc2, bs2, hD2, hb2, by omega, q2⟩
  · rintro H' ⟨e, acc, bs, hD, hb, ha, q⟩
    rw [hd.length] at q
    exact c D H' acc bs (fresh_back e1.ok e1 n) (e1.trans e) hD hb (hf bs q)
/-- a pure comprehension gives a new list -/
theorem lcF_turns {α β : Type} {rα : Rep α} {rβ : Rep β} {vs : List Nat} {as : List α} (p : α → Bool) (f : α → β) (hs : ∀ W', Sub W W' → ∀ a ∈ as, LcTurn W' g tt te vs Γ a (p a = false) fun y : β => p a = true ∧ y = f a) :
    ∀ W', Sub W W' → ∀ (i : Nat) (a : α) (bs : List β), as[i]? = some a → bs = ((as.take i).filter p).map f → LcTurn W' g tt te vs Γ a (bs = ((as.take (i + 1)).filter p).map f) fun y : β => bs ++ [y] = ((as.take (i + 1)).filter p).map f := by
  intro W' s i a bs ha e
  have ht : as.take (i + 1) = as.take i ++ [a] := by
    rw [List.take_succ, ha]; rfl
  obtain ⟨js, h1, h2⟩ := hs W' s a (List.mem_of_getElem? ha)
  refine ⟨js, h1, fun σ H v Q E d c => h2 σ H v Q E d fun σ' Γ' G m q2 => c σ' Γ' G m ?_⟩
  intro σ2 H2 Q2 E2 c2
  refine q2 σ2 H2 Q2 E2 fun H3 b e3 ⟨hy, hn⟩ => c2 H3 b e3 ⟨fun hb => (hy hb).imp fun y ⟨hp, hyf⟩ => ?_, fun hb => ?_⟩
  · show bs ++ [y] = ((as.take (i + 1)).filter p).map f
    rw [ht, List.filter_append, List.map_append, ← e, List.filter_cons_of_pos hp, hyf]; rfl
  · show bs = ((as.take (i + 1)).filter p).map f
    rw [ht, List.filter_append, List.map_append, ← e, List.filter_cons_of_neg (by rw [hn hb]; exact Bool.false_ne_true)]; simp
theorem evF_lcF {α β : Type} [rα : Rep α] [rβ : Rep β] {vs : List Nat} {k : List β → Prop} (p : α → Bool) (f : α → β) (hK : W.B.K = K)
    (h : EvK W tl Γ fun as : List α => as.length ≤ 100000 ∧ (∀ W', Sub W W' → ∀ a ∈ as, LcTurn W' g tt te vs Γ a (p a = false) fun y : β => p a = true ∧ y = f a) ∧ k ((as.filter p).map f)) :
    EvF W (tLc (iList K tl) g tt te vs) Γ k := evF_lc hK (h.imp fun as ⟨hl, hs, q⟩ => ⟨hl, fun i bs => bs = ((as.take i).filter p).map f, by simp, lcF_turns p f hs, fun bs e => by rw [e, List.take_length]; exact q⟩)
theorem evF_lcTF {α β : Type} [rα : Rep α] [rβ : Rep β] {vs : List Nat} {k : List β → Prop} (p : α → Bool) (f : α → β) (hK : W.B.K = K)
    (h : EvK W tl Γ fun as : Tl α => as.xs.length ≤ 100000 ∧ (∀ W', Sub W W' → ∀ a ∈ as.xs, LcTurn W' g tt te vs Γ a (p a = false) fun y : β => p a = true ∧ y = f a) ∧ k ((as.xs.filter p).map f)) :
    EvF W (tLc (iTup K tl) g tt te vs) Γ k := evF_lcT hK (h.imp fun as ⟨hl, hs, q⟩ => ⟨hl, fun i bs => bs = ((as.xs.take i).filter p).map f, by simp, lcF_turns p f hs, fun bs e => by rw [e, List.take_length]; exact q⟩)
def lexLe (p q : Int × Int) : Bool := decide (p.1 < q.1 ∨ (p.1 = q.1 ∧ p.2 ≤ q.2))
theorem lexLe_iff {p q : Int × Int} : lexLe p q = true ↔ p.1 < q.1 ∨ (p.1 = q.1 ∧ p.2 ≤ q.2) := by unfold lexLe; exact decide_eq_true_iff
theorem lexLe_trans (a b c : Int × Int) (h1 : lexLe a b = true) (h2 : lexLe b c = true) : lexLe a c = true := by rw [lexLe_iff] at *; omega
theorem lexLe_total (a b : Int × Int) : (lexLe a b || lexLe b a) = true := by
  rw [Bool.or_eq_true, lexLe_iff, lexLe_iff]; omega
theorem lexLe_anti (a b : Int × Int) (h1 : lexLe a b = true) (h2 : lexLe b a = true) : a = b := by
  rw [lexLe_iff] at h1 h2
  exact Prod.ext (by omega) (by omega)
def sortP (as : List (Int × Int)) : List (Int × Int) := as.mergeSort lexLe
theorem sortP_perm (as : List (Int × Int)) : (sortP as).Perm as := List.mergeSort_perm _ _
theorem sortP_sorted (as : List (Int × Int)) : (sortP as).Pairwise fun a b => lexLe a b = true := List.pairwise_mergeSort lexLe_trans lexLe_total _
theorem sortP_uniq {as bs : List (Int × Int)} (hp : bs.Perm as) (hs : bs.Pairwise fun a b => lexLe a b = true) : bs = sortP as :=
  List.Perm.eq_of_pairwise (fun a b _ _ => lexLe_anti a b) hs (sortP_sorted as) (hp.trans (sortP_perm as).symm)
/-- the ints of a pair that stands in the heap -/
def pairK (H : Hp) (v : V) : Int × Int := match v with
  | .ref t => match H t with
    | some (.tup [.int i, .int j]) => (i, j)
    | _ => (0, 0)
  | _ => (0, 0)
theorem pairK_of {W : Wc} {H : Hp} {v : V} {a : Int × Int} (h : den W H v a) : pairK H v = a ∧ ∃ t, v = V.ref t ∧ H t = some (.tup [.int (pairK H v).1, .int (pairK H v).2]) := by
  obtain ⟨p, x, y, hv, s, h1, h2⟩ := h
  have h1' : x = V.int a.1 := h1
  have h2' : y = V.int a.2 := h2
  subst h1' h2' hv
  have e : pairK H (.ref p) = a := by
    show (match H p with
      | some (.tup [.int i, .int j]) => (i, j)
      | _ => ((0 : Int), (0 : Int))) = a
    rw [s.2]
  exact ⟨e, p, rfl, by rw [e]; exact s.2⟩
theorem dl_pairK {W : Wc} {H : Hp} : ∀ {vs : List V} {as : List (Int × Int)}, Dl (den W H) vs as → vs.map (pairK H) = as
  | _, _, .nil => rfl
  | _, _, .cons x y => by rw [List.map_cons, (pairK_of x).1, dl_pairK y]
theorem Dl.mem {α : Type} {f : V → α → Prop} {v : V} : ∀ {vs : List V} {as : List α}, Dl f vs as → v ∈ vs → ∃ a, a ∈ as ∧ f v a
  | _, _, .nil, h => nomatch h
  | _, _, .cons x y, h => by
    rcases List.mem_cons.mp h with rfl | h
    · exact ⟨_, List.mem_cons_self, x⟩
    · obtain ⟨a, h1, h2⟩ := y.mem h
      exact ⟨a, List.mem_cons_of_mem _ h1, h2⟩
theorem dl_of_map {W : Wc} {H : Hp} : ∀ {vs : List V}, (∀ v ∈ vs, ∃ a : Int × Int, den W H v a) → Dl (den W H) vs (vs.map (pairK H))
  | [], _ => .nil
  | v :: r, h => by
    obtain ⟨a, d⟩ := h v List.mem_cons_self
    refine .cons ?_ (dl_of_map fun w hw => h w (List.mem_cons_of_mem _ hw))
    rw [(pairK_of d).1]
    exact d
theorem evF_sortedP {k : List (Int × Int) → Prop} (hK : W.B.K = K) (h : EvK W te Γ fun as : List (Int × Int) => k (sortP as)) : EvF W (tCB (rSortedPO K) (tCons te tNil)) Γ k := by
  subst hK
  refine fun σ H Q E c => h σ H _ E fun v H1 as e1 ⟨p, vs, hv, hp, hd⟩ z => ?_
  refine ⟨p, vs, pairK H1, by rw [hv], hp.sq, fun x hx => ?_, fun ys q hs hb hn => ?_⟩
  · obtain ⟨a, _, d⟩ := hd.mem hx
    exact (pairK_of d).2
  · have hperm : ys.Perm vs := hb.perm
    have e2 : ys.map (pairK H1) = sortP as := by
      refine sortP_uniq ?_ ?_
      · have := hperm.map (pairK H1)
        rw [dl_pairK hd] at this
        exact this
      · refine List.pairwise_map.mpr (List.Pairwise.imp (fun {a b} hab => ?_) hs)
        have hab' := SrtO.lexB_no.mp hab
        rw [lexLe_iff]
        omega
    have hd2 : Dl (den W H1) ys (sortP as) := by
      rw [← e2]
      exact dl_of_map fun w hw => by
        obtain ⟨a, _, d⟩ := hd.mem (hperm.mem_iff.mp hw)
        exact ⟨a, d⟩
    have e3 := Ext.new (o := .lst ys) e1.ok hn
    exact c q _ ys (sortP as) (fresh_back e1.ok e1 hn) (e1.trans e3) upd_same (hd2.imp fun _ _ d => Rep.mono (W := W.toWc.plus q) (fun b o m z => by rw [upd_ne (ne_of_none z hn)]; exact z) (Rep.grow q hn d)) z
theorem dl_bls {vs : List V} {as : List Bool} (h : Dl (fun v (a : Bool) => v = .bl a) vs as) : vs = as.map V.bl := by
  induction h with
  | nil => rfl
  | cons x _ ih => rw [x, ih]; rfl
theorem ev_any {k : Bool → Prop} (hK : W.B.K = K) (h : EvK W te Γ fun as : List Bool => k (as.any id)) : EvK W (tCB (rAny K) (tCons te tNil)) Γ k := by
  subst hK
  exact fun σ H Q E c => h σ H _ E fun v H1 as e1 ⟨p, vs, hv, hp, hd⟩ z => ⟨p, as, by rw [hv], by rw [← dl_bls hd]; exact hp.sq, c _ H1 _ e1 rfl z⟩
theorem ev_all {k : Bool → Prop} (hK : W.B.K = K) (h : EvK W te Γ fun as : List Bool => k (as.all id)) : EvK W (tCB (rAll K) (tCons te tNil)) Γ k := by
  subst hK
  exact fun σ H Q E c => h σ H _ E fun v H1 as e1 ⟨p, vs, hv, hp, hd⟩ z => ⟨p, as, by rw [hv], by rw [← dl_bls hd]; exact hp.sq, c _ H1 _ e1 rfl z⟩
theorem ev_sum {k : Int → Prop} (hK : W.B.K = K) (h : EvK W te Γ fun as : List Int => k as.sum) : EvK W (tCB (rSum K) (tCons te tNil)) Γ k := by
  subst hK
  exact fun σ H Q E c => h σ H _ E fun v H1 as e1 ⟨p, vs, hv, hp, hd⟩ z => ⟨p, as, by rw [hv], by rw [← Dl.ints hd]; exact hp.sq, c _ H1 _ e1 rfl z⟩
theorem ev_minL {k : Int → Prop} (hK : W.B.K = K) (h : EvK W te Γ fun as : List Int => 0 < as.length ∧ ∀ m, m ∈ as → (∀ y, y ∈ as → m ≤ y) → k m) : EvK W (tCB (rMin K) (tCons te tNil)) Γ k := by
  subst hK
  exact fun σ H Q E c => h σ H _ E fun v H1 as e1 ⟨p, vs, hv, hp, hd⟩ ⟨hl, z⟩ => ⟨p, as, by rw [hv], by rw [← Dl.ints hd]; exact hp.sq, hl, fun m h1 h2 => c _ H1 _ e1 rfl (z m h1 h2)⟩
/-- a list as a test -/
theorem et_truthL {α : Type} {rα : Rep α} {k : Bool → Prop} (hK : W.B.K = K) (h : EvK W te Γ fun as : List α => k (!as.isEmpty)) : EvT W (fun σ H Q => te σ H fun x H' => ∃ k, TruV K x H' k ∧ Q k H') Γ k := by
  subst hK
  refine fun σ H Q E c => h σ H _ E fun v H1 as e1 ⟨p, vs, hv, hp, hd⟩ z => ⟨!as.isEmpty, ?_, c H1 _ e1 z⟩
  subst hv
  refine .inl ⟨vs, hp.sq, ?_⟩
  cases hd <;> rfl
theorem ev_cmethZ {α : Type} {rα : Rep α} {k : α → Prop} (c : Cn) (hB : W.B = B) (hC : B.cl c = C) (hx : HX W Γ E x) (h : EvA W ta Γ fun ts => P (fun t => ∃ a : α, t = T a ∧ k a) x (T (Cv.mk c) :: ts)) : EvK W (tCMethZ C (spG B P) E ta) Γ k := by
  subst hB
  subst hC
  exact fun σ H Q G q => h σ H _ G fun vs H1 ts e1 d z => ⟨W, _, _, x, rfl, e1.ok, .cons (t := T (Cv.mk c)) rfl d, z, fun v H2 t e2 dt ⟨a, ea, qq⟩ => by
    subst ea
    exact q v H2 a (e1.trans e2) dt qq, hx σ H1 (G.ext e1)⟩
theorem ev_propZ {α β : Type} {rα : Rep α} {rβ : Rep β} {k : α → Prop} (hB : W.B = B)
    (h : EvK W te Γ fun s : β => OwnG β B C (P (fun t => ∃ a : α, t = T a ∧ k a) (fun _ => False) [T s])) : EvK W (tPropZ C (spG B P) te) Γ k := by
  subst hB
  refine fun σ H Q G c => h σ H _ G fun v H1 s e1 d ⟨cc, fl, iβ, hC, z⟩ => ?_
  subst hC
  obtain ⟨p, dp, fs, hv, _, hH, _⟩ := iβ.at_ d
  refine ⟨p, dp, fs, hv, hH, W, _, _, _, rfl, e1.ok, .cons (t := T s) (by rw [← hv]; exact d) .nil, z, fun v H3 t e3 dt ⟨a, ea, q⟩ => by
    subst ea
    exact c v H3 a (e1.trans e3) dt q, fun n d2 H2 _ _ q => q.elim⟩
theorem ev_makeV {α : Type} {rα : Rep α} {c : Cn} {sp : Sp} {i : Nat} {k : α → Prop} (hB : W.B = B) (hC : B.cl c = C) (hi : Γ[i]? = some (some (T (Cv.mk c)))) (h : EvK W (tMakeZ C sp E ta) Γ k) : EvK W (tMakeV i C sp E ta) Γ k := by
  subst hB
  subst hC
  exact fun σ H Q G q => by
    obtain ⟨v, h1, h2⟩ := G.at_ i _ hi
    exact ⟨v, h1, h2, h σ H Q G q⟩
/-- a star call's items from a list, a tuple -/
theorem el_starL {α : Type} {rα : Rep α} {k : List α → Prop} (hK : W.B.K = K) (h : EvK W te Γ fun as : List α => k as) : EvL W (tStarZ K te) Γ k := by
  subst hK
  exact fun σ H Q E c => h σ H _ E fun v H1 as e1 ⟨p, vs, hv, hp, hd⟩ z => ⟨p, vs, hv, .inr hp.sq, c vs H1 as e1 hd z⟩
theorem el_starT {α : Type} {rα : Rep α} {k : List α → Prop} (hK : W.B.K = K) (h : EvK W te Γ fun as : Tl α => k as.xs) : EvL W (tStarZ K te) Γ k := by
  subst hK
  exact fun σ H Q E c => h σ H _ E fun v H1 as e1 ⟨p, vs, hv, hp, hd⟩ z => ⟨p, vs, hv, .inl hp.sq, c vs H1 as.xs e1 hd z⟩
end
structure Lvs where
  ps : List Stc
  deriving DecidableEq
instance : Rep Lvs :=
  ⟨fun W H v l => ∃ a dx y, v = .ref a ∧ ¬ W.mu a ∧ H a = some (.ins (W.B.cl .Levels) dx [("_pieces", y)]) ∧ den W H y l.ps,
   fun e ⟨a, dx, y, hv, m, h, d⟩ => ⟨a, dx, y, hv, m, e _ _ m h, Rep.mono e d⟩,
   fun D n ⟨a, dx, y, hv, m, h, d⟩ => ⟨a, dx, y, hv, mu_grow n m h, h, Rep.grow D n d⟩,
   fun D ⟨a, dx, y, hv, m, h, d⟩ => ⟨a, dx, y, hv, fun z => m (.inl z), h, Rep.shrink D d⟩⟩
instance : Ins Lvs .Levels ["_pieces"] := ⟨fun ⟨a, dx, y, hv, m, h, _⟩ => ⟨a, dx, _, hv, m, h, rfl⟩⟩
instance : Pln Lvs := ⟨fun ⟨a, dx, y, hv, _⟩ => .inl ⟨a, hv⟩⟩
structure LvsT (B : Bs) : Prop where
  cl : Cls B.K (B.cl .Levels)
  np : NoAttr B.K (B.cl .Levels) "_pieces"
theorem lvs_of {W : Wd} {B : Bs} (h : W.B = B) (s : LvsT B) : LvsT W.B := h ▸ s
section
variable {W : Wd} {Γ : Gam} {ta : TA} {te tb to tl : TE} {tt : TT} {g : TG} {B : Bs} {P : PT} {E : L2.St → XK} {x : Xn → Prop} {C : Addr} {K : PySem.W.Frag}
theorem ev_pieces {k : List Stc → Prop} (hK : W.B.K = K) (hL : LvsT W.B) (h : EvK W te Γ fun s : Lvs => k s.ps) : EvK W (tFld K te "_pieces") Γ k := by
  subst hK
  refine fun σ H Q E c => h σ H _ E fun v H1 s e1 ⟨a, dx, y, hv, m, hH, d⟩ z => ?_
  exact ⟨a, _, dx, _, y, hv, hH, hL.cl, hL.np, by simp [List.lookup], c y H1 _ e1 d z⟩
/-- the fewest pieces: pairs in order are joined -/
def joinStep (acc : List (Int × Int)) (p : Int × Int) : List (Int × Int) := match acc.getLast? with
  | some q => if p.1 ≤ q.2 + 1 then acc.dropLast ++ [(q.1, max q.2 p.2)] else acc ++ [p]
  | none => [p]
def joinF (ps : List (Int × Int)) : List (Int × Int) := ps.foldl joinStep []
def mkStc (p : Int × Int) : Stc := ⟨p.1, p.2⟩
def stcE (s : Stc) : Int × Int := (s.lo, s.hi)
def unionF (ps : List (Int × Int)) : List (Int × Int) := joinF (sortP ps)
def lvF (ss : List Stc) : List Stc := (unionF (ss.map stcE)).map mkStc
/-- __init__ of Levels, its stretches a tuple -/
def spLI (B : Bs) : Sp := fun vs H Q E => ∃ (W : Wd) (p dx q : Addr) (ss : List Stc), vs = [.ref p, .ref q] ∧ H p = some (.ins (B.cl .Levels) dx []) ∧ W.B = B ∧ W.ok H ∧ ¬ W.mu p ∧ den W H (.ref q) (Tl.mk ss) ∧ ss.length ≤ 1000 ∧ (∀ s ∈ ss, s.lo ≤ s.hi) ∧
  ∀ H' y, Ext W H H' → den W H' y (lvF ss) → Q .non (upd H' p (.ins (B.cl .Levels) dx [("_pieces", y)]))
/-- .. as a call sees it -/
def spLS (B : Bs) : Sp := fun vs H Q E => ∃ ws rest, vs = ws ++ rest ∧ ws.length = 1 ∧ rest.length ≤ sizeLine ∧ ∀ p, H p = Option.none → spLI B (ws ++ [V.ref p]) (upd H p (.tup rest)) Q E
theorem ev_levels {k : Lvs → Prop} (hB : W.B = B) (hC : B.cl .Levels = C) (h : EvL W ta Γ fun ss : List Stc => (ss.length ≤ 1000 ∧ ∀ s ∈ ss, s.lo ≤ s.hi) ∧ k ⟨lvF ss⟩) : EvK W (tMakeZ C (spLS B) E ta) Γ k := by
  subst hB
  subst hC
  refine fun σ H Q G c => h σ H _ G fun vs H1 ss e1 d ⟨⟨hl, ho⟩, z⟩ xx dx nx ndx nex => ?_
  have o := e1.ok
  have m1 := fresh_mu o ndx
  have m2 := fresh_mu o nx
  have ok3 : W.ok (upd (upd H1 dx (.own xx)) xx (.ins (W.B.cl .Levels) dx [])) := W.st _ _ _ (W.st _ _ _ o m1) m2
  have e3 : Ext W H1 (upd (upd H1 dx (.own xx)) xx (.ins (W.B.cl .Levels) dx [])) := ⟨fun a u _ q => by rw [upd_ne (ne_of_none q nx), upd_ne (ne_of_none q ndx)]; exact q, ok3⟩
  refine ⟨[V.ref xx], vs, rfl, rfl, Nat.le_trans (by rw [d.length]; omega : vs.length ≤ 1000) (by decide), fun p hp => ?_⟩
  have e4 := Ext.new (o := .tup vs) ok3 hp
  have hpx : xx ≠ p := fun e => by rw [← e, upd_same] at hp; cases hp
  refine ⟨W, xx, dx, p, ss, rfl, by rw [upd_ne hpx, upd_same], rfl, e4.ok, m2, ⟨p, vs, rfl, Tq.new (fresh_mu ok3 hp) upd_same, d.imp fun _ _ y => Rep.mono (e3.trans e4).keep y⟩, hl, ho, fun H' y e5 dy => ⟨rfl, ?_⟩⟩
  have e6 := (e3.trans e4).trans e5
  have nxH' : ∀ a u, H1 a = some u → a ≠ xx := fun a u q => ne_of_none q nx
  have k7 : Kp W.toWc H1 (upd H' xx (.ins (W.B.cl .Levels) dx [("_pieces", y)])) := fun a u m q => by rw [upd_ne (nxH' a u q)]; exact e6.keep a u m q
  have hx' : H' xx = some (.ins (W.B.cl .Levels) dx []) := (e4.trans e5).keep xx _ m2 upd_same
  refine c (.ref xx) _ ⟨lvF ss⟩ (e1.trans ⟨k7, W.st _ _ _ e6.ok m2⟩) ⟨xx, dx, y, rfl, m2, upd_same, ?_⟩ z
  -- the pieces do not lean on the new object itself
  obtain ⟨p2, ws, hv, hq, hw⟩ := dy
  have ne2 : p2 ≠ xx := fun e => by have := hq.2; rw [e, hx'] at this; cases this
  refine ⟨p2, ws, hv, ⟨hq.1, by rw [upd_ne ne2]; exact hq.2⟩, hw.imp fun v s ⟨a, da, hv2, ma, ha⟩ => ⟨a, da, hv2, ma, ?_⟩⟩
  have ne3 : a ≠ xx := fun e => by
    rw [e, hx'] at ha
    injection ha with ha
    injection ha with _ _ ha
    cases ha
  rw [upd_ne ne3]
  exact ha
end
end G
set_option Elab.async false
set_option linter.all false
set_option maxRecDepth 100000
set_option maxHeartbeats 2000000
namespace G
open PySem PySem.Spec PyProof.Rows L2 StX
section
variable {X : Cx} {CX : CXT} {k n : Nat} {f g C p : Addr} {sp : Sp} {E : XK}
def rStrO (C : Addr) (sp : Sp) (E : XK) : List V → Hp → VK → Prop := fun xs H Q => ∃ a dx fs, xs = [.ref a] ∧ H a = some (.ins C dx fs) ∧ sp [.ref a] H (fun v H' => ∃ y, v = .str y ∧ Q (.str y) H') E
def rLenO (C : Addr) (sp : Sp) (E : XK) : List V → Hp → VK → Prop := fun xs H Q => ∃ a dx fs, xs = [.ref a] ∧ H a = some (.ins C dx fs) ∧ sp [.ref a] H (fun v H' => ∃ i : Int, v = .int i ∧ (0 ≤ i ∧ i < 2 ^ 63) ∧ Q (.int i) H') E
/-- a def with a star parameter -/
def DefS (K : PySem.W.Frag) (name qual : Str) (st : Stmt) (ps : List Str) (pv : Str) (f : Addr) : Prop := ∃ fd, Fun K name qual st f fd ∧ ∀ us rest : List Value, us.length = ps.length → bindArgs fd ⟨us ++ rest, []⟩ = (newTuple rest >>= fun t => pure (ps.zip us ++ [(pv, t)]))
theorem defS1 {K : PySem.W.Frag} {name qual p1 pv : Str} {st : Stmt} {f : Addr} {fd : FuncData} (F : Fun K name qual st f fd) (h0 : ∀ a, bindArgs fd ⟨[a], []⟩ = (newTuple [] >>= fun t => pure [(p1, a), (pv, t)])) (h1 : ∀ a r rs, bindArgs fd ⟨a :: r :: rs, []⟩ = (newTuple (r :: rs) >>= fun t => pure [(p1, a), (pv, t)])) :
    DefS K name qual st [p1] pv f := ⟨fd, F, bind_star1 (B := fun us => bindArgs fd ⟨us, []⟩) h0 h1⟩
theorem fnR_ofS {P : Program} {w : World} {K : PySem.W.Frag} {mg : Str → Option Value} {base : Heap} {st : Stmt} {N ps : List Str} {pv : Str} {k : Nat} {sp : Sp} {f : Addr} {name qual : Str} (hCX : CXUp CX) (D : DefS K name qual st ps pv f) (S : FnScope N (ps ++ [pv]) (defScope st))
    (hbody : ∀ (cdv : Value) (A : Around) (outer : List Env) (s : Shared) (H : Hp) (vs : List V) (Q : VK) (E : XK), Room k (A.deeper (envOfC qual (defScope st) s.heap.objs.size f cdv)) → sp vs H Q E →
      ∃ t, PSs (cxOf CX P w K mg base N qual (defScope st) f cdv A outer s H E) (defBody st) t ∧ t { nx := fun _ H' => Q .non H', rt := Q } (L2.start N vs) H) :
    FnR P w K mg base CX (k + 1) f (fun vs H Q E => ∃ ws rest, vs = ws ++ rest ∧ ws.length = ps.length ∧ rest.length ≤ sizeLine ∧ ∀ p, H p = Option.none → sp (ws ++ [V.ref p]) (upd H p (.tup rest)) Q E) := by
  obtain ⟨fd, F, hb⟩ := D
  obtain ⟨oc, od, kV, doc, pm, an, cdv, ct, osl, rfl, l, c⟩ := F.ex
  exact fn_star l c S hCX hb (fun A outer s H vs Q E hr h => hbody cdv A outer s H vs Q E hr h)
end
section
variable {W : Wd} {Γ : Gam} {ta : TA} {te tb to tl : TE} {B : Bs} {P : PT} {E : XK} {x : Xn → Prop} {C C2 : Addr} {K : PySem.W.Frag}
theorem ev_strO {β : Type} {rβ : Rep β} {k : Str → Prop} (hB : W.B = B) (h : EvK W te Γ fun s : β => OwnG β B C (P (fun t => ∃ y : Str, t = T y ∧ k y) (fun _ => False) [T s])) : EvK W (tCB (rStrO C (spG B P) E) (tCons te tNil)) Γ k := by
  subst hB
  refine fun σ H Q G c => h σ H _ G fun v H1 s e1 d ⟨cc, fl, iβ, hC, z⟩ => ?_
  subst hC
  obtain ⟨p, dp, fs, hv, _, hH, _⟩ := iβ.at_ d
  exact ⟨p, dp, fs, by rw [hv], hH, W, _, _, _, rfl, e1.ok, .cons (t := T s) (by rw [← hv]; exact d) .nil, z, fun v H3 t e3 dt ⟨a, ea, q⟩ => by
    subst ea
    exact ⟨a, dt, c _ H3 a (e1.trans e3) rfl q⟩, fun n d2 H2 _ _ q => q.elim⟩
theorem ev_lenO {β : Type} {rβ : Rep β} {k : Int → Prop} (hB : W.B = B) (h : EvK W te Γ fun s : β => OwnG β B C (P (fun t => ∃ y : Int, t = T y ∧ (0 ≤ y ∧ y < 2 ^ 63) ∧ k y) (fun _ => False) [T s])) : EvK W (tCB (rLenO C (spG B P) E) (tCons te tNil)) Γ k := by
  subst hB
  refine fun σ H Q G c => h σ H _ G fun v H1 s e1 d ⟨cc, fl, iβ, hC, z⟩ => ?_
  subst hC
  obtain ⟨p, dp, fs, hv, _, hH, _⟩ := iβ.at_ d
  exact ⟨p, dp, fs, by rw [hv], hH, W, _, _, _, rfl, e1.ok, .cons (t := T s) (by rw [← hv]; exact d) .nil, z, fun v H3 t e3 dt ⟨a, ea, hb, q⟩ => by
    subst ea
    exact ⟨a, dt, hb, c _ H3 a (e1.trans e3) rfl q⟩, fun n d2 H2 _ _ q => q.elim⟩
/-- texts -/
theorem ev_addS {k : Str → Prop} (h : EvK W te Γ fun a : Str => EvK W tb Γ fun b : Str => a.length + b.length ≤ 1000000 ∧ k (a ++ b)) : EvK W (tOp (fun x y H Q => ∃ i j, x = .str i ∧ y = .str j ∧ i.length + j.length ≤ sizeLine ∧ Q (.str (i ++ j)) H) te tb) Γ k :=
  ev_two (h.imp fun a ha => ha.imp fun b ⟨hl, z⟩ x y H Q o dx dy c => ⟨a, b, dx, dy, Nat.le_trans hl (by decide), c _ H _ (Ext.refl o) rfl z⟩)
theorem ev_strI {k : Str → Prop} (h : EvK W te Γ fun i : Int => Small i ∧ k (toString i)) : EvK W (tCB (fun xs H Q => ∃ i, xs = [.int i] ∧ i.natAbs.log2 < 1920 ∧ Q (.str (toString i)) H) (tCons te tNil)) Γ k := fun σ H Q G c =>
  h σ H _ G fun v H1 i e1 d ⟨s, z⟩ => ⟨i, congrArg (fun x => [x]) d, s, c _ H1 _ e1 rfl z⟩
instance : HasTy Lvs fun B => .ref (B.cl .Levels) := ⟨fun ⟨a, dx, y, hv, m, h, _⟩ => by subst hv; exact .ins h⟩
end
theorem strOk_of (s : String) : PyData.strOk (Str.ofString s) = true := by
  rw [Str.ofString_eq_toList]
  unfold PyData.strOk
  rw [Array.all_eq_true']
  intro x hx
  simp only [List.mem_toArray, List.mem_map] at hx
  obtain ⟨c, _, rfl⟩ := hx
  have := c.valid
  rcases this with h | ⟨_, h⟩
  · exact decide_eq_true (Nat.lt_trans h (by decide))
  · exact decide_eq_true h
theorem str_app_cps (a b : Str) : (a ++ b).cps = a.cps ++ b.cps := rfl
theorem strOk_app {a b : Str} (h1 : PyData.strOk a = true) (h2 : PyData.strOk b = true) : PyData.strOk (a ++ b) = true := by
  unfold PyData.strOk at *
  rw [str_app_cps, Array.all_append, h1, h2]; rfl
theorem strOk_emp : PyData.strOk Str.empty = true := by simp [PyData.strOk, Str.empty]
theorem emp_len : Str.empty.length = 0 := rfl
section
variable {W : Wd} {Γ : Gam} {ta : TA} {te tb to tl : TE} {K : PySem.W.Frag}
theorem ev_sortedP {k : List (Int × Int) → Prop} (hK : W.B.K = K) (h : EvK W te Γ fun as : List (Int × Int) => k (sortP as)) : EvK W (tCB (rSortedPO K) (tCons te tNil)) Γ k := (evF_sortedP hK h).k
end
/-- a chain whose last part is plain -/
def ChG (W : Wd) (te : TE) (Γ : Gam) (k : Int → Prop) : Prop := ∃ l : Int, EvK W te Γ (fun a => a = l) ∧ k l
theorem chg_in {W : Wd} {te : TE} {Γ : Gam} {k : Int → Prop} {l : Int} (h1 : EvK W te Γ fun a => a = l) (h : k l) : ChG W te Γ k := ⟨l, h1, h⟩
theorem ev_chainP {W : Wd} {ta tb tc : TE} {Γ : Gam} {f g : Int → Int → Bool} {k : Bool → Prop} (h : EvK W ta Γ fun i : Int => EvK W tb Γ fun j : Int => ChG W tc Γ fun l => k (f i j && g j l)) :
    EvK W (tChain (rI0 fun i j => .bl (f i j)) (rI0 fun i j => .bl (g i j)) ta tb tc) Γ k :=
  ev_chain (h.imp fun i hi => hi.imp fun j ⟨l, h1, h2⟩ => ⟨fun e => h1.imp fun a ea => by rw [ea]; rw [e, Bool.true_and] at h2; exact h2, fun e => by rw [e, Bool.false_and] at h2; exact h2⟩)
section
variable {α : Type} {r : Rep α} {W : Wd} {Γ : Gam} {ta : TA} {te tb to : TE} {tt : TT} {ts : TS} {k : α → Prop} {kb : Bool → Prop} {kt : List Ty → Prop} {kl : List α → Prop} {R : Po} {K : PySem.W.Frag}
theorem gd_s (h : Sx W ts Γ R) : Sx W ts Γ R := h
theorem gd_set {i : Nat} {v : Option Ty} (h : Sx W ts (Γ.set i v) R) : Sx W ts (Γ.set i v) R := h
theorem gd_k (h : EvK W te Γ k) : EvK W te Γ k := h
theorem gd_var {i : Nat} (h : EvK W (tVar i) Γ k) : EvK W (tVar i) Γ k := h
theorem gd_c {v : V} (h : EvK W (tC v) Γ k) : EvK W (tC v) Γ k := h
theorem gd_op {q : R2} (h : EvK W (tOp q te tb) Γ k) : EvK W (tOp q te tb) Γ k := h
theorem gd_un {q : V → Hp → VK → Prop} (h : EvK W (tUn q te) Γ k) : EvK W (tUn q te) Γ k := h
theorem gd_cb {q : List V → Hp → VK → Prop} (h : EvK W (tCB q ta) Γ k) : EvK W (tCB q ta) Γ k := h
theorem gd_fld {f : Str} (h : EvK W (tFld K te f) Γ k) : EvK W (tFld K te f) Γ k := h
theorem gd_call {sp : Sp} {E : XK} (h : EvK W (tCallR sp E ta) Γ k) : EvK W (tCallR sp E ta) Γ k := h
theorem gd_tup (h : EvK W (tTup ta) Γ k) : EvK W (tTup ta) Γ k := h
theorem gd_lst (h : EvK W (tLst ta) Γ k) : EvK W (tLst ta) Γ k := h
theorem gd_t (h : EvT W tt Γ kb) : EvT W tt Γ kb := h
theorem gd_a (h : EvA W ta Γ kt) : EvA W ta Γ kt := h
theorem gd_l (h : EvL W ta Γ kl) : EvL W ta Γ kl := h
theorem gd_j {tj : List TE} {acc : Str} {ks : Str → Prop} (h : EvJ W tj Γ acc ks) : EvJ W tj Γ acc ks := h
end
end G
set_option Elab.async false
set_option linter.all false
namespace G
open PySem
def inP' (x : Int) (p : Int × Int) : Prop := p.1 ≤ x ∧ x ≤ p.2
def memP (x : Int) (ps : List (Int × Int)) : Prop := ∃ p ∈ ps, inP' x p
/-- ascending pieces with gaps between -/
def NF (ps : List (Int × Int)) : Prop := (∀ q ∈ ps, q.1 ≤ q.2) ∧ ps.Pairwise fun a b => a.2 + 1 < b.1
end G
set_option Elab.async false
set_option linter.all false
set_option maxRecDepth 100000
set_option maxHeartbeats 2000000
namespace G
open PySem PySem.Spec PyProof.Rows L2 StX
abbrev scE (el t1 i1 t2 i2 : Expr) (sc : Scope) (ps : Pos) : Expr := .SetComp el [⟨t1, i1, [], 0⟩, ⟨t2, i2, [], 0⟩] sc ps
section
variable {prog : Program} {w : World} {A : Around} {R : Result → Shared → Prop} {s : Shared} {el t1 i1 t2 i2 : Expr} {sc : Scope} {ps : Pos} {it acc : Value} {env : Env}
theorem sc2_outer : compTurn (scE el t1 i1 t2 i2 sc ps) 0 it acc env = (do
    standAt i1.pos
    match ← pyNext it with
    | none => pure (.done .next)
    | some u =>
      letOwnedTupleGo t1 it u
      assign t1 env u
      let y ← eval i2 env
      standAt i2.pos
      let y ← foldedSetIterable i2 env y
      let _ ← runOwn (.compStart (scE el t1 i1 t2 i2 sc ps) 1 (← holding [y] (pyIter y)) acc env) env
      again (.compLoop (scE el t1 i1 t2 i2 sc ps) 0 it acc env)) := by rfl
theorem sc2_inner : compTurn (scE el t1 i1 t2 i2 sc ps) 1 it acc env = (do
    standAt i2.pos
    match ← pyNext it with
    | none => pure (.done .next)
    | some u =>
      letOwnedTupleGo t2 it u
      assign t2 env u
      (do let y ← eval el env; standAt el.pos; let _ ← call (.builtin "set.add") [acc, y])
      again (.compLoop (scE el t1 i1 t2 i2 sc ps) 1 it acc env)) := by rfl
/-- the outer loop by a measured invariant: in a turn the second clause runs to its end -/
theorem sc2_loop0 (hf : ∀ y, foldedSetIterable i2 env y = pure y) (J : Nat → Shared → Prop)
    (tn : ∀ n z, J n z → wpAny (model prog w) A (pyNext it) (fun r z1 => match r with
      | none => R (.ok .next) z1
      | some u => wpAny (model prog w) A (letOwnedTupleGo t1 it u) (fun _ z2 => wpAny (model prog w) A (assign t1 env u) (fun _ z3 => wpAny (model prog w) A (eval i2 env) (fun y z4 => wpAny (model prog w) A (pyIter y) (fun i' z5 =>
          codeAny (model prog w) A (.compStart (scE el t1 i1 t2 i2 sc ps) 1 i' acc env) (fun r z6 => (∃ f, r = .ok f) ∧ ∃ k, k < n ∧ J k z6) z5)
            (notedBy (model prog w) A env fun e z => R (.error e) z) z4) (notedBy (model prog w) A env fun e z => R (.error e) z) z3) (notedBy (model prog w) A env fun e z => R (.error e) z) z2) (notedBy (model prog w) A env fun e z => R (.error e) z) z1) (notedBy (model prog w) A env fun e z => R (.error e) z) z)
    (n : Nat) (h : J n s) : codeAny (model prog w) A (.compLoop (scE el t1 i1 t2 i2 sc ps) 0 it acc env) R s := by
  apply codeAny_loop rfl J _ n h
  intro n z hz
  apply wpAny_noted
  rw [sc2_outer]
  refine wpAny_bind (wpAny_standAt (wpAny_bind (wpAny_mono (tn n z hz) (fun r z1 q1 => ?_) fun _ _ q => q)))
  match r, q1 with
  | none, q1 => exact wpAny_pure q1
  | some u, q1 =>
    refine wpAny_bind (wpAny_mono q1 (fun _ z2 q2 => wpAny_bind (wpAny_mono q2 (fun _ z3 q3 => ?_) fun _ _ q => q)) fun _ _ q => q)
    refine wpAny_bind (wpAny_mono q3 (fun y z4 q4 => wpAny_bind (wpAny_standAt (wpAny_bind (wpAny_of_eq (hf y) ?_)))) fun _ _ q => q)
    refine wpAny_bind (wpAny_holding (wpAny_mono q4 (fun i' z5 q5 => wpAny_bind (wpAny_runOwn ?_)) fun _ _ q => q))
    rw [Around.mark_none]
    apply codeAny_mono q5
    rintro r z6 ⟨⟨f, rfl⟩, hk⟩
    first
    | exact wpAny_pure ⟨rfl, hk⟩
    | exact wpAny_bind (wpAny_pure (wpAny_pure ⟨rfl, hk⟩))
theorem sc2_loop1 (J : Nat → Shared → Prop)
    (tn : ∀ n z, J n z → wpAny (model prog w) A (pyNext it) (fun r z1 => match r with
      | none => R (.ok .next) z1
      | some u => wpAny (model prog w) A (letOwnedTupleGo t2 it u) (fun _ z2 => wpAny (model prog w) A (assign t2 env u) (fun _ z3 => wpAny (model prog w) A (eval el env) (fun y z4 =>
          wpAny (model prog w) A (call (.builtin "set.add") [acc, y]) (fun _ z5 => ∃ k, k < n ∧ J k z5)
            (notedBy (model prog w) A env fun e z => R (.error e) z) z4) (notedBy (model prog w) A env fun e z => R (.error e) z) z3) (notedBy (model prog w) A env fun e z => R (.error e) z) z2) (notedBy (model prog w) A env fun e z => R (.error e) z) z1) (notedBy (model prog w) A env fun e z => R (.error e) z) z)
    (n : Nat) (h : J n s) : codeAny (model prog w) A (.compLoop (scE el t1 i1 t2 i2 sc ps) 1 it acc env) R s := by
  apply codeAny_loop rfl J _ n h
  intro n z hz
  apply wpAny_noted
  rw [sc2_inner]
  refine wpAny_bind (wpAny_standAt (wpAny_bind (wpAny_mono (tn n z hz) (fun r z1 q1 => ?_) fun _ _ q => q)))
  match r, q1 with
  | none, q1 => exact wpAny_pure q1
  | some u, q1 =>
    refine wpAny_bind (wpAny_mono q1 (fun _ z2 q2 => wpAny_bind (wpAny_mono q2 (fun _ z3 q3 => wpAny_bind ?_) fun _ _ q => q)) fun _ _ q => q)
    refine wpAny_bind (wpAny_mono q3 (fun y z4 q4 => wpAny_bind (wpAny_standAt (wpAny_bind ?_))) fun _ _ q => q)
    exact wpAny_mono q4 (fun _ z5 q5 => wpAny_pure (wpAny_pure ⟨rfl, q5⟩)) fun _ _ q => q
/-- the second clause begins -/
theorem sc2_start1 (h0 : codeAny (model prog w) A (.compLoop (scE el t1 i1 t2 i2 sc ps) 1 it acc env) R s)
    (h : wpAny (model prog w) A (pyIter it) (fun i' z => codeAny (model prog w) A (.compLoop (scE el t1 i1 t2 i2 sc ps) 1 i' acc env) R z) (notedBy (model prog w) A env fun e z => R (.error e) z) s) :
    codeAny (model prog w) A (.compStart (scE el t1 i1 t2 i2 sc ps) 1 it acc env) R s := by
  apply codeAny_of_tree
  apply wpAny_notedAt
  unfold compStart
  refine wpAny_bind (wpAny_askSetting (wpAny_ite ?_))
  split
  · first
    | exact wpAny_bind (wpAny_pure (wpAny_pure ⟨rfl, h0⟩))
    | exact wpAny_pure ⟨rfl, h0⟩
  · have go : ∀ i' z, codeAny (model prog w) A (.compLoop (scE el t1 i1 t2 i2 sc ps) 1 i' acc env) R z → _ := fun i' z q => q
    first
    | exact wpAny_bind (wpAny_rule (wpAny_bind (wpAny_standAt (wpAny_bind (wpAny_mono h (fun _ _ q => wpAny_pure ⟨rfl, q⟩) fun _ _ q => q)))))
    | (apply wpAny_bind; apply wpAny_rule; exact wpAny_bind (wpAny_standAt (wpAny_bind (wpAny_mono h (fun _ _ q => wpAny_pure ⟨rfl, q⟩) fun _ _ q => q))))
end
end G
namespace G
open PySem PySem.Spec PyProof.Rows L2 StX
/-- the set at D gets the int c -/
def putS (w : World) (D : Addr) (c : Int) (S : Int → Bool) (n : Nat) (H : Hp) : Hp := upd H D (SetO w D (fun j => S j || decide (j = c)) (if S c = true then n else n + 1))
section
variable {X : Cx}
/-- an iterator's own objects, seen from within the block -/
theorem blk_fp {s0 : Shared} {H0 : Hp} {sc : Scope} {ce : Env} {fp : List Addr} {σ : L2.St} {H : Hp} {s : Shared} (I : L2.Inv (X.blk s0 H0 sc ce fp) [] σ H s) (hn : ∀ b ∈ fp, H b = none) : ∀ b ∈ fp, FpOk (X.blk s0 H0 sc ce fp) [] H b := by
  intro b hb
  obtain ⟨h1, h2⟩ := I.ok.exf b hb
  exact ⟨hn b hb, h1, I.ok.exfs b hb, Or.inl hb, fun y c => h2 y c, fun p hp => by cases (show p ∈ ([] : List (Addr × Obj)) ++ [] from hp)⟩
/-- an int is added to the set at D -/
theorem add_int {pins : List (Addr × Obj)} {σ : L2.St} {H : Hp} {s : Shared} {D : Addr} {S : Int → Bool} {n : Nat} {c : Int} {u : Value} {Q : Value → Shared → Prop} {E : Value → Shared → Prop} (I : L2.Inv X pins σ H s) (hu : L2.RelV (.int c) u) (hD : H D = some (SetO X.w D S n)) (room : n + 1 < scanBound)
    (q : ∀ r z, L2.Inv X pins σ (putS X.w D c S n H) z → Q r z) : wpAny (model X.prog X.w) X.A (call (.builtin "set.add") [.ref D, u]) Q E s := by
  obtain ⟨t, rfl⟩ := hu
  have R := setO_get I hD
  refine setR_add R room fun h' sb new => ?_
  have he : ∃ o, h'.get? D = some o := by
    obtain ⟨o, _, _, _, ho, _⟩ := new
    exact ⟨o, ho⟩
  refine q _ _ (I.write (e := D) (t' := s.toks + 1) ?_ (.inl rfl) ?_ he (setO_new new))
  · rw [hD]; trivial
  · exact fun b o hb ho => (sb.2 b hb).trans ho
end
end G
set_option Elab.async false
set_option linter.all false
set_option maxRecDepth 100000
set_option maxHeartbeats 2000000
namespace G
open PySem PySem.Spec PyProof.Rows L2 StX
theorem turns {J : It} {n : Nat} {B : V → Hp → (Hp → Prop) → Prop} {Zf : Hp → Prop} {H0 : Hp} (P : Nat → Hp → Prop) (h0 : P 0 H0) (hgo : ∀ i H, i < n → P i H → J.go i H) (hst : ∀ H, P n H → J.stop n H)
    (hs : ∀ i H x H', i < n → P i H → J.yld i H x H' → B x H' (P (i + 1))) (hd : ∀ H, P n H → Zf H) :
    ∃ W : Nat → Nat → Hp → Prop, (∃ m, W 0 m H0) ∧ ∀ i m H, W i m H → (J.stop i H ∧ Zf H) ∨ (J.go i H ∧ ∃ Z : Hp → Prop, (∀ H', Z H' → ∃ m', m' < m ∧ W (i + 1) m' H') ∧ ∀ x H', J.yld i H x H' → B x H' Z) := by
  refine ⟨fun i m H => m + i = n ∧ P i H, ⟨n, rfl, h0⟩, fun i m H ⟨e, p⟩ => ?_⟩
  rcases Nat.eq_zero_or_pos m with hm | hm
  · have hi : i = n := by omega
    subst hi
    exact .inl ⟨hst H p, hd H p⟩
  · exact .inr ⟨hgo i H (by omega) p, P (i + 1), fun H' p' => ⟨m - 1, by omega, by omega, p'⟩, fun x H' y => hs i H x H' (by omega) p y⟩
structure IS where
  w : World
  S : Int → Bool
  n : Nat
instance : Rep IS := ⟨fun W H v s => ∃ a, v = .ref a ∧ ¬ W.mu a ∧ H a = some (SetO s.w a s.S s.n), fun e ⟨a, hv, m, h⟩ => ⟨a, hv, m, e _ _ m h⟩, fun D n ⟨a, hv, m, h⟩ => ⟨a, hv, mu_grow n m h, h⟩, fun D ⟨a, hv, m, h⟩ => ⟨a, hv, fun z => m (.inl z), h⟩⟩
/-- the world where a new object at D is kept apart -/
def Wd.plusO (W : Wd) (D : Addr) (o : HO) (H1 : Hp) (n : H1 D = none) (o1 : W.ok H1) (w1 : W.wish H1) : Wd where
  toWc := W.toWc.plus D
  ok := fun H => W.ok H ∧ H D = some o
  live := fun H a ⟨h, e⟩ m => m.elim (W.live H a h) fun m => ⟨o, by rw [m]; exact e⟩
  st := fun H p u ⟨h, e⟩ m => ⟨W.st H p u h fun z => m (.inl z), by rw [upd_ne (fun z => m (.inr z.symm))]; exact e⟩
  wish := fun H => Kp W.toWc H1 H
  wst := fun H H' k _ w a u m e => k a u (fun z => z.elim m fun z => by rw [z, n] at e; cases e) (w a u m e)
  hasbox := fun H b h hb => W.hasbox H b h.1 hb
  boxset := fun H b c i p s i' p' s' h hb q h1 h2 => ⟨W.boxset H b c i p s i' p' s' h.1 hb q h1 h2, by
    have z : D ≠ b := fun z => fresh_mu o1 n (z ▸ W.boxmu b hb)
    rw [upd_ne z]; exact h.2⟩
  boxmu := fun b hb => .inl (W.boxmu b hb)
  oke := fun H H' h k => ⟨W.oke H H' h.1 k, k _ _ h.2⟩
theorem Sub.plusO {W : Wd} {D : Addr} {o : HO} {H1 : Hp} {n : H1 D = none} {o1 : W.ok H1} {w1 : W.wish H1} : Sub W (W.plusO D o H1 n o1 w1) :=
  ⟨rfl, fun _ h => h.1, fun H h w => W.wst H1 H w h.1 w1⟩
section
variable {W : Wd} {Γ : Gam} {ta : TA} {te tb to tl ti : TE} {tt : TT} {g g2 : TG} {K : PySem.W.Frag}
theorem js_in {js vs : List Nat} (h : (js.all fun j => vs.contains j) = true) : ∀ j ∈ js, j ∈ vs := fun j hj => by
  have := List.all_eq_true.mp h j hj
  simpa using this
/-- the set after the ints xs -/
def setOf (xs : List Int) : Int → Bool := fun j => decide (j ∈ xs)
end
end G
set_option Elab.async false
set_option linter.all false
set_option maxRecDepth 100000
set_option maxHeartbeats 2000000
namespace G
open PySem PySem.Spec PyProof.Rows L2 StX
section
variable {W : Wd} {Γ : Gam} {ta tb : TE} {te to tl ti : TE} {tt : TT} {g g2 : TG} {K : PySem.W.Frag}
theorem dl_drop {α : Type} {f : V → α → Prop} : ∀ {vs : List V} {as : List α} (n : Nat), Dl f vs as → Dl f (vs.drop n) (as.drop n)
  | _, _, 0, h => h
  | _, _, n + 1, .nil => .nil
  | _, _, n + 1, .cons _ y => dl_drop n y
/-- a turn whose item came just now -/
theorem lc_turnN {α β : Type} {rα : Rep α} {rβ : Rep β} {vs : List Nat} {D : Addr} {H1 : Hp} {n : H1 D = none} {o1 : W.ok H1} {w1 : W.wish H1} {σ : L2.St} {H' : Hp} {x : V} {a : α} {acc : List V} {bs : List β} {I : List β → Prop} {P : Hp → Prop}
    (t : LcTurn (W.plus D acc H1 n o1 w1) g tt te vs Γ a (I bs) fun y : β => I (bs ++ [y])) (G : GOk W H1 σ Γ) (e : Ext W H1 H') (hD : H' D = some (.lst acc)) (hb : Dl (den (W.toWc.plus D) H') acc bs) (da : den (W.toWc.plus D) H' x a) (hz : acc.length < 100000)
    (fin : ∀ H2 acc2 bs2, Ext W H1 H2 → H2 D = some (.lst acc2) → Dl (den (W.toWc.plus D) H2) acc2 bs2 → acc2.length ≤ acc.length + 1 → I bs2 → P H2) :
    g x (wipe σ vs) H' fun σ2 H2 => wipe σ2 vs = wipe σ vs ∧ tt σ2 H2 fun b H3 => if b = true then te σ2 H3 fun y H4 => ∃ acc, H4 D = some (.lst acc) ∧ acc.length < sizeLine ∧ P (upd H4 D (.lst (acc ++ [y]))) else P H3 := by
  obtain ⟨js, hjs, tj⟩ := t
  have nm : ¬ W.mu D := fresh_mu o1 n
  have kp : Kp (W.toWc.plus D) H1 H' := fun b o m z => e.keep b o (fun z => m (.inl z)) z
  have G2 : GOk (W.plus D acc H1 n o1 w1) H' σ Γ := ⟨⟨e.ok, hD⟩, fun b o m z => e.keep b o m z, fun i t h => by
    obtain ⟨v, h1, h2⟩ := G.at_ i t h
    exact ⟨v, h1, Ty.mono kp (t.r.grow D n h2)⟩, G.len⟩
  have un : ∀ {H2 : Hp}, Ext (W.plus D acc H1 n o1 w1) H' H2 → Ext W H1 H2 := fun e2 => ⟨fun b o m z => by
    have hne : b ≠ D := fun q => by rw [q, n] at z; cases z
    exact e2.keep b o (fun q => q.elim m hne) (e.keep b o m z), e2.ok.1⟩
  refine tj (wipe σ vs) H' x _ (G2.wipe vs) da fun σ2 Γ2 G3 m2 q2 => ⟨wipe_same m2 (js_in hjs), ?_⟩
  refine q2 σ2 H' _ G3 fun H3 b e3 ⟨hy, hn⟩ => ?_
  have hb3 := hb.imp fun _ _ d => Rep.mono (W := W.toWc.plus D) e3.keep d
  cases b with
  | false =>
    show P H3
    exact fin H3 acc bs (un e3) e3.ok.2 hb3 (Nat.le_succ _) (hn rfl)
  | true =>
    show te σ2 H3 _
    refine hy rfl σ2 H3 _ (G3.ext e3) fun y H4 b4 e4 d4 q4 => ⟨acc, e4.ok.2, Nat.lt_of_lt_of_le hz (by decide), ?_⟩
    have e5 := un (e3.trans e4)
    have k5 : Kp (W.toWc.plus D) H4 (upd H4 D (.lst (acc ++ [y]))) := kp_upd
    refine fin _ (acc ++ [y]) (bs ++ [b4]) ⟨fun b o m z => ?_, W.st _ _ _ e5.ok nm⟩ upd_same (Dl.append (hb3.imp fun _ _ d => Rep.mono k5 (Rep.mono (W := W.toWc.plus D) e4.keep d)) (.cons (Rep.mono k5 d4) .nil)) (by rw [List.length_append]; exact Nat.le_refl _) q4
    have hne : b ≠ D := fun q => by rw [q, n] at z; cases z
    rw [upd_ne hne]
    exact e5.keep b o m z
end
end G
set_option Elab.async false
set_option linter.all false
namespace G
open PySem
def inS (x : Int) (s : Stc) : Bool := decide (s.lo ≤ x) && decide (x ≤ s.hi)
/-- how many of the stretches have the level -/
def depS (ss : List Stc) (x : Int) : Int := ((ss.filter (inS x)).length : Int)
theorem inS_iff {x : Int} {s : Stc} : inS x s = true ↔ s.lo ≤ x ∧ x ≤ s.hi := by
  unfold inS
  rw [Bool.and_eq_true, decide_eq_true_iff, decide_eq_true_iff]
/-- what the shared levels are -/
def ShOk (ss : List Stc) (need : Int) (L : List (Int × Int)) : Prop := NF L ∧ ∀ x, memP x L ↔ need ≤ depS ss x
end G
set_option Elab.async false
set_option linter.all false
set_option maxRecDepth 100000
set_option maxHeartbeats 2000000
namespace G
open PySem PySem.Spec PyProof.Rows L2 StX
instance {α : Type} [Rep α] : PyTy (List α) "list" := ⟨fun ⟨p, vs, hv, s, _⟩ => by subst hv; exact .base (.lst s.2)⟩
instance {α β : Type} [Rep α] [Rep β] : PyTy (α × β) "tuple" := ⟨fun ⟨p, x, y, hv, s, _⟩ => by subst hv; exact .base (.tup s.2)⟩
section
variable {W : Wd} {Γ : Gam} {ta tb te : TE} {t : TS} {g : TG} {K : PySem.W.Frag}
/-- x in a list of ints -/
theorem inV_ints (x : Int) (as : List Int) : inV (V.int x) (as.map V.int) = decide (x ∈ as) := by
  have h : inV (V.int x) (as.map V.int) = as.any fun a => a == x := by
    unfold inV
    rw [List.any_map]
    rfl
  rw [h, Bool.eq_iff_iff, List.any_eq_true, decide_eq_true_iff]
  exact ⟨fun ⟨a, ha, e⟩ => by rw [← eq_of_beq e]; exact ha, fun hx => ⟨x, hx, beq_self_eq_true x⟩⟩
theorem flat_ints (as : List Int) : (as.map V.int).all flatV = true := by
  rw [List.all_eq_true]
  intro v hv
  obtain ⟨a, _, rfl⟩ := List.mem_map.mp hv
  rfl
theorem ev_inI {k : Bool → Prop} (hK : W.B.K = K) (h : EvK W ta Γ fun x : Int => EvK W tb Γ fun as : List Int => k (decide (x ∈ as))) : EvK W (tOp (rIn K false) ta tb) Γ k := by
  subst hK
  refine ev_two (h.imp fun x hx => hx.imp fun as z v u H Q o dx ⟨p, vs, hu, hp, hd⟩ c => ?_)
  have dx' : v = V.int x := dx
  subst dx' hu
  have e := Dl.ints hd
  refine ⟨p, vs, rfl, .inl hp.sq, rfl, by rw [e]; exact flat_ints as, c _ H _ (Ext.refl o) ?_ z⟩
  show V.bl (inV (V.int x) vs) = _
  rw [e, inV_ints]
theorem ev_notInI {k : Bool → Prop} (hK : W.B.K = K) (h : EvK W ta Γ fun x : Int => EvK W tb Γ fun as : List Int => k (!decide (x ∈ as))) : EvK W (tOp (rIn K true) ta tb) Γ k := by
  subst hK
  refine ev_two (h.imp fun x hx => hx.imp fun as z v u H Q o dx ⟨p, vs, hu, hp, hd⟩ c => ?_)
  have dx' : v = V.int x := dx
  subst dx' hu
  have e := Dl.ints hd
  refine ⟨p, vs, rfl, .inl hp.sq, rfl, by rw [e]; exact flat_ints as, c _ H _ (Ext.refl o) ?_ z⟩
  show V.bl (!inV (V.int x) vs) = _
  rw [e, inV_ints]
end
end G
set_option Elab.async false
set_option linter.all false
set_option maxRecDepth 100000
set_option maxHeartbeats 2000000
namespace G
open PySem PySem.Spec PyProof.Rows L2 StX
section
variable {W : Wd} {Γ : Gam} {ta tb te : TE} {K : PySem.W.Frag}
/-- the third item of three -/
theorem ev_ixT3c {α β γ : Type} {rα : Rep α} {rβ : Rep β} {rγ : Rep γ} {k : γ → Prop} (hK : W.B.K = K) (h : EvK W ta Γ fun p : T3 α β γ => k p.c) : EvK W (tOp (rIxT K) ta (tC (.int 2))) Γ k := by
  subst hK
  refine fun σ H Q E c => h σ H _ E fun v H1 a e1 ⟨p, x, y, z, hv, s, d1, d2, d3⟩ q => ?_
  exact ⟨p, _, 2, z, hv, rfl, s.sq, rfl, c _ H1 _ e1 d3 q⟩
end
/-- m is the greatest depth -/
def MaxD (ss : List Stc) (m : Int) : Prop := 1 ≤ m ∧ (∃ x, depS ss x = m) ∧ ∀ x, depS ss x ≤ m
theorem MaxD.uniq {ss : List Stc} {m n : Int} (h : MaxD ss m) (g : MaxD ss n) : m = n := by
  obtain ⟨x, hx⟩ := h.2.1
  obtain ⟨y, hy⟩ := g.2.1
  have := h.2.2 y
  have := g.2.2 x
  omega
end G
set_option Elab.async false
set_option linter.all false
set_option maxRecDepth 100000
set_option maxHeartbeats 2000000
namespace G
open PySem PySem.Spec PyProof.Rows L2 StX
end G
set_option Elab.async false
set_option linter.all false
set_option maxRecDepth 100000
set_option maxHeartbeats 2000000
namespace G
open PySem PySem.Spec PyProof.Rows L2 StX
/-- a world where nothing changes, of any heap -/
def Wd.free (B : Bs) : Wd where
  B := B
  mu := fun _ => False
  box := fun _ => False
  ok := fun _ => True
  live := fun _ _ _ h => h.elim
  st := fun _ _ _ _ _ => trivial
  wish := fun _ => True
  wst := fun _ _ _ _ _ => trivial
  hasbox := fun _ _ _ h => h.elim
  boxset := fun _ _ _ _ _ _ _ _ _ _ h => h.elim
  boxmu := fun _ h => h.elim
  oke := fun _ _ _ _ => trivial
end G
set_option Elab.async false
set_option linter.all false
set_option maxRecDepth 100000
set_option maxHeartbeats 2000000
namespace G
open PySem PySem.Spec PyProof.Rows L2 StX
instance : HasTy Lvs fun B => .ref (B.cl .Levels) := ⟨fun ⟨a, dx, y, hv, m, h, _⟩ => by subst hv; exact .ins h⟩
end G
namespace G
open PySem
end G
namespace G
end G
set_option Elab.async false
set_option linter.all false
set_option maxRecDepth 100000
set_option maxHeartbeats 2000000
namespace G
open PySem PySem.Spec PyProof.Rows L2 StX
end G
set_option Elab.async false
set_option linter.all false
set_option maxRecDepth 100000
set_option maxHeartbeats 2000000
namespace G
open PySem PySem.Spec PyProof.Rows L2 StX
/-- the items with their places -/
def enumF {α : Type} (as : List α) : List (Int × α) := as.zipIdx.map fun q => ((q.2 : Int), q.1)
theorem enumF_length {α : Type} (as : List α) : (enumF as).length = as.length := by unfold enumF; rw [List.length_map, List.length_zipIdx]
theorem enumF_at {α : Type} {as : List α} {i : Nat} {a : α} (h : as[i]? = some a) : (enumF as)[i]? = some ((i : Int), a) := by
  unfold enumF
  rw [List.getElem?_map, List.getElem?_zipIdx, h]
  simp
end G
namespace G
open PySem PySem.Spec PyProof.Rows L2 StX
end G
set_option Elab.async false
set_option linter.all false
set_option maxRecDepth 100000
set_option maxHeartbeats 2000000
namespace G
open PySem PySem.Spec PyProof.Rows L2 StX
def RngO (a : Addr) (lo hi : Int) : HO := .ext fun h => ∃ t u v, IsRange h a lo hi 1 t u v
structure Rg where
  lo : Int
  hi : Int
instance : Rep Rg := ⟨fun W H v r => ∃ a, v = .ref a ∧ ¬ W.mu a ∧ H a = some (RngO a r.lo r.hi), fun e ⟨a, hv, m, h⟩ => ⟨a, hv, m, e _ _ m h⟩, fun D n ⟨a, hv, m, h⟩ => ⟨a, hv, mu_grow n m h, h⟩, fun D ⟨a, hv, m, h⟩ => ⟨a, hv, fun z => m (.inl z), h⟩⟩
end G
set_option Elab.async false
set_option linter.all false
set_option maxRecDepth 100000
set_option maxHeartbeats 2000000
namespace G
open PySem PySem.Spec PyProof.Rows L2 StX
end G
set_option Elab.async false
set_option linter.all false
set_option maxRecDepth 100000
set_option maxHeartbeats 2000000
namespace G
open PySem PySem.Spec PyProof.Rows L2 StX
abbrev Cls := Value × Nat × (Addr → Value → Option Addr → TS)
end G
namespace G
open PySem PySem.Spec PyProof.Rows L2 StX
end G
namespace G
open PySem PySem.Spec PyProof.Rows L2 StX
end G
set_option Elab.async false
set_option linter.all false
set_option maxRecDepth 100000
set_option maxHeartbeats 2000000
namespace G
open PySem PySem.Spec PyProof.Rows L2 StX
structure Li2 (α β : Type) where
  a : α
  b : β
  deriving DecidableEq
structure Li3 (α β γ : Type) where
  a : α
  b : β
  c : γ
  deriving DecidableEq
instance {α β : Type} [Rep α] [Rep β] : Rep (Li2 α β) :=
  ⟨fun W H v t => ∃ p x y, v = .ref p ∧ Lq W H p [x, y] ∧ den W H x t.a ∧ den W H y t.b,
   fun e ⟨p, x, y, hv, s, h1, h2⟩ => ⟨p, x, y, hv, s.mono e, Rep.mono e h1, Rep.mono e h2⟩,
   fun D n ⟨p, x, y, hv, s, h1, h2⟩ => ⟨p, x, y, hv, s.grow D n, Rep.grow D n h1, Rep.grow D n h2⟩,
   fun D ⟨p, x, y, hv, s, h1, h2⟩ => ⟨p, x, y, hv, s.shrink D, Rep.shrink D h1, Rep.shrink D h2⟩⟩
instance {α β γ : Type} [Rep α] [Rep β] [Rep γ] : Rep (Li3 α β γ) :=
  ⟨fun W H v t => ∃ p x y z, v = .ref p ∧ Lq W H p [x, y, z] ∧ den W H x t.a ∧ den W H y t.b ∧ den W H z t.c,
   fun e ⟨p, x, y, z, hv, s, h1, h2, h3⟩ => ⟨p, x, y, z, hv, s.mono e, Rep.mono e h1, Rep.mono e h2, Rep.mono e h3⟩,
   fun D n ⟨p, x, y, z, hv, s, h1, h2, h3⟩ => ⟨p, x, y, z, hv, s.grow D n, Rep.grow D n h1, Rep.grow D n h2, Rep.grow D n h3⟩,
   fun D ⟨p, x, y, z, hv, s, h1, h2, h3⟩ => ⟨p, x, y, z, hv, s.shrink D, Rep.shrink D h1, Rep.shrink D h2, Rep.shrink D h3⟩⟩
theorem eqvL2 (a b c d : PyData) : PyData.eqv (.list [a, b]) (.list [c, d]) = (PyData.eqv a c && PyData.eqv b d) := by
  show (PyData.eqv a c && (PyData.eqv b d && true)) = _
  rw [Bool.and_true]
theorem eqvL3 (a b c d e f : PyData) : PyData.eqv (.list [a, b, e]) (.list [c, d, f]) = (PyData.eqv a c && (PyData.eqv b d && PyData.eqv e f)) := by
  show (PyData.eqv a c && (PyData.eqv b d && (PyData.eqv e f && true))) = _
  rw [Bool.and_true]
instance {α β : Type} [Rep α] [Rep β] [Dat α] [Dat β] : Dat (Li2 α β) where
  toD := fun x => .list [Dat.toD x.a, Dat.toD x.b]
  dp := fun ⟨p, x, y, hv, s, h1, h2⟩ => by
    subst hv
    exact .lst s.sq (.cons (Dat.dp h1) (.cons (Dat.dp h2) .nil))
  dep := max (Dat.dep α) (Dat.dep β) + 1
  ddep := fun x => by
    have h1 := Dat.ddep x.a
    have h2 := Dat.ddep x.b
    show max (Dat.toD x.a).depth (max (Dat.toD x.b).depth 0) + 1 ≤ _
    omega
  inj := fun x y => by
    rw [eqvL2, Bool.and_eq_true, Dat.inj, Dat.inj]
    cases x; cases y
    exact ⟨fun h => by obtain ⟨h1, h2⟩ := h; cases h1; cases h2; rfl, fun h => by cases h; exact ⟨rfl, rfl⟩⟩
  good := fun x => Dat.good x.a ∧ Dat.good x.b
  gshp := fun x h => by
    have h1 := Dat.gshp _ h.1
    have h2 := Dat.gshp _ h.2
    show ((Dat.toD x.a).canLay0 && ((Dat.toD x.b).canLay0 && true)) = true
    rw [h1, h2]
    rfl
instance {α β γ : Type} [Rep α] [Rep β] [Rep γ] [Dat α] [Dat β] [Dat γ] : Dat (Li3 α β γ) where
  toD := fun x => .list [Dat.toD x.a, Dat.toD x.b, Dat.toD x.c]
  dp := fun ⟨p, x, y, z, hv, s, h1, h2, h3⟩ => by
    subst hv
    exact .lst s.sq (.cons (Dat.dp h1) (.cons (Dat.dp h2) (.cons (Dat.dp h3) .nil)))
  dep := max (Dat.dep α) (max (Dat.dep β) (Dat.dep γ)) + 1
  ddep := fun x => by
    have h1 := Dat.ddep x.a
    have h2 := Dat.ddep x.b
    have h3 := Dat.ddep x.c
    show max (Dat.toD x.a).depth (max (Dat.toD x.b).depth (max (Dat.toD x.c).depth 0)) + 1 ≤ _
    omega
  inj := fun x y => by
    rw [eqvL3, Bool.and_eq_true, Bool.and_eq_true, Dat.inj, Dat.inj, Dat.inj]
    cases x; cases y
    exact ⟨fun h => by obtain ⟨h1, h2, h3⟩ := h; cases h1; cases h2; cases h3; rfl, fun h => by cases h; exact ⟨rfl, rfl, rfl⟩⟩
  good := fun x => Dat.good x.a ∧ Dat.good x.b ∧ Dat.good x.c
  gshp := fun x h => by
    have h1 := Dat.gshp _ h.1
    have h2 := Dat.gshp _ h.2.1
    have h3 := Dat.gshp _ h.2.2
    show ((Dat.toD x.a).canLay0 && ((Dat.toD x.b).canLay0 && ((Dat.toD x.c).canLay0 && true))) = true
    rw [h1, h2, h3]
    rfl
theorem EvT.imp {W : Wd} {Γ : Gam} {tt : TT} {k k' : Bool → Prop} (h : EvT W tt Γ k) (i : ∀ b, k b → k' b) : EvT W tt Γ k' := fun σ H Q E q => h σ H Q E fun H' b e z => q H' b e (i b z)
end G
set_option Elab.async false
set_option linter.all false
set_option maxRecDepth 100000
set_option maxHeartbeats 2000000
namespace G
open PySem PySem.Spec PyProof.Rows L2 StX
def rBoolO (C : Addr) (sp : Sp) (E : XK) : List V → Hp → VK → Prop := fun xs H Q => ∃ a dx fs, xs = [.ref a] ∧ H a = some (.ins C dx fs) ∧ sp [.ref a] H (fun v H' => ∃ b, v = .bl b ∧ Q (.bl b) H') E
def rIxO (C : Addr) (sp : Sp) (E : XK) : R2 := fun x y H Q => ∃ a dx fs, x = .ref a ∧ H a = some (.ins C dx fs) ∧ sp [x, y] H Q E
end G
namespace G
open PySem PySem.Spec PyProof.Rows L2 StX
section
variable {W : Wd} {Γ : Gam} {ta : TA} {te tb to tl : TE} {B : Bs} {P : PT} {E : XK} {x : Xn → Prop} {C C2 : Addr} {K : PySem.W.Frag}
theorem ev_boolO {β : Type} {rβ : Rep β} {k : Bool → Prop} (hB : W.B = B) (h : EvK W te Γ fun s : β => OwnG β B C (P (fun t => ∃ y : Bool, t = T y ∧ k y) (fun _ => False) [T s])) : EvK W (tCB (rBoolO C (spG B P) E) (tCons te tNil)) Γ k := by
  subst hB
  refine fun σ H Q G c => h σ H _ G fun v H1 s e1 d ⟨cc, fl, iβ, hC, z⟩ => ?_
  subst hC
  obtain ⟨p, dp, fs, hv, _, hH, _⟩ := iβ.at_ d
  exact ⟨p, dp, fs, by rw [hv], hH, W, _, _, _, rfl, e1.ok, .cons (t := T s) (by rw [← hv]; exact d) .nil, z, fun v H3 t e3 dt ⟨a, ea, q⟩ => by
    subst ea
    exact ⟨a, dt, c _ H3 a (e1.trans e3) rfl q⟩, fun n d2 H2 _ _ q => q.elim⟩
theorem ev_ixO {α β γ : Type} {rα : Rep α} {rβ : Rep β} {rγ : Rep γ} {k : α → Prop} (hB : W.B = B) (h : EvK W te Γ fun s : β => EvK W tb Γ fun y : γ => OwnG β B C (P (fun t => ∃ a : α, t = T a ∧ k a) (fun _ => False) [T s, T y])) : EvK W (tOp (rIxO C (spG B P) E) te tb) Γ k := by
  subst hB
  refine ev_two (h.imp fun s hs => hs.imp fun y ⟨c, fl, iβ, hC, hp⟩ x z H Q o dx dz q => ?_)
  subst hC
  obtain ⟨p, dp, fs, hv, _, hH, _⟩ := iβ.at_ dx
  exact ⟨p, dp, fs, hv, hH, W, _, _, _, rfl, o, .cons (t := T s) dx (.cons (t := T y) dz .nil), hp, fun v H2 t e2 dt ⟨b, eb, kb⟩ => by
    subst eb
    exact q v H2 b e2 dt kb, fun n d2 H2 _ _ z => z.elim⟩
theorem Dl.reverse {α : Type} {f : V → α → Prop} {vs : List V} {as : List α} (h : Dl f vs as) : Dl f vs.reverse as.reverse := by
  induction h with
  | nil => exact .nil
  | cons x _ ih =>
    rw [List.reverse_cons, List.reverse_cons]
    exact ih.append (.cons x .nil)
theorem dl_take {α : Type} {f : V → α → Prop} : ∀ {vs : List V} {as : List α} (n : Nat), Dl f vs as → Dl f (vs.take n) (as.take n)
  | _, _, 0, _ => .nil
  | _, _, _ + 1, .nil => .nil
  | _, _, n + 1, .cons x y => .cons x (dl_take n y)
theorem cutV_to (xs : List V) (n : Nat) : cutV xs none (some (n : Int)) = xs.take n := by
  unfold cutV
  have e1 : HT.sIx xs.length 0 none = 0 := rfl
  have e2 : HT.sIx xs.length xs.length (some (n : Int)) = min n xs.length := by
    show (if (n : Int) < 0 then ((n : Int) + xs.length).toNat else min (n : Int).toNat xs.length) = _
    rw [if_neg (by omega), Int.toNat_natCast]
  rw [e1, e2, List.drop_zero, Nat.sub_zero]
  by_cases h : n ≤ xs.length
  · rw [Nat.min_eq_left h]
  · rw [Nat.min_eq_right (by omega), List.take_length, List.take_of_length_le (by omega)]
/-- xs[:n] -/
theorem ev_upto {α : Type} {rα : Rep α} {k : List α → Prop} (hK : W.B.K = K) (h : EvK W te Γ fun as : List α => EvK W tb Γ fun n : Int => 0 ≤ n ∧ k (as.take n.toNat)) : EvK W (tSl (rSlL K) te tNoPart (tPart tb)) Γ k := by
  subst hK
  refine fun σ H Q G c => h σ H _ G fun v H1 as e1 d1 h1 => ?_
  refine h1 σ H1 _ (G.ext e1) fun u H2 n e2 d2 ⟨hn, z⟩ => ?_
  obtain ⟨p, vs, hv, hp, hd⟩ := Rep.mono (W := W.toWc) (a := as) e2.keep d1
  refine ⟨n, d2, p, vs, hv, hp.sq, fun q hq => ?_⟩
  obtain ⟨m, rfl⟩ : ∃ m : Nat, n = m := ⟨n.toNat, by omega⟩
  rw [cutV_to]
  rw [Int.toNat_natCast] at z
  have e3 := Ext.new (o := .lst (vs.take m)) e2.ok hq
  exact c (.ref q) _ _ ((e1.trans e2).trans e3) ⟨q, _, rfl, Lq.new (fresh_mu e2.ok hq) upd_same, (dl_take m hd).imp fun _ _ d => Rep.mono e3.keep d⟩ z
theorem Dl.strs {vs : List V} {as : List Str} (h : Dl (fun v (a : Str) => v = .str a) vs as) : vs = as.map V.str := by
  induction h with
  | nil => rfl
  | cons x _ ih => rw [x, ih]; rfl
end
abbrev PF (β : Type) := (List β → Prop) → List Ty → Prop
/-- the answer is a list that was not there before the call -/
def spFr {β : Type} [Rep β] (B : Bs) (P : PF β) : Sp := fun vs H Q _ => ∃ (W : Wd) (ts : List Ty) (k : List β → Prop), W.B = B ∧ W.ok H ∧ W.wish H ∧ DT W H vs ts ∧ P k ts ∧
  ∀ p H' ws (bs : List β), H p = none → Ext W H H' → H' p = some (.lst ws) → Dl (den (W.toWc.plus p) H') ws bs → k bs → Q (.ref p) H'
end G
set_option Elab.async false
set_option linter.all false
set_option maxRecDepth 100000
set_option maxHeartbeats 2000000
namespace G
open PySem PySem.Spec PyProof.Rows L2 StX
theorem lexLt2 (a b : Int × Int) : HT.lexLt [a.1, a.2] [b.1, b.2] = !lexLe b a := by
  rw [HT.lexLt.eq_4, HT.lexLt.eq_4, HT.lexLt.eq_1]
  rw [Bool.eq_iff_iff, Bool.not_eq_true', ← Bool.not_eq_true, lexLe_iff]
  by_cases h : a.1 = b.1
  · rw [if_pos h]
    by_cases h2 : a.2 = b.2
    · rw [if_pos h2]
      simp; omega
    · rw [if_neg h2, decide_eq_true_iff]; omega
  · rw [if_neg h, decide_eq_true_iff]; omega
/-- min of a list of pairs -/
def rMinP (K : PySem.W.Frag) : List V → Hp → VK → Prop := fun vs H Q => ∃ (a : Addr) (xs : List V) (ns : List (Int × Int)), vs = [.ref a] ∧ SqL K H a xs ∧ 0 < ns.length ∧ xs.length = ns.length ∧
  (∀ (i : Nat) (x : V) (n : Int × Int), xs[i]? = some x → ns[i]? = some n → ∃ t, x = .ref t ∧ SqT K H t [.int n.1, .int n.2]) ∧ ∀ (i : Nat) (x : V) (m : Int × Int), xs[i]? = some x → ns[i]? = some m → (∀ n ∈ ns, lexLe m n = true) → Q x H
section
variable {W : Wd} {Γ : Gam} {te : TE} {K : PySem.W.Frag}
theorem ev_minP {k : Int × Int → Prop} (hK : W.B.K = K) (h : EvK W te Γ fun as : List (Int × Int) => 0 < as.length ∧ ∀ m, m ∈ as → (∀ n ∈ as, lexLe m n = true) → k m) : EvK W (tCB (rMinP K) (tCons te tNil)) Γ k := by
  subst hK
  refine fun σ H Q G c => h σ H _ G fun v H1 as e1 ⟨p, vs, hv, hp, hd⟩ ⟨hl, z⟩ => ?_
  refine ⟨p, vs, as, by rw [hv], hp.sq, hl, hd.length, fun i x n hx hn => ?_, fun i x m hx hm hle => ?_⟩
  · obtain ⟨a, ha, da⟩ := hd.at hx
    rw [hn] at ha
    cases ha
    obtain ⟨t, y, u, hv2, s, h1, h2⟩ := da
    have h1' : y = V.int n.1 := h1
    have h2' : u = V.int n.2 := h2
    subst h1' h2'
    exact ⟨t, hv2, s.sq⟩
  · obtain ⟨a, ha, da⟩ := hd.at hx
    rw [hm] at ha
    cases ha
    exact c x H1 m e1 da (z m (List.mem_of_getElem? hm) hle)
/-- pairs compared -/
theorem ev_ltP {ta tb : TE} {k : Bool → Prop} (hK : W.B.K = K) (h : EvK W ta Γ fun a : Int × Int => EvK W tb Γ fun b : Int × Int => k (!lexLe b a)) : EvK W (tOp (rLtT K) ta tb) Γ k := by
  subst hK
  refine ev_two (h.imp fun a ha => ha.imp fun b hb x y H Q o dx dy c => ?_)
  obtain ⟨t, x1, x2, rfl, s, h1, h2⟩ := dx
  obtain ⟨t2, y1, y2, rfl, s2, g1, g2⟩ := dy
  have h1' : x1 = V.int a.1 := h1
  have h2' : x2 = V.int a.2 := h2
  have g1' : y1 = V.int b.1 := g1
  have g2' : y2 = V.int b.2 := g2
  subst h1' h2' g1' g2'
  exact ⟨t, t2, [a.1, a.2], [b.1, b.2], rfl, rfl, s.sq, s2.sq, c _ H _ (Ext.refl o) (by rw [lexLt2]; rfl) hb⟩
end
end G
set_option Elab.async false
set_option linter.all false
set_option maxRecDepth 100000
set_option maxHeartbeats 2000000
namespace G
open PySem PySem.Spec PyProof.Rows L2 StX
/-- errors that are no AttributeError -/
def NAt (K : PySem.W.Frag) (cls : Value) : Prop := ∃ C, cls = .ref C ∧ PySem.W.subIn K (.ref C) (.type "AttributeError") = some false
def tPropX (K : PySem.W.Frag) (C : Addr) (sp : Sp) (E : L2.St → XK) (ta : TE) : TE := fun σ H Q => ta σ H fun x H1 => ∃ a dx fs, x = .ref a ∧ H1 a = some (.ins C dx fs) ∧ sp [.ref a] H1 Q (fun cls d H' => NAt K cls ∧ E σ cls d H')
section
variable {W : Wd} {Γ : Gam} {te : TE} {B : Bs} {P : PT} {C : Addr} {E : L2.St → XK} {x : Xn → Prop} {K : PySem.W.Frag}
theorem ev_propX {α β : Type} {rα : Rep α} {rβ : Rep β} {k : α → Prop} (hB : W.B = B) (hx : HX W Γ E x)
    (h : EvK W te Γ fun s : β => OwnG β B C (P (fun t => ∃ a : α, t = T a ∧ k a) (fun n => NAt K (.ref (B.cl n.c)) ∧ x n) [T s])) : EvK W (tPropX K C (spG B P) E te) Γ k := by
  subst hB
  refine fun σ H Q G c => h σ H _ G fun v H1 s e1 d ⟨cc, fl, iβ, hC, z⟩ => ?_
  subst hC
  obtain ⟨p, dp, fs, hv, _, hH, _⟩ := iβ.at_ d
  refine ⟨p, dp, fs, hv, hH, W, _, _, _, rfl, e1.ok, .cons (t := T s) (by rw [← hv]; exact d) .nil, z, fun v H3 t e3 dt ⟨a, ea, q⟩ => by
    subst ea
    exact c v H3 a (e1.trans e3) dt q, fun n d2 H2 e2 xd ⟨hn, xn⟩ => ⟨hn, hx σ H1 (G.ext e1) n d2 H2 e2 xd xn⟩⟩
end
end G
namespace G
open PySem PySem.Spec PyProof.Rows L2 StX
end G
set_option Elab.async false
set_option linter.all false
set_option maxRecDepth 100000
set_option maxHeartbeats 2000000
namespace G
open PySem PySem.Spec PyProof.Rows L2 StX
end G
namespace G
open PySem PySem.Spec PyProof.Rows L2 StX
end G
set_option Elab.async false
set_option linter.all false
set_option maxRecDepth 100000
set_option maxHeartbeats 2000000
namespace G
open PySem PySem.Spec PyProof.Rows L2 StX
end G
namespace G
open PySem PySem.Spec PyProof.Rows L2 StX
end G
set_option Elab.async false
set_option linter.all false
set_option maxRecDepth 100000
set_option maxHeartbeats 2000000
namespace G
open PySem PySem.Spec PyProof.Rows L2 StX
/-- an address, whatever stands there -/
structure Rf where
  a : Addr
instance : Rep Rf := ⟨fun _ _ v r => v = .ref r.a, fun _ h => h, fun _ _ h => h, fun _ h => h⟩
instance : NoLst Rf := ⟨fun _ h => h⟩
end G
namespace G
open PySem PySem.Spec PyProof.Rows L2 StX
section
variable {W : Wd} {F : Hp} {L : Own} {Γ : Gam} {ta tb te to : TE} {tt : TT} {t u : TS} {R : PoM} {g : TG} {K : PySem.W.Frag}
theorem dl_of_at {α : Type} {f : V → α → Prop} : ∀ {vs : List V} {as : List α}, vs.length = as.length → (∀ (i : Nat) (v : V) (a : α), vs[i]? = some v → as[i]? = some a → f v a) → Dl f vs as
  | [], [], _, _ => .nil
  | [], _ :: _, h, _ => nomatch h
  | _ :: _, [], h, _ => nomatch h
  | v :: vs, a :: as, h, k => .cons (k 0 v a rfl rfl) (dl_of_at (by simpa using h) fun i w b h1 h2 => k (i + 1) w b (by simpa using h1) (by simpa using h2))
end
section
variable {X : Cx}
theorem call_list_ofK (K : PySem.W.Frag) (hK : X.K = K := by rfl) : CallR X (.type "list") fun xs H Q => ∃ p ys, xs = [V.ref p] ∧ (SqL K H p ys ∨ SqT K H p ys) ∧ ∀ l, H l = none → Q (V.ref l) (upd H l (HO.lst ys)) := by subst hK; exact call_list_of
end
end G
namespace G
open PySem PySem.Spec PyProof.Rows L2 StX
end G
set_option Elab.async false
set_option linter.all false
set_option maxRecDepth 100000
set_option maxHeartbeats 2000000
namespace G
open PySem PySem.Spec PyProof.Rows L2 StX
end G
set_option Elab.async false
set_option linter.all false
set_option maxRecDepth 100000
set_option maxHeartbeats 2000000
namespace G
open PySem PySem.Spec PyProof.Rows L2 StX
def revS (z : Str) : Str := ⟨z.cps.toList.reverse.toArray⟩
def tRevS (te : TE) : TE := fun σ H Q => te σ H fun x H1 => ∃ z, x = .str z ∧ z.length ≤ sizeLine ∧ Q (.str (revS z)) H1
theorem rev_picked (z : Str) (u : Tok) : (slicePicked z none none (some (-1, u))).filterMap (z.cps[·]?) = z.cps.toList.reverse := by
  show (sliceRange ((z.length : Int) - 1) (-1) (-1)).filterMap (z.cps[·]?) = _
  rw [PySem.W.krv_sliceRange, PySem.W.krv_range, List.filterMap_reverse]
  exact congrArg List.reverse (PySem.W.krv_all z.cps)
section
variable {X : Cx}
theorem pe_revS {e : Expr} {te : TE} {k : Nat} {p1 p2 p3 pos : Pos} (he : L2.PE X e te) : L2.PE X (e.Subscript (Expr.Slice none none (some (Expr.UnaryOp UnaryOp.USub (Expr.Constant (Const.int 1) k p1) p2)) p3) pos) (tRevS te) := by
  refine ⟨fun pins s σ H Q I h => ?_⟩
  refine Subscript_ (thn (he.run pins s σ H _ I h) fun v s1 ⟨x, H1, I1, r1, q1⟩ => ?_)
  obtain ⟨z, ex, hz, q⟩ := q1
  subst ex
  obtain ⟨t, rfl⟩ := r1
  have hst : PO X (some (.UnaryOp .USub (.Constant (.int 1) k p1) p2)) (tPart (tUn (rU fun i => .int (-i)) (tC (.int 1)))) := po_some (pe_un un_neg pe_int)
  refine wpAny_Slice (thn (po_none.run pins s1 σ H1 (fun o H2 => o = none ∧ H2 = H1) I1 ⟨rfl, rfl⟩) fun vl s2 ⟨l, H2, I2, pl, el, e2⟩ => ?_)
  subst el e2
  refine thn (po_none.run pins s2 σ H2 (fun o H3 => o = none ∧ H3 = H2) I2 ⟨rfl, rfl⟩) fun vu s3 ⟨u, H3, I3, pu, eu, e3⟩ => ?_
  subst eu e3
  refine thn (hst.run pins s3 σ H3 (fun o H4 => o = some (-1) ∧ H4 = H3) I3 ⟨1, rfl, -1, rfl, rfl, rfl⟩) fun vs s4 ⟨o, H4, I4, ps, eo, e4⟩ => ?_
  subst eo e4
  have I5 : Inv X pins σ H4 { s4 with heap := s4.heap.push { cls := .type "slice", data := .fields #[vl, vu, vs] } } := I4.kept (t' := s4.toks) fun b ob q => Heap.get?_push_of_some _ q
  obtain ⟨l', rfl, hl'⟩ := IsPart.raw pl
  obtain ⟨u', rfl, hu'⟩ := IsPart.raw pu
  obtain ⟨w', rfl, hw'⟩ := IsPart.raw ps
  have e1 : l' = none := by cases l' with | none => rfl | some _ => cases hl'
  have e2 : u' = none := by cases u' with | none => rfl | some _ => cases hu'
  subst e1 e2
  obtain ⟨u1, rfl⟩ : ∃ u1, w' = some (-1, u1) := by
    cases w' with
    | none => cases hw'
    | some p => obtain ⟨a, b⟩ := p; cases hw'; exact ⟨b, rfl⟩
  refine tail_any (ops := [.ref s4.heap.objs.size, .str z t]) (typeIs_str _ _ _) (F.slot_str_getitem.lookup) ?_ (by with_unfolding_all rfl)
  refine wpAny_getItem_str_slice (l := none) (u := none) (st := some (-1, u1)) ⟨_, Heap.get?_push_size _ rfl, rfl, rfl⟩ rfl ?_
  have hm : sliceMade z t none none (some (-1, u1)) = .str (revS z) := by
    unfold sliceMade
    rw [rev_picked]
    rfl
  rw [hm]
  refine ⟨?_, .str (revS z), H4, I5.tok _, ⟨_, rfl⟩, q⟩
  show (revS z).cps.size ≤ _
  unfold revS
  rw [List.size_toArray, List.length_reverse, Array.length_toList]
  exact hz
end
section
variable {W : Wd} {Γ : Gam} {ta tb te : TE} {K : PySem.W.Frag}
theorem ev_revS {k : Str → Prop} (h : EvK W te Γ fun z : Str => z.length ≤ 100000 ∧ k (revS z)) : EvK W (tRevS te) Γ k := fun σ H Q G c => h σ H _ G fun v H1 z e1 d ⟨hl, q⟩ => by
  have d' : v = V.str z := d
  exact ⟨z, d', Nat.le_trans hl (by decide), c _ H1 (revS z) e1 rfl q⟩
theorem ev_ixS {k : Str → Prop} (h : EvK W ta Γ fun z : Str => EvK W tb Γ fun i : Int => z.length ≤ 100000 ∧ ∃ c, atI z.cps.toList i = some c ∧ k ⟨#[c]⟩) : EvK W (tOp rIxS ta tb) Γ k := by
  refine ev_two (h.imp fun z hz => hz.imp fun i ⟨hl, c, hc, q⟩ x y H Q o dx dy cc => ?_)
  have dx' : x = V.str z := dx
  have dy' : y = V.int i := dy
  exact ⟨z, i, c, dx', dy', Nat.le_trans hl (by decide), hc, cc _ H _ (Ext.refl o) rfl q⟩
theorem inV_strs (x : Str) (as : List Str) : inV (V.str x) (as.map V.str) = decide (x ∈ as) := by
  have h : inV (V.str x) (as.map V.str) = as.any fun a => a == x := by
    unfold inV
    rw [List.any_map]
    rfl
  rw [h, Bool.eq_iff_iff, List.any_eq_true, decide_eq_true_iff]
  exact ⟨fun ⟨a, ha, e⟩ => by rw [← eq_of_beq e]; exact ha, fun hx => ⟨x, hx, beq_self_eq_true x⟩⟩
theorem flat_strs (as : List Str) : (as.map V.str).all flatV = true := by
  rw [List.all_eq_true]
  intro v hv
  obtain ⟨a, _, rfl⟩ := List.mem_map.mp hv
  rfl
theorem ev_inS {k : Bool → Prop} (hK : W.B.K = K) (h : EvK W ta Γ fun x : Str => EvK W tb Γ fun as : List Str => k (decide (x ∈ as))) : EvK W (tOp (rIn K false) ta tb) Γ k := by
  subst hK
  refine ev_two (h.imp fun x hx => hx.imp fun as z v u H Q o dx ⟨p, vs, hu, hp, hd⟩ c => ?_)
  have dx' : v = V.str x := dx
  subst dx' hu
  have e := Dl.strs hd
  refine ⟨p, vs, rfl, .inl hp.sq, rfl, by rw [e]; exact flat_strs as, c _ H _ (Ext.refl o) ?_ z⟩
  show V.bl (inV (V.str x) vs) = _
  rw [e, inV_strs]
end
def wordL : Nat → Int → List Nat
  | 0, _ => []
  | k + 1, n => (97 + (n % 26).toNat) :: wordL k (n / 26)
def wordS (n : Int) (k : Nat) (b : Bool) : Str := ⟨(if b = true then (wordL k n).reverse else wordL k n).toArray⟩
theorem wordL_len : ∀ (k : Nat) (n : Int), (wordL k n).length = k
  | 0, _ => rfl
  | k + 1, n => by unfold wordL; rw [List.length_cons, wordL_len k]
theorem wordL_az : ∀ (k : Nat) (n : Int), ∀ c ∈ wordL k n, 97 ≤ c ∧ c ≤ 122
  | 0, _, c, h => nomatch h
  | k + 1, n, c, h => by
    unfold wordL at h
    rcases List.mem_cons.mp h with rfl | h
    · omega
    · exact wordL_az k _ c h
theorem wordS_list (n : Int) (k : Nat) (b : Bool) : (wordS n k b).cps.toList = if b = true then (wordL k n).reverse else wordL k n := rfl
theorem wordS_len (n : Int) (k : Nat) (b : Bool) : (wordS n k b).length = k := by
  show (if b = true then (wordL k n).reverse else wordL k n).toArray.size = k
  rw [List.size_toArray]
  split
  · rw [List.length_reverse, wordL_len]
  · rw [wordL_len]
theorem wordS_az {n : Int} {k : Nat} {b : Bool} : ∀ c ∈ (wordS n k b).cps.toList, 97 ≤ c ∧ c ≤ 122 := fun c h => by
  rw [wordS_list] at h
  split at h
  · exact wordL_az k n c (List.mem_reverse.mp h)
  · exact wordL_az k n c h
theorem wordS_inj {n m : Int} {k : Nat} {b : Bool} (hk : 1 ≤ k) (h : wordS n k b = wordS m k b) : n % 26 = m % 26 := by
  have e : wordL k n = wordL k m := by
    have e1 : (wordS n k b).cps.toList = (wordS m k b).cps.toList := by rw [h]
    rw [wordS_list, wordS_list] at e1
    split at e1
    · exact List.reverse_inj.mp e1
    · exact e1
  obtain ⟨j, rfl⟩ : ∃ j, k = j + 1 := ⟨k - 1, by omega⟩
  unfold wordL at e
  have := (List.cons.inj e).1
  omega
theorem nodup_sub {α : Type} [DecidableEq α] : ∀ {l B : List α}, l.Nodup → (∀ x ∈ l, x ∈ B) → l.length ≤ B.length
  | [], B, _, _ => Nat.zero_le _
  | x :: l, B, hn, hs => by
    obtain ⟨h1, h2⟩ := List.nodup_cons.mp hn
    have hx := hs x List.mem_cons_self
    have := nodup_sub (B := B.erase x) h2 fun y hy => (List.mem_erase_of_ne (fun e => h1 (by rw [← e]; exact hy))).mpr (hs y (List.mem_cons_of_mem _ hy))
    rw [List.length_erase_of_mem hx] at this
    have := List.length_pos_of_mem hx
    rw [List.length_cons]
    omega
def barS : List Str := [Str.ofString "rank", Str.ofString "trim", Str.ofString "weigh", Str.ofString "together"]
/-- twenty words one behind the other are not all taken -/
theorem words_free {n : Int} {k : Nat} {b : Bool} (hk : 1 ≤ k) {B : List Str} (hB : B.length < 20) (h : ∀ j : Nat, j < 20 → wordS (n + (j : Int)) k b ∈ B) : False := by
  have := nodup_sub (l := (List.range 20).map fun j : Nat => wordS (n + (j : Int)) k b) (B := B) (by
    rw [List.nodup_iff_pairwise_ne, List.pairwise_map]
    refine List.Pairwise.imp_of_mem (R := (· ≠ ·)) (fun {i j} hi hj hne e => ?_) List.nodup_range
    have q := wordS_inj hk e
    have := List.mem_range.mp hi
    have := List.mem_range.mp hj
    omega) (fun x hx => by
      obtain ⟨j, hj, rfl⟩ := List.mem_map.mp hx
      exact h j (List.mem_range.mp hj))
  rw [List.length_map, List.length_range] at this
  omega
/-- a name that a gauge may have -/
def GoodW (w : Str) : Prop := 1 ≤ w.length ∧ w.length ≤ 12 ∧ (∀ c ∈ w.cps.toList, 97 ≤ c ∧ c ≤ 122) ∧ w ∉ barS
end G
namespace G
open PySem PySem.Spec PyProof.Rows L2 StX
theorem abc_at {i : Int} (h0 : 0 ≤ i) (h1 : i < 26) : atI (Str.ofString "abcdefghijklmnopqrstuvwxyz").cps.toList i = some (97 + i.toNat) := by
  have key : ∀ j : Fin 26, atI (Str.ofString "abcdefghijklmnopqrstuvwxyz").cps.toList ((j.val : Nat) : Int) = some (97 + j.val) := by decide +kernel
  obtain ⟨n, rfl⟩ : ∃ n : Nat, i = n := ⟨i.toNat, by omega⟩
  rw [key ⟨n, by omega⟩, Int.toNat_natCast]
theorem snoc_list (z : Str) (c : Nat) : (z ++ (⟨#[c]⟩ : Str)).cps.toList = z.cps.toList ++ [c] := by
  show (z.cps ++ #[c]).toList = _
  rw [Array.toList_append]
theorem snoc_len (z : Str) (c : Nat) : (z ++ (⟨#[c]⟩ : Str)).length = z.length + 1 := by
  show (z.cps ++ #[c]).size = _
  rw [Array.size_append]
  rfl
theorem wordS_of {z : Str} {n : Int} {k : Nat} (h : z.cps.toList = wordL k n) : (wordS n k false = z) ∧ wordS n k true = revS z := by
  constructor
  · unfold wordS
    rw [if_neg (by decide), ← h]
  · unfold wordS revS
    rw [if_pos rfl, ← h]
end G
set_option Elab.async false
set_option linter.all false
set_option maxRecDepth 100000
set_option maxHeartbeats 2000000
namespace G
open PySem PySem.Spec PyProof.Rows L2 StX
end G
set_option Elab.async false
set_option linter.all false
set_option maxRecDepth 100000
set_option maxHeartbeats 2000000
namespace G
open PySem PySem.Spec PyProof.Rows L2 StX
def tMethV (m : Str) (S : Addr → Sp → Prop) (E : L2.St → XK) (ta : TE) (t : TA) : TE := fun σ H Q => ta σ H fun x H1 => ∃ a dx fs C sp, x = .ref a ∧ H1 a = some (.ins C dx fs) ∧ fs.lookup m = none ∧ S C sp ∧ t σ H1 fun vs H2 => sp (x :: vs) H2 Q (E σ)
section
variable {X : Cx} {CX : CXT} {k : Nat} {m : Str} {S : Addr → Sp → Prop} {E : L2.St → XK} {o e : Expr} {es : List Expr} {apos pos : Pos} {to te : TE} {t : TA}
theorem pe_methV {pl : Sem Bool} (ho : L2.PE X o to) (M : ∀ C sp, S C sp → L2.Cls X.K C ∧ ∃ f, Meth X.K C m f ∧ FnR X.prog X.w X.K X.mg X.base CX k f sp) (hr : Room k X.A) (hx : ∀ σ, PassesAt CX X σ (E σ)) (ha : PA X (e :: es) t)
    (he : starEach (e :: es) X.env = (false, eval e X.env) :: starEach es X.env := by rfl) (hpl : (backTo pos (starEach es X.env)).any (·.1) = false := by rfl)
    (hc : eval (.Call (.Attribute o m apos) (e :: es) [] pos) X.env = (do
      let ov ← eval o X.env
      standAt apos.atName
      let (f, first) ← holding [ov] (getMethod ov m pl)
      callWith pos f first (backTo pos (starEach (e :: es) X.env)) (backToKw pos (keywordEach [] X.env))) := by rfl) :
    L2.PE X (.Call (.Attribute o m apos) (e :: es) [] pos) (tMethV m S E to t) := by
  refine ⟨fun pins s σ H Q I h => ?_⟩
  refine PySem.W.methodCall_KW (thn (ho.run pins s σ H _ I h) fun ov s1 ⟨x, H1, I1, rx, a, dx, fs, C, sp, ex, ea, hl, hS, q⟩ => ?_) hc
  subst ex
  cases (show ov = Value.ref a from rx)
  obtain ⟨c, f, hm, F⟩ := M C sp hS
  refine getmeth_ok I1 ea c hm hl ?_
  show wpAny _ _ (callWith pos (Value.ref f) [Value.ref a] (backTo pos (starEach (e :: es) X.env)) []) _ _ _
  exact PySem.W.callWith_K (h₀ := X.base) I1.ok.mod.kin hm.kp (thn (ha.run pos pins s1 σ H1 _ I1 q) fun us s2 ⟨vs, H2, I2, r, q2⟩ => ⟨I2.kIn, run_fnRS (vs := .ref a :: vs) F hr (hx σ) I2 (.cons (show L2.RelV (.ref a) (.ref a) from rfl) r) q2⟩) he hpl
theorem pe_methV0 {pl : Sem Bool} (ho : L2.PE X o to) (M : ∀ C sp, S C sp → L2.Cls X.K C ∧ ∃ f, Meth X.K C m f ∧ FnR X.prog X.w X.K X.mg X.base CX k f sp) (hr : Room k X.A) (hx : ∀ σ, PassesAt CX X σ (E σ))
    (hc : eval (.Call (.Attribute o m apos) [] [] pos) X.env = (do
      let ov ← eval o X.env
      standAt apos.atName
      let (f, first) ← holding [ov] (getMethod ov m pl)
      callWith pos f first (backTo pos (starEach [] X.env)) (backToKw pos (keywordEach [] X.env))) := by rfl) :
    L2.PE X (.Call (.Attribute o m apos) [] [] pos) (tMethV m S E to tNil) := by
  refine ⟨fun pins s σ H Q I h => ?_⟩
  refine PySem.W.methodCall_KW (thn (ho.run pins s σ H _ I h) fun ov s1 ⟨x, H1, I1, rx, a, dx, fs, C, sp, ex, ea, hl, hS, q⟩ => ?_) hc
  subst ex
  cases (show ov = Value.ref a from rx)
  obtain ⟨c, f, hm, F⟩ := M C sp hS
  refine getmeth_ok I1 ea c hm hl ?_
  show wpAny _ _ (callWith pos (Value.ref f) [Value.ref a] (backTo pos (starEach [] X.env)) []) _ _ _
  exact PySem.W.callWith_K0 I1.kIn hm.kp (run_fnRS (us := [.ref a]) (vs := [.ref a]) F hr (hx σ) I1 (.cons (show L2.RelV (.ref a) (.ref a) from rfl) .nil) q)
end
inductive GK where
  | pl | co | la | lc
  deriving DecidableEq
def GK.cn : GK → Cn
  | .pl => .Gauge
  | .co => .CoarseGauge
  | .la => .LateGauge
  | .lc => .LateCoarseGauge
def GK.coarse : GK → Bool
  | .co => true
  | .lc => true
  | _ => false
def GK.late : GK → Bool
  | .la => true
  | .lc => true
  | _ => false
structure Gau where
  k : GK
  nm : Str
  rd : Int
  st : Int
  lt : Int
  pc : Int
  deriving DecidableEq
/-- the fields, in the order in which they are set -/
def gauF (g : Gau) : List (Str × V) := [(("name" : Str), V.str g.nm), ("radius", V.int g.rd)] ++ (if g.k.late = true then [(("late" : Str), V.int g.lt), ("pace", V.int g.pc)] else []) ++ (if g.k.coarse = true then [(("step" : Str), V.int g.st)] else [])
instance : Rep Gau :=
  ⟨fun W H v g => ∃ a dx, v = .ref a ∧ ¬ W.mu a ∧ H a = some (.ins (W.B.cl g.k.cn) dx (gauF g)),
   fun e ⟨a, dx, hv, m, h⟩ => ⟨a, dx, hv, m, e _ _ m h⟩,
   fun D n ⟨a, dx, hv, m, h⟩ => ⟨a, dx, hv, mu_grow n m h, h⟩,
   fun D ⟨a, dx, hv, m, h⟩ => ⟨a, dx, hv, fun z => m (.inl z), h⟩⟩
/-- slacks as the document tells them -/
def sbF (g : Gau) : Int := g.rd + (if g.k.late = true then g.lt * g.pc else 0)
def saF (g : Gau) : Int := g.rd + (if g.k.coarse = true then g.st - 1 else 0) + (if g.k.late = true then g.lt * g.pc else 0)
theorem nk1 : (("radius" : Str) == ("name" : Str)) = false := by decide +kernel
theorem nk2 : (("late" : Str) == ("name" : Str)) = false := by decide +kernel
theorem nk3 : (("late" : Str) == ("radius" : Str)) = false := by decide +kernel
theorem nk4 : (("pace" : Str) == ("name" : Str)) = false := by decide +kernel
theorem nk5 : (("pace" : Str) == ("radius" : Str)) = false := by decide +kernel
theorem nk6 : (("pace" : Str) == ("late" : Str)) = false := by decide +kernel
theorem nk7 : (("step" : Str) == ("name" : Str)) = false := by decide +kernel
theorem nk8 : (("step" : Str) == ("radius" : Str)) = false := by decide +kernel
theorem nk9 : (("step" : Str) == ("late" : Str)) = false := by decide +kernel
theorem nk10 : (("step" : Str) == ("pace" : Str)) = false := by decide +kernel
theorem gau_name (g : Gau) : (gauF g).lookup ("name" : Str) = some (.str g.nm) := by simp [gauF, List.lookup]
theorem gau_radius (g : Gau) : (gauF g).lookup ("radius" : Str) = some (.int g.rd) := by simp [gauF, List.lookup, nk1]
theorem gau_late {g : Gau} (h : g.k.late = true) : (gauF g).lookup ("late" : Str) = some (.int g.lt) := by simp [gauF, List.lookup, h, nk2, nk3]
theorem gau_pace {g : Gau} (h : g.k.late = true) : (gauF g).lookup ("pace" : Str) = some (.int g.pc) := by simp [gauF, List.lookup, h, nk4, nk5, nk6]
theorem gau_step {g : Gau} (h : g.k.coarse = true) : (gauF g).lookup ("step" : Str) = some (.int g.st) := by
  obtain ⟨k, nm, rd, st, lt, pc⟩ := g
  cases k with
  | pl => cases h
  | la => cases h
  | co => simp [gauF, List.lookup, GK.late, GK.coarse, nk7, nk8]
  | lc => simp [gauF, List.lookup, GK.late, GK.coarse, nk7, nk8, nk9, nk10]
/-- what the text says of the four classes -/
structure GauT (B : Bs) : Prop where
  cl : ∀ k : GK, L2.Cls B.K (B.cl k.cn)
  nname : ∀ k : GK, NoAttr B.K (B.cl k.cn) "name"
  nradius : ∀ k : GK, NoAttr B.K (B.cl k.cn) "radius"
  nstep : ∀ k : GK, NoAttr B.K (B.cl k.cn) "step"
  nlate : ∀ k : GK, NoAttr B.K (B.cl k.cn) "late"
  npace : ∀ k : GK, NoAttr B.K (B.cl k.cn) "pace"
section
variable {W : Wd} {Γ : Gam} {te to : TE} {ta : TA} {K : PySem.W.Frag}
theorem ev_gname {k : Str → Prop} (hK : W.B.K = K) (hG : GauT W.B) (h : EvK W te Γ fun g : Gau => k g.nm) : EvK W (tFld K te "name") Γ k := by
  subst hK
  refine fun σ H Q E c => h σ H _ E fun v H1 g e1 ⟨a, dx, hv, m, hH⟩ z => ?_
  exact ⟨a, _, dx, _, _, hv, hH, hG.cl _, hG.nname _, gau_name _, c _ H1 g.nm e1 rfl z⟩
theorem ev_radius {k : Int → Prop} (hK : W.B.K = K) (hG : GauT W.B) (h : EvK W te Γ fun g : Gau => k g.rd) : EvK W (tFld K te "radius") Γ k := by
  subst hK
  refine fun σ H Q E c => h σ H _ E fun v H1 g e1 ⟨a, dx, hv, m, hH⟩ z => ?_
  exact ⟨a, _, dx, _, _, hv, hH, hG.cl _, hG.nradius _, gau_radius _, c _ H1 g.rd e1 rfl z⟩
theorem ev_step {k : Int → Prop} (hK : W.B.K = K) (hG : GauT W.B) (h : EvK W te Γ fun g : Gau => g.k.coarse = true ∧ k g.st) : EvK W (tFld K te "step") Γ k := by
  subst hK
  refine fun σ H Q E c => h σ H _ E fun v H1 g e1 ⟨a, dx, hv, m, hH⟩ ⟨hc, z⟩ => ?_
  exact ⟨a, _, dx, _, _, hv, hH, hG.cl _, hG.nstep _, gau_step hc, c _ H1 g.st e1 rfl z⟩
theorem ev_late {k : Int → Prop} (hK : W.B.K = K) (hG : GauT W.B) (h : EvK W te Γ fun g : Gau => g.k.late = true ∧ k g.lt) : EvK W (tFld K te "late") Γ k := by
  subst hK
  refine fun σ H Q E c => h σ H _ E fun v H1 g e1 ⟨a, dx, hv, m, hH⟩ ⟨hc, z⟩ => ?_
  exact ⟨a, _, dx, _, _, hv, hH, hG.cl _, hG.nlate _, gau_late hc, c _ H1 g.lt e1 rfl z⟩
theorem ev_pace {k : Int → Prop} (hK : W.B.K = K) (hG : GauT W.B) (h : EvK W te Γ fun g : Gau => g.k.late = true ∧ k g.pc) : EvK W (tFld K te "pace") Γ k := by
  subst hK
  refine fun σ H Q E c => h σ H _ E fun v H1 g e1 ⟨a, dx, hv, m, hH⟩ ⟨hc, z⟩ => ?_
  exact ⟨a, _, dx, _, _, hv, hH, hG.cl _, hG.npace _, gau_pace hc, c _ H1 g.pc e1 rfl z⟩
end
end G
set_option Elab.async false
set_option linter.all false
set_option maxRecDepth 100000
set_option maxHeartbeats 2000000
namespace G
open PySem PySem.Spec PyProof.Rows L2 StX
end G
namespace G
open PySem PySem.Spec PyProof.Rows L2 StX
end G
namespace G
open PySem PySem.Spec PyProof.Rows L2 StX
end G
namespace G
open PySem PySem.Spec PyProof.Rows L2 StX
end G
namespace G
open PySem PySem.Spec PyProof.Rows L2 StX
end G
namespace G
open PySem PySem.Spec PyProof.Rows L2 StX
theorem gau_of {W : Wd} {B : Bs} (h : W.B = B) (g : GauT B) : GauT W.B := by rw [h]; exact g
end G
set_option Elab.async false
set_option linter.all false
set_option maxRecDepth 100000
set_option maxHeartbeats 2000000
namespace G
open PySem PySem.Spec PyProof.Rows L2 StX
end G
namespace G
open PySem PySem.Spec PyProof.Rows L2 StX
end G
namespace G
open PySem PySem.Spec PyProof.Rows L2 StX
def GauOk (g : Gau) : Prop := g.k.late = true → 0 ≤ g.lt ∧ g.lt ≤ 1000000000000
end G
set_option Elab.async false
set_option linter.all false
set_option maxRecDepth 100000
set_option maxHeartbeats 2000000
namespace G
open PySem PySem.Spec PyProof.Rows L2 StX
end G
namespace G
open PySem PySem.Spec PyProof.Rows L2 StX
end G
namespace G
open PySem PySem.Spec PyProof.Rows L2 StX
end G
namespace G
open PySem PySem.Spec PyProof.Rows L2 StX
end G
namespace G
open PySem PySem.Spec PyProof.Rows L2 StX
end G
set_option Elab.async false
set_option linter.all false
set_option maxRecDepth 100000
set_option maxHeartbeats 2000000
namespace G
open PySem PySem.Spec PyProof.Rows L2 StX
structure Spc where
  nm : Str
  so : Int
  rd : Int
  gr : Int
  la : Int
  dr : Int
  deriving DecidableEq
def Spc.vs (s : Spc) : List V := [.str s.nm, .int s.so, .int s.rd, .int s.gr, .int s.la, .int s.dr]
instance : Rep Spc :=
  ⟨fun W H v s => ∃ p, v = .ref p ∧ Tq W H p s.vs,
   fun e ⟨p, hv, s⟩ => ⟨p, hv, s.mono e⟩,
   fun D n ⟨p, hv, s⟩ => ⟨p, hv, s.grow D n⟩,
   fun D ⟨p, hv, s⟩ => ⟨p, hv, s.shrink D⟩⟩
section
variable {W : Wd} {Γ : Gam} {ta t1 t2 t3 t4 t5 t6 : TE} {K : PySem.W.Frag}
theorem ev_ixSp0 {k : Str → Prop} (hK : W.B.K = K) (h : EvK W ta Γ fun s : Spc => k s.nm) : EvK W (tOp (rIxT K) ta (tC (.int 0))) Γ k := by
  subst hK
  refine fun σ H Q E c => h σ H _ E fun v H1 a e1 ⟨p, hv, s⟩ q => ?_
  exact ⟨p, _, 0, _, hv, rfl, s.sq, rfl, c _ H1 a.nm e1 rfl q⟩
theorem ev_ixSp {k : Int → Prop} (j : Int) (f : Spc → Int) (hf : ∀ s : Spc, atI s.vs j = some (.int (f s))) (hK : W.B.K = K) (h : EvK W ta Γ fun s : Spc => k (f s)) : EvK W (tOp (rIxT K) ta (tC (.int j))) Γ k := by
  subst hK
  refine fun σ H Q E c => h σ H _ E fun v H1 a e1 ⟨p, hv, s⟩ q => ?_
  exact ⟨p, _, j, _, hv, rfl, s.sq, hf a, c _ H1 (f a) e1 rfl q⟩
theorem ev_ixSp1 {k : Int → Prop} (hK : W.B.K = K) (h : EvK W ta Γ fun s : Spc => k s.so) : EvK W (tOp (rIxT K) ta (tC (.int 1))) Γ k := ev_ixSp 1 Spc.so (fun _ => rfl) hK h
theorem ev_ixSp2 {k : Int → Prop} (hK : W.B.K = K) (h : EvK W ta Γ fun s : Spc => k s.rd) : EvK W (tOp (rIxT K) ta (tC (.int 2))) Γ k := ev_ixSp 2 Spc.rd (fun _ => rfl) hK h
theorem ev_ixSp3 {k : Int → Prop} (hK : W.B.K = K) (h : EvK W ta Γ fun s : Spc => k s.gr) : EvK W (tOp (rIxT K) ta (tC (.int 3))) Γ k := ev_ixSp 3 Spc.gr (fun _ => rfl) hK h
theorem ev_ixSp4 {k : Int → Prop} (hK : W.B.K = K) (h : EvK W ta Γ fun s : Spc => k s.la) : EvK W (tOp (rIxT K) ta (tC (.int 4))) Γ k := ev_ixSp 4 Spc.la (fun _ => rfl) hK h
theorem ev_ixSp5 {k : Int → Prop} (hK : W.B.K = K) (h : EvK W ta Γ fun s : Spc => k s.dr) : EvK W (tOp (rIxT K) ta (tC (.int 5))) Γ k := ev_ixSp 5 Spc.dr (fun _ => rfl) hK h
end
end G
namespace G
open PySem PySem.Spec PyProof.Rows L2 StX
/-- int(b), b a bool -/
theorem ev_intB {W : Wd} {Γ : Gam} {te : TE} {k : Int → Prop} (h : EvK W te Γ fun b : Bool => k (if b = true then 1 else 0)) : EvK W (tCB (fun xs H Q => (∃ i, xs = [.int i] ∧ Q (.int i) H) ∨ ∃ k, xs = [.bl k] ∧ Q (.int (if k = true then 1 else 0)) H) (tCons te tNil)) Γ k := fun σ H Q G c =>
  h σ H _ G fun v H1 b e1 d q => .inr ⟨b, congrArg (fun x => [x]) d, c _ H1 _ e1 rfl q⟩
end G
set_option Elab.async false
set_option linter.all false
set_option maxRecDepth 100000
set_option maxHeartbeats 2000000
namespace G
open PySem PySem.Spec PyProof.Rows L2 StX
section
variable {W : Wd} {Γ : Gam} {te : TE}
/-- .., for the walk -/
theorem ev_isiGv {K : PySem.W.Frag} {C2 : Addr} {k : Bool → Prop} (hK : W.B.K = K) (h : EvK W te Γ fun g : Gau => ∃ f : GK → Bool, (∀ kd : GK, IsT K (W.B.cl kd.cn)) ∧ (∀ kd : GK, PySem.W.kitOne K (.ref (W.B.cl kd.cn)) (.ref C2) = some (f kd)) ∧ k (f g.k)) :
    EvK W (tCB (rIsi K) (tCons te (tCons (tC (.ref C2)) tNil))) Γ k := by
  subst hK
  refine fun σ H Q E q => h σ H _ E fun v H1 g e1 ⟨p, dp, hv, _, hH⟩ ⟨f, hT, hk, z⟩ => ?_
  subst hv
  exact ⟨.ref p, .ref C2, _, _, _, rfl, .own C2, .base (.ins hH (hT g.k).c (hT g.k).f (hT g.k).s (hT g.k).t (hT g.k).m), hk g.k, q _ H1 _ e1 rfl z⟩
end
end G
set_option Elab.async false
set_option linter.all false
set_option maxRecDepth 100000
set_option maxHeartbeats 2000000
namespace G
open PySem PySem.Spec PyProof.Rows L2 StX
end G
set_option Elab.async false
set_option linter.all false
set_option maxRecDepth 100000
set_option maxHeartbeats 2000000
namespace G
open PySem PySem.Spec PyProof.Rows L2 StX
/-- nothing or one new thing -/
def Nw (H H' : Hp) : Prop := H' = H ∨ ∃ t o, H t = none ∧ H' = upd H t o
theorem Nw.gr {H H' : Hp} (h : Nw H H') {a : Addr} {o : HO} (e : H a = some o) : H' a = some o := by
  rcases h with rfl | ⟨t, u, ht, rfl⟩
  · exact e
  · rw [upd_ne (ne_of_none e ht)]
    exact e
theorem Nw.ext {W : Wd} {H H' : Hp} (h : Nw H H') (o : W.ok H) : Ext W H H' := by
  rcases h with rfl | ⟨t, u, ht, rfl⟩
  · exact Ext.refl o
  · exact Ext.new o ht
theorem Nw.kp {W : Wc} {H H' : Hp} (h : Nw H H') : Kp W H H' := fun _ _ _ e => h.gr e
/-- an iteration over as, begun at H1 -/
structure ItOk {α : Type} [Rep α] (W : Wd) (H1 : Hp) (J : It) (as : List α) : Prop where
  go : ∀ i H', Kp W.toWc H1 H' → i < as.length → J.go i H'
  stop : ∀ H', Kp W.toWc H1 H' → J.stop as.length H'
  yld : ∀ i H' x H'', Kp W.toWc H1 H' → (∀ a, W.mu a → ∃ o, H' a = some o) → i < as.length → J.yld i H' x H'' → ∃ a, as[i]? = some a ∧ Nw H' H'' ∧ den W.toWc H'' x a ∧ ∀ D o, H1 D = none → H' D = some o → den (W.toWc.plus D) H'' x a
def EvI {α : Type} [Rep α] (W : Wd) (wi : TI) (Γ : Gam) (k : List α → Prop) : Prop :=
  ∀ σ H (R : It → Hp → Prop), GOk W H σ Γ → (∀ J H1 (as : List α), Ext W H H1 → ItOk W H1 J as → k as → R J H1) → wi σ H R
section
variable {W : Wd} {Γ : Gam} {ta : TA} {te tl : TE} {tt tt2 : TT} {g g2 : TG} {wi wi2 : TI} {K : PySem.W.Frag}
theorem ei_list {α : Type} {rα : Rep α} {k : List α → Prop} (hK : W.B.K = K) (h : EvK W te Γ fun as : List α => k as) : EvI W (iList K te) Γ k := by
  subst hK
  refine fun σ H R G c => h σ H _ G fun v H1 as e1 ⟨p, xs, hv, hp, hd⟩ z => ⟨p, hv, ⟨xs, hp.sq⟩, c _ H1 as e1 ⟨?_, ?_, ?_⟩ z⟩
  · intro i H' kp hi
    rw [← hd.length] at hi
    exact ⟨xs, xs[i], (hp.mono kp).sq, List.getElem?_eq_getElem hi⟩
  · intro H' kp
    exact ⟨xs, (hp.mono kp).sq, by rw [hd.length]; exact Nat.le_refl _⟩
  · rintro i H' x H'' kp _ hi ⟨rfl, hx⟩
    obtain ⟨a, ea, da⟩ := hd.at (hx xs (hp.mono kp).sq)
    exact ⟨a, ea, .inl rfl, Rep.mono kp da, fun D o nD _ => Rep.mono (W := W.toWc.plus D) (fun b o mb z => kp b o (fun q => mb (.inl q)) z) (Rep.grow D nD da)⟩
theorem ei_enum {α : Type} {rα : Rep α} {k : List (Int × α) → Prop} (hK : W.B.K = K) (h : EvK W te Γ fun as : List α => k (enumF as)) : EvI W (iEnum K (tCons te tNil)) Γ k := by
  subst hK
  refine fun σ H R G c => h σ H _ G fun v H1 as e1 ⟨p, xs, hv, hp, hd⟩ z => ⟨p, xs, by rw [hv], hp.sq, c _ H1 _ e1 ⟨?_, ?_, ?_⟩ z⟩
  · intro i H' kp hi
    rw [enumF_length, ← hd.length] at hi
    exact ⟨xs, xs[i], (hp.mono kp).sq, List.getElem?_eq_getElem hi⟩
  · intro H' kp
    exact ⟨xs, (hp.mono kp).sq, by rw [enumF_length, hd.length]; exact Nat.le_refl _⟩
  · rintro i H' v' H'' kp live hi ⟨t, x, rfl, ht, rfl, hx⟩
    obtain ⟨a, ea, da⟩ := hd.at (hx xs (hp.mono kp).sq)
    have nmt : ¬ W.mu t := fun m => by obtain ⟨o, e⟩ := live t m; rw [ht] at e; cases e
    have nw : Nw H' (upd H' t (.tup [.int (i : Nat), x])) := .inr ⟨t, _, ht, rfl⟩
    refine ⟨((i : Int), a), enumF_at ea, nw, ⟨t, .int (i : Nat), x, rfl, ⟨nmt, upd_same⟩, rfl, Rep.mono nw.kp (Rep.mono kp da)⟩, fun D o nD hD => ?_⟩
    refine ⟨t, .int (i : Nat), x, rfl, ⟨fun m => m.elim nmt fun e => (by rw [e, hD] at ht; cases ht), upd_same⟩, rfl, ?_⟩
    exact Rep.mono (W := W.toWc.plus D) nw.kp (Rep.mono (W := W.toWc.plus D) (fun b o mb z => kp b o (fun q => mb (.inl q)) z) (Rep.grow D nD da))
theorem ei_rng1 {k : List Int → Prop} (h : EvK W te Γ fun m : Int => (-(2 ^ 62) ≤ m ∧ m < 2 ^ 62) ∧ k ((List.range m.toNat).map fun i : Nat => (i : Int))) : EvI W (iRng1 (tCons te tNil)) Γ k := by
  refine fun σ H R G c => h σ H _ G fun v H1 m e1 hv ⟨⟨b1, b2⟩, z⟩ => ⟨m, congrArg (fun x => [x]) hv, b1, b2, c _ H1 _ e1 ⟨?_, ?_, ?_⟩ z⟩
  · intro i H' kp hi
    rw [List.length_map, List.length_range] at hi
    exact hi
  · intro H' kp
    show m.toNat ≤ _
    rw [List.length_map, List.length_range]
    exact Nat.le_refl _
  · rintro i H' x H'' kp _ hi ⟨rfl, hx⟩
    rw [List.length_map, List.length_range] at hi
    have hx' : x = V.int (i : Nat) := by rw [hx, Int.zero_add]
    exact ⟨(i : Int), by rw [List.getElem?_map, List.getElem?_range hi]; rfl, .inl rfl, hx', fun D o _ _ => hx'⟩
/-- a turn of the outer clause -/
def Lc2TurnG {α β γ : Type} [Rep α] [Rep β] [Rep γ] (W0 W : Wd) (g : TG) (tt : TT) (wi2 : TI) (g2 : TG) (tt2 : TT) (te : TE) (vs vs1 : List Nat) (Γ : Gam) (a : α) (f : List γ) : Prop :=
  ∃ js : List Nat, (js.all fun j => vs.contains j) = true ∧ Tj W js g (wipeE Γ vs) a fun Γ1 => EvT W tt Γ1 fun b => (b = false → f = []) ∧ (b = true → EvI W wi2 Γ1 fun bs : List β => ∃ (p : β → Bool) (h : β → γ), (bs.filter p).map h = f ∧
    ∀ W', Sub W0 W' → ∀ b ∈ bs, ∃ js2 : List Nat, (js2.all fun j => vs1.contains j) = true ∧ Tj W' js2 g2 (wipeE Γ1 vs1) b fun Γ2 => EvT W' tt2 Γ2 fun c => c = p b ∧ (c = true → EvK W' te Γ2 fun y : γ => y = h b))
theorem evF_lc2G {α β γ : Type} {rα : Rep α} {rβ : Rep β} {rγ : Rep γ} {vs vs1 : List Nat} (f : α → List γ) {k : List γ → Prop}
    (h : EvI W wi Γ fun as : List α => ((as.flatMap f).length ≤ 100000) ∧ (∀ W', Sub W W' → ∀ a ∈ as, Lc2TurnG (β := β) W W' g tt wi2 g2 tt2 te vs vs1 Γ a (f a)) ∧ k (as.flatMap f)) :
    EvF W (tLc2 wi g tt wi2 g2 tt2 te vs vs1) Γ k := by
  intro σ H Q G c
  refine h σ H _ G fun J H1 as e1 it ⟨hbig, hs, hk⟩ D n => ?_
  have G1 := G.ext e1
  have nm : ¬ W.mu D := fresh_mu e1.ok n
  have big : ∀ {m : Nat}, m ≤ 100000 → m < sizeLine := fun h => Nat.lt_of_le_of_lt h (by decide)
  let P : List γ → Hp → Prop := fun ys H' => Ext W H1 H' ∧ ∃ us, H' D = some (.lst us) ∧ Dl (den (W.toWc.plus D) H') us ys
  refine turns (J := J) (n := as.length) (fun i H' => P ((as.take i).flatMap f) H') ⟨Ext.new e1.ok n, [], upd_same, .nil⟩ (fun i H' hi ⟨e, _⟩ => it.go i H' e.keep hi) (fun H' ⟨e, _⟩ => it.stop H' e.keep) ?_ ?_
  · rintro i H' x H'' hi ⟨e, ws, hD, hw⟩ hy
    obtain ⟨a, ea, nw, -, dpl⟩ := it.yld i H' x H'' e.keep (fun a m => W.live H' a e.ok m) hi hy
    have da := dpl D _ n hD
    have e2 : Ext W H1 H'' := e.trans (nw.ext e.ok)
    have hD2 : H'' D = some (.lst ws) := nw.gr hD
    have hw2 : Dl (den (W.toWc.plus D) H'') ws ((as.take i).flatMap f) := hw.imp fun _ _ d => Rep.mono (W := W.toWc.plus D) nw.kp d
    have ham : a ∈ as := List.mem_of_getElem? ea
    have htk : (as.take (i + 1)).flatMap f = (as.take i).flatMap f ++ f a := by
      rw [List.take_succ, ea, List.flatMap_append]
      simp
    have hlen : ((as.take (i + 1)).flatMap f).length ≤ 100000 := by
      have e2 : (as.flatMap f).length = ((as.take (i + 1)).flatMap f).length + ((as.drop (i + 1)).flatMap f).length := by
        rw [← List.length_append, ← List.flatMap_append, List.take_append_drop]
      omega
    have kp : Kp (W.toWc.plus D) H1 H'' := fun b o mb z => e2.keep b o (fun z => mb (.inl z)) z
    obtain ⟨js, hjs, tj⟩ := hs _ (Sub.plusO (o := .lst ws) (n := n) (o1 := e1.ok) (w1 := G1.wish)) a ham
    have G2 : GOk (W.plusO D (.lst ws) H1 n e1.ok G1.wish) H'' σ Γ := ⟨⟨e2.ok, hD2⟩, fun b o mb z => e2.keep b o mb z, fun j t hj => by
      obtain ⟨u, h1, h2⟩ := G1.at_ j t hj
      exact ⟨u, h1, Ty.mono kp (t.r.grow D n h2)⟩, G1.len⟩
    refine tj (wipe σ vs) H'' x _ (G2.wipe vs) da fun σ2 Γ2 G3 m2 q2 => ⟨wipe_same m2 (js_in hjs), ?_⟩
    refine q2 σ2 H'' _ G3 fun H3 b e3 ⟨hbf, hbt⟩ => ?_
    have back3 : Ext W H1 H3 := ⟨fun b o mb z => by
      have hne : b ≠ D := fun q => by rw [q, n] at z; cases z
      exact e3.keep b o (fun q => q.elim mb hne) (e2.keep b o mb z), e3.ok.1⟩
    have hD3 : H3 D = some (.lst ws) := e3.ok.2
    have hw3 : Dl (den (W.toWc.plus D) H3) ws ((as.take i).flatMap f) := hw2.imp fun _ _ d => Rep.mono (W := W.toWc.plus D) e3.keep d
    have G3' := G3.ext e3
    cases b with
    | false =>
      show P _ _
      rw [htk, hbf rfl, List.append_nil]
      exact ⟨back3, ws, hD3, hw3⟩
    | true =>
      show wi2 σ2 H3 _
      refine hbt rfl σ2 H3 _ G3' fun J1 H4 bs e4 it2 ⟨p, hf, hmap, turn⟩ => ?_
      have back4 : Ext W H1 H4 := ⟨fun b o mb z => by
        have hne : b ≠ D := fun q => by rw [q, n] at z; cases z
        exact e4.keep b o (fun q => q.elim mb hne) (back3.keep b o mb z), e4.ok.1⟩
      have hD4 : H4 D = some (.lst ws) := e4.ok.2
      have hw4 : Dl (den (W.toWc.plus D) H4) ws ((as.take i).flatMap f) := hw3.imp fun _ _ d => Rep.mono (W := W.toWc.plus D) e4.keep d
      refine turns (J := J1) (n := bs.length) (fun j H' => Kp (W.toWc.plus D) H4 H' ∧ P ((as.take i).flatMap f ++ ((bs.take j).filter p).map hf) H') ⟨fun _ _ _ z => z, back4, ws, hD4, by simpa using hw4⟩ (fun j H' hj ⟨k, _⟩ => it2.go j H' k hj) (fun H' ⟨k, _⟩ => it2.stop H' k) ?_ ?_
      · rintro j H5 y H6 hj ⟨k5, e5, ws5, hD5, hw5⟩ hy2
        obtain ⟨b, eb, nw2, db, -⟩ := it2.yld j H5 y H6 k5 (fun a m => m.elim (fun m => W.live H5 a e5.ok m) fun e => ⟨_, (congrArg H5 e).trans hD5⟩) hj hy2
        have hbm : b ∈ bs := List.mem_of_getElem? eb
        have htk2 : ((bs.take (j + 1)).filter p).map hf = ((bs.take j).filter p).map hf ++ (if p b = true then [hf b] else []) := by
          rw [List.take_succ, eb, List.filter_append, List.map_append]
          congr 1
          cases hpb : p b <;> simp [hpb]
        have hlen5 : ((as.take i).flatMap f ++ ((bs.take j).filter p).map hf).length ≤ 100000 := by
          have h1 : (((bs.take j).filter p).map hf).length ≤ (f a).length := by
            rw [← hmap, List.length_map, List.length_map]
            exact ((List.take_sublist j bs).filter p).length_le
          rw [htk, List.length_append] at hlen
          rw [List.length_append]
          omega
        have e6 : Ext W H1 H6 := e5.trans (nw2.ext e5.ok)
        have hD6 : H6 D = some (.lst ws5) := nw2.gr hD5
        have k6 : Kp (W.toWc.plus D) H4 H6 := fun b o mb z => nw2.kp b o mb (k5 b o mb z)
        have hw6 : Dl (den (W.toWc.plus D) H6) ws5 ((as.take i).flatMap f ++ ((bs.take j).filter p).map hf) := hw5.imp fun _ _ d => Rep.mono (W := W.toWc.plus D) nw2.kp d
        obtain ⟨js2, hjs2, tj2⟩ := turn _ (Sub.plusO (o := .lst ws5) (n := n) (o1 := e1.ok) (w1 := G1.wish)) b hbm
        have G4 := G3'.ext e4
        have G6 : GOk (W.plusO D (.lst ws5) H1 n e1.ok G1.wish) H6 σ2 Γ2 := ⟨⟨e6.ok, hD6⟩, fun b o mb z => e6.keep b o mb z, fun q t hq => by
          obtain ⟨u, h1, h2⟩ := G4.at_ q t hq
          exact ⟨u, h1, Ty.mono (W := W.toWc.plus D) k6 h2⟩, G4.len⟩
        refine tj2 (wipe σ2 vs1) H6 y _ (G6.wipe vs1) db fun σ3 Γ3 G7 m3 q3 => ⟨wipe_same m3 (js_in hjs2), ?_⟩
        refine q3 σ3 H6 _ G7 fun H7 b' e7 ⟨hb, hte⟩ => ?_
        have e7' : Ext W H1 H7 := ⟨fun b o mb z => by
          have hne : b ≠ D := fun q => by rw [q, n] at z; cases z
          exact e7.keep b o (fun q => q.elim mb hne) (e6.keep b o mb z), e7.ok.1⟩
        cases b' with
        | false =>
          show Kp _ _ _ ∧ P _ _
          rw [htk2, if_neg (by rw [← hb]; decide), List.append_nil]
          exact ⟨fun b o mb z => e7.keep b o mb (k6 b o mb z), e7', ws5, e7.ok.2, hw6.imp fun _ _ d => Rep.mono (W := W.toWc.plus D) e7.keep d⟩
        | true =>
          show te σ3 H7 _
          refine hte rfl σ3 H7 _ (G7.ext e7) fun yv H8 c0 e8 hc0 hcb => ⟨ws5, e8.ok.2, big (by rw [hw5.length]; exact hlen5), ?_⟩
          have e8' : Ext W H1 H8 := ⟨fun b o mb z => by
            have hne : b ≠ D := fun q => by rw [q, n] at z; cases z
            exact e8.keep b o (fun q => q.elim mb hne) (e7'.keep b o mb z), e8.ok.1⟩
          have kU : Kp (W.toWc.plus D) H8 (upd H8 D (.lst (ws5 ++ [yv]))) := fun b o mb z => by
            have hne : b ≠ D := fun q => mb (.inr q)
            rw [upd_ne hne]
            exact z
          refine ⟨fun b o mb z => kU b o mb (e8.keep b o mb (e7.keep b o mb (k6 b o mb z))), ⟨fun b o mb z => ?_, W.st _ _ _ e8'.ok nm⟩, ws5 ++ [yv], upd_same, ?_⟩
          · have hne : b ≠ D := fun q => by rw [q, n] at z; cases z
            rw [upd_ne hne]
            exact e8'.keep b o mb z
          · rw [htk2, if_pos hb.symm, ← List.append_assoc]
            refine Dl.append (hw6.imp fun _ _ d => Rep.mono (W := W.toWc.plus D) kU (Rep.mono (W := W.toWc.plus D) e8.keep (Rep.mono (W := W.toWc.plus D) e7.keep d))) (.cons ?_ .nil)
            rw [← hcb]
            exact Rep.mono (W := W.toWc.plus D) kU hc0
      · rintro H' ⟨k', p'⟩
        rw [List.take_length, hmap, ← htk] at p'
        exact p'
  · rintro H' ⟨e, us, hD, hw⟩
    rw [List.take_length] at hw
    exact c D H' us (as.flatMap f) (fresh_back e1.ok e1 n) (e1.trans e) hD hw hk
end
section
variable {W : Wd} {Γ : Gam} {te ta tb : TE} {K : PySem.W.Frag}
/-- data that is not None -/
class NotNon (α : Type) [Rep α] : Prop where
  no : ∀ {W : Wc} {H : Hp} {v : V} {a : α}, den W H v a → v ≠ .non
instance : NotNon Int := ⟨fun h e => by have h : _ = V.int _ := h; rw [h] at e; cases e⟩
instance : NotNon Str := ⟨fun h e => by have h : _ = V.str _ := h; rw [h] at e; cases e⟩
end
section
variable {W : Wd} {Γ : Gam} {ta : TE} {K : PySem.W.Frag}
theorem ev_ixT3a {α β γ : Type} {rα : Rep α} {rβ : Rep β} {rγ : Rep γ} {k : α → Prop} (hK : W.B.K = K) (h : EvK W ta Γ fun p : T3 α β γ => k p.a) : EvK W (tOp (rIxT K) ta (tC (.int 0))) Γ k := by
  subst hK
  refine fun σ H Q E c => h σ H _ E fun v H1 a e1 ⟨p, x, y, z, hv, s, d1, d2, d3⟩ q => ?_
  exact ⟨p, _, 0, x, hv, rfl, s.sq, rfl, c _ H1 _ e1 d1 q⟩
theorem ev_ixT3b {α β γ : Type} {rα : Rep α} {rβ : Rep β} {rγ : Rep γ} {k : β → Prop} (hK : W.B.K = K) (h : EvK W ta Γ fun p : T3 α β γ => k p.b) : EvK W (tOp (rIxT K) ta (tC (.int 1))) Γ k := by
  subst hK
  refine fun σ H Q E c => h σ H _ E fun v H1 a e1 ⟨p, x, y, z, hv, s, d1, d2, d3⟩ q => ?_
  exact ⟨p, _, 1, y, hv, rfl, s.sq, rfl, c _ H1 _ e1 d2 q⟩
end
end G
set_option Elab.async false
set_option linter.all false
set_option maxRecDepth 100000
set_option maxHeartbeats 2000000
namespace G
open PySem PySem.Spec PyProof.Rows L2 StX
structure Dc (β : Type) where
  l : List (Str × β)
inductive Dk {β : Type} (f : V → β → Prop) : List (Key × V) → List (Str × β) → Prop
  | nil : Dk f [] []
  | cons {k : Str} {v : V} {b : β} {r : List (Key × V)} {s : List (Str × β)} : f v b → Dk f r s → Dk f ((.inr k, v) :: r) ((k, b) :: s)
theorem Dk.imp {β : Type} {f g : V → β → Prop} (h : ∀ v b, f v b → g v b) : ∀ {kvs : List (Key × V)} {l : List (Str × β)}, Dk f kvs l → Dk g kvs l
  | _, _, .nil => .nil
  | _, _, .cons a r => .cons (h _ _ a) (r.imp h)
theorem Dk.length {β : Type} {f : V → β → Prop} : ∀ {kvs : List (Key × V)} {l : List (Str × β)}, Dk f kvs l → kvs.length = l.length
  | _, _, .nil => rfl
  | _, _, .cons _ r => congrArg (· + 1) r.length
def getDc {β : Type} (l : List (Str × β)) (k : Str) : Option β := (l.find? fun e => decide (e.1 = k)).map (·.2)
def putDc {β : Type} (l : List (Str × β)) (k : Str) (b : β) : List (Str × β) := if (l.any fun e => decide (e.1 = k)) = true then l.map (fun e => if e.1 = k then (e.1, b) else e) else l ++ [(k, b)]
theorem inr_iff {a k : Str} : ((Sum.inr a : Key) = Sum.inr k) ↔ a = k := ⟨fun h => by injection h, fun h => by rw [h]⟩
theorem Dk.get {β : Type} {f : V → β → Prop} (k : Str) : ∀ {kvs : List (Key × V)} {l : List (Str × β)}, Dk f kvs l → (valV kvs (Sum.inr k : Key) = none ∧ getDc l k = none) ∨ ∃ v b, valV kvs (Sum.inr k : Key) = some v ∧ getDc l k = some b ∧ f v b
  | _, _, .nil => .inl ⟨rfl, rfl⟩
  | _, _, .cons (k := a) (v := v) (b := b) (r := r) (s := s) h t => by
    by_cases e : a = k
    · exact .inr ⟨v, b, valV_pos (p := ((Sum.inr a : Key), v)) (inr_iff.mpr e), by unfold getDc; rw [List.find?_cons_of_pos (by exact decide_eq_true e)]; rfl, h⟩
    · have e1 : valV (((Sum.inr a : Key), v) :: r) (Sum.inr k : Key) = valV r (Sum.inr k : Key) := valV_neg (p := ((Sum.inr a : Key), v)) (fun z => e (inr_iff.mp z))
      have e2 : getDc ((a, b) :: s) k = getDc s k := by unfold getDc; rw [List.find?_cons_of_neg (by rw [decide_eq_true_iff]; exact e)]
      rw [e1, e2]
      exact t.get k
theorem Dk.any {β : Type} {f : V → β → Prop} (k : Str) : ∀ {kvs : List (Key × V)} {l : List (Str × β)}, Dk f kvs l → (kvs.any fun kv => decide (kv.1 = (.inr k : Key))) = l.any fun e => decide (e.1 = k)
  | _, _, .nil => rfl
  | _, _, .cons (k := a) _ t => by
    rw [List.any_cons, List.any_cons, t.any k]
    congr 1
    exact decide_eq_decide.mpr inr_iff
theorem Dk.map {β : Type} {f : V → β → Prop} (k : Str) {v : V} {b : β} (h : f v b) : ∀ {kvs : List (Key × V)} {l : List (Str × β)}, Dk f kvs l → Dk f (kvs.map fun kv => if kv.1 = (.inr k : Key) then (kv.1, v) else kv) (l.map fun e => if e.1 = k then (e.1, b) else e)
  | _, _, .nil => .nil
  | _, _, .cons (k := a) h2 t => by
    rw [List.map_cons, List.map_cons]
    by_cases e : a = k
    · rw [if_pos (inr_iff.mpr e), if_pos e]
      exact .cons h (t.map k h)
    · rw [if_neg (fun z => e (inr_iff.mp z)), if_neg e]
      exact .cons h2 (t.map k h)
theorem Dk.snoc {β : Type} {f : V → β → Prop} {k : Str} {v : V} {b : β} (h : f v b) : ∀ {kvs : List (Key × V)} {l : List (Str × β)}, Dk f kvs l → Dk f (kvs ++ [(.inr k, v)]) (l ++ [(k, b)])
  | _, _, .nil => .cons h .nil
  | _, _, .cons h2 t => .cons h2 (t.snoc h)
theorem Dk.put {β : Type} {f : V → β → Prop} {k : Str} {v : V} {b : β} (h : f v b) {kvs : List (Key × V)} {l : List (Str × β)} (t : Dk f kvs l) : Dk f (putK kvs (.inr k) v) (putDc l k b) := by
  unfold putK putDc
  rw [t.any k]
  split
  · exact t.map k h
  · exact t.snoc h
instance {β : Type} [Rep β] : Rep (Dc β) :=
  ⟨fun W H v d => ∃ p kvs, v = .ref p ∧ (¬ W.mu p ∧ H p = some (.dK kvs)) ∧ Dk (den W H) kvs d.l,
   fun e ⟨p, kvs, hv, hp, h⟩ => ⟨p, kvs, hv, ⟨hp.1, e _ _ hp.1 hp.2⟩, h.imp fun _ _ d => Rep.mono e d⟩,
   fun D n ⟨p, kvs, hv, hp, h⟩ => ⟨p, kvs, hv, ⟨mu_grow n hp.1 hp.2, hp.2⟩, h.imp fun _ _ d => Rep.grow D n d⟩,
   fun D ⟨p, kvs, hv, hp, h⟩ => ⟨p, kvs, hv, ⟨fun z => hp.1 (.inl z), hp.2⟩, h.imp fun _ _ d => Rep.shrink D d⟩⟩
section
variable {W : Wd} {Γ : Gam} {td ty : TE}
theorem dget_ex {β : Type} [Rep β] {W : Wc} {H : Hp} {v : V} {d : Dc β} (k : Str) (h : den W H v d) : ∃ p o, v = .ref p ∧ DGet H p (.str k) o ∧ ((o = none ∧ getDc d.l k = none) ∨ ∃ u b, o = some u ∧ getDc d.l k = some b ∧ den W H u b) := by
  obtain ⟨p, kvs, hv, hp, hd⟩ := h
  refine ⟨p, _, hv, .inl ⟨kvs, .inr k, .inl hp.2, rfl, rfl⟩, ?_⟩
  rcases hd.get k with ⟨e1, e2⟩ | ⟨u, b, e1, e2, e3⟩
  · exact .inl ⟨e1, e2⟩
  · exact .inr ⟨u, b, e1, e2, e3⟩
theorem ev_dnotin {β : Type} {rβ : Rep β} {k : Bool → Prop} (h : EvK W ty Γ fun s : Str => EvK W td Γ fun d : Dc β => k (!(getDc d.l s).isSome)) : EvK W (tDNotIn ty td) Γ k := fun σ H Q E c =>
  h σ H _ E fun x H1 s e1 dx h2 => h2 σ H1 _ (E.ext e1) fun y H2 d e2 dy z => by
    obtain ⟨p, o, hv, hg, ho⟩ := dget_ex s dy
    have dx : x = .str s := dx
    refine ⟨p, o, hv, by rw [dx]; exact hg, ?_⟩
    have : o.isSome = (getDc d.l s).isSome := by
      rcases ho with ⟨e3, e4⟩ | ⟨u, b, e3, e4, _⟩
      · rw [e3, e4]; rfl
      · rw [e3, e4]; rfl
    rw [this]
    exact c _ H2 _ (e1.trans e2) rfl z
theorem ev_dget {β : Type} {rβ : Rep β} {k : β → Prop} (h : EvK W td Γ fun d : Dc β => EvK W ty Γ fun s : Str => ∃ b, getDc d.l s = some b ∧ k b) : EvK W (tDGet td ty) Γ k := fun σ H Q E c =>
  h σ H _ E fun x H1 d e1 dx h2 => h2 σ H1 _ (E.ext e1) fun y H2 s e2 dy ⟨b, hb, z⟩ => by
    obtain ⟨p, o, hv, hg, ho⟩ := dget_ex s (Rep.mono (α := Dc β) e2.keep dx)
    have dy : y = .str s := dy
    rcases ho with ⟨_, e4⟩ | ⟨u, b', e3, e4, e5⟩
    · rw [hb] at e4; cases e4
    · rw [hb] at e4
      cases e4
      exact ⟨p, u, hv, by rw [dy, ← e3]; exact hg, c _ H2 _ (e1.trans e2) e5 z⟩
end
abbrev OwnH := List (Addr × HO)
abbrev keysH (L : OwnH) : List Addr := L.map (·.1)
def Wd.ownH (W : Wd) (F : Hp) (L : OwnH) (oF : W.ok F) (nF : ∀ k ∈ keysH L, F k = none) : Wd where
  toWc := W.toWc.plusL (keysH L)
  ok := fun H => W.ok H ∧ ∀ x ∈ L, H x.1 = some x.2
  live := fun H a ⟨h, e⟩ m => by
    rcases plusL_mu.mp m with m | m
    · exact W.live H a h m
    · obtain ⟨x, hx, rfl⟩ := List.mem_map.mp m
      exact ⟨_, e x hx⟩
  st := fun H p o ⟨h, e⟩ m => ⟨W.st H p o h fun z => m (plusL_mu.mpr (.inl z)), fun x hx => by
    have hne : x.1 ≠ p := fun z => m (plusL_mu.mpr (.inr (by rw [← z]; exact List.mem_map.mpr ⟨x, hx, rfl⟩)))
    rw [upd_ne hne]
    exact e x hx⟩
  wish := fun H => Kp W.toWc F H
  wst := fun H H' k _ w a o m e => k a o (fun z => (plusL_mu.mp z).elim m fun z => by rw [nF a z] at e; cases e) (w a o m e)
  hasbox := fun H b ⟨h, _⟩ hb => W.hasbox H b h (by rw [plusL_box] at hb; exact hb)
  boxset := fun H b c i p s i' p' s' ⟨h, e⟩ hb q h1 h2 => by
    rw [plusL_box] at hb
    refine ⟨W.boxset H b c i p s i' p' s' h hb q h1 h2, fun x hx => ?_⟩
    have z : x.1 ≠ b := fun z => by
      have h3 := nF x.1 (List.mem_map.mpr ⟨x, hx, rfl⟩)
      rw [z] at h3
      exact fresh_mu oF h3 (W.boxmu b hb)
    rw [upd_ne z]
    exact e x hx
  boxmu := fun b hb => plusL_mu.mpr (.inl (W.boxmu b (by rw [plusL_box] at hb; exact hb)))
  oke := fun H H' ⟨h, e⟩ k => ⟨W.oke H H' h k, fun x hx => k _ _ (e x hx)⟩
/-- the world Wo is W with the own lists L kept apart -/
structure OwnHW (W : Wd) (L : OwnH) (Wo : Wd) : Prop where
  B : Wo.B = W.B
  pin : ∀ H, Wo.ok H → ∀ x ∈ L, H x.1 = some x.2
  err : ∀ (E : XK) (x : Xn → Prop), (∀ H', W.ok H' → W.wish H' → XOk W H' E x) → ∀ H', Wo.ok H' → Wo.wish H' → XOk Wo H' E x
  okd : ∀ H, Wo.ok H → W.ok H
section
variable {W : Wd} {F : Hp} {L L' : OwnH} {oF : W.ok F} {nF : ∀ k ∈ keysH L, F k = none}
theorem ownH_ext {H H' : Hp} (o : (W.ownH F L oF nF).ok H) (e : Ext (W.ownH F L oF nF) H H') : Ext W H H' := ⟨fun a u m z => by
  by_cases h : a ∈ keysH L
  · obtain ⟨x, hx, rfl⟩ := List.mem_map.mp h
    have h1 := o.2 x hx
    have h2 := e.ok.2 x hx
    rw [h1] at z
    cases z
    exact h2
  · exact e.keep a u (fun z => (plusL_mu.mp z).elim m h) z, e.ok.1⟩
theorem xdenLH {H : Hp} {d : Option Addr} {fs : List (Str × Fv)} {ks : List Addr} (h : xden (W.toWc.plusL ks) H d fs) : xden W.toWc H d fs :=
  h.imp (fun h => h) fun ⟨dd, vs, h1, h2, h3, h4⟩ => ⟨dd, vs, h1, fun z => h2 (plusL_mu.mpr (.inl z)), h3, h4.imp fun _ _ z => fshrinkL z⟩
theorem ownH_w (wF : W.wish F) : OwnHW W L (W.ownH F L oF nF) := by
  refine ⟨plusL_B, fun H o x hx => o.2 x hx, fun E x h H' o w n d H2 e xd xn => ?_, fun H o => o.1⟩
  have wH : W.wish H' := W.wst F H' w o.1 wF
  have := h H' o.1 wH n d H2 (ownH_ext o e) (xdenLH xd) xn
  have hB : (W.ownH F L oF nF).B = W.B := plusL_B
  rw [hB]
  exact this
end
/-- from L at H to L' at H' -/
def StpH (W : Wd) (L : OwnH) (H : Hp) (L' : OwnH) (H' : Hp) : Prop := Kp (W.toWc.plusL (keysH L)) H H' ∧ ∀ k ∈ keysH L', k ∈ keysH L ∨ H k = none
theorem StpH.refl {W : Wd} {L : OwnH} {H : Hp} : StpH W L H L H := ⟨fun _ _ _ z => z, fun _ h => .inl h⟩
theorem StpH.trans {W : Wd} {L L1 L2 : OwnH} {H H1 H2 : Hp} (o1 : W.ok H1) (a : StpH W L H L1 H1) (b : StpH W L1 H1 L2 H2) : StpH W L H L2 H2 := by
  refine ⟨fun x o m z => b.1 x o (fun q => ?_) (a.1 x o m z), fun k hk => ?_⟩
  · rcases plusL_mu.mp q with q | q
    · exact m (plusL_mu.mpr (.inl q))
    · rcases a.2 x q with q | q
      · exact m (plusL_mu.mpr (.inr q))
      · rw [q] at z; cases z
  · rcases b.2 k hk with h | h
    · exact a.2 k h
    · by_cases hm : k ∈ keysH L
      · exact .inl hm
      · refine .inr ?_
        cases q : H k with
        | none => rfl
        | some u =>
          by_cases hw : W.mu k
          · obtain ⟨o, e⟩ := W.live H1 k o1 hw
            rw [h] at e; cases e
          · rw [a.1 k u (fun z => (plusL_mu.mp z).elim hw hm) q] at h
            cases h
structure PoH where
  nx : OwnH → Gam → Prop
  rt : Ty → Prop
  bk : OwnH → Gam → Prop := fun _ _ => False
  ct : OwnH → Gam → Prop := fun _ _ => False
structure EOkH (W : Wd) (F : Hp) (L : OwnH) (H : Hp) (D : Ends) (R : PoH) : Prop where
  nx : ∀ L' oF nF σ' H' Γ', StpH W L H L' H' → (keysH L').Nodup → GOk (W.ownH F L' oF nF) H' σ' Γ' → R.nx L' Γ' → D.nx σ' H'
  rt : ∀ v H' (t : Ty), Ext W F H' → t.den W H' v → R.rt t → D.rt v H'
  bk : ∀ L' oF nF σ' H' Γ', StpH W L H L' H' → (keysH L').Nodup → GOk (W.ownH F L' oF nF) H' σ' Γ' → R.bk L' Γ' → D.bk σ' H'
  ct : ∀ L' oF nF σ' H' Γ', StpH W L H L' H' → (keysH L').Nodup → GOk (W.ownH F L' oF nF) H' σ' Γ' → R.ct L' Γ' → D.ct σ' H'
theorem EOkH.step {W : Wd} {F : Hp} {L L1 : OwnH} {H H1 : Hp} {D : Ends} {R : PoH} (h : EOkH W F L H D R) (o1 : W.ok H1) (s : StpH W L H L1 H1) : EOkH W F L1 H1 D R :=
  ⟨fun L' oF nF σ' H' Γ' s' => h.nx L' oF nF σ' H' Γ' (s.trans o1 s'), h.rt, fun L' oF nF σ' H' Γ' s' => h.bk L' oF nF σ' H' Γ' (s.trans o1 s'), fun L' oF nF σ' H' Γ' s' => h.ct L' oF nF σ' H' Γ' (s.trans o1 s')⟩
/-- a statement in a def with own lists L; F: the heap ahead of the first of them -/
def SxH (W : Wd) (F : Hp) (t : TS) (L : OwnH) (Γ : Gam) (R : PoH) : Prop :=
  ∀ D σ H oF nF, W.wish F → (keysH L).Nodup → GOk (W.ownH F L oF nF) H σ Γ → EOkH W F L H D R → t D σ H
theorem ownH_gok_nil {W : Wd} {F H : Hp} {σ : L2.St} {Γ : Gam} {oF : W.ok F} {nF : ∀ k ∈ keysH [], F k = none} (k : Kp W.toWc F H) (G : GOk W H σ Γ) : GOk (W.ownH F [] oF nF) H σ Γ := ⟨⟨G.ok, fun _ h => nomatch h⟩, k, G.at_, G.len⟩
theorem ownH_gok_out {W : Wd} {F H : Hp} {L : OwnH} {σ : L2.St} {Γ : Gam} {oF : W.ok F} {nF : ∀ k ∈ keysH L, F k = none} (wF : W.wish F) (G : GOk (W.ownH F L oF nF) H σ Γ) : GOk W H σ Γ :=
  ⟨G.ok.1, W.wst F H G.wish G.ok.1 wF, fun i t h => let ⟨v, h1, h2⟩ := G.at_ i t h; ⟨v, h1, shrinkL h2⟩, G.len⟩
theorem ownH_stp {W : Wd} {F H H' : Hp} {L : OwnH} {oF : W.ok F} {nF : ∀ k ∈ keysH L, F k = none} (e : Ext (W.ownH F L oF nF) H H') : StpH W L H L H' := ⟨e.keep, fun _ h => .inl h⟩
section
variable {W : Wd} {F : Hp} {L : OwnH} {Γ : Gam} {ta tb te : TE} {tt : TT} {t u : TS} {R : PoH} {g : TG}
/-- into the part with own lists -/
theorem sx_ownH {R : Po} (h : ∀ F, SxH W F t [] Γ { nx := fun _ => R.nx, rt := R.rt, bk := fun _ => R.bk, ct := fun _ => R.ct }) : Sx W t Γ R := fun D σ H G O =>
  h H D σ H G.ok (fun _ z => nomatch z) G.wish .nil (ownH_gok_nil (fun _ _ _ z => z) G)
    ⟨fun L' oF nF σ' H' Γ' s _ G' q => O.nx σ' H' Γ' ⟨G'.wish, G'.ok.1⟩ (ownH_gok_out G.wish G') q, fun v H' t e d q => O.rt v H' t e d q,
     fun L' oF nF σ' H' Γ' s _ G' q => O.bk σ' H' Γ' ⟨G'.wish, G'.ok.1⟩ (ownH_gok_out G.wish G') q, fun L' oF nF σ' H' Γ' s _ G' q => O.ct σ' H' Γ' ⟨G'.wish, G'.ok.1⟩ (ownH_gok_out G.wish G') q⟩
theorem eokH_un {D : Ends} {H : Hp} {oF : W.ok F} {nF : ∀ k ∈ keysH L, F k = none} (nd : (keysH L).Nodup) (O : EOkH W F L H D R) (wk : Kp W.toWc F H) (o : (W.ownH F L oF nF).ok H) : EOk (W.ownH F L oF nF) H D { nx := R.nx L, rt := R.rt, bk := R.bk L, ct := R.ct L } :=
  ⟨fun σ' H' Γ' e G q => O.nx L oF nF σ' H' Γ' (ownH_stp e) nd G q, fun v H' t e d q => O.rt v H' t (Ext.trans (W := W) ⟨wk, o.1⟩ (ownH_ext o e)) (shrinkL d) q,
   fun σ' H' Γ' e G q => O.bk L oF nF σ' H' Γ' (ownH_stp e) nd G q, fun σ' H' Γ' e G q => O.ct L oF nF σ' H' Γ' (ownH_stp e) nd G q⟩
/-- a statement that leaves the own lists -/
theorem sxh_pure (h : ∀ Wo, OwnHW W L Wo → Sx Wo t Γ { nx := R.nx L, rt := R.rt, bk := R.bk L, ct := R.ct L }) : SxH W F t L Γ R := fun D σ H oF nF wF nd G O =>
  h _ (ownH_w wF) D σ H G (eokH_un nd O G.wish G.ok)
theorem sxh_seq (h : SxH W F t L Γ { R with nx := fun L' Γ' => SxH W F u L' Γ' R }) : SxH W F (tSeq t u) L Γ R := fun D σ H oF nF wF nd G O =>
  h _ σ H oF nF wF nd G ⟨fun L' oF nF σ' H' Γ' s nd' G' q => q D σ' H' oF nF wF nd' G' (O.step G'.ok.1 s), O.rt, O.bk, O.ct⟩
theorem SxH.imp {R' : PoH} (h : SxH W F t L Γ R') (n : ∀ L Γ', R'.nx L Γ' → R.nx L Γ') (r : ∀ v, R'.rt v → R.rt v) (b : ∀ L Γ', R'.bk L Γ' → R.bk L Γ') (c : ∀ L Γ', R'.ct L Γ' → R.ct L Γ') : SxH W F t L Γ R := fun D σ H oF nF wF nd G O =>
  h D σ H oF nF wF nd G ⟨fun L' oF nF σ' H' Γ' s nd' G' q => O.nx L' oF nF σ' H' Γ' s nd' G' (n _ _ q), fun v H' t e d q => O.rt v H' t e d (r _ q), fun L' oF nF σ' H' Γ' s nd' G' q => O.bk L' oF nF σ' H' Γ' s nd' G' (b _ _ q), fun L' oF nF σ' H' Γ' s nd' G' q => O.ct L' oF nF σ' H' Γ' s nd' G' (c _ _ q)⟩
theorem sxh_seqI (I : OwnH → Gam → Prop) (h : SxH W F t L Γ { R with nx := I }) (k : ∀ L' Γ', I L' Γ' → SxH W F u L' Γ' R) : SxH W F (tSeq t u) L Γ R := sxh_seq (h.imp k (fun _ q => q) (fun _ _ q => q) fun _ _ q => q)
theorem sxh_if (h : ∀ Wo, OwnHW W L Wo → EvT Wo tt Γ fun b => (b = true → SxH W F t L Γ R) ∧ (b = false → SxH W F u L Γ R)) : SxH W F (tIfS tt t u) L Γ R := fun D σ H oF nF wF nd G O =>
  h _ (ownH_w wF) σ H _ G fun H1 b e1 ⟨h1, h2⟩ => by
    have G1 := G.ext e1
    cases b with
    | true => exact h1 rfl D σ H1 oF nF wF nd G1 (O.step G1.ok.1 (ownH_stp e1))
    | false => exact h2 rfl D σ H1 oF nF wF nd G1 (O.step G1.ok.1 (ownH_stp e1))
theorem sxh_next (q : R.nx L Γ) : SxH W F tNext L Γ R := sxh_pure fun Wo _ => sx_next q
theorem fresh_FH {H : Hp} {p : Addr} (oH : W.ok H) (wk : Kp W.toWc F H) (n : H p = none) : F p = none := by
  cases q : F p with
  | none => rfl
  | some u =>
    rw [wk p u (fresh_mu oH n) q] at n
    cases n
/-- an own dict -/
structure Od (β : Type) where
  p : Addr
  kvs : List (Key × V)
  ds : List (Str × β)
instance {β : Type} [Rep β] : Rep (Od β) :=
  ⟨fun W H v a => v = .ref a.p ∧ Dk (den W H) a.kvs a.ds, fun e h => ⟨h.1, h.2.imp fun _ _ d => Rep.mono e d⟩, fun D n h => ⟨h.1, h.2.imp fun _ _ d => Rep.grow D n d⟩, fun D h => ⟨h.1, h.2.imp fun _ _ d => Rep.shrink D d⟩⟩
theorem keysH_set {k : Nat} {p : Addr} {o o' : HO} (h : L[k]? = some (p, o)) : keysH (L.set k (p, o')) = keysH L := by
  refine List.ext_getElem? fun i => ?_
  rw [List.getElem?_map, List.getElem?_map, List.getElem?_set]
  by_cases e : k = i
  · subst e
    rw [if_pos rfl]
    have hl : k < L.length := (List.getElem?_eq_some_iff.mp h).1
    rw [if_pos hl, h]
    rfl
  · rw [if_neg e]
/-- an own thing changes at its place -/
theorem ownH_put {H : Hp} {σ : L2.St} {D : Ends} {oF : W.ok F} {nF : ∀ k ∈ keysH L, F k = none} {k i : Nat} {p : Addr} {o o' : HO} {v0 : V} (t : Ty) (nd : (keysH L).Nodup) (G : GOk (W.ownH F L oF nF) H σ Γ) (O : EOkH W F L H D R)
    (hk : L[k]? = some (p, o)) (hi : σ[i]? = some (some v0)) (hb : Kp (W.toWc.plusL (keysH L)) H (upd H p o') → t.den (W.toWc.plusL (keysH L)) (upd H p o') v0) (q : R.nx (L.set k (p, o')) (Γ.set i (some t))) : D.nx σ (upd H p o') := by
  have hks : keysH (L.set k (p, o')) = keysH L := keysH_set hk
  have hmem : p ∈ keysH L := List.mem_map.mpr ⟨_, List.mem_of_getElem? hk, rfl⟩
  have kp : Kp (W.toWc.plusL (keysH L)) H (upd H p o') := fun b u m z => by
    have hne : b ≠ p := fun e => m (plusL_mu.mpr (.inr (by rw [e]; exact hmem)))
    rw [upd_ne hne]
    exact z
  have nF' : ∀ k' ∈ keysH (L.set k (p, o')), F k' = none := fun k' h => nF k' (by rw [hks] at h; exact h)
  have nmu : ¬ W.mu p := fresh_mu oF (nF p hmem)
  have s : StpH W L H (L.set k (p, o')) (upd H p o') := ⟨kp, fun k' h => .inl (by rw [hks] at h; exact h)⟩
  have hl : k < L.length := (List.getElem?_eq_some_iff.mp hk).1
  have G2 : GOk (W.ownH F (L.set k (p, o')) oF nF') (upd H p o') σ (Γ.set i (some t)) := by
    refine ⟨⟨W.st _ _ _ G.ok.1 nmu, fun x hx => ?_⟩, fun a u m z => ?_, fun j t' ht => ?_, by rw [List.length_set]; exact G.len⟩
    · obtain ⟨j, hj⟩ := List.getElem?_of_mem hx
      rw [List.getElem?_set] at hj
      by_cases e : k = j
      · rw [if_pos e, if_pos hl] at hj
        cases hj
        exact upd_same
      · rw [if_neg e] at hj
        have hne : x.1 ≠ p := fun z => by
          have h1 : (keysH L)[j]? = some p := by rw [List.getElem?_map, hj, ← z]; rfl
          have h2 : (keysH L)[k]? = some p := by rw [List.getElem?_map, hk]; rfl
          exact e ((List.getElem?_inj (by rw [List.length_map]; exact hl) nd).mp (h2.trans h1.symm))
        rw [upd_ne hne]
        exact G.ok.2 x (List.mem_of_getElem? hj)
    · have hne : a ≠ p := fun e => by rw [e, nF p hmem] at z; cases z
      rw [upd_ne hne]
      exact G.wish a u m z
    · show ∃ v, σ[j]? = some (some v) ∧ t'.den (W.toWc.plusL (keysH (L.set k (p, o')))) _ v
      rw [hks]
      by_cases e : i = j
      · subst e
        have hl2 : i < Γ.length := by
          have := (List.getElem?_eq_some_iff.mp hi).1
          rw [G.len] at this
          exact this
        rw [List.getElem?_set_self hl2] at ht
        cases ht
        exact ⟨_, hi, hb kp⟩
      · rw [List.getElem?_set_ne e] at ht
        obtain ⟨v, h1, h2⟩ := G.at_ j t' ht
        exact ⟨v, h1, Ty.mono kp h2⟩
  exact O.nx _ oF nF' σ _ _ s (by rw [hks]; exact nd) G2 q
/-- x = a new thing, from now on an own one -/
theorem newH {H H1 : Hp} {σ : L2.St} {D : Ends} {oF : W.ok F} {nF : ∀ k ∈ keysH L, F k = none} {i : Nat} {p : Addr} {o : HO} (t : Ty) (nd : (keysH L).Nodup) (G : GOk (W.ownH F L oF nF) H σ Γ) (O : EOkH W F L H D R)
    (n : H p = none) (e : Ext (W.ownH F L oF nF) H H1) (hp : H1 p = some o) (ht : t.den (W.toWc.plusL (keysH ((p, o) :: L))) H1 (.ref p)) (q : R.nx ((p, o) :: L) (Γ.set i (some t))) : D.nx (σ.set i (some (.ref p))) H1 := by
  have nFp : F p = none := fresh_FH G.ok.1 G.wish n
  have hpk : p ∉ keysH L := fun hk => by
    obtain ⟨x, hx, e1⟩ := List.mem_map.mp hk
    have := G.ok.2 x hx
    rw [e1, n] at this
    cases this
  have nF' : ∀ k ∈ keysH ((p, o) :: L), F k = none := fun k hk => by
    rcases List.mem_cons.mp hk with rfl | hk
    · exact nFp
    · exact nF k hk
  have s : StpH W L H ((p, o) :: L) H1 := ⟨e.keep, fun k hk => by
    rcases List.mem_cons.mp hk with rfl | hk
    · exact .inr n
    · exact .inl hk⟩
  have G1 := G.ext e
  have kp : Kp ((W.toWc.plusL (keysH L)).plus p) H H1 := fun b u m z => e.keep b u (fun z => m (.inl z)) z
  have G2 : GOk (W.ownH F ((p, o) :: L) oF nF') H1 σ Γ := ⟨⟨G1.ok.1, fun x hx => by
    rcases List.mem_cons.mp hx with rfl | hx
    · exact hp
    · exact G1.ok.2 x hx⟩, G1.wish, fun j t ht => by
      obtain ⟨v, h1, h2⟩ := G.at_ j t ht
      exact ⟨v, h1, Ty.mono kp (t.r.grow p n h2)⟩, G.len⟩
  exact O.nx _ oF nF' _ H1 _ s (List.nodup_cons.mpr ⟨hpk, nd⟩) (G2.set i (t := t) ht) q
theorem sxh_newL {β : Type} {rβ : Rep β} {i : Nat} (h : ∀ Wo, OwnHW W L Wo → EvF Wo te Γ fun bs : List β => ∀ p vs, R.nx ((p, .lst vs) :: L) (Γ.set i (some (T (Ol.mk p vs bs))))) : SxH W F (tAsg te (gName i)) L Γ R := fun D σ H oF nF wF nd G O =>
  h _ (ownH_w wF) σ H _ G fun p H1 vs bs n e hp hb q => newH (T (Ol.mk p vs bs)) nd G O n e hp ⟨rfl, hb⟩ (q p vs)
theorem sxh_newD (β : Type) {rβ : Rep β} {i : Nat} (q : ∀ p, R.nx ((p, .dK []) :: L) (Γ.set i (some (T (Od.mk p [] ([] : List (Str × β))))))) : SxH W F (tAsg tDNewK (gName i)) L Γ R := fun D σ H oF nF wF nd G O p hp =>
  newH (T (Od.mk p [] ([] : List (Str × β)))) nd G O hp (Ext.new G.ok hp) upd_same ⟨rfl, .nil⟩ (q p)
theorem od_at {Wo : Wd} {H : Hp} {σ : L2.St} {β : Type} {rβ : Rep β} {i : Nat} {p : Addr} {kvs : List (Key × V)} {ds : List (Str × β)} (G : GOk Wo H σ Γ) (h : Γ[i]? = some (some (T (Od.mk p kvs ds)))) : σ[i]? = some (some (.ref p)) ∧ Dk (den Wo H) kvs ds := by
  obtain ⟨v, h1, h2, h3⟩ := G.at_ i _ h
  subst h2
  exact ⟨h1, h3⟩
/-- d[k] = e, d an own dict -/
theorem sxh_dput {β : Type} {rβ : Rep β} {i : Nat} (n : Nat) {ty tv : TE} {p : Addr} {kvs : List (Key × V)} {ds : List (Str × β)} (hk : L[n]? = some (p, .dK kvs)) (hi : Γ[i]? = some (some (T (Od.mk p kvs ds))))
    (h : ∀ Wo, OwnHW W L Wo → EvK Wo tv Γ fun b : β => EvK Wo ty Γ fun k : Str => ds.length < 100000 ∧ ∀ kvs', R.nx (L.set n (p, .dK kvs')) (Γ.set i (some (T (Od.mk p kvs' (putDc ds k b)))))) : SxH W F (sDPut (tVar i) ty tv) L Γ R := fun D σ H oF nF wF nd G O => by
  refine h _ (ownH_w wF) σ H _ G fun v H1 b e1 dv h2 => ?_
  have G1 := G.ext e1
  obtain ⟨h1, h3⟩ := od_at G1 hi
  refine ⟨_, h1, ?_⟩
  refine h2 σ H1 _ G1 fun y H2 k e2 dy ⟨hlen, q⟩ => ?_
  have G2 := G1.ext e2
  obtain ⟨_, h5⟩ := od_at G2 hi
  have dy : y = .str k := dy
  have hp := G2.ok.2 _ (List.mem_of_getElem? hk)
  refine ⟨p, _, rfl, .inl ⟨kvs, .inr k, hp, dy, ?_, rfl⟩, ?_⟩
  · exact Nat.lt_of_lt_of_le (by rw [h5.length]; exact hlen) (by decide : 100000 ≤ sizeLine)
  · exact ownH_put (T (Od.mk p _ (putDc ds k b))) nd G2 (O.step G2.ok.1 (ownH_stp (e1.trans e2))) hk h1 (fun kp => ⟨rfl, (h5.put (Rep.mono e2.keep dv)).imp fun _ _ d => Rep.mono kp d⟩) (q _)
/-- for x in a list, with own lists -/
theorem sxh_forL {α : Type} {rα : Rep α} {K : PySem.W.Frag} (hK : W.B.K = K) (h : ∀ Wo, OwnHW W L Wo → EvK Wo te Γ fun as : List α => ∃ I : Nat → OwnH → Gam → Prop, I 0 L Γ ∧
      (∀ i L' Γ', I i L' Γ' → keysH L' = keysH L) ∧
      (∀ (i : Nat) (a : α) L' Γ', as[i]? = some a → I i L' Γ' → ∀ Wo', OwnHW W L' Wo' → Tg Wo' g Γ' a fun Γ1 => SxH W F t L' Γ1 { R with nx := I (i + 1), ct := I (i + 1), bk := R.nx }) ∧ ∀ L' Γ', I as.length L' Γ' → R.nx L' Γ') : SxH W F (tFor (iList K te) g t) L Γ R := by
  subst hK
  refine fun D σ H oF nF wF nd G O => h _ (ownH_w wF) σ H _ G fun v H1 as e1 ⟨p, vs, hv, hp, hd⟩ ⟨I, h0, hI, hs, hl⟩ => ?_
  have hB : (W.ownH F L oF nF).B.K = W.B.K := congrArg Bs.K plusL_B
  have G1 := G.ext e1
  have O1 := O.step G1.ok.1 (ownH_stp e1)
  have sq : ∀ H', Kp (W.toWc.plusL (keysH L)) H1 H' → SqL W.B.K H' p vs := fun H' kk => .inl (.inl (kk _ _ hp.1 hp.2))
  refine ⟨p, hv, ⟨vs, sq H1 fun _ _ _ z => z⟩, for_list (K := W.B.K) (a := p) (xs := vs) (fun i σ' H' => ∃ L' oF nF Γ', StpH W L H1 L' H' ∧ (keysH L').Nodup ∧ GOk (W.ownH F L' oF nF) H' σ' Γ' ∧ I i L' Γ') ⟨L, oF, nF, Γ, .refl, nd, G1, h0⟩ (fun i σ' H' _ ⟨L', _, _, Γ', s, _⟩ => sq H' s.1) ?_ ?_⟩
  · rintro i x σ' H' hx ⟨L', oF', nF', Γ', s, nd', G', q⟩
    obtain ⟨a, ha, da⟩ := (hd.imp fun _ _ d => Rep.mono s.1 d).at hx
    obtain ⟨js, hj⟩ := hs i a L' Γ' ha q _ (ownH_w (oF := oF') (nF := nF') wF)
    have da' : den (W.ownH F L' oF' nF').toWc H' x a := by
      show den (W.toWc.plusL (keysH L')) H' x a
      rw [hI i L' Γ' q]
      exact da
    refine hj σ' H' x _ G' da' fun σ2 Γ2 G2 _ q2 => ?_
    exact q2 _ σ2 H' oF' nF' wF nd' G2 ⟨fun L3 oF3 nF3 σ3 H3 Γ3 s3 nd3 G3 q3 => ⟨L3, oF3, nF3, Γ3, s.trans G'.ok.1 s3, nd3, G3, q3⟩, fun v3 H3 t3 e3 d3 q3 => O.rt v3 H3 t3 e3 d3 q3,
      fun L3 oF3 nF3 σ3 H3 Γ3 s3 nd3 G3 q3 => O1.nx L3 oF3 nF3 σ3 H3 Γ3 (s.trans G'.ok.1 s3) nd3 G3 q3, fun L3 oF3 nF3 σ3 H3 Γ3 s3 nd3 G3 q3 => ⟨L3, oF3, nF3, Γ3, s.trans G'.ok.1 s3, nd3, G3, q3⟩⟩
  · rintro σ' H' ⟨L', oF', nF', Γ', s, nd', G', q⟩
    rw [hd.length] at q
    exact O1.nx L' oF' nF' σ' H' Γ' s nd' G' (hl L' Γ' q)
structure Fd (α : Type) where
  n : Str
  a : α
/-- the fields of an object; the last one that was set stands first -/
class FRep (β : Type) where
  fd : Wc → Hp → List (Str × V) → β → Prop
  mono : ∀ {W : Wc} {H H' : Hp} {fs : List (Str × V)} {b : β}, Kp W H H' → fd W H fs b → fd W H' fs b
  grow : ∀ {W : Wc} {H : Hp} {fs : List (Str × V)} {b : β} (D : Addr), H D = none → fd W H fs b → fd (W.plus D) H fs b
  shrink : ∀ {W : Wc} {H : Hp} {fs : List (Str × V)} {b : β} (D : Addr), fd (W.plus D) H fs b → fd W H fs b
  nms : β → List Str
  nm : ∀ {W : Wc} {H : Hp} {fs : List (Str × V)} {b : β}, fd W H fs b → fs.map (·.1) = nms b
instance frepU : FRep Unit := ⟨fun _ _ fs _ => fs = [], fun _ h => h, fun _ _ h => h, fun _ h => h, fun _ => [], fun h => by rw [h]; rfl⟩
instance frepP {α β : Type} [Rep α] [FRep β] : FRep (Fd α × β) :=
  ⟨fun W H fs b => ∃ v r, fs = r ++ [(b.1.n, v)] ∧ den W H v b.1.a ∧ FRep.fd W H r b.2,
   fun e ⟨v, r, h1, h2, h3⟩ => ⟨v, r, h1, Rep.mono e h2, FRep.mono e h3⟩,
   fun D n ⟨v, r, h1, h2, h3⟩ => ⟨v, r, h1, Rep.grow D n h2, FRep.grow D n h3⟩,
   fun D ⟨v, r, h1, h2, h3⟩ => ⟨v, r, h1, Rep.shrink D h2, FRep.shrink D h3⟩,
   fun b => FRep.nms b.2 ++ [b.1.n],
   fun ⟨v, r, h1, h2, h3⟩ => by rw [h1, List.map_append, FRep.nm h3]; rfl⟩
structure Oi (β : Type) where
  p : Addr
  c : Cn
  dx : Addr
  fs : List (Str × V)
  b : β
instance {β : Type} [FRep β] : Rep (Oi β) :=
  ⟨fun W H v o => v = .ref o.p ∧ FRep.fd W H o.fs o.b, fun e h => ⟨h.1, FRep.mono e h.2⟩, fun D n h => ⟨h.1, FRep.grow D n h.2⟩, fun D h => ⟨h.1, FRep.shrink D h.2⟩⟩
theorem fshrinkO {β : Type} [FRep β] {W : Wc} {H : Hp} {fs : List (Str × V)} {b : β} : ∀ {ks : List Addr}, FRep.fd (W.plusL ks) H fs b → FRep.fd W H fs b
  | [], h => h
  | k :: ks, h => fshrinkO (ks := ks) (FRep.shrink k h)
inductive FrzH (B : Bs) (L : OwnH) : Gam → Gam → Prop
  | nil : FrzH B L [] []
  | ownI {β : Type} {fβ : FRep β} {α : Type} {rα : Rep α} {o : Oi β} {a : α} {Γ Γ' : Gam} : (o.p, .ins (B.cl o.c) o.dx o.fs) ∈ L → (∀ (W : Wc) (H : Hp), W.B = B → ¬ W.mu o.p → H o.p = some (.ins (B.cl o.c) o.dx o.fs) → FRep.fd W H o.fs o.b → den W H (.ref o.p) a) → FrzH B L Γ Γ' → FrzH B L (some (T o) :: Γ) (some (T a) :: Γ')
  | ownJ {β : Type} {fβ : FRep β} {α : Type} {rα : Rep α} {o : Oi β} {a : α} {Γ Γ' : Gam} : (∀ (W : Wc) (H : Hp), W.B = B → (∀ x ∈ L, ¬ W.mu x.1 ∧ H x.1 = some x.2) → FRep.fd W H o.fs o.b → den W H (.ref o.p) a) → FrzH B L Γ Γ' → FrzH B L (some (T o) :: Γ) (some (T a) :: Γ')
  | ownL {α : Type} {rα : Rep α} {p : Addr} {vs : List V} {as : List α} {Γ Γ' : Gam} : (p, .lst vs) ∈ L → FrzH B L Γ Γ' → FrzH B L (some (T (Ol.mk p vs as)) :: Γ) (some (T as) :: Γ')
  | ownD {β : Type} {rβ : Rep β} {p : Addr} {kvs : List (Key × V)} {ds : List (Str × β)} {Γ Γ' : Gam} : (p, .dK kvs) ∈ L → FrzH B L Γ Γ' → FrzH B L (some (T (Od.mk p kvs ds)) :: Γ) (some (T (Dc.mk ds)) :: Γ')
  | same {t : Option Ty} {Γ Γ' : Gam} : FrzH B L Γ Γ' → FrzH B L (t :: Γ) (t :: Γ')
theorem FrzH.len {B : Bs} {Γ Γ' : Gam} (h : FrzH B L Γ Γ') : Γ.length = Γ'.length := by
  induction h with
  | nil => rfl
  | ownI _ _ _ ih => exact congrArg (· + 1) ih
  | ownJ _ _ ih => exact congrArg (· + 1) ih
  | ownL _ _ ih => exact congrArg (· + 1) ih
  | ownD _ _ ih => exact congrArg (· + 1) ih
  | same _ ih => exact congrArg (· + 1) ih
theorem frzH_slots {B : Bs} {H : Hp} {Γ Γ' : Gam} (hB : W.B = B) (nm : ∀ k ∈ keysH L, ¬ W.mu k) (pin : ∀ x ∈ L, H x.1 = some x.2) (f : FrzH B L Γ Γ') : ∀ (i : Nat) (t : Ty), Γ'[i]? = some (some t) → (∀ u v, Γ[i]? = some (some u) → u.den (W.toWc.plusL (keysH L)) H v → t.den W.toWc H v) ∧ ∃ u, Γ[i]? = some (some u) := by
  induction f with
  | nil => intro i t h; simp at h
  | @ownI β fβ α rα o a Γ Γ' hm hd _ ih =>
    intro i t h
    cases i with
    | zero =>
      have h' : some (some (T a)) = some (some t) := by simpa using h
      cases h'
      refine ⟨fun u v hu hd2 => ?_, _, rfl⟩
      have hu' : some (some (T o)) = some (some u) := by simpa using hu
      cases hu'
      obtain ⟨hv, hb⟩ := hd2
      subst hv
      exact hd W.toWc H hB (nm o.p (List.mem_map.mpr ⟨_, hm, rfl⟩)) (pin _ hm) (fshrinkO hb)
    | succ i => exact ih i t (by simpa using h)
  | @ownJ β fβ α rα o a Γ Γ' hd _ ih =>
    intro i t h
    cases i with
    | zero =>
      have h' : some (some (T a)) = some (some t) := by simpa using h
      cases h'
      refine ⟨fun u v hu hd2 => ?_, _, rfl⟩
      have hu' : some (some (T o)) = some (some u) := by simpa using hu
      cases hu'
      obtain ⟨hv, hb⟩ := hd2
      subst hv
      exact hd W.toWc H hB (fun x hx => ⟨nm x.1 (List.mem_map.mpr ⟨x, hx, rfl⟩), pin x hx⟩) (fshrinkO hb)
    | succ i => exact ih i t (by simpa using h)
  | @ownL α rα p vs as Γ Γ' hm _ ih =>
    intro i t h
    cases i with
    | zero =>
      have h' : some (some (T as)) = some (some t) := by simpa using h
      cases h'
      refine ⟨fun u v hu hd => ?_, _, rfl⟩
      have hu' : some (some (T (Ol.mk p vs as))) = some (some u) := by simpa using hu
      cases hu'
      obtain ⟨hv, hb⟩ := hd
      exact ⟨p, vs, hv, ⟨nm p (List.mem_map.mpr ⟨_, hm, rfl⟩), pin _ hm⟩, hb.imp fun _ _ d => shrinkL (t := T _) d⟩
    | succ i => exact ih i t (by simpa using h)
  | @ownD β rβ p kvs ds Γ Γ' hm _ ih =>
    intro i t h
    cases i with
    | zero =>
      have h' : some (some (T (Dc.mk ds))) = some (some t) := by simpa using h
      cases h'
      refine ⟨fun u v hu hd => ?_, _, rfl⟩
      have hu' : some (some (T (Od.mk p kvs ds))) = some (some u) := by simpa using hu
      cases hu'
      obtain ⟨hv, hb⟩ := hd
      exact ⟨p, kvs, hv, ⟨nm p (List.mem_map.mpr ⟨_, hm, rfl⟩), pin _ hm⟩, hb.imp fun _ _ d => shrinkL (t := T _) d⟩
    | succ i => exact ih i t (by simpa using h)
  | @same t0 Γ Γ' _ ih =>
    intro i t h
    cases i with
    | zero =>
      have h' : some t0 = some (some t) := by simpa using h
      cases h'
      refine ⟨fun u v hu hd => ?_, _, rfl⟩
      have hu' : some (some t) = some (some u) := by simpa using hu
      cases hu'
      exact shrinkL hd
    | succ i => exact ih i t (by simpa using h)
theorem sxh_freeze {t : TS} {Γ' : Gam} (f : FrzH W.B L Γ Γ') (h : SxH W F t [] Γ' R) : SxH W F t L Γ R := fun D σ H oF nF wF nd G O => by
  have nm : ∀ k ∈ keysH L, ¬ W.mu k := fun k hk => fresh_mu oF (nF k hk)
  have G' : GOk (W.ownH F [] oF fun _ z => nomatch z) H σ Γ' := ⟨⟨G.ok.1, fun _ z => nomatch z⟩, G.wish, fun i t ht => by
    obtain ⟨h1, u, hu⟩ := frzH_slots rfl nm G.ok.2 f i t ht
    obtain ⟨v, h2, h3⟩ := G.at_ i u hu
    exact ⟨v, h2, h1 u v hu h3⟩, G.len.trans f.len⟩
  refine h D σ H oF (fun _ z => nomatch z) wF .nil G' ⟨fun L' oF' nF' σ' H' Γ2 s nd' G2 q => O.nx L' oF' nF' σ' H' Γ2 ?_ nd' G2 q, O.rt, fun L' oF' nF' σ' H' Γ2 s nd' G2 q => O.bk L' oF' nF' σ' H' Γ2 ?_ nd' G2 q, fun L' oF' nF' σ' H' Γ2 s nd' G2 q => O.ct L' oF' nF' σ' H' Γ2 ?_ nd' G2 q⟩ <;>
  exact ⟨fun a o m z => s.1 a o (fun q => m (plusL_mu.mpr (.inl q))) z, fun k hk => .inr ((s.2 k hk).resolve_left fun z => nomatch z)⟩
end
theorem huX {k : Nat} {A : Around} (h : Room k A) : A.units + 1 < cLine := by
  have := h.units
  omega
end G
set_option Elab.async false
set_option linter.all false
set_option maxRecDepth 100000
set_option maxHeartbeats 2000000
namespace G
open PySem PySem.Spec PyProof.Rows L2 StX
theorem putF_new {f : Str} {v : V} : ∀ {fs : List (Str × V)}, f ∉ fs.map (·.1) → putF f v fs = fs ++ [(f, v)]
  | [], _ => rfl
  | (g, x) :: r, h => by
    have h1 : ¬ g = f := fun e => h (by rw [← e]; exact List.mem_cons_self)
    show (if g = f then (g, v) :: r else (g, x) :: putF f v r) = _
    rw [if_neg h1, putF_new (fs := r) fun e => h (List.mem_cons_of_mem _ e)]
    rfl
theorem putF_last {f : Str} {v w : V} : ∀ {fs : List (Str × V)}, f ∉ fs.map (·.1) → putF f v (fs ++ [(f, w)]) = fs ++ [(f, v)]
  | [], _ => by
    show (if f = f then (f, v) :: [] else _) = _
    rw [if_pos rfl]
    rfl
  | (g, x) :: r, h => by
    have h1 : ¬ g = f := fun e => h (by rw [← e]; exact List.mem_cons_self)
    show (if g = f then (g, v) :: (r ++ [(f, w)]) else (g, x) :: putF f v (r ++ [(f, w)])) = _
    rw [if_neg h1, putF_last (fs := r) fun e => h (List.mem_cons_of_mem _ e)]
    rfl
theorem look_last {f : Str} {v : V} : ∀ {fs : List (Str × V)}, f ∉ fs.map (·.1) → (fs ++ [(f, v)]).lookup f = some v
  | [], _ => by simp [List.lookup]
  | (g, x) :: r, h => by
    have h1 : ¬ f = g := fun e => h (by rw [e]; exact List.mem_cons_self)
    rw [List.cons_append, List.lookup_cons, beq_eq_false_iff_ne.mpr h1]
    exact look_last fun e => h (List.mem_cons_of_mem _ e)
theorem look_front {f g : Str} {v : V} (h : f ≠ g) : ∀ {fs : List (Str × V)}, (fs ++ [(g, v)]).lookup f = fs.lookup f
  | [] => by simp [List.lookup, beq_eq_false_iff_ne.mpr h]
  | (k, x) :: r => by
    rw [List.cons_append, List.lookup_cons, List.lookup_cons, look_front h (fs := r)]
/-- what field f of b is -/
inductive GetF (f : Str) {α : Type} (rα : Rep α) (a : α) : {β : Type} → FRep β → β → Prop
  | here {β : Type} {fβ : FRep β} {b : β} : f ∉ FRep.nms b → GetF f rα a (@frepP α β rα fβ) (⟨f, a⟩, b)
  | there {γ β : Type} {rγ : Rep γ} {fβ : FRep β} {c : Fd γ} {b : β} : f ≠ c.n → GetF f rα a fβ b → GetF f rα a (@frepP γ β rγ fβ) (c, b)
theorem GetF.look {f : Str} {α β : Type} {rα : Rep α} {a : α} {fβ : FRep β} {b : β} (g : GetF f rα a fβ b) : ∀ {W : Wc} {H : Hp} {fs : List (Str × V)}, FRep.fd W H fs b → ∃ v, fs.lookup f = some v ∧ den W H v a := by
  induction g with
  | here h =>
    intro W H fs ⟨v, r, h1, h2, h3⟩
    have h3' : FRep.fd W H r _ := h3
    exact ⟨v, by rw [h1]; exact look_last (by rw [FRep.nm h3']; exact h), h2⟩
  | there h _ ih =>
    intro W H fs ⟨v, r, h1, h2, h3⟩
    obtain ⟨w, h4, h5⟩ := ih h3
    exact ⟨w, by rw [h1]; exact (look_front h).trans h4, h5⟩
section
variable {W : Wd} {F : Hp} {L : OwnH} {Γ : Gam} {ta tb te tv to : TE} {tt : TT} {t u : TS} {R : PoH} {g : TG} {K : PySem.W.Frag}
theorem oi_at {Wo : Wd} {H : Hp} {σ : L2.St} {β : Type} {fβ : FRep β} {i : Nat} {o : Oi β} (G : GOk Wo H σ Γ) (h : Γ[i]? = some (some (T o))) : σ[i]? = some (some (.ref o.p)) ∧ FRep.fd Wo.toWc H o.fs o.b := by
  obtain ⟨v, h1, h2, h3⟩ := G.at_ i _ h
  subst h2
  exact ⟨h1, h3⟩
/-- self.f = e, self an own object; how the fields change is told -/
theorem sxh_setf {α β β' : Type} {rα : Rep α} {fβ : FRep β} {fβ' : FRep β'} {f : Str} {i : Nat} (n : Nat) {p dx : Addr} {c : Cn} {fs : List (Str × V)} {b : β} (b' : α → β')
    (hK : W.B.K = K) (hc : L2.Cls K (W.B.cl c)) (hn : NoAttr K (W.B.cl c) f) (hk : L[n]? = some (p, .ins (W.B.cl c) dx fs)) (hi : Γ[i]? = some (some (T (Oi.mk p c dx fs b)))) (hl : (FRep.nms b).length < 1000)
    (hf : ∀ (W' : Wc) (H : Hp) (v : V) (a : α), den W' H v a → FRep.fd W' H fs b → FRep.fd W' H (putF f v fs) (b' a))
    (h : ∀ Wo, OwnHW W L Wo → EvK Wo tv Γ fun a : α => ∀ fs', R.nx (L.set n (p, .ins (W.B.cl c) dx fs')) (Γ.set i (some (T (Oi.mk p c dx fs' (b' a)))))) : SxH W F (sFld K (tVar i) tv f) L Γ R := fun D σ H oF nF wF nd G O => by
  subst hK
  refine h _ (ownH_w wF) σ H _ G fun y H1 a e1 dy q => ?_
  have G1 := G.ext e1
  obtain ⟨h1, h2⟩ := oi_at G1 hi
  have hp := G1.ok.2 _ (List.mem_of_getElem? hk)
  have hlen : fs.length < 1000 := by
    have := FRep.nm h2
    have e := congrArg List.length this
    rw [List.length_map] at e
    have e : fs.length = (FRep.nms b).length := e
    omega
  refine ⟨_, h1, p, _, dx, fs, rfl, hp, hc, hn, hlen, ?_⟩
  exact ownH_put (T (Oi.mk p c dx _ (b' a))) nd G1 (O.step G1.ok.1 (ownH_stp e1)) hk h1 (fun kp => ⟨rfl, FRep.mono kp (hf _ H1 y a dy h2)⟩) (q _)
/-- a new field -/
theorem sxh_setn {α β : Type} {rα : Rep α} {fβ : FRep β} {f : Str} {i : Nat} (n : Nat) {p dx : Addr} {c : Cn} {fs : List (Str × V)} {b : β}
    (hK : W.B.K = K) (hc : L2.Cls K (W.B.cl c)) (hn : NoAttr K (W.B.cl c) f) (hk : L[n]? = some (p, .ins (W.B.cl c) dx fs)) (hi : Γ[i]? = some (some (T (Oi.mk p c dx fs b)))) (hl : (FRep.nms b).length < 1000) (hm : f ∉ FRep.nms b)
    (h : ∀ Wo, OwnHW W L Wo → EvK Wo tv Γ fun a : α => ∀ fs', R.nx (L.set n (p, .ins (W.B.cl c) dx fs')) (Γ.set i (some (T (Oi.mk p c dx fs' ((⟨f, a⟩, b) : Fd α × β)))))) : SxH W F (sFld K (tVar i) tv f) L Γ R :=
  sxh_setf (fβ' := frepP) n (fun a => ((⟨f, a⟩, b) : Fd α × β)) hK hc hn hk hi hl (fun W' H v a d z => ⟨v, fs, putF_new (by rw [FRep.nm z]; exact hm), d, z⟩) h
/-- the last field anew -/
theorem sxh_setl {α γ β : Type} {rα : Rep α} {rγ : Rep γ} {fβ : FRep β} {f : Str} {i : Nat} (n : Nat) {p dx : Addr} {c : Cn} {fs : List (Str × V)} {c0 : γ} {b : β}
    (hK : W.B.K = K) (hc : L2.Cls K (W.B.cl c)) (hn : NoAttr K (W.B.cl c) f) (hk : L[n]? = some (p, .ins (W.B.cl c) dx fs)) (hi : Γ[i]? = some (some (T (Oi.mk p c dx fs ((⟨f, c0⟩, b) : Fd γ × β))))) (hl : (FRep.nms b).length < 999) (hm : f ∉ FRep.nms b)
    (h : ∀ Wo, OwnHW W L Wo → EvK Wo tv Γ fun a : α => ∀ fs', R.nx (L.set n (p, .ins (W.B.cl c) dx fs')) (Γ.set i (some (T (Oi.mk p c dx fs' ((⟨f, a⟩, b) : Fd α × β)))))) : SxH W F (sFld K (tVar i) tv f) L Γ R :=
  sxh_setf (fβ' := frepP) n (fun a => ((⟨f, a⟩, b) : Fd α × β)) hK hc hn hk hi (by show (FRep.nms b ++ [f]).length < 1000; rw [List.length_append]; show _ + 1 < 1000; omega)
    (fun W' H v a d ⟨w, r, h1, h2, h3⟩ => ⟨v, r, by have h1 : fs = r ++ [(f, w)] := h1; rw [h1]; exact putF_last (by rw [FRep.nm (b := b) h3]; exact hm), d, h3⟩) h
/-- self.f, self an own object -/
theorem ev_fldOi {Wo : Wd} {α β : Type} {rα : Rep α} {fβ : FRep β} {f : Str} {i : Nat} {p dx : Addr} {c : Cn} {fs : List (Str × V)} {b : β} {a : α} {k : α → Prop}
    (hW : OwnHW W L Wo) (hK : W.B.K = K) (hc : L2.Cls K (W.B.cl c)) (hn : NoAttr K (W.B.cl c) f) (hm : (p, HO.ins (W.B.cl c) dx fs) ∈ L) (hi : Γ[i]? = some (some (T (Oi.mk p c dx fs b)))) (hg : GetF f rα a fβ b) (q : k a) : EvK Wo (tFld K (tVar i) f) Γ k := by
  subst hK
  refine fun σ H Q G c2 => ?_
  obtain ⟨h1, h2⟩ := oi_at G hi
  obtain ⟨v, h3, h4⟩ := hg.look h2
  exact ⟨_, h1, p, _, dx, fs, v, rfl, hW.pin H G.ok _ hm, hc, hn, h3, c2 v H a (Ext.refl G.ok) h4 q⟩
theorem lookH_gok {H : Hp} {σ : L2.St} {Γ' : Gam} {oF : W.ok F} {nF : ∀ k ∈ keysH L, F k = none} (wF : W.wish F) (f : FrzH W.B L Γ Γ') (G : GOk (W.ownH F L oF nF) H σ Γ) : GOk W H σ Γ' := by
  have nm : ∀ k ∈ keysH L, ¬ W.mu k := fun k hk => fresh_mu oF (nF k hk)
  exact ⟨G.ok.1, W.wst F H G.wish G.ok.1 wF, fun i t ht => by
    obtain ⟨h1, u, hu⟩ := frzH_slots rfl nm G.ok.2 f i t ht
    obtain ⟨v, h2, h3⟩ := G.at_ i u hu
    exact ⟨v, h2, h1 u v hu h3⟩, G.len.trans f.len⟩
theorem lookH_ext {H H' : Hp} {oF : W.ok F} {nF : ∀ k ∈ keysH L, F k = none} (o : (W.ownH F L oF nF).ok H) (e : Ext W H H') : Ext (W.ownH F L oF nF) H H' := by
  have nm : ∀ k ∈ keysH L, ¬ W.mu k := fun k hk => fresh_mu oF (nF k hk)
  exact ⟨fun a u m z => e.keep a u (fun q => m (plusL_mu.mpr (.inl q))) z, e.ok, fun x hx => e.keep x.1 x.2 (nm _ (List.mem_map.mpr ⟨x, hx, rfl⟩)) (o.2 x hx)⟩
/-- data that lean on no object -/
class Flat (α : Type) [Rep α] : Prop where
  at_ : ∀ {W W' : Wc} {H H' : Hp} {v : V} {a : α}, den W H v a → den W' H' v a
instance : Flat Int := ⟨fun h => h⟩
instance : Flat Bool := ⟨fun h => h⟩
instance : Flat Str := ⟨fun h => h⟩
instance : Flat Unit := ⟨fun h => h⟩
theorem lookH_T {Γ' : Gam} {k : Bool → Prop} {oF : W.ok F} {nF : ∀ k ∈ keysH L, F k = none} (wF : W.wish F) (f : FrzH W.B L Γ Γ') (h : EvT W tt Γ' k) : EvT (W.ownH F L oF nF) tt Γ k := fun σ H Q G c =>
  h σ H Q (lookH_gok wF f G) fun H1 b e q => c H1 b (lookH_ext G.ok e) q
theorem lookH_F {β : Type} [rβ : Rep β] [Flat β] {Γ' : Gam} {k : List β → Prop} {oF : W.ok F} {nF : ∀ k ∈ keysH L, F k = none} (wF : W.wish F) (f : FrzH W.B L Γ Γ') (h : EvF W te Γ' k) : EvF (W.ownH F L oF nF) te Γ k := fun σ H Q G c =>
  h σ H Q (lookH_gok wF f G) fun p H1 vs bs n e hp hd q => c p H1 vs bs n (lookH_ext G.ok e) hp (hd.imp fun _ _ d => Flat.at_ d) q
theorem sxh_lookF {β : Type} {rβ : Rep β} [Flat β] {Γ' : Gam} {i : Nat} (f : FrzH W.B L Γ Γ') (h : EvF W te Γ' fun as : List β => R.nx L (Γ.set i (some (T as)))) : SxH W F (tAsg te (gName i)) L Γ R := fun D σ H oF nF wF nd G O =>
  sx_set (lookH_F wF f h).k D σ H G (eokH_un nd O G.wish G.ok)
theorem sxh_lookIf {Γ' : Gam} (f : FrzH W.B L Γ Γ') (h : EvT W tt Γ' fun b => (b = true → SxH W F t L Γ R) ∧ (b = false → SxH W F u L Γ R)) : SxH W F (tIfS tt t u) L Γ R := fun D σ H oF nF wF nd G O =>
  lookH_T wF f h σ H _ G fun H1 b e1 ⟨h1, h2⟩ => by
    have G1 := G.ext e1
    cases b with
    | true => exact h1 rfl D σ H1 oF nF wF nd G1 (O.step G1.ok.1 (ownH_stp e1))
    | false => exact h2 rfl D σ H1 oF nF wF nd G1 (O.step G1.ok.1 (ownH_stp e1))
end
abbrev PI (β : Type) := Cn → (β → Prop) → (Xn → Prop) → List Ty → Prop
def spIn {β : Type} [FRep β] (B : Bs) (P : PI β) : Sp := fun vs H Q E => ∃ (W : Wd) (F : Hp) (p dx : Addr) (c : Cn) (ws : List V) (ts : List Ty) (k : β → Prop) (x : Xn → Prop) (oF : W.ok F) (nF : ∀ q ∈ keysH [(p, HO.ins (B.cl c) dx [])], F q = none),
  vs = .ref p :: ws ∧ W.B = B ∧ XOk W F E x ∧ (W.ownH F [(p, .ins (B.cl c) dx [])] oF nF).ok H ∧ Kp W.toWc F H ∧ DT (W.toWc.plus p) H ws ts ∧ P c k x ts ∧
  ∀ H' fs b, Kp (W.toWc.plus p) H H' → W.ok H' → H' p = some (.ins (B.cl c) dx fs) → FRep.fd (W.toWc.plus p) H' fs b → k b → Q .non H'
theorem init_ok {β : Type} [FRep β] {B : Bs} {P : PI β} {t : TS} {N : List Str} {vs : List V} {H : Hp} {Q : VK} {E : XK}
    (hb : ∀ (W : Wd) F p dx c ts k x, W.B = B → (∀ H', W.ok H' → W.wish H' → XOk W H' E x) → P c k x ts →
      SxH W F t [(p, .ins (W.B.cl c) dx [])] (some (T (Oi.mk p c dx [] ())) :: (ts.map some ++ List.replicate (N.length - (ts.length + 1)) none)) { nx := fun L Γ => ∃ fs b, L = [(p, .ins (W.B.cl c) dx fs)] ∧ Γ[0]? = some (some (T (Oi.mk p c dx fs b))) ∧ k b, rt := fun _ => False })
    (h : spIn B P vs H Q E) : t { nx := fun _ H' => Q .non H', rt := Q } (L2.start N vs) H := by
  obtain ⟨W, F, p, dx, c, ws, ts, k, x, oF, nF, rfl, hB, hx, ho, hw, hd, hp, hq⟩ := h
  subst hB
  have nF' : ∀ q ∈ keysH [(p, HO.ins ((W.wth E x).B.cl c) dx [])], F q = none := nF
  have ho' : ((W.wth E x).ownH F [(p, .ins ((W.wth E x).B.cl c) dx [])] oF nF').ok H := ho
  refine hb (W.wth E x) F p dx c ts k x rfl (fun H' _ w n d2 H2 e z q => w n d2 H2 e.wth z q) hp _ _ H oF nF' hx (List.nodup_cons.mpr ⟨fun z => (nomatch z), .nil⟩) ?_ ?_
  · have hd' : DT ((W.wth E x).ownH F [(p, .ins ((W.wth E x).B.cl c) dx [])] oF nF').toWc H (.ref p :: ws) (T (Oi.mk p c dx [] ()) :: ts) := .cons (t := T (Oi.mk p c dx [] ())) ⟨rfl, rfl⟩ hd
    have := start_ok (N := N) ho' hw hd'
    exact this
  · refine ⟨fun L' oF' nF2 σ' H' Γ' s nd' G ⟨fs, b, hL, hG, kb⟩ => ?_, fun v H' t e d z => z.elim, fun _ _ _ _ _ _ _ _ _ z => z.elim, fun _ _ _ _ _ _ _ _ _ z => z.elim⟩
    subst hL
    obtain ⟨_, h2⟩ := oi_at G hG
    exact hq H' fs b s.1 G.ok.1 (G.ok.2 _ List.mem_cons_self) h2 kb
/-- fixed arguments, then the rest of one kind -/
def EvS {α : Type} [Rep α] (W : Wd) (n : Nat) (ta : TA) (Γ : Gam) (k : List Ty → List α → Prop) : Prop :=
  ∀ σ H (Q : List V → Hp → Prop), GOk W H σ Γ → (∀ ws rest H' ts (as : List α), Ext W H H' → ws.length = n → DT W H' ws ts → Dl (den W H') rest as → k ts as → Q (ws ++ rest) H') → ta σ H Q
section
variable {W : Wd} {Γ : Gam} {ta tr : TA} {te : TE} {K : PySem.W.Frag} {B : Bs}
theorem es_zero {α : Type} {rα : Rep α} {k : List Ty → List α → Prop} (h : EvL W ta Γ fun as : List α => k [] as) : EvS W 0 ta Γ k := fun σ H Q G c =>
  h σ H _ G fun vs H1 as e d q => c [] vs H1 [] as e rfl .nil d q
theorem es_cons {α β : Type} {rα : Rep α} {rβ : Rep β} {n : Nat} {k : List Ty → List α → Prop} (h : EvK W te Γ fun a : β => EvS W n tr Γ fun ts as => k (T a :: ts) as) : EvS W (n + 1) (tCons te tr) Γ k := fun σ H Q G c =>
  h σ H _ G fun v H1 a e1 d z => z σ H1 _ (G.ext e1) fun ws rest H2 ts as e2 hl hd hr q =>
    c (v :: ws) rest H2 (T a :: ts) as (e1.trans e2) (congrArg (· + 1) hl) (.cons (t := T a) (Rep.mono (a := a) e2.keep d) hd) hr q
/-- *xs ahead of further arguments -/
theorem el_star {α : Type} {rα : Rep α} {k : List α → Prop} (hK : W.B.K = K) (h : EvK W te Γ fun l : List α => EvL W tr Γ fun as => k (l ++ as)) : EvL W (tStar K te tr) Γ k := by
  subst hK
  refine fun σ H Q G c => h σ H _ G fun v H1 l e1 ⟨p, vs, hv, hp, hd⟩ z => ?_
  exact ⟨p, vs, hv, .inr hp.sq, z σ H1 _ (G.ext e1) fun ys H2 as e2 d2 q => c _ H2 _ (e1.trans e2) ((hd.imp fun _ _ d => Rep.mono e2.keep d).append d2) q⟩
/-- a def with n fixed parameters and a star -/
def spSt (n : Nat) (sp : Sp) : Sp := fun vs H Q E => ∃ ws rest, vs = ws ++ rest ∧ ws.length = n ∧ rest.length ≤ sizeLine ∧ ∀ p, H p = none → sp (ws ++ [V.ref p]) (upd H p (.tup rest)) Q E
theorem dt_grow {H : Hp} {p : Addr} {W : Wc} : ∀ {vs : List V} {ts : List Ty}, H p = none → DT W H vs ts → DT (W.plus p) H vs ts
  | _, _, _, .nil => .nil
  | _, _, n, .cons (t := t) d r => .cons (t.r.grow p n d) (dt_grow n r)
theorem dt_snoc {W : Wc} {H : Hp} {v : V} {t : Ty} : ∀ {vs : List V} {ts : List Ty}, DT W H vs ts → t.den W H v → DT W H (vs ++ [v]) (ts ++ [t])
  | _, _, .nil, h => .cons h .nil
  | _, _, .cons d r, h => .cons d (dt_snoc r h)
/-- C(..) by an __init__ as above -/
theorem make_run {α β : Type} {rα : Rep α} {fβ : FRep β} {P : PI β} {H1 : Hp} {E : XK} {x : Xn → Prop} {k : α → Prop} {c : Cn} {ws : List V} {ts : List Ty} {Q : VK} (mk : β → α) (good : β → Prop) (hx : XOk W H1 E x) (o : W.ok H1)
    (hden : ∀ (W' : Wc) (H : Hp) (p dx : Addr) (fs : List (Str × V)) (b : β), W'.B = W.B → ¬ W'.mu p → H p = some (.ins (W.B.cl c) dx fs) → FRep.fd W' H fs b → good b → den W' H (.ref p) (mk b))
    (xx dx : Addr) (nx : H1 xx = none) (ndx : H1 dx = none) (nex : dx ≠ xx) (H2 : Hp) (e2 : Ext W (upd (upd H1 dx (.own xx)) xx (.ins (W.B.cl c) dx [])) H2) (hd : DT (W.toWc.plus xx) H2 ws ts) (hp : P c (fun b => good b ∧ k (mk b)) x ts)
    (cc : ∀ v H' (a : α), Ext W H1 H' → den W H' v a → k a → Q v H') : spIn W.B P (.ref xx :: ws) H2 (fun v H3 => v = .non ∧ Q (.ref xx) H3) E := by
  have m1 := fresh_mu o ndx
  have m2 := fresh_mu o nx
  have e3 : Ext W H1 (upd (upd H1 dx (.own xx)) xx (.ins (W.B.cl c) dx [])) := ⟨fun a u _ q => by rw [upd_ne (ne_of_none q nx), upd_ne (ne_of_none q ndx)]; exact q, W.st _ _ _ (W.st _ _ _ o m1) m2⟩
  refine ⟨W, H1, xx, dx, c, ws, ts, _, x, o, fun q hq => by rw [List.mem_singleton.mp hq]; exact nx, rfl, rfl, hx, ⟨e2.ok, fun y hy => ?_⟩, (e3.trans e2).keep, hd, hp, fun H' fs b kp ok' hH hf kb => ⟨rfl, ?_⟩⟩
  · rw [List.mem_singleton.mp hy]
    exact e2.keep xx _ m2 upd_same
  · refine cc (.ref xx) H' (mk b) ⟨fun a u m q => kp a u (fun z => z.elim m (fun z => by rw [z, nx] at q; cases q)) ((e3.trans e2).keep a u m q), ok'⟩ ?_ kb.2
    exact hden W.toWc H' xx dx fs b rfl m2 hH (FRep.shrink xx hf) kb.1
theorem ev_make {α β : Type} {rα : Rep α} {fβ : FRep β} {P : PI β} {E : L2.St → XK} {x : Xn → Prop} {k : α → Prop} {c : Cn} {C : Addr} (mk : β → α) (good : β → Prop) (hB : W.B = B) (hC : B.cl c = C) (hx : HX W Γ E x)
    (hden : ∀ (W' : Wc) (H : Hp) (p dx : Addr) (fs : List (Str × V)) (b : β), W'.B = B → ¬ W'.mu p → H p = some (.ins (B.cl c) dx fs) → FRep.fd W' H fs b → good b → den W' H (.ref p) (mk b))
    (h : EvA W ta Γ fun ts => P c (fun b => good b ∧ k (mk b)) x ts) : EvK W (tMakeZ C (spIn B P) E ta) Γ k := by
  subst hB
  subst hC
  refine fun σ H Q G cc => h σ H _ G fun vs H1 ts e1 d z xx dx nx ndx nex => ?_
  have e3 : Ext W H1 (upd (upd H1 dx (.own xx)) xx (.ins (W.B.cl c) dx [])) := ⟨fun a u _ q => by rw [upd_ne (ne_of_none q nx), upd_ne (ne_of_none q ndx)]; exact q, W.st _ _ _ (W.st _ _ _ e1.ok (fresh_mu e1.ok ndx)) (fresh_mu e1.ok nx)⟩
  refine make_run mk good (hx σ H1 (G.ext e1)) e1.ok hden xx dx nx ndx nex _ (Ext.refl e3.ok) ?_ z fun v H' a e dv q => cc v H' a (e1.trans e) dv q
  refine (dt_grow nx d).mono fun a u m q => ?_
  rw [upd_ne (ne_of_none q nx), upd_ne (ne_of_none q ndx)]
  exact q
theorem ev_makeS {α β γ : Type} {rα : Rep α} {rγ : Rep γ} {fβ : FRep β} {P : PI β} {E : L2.St → XK} {x : Xn → Prop} {k : α → Prop} {c : Cn} {C : Addr} {n : Nat} (mk : β → α) (good : β → Prop) (hB : W.B = B) (hC : B.cl c = C) (hx : HX W Γ E x)
    (hden : ∀ (W' : Wc) (H : Hp) (p dx : Addr) (fs : List (Str × V)) (b : β), W'.B = B → ¬ W'.mu p → H p = some (.ins (B.cl c) dx fs) → FRep.fd W' H fs b → good b → den W' H (.ref p) (mk b))
    (h : EvS W n ta Γ fun ts (as : List γ) => as.length ≤ 100000 ∧ P c (fun b => good b ∧ k (mk b)) x (ts ++ [T (Tl.mk as)])) : EvK W (tMakeZ C (spSt (n + 1) (spIn B P)) E ta) Γ k := by
  subst hB
  subst hC
  refine fun σ H Q G cc => h σ H _ G fun ws rest H1 ts as e1 hl d dr ⟨hlen, z⟩ xx dx nx ndx nex => ?_
  have e3 : Ext W H1 (upd (upd H1 dx (.own xx)) xx (.ins (W.B.cl c) dx [])) := ⟨fun a u _ q => by rw [upd_ne (ne_of_none q nx), upd_ne (ne_of_none q ndx)]; exact q, W.st _ _ _ (W.st _ _ _ e1.ok (fresh_mu e1.ok ndx)) (fresh_mu e1.ok nx)⟩
  refine ⟨.ref xx :: ws, rest, rfl, congrArg (· + 1) hl, Nat.le_trans (by rw [dr.length]; exact hlen) (by decide : 100000 ≤ sizeLine), fun p hp => ?_⟩
  have e4 := Ext.new (o := .tup rest) e3.ok hp
  have hpx : p ≠ xx := fun e => by rw [e, upd_same] at hp; cases hp
  have kk : Kp (W.toWc.plus xx) H1 (upd (upd (upd H1 dx (.own xx)) xx (.ins (W.B.cl c) dx [])) p (.tup rest)) := fun a u m q => (e3.trans e4).keep a u (fun z => m (.inl z)) q
  refine make_run (ws := ws ++ [V.ref p]) mk good (hx σ H1 (G.ext e1)) e1.ok hden xx dx nx ndx nex _ e4 ?_ z fun v H' a e dv q => cc v H' a (e1.trans e) dv q
  refine dt_snoc ((dt_grow nx d).mono kk) ⟨p, rest, rfl, ⟨fun z => z.elim (fresh_mu e3.ok hp) hpx, upd_same⟩, ?_⟩
  exact dr.imp fun _ _ y => Rep.mono kk (Rep.grow xx nx y)
end
section
variable {W : Wd} {F : Hp} {L : OwnH} {Γ : Gam} {R : PoH} {tr : TA}
/-- C0.__init__(self, ..), self new: the fields of C0 are set -/
theorem sxh_cinit {β : Type} {fβ : FRep β} {P : PI β} {B : Bs} {E : L2.St → XK} {x : Xn → Prop} {p dx : Addr} {c : Cn} {i : Nat} (hL : L = [(p, .ins (W.B.cl c) dx [])]) (hi : Γ[i]? = some (some (T (Oi.mk p c dx [] ())))) (hB : W.B = B)
    (hx : ∀ H', W.ok H' → W.wish H' → ∀ σ, XOk W H' (E σ) x)
    (h : ∀ Wo, OwnHW W L Wo → EvA Wo tr Γ fun ts => P c (fun b => ∀ fs, R.nx [(p, .ins (W.B.cl c) dx fs)] (Γ.set i (some (T (Oi.mk p c dx fs b))))) x ts) : SxH W F (tDrop (tCallZ (spIn B P) E (tCons (tVar i) tr))) L Γ R := by
  subst hB
  subst hL
  refine fun D σ H oF nF wF nd G O => ?_
  obtain ⟨h1, _⟩ := oi_at G hi
  refine ⟨_, h1, ?_⟩
  refine h _ (ownH_w wF) σ H _ G fun vs H1 ts e1 d z => ?_
  have G1 := G.ext e1
  refine ⟨W, F, p, dx, c, vs, ts, _, x, oF, nF, rfl, rfl, hx F oF wF σ, G1.ok, G1.wish, d, z, fun H' fs b kp ok' hH hf kb => ?_⟩
  have nFp : F p = none := nF p List.mem_cons_self
  have nF' : ∀ q ∈ keysH [(p, HO.ins (W.B.cl c) dx fs)], F q = none := nF
  have s : StpH W [(p, .ins (W.B.cl c) dx [])] H [(p, .ins (W.B.cl c) dx fs)] H' := ⟨fun a u m q => kp a u m (e1.keep a u m q), fun q hq => .inl hq⟩
  have hl : i < Γ.length := (List.getElem?_eq_some_iff.mp hi).1
  refine O.nx _ oF nF' σ H' _ s (List.nodup_cons.mpr ⟨fun z => (nomatch z), .nil⟩) ⟨⟨ok', fun y hy => ?_⟩, fun a u m q => ?_, fun j t ht => ?_, by rw [List.length_set]; exact G1.len⟩ (kb fs)
  · rw [List.mem_singleton.mp hy]
    exact hH
  · exact kp a u (fun z => z.elim m fun z => by rw [z, nFp] at q; cases q) (G1.wish a u m q)
  · by_cases e : i = j
    · subst e
      rw [List.getElem?_set_self hl] at ht
      cases ht
      exact ⟨_, h1, rfl, hf⟩
    · rw [List.getElem?_set_ne e] at ht
      obtain ⟨v, h3, h4⟩ := G1.at_ j t ht
      exact ⟨v, h3, Ty.mono kp h4⟩
end
end G
set_option Elab.async false
set_option linter.all false
set_option maxRecDepth 100000
set_option maxHeartbeats 2000000
namespace G
open PySem PySem.Spec PyProof.Rows L2 StX
inductive RK where
  | leaf | rank | trim | weigh
  deriving DecidableEq
def RK.cn : RK → Cn
  | .leaf => .Leaf
  | .rank => .Rank
  | .trim => .Trim
  | .weigh => .Weigh
inductive Ru where
  | mk (k : RK) (lb : Str) (ns : List Int) (ps : List Ru) (rk : Bool)
def Ru.k : Ru → RK | .mk k _ _ _ _ => k
def Ru.lb : Ru → Str | .mk _ l _ _ _ => l
def Ru.ns : Ru → List Int | .mk _ _ n _ _ => n
def Ru.ps : Ru → List Ru | .mk _ _ _ p _ => p
def Ru.rk : Ru → Bool | .mk _ _ _ _ r => r
/-- what the text says of a class of rules -/
structure RcT (B : Bs) (k : RK) : Prop where
  cl : L2.Cls B.K (B.cl k.cn)
  nlabel : NoAttr B.K (B.cl k.cn) "label"
  nnumbers : NoAttr B.K (B.cl k.cn) "numbers"
  nparts : NoAttr B.K (B.cl k.cn) "parts"
  nranked : NoAttr B.K (B.cl k.cn) "ranked"
def ruF (lb : Str) (tn tp : Addr) (rk : Bool) : List (Str × V) := [("label", .str lb), ("numbers", .ref tn), ("parts", .ref tp), ("ranked", .bl rk)]
mutual
def ruD (W : Wc) (H : Hp) (v : V) : Ru → Prop
  | .mk k lb ns ps rk => ∃ a dx tn tp vs, v = .ref a ∧ ¬ W.mu a ∧ H a = some (.ins (W.B.cl k.cn) dx (ruF lb tn tp rk)) ∧ Tq W H tn (ns.map V.int) ∧ Tq W H tp vs ∧ RcT W.B k ∧ ruL W H vs ps
def ruL (W : Wc) (H : Hp) (vs : List V) : List Ru → Prop
  | [] => vs = []
  | p :: ps => ∃ v r, vs = v :: r ∧ ruD W H v p ∧ ruL W H r ps
end
mutual
theorem ruD_mono {W : Wc} {H H' : Hp} (e : Kp W H H') : ∀ (v : V) (r : Ru), ruD W H v r → ruD W H' v r
  | v, .mk k lb ns ps rk, h => by
    unfold ruD at h ⊢
    obtain ⟨a, dx, tn, tp, vs, hv, m, hH, h1, h2, hc, h3⟩ := h
    exact ⟨a, dx, tn, tp, vs, hv, m, e _ _ m hH, h1.mono e, h2.mono e, hc, ruL_mono e _ _ h3⟩
theorem ruL_mono {W : Wc} {H H' : Hp} (e : Kp W H H') : ∀ (vs : List V) (r : List Ru), ruL W H vs r → ruL W H' vs r
  | vs, [], h => by unfold ruL at h ⊢; exact h
  | vs, p :: ps, h => by
    unfold ruL at h ⊢
    obtain ⟨v, r, hv, h1, h2⟩ := h
    exact ⟨v, r, hv, ruD_mono e _ _ h1, ruL_mono e _ _ h2⟩
end
mutual
theorem ruD_grow {W : Wc} {H : Hp} (D : Addr) (n : H D = none) : ∀ (v : V) (r : Ru), ruD W H v r → ruD (W.plus D) H v r
  | v, .mk k lb ns ps rk, h => by
    unfold ruD at h ⊢
    obtain ⟨a, dx, tn, tp, vs, hv, m, hH, h1, h2, hc, h3⟩ := h
    exact ⟨a, dx, tn, tp, vs, hv, mu_grow n m hH, hH, h1.grow D n, h2.grow D n, hc, ruL_grow D n _ _ h3⟩
theorem ruL_grow {W : Wc} {H : Hp} (D : Addr) (n : H D = none) : ∀ (vs : List V) (r : List Ru), ruL W H vs r → ruL (W.plus D) H vs r
  | vs, [], h => by unfold ruL at h ⊢; exact h
  | vs, p :: ps, h => by
    unfold ruL at h ⊢
    obtain ⟨v, r, hv, h1, h2⟩ := h
    exact ⟨v, r, hv, ruD_grow D n _ _ h1, ruL_grow D n _ _ h2⟩
end
mutual
theorem ruD_shrink {W : Wc} {H : Hp} (D : Addr) : ∀ (v : V) (r : Ru), ruD (W.plus D) H v r → ruD W H v r
  | v, .mk k lb ns ps rk, h => by
    unfold ruD at h ⊢
    obtain ⟨a, dx, tn, tp, vs, hv, m, hH, h1, h2, hc, h3⟩ := h
    exact ⟨a, dx, tn, tp, vs, hv, fun z => m (.inl z), hH, h1.shrink D, h2.shrink D, hc, ruL_shrink D _ _ h3⟩
theorem ruL_shrink {W : Wc} {H : Hp} (D : Addr) : ∀ (vs : List V) (r : List Ru), ruL (W.plus D) H vs r → ruL W H vs r
  | vs, [], h => by unfold ruL at h ⊢; exact h
  | vs, p :: ps, h => by
    unfold ruL at h ⊢
    obtain ⟨v, r, hv, h1, h2⟩ := h
    exact ⟨v, r, hv, ruD_shrink D _ _ h1, ruL_shrink D _ _ h2⟩
end
instance : Rep Ru := ⟨ruD, fun e h => ruD_mono e _ _ h, fun D n h => ruD_grow D n _ _ h, fun D h => ruD_shrink D _ _ h⟩
theorem ruL_dl {W : Wc} {H : Hp} : ∀ {vs : List V} {ps : List Ru}, ruL W H vs ps ↔ Dl (den W H) vs ps
  | vs, [] => by
    unfold ruL
    constructor
    · rintro rfl; exact .nil
    · intro h; cases h; rfl
  | vs, p :: ps => by
    unfold ruL
    constructor
    · rintro ⟨v, r, rfl, h1, h2⟩
      exact .cons h1 (ruL_dl.mp h2)
    · intro h
      cases h with
      | cons h1 h2 => exact ⟨_, _, rfl, h1, ruL_dl.mpr h2⟩
theorem ru_den {W : Wc} {H : Hp} {v : V} {r : Ru} : den W H v r ↔ ∃ a dx tn tp vs, v = .ref a ∧ ¬ W.mu a ∧ H a = some (.ins (W.B.cl r.k.cn) dx (ruF r.lb tn tp r.rk)) ∧ Tq W H tn (r.ns.map V.int) ∧ Tq W H tp vs ∧ RcT W.B r.k ∧ Dl (den W H) vs r.ps := by
  obtain ⟨k, lb, ns, ps, rk⟩ := r
  show ruD W H v _ ↔ _
  unfold ruD
  constructor
  · rintro ⟨a, dx, tn, tp, vs, h1, h2, h3, h4, h5, hc, h6⟩
    exact ⟨a, dx, tn, tp, vs, h1, h2, h3, h4, h5, hc, ruL_dl.mp h6⟩
  · rintro ⟨a, dx, tn, tp, vs, h1, h2, h3, h4, h5, hc, h6⟩
    exact ⟨a, dx, tn, tp, vs, h1, h2, h3, h4, h5, hc, ruL_dl.mpr h6⟩
theorem rf1 (lb : Str) (tn tp : Addr) (rk : Bool) : (ruF lb tn tp rk).lookup ("label" : Str) = some (.str lb) := by simp [ruF, List.lookup]
theorem rf2 (lb : Str) (tn tp : Addr) (rk : Bool) : (ruF lb tn tp rk).lookup ("numbers" : Str) = some (.ref tn) := by
  have h1 : (("numbers" : Str) == "label") = false := by decide +kernel
  simp [ruF, List.lookup, h1]
theorem rf3 (lb : Str) (tn tp : Addr) (rk : Bool) : (ruF lb tn tp rk).lookup ("parts" : Str) = some (.ref tp) := by
  have h1 : (("parts" : Str) == "label") = false := by decide +kernel
  have h2 : (("parts" : Str) == "numbers") = false := by decide +kernel
  simp [ruF, List.lookup, h1, h2]
theorem rf4 (lb : Str) (tn tp : Addr) (rk : Bool) : (ruF lb tn tp rk).lookup ("ranked" : Str) = some (.bl rk) := by
  have h1 : (("ranked" : Str) == "label") = false := by decide +kernel
  have h2 : (("ranked" : Str) == "numbers") = false := by decide +kernel
  have h3 : (("ranked" : Str) == "parts") = false := by decide +kernel
  simp [ruF, List.lookup, h1, h2, h3]
/-- data that stand for an object, of one of several classes -/
class VIns (β : Type) [Rep β] (fl : outParam (List Str)) where
  kn : β → Cn
  at_ : ∀ {W : Wc} {H : Hp} {v : V} {b : β}, den W H v b → ∃ a dx fs, v = .ref a ∧ ¬ W.mu a ∧ H a = some (.ins (W.B.cl (kn b)) dx fs) ∧ fs.map (·.1) = fl
instance : VIns Ru ["label", "numbers", "parts", "ranked"] := ⟨fun r => r.k.cn, fun h => by
  obtain ⟨a, dx, tn, tp, vs, h1, h2, h3, _⟩ := ru_den.mp h
  exact ⟨a, dx, _, h1, h2, h3, rfl⟩⟩
section
variable {W : Wd} {Γ : Gam} {te to : TE} {ta : TA} {K : PySem.W.Frag}
theorem ev_rlabel {k : Str → Prop} (hK : W.B.K = K) (h : EvK W te Γ fun r : Ru => k r.lb) : EvK W (tFld K te "label") Γ k := by
  subst hK
  refine fun σ H Q E c => h σ H _ E fun v H1 r e1 d z => ?_
  obtain ⟨a, dx, tn, tp, vs, hv, m, hH, h4, h5, hR, h6⟩ := ru_den.mp d
  exact ⟨a, _, dx, _, _, hv, hH, hR.cl, hR.nlabel, rf1 _ _ _ _, c _ H1 _ e1 rfl z⟩
theorem ev_rranked {k : Bool → Prop} (hK : W.B.K = K) (h : EvK W te Γ fun r : Ru => k r.rk) : EvK W (tFld K te "ranked") Γ k := by
  subst hK
  refine fun σ H Q E c => h σ H _ E fun v H1 r e1 d z => ?_
  obtain ⟨a, dx, tn, tp, vs, hv, m, hH, h4, h5, hR, h6⟩ := ru_den.mp d
  exact ⟨a, _, dx, _, _, hv, hH, hR.cl, hR.nranked, rf4 _ _ _ _, c _ H1 _ e1 rfl z⟩
theorem ev_rnums {k : Tl Int → Prop} (hK : W.B.K = K) (h : EvK W te Γ fun r : Ru => k ⟨r.ns⟩) : EvK W (tFld K te "numbers") Γ k := by
  subst hK
  refine fun σ H Q E c => h σ H _ E fun v H1 r e1 d z => ?_
  obtain ⟨a, dx, tn, tp, vs, hv, m, hH, h4, h5, hR, h6⟩ := ru_den.mp d
  exact ⟨a, _, dx, _, _, hv, hH, hR.cl, hR.nnumbers, rf2 _ _ _ _, c _ H1 _ e1 ⟨tn, _, rfl, h4, Dl.of_ints _⟩ z⟩
theorem ev_rparts {k : Tl Ru → Prop} (hK : W.B.K = K) (h : EvK W te Γ fun r : Ru => k ⟨r.ps⟩) : EvK W (tFld K te "parts") Γ k := by
  subst hK
  refine fun σ H Q E c => h σ H _ E fun v H1 r e1 d z => ?_
  obtain ⟨a, dx, tn, tp, vs, hv, m, hH, h4, h5, hR, h6⟩ := ru_den.mp d
  exact ⟨a, _, dx, _, _, hv, hH, hR.cl, hR.nparts, rf3 _ _ _ _, c _ H1 _ e1 ⟨tp, _, rfl, h5, h6⟩ z⟩
/-- o.m(..) by the class of o -/
theorem ev_methW {α β : Type} {rα : Rep α} {rβ : Rep β} {fl : List Str} [vβ : VIns β fl] {B : Bs} {m : Str} {S : Addr → Sp → Prop} {E : L2.St → XK} {x : Xn → Prop} {k : α → Prop} (hB : W.B = B) (hx : HX W Γ E x) (hm : m ∉ fl)
    (h : EvK W to Γ fun g : β => ∃ P : PT, S (B.cl (VIns.kn g)) (spG B P) ∧ EvA W ta Γ fun ts => P (fun t => ∃ a : α, t = T a ∧ k a) x (T g :: ts)) : EvK W (tMethV m S E to ta) Γ k := by
  subst hB
  refine fun σ H Q G c => h σ H _ G fun v H1 g e1 d ⟨P, hS, z⟩ => ?_
  obtain ⟨p, dp, fs, hv, hmu, hH, hfl⟩ := VIns.at_ d
  refine ⟨p, dp, fs, _, _, hv, hH, look_none (by rw [hfl]; exact hm), hS, ?_⟩
  refine z σ H1 _ (G.ext e1) fun vs H2 ts e2 d2 z2 => ?_
  exact ⟨W, _, _, x, rfl, e2.ok, .cons (t := T g) (Rep.mono e2.keep d) d2, z2, fun v H3 t e3 dt ⟨a, ea, q⟩ => by
    subst ea
    exact c v H3 a ((e1.trans e2).trans e3) dt q, hx σ H2 ((G.ext e1).ext e2)⟩
theorem evF_methW {β γ : Type} {rβ : Rep β} {rγ : Rep γ} {fl : List Str} [vβ : VIns β fl] {B : Bs} {m : Str} {S : Addr → Sp → Prop} {E : L2.St → XK} {k : List γ → Prop} (hB : W.B = B) (hm : m ∉ fl)
    (h : EvK W to Γ fun g : β => ∃ P : PF γ, S (B.cl (VIns.kn g)) (spFr B P) ∧ EvA W ta Γ fun ts => P k (T g :: ts)) : EvF W (tMethV m S E to ta) Γ k := by
  subst hB
  refine fun σ H Q G c => h σ H _ G fun v H1 g e1 d ⟨P, hS, z⟩ => ?_
  obtain ⟨p, dp, fs, hv, hmu, hH, hfl⟩ := VIns.at_ d
  refine ⟨p, dp, fs, _, _, hv, hH, look_none (by rw [hfl]; exact hm), hS, ?_⟩
  refine z σ H1 _ (G.ext e1) fun vs H2 ts e2 d2 z2 => ?_
  have G2 := (G.ext e1).ext e2
  exact ⟨W, _, k, rfl, e2.ok, G2.wish, .cons (t := T g) (Rep.mono e2.keep d) d2, z2, fun q H3 ws bs hn e3 hq hd kk =>
    c q H3 ws bs (fresh_back e1.ok e1 (fresh_back e2.ok e2 hn)) ((e1.trans e2).trans e3) hq hd kk⟩
/-- iteration over a tuple -/
theorem ei_tup {α : Type} {rα : Rep α} {k : List α → Prop} (hK : W.B.K = K) (h : EvK W te Γ fun as : Tl α => k as.xs) : EvI W (iTup K te) Γ k := by
  subst hK
  refine fun σ H R G c => h σ H _ G fun v H1 as e1 ⟨p, xs, hv, hp, hd⟩ z => ⟨p, hv, ⟨xs, hp.sq⟩, c _ H1 as.xs e1 ⟨?_, ?_, ?_⟩ z⟩
  · intro i H' kp hi
    rw [← hd.length] at hi
    exact ⟨xs, xs[i], (hp.mono kp).sq, List.getElem?_eq_getElem hi⟩
  · intro H' kp
    exact ⟨xs, (hp.mono kp).sq, by rw [hd.length]; exact Nat.le_refl _⟩
  · rintro i H' x H'' kp _ hi ⟨rfl, hx⟩
    obtain ⟨a, ea, da⟩ := hd.at (hx xs (hp.mono kp).sq)
    exact ⟨a, ea, .inl rfl, Rep.mono kp da, fun D o nD _ => Rep.mono (W := W.toWc.plus D) (fun b o mb z => kp b o (fun q => mb (.inl q)) z) (Rep.grow D nD da)⟩
/-- tuple(x) -/
theorem ev_tupL {α : Type} {rα : Rep α} {k : Tl α → Prop} (hK : W.B.K = K) (h : EvK W te Γ fun l : List α => k ⟨l⟩) : EvK W (tThen te (kTup K)) Γ k := by
  subst hK
  refine fun σ H Q G c => h σ H _ G fun v H1 l e1 ⟨p, xs, hv, hp, hd⟩ z => .inl ⟨p, xs, hv, hp.sq, fun q hq => ?_⟩
  have e2 := Ext.new (o := .tup xs) e1.ok hq
  exact c (.ref q) _ ⟨l⟩ (e1.trans e2) ⟨q, xs, rfl, Tq.new (fresh_mu e1.ok hq) upd_same, hd.imp fun _ _ d => Rep.mono e2.keep d⟩ z
theorem ev_tupT {α : Type} {rα : Rep α} {k : Tl α → Prop} (hK : W.B.K = K) (h : EvK W te Γ fun l : Tl α => k l) : EvK W (tThen te (kTup K)) Γ k := by
  subst hK
  exact fun σ H Q G c => h σ H _ G fun v H1 l e1 ⟨p, xs, hv, hp, hd⟩ z => .inr ⟨p, xs, hv, hp.sq, hv ▸ c v H1 l e1 ⟨p, xs, hv, hp, hd⟩ z⟩
theorem ev_tupN {α : Type} {rα : Rep α} {ta : TA} {k : Tl α → Prop} (h : EvL W ta Γ fun as : List α => as.length ≤ 100000 ∧ k ⟨as⟩) : EvK W (tTup ta) Γ k := by
  refine fun σ H Q G c => h σ H _ G fun vs H1 as e1 d ⟨hl, z⟩ => ⟨by rw [d.length]; exact Nat.le_trans hl (by decide), fun q hq => ?_⟩
  have e2 := Ext.new (o := .tup vs) e1.ok hq
  exact c (.ref q) _ ⟨as⟩ (e1.trans e2) ⟨q, vs, rfl, Tq.new (fresh_mu e1.ok hq) upd_same, d.imp fun _ _ d => Rep.mono e2.keep d⟩ z
/-- t[i], t a tuple of one kind -/
theorem ev_ixTl {α : Type} {rα : Rep α} {ta tb : TE} {k : α → Prop} (hK : W.B.K = K) (h : EvK W ta Γ fun as : Tl α => EvK W tb Γ fun i : Int => ∃ a, atI as.xs i = some a ∧ k a) : EvK W (tOp (rIxT K) ta tb) Γ k := by
  subst hK
  refine ev_two (h.imp fun as ha => ha.imp fun i ⟨a, hi, z⟩ x y H Q o dx dy c => ?_)
  obtain ⟨p, vs, rfl, hp, hd⟩ := dx
  have e : ∃ v, atI vs i = some v ∧ den W H v a := by
    unfold atI at hi ⊢
    rw [hd.length]
    cases q : ixN as.xs.length i with
    | none => rw [q] at hi; cases hi
    | some j =>
      rw [q, Option.bind_some] at hi
      rw [Option.bind_some]
      exact hd.at' hi
  obtain ⟨v, hv, dv⟩ := e
  exact ⟨p, vs, i, v, rfl, dy, hp.sq, hv, c _ H a (Ext.refl o) dv z⟩
end
abbrev RuB := Fd Bool × (Fd (Tl Ru) × (Fd (Tl Int) × (Fd Str × Unit)))
def ruMk (k : RK) (b : RuB) : Ru := .mk k b.2.2.2.1.a b.2.2.1.a.xs b.2.1.a.xs b.1.a
def ruB (lb : Str) (ns : List Int) (ps : List Ru) (rk : Bool) : RuB := (⟨"ranked", rk⟩, ⟨"parts", ⟨ps⟩⟩, ⟨"numbers", ⟨ns⟩⟩, ⟨"label", lb⟩, ())
theorem ru_hden {B : Bs} {kd : RK} (hc : RcT B kd) (W' : Wc) (H : Hp) (p dx : Addr) (fs : List (Str × V)) (b : RuB) (hB : W'.B = B) (m : ¬ W'.mu p) (hH : H p = some (.ins (B.cl kd.cn) dx fs)) (hf : FRep.fd W' H fs b) (hg : ∃ lb ns ps rk, b = ruB lb ns ps rk) : den W' H (.ref p) (ruMk kd b) := by
  obtain ⟨lb, ns, ps, rk, rfl⟩ := hg
  obtain ⟨v1, r1, e1, ⟨rfl⟩, v2, r2, e2, ⟨tp, vp, h2, h3, h4⟩, v3, r3, e3, ⟨tn, vn, h5, h6, h7⟩, v4, r4, e4, ⟨rfl⟩, e5⟩ := hf
  subst hB
  refine ru_den.mpr ⟨p, dx, tn, tp, vp, rfl, m, ?_, ?_, h3, hc, h4⟩
  · have e5 : r4 = [] := e5
    rw [hH, e1, e2, e3, e4, e5, h2, h5]
    rfl
  · have : vn = ns.map V.int := Dl.ints h7
    show Tq W' H tn (ns.map V.int)
    rw [← this]
    exact h6
end G
set_option Elab.async false
set_option linter.all false
set_option maxRecDepth 100000
set_option maxHeartbeats 2000000
namespace G
open PySem PySem.Spec PyProof.Rows L2 StX
section
variable {X : Cx} {CX : CXT} {k i : Nat} {f C : Addr} {sp : Sp} {E : L2.St → XK} {x : Str} {e : Expr} {es : List Expr} {t : TA} {pp pos : Pos}
/-- x(e, .., *y), x a local name that holds the class at C -/
theorem pe_makeV2 {i : Nat} (M : Mk X.K C f) (F : FnR X.prog X.w X.K X.mg X.base CX k f sp) (hr : Room (k + 1) X.A) (hx : ∀ σ, PassesAt CX X σ (E σ)) (hN : X.N[i]? = some x) (hv : Vis X.env.scope x)
    (ha : PA X (e :: es) t) (hdb : (x == ("__debug__" : Str)) = false := by decide) (hcd : (x == ("__classdict__" : Str)) = false := by decide) (he : starEach (e :: es) X.env = (false, eval e X.env) :: starEach es X.env := by rfl) (hst : (backTo pos (starEach es X.env)).any (·.1) = true := by rfl) :
    PE X (.Call (.Name x pp) (e :: es) [] pos) (tMakeV i C sp E t) := by
  refine ⟨fun pins s σ H Q I h => ?_⟩
  obtain ⟨v, h1, h2, h3⟩ := h
  subst h2
  refine wpAny_Call_Name_kw (thn ((pe_var (pos := pp) hN hv hdb hcd).run pins s σ H (fun v H' => v = .ref C ∧ tMakeZ C sp E t σ H' Q) I ⟨_, h1, rfl, h3⟩) fun u s1 ⟨y, H1, I1, ry, ey, q⟩ => ?_)
  subst ey
  obtain rfl : u = Value.ref C := ry
  exact PySem.W.callWith_S2 (h₀ := X.base) I1.ok.mod.kin M.kp (thn (ha.run pos pins s1 σ H1 _ I1 q) fun us s2 ⟨vs, H2, I2, r, q2⟩ => ⟨I2.kIn, run_makeZ M F hr (hx σ) I2 r q2⟩) he hst
end
theorem pa_starK {X : Cx} {e : Expr} {es : List Expr} {te : TE} {t : TA} {p : Pos} (K : PySem.W.Frag) (he : PE X e te) (hr : PA X es t) (hK : X.K = K := by rfl) (hs : starEach (.Starred e p :: es) X.env = (true, eval e X.env) :: starEach es X.env := by rfl) : PA X (.Starred e p :: es) (tStar K te t) := by
  subst hK
  exact pa_star he hr hs
theorem pe_tupleOfK {X : Cx} {a : Expr} {ta : TE} {p pos : Pos} (K : PySem.W.Frag) (hg : Gl X "tuple") (hm : X.mg "tuple" = none) (ha : PE X a ta) (hK : X.K = K := by rfl) (na : starEach [a] X.env = (false, eval a X.env) :: starEach [] X.env := by rfl) :
    PE X (.Call (.Name "tuple" p) [a] [] pos) (tThen ta (kTup K)) := by
  subst hK
  exact pe_tupleOf hg hm ha na
theorem ps_fldK {X : Cx} {o e : Expr} {to tv : TE} {f : Str} {pos pos' : Pos} (K : PySem.W.Frag) (ho : PE X o to) (hv : PE X e tv) (hs : swapsWith e (some (.Attribute o f pos')) pos.line X.env = pure false := by rfl) (hK : X.K = K := by rfl) : PS X (.Assign [.Attribute o f pos'] e pos) (sFld K to tv f) := by
  subst hK
  exact ps_fld ho hv hs
theorem defS2 {K : PySem.W.Frag} {name qual p1 p2 pv : Str} {st : Stmt} {f : Addr} {fd : FuncData} (F : Fun K name qual st f fd) (h0 : ∀ a b, bindArgs fd ⟨[a, b], []⟩ = (newTuple [] >>= fun t => pure [(p1, a), (p2, b), (pv, t)])) (h1 : ∀ a b r rs, bindArgs fd ⟨a :: b :: r :: rs, []⟩ = (newTuple (r :: rs) >>= fun t => pure [(p1, a), (p2, b), (pv, t)])) :
    DefS K name qual st [p1, p2] pv f := ⟨fd, F, bind_star2 (B := fun us => bindArgs fd ⟨us, []⟩) h0 h1⟩
section
variable {W : Wd} {Γ : Gam} {ta : TA} {te tb tc to : TE} {K : PySem.W.Frag} {B : Bs} {C : Addr} {P : PT} {E : L2.St → XK} {x : Xn → Prop}
theorem ev_lenTl {α : Type} {rα : Rep α} {k : Int → Prop} (hK : W.B.K = K) (h : EvK W te Γ fun as : Tl α => k (as.xs.length : Int)) : EvK W (tCB (fun xs H Q => ∃ p ys, xs = [.ref p] ∧ (SqL K H p ys ∨ SqT K H p ys) ∧ Q (.int ys.length) H) (tCons te tNil)) Γ k := by
  subst hK
  refine fun σ H Q E c => h σ H _ E fun v H1 as e1 ⟨p, xs, hv, hp, hd⟩ z => ⟨p, xs, by rw [hv], .inr hp.sq, ?_⟩
  rw [hd.length]
  exact c _ H1 _ e1 rfl z
theorem sIx_nn {n d : Nat} {i : Nat} : HT.sIx n d (some (i : Int)) = min i n := by
  show (if (i : Int) < 0 then ((i : Int) + n).toNat else min (i : Int).toNat n) = _
  rw [if_neg (by omega), Int.toNat_natCast]
/-- xs[a:b] -/
theorem ev_cut {α : Type} {rα : Rep α} {k : List α → Prop} (hK : W.B.K = K) (h : EvK W te Γ fun as : List α => EvK W tb Γ fun n : Int => EvK W tc Γ fun m : Int => (0 ≤ n ∧ n ≤ m ∧ m ≤ as.length) ∧ k ((as.drop n.toNat).take (m.toNat - n.toNat))) : EvK W (tSl (rSlL K) te (tPart tb) (tPart tc)) Γ k := by
  subst hK
  refine fun σ H Q G c => h σ H _ G fun v H1 as e1 d1 h1 => ?_
  refine h1 σ H1 _ (G.ext e1) fun u H2 n e2 d2 h2 => ⟨n, d2, ?_⟩
  refine h2 σ H2 _ ((G.ext e1).ext e2) fun w H3 m e3 d3 ⟨⟨hn, hm, hl⟩, z⟩ => ⟨m, d3, ?_⟩
  obtain ⟨p, vs, hv, hp, hd⟩ := Rep.mono (W := W.toWc) (a := as) (e2.trans e3).keep d1
  refine ⟨p, vs, hv, hp.sq, fun q hq => ?_⟩
  obtain ⟨n', rfl⟩ : ∃ j : Nat, n = j := ⟨n.toNat, by omega⟩
  obtain ⟨m', rfl⟩ : ∃ j : Nat, m = j := ⟨m.toNat, by omega⟩
  have hvl := hd.length
  have e : cutV vs (some (n' : Int)) (some (m' : Int)) = (vs.drop n').take (m' - n') := by
    unfold cutV
    rw [sIx_nn, sIx_nn, Nat.min_eq_left (by omega), Nat.min_eq_left (by omega)]
  rw [e]
  rw [Int.toNat_natCast, Int.toNat_natCast] at z
  have e4 := Ext.new (o := .lst ((vs.drop n').take (m' - n'))) e3.ok hq
  exact c (.ref q) _ _ (((e1.trans e2).trans e3).trans e4) ⟨q, _, rfl, Lq.new (fresh_mu e3.ok hq) upd_same, (dl_take _ (dl_drop n' hd)).imp fun _ _ d => Rep.mono e4.keep d⟩ z
end
/-- for x in any iteration -/
theorem sx_forI {α : Type} {rα : Rep α} {W : Wd} {Γ : Gam} {wi : TI} {g : TG} {t : TS} {R : Po} (h : EvI W wi Γ fun as : List α => ∃ I : Nat → Gam → Prop, I 0 Γ ∧
      (∀ (i : Nat) (a : α) Γ', as[i]? = some a → I i Γ' → Tg W g Γ' a fun Γ1 => Sx W t Γ1 { R with nx := I (i + 1), ct := I (i + 1), bk := R.nx }) ∧ ∀ Γ', I as.length Γ' → R.nx Γ') : Sx W (tFor wi g t) Γ R := fun D σ H G O =>
  h σ H _ G fun J H1 as e1 it ⟨I, h0, hs, hl⟩ => by
    refine ⟨fun i m σ' H' => m = as.length - i ∧ i ≤ as.length ∧ ∃ Γ', Ext W H1 H' ∧ GOk W H' σ' Γ' ∧ I i Γ', ⟨_, rfl, Nat.zero_le _, Γ, Ext.refl e1.ok, G.ext e1, h0⟩, ?_⟩
    rintro i m σ' H' ⟨rfl, hi, Γ', e, G', q⟩
    by_cases hlt : i < as.length
    · refine .inr ⟨it.go i H' e.keep hlt, fun σ2 H2 => ∃ Γ2, Ext W H1 H2 ∧ GOk W H2 σ2 Γ2 ∧ I (i + 1) Γ2, fun σ2 H2 ⟨Γ2, e2, G2, q2⟩ => ⟨as.length - (i + 1), by omega, rfl, hlt, Γ2, e2, G2, q2⟩, fun x H2 y => ?_⟩
      obtain ⟨a, ea, nw, da, _⟩ := it.yld i H' x H2 e.keep (fun b m => W.live H' b e.ok m) hlt y
      have e3 := nw.ext e.ok
      obtain ⟨js, hj⟩ := hs i a Γ' ea q
      refine hj σ' H2 x _ (G'.ext e3) da fun σ3 Γ3 G3 _ q3 => ?_
      have e4 := (e1.trans e).trans e3
      exact q3 _ σ3 H2 G3 ⟨fun σ4 H4 Γ4 e5 G4 q4 => ⟨Γ4, (e.trans e3).trans e5, G4, q4⟩, fun v H4 t e5 d q4 => O.rt v H4 t (e4.trans e5) d q4, fun σ4 H4 Γ4 e5 G4 q4 => O.nx σ4 H4 Γ4 (e4.trans e5) G4 q4, fun σ4 H4 Γ4 e5 G4 q4 => ⟨Γ4, (e.trans e3).trans e5, G4, q4⟩⟩
    · have : i = as.length := by omega
      subst this
      exact .inl ⟨it.stop H' e.keep, O.nx σ' H' Γ' (e1.trans e) G' (hl Γ' q)⟩
mutual
def namesF : Ru → List Str
  | .mk .leaf lb _ _ _ => [lb]
  | .mk .rank _ _ ps _ => namesL ps
  | .mk .trim _ _ ps _ => namesL ps
  | .mk .weigh _ _ ps _ => namesL ps
def namesL : List Ru → List Str
  | [] => []
  | p :: ps => namesF p ++ namesL ps
end
theorem namesL_flat : ∀ ps : List Ru, namesL ps = ps.flatMap namesF
  | [] => rfl
  | p :: ps => by rw [List.flatMap_cons, ← namesL_flat ps]; rfl
theorem namesF_node {r : Ru} (h : r.k ≠ .leaf) : namesF r = r.ps.flatMap namesF := by
  rw [← namesL_flat]
  obtain ⟨k, lb, ns, ps, rk⟩ := r
  cases k with
  | leaf => exact absurd rfl h
  | _ => rfl
theorem namesF_leaf {r : Ru} (h : r.k = .leaf) : namesF r = [r.lb] := by
  obtain ⟨k, lb, ns, ps, rk⟩ := r
  cases h
  rfl
mutual
def depR : Ru → Nat
  | .mk .leaf _ _ _ _ => 0
  | .mk .rank _ _ ps _ => depRL ps + 1
  | .mk .trim _ _ ps _ => depRL ps + 1
  | .mk .weigh _ _ ps _ => depRL ps + 1
def depRL : List Ru → Nat
  | [] => 0
  | p :: ps => max (depR p) (depRL ps)
end
theorem depR_mem {p : Ru} : ∀ {ps : List Ru}, p ∈ ps → depR p ≤ depRL ps
  | [], h => by cases h
  | q :: ps, h => by
    show depR p ≤ max (depR q) (depRL ps)
    rcases List.mem_cons.mp h with rfl | h
    · exact Nat.le_max_left _ _
    · exact Nat.le_trans (depR_mem h) (Nat.le_max_right _ _)
theorem depR_node {r : Ru} (h : r.k ≠ .leaf) : depR r = depRL r.ps + 1 := by
  obtain ⟨k, lb, ns, ps, rk⟩ := r
  cases k with
  | leaf => exact absurd rfl h
  | _ => rfl
def sortI (as : List Int) : List Int := as.mergeSort fun a b => decide (a ≤ b)
theorem sortI_perm (as : List Int) : (sortI as).Perm as := List.mergeSort_perm _ _
theorem sortI_sorted (as : List Int) : (sortI as).Pairwise (· ≤ ·) := by
  have := List.pairwise_mergeSort (le := fun a b : Int => decide (a ≤ b)) (by intro a b c; simp; omega) (by intro a b; simp; omega) as
  exact this.imp fun h => of_decide_eq_true h
theorem sortI_uniq {as bs : List Int} (hp : bs.Perm as) (hs : bs.Pairwise (· ≤ ·)) : bs = sortI as :=
  (hp.trans (sortI_perm as).symm).eq_of_pairwise (fun a b _ _ h1 h2 => by omega) hs (sortI_sorted as)
theorem sortI_len (as : List Int) : (sortI as).length = as.length := (sortI_perm as).length_eq
/-- the least number of a list -/
def minL : List Int → Int
  | [] => 0
  | [a] => a
  | a :: b :: r => min a (minL (b :: r))
theorem minL_mem : ∀ {as : List Int}, as ≠ [] → minL as ∈ as
  | [], h => absurd rfl h
  | [a], _ => List.mem_cons_self
  | a :: b :: r, _ => by
    show min a (minL (b :: r)) ∈ _
    have ih := minL_mem (as := b :: r) (by simp)
    by_cases h : a ≤ minL (b :: r)
    · rw [Int.min_eq_left h]; exact List.mem_cons_self
    · rw [Int.min_eq_right (by omega)]; exact List.mem_cons_of_mem _ ih
theorem minL_le : ∀ {as : List Int} {y : Int}, y ∈ as → minL as ≤ y
  | [], _, h => by cases h
  | [a], y, h => by rw [List.mem_singleton.mp h]; exact Int.le_refl _
  | a :: b :: r, y, h => by
    show min a (minL (b :: r)) ≤ y
    rcases List.mem_cons.mp h with rfl | h
    · exact Int.min_le_left _ _
    · exact Int.le_trans (Int.min_le_right _ _) (minL_le h)
theorem minL_uniq {as : List Int} {m : Int} (h1 : m ∈ as) (h2 : ∀ y ∈ as, m ≤ y) : m = minL as := by
  have h3 := h2 _ (minL_mem (as := as) (by intro e; rw [e] at h1; cases h1))
  have h4 := minL_le h1
  omega
def wUp (ns as : List Int) (m : Int) : Int := (((as.zip ns).filter fun q => decide (q.1 ≤ m)).map fun q => q.2).sum
/-- the answers of which the mean is taken -/
def cntF (k : RK) (ns as : List Int) : List Int := match k with
  | .leaf => []
  | .rank => [(sortI as).getD (ns.headD 0).toNat 0]
  | .trim => ((sortI as).drop (ns.headD 0).toNat).take (as.length - (ns.headD 0).toNat - (ns.headD 0).toNat)
  | .weigh => [minL (as.filter fun a => decide (ns.sum ≤ 2 * wUp ns as a))]
def nodeF (k : RK) (ns as : List Int) : Int := (cntF k ns as).sum / (cntF k ns as).length
mutual
def ansF (rd : Str → Int) : Ru → Int
  | .mk .leaf lb _ _ _ => rd lb
  | .mk .rank _ ns ps _ => nodeF .rank ns (ansL rd ps)
  | .mk .trim _ ns ps _ => nodeF .trim ns (ansL rd ps)
  | .mk .weigh _ ns ps _ => nodeF .weigh ns (ansL rd ps)
def ansL (rd : Str → Int) : List Ru → List Int
  | [] => []
  | p :: ps => ansF rd p :: ansL rd ps
end
theorem ansL_map (rd : Str → Int) : ∀ ps : List Ru, ansL rd ps = ps.map (ansF rd)
  | [] => rfl
  | p :: ps => by rw [List.map_cons, ← ansL_map rd ps]; rfl
theorem ansF_node (rd : Str → Int) {r : Ru} (h : r.k ≠ .leaf) : ansF rd r = nodeF r.k r.ns (r.ps.map (ansF rd)) := by
  rw [← ansL_map]
  obtain ⟨k, lb, ns, ps, rk⟩ := r
  cases k with
  | leaf => exact absurd rfl h
  | _ => rfl
theorem ansF_leaf (rd : Str → Int) {r : Ru} (h : r.k = .leaf) : ansF rd r = rd r.lb := by
  obtain ⟨k, lb, ns, ps, rk⟩ := r
  cases h
  rfl
/-- the numbers of a rule of this kind with n parts are right -/
def numOk (k : RK) (ns : List Int) (n : Nat) : Prop := match k with
  | .leaf => True
  | .rank => ∃ p, ns = [p] ∧ 0 ≤ p ∧ p < n
  | .trim => ∃ c, ns = [c] ∧ 0 ≤ c ∧ 2 * c < n
  | .weigh => ns.length = n ∧ (∀ w ∈ ns, 0 ≤ w) ∧ 0 < ns.sum
mutual
def okR : Ru → Prop
  | .mk k _ ns ps _ => numOk k ns ps.length ∧ ps.length ≤ 100 ∧ okRL ps
def okRL : List Ru → Prop
  | [] => True
  | p :: ps => okR p ∧ okRL ps
end
theorem okRL_mem {p : Ru} : ∀ {ps : List Ru}, okRL ps → p ∈ ps → okR p
  | [], _, h => by cases h
  | q :: ps, ho, h => by
    have ho : okR q ∧ okRL ps := ho
    rcases List.mem_cons.mp h with rfl | h
    · exact ho.1
    · exact okRL_mem ho.2 h
theorem okR_node {r : Ru} : okR r ↔ numOk r.k r.ns r.ps.length ∧ r.ps.length ≤ 100 ∧ okRL r.ps := by
  obtain ⟨k, lb, ns, ps, rk⟩ := r
  show okR (.mk k lb ns ps rk) ↔ _
  unfold okR
  exact Iff.rfl
mutual
def kdsR (ks : List RK) : Ru → Prop
  | .mk k _ _ ps _ => k ∈ ks ∧ kdsRL ks ps
def kdsRL (ks : List RK) : List Ru → Prop
  | [] => True
  | p :: ps => kdsR ks p ∧ kdsRL ks ps
end
theorem kdsRL_mem {ks : List RK} {p : Ru} : ∀ {ps : List Ru}, kdsRL ks ps → p ∈ ps → kdsR ks p
  | [], _, h => by cases h
  | q :: ps, ho, h => by
    have ho : kdsR ks q ∧ kdsRL ks ps := ho
    rcases List.mem_cons.mp h with rfl | h
    · exact ho.1
    · exact kdsRL_mem ho.2 h
theorem kdsRL_of {ks : List RK} : ∀ {ps : List Ru}, (∀ p ∈ ps, kdsR ks p) → kdsRL ks ps
  | [], _ => trivial
  | q :: ps, h => ⟨h q List.mem_cons_self, kdsRL_of fun p hp => h p (List.mem_cons_of_mem _ hp)⟩
theorem okRL_of : ∀ {ps : List Ru}, (∀ p ∈ ps, okR p) → okRL ps
  | [], _ => trivial
  | q :: ps, h => ⟨h q List.mem_cons_self, okRL_of fun p hp => h p (List.mem_cons_of_mem _ hp)⟩
theorem kdsR_node {ks : List RK} {r : Ru} : kdsR ks r ↔ r.k ∈ ks ∧ kdsRL ks r.ps := by
  obtain ⟨k, lb, ns, ps, rk⟩ := r
  show kdsR ks (.mk k lb ns ps rk) ↔ _
  unfold kdsR
  exact Iff.rfl
/-- the first name that stood before -/
def dupG (seen : List Str) : List Str → Option Str
  | [] => none
  | a :: r => if a ∈ seen then some a else dupG (seen ++ [a]) r
def dupF (l : List Str) : Option Str := dupG [] l
theorem dupG_none {seen l : List Str} : dupG seen l = none ↔ (∀ a ∈ l, a ∉ seen) ∧ l.Nodup := by
  induction l generalizing seen with
  | nil => simp [dupG]
  | cons a r ih =>
    unfold dupG
    by_cases h : a ∈ seen
    · rw [if_pos h]
      exact ⟨fun z => (nomatch z), fun z => absurd h (z.1 a List.mem_cons_self)⟩
    · rw [if_neg h, ih, List.nodup_cons]
      constructor
      · rintro ⟨h1, h2⟩
        refine ⟨fun b hb => ?_, fun hm => h1 a hm (List.mem_append_right _ (List.mem_singleton.mpr rfl)), h2⟩
        rcases List.mem_cons.mp hb with rfl | hb
        · exact h
        · exact fun z => h1 b hb (List.mem_append_left _ z)
      · rintro ⟨h1, h2, h3⟩
        refine ⟨fun b hb z => ?_, h3⟩
        rcases List.mem_append.mp z with z | z
        · exact h1 b (List.mem_cons_of_mem _ hb) z
        · exact h2 (List.mem_singleton.mp z ▸ hb)
theorem dupF_none {l : List Str} : dupF l = none ↔ l.Nodup := by
  unfold dupF
  rw [dupG_none]
  exact ⟨fun h => h.2, fun h => ⟨fun _ _ z => (nomatch z), h⟩⟩
theorem dupG_step {seen l : List Str} {i : Nat} {a : Str} (h : l[i]? = some a) (hs : seen = l.take i) : dupG seen (l.drop i) = if a ∈ seen then some a else dupG (l.take (i + 1)) (l.drop (i + 1)) := by
  have hi := (List.getElem?_eq_some_iff.mp h).1
  have he := (List.getElem?_eq_some_iff.mp h).2
  rw [List.drop_eq_getElem_cons hi, he]
  show (if a ∈ seen then some a else dupG (seen ++ [a]) (l.drop (i + 1))) = _
  rw [hs, List.take_succ, h]
  rfl
end G
namespace G
open PySem PySem.Spec PyProof.Rows L2 StX
end G
namespace G
open PySem PySem.Spec PyProof.Rows L2 StX
theorem RcT.use {W : Wd} {B : Bs} {K : PySem.W.Frag} {k : RK} (h : RcT B k) (hB : W.B = B) (hK : W.B.K = K) : L2.Cls K (W.B.cl k.cn) ∧ NoAttr K (W.B.cl k.cn) "label" ∧ NoAttr K (W.B.cl k.cn) "numbers" ∧ NoAttr K (W.B.cl k.cn) "parts" ∧ NoAttr K (W.B.cl k.cn) "ranked" := by
  subst hB
  subst hK
  exact ⟨h.cl, h.nlabel, h.nnumbers, h.nparts, h.nranked⟩
/-- what making a rule of this kind gives -/
def MkR (lbl : Str) (kd : RK) (good : Prop) (ns : List Int) (ps : List Ru) (rk : Bool) (ok : Ru → Prop) (xx : Xn → Prop) : Prop :=
  (¬ good → xx ⟨.BadRule, [("kind", .s lbl)]⟩) ∧ (good → match dupF (namesL ps) with | none => ok (.mk kd lbl ns ps rk) | some n => (reprText n).length ≤ 3000 ∧ n.length ≤ 3000 ∧ xx ⟨.DuplicateGauge, [("name", .s n)]⟩)
/-- parts that may be combined -/
structure PsOk (ks : List RK) (ps : List Ru) : Prop where
  kds : kdsRL ks ps
  dep : depRL ps ≤ 7
  len : ps.length ≤ 1000
  nms : (namesL ps).length ≤ 1000
def shStr (f : Str) (vs : List V) (fs : List (Str × V)) : Prop := ∃ x : Str, vs = [.str x] ∧ (reprText x).length ≤ 3000 ∧ x.length ≤ 3000 ∧ fs = ([(f, .str x)] : List (Str × V))
theorem shStr_ok {f a : Str} (s : (reprText a).length ≤ 3000) (s2 : a.length ≤ 3000) : ShT (shStr f) [T a] [(f, .s a)] := ⟨by show 1 ≤ 1000; decide, fun W H vs h => by
  cases h with
  | cons h1 h =>
  cases h
  exact ⟨_, ⟨_, by rw [show _ = V.str a from h1], s, s2, rfl⟩, .cons (t := .s a) rfl .nil⟩⟩
theorem fmt_rep {σ : L2.St} {H : Hp} {te : TE} {x : Str} (h : ∀ Q : VK, Q (.str x) H → te σ H Q) (s : (reprText x).length ≤ 3000) : ∀ Q : VK, Q (.str (reprText x)) H → tFmtR te σ H Q := fun Q q => h _ (.inl ⟨x, rfl, Nat.le_trans s (by decide), q⟩)
theorem fmt_str {σ : L2.St} {H : Hp} {te : TE} {x : Str} (h : ∀ Q : VK, Q (.str x) H → te σ H Q) (s : x.length ≤ 3000) : ∀ Q : VK, Q (.str x) H → tFmt te σ H Q := fun Q q => h _ (.inl ⟨x, rfl, Nat.le_trans s (by decide), q⟩)
end G
namespace G
theorem mem_sum_le {a : Nat} : ∀ {l : List Nat}, a ∈ l → a ≤ l.sum
  | [], h => by cases h
  | b :: r, h => by
    rw [List.sum_cons]
    rcases List.mem_cons.mp h with rfl | h
    · omega
    · have := mem_sum_le h; omega
theorem names_mem_le {p : Ru} {ps : List Ru} (h : p ∈ ps) : (namesF p).length ≤ (ps.flatMap namesF).length := by
  rw [List.length_flatMap]
  exact mem_sum_le (List.mem_map.mpr ⟨p, h, rfl⟩)
end G
namespace G
theorem kn_ru {B : Bs} {p : Ru} {k : RK} (h : p.k = k) : B.cl (VIns.kn p) = B.cl k.cn := by rw [← h]; rfl
end G
namespace G
open PySem PySem.Spec PyProof.Rows L2 StX
theorem EvF.imp {β : Type} {rβ : Rep β} {W : Wd} {te : TE} {Γ : Gam} {k k' : List β → Prop} (h : EvF W te Γ k) (i : ∀ bs, k bs → k' bs) : EvF W te Γ k' := fun σ H Q G c =>
  h σ H Q G fun p H' vs bs n e hp hd q => c p H' vs bs n e hp hd (i bs q)
theorem enumF_get {α : Type} {as : List α} {i : Nat} {a : Int × α} (h : (enumF as)[i]? = some a) : ∃ b, as[i]? = some b ∧ ((i : Int), b) = a := by
  have hi := (List.getElem?_eq_some_iff.mp h).1
  rw [enumF_length] at hi
  have h2 := enumF_at (List.getElem?_eq_getElem hi)
  rw [h] at h2
  exact ⟨as[i], List.getElem?_eq_getElem hi, (Option.some.inj h2).symm⟩
end G
namespace G
open PySem PySem.Spec PyProof.Rows L2 StX
theorem namesF_any {kd : RK} {lb : Str} {ns : List Int} {ps : List Ru} {rk : Bool} (h : kd ≠ .leaf) : namesF (.mk kd lb ns ps rk) = namesL ps := by
  rw [namesL_flat]
  exact namesF_node h
/-- numbers that the readings of a dict are -/
def rdF (ds : List (Str × Int)) (n : Str) : Int := (getDc ds n).getD 0
theorem getD_of {as : List Int} {i : Int} (h0 : 0 ≤ i) (h1 : i < as.length) : atI as i = some (as.getD i.toNat 0) := by
  obtain ⟨j, rfl⟩ : ∃ j : Nat, i = j := ⟨i.toNat, by omega⟩
  have hj : j < as.length := by omega
  rw [Int.toNat_natCast, List.getD_eq_getElem?_getD, List.getElem?_eq_getElem hj]
  exact atI_nat (List.getElem?_eq_getElem hj)
end G
namespace G
theorem cnt_len {k : RK} {ns as : List Int} {n : Nat} (h : numOk k ns n) (hk : k ≠ .leaf) (hl : as.length = n) (hn : n ≤ 100) : 0 < (cntF k ns as).length ∧ (cntF k ns as).length ≤ 1000 := by
  cases k with
  | leaf => exact absurd rfl hk
  | rank => exact ⟨Nat.one_pos, by show 1 ≤ 1000; omega⟩
  | weigh => exact ⟨Nat.one_pos, by show 1 ≤ 1000; omega⟩
  | trim =>
    obtain ⟨c, rfl, h0, h1⟩ := h
    show 0 < (((sortI as).drop c.toNat).take (as.length - c.toNat - c.toNat)).length ∧ (((sortI as).drop c.toNat).take (as.length - c.toNat - c.toNat)).length ≤ 1000
    rw [List.length_take, List.length_drop, sortI_len]
    omega
end G
set_option Elab.async false
set_option linter.all false
set_option maxRecDepth 100000
set_option maxHeartbeats 2000000
namespace G
open PySem PySem.Spec PyProof.Rows L2 StX
def mergeD {β : Type} (l more : List (Str × β)) : List (Str × β) := more.foldl (fun acc e => putDc acc e.1 e.2) l
theorem Dk.merge {β : Type} {f : V → β → Prop} : ∀ {more : List (Key × V)} {m : List (Str × β)} {kvs : List (Key × V)} {l : List (Str × β)}, Dk f more m → Dk f kvs l → Dk f (mergeK kvs more) (mergeD l m)
  | _, _, _, _, .nil, h => h
  | _, _, _, _, .cons (k := k) h r, t => r.merge (t.put (k := k) h)
section
variable {W : Wd} {Γ : Gam} {te tk tv : TE} {trs : List (TE × TE)} {K : PySem.W.Frag}
theorem Dk.flat {β : Type} [Rep β] [Flat β] {W W' : Wc} {H H' : Hp} {kvs : List (Key × V)} {l : List (Str × β)} (h : Dk (den W H) kvs l) : Dk (den W' H') kvs l := h.imp fun _ _ d => Flat.at_ d
end
mutual
theorem ruD_nolst {W : Wc} {H : Hp} {D : Addr} {xs : List V} (h : H D = some (.lst xs)) : ∀ (v : V) (r : Ru), ruD W H v r → ruD (W.plus D) H v r
  | v, .mk k lb ns ps rk, hr => by
    unfold ruD at hr ⊢
    obtain ⟨a, dx, tn, tp, vs, hv, m, hH, h1, h2, hc, h3⟩ := hr
    exact ⟨a, dx, tn, tp, vs, hv, fun z => z.elim m fun z => (by rw [z, h] at hH; cases hH), hH, tq_nl h h1, tq_nl h h2, hc, ruL_nolst h _ _ h3⟩
theorem ruL_nolst {W : Wc} {H : Hp} {D : Addr} {xs : List V} (h : H D = some (.lst xs)) : ∀ (vs : List V) (r : List Ru), ruL W H vs r → ruL (W.plus D) H vs r
  | vs, [], hr => by unfold ruL at hr ⊢; exact hr
  | vs, p :: ps, hr => by
    unfold ruL at hr ⊢
    obtain ⟨v, r, hv, h1, h2⟩ := hr
    exact ⟨v, r, hv, ruD_nolst h _ _ h1, ruL_nolst h _ _ h2⟩
end
instance : NoLst Ru := ⟨fun h d => ruD_nolst h _ _ d⟩
def lfU (w : Str) : Ru := .mk .leaf w [] [] true
theorem lf_names (ws : List Str) : namesL (ws.map lfU) = ws := by
  rw [namesL_flat]
  induction ws with
  | nil => rfl
  | cons w r ih => rw [List.map_cons, List.flatMap_cons, ih]; rfl
end G
namespace G
open PySem PySem.Spec PyProof.Rows L2 StX
theorem EvL.imp {α : Type} {rα : Rep α} {W : Wd} {ta : TA} {Γ : Gam} {k k' : List α → Prop} (h : EvL W ta Γ k) (i : ∀ as, k as → k' as) : EvL W ta Γ k' := fun σ H Q G c => h σ H Q G fun vs H' as e d q => c vs H' as e d (i as q)
theorem EvL.of {α : Type} {rα : Rep α} {W : Wd} {ta : TA} {Γ : Gam} {k : List α → Prop} (as : List α) (h : EvL W ta Γ fun bs => bs = as) (q : k as) : EvL W ta Γ k := h.imp fun bs e => e ▸ q
theorem len1 {α : Type} : ∀ {l : List α}, l.length = 1 → ∃ a, l = [a]
  | [a], _ => ⟨a, rfl⟩
end G
namespace G
open PySem PySem.Spec PyProof.Rows L2 StX
theorem putDc_new {β : Type} {l : List (Str × β)} {k : Str} {b : β} (h : k ∉ l.map (·.1)) : putDc l k b = l ++ [(k, b)] := by
  unfold putDc
  rw [if_neg]
  intro z
  obtain ⟨e, he, hd⟩ := List.any_eq_true.mp z
  exact h (List.mem_map.mpr ⟨e, he, of_decide_eq_true hd⟩)
theorem mergeD_nodup {β : Type} : ∀ (more l : List (Str × β)), ((l ++ more).map (·.1)).Nodup → mergeD l more = l ++ more
  | [], l, _ => (List.append_nil l).symm
  | (k, b) :: r, l, h => by
    show mergeD (putDc l k b) r = _
    have h1 : k ∉ l.map (·.1) := fun z => by
      rw [List.map_append, List.map_cons] at h
      exact (List.nodup_append.mp h).2.2 k z k List.mem_cons_self rfl
    rw [putDc_new h1, mergeD_nodup r _ (by rw [List.append_assoc]; exact h), List.append_assoc]
    rfl
theorem getDc_c {β : Type} (a : Str) (b : β) (r : List (Str × β)) (j : Str) : getDc ((a, b) :: r) j = if a = j then some b else getDc r j := by
  unfold getDc
  by_cases e : a = j
  · rw [if_pos e, List.find?_cons_of_pos (by exact decide_eq_true e)]
    rfl
  · rw [if_neg e, List.find?_cons_of_neg (by rw [decide_eq_true_iff]; exact e)]
end G
namespace G
open PySem PySem.Spec PyProof.Rows L2 StX
theorem filtT {α : Type} (as : List α) : as.filter (fun _ => true) = as := List.filter_eq_self.mpr fun _ _ => rfl
end G
set_option Elab.async false
set_option linter.all false
set_option maxRecDepth 100000
set_option maxHeartbeats 2000000
namespace G
open PySem PySem.Spec PyProof.Rows L2 StX
theorem Dl.dropLast {α : Type} {f : V → α → Prop} : ∀ {vs : List V} {as : List α}, Dl f vs as → Dl f vs.dropLast as.dropLast
  | _, _, .nil => .nil
  | _, _, .cons _ .nil => .nil
  | _, _, .cons x (.cons y z) => .cons x (Dl.dropLast (.cons y z))
end G
namespace G
open PySem PySem.Spec PyProof.Rows L2 StX
end G
namespace G
open PySem PySem.Spec PyProof.Rows L2 StX
end G
namespace G
open PySem PySem.Spec PyProof.Rows L2 StX
end G
set_option Elab.async false
set_option linter.all false
set_option maxRecDepth 100000
set_option maxHeartbeats 2000000
namespace G
open PySem PySem.Spec PyProof.Rows L2 StX
def ItzM (K : PySem.W.Frag) (a b : Addr) : It where
  go i H := ∃ xs ys x y, SqL K H a xs ∧ SqT K H b ys ∧ xs[i]? = some x ∧ ys[i]? = some y
  yld i H v H' := ∃ t x y, v = .ref t ∧ H t = none ∧ H' = upd H t (.tup [x, y]) ∧ (∀ xs, SqL K H a xs → xs[i]? = some x) ∧ (∀ ys, SqT K H b ys → ys[i]? = some y)
  stop i H := ∃ xs ys, (SqL K H a xs ∧ SqT K H b ys) ∧ (i ≤ xs.length ∧ i ≤ ys.length) ∧ (i = xs.length ∨ i = ys.length)
def ZmSt (z TI TO i1 i2 a b : Addr) (i : Nat) (h : Heap) : Prop :=
  IsZip h z TI TO .none ∧ IsTupOf2 h TI (.ref i1) (.ref i2) ∧ (∃ x y, IsTupOf2 h TO x y) ∧ h.IsListIter i1 a i ∧ h.IsTupleIter i2 b i
theorem zm_sep {z TI TO i1 i2 a b : Addr} (D : ZipApart z TI TO i1 i2 a b) : ZipSep2 z TI TO i1 i2 [i1, a] [i2, b] := by
  obtain ⟨d1, d2, d3, d4, d5, d6, d7, d8, d9, d10, d11, d12, d13, d14, d15, d16, d17, d18⟩ := D
  refine ⟨d1, d2, d5, d6, by simp, ?_, ?_, d7, by simp, ?_, ?_, ?_, ?_⟩ <;> simp <;> constructor <;> first | assumption | (apply Ne.symm; assumption)
theorem zm_obj {z TI TO i1 i2 a b : Addr} {i : Nat} {h : Heap} (st : ZmSt z TI TO i1 i2 a b i h) : ∀ c ∈ [z, TI, TO, i1, i2], ∃ o, h.get? c = some o ∧ ∀ v, o.data ≠ .cell v := by
  obtain ⟨hz, hTI, ⟨x, y, hTO⟩, ⟨o1, e1, _, d1⟩, ⟨o2, e2, _, d2⟩⟩ := st
  intro c hc
  simp only [List.mem_cons, List.not_mem_nil, or_false] at hc
  rcases hc with rfl | rfl | rfl | rfl | rfl
  · exact ⟨_, hz, fun v => Data.noConfusion⟩
  · exact ⟨_, hTI, fun v => Data.noConfusion⟩
  · exact ⟨_, hTO, fun v => Data.noConfusion⟩
  · refine ⟨o1, e1, fun v => ?_⟩
    rw [d1]
    exact Data.noConfusion
  · refine ⟨o2, e2, fun v => ?_⟩
    rw [d2]
    exact Data.noConfusion
theorem zm_keep {z TI TO i1 i2 a b : Addr} {i : Nat} {h h' : Heap} (st : ZmSt z TI TO i1 i2 a b i h) (k : ∀ c ∈ [z, TI, TO, i1, i2], ∀ o, h.get? c = some o → h'.get? c = some o) : ZmSt z TI TO i1 i2 a b i h' := by
  obtain ⟨hz, hTI, ⟨x, y, hTO⟩, h1, h2⟩ := st
  exact ⟨k _ (by simp) _ hz, k _ (by simp) _ hTI, ⟨x, y, k _ (by simp) _ hTO⟩, h1.at fun o q => k _ (by simp) o q, h2.at fun o q => k _ (by simp) o q⟩
theorem zm_turn {P : Program} {w : World} {K : PySem.W.Frag} {elts : List Expr} {kk : Nat} {tpos : Pos} {a b z TI TO i1 i2 : Addr} (D : ZipApart z TI TO i1 i2 a b) :
    Turn P w K (.Tuple elts kk tpos) (ItzM K a b) [z, TI, TO, i1, i2] z (ZmSt z TI TO i1 i2 a b) := by
  refine ⟨by simp, fun i h st => zm_obj st, fun i h h' st k => zm_keep st k, ?_, ?_, fun A i s Q E st h => wpAny_pyIter_zip st.1 h⟩
  · rintro X rfl rfl rfl hc i pins s σ H E I hf st ⟨xs, ys, x, y, qx, qy, hx, hy⟩
    have st0 := st
    obtain ⟨hz, hTI, ⟨x0, y0, hTO⟩, h1, h2⟩ := st
    obtain ⟨us, rv, p, _⟩ := I.list qx
    obtain ⟨us2, rv2, p2, _⟩ := I.tuple qy
    obtain ⟨u, hu, ru⟩ := rv.get hx
    obtain ⟨u2, hu2, ru2⟩ := rv2.get hy
    have lt1 : i < us.toArray.size := by rw [List.size_toArray]; exact (List.getElem?_eq_some_iff.mp hu).1
    have lt2 : i < us2.toArray.size := by rw [List.size_toArray]; exact (List.getElem?_eq_some_iff.mp hu2).1
    refine wpAny_pyNext_zipD2_item (zm_sep D) (Draws.list (prog := X.prog) (w := X.w) (A := X.A.in1) (I.ok.hd hc) i1 a D.l1i1 us.toArray) (Draws.tuple (prog := X.prog) (w := X.w) (A := X.A.in1) (I.ok.hd hc) i2 b D.l2i2 us2.toArray) hz hTI hTO ⟨h1, p.isList⟩ ⟨h2, p2⟩ lt1 lt2 fun v1 v2 h' tk g1 g2 z' TO' s1' s2' hT hsz hk => ?_
    have e1 : v1 = u := by
      have g1 : us.toArray[i]? = some v1 := g1
      rw [List.getElem?_toArray, hu] at g1
      exact (Option.some.inj g1).symm
    have e2 : v2 = u2 := by
      have g2 : us2.toArray[i]? = some v2 := g2
      rw [List.getElem?_toArray, hu2] at g2
      exact (Option.some.inj g2).symm
    subst e1 e2
    refine ⟨_, rfl, wpAny_letOwnedTupleGo_zip (s := { s with heap := h', toks := tk }) z' fun h2' z2 sb => ?_⟩
    have hzl : z < s.heap.objs.size := Heap.lt_size hz
    have hT2 := (sb.2 _ (Nat.ne_of_gt hzl)).trans hT
    have keep : ∀ c o, c ∉ [z, TI, TO, i1, i2] → s.heap.get? c = some o → h2'.get? c = some o := fun c o hn q => by
      simp only [List.mem_cons, List.not_mem_nil, or_false, not_or] at hn
      exact (sb.2 c hn.1).trans (hk c o hn.1 hn.2.2.1 hn.2.2.2.1 hn.2.2.2.2 q)
    have I2 : Inv X pins σ (upd H s.heap.objs.size (.tup [x, y])) { s with heap := h2', toks := tk } :=
      I.turnedNew (t' := tk) keep hf (Nat.le_refl _) (show ObjOk X.prog X.w _ h2' s.heap.objs.size (.tup [x, y]) from ⟨by show 2 ≤ sizeLine; decide, [v1, v2], .cons ru (.cons ru2 .nil), ⟨_, hT2, rfl, _, rfl⟩⟩)
    refine ⟨.ref s.heap.objs.size, _, I2, rfl, ⟨_, x, y, rfl, I.hok.fresh (Nat.le_refl _), rfl, fun l hl => by rw [I.list_inj hl qx]; exact hx, fun l hl => by rw [I.tuple_inj hl qy]; exact hy⟩, ?_, fun c hcm => ?_⟩
    · refine ⟨z2, (sb.2 _ D.TIz).trans (hk _ _ D.TIz D.TITO D.TIi1 D.TIi2 hTI), ⟨v1, v2, (sb.2 _ D.TOz).trans TO'⟩, ?_, ?_⟩
      · exact s1'.1.at fun o q => (sb.2 _ D.i1z).trans q
      · exact s2'.1.at fun o q => (sb.2 _ D.i2z).trans q
    · obtain ⟨o, ho, _⟩ := zm_obj st0 c hcm
      rw [upd_ne (Nat.ne_of_lt (Heap.lt_size ho))]
      exact (hf c hcm).1
  · rintro X rfl rfl rfl hc i pins s σ H E I hf ⟨hz, hTI, ⟨x0, y0, hTO⟩, h1, h2⟩ ⟨xs, ys, ⟨qx, qy⟩, ⟨le1, le2⟩, hend⟩
    obtain ⟨us, rv, p, _⟩ := I.list qx
    obtain ⟨us2, rv2, p2, _⟩ := I.tuple qy
    have n1 : us.toArray.size = xs.length := by rw [List.size_toArray, rv.length]
    have n2 : us2.toArray.size = ys.length := by rw [List.size_toArray, rv2.length]
    refine wpAny_pyNext_zipD2_end (zm_sep D) (Draws.list (prog := X.prog) (w := X.w) (A := X.A.in1) (I.ok.hd hc) i1 a D.l1i1 us.toArray) (Draws.tuple (prog := X.prog) (w := X.w) (A := X.A.in1) (I.ok.hd hc) i2 b D.l2i2 us2.toArray) hz hTI hTO ⟨h1, p.isList⟩ ⟨h2, p2⟩ (by rw [n1]; exact le1) (by rw [n2]; exact le2) (by rw [n1, n2]; exact hend) fun h' tk hk => ⟨rfl, ?_⟩
    refine I.turnedL (t' := tk) (ch := [z, TI, TO, i1, i2]) (fun c o hn q => ?_) hf
    simp only [List.mem_cons, List.not_mem_nil, or_false, not_or] at hn
    exact hk c o hn.1 hn.2.2.1 hn.2.2.2.1 hn.2.2.2.2 q
def iZipM (K : PySem.W.Frag) (ta : TA) : TI := fun σ H R => ta σ H fun vs H1 => ∃ a b xs ys, vs = [.ref a, .ref b] ∧ SqL K H1 a xs ∧ SqT K H1 b ys ∧ R (ItzM K a b) H1
theorem pi_zipM {X : Cx} {e e2 : Expr} {ta : TA} {p pos tpos : Pos} {elts : List Expr} {kk : Nat} (K : PySem.W.Frag) (hg : Gl X "zip") (hm : X.mg "zip" = none) (ha : PA X [e, e2] ta) (hK : X.K = K := by rfl)
    (hs : starEach [e, e2] X.env = (false, eval e X.env) :: starEach [e2] X.env := by rfl) (hpl : (backTo pos (starEach [e2] X.env)).any (·.1) = false := by rfl) :
    L2.PI X (.Tuple elts kk tpos) (.Call (.Name "zip" p) [e, e2] [] pos) (iZipM K ta) := by
  subst hK
  refine ⟨fun pins s σ H R I h => ?_⟩
  refine Call_ (ld_blt I hg hm PyProof.Rows.boot_zip (PyProof.Rows.callWith_type1 (thn (ha.run pos pins s σ H _ I h) fun us s1 ⟨vs, H1, I1, r1, a, b, xs, ys, ev, qx, qy, q⟩ => ?_) hs hpl))
  subst ev
  obtain ⟨u1, u2, rfl, ra, rb⟩ := r1.two
  obtain rfl : u1 = Value.ref a := ra
  obtain rfl : u2 = Value.ref b := rb
  obtain ⟨us, rv, p1, _⟩ := I1.list qx
  obtain ⟨us2, rv2, p2, _⟩ := I1.tuple qy
  obtain ⟨oa, hoa, _⟩ := p1.isList
  obtain ⟨ob, hob, _⟩ := id p2
  refine zip_begins2 (begins_list a us.toArray) (begins_tuple b us2.toArray) p1.isList p2 fun h' hz hTI hTO g1 g2 hsz hk => wpAny_pyIter_zip hz ?_
  have I2 : Inv X pins σ H1 { s1 with heap := h' } := I1.kept (t' := s1.toks) hk
  refine ⟨s1.heap.objs.size + 4, _, _, _, H1, rfl, I2, zm_turn (PySem.W.ktu_apart s1.heap.objs.size a b (Heap.lt_size hoa) (Heap.lt_size hob)), ⟨hz, hTI, ⟨_, _, hTO⟩, ⟨_, g1, rfl, rfl⟩, ⟨_, g2, rfl, rfl⟩⟩, fun c hc => ?_, q⟩
  have hle : s1.heap.objs.size ≤ c := by
    simp only [List.mem_cons, List.not_mem_nil, or_false] at hc
    rcases hc with rfl | rfl | rfl | rfl | rfl <;> first | exact Nat.le_refl _ | exact Nat.le_add_right _ _
  exact I1.fpOk hle (I1.hok.fresh hle)
end G
namespace G
open PySem PySem.Spec PyProof.Rows L2 StX
section
variable {W : Wd} {Γ : Gam} {ta : TA} {te tb tc : TE} {tt : TT} {g : TG} {wi : TI} {K : PySem.W.Frag}
theorem evF_lcI {α β : Type} {rα : Rep α} {rβ : Rep β} {vs : List Nat} {k : List β → Prop}
    (h : EvI W wi Γ fun as : List α => as.length ≤ 100000 ∧ ∃ I : Nat → List β → Prop, I 0 [] ∧
      (∀ W', Sub W W' → ∀ (i : Nat) (a : α) (bs : List β), as[i]? = some a → I i bs → LcTurn W' g tt te vs Γ a (I (i + 1) bs) fun y : β => I (i + 1) (bs ++ [y])) ∧ ∀ bs, I as.length bs → k bs) : EvF W (tLc wi g tt te vs) Γ k := by
  intro σ H Q G c
  refine h σ H _ G fun J H1 as e1 it ⟨hl, I, h0, hs, hf⟩ D n => ?_
  have G1 := G.ext e1
  have eD : Ext W H1 (upd H1 D (.lst [])) := Ext.new e1.ok n
  refine turns (J := J) (n := as.length) (fun i H' => Ext W H1 H' ∧ ∃ acc bs, H' D = some (.lst acc) ∧ Dl (den (W.toWc.plus D) H') acc bs ∧ acc.length ≤ i ∧ I i bs) ⟨eD, [], [], upd_same, .nil, Nat.le_refl _, h0⟩ (fun i H' hi ⟨e, _⟩ => it.go i H' e.keep hi) (fun H' ⟨e, _⟩ => it.stop H' e.keep) ?_ ?_
  · rintro i H' v H'' hi ⟨e, acc, bs, hD, hb, ha, q⟩ hy
    obtain ⟨a, ea, nw, _, dD⟩ := it.yld i H' v H'' e.keep (fun a m => W.live H' a e.ok m) hi hy
    have e2 := nw.ext e.ok
    have hD2 := nw.gr hD
    have kq : Kp (W.toWc.plus D) H' H'' := fun b o _ z => nw.gr z
    exact lc_turnN (I := I (i + 1)) (P := fun H' => Ext W H1 H' ∧ ∃ acc bs, H' D = some (.lst acc) ∧ Dl (den (W.toWc.plus D) H') acc bs ∧ acc.length ≤ i + 1 ∧ I (i + 1) bs) (hs _ (Sub.plus (n := n) (o1 := e1.ok) (w1 := G1.wish)) i a bs ea q) G1 (e.trans e2) hD2 (hb.imp fun _ _ d => Rep.mono kq d)
      (dD D _ n hD) (by omega) fun H2 acc2 bs2 e3 hD3 hb2 hl2 q2 => ⟨e3, acc2, bs2, hD3, hb2, by omega, q2⟩
  · rintro H' ⟨e, acc, bs, hD, hb, ha, q⟩
    exact c D H' acc bs (fresh_back e1.ok e1 n) (e1.trans e) hD hb (hf bs q)
theorem evF_lcIF {α β : Type} [rα : Rep α] [rβ : Rep β] {vs : List Nat} {k : List β → Prop} (p : α → Bool) (f : α → β)
    (h : EvI W wi Γ fun as : List α => as.length ≤ 100000 ∧ (∀ W', Sub W W' → ∀ a ∈ as, LcTurn W' g tt te vs Γ a (p a = false) fun y : β => p a = true ∧ y = f a) ∧ k ((as.filter p).map f)) : EvF W (tLc wi g tt te vs) Γ k :=
  evF_lcI fun σ H R G c => h σ H R G fun J H1 as e it ⟨hl, hs, q⟩ => c J H1 as e it ⟨hl, fun i bs => bs = ((as.take i).filter p).map f, by simp, lcF_turns p f hs, fun bs e2 => by rw [e2, List.take_length]; exact q⟩
/-- zip(a list, a tuple) -/
theorem ei_zipM {α β : Type} {rα : Rep α} {rβ : Rep β} {k : List (α × β) → Prop} (hK : W.B.K = K) (h : EvK W te Γ fun as : List α => EvK W tb Γ fun bs : Tl β => k (as.zip bs.xs)) : EvI W (iZipM K (tCons te (tCons tb tNil))) Γ k := by
  subst hK
  refine fun σ H R G c => h σ H _ G fun va H0 as e0 da h1 => h1 σ H0 _ (G.ext e0) fun vb H1 bs e1 ⟨p2, ys, hv2, hp2, hd2⟩ z => ?_
  obtain ⟨p1, xs, hv1, hp1, hd1⟩ := Rep.mono (W := W.toWc) (a := as) e1.keep da
  have hzl : (as.zip bs.xs).length = min xs.length ys.length := by rw [List.length_zip, hd1.length, hd2.length]
  refine ⟨p1, p2, xs, ys, by rw [hv1, hv2], hp1.sq, hp2.sq, c _ H1 _ (e0.trans e1) ⟨?_, ?_, ?_⟩ z⟩
  · intro i H' kp hi
    rw [hzl] at hi
    exact ⟨xs, ys, xs[i]'(by omega), ys[i]'(by omega), (hp1.mono kp).sq, (hp2.mono kp).sq, List.getElem?_eq_getElem (by omega), List.getElem?_eq_getElem (by omega)⟩
  · intro H' kp
    rw [hzl]
    exact ⟨xs, ys, ⟨(hp1.mono kp).sq, (hp2.mono kp).sq⟩, ⟨by omega, by omega⟩, by omega⟩
  · rintro i H' v H'' kp live hi ⟨t, x, y, rfl, ht, rfl, hx, hy⟩
    have hx := hx xs (hp1.mono kp).sq
    have hy := hy ys (hp2.mono kp).sq
    obtain ⟨a, ea, dx⟩ := hd1.at hx
    obtain ⟨b, eb, dy⟩ := hd2.at hy
    have nmt : ¬ W.mu t := fun m => by obtain ⟨o, e⟩ := live t m; rw [ht] at e; cases e
    have nw : Nw H' (upd H' t (.tup [x, y])) := .inr ⟨t, _, ht, rfl⟩
    refine ⟨(a, b), by rw [List.getElem?_zip_eq_some]; exact ⟨ea, eb⟩, nw, ⟨t, x, y, rfl, ⟨nmt, upd_same⟩, Rep.mono nw.kp (Rep.mono kp dx), Rep.mono nw.kp (Rep.mono kp dy)⟩, fun D o nD hD => ?_⟩
    have kk : ∀ {α : Type} [Rep α] {v : V} {a : α}, den W.toWc H1 v a → den (W.toWc.plus D) (upd H' t (.tup [x, y])) v a := fun d =>
      Rep.mono (W := W.toWc.plus D) nw.kp (Rep.mono (W := W.toWc.plus D) (fun b o mb z => kp b o (fun q => mb (.inl q)) z) (Rep.grow D nD d))
    exact ⟨t, x, y, rfl, ⟨fun m => m.elim nmt fun e => (by rw [e, hD] at ht; cases ht), upd_same⟩, kk dx, kk dy⟩
end
end G
namespace G
open PySem PySem.Spec PyProof.Rows L2 StX
/-- sum of a tuple of ints -/
def rSumT (K : PySem.W.Frag) : List V → Hp → VK → Prop := fun vs H Q => ∃ (a : Addr) (ns : List Int), vs = [V.ref a] ∧ SqT K H a (ns.map V.int) ∧ Q (.int ns.sum) H
theorem cr_sumT {X : Cx} (K : PySem.W.Frag) (hc : X.calm = true) (hK : X.K = K := by rfl) : CallR X (.builtin "sum") (rSumT K) := by
  subst hK
  rintro pins s σ H vs us Q I r ⟨a, ns, rfl, hs, q⟩
  obtain ⟨its, rv, p, _⟩ := I.tuple hs
  have hi := rv.ints
  obtain ⟨xs, e⟩ := hi.allInts.items
  have p' : s.heap.IsTuple a (intItems xs) := by rw [← e]; exact p
  have hn : (xs.toList.map (·.1)) = ns := by
    have h1 : numsOf (intItems xs).toList = ns := by rw [← e]; exact hi.numsOf
    exact (nums_intItems (xs := xs)).symm.trans h1
  rw [Vals.ref1 r]
  refine PySem.W.ktm_sumG (I.ok.hd hc) p' fun h' tk t' hk => ⟨.int ns.sum, H, I.kept hk, ⟨t', ?_⟩, q⟩
  rw [preSum_eq, List.take_of_length_le (by simp), hn]
theorem ev_sumT {W : Wd} {Γ : Gam} {te : TE} {K : PySem.W.Frag} {k : Int → Prop} (hK : W.B.K = K) (h : EvK W te Γ fun as : Tl Int => k as.xs.sum) : EvK W (tCB (rSumT K) (tCons te tNil)) Γ k := by
  subst hK
  refine fun σ H Q G c => h σ H _ G fun v H1 as e1 ⟨p, xs, hv, hp, hd⟩ z => ⟨p, as.xs, by rw [hv], ?_, c _ H1 _ e1 rfl z⟩
  have : xs = as.xs.map V.int := Dl.ints hd
  rw [← this]
  exact hp.sq
end G
namespace G
open PySem PySem.Spec PyProof.Rows L2 StX
theorem wUp_all {ns as : List Int} {m : Int} (hl : ns.length = as.length) (h : ∀ a ∈ as, a ≤ m) : wUp ns as m = ns.sum := by
  unfold wUp
  have e1 : ((as.zip ns).filter fun q => decide (q.1 ≤ m)) = as.zip ns := List.filter_eq_self.mpr fun q hq => decide_eq_true (h q.1 (List.of_mem_zip hq).1)
  rw [e1, ← List.unzip_snd, List.unzip_zip (by omega)]
/-- the greatest of a list -/
theorem has_max : ∀ {as : List Int}, 0 < as.length → ∃ m ∈ as, ∀ a ∈ as, a ≤ m
  | [], h => absurd h (by decide)
  | [a], _ => ⟨a, List.mem_cons_self, fun b hb => by rw [List.mem_singleton.mp hb]; exact Int.le_refl _⟩
  | a :: b :: r, _ => by
    obtain ⟨m, hm, hx⟩ := has_max (as := b :: r) (by simp)
    by_cases h : a ≤ m
    · exact ⟨m, List.mem_cons_of_mem _ hm, fun c hc => (List.mem_cons.mp hc).elim (fun e => e ▸ h) (hx c)⟩
    · exact ⟨a, List.mem_cons_self, fun c hc => (List.mem_cons.mp hc).elim (fun e => e ▸ Int.le_refl _) fun hc => by have := hx c hc; omega⟩
theorem wg_some {ns as : List Int} (hl : ns.length = as.length) (h0 : 0 < as.length) (hs : 0 ≤ ns.sum) : 0 < (as.filter fun a => decide (ns.sum ≤ 2 * wUp ns as a)).length := by
  obtain ⟨m, hm, hx⟩ := has_max h0
  refine List.length_pos_of_mem (List.mem_filter.mpr ⟨hm, decide_eq_true ?_⟩)
  rw [wUp_all hl hx]
  omega
end G
namespace G
theorem sum_pos_len {ns : List Int} (h : 0 < ns.sum) : 0 < ns.length := by
  cases ns with
  | nil => exact absurd h (by decide)
  | cons a r => exact Nat.succ_pos _
end G
namespace G
open PySem PySem.Spec PyProof.Rows L2 StX
/-- list(x), x a list -/
theorem evF_listOf {α : Type} {rα : Rep α} {W : Wd} {Γ : Gam} {te : TE} {K : PySem.W.Frag} {k : List α → Prop} (hK : W.B.K = K) (h : EvK W te Γ fun as : List α => k as) :
    EvF W (tCB (fun xs H Q => ∃ p ys, xs = [V.ref p] ∧ (SqL K H p ys ∨ SqT K H p ys) ∧ ∀ l, H l = none → Q (V.ref l) (upd H l (HO.lst ys))) (tCons te tNil)) Γ k := by
  subst hK
  refine fun σ H Q G c => h σ H _ G fun v H1 as e1 ⟨p, xs, hv, hp, hd⟩ z => ⟨p, xs, by rw [hv], .inl hp.sq, fun l hl => ?_⟩
  have e2 := Ext.new (o := .lst xs) e1.ok hl
  refine c l _ xs as (fresh_back e1.ok e1 hl) (e1.trans e2) upd_same (hd.imp fun _ _ d => ?_) z
  exact Rep.mono (W := W.toWc.plus l) (fun b o m q => e2.keep b o (fun z => m (.inl z)) q) (Rep.grow l hl d)
theorem sum_nn : ∀ {ns : List Int}, (∀ w ∈ ns, 0 ≤ w) → 0 ≤ ns.sum
  | [], _ => Int.le_refl _
  | a :: r, h => by
    have h1 := h a List.mem_cons_self
    have h2 := sum_nn (ns := r) fun w hw => h w (List.mem_cons_of_mem _ hw)
    rw [List.sum_cons]
    omega
theorem sum_some : ∀ {ns : List Int} {a : Int}, (∀ w ∈ ns, 0 ≤ w) → a ∈ ns → a ≤ ns.sum
  | [], _, _, h => by cases h
  | b :: r, a, h, ha => by
    have h2 := sum_nn (ns := r) fun w hw => h w (List.mem_cons_of_mem _ hw)
    have h1 := h b List.mem_cons_self
    rw [List.sum_cons]
    rcases List.mem_cons.mp ha with rfl | ha
    · omega
    · have := sum_some (ns := r) (fun w hw => h w (List.mem_cons_of_mem _ hw)) ha
      omega
theorem zip_take_sum {as ns : List Int} {p : Int → Bool} {i : Nat} {a n : Int} (h1 : as[i]? = some a) (h2 : ns[i]? = some n) :
    ((((as.zip ns).take (i + 1)).filter fun q => p q.1).map fun q => q.2).sum = ((((as.zip ns).take i).filter fun q => p q.1).map fun q => q.2).sum + (if p a = true then n else 0) := by
  have hz : (as.zip ns)[i]? = some (a, n) := by rw [List.getElem?_zip_eq_some]; exact ⟨h1, h2⟩
  rw [List.take_succ, hz, List.filter_append, List.map_append, List.sum_append]
  cases hp : p a with
  | true =>
    rw [if_pos rfl]
    have : List.filter (fun q : Int × Int => p q.1) (some (a, n)).toList = [(a, n)] := List.filter_cons_of_pos hp
    rw [this]
    simp
  | false =>
    rw [if_neg (by decide)]
    have : List.filter (fun q : Int × Int => p q.1) (some (a, n)).toList = [] := List.filter_cons_of_neg (by rw [hp]; decide)
    rw [this]
    rfl
end G
namespace G
open PySem PySem.Spec PyProof.Rows L2 StX
def ab : List Str := ["a", "b"]
end G
namespace G
open PySem PySem.Spec PyProof.Rows L2 StX
theorem wUp_is {ns as : List Int} {m : Int} : wUp ns as m = ((((as.zip ns).take (as.zip ns).length).filter fun q => (fun x : Int => decide (x ≤ m)) q.1).map fun q => q.2).sum := by rw [List.take_length]; rfl
end G
set_option Elab.async false
set_option linter.all false
set_option maxRecDepth 100000
set_option maxHeartbeats 2000000
namespace G
open PySem PySem.Spec PyProof.Rows L2 StX
structure Tt where
  r : Ru
def trN : RK → Str
  | .leaf => "leaf"
  | .rank => "rank"
  | .trim => "trim"
  | .weigh => "weigh"
def trX (W : Wc) (H : Hp) (x : V) (k : RK) (lb : Str) (ns : List Int) : Prop := match k with
  | .leaf => x = .str lb
  | .rank => ∃ n, ns = [n] ∧ x = .int n
  | .trim => ∃ n, ns = [n] ∧ x = .int n
  | .weigh => ∃ q, x = .ref q ∧ Lq W H q (ns.map V.int)
theorem trX_mono {W : Wc} {H H' : Hp} {x : V} {k : RK} {lb : Str} {ns : List Int} (e : Kp W H H') (h : trX W H x k lb ns) : trX W H' x k lb ns := by
  cases k with
  | weigh => obtain ⟨q, h1, h2⟩ := h; exact ⟨q, h1, h2.mono e⟩
  | _ => exact h
theorem trX_grow {W : Wc} {H : Hp} {x : V} {k : RK} {lb : Str} {ns : List Int} (D : Addr) (n : H D = none) (h : trX W H x k lb ns) : trX (W.plus D) H x k lb ns := by
  cases k with
  | weigh => obtain ⟨q, h1, h2⟩ := h; exact ⟨q, h1, h2.grow D n⟩
  | _ => exact h
theorem trX_shrink {W : Wc} {H : Hp} {x : V} {k : RK} {lb : Str} {ns : List Int} (D : Addr) (h : trX (W.plus D) H x k lb ns) : trX W H x k lb ns := by
  cases k with
  | weigh => obtain ⟨q, h1, h2⟩ := h; exact ⟨q, h1, h2.shrink D⟩
  | _ => exact h
mutual
def trD (W : Wc) (H : Hp) (v : V) : Ru → Prop
  | .mk k lb ns ps rk => ∃ p x lp vs, v = .ref p ∧ Tq W H p [.str (trN k), x, .ref lp] ∧ trX W H x k lb ns ∧ Lq W H lp vs ∧ trL W H vs ps
def trL (W : Wc) (H : Hp) (vs : List V) : List Ru → Prop
  | [] => vs = []
  | p :: ps => ∃ v r, vs = v :: r ∧ trD W H v p ∧ trL W H r ps
end
mutual
theorem trD_mono {W : Wc} {H H' : Hp} (e : Kp W H H') : ∀ (v : V) (r : Ru), trD W H v r → trD W H' v r
  | v, .mk k lb ns ps rk, h => by
    unfold trD at h ⊢
    obtain ⟨p, x, lp, vs, hv, h1, h2, h3, h4⟩ := h
    exact ⟨p, x, lp, vs, hv, h1.mono e, trX_mono e h2, h3.mono e, trL_mono e _ _ h4⟩
theorem trL_mono {W : Wc} {H H' : Hp} (e : Kp W H H') : ∀ (vs : List V) (r : List Ru), trL W H vs r → trL W H' vs r
  | vs, [], h => by unfold trL at h ⊢; exact h
  | vs, p :: ps, h => by
    unfold trL at h ⊢
    obtain ⟨v, r, hv, h1, h2⟩ := h
    exact ⟨v, r, hv, trD_mono e _ _ h1, trL_mono e _ _ h2⟩
end
mutual
theorem trD_grow {W : Wc} {H : Hp} (D : Addr) (n : H D = none) : ∀ (v : V) (r : Ru), trD W H v r → trD (W.plus D) H v r
  | v, .mk k lb ns ps rk, h => by
    unfold trD at h ⊢
    obtain ⟨p, x, lp, vs, hv, h1, h2, h3, h4⟩ := h
    exact ⟨p, x, lp, vs, hv, h1.grow D n, trX_grow D n h2, h3.grow D n, trL_grow D n _ _ h4⟩
theorem trL_grow {W : Wc} {H : Hp} (D : Addr) (n : H D = none) : ∀ (vs : List V) (r : List Ru), trL W H vs r → trL (W.plus D) H vs r
  | vs, [], h => by unfold trL at h ⊢; exact h
  | vs, p :: ps, h => by
    unfold trL at h ⊢
    obtain ⟨v, r, hv, h1, h2⟩ := h
    exact ⟨v, r, hv, trD_grow D n _ _ h1, trL_grow D n _ _ h2⟩
end
mutual
theorem trD_shrink {W : Wc} {H : Hp} (D : Addr) : ∀ (v : V) (r : Ru), trD (W.plus D) H v r → trD W H v r
  | v, .mk k lb ns ps rk, h => by
    unfold trD at h ⊢
    obtain ⟨p, x, lp, vs, hv, h1, h2, h3, h4⟩ := h
    exact ⟨p, x, lp, vs, hv, h1.shrink D, trX_shrink D h2, h3.shrink D, trL_shrink D _ _ h4⟩
theorem trL_shrink {W : Wc} {H : Hp} (D : Addr) : ∀ (vs : List V) (r : List Ru), trL (W.plus D) H vs r → trL W H vs r
  | vs, [], h => by unfold trL at h ⊢; exact h
  | vs, p :: ps, h => by
    unfold trL at h ⊢
    obtain ⟨v, r, hv, h1, h2⟩ := h
    exact ⟨v, r, hv, trD_shrink D _ _ h1, trL_shrink D _ _ h2⟩
end
instance : Rep Tt := ⟨fun W H v t => trD W H v t.r, fun e h => trD_mono e _ _ h, fun D n h => trD_grow D n _ _ h, fun D h => trD_shrink D _ _ h⟩
theorem trL_dl {W : Wc} {H : Hp} : ∀ {vs : List V} {ps : List Ru}, trL W H vs ps ↔ Dl (den W H) vs (ps.map Tt.mk)
  | vs, [] => by
    unfold trL
    constructor
    · rintro rfl; exact .nil
    · intro h; cases h; rfl
  | vs, p :: ps => by
    unfold trL
    constructor
    · rintro ⟨v, r, rfl, h1, h2⟩
      exact .cons h1 (trL_dl.mp h2)
    · intro h
      cases h with
      | cons h1 h2 => exact ⟨_, _, rfl, h1, trL_dl.mpr h2⟩
theorem tr_den {W : Wc} {H : Hp} {v : V} {t : Tt} : den W H v t ↔ ∃ p x lp vs, v = .ref p ∧ Tq W H p [.str (trN t.r.k), x, .ref lp] ∧ trX W H x t.r.k t.r.lb t.r.ns ∧ Lq W H lp vs ∧ Dl (den W H) vs (t.r.ps.map Tt.mk) := by
  obtain ⟨k, lb, ns, ps, rk⟩ := t
  show trD W H v _ ↔ _
  unfold trD
  constructor
  · rintro ⟨p, x, lp, vs, h1, h2, h3, h4, h5⟩
    exact ⟨p, x, lp, vs, h1, h2, h3, h4, trL_dl.mp h5⟩
  · rintro ⟨p, x, lp, vs, h1, h2, h3, h4, h5⟩
    exact ⟨p, x, lp, vs, h1, h2, h3, h4, trL_dl.mpr h5⟩
section
variable {W : Wd} {Γ : Gam} {te ta tb tc : TE} {K : PySem.W.Frag}
theorem ev_tr0 {k : Str → Prop} (hK : W.B.K = K) (h : EvK W te Γ fun t : Tt => k (trN t.r.k)) : EvK W (tOp (rIxT K) te (tC (.int 0))) Γ k := by
  subst hK
  refine fun σ H Q E c => h σ H _ E fun v H1 t e1 d q => ?_
  obtain ⟨p, x, lp, vs, hv, s, hx, hl, hd⟩ := tr_den.mp d
  exact ⟨p, _, 0, _, hv, rfl, s.sq, rfl, c _ H1 _ e1 rfl q⟩
theorem ev_tr2 {k : List Tt → Prop} (hK : W.B.K = K) (h : EvK W te Γ fun t : Tt => k (t.r.ps.map Tt.mk)) : EvK W (tOp (rIxT K) te (tC (.int 2))) Γ k := by
  subst hK
  refine fun σ H Q E c => h σ H _ E fun v H1 t e1 d q => ?_
  obtain ⟨p, x, lp, vs, hv, s, hx, hl, hd⟩ := tr_den.mp d
  exact ⟨p, _, 2, _, hv, rfl, s.sq, rfl, c _ H1 _ e1 ⟨lp, vs, rfl, hl, hd⟩ q⟩
theorem ev_tr1w {k : Str → Prop} (hK : W.B.K = K) (h : EvK W te Γ fun t : Tt => t.r.k = .leaf ∧ k t.r.lb) : EvK W (tOp (rIxT K) te (tC (.int 1))) Γ k := by
  subst hK
  refine fun σ H Q E c => h σ H _ E fun v H1 t e1 d ⟨hk, q⟩ => ?_
  obtain ⟨p, x, lp, vs, hv, s, hx, hl, hd⟩ := tr_den.mp d
  rw [hk] at hx
  exact ⟨p, _, 1, _, hv, rfl, s.sq, rfl, c _ H1 _ e1 hx q⟩
theorem ev_tr1n {k : Int → Prop} (hK : W.B.K = K) (h : EvK W te Γ fun t : Tt => (t.r.k = .rank ∨ t.r.k = .trim) ∧ ∃ n, t.r.ns = [n] ∧ k n) : EvK W (tOp (rIxT K) te (tC (.int 1))) Γ k := by
  subst hK
  refine fun σ H Q E c => h σ H _ E fun v H1 t e1 d ⟨hk, n, hn, q⟩ => ?_
  obtain ⟨p, x, lp, vs, hv, s, hx, hl, hd⟩ := tr_den.mp d
  have hx' : x = .int n := by
    rcases hk with hk | hk <;> rw [hk, hn] at hx <;> obtain ⟨m, h1, h2⟩ := hx <;> cases h1 <;> exact h2
  exact ⟨p, _, 1, _, hv, rfl, s.sq, rfl, c _ H1 _ e1 hx' q⟩
theorem ev_tr1l {k : List Int → Prop} (hK : W.B.K = K) (h : EvK W te Γ fun t : Tt => t.r.k = .weigh ∧ k t.r.ns) : EvK W (tOp (rIxT K) te (tC (.int 1))) Γ k := by
  subst hK
  refine fun σ H Q E c => h σ H _ E fun v H1 t e1 d ⟨hk, q⟩ => ?_
  obtain ⟨p, x, lp, vs, hv, s, hx, hl, hd⟩ := tr_den.mp d
  rw [hk] at hx
  obtain ⟨a, h1, h2⟩ := hx
  exact ⟨p, _, 1, _, hv, rfl, s.sq, rfl, c _ H1 _ e1 ⟨a, _, h1, h2, Dl.of_ints _⟩ q⟩
theorem ev_mkt {α : Type} {rα : Rep α} {k : Tt → Prop} (h : EvK W ta Γ fun s : Str => EvK W tb Γ fun b : α => EvK W tc Γ fun ts : List Tt => ∃ r : Ru, s = trN r.k ∧ ts = r.ps.map Tt.mk ∧ (∀ (W : Wc) H x, den W H x b → trX W H x r.k r.lb r.ns) ∧ k ⟨r⟩) : EvK W (tTup (tCons ta (tCons tb (tCons tc tNil)))) Γ k := fun σ H Q E c =>
  ev_tup3 (k := fun t3 : T3 Str α (List Tt) => ∃ r : Ru, t3.a = trN r.k ∧ t3.c = r.ps.map Tt.mk ∧ (∀ (W : Wc) H x, den W H x t3.b → trX W H x r.k r.lb r.ns) ∧ k ⟨r⟩) h σ H Q E fun v H1 t3 e d ⟨r, h1, h2, h3, q⟩ => c v H1 ⟨r⟩ e (by
    obtain ⟨p, x, y, z, hv, s, d1, d2, lp, vs, hz, hl, hd⟩ := d
    have d1 : x = .str t3.a := d1
    rw [d1, h1, hz] at s
    rw [h2] at hd
    exact tr_den.mpr ⟨p, y, lp, vs, hv, s, h3 _ _ _ d2, hl, hd⟩) q
end
theorem trX_leaf {lb : Str} (W : Wc) (H : Hp) (x : V) (h : den W H x lb) : trX W H x .leaf lb [] := h
theorem trX_rank {lb : Str} {n : Int} (W : Wc) (H : Hp) (x : V) (h : den W H x n) : trX W H x .rank lb [n] := ⟨n, rfl, h⟩
theorem trX_trim {lb : Str} {n : Int} (W : Wc) (H : Hp) (x : V) (h : den W H x n) : trX W H x .trim lb [n] := ⟨n, rfl, h⟩
theorem trX_weigh {lb : Str} {ns : List Int} (W : Wc) (H : Hp) (x : V) (h : den W H x ns) : trX W H x .weigh lb ns := by
  obtain ⟨q, vs, hv, hl, hd⟩ := h
  have : vs = ns.map V.int := hd.ints
  exact ⟨q, hv, this ▸ hl⟩
def nodeU (k : RK) (ns : List Int) (ps : List Ru) : Ru := .mk k (trN k) ns ps (decide (k ≠ .trim) && ps.all Ru.rk)
mutual
def wfR : Ru → Prop
  | .mk k lb ns ps rk => (k = .leaf → ns = [] ∧ ps = [] ∧ rk = true) ∧ (k ≠ .leaf → lb = trN k ∧ rk = (decide (k ≠ .trim) && ps.all Ru.rk)) ∧ wfL ps
def wfL : List Ru → Prop
  | [] => True
  | p :: ps => wfR p ∧ wfL ps
end
theorem wfL_mem {p : Ru} : ∀ {ps : List Ru}, wfL ps → p ∈ ps → wfR p
  | [], _, h => by cases h
  | q :: ps, ho, h => by
    have ho : wfR q ∧ wfL ps := ho
    rcases List.mem_cons.mp h with rfl | h
    · exact ho.1
    · exact wfL_mem ho.2 h
theorem wfL_of : ∀ {ps : List Ru}, (∀ p ∈ ps, wfR p) → wfL ps
  | [], _ => trivial
  | q :: ps, h => ⟨h q List.mem_cons_self, wfL_of fun p hp => h p (List.mem_cons_of_mem _ hp)⟩
theorem wf_leaf {r : Ru} (h : wfR r) (hk : r.k = .leaf) : r = lfU r.lb := by
  obtain ⟨k, lb, ns, ps, rk⟩ := r
  unfold wfR at h
  obtain ⟨h1, h2, h3⟩ := h.1 hk
  cases hk
  subst h1 h2 h3
  rfl
theorem wf_node {r : Ru} (h : wfR r) (hk : r.k ≠ .leaf) : r = nodeU r.k r.ns r.ps ∧ wfL r.ps := by
  obtain ⟨k, lb, ns, ps, rk⟩ := r
  unfold wfR at h
  obtain ⟨h1, h2⟩ := h.2.1 hk
  subst h1 h2
  exact ⟨rfl, h.2.2⟩
/-- a rule that a tree may stand for -/
structure TrOk (d : Nat) (r : Ru) : Prop where
  wf : wfR r
  ok : okR r
  kds : kdsR [.leaf, .rank, .trim, .weigh] r
  dep : depR r ≤ d
theorem depRL_le {d : Nat} : ∀ {ps : List Ru}, (∀ p ∈ ps, depR p ≤ d) → depRL ps ≤ d
  | [], _ => Nat.zero_le _
  | q :: ps, h => by
    show max (depR q) (depRL ps) ≤ d
    exact Nat.max_le.mpr ⟨h q List.mem_cons_self, depRL_le fun p hp => h p (List.mem_cons_of_mem _ hp)⟩
theorem trok_leaf (w : Str) : TrOk 0 (lfU w) :=
  ⟨by unfold lfU wfR; exact ⟨fun _ => ⟨rfl, rfl, rfl⟩, fun h => absurd rfl h, trivial⟩, okR_node.mpr ⟨trivial, by show 0 ≤ 100; decide, trivial⟩, kdsR_node.mpr ⟨by show RK.leaf ∈ _; decide, trivial⟩, Nat.le_refl _⟩
theorem trok_node {d : Nat} {k : RK} {ns : List Int} {ps : List Ru} (hk : k ≠ .leaf) (hn : numOk k ns ps.length) (hl : ps.length ≤ 100) (h : ∀ p ∈ ps, TrOk d p) : TrOk (d + 1) (nodeU k ns ps) :=
  ⟨by unfold nodeU wfR; exact ⟨fun h => absurd h hk, fun _ => ⟨rfl, rfl⟩, wfL_of fun p hp => (h p hp).wf⟩, okR_node.mpr ⟨hn, hl, okRL_of fun p hp => (h p hp).ok⟩,
   kdsR_node.mpr ⟨by show k ∈ _; cases k <;> simp, kdsRL_of fun p hp => (h p hp).kds⟩, by
    rw [depR_node (r := nodeU k ns ps) hk]
    exact Nat.succ_le_succ (depRL_le fun p hp => (h p hp).dep)⟩
theorem TrOk.le {d d' : Nat} {r : Ru} (h : TrOk d r) (l : d ≤ d') : TrOk d' r := ⟨h.wf, h.ok, h.kds, Nat.le_trans h.dep l⟩
theorem TrOk.part {d : Nat} {r : Ru} (h : TrOk (d + 1) r) (hk : r.k ≠ .leaf) : ∀ p ∈ r.ps, TrOk d p := fun p hp =>
  ⟨wfL_mem (wf_node h.wf hk).2 hp, okRL_mem (okR_node.mp h.ok).2.2 hp, kdsRL_mem (kdsR_node.mp h.kds).2 hp, by
    have h1 := h.dep
    rw [depR_node hk] at h1
    have := depR_mem hp
    omega⟩
theorem namesF_nodeU {k : RK} {ns : List Int} {ps : List Ru} (hk : k ≠ .leaf) : namesF (nodeU k ns ps) = namesL ps := by
  rw [namesF_node (r := nodeU k ns ps) hk, namesL_flat]
  rfl
theorem namesL_app (a b : List Ru) : namesL (a ++ b) = namesL a ++ namesL b := by
  rw [namesL_flat, namesL_flat, namesL_flat, List.flatMap_append]
end G
namespace G
open PySem PySem.Spec PyProof.Rows L2 StX
section
variable {W : Wd} {Γ : Gam} {te tb : TE} {K : PySem.W.Frag}
/-- xs[a:] -/
theorem ev_fromN {α : Type} {rα : Rep α} {k : List α → Prop} (hK : W.B.K = K) (h : EvK W te Γ fun as : List α => EvK W tb Γ fun n : Int => (0 ≤ n ∧ n ≤ as.length) ∧ k (as.drop n.toNat)) : EvK W (tSl (rSlL K) te (tPart tb) tNoPart) Γ k := by
  subst hK
  refine fun σ H Q G c => h σ H _ G fun v H1 as e1 d1 h1 => ?_
  refine h1 σ H1 _ (G.ext e1) fun u H2 n e2 d2 ⟨⟨hn, hm⟩, z⟩ => ⟨n, d2, ?_⟩
  obtain ⟨p, vs, hv, hp, hd⟩ := Rep.mono (W := W.toWc) (a := as) e2.keep d1
  refine ⟨p, vs, hv, hp.sq, fun q hq => ?_⟩
  obtain ⟨n', rfl⟩ : ∃ j : Nat, n = j := ⟨n.toNat, by omega⟩
  have hvl := hd.length
  have e : cutV vs (some (n' : Int)) none = vs.drop n' := by
    unfold cutV
    rw [sIx_nn, Nat.min_eq_left (by omega), show HT.sIx vs.length vs.length none = vs.length from rfl]
    exact List.take_of_length_le (by rw [List.length_drop]; omega)
  rw [e]
  rw [Int.toNat_natCast] at z
  have e4 := Ext.new (o := .lst (vs.drop n')) e2.ok hq
  exact c (.ref q) _ _ ((e1.trans e2).trans e4) ⟨q, _, rfl, Lq.new (fresh_mu e2.ok hq) upd_same, (dl_drop n' hd).imp fun _ _ d => Rep.mono e4.keep d⟩ z
end
end G
set_option Elab.async false
set_option linter.all false
set_option maxRecDepth 100000
set_option maxHeartbeats 2000000
namespace G
open PySem
/-- each of a list at most its fellow -/
def LeL : List Int → List Int → Prop
  | [], [] => True
  | a :: as, b :: bs => a ≤ b ∧ LeL as bs
  | _, _ => False
theorem LeL.length : ∀ {as bs : List Int}, LeL as bs → as.length = bs.length
  | [], [], _ => rfl
  | a :: as, b :: bs, h => congrArg (· + 1) (LeL.length h.2)
  | [], b :: bs, h => h.elim
  | a :: as, [], h => h.elim
theorem LeL.drop : ∀ (n : Nat) {as bs : List Int}, LeL as bs → LeL (as.drop n) (bs.drop n)
  | 0, _, _, h => h
  | n + 1, [], [], h => trivial
  | n + 1, a :: as, b :: bs, h => LeL.drop n h.2
  | n + 1, [], b :: bs, h => h.elim
  | n + 1, a :: as, [], h => h.elim
theorem LeL.take : ∀ (n : Nat) {as bs : List Int}, LeL as bs → LeL (as.take n) (bs.take n)
  | 0, _, _, h => trivial
  | n + 1, [], [], h => trivial
  | n + 1, a :: as, b :: bs, h => ⟨h.1, LeL.take n h.2⟩
  | n + 1, [], b :: bs, h => h.elim
  | n + 1, a :: as, [], h => h.elim
theorem LeL.sum : ∀ {as bs : List Int}, LeL as bs → as.sum ≤ bs.sum
  | [], [], _ => Int.le_refl _
  | a :: as, b :: bs, h => by
    rw [List.sum_cons, List.sum_cons]
    have := LeL.sum h.2
    have := h.1
    omega
  | [], b :: bs, h => h.elim
  | a :: as, [], h => h.elim
theorem LeL.at_ : ∀ {as bs : List Int} (i : Nat), LeL as bs → as.getD i 0 ≤ bs.getD i 0
  | [], [], _, _ => Int.le_refl _
  | a :: as, b :: bs, 0, h => h.1
  | a :: as, b :: bs, i + 1, h => by
    have := LeL.at_ i h.2
    simpa using this
  | [], b :: bs, _, h => h.elim
  | a :: as, [], _, h => h.elim
theorem names_part {r p : Ru} {n : Str} (hk : r.k ≠ .leaf) (hp : p ∈ r.ps) (hn : n ∈ namesF p) : n ∈ namesF r := by
  rw [namesF_node hk]
  exact List.mem_flatMap.mpr ⟨p, hp, hn⟩
end G
set_option Elab.async false
set_option linter.all false
set_option maxRecDepth 100000
set_option maxHeartbeats 2000000
namespace G
open PySem PySem.Spec PyProof.Rows L2 StX
inductive Rw where
  | n (a b : Int)
  | l (a : Int) (bs : List Int)
def Rw.a : Rw → Int
  | .n a _ => a
  | .l a _ => a
def rwX (W : Wc) (H : Hp) (x : V) : Rw → Prop
  | .n _ b => x = .int b
  | .l _ bs => ∃ q, x = .ref q ∧ Lq W H q (bs.map V.int)
instance : Rep Rw := ⟨fun W H v r => ∃ p x, v = .ref p ∧ Tq W H p [.int r.a, x] ∧ rwX W H x r, fun {W H H' v r} e h => by
    obtain ⟨p, x, hv, h1, h2⟩ := h
    refine ⟨p, x, hv, h1.mono e, ?_⟩
    cases r with
    | n a b => exact h2
    | l a bs => obtain ⟨q, h3, h4⟩ := h2; exact ⟨q, h3, h4.mono e⟩, fun {W H v r} D n h => by
    obtain ⟨p, x, hv, h1, h2⟩ := h
    refine ⟨p, x, hv, h1.grow D n, ?_⟩
    cases r with
    | n a b => exact h2
    | l a bs => obtain ⟨q, h3, h4⟩ := h2; exact ⟨q, h3, h4.grow D n⟩, fun {W H v r} D h => by
    obtain ⟨p, x, hv, h1, h2⟩ := h
    refine ⟨p, x, hv, h1.shrink D, ?_⟩
    cases r with
    | n a b => exact h2
    | l a bs => obtain ⟨q, h3, h4⟩ := h2; exact ⟨q, h3, h4.shrink D⟩⟩
end G
namespace G
open PySem PySem.Spec PyProof.Rows L2 StX
end G
namespace G
open PySem PySem.Spec PyProof.Rows L2 StX
end G
namespace G
open PySem PySem.Spec PyProof.Rows L2 StX
end G
namespace G
open PySem PySem.Spec PyProof.Rows L2 StX
end G
set_option Elab.async false
set_option linter.all false
set_option maxRecDepth 100000
set_option maxHeartbeats 2000000
namespace G
open PySem PySem.Spec PyProof.Rows L2 StX
end G
namespace G
open PySem PySem.Spec PyProof.Rows L2 StX
mutual
/-- the numbers of a rule are small -/
def smR : Ru → Prop
  | .mk _ _ ns ps _ => (ns.length ≤ 100 ∧ ∀ n ∈ ns, 0 ≤ n ∧ n ≤ 1000) ∧ smL ps
def smL : List Ru → Prop
  | [] => True
  | p :: ps => smR p ∧ smL ps
end
theorem smL_of : ∀ {ps : List Ru}, (∀ p ∈ ps, smR p) → smL ps
  | [], _ => trivial
  | q :: ps, h => ⟨h q List.mem_cons_self, smL_of fun p hp => h p (List.mem_cons_of_mem _ hp)⟩
theorem smR_node {r : Ru} : smR r ↔ (r.ns.length ≤ 100 ∧ ∀ n ∈ r.ns, 0 ≤ n ∧ n ≤ 1000) ∧ smL r.ps := by
  obtain ⟨k, lb, ns, ps, rk⟩ := r
  show smR (.mk k lb ns ps rk) ↔ _
  unfold smR
  exact Iff.rfl
end G
namespace G
open PySem PySem.Spec PyProof.Rows L2 StX
end G
namespace G
open PySem PySem.Spec PyProof.Rows L2 StX
end G
namespace G
open PySem PySem.Spec PyProof.Rows L2 StX
end G
namespace G
open PySem PySem.Spec PyProof.Rows L2 StX
end G
namespace G
open PySem PySem.Spec PyProof.Rows L2 StX
def cl (s : Str) : List Nat := s.cps.toList
end G
namespace G
open PySem PySem.Spec PyProof.Rows L2 StX
end G
set_option Elab.async false
set_option linter.all false
set_option maxRecDepth 100000
set_option maxHeartbeats 2000000
namespace G
open PySem PySem.Spec PyProof.Rows L2 StX
end G
namespace G
open PySem PySem.Spec PyProof.Rows L2 StX
structure RackT (B : Bs) : Prop where
  cl : L2.Cls B.K (B.cl .Rack)
  ng : NoAttr B.K (B.cl .Rack) "_gauges"
  nf : NoAttr B.K (B.cl .Rack) "_faults"
structure Rp where
  gs : List Gau
structure Rk where
  gs : List Gau
  fl : List (List Str)
instance : Rep Rp :=
  ⟨fun W H v r => ∃ a dx w, v = .ref a ∧ ¬ W.mu a ∧ H a = some (.ins (W.B.cl .Rack) dx [("_gauges", w)]) ∧ den W H w r.gs ∧ RackT W.B,
   fun e ⟨a, dx, w, hv, m, h, h1, h2⟩ => ⟨a, dx, w, hv, m, e _ _ m h, Rep.mono e h1, h2⟩,
   fun D n ⟨a, dx, w, hv, m, h, h1, h2⟩ => ⟨a, dx, w, hv, mu_grow n m h, h, Rep.grow D n h1, h2⟩,
   fun D ⟨a, dx, w, hv, m, h, h1, h2⟩ => ⟨a, dx, w, hv, fun z => m (.inl z), h, Rep.shrink D h1, h2⟩⟩
instance : Rep Rk :=
  ⟨fun W H v r => ∃ a dx w u, v = .ref a ∧ ¬ W.mu a ∧ H a = some (.ins (W.B.cl .Rack) dx [("_gauges", w), ("_faults", u)]) ∧ den W H w r.gs ∧ den W H u r.fl ∧ RackT W.B,
   fun e ⟨a, dx, w, u, hv, m, h, h1, h3, h2⟩ => ⟨a, dx, w, u, hv, m, e _ _ m h, Rep.mono e h1, Rep.mono e h3, h2⟩,
   fun D n ⟨a, dx, w, u, hv, m, h, h1, h3, h2⟩ => ⟨a, dx, w, u, hv, mu_grow n m h, h, Rep.grow D n h1, Rep.grow D n h3, h2⟩,
   fun D ⟨a, dx, w, u, hv, m, h, h1, h3, h2⟩ => ⟨a, dx, w, u, hv, fun z => m (.inl z), h, Rep.shrink D h1, Rep.shrink D h3, h2⟩⟩
instance : Ins Rp .Rack ["_gauges"] := ⟨fun ⟨a, dx, w, hv, m, h, _⟩ => ⟨a, dx, _, hv, m, h, rfl⟩⟩
instance : Ins Rk .Rack ["_gauges", "_faults"] := ⟨fun ⟨a, dx, w, u, hv, m, h, _⟩ => ⟨a, dx, _, hv, m, h, rfl⟩⟩
end G
namespace G
open PySem PySem.Spec PyProof.Rows L2 StX
end G
set_option Elab.async false
set_option linter.all false
set_option maxRecDepth 100000
set_option maxHeartbeats 2000000
namespace G
open PySem PySem.Spec PyProof.Rows L2 StX
end G
namespace G
open PySem PySem.Spec PyProof.Rows L2 StX
end G
namespace G
open PySem PySem.Spec PyProof.Rows L2 StX
theorem Dk.append {β : Type} {f : V → β → Prop} : ∀ {a b : List (Key × V)} {l m : List (Str × β)}, Dk f a l → Dk f b m → Dk f (a ++ b) (l ++ m)
  | _, _, _, _, .nil, h => h
  | _, _, _, _, .cons x y, h => .cons x (y.append h)
end G
set_option Elab.async false
set_option linter.all false
set_option maxRecDepth 100000
set_option maxHeartbeats 2000000
namespace G
open PySem PySem.Spec PyProof.Rows L2 StX
/-- the keyword as it was written, or not at all -/
def KwOf (kn : Str) (dv v0 : V) (kws : List (Str × Value)) : Prop := (kws = [] ∧ v0 = dv) ∨ ∃ w0, kws = [(kn, w0)] ∧ RelV v0 w0
def spSK (sp : Sp) (v0 : V) : Sp := fun vs H Q E => ∃ a rest, vs = a :: rest ∧ rest.length ≤ sizeLine ∧ ∀ p, H p = Option.none → sp [a, v0, .ref p] (upd H p (.tup rest)) Q E
def FnSK (P : Program) (w : World) (K : PySem.W.Frag) (mg : Str → Option Value) (base : Heap) (CX : CXT) (k : Nat) (f : Addr) (kn : Str) (dv : V) (sp : Sp) : Prop :=
  ∀ (A : Around) (outer : List Env) (s : Shared) (H : Hp) (us : List Value) (vs : List V) (kws : List (Str × Value)) (v0 : V) (Q : VK) (E : XK), Room k A → Env0 P w K mg base A outer s H → Vals vs us → KwOf kn dv v0 kws → spSK sp v0 vs H Q E →
    codeAny (model P w) A (.call (.ref f) ⟨us, kws⟩) (CR CX outer P w H s Q E) s
theorem FnSK.mono {P : Program} {w : World} {K : PySem.W.Frag} {mg : Str → Option Value} {base : Heap} {CX : CXT} {j k : Nat} {f : Addr} {kn : Str} {dv : V} {sp : Sp} (F : FnSK P w K mg base CX j f kn dv sp) (h : j ≤ k) : FnSK P w K mg base CX k f kn dv sp := fun A outer s H us vs kws v0 Q E hr => F A outer s H us vs kws v0 Q E (hr.mono h)
end G
set_option Elab.async false
set_option linter.all false
set_option maxRecDepth 100000
set_option maxHeartbeats 2000000
namespace G
open PySem PySem.Spec PyProof.Rows L2 StX
section
variable {W : Wd} {F : Hp} {L : OwnH} {Γ : Gam} {ta tb te tv to : TE} {tt : TT} {t u : TS} {R : PoH} {g : TG} {wi : TI} {K : PySem.W.Frag}
theorem sxh_forI {α : Type} {rα : Rep α} (h : ∀ Wo, OwnHW W L Wo → EvI Wo wi Γ fun as : List α => ∃ I : Nat → OwnH → Gam → Prop, I 0 L Γ ∧ (∀ i L' Γ', I i L' Γ' → keysH L' = keysH L) ∧
      (∀ (i : Nat) (a : α) L' Γ', as[i]? = some a → I i L' Γ' → ∀ Wo', OwnHW W L' Wo' → Tg Wo' g Γ' a fun Γ1 => SxH W F t L' Γ1 { R with nx := I (i + 1), ct := I (i + 1), bk := R.nx }) ∧ ∀ L' Γ', I as.length L' Γ' → R.nx L' Γ') : SxH W F (tFor wi g t) L Γ R :=
  fun D σ H oF nF wF nd G O => h _ (ownH_w wF) σ H _ G fun J H1 as e1 it ⟨I, h0, hI, hs, hl⟩ => by
    have G1 := G.ext e1
    have O1 := O.step G1.ok.1 (ownH_stp e1)
    refine ⟨fun i m σ' H' => m = as.length - i ∧ i ≤ as.length ∧ ∃ L' oF nF Γ', StpH W L H1 L' H' ∧ (keysH L').Nodup ∧ GOk (W.ownH F L' oF nF) H' σ' Γ' ∧ I i L' Γ', ⟨_, rfl, Nat.zero_le _, L, oF, nF, Γ, .refl, nd, G1, h0⟩, ?_⟩
    rintro i m σ' H' ⟨rfl, hi, L', oF', nF', Γ', s, nd', G', q⟩
    have hks := hI i L' Γ' q
    by_cases hlt : i < as.length
    · refine .inr ⟨it.go i H' s.1 hlt, fun σ2 H2 => ∃ L2 oF nF Γ2, StpH W L H1 L2 H2 ∧ (keysH L2).Nodup ∧ GOk (W.ownH F L2 oF nF) H2 σ2 Γ2 ∧ I (i + 1) L2 Γ2, fun σ2 H2 ⟨L2, oF2, nF2, Γ2, s2, nd2, G2, q2⟩ => ⟨as.length - (i + 1), by omega, rfl, hlt, L2, oF2, nF2, Γ2, s2, nd2, G2, q2⟩, fun x H2 y => ?_⟩
      obtain ⟨a, ea, nw, da, _⟩ := it.yld i H' x H2 s.1 (fun b mb => (W.ownH F L' oF' nF').live H' b G'.ok (by
        show (W.toWc.plusL (keysH L')).mu b
        rw [hks]
        exact mb)) hlt y
      have e3 : Ext (W.ownH F L' oF' nF') H' H2 := nw.ext G'.ok
      obtain ⟨js, hj⟩ := hs i a L' Γ' ea q _ (ownH_w (oF := oF') (nF := nF') wF)
      have da' : den (W.ownH F L' oF' nF').toWc H2 x a := by
        show den (W.toWc.plusL (keysH L')) H2 x a
        rw [hks]
        exact da
      refine hj σ' H2 x _ (G'.ext e3) da' fun σ3 Γ3 G3 _ q3 => ?_
      have s3 : StpH W L H1 L' H2 := s.trans G'.ok.1 (ownH_stp e3)
      have o2 : W.ok H2 := G3.ok.1
      exact q3 _ σ3 H2 oF' nF' wF nd' G3 ⟨fun L4 oF4 nF4 σ4 H4 Γ4 s4 nd4 G4 q4 => ⟨L4, oF4, nF4, Γ4, s3.trans o2 s4, nd4, G4, q4⟩, fun v H4 t e d q4 => O.rt v H4 t e d q4, fun L4 oF4 nF4 σ4 H4 Γ4 s4 nd4 G4 q4 => O1.nx L4 oF4 nF4 σ4 H4 Γ4 (s3.trans o2 s4) nd4 G4 q4, fun L4 oF4 nF4 σ4 H4 Γ4 s4 nd4 G4 q4 => ⟨L4, oF4, nF4, Γ4, s3.trans o2 s4, nd4, G4, q4⟩⟩
    · have : i = as.length := by omega
      subst this
      exact .inl ⟨it.stop H' (by exact s.1), O1.nx L' oF' nF' σ' H' Γ' s nd' G' (hl L' Γ' q)⟩
/-- how slots are seen once the own thing o at q has come to rest -/
inductive RestQ (B : Bs) (q : Addr) (o : HO) : Gam → Gam → Prop
  | nil : RestQ B q o [] []
  | conv {t t' : Ty} {Γ Γ' : Gam} : (∀ (W : Wc) (H : Hp) (v : V), W.B = B → ¬ W.mu q → H q = some o → t.den (W.plus q) H v → t'.den W H v) → RestQ B q o Γ Γ' → RestQ B q o (some t :: Γ) (some t' :: Γ')
  | same {t : Option Ty} {Γ Γ' : Gam} : RestQ B q o Γ Γ' → RestQ B q o (t :: Γ) (t :: Γ')
  | drop {t : Option Ty} {Γ Γ' : Gam} : RestQ B q o Γ Γ' → RestQ B q o (t :: Γ) (none :: Γ')
theorem RestQ.len {B : Bs} {q : Addr} {o : HO} {Γ Γ' : Gam} (h : RestQ B q o Γ Γ') : Γ.length = Γ'.length := by
  induction h with
  | nil => rfl
  | conv _ _ ih => exact congrArg (· + 1) ih
  | same _ ih => exact congrArg (· + 1) ih
  | drop _ ih => exact congrArg (· + 1) ih
end
end G
set_option Elab.async false
set_option linter.all false
set_option maxRecDepth 100000
set_option maxHeartbeats 2000000
namespace G
open PySem PySem.Spec PyProof.Rows L2 StX
structure Em where
instance : Rep Em := ⟨fun W _ v _ => ∃ p, v = .ref p ∧ ∀ H, SqT W.B.K H p [], fun _ h => h, fun _ _ h => h, fun _ h => h⟩
end G
namespace G
open PySem PySem.Spec PyProof.Rows L2 StX
end G
set_option Elab.async false
set_option linter.all false
set_option maxRecDepth 100000
set_option maxHeartbeats 2000000
namespace G
open PySem PySem.Spec PyProof.Rows L2 StX
end G
namespace G
open PySem PySem.Spec PyProof.Rows L2 StX
end G
namespace G
open PySem PySem.Spec PyProof.Rows L2 StX
/-- a name that may stand in an error's text -/
structure NmOk (w : Str) : Prop where
  ok : PyData.strOk w = true
  rep : (reprText w).length ≤ 3000
  len : w.length ≤ 3000
end G
set_option Elab.async false
set_option linter.all false
set_option maxRecDepth 100000
set_option maxHeartbeats 2000000
namespace G
open PySem PySem.Spec PyProof.Rows L2 StX
def rSortedD (K : PySem.W.Frag) : List V → Hp → VK → Prop := fun vs H Q => ∃ (β : Type) (enc : β → PyData) (a : Addr) (xs : List V) (bs : List β), vs = [V.ref a] ∧ SqL K H a xs ∧ DpAll K H xs (bs.map enc) ∧ PySem.W.AllAlike (bs.map enc) ∧ PySem.W.Sortable (bs.map enc) ∧ (∀ b ∈ bs, (enc b).depth ≤ 60) ∧
  ∀ p, H p = none → Q (.ref p) (upd H p (.lst (((xs.zip bs).mergeSort (PySem.W.dataLe false fun q => enc q.2)).map (·.1))))
theorem dpAll_len {K : PySem.W.Frag} {H : Hp} : ∀ {xs : List V} {ds : List PyData}, DpAll K H xs ds → xs.length = ds.length
  | _, _, .nil => rfl
  | _, _, .cons _ r => congrArg (· + 1) (dpAll_len r)
theorem each_rel {β : Type} {P : Value → V × β → Prop} : ∀ {xs : List V} {its : List Value} {bs : List β}, Vals xs its → xs.length = bs.length → (∀ (v : V) (u : Value) (b : β), (v, b) ∈ xs.zip bs → RelV v u → P u (v, b)) → PySem.W.EachIs P its (xs.zip bs)
  | _, _, [], .nil, _, _ => .nil
  | _, _, [], .cons _ _, h, _ => by simp at h
  | _, _, _ :: _, .nil, h, _ => by simp at h
  | _, _, b :: bs, .cons r t, h, hp => .cons (hp _ _ b (by rw [List.zip_cons_cons]; exact List.mem_cons_self) r) (each_rel t (by simpa using h) fun v u c hm hr => hp v u c (by rw [List.zip_cons_cons]; exact List.mem_cons_of_mem _ hm) hr)
theorem dpAll_zip {β : Type} {K : PySem.W.Frag} {H : Hp} {enc : β → PyData} : ∀ {xs : List V} {bs : List β}, DpAll K H xs (bs.map enc) → ∀ (v : V) (b : β), (v, b) ∈ xs.zip bs → Dp K H v (enc b)
  | _, [], _, v, b, hm => by simp at hm
  | [], _ :: _, h, v, b, hm => by simp at hm
  | x :: xs, c :: bs, .cons d r, v, b, hm => by
    rw [List.zip_cons_cons] at hm
    rcases List.mem_cons.mp hm with e | hm
    · cases e; exact d
    · exact dpAll_zip r v b hm
theorem vals_of_each {β : Type} : ∀ {us : List Value} {qs : List (V × β)}, PySem.W.EachIs (fun v q => RelV q.1 v) us qs → Vals (qs.map (·.1)) us
  | _, _, .nil => .nil
  | _, _, .cons r t => .cons r (vals_of_each t)
theorem cr_sortedD {X : Cx} (hu : X.A.units + 64 < cLine) : CallR X (.builtin "sorted") (rSortedD X.K) := by
  intro pins s σ H vs us Q I r h
  obtain ⟨β, enc, a, xs, bs, rfl, hs, hd, hal, hso, hdep, q⟩ := h
  obtain ⟨its, rv, hl, hz⟩ := I.list hs
  obtain ⟨u, rfl, ru⟩ := vals1 r
  obtain rfl : u = Value.ref a := ru
  have hlen : xs.length = bs.length := by rw [dpAll_len hd, List.length_map]
  have hmap : (xs.zip bs).map (fun p => enc p.2) = bs.map enc := by
    rw [show (fun p : V × β => enc p.2) = enc ∘ Prod.snd from rfl, ← List.map_map, List.map_snd_zip (by omega)]
  have hzl : (xs.zip bs).length = xs.length := by rw [List.length_zip]; omega
  refine PySem.W.sorted_data (β := V × β) (enc := fun p => enc p.2) (R := fun v p => RelV p.1 v) (bs := xs.zip bs) hl.isList (each_rel rv hlen fun v u b _ hr => hr) (each_rel rv hlen fun v u b hm hr => ?_) (by rw [hmap]; exact hal) (by rw [hmap]; exact hso) (by rw [hzl]; exact hz) (fun p hp => ?_) fun out ho hout => ?_
  · exact Dp.reads I (enc b) v u (dpAll_zip hd v b hm) hr
  · have := hdep p.2 (List.of_mem_zip hp).2
    omega
  · obtain ⟨n, hn⟩ := sortedAll_at s.heap its out.toArray
    have hfr : H (s.heap.objs.size + 1) = none := I.hok.fresh (Nat.le_succ _)
    refine ⟨.ref (s.heap.objs.size + 1), upd H (s.heap.objs.size + 1) (.lst (((xs.zip bs).mergeSort (PySem.W.dataLe false fun q => enc q.2)).map (·.1))), I.laid (t' := s.toks) (fun b o e => sortedAll_old e) (Nat.le_succ _) ⟨?_, out, n, vals_of_each hout, hn⟩, rfl, q _ hfr⟩
    rw [List.length_map, List.length_mergeSort, hzl]
    exact hz
theorem Dl.dpAll {α : Type} [Rep α] [Dat α] {W : Wc} {H : Hp} : ∀ {vs : List V} {as : List α}, Dl (den W H) vs as → DpAll W.B.K H vs (as.map Dat.toD)
  | _, _, .nil => .nil
  | _, _, .cons d r => .cons (Dat.dp d) r.dpAll
/-- alike data that may be sorted -/
class Srt (α : Type) [Rep α] extends Dat α where
  alk : ∀ a b : α, PySem.W.alike (toD a) (toD b) = true
  tup : (∀ a : α, ∃ x r, toD a = .tuple (x :: r)) ∨ ∀ a : α, toD a ≠ .none ∧ ∀ xs, toD a ≠ .tuple xs
def leD {α : Type} [Rep α] [Dat α] : α → α → Bool := PySem.W.dataLe false Dat.toD
def sortD {α : Type} [Rep α] [Dat α] (as : List α) : List α := as.mergeSort leD
theorem zip_sort {α : Type} [Rep α] [Dat α] (vs : List V) (as : List α) : ((vs.zip as).mergeSort (PySem.W.dataLe false fun q => Dat.toD q.2)).map (·.2) = ((vs.zip as).map (·.2)).mergeSort leD := by
  rw [List.map_mergeSort]
  intro a _ b _
  rfl
theorem dl_pairs {α : Type} {f : V → α → Prop} : ∀ {ps : List (V × α)}, (∀ p ∈ ps, f p.1 p.2) → Dl f (ps.map (·.1)) (ps.map (·.2))
  | [], _ => .nil
  | p :: ps, h => .cons (h p List.mem_cons_self) (dl_pairs fun q hq => h q (List.mem_cons_of_mem _ hq))
theorem dl_zip {α : Type} {f : V → α → Prop} : ∀ {vs : List V} {as : List α}, Dl f vs as → ∀ p ∈ vs.zip as, f p.1 p.2
  | _, _, .nil, p, hp => by simp at hp
  | _, _, .cons d r, p, hp => by
    rw [List.zip_cons_cons] at hp
    rcases List.mem_cons.mp hp with rfl | hp
    · exact d
    · exact dl_zip r p hp
section
variable {W : Wd} {Γ : Gam} {te : TE} {K : PySem.W.Frag}
theorem evF_sortedD {α : Type} {rα : Rep α} [i : Srt α] {k : List α → Prop} (hK : W.B.K = K) (hdep : i.dep ≤ 60) (h : EvK W te Γ fun as : List α => k (sortD as)) : EvF W (tCB (rSortedD K) (tCons te tNil)) Γ k := by
  subst hK
  refine fun σ H Q E c => h σ H _ E fun v H1 as e1 ⟨p, vs, hv, hp, hd⟩ z => ⟨α, Dat.toD, p, vs, as, by rw [hv], hp.sq, hd.dpAll, ?_, ?_, fun b _ => Nat.le_trans (Dat.ddep b) hdep, fun q hq => ?_⟩
  · exact PySem.W.AllAlike.of fun a b => i.alk a b
  · rcases i.tup with h1 | h1
    · exact PySem.W.Sortable.tuples h1
    · exact PySem.W.Sortable.others h1
  · have e2 := Ext.new (o := .lst (((vs.zip as).mergeSort (PySem.W.dataLe false fun q => Dat.toD q.2)).map (·.1))) e1.ok hq
    refine c q _ _ (sortD as) (fresh_back e1.ok e1 hq) (e1.trans e2) upd_same ?_ z
    have kp : Kp (W.toWc.plus q) H1 (upd H1 q (.lst (((vs.zip as).mergeSort (PySem.W.dataLe false fun q => Dat.toD q.2)).map (·.1)))) := fun b o m z => by rw [upd_ne (ne_of_none z hq)]; exact z
    have hs : sortD as = ((vs.zip as).mergeSort (PySem.W.dataLe false fun q => Dat.toD q.2)).map (·.2) := by
      rw [zip_sort, List.map_snd_zip (by rw [hd.length]; exact Nat.le_refl _)]
      rfl
    rw [hs]
    refine dl_pairs fun x hx => ?_
    have hx' : x ∈ vs.zip as := (List.mergeSort_perm _ _).mem_iff.mp hx
    exact Rep.mono (W := W.toWc.plus q) kp (Rep.grow q hq (dl_zip hd x hx'))
theorem ev_sortedD {α : Type} {rα : Rep α} [i : Srt α] {k : List α → Prop} (hK : W.B.K = K) (hdep : i.dep ≤ 60) (h : EvK W te Γ fun as : List α => k (sortD as)) : EvK W (tCB (rSortedD K) (tCons te tNil)) Γ k := (evF_sortedD hK hdep h).k
end
theorem sortD_perm {α : Type} [Rep α] [Dat α] (as : List α) : (sortD as).Perm as := List.mergeSort_perm _ _
end G
namespace G
open PySem PySem.Spec PyProof.Rows L2 StX
/-- data of one shape -/
class Alk (α : Type) [Rep α] [Dat α] : Prop where
  alk : ∀ a b : α, PySem.W.alike (Dat.toD a) (Dat.toD b) = true
instance : Alk Int := ⟨fun a b => by show PySem.W.alike (.int a) (.int b) = true; simp [PySem.W.alike]⟩
instance : Alk Str := ⟨fun a b => by show PySem.W.alike (.str a) (.str b) = true; simp [PySem.W.alike]⟩
theorem alk_all {α : Type} [Rep α] [Dat α] [Alk α] : ∀ as bs : List α, PySem.W.alikeAll (as.map Dat.toD) (bs.map Dat.toD) = true
  | [], _ => by simp [PySem.W.alikeAll]
  | _ :: _, [] => by simp [PySem.W.alikeAll]
  | a :: as, b :: bs => by
    rw [List.map_cons, List.map_cons, PySem.W.alikeAll, Alk.alk a b, alk_all as bs]
    rfl
instance {α : Type} [Rep α] [Dat α] [Alk α] : Alk (List α) := ⟨fun as bs => by
  show PySem.W.alike (.list (as.map Dat.toD)) (.list (bs.map Dat.toD)) = true
  rw [PySem.W.alike]
  exact alk_all as bs⟩
instance {α β : Type} [Rep α] [Rep β] [Dat α] [Dat β] [Alk α] [Alk β] : Alk (α × β) := ⟨fun a b => by
  show PySem.W.alike (.tuple [Dat.toD a.1, Dat.toD a.2]) (.tuple [Dat.toD b.1, Dat.toD b.2]) = true
  simp [PySem.W.alike, PySem.W.alikeAll, Alk.alk]⟩
instance : Srt Int := { toDat := inferInstance, alk := fun a b => Alk.alk a b, tup := .inr fun a => ⟨fun e => (by cases e), fun xs e => (by cases e)⟩ }
instance : Srt Str := { toDat := inferInstance, alk := fun a b => Alk.alk a b, tup := .inr fun a => ⟨fun e => (by cases e), fun xs e => (by cases e)⟩ }
instance srtPair {α β : Type} [Rep α] [Rep β] [Dat α] [Dat β] [Alk α] [Alk β] : Srt (α × β) := { toDat := inferInstance, alk := fun a b => Alk.alk a b, tup := .inl fun a => ⟨_, _, rfl⟩ }
theorem leD_total {α : Type} [Rep α] [Dat α] : PySem.W.TotalLe (leD (α := α)) := by
  show PySem.W.TotalLe (PySem.W.sortLe (PyProof.Rows.listOrd PyProof.Rows.itemOrd) false fun b : α => PySem.W.keyToks (Dat.toD b))
  exact PySem.W.sortLe_total _ _ _
theorem sortD_sorted {α : Type} [Rep α] [Dat α] (as : List α) : (sortD as).Pairwise fun a b => leD a b = true := PySem.W.sort_pairwise leD_total as
end G
set_option Elab.async false
set_option linter.all false
set_option maxRecDepth 100000
set_option maxHeartbeats 2000000
namespace G
open PySem PySem.Spec PyProof.Rows L2 StX
def optD {α : Type} [r : Rep α] (W : Wc) (H : Hp) (v : V) : Option α → Prop
  | some a => den W H v a
  | none => v = .non
instance instRepOpt {α : Type} [Rep α] : Rep (Option α) where
  dn := optD
  mono := fun {W H H' v a} e h => by cases a with | none => exact h | some a => exact Rep.mono (a := a) e h
  grow := fun {W H v a} D n h => by cases a with | none => exact h | some a => exact Rep.grow (a := a) D n h
  shrink := fun {W H v a} D h => by cases a with | none => exact h | some a => exact Rep.shrink (a := a) D h
instance {α : Type} [Rep α] [Flat α] : Flat (Option α) := ⟨fun {W W' H H' v a} h => by cases a with | none => exact h | some a => exact Flat.at_ (a := a) h⟩
/-- data that are unlike None -/
class NeNon (α : Type) [Rep α] [Dat α] : Prop where
  ne : ∀ a : α, PyData.eqv .none (Dat.toD a) = false ∧ PyData.eqv (Dat.toD a) .none = false
instance : NeNon Int := ⟨fun a => ⟨rfl, rfl⟩⟩
instance : NeNon Str := ⟨fun a => ⟨rfl, rfl⟩⟩
instance {α : Type} [Rep α] [Dat α] [NeNon α] : Dat (Option α) where
  toD := fun o => match o with | some a => Dat.toD a | none => .none
  dp := fun {W H v a} h => by
    cases a with
    | none => cases (show v = .non from h); exact .non
    | some a => exact Dat.dp (a := a) h
  dep := Dat.dep α
  ddep := fun a => by cases a with | none => exact Nat.zero_le _ | some a => exact Dat.ddep a
  inj := fun a b => by
    cases a with
    | none => cases b with
      | none => exact ⟨fun _ => rfl, fun _ => rfl⟩
      | some b => exact ⟨fun h => absurd ((NeNon.ne b).1.symm.trans h) Bool.false_ne_true, fun h => (by cases h)⟩
    | some a => cases b with
      | none => exact ⟨fun h => absurd ((NeNon.ne a).2.symm.trans h) Bool.false_ne_true, fun h => (by cases h)⟩
      | some b => exact (Dat.inj a b).trans ⟨fun h => by rw [h], fun h => Option.some.inj h⟩
  good := fun a => ∀ b, a = some b → Dat.good b
  gshp := fun a h => by cases a with | none => rfl | some a => exact Dat.gshp a (h a rfl)
section
variable {W : Wd} {Γ : Gam} {te : TE} {K : PySem.W.Frag}
theorem ev_opt {α : Type} {rα : Rep α} {k : Option α → Prop} (h : EvK W te Γ fun a : α => k (some a)) : EvK W te Γ k := fun σ H Q G c => h σ H Q G fun v H' a e d q => c v H' (some a) e d q
theorem ev_optN {α : Type} {rα : Rep α} {k : Option α → Prop} (h : EvK W te Γ fun _ : Unit => k none) : EvK W te Γ k := fun σ H Q G c => h σ H Q G fun v H' a e d q => c v H' none e d q
theorem ev_unopt {α : Type} {rα : Rep α} {k : α → Prop} (h : EvK W te Γ fun o : Option α => ∃ a, o = some a ∧ k a) : EvK W te Γ k := fun σ H Q G c => h σ H Q G fun v H' o e d ⟨a, ea, q⟩ => by
  subst ea
  exact c v H' a e d q
theorem opt_non {α : Type} {rα : Rep α} [NotNon α] {W : Wc} {H : Hp} {v : V} {o : Option α} (d : den W H v o) : decide (v = .non) = !o.isSome := by
  cases o with
  | none => exact decide_eq_true d
  | some a => exact decide_eq_false (NotNon.no (a := a) d)
theorem ev_optIs {α : Type} {rα : Rep α} [NotNon α] {k : Bool → Prop} (h : EvK W te Γ fun o : Option α => k (!o.isSome)) : EvK W (tOp (fun x y H Q => y = .non ∧ Q (.bl (decide (x = .non))) H) te (tC .non)) Γ k := fun σ H Q G c =>
  h σ H _ G fun v H1 o e1 d z => ⟨rfl, by rw [opt_non d]; exact c _ H1 _ e1 rfl z⟩
theorem ev_optNot {α : Type} {rα : Rep α} [NotNon α] {k : Bool → Prop} (h : EvK W te Γ fun o : Option α => k o.isSome) : EvK W (tOp (fun x y H Q => y = .non ∧ Q (.bl (!decide (x = .non))) H) te (tC .non)) Γ k := fun σ H Q G c =>
  h σ H _ G fun v H1 o e1 d z => ⟨rfl, by rw [opt_non d, Bool.not_not]; exact c _ H1 _ e1 rfl z⟩
end
end G
set_option Elab.async false
set_option linter.all false
set_option maxRecDepth 100000
set_option maxHeartbeats 2000000
namespace G
open PySem PySem.Spec PyProof.Rows L2 StX
theorem getDc_mem {β : Type} {l : List (Str × β)} (h : (l.map (·.1)).Nodup) {k : Str} {b : β} (hm : (k, b) ∈ l) : getDc l k = some b := by
  unfold getDc
  induction l with
  | nil => cases hm
  | cons e r ih =>
    rw [List.map_cons, List.nodup_cons] at h
    rcases List.mem_cons.mp hm with e1 | hm
    · subst e1
      rw [List.find?_cons_of_pos (by simp)]
      rfl
    · have hne : ¬ e.1 = k := fun q => h.1 (List.mem_map.mpr ⟨_, hm, q.symm⟩)
      rw [List.find?_cons_of_neg (by simpa using hne)]
      exact ih h.2 hm
end G
set_option Elab.async false
set_option linter.all false
set_option maxRecDepth 100000
set_option maxHeartbeats 2000000
namespace G
open PySem PySem.Spec PyProof.Rows L2 StX
theorem cr_sortedDK {X : Cx} (K : PySem.W.Frag) (hu : X.A.units + 64 < cLine) (h : X.K = K := by rfl) : CallR X (.builtin "sorted") (rSortedD K) := by subst h; exact cr_sortedD hu
/-- a rack in order -/
structure RkOk (gs : List Gau) (fl : List (List Str)) : Prop where
  len : gs.length ≤ 100
  nd : (gs.map Gau.nm).Nodup
  nm : ∀ g ∈ gs, NmOk g.nm
  go : ∀ g ∈ gs, GauOk g
  fln : fl.length ≤ 100
  ff : ∀ f ∈ fl, f ≠ [] ∧ f.length ≤ 100 ∧ ∀ n ∈ f, n ∈ gs.map Gau.nm
end G
namespace G
end G
namespace G
open PySem PySem.Spec PyProof.Rows L2 StX
end G
namespace G
open PySem PySem.Spec PyProof.Rows L2 StX
theorem nodup_len {α : Type} [DecidableEq α] : ∀ {l m : List α}, l.Nodup → (∀ x ∈ l, x ∈ m) → l.length ≤ m.length
  | [], _, _, _ => Nat.zero_le _
  | a :: r, m, nd, h => by
    have ha := h a List.mem_cons_self
    obtain ⟨h1, h2⟩ := List.nodup_cons.mp nd
    have h3 : r.length ≤ (m.erase a).length := nodup_len h2 fun x hx => (List.mem_erase_of_ne (fun e => h1 (by rw [← e]; exact hx))).mpr (h x (List.mem_cons_of_mem _ hx))
    have h4 := List.length_erase_of_mem ha
    have h5 := List.length_pos_of_mem ha
    rw [List.length_cons]
    omega
end G
set_option Elab.async false
set_option linter.all false
set_option maxRecDepth 100000
set_option maxHeartbeats 2000000
namespace G
open PySem PySem.Spec PyProof.Rows L2 StX
/-- a promise that may speak of the heap's size at the call -/
def FnRN (P : Program) (w : World) (K : PySem.W.Frag) (mg : Str → Option Value) (base : Heap) (CX : CXT) (k : Nat) (f : Addr) (sp : Nat → Sp) : Prop :=
  ∀ (A : Around) (outer : List Env) (s : Shared) (H : Hp) (us : List Value) (vs : List V) (Q : VK) (E : XK), Room k A → Env0 P w K mg base A outer s H → Vals vs us → sp s.heap.objs.size vs H Q E →
    codeAny (model P w) A (.call (.ref f) ⟨us, []⟩) (CR CX outer P w H s Q E) s
section
variable {P : Program} {w : World} {K : PySem.W.Frag} {mg : Str → Option Value} {base : Heap}
theorem FnRN.mono {CX : CXT} {j k : Nat} {f : Addr} {sp : Nat → Sp} (F : FnRN P w K mg base CX j f sp) (h : j ≤ k) : FnRN P w K mg base CX k f sp := fun A outer s H us vs Q E hr => F A outer s H us vs Q E (hr.mono h)
end
end G
set_option Elab.async false
set_option linter.all false
set_option maxRecDepth 100000
set_option maxHeartbeats 2000000
namespace G
open PySem PySem.Spec PyProof.Rows L2 StX
def toS (g : Gau) (r : Int) : Stc := ⟨r - sbF g, r + saF g⟩
def tdF (gs : List Gau) (ds : List (Str × Int)) (w : Str) : Stc := ((gs.find? fun g => decide (g.nm = w)).map fun g => toS g (rdF ds w)).getD ⟨0, 0⟩
theorem find_nm {gs : List Gau} (nd : (gs.map Gau.nm).Nodup) {g : Gau} (h : g ∈ gs) : (gs.find? fun e => decide (e.nm = g.nm)) = some g := by
  induction gs with
  | nil => cases h
  | cons e r ih =>
    rw [List.map_cons, List.nodup_cons] at nd
    rcases List.mem_cons.mp h with rfl | hm
    · rw [List.find?_cons_of_pos (by simp)]
    · have hne : ¬ e.nm = g.nm := fun q => nd.1 (List.mem_map.mpr ⟨_, hm, q.symm⟩)
      rw [List.find?_cons_of_neg (by simpa using hne)]
      exact ih nd.2 hm
theorem tdF_at {gs : List Gau} {ds : List (Str × Int)} (nd : (gs.map Gau.nm).Nodup) {g : Gau} (h : g ∈ gs) : tdF gs ds g.nm = toS g (rdF ds g.nm) := by
  unfold tdF
  rw [find_nm nd h]
  rfl
/-- the told stretches of a fault -/
def tfF (gs : List Gau) (ds : List (Str × Int)) (f : List Str) : List Stc := (f.filter fun w => (getDc ds w).isSome).map (tdF gs ds)
/-- the present faults -/
def prF (gs : List Gau) (fl : List (List Str)) (ds : List (Str × Int)) : List (List Stc) := (fl.map (tfF gs ds)).filter fun l => !l.isEmpty
def loS : Stc → List Stc → Int
  | s, [] => s.lo
  | s, t :: r => max s.lo (loS t r)
def hiS : Stc → List Stc → Int
  | s, [] => s.hi
  | s, t :: r => min s.hi (hiS t r)
theorem loS_le {x : Int} : ∀ {s : Stc} {r : List Stc}, loS s r ≤ x ↔ ∀ t ∈ s :: r, t.lo ≤ x
  | s, [] => by simp [loS]
  | s, t :: r => by
    have ih := loS_le (x := x) (s := t) (r := r)
    rw [loS, Int.max_le, ih]
    simp
theorem le_hiS {x : Int} : ∀ {s : Stc} {r : List Stc}, x ≤ hiS s r ↔ ∀ t ∈ s :: r, x ≤ t.hi
  | s, [] => by simp [hiS]
  | s, t :: r => by
    have ih := le_hiS (x := x) (s := t) (r := r)
    rw [hiS, Int.le_min, ih]
    simp
/-- what all stretches of a list have in common -/
def capP : List Stc → List (Int × Int)
  | [] => []
  | s :: r => if loS s r ≤ hiS s r then [(loS s r, hiS s r)] else []
theorem memP_cap {ss : List Stc} (h0 : ss ≠ []) {x : Int} : memP x (capP ss) ↔ ∀ s ∈ ss, inS x s = true := by
  cases ss with
  | nil => exact absurd rfl h0
  | cons s r =>
    have e : (∀ t ∈ s :: r, inS x t = true) ↔ loS s r ≤ x ∧ x ≤ hiS s r := by
      rw [loS_le, le_hiS]
      exact ⟨fun h => ⟨fun t ht => (inS_iff.mp (h t ht)).1, fun t ht => (inS_iff.mp (h t ht)).2⟩, fun ⟨h1, h2⟩ t ht => inS_iff.mpr ⟨h1 t ht, h2 t ht⟩⟩
    rw [e]
    rw [capP]
    by_cases hle : loS s r ≤ hiS s r
    · rw [if_pos hle]
      exact ⟨fun ⟨p, hp, h1, h2⟩ => by rw [List.mem_singleton.mp hp] at h1 h2; exact ⟨h1, h2⟩, fun ⟨h1, h2⟩ => ⟨_, List.mem_singleton.mpr rfl, h1, h2⟩⟩
    · rw [if_neg hle]
      exact ⟨fun ⟨p, hp, _⟩ => (nomatch hp), fun ⟨h1, h2⟩ => absurd (Int.le_trans h1 h2) hle⟩
theorem cap_len (ss : List Stc) : (capP ss).length ≤ 1 := by
  cases ss with
  | nil => exact Nat.zero_le _
  | cons s r =>
    rw [capP]
    split <;> simp
/-- the pieces of what fits each present fault -/
def ptF (pr : List (List Stc)) : List Stc := pr.flatMap fun l => (capP l).map mkStc
theorem pr_ne {gs : List Gau} {fl : List (List Str)} {ds : List (Str × Int)} {l : List Stc} (h : l ∈ prF gs fl ds) : l ≠ [] := by
  have := (List.mem_filter.mp h).2
  intro e
  rw [e] at this
  exact absurd this (by decide)
/-- the number of present faults that fit a level -/
theorem dep_pt {pr : List (List Stc)} (h : ∀ l ∈ pr, l ≠ []) (x : Int) : depS (ptF pr) x = (pr.filter fun l => l.all (inS x)).length := by
  unfold ptF
  induction pr with
  | nil => rfl
  | cons l r ih =>
    have ih := ih fun m hm => h m (List.mem_cons_of_mem _ hm)
    have h0 := h l List.mem_cons_self
    rw [List.flatMap_cons]
    unfold depS at ih ⊢
    rw [List.filter_append, List.length_append]
    have e1 : (((capP l).map mkStc).filter (inS x)).length = if l.all (inS x) then 1 else 0 := by
      have hm := memP_cap h0 (x := x)
      have hc := cap_len l
      by_cases ha : l.all (inS x) = true
      · rw [if_pos ha]
        obtain ⟨p, hp, h1, h2⟩ := hm.mpr (List.all_eq_true.mp ha)
        cases e : capP l with
        | nil => rw [e] at hp; cases hp
        | cons q t =>
          rw [e] at hc hp
          have : t = [] := by cases t with
            | nil => rfl
            | cons u v => simp at hc
          subst this
          have := List.mem_singleton.mp hp
          subst this
          have hi : inS x (mkStc p) = true := inS_iff.mpr ⟨h1, h2⟩
          show (List.filter (inS x) [mkStc p]).length = 1
          rw [List.filter_cons_of_pos hi]
          rfl
      · rw [if_neg ha]
        have hn : ∀ p ∈ capP l, ¬ (p.1 ≤ x ∧ x ≤ p.2) := fun p hp hh => ha (List.all_eq_true.mpr (hm.mp ⟨p, hp, hh.1, hh.2⟩))
        rw [List.filter_eq_nil_iff.mpr fun s hs hh => by
          obtain ⟨p, hp, rfl⟩ := List.mem_map.mp hs
          exact hn p hp (inS_iff.mp hh)]
        rfl
    rw [e1]
    by_cases ha : l.all (inS x) = true
    · rw [if_pos ha, List.filter_cons_of_pos (p := fun l : List Stc => l.all (inS x)) ha, List.length_cons]
      omega
    · rw [if_neg ha, List.filter_cons_of_neg (p := fun l : List Stc => l.all (inS x)) ha]
      omega
/-- the possible levels -/
def PosOk (gs : List Gau) (fl : List (List Str)) (ds : List (Str × Int)) (l : Int) (L : List (Int × Int)) : Prop := ShOk (ptF (prF gs fl ds)) ((prF gs fl ds).length - l) L
theorem Dk.keys {β : Type} {f : V → β → Prop} {W : Wc} {H : Hp} : ∀ {kvs : List (Key × V)} {l : List (Str × β)}, Dk f kvs l → Dl (den W H) (kvs.map fun kv => kV kv.1) (l.map (·.1))
  | _, _, .nil => .nil
  | _, _, .cons (k := a) _ r => .cons (show den W H (V.str a) a from rfl) r.keys
end G
namespace G
end G
set_option Elab.async false
set_option linter.all false
set_option maxRecDepth 100000
set_option maxHeartbeats 2000000
namespace G
open PySem PySem.Spec PyProof.Rows L2 StX
theorem filt_split {α : Type} (p : α → Bool) : ∀ l : List α, (l.filter p).length + (l.filter fun a => !p a).length = l.length
  | [] => rfl
  | a :: l => by
    have ih := filt_split p l
    rw [List.filter_cons, List.filter_cons]
    cases hp : p a <;> simp_all <;> omega
end G
namespace G
open PySem PySem.Spec PyProof.Rows L2 StX
end G
set_option Elab.async false
set_option linter.all false
set_option maxRecDepth 100000
set_option maxHeartbeats 2000000
namespace G
open PySem PySem.Spec PyProof.Rows L2 StX
class NoDc (α : Type) [Rep α] : Prop where
  at_ : ∀ {W : Wc} {H : Hp} {v : V} {a : α} {q : Addr} {kvs : List (Key × V)}, H q = some (.dK kvs) → den W H v a → den (W.plus q) H v a
instance : NoDc Int := ⟨fun _ h => h⟩
instance : NoDc Bool := ⟨fun _ h => h⟩
instance : NoDc Str := ⟨fun _ h => h⟩
instance : NoDc Unit := ⟨fun _ h => h⟩
theorem lq_nd {W : Wc} {H : Hp} {p q : Addr} {vs : List V} {kvs : List (Key × V)} (h : H q = some (.dK kvs)) (s : Lq W H p vs) : Lq (W.plus q) H p vs :=
  ⟨fun z => z.elim s.1 fun z => (by have := s.2; rw [z, h] at this; cases this), s.2⟩
theorem tq_nd {W : Wc} {H : Hp} {p q : Addr} {vs : List V} {kvs : List (Key × V)} (h : H q = some (.dK kvs)) (s : Tq W H p vs) : Tq (W.plus q) H p vs :=
  ⟨fun z => z.elim s.1 fun z => (by have := s.2; rw [z, h] at this; cases this), s.2⟩
instance {α : Type} [Rep α] [NoDc α] : NoDc (List α) := ⟨fun h ⟨p, vs, hv, s, d⟩ => ⟨p, vs, hv, lq_nd h s, d.imp fun _ _ x => NoDc.at_ h x⟩⟩
instance {α β : Type} [Rep α] [Rep β] [NoDc α] [NoDc β] : NoDc (α × β) := ⟨fun h ⟨p, x, y, hv, s, d1, d2⟩ => ⟨p, x, y, hv, tq_nd h s, NoDc.at_ h d1, NoDc.at_ h d2⟩⟩
instance {α β : Type} [Rep α] [Rep β] [NoDc α] [NoDc β] : NoDc (Li2 α β) := ⟨fun h ⟨p, x, y, hv, s, d1, d2⟩ => ⟨p, x, y, hv, lq_nd h s, NoDc.at_ h d1, NoDc.at_ h d2⟩⟩
instance {α β γ : Type} [Rep α] [Rep β] [Rep γ] [NoDc α] [NoDc β] [NoDc γ] : NoDc (Li3 α β γ) := ⟨fun h ⟨p, x, y, z, hv, s, d1, d2, d3⟩ => ⟨p, x, y, z, hv, lq_nd h s, NoDc.at_ h d1, NoDc.at_ h d2, NoDc.at_ h d3⟩⟩
theorem dk_int {W : Wc} {H : Hp} : ∀ {kvs : List (Key × V)} {l : List (Str × Int)}, Dk (den W H) kvs l → kvs = l.map fun e => ((.inr e.1 : Key), V.int e.2)
  | _, _, .nil => rfl
  | _, _, .cons (k := a) (v := v) (b := b) h r => by
    have hv : v = V.int b := h
    rw [List.map_cons, ← dk_int r, hv]
end G
set_option Elab.async false
set_option linter.all false
set_option maxRecDepth 100000
set_option maxHeartbeats 2000000
namespace G
open PySem PySem.Spec PyProof.Rows L2 StX
theorem Dk.at {β : Type} {f : V → β → Prop} : ∀ {kvs : List (Key × V)} {l : List (Str × β)}, Dk f kvs l → ∀ {i : Nat} {k : Key} {v : V}, kvs[i]? = some (k, v) → ∃ s b, l[i]? = some (s, b) ∧ k = .inr s ∧ f v b
  | _, _, .nil, i, k, v, h => by simp at h
  | _, _, .cons (k := a) (v := w) (b := b) h r, 0, k, v, e => by
    have e : some ((Sum.inr a : Key), w) = some (k, v) := e
    cases e
    exact ⟨a, b, rfl, rfl, h⟩
  | _, _, .cons h r, i + 1, k, v, e => r.at (i := i) e
end G
set_option Elab.async false
set_option linter.all false
set_option maxRecDepth 100000
set_option maxHeartbeats 2000000
namespace G
open PySem PySem.Spec PyProof.Rows L2 StX
end G
set_option Elab.async false
set_option linter.all false
set_option maxRecDepth 100000
set_option maxHeartbeats 2000000
namespace G
open PySem PySem.Spec PyProof.Rows L2 StX
def outT (x : Int) (p : Int × Int) : Bool := !(decide (p.1 ≤ x) && decide (x ≤ p.2))
def pairsT (td : List (Str × (Int × Int))) (f : List Str) : List (Int × Int) := (f.filter fun w => (getDc td w).isSome).map fun w => (getDc td w).getD (0, 0)
def missT (fl : List (List Str)) (td : List (Str × (Int × Int))) (x : Int) : Int := ((fl.filter fun f => (pairsT td f).any (outT x)).length : Int)
def tpG (gs : List Gau) (e : Str × Int) : Int × Int := ((gs.find? fun g => decide (g.nm = e.1)).map fun g => (e.2 - sbF g, e.2 + saF g)).getD (0, 0)
theorem putDc_fr {β : Type} {l : List (Str × β)} {k : Str} {b : β} (h : k ∉ l.map (·.1)) : putDc l k b = l ++ [(k, b)] := by
  unfold putDc
  rw [if_neg]
  intro q
  obtain ⟨e, he, hk⟩ := List.any_eq_true.mp q
  exact h (List.mem_map.mpr ⟨e, he, of_decide_eq_true hk⟩)
theorem dc_isSome {β : Type} (l : List (Str × β)) (w : Str) : (getDc l w).isSome = decide (w ∈ l.map (·.1)) := by
  unfold getDc
  rw [Option.isSome_map, Bool.eq_iff_iff, List.find?_isSome, decide_eq_true_iff]
  exact ⟨fun ⟨e, he, hk⟩ => List.mem_map.mpr ⟨e, he, of_decide_eq_true hk⟩, fun h => by obtain ⟨e, he, rfl⟩ := List.mem_map.mp h; exact ⟨e, he, decide_eq_true rfl⟩⟩
structure Tw (gs : List Gau) (ws : List Str) (i : Nat) (ds : List (Str × Int)) (td : List (Str × (Int × Int))) : Prop where
  len : ds.length ≤ i
  nd : (ds.map (·.1)).Nodup
  keys : ∀ w ∈ ds.map (·.1), w ∈ ws.take i
  td : td = ds.map fun e => (e.1, tpG gs e)
theorem take_mono {ws : List Str} {i : Nat} {w : Str} (h : w ∈ ws.take i) : w ∈ ws.take (i + 1) := by
  rw [List.take_succ]
  exact List.mem_append_left _ h
theorem Tw.put {gs : List Gau} {ws : List Str} {i : Nat} {ds : List (Str × Int)} {td : List (Str × (Int × Int))} (h : Tw gs ws i ds td) (nw : ws.Nodup) (ng : (gs.map Gau.nm).Nodup) {g : Gau} (hg : g ∈ gs) {w : Str} (hn : g.nm = w) (hw : ws[i]? = some w) (d : Int) :
    Tw gs ws (i + 1) (putDc ds w d) (putDc td w (d - sbF g, d + saF g)) := by
  have hi := (List.getElem?_eq_some_iff.mp hw).1
  have hnk : w ∉ ds.map (·.1) := fun q => by
    have q := h.keys w q
    obtain ⟨j, hj, e⟩ := List.getElem_of_mem q
    rw [List.length_take] at hj
    rw [List.getElem_take] at e
    have e2 := (List.getElem?_eq_some_iff.mp hw).2
    exact List.pairwise_iff_getElem.mp nw j i (by omega) hi (by omega) (e.trans e2.symm)
  have hnt : w ∉ td.map (·.1) := by
    rw [h.td, List.map_map]
    exact hnk
  rw [putDc_fr hnk, putDc_fr hnt]
  refine ⟨by rw [List.length_append]; have := h.len; simp; omega, ?_, fun u hu => ?_, ?_⟩
  · rw [List.map_append]
    refine List.nodup_append.mpr ⟨h.nd, by simp, fun a ha b hb e => ?_⟩
    have hb : b = w := by simpa using hb
    exact hnk (by rw [← hb, ← e]; exact ha)
  · rw [List.map_append] at hu
    rcases List.mem_append.mp hu with hu | hu
    · exact take_mono (h.keys u hu)
    · have hu : u = w := by simpa using hu
      rw [hu, List.take_succ, hw]
      exact List.mem_append_right _ (List.mem_singleton.mpr rfl)
  · rw [h.td, List.map_append]
    congr 1
    show [(w, _)] = [(w, tpG gs (w, d))]
    unfold tpG
    subst hn
    rw [find_nm ng hg]
    rfl
section
variable {gs : List Gau} {fl : List (List Str)} {ws : List Str} {i : Nat} {ds : List (Str × Int)} {td : List (Str × (Int × Int))}
theorem Tw.tkeys (h : Tw gs ws i ds td) : td.map (·.1) = ds.map (·.1) := by rw [h.td, List.map_map]; rfl
theorem Tw.isS (h : Tw gs ws i ds td) (w : Str) : (getDc td w).isSome = (getDc ds w).isSome := by rw [dc_isSome, dc_isSome, h.tkeys]
theorem Tw.get (h : Tw gs ws i ds td) (ng : (gs.map Gau.nm).Nodup) {g : Gau} (hg : g ∈ gs) (hs : (getDc ds g.nm).isSome = true) : getDc td g.nm = some ((tdF gs ds g.nm).lo, (tdF gs ds g.nm).hi) ∧ ((tdF gs ds g.nm).lo, (tdF gs ds g.nm).hi) ∈ td.map (·.2) := by
  rw [dc_isSome] at hs
  obtain ⟨e, he, hk⟩ := List.mem_map.mp (of_decide_eq_true hs)
  have hd := getDc_mem h.nd (k := e.1) (b := e.2) he
  have hr : rdF ds g.nm = e.2 := by unfold rdF; rw [← hk, hd]; rfl
  have ht : (e.1, tpG gs e) ∈ td := by rw [h.td]; exact List.mem_map.mpr ⟨e, he, rfl⟩
  have hp : tpG gs e = ((tdF gs ds g.nm).lo, (tdF gs ds g.nm).hi) := by
    rw [tdF_at ng hg, hr]
    unfold tpG
    rw [show (fun g' : Gau => decide (g'.nm = e.1)) = fun e => decide (e.nm = g.nm) by rw [hk], find_nm ng hg]
    rfl
  rw [hp] at ht
  exact ⟨by rw [← hk]; exact getDc_mem (by rw [h.tkeys]; exact h.nd) ht ▸ (by rw [hk]), List.mem_map.mpr ⟨_, ht, rfl⟩⟩
theorem any_not_all {α : Type} {p q : α → Bool} : ∀ {l : List α}, (∀ a ∈ l, p a = !q a) → l.any p = !l.all q
  | [], _ => rfl
  | a :: r, h => by
    rw [List.any_cons, List.all_cons, h a List.mem_cons_self, any_not_all fun b hb => h b (List.mem_cons_of_mem _ hb), Bool.not_and]
theorem Tw.out (h : Tw gs ws i ds td) (ok : RkOk gs fl) {f : List Str} (hf : f ∈ fl) (x : Int) : (pairsT td f).any (outT x) = !(tfF gs ds f).all (inS x) := by
  unfold pairsT tfF
  rw [List.any_map, List.all_map, show (f.filter fun w => (getDc td w).isSome) = f.filter fun w => (getDc ds w).isSome from List.filter_congr fun w _ => h.isS w]
  refine any_not_all fun w hw => ?_
  obtain ⟨hw1, hw2⟩ := List.mem_filter.mp hw
  obtain ⟨g, hg, rfl⟩ := List.mem_map.mp ((ok.ff f hf).2.2 w hw1)
  show outT x ((getDc td g.nm).getD (0, 0)) = !inS x (tdF gs ds g.nm)
  rw [(h.get ok.nd hg hw2).1]
  rfl
theorem Tw.miss (h : Tw gs ws i ds td) (ok : RkOk gs fl) (x : Int) : missT fl td x = (((prF gs fl ds).filter fun l => !l.all (inS x)).length : Int) := by
  unfold missT prF
  rw [List.filter_filter, List.filter_map, List.length_map]
  congr 2
  refine List.filter_congr fun f hf => ?_
  rw [h.out ok hf x]
  show _ = ((!(tfF gs ds f).all (inS x)) && !(tfF gs ds f).isEmpty)
  cases e : tfF gs ds f with
  | nil => rfl
  | cons a r => simp
theorem Tw.pos (h : Tw gs ws i ds td) (ok : RkOk gs fl) {l : Int} {L : List (Int × Int)} (hL : PosOk gs fl ds l L) (x : Int) : memP x L ↔ missT fl td x ≤ l := by
  rw [hL.2 x, dep_pt fun l hl => pr_ne hl, h.miss ok x]
  have := filt_split (fun l : List Stc => l.all (inS x)) (prF gs fl ds)
  omega
theorem Tw.mem (h : Tw gs ws i ds td) (ok : RkOk gs fl) {l : List Stc} (hl : l ∈ prF gs fl ds) {t : Stc} (ht : t ∈ l) : (t.lo, t.hi) ∈ td.map (·.2) := by
  obtain ⟨f, hf, rfl⟩ := List.mem_map.mp (List.mem_filter.mp hl).1
  obtain ⟨w, hw, rfl⟩ := List.mem_map.mp ht
  obtain ⟨hw1, hw2⟩ := List.mem_filter.mp hw
  obtain ⟨g, hg, rfl⟩ := List.mem_map.mp ((ok.ff f hf).2.2 w hw1)
  exact (h.get ok.nd hg hw2).2
end
end G
set_option Elab.async false
set_option linter.all false
set_option maxRecDepth 100000
set_option maxHeartbeats 2000000
namespace G
open PySem PySem.Spec PyProof.Rows L2 StX
/-- what a value was when the dict was locked -/
structure WasP where
  P : V → Prop
instance : Rep WasP := ⟨fun _ _ v w => w.P v, fun _ h => h, fun _ _ h => h, fun _ h => h⟩
end G
set_option Elab.async false
set_option linter.all false
set_option maxRecDepth 100000
set_option maxHeartbeats 2000000
namespace G
open PySem PySem.Spec PyProof.Rows L2 PySem.W
/-- what the module's names reach in n steps (each step from the newest alone; an object may stand there twice) -/
def refsB (g : Addr → Option Obj) (a : Addr) : List Addr := match g a with
  | some ⟨_, _, .func fd, _⟩ => He.refV fd.code ++ He.refV fd.defaults ++ He.refV fd.kwdefaults ++ fd.closure.map (·.2)
  | some ⟨_, _, .cls cd, _⟩ => [cd.ns]
  | some ⟨_, _, .dict es _, _⟩ => es.toList.flatMap fun e => He.refV e.val
  | some ⟨_, _, .seq its _, _⟩ => its.toList.flatMap He.refV
  | some ⟨.type n, _, .fields vs, _⟩ => if n == "property" || n == "classmethod" || n == "staticmethod" then vs.toList.flatMap He.refV else []
  | _ => []
def fro (g : Addr → Option Obj) : Nat → List Addr → List Addr
  | 0, as => as
  | n + 1, as => as ++ fro g n (as.flatMap (refsB g))
def asB (g : Addr → Option Obj) (n : Nat) : List Addr := fro g n [mainGlobals, cStatics]
abbrev FxV : Type := Option (Str × Str × Arguments × FuncBody × Scope × Addr × List Str × Addr)
def fx (K : Frag) (f : Addr) : FxV := match K.lookup f with
  | some ⟨_, _, .func fd, _⟩ => some (fd.name, fd.qualname, fd.params, fd.body, fd.scope, fd.globals, fd.closure.map (·.1), fd.builtins)
  | _ => none
def fxD (K : Frag) (f : Addr) : Value := match K.lookup f with
  | some ⟨_, _, .func fd, _⟩ => fd.defaults
  | _ => .none
def fxK (K : Frag) (f : Addr) : Value := match K.lookup f with
  | some ⟨_, _, .func fd, _⟩ => fd.kwdefaults
  | _ => .none
def fxC (K : Frag) (f : Addr) : Value := match K.lookup f with
  | some ⟨_, _, .func fd, _⟩ => fd.code
  | _ => .none
/-- a def of the text: where it stands, its names, its statement, what it closes over -/
structure FxS where
  at_ : Frag → Addr
  name : Str
  qual : Str
  st : Stmt
  cl : List Str
def FxS.val (d : FxS) : FxV := some (d.name, d.qual, defArgs d.st, FuncBody.stmts (defBody d.st), defScope d.st, mainGlobals, d.cl, builtinsNs)
theorem fx_ok {K : Frag} {f : Addr} {name qual : Str} {st : Stmt} (e : fx K f = some (name, qual, defArgs st, FuncBody.stmts (defBody st), defScope st, mainGlobals, [], builtinsNs)) :
    ∃ oc od osl doc pm an ct, K.lookup f = some ⟨oc, od, .func (fnOf name qual (defArgs st) (defBody st) (defScope st) (fxD K f) (fxK K f) doc pm an (fxC K f) ct), osl⟩ := by
  unfold fx at e
  unfold fxD fxK fxC
  cases q : K.lookup f with
  | none => rw [q] at e; cases e
  | some o =>
    obtain ⟨oc, od, dt, osl⟩ := o
    rw [q] at e
    cases dt with
    | func fd =>
      obtain ⟨n1, n2, n3, n4, n5, n6, n7, n8, n9, n10, n11, n12, n13, n14, n15⟩ := fd
      have e2 : (some (n1, n2, n3, n4, n5, n6, n7.map (·.1), n15) : FxV) = some (name, qual, defArgs st, FuncBody.stmts (defBody st), defScope st, mainGlobals, [], builtinsNs) := e
      simp only [Option.some.injEq, Prod.mk.injEq, List.map_eq_nil_iff] at e2
      obtain ⟨h1, h2, h3, h4, h5, h6, h7, h8⟩ := e2
      subst h1 h2 h3 h4 h5 h6 h7 h8
      exact ⟨oc, od, osl, n10, n11, n12, n14, rfl⟩
    | _ => cases e
def recB (K : Frag) (p : Addr) (T : String) (f : Addr) : Bool := match recIn K p T with
  | some (.ref g :: _) => decide (g = f)
  | _ => false
theorem recB_ok {K : Frag} {p f : Addr} {T : String} (h : recB K p T f = true) : ∃ rs, recIn K p T = some (.ref f :: rs) := by
  unfold recB at h
  split at h
  · rename_i g rs e
    rw [of_decide_eq_true h] at e
    exact ⟨rs, e⟩
  · cases h
def rf (K : Frag) (p : Addr) (T : String) : Addr := match recIn K p T with
  | some (.ref g :: _) => g
  | _ => 0
def cpA (K : Frag) (C : Addr) (m : Str) : Addr := match findCls K (.ref C) (.type "type") m with
  | some (.get _ (.ref p) _ _) => p
  | _ => 0
def cgB (K : Frag) (C : Addr) (gid : String) (m : Str) : Bool := match findCls K (.ref C) (.type "type") m with
  | some (.get (.builtin g) (.ref _) .none (.ref D)) => decide (g = gid) && decide (D = C)
  | _ => false
theorem cgB_ok {K : Frag} {C : Addr} {gid : String} {m : Str} (h : cgB K C gid m = true) : findCls K (.ref C) (.type "type") m = some (.get (.builtin gid) (.ref (cpA K C m)) .none (.ref C)) := by
  unfold cgB at h
  unfold cpA
  split at h
  · rename_i g p D e
    obtain ⟨h1, h2⟩ := Bool.and_eq_true_iff.mp h
    rw [e, of_decide_eq_true h1, of_decide_eq_true h2]
  · cases h
def cvB (K : Frag) (C : Addr) (m : Str) (f : Addr) : Bool := match findCls K (.ref C) (.type "type") m with
  | some (.val (.ref g)) => decide (g = f)
  | _ => false
theorem cvB_ok {K : Frag} {C f : Addr} {m : Str} (h : cvB K C m f = true) : findCls K (.ref C) (.type "type") m = some (.val (.ref f)) := by
  unfold cvB at h
  split at h
  · rename_i g e
    rw [e, of_decide_eq_true h]
  · cases h
def cbB (K : Frag) (C : Addr) (m : Str) (id : String) : Bool := match findCls K (.ref C) (.type "type") m with
  | some (.val (.builtin g)) => decide (g = id)
  | _ => false
theorem cbB_ok {K : Frag} {C : Addr} {m : Str} {id : String} (h : cbB K C m id = true) : findCls K (.ref C) (.type "type") m = some (.val (.builtin id)) := by
  unfold cbB at h
  split at h
  · rename_i g e
    rw [e, of_decide_eq_true h]
  · cases h
/-- an error class -/
def exB (K : Frag) (C : Addr) (bm : List Value) : Bool := match K.lookup C with
  | some ⟨.type n, _, .cls cd, sl⟩ => n == "type" && (match cd.mro, sl.toList with
    | .ref C' :: m, [_, _, _, _, some (.builtin n), _] => C' == C && n == "ValueError.__new__" && !cd.hasDel && decide (m = bm) && cd.hasDict
    | _, _ => false)
  | _ => false
theorem exB_ok {K : Frag} {C : Addr} {bm : List Value} (h : exB K C bm = true) : ∃ nm N qn bs sn sub ab col dd k0 k1 k2 k3 k5, K.lookup C = some (excClassObj nm qn C N bs bm true sn sub ab col dd k0 k1 k2 k3 k5 "ValueError.__new__") := by
  unfold exB at h
  split at h
  · rename_i n dd cd sl ho
    obtain ⟨h1, h⟩ := Bool.and_eq_true_iff.mp h
    split at h
    · rename_i C' m k0 k1 k2 k3 n2 k5 hm hs
      simp only [Bool.and_eq_true, beq_iff_eq, Bool.not_eq_true', decide_eq_true_iff] at h h1
      obtain ⟨⟨⟨⟨rfl, rfl⟩, hdel⟩, rfl⟩, hdct⟩ := h
      obtain ⟨nm, bs, mro, ns, qn, hd, sn, sub, ab, col, del⟩ := cd
      dsimp only at hm hdel hdct
      subst hm hdel hdct h1
      have hsl : sl = #[k0, k1, k2, k3, some (.builtin "ValueError.__new__"), k5] := by
        obtain ⟨l⟩ := sl
        simp only at hs
        rw [hs]
      subst hsl
      exact ⟨nm, ns, qn, bs, sn, sub, ab, col, dd, k0, k1, k2, k3, k5, ho⟩
    · cases h
  · cases h
def obsB (ex : List (Frag → Bool)) (fn : List FxS) (K : Frag) : Bool × List FxV := (ex.all fun b => b K, fn.map fun d => fx K (d.at_ K))
def valB (fn : List FxS) : Bool × List FxV := (true, fn.map FxS.val)
def SaysB (ex : List (Frag → Bool)) (fn : List FxS) (K : Frag) : Prop := obsB ex fn K = valB fn
def obsBG (n : Nat) (ex : List (Frag → Bool)) (fn : List FxS) (g : Addr → Option Obj) : Bool × List FxV := obsB ex fn (He.frG g (asB g n))
def hookB (n : Nat) (ex : List (Frag → Bool)) (fn : List FxS) : Hook where
  α := Bool × List FxV
  obs := fun s => obsBG n ex fn s.heap.get?
  val := fun _ => valB fn
  says := fun _ h => ∃ K : Frag, K.In h ∧ SaysB ex fn K
  of := fun _ _ e => ⟨_, He.frG_in, e⟩
  keeps := fun _ _ _ ⟨K, hK, c⟩ k => ⟨K, Frag.In.keeps hK k, c⟩
theorem obsBG_eq {n : Nat} {ex : List (Frag → Bool)} {fn : List FxS} {g : Addr → Option Obj} {s : Shared} (h : ∀ a, g a = s.heap.get? a) : obsBG n ex fn g = (hookB n ex fn).obs s := by
  have e : g = s.heap.get? := funext h
  rw [e] <;> rfl
section
variable {ex : List (Frag → Bool)} {fn : List FxS} {K : Frag}
theorem SaysB.fact (c : SaysB ex fn K) (i : Nat) {b : Frag → Bool} (h : ex[i]? = some b := by rfl) : b K = true :=
  List.all_eq_true.mp (show (ex.all fun b => b K) = true from congrArg (fun z : Bool × List FxV => z.1) c) b (List.mem_of_getElem? h)
theorem SaysB.fnc (c : SaysB ex fn K) (i : Nat) {d : FxS} (h : fn[i]? = some d := by rfl) : fx K (d.at_ K) = d.val := by
  have e : fn.map (fun d => fx K (d.at_ K)) = fn.map FxS.val := congrArg (fun z : Bool × List FxV => z.2) c
  have e2 : (fn.map fun d => fx K (d.at_ K))[i]? = (fn.map FxS.val)[i]? := by rw [e]
  rw [List.getElem?_map, List.getElem?_map, h] at e2
  exact Option.some.inj e2
end
theorem some3 {α β γ : Type} {a a' : α} {b b' : β} {c c' : γ} (h1 : a = a') (h2 : b = b') (h3 : c = c') : some (a, b, c) = some (a', b', c') := by
  subst h1 h2 h3
  rfl
end G
set_option Elab.async false
set_option linter.all false
set_option maxRecDepth 100000
set_option maxHeartbeats 2000000
namespace G
open PySem PySem.Spec PyProof.Rows L2 StX
instance {α : Type} [Rep α] [NoDc α] : NoDc (Ol α) := ⟨fun h d => ⟨d.1, d.2.imp fun _ _ x => NoDc.at_ h x⟩⟩
instance {α : Type} [Rep α] [NoDc α] : NoDc (Od α) := ⟨fun h d => ⟨d.1, d.2.imp fun _ _ x => NoDc.at_ h x⟩⟩
section
variable {W : Wd} {F : Hp} {L : OwnH} {Γ : Gam} {ta tb te : TE} {tt : TT} {t u : TS} {R : PoH} {g : TG}
/-- d.pop(k), d an own dict -/
def dropDc {β : Type} (l : List (Str × β)) (k : Str) : List (Str × β) := l.filter fun e => decide (e.1 ≠ k)
end
end G
set_option Elab.async false
set_option linter.all false
set_option maxRecDepth 100000
set_option maxHeartbeats 2000000
namespace G
open PySem PySem.Spec PyProof.Rows L2 StX
/-- readings put in one after another, in rack order -/
structure Rdi (gs : List Gau) (ws : List Str) (i : Nat) (ds : List (Str × Int)) (td : List (Str × (Int × Int))) : Prop where
  tw : Tw gs ws i ds td
  sub : (ds.map (·.1)).Sublist (ws.take i)
theorem Rdi.put {gs : List Gau} {ws : List Str} {i : Nat} {ds : List (Str × Int)} {td : List (Str × (Int × Int))} (h : Rdi gs ws i ds td) (nw : ws.Nodup) (ng : (gs.map Gau.nm).Nodup) {g : Gau} (hg : g ∈ gs) {w : Str} (hn : g.nm = w) (hw : ws[i]? = some w) (d : Int) :
    Rdi gs ws (i + 1) (putDc ds w d) (putDc td w (d - sbF g, d + saF g)) := by
  refine ⟨h.tw.put nw ng hg hn hw d, ?_⟩
  have hi := (List.getElem?_eq_some_iff.mp hw).1
  have hnk : w ∉ ds.map (·.1) := fun q => by
    have q := h.tw.keys w q
    obtain ⟨j, hj, e⟩ := List.getElem_of_mem q
    rw [List.length_take] at hj
    rw [List.getElem_take] at e
    have e2 := (List.getElem?_eq_some_iff.mp hw).2
    exact List.pairwise_iff_getElem.mp nw j i (by omega) hi (by omega) (e.trans e2.symm)
  rw [putDc_fr hnk, List.map_append, List.take_succ, hw]
  exact List.Sublist.append h.sub (List.Sublist.refl _)
end G
namespace G
open PySem PySem.Spec PyProof.Rows L2 StX
end G
namespace G
open PySem PySem.Spec PyProof.Rows L2 StX
end G
set_option Elab.async false
set_option linter.all false
set_option maxRecDepth 100000
set_option maxHeartbeats 2000000
namespace G
open PySem PySem.Spec PyProof.Rows L2 StX
structure CsT (B : Bs) : Prop where
  cl : L2.Cls B.K (B.cl .Case)
  n1 : NoAttr B.K (B.cl .Case) "level"
  n2 : NoAttr B.K (B.cl .Case) "readings"
  n3 : NoAttr B.K (B.cl .Case) "lot"
  n4 : NoAttr B.K (B.cl .Case) "reply"
structure Cs where
  lv : Int
  ds : List (Str × Int)
  lot : List Str
  rp : Int
def csF (lv : Int) (y z : V) (rp : Int) : List (Str × V) := [("level", .int lv), ("readings", y), ("lot", z), ("reply", .int rp)]
instance : Rep Cs :=
  ⟨fun W H v c => ∃ a dx y z, v = .ref a ∧ ¬ W.mu a ∧ H a = some (.ins (W.B.cl .Case) dx (csF c.lv y z c.rp)) ∧ den W H y (Dc.mk c.ds) ∧ den W H z c.lot ∧ CsT W.B,
   fun e ⟨a, dx, y, z, hv, m, h, h1, h3, h2⟩ => ⟨a, dx, y, z, hv, m, e _ _ m h, Rep.mono e h1, Rep.mono e h3, h2⟩,
   fun D n ⟨a, dx, y, z, hv, m, h, h1, h3, h2⟩ => ⟨a, dx, y, z, hv, mu_grow n m h, h, Rep.grow D n h1, Rep.grow D n h3, h2⟩,
   fun D ⟨a, dx, y, z, hv, m, h, h1, h3, h2⟩ => ⟨a, dx, y, z, hv, fun z => m (.inl z), h, Rep.shrink D h1, Rep.shrink D h3, h2⟩⟩
instance : Ins Cs .Case ["level", "readings", "lot", "reply"] := ⟨fun ⟨a, dx, y, z, hv, m, h, _⟩ => ⟨a, dx, _, hv, m, h, rfl⟩⟩
theorem Dk.drop {β : Type} {f : V → β → Prop} (k : Str) : ∀ {kvs : List (Key × V)} {l : List (Str × β)}, Dk f kvs l → Dk f (dropK kvs (.inr k)) (dropDc l k)
  | _, _, .nil => .nil
  | _, _, .cons (k := a) h t => by
    unfold dropK dropDc
    by_cases e : a = k
    · rw [List.filter_cons_of_neg (by simpa using inr_iff.mpr e), List.filter_cons_of_neg (by simpa using e)]
      exact t.drop k
    · rw [List.filter_cons_of_pos (by simpa using fun q => e (inr_iff.mp q)), List.filter_cons_of_pos (by simpa using e)]
      exact .cons h (t.drop k)
theorem leD_anti {a b : Str} (h1 : leD a b = true) (h2 : leD b a = true) : a = b := by
  have h3 : (!PySem.W.dataLt (.str b) (.str a)) = true := h1
  have h4 : (!PySem.W.dataLt (.str a) (.str b)) = true := h2
  rw [PySem.W.dataLt_str] at h3 h4
  have h5 : ¬ b.cps.toList < a.cps.toList := by simpa using h3
  have h6 : ¬ a.cps.toList < b.cps.toList := by simpa using h4
  have h7 : a.cps.toList = b.cps.toList := List.le_antisymm h5 h6
  cases a; cases b
  simpa using h7
theorem sortD_congr {as bs : List Str} (h : as.Perm bs) : sortD as = sortD bs :=
  (((sortD_perm as).trans h).trans (sortD_perm bs).symm).eq_of_pairwise (fun a b _ _ h1 h2 => leD_anti h1 h2) (sortD_sorted as) (sortD_sorted bs)
end G
namespace G
open PySem PySem.Spec PyProof.Rows L2 StX
section
variable {W : Wd} {Γ : Gam} {ta tb : TE} {K : PySem.W.Frag}
theorem ev_notInS {k : Bool → Prop} (hK : W.B.K = K) (h : EvK W ta Γ fun x : Str => EvK W tb Γ fun as : List Str => k (!decide (x ∈ as))) : EvK W (tOp (rIn K true) ta tb) Γ k := by
  subst hK
  refine ev_two (h.imp fun x hx => hx.imp fun as z v u H Q o dx ⟨p, vs, hu, hp, hd⟩ c => ?_)
  have dx' : v = V.str x := dx
  subst dx' hu
  have e := Dl.strs hd
  refine ⟨p, vs, rfl, .inl hp.sq, rfl, by rw [e]; exact flat_strs as, c _ H _ (Ext.refl o) ?_ z⟩
  show V.bl (!inV (V.str x) vs) = _
  rw [e, inV_strs]
end
end G
namespace G
open PySem PySem.Spec PyProof.Rows L2 StX
end G
set_option Elab.async false
set_option linter.all false
set_option maxRecDepth 100000
set_option maxHeartbeats 2000000
namespace G
open PySem PySem.Spec PyProof.Rows L2 StX
end G
set_option Elab.async false
set_option linter.all false
set_option maxRecDepth 100000
set_option maxHeartbeats 2000000
namespace G
open PySem PySem.Spec PyProof.Rows L2 StX
abbrev blkx (X : Cx) (s : Shared) (H : Hp) (scope : Scope) (cenv : Env) (fp : List Addr) (xe : Value → Shared → Prop) : Cx := { X.blk s H scope cenv fp with xe := xe }
section
variable {Y : Cx} {xe : Value → Shared → Prop} {pins : List (Addr × Obj)} {σ : L2.St} {H : Hp} {s : Shared}
theorem okx (ok : Y.Ok) : ({ Y with xe := xe } : Cx).Ok :=
  ⟨ok.mod, ok.kind, ok.glob, ok.blt, ok.above, ok.inj, ok.has, ok.cab, ok.hd, ok.frames, ok.stk, ok.exf, ok.bs, ok.bsz, ok.noex, ok.exfs, ok.funs, ok.frf⟩
theorem unokx (ok : ({ Y with xe := xe } : Cx).Ok) : Y.Ok :=
  ⟨ok.mod, ok.kind, ok.glob, ok.blt, ok.above, ok.inj, ok.has, ok.cab, ok.hd, ok.frames, ok.stk, ok.exf, ok.bs, ok.bsz, ok.noex, ok.exfs, ok.funs, ok.frf⟩
theorem inx (I : Inv Y pins σ H s) : Inv { Y with xe := xe } pins σ H s := ⟨okx I.ok, I.os, I.bare, I.base, I.loc, I.cell, I.free, I.freeC, I.pin, I.hok, I.len⟩
theorem uninx (I : Inv { Y with xe := xe } pins σ H s) : Inv Y pins σ H s := ⟨unokx I.ok, I.os, I.bare, I.base, I.loc, I.cell, I.free, I.freeC, I.pin, I.hok, I.len⟩
end
section
variable {X : Cx} {pins pins1 : List (Addr × Obj)} {σ σ1 : L2.St} {H3 H1 : Hp} {s3 s1 s' : Shared} {scope : Scope} {ce : Env} {fp : List Addr} {xe : Value → Shared → Prop} {E : XK} {e : Value}
/-- what a call of the block lets out goes on in the def's own frame -/
theorem lcx_raise (hs : X.stack = X.env :: X.outer) (hf : X.env.frame = some X.env.locals) (tk : Takes X (fun cls d _ H => E cls d H)) (I3 : Inv X pins σ H3 s3) (cL : ce.locals = s3.heap.objs.size) (cF : ce.frame = X.env.frame)
    (f3 : ∀ b ∈ fp, FpOk X pins H3 b) (I1 : Inv (blkx X s3 H3 scope ce fp xe) pins1 σ1 H1 s1) (c : L2.CX X.prog X.w X.stack H1 s1 E e s') :
    notedBy (model X.prog X.w) X.A ce (CompFails (model X.prog X.w) X.A X.xe ce) e s' := by
  have x : XE (blkx X s3 H3 scope ce fp xe) (fun cls d _ H => E cls d H) e s' := XE.of_call (W := fun cls d _ H => E cls d H) I1 (fun _ _ _ h => h) c
  obtain ⟨a2, _, _, cls2, d2, rfl, ⟨_, _, _, t2⟩, _⟩ := c
  obtain ⟨a, B, sI, p, τ, H', cls, d, ea, J, nb, up, sky, na, os, ag, w⟩ := x
  cases ea
  have fl : HandSPX.FlyingZ B X.stack a2 (Zc cls d) s'.heap := by
    obtain ⟨oe, vs, T, oT, ts, he, _, hd, h1, _, _, hT, hdT, h3⟩ := t2
    rcases sky with ⟨_, _, _, oe', vs', he', _, hd', h1'⟩ | fl | ⟨_, _, _, oe', vs', T', oT', ts', he', _, hd', h1', _, _, hT', hdT', h3'⟩
    · rw [he] at he'
      cases he'
      rw [hd] at hd'
      cases hd'
      rw [h1] at h1'
      cases h1'
    · exact fl
    · rw [he] at he'
      cases he'
      rw [hd] at hd'
      cases hd'
      rw [h1] at h1'
      cases h1'
      rw [hT] at hT'
      cases hT'
      rw [hdT] at hdT'
      cases hdT'
      rw [h3] at h3'
      simp [rawInt] at h3'
  have hfr : X.A.frames = some (X.env :: X.outer) := by rw [I3.ok.frames, hs]
  rw [hs] at fl
  show wpAny _ X.A (noteFrame (.ref a2) ce) _ _ s'
  rw [noteFrame_env _ cF]
  refine HandSPX.looks_onZ Zc.steady hfr hf fl fun h1 hd1 up1 => ?_
  obtain ⟨m, hn, _⟩ := J.loc
  have hn : sI.heap.Ns ce.locals m := hn
  have hn1 : h1.Ns ce.locals m := (hn.upToSlots up).upToSlots up1
  refine ⟨m, hn1, fun h2 m2 hn2 sb => ?_⟩
  have hne : ∀ {h : Heap} {b : Addr} {o : Obj}, (PySem.W.hideAll h [ce.locals]).get? b = some o → b ≠ ce.locals := fun {h b o} q z => by
    rw [PySem.W.hideAll_none _ (by rw [z]; exact List.mem_singleton.mpr rfl)] at q
    cases q
  have hge : ∀ {h : Heap} {b : Addr} {o : Obj}, h.get? b = some o → b ≠ ce.locals → (PySem.W.hideAll h [ce.locals]).get? b = some o := fun {h b o} q n =>
    PySem.W.hideAll_get _ q fun z => n (List.mem_singleton.mp z)
  have hno : ∀ {b : Addr}, B.get? b = none → (PySem.W.hideAll B [ce.locals]).get? b = none := fun {b} q => by
    cases r : (PySem.W.hideAll B [ce.locals]).get? b with
    | none => rfl
    | some o =>
      have z := PySem.W.of_hideAll _ r
      rw [q] at z
      cases z
  have held : HandSPX.HeldZ (PySem.W.hideAll B [ce.locals]) (X.env :: X.outer) a2 (Zc cls d) X.env.locals h2 := by
    obtain ⟨b1, b0, ff, oe, vs, T, oT, ts, he, hz, hd, hv1, hnT, hTe, hT, hdT, hv3⟩ := hd1
    obtain ⟨oL, es, ep, hoL, hdL, _⟩ := id hn1
    have na' : a2 ≠ ce.locals := fun z => by
      rw [z, hoL] at he
      cases he
      rw [hdL] at hd
      cases hd
    have nT' : T ≠ ce.locals := fun z => by
      rw [z, hoL] at hT
      cases hT
      rw [hdL] at hdT
      cases hdT
    exact ⟨fun b o eb => (sb.2 b (hne eb)).trans (b1 b o (PySem.W.of_hideAll _ eb)), hno b0, funFrames_none (Heap.FunFrames.sameBut sb hn2 ff) (fun L hL => hno (ff.mem hL).1), oe, vs, T, oT, ts, (sb.2 a2 na').trans he, hz, hd, hv1, hno hnT, hTe, (sb.2 T nT').trans hT, hdT, hv3⟩
  have h4 := held
  obtain ⟨_, _, _, oe, vs, T, oT, ts, he, _, hd, hv1, _⟩ := h4
  unfold PySem.passOn
  refine wpAny_bind (wpAny_field he hd hv1 ?_)
  rw [if_neg (show ¬ ((Value.ref T == Value.none) = true) from by simp)]
  rw [cF, hf]
  refine wpAny_bind (HandSPX.setFlight_onZ held fun h5 held5 up5 => ?_)
  refine wpAny_throw ?_
  have lt : ∀ {b : Addr} {o : Obj}, s3.heap.get? b = some o → b ≠ ce.locals := fun q => by
    rw [cL]
    exact Nat.ne_of_lt (Heap.lt_size q)
  have fC : H' ce.locals = none := J.free
  refine tk _ _ ⟨a2, PySem.W.hideAll B [ce.locals], { sI with heap := PySem.W.hideAll sI.heap [ce.locals] }, pins, σ, H', cls, d, rfl, ?_, fun b o q hb => hge (nb b o (PySem.W.of_hideAll _ q) hb) (hne q), fun b o q nf => ?_, .inr (.inr (hs.symm ▸ held5)), na, os, ag, w⟩
  · refine I3.call' (ch := fp) J.os ⟨fun b o q n hb hx => hge (J.base.keep b o q n hb hx) (lt q), fun b o q n hb hx => ?_, J.base.free, fun b o q hx => ?_, J.base.tups, J.base.frzs, J.base.tbls⟩ (fun b o q => (J.hok b o q).stay (fun c u hc r => hge r fun z => ?_) (fun _ r => r) fun _ _ r => r) J.bare
      fun b hb => ⟨(f3 b hb).2.2.2.1, (f3 b hb).2.1, (f3 b hb).2.2.2.2.1, (f3 b hb).2.2.2.2.2⟩
    · obtain ⟨sl, r⟩ := J.base.slot b o q n hb hx
      exact ⟨sl, hge r (lt q)⟩
    · obtain ⟨o', r⟩ := J.base.there b o q hx
      exact ⟨o', hge r (lt q)⟩
    · subst z
      rcases hc with hc | hc
      · rw [← hc, fC] at q
        cases q
      · rw [fC] at hc
        cases hc
  · have n := hne q
    obtain ⟨sl, q1⟩ := up b o (PySem.W.of_hideAll _ q) nf
    obtain ⟨sl2, q2⟩ := up1 b _ q1 nf
    obtain ⟨sl3, q3⟩ := up5 b _ ((sb.2 b n).trans q2) nf
    exact ⟨sl3, q3⟩
end
section
variable {X : Cx} {E : XK}
/-- a comprehension whose tests or element may let an error out of the def -/
theorem lcx_core {pins : List (Addr × Obj)} {s : Shared} {σ : L2.St} {H : Hp} {Q : VK} {elt tg iter : Expr} {ifs : List Expr} {scope : Scope} {own : List (Str × Nat)} {pos pos' : Pos} {wi : TI} {g : TG} {tt : TT} {te : TE} {use : Option (Value → Sem Unit)} {Qf : Value → Shared → Prop}
    (hs : X.stack = X.env :: X.outer) (hf : X.env.frame = some X.env.locals) (tk : Takes X (fun cls d _ H => E cls d H)) (hc : X.calm = true) (hN : X.N.Nodup) (I : Inv X pins σ H s) (hi : L2.PI X tg iter wi) (ok : BlkOk X.N X.env.scope scope own)
    (hg : ∀ (s : Shared) (H : Hp) (C : Addr) (cl : List (Str × Addr)) (fp : List Addr), PG (X.blk s H scope (compEnvC scope cl C X.env) fp) tg g)
    (ht : ∀ (s : Shared) (H : Hp) (C : Addr) (cl : List (Str × Addr)) (fp : List Addr) (xe : Value → Shared → Prop), (∀ τ, PassesAt (L2.CX X.prog X.w) (blkx X s H scope (compEnvC scope cl C X.env) fp xe) τ E) → PTs (blkx X s H scope (compEnvC scope cl C X.env) fp xe) ifs tt)
    (he : ∀ (s : Shared) (H : Hp) (C : Addr) (cl : List (Str × Addr)) (fp : List Addr) (xe : Value → Shared → Prop), (∀ τ, PassesAt (L2.CX X.prog X.w) (blkx X s H scope (compEnvC scope cl C X.env) fp xe) τ E) → L2.PE (blkx X s H scope (compEnvC scope cl C X.env) fp xe) elt te)
    (hfs : ∀ x, foldedSetIterable iter X.env x = pure x) (h : tLc wi g tt te (own.map (·.2)) σ H Q)
    (hRR : ∀ D (ce : Env) s' m H', Inv X pins σ H' s' → Q (.ref D) H' → s'.heap.Ns ce.locals m → FpOk X pins H' ce.locals → compEnds (model X.prog X.w) X.A X.xe use Qf (.ref D) ce (.ok .next) s') :
    wpAny (model X.prog X.w) X.A (comprehension (.ListComp elt [⟨tg, iter, ifs, 0⟩] scope pos) scope X.env pos' (newList []) false (eval iter X.env) use) Qf X.xe s := by
  have hfree : ∀ y ∈ scope.names, y.2 = .free → ∃ c, X.env.cells.lookup y.1 = some c := fun y hy q => (ok.free y hy q).elim (fun k => I.ok.has _ (.inl k)) fun k => I.ok.has _ (.inr k)
  refine comprehension_at (use := use) rfl hfs (closure_ok hfree) ok.kind (fun y hy q => by rw [ok.uniq y hy, q]) (thn (hi.run pins s σ H _ I h) fun xv s1 hx => thn hx fun itv s2 h2 => ?_)
  obtain ⟨it, fp, tn, J, H2, rfl, I2, T, st2, f2, q⟩ := h2
  refine wpAny_newObj_type (newEnv_comp ?_) (by show 0 ≤ sizeLine; decide)
  generalize hD : s2.heap.objs.size = D
  obtain ⟨W, ⟨m0, w0⟩, turn⟩ := q D (I2.hok.fresh (Nat.le_of_eq hD))
  -- the list is laid
  generalize hs3 : ({ s2 with heap := s2.heap.push { cls := .type "list", data := .seq ([] : List Value).toArray } } : Shared) = s3
  have h3 : s3.heap = s2.heap.push { cls := .type "list", data := .seq ([] : List Value).toArray } := by rw [← hs3]
  have old : ∀ b o, s2.heap.get? b = some o → s3.heap.get? b = some o := fun b o r => by
    rw [h3]
    exact Heap.get?_push_of_some _ r
  have I3 : Inv X pins σ (upd H2 D (.lst [])) s3 := by
    rw [← hs3]
    refine I2.laid (t' := s2.toks) (fun b o r => Heap.get?_push_of_some _ r) (Nat.le_of_eq hD) ⟨Nat.zero_le _, [], 0, .nil, ?_⟩
    rw [← hD]
    exact Heap.get?_push_size _ rfl
  have f3 : ∀ b ∈ fp, FpOk X pins (upd H2 D (.lst [])) b ∧ b < s3.heap.objs.size := fun b hb => by
    obtain ⟨o, r, _⟩ := T.obj _ _ st2 b hb
    have lt := Heap.lt_size r
    exact ⟨⟨by rw [upd_ne (by rw [← hD]; exact Nat.ne_of_lt lt)]; exact (f2 b hb).1, (f2 b hb).2⟩, Heap.lt_size (old b o r)⟩
  -- the block's own state
  have I4 := block_start I3 ok hN f3
  have kp : ∀ b o, s3.heap.get? b = some o → (pushCells (s3.heap.push { cls := .type "dict", data := .dict #[] }) scope.names).get? b = some o := fun b o r => pushCells_keeps _ _ _ _ (Heap.get?_push_of_some _ r)
  have pg := hg s3 (upd H2 D (.lst [])) s3.heap.objs.size (cellsFrom (s3.heap.objs.size + 1) scope.names (cloFrom X.env.cells scope.names [])) fp
  have pt := ht s3 (upd H2 D (.lst [])) s3.heap.objs.size (cellsFrom (s3.heap.objs.size + 1) scope.names (cloFrom X.env.cells scope.names [])) fp
  have pe := he s3 (upd H2 D (.lst [])) s3.heap.objs.size (cellsFrom (s3.heap.objs.size + 1) scope.names (cloFrom X.env.cells scope.names [])) fp
  show codeAny _ _ (.compStart (.ListComp elt [⟨tg, iter, ifs, 0⟩] scope pos) 0 (.ref it) (.ref D) (compEnvC scope (cellsFrom (s3.heap.objs.size + 1) scope.names (cloFrom X.env.cells scope.names [])) s3.heap.objs.size X.env))
    (compEnds (model X.prog X.w) X.A X.xe use Qf (.ref D) (compEnvC scope (cellsFrom (s3.heap.objs.size + 1) scope.names (cloFrom X.env.cells scope.names [])) s3.heap.objs.size X.env)) { s3 with heap := pushCells (s3.heap.push { cls := .type "dict", data := .dict #[] }) scope.names }
  have cF : (compEnvC scope (cellsFrom (s3.heap.objs.size + 1) scope.names (cloFrom X.env.cells scope.names [])) s3.heap.objs.size X.env).frame = X.env.frame := rfl
  have cL : (compEnvC scope (cellsFrom (s3.heap.objs.size + 1) scope.names (cloFrom X.env.cells scope.names [])) s3.heap.objs.size X.env).locals = s3.heap.objs.size := rfl
  generalize compEnvC scope (cellsFrom (s3.heap.objs.size + 1) scope.names (cloFrom X.env.cells scope.names [])) s3.heap.objs.size X.env = ce at I4 pg pt pe cF cL ⊢
  have st3 : tn 0 s3.heap := T.keep _ _ _ st2 fun b _ o r => old b o r
  have n3 : ∀ b ∈ fp, (upd H2 D (.lst [])) b = none := fun b hb => (f3 b hb).1.1
  generalize upd H2 D (.lst []) = H3 at I3 I4 pg pt pe w0 f3 n3
  generalize hs4 : ({ s3 with heap := pushCells (s3.heap.push { cls := .type "dict", data := .dict #[] }) scope.names } : Shared) = s4 at I4 ⊢
  have st4 : tn 0 s4.heap := T.keep _ _ _ st3 fun b _ o r => by
    rw [← hs4]
    exact kp b o r
  -- what an error owes
  have pass : ∀ τ, PassesAt (L2.CX X.prog X.w) (blkx X s3 H3 scope ce fp (notedBy (model X.prog X.w) X.A ce fun x s' => compEnds (model X.prog X.w) X.A X.xe use Qf (.ref D) ce (.error x) s')) τ E := fun τ pins' H' s' x s'' J c => by
    have z := lcx_raise hs hf tk I3 cL cF (fun b hb => (f3 b hb).1) J c
    cases use <;> exact z
  have pt := pt _ pass
  have pe := pe _ pass
  have walk : ∀ {σ' : L2.St} {H' : Hp} {s' : Shared}, Inv (X.blk s3 H3 scope ce fp) [] σ' H' s' → (∀ b ∈ fp, H' b = none) → ∀ b ∈ fp, FpOk (X.blk s3 H3 scope ce fp) [] H' b := fun J n b hb =>
    ⟨n b hb, (J.ok.exf b hb).1, J.ok.exfs b hb, .inl hb, (J.ok.exf b hb).2, fun p hp => absurd (show p ∈ ([] : List (Addr × Obj)) ++ [] from hp) (by simp)⟩
  have loop : codeAny (model X.prog X.w) X.A (.compLoop (.ListComp elt [⟨tg, iter, ifs, 0⟩] scope pos) 0 (.ref it) (.ref D) ce) (compEnds (model X.prog X.w) X.A X.xe use Qf (.ref D) ce) s4 := by
    refine compLoop_any (fun n s' => ∃ i H', Inv (X.blk s3 H3 scope ce fp) [] (wipe σ (own.map (·.2))) H' s' ∧ tn i s'.heap ∧ (∀ b ∈ fp, H' b = none) ∧ W i n H') ?_ m0 ⟨0, H3, I4, st4, n3, w0⟩
    rintro n s5 ⟨i, H5, I5, st5, n5, w5⟩
    rcases turn i n H5 w5 with ⟨stop, qq⟩ | ⟨go, Nx, hNx, step⟩
    · refine thnF (T.done (X.blk s3 H3 scope ce fp) rfl rfl rfl hc i [] s5 _ H5 (fun _ _ => False) I5 (walk I5 n5) st5 stop) fun r s6 ⟨hr, I6⟩ => ?_
      subst hr
      obtain ⟨m, hn, _⟩ := I6.loc
      have free : H5 ce.locals = none := I6.free
      exact hRR D ce s6 m H5 (I3.call' (ch := fp) I6.os I6.base I6.hok I6.bare fun b hb => ⟨(f3 b hb).1.2.2.2.1, (f3 b hb).1.2.1, (f3 b hb).1.2.2.2.2.1, (f3 b hb).1.2.2.2.2.2⟩) qq hn (I3.fpOk (Nat.le_of_eq cL.symm) free)
    · refine thnF (T.item (X.blk s3 H3 scope ce fp) rfl rfl rfl hc i [] s5 _ H5 (fun _ _ => False) I5 (walk I5 n5) st5 go) fun r s6 ⟨u, hr, h6⟩ => ?_
      subst hr
      refine thnF h6 fun _ s7 ⟨x, H7, I7, r7, y7, st7, n7⟩ => ?_
      have fin : ∀ {τ : L2.St} {s' : Shared} {H' : Hp}, wipe τ (own.map (·.2)) = wipe σ (own.map (·.2)) → Inv (X.blk s3 H3 scope ce fp) ([] ++ pinsAt fp s7.heap) τ H' s' → Nx H' →
          ∃ m, m < n ∧ ∃ i H', Inv (X.blk s3 H3 scope ce fp) [] (wipe σ (own.map (·.2))) H' s' ∧ tn i s'.heap ∧ (∀ b ∈ fp, H' b = none) ∧ W i m H' := fun {τ s' H'} hw J nx => by
        obtain ⟨m', hm, w'⟩ := hNx H' nx
        have pin : ∀ b ∈ fp, ∀ o, s7.heap.get? b = some o → s'.heap.get? b = some o ∧ H' b = none := fun b hb o r => by
          have z := J.pin (b, o) (List.mem_append_right _ (List.mem_append_right _ (mem_pinsAt hb r)))
          exact ⟨z.1, z.2.1⟩
        refine ⟨m', hm, i + 1, H', (J.unpinned (pins := [])).weak (by rw [← hw, wipe_length]) (fun j v r => ?_), T.keep _ _ _ st7 fun b hb o r => (pin b hb o r).1, fun b hb => ?_, w'⟩
        · rw [← hw] at r
          exact (wipe_some r).1
        · obtain ⟨o, r, _⟩ := T.obj _ _ st7 b hb
          exact (pin b hb o r).2
      refine thnF (pg.run _ s7 _ H7 x u _ (I7.pinned (walk I7 n7) (T.obj _ _ st7)) r7 (step x H7 y7)) fun _ s8 ⟨σ8, H8, I8, hw8, q8⟩ => ?_
      refine thn (pt.run _ s8 σ8 H8 _ (inx I8) q8) fun b s9 ⟨H9, I9, q9⟩ => ?_
      cases b with
      | false =>
        simp only [Bool.false_eq_true, if_false] at q9 ⊢
        exact fin hw8 (uninx I9) q9
      | true =>
        simp only [if_true] at q9 ⊢
        refine thn (pe.run _ s9 σ8 H9 _ I9 q9) fun z s10 ⟨yv, H10, I10, r10, acc, hD10, hz10, nx⟩ => ?_
        exact app_ok (X := X.blk s3 H3 scope ce fp) (uninx I10) hD10 hz10 r10 fun s11 I11 => fin hw8 I11 nx
  exact codeAny_compStart_list loop (T.self X.A 0 _ _ _ st4 loop)
theorem pe_lcX {elt tg iter : Expr} {ifs : List Expr} {scope : Scope} {own : List (Str × Nat)} {pos : Pos} {wi : TI} {g : TG} {tt : TT} {te : TE} (hs : X.stack = X.env :: X.outer) (hf : X.env.frame = some X.env.locals) (tk : Takes X (fun cls d _ H => E cls d H)) (hc : X.calm = true) (hN : X.N.Nodup) (hi : L2.PI X tg iter wi) (ok : BlkOk X.N X.env.scope scope own)
    (hg : ∀ (s : Shared) (H : Hp) (C : Addr) (cl : List (Str × Addr)) (fp : List Addr), PG (X.blk s H scope (compEnvC scope cl C X.env) fp) tg g)
    (ht : ∀ (s : Shared) (H : Hp) (C : Addr) (cl : List (Str × Addr)) (fp : List Addr) (xe : Value → Shared → Prop), (∀ τ, PassesAt (L2.CX X.prog X.w) (blkx X s H scope (compEnvC scope cl C X.env) fp xe) τ E) → PTs (blkx X s H scope (compEnvC scope cl C X.env) fp xe) ifs tt)
    (he : ∀ (s : Shared) (H : Hp) (C : Addr) (cl : List (Str × Addr)) (fp : List Addr) (xe : Value → Shared → Prop), (∀ τ, PassesAt (L2.CX X.prog X.w) (blkx X s H scope (compEnvC scope cl C X.env) fp xe) τ E) → L2.PE (blkx X s H scope (compEnvC scope cl C X.env) fp xe) elt te)
    (hfs : ∀ x, foldedSetIterable iter X.env x = pure x := by intro _; rfl) : L2.PE X (.ListComp elt [⟨tg, iter, ifs, 0⟩] scope pos) (tLc wi g tt te (own.map (·.2))) := by
  refine ⟨fun pins s σ H Q I h => ?_⟩
  rw [eval_ListComp]
  refine lcx_core hs hf tk hc hN I hi ok hg ht he hfs h fun D ce s' m H' I' q hn f => ⟨m, hn, fun h'' sb => ?_⟩
  obtain ⟨f0, f1, f2, f3, f4, f5⟩ := f
  exact ⟨.ref D, H', I'.turned (t' := s'.toks) (fun b o hb r => (sb.2 b hb).trans r) f0 f1 f3 f4 f5, rfl, q⟩
/-- name = [..], the name a local -/
theorem ps_setLcX {i : Nat} {y : Str} {py : Pos} {elt tg iter : Expr} {ifs : List Expr} {scope : Scope} {own : List (Str × Nat)} {pos spos : Pos} {wi : TI} {g : TG} {tt : TT} {te : TE} (hs : X.stack = X.env :: X.outer) (hf : X.env.frame = some X.env.locals) (tk : Takes X (fun cls d _ H => E cls d H)) (hc : X.calm = true) (hN : X.N.Nodup) (hy : X.N[i]? = some y) (hyl : X.env.scope.names.lookup y = some .local)
    (hsw : swapsWith (.ListComp elt [⟨tg, iter, ifs, 0⟩] scope pos) (some (.Name y py)) spos.line X.env = pure true) (hi : L2.PI X tg iter wi) (ok : BlkOk X.N X.env.scope scope own)
    (hg : ∀ (s : Shared) (H : Hp) (C : Addr) (cl : List (Str × Addr)) (fp : List Addr), PG (X.blk s H scope (compEnvC scope cl C X.env) fp) tg g)
    (ht : ∀ (s : Shared) (H : Hp) (C : Addr) (cl : List (Str × Addr)) (fp : List Addr) (xe : Value → Shared → Prop), (∀ τ, PassesAt (L2.CX X.prog X.w) (blkx X s H scope (compEnvC scope cl C X.env) fp xe) τ E) → PTs (blkx X s H scope (compEnvC scope cl C X.env) fp xe) ifs tt)
    (he : ∀ (s : Shared) (H : Hp) (C : Addr) (cl : List (Str × Addr)) (fp : List Addr) (xe : Value → Shared → Prop), (∀ τ, PassesAt (L2.CX X.prog X.w) (blkx X s H scope (compEnvC scope cl C X.env) fp xe) τ E) → L2.PE (blkx X s H scope (compEnvC scope cl C X.env) fp xe) elt te)
    (hfs : ∀ x, foldedSetIterable iter X.env x = pure x := by intro _; rfl) : PS X (.Assign [.Name y py] (.ListComp elt [⟨tg, iter, ifs, 0⟩] scope pos) spos) (tAsg (tLc wi g tt te (own.map (·.2))) (gName i)) := by
  refine ⟨fun pins s σ H D I h => ?_⟩
  rw [exec_Assign_Name_used _ _ _ _ hsw]
  refine wpAny_bind (wpAny_standAt (wpAny_bind ?_))
  show wpAny _ X.A (do let _ ← comprehension (.ListComp elt [⟨tg, iter, ifs, 0⟩] scope pos) scope X.env (firstIterPos [⟨tg, iter, ifs, 0⟩] pos) (newList []) false (eval iter X.env) (some (assign (.Name y py) X.env))) _ _ s
  have h : tLc wi g tt te (own.map (·.2)) σ H (fun x H1 => gName i x σ H1 D.nx) := h
  refine wpAny_bind (thn (lcx_core (Qf := fun _ s' => SP X pins D .next s') hs hf tk hc hN I hi ok hg ht he hfs h fun L ce s' m H' I' q hn f => ?_) fun _ s' hq => wpAny_pure (wpAny_pure hq))
  show wpAny _ _ (assign (.Name y py) X.env (.ref L)) _ _ _
  refine wpAny_assign_Name (store_ok2 (v := V.ref L) I' hN hy (.inl hyl) rfl (fun s2 I2 ⟨a, sb, ha⟩ => ?_) (.inr hyl))
  obtain ⟨f0, f1, f2, f3, f4, f5⟩ := f
  have ne : ce.locals ≠ a := ha.elim (fun z => by rw [z]; exact f1) fun z r => f4 y a z r.symm
  exact ⟨m, hn.sameBut sb ne, fun h3 sb3 => ⟨_, H', I2.turned (t' := s2.toks) (fun b o hb r => (sb3.2 b hb).trans r) f0 f1 f3 f4 f5, q⟩⟩
end
/-- what is wished of errors in W holds in W' -/
def XIn (W W' : Wd) : Prop := ∀ (E : XK) (x : Xn → Prop), (∀ H', W.ok H' → W.wish H' → XOk W H' E x) → ∀ H', W'.ok H' → W'.wish H' → XOk W' H' E x
theorem XIn.plus {W : Wd} {D : Addr} {xs : List V} {H1 : Hp} {n : H1 D = none} {o1 : W.ok H1} {w1 : W.wish H1} : XIn W (W.plus D xs H1 n o1 w1) := fun E x h H' o w nn d H2 e z q => by
  have s : Sub W (W.plus D xs H1 n o1 w1) := Sub.plus
  refine h H2 (s.ok H2 e.ok) (s.wish H2 e.ok ((W.plus D xs H1 n o1 w1).wst H' H2 e.keep e.ok w)) nn d H2 (Ext.refl (s.ok H2 e.ok)) ?_ q
  rcases z with z | ⟨dd, vs, a1, a2, a3, a4⟩
  · exact .inl z
  · exact .inr ⟨dd, vs, a1, fun m => a2 (.inl m), a3, a4.imp fun _ _ y => Fv.shrink D y⟩
section
variable {W : Wd} {Γ : Gam} {tl te : TE} {tt : TT} {g : TG}
theorem evF_lcX {α β : Type} {rα : Rep α} {rβ : Rep β} {K : PySem.W.Frag} {vs : List Nat} {k : List β → Prop} (hK : W.B.K = K)
    (h : EvK W tl Γ fun as : List α => as.length ≤ 100000 ∧ ∃ I : Nat → List β → Prop, I 0 [] ∧ (∀ W', Sub W W' → XIn W W' → ∀ (i : Nat) (a : α) (bs : List β), as[i]? = some a → I i bs → LcTurn W' g tt te vs Γ a (I (i + 1) bs) fun y : β => I (i + 1) (bs ++ [y])) ∧ ∀ bs, I as.length bs → k bs) :
    EvF W (tLc (iList K tl) g tt te vs) Γ k := by
  subst hK
  refine fun σ H Q E c => h σ H _ E fun v H1 as e1 ⟨p, xs, hv, hp, hd⟩ ⟨hl, I, h0, hs, hf⟩ => ⟨p, hv, ⟨xs, hp.sq⟩, fun D n => ?_⟩
  have G1 := E.ext e1
  refine lc_list (xs := xs) (fun i H' => Ext W H1 H' ∧ ∃ acc bs, H' D = some (.lst acc) ∧ Dl (den (W.toWc.plus D) H') acc bs ∧ acc.length ≤ i ∧ I i bs) ⟨Ext.new e1.ok n, [], [], upd_same, .nil, Nat.le_refl _, h0⟩ (fun i H' _ ⟨e, _⟩ => (hp.mono e.keep).sq) ?_ ?_
  · rintro i x H' hx ⟨e, acc, bs, hD, hb, ha, q⟩
    obtain ⟨a, ea, da⟩ := hd.at hx
    have hil : i < as.length := (List.getElem?_eq_some_iff.mp ea).1
    exact lc_turn (I := I (i + 1)) (P := fun H' => Ext W H1 H' ∧ ∃ acc bs, H' D = some (.lst acc) ∧ Dl (den (W.toWc.plus D) H') acc bs ∧ acc.length ≤ i + 1 ∧ I (i + 1) bs) (hs _ (Sub.plus (n := n) (o1 := e1.ok) (w1 := G1.wish)) XIn.plus i a bs ea q) G1 e hD hb da (by omega) fun H2 acc2 bs2 e2 hD2 hb2 hl2 q2 => ⟨e2, acc2, bs2, hD2, hb2, by omega, q2⟩
  · rintro H' ⟨e, acc, bs, hD, hb, ha, q⟩
    rw [hd.length] at q
    exact c D H' acc bs (fresh_back e1.ok e1 n) (e1.trans e) hD hb (hf bs q)
theorem evF_lcTX {α β : Type} {rα : Rep α} {rβ : Rep β} {K : PySem.W.Frag} {vs : List Nat} {k : List β → Prop} (hK : W.B.K = K)
    (h : EvK W tl Γ fun as : Tl α => as.xs.length ≤ 100000 ∧ ∃ I : Nat → List β → Prop, I 0 [] ∧ (∀ W', Sub W W' → XIn W W' → ∀ (i : Nat) (a : α) (bs : List β), as.xs[i]? = some a → I i bs → LcTurn W' g tt te vs Γ a (I (i + 1) bs) fun y : β => I (i + 1) (bs ++ [y])) ∧ ∀ bs, I as.xs.length bs → k bs) :
    EvF W (tLc (iTup K tl) g tt te vs) Γ k := by
  subst hK
  refine fun σ H Q E c => h σ H _ E fun v H1 as e1 ⟨p, xs, hv, hp, hd⟩ ⟨hl, I, h0, hs, hf⟩ => ⟨p, hv, ⟨xs, hp.sq⟩, fun D n => ?_⟩
  have G1 := E.ext e1
  refine lc_tup (xs := xs) (fun i H' => Ext W H1 H' ∧ ∃ acc bs, H' D = some (.lst acc) ∧ Dl (den (W.toWc.plus D) H') acc bs ∧ acc.length ≤ i ∧ I i bs) ⟨Ext.new e1.ok n, [], [], upd_same, .nil, Nat.le_refl _, h0⟩ (fun i H' _ ⟨e, _⟩ => (hp.mono e.keep).sq) ?_ ?_
  · rintro i x H' hx ⟨e, acc, bs, hD, hb, ha, q⟩
    obtain ⟨a, ea, da⟩ := hd.at hx
    have hil : i < as.xs.length := (List.getElem?_eq_some_iff.mp ea).1
    exact lc_turn (I := I (i + 1)) (P := fun H' => Ext W H1 H' ∧ ∃ acc bs, H' D = some (.lst acc) ∧ Dl (den (W.toWc.plus D) H') acc bs ∧ acc.length ≤ i + 1 ∧ I (i + 1) bs) (hs _ (Sub.plus (n := n) (o1 := e1.ok) (w1 := G1.wish)) XIn.plus i a bs ea q) G1 e hD hb da (by omega) fun H2 acc2 bs2 e2 hD2 hb2 hl2 q2 => ⟨e2, acc2, bs2, hD2, hb2, by omega, q2⟩
  · rintro H' ⟨e, acc, bs, hD, hb, ha, q⟩
    rw [hd.length] at q
    exact c D H' acc bs (fresh_back e1.ok e1 n) (e1.trans e) hD hb (hf bs q)
end
def misF {β : Type} (ds : List (Str × β)) (ns : List Str) : Option Str := ns.find? fun n => (getDc ds n).isNone
theorem misF_none {β : Type} {ds : List (Str × β)} {ns : List Str} : misF ds ns = none ↔ ∀ n ∈ ns, (getDc ds n).isSome = true := by
  unfold misF
  rw [List.find?_eq_none]
  refine forall_congr' fun n => forall_congr' fun _ => ?_
  cases getDc ds n <;> simp
theorem misF_app {β : Type} {ds : List (Str × β)} {as bs : List Str} (h : ∀ n ∈ as, (getDc ds n).isSome = true) : misF ds (as ++ bs) = misF ds bs := by
  unfold misF
  rw [List.find?_append, show as.find? (fun n => (getDc ds n).isNone) = none from misF_none.mpr h, Option.none_or]
theorem misF_flat {β : Type} {ds : List (Str × β)} {ps : List Ru} {i : Nat} {q : Ru} {n : Str} (hi : ps[i]? = some q) (h : ∀ p ∈ ps.take i, ∀ n ∈ namesF p, (getDc ds n).isSome = true) (hn : misF ds (namesF q) = some n) : misF ds (ps.flatMap namesF) = some n := by
  have e : ps = ps.take i ++ q :: ps.drop (i + 1) := by
    have hl := (List.getElem?_eq_some_iff.mp hi)
    obtain ⟨hl, he⟩ := hl
    rw [← he, List.getElem_cons_drop, List.take_append_drop]
  rw [e, List.flatMap_append, List.flatMap_cons, misF_app fun m hm => by
    obtain ⟨p, hp, hm⟩ := List.mem_flatMap.mp hm
    exact h p hp m hm]
  unfold misF at hn ⊢
  rw [List.find?_append, hn]
  rfl
def MisR (ds : List (Str × Int)) (r : Ru) (ok : Int → Prop) (xx : Xn → Prop) : Prop := match misF ds (namesF r) with
  | none => ok (ansF (rdF ds) r)
  | some n => (reprText n).length ≤ 3000 ∧ n.length ≤ 3000 ∧ xx ⟨.MissingReading, [("name", .s n)]⟩
theorem mis_all {ds : List (Str × Int)} {r : Ru} {ok : Int → Prop} {xx : Xn → Prop} (h : ∀ n ∈ namesF r, (getDc ds n).isSome = true) (q : ok (ansF (rdF ds) r)) : MisR ds r ok xx := by
  unfold MisR
  rw [misF_none.mpr h]
  exact q
theorem mis_one {ds : List (Str × Int)} {r : Ru} {ok : Int → Prop} {xx : Xn → Prop} {n : Str} (h : misF ds (namesF r) = some n) (h1 : (reprText n).length ≤ 3000) (h2 : n.length ≤ 3000) (q : xx ⟨.MissingReading, [("name", .s n)]⟩) : MisR ds r ok xx := by
  unfold MisR
  rw [h]
  exact ⟨h1, h2, q⟩
theorem MisR.imp {ds : List (Str × Int)} {r : Ru} {ok ok' : Int → Prop} {xx : Xn → Prop} (h : MisR ds r ok xx) (i : ∀ a, ok a → ok' a) : MisR ds r ok' xx := by
  unfold MisR at h ⊢
  split at h
  · exact i _ h
  · exact h
end G
set_option Elab.async false
set_option linter.all false
set_option maxRecDepth 100000
set_option maxHeartbeats 2000000
namespace G
open PySem PySem.Spec PyProof.Rows L2 StX
structure FF (H H' : Hp) (p : Addr) (qs : List Addr) (fl : List (List Str)) : Prop where
  new : ∀ a ∈ p :: qs, H a = none
  nd : (p :: qs).Nodup
  len : qs.length = fl.length
  atp : H' p = some (.lst (qs.map V.ref))
  atq : ∀ (i : Nat) (q : Addr) (f : List Str), qs[i]? = some q → fl[i]? = some f → H' q = some (.lst (f.map V.str))
def EvFF (W : Wd) (te : TE) (Γ : Gam) (k : List (List Str) → Prop) : Prop :=
  ∀ σ H (Q : VK), GOk W H σ Γ → (∀ p qs H' fl, Ext W H H' → FF H H' p qs fl → k fl → Q (.ref p) H') → te σ H Q
theorem dl_of_strs {W : Wc} {H : Hp} : ∀ l : List Str, Dl (den W H) (l.map V.str) l
  | [] => .nil
  | a :: r => .cons rfl (dl_of_strs r)
theorem EvFF.imp {W : Wd} {te : TE} {Γ : Gam} {k k' : List (List Str) → Prop} (h : EvFF W te Γ k) (i : ∀ fl, k fl → k' fl) : EvFF W te Γ k' := fun σ H Q G c => h σ H Q G fun p qs H' fl e f q => c p qs H' fl e f (i fl q)
theorem EvFF.k {W : Wd} {te : TE} {Γ : Gam} {k : List (List Str) → Prop} (h : EvFF W te Γ k) : EvK W te Γ k := fun σ H Q G c => h σ H Q G fun p qs H' fl e f q => by
  have nm : ∀ a ∈ p :: qs, ¬ W.mu a := fun a ha => fresh_mu G.ok (f.new a ha)
  refine c (.ref p) H' fl e ⟨p, qs.map V.ref, rfl, ⟨nm p List.mem_cons_self, f.atp⟩, ?_⟩ q
  refine dl_of_at (by rw [List.length_map]; exact f.len) fun i v a hv ha => ?_
  rw [List.getElem?_map] at hv
  cases hq : qs[i]? with
  | none => rw [hq] at hv; cases hv
  | some q =>
    rw [hq] at hv
    cases hv
    exact ⟨q, a.map V.str, rfl, ⟨nm q (List.mem_cons_of_mem _ (List.mem_of_getElem? hq)), f.atq i q a hq ha⟩, dl_of_strs a⟩
end G
set_option Elab.async false
set_option linter.all false
set_option maxRecDepth 100000
set_option maxHeartbeats 2000000
namespace G
open PySem PySem.Spec PyProof.Rows L2 StX
end G
set_option Elab.async false
set_option linter.all false
set_option maxRecDepth 100000
set_option maxHeartbeats 2000000
namespace G
open PySem PySem.Spec PyProof.Rows L2 StX
structure TwT (B : Bs) : Prop where
  cl : L2.Cls B.K (B.cl .Twins)
  n1 : NoAttr B.K (B.cl .Twins) "readings"
  n2 : NoAttr B.K (B.cl .Twins) "low_level"
  n3 : NoAttr B.K (B.cl .Twins) "low_lot"
  n4 : NoAttr B.K (B.cl .Twins) "high_level"
  n5 : NoAttr B.K (B.cl .Twins) "high_lot"
structure Twn where
  ds : List (Str × Int)
  lo : Int
  ll : List Str
  hi : Int
  hl : List Str
def twF (x : V) (lo : Int) (y : V) (hi : Int) (z : V) : List (Str × V) := [("readings", x), ("low_level", .int lo), ("low_lot", y), ("high_level", .int hi), ("high_lot", z)]
instance : Rep Twn :=
  ⟨fun W H v c => ∃ a dx x y z, v = .ref a ∧ ¬ W.mu a ∧ H a = some (.ins (W.B.cl .Twins) dx (twF x c.lo y c.hi z)) ∧ den W H x (Dc.mk c.ds) ∧ den W H y c.ll ∧ den W H z c.hl ∧ TwT W.B,
   fun e ⟨a, dx, x, y, z, hv, m, h, h1, h2, h3, hT⟩ => ⟨a, dx, x, y, z, hv, m, e _ _ m h, Rep.mono e h1, Rep.mono e h2, Rep.mono e h3, hT⟩,
   fun D n ⟨a, dx, x, y, z, hv, m, h, h1, h2, h3, hT⟩ => ⟨a, dx, x, y, z, hv, mu_grow n m h, h, Rep.grow D n h1, Rep.grow D n h2, Rep.grow D n h3, hT⟩,
   fun D ⟨a, dx, x, y, z, hv, m, h, h1, h2, h3, hT⟩ => ⟨a, dx, x, y, z, hv, fun z => m (.inl z), h, Rep.shrink D h1, Rep.shrink D h2, Rep.shrink D h3, hT⟩⟩
instance : Ins Twn .Twins ["readings", "low_level", "low_lot", "high_level", "high_lot"] := ⟨fun ⟨a, dx, x, y, z, hv, m, h, _⟩ => ⟨a, dx, _, hv, m, h, rfl⟩⟩
section
variable {X : Cx} {o e : Expr} {es : List Expr} {to : TE} {t : TA} {apos pos : Pos}
theorem pe_popAtK (K : PySem.W.Frag) (ho : PE X o to) (ha : PA X (e :: es) t) (hK : X.K = K := by rfl)
    (hbase : attributeBase o "pop" X.env (eval o X.env) = eval o X.env := by rfl)
    (hfew : ((backTo pos (starEach (e :: es) X.env)).all (fun x => !x.1) && (backToKw pos (keywordEach [] X.env)).all (fun x => x.1.isSome)
      && decide ((e :: es).length + ([] : List Keyword).length + (if ([] : List Keyword).isEmpty then 0 else 1) < 30)) = true := by rfl)
    (hline : (apos.endLine == pos.line) = true := by rfl) (hs : starEach (e :: es) X.env = (false, eval e X.env) :: starEach es X.env := by rfl) (hplain : (backTo pos (starEach es X.env)).any (·.1) = false := by rfl) :
    PE X (.Call (.Attribute o "pop" apos) (e :: es) [] pos) (tBM K "list" rPopAt to t) := by
  subst hK
  exact pe_bm PySem.F.plainAttrs_list PySem.F.slot_list_pop PySem.F.type_list_pop mt_popAt ho ha hbase hfew hline hs hplain
end
theorem dl_erase {α : Type} {f : V → α → Prop} : ∀ {vs : List V} {as : List α} (k : Nat), Dl f vs as → Dl f (vs.eraseIdx k) (as.eraseIdx k)
  | _, _, _, .nil => .nil
  | _, _, 0, .cons _ y => y
  | _, _, k + 1, .cons x y => .cons x (dl_erase k y)
section
variable {W : Wd} {F : Hp} {L : OwnH} {Γ : Gam} {R : PoH} {te : TE} {K : PySem.W.Frag}
theorem sxh_appPop {α : Type} {rα : Rep α} {i j : Nat} (n m : Nat) {p q : Addr} {vs ws : List V} {as bs : List α} (hn : L[n]? = some (p, .lst vs)) (hm : L[m]? = some (q, .lst ws)) (hnm : m ≠ n) (hi : Γ[i]? = some (some (T (Ol.mk p vs as)))) (hj : Γ[j]? = some (some (T (Ol.mk q ws bs)))) (hij : j ≠ i) (hl : as.length < 100000)
    (h : ∀ Wo, OwnHW W L Wo → EvK Wo te Γ fun a : Int => ∃ (k : Nat) (b : α), a = (k : Int) ∧ k < 100000 ∧ bs[k]? = some b ∧ ∀ v, R.nx ((L.set m (q, .lst (ws.eraseIdx k))).set n (p, .lst (vs ++ [v]))) ((Γ.set j (some (T (Ol.mk q (ws.eraseIdx k) (bs.eraseIdx k))))).set i (some (T (Ol.mk p (vs ++ [v]) (as ++ [b])))))) :
    SxH W F (tDrop (tBM K "list" rAppend (tVar i) (tCons (tBM K "list" rPopAt (tVar j) (tCons te tNil)) tNil))) L Γ R := fun D σ H oF nF wF nd G O => by
  obtain ⟨h1, _⟩ := ol_at G hi
  obtain ⟨h3, _⟩ := ol_at G hj
  refine ⟨_, h1, .inl ⟨rfl, _, .inl (.inl (G.ok.2 _ (List.mem_of_getElem? hn)))⟩, ?_⟩
  refine ⟨_, h3, .inl ⟨rfl, _, .inl (.inl (G.ok.2 _ (List.mem_of_getElem? hm)))⟩, ?_⟩
  refine h _ (ownH_w wF) σ H _ G fun v H1 a e1 dv ⟨k, b, ha, hk1, hb, hz⟩ => ?_
  have dv : v = V.int a := dv
  subst dv ha
  have G1 := G.ext e1
  obtain ⟨_, g4⟩ := ol_at G1 hj
  have hp1 := G1.ok.2 _ (List.mem_of_getElem? hn)
  have hq1 := G1.ok.2 _ (List.mem_of_getElem? hm)
  have hkb := (List.getElem?_eq_some_iff.mp hb).1
  have hkw : k < ws.length := by rw [g4.length]; exact hkb
  have hy := List.getElem?_eq_getElem hkw
  obtain ⟨b', hb', dy⟩ := g4.at hy
  rw [hb] at hb'
  cases hb'
  have hpq : p ≠ q := fun e => by
    have h5 : (keysH L)[n]? = some p := by rw [List.getElem?_map, hn]; rfl
    have h6 : (keysH L)[m]? = some q := by rw [List.getElem?_map, hm]; rfl
    rw [e] at h5
    exact hnm ((List.getElem?_inj (List.getElem?_eq_some_iff.mp h6).1 nd).mp (h6.trans h5.symm))
  have hsi : seqIndex? ((k : Nat) : Int) ws.length = some k := by
    unfold seqIndex?
    rw [if_neg (by omega : ¬ ((k : Nat) : Int) < 0)]
    simp [hkw]
  refine ⟨q, ws, (k : Int), k, ws[k], rfl, rfl, hq1, by omega, by omega, hsi, hy, ?_⟩
  -- the list that lost it
  have hks : keysH (L.set m (q, .lst (ws.eraseIdx k))) = keysH L := keysH_set hm
  have kp : Kp (W.toWc.plusL (keysH L)) H1 (upd H1 q (.lst (ws.eraseIdx k))) := fun c u mm z => by
    have hne : c ≠ q := fun e => mm (plusL_mu.mpr (.inr (by rw [e]; exact List.mem_map.mpr ⟨_, List.mem_of_getElem? hm, rfl⟩)))
    rw [upd_ne hne]
    exact z
  let D1 : Ends := { nx := fun σ' H' => ∃ oF nF, StpH W L H1 (L.set m (q, .lst (ws.eraseIdx k))) H' ∧ (keysH (L.set m (q, .lst (ws.eraseIdx k)))).Nodup ∧ GOk (W.ownH F (L.set m (q, .lst (ws.eraseIdx k))) oF nF) H' σ' (Γ.set j (some (T (Ol.mk q (ws.eraseIdx k) (bs.eraseIdx k))))), rt := fun _ _ => True }
  let R1 : PoH := { nx := fun L' Γ' => L' = L.set m (q, .lst (ws.eraseIdx k)) ∧ Γ' = Γ.set j (some (T (Ol.mk q (ws.eraseIdx k) (bs.eraseIdx k)))), rt := fun _ => True }
  have O1 : EOkH W F L H1 D1 R1 := ⟨fun L' oF nF σ' H' Γ' s nd' G' ⟨e2, e3⟩ => by
    subst e2 e3
    exact ⟨oF, nF, s, nd', G'⟩, fun _ _ _ _ _ _ => trivial, fun _ _ _ _ _ _ _ _ _ z => z.elim, fun _ _ _ _ _ _ _ _ _ z => z.elim⟩
  have step : D1.nx σ (upd H1 q (.lst (ws.eraseIdx k))) := ownH_put (T (Ol.mk q (ws.eraseIdx k) (bs.eraseIdx k))) nd G1 O1 hm h3 (fun kp => ⟨rfl, (dl_erase k g4).imp fun _ _ d => Rep.mono kp d⟩) ⟨rfl, rfl⟩
  obtain ⟨oF2, nF2, s2, nd2, G2⟩ := step
  have hi2 : (Γ.set j (some (T (Ol.mk q (ws.eraseIdx k) (bs.eraseIdx k)))))[i]? = some (some (T (Ol.mk p vs as))) := by rw [List.getElem?_set_ne hij]; exact hi
  have hn2 : (L.set m (q, .lst (ws.eraseIdx k)))[n]? = some (p, .lst vs) := by rw [List.getElem?_set_ne hnm]; exact hn
  obtain ⟨h7, g7⟩ := ol_at G2 hi2
  have dy2 : den (W.toWc.plusL (keysH (L.set m (q, .lst (ws.eraseIdx k))))) (upd H1 q (.lst (ws.eraseIdx k))) ws[k] b := by
    rw [hks]
    exact Rep.mono kp dy
  refine ⟨p, vs, ws[k], rfl, rfl, G2.ok.2 _ (List.mem_of_getElem? hn2), Nat.lt_of_lt_of_le (by rw [g7.length]; exact hl) (by decide : 100000 ≤ sizeLine), ?_⟩
  exact ownH_put (T (Ol.mk p (vs ++ [ws[k]]) (as ++ [b]))) nd2 G2 ((O.step G1.ok.1 (ownH_stp e1)).step G2.ok.1 s2) hn2 h7 (fun kp => ⟨rfl, Dl.append (g7.imp fun _ _ d => Rep.mono kp d) (.cons (Rep.mono kp dy2) .nil)⟩) (hz _)
end
theorem ev_listRg {W : Wd} {Γ : Gam} {ta : TE} {k : List Int → Prop} (h : EvK W ta Γ fun n : Int => ∃ m : Nat, n = (m : Int) ∧ m ≤ 1000 ∧ k ((List.range m).map fun j : Nat => (j : Int))) : EvK W (tLstRg (tRg1 ta)) Γ k := fun σ H Q G c =>
  h σ H _ G fun v H1 n e1 dv ⟨m, hm, hl, z⟩ => by
    have dv : v = V.int n := dv
    subst dv hm
    refine ⟨(m : Int), rfl, RgOk.of_le (by decide) (by omega) (by decide) (by omega), fun q hq => ?_⟩
    have e : rgV 0 (m : Int) = ((List.range m).map fun j : Nat => (j : Int)).map V.int := by
      unfold rgV
      rw [List.map_map]
      have : ((m : Int) - 0).toNat = m := by omega
      rw [this]
      refine List.map_congr_left fun i _ => ?_
      show V.int (0 + (i : Int)) = V.int (i : Int)
      rw [Int.zero_add]
    rw [e]
    exact c (.ref q) _ _ (e1.trans (Ext.new e1.ok hq)) ⟨q, _, rfl, Lq.new (fresh_mu e1.ok hq) upd_same, Dl.of_ints _⟩ z
/-- len of an own list -/
theorem ev_lenOl {W Wo : Wd} {L : OwnH} {Γ : Gam} {K : PySem.W.Frag} {α : Type} {rα : Rep α} {i : Nat} {p : Addr} {vs : List V} {as : List α} {k : Int → Prop} (hW : OwnHW W L Wo) (hK : Wo.B.K = K) (hm : (p, HO.lst vs) ∈ L) (hi : Γ[i]? = some (some (T (Ol.mk p vs as)))) (q : k (as.length : Int)) :
    EvK Wo (tCB (fun xs H Q => ∃ p ys, xs = [.ref p] ∧ (SqL K H p ys ∨ SqT K H p ys) ∧ Q (.int ys.length) H) (tCons (tVar i) tNil)) Γ k := fun σ H Q G c => by
  subst hK
  obtain ⟨h1, h2⟩ := ol_at G hi
  exact ⟨_, h1, p, vs, rfl, .inl (.inl (.inl (hW.pin H G.ok _ hm))), c _ H _ (Ext.refl G.ok) (congrArg (fun n : Nat => V.int n) h2.length) q⟩
theorem perm_pop {α : Type} : ∀ {l : List α} {n : Nat} (h : n < l.length), (l[n] :: l.eraseIdx n).Perm l
  | [], _, h => absurd h (Nat.not_lt_zero _)
  | _ :: _, 0, _ => List.Perm.refl _
  | a :: r, n + 1, h => (List.Perm.swap a (r[n]'(by simpa using h)) (r.eraseIdx n)).trans (List.Perm.cons a (perm_pop (l := r) (n := n) (by simpa using h)))
end G
set_option Elab.async false
set_option linter.all false
set_option maxRecDepth 100000
set_option maxHeartbeats 2000000
namespace G
open PySem PySem.Spec PyProof.Rows L2 StX
/-- as, cut at t, looks as bs does, cut at u -/
def CutL (t u : Int) : List Int → List Int → Prop
  | [], [] => True
  | a :: as, b :: bs => (a ≤ t ↔ b ≤ u) ∧ CutL t u as bs
  | _, _ => False
theorem CutL.length {t u : Int} : ∀ {as bs : List Int}, CutL t u as bs → as.length = bs.length
  | [], [], _ => rfl
  | _ :: _, _ :: _, h => congrArg (· + 1) (CutL.length h.2)
def markD : List Str → Nat → List (Str × Int)
  | [], _ => []
  | w :: r, m => (w, ((m % 2 : Nat) : Int)) :: markD r (m / 2)
def bitStep (rows : List (List (Str × Int))) (w : Str) : List (List (Str × Int)) := [(0 : Int), 1].flatMap fun b => rows.map fun row => row ++ [(w, b)]
theorem markD_keys : ∀ (ws : List Str) (m : Nat), (markD ws m).map (·.1) = ws
  | [], _ => rfl
  | w :: r, m => congrArg (w :: ·) (markD_keys r _)
theorem markD_snoc (w : Str) : ∀ (pre : List Str) (m : Nat), markD (pre ++ [w]) m = markD pre m ++ [(w, ((m / 2 ^ pre.length % 2 : Nat) : Int))]
  | [], m => by
    show [(w, ((m % 2 : Nat) : Int))] = [(w, ((m / 1 % 2 : Nat) : Int))]
    rw [Nat.div_one]
  | a :: r, m => by
    show (a, _) :: markD (r ++ [w]) (m / 2) = (a, _) :: (markD r (m / 2) ++ _)
    rw [markD_snoc w r, Nat.div_div_eq_div_mul, List.length_cons, Nat.pow_succ, Nat.mul_comm 2]
theorem markD_add : ∀ (pre : List Str) (m : Nat), markD pre (2 ^ pre.length + m) = markD pre m
  | [], _ => rfl
  | a :: r, m => by
    have e : 2 ^ (a :: r).length = 2 * 2 ^ r.length := by rw [List.length_cons, Nat.pow_succ, Nat.mul_comm]
    show (a, (((2 ^ (a :: r).length + m) % 2 : Nat) : Int)) :: markD r ((2 ^ (a :: r).length + m) / 2) = (a, ((m % 2 : Nat) : Int)) :: markD r (m / 2)
    rw [e, show (2 * 2 ^ r.length + m) % 2 = m % 2 by omega, show (2 * 2 ^ r.length + m) / 2 = 2 ^ r.length + m / 2 by omega, markD_add r]
theorem bit_step (pre : List Str) (w : Str) : bitStep ((List.range (2 ^ pre.length)).map (markD pre)) w = (List.range (2 ^ (pre ++ [w]).length)).map (markD (pre ++ [w])) := by
  have e : 2 ^ (pre ++ [w]).length = 2 ^ pre.length + 2 ^ pre.length := by rw [List.length_append, List.length_singleton, Nat.pow_succ]; omega
  rw [e, List.range_add, List.map_append, List.map_map]
  show ((List.range (2 ^ pre.length)).map (markD pre)).map (fun row => row ++ [(w, (0 : Int))]) ++ (((List.range (2 ^ pre.length)).map (markD pre)).map (fun row => row ++ [(w, (1 : Int))]) ++ []) = _
  rw [List.append_nil, List.map_map, List.map_map]
  congr 1
  · refine List.map_congr_left fun m hm => ?_
    have hm := List.mem_range.mp hm
    show markD pre m ++ [(w, (0 : Int))] = markD (pre ++ [w]) m
    rw [markD_snoc, Nat.div_eq_of_lt hm]
    rfl
  · refine List.map_congr_left fun m hm => ?_
    have hm := List.mem_range.mp hm
    show markD pre m ++ [(w, (1 : Int))] = markD (pre ++ [w]) (2 ^ pre.length + m)
    have h0 : 0 < 2 ^ pre.length := Nat.pos_of_ne_zero (by omega)
    rw [markD_snoc, markD_add, Nat.add_div_left _ h0, Nat.div_eq_of_lt hm]
    rfl
theorem bit_rows : ∀ (suf pre : List Str), suf.foldl bitStep ((List.range (2 ^ pre.length)).map (markD pre)) = (List.range (2 ^ (pre ++ suf).length)).map (markD (pre ++ suf))
  | [], pre => by rw [List.append_nil]; rfl
  | w :: r, pre => by
    show r.foldl bitStep (bitStep _ w) = _
    rw [bit_step, bit_rows r (pre ++ [w]), List.append_assoc]
    rfl
end G
set_option Elab.async false
set_option linter.all false
set_option maxRecDepth 100000
set_option maxHeartbeats 2000000
namespace G
open PySem PySem.Spec PyProof.Rows L2 StX
inductive Nm where
  | s (x : Str) | n | i (j : Int) | t (x : Str)
deriving DecidableEq
def nmD (W : Wc) (H : Hp) (v : V) : Nm → Prop
  | .s x => v = .str x
  | .n => v = .non
  | .i j => v = .int j
  | .t x => ∃ q, v = .ref q ∧ Tq W H q [.str x]
instance : Rep Nm where
  dn := nmD
  mono := fun {W H H' v a} e h => by
    cases a with
    | s x => exact h
    | n => exact h
    | i j => exact h
    | t x => exact h.imp fun q z => ⟨z.1, z.2.mono e⟩
  grow := fun {W H v a} D n h => by
    cases a with
    | s x => exact h
    | n => exact h
    | i j => exact h
    | t x => exact h.imp fun q z => ⟨z.1, z.2.grow D n⟩
  shrink := fun {W H v a} D h => by
    cases a with
    | s x => exact h
    | n => exact h
    | i j => exact h
    | t x => exact h.imp fun q z => ⟨z.1, z.2.shrink D⟩
def nmP : Nm → PyData
  | .s x => .str x
  | .n => .none
  | .i j => .int j
  | .t x => .tuple [.str x]
theorem eqv_t1 (x y : Str) : PyData.eqv (.tuple [.str x]) (.tuple [.str y]) = (x == y) := by
  show ((x == y) && true) = _
  rw [Bool.and_true]
instance : Dat Nm where
  toD := nmP
  dp := fun {W H v a} h => by
    cases a with
    | s x => cases (show v = .str x from h); exact .str x
    | n => cases (show v = .non from h); exact .non
    | i j => cases (show v = .int j from h); exact .int j
    | t x =>
      obtain ⟨q, rfl, z⟩ := h
      exact .tup z.sq (.cons (.str x) .nil)
  dep := 1
  ddep := fun a => by
    cases a with
    | s x => exact Nat.zero_le 1
    | n => exact Nat.zero_le 1
    | i j => exact Nat.zero_le 1
    | t x => exact Nat.le_refl 1
  inj := fun a b => by
    cases a with
    | s x => cases b with
      | s y => exact (beq_iff_eq (a := x) (b := y)).trans ⟨fun h => by rw [h], fun h => by cases h; rfl⟩
      | n => exact ⟨fun h => Bool.noConfusion h, fun h => nomatch h⟩
      | i j => exact ⟨fun h => Bool.noConfusion h, fun h => nomatch h⟩
      | t y => exact ⟨fun h => Bool.noConfusion h, fun h => nomatch h⟩
    | n => cases b with
      | s y => exact ⟨fun h => Bool.noConfusion h, fun h => nomatch h⟩
      | n => exact ⟨fun _ => rfl, fun _ => rfl⟩
      | i j => exact ⟨fun h => Bool.noConfusion h, fun h => nomatch h⟩
      | t y => exact ⟨fun h => Bool.noConfusion h, fun h => nomatch h⟩
    | i j => cases b with
      | s y => exact ⟨fun h => Bool.noConfusion h, fun h => nomatch h⟩
      | n => exact ⟨fun h => Bool.noConfusion h, fun h => nomatch h⟩
      | i l => exact (beq_iff_eq (a := j) (b := l)).trans ⟨fun h => by rw [h], fun h => by cases h; rfl⟩
      | t y => exact ⟨fun h => Bool.noConfusion h, fun h => nomatch h⟩
    | t x => cases b with
      | s y => exact ⟨fun h => Bool.noConfusion h, fun h => nomatch h⟩
      | n => exact ⟨fun h => Bool.noConfusion h, fun h => nomatch h⟩
      | i j => exact ⟨fun h => Bool.noConfusion h, fun h => nomatch h⟩
      | t y =>
        show PyData.eqv (.tuple [.str x]) (.tuple [.str y]) = true ↔ _
        rw [eqv_t1]
        exact beq_iff_eq.trans ⟨fun h => by rw [h], fun h => by cases h; rfl⟩
  good := fun a => ∀ x, a = .s x ∨ a = .t x → (PyData.str x).canLay0 = true
  gshp := fun a h => by
    cases a with
    | s x => exact h x (.inl rfl)
    | n => rfl
    | i j => rfl
    | t x =>
      show ((PyData.str x).canLay0 && true) = true
      rw [h x (.inr rfl)]
      rfl
inductive Rs where
  | one (x : Nm) | lst (x : Nm)
deriving DecidableEq
def rsD (W : Wc) (H : Hp) (v : V) : Rs → Prop
  | .one x => den W H v x
  | .lst x => den W H v [x]
instance : Rep Rs where
  dn := rsD
  mono := fun {W H H' v a} e h => by
    cases a with
    | one x => exact Rep.mono (a := x) e h
    | lst x => exact Rep.mono (a := [x]) e h
  grow := fun {W H v a} D n h => by
    cases a with
    | one x => exact Rep.grow (a := x) D n h
    | lst x => exact Rep.grow (a := [x]) D n h
  shrink := fun {W H v a} D h => by
    cases a with
    | one x => exact Rep.shrink (a := x) D h
    | lst x => exact Rep.shrink (a := [x]) D h
def rsP : Rs → PyData
  | .one x => Dat.toD x
  | .lst x => Dat.toD [x]
instance : Dat Rs where
  toD := rsP
  dp := fun {W H v a} h => by
    cases a with
    | one x => exact Dat.dp (a := x) h
    | lst x => exact Dat.dp (a := [x]) h
  dep := 2
  ddep := fun a => by
    cases a with
    | one x => exact Nat.le_trans (Dat.ddep x) (by decide)
    | lst x => exact Dat.ddep [x]
  inj := fun a b => by
    cases a with
    | one x => cases b with
      | one y => exact (Dat.inj x y).trans ⟨fun h => by rw [h], fun h => by cases h; rfl⟩
      | lst y => cases x <;> exact ⟨fun h => Bool.noConfusion h, fun h => nomatch h⟩
    | lst x => cases b with
      | one y => cases y <;> exact ⟨fun h => Bool.noConfusion h, fun h => nomatch h⟩
      | lst y => exact (Dat.inj [x] [y]).trans ⟨fun h => by cases h; rfl, fun h => by cases h; rfl⟩
  good := fun a => match a with | .one x => Dat.good x | .lst x => Dat.good x
  gshp := fun a h => by
    cases a with
    | one x => exact Dat.gshp x h
    | lst x => exact Dat.gshp [x] fun y hy => by rw [List.mem_singleton.mp hy]; exact h
end G
set_option Elab.async false
set_option linter.all false
set_option maxRecDepth 100000
set_option maxHeartbeats 2000000
namespace G
open PySem PySem.Spec PyProof.Rows L2 StX
def Nm.isS : Nm → Bool
  | .s _ => true
  | _ => false
end G
set_option Elab.async false
set_option linter.all false
set_option maxRecDepth 100000
set_option maxHeartbeats 2000000
namespace G
open PySem PySem.Spec PyProof.Rows L2 StX
structure SetKd (P : Program) (w : World) (O0 : Addr → HO) (SA : Addr → V → Hp → Hp → Prop) : Prop where
  new : ∀ (H : Hp) (h : Heap), L2.ObjOk P w H (h.push { cls := .type "set", dict := none, data := .set #[] 0 (.fresh 0 0 (!w.params.followText "set-order")) }) h.objs.size (O0 h.objs.size)
  add : ∀ {X : Cx} {pins : List (Addr × Obj)} {σ : L2.St} {H H' : Hp} {s : Shared} {D : Addr} {v : V} {u : Value} {Q : Value → Shared → Prop} {E : Value → Shared → Prop}, X.prog = P → X.w = w → L2.Inv X pins σ H s → L2.RelV v u → SA D v H H' →
    (∀ r z, L2.Inv X pins σ H' z → Q r z) → wpAny (model X.prog X.w) X.A (call (.builtin "set.add") [.ref D, u]) Q E s
abbrev sc1E (el t1 i1 : Expr) (sc : Scope) (ps : Pos) : Expr := .SetComp el [⟨t1, i1, [], 0⟩] sc ps
def tSc2G (O0 : Addr → HO) (SA : Addr → V → Hp → Hp → Prop) (wi : TI) (g : TG) (wj : TI) (g2 : TG) (te : TE) (vs vs1 : List Nat) : TE := fun σ H Q => wi σ H fun J H1 => ∀ D, H1 D = none → ∃ W : Nat → Nat → Hp → Prop, (∃ m, W 0 m (upd H1 D (O0 D))) ∧
  ∀ i m H2, W i m H2 → (J.stop i H2 ∧ Q (.ref D) H2) ∨ (J.go i H2 ∧ ∃ Z : Hp → Prop, (∀ H', Z H' → ∃ m', m' < m ∧ W (i + 1) m' H') ∧
    ∀ x H', J.yld i H2 x H' → g x (wipe σ vs) H' fun σ2 H3 => wipe σ2 vs = wipe σ vs ∧ wj σ2 H3 fun J1 H4 => ∃ V1 : Nat → Nat → Hp → Prop, (∃ k, V1 0 k H4) ∧
      ∀ j k H5, V1 j k H5 → (J1.stop j H5 ∧ Z H5) ∨ (J1.go j H5 ∧ ∃ Z1 : Hp → Prop, (∀ H', Z1 H' → ∃ k', k' < k ∧ V1 (j + 1) k' H') ∧
        ∀ x H', J1.yld j H5 x H' → g2 x (wipe σ2 vs1) H' fun σ3 H6 => wipe σ3 vs1 = wipe σ2 vs1 ∧ te σ3 H6 fun y H7 => ∃ H8, SA D y H7 H8 ∧ Z1 H8))
def tSc1G (O0 : Addr → HO) (SA : Addr → V → Hp → Hp → Prop) (wi : TI) (g : TG) (te : TE) (vs : List Nat) : TE := fun σ H Q => wi σ H fun J H1 => ∀ D, H1 D = none → ∃ W : Nat → Nat → Hp → Prop, (∃ m, W 0 m (upd H1 D (O0 D))) ∧
  ∀ i m H2, W i m H2 → (J.stop i H2 ∧ Q (.ref D) H2) ∨ (J.go i H2 ∧ ∃ Z : Hp → Prop, (∀ H', Z H' → ∃ m', m' < m ∧ W (i + 1) m' H') ∧
    ∀ x H', J.yld i H2 x H' → g x (wipe σ vs) H' fun σ2 H3 => wipe σ2 vs = wipe σ vs ∧ te σ2 H3 fun y H4 => ∃ H5, SA D y H4 H5 ∧ Z H5)
section
variable {prog : Program} {w : World} {A : Around} {R : Result → Shared → Prop} {s : Shared} {el t1 i1 : Expr} {sc : Scope} {ps : Pos} {it acc : Value} {env : Env}
theorem sc1_turn : compTurn (sc1E el t1 i1 sc ps) 0 it acc env = (do
    standAt i1.pos
    match ← pyNext it with
    | none => pure (.done .next)
    | some u =>
      letOwnedTupleGo t1 it u
      assign t1 env u
      (do let y ← eval el env; standAt el.pos; let _ ← call (.builtin "set.add") [acc, y])
      again (.compLoop (sc1E el t1 i1 sc ps) 0 it acc env)) := by rfl
theorem sc1_loop (J : Nat → Shared → Prop)
    (tn : ∀ n z, J n z → wpAny (model prog w) A (pyNext it) (fun r z1 => match r with
      | none => R (.ok .next) z1
      | some u => wpAny (model prog w) A (letOwnedTupleGo t1 it u) (fun _ z2 => wpAny (model prog w) A (assign t1 env u) (fun _ z3 => wpAny (model prog w) A (eval el env) (fun y z4 =>
          wpAny (model prog w) A (call (.builtin "set.add") [acc, y]) (fun _ z5 => ∃ k, k < n ∧ J k z5)
            (notedBy (model prog w) A env fun e z => R (.error e) z) z4) (notedBy (model prog w) A env fun e z => R (.error e) z) z3) (notedBy (model prog w) A env fun e z => R (.error e) z) z2) (notedBy (model prog w) A env fun e z => R (.error e) z) z1) (notedBy (model prog w) A env fun e z => R (.error e) z) z)
    (n : Nat) (h : J n s) : codeAny (model prog w) A (.compLoop (sc1E el t1 i1 sc ps) 0 it acc env) R s := by
  apply codeAny_loop rfl J _ n h
  intro n z hz
  apply wpAny_noted
  rw [sc1_turn]
  refine wpAny_bind (wpAny_standAt (wpAny_bind (wpAny_mono (tn n z hz) (fun r z1 q1 => ?_) fun _ _ q => q)))
  match r, q1 with
  | none, q1 => exact wpAny_pure q1
  | some u, q1 =>
    refine wpAny_bind (wpAny_mono q1 (fun _ z2 q2 => wpAny_bind (wpAny_mono q2 (fun _ z3 q3 => wpAny_bind ?_) fun _ _ q => q)) fun _ _ q => q)
    refine wpAny_bind (wpAny_mono q3 (fun y z4 q4 => wpAny_bind (wpAny_standAt (wpAny_bind ?_))) fun _ _ q => q)
    exact wpAny_mono q4 (fun _ z5 q5 => wpAny_pure (wpAny_pure ⟨rfl, q5⟩)) fun _ _ q => q
end
section
variable {X : Cx}
/-- the second clause, from its source on, in the block's context Y -/
theorem sc2_secondG {Y : Cx} {el t1 i1 t2 i2 : Expr} {sc : Scope} {ps : Pos} {vs1 : List Nat} {wj : TI} {g2 : TG} {te : TE} {D : Addr} {Z : Hp → Prop} {pins : List (Addr × Obj)} {σ2 : L2.St} {H4 : Hp} {z : Shared} {E : Value → Shared → Prop}
    {P : Program} {w : World} {O0 : Addr → HO} {SA : Addr → V → Hp → Hp → Prop} (kd : SetKd P w O0 SA) (hp : Y.prog = P) (hw : Y.w = w) (hc : Y.calm = true) (hxe : Y.xe = fun _ _ => False) (pj : L2.PI Y t2 i2 wj) (pg2 : PG Y t2 g2) (pe : PE Y el te) (I : L2.Inv Y pins σ2 H4 z)
    (q : wj σ2 H4 fun J1 H4 => ∃ V1 : Nat → Nat → Hp → Prop, (∃ k, V1 0 k H4) ∧ ∀ j k H5, V1 j k H5 → (J1.stop j H5 ∧ Z H5) ∨ (J1.go j H5 ∧ ∃ Z1 : Hp → Prop, (∀ H', Z1 H' → ∃ k', k' < k ∧ V1 (j + 1) k' H') ∧
        ∀ x H', J1.yld j H5 x H' → g2 x (wipe σ2 vs1) H' fun σ3 H6 => wipe σ3 vs1 = wipe σ2 vs1 ∧ te σ3 H6 fun y H7 => ∃ H8, SA D y H7 H8 ∧ Z1 H8)) :
    wpAny (model Y.prog Y.w) Y.A (eval i2 Y.env) (fun y z1 => wpAny (model Y.prog Y.w) Y.A (pyIter y) (fun i' z2 =>
      codeAny (model Y.prog Y.w) Y.A (.compStart (scE el t1 i1 t2 i2 sc ps) 1 i' (.ref D) Y.env) (fun r z3 => (∃ f, r = .ok f) ∧ ∃ H', L2.Inv Y pins (wipe σ2 vs1) H' z3 ∧ Z H') z2) E z1) E z := by
  have run := pj.run pins z σ2 H4 _ I q
  rw [hxe] at run
  refine thnF run fun y z1 a => thnF a fun i' z2 b => ?_
  obtain ⟨it, fp, tn, J1, H5, rfl, I5, T1, st, f5, V1, ⟨k0, v0⟩, turn⟩ := b
  have fpy : ∀ {H' : Hp}, (∀ b ∈ fp, H' b = none) → ∀ b ∈ fp, FpOk Y pins H' b := fun hn b hb => ⟨hn b hb, (f5 b hb).2⟩
  have loop : codeAny (model Y.prog Y.w) Y.A (.compLoop (scE el t1 i1 t2 i2 sc ps) 1 (.ref it) (.ref D) Y.env) (fun r z3 => (∃ f, r = .ok f) ∧ ∃ H', L2.Inv Y pins (wipe σ2 vs1) H' z3 ∧ Z H') z2 := by
    refine sc2_loop1 (fun n z => ∃ j H', L2.Inv Y pins (wipe σ2 vs1) H' z ∧ tn j z.heap ∧ (∀ b ∈ fp, H' b = none) ∧ V1 j n H') ?_ k0 ⟨0, H5, I5.weak (wipe_length _ _) (fun _ _ e => (wipe_some e).1), st, fun b hb => (f5 b hb).1, v0⟩
    rintro n z5 ⟨j, H6, I6, st6, n6, v6⟩
    rcases turn j n H6 v6 with ⟨stop, nx⟩ | ⟨go, Z1, hZ1, step⟩
    · refine thnF (T1.done Y rfl rfl rfl hc j pins z5 _ H6 (fun _ _ => False) I6 (fpy n6) st6 stop) fun r z6 ⟨hr, I7⟩ => ?_
      subst hr
      exact ⟨⟨_, rfl⟩, H6, I7, nx⟩
    · refine thnF (T1.item Y rfl rfl rfl hc j pins z5 _ H6 (fun _ _ => False) I6 (fpy n6) st6 go) fun r z6 ⟨u, hr, a⟩ => ?_
      subst hr
      refine thnF a fun _ z7 ⟨x, H7, I7, rx, y7, st7, n7⟩ => ?_
      have r2 := pg2.run _ z7 (wipe σ2 vs1) H7 x u _ (I7.pinned (fpy n7) (T1.obj _ _ st7)) rx (step x H7 y7)
      rw [hxe] at r2
      refine thnF r2 fun _ z8 ⟨σ8, H8, I8, hw8, q8⟩ => ?_
      have r3 := pe.run _ z8 σ8 H8 _ I8 q8
      rw [hxe] at r3
      refine thnF r3 fun v z9 ⟨yv, H9, I9, r9, Ha, ha, nz⟩ => ?_
      refine kd.add hp hw I9 r9 ha fun _ z10 I10 => ?_
      obtain ⟨k', hk', w'⟩ := hZ1 _ nz
      have still : ∀ b ∈ fp, ∀ o, z7.heap.get? b = some o → z10.heap.get? b = some o ∧ Ha b = none := fun b hb o e => by
        have p := I10.pin (b, o) (List.mem_append_right _ (List.mem_append_right _ (mem_pinsAt hb e)))
        exact ⟨p.1, p.2.1⟩
      refine ⟨k', hk', j + 1, _, I10.unpinned.weak (by rw [← hw8, wipe_length]) (fun i v e => ?_), T1.keep _ _ _ st7 fun b hb o e => (still b hb o e).1, fun b hb => ?_, w'⟩
      · rw [← hw8] at e
        exact (wipe_some e).1
      · obtain ⟨o, e, _⟩ := T1.obj _ _ st7 b hb
        exact (still b hb o e).2
  exact sc2_start1 loop (T1.self Y.A 0 z2 _ _ st loop)
theorem pe_sc2G {el t1 i1 t2 i2 : Expr} {sc : Scope} {ps : Pos} {own : List (Str × Nat)} {vs1 : List Nat} {wi wj : TI} {g g2 : TG} {te : TE} {O0 : Addr → HO} {SA : Addr → V → Hp → Hp → Prop} (kd : SetKd X.prog X.w O0 SA) (hc : X.calm = true) (hN : X.N.Nodup) (hi : L2.PI X t1 i1 wi) (ok : BlkOk X.N X.env.scope sc own) (hv : ∀ i ∈ vs1, i ∈ own.map (·.2))
    (hg : ∀ (s : Shared) (H : Hp) (C : Addr) (cl : List (Str × Addr)) (fp : List Addr), PG (X.blk s H sc (compEnvC sc cl C X.env) fp) t1 g)
    (hj : ∀ (s : Shared) (H : Hp) (C : Addr) (cl : List (Str × Addr)) (fp : List Addr), L2.PI (X.blk s H sc (compEnvC sc cl C X.env) fp) t2 i2 wj)
    (hg2 : ∀ (s : Shared) (H : Hp) (C : Addr) (cl : List (Str × Addr)) (fp : List Addr), PG (X.blk s H sc (compEnvC sc cl C X.env) fp) t2 g2)
    (he : ∀ (s : Shared) (H : Hp) (C : Addr) (cl : List (Str × Addr)) (fp : List Addr), PE (X.blk s H sc (compEnvC sc cl C X.env) fp) el te)
    (hf1 : ∀ y, foldedSetIterable i1 X.env y = pure y := by intro _; rfl) (hf2 : ∀ e y, foldedSetIterable i2 e y = pure y := by intro _ _; rfl) :
    PE X (scE el t1 i1 t2 i2 sc ps) (tSc2G O0 SA wi g wj g2 te (own.map (·.2)) vs1) := by
  constructor
  intro pins s σ H Q I h
  rw [PpSet.eval_SetComp]
  have hfree : ∀ y ∈ sc.names, y.2 = .free → ∃ c, X.env.cells.lookup y.1 = some c := by
    intro y hy e
    exact (ok.free y hy e).elim (fun q => I.ok.has _ (.inl q)) fun q => I.ok.has _ (.inr q)
  refine wpAny_comprehension_free (use := none) rfl hf1 (closure_ok hfree) ok.kind (fun y hy e => by rw [ok.uniq y hy, e]) (thn (hi.run pins s σ H _ I h) fun _ _ a => thn a fun _ z2 a => ?_)
  obtain ⟨it, fp, tn, J, H2, rfl, I2, T, st2, f2, q⟩ := a
  refine PpSet.newSet_ok (newEnv_comp ?_)
  obtain ⟨D, hD⟩ : ∃ D, z2.heap.objs.size = D := ⟨_, rfl⟩
  rw [hD]
  have nD : H2 D = none := I2.hok.fresh (Nat.le_of_eq hD)
  obtain ⟨W, ⟨m0, w0⟩, turn⟩ := q D nD
  obtain ⟨z3, hz3⟩ : ∃ z3 : Shared, ({ z2 with heap := z2.heap.push { cls := .type "set", dict := none, data := .set #[] 0 (.fresh 0 0 (!X.w.params.followText "set-order")) } } : Shared) = z3 := ⟨_, rfl⟩
  have hh3 : z3.heap = z2.heap.push { cls := .type "set", dict := none, data := .set #[] 0 (.fresh 0 0 (!X.w.params.followText "set-order")) } := by rw [← hz3]
  have kp3 : ∀ b o, z2.heap.get? b = some o → z3.heap.get? b = some o := fun b o e => by rw [hh3]; exact Heap.get?_push_of_some _ e
  obtain ⟨H3, hH3⟩ : ∃ H3, upd H2 D (O0 D) = H3 := ⟨_, rfl⟩
  rw [hH3] at w0
  have I3 : L2.Inv X pins σ H3 z3 := by
    rw [← hH3, ← hz3]
    refine I2.laid (t' := z2.toks) (fun _ _ e => Heap.get?_push_of_some _ e) (Nat.le_of_eq hD) ?_
    rw [← hD]
    exact kd.new _ _
  have small : ∀ b ∈ fp, b < z2.heap.objs.size := fun b hb => (T.obj _ _ st2 b hb).elim fun o e => Heap.lt_size e.1
  have n3 : ∀ b ∈ fp, H3 b = none := fun b hb => by
    have hne : b ≠ D := Nat.ne_of_lt (hD ▸ small b hb)
    rw [← hH3, upd_ne hne]
    exact (f2 b hb).1
  have f3 : ∀ b ∈ fp, FpOk X pins H3 b ∧ b < z3.heap.objs.size := fun b hb =>
    ⟨⟨n3 b hb, (f2 b hb).2⟩, by rw [hh3, Heap.size_push]; exact Nat.lt_succ_of_lt (small b hb)⟩
  have st3 : tn 0 z3.heap := T.keep _ _ _ st2 fun b _ o e => kp3 b o e
  have I4 := block_start I3 ok hN f3
  -- the block
  obtain ⟨ce, hce⟩ : ∃ ce, compEnvC sc (cellsFrom (z3.heap.objs.size + 1) sc.names (cloFrom X.env.cells sc.names [])) z3.heap.objs.size X.env = ce := ⟨_, rfl⟩
  have pg := hg z3 H3 z3.heap.objs.size (cellsFrom (z3.heap.objs.size + 1) sc.names (cloFrom X.env.cells sc.names [])) fp
  have pj := hj z3 H3 z3.heap.objs.size (cellsFrom (z3.heap.objs.size + 1) sc.names (cloFrom X.env.cells sc.names [])) fp
  have pg2 := hg2 z3 H3 z3.heap.objs.size (cellsFrom (z3.heap.objs.size + 1) sc.names (cloFrom X.env.cells sc.names [])) fp
  have pe := he z3 H3 z3.heap.objs.size (cellsFrom (z3.heap.objs.size + 1) sc.names (cloFrom X.env.cells sc.names [])) fp
  rw [hce] at I4 pg pj pg2 pe
  have hloc : ce.locals = z3.heap.objs.size := by rw [← hce]; rfl
  obtain ⟨z4, hz4⟩ : ∃ z4 : Shared, ({ z3 with heap := pushCells (z3.heap.push { cls := .type "dict", data := .dict #[] }) sc.names } : Shared) = z4 := ⟨_, rfl⟩
  rw [hz4] at I4
  have st4 : tn 0 z4.heap := T.keep _ _ _ st3 fun b _ o e => by rw [← hz4]; exact pushCells_keeps _ _ _ _ (Heap.get?_push_of_some _ e)
  have stay : ∀ {σ' : L2.St} {H' : Hp} {z : Shared}, L2.Inv (X.blk z3 H3 sc ce fp) [] σ' H' z → (∀ b ∈ fp, H' b = none) → ∀ b ∈ fp, FpOk (X.blk z3 H3 sc ce fp) [] H' b := blk_fp
  have loop : codeAny (model X.prog X.w) X.A (.compLoop (scE el t1 i1 t2 i2 sc ps) 0 (.ref it) (.ref D) ce) (compPost (model X.prog X.w) X.A X.xe none (EP X pins σ Q) (.ref D) z3.heap.objs.size) z4 := by
    refine sc2_loop0 (hf2 ce) (fun n z => ∃ i H', L2.Inv (X.blk z3 H3 sc ce fp) [] (wipe σ (own.map (·.2))) H' z ∧ tn i z.heap ∧ (∀ b ∈ fp, H' b = none) ∧ W i n H') ?_ m0 ⟨0, H3, I4, st4, n3, w0⟩
    rintro n z5 ⟨i, H5, I5, st5, n5, w5⟩
    rcases turn i n H5 w5 with ⟨stop, qq⟩ | ⟨go, Z, hZ, step⟩
    · refine thnF (T.done (X.blk z3 H3 sc ce fp) rfl rfl rfl hc i [] z5 _ H5 (fun _ _ => False) I5 (stay I5 n5) st5 stop) fun r z6 ⟨hr, I6⟩ => ?_
      subst hr
      have I7 : L2.Inv X pins σ H5 z6 := I3.call' (ch := fp) I6.os I6.base I6.hok I6.bare fun b hb => by
        obtain ⟨_, a1, a2, a3, a4, a5⟩ := (f3 b hb).1
        exact ⟨a3, a1, a4, a5⟩
      have nC : H5 z3.heap.objs.size = none := by
        have z : H5 ce.locals = none := I6.free
        rw [hloc] at z
        exact z
      obtain ⟨m, hn, _⟩ := I6.loc
      have hn : z6.heap.Ns ce.locals m := hn
      rw [hloc] at hn
      obtain ⟨b0, b1, b2, b3, b4, b5⟩ := I3.fpOk (Nat.le_refl _) nC
      exact ⟨m, hn, fun h'' sb => ⟨.ref D, H5, I7.turned (t' := z6.toks) (fun b o hb e => (sb.2 b hb).trans e) b0 b1 b3 b4 b5, rfl, qq⟩⟩
    · refine thnF (T.item (X.blk z3 H3 sc ce fp) rfl rfl rfl hc i [] z5 _ H5 (fun _ _ => False) I5 (stay I5 n5) st5 go) fun r z6 ⟨u, hr, a⟩ => ?_
      subst hr
      refine thnF a fun _ z7 ⟨x, H7, I7, rx, y7, st7, n7⟩ => ?_
      refine thnF (pg.run _ z7 _ H7 x u _ (I7.pinned (stay I7 n7) (T.obj _ _ st7)) rx (step x H7 y7)) fun _ z8 ⟨σ8, H8, I8, hw8, q8⟩ => ?_
      refine thnF (sc2_secondG (Y := X.blk z3 H3 sc ce fp) (el := el) (t1 := t1) (i1 := i1) (sc := sc) (ps := ps) (D := D) (vs1 := vs1) kd rfl rfl hc rfl pj pg2 pe I8 q8) fun y z9 a => thnF a fun i' z10 b => codeAny_mono b fun r z11 ⟨hr, H11, I11, hz⟩ => ⟨hr, ?_⟩
      obtain ⟨m', hm', w'⟩ := hZ _ hz
      have still : ∀ b ∈ fp, ∀ o, z7.heap.get? b = some o → z11.heap.get? b = some o ∧ H11 b = none := fun b hb o e => by
        have p := I11.pin (b, o) (List.mem_append_right _ (List.mem_append_right _ (mem_pinsAt hb e)))
        exact ⟨p.1, p.2.1⟩
      refine ⟨m', hm', i + 1, H11, (I11.unpinned (pins := [])).weak (by rw [← hw8, wipe_length, wipe_length]) (fun j v e => ?_), T.keep _ _ _ st7 fun b hb o e => (still b hb o e).1, fun b hb => ?_, w'⟩
      · rw [← hw8] at e
        obtain ⟨e1, e2⟩ := wipe_some e
        rw [wipe_out fun z => e2 (hv j z)]
        exact e1
      · obtain ⟨o, e, _⟩ := T.obj _ _ st7 b hb
        exact (still b hb o e).2
  subst hz4
  subst hce
  subst hz3
  exact PpSet.codeAny_compStart_set loop (T.self X.A 0 _ _ _ st4 loop)
theorem pe_sc1G {el t1 i1 : Expr} {sc : Scope} {ps : Pos} {own : List (Str × Nat)} {wi : TI} {g : TG} {te : TE} {O0 : Addr → HO} {SA : Addr → V → Hp → Hp → Prop} (kd : SetKd X.prog X.w O0 SA) (hc : X.calm = true) (hN : X.N.Nodup) (hi : L2.PI X t1 i1 wi) (ok : BlkOk X.N X.env.scope sc own)
    (hg : ∀ (s : Shared) (H : Hp) (C : Addr) (cl : List (Str × Addr)) (fp : List Addr), PG (X.blk s H sc (compEnvC sc cl C X.env) fp) t1 g)
    (he : ∀ (s : Shared) (H : Hp) (C : Addr) (cl : List (Str × Addr)) (fp : List Addr), PE (X.blk s H sc (compEnvC sc cl C X.env) fp) el te)
    (hf1 : ∀ y, foldedSetIterable i1 X.env y = pure y := by intro _; rfl) :
    PE X (sc1E el t1 i1 sc ps) (tSc1G O0 SA wi g te (own.map (·.2))) := by
  constructor
  intro pins s σ H Q I h
  rw [PpSet.eval_SetComp]
  have hfree : ∀ y ∈ sc.names, y.2 = .free → ∃ c, X.env.cells.lookup y.1 = some c := by
    intro y hy e
    exact (ok.free y hy e).elim (fun q => I.ok.has _ (.inl q)) fun q => I.ok.has _ (.inr q)
  refine wpAny_comprehension_free (use := none) rfl hf1 (closure_ok hfree) ok.kind (fun y hy e => by rw [ok.uniq y hy, e]) (thn (hi.run pins s σ H _ I h) fun _ _ a => thn a fun _ z2 a => ?_)
  obtain ⟨it, fp, tn, J, H2, rfl, I2, T, st2, f2, q⟩ := a
  refine PpSet.newSet_ok (newEnv_comp ?_)
  obtain ⟨D, hD⟩ : ∃ D, z2.heap.objs.size = D := ⟨_, rfl⟩
  rw [hD]
  have nD : H2 D = none := I2.hok.fresh (Nat.le_of_eq hD)
  obtain ⟨W, ⟨m0, w0⟩, turn⟩ := q D nD
  obtain ⟨z3, hz3⟩ : ∃ z3 : Shared, ({ z2 with heap := z2.heap.push { cls := .type "set", dict := none, data := .set #[] 0 (.fresh 0 0 (!X.w.params.followText "set-order")) } } : Shared) = z3 := ⟨_, rfl⟩
  have hh3 : z3.heap = z2.heap.push { cls := .type "set", dict := none, data := .set #[] 0 (.fresh 0 0 (!X.w.params.followText "set-order")) } := by rw [← hz3]
  have kp3 : ∀ b o, z2.heap.get? b = some o → z3.heap.get? b = some o := fun b o e => by rw [hh3]; exact Heap.get?_push_of_some _ e
  obtain ⟨H3, hH3⟩ : ∃ H3, upd H2 D (O0 D) = H3 := ⟨_, rfl⟩
  rw [hH3] at w0
  have I3 : L2.Inv X pins σ H3 z3 := by
    rw [← hH3, ← hz3]
    refine I2.laid (t' := z2.toks) (fun _ _ e => Heap.get?_push_of_some _ e) (Nat.le_of_eq hD) ?_
    rw [← hD]
    exact kd.new _ _
  have small : ∀ b ∈ fp, b < z2.heap.objs.size := fun b hb => (T.obj _ _ st2 b hb).elim fun o e => Heap.lt_size e.1
  have n3 : ∀ b ∈ fp, H3 b = none := fun b hb => by
    have hne : b ≠ D := Nat.ne_of_lt (hD ▸ small b hb)
    rw [← hH3, upd_ne hne]
    exact (f2 b hb).1
  have f3 : ∀ b ∈ fp, FpOk X pins H3 b ∧ b < z3.heap.objs.size := fun b hb =>
    ⟨⟨n3 b hb, (f2 b hb).2⟩, by rw [hh3, Heap.size_push]; exact Nat.lt_succ_of_lt (small b hb)⟩
  have st3 : tn 0 z3.heap := T.keep _ _ _ st2 fun b _ o e => kp3 b o e
  have I4 := block_start I3 ok hN f3
  -- the block
  obtain ⟨ce, hce⟩ : ∃ ce, compEnvC sc (cellsFrom (z3.heap.objs.size + 1) sc.names (cloFrom X.env.cells sc.names [])) z3.heap.objs.size X.env = ce := ⟨_, rfl⟩
  have pg := hg z3 H3 z3.heap.objs.size (cellsFrom (z3.heap.objs.size + 1) sc.names (cloFrom X.env.cells sc.names [])) fp
  have pe := he z3 H3 z3.heap.objs.size (cellsFrom (z3.heap.objs.size + 1) sc.names (cloFrom X.env.cells sc.names [])) fp
  rw [hce] at I4 pg pe
  have hloc : ce.locals = z3.heap.objs.size := by rw [← hce]; rfl
  obtain ⟨z4, hz4⟩ : ∃ z4 : Shared, ({ z3 with heap := pushCells (z3.heap.push { cls := .type "dict", data := .dict #[] }) sc.names } : Shared) = z4 := ⟨_, rfl⟩
  rw [hz4] at I4
  have st4 : tn 0 z4.heap := T.keep _ _ _ st3 fun b _ o e => by rw [← hz4]; exact pushCells_keeps _ _ _ _ (Heap.get?_push_of_some _ e)
  have stay : ∀ {σ' : L2.St} {H' : Hp} {z : Shared}, L2.Inv (X.blk z3 H3 sc ce fp) [] σ' H' z → (∀ b ∈ fp, H' b = none) → ∀ b ∈ fp, FpOk (X.blk z3 H3 sc ce fp) [] H' b := blk_fp
  have loop : codeAny (model X.prog X.w) X.A (.compLoop (sc1E el t1 i1 sc ps) 0 (.ref it) (.ref D) ce) (compPost (model X.prog X.w) X.A X.xe none (EP X pins σ Q) (.ref D) z3.heap.objs.size) z4 := by
    refine sc1_loop (fun n z => ∃ i H', L2.Inv (X.blk z3 H3 sc ce fp) [] (wipe σ (own.map (·.2))) H' z ∧ tn i z.heap ∧ (∀ b ∈ fp, H' b = none) ∧ W i n H') ?_ m0 ⟨0, H3, I4, st4, n3, w0⟩
    rintro n z5 ⟨i, H5, I5, st5, n5, w5⟩
    rcases turn i n H5 w5 with ⟨stop, qq⟩ | ⟨go, Z, hZ, step⟩
    · refine thnF (T.done (X.blk z3 H3 sc ce fp) rfl rfl rfl hc i [] z5 _ H5 (fun _ _ => False) I5 (stay I5 n5) st5 stop) fun r z6 ⟨hr, I6⟩ => ?_
      subst hr
      have I7 : L2.Inv X pins σ H5 z6 := I3.call' (ch := fp) I6.os I6.base I6.hok I6.bare fun b hb => by
        obtain ⟨_, a1, a2, a3, a4, a5⟩ := (f3 b hb).1
        exact ⟨a3, a1, a4, a5⟩
      have nC : H5 z3.heap.objs.size = none := by
        have z : H5 ce.locals = none := I6.free
        rw [hloc] at z
        exact z
      obtain ⟨m, hn, _⟩ := I6.loc
      have hn : z6.heap.Ns ce.locals m := hn
      rw [hloc] at hn
      obtain ⟨b0, b1, b2, b3, b4, b5⟩ := I3.fpOk (Nat.le_refl _) nC
      exact ⟨m, hn, fun h'' sb => ⟨.ref D, H5, I7.turned (t' := z6.toks) (fun b o hb e => (sb.2 b hb).trans e) b0 b1 b3 b4 b5, rfl, qq⟩⟩
    · refine thnF (T.item (X.blk z3 H3 sc ce fp) rfl rfl rfl hc i [] z5 _ H5 (fun _ _ => False) I5 (stay I5 n5) st5 go) fun r z6 ⟨u, hr, a⟩ => ?_
      subst hr
      refine thnF a fun _ z7 ⟨x, H7, I7, rx, y7, st7, n7⟩ => ?_
      refine thnF (pg.run _ z7 _ H7 x u _ (I7.pinned (stay I7 n7) (T.obj _ _ st7)) rx (step x H7 y7)) fun _ z8 ⟨σ8, H8, I8, hw8, q8⟩ => ?_
      have r3 := pe.run _ z8 σ8 H8 _ I8 q8
      refine thnF r3 fun v z9 ⟨yv, H9, I9, r9, H11, ha, hz⟩ => ?_
      refine kd.add (X := X.blk z3 H3 sc ce fp) rfl rfl I9 r9 ha fun _ z11 I11 => ?_
      obtain ⟨m', hm', w'⟩ := hZ _ hz
      have still : ∀ b ∈ fp, ∀ o, z7.heap.get? b = some o → z11.heap.get? b = some o ∧ H11 b = none := fun b hb o e => by
        have p := I11.pin (b, o) (List.mem_append_right _ (List.mem_append_right _ (mem_pinsAt hb e)))
        exact ⟨p.1, p.2.1⟩
      refine ⟨m', hm', i + 1, H11, (I11.unpinned (pins := [])).weak (by rw [← hw8, wipe_length]) (fun j v e => ?_), T.keep _ _ _ st7 fun b hb o e => (still b hb o e).1, fun b hb => ?_, w'⟩
      · rw [← hw8] at e
        obtain ⟨e1, e2⟩ := wipe_some e
        exact e1
      · obtain ⟨o, e, _⟩ := T.obj _ _ st7 b hb
        exact (still b hb o e).2
  subst hz4
  subst hce
  subst hz3
  exact PpSet.codeAny_compStart_set loop (T.self X.A 0 _ _ _ st4 loop)
end
end G
set_option Elab.async false
set_option linter.all false
set_option maxRecDepth 100000
set_option maxHeartbeats 2000000
namespace G
open PySem PySem.Spec PyProof.Rows L2 StX
def txtE (e : Int × Value) : Str := match e.2 with | .str x _ => x | _ => Str.empty
def OkT (P : Program) (w : World) (e : Int × Value) : Prop := ∃ x tk, e.2 = Value.str x tk ∧ e.1 = (strKind P w).hash x
def SetT (P : Program) (w : World) (h : Heap) (a : Addr) (S : Str → Bool) (n : Nat) : Prop :=
  ∃ o es ep t, h.get? a = some o ∧ o.ExactSet ∧ o.data = .set es ep t ∧ (∀ e ∈ es.toList, OkT P w e) ∧ (es.toList.map txtE).Nodup ∧ (∀ k, S k = true ↔ k ∈ es.toList.map txtE) ∧
    es.size < scanBound ∧ t.fits es.size = true ∧ es.size = n ∧ Ris t.place.toList ∧ (w.params.followText "set-order" = true ∨ t.led = true)
section
variable {P : Program} {w : World}
theorem okT_elems {l : List (Int × Value)} (g : ∀ e ∈ l, OkT P w e) : ElemsOf (strKind P w) l := fun e he => by
  obtain ⟨x, tk, h1, h2⟩ := g e he
  exact ⟨⟨x, by rw [h1]; exact strKind_is P w x tk, h2⟩, by rw [h1] <;> rfl⟩
theorem okT_is {e : Int × Value} (g : OkT P w e) (k : Str) : (strKind P w).is k e.2 = true ↔ txtE e = k := by
  obtain ⟨x, tk, h1, _⟩ := g
  unfold txtE
  rw [h1]
  have h : (strKind P w).is x (.str x tk) = true := strKind_is P w x tk
  constructor
  · intro h2
    exact (strKind P w).inj _ _ _ h h2
  · intro e
    rw [← e]
    exact h
theorem okT_mem {l : List (Int × Value)} (g : ∀ e ∈ l, OkT P w e) (k : Str) : k ∈ l.map txtE ↔ ∃ e ∈ l, (strKind P w).is k e.2 = true := by
  rw [List.mem_map]
  exact ⟨fun ⟨e, he, q⟩ => ⟨e, he, (okT_is (g e he) k).2 q⟩, fun ⟨e, he, q⟩ => ⟨e, he, (okT_is (g e he) k).1 q⟩⟩
theorem SetT.lt {h : Heap} {a : Addr} {S : Str → Bool} {n : Nat} (R : SetT P w h a S n) : a < h.objs.size := by
  obtain ⟨o, _, _, _, ho, _⟩ := R
  exact Heap.lt_size ho
theorem SetT.setOf {h : Heap} {a : Addr} {S : Str → Bool} {n : Nat} (R : SetT P w h a S n) : h.SetOf (strKind P w) a S n := by
  obtain ⟨o, es, ep, t, ho, hx, hd, g, nd, hm, hb, hf, hn, _⟩ := R
  exact ⟨o, es, ep, t, ho, hx, hd, okT_elems g, fun k => (hm k).trans (okT_mem g k), hb, hf, hn⟩
variable {A : Around} {E : Value → Shared → Prop} {s : Shared} {a : Addr} {S : Str → Bool} {n : Nat}
theorem setT_tail {g : Bool → Sem Unit} (hg : ∀ (b : Bool) (s₁ : Shared) (Q' : Unit → Shared → Prop), Q' () s₁ → wpAny (model P w) A (g b) Q' E s₁)
    {o : Obj} {es : Array (Int × Value)} {ep : Nat} {t : SetTable} (ho : s.heap.get? a = some o) (hex : o.ExactSet) (hd : o.data = .set es ep t)
    {es1 : Array (Int × Value)} {t2 : SetTable} {S' : Str → Bool} (g1 : ∀ e ∈ es1.toList, OkT P w e) (nd1 : (es1.toList.map txtE).Nodup) (m1 : ∀ k, S' k = true ↔ k ∈ es1.toList.map txtE)
    (hb1 : es1.size < scanBound) (hf2 : t2.fits es1.size = true) (hr : Ris t2.place.toList) (hl : w.params.followText "set-order" = true ∨ t2.led = true) {wasDummy : Bool} {R : Option Bool → Shared → Prop}
    (hR : ∀ h', Heap.SameBut a s.heap h' → SetT P w h' a S' es1.size → R (some true) { s with heap := h' }) :
    wpAny (model P w) A (do
        storeSet a es1 t2
        if (!wasDummy && t2.tooFull) = true then do
            g (relayAll t2 es1 (SetTable.grown es1.size)).2.2
            storeSet a (relayAll t2 es1 (SetTable.grown es1.size)).1 (relayAll t2 es1 (SetTable.grown es1.size)).2.1
            pure (some true)
          else pure (some true)) R E s := by
  have at1 := store_at (es' := es1) (t' := t2) ho hd
  have same1 := Heap.SameBut.update s.heap a (Obj.putSet es1 t2)
  refine wpAny_bind (wpAny_storeSet_of ho hd ?_ (fits_of_scanBound hb1))
  split
  · have f3 := relayAll_fits t2 es1 (SetTable.grown es1.size)
    have p3 := relayAll_perm t2 es1 (SetTable.grown es1.size)
    have l3 := relayAll_led t2 es1 (SetTable.grown es1.size)
    have r3 := relayAll_ris t2 es1 (SetTable.grown es1.size)
    generalize relayAll t2 es1 (SetTable.grown es1.size) = Z at f3 p3 l3 r3 ⊢
    obtain ⟨es2, t3, gave⟩ := Z
    dsimp only at f3 p3 l3 r3 ⊢
    have z2 : es2.size = es1.size := by
      have := p3.length_eq
      rwa [Array.length_toList, Array.length_toList] at this
    have b2 : es2.size < scanBound := z2 ▸ hb1
    refine wpAny_bind (hg _ _ _ (wpAny_bind (wpAny_storeSet_of at1 rfl ?_ (fits_of_scanBound b2))))
    refine wpAny_pure (hR _ (same1.trans (Heap.SameBut.update _ a _)) ⟨_, es2, _, t3, store_at (es' := es2) (t' := t3) at1 rfl, hex, rfl, fun e he => g1 e (p3.mem_iff.mp he), (p3.map txtE).nodup_iff.mpr nd1, fun k => (m1 k).trans (p3.map txtE).mem_iff.symm, b2, f3, z2, r3, ?_⟩)
    rcases hl with hl | hl
    · exact .inl hl
    · exact .inr (l3.trans hl)
  · exact wpAny_pure (hR _ same1 ⟨_, es1, _, t2, at1, hex, rfl, g1, nd1, m1, hb1, hf2, rfl, hr, hl⟩)
theorem setT_hashed {k : Str} {tk : Tok} {Q : Bool → Shared → Prop} (R : SetT P w s.heap a S n) (room : n + 1 < scanBound)
    (hQ : ∀ h', Heap.SameBut a s.heap h' → SetT P w h' a (fun j => S j || decide (j = k)) (if S k = true then n else n + 1) → Q (!S k) { s with heap := h' }) :
    wpAny (model P w) A (setAddHashed a (.str k tk) ((strKind P w).hash k)) Q E s := by
  obtain ⟨o, es, ep, t, ho, hex, hd, g, nd, hm, hb, hf, hn, hr, hl⟩ := R
  have kk : (strKind P w).is k (.str k tk) = true := strKind_is P w k tk
  have sc : (Value.str k tk).scannable = true := rfl
  have el : ElemsOf (strKind P w) es.toList := okT_elems g
  unfold setAddHashed setAddHashedIn
  refine wpAny_holding (wpAny_bind (wpAny_setState_of ho hd hf ?_))
  dsimp only
  rw [byScan_of sc hb el]
  simp only [↓reduceIte]
  unfold setAddByScan
  refine wpAny_bind (wpAny_bind (wpAny_rule (wpAny_bind (wpAny_setScan_of kk ho hd hf el ?_))))
  cases hfi : List.findIdx? (fun e => (strKind P w).is k e.2) es.toList with
  | some j =>
    dsimp only
    obtain ⟨hj, pj, _⟩ := List.findIdx?_eq_some_iff_getElem.mp hfi
    have yes : S k = true := (hm k).2 ((okT_mem g k).2 ⟨_, List.getElem_mem hj, pj⟩)
    have q := hQ s.heap (Heap.SameBut.refl a s.heap) ⟨o, es, ep, t, ho, hex, hd, g, nd, fun i => by
      rw [Bool.or_eq_true, decide_eq_true_eq, ← hm i]
      exact ⟨fun z => z.elim id (fun e => e ▸ yes), .inl⟩, hb, hf, by rw [if_pos yes]; exact hn, hr, hl⟩
    rw [yes] at q
    exact wpAny_pure (wpAny_pure q)
  | none =>
    dsimp only
    have out : k ∉ es.toList.map txtE := fun z => by
      obtain ⟨e, he, q⟩ := (okT_mem g k).1 z
      have c := List.findIdx?_eq_none_iff.mp hfi e he
      rw [q] at c
      cases c
    have no : S k = false := by
      cases q : S k with
      | false => rfl
      | true => exact absurd ((hm k).1 q) out
    have gw : ∀ (b : Bool) {s₁ : Shared} {Q' : Unit → Shared → Prop}, Q' () s₁ → wpAny (model P w) A (match b with | true => rule "set.scan.the-table-gave-way" | false => pure ()) Q' E s₁ := by
      intro b s₁ Q' q
      cases b
      · exact wpAny_pure q
      · exact wpAny_rule q
    have f1 := layNew_fits t es ((strKind P w).hash k) (.str k tk)
    have p1 := layNew_perm t es ((strKind P w).hash k) (.str k tk)
    have l1 := layNew_led t es ((strKind P w).hash k) (.str k tk)
    have r1 := layNew_ris t es ((strKind P w).hash k) (.str k tk) hr
    generalize layNew t es ((strKind P w).hash k) (.str k tk) = Z at f1 p1 l1 r1 ⊢
    obtain ⟨es1, t1, wasDummy, gave⟩ := Z
    dsimp only at f1 p1 l1 r1 ⊢
    rw [Array.toList_push] at p1
    have pc : es1.toList.Perm (((strKind P w).hash k, Value.str k tk) :: es.toList) := p1.trans (List.perm_append_singleton _ _)
    have pk : (es1.toList.map txtE).Perm (k :: es.toList.map txtE) := pc.map txtE
    have g1 : ∀ e ∈ es1.toList, OkT P w e := fun e he => by
      rcases List.mem_cons.mp (pc.mem_iff.mp he) with z | z
      · rw [z]
        exact ⟨k, tk, rfl, rfl⟩
      · exact g e z
    have nd1 : (es1.toList.map txtE).Nodup := pk.nodup_iff.mpr (List.nodup_cons.mpr ⟨out, nd⟩)
    have m1 : ∀ i, (S i || decide (i = k)) = true ↔ i ∈ es1.toList.map txtE := fun i => by
      rw [Bool.or_eq_true, decide_eq_true_eq, hm i, pk.mem_iff, List.mem_cons]
      exact Or.comm
    have z1 : es1.size = n + 1 := by
      have := pc.length_eq
      rw [List.length_cons, Array.length_toList, Array.length_toList] at this
      omega
    have b1 : es1.size < scanBound := by rw [z1]; exact room
    have led1 : w.params.followText "set-order" = true ∨ t1.led = true := hl.imp id fun z => by rw [l1]; exact z
    have fin : ∀ h', Heap.SameBut a s.heap h' → SetT P w h' a (fun j => S j || decide (j = k)) es1.size → Q true { s with heap := h' } := fun h' sb r => by
      have q := hQ h' sb
      rw [no] at q
      rw [z1] at r
      exact q r
    refine wpAny_bind (gw _ ?_)
    split
    · refine wpAny_bind ?_
      rw [hashByValue_scannable 8 sc]
      refine wpAny_pure (setT_tail ?_ ho hex hd g1 nd1 m1 b1 ?_ ?_ ?_ ?_)
      · intro b s₁ Q' q; cases b <;> first | exact wpAny_pure q | exact wpAny_rule q
      · first | (split <;> first | exact f1 | exact SetTable.fits_plain_off f1) | exact f1
      · first | (split <;> exact r1) | exact r1
      · first | (split <;> exact led1) | exact led1
      · intro h' sb r
        dsimp only
        exact wpAny_pure (fin h' sb r)
    · refine wpAny_bind (wpAny_pure ?_)
      simp only [↓reduceIte]
      refine setT_tail ?_ ho hex hd g1 nd1 m1 b1 f1 r1 led1 ?_
      · intro b s₁ Q' q; cases b <;> first | exact wpAny_pure q | exact wpAny_rule q
      · intro h' sb r
        dsimp only
        exact wpAny_pure (fin h' sb r)
theorem setT_add {k : Str} {tk : Tok} {Q : Value → Shared → Prop} (R : SetT P w s.heap a S n) (room : n + 1 < scanBound)
    (hQ : ∀ h', Heap.SameBut a s.heap h' → SetT P w h' a (fun j => S j || decide (j = k)) (if S k = true then n else n + 1) → Q .none { s with heap := h', toks := s.toks + 1 }) :
    wpAny (model P w) A (call (.builtin "set.add") [.ref a, .str k tk]) Q E s := by
  refine wpAny_call_entry F.slot_set_add R.setOf.typeIs F.entry_set_add ?_ (F.args_set_add_2 _ _)
  unfold Builtin.«set.add» Builtin.Frozenset.oneOther
  simp only [List.isEmpty_nil, bind_assoc]
  unfold Builtin.Frozenset.addrOf setAdd
  refine wpAny_bind (wpAny_pure ?_)
  try dsimp only
  refine wpAny_bind (wpAny_pure ?_)
  try dsimp only
  refine wpAny_bind (wpAny_holding (wpAny_bind ((strKind P w).pyHash (strKind_is P w k tk) ?_)))
  refine setT_hashed (s := { s with toks := s.toks + 1 }) R room fun h' sb r => ?_
  show wpAny _ _ (ret Value.none) _ _ _
  exact wpAny_pure ⟨_, rfl, hQ h' sb r⟩
end
/-- the set of texts at a -/
def SetTO (P : Program) (w : World) (a : Addr) (S : Str → Bool) (n : Nat) : HO := .ext fun h => SetT P w h a S n
theorem setTO_ok {w : World} {P : Program} {H : Hp} {h : Heap} {a : Addr} {S : Str → Bool} {n : Nat} (R : SetT P w h a S n) : ObjOk P w H h a (SetTO P w a S n) := by
  have ⟨o, _, _, _, ho, _⟩ := R
  refine ⟨R, ⟨o, ho⟩, fun h1 h2 p k => ?_⟩
  obtain ⟨o', es, ep, t, ho', r⟩ := (p : SetT P w h1 a S n)
  exact ⟨o', es, ep, t, k o' ho', r⟩
theorem setT_fresh {h : Heap} (P : Program) (w : World) : SetT P w (h.push { cls := .type "set", dict := none, data := .set #[] 0 (.fresh 0 0 (!w.params.followText "set-order")) }) h.objs.size (fun _ => false) 0 := by
  refine ⟨_, #[], 0, _, Heap.get?_push_size _ rfl, ⟨rfl, rfl, rfl⟩, rfl, fun e he => (by simp at he), List.nodup_nil, fun k => ⟨fun h => (nomatch h), fun h => (nomatch h)⟩, by decide, by rfl, rfl, ?_, ?_⟩
  · exact List.Pairwise.nil
  · show _ ∨ (!w.params.followText "set-order") = true
    cases w.params.followText "set-order"
    · exact .inr rfl
    · exact .inl rfl
def sAddT (P : Program) (w : World) (D : Addr) (y : V) (H H' : Hp) : Prop := ∃ c S n, y = .str c ∧ H D = some (SetTO P w D S n) ∧ n + 1 < scanBound ∧ H' = upd H D (SetTO P w D (fun j => S j || decide (j = c)) (if S c = true then n else n + 1))
theorem kdT (P : Program) (w : World) : SetKd P w (fun D => SetTO P w D (fun _ => false) 0) (sAddT P w) where
  new := fun H h => setTO_ok (setT_fresh P w)
  add := fun {X pins σ H H' s D v u Q E} hp hw I r h q => by
    subst hp hw
    obtain ⟨c, S, n, rfl, hD, room, rfl⟩ := h
    obtain ⟨t, rfl⟩ := r
    have R : SetT X.prog X.w s.heap D S n := (I.hok D _ hD).1
    refine setT_add R room fun h' sb new => ?_
    have he : ∃ o, h'.get? D = some o := by
      obtain ⟨o, _, _, _, ho, _⟩ := new
      exact ⟨o, ho⟩
    refine q _ _ (I.write (e := D) (t' := s.toks + 1) ?_ (.inl rfl) ?_ he (setTO_ok new))
    · rw [hD]; trivial
    · exact fun b o hb ho => (sb.2 b hb).trans ho
def sAddI (w : World) (D : Addr) (y : V) (H H' : Hp) : Prop := ∃ c S n, y = .int c ∧ H D = some (SetO w D S n) ∧ n + 1 < scanBound ∧ H' = putS w D c S n H
theorem kdI (P : Program) (w : World) : SetKd P w (fun D => SetO w D (fun _ => false) 0) (sAddI w) where
  new := fun H h => setO_new (setR_fresh w)
  add := fun {X pins σ H H' s D v u Q E} hp hw I r h q => by
    subst hp hw
    obtain ⟨c, S, n, rfl, hD, room, rfl⟩ := h
    exact add_int I r hD room q
end G
set_option Elab.async false
set_option linter.all false
set_option maxRecDepth 100000
set_option maxHeartbeats 2000000
namespace G
open PySem PySem.Spec PyProof.Rows L2 StX
def txtV : Value → Str
  | .str x _ => x
  | _ => Str.empty
theorem each_txt : ∀ {out : List Value}, (∀ v ∈ out, ∃ x tk, v = Value.str x tk) → PySem.W.EachIs (fun v (b : Str) => L2.RelV (.str b) v) out (out.map txtV)
  | [], _ => .nil
  | v :: r, h => .cons (by
    obtain ⟨x, tk, rfl⟩ := h v List.mem_cons_self
    exact ⟨tk, rfl⟩) (each_txt fun u hu => h u (List.mem_cons_of_mem _ hu))
theorem each_imp {α β : Type} {R R' : α → β → Prop} (h : ∀ a b, R a b → R' a b) : ∀ {xs : List α} {ys : List β}, PySem.W.EachIs R xs ys → PySem.W.EachIs R' xs ys
  | _, _, .nil => .nil
  | _, _, .cons x r => .cons (h _ _ x) (each_imp h r)
theorem vals_txt : ∀ {us : List Value} {xs : List Str}, PySem.W.EachIs (fun v (b : Str) => L2.RelV (.str b) v) us xs → L2.Vals (xs.map V.str) us
  | _, _, .nil => .nil
  | _, _, .cons r t => .cons r (vals_txt t)
theorem sorted_setT {P : Program} {w : World} {A : Around} {E : Value → Shared → Prop} {s : Shared} {a : Addr} {S : Str → Bool} {n : Nat} {Q : Value → Shared → Prop} (hS : SetT P w s.heap a S n) (hd : A.handled = none) (hu : A.units + 64 < cLine)
    (q : ∀ (s' : Shared) (p : Nat) (out : List Value) (c : Nat) (xs : List Str), (∀ (b : Addr) (o : Obj), s.heap.get? b = some o → s'.heap.get? b = some o) → s'.gens = s.gens → s'.os = s.os → s.heap.objs.size ≤ p →
      s'.heap.get? p = some (PyProof.Rows.seqObj "list" out.toArray c) → PySem.W.EachIs (fun v (b : Str) => L2.RelV (.str b) v) out (sortD xs) → xs.Nodup → (∀ k, k ∈ xs ↔ S k = true) → xs.length = n → Q (Value.ref p) s') :
    wpAny (model P w) A (call (Value.builtin "sorted") [Value.ref a]) Q E s := by
  obtain ⟨o, es, ep, t, hg, hx, hdat, hgood, hnd, hSk, hsc, hfit, hsz, hris, hled⟩ := hS
  refine Calls.call_function_entry PyProof.Rows.kind_sorted PyProof.Rows.plain_sorted PyProof.Rows.entry_sorted (PyProof.Rows.args_sorted1 _) ?_
  refine wpAny_bind (wpAny_of_eq (a := ()) rfl ?_)
  refine wpAny_bind (collect_set hd ⟨o, hg, hx.1, hdat⟩ hfit hsc hris hled fun s' out hk hsz' hgens hos hperm => ?_)
  have hlen : out.length = n := by rw [hperm.length_eq, List.length_map, Array.length_toList, hsz]
  have hsl : out.length ≤ sizeLine := by
    rw [hlen, ← hsz]
    exact Nat.le_trans (Nat.le_of_lt hsc) (by decide)
  have htx : ∀ v ∈ out, ∃ x tk, v = Value.str x tk := fun v hv => by
    obtain ⟨e, he, rfl⟩ := List.mem_map.mp (hperm.mem_iff.mp hv)
    obtain ⟨x, tk, h1, _⟩ := hgood e he
    exact ⟨x, tk, h1⟩
  have hkeys : (out.map txtV).Perm (es.toList.map txtE) := by
    have h := hperm.map txtV
    rw [List.map_map] at h
    refine h.trans (List.Perm.of_eq (List.map_congr_left fun e _ => ?_))
    show txtV e.2 = txtE e
    unfold txtE
    cases e.2 <;> rfl
  refine wpAny_bind (wpAny_newList ?_ hsl)
  have hget : (s'.heap.push { cls := Value.type "list", data := Data.seq out.toArray }).get? s'.heap.objs.size = some (PyProof.Rows.seqObj "list" out.toArray 0) := Heap.get?_push_size _ rfl
  have hsp := PyProof.Rows.size_push' s'.heap { cls := Value.type "list", data := Data.seq out.toArray }
  have each := each_txt htx
  refine wpAny_bind (wpAny_holding (PySem.W.list_sort_data (enc := fun b : Str => Dat.toD b) (R := fun v (b : Str) => L2.RelV (.str b) v) (vs := out) (bs := out.map txtV) hget each (each_imp (fun v b ⟨tk, e⟩ => ⟨[], by rw [e]; exact .str b tk, by simp⟩) each) (PySem.W.AllAlike.of fun a b => Srt.alk a b) (PySem.W.Sortable.others fun b => ⟨fun e => (nomatch e), fun xs e => (nomatch e)⟩) (by rw [List.length_map]; exact hsl) (fun b _ => ?_) fun out2 ho2 eo => ?_))
  · show A.units + 1 + 1 + 0 < cLine
    omega
  obtain ⟨c, hc⟩ := PyProof.Rows.sortedHeap_at (out := out2.toArray) hget
  refine wpAny_of_eq (a := Fin.done (.ret (.ref s'.heap.objs.size))) rfl ⟨_, rfl, ?_⟩
  refine q _ s'.heap.objs.size out2 c (out.map txtV) (fun b o2 h2 => ?_) hgens hos hsz' hc eo (hkeys.nodup_iff.mpr hnd) (fun k => ?_) (by rw [List.length_map, hlen])
  · have h3 := hk b o2 h2
    have hlt := Heap.lt_size h3
    rw [PyProof.Rows.sortedHeap_old (Nat.ne_of_lt hlt) (by rw [hsp]; exact Nat.lt_succ_of_lt hlt)]
    exact Heap.get?_push_of_some _ h3
  · rw [hSk k]
    exact hkeys.mem_iff
def rSortedT (P : Program) (w : World) : List V → Hp → VK → Prop := fun vs H Q => ∃ (a : Addr) (S : Str → Bool) (n : Nat), vs = [V.ref a] ∧ H a = some (SetTO P w a S n) ∧ ∀ (xs : List Str) (p : Addr), xs.Nodup → (∀ k, k ∈ xs ↔ S k = true) → xs.length = n → H p = none → Q (.ref p) (upd H p (.lst ((sortD xs).map V.str)))
def rLenI (w : World) : List V → Hp → VK → Prop := fun vs H Q => ∃ (a : Addr) (S : Int → Bool) (n : Nat), vs = [V.ref a] ∧ H a = some (SetO w a S n) ∧ Q (.int n) H
section
variable {X : Cx}
theorem cr_sortedT (P : Program) (w : World) (hc : X.calm = true) (hu : X.A.units + 64 < cLine) (hp : X.prog = P := by rfl) (hw : X.w = w := by rfl) : CallR X (.builtin "sorted") (rSortedT P w) := by
  subst hp hw
  intro pins s σ H xs us Q I r h
  obtain ⟨a, S, n, rfl, ha, q⟩ := h
  obtain ⟨u, rfl, rx⟩ := vals1 r
  obtain rfl : u = Value.ref a := rx
  have hS : SetT X.prog X.w s.heap a S n := (I.hok a _ ha).1
  have hn : n < scanBound := by
    obtain ⟨o, es, ep, t, _, _, _, _, _, _, hsc, _, hsz, _⟩ := hS
    omega
  refine sorted_setT hS (I.ok.hd hc) hu fun s' p out c ys hk hg hos hp hget each hnd hmem hlen => ?_
  have hf : H p = none := I.hok.fresh hp
  have hob : ObjOk X.prog X.w (upd H p (.lst ((sortD ys).map V.str))) s'.heap p (.lst ((sortD ys).map V.str)) := by
    unfold L2.ObjOk
    refine ⟨by rw [List.length_map, (sortD_perm ys).length_eq, hlen]; exact Nat.le_trans (Nat.le_of_lt hn) (by decide), out, c, vals_txt each, ?_⟩
    rw [hget]
  exact ⟨.ref p, _, I.call' (ch := []) hos (Un.laid hk hp hf) (I.hok.laid hk hp hob) (by rw [hg]; exact I.bare) (fun b hb => nomatch hb), rfl, q ys p hnd hmem hlen hf⟩
theorem cr_lenI (w : World) (hw : X.w = w := by rfl) : CallR X (.builtin "len") (rLenI w) := by
  subst hw
  intro pins s σ H xs us Q I r h
  obtain ⟨a, S, n, rfl, ha, q⟩ := h
  obtain ⟨u, rfl, rx⟩ := vals1 r
  obtain rfl : u = Value.ref a := rx
  obtain ⟨o, es, ep, t, ho, hx, hd, _, _, _, hb, hf, hn, _⟩ := setO_get I ha
  subst hn
  refine call_len_set ho hx hd hf ?_ ⟨.int es.size, H, I.tok _, ⟨_, rfl⟩, q⟩
  have : es.size < 2 ^ 62 := Nat.lt_of_lt_of_le hb (by decide)
  omega
end
def sAddG {γ : Type} [DecidableEq γ] (enc : γ → V) (SO : Addr → (γ → Bool) → Nat → HO) (D : Addr) (y : V) (H H' : Hp) : Prop := ∃ c S n, y = enc c ∧ H D = some (SO D S n) ∧ n + 1 < scanBound ∧ H' = upd H D (SO D (fun j => S j || decide (j = c)) (if S c = true then n else n + 1))
/-- the members of xs, their number if each is counted once -/
def memS {γ : Type} [DecidableEq γ] (xs : List γ) : γ → Bool := fun j => decide (j ∈ xs)
theorem memS_put {γ : Type} [DecidableEq γ] (xs : List γ) (c : γ) : (fun j => memS xs j || decide (j = c)) = memS (xs ++ [c]) := by
  funext j
  unfold memS
  rw [Bool.eq_iff_iff]
  simp
end G
set_option Elab.async false
set_option linter.all false
set_option maxRecDepth 100000
set_option maxHeartbeats 2000000
namespace G
open PySem PySem.Spec PyProof.Rows L2 StX
def iSeq (K : PySem.W.Frag) (tl : TE) : TI := fun σ H R => iList K tl σ H R ∨ iTup K tl σ H R
theorem pi_seq {X : Cx} {tg l : Expr} {tl : TE} (h : PE X l tl) : L2.PI X tg l (iSeq X.K tl) := by
  refine ⟨fun pins s σ H R I q => ?_⟩
  rcases q with q | q
  · exact (pi_list (tg := tg) h).run pins s σ H R I q
  · exact (pi_tup (tg := tg) h).run pins s σ H R I q
theorem pi_seqK {X : Cx} (K : PySem.W.Frag) {tg l : Expr} {tl : TE} (h : PE X l tl) (hK : X.K = K := by rfl) : L2.PI X tg l (iSeq K tl) := by
  subst hK
  exact pi_seq h
def cntR {γ : Type} [DecidableEq γ] : List γ → Nat
  | [] => 0
  | c :: r => if c ∈ r then cntR r else cntR r + 1
def nDif {γ : Type} [DecidableEq γ] (xs : List γ) : Nat := cntR xs.reverse
theorem nDif_put {γ : Type} [DecidableEq γ] (xs : List γ) (c : γ) : (if memS xs c = true then nDif xs else nDif xs + 1) = nDif (xs ++ [c]) := by
  unfold nDif memS
  rw [List.reverse_append]
  show _ = (if c ∈ xs.reverse then cntR xs.reverse else cntR xs.reverse + 1)
  by_cases h : c ∈ xs
  · rw [if_pos (decide_eq_true h), if_pos (List.mem_reverse.mpr h)]
  · rw [if_neg (by simpa using h), if_neg (fun z => h (List.mem_reverse.mp z))]
theorem cntR_le {γ : Type} [DecidableEq γ] : ∀ xs : List γ, cntR xs ≤ xs.length
  | [] => Nat.le_refl _
  | c :: r => by
    have := cntR_le r
    unfold cntR
    rw [List.length_cons]
    split <;> omega
theorem nDif_le {γ : Type} [DecidableEq γ] (xs : List γ) : nDif xs ≤ xs.length := by
  have := cntR_le xs.reverse
  rw [List.length_reverse] at this
  exact this
theorem cntR_zero {γ : Type} [DecidableEq γ] : ∀ {xs : List γ}, cntR xs = 0 → xs = []
  | [], _ => rfl
  | c :: r, h => by
    unfold cntR at h
    split at h
    · rename_i hc
      rw [cntR_zero h] at hc
      cases hc
    · omega
theorem cntR_one {γ : Type} [DecidableEq γ] : ∀ {xs : List γ}, cntR xs ≤ 1 ↔ ∀ a ∈ xs, ∀ b ∈ xs, a = b
  | [] => ⟨fun _ a ha => (nomatch ha), fun _ => Nat.zero_le _⟩
  | c :: r => by
    unfold cntR
    by_cases hc : c ∈ r
    · rw [if_pos hc, cntR_one]
      refine ⟨fun h a ha b hb => ?_, fun h a ha b hb => h a (List.mem_cons_of_mem _ ha) b (List.mem_cons_of_mem _ hb)⟩
      have key : ∀ x ∈ c :: r, x ∈ r := fun x hx => (List.mem_cons.mp hx).elim (fun e => e ▸ hc) id
      exact h a (key a ha) b (key b hb)
    · rw [if_neg hc]
      constructor
      · intro h
        have : r = [] := cntR_zero (by omega)
        subst this
        intro a ha b hb
        rw [List.mem_singleton.mp ha, List.mem_singleton.mp hb]
      · intro h
        have : r = [] := by
          cases r with
          | nil => rfl
          | cons d t => exact absurd (List.mem_cons.mpr (.inl (h c (by simp) d (by simp)))) hc
        subst this
        exact Nat.le_refl _
theorem nDif_one {γ : Type} [DecidableEq γ] {xs : List γ} : nDif xs ≤ 1 ↔ ∀ a ∈ xs, ∀ b ∈ xs, a = b := by
  unfold nDif
  rw [cntR_one]
  exact ⟨fun h a ha b hb => h a (List.mem_reverse.mpr ha) b (List.mem_reverse.mpr hb), fun h a ha b hb => h a (List.mem_reverse.mp ha) b (List.mem_reverse.mp hb)⟩
structure SG (γ : Type) (SO : Addr → (γ → Bool) → Nat → HO) where
  S : γ → Bool
  n : Nat
instance {γ : Type} {SO : Addr → (γ → Bool) → Nat → HO} : Rep (SG γ SO) := ⟨fun W H v s => ∃ a, v = .ref a ∧ ¬ W.mu a ∧ H a = some (SO a s.S s.n), fun e ⟨a, hv, m, h⟩ => ⟨a, hv, m, e _ _ m h⟩, fun D n ⟨a, hv, m, h⟩ => ⟨a, hv, mu_grow n m h, h⟩, fun D ⟨a, hv, m, h⟩ => ⟨a, hv, fun z => m (.inl z), h⟩⟩
section
variable {W : Wd} {Γ : Gam} {te tl ti : TE} {g g2 : TG} {K : PySem.W.Frag} {γ : Type} {rγ : Rep γ} {dγ : DecidableEq γ} {enc : γ → V} {SO : Addr → (γ → Bool) → Nat → HO}
def Sc1Turn {α γ : Type} [Rep α] [Rep γ] (W' : Wd) (g : TG) (te : TE) (vs : List Nat) (Γ : Gam) (a : α) (c : γ) : Prop :=
  ∃ js : List Nat, (js.all fun j => vs.contains j) = true ∧ Tj W' js g (wipeE Γ vs) a fun Γ1 => EvK W' te Γ1 fun y : γ => y = c
theorem setP_put {H1 H' : Hp} {D : Addr} {ys : List γ} {c : γ} (n : H1 D = none) (nm : ¬ W.mu D) (e : Ext W H1 H') (hD : H' D = some (SO D (memS ys) (nDif ys))) :
    Ext W H1 (upd H' D (SO D (fun j => memS ys j || decide (j = c)) (if memS ys c = true then nDif ys else nDif ys + 1))) ∧ upd H' D (SO D (fun j => memS ys j || decide (j = c)) (if memS ys c = true then nDif ys else nDif ys + 1)) D = some (SO D (memS (ys ++ [c])) (nDif (ys ++ [c]))) := by
  refine ⟨⟨fun a o ma z => ?_, W.st _ _ _ e.ok nm⟩, ?_⟩
  · rw [upd_ne (ne_of_none z n)]
    exact e.keep a o ma z
  · rw [upd_same, memS_put, nDif_put]
theorem sc1_run {α : Type} {rα : Rep α} {J : It} {xs : List V} {as : List α} {vs : List Nat} {σ : L2.St} {H1 : Hp} {Q : VK} (f : α → γ) (hen : ∀ {W : Wc} {H : Hp} {v : V} {c : γ}, den W H v c → v = enc c) (G1 : GOk W H1 σ Γ) (hd : Dl (den W.toWc H1) xs as)
    (go : ∀ i H', Ext W H1 H' → i < xs.length → J.go i H') (stop : ∀ H', Ext W H1 H' → J.stop xs.length H') (yld : ∀ i H' x H'', Ext W H1 H' → J.yld i H' x H'' → H'' = H' ∧ xs[i]? = some x)
    (hbig : as.length ≤ 1000) (hs : ∀ W', Sub W W' → ∀ a ∈ as, Sc1Turn W' g te vs Γ a (f a)) (hk : ∀ D H', Ext W H1 H' → ¬ W.mu D → H' D = some (SO D (memS (as.map f)) (nDif (as.map f))) → Q (.ref D) H') :
    ∀ D, H1 D = none → ∃ Wn : Nat → Nat → Hp → Prop, (∃ m, Wn 0 m (upd H1 D (SO D (fun _ => false) 0))) ∧
      ∀ i m H2, Wn i m H2 → (J.stop i H2 ∧ Q (.ref D) H2) ∨ (J.go i H2 ∧ ∃ Z : Hp → Prop, (∀ H', Z H' → ∃ m', m' < m ∧ Wn (i + 1) m' H') ∧
        ∀ x H', J.yld i H2 x H' → g x (wipe σ vs) H' fun σ2 H3 => wipe σ2 vs = wipe σ vs ∧ te σ2 H3 fun y H4 => ∃ H5, sAddG enc SO D y H4 H5 ∧ Z H5) := by
  intro D n
  have o1 := G1.ok
  have nm : ¬ W.mu D := fresh_mu o1 n
  refine turns (J := J) (n := xs.length) (fun i H' => Ext W H1 H' ∧ H' D = some (SO D (memS ((as.take i).map f)) (nDif ((as.take i).map f)))) ⟨Ext.new o1 n, upd_same⟩ (fun i H' hi ⟨e, _⟩ => go i H' e hi) (fun H' ⟨e, _⟩ => stop H' e) ?_ ?_
  · rintro i H' x H'' hi ⟨e, hD⟩ hy
    obtain ⟨rfl, hx⟩ := yld i H' x H'' e hy
    obtain ⟨a, ea, da⟩ := hd.at hx
    have ham : a ∈ as := List.mem_of_getElem? ea
    have htk : (as.take (i + 1)).map f = (as.take i).map f ++ [f a] := by
      rw [List.take_succ, ea, List.map_append]
      rfl
    have hc : nDif ((as.take i).map f) ≤ 1000 := by
      have := nDif_le ((as.take i).map f)
      rw [List.length_map, List.length_take] at this
      omega
    have kp : Kp (W.toWc.plus D) H1 H'' := fun b o mb z => e.keep b o (fun z => mb (.inl z)) z
    obtain ⟨js, hjs, tj⟩ := hs _ (Sub.plusO (o := SO D (memS ((as.take i).map f)) (nDif ((as.take i).map f))) (n := n) (o1 := o1) (w1 := G1.wish)) a ham
    have G2 : GOk (W.plusO D (SO D (memS ((as.take i).map f)) (nDif ((as.take i).map f))) H1 n o1 G1.wish) H'' σ Γ := ⟨⟨e.ok, hD⟩, fun b o mb z => e.keep b o mb z, fun j t hj => by
      obtain ⟨u, h1, h2⟩ := G1.at_ j t hj
      exact ⟨u, h1, Ty.mono kp (t.r.grow D n h2)⟩, G1.len⟩
    refine tj (wipe σ vs) H'' x _ (G2.wipe vs) (Rep.mono kp (Rep.grow D n da)) fun σ2 Γ2 G3 m2 q2 => ⟨wipe_same m2 (js_in hjs), ?_⟩
    refine q2 σ2 H'' _ G3 fun yv H4 y e4 dy hy => ?_
    have back4 : Ext W H1 H4 := ⟨fun b o mb z => by
      have hne : b ≠ D := ne_of_none z n
      exact e4.keep b o (fun q => q.elim mb hne) (e.keep b o mb z), e4.ok.1⟩
    have hD4 : H4 D = some (SO D (memS ((as.take i).map f)) (nDif ((as.take i).map f))) := e4.ok.2
    obtain ⟨p1, p2⟩ := setP_put (c := f a) n nm back4 hD4
    refine ⟨_, ⟨f a, _, _, by rw [hen dy, hy], hD4, Nat.lt_of_le_of_lt (Nat.succ_le_succ hc) (by decide), rfl⟩, p1, ?_⟩
    rw [htk]
    exact p2
  · rintro H' ⟨e, hD⟩
    rw [hd.length, List.take_length] at hD
    exact hk D H' e nm hD
theorem ev_sc1 {α : Type} {rα : Rep α} {vs : List Nat} {k : SG γ SO → Prop} (f : α → γ) (hen : ∀ {W : Wc} {H : Hp} {v : V} {c : γ}, den W H v c → v = enc c) (hK : W.B.K = K)
    (h : EvK W tl Γ fun as : List α => as.length ≤ 1000 ∧ (∀ W', Sub W W' → ∀ a ∈ as, Sc1Turn W' g te vs Γ a (f a)) ∧ k ⟨memS (as.map f), nDif (as.map f)⟩) :
    EvK W (tSc1G (fun D => SO D (fun _ => false) 0) (sAddG enc SO) (iList K tl) g te vs) Γ k := by
  subst hK
  refine fun σ H Q G c => h σ H _ G fun v H1 as e1 ⟨p, xs, hv, hp, hd⟩ ⟨hbig, hs, hk⟩ => ⟨p, hv, ⟨xs, hp.sq⟩, ?_⟩
  exact sc1_run (J := Itl W.B.K p) f hen (G.ext e1) hd (fun i H' e hi => ⟨xs, xs[i], (hp.mono e.keep).sq, List.getElem?_eq_getElem hi⟩) (fun H' e => ⟨xs, (hp.mono e.keep).sq, Nat.le_refl _⟩) (fun i H' x H'' e ⟨h1, h2⟩ => ⟨h1, h2 xs (hp.mono e.keep).sq⟩) hbig hs fun D H' e nm hD => c (.ref D) H' ⟨memS (as.map f), nDif (as.map f)⟩ (e1.trans e) ⟨D, rfl, nm, hD⟩ hk
end
end G
set_option Elab.async false
set_option linter.all false
set_option maxRecDepth 100000
set_option maxHeartbeats 2000000
namespace G
open PySem PySem.Spec PyProof.Rows L2 StX
section
variable {W : Wd} {Γ : Gam} {te tl ti : TE} {g g2 : TG} {K : PySem.W.Frag} {γ : Type} {rγ : Rep γ} {dγ : DecidableEq γ} {enc : γ → V} {SO : Addr → (γ → Bool) → Nat → HO}
/-- a turn of the first of two clauses: the items of the second one's list give f -/
def Sd2Turn {α γ : Type} (β : Type) [Rep α] [Rep β] [Rep γ] (W0 W : Wd) (g : TG) (ti : TE) (g2 : TG) (te : TE) (vs vs1 : List Nat) (Γ : Gam) (a : α) (f : List γ) : Prop :=
  ∃ js : List Nat, (js.all fun j => vs.contains j) = true ∧ Tj W js g (wipeE Γ vs) a fun Γ1 => EvK W ti Γ1 fun bs : List β => ∃ h : β → γ, bs.map h = f ∧
    ∀ W', Sub W0 W' → ∀ b ∈ bs, ∃ js2 : List Nat, (js2.all fun j => vs1.contains j) = true ∧ Tj W' js2 g2 (wipeE Γ1 vs1) b fun Γ2 => EvK W' te Γ2 fun y : γ => y = h b
theorem sd2_run {α β : Type} {rα : Rep α} {rβ : Rep β} {J : It} {xs : List V} {as : List α} {vs vs1 : List Nat} {σ : L2.St} {H1 : Hp} {Q : VK} (f : α → List γ) (hen : ∀ {W : Wc} {H : Hp} {v : V} {c : γ}, den W H v c → v = enc c) (hK : W.B.K = K) (G1 : GOk W H1 σ Γ) (hd : Dl (den W.toWc H1) xs as)
    (go : ∀ i H', Ext W H1 H' → i < xs.length → J.go i H') (stop : ∀ H', Ext W H1 H' → J.stop xs.length H') (yld : ∀ i H' x H'', Ext W H1 H' → J.yld i H' x H'' → H'' = H' ∧ xs[i]? = some x)
    (hbig : (as.flatMap f).length ≤ 1000) (hs : ∀ W', Sub W W' → ∀ a ∈ as, Sd2Turn β W W' g ti g2 te vs vs1 Γ a (f a)) (hk : ∀ D H', Ext W H1 H' → ¬ W.mu D → H' D = some (SO D (memS (as.flatMap f)) (nDif (as.flatMap f))) → Q (.ref D) H') :
    ∀ D, H1 D = none → ∃ Wn : Nat → Nat → Hp → Prop, (∃ m, Wn 0 m (upd H1 D (SO D (fun _ => false) 0))) ∧
      ∀ i m H2, Wn i m H2 → (J.stop i H2 ∧ Q (.ref D) H2) ∨ (J.go i H2 ∧ ∃ Z : Hp → Prop, (∀ H', Z H' → ∃ m', m' < m ∧ Wn (i + 1) m' H') ∧
        ∀ x H', J.yld i H2 x H' → g x (wipe σ vs) H' fun σ2 H3 => wipe σ2 vs = wipe σ vs ∧ iList K ti σ2 H3 fun J1 H4 => ∃ V1 : Nat → Nat → Hp → Prop, (∃ k, V1 0 k H4) ∧
          ∀ j k H5, V1 j k H5 → (J1.stop j H5 ∧ Z H5) ∨ (J1.go j H5 ∧ ∃ Z1 : Hp → Prop, (∀ H', Z1 H' → ∃ k', k' < k ∧ V1 (j + 1) k' H') ∧
            ∀ x H', J1.yld j H5 x H' → g2 x (wipe σ2 vs1) H' fun σ3 H6 => wipe σ3 vs1 = wipe σ2 vs1 ∧ te σ3 H6 fun y H7 => ∃ H8, sAddG enc SO D y H7 H8 ∧ Z1 H8)) := by
  subst hK
  intro D n
  have o1 := G1.ok
  have nm : ¬ W.mu D := fresh_mu o1 n
  let O : List γ → HO := fun ys => SO D (memS ys) (nDif ys)
  refine turns (J := J) (n := xs.length) (fun i H' => Ext W H1 H' ∧ H' D = some (O ((as.take i).flatMap f))) ⟨Ext.new o1 n, upd_same⟩ (fun i H' hi ⟨e, _⟩ => go i H' e hi) (fun H' ⟨e, _⟩ => stop H' e) ?_ ?_
  · rintro i H' x H'' hi ⟨e, hD⟩ hy
    obtain ⟨rfl, hx⟩ := yld i H' x H'' e hy
    obtain ⟨a, ea, da⟩ := hd.at hx
    have ham : a ∈ as := List.mem_of_getElem? ea
    have htk : (as.take (i + 1)).flatMap f = (as.take i).flatMap f ++ f a := by
      rw [List.take_succ, ea, List.flatMap_append]
      simp
    have hlen : ((as.take (i + 1)).flatMap f).length ≤ 1000 := by
      have e2 : (as.flatMap f).length = ((as.take (i + 1)).flatMap f).length + ((as.drop (i + 1)).flatMap f).length := by
        rw [← List.length_append, ← List.flatMap_append, List.take_append_drop]
      omega
    have kp : Kp (W.toWc.plus D) H1 H'' := fun b o mb z => e.keep b o (fun z => mb (.inl z)) z
    obtain ⟨js, hjs, tj⟩ := hs _ (Sub.plusO (o := O ((as.take i).flatMap f)) (n := n) (o1 := o1) (w1 := G1.wish)) a ham
    have G2 : GOk (W.plusO D (O ((as.take i).flatMap f)) H1 n o1 G1.wish) H'' σ Γ := ⟨⟨e.ok, hD⟩, fun b o mb z => e.keep b o mb z, fun j t hj => by
      obtain ⟨u, h1, h2⟩ := G1.at_ j t hj
      exact ⟨u, h1, Ty.mono kp (t.r.grow D n h2)⟩, G1.len⟩
    refine tj (wipe σ vs) H'' x _ (G2.wipe vs) (Rep.mono kp (Rep.grow D n da)) fun σ2 Γ2 G3 m2 q2 => ⟨wipe_same m2 (js_in hjs), ?_⟩
    refine q2 σ2 H'' _ G3 fun u H4 bs e4 ⟨p2, us, hu, hp2, hd2⟩ ⟨hf, hmap, turn⟩ => ⟨p2, hu, ⟨us, hp2.sq⟩, ?_⟩
    have back4 : Ext W H1 H4 := ⟨fun b o mb z => by
      have hne : b ≠ D := ne_of_none z n
      exact e4.keep b o (fun q => q.elim mb hne) (e.keep b o mb z), e4.ok.1⟩
    have hD4 : H4 D = some (O ((as.take i).flatMap f)) := e4.ok.2
    have kp4 : ∀ {H' : Hp}, (∀ b o, ¬ (W.toWc.plus D).mu b → H4 b = some o → H' b = some o) → Lq (W.toWc.plus D) H' p2 us := fun k => hp2.mono k
    refine turns (J := Itl W.B.K p2) (n := us.length) (fun j H' => Kp (W.toWc.plus D) H4 H' ∧ Ext W H1 H' ∧ H' D = some (O ((as.take i).flatMap f ++ (bs.take j).map hf))) ⟨fun _ _ _ z => z, back4, by simpa using hD4⟩ (fun j H' hj ⟨k, _⟩ => ⟨us, us[j], (kp4 k).sq, List.getElem?_eq_getElem hj⟩) (fun H' ⟨k, _⟩ => ⟨us, (kp4 k).sq, Nat.le_refl _⟩) ?_ ?_
    · rintro j H5 y H6 hj ⟨k5, e5, hD5⟩ ⟨rfl, hy⟩
      have hy := hy us (kp4 k5).sq
      obtain ⟨b, eb, db⟩ := hd2.at hy
      have hbm : b ∈ bs := List.mem_of_getElem? eb
      have htk2 : (bs.take (j + 1)).map hf = (bs.take j).map hf ++ [hf b] := by
        rw [List.take_succ, eb, List.map_append]
        rfl
      have hlen5 : ((as.take i).flatMap f ++ (bs.take j).map hf).length ≤ 1000 := by
        have h1 : ((bs.take j).map hf).length ≤ (f a).length := by
          rw [← hmap, List.length_map, List.length_map, List.length_take]
          omega
        rw [htk, List.length_append] at hlen
        rw [List.length_append]
        omega
      obtain ⟨js2, hjs2, tj2⟩ := turn _ (Sub.plusO (o := O ((as.take i).flatMap f ++ (bs.take j).map hf)) (n := n) (o1 := o1) (w1 := G1.wish)) b hbm
      have G4 := G3.ext e4
      have G6 : GOk (W.plusO D (O ((as.take i).flatMap f ++ (bs.take j).map hf)) H1 n o1 G1.wish) H6 σ2 Γ2 := ⟨⟨e5.ok, hD5⟩, fun b o mb z => e5.keep b o mb z, fun q t hq => by
        obtain ⟨u, h1, h2⟩ := G4.at_ q t hq
        exact ⟨u, h1, Ty.mono (W := W.toWc.plus D) k5 h2⟩, G4.len⟩
      refine tj2 (wipe σ2 vs1) H6 y _ (G6.wipe vs1) (Rep.mono (W := W.toWc.plus D) k5 db) fun σ3 Γ3 G7 m3 q3 => ⟨wipe_same m3 (js_in hjs2), ?_⟩
      refine q3 σ3 H6 _ G7 fun yv H7 c0 e7 hc0 hcb => ?_
      have e7' : Ext W H1 H7 := ⟨fun b o mb z => by
        have hne : b ≠ D := ne_of_none z n
        exact e7.keep b o (fun q => q.elim mb hne) (e5.keep b o mb z), e7.ok.1⟩
      have hD7 : H7 D = some (O ((as.take i).flatMap f ++ (bs.take j).map hf)) := e7.ok.2
      obtain ⟨p1, p2'⟩ := setP_put (c := hf b) n nm e7' hD7
      refine ⟨_, ⟨hf b, _, _, by rw [hen hc0, hcb], hD7, Nat.lt_of_le_of_lt (Nat.succ_le_succ (Nat.le_trans (nDif_le _) hlen5)) (by decide), rfl⟩, fun b o mb z => ?_, p1, ?_⟩
      · have hne : b ≠ D := fun q => mb (.inr q)
        rw [upd_ne hne]
        exact e7.keep b o mb (k5 b o mb z)
      · rw [htk2, ← List.append_assoc]
        exact p2'
    · rintro H' ⟨k', p', hD'⟩
      rw [hd2.length, List.take_length, hmap, ← htk] at hD'
      exact ⟨p', hD'⟩
  · rintro H' ⟨e, hD⟩
    rw [hd.length, List.take_length] at hD
    exact hk D H' e nm hD
theorem ev_sd2 {α β : Type} {rα : Rep α} {rβ : Rep β} {vs vs1 : List Nat} {k : SG γ SO → Prop} (f : α → List γ) (hen : ∀ {W : Wc} {H : Hp} {v : V} {c : γ}, den W H v c → v = enc c) (hK : W.B.K = K)
    (h : EvK W tl Γ fun as : List α => (as.flatMap f).length ≤ 1000 ∧ (∀ W', Sub W W' → ∀ a ∈ as, Sd2Turn β W W' g ti g2 te vs vs1 Γ a (f a)) ∧ k ⟨memS (as.flatMap f), nDif (as.flatMap f)⟩) :
    EvK W (tSc2G (fun D => SO D (fun _ => false) 0) (sAddG enc SO) (iList K tl) g (iList K ti) g2 te vs vs1) Γ k := by
  subst hK
  refine fun σ H Q G c => h σ H _ G fun v H1 as e1 ⟨p, xs, hv, hp, hd⟩ ⟨hbig, hs, hk⟩ => ⟨p, hv, ⟨xs, hp.sq⟩, ?_⟩
  exact sd2_run (J := Itl W.B.K p) f hen rfl (G.ext e1) hd (fun i H' e hi => ⟨xs, xs[i], (hp.mono e.keep).sq, List.getElem?_eq_getElem hi⟩) (fun H' e => ⟨xs, (hp.mono e.keep).sq, Nat.le_refl _⟩) (fun i H' x H'' e ⟨h1, h2⟩ => ⟨h1, h2 xs (hp.mono e.keep).sq⟩) hbig hs fun D H' e nm hD => c (.ref D) H' ⟨memS (as.flatMap f), nDif (as.flatMap f)⟩ (e1.trans e) ⟨D, rfl, nm, hD⟩ hk
/-- the same over a tuple -/
theorem ev_sd2T {α β : Type} {rα : Rep α} {rβ : Rep β} {vs vs1 : List Nat} {k : SG γ SO → Prop} (f : α → List γ) (hen : ∀ {W : Wc} {H : Hp} {v : V} {c : γ}, den W H v c → v = enc c) (hK : W.B.K = K)
    (h : EvK W tl Γ fun as : Tl α => (as.xs.flatMap f).length ≤ 1000 ∧ (∀ W', Sub W W' → ∀ a ∈ as.xs, Sd2Turn β W W' g ti g2 te vs vs1 Γ a (f a)) ∧ k ⟨memS (as.xs.flatMap f), nDif (as.xs.flatMap f)⟩) :
    EvK W (tSc2G (fun D => SO D (fun _ => false) 0) (sAddG enc SO) (iTup K tl) g (iList K ti) g2 te vs vs1) Γ k := by
  subst hK
  refine fun σ H Q G c => h σ H _ G fun v H1 as e1 ⟨p, xs, hv, hp, hd⟩ ⟨hbig, hs, hk⟩ => ⟨p, hv, ⟨xs, hp.sq⟩, ?_⟩
  exact sd2_run (J := Itt W.B.K p) f hen rfl (G.ext e1) hd (fun i H' e hi => ⟨xs, xs[i], (hp.mono e.keep).sq, List.getElem?_eq_getElem hi⟩) (fun H' e => ⟨xs, (hp.mono e.keep).sq, Nat.le_refl _⟩) (fun i H' x H'' e ⟨h1, h2⟩ => ⟨h1, h2 xs (hp.mono e.keep).sq⟩) hbig hs fun D H' e nm hD => c (.ref D) H' ⟨memS (as.xs.flatMap f), nDif (as.xs.flatMap f)⟩ (e1.trans e) ⟨D, rfl, nm, hD⟩ hk
/-- a list or a tuple walked: it is one of them -/
theorem sc2_seqL {O0 : Addr → HO} {SA : Addr → V → Hp → Hp → Prop} {wj : TI} {vs vs1 : List Nat} {α : Type} {rα : Rep α} {k : α → Prop} (h : EvK W (tSc2G O0 SA (iList K tl) g wj g2 te vs vs1) Γ k) : EvK W (tSc2G O0 SA (iSeq K tl) g wj g2 te vs vs1) Γ k := fun σ H Q G c => .inl (h σ H Q G c)
theorem sc2_seqT {O0 : Addr → HO} {SA : Addr → V → Hp → Hp → Prop} {wj : TI} {vs vs1 : List Nat} {α : Type} {rα : Rep α} {k : α → Prop} (h : EvK W (tSc2G O0 SA (iTup K tl) g wj g2 te vs vs1) Γ k) : EvK W (tSc2G O0 SA (iSeq K tl) g wj g2 te vs vs1) Γ k := fun σ H Q G c => .inr (h σ H Q G c)
theorem lc_seqL {tt : TT} {vs : List Nat} {α : Type} {rα : Rep α} {k : List α → Prop} (h : EvF W (tLc (iList K tl) g tt te vs) Γ k) : EvF W (tLc (iSeq K tl) g tt te vs) Γ k := fun σ H Q G c => .inl (h σ H Q G c)
theorem lc_seqT {tt : TT} {vs : List Nat} {α : Type} {rα : Rep α} {k : List α → Prop} (h : EvF W (tLc (iTup K tl) g tt te vs) Γ k) : EvF W (tLc (iSeq K tl) g tt te vs) Γ k := fun σ H Q G c => .inr (h σ H Q G c)
/-- sorted() of a set of texts, len() of a set of ints -/
theorem ev_sortedT {P : Program} {w : World} {k : List Str → Prop} (h : EvK W te Γ fun s : SG Str (SetTO P w) => ∀ xs : List Str, xs.Nodup → (∀ x, x ∈ xs ↔ s.S x = true) → xs.length = s.n → k (sortD xs)) : EvK W (tCB (rSortedT P w) (tCons te tNil)) Γ k := by
  refine fun σ H Q G c => h σ H _ G fun v H1 s e1 ⟨a, hv, m, ha⟩ z => ?_
  refine ⟨a, s.S, s.n, by rw [hv], ha, fun xs p h1 h2 h3 hp => ?_⟩
  have e2 := Ext.new (o := .lst ((sortD xs).map V.str)) e1.ok hp
  refine c (.ref p) _ (sortD xs) (e1.trans e2) ⟨p, _, rfl, Lq.new (fresh_mu e1.ok hp) upd_same, ?_⟩ (z xs h1 h2 h3)
  generalize sortD xs = ys
  induction ys with
  | nil => exact .nil
  | cons y r ih => exact .cons rfl ih
theorem ev_lenI {w : World} {k : Int → Prop} (h : EvK W te Γ fun s : SG Int (SetO w) => k s.n) : EvK W (tCB (rLenI w) (tCons te tNil)) Γ k := by
  refine fun σ H Q G c => h σ H _ G fun v H1 s e1 ⟨a, hv, m, ha⟩ z => ⟨a, s.S, s.n, by rw [hv], ha, c _ H1 _ e1 rfl z⟩
end
end G
set_option Elab.async false
set_option linter.all false
set_option maxRecDepth 100000
set_option maxHeartbeats 2000000
namespace G
open PySem PySem.Spec PyProof.Rows L2 StX
open Sem (wp)
section
variable {prog : Program} {w : World} {K : Type} [DecidableEq K] {knd : KeyKind prog w K} {A : Around} {E : Value → Shared → Prop} {s : Shared}
theorem dictPut_at {d : Addr} {kvs : List (K × Value)} {k : K} {key v : Value} {Q : Unit → Shared → Prop} (hkey : knd.is k key = true) (hm : s.heap.DictOf knd d kvs)
    (hQ : ∀ h', h'.DictOf knd d (stored kvs k v) → Heap.SameBut d s.heap h' → Q () { s with heap := h' }) (hsz : kvs.length ≤ sizeLine) :
    wpAny (model prog w) A (dictPut d (knd.hash k) key v) Q E s := by
  obtain ⟨o, es, ep, ho, hc, hd, hk, hp, hn⟩ := hm
  have hes : es.size ≤ sizeLine := by
    have e1 := hp.length
    have e2 : es.toList.length = es.size := by simp
    omega
  have same : (es.findIdx? fun e => knd.is k e.key) = kvs.findIdx? fun kv => decide (kv.1 = k) := by
    rw [← hp.findIdx k]
    obtain ⟨l⟩ := es
    simp
  unfold dictPut
  refine wpAny_bind (wpAny_dictFind_of hkey ho hd hk ?_)
  cases hi : es.findIdx? fun e => knd.is k e.key with
  | some i =>
    have yes := any_of_findIdx_some (same ▸ hi)
    refine wpAny_updateDict ho hd (hQ _ ⟨_, _, ep, Heap.get?_update_self _ ho (Obj.isFreed_of_dict (Obj.data_mapDict hd _)), hc.mapDict _, Obj.data_mapDict hd _, hk.modify _ _, ?_, ?_⟩ (Heap.SameBut.update ..))
    · rw [stored, if_pos yes]
      have hl : (es.toList.findIdx? fun e => knd.is k e.key) = some i := by
        rw [← hi]
        obtain ⟨l⟩ := es
        simp
      have := hp.modify hn hl v
      obtain ⟨l⟩ := es
      simpa using this
    · rw [stored, if_pos yes, keys_map_store]
      exact hn
  | none =>
    have out : k ∉ kvs.map (·.1) := not_mem_of_findIdx_none (same ▸ hi)
    have no : ¬ (kvs.any fun kv => decide (kv.1 = k)) = true := by
      rw [List.any_eq_true]
      rintro ⟨kv, hkv, he⟩
      exact out (List.mem_map.mpr ⟨kv, hkv, of_decide_eq_true he⟩)
    refine wpAny_updateDictKeys (hz := hes) ho hd (hQ _ ⟨_, _, ep + 1, Heap.get?_update_self _ ho (Obj.isFreed_of_dict (Obj.data_mapDictKeys hd _)), hc.mapDictKeys _, Obj.data_mapDictKeys hd _, hk.push hkey _, ?_, ?_⟩ (Heap.SameBut.update ..))
    · rw [stored, if_neg no]
      have := hp.append hkey (knd.hash k) v
      obtain ⟨l⟩ := es
      simpa using this
    · rw [stored, if_neg no, List.map_append, List.nodup_append]
      refine ⟨hn, by simp, fun a ha b hb e => out ?_⟩
      simp only [List.map_cons, List.map_nil, List.mem_singleton] at hb
      rw [← hb, ← e]
      exact ha
theorem merge_run {d o : Addr} {oo : Obj} {n : Nat} {kvs more : List (K × Value)} {f : Nat → PUnit → Sem (ForInStep PUnit)} (hn : more.length = n)
    (hf : ∀ i h' (R : Shared → Prop), i < n → h'.DictOf knd d (merged kvs (more.take i)) → h'.get? o = some oo → (∀ h'', h''.DictOf knd d (merged kvs (more.take (i + 1))) → h''.get? o = some oo → Heap.SameBut d h' h'' → R { s with heap := h'' }) →
      wpAny (model prog w) A (f i PUnit.unit) (fun r s' => r = .yield PUnit.unit ∧ R s') E { s with heap := h' })
    (hd : s.heap.DictOf knd d kvs) (ho : s.heap.get? o = some oo) {Q : PUnit → Shared → Prop} (hQ : ∀ h', h'.DictOf knd d (merged kvs more) → h'.get? o = some oo → Heap.SameBut d s.heap h' → Q PUnit.unit { s with heap := h' }) :
    wpAny (model prog w) A (forIn (List.range n) PUnit.unit f) Q E s := by
  rw [List.range_eq_range']
  refine wpAny_forIn_list _
    (fun rest _ s' => ∃ h' i, s' = { s with heap := h' } ∧ rest = List.range' i (n - i) ∧ i ≤ n ∧ h'.DictOf knd d (merged kvs (more.take i)) ∧ h'.get? o = some oo ∧ Heap.SameBut d s.heap h') _ ?_ ?_ _ _ ⟨s.heap, 0, rfl, by simp, Nat.zero_le _, by simpa [merged] using hd, ho, Heap.SameBut.refl _ _⟩
  · rintro x rest b s' ⟨h', i, rfl, hr, hi, hd', ho', hs'⟩
    have hlt : i < n := by
      rcases Nat.lt_or_ge i n with h | h
      · exact h
      · rw [Nat.sub_eq_zero_of_le h] at hr
        simp at hr
    rw [show n - i = (n - (i + 1)) + 1 by omega, List.range'_succ] at hr
    injection hr with h1 h2
    subst h1
    refine wpAny_mono (hf x h' (fun s2 => ∃ h'', s2 = { s with heap := h'' } ∧ h''.DictOf knd d (merged kvs (more.take (x + 1))) ∧ h''.get? o = some oo ∧ Heap.SameBut d h' h'') hlt hd' ho' fun h'' a b c => ⟨h'', rfl, a, b, c⟩) (fun r s2 hr2 => ?_) fun _ _ z => z
    obtain ⟨rfl, h'', rfl, a, b, c⟩ := hr2
    exact ⟨h'', x + 1, rfl, h2, hlt, a, b, hs'.trans c⟩
  · rintro b s' ⟨h', i, rfl, hr, hi, hd', ho', hs'⟩
    have hin : i = n := by
      rcases Nat.lt_or_ge i n with h | h
      · rw [show n - i = (n - (i + 1)) + 1 by omega, List.range'_succ] at hr
        exact nomatch hr
      · exact Nat.le_antisymm hi h
    rw [hin, ← hn, List.take_length] at hd'
    exact hQ h' hd' ho' hs'
theorem mergeMapping_at {d o : Addr} {kvs more : List (K × Value)} {Q : Unit → Shared → Prop} (hdo : d ≠ o) (hoS : (o == sysModules) = false)
    (hd : s.heap.DictOf knd d kvs) (ho : s.heap.DictOf knd o more)
    (hQ : ∀ h', h'.DictOf knd d (merged kvs more) → h'.DictOf knd o more → Heap.SameBut d s.heap h' → Q () { s with heap := h' })
    (hsz : kvs.length + more.length ≤ sizeLine) : wpAny (model prog w) A (mergeMapping d (.ref o) false) Q E s := by
  obtain ⟨od, esd, epd, hod, hcd, hdd, hkd, hpd, hnd⟩ := id hd
  obtain ⟨oo, eso, epo, hoo, hco, hdo', hko, hpo, hno⟩ := id ho
  have hlen : more.length = eso.size := by rw [← hpo.length]; simp
  have step : ∀ i h' (R : Shared → Prop), i < eso.size → h'.DictOf knd d (merged kvs (more.take i)) → h'.get? o = some oo → (∀ h'', h''.DictOf knd d (merged kvs (more.take (i + 1))) → h''.get? o = some oo → Heap.SameBut d h' h'' → R { s with heap := h'' }) →
      wpAny (model prog w) A (do
        let l ← dictEntries o
        match l[i]? with
          | some e => do
            holding [e.key, e.val]
                (if false = true then do
                  let q ← dictFind d e.key e.hash
                  if q.isSome = true then do
                      rule "dict.merge.duplicate-key"
                      let x ← newExc (Value.type "KeyError") [e.key]
                      raiseNew x
                      dictPut d e.hash e.key e.val
                    else dictPut d e.hash e.key e.val
                else dictPut d e.hash e.key e.val)
            let ep2 ← dictEpoch o
            if (ep2 != epo) = true then do
                unsupported "dict.changed-during-merge"
                pure (ForInStep.yield PUnit.unit)
              else pure (ForInStep.yield PUnit.unit)
          | x => do
            unsupported "dict.changed-during-merge"
            pure (ForInStep.yield PUnit.unit)) (fun r s' => r = .yield PUnit.unit ∧ R s') E { s with heap := h' } := by
    intro i h' R hi hd' hoo' hR
    refine wpAny_bind (wpAny_dictEntries hoo' hdo' ?_)
    rw [Array.getElem?_eq_getElem hi]
    obtain ⟨⟨k, v⟩, hkv⟩ : ∃ kv, more[i]? = some kv := ⟨more[i]'(by rw [hlen]; exact hi), List.getElem?_eq_getElem _⟩
    obtain ⟨hkey, hval⟩ := hpo.get? (e := eso[i]) (by simp [hi]) hkv
    obtain ⟨k2, hkey2, hhash⟩ := hko eso[i] (Array.getElem_mem hi)
    have ek : k2 = k := knd.inj _ _ _ hkey2 hkey
    subst ek
    dsimp only
    rw [if_neg Bool.false_ne_true, hhash, hval]
    have hmx : (merged kvs (more.take i)).length ≤ sizeLine := by
      have e1 := merged_length_le kvs (more.take i)
      have e2 : (more.take i).length ≤ more.length := by rw [List.length_take]; omega
      omega
    refine wpAny_bind (wpAny_holding (dictPut_at hkey hd' (fun h'' hd'' hs'' => ?_) hmx))
    have hoo'' : h''.get? o = some oo := (hs''.2 o (Ne.symm hdo)).trans hoo'
    refine wpAny_bind (wpAny_dictEpoch hoo'' hdo' ?_)
    rw [if_neg (by simp)]
    exact wpAny_pure ⟨rfl, hR h'' (by rw [merged_take_succ kvs more i (k2, v) hkv]; exact hd'') hoo'' hs''⟩
  unfold mergeMapping
  refine wpAny_bind (wpAny_isInstance ho.typeIs isSubtype_dict_dict ?_)
  rw [if_pos rfl]
  refine wpAny_bind (wpAny_specialOf ho.typeIs PySem.F.slot_dict_iter.lookup ?_)
  refine wpAny_bind (wpAny_pure ?_)
  rw [show (some (Value.builtin "dict.__iter__") == some (Value.builtin "dict.__iter__")) = true from by decide +kernel]
  dsimp only
  rw [if_neg (by rw [hoS]; exact Bool.false_ne_true)]
  refine wpAny_bind (wpAny_dictEntries hod hdd ?_)
  have fin : ∀ h', h'.DictOf knd d (merged kvs more) → h'.get? o = some oo → Heap.SameBut d s.heap h' → wpAny (model prog w) A (pure ()) Q E { s with heap := h' } := fun h' a b c => wpAny_pure (hQ h' a ⟨oo, eso, epo, b, hco, hdo', hko, hpo, hno⟩ c)
  split
  · refine wpAny_bind (wpAny_dictEntries hoo hdo' ?_)
    have quiet : (forIn eso PUnit.unit fun (e : DictEntry) (_ : PUnit) =>
              match e.key with
              | Value.ref a => do
                let l ← specialOf e.key (Str.ofString "__eq__")
                if (l != some (Value.builtin "object.__eq__")) = true then
                    if (Array.filter (fun (x : DictEntry) => x.hash == e.hash) eso).size > 1 then do
                      unsupported "dict.merge-into-an-empty-dict:keys-of-equal-hash"
                      pure (ForInStep.yield PUnit.unit)
                    else pure (ForInStep.yield PUnit.unit)
                  else pure (ForInStep.yield PUnit.unit)
              | x => (pure (ForInStep.yield PUnit.unit) : Sem (ForInStep PUnit))) = pure PUnit.unit := by
      rw [← Array.forIn_toList]
      refine forIn_yield_id _ fun e he c => ?_
      obtain ⟨k, hkey, _⟩ := hko e (Array.mem_toList_iff.mp he)
      have hv := knd.byValue k _ hkey
      cases hk2 : e.key with
      | ref a =>
        rw [hk2] at hv
        exact Bool.noConfusion hv
      | _ => rfl
    refine wpAny_bind (wpAny_of_eq quiet ?_)
    refine wpAny_bind (wpAny_dictEntries hoo hdo' (wpAny_bind (wpAny_dictEpoch hoo hdo' (wpAny_bind (merge_run (knd := knd) hlen step hd hoo fin)))))
  · refine wpAny_bind (wpAny_dictEntries hoo hdo' (wpAny_bind (wpAny_dictEpoch hoo hdo' (wpAny_bind (merge_run (knd := knd) hlen step hd hoo fin)))))
end
end G
set_option Elab.async false
set_option linter.all false
set_option maxRecDepth 100000
set_option maxHeartbeats 2000000
namespace G
open PySem PySem.Spec PyProof.Rows L2 StX
def tStar (td ty tx : TE) : TE := fun σ H Q => ∀ p, H p = none → td σ (upd H p (.dK [])) fun v H1 => ∃ a kvs, v = .ref a ∧ a ≠ p ∧ H1 a = some (.dK kvs) ∧ H1 p = some (.dK []) ∧ kvs.length ≤ 1000 ∧
  ∀ q, q ≠ p → upd H1 p (.dK (mergeK [] kvs)) q = none → ty σ (upd (upd H1 p (.dK (mergeK [] kvs))) q (.dK [])) fun y H2 => tx σ H2 fun x H3 => ∃ k : Key, y = kV k ∧ H3 p = some (.dK (mergeK [] kvs)) ∧ H3 q = some (.dK []) ∧
    Q (.ref p) (upd (upd H3 q (.dK (putK [] k x))) p (.dK (putK (mergeK [] kvs) k x)))
theorem pe_star {X : Cx} {pos : Pos} {d e v : Expr} {td ty tx : TE} (hd : PE X d td) (he : PE X e ty) (hv : PE X v tx) : PE X (.Dict [none, some e] [d, v] pos) (tStar td ty tx) := by
  refine ⟨fun pins s σ H Q I h => ?_⟩
  rw [arm_eval_Dict]
  refine wpAny_bind (wpAny_standAt ?_)
  have hz : (evalEachOpt [none, some e] X.env).zip ((evalEach [d, v] X.env).map fun v => do let x ← v; standAt pos; pure x) = [(none, do let x ← eval d X.env; standAt pos; pure x), (some (eval e X.env), do let x ← eval v X.env; standAt pos; pure x)] := by rfl
  rw [hz]
  unfold dictDisplay
  simp only [List.forIn_cons, List.forIn_nil, pure_bind, bind_assoc, List.isEmpty_nil, ↓reduceIte, List.nil_append, List.length_singleton, List.isEmpty_cons, Bool.false_eq_true]
  have hn := I.hok.fresh (Nat.le_refl s.heap.objs.size)
  have I1 := I.laid (a := s.heap.objs.size) (o := .dK []) (h' := s.heap.push { cls := .type "dict", data := .dict #[] }) (t' := s.toks) (fun _ _ q => Heap.get?_push_of_some _ q) (Nat.le_refl _) (dk_empty s.heap I.big)
  refine wpAny_bind (wpAny_alloc (wpAny_bind (wpAny_holding ?_)))
  refine wpAny_bind (thn (hd.run pins _ σ _ _ I1 (h _ hn)) fun v' s1 ⟨vx, H1, I2, rv, a, kvs, ev, hap, ha, hp1, hl, h2⟩ => ?_)
  subst ev
  obtain rfl : v' = Value.ref a := rv
  generalize hpq : s.heap.objs.size = p at hn hap hp1 h2 ⊢
  refine wpAny_bind (wpAny_standAt (wpAny_pure ?_))
  obtain ⟨z0, hd0, vs0, r0, dd0⟩ := dk_of I2.hok hp1
  cases r0
  obtain ⟨za, hda, vsa, ra, dda⟩ := dk_of I2.hok ha
  have lva : vsa.length = kvs.length := ra.length.symm
  have room1 : ([] : List (Key × Value)).length + vsa.length ≤ sizeLine := by
    rw [lva, sizeLine_eq]
    show 0 + kvs.length ≤ _
    omega
  refine wpAny_bind (wpAny_onRaise (wpAny_tryCatch (wpAny_onRaise (wpAny_holding (mergeMapping_at (knd := mixKind X.prog X.w) (Ne.symm hap) hda dd0 dda (fun h' dd' dda' sb => ?_) room1)))))
  have lmk : (mergeK [] kvs).length ≤ 1000 := by
    have h1 := length_mergeK kvs []
    rw [List.length_nil] at h1
    omega
  have lms : (mergeK [] kvs).length ≤ sizeLine := Nat.le_trans lmk (by decide)
  have I3 : L2.Inv X pins σ (upd H1 p (.dK (mergeK [] kvs))) { s1 with heap := h' } := d_write (t' := s1.toks) I2 (by rw [hp1]; exact True.intro) sb (let ⟨q, _, _, hq, _⟩ := dd'; ⟨q, hq⟩) (dk_new lms hd0 (ra.merge .nil) dd')
  rw [if_neg (by decide)]
  refine wpAny_bind (wpAny_pure (wpAny_bind (wpAny_pure ?_)))
  dsimp only [List.isEmpty_cons]
  rw [if_neg Bool.false_ne_true]
  -- the second part: one pair
  have nq := I3.hok.fresh (Nat.le_refl h'.objs.size)
  have I4 := I3.laid (a := h'.objs.size) (o := .dK []) (h' := h'.push { cls := .type "dict", data := .dict #[] }) (t' := s1.toks) (fun _ _ q => Heap.get?_push_of_some _ q) (Nat.le_refl _) (dk_empty h' I3.big)
  have hqp : h'.objs.size ≠ p := fun e => by
    rw [e, upd_same] at nq
    cases nq
  refine wpAny_bind (wpAny_bind (wpAny_holding (wpAny_subDict (knd := mixKind X.prog X.w) (by show 1 ≤ 15; decide) ?_)))
  have h3 := h2 _ hqp nq
  refine evalPairs_cons (thn (he.run pins _ σ _ _ I4 h3) fun ku s3 ⟨y, H2, I5, ry, h4⟩ => ?_)
  refine wpAny_bind (thn (hv.run pins s3 σ H2 _ I5 h4) fun xu s4 ⟨x, H3, I6, rx, k, ey, hp3, hq3, h5⟩ => ?_)
  subst ey
  refine wpAny_bind (wpAny_standAt (wpAny_pure (evalPairs_nil ?_)))
  generalize hqq : h'.objs.size = q at nq hqp hq3 h5 ⊢
  obtain ⟨zq, hdq, vsq, rq, ddq⟩ := dk_of I6.hok hq3
  cases rq
  refine ⟨[(k, xu)], ⟨kV_is ry, rfl, trivial⟩, ddq, fun h6 dd6 sb6 => ?_⟩
  have I7 : L2.Inv X pins σ (upd H3 q (.dK (putK [] k x))) { s4 with heap := h6, toks := s4.toks + [(ku, xu)].length } := d_write I6 (by rw [hq3]; exact True.intro) sb6 (let ⟨u, _, _, hu, _⟩ := dd6; ⟨u, hu⟩) (dk_new (kvs := putK [] k x) (by show 1 ≤ sizeLine; decide) hdq (KV.put .nil k rx) dd6)
  have hp7 : upd H3 q (.dK (putK [] k x)) p = some (.dK (mergeK [] kvs)) := by rw [upd_ne (Ne.symm hqp)]; exact hp3
  have hq7 : upd H3 q (.dK (putK [] k x)) q = some (.dK (putK [] k x)) := upd_same
  obtain ⟨zp7, hdp7, vsp7, rp7, ddp7⟩ := dk_of I7.hok hp7
  obtain ⟨zq7, hdq7, vsq7, rq7, ddq7⟩ := dk_of I7.hok hq7
  have room2 : vsp7.length + vsq7.length ≤ sizeLine := by
    have e1 : vsp7.length = (mergeK [] kvs).length := rp7.length.symm
    have e2 : vsq7.length = (putK [] k x).length := rq7.length.symm
    have e3 : (putK [] k x).length = 1 := rfl
    rw [e1, e2, e3, sizeLine_eq]
    omega
  refine wpAny_bind (wpAny_onRaise (wpAny_holding (mergeMapping_at (knd := mixKind X.prog X.w) (Ne.symm hqp) hdq7 ddp7 ddq7 (fun h8 dd8 ddq8 sb8 => ?_) room2)))
  refine wpAny_pure (wpAny_pure ?_)
  have lp : (putK (mergeK [] kvs) k x).length ≤ sizeLine := by
    have := length_putK (mergeK [] kvs) k x
    rw [sizeLine_eq]
    omega
  have em : mergeK (mergeK [] kvs) (putK [] k x) = putK (mergeK [] kvs) k x := rfl
  have I8 := d_write (t' := s4.toks + [(ku, xu)].length) I7 (by rw [hp7]; exact True.intro) sb8 (let ⟨u, _, _, hu, _⟩ := dd8; ⟨u, hu⟩) (dk_new (kvs := putK (mergeK [] kvs) k x) lp hdp7 (em ▸ rq7.merge rp7) dd8)
  exact ⟨.ref p, _, I8, rfl, h5⟩
end G
set_option Elab.async false
set_option linter.all false
set_option maxRecDepth 100000
set_option maxHeartbeats 2000000
namespace G
open PySem PySem.Spec PyProof.Rows L2 StX
theorem kdTG (P : Program) (w : World) : SetKd P w (fun D => SetTO P w D (fun _ => false) 0) (sAddG V.str (SetTO P w)) := kdT P w
theorem kdIG (P : Program) (w : World) : SetKd P w (fun D => SetO w D (fun _ => false) 0) (sAddG V.int (SetO w)) := kdI P w
theorem str_enc {W : Wc} {H : Hp} {v : V} {c : Str} (h : den W H v c) : v = V.str c := h
theorem int_enc {W : Wc} {H : Hp} {v : V} {c : Int} (h : den W H v c) : v = V.int c := h
structure FinT (B : Bs) : Prop where
  cl : L2.Cls B.K (B.cl .Finder)
  nr : NoAttr B.K (B.cl .Finder) "_rules"
  nl : NoAttr B.K (B.cl .Finder) "_left"
structure Fi where
  rs : List Ru
  lf : List Int
instance : Rep Fi :=
  ⟨fun W H v r => ∃ a dx w u, v = .ref a ∧ ¬ W.mu a ∧ H a = some (.ins (W.B.cl .Finder) dx [("_rules", w), ("_left", u)]) ∧ den W H w (Tl.mk r.rs) ∧ den W H u r.lf ∧ FinT W.B,
   fun {W H H' v r} e ⟨a, dx, w, u, hv, m, h, h1, h3, h2⟩ => ⟨a, dx, w, u, hv, m, e _ _ m h, Rep.mono (a := Tl.mk r.rs) e h1, Rep.mono (a := r.lf) e h3, h2⟩,
   fun {W H v r} D n ⟨a, dx, w, u, hv, m, h, h1, h3, h2⟩ => ⟨a, dx, w, u, hv, mu_grow n m h, h, Rep.grow (a := Tl.mk r.rs) D n h1, Rep.grow (a := r.lf) D n h3, h2⟩,
   fun {W H v r} D ⟨a, dx, w, u, hv, m, h, h1, h3, h2⟩ => ⟨a, dx, w, u, hv, fun z => m (.inl z), h, Rep.shrink (a := Tl.mk r.rs) D h1, Rep.shrink (a := r.lf) D h3, h2⟩⟩
instance : Ins Fi .Finder ["_rules", "_left"] := ⟨fun ⟨a, dx, w, u, hv, m, h, _⟩ => ⟨a, dx, _, hv, m, h, rfl⟩⟩
section
variable {W : Wd} {Γ : Gam} {te : TE} {K : PySem.W.Frag}
theorem ev_frules {k : Tl Ru → Prop} (hK : W.B.K = K) (h : EvK W te Γ fun r : Fi => k ⟨r.rs⟩) : EvK W (tFld K te "_rules") Γ k := by
  subst hK
  refine fun σ H Q E c => h σ H _ E fun v H1 r e1 ⟨a, dx, w, u, hv, m, hH, hw, hu, hT⟩ z => ?_
  exact ⟨a, _, dx, _, w, hv, hH, hT.cl, hT.nr, by simp [List.lookup], c w H1 _ e1 hw z⟩
theorem ev_fleft {k : List Int → Prop} (hK : W.B.K = K) (h : EvK W te Γ fun r : Fi => k r.lf) : EvK W (tFld K te "_left") Γ k := by
  subst hK
  refine fun σ H Q E c => h σ H _ E fun v H1 r e1 ⟨a, dx, w, u, hv, m, hH, hw, hu, hT⟩ z => ?_
  have hne : (("_left" : Str) == "_rules") = false := by decide +kernel
  exact ⟨a, _, dx, _, u, hv, hH, hT.cl, hT.nl, by simp [List.lookup, hne], c u H1 _ e1 hu z⟩
end
abbrev FiB := Fd (List Int) × Fd (Tl Ru) × Unit
def fiB (rs : List Ru) (lf : List Int) : FiB := (⟨"_left", lf⟩, ⟨"_rules", ⟨rs⟩⟩, ())
theorem fi_hden {B : Bs} (hT : FinT B) (W' : Wc) (H : Hp) (p dx : Addr) (fs : List (Str × V)) (b : FiB) (hB : W'.B = B) (m : ¬ W'.mu p) (hH : H p = some (.ins (B.cl .Finder) dx fs)) (hf : FRep.fd W' H fs b) (hb : b = fiB b.2.1.a.xs b.1.a) : den W' H (.ref p) (Fi.mk b.2.1.a.xs b.1.a) := by
  subst hB
  rw [hb] at hf
  obtain ⟨v, r, h1, h2, v2, r2, h3, h4, h5⟩ := hf
  have h5 : r2 = [] := h5
  subst h5
  have h3 : r = [(("_rules" : Str), v2)] := h3
  subst h3
  have h1 : fs = [(("_rules" : Str), v2), (("_left" : Str), v)] := h1
  subst h1
  exact ⟨p, dx, v2, v, rfl, m, hH, h4, h2, hT⟩
def rowsD (ws : List Str) : List (List (Str × Int)) := ws.foldl bitStep [[]]
theorem rowsD_snoc (ws : List Str) (w : Str) : rowsD (ws ++ [w]) = bitStep (rowsD ws) w := by
  unfold rowsD
  rw [List.foldl_append]
  rfl
theorem rowsD_mark (ws : List Str) : rowsD ws = (List.range (2 ^ ws.length)).map (markD ws) := bit_rows ws []
theorem rowsD_keys {ws : List Str} {row : List (Str × Int)} (h : row ∈ rowsD ws) : row.map (·.1) = ws := by
  rw [rowsD_mark] at h
  obtain ⟨m, _, rfl⟩ := List.mem_map.mp h
  exact markD_keys ws m
theorem rowsD_len (ws : List Str) : (rowsD ws).length = 2 ^ ws.length := by rw [rowsD_mark, List.length_map, List.length_range]
theorem star_row {ws : List Str} {row : List (Str × Int)} {w : Str} {b : Int} (h : row ∈ rowsD ws) (nd : (ws ++ [w]).Nodup) : putDc (mergeD [] row) w b = row ++ [(w, b)] := by
  have hk := rowsD_keys h
  have nd1 : ws.Nodup := nd.sublist (List.sublist_append_left _ _)
  have hw : w ∉ ws := fun z => (List.nodup_append.mp nd).2.2 w z w (by simp) rfl
  rw [mergeD_nodup row [] (by rw [List.nil_append, hk]; exact nd1), List.nil_append, putDc_new (by rw [hk]; exact hw)]
end G
namespace G
open PySem PySem.Spec PyProof.Rows L2 StX
instance {β : Type} [Rep β] : NotNon (Dc β) := ⟨fun ⟨p, _, hv, _⟩ e => by rw [hv] at e; cases e⟩
theorem getDc_has {β : Type} : ∀ {l : List (PySem.Str × β)} {k : PySem.Str}, k ∈ l.map (·.1) → (getDc l k).isSome = true
  | [], _, h => by cases h
  | (a, b) :: r, k, h => by
    rw [getDc_c]
    by_cases e : a = k
    · rw [if_pos e]
      rfl
    · rw [if_neg e]
      rcases List.mem_cons.mp h with h | h
      · exact absurd h.symm e
      · exact getDc_has h
end G
set_option Elab.async false
set_option linter.all false
set_option maxRecDepth 100000
set_option maxHeartbeats 2000000
namespace G
open PySem PySem.Spec PyProof.Rows L2 StX
/-- a dict that was not there at F -/
structure Yg (F : Hp) (β : Type) where
  l : List (Str × β)
instance {F : Hp} {β : Type} [Rep β] : Rep (Yg F β) where
  dn := fun W H v y => den W H v (Dc.mk y.l) ∧ ∃ p, v = .ref p ∧ F p = none
  mono := fun {W H H' v y} e h => ⟨Rep.mono (a := Dc.mk y.l) e h.1, h.2⟩
  grow := fun {W H v y} D n h => ⟨Rep.grow (a := Dc.mk y.l) D n h.1, h.2⟩
  shrink := fun {W H v y} D h => ⟨Rep.shrink (a := Dc.mk y.l) D h.1, h.2⟩
abbrev PFd (β : Type) := (List (Str × β) → Prop) → List Ty → Prop
def EvFD {β : Type} [Rep β] (W : Wd) (te : TE) (Γ : Gam) (k : List (Str × β) → Prop) : Prop :=
  ∀ σ H (Q : VK), GOk W H σ Γ → (∀ p H' kvs (ds : List (Str × β)), H p = none → Ext W H H' → H' p = some (.dK kvs) → Dk (den (W.toWc.plus p) H') kvs ds → k ds → Q (.ref p) H') → te σ H Q
section
variable {W : Wd} {Γ : Gam} {ta : TA} {te : TE} {B : Bs} {β : Type} {rβ : Rep β} [Flat β] {P : PFd β} {E : XK}
/-- and what it gives may be read alone -/
theorem EvFD.k {k : Dc β → Prop} (h : EvFD W te Γ fun ds => k ⟨ds⟩) : EvK W te Γ k := fun σ H Q G c => h σ H Q G fun p H' kvs ds n e hp hk q => c (.ref p) H' ⟨ds⟩ e ⟨p, kvs, rfl, ⟨fresh_mu G.ok n, hp⟩, hk.flat⟩ q
end
end G
set_option Elab.async false
set_option linter.all false
set_option maxRecDepth 100000
set_option maxHeartbeats 2000000
namespace G
open PySem PySem.Spec PyProof.Rows L2 StX
/-- a free place was free at F -/
def Mk (W : Wd) (F : Hp) : Prop := ∀ H p, W.ok H → W.wish H → H p = none → F p = none
theorem Mk.sub {W W' : Wd} {F : Hp} (m : Mk W F) (s : Sub W W') : Mk W' F := fun H p o w n => m H p (s.ok H o) (s.wish H o w) n
theorem mk_ownH {W : Wd} {F : Hp} {L : OwnH} {oF : W.ok F} {nF : ∀ k ∈ keysH L, F k = none} : Mk (W.ownH F L oF nF) F := fun H p o w n => fresh_FH o.1 w n
theorem yg_le {F H H' : Hp} {β : Type} [Rep β] {W : Wc} {v : V} {l : List (Str × β)} (h : ∀ p, H p = none → F p = none) (d : den W H' v (Yg.mk l : Yg H β)) : den W H' v (Yg.mk l : Yg F β) := by
  obtain ⟨d, p, hv, n⟩ := d
  exact ⟨d, p, hv, h p n⟩
theorem ygs_le {F H H' : Hp} {β : Type} [Rep β] {W : Wc} (h : ∀ p, H p = none → F p = none) : ∀ {vs : List V} {dss : List (List (Str × β))}, Dl (den W H') vs (dss.map fun l => (Yg.mk l : Yg H β)) → Dl (den W H') vs (dss.map fun l => (Yg.mk l : Yg F β))
  | [], [], _ => .nil
  | v :: vs, l :: r, .cons d q => .cons (yg_le h d) (ygs_le h q)
instance {F : Hp} {β : Type} [Rep β] : NotNon (Yg F β) := ⟨fun {W H v a} ⟨_, p, hv, _⟩ e => by rw [hv] at e; cases e⟩
section
variable {W : Wd} {F : Hp} {L : OwnH} {Γ : Gam} {ta : TA} {te ty tx : TE} {t : TS} {R : PoH} {B : Bs} {β : Type} {rβ : Rep β} {E : XK}
theorem sxh_pureM (h : ∀ Wo, OwnHW W L Wo → Mk Wo F → Sx Wo t Γ { nx := R.nx L, rt := R.rt, bk := R.bk L, ct := R.ct L }) : SxH W F t L Γ R := fun D σ H oF nF wF nd G O =>
  h _ (ownH_w wF) mk_ownH D σ H G (eokH_un nd O G.wish G.ok)
/-- a new dict in view as a dict -/
theorem ev_yd {k : Dc β → Prop} (h : EvK W te Γ fun d : Yg F β => k ⟨d.l⟩) : EvK W te Γ k := fun σ H Q G c =>
  h σ H Q G fun v H1 d e1 ⟨d1, _⟩ q => c v H1 ⟨d.l⟩ e1 d1 q
/-- {} -/
theorem ev_dnewY {k : Yg F β → Prop} (hM : Mk W F) (q : k ⟨[]⟩) : EvK W tDNewK Γ k := fun σ H Q G c p hp => c (.ref p) _ ⟨[]⟩ (Ext.new G.ok hp) ⟨⟨p, [], rfl, ⟨fresh_mu G.ok hp, upd_same⟩, .nil⟩, p, rfl, hM H p G.ok G.wish hp⟩ q
/-- {**d, k: v} -/
theorem ev_starY [Flat β] {i : Nat} {ds : List (Str × β)} {k : Yg F β → Prop} (hM : Mk W F) (hi : Γ[i]? = some (some (T (Yg.mk ds : Yg F β)))) (hl : ds.length ≤ 1000)
    (h : EvK W ty Γ fun s : Str => EvK W tx Γ fun b : β => k ⟨putDc (mergeD [] ds) s b⟩) : EvK W (tStar (tVar i) ty tx) Γ k := by
  intro σ H Q G c p hp
  obtain ⟨v, hv, ⟨p0, kvs, ev, ⟨m0, h0⟩, hk⟩, _⟩ := G.at_ i _ hi
  have ne0 : p0 ≠ p := ne_of_none h0 hp
  have e1 := Ext.new (o := .dK []) G.ok hp
  have mp := fresh_mu G.ok hp
  refine ⟨v, hv, p0, kvs, ev, ne0, by rw [upd_ne ne0]; exact h0, upd_same, by rw [hk.length]; exact hl, fun q hq nq => ?_⟩
  have e2 : Ext W H (upd (upd H p (.dK [])) p (.dK (mergeK [] kvs))) := ⟨fun a o m z => by
    rw [upd_ne (ne_of_none z hp), upd_ne (ne_of_none z hp)]
    exact z, W.st _ _ _ e1.ok mp⟩
  have e3 := e2.trans (Ext.new (o := .dK []) e2.ok nq)
  have mq := fresh_mu e2.ok nq
  refine h σ _ _ (G.ext e3) fun y H2 s e4 dy h2 => h2 σ H2 _ ((G.ext e3).ext e4) fun x H3 b e5 dx z => ?_
  have dy : y = .str s := dy
  subst dy
  have e45 := e4.trans e5
  have hp3 : H3 p = some (.dK (mergeK [] kvs)) := e45.keep p _ mp (by rw [upd_ne (Ne.symm hq)]; exact upd_same)
  have hq3 : H3 q = some (.dK []) := e45.keep q _ mq upd_same
  refine ⟨.inr s, rfl, hp3, hq3, ?_⟩
  have hqn : ∀ a o, H a = some o → a ≠ q := fun a o za e => by
    have : upd (upd H p (.dK [])) p (.dK (mergeK [] kvs)) a = some o := by rw [upd_ne (ne_of_none za hp), upd_ne (ne_of_none za hp)]; exact za
    rw [e, nq] at this
    cases this
  refine c (.ref p) _ ⟨putDc (mergeD [] ds) s b⟩ ⟨fun a o m za => ?_, ?_⟩ ⟨⟨p, _, rfl, ⟨mp, upd_same⟩, ?_⟩, p, rfl, hM H p G.ok G.wish hp⟩ z
  · rw [upd_ne (ne_of_none za hp), upd_ne (hqn a o za)]
    exact (e3.trans e45).keep a o m za
  · exact W.st _ _ _ (W.st _ _ _ e45.ok mq) mp
  · exact Dk.put (Flat.at_ dx) ((hk.flat).merge .nil)
abbrev PYL (β : Type) := (List (List (Str × β)) → Prop) → List Ty → Prop
def spYL {β : Type} [Rep β] (B : Bs) (P : PYL β) : Sp := fun vs H Q _ => ∃ (W : Wd) (ts : List Ty) (k : List (List (Str × β)) → Prop), W.B = B ∧ W.ok H ∧ W.wish H ∧ DT W H vs ts ∧ P k ts ∧
  ∀ v H' (dss : List (List (Str × β))), Ext W H H' → den W H' v (dss.map fun l => (Yg.mk l : Yg H β)) → k dss → Q v H'
theorem evYL_call {P : PYL β} {k : List (Yg F β) → Prop} (hM : Mk W F) (hB : W.B = B) (h : EvA W ta Γ fun ts => P (fun dss => k (dss.map fun l => (Yg.mk l : Yg F β))) ts) : EvK W (tCallR (spYL B P) E ta) Γ k := by
  subst hB
  refine fun σ H Q G c => h σ H _ G fun vs H1 ts e1 d z => ⟨W, ts, _, rfl, e1.ok, (G.ext e1).wish, d, z, fun v H' dss e hd q => ?_⟩
  obtain ⟨p, us, hv, hp, hl⟩ := hd
  exact c v H' _ (e1.trans e) ⟨p, us, hv, hp, ygs_le (fun p n => hM H1 p e1.ok (G.ext e1).wish n) hl⟩ q
theorem yl_ok {P : PYL β} {t : TS} {N : List Str} {vs : List V} {H : Hp} {Q : VK} {E : XK}
    (hb : ∀ (W : Wd) ts k F, W.B = B → P k ts → SxH W F t [] (ts.map some ++ List.replicate (N.length - ts.length) none) { nx := fun _ _ => False, rt := fun t => ∃ dss : List (List (Str × β)), t = T (dss.map fun l => (Yg.mk l : Yg F β)) ∧ k dss })
    (h : spYL B P vs H Q E) : t { nx := fun _ H' => Q .non H', rt := Q } (L2.start N vs) H := by
  obtain ⟨W, ts, k, hB, ho, hw, hd, hp, hq⟩ := h
  refine hb W ts k H hB hp _ _ H ho (fun _ z => nomatch z) hw .nil (ownH_gok_nil (fun _ _ _ z => z) (start_ok ho hw hd)) ⟨fun _ _ _ _ _ _ _ _ _ z => z.elim, fun v H' t e d ⟨ds, et, kd⟩ => ?_, fun _ _ _ _ _ _ _ _ _ z => z.elim, fun _ _ _ _ _ _ _ _ _ z => z.elim⟩
  subst et
  exact hq v H' ds e d kd
abbrev PYO (β : Type) := (Option (List (Str × β)) → Prop) → List Ty → Prop
def spYO {β : Type} [Rep β] (B : Bs) (P : PYO β) : Sp := fun vs H Q _ => ∃ (W : Wd) (ts : List Ty) (k : Option (List (Str × β)) → Prop), W.B = B ∧ W.ok H ∧ W.wish H ∧ DT W H vs ts ∧ P k ts ∧
  (k none → ∀ H', Ext W H H' → Q .non H') ∧ ∀ p H' kvs (ds : List (Str × β)), H p = none → Ext W H H' → H' p = some (.dK kvs) → Dk (den W.toWc H') kvs ds → k (some ds) → Q (.ref p) H'
def EvYO {β : Type} [Rep β] (W : Wd) (te : TE) (Γ : Gam) (k : Option (List (Str × β)) → Prop) : Prop :=
  ∀ σ H (Q : VK), GOk W H σ Γ → (k none → ∀ H', Ext W H H' → Q .non H') → (∀ p H' kvs (ds : List (Str × β)), H p = none → Ext W H H' → H' p = some (.dK kvs) → Dk (den (W.toWc.plus p) H') kvs ds → k (some ds) → Q (.ref p) H') → te σ H Q
theorem evYO_call [Flat β] {P : PYO β} {k : Option (List (Str × β)) → Prop} (hB : W.B = B) (h : EvA W ta Γ fun ts => P k ts) : EvYO W (tCallR (spYO B P) E ta) Γ k := by
  subst hB
  refine fun σ H Q G c1 c2 => h σ H _ G fun vs H1 ts e1 d z => ⟨W, ts, k, rfl, e1.ok, (G.ext e1).wish, d, z, fun hn H' e => c1 hn H' (e1.trans e), fun p H' kvs ds n e hp hk q => ?_⟩
  exact c2 p H' kvs ds (fresh_back e1.ok e1 n) (e1.trans e) hp hk.flat q
/-- and what it gives may be read alone -/
theorem EvYO.k [Flat β] {k : Option (Dc β) → Prop} (h : EvYO W te Γ fun o : Option (List (Str × β)) => k (o.map Dc.mk)) : EvK W te Γ k := fun σ H Q G c => h σ H Q G (fun q H' e => c .non H' none e rfl q)
  fun p H' kvs ds n e hp hk q => c (.ref p) H' (some ⟨ds⟩) e ⟨p, kvs, rfl, ⟨fresh_mu G.ok n, hp⟩, hk.flat⟩ q
theorem yo_ok [Flat β] {P : PYO β} {t : TS} {N : List Str} {vs : List V} {H : Hp} {Q : VK} {E : XK}
    (hb : ∀ (W : Wd) ts k F, W.B = B → P k ts → SxH W F t [] (ts.map some ++ List.replicate (N.length - ts.length) none) { nx := fun _ _ => False, rt := fun t => ∃ o : Option (List (Str × β)), t = T (o.map fun l => (Yg.mk l : Yg F β)) ∧ k o })
    (h : spYO B P vs H Q E) : t { nx := fun _ H' => Q .non H', rt := Q } (L2.start N vs) H := by
  obtain ⟨W, ts, k, hB, ho, hw, hd, hp, hq1, hq2⟩ := h
  refine hb W ts k H hB hp _ _ H ho (fun _ z => nomatch z) hw .nil (ownH_gok_nil (fun _ _ _ z => z) (start_ok ho hw hd)) ⟨fun _ _ _ _ _ _ _ _ _ z => z.elim, fun v H' t e d ⟨o, et, kd⟩ => ?_, fun _ _ _ _ _ _ _ _ _ z => z.elim, fun _ _ _ _ _ _ _ _ _ z => z.elim⟩
  subst et
  cases o with
  | none =>
    have d : v = .non := d
    rw [d]
    exact hq1 kd H' e
  | some ds =>
    obtain ⟨⟨p, kvs, hv, ⟨m, hp2⟩, hk⟩, p', hv', hF⟩ := (show den W.toWc H' v (Yg.mk ds : Yg H β) from d)
    rw [hv] at hv'
    cases hv'
    rw [hv]
    exact hq2 p H' kvs ds hF e hp2 hk kd
end
def rNeOD (K : PySem.W.Frag) : R2 := fun x y H Q => rNeD K x y H Q ∨ rNeDA x y H Q
theorem op_neODK {X : Cx} (K : PySem.W.Frag) (hu : X.A.units + 64 < cLine) (h : X.K = K := by rfl) : OpR X (compareOp .NotEq) (rNeOD K) := fun pins s σ H x y v u Q I rx ry q =>
  q.elim (fun q => op_neDK K hu h pins s σ H x y v u Q I rx ry q) fun q => op_ne_dictA (Nat.lt_of_le_of_lt (Nat.le_add_right _ _) hu) pins s σ H x y v u Q I rx ry q
section
variable {W : Wd} {Γ : Gam} {te ta tb : TE} {K : PySem.W.Frag}
theorem dc_alike {W : Wc} {H : Hp} {x y : V} {d : List (Str × Int)} (nd : (d.map (·.1)).Nodup) (dx : den W H x (Dc.mk d)) (dy : den W H y (Dc.mk d)) : ∃ a b ks ls, x = .ref a ∧ y = .ref b ∧ H a = some (.dK ks) ∧ H b = some (.dK ls) ∧ ks.length = ls.length ∧ (∀ p ∈ ks, valV ls p.1 = some p.2 ∧ flatB p.2 = true) := by
  obtain ⟨p, ks, hx, hp, h1⟩ := dx
  obtain ⟨r, ls, hy, hr, h2⟩ := dy
  have e1 := dk_int h1
  have e2 := dk_int h2
  rw [← e1] at e2
  subst e2
  refine ⟨p, r, ls, ls, hx, hy, hp.2, hr.2, rfl, fun q hq => ?_⟩
  rw [e1] at hq ⊢
  obtain ⟨z, hz, rfl⟩ := List.mem_map.mp hq
  refine ⟨?_, rfl⟩
  rw [← e1]
  have hg := getDc_mem nd (k := z.1) (b := z.2) hz
  rcases h1.get z.1 with ⟨_, h4⟩ | ⟨v, b, h3, h4, h5⟩
  · rw [h4] at hg; cases hg
  · rw [h4] at hg
    cases hg
    have h5 : v = V.int z.2 := h5
    rw [h3, h5]
theorem ev_neOD {k : Bool → Prop} (h : EvK W ta Γ fun d : Option (Dc Int) => EvK W tb Γ fun e : Option (Dc Int) => d = e ∧ (∀ l, d = some l → (l.l.map (·.1)).Nodup) ∧ k false) : EvK W (tOp (rNeOD K) ta tb) Γ k :=
  ev_two (h.imp fun d hd => hd.imp fun e ⟨hl, nd, q⟩ x y H Q o dx dy c => by
    subst hl
    cases d with
    | none =>
      cases (show x = .non from dx)
      cases (show y = .non from dy)
      exact .inl ⟨_, _, .non, .non, rfl, rfl, c _ H false (Ext.refl o) rfl q⟩
    | some d =>
      obtain ⟨a, b, ks, ls, h1, h2, h3, h4, h5, h6⟩ := dc_alike (nd d rfl) dx dy
      exact .inr ⟨a, b, ks, ls, h1, h2, h3, h4, h5, h6, c _ H false (Ext.refl o) rfl q⟩)
end
end G
set_option Elab.async false
set_option linter.all false
set_option maxRecDepth 100000
set_option maxHeartbeats 2000000
namespace G
open PySem PySem.Spec PyProof.Rows L2 StX
abbrev PM (β : Type) := Cn → β → (β → Prop) → List Ty → Prop
def spMt {β : Type} [FRep β] (B : Bs) (P : PM β) : Sp := fun vs H Q _ => ∃ (W : Wd) (F : Hp) (p dx : Addr) (c : Cn) (fs0 : List (Str × V)) (b0 : β) (ws : List V) (ts : List Ty) (k : β → Prop) (oF : W.ok F) (nF : ∀ q ∈ keysH [(p, HO.ins (B.cl c) dx fs0)], F q = none),
  vs = .ref p :: ws ∧ W.B = B ∧ W.wish F ∧ (W.ownH F [(p, .ins (B.cl c) dx fs0)] oF nF).ok H ∧ Kp W.toWc F H ∧ FRep.fd (W.toWc.plus p) H fs0 b0 ∧ DT (W.toWc.plus p) H ws ts ∧ P c b0 k ts ∧
  ∀ H' fs b, Kp (W.toWc.plus p) H H' → W.ok H' → H' p = some (.ins (B.cl c) dx fs) → FRep.fd (W.toWc.plus p) H' fs b → k b → Q .non H'
theorem mt_ok {β : Type} [FRep β] {B : Bs} {P : PM β} {t : TS} {N : List Str} {vs : List V} {H : Hp} {Q : VK} {E : XK}
    (hb : ∀ (W : Wd) F p dx c fs0 b0 ts k, W.B = B → P c b0 k ts →
      SxH W F t [(p, .ins (W.B.cl c) dx fs0)] (some (T (Oi.mk p c dx fs0 b0)) :: (ts.map some ++ List.replicate (N.length - (ts.length + 1)) none)) { nx := fun L Γ => ∃ fs b, L = [(p, .ins (W.B.cl c) dx fs)] ∧ Γ[0]? = some (some (T (Oi.mk p c dx fs b))) ∧ k b, rt := fun _ => False })
    (h : spMt B P vs H Q E) : t { nx := fun _ H' => Q .non H', rt := Q } (L2.start N vs) H := by
  obtain ⟨W, F, p, dx, c, fs0, b0, ws, ts, k, oF, nF, rfl, hB, wF, ho, hw, hf, hd, hp, hq⟩ := h
  subst hB
  refine hb W F p dx c fs0 b0 ts k rfl hp _ _ H oF nF wF (List.nodup_cons.mpr ⟨fun z => (nomatch z), .nil⟩) ?_ ?_
  · have hd' : DT (W.ownH F [(p, .ins (W.B.cl c) dx fs0)] oF nF).toWc H (.ref p :: ws) (T (Oi.mk p c dx fs0 b0) :: ts) := .cons (t := T (Oi.mk p c dx fs0 b0)) ⟨rfl, hf⟩ hd
    have := start_ok (N := N) ho hw hd'
    exact this
  · refine ⟨fun L' oF' nF2 σ' H' Γ' s nd' G ⟨fs, b, hL, hG, kb⟩ => ?_, fun v H' t e d z => z.elim, fun _ _ _ _ _ _ _ _ _ z => z.elim, fun _ _ _ _ _ _ _ _ _ z => z.elim⟩
    subst hL
    obtain ⟨_, h2⟩ := oi_at G hG
    exact hq H' fs b s.1 G.ok.1 (G.ok.2 _ List.mem_cons_self) h2 kb
section
variable {W : Wd} {F : Hp} {L : OwnH} {Γ : Gam} {R : PoH} {ta : TA} {te : TE} {B : Bs}
/-- o.m(..), o an own object, as a statement -/
theorem sxh_methM {β : Type} {fβ : FRep β} {P : PM β} {E : L2.St → XK} {p dx C : Addr} {c : Cn} {m : Str} {i : Nat} {fs0 : List (Str × V)} {b0 : β} (hL : L = [(p, .ins (W.B.cl c) dx fs0)]) (hi : Γ[i]? = some (some (T (Oi.mk p c dx fs0 b0)))) (hB : W.B = B) (hC : B.cl c = C) (hm : m ∉ FRep.nms b0)
    (h : ∀ Wo, OwnHW W L Wo → EvA Wo ta Γ fun ts => P c b0 (fun b => ∀ fs, R.nx [(p, .ins (W.B.cl c) dx fs)] (Γ.set i (some (T (Oi.mk p c dx fs b))))) ts) : SxH W F (tDrop (tMethZ C m (spMt B P) E (tVar i) ta)) L Γ R := by
  subst hB
  subst hC
  subst hL
  refine fun D σ H oF nF wF nd G O => ?_
  obtain ⟨h1, h2⟩ := oi_at G hi
  refine ⟨_, h1, p, dx, fs0, rfl, G.ok.2 _ List.mem_cons_self, look_none (by rw [FRep.nm h2]; exact hm), ?_⟩
  refine h _ (ownH_w wF) σ H _ G fun vs H1 ts e1 d z => ?_
  have G1 := G.ext e1
  obtain ⟨_, h2'⟩ := oi_at G1 hi
  refine ⟨W, F, p, dx, c, fs0, b0, vs, ts, _, oF, nF, rfl, rfl, wF, G1.ok, G1.wish, h2', d, z, fun H' fs b kp ok' hH hf kb => ?_⟩
  have nFp : F p = none := nF p List.mem_cons_self
  have nF' : ∀ q ∈ keysH [(p, HO.ins (W.B.cl c) dx fs)], F q = none := nF
  have s : StpH W [(p, .ins (W.B.cl c) dx fs0)] H [(p, .ins (W.B.cl c) dx fs)] H' := ⟨fun a u m q => kp a u m (e1.keep a u m q), fun q hq => .inl hq⟩
  have hl : i < Γ.length := (List.getElem?_eq_some_iff.mp hi).1
  refine O.nx _ oF nF' σ H' _ s (List.nodup_cons.mpr ⟨fun z => (nomatch z), .nil⟩) ⟨⟨ok', fun y hy => ?_⟩, fun a u m q => ?_, fun j t ht => ?_, by rw [List.length_set]; exact G1.len⟩ (kb fs)
  · rw [List.mem_singleton.mp hy]
    exact hH
  · exact kp a u (fun z => z.elim m fun z => by rw [z, nFp] at q; cases q) (G1.wish a u m q)
  · by_cases e : i = j
    · subst e
      rw [List.getElem?_set_self hl] at ht
      cases ht
      exact ⟨_, h1, rfl, hf⟩
    · rw [List.getElem?_set_ne e] at ht
      obtain ⟨v, h3, h4⟩ := G1.at_ j t ht
      exact ⟨v, h3, Ty.mono kp h4⟩
end
def EvFO {β : Type} [FRep β] (W : Wd) (c : Cn) (te : TE) (Γ : Gam) (k : β → Prop) : Prop :=
  ∀ σ H (Q : VK), GOk W H σ Γ → (∀ p dx fs H' (b : β), H p = none → Ext W H H' → H' p = some (.ins (W.B.cl c) dx fs) → FRep.fd (W.toWc.plus p) H' fs b → k b → Q (.ref p) H') → te σ H Q
abbrev PFo (β : Type) := (β → Prop) → List Ty → Prop
def spFo {β : Type} [FRep β] (B : Bs) (c : Cn) (P : PFo β) : Sp := fun vs H Q _ => ∃ (W : Wd) (ts : List Ty) (k : β → Prop), W.B = B ∧ W.ok H ∧ W.wish H ∧ DT W H vs ts ∧ P k ts ∧
  ∀ p dx fs H' (b : β), H p = none → Ext W H H' → H' p = some (.ins (B.cl c) dx fs) → FRep.fd (W.toWc.plus p) H' fs b → k b → Q (.ref p) H'
theorem make_runO {W : Wd} {β : Type} {fβ : FRep β} {P : PI β} {H1 : Hp} {E : XK} {x : Xn → Prop} {c : Cn} {ws : List V} {ts : List Ty} {Q : VK} {k : β → Prop} (hx : XOk W H1 E x) (o : W.ok H1)
    (xx dx : Addr) (nx : H1 xx = none) (ndx : H1 dx = none) (nex : dx ≠ xx) (H2 : Hp) (e2 : Ext W (upd (upd H1 dx (.own xx)) xx (.ins (W.B.cl c) dx [])) H2) (hd : DT (W.toWc.plus xx) H2 ws ts) (hp : P c k x ts)
    (cc : ∀ fs H' (b : β), Ext W H1 H' → H' xx = some (.ins (W.B.cl c) dx fs) → FRep.fd (W.toWc.plus xx) H' fs b → k b → Q (.ref xx) H') : spIn W.B P (.ref xx :: ws) H2 (fun v H3 => v = .non ∧ Q (.ref xx) H3) E := by
  have m1 := fresh_mu o ndx
  have m2 := fresh_mu o nx
  have e3 : Ext W H1 (upd (upd H1 dx (.own xx)) xx (.ins (W.B.cl c) dx [])) := ⟨fun a u _ q => by rw [upd_ne (ne_of_none q nx), upd_ne (ne_of_none q ndx)]; exact q, W.st _ _ _ (W.st _ _ _ o m1) m2⟩
  refine ⟨W, H1, xx, dx, c, ws, ts, _, x, o, fun q hq => by rw [List.mem_singleton.mp hq]; exact nx, rfl, rfl, hx, ⟨e2.ok, fun y hy => ?_⟩, (e3.trans e2).keep, hd, hp, fun H' fs b kp ok' hH hf kb => ⟨rfl, ?_⟩⟩
  · rw [List.mem_singleton.mp hy]
    exact e2.keep xx _ m2 upd_same
  · exact cc fs H' b ⟨fun a u m q => kp a u (fun z => z.elim m (fun z => by rw [z, nx] at q; cases q)) ((e3.trans e2).keep a u m q), ok'⟩ hH hf kb
section
variable {W : Wd} {Γ : Gam} {ta : TA} {te : TE} {B : Bs}
theorem evFO_makeS {β γ : Type} {rγ : Rep γ} {fβ : FRep β} {P : PI β} {E : L2.St → XK} {x : Xn → Prop} {k : β → Prop} {c : Cn} {C : Addr} {n : Nat} (hB : W.B = B) (hC : B.cl c = C) (hx : HX W Γ E x)
    (h : EvS W n ta Γ fun ts (as : List γ) => as.length ≤ 100000 ∧ P c k x (ts ++ [T (Tl.mk as)])) : EvFO W c (tMakeZ C (spSt (n + 1) (spIn B P)) E ta) Γ k := by
  subst hB
  subst hC
  refine fun σ H Q G cc => h σ H _ G fun ws rest H1 ts as e1 hl d dr ⟨hlen, z⟩ xx dx nx ndx nex => ?_
  have e3 : Ext W H1 (upd (upd H1 dx (.own xx)) xx (.ins (W.B.cl c) dx [])) := ⟨fun a u _ q => by rw [upd_ne (ne_of_none q nx), upd_ne (ne_of_none q ndx)]; exact q, W.st _ _ _ (W.st _ _ _ e1.ok (fresh_mu e1.ok ndx)) (fresh_mu e1.ok nx)⟩
  refine ⟨.ref xx :: ws, rest, rfl, congrArg (· + 1) hl, Nat.le_trans (by rw [dr.length]; exact hlen) (by decide : 100000 ≤ sizeLine), fun p hp => ?_⟩
  have e4 := Ext.new (o := .tup rest) e3.ok hp
  have hpx : p ≠ xx := fun e => by rw [e, upd_same] at hp; cases hp
  have kk : Kp (W.toWc.plus xx) H1 (upd (upd (upd H1 dx (.own xx)) xx (.ins (W.B.cl c) dx [])) p (.tup rest)) := fun a u m q => (e3.trans e4).keep a u (fun z => m (.inl z)) q
  refine make_runO (ws := ws ++ [V.ref p]) (hx σ H1 (G.ext e1)) e1.ok xx dx nx ndx nex _ e4 ?_ z fun fs H' b e hH hf kb => cc xx dx fs H' b (fresh_back e1.ok e1 nx) (e1.trans e) hH hf kb
  refine dt_snoc ((dt_grow nx d).mono kk) ⟨p, rest, rfl, ⟨fun z => z.elim (fresh_mu e3.ok hp) hpx, upd_same⟩, ?_⟩
  exact dr.imp fun _ _ y => Rep.mono kk (Rep.grow xx nx y)
theorem evFO_cmeth {β : Type} {fβ : FRep β} {P : PFo β} {E : L2.St → XK} {k : β → Prop} (cn c : Cn) {C : Addr} (hB : W.B = B) (hC : B.cl c = C) (h : EvA W ta Γ fun ts => P k (T (Cv.mk c) :: ts)) : EvFO W cn (tCMethZ C (spFo B cn P) E ta) Γ k := by
  subst hB
  refine fun σ H Q G cc => h σ H _ G fun vs H1 ts e1 d z => ⟨W, _, k, rfl, e1.ok, (G.ext e1).wish, .cons (t := T (Cv.mk c)) (by rw [← hC]; exact rfl) d, z, fun p dx fs H' b n e hp hf q => ?_⟩
  exact cc p dx fs H' b (fresh_back e1.ok e1 n) (e1.trans e) hp hf q
end
section
variable {W : Wd} {F : Hp} {L : OwnH} {Γ : Gam} {R : PoH} {te : TE}
theorem sxh_newFO {β : Type} {fβ : FRep β} {c : Cn} {i : Nat} (h : ∀ Wo, OwnHW W L Wo → EvFO Wo c te Γ fun b : β => ∀ p dx fs, R.nx ((p, .ins (W.B.cl c) dx fs) :: L) (Γ.set i (some (T (Oi.mk p c dx fs b))))) : SxH W F (tAsg te (gName i)) L Γ R := fun D σ H oF nF wF nd G O =>
  h _ (ownH_w wF) σ H _ G fun p dx fs H1 b n e hp hb q => by
    have hB : (W.ownH F L oF nF).B = W.B := plusL_B
    rw [hB] at hp
    exact newH (T (Oi.mk p c dx fs b)) nd G O n e hp ⟨rfl, hb⟩ (q p dx fs)
end
section
variable {W : Wd} {Γ : Gam} {ta : TA} {te : TE} {B : Bs} {E : L2.St → XK} {C : Addr}
theorem evFO_makeV {β : Type} {fβ : FRep β} {c cn : Cn} {sp : Sp} {i : Nat} {k : β → Prop} (hB : W.B = B) (hC : B.cl c = C) (hi : Γ[i]? = some (some (T (Cv.mk c)))) (h : EvFO W cn (tMakeZ C sp E ta) Γ k) : EvFO W cn (tMakeV i C sp E ta) Γ k := by
  subst hB
  subst hC
  exact fun σ H Q G q => by
    obtain ⟨v, h1, h2⟩ := G.at_ i _ hi
    exact ⟨v, h1, h2, h σ H Q G q⟩
/-- self.f, self an own object, wherever it stays as it is -/
theorem ev_fldPin {Wo : Wd} {α β : Type} {rα : Rep α} {fβ : FRep β} {f : Str} {i : Nat} {p dx C : Addr} {c : Cn} {fs : List (Str × V)} {b : β} {a : α} {k : α → Prop} {K : PySem.W.Frag}
    (pin : ∀ H, Wo.ok H → H p = some (.ins C dx fs)) (hc : L2.Cls K C) (hn : NoAttr K C f) (hi : Γ[i]? = some (some (T (Oi.mk p c dx fs b)))) (hg : GetF f rα a fβ b) (q : k a) : EvK Wo (tFld K (tVar i) f) Γ k := by
  refine fun σ H Q G c2 => ?_
  obtain ⟨h1, h2⟩ := oi_at G hi
  obtain ⟨v, h3, h4⟩ := hg.look h2
  exact ⟨_, h1, p, _, dx, fs, v, rfl, pin H G.ok, hc, hn, h3, c2 v H a (Ext.refl G.ok) h4 q⟩
end
/-- o.m(..) that gives a new dict or None -/
theorem evYO_methZ {W : Wd} {Γ : Gam} {ta : TA} {to : TE} {B : Bs} {E : L2.St → XK} {C : Addr} {β γ : Type} {rβ : Rep β} {rγ : Rep γ} [Flat β] {P : PYO β} {m : Str} {k : Option (List (Str × β)) → Prop} (hB : W.B = B)
    (h : EvK W to Γ fun s : γ => OwnM γ B C m (EvA W ta Γ fun ts => P k (T s :: ts))) : EvYO W (tMethZ C m (spYO B P) E to ta) Γ k := by
  subst hB
  refine fun σ H Q G c1 c2 => h σ H _ G fun v H1 s e1 d ⟨cc, fl, iβ, hC, hm, z⟩ => ?_
  subst hC
  obtain ⟨p, dp, fs, hv, _, hH, hfl⟩ := iβ.at_ d
  refine ⟨p, dp, fs, hv, hH, look_none (by rw [hfl]; exact hm), ?_⟩
  refine z σ H1 _ (G.ext e1) fun vs H2 ts e2 d2 z2 => ?_
  exact ⟨W, _, k, rfl, e2.ok, ((G.ext e1).ext e2).wish, .cons (t := T s) (Rep.mono e2.keep d) d2, z2, fun hn H' e => c1 hn H' ((e1.trans e2).trans e), fun q H' kvs ds n e hp hk q2 =>
    c2 q H' kvs ds (fresh_back e1.ok e1 (fresh_back e2.ok e2 n)) ((e1.trans e2).trans e) hp hk.flat q2⟩
/-- the rule at i -/
def ruAt (rs : List Ru) (i : Int) : Ru := (atI rs i).getD (lfU ("" : Str))
theorem ruAt_of {rs : List Ru} {i : Int} {r : Ru} (h : atI rs i = some r) : ruAt rs i = r := by
  unfold ruAt
  rw [h]
  rfl
theorem atI_some {α : Type} {rs : List α} {i : Int} (h0 : 0 ≤ i) (h1 : i < rs.length) : ∃ r, atI rs i = some r ∧ r ∈ rs := by
  obtain ⟨j, rfl⟩ : ∃ j : Nat, i = j := ⟨i.toNat, by omega⟩
  have hj : j < rs.length := by omega
  exact ⟨rs[j], atI_nat (List.getElem?_eq_getElem hj), List.getElem_mem hj⟩
theorem ruAt_ok {rs : List Ru} {i : Int} (h0 : 0 ≤ i) (h1 : i < rs.length) : atI rs i = some (ruAt rs i) ∧ ruAt rs i ∈ rs := by
  obtain ⟨r, h, hm⟩ := atI_some h0 h1
  rw [ruAt_of h]
  exact ⟨h, hm⟩
/-- which rules are left when they are told a -/
def tellF (rs : List Ru) (lf : List Int) (ds : List (Str × Int)) (a : Int) : List Int := lf.filter fun i => decide (ansF (rdF ds) (ruAt rs i) = a)
/-- the first row on which not all answer the same -/
def splitD (ws : List Str) (qs : List Ru) : Option (List (Str × Int)) := (rowsD ws).find? fun row => decide (1 < nDif (qs.map (ansF (rdF row))))
theorem tell_less {ws : List Str} {rs : List Ru} {lf : List Int} {row : List (Str × Int)} {a : Int} (h : splitD ws (lf.map (ruAt rs)) = some row) : (tellF rs lf row a).length < lf.length := by
  have h1 := of_decide_eq_true (List.find?_some (p := fun row => decide (1 < nDif ((lf.map (ruAt rs)).map (ansF (rdF row))))) h)
  refine Nat.lt_of_not_le fun z => ?_
  have hall : ∀ i ∈ lf, ansF (rdF row) (ruAt rs i) = a := fun i hi => by
    have e : (tellF rs lf row a) = lf := List.filter_eq_self.mpr (List.length_filter_eq_length_iff.mp (Nat.le_antisymm (List.length_filter_le _ _) z))
    have := e ▸ hi
    exact of_decide_eq_true (List.mem_filter.mp this).2
  have h2 : nDif ((lf.map (ruAt rs)).map (ansF (rdF row))) ≤ 1 := nDif_one.mpr fun x hx y hy => by
    obtain ⟨q, hq, rfl⟩ := List.mem_map.mp hx
    obtain ⟨i, hi, rfl⟩ := List.mem_map.mp hq
    obtain ⟨q2, hq2, rfl⟩ := List.mem_map.mp hy
    obtain ⟨i2, hi2, rfl⟩ := List.mem_map.mp hq2
    rw [hall i hi, hall i2 hi2]
  omega
end G
set_option Elab.async false
set_option linter.all false
set_option maxRecDepth 100000
set_option maxHeartbeats 2000000
namespace G
open PySem PySem.Spec PyProof.Rows L2 StX
end G
set_option Elab.async false
set_option linter.all false
set_option maxRecDepth 100000
set_option maxHeartbeats 4000000
namespace Lw
open PySem PySem.Spec PyProof.Rows L2 StX G
def top (i : Nat) : Stmt := PySem.Challenge.pw_gaugemiss_k87_whole_nine_names.main.body.getD i (.Pass ⟨0, 0, 0, 0⟩)
abbrev s_take : Stmt := top 23
abbrev s_box : Stmt := top 22
abbrev s_word : Stmt := top 24
abbrev s_words : Stmt := top 25
abbrev s_node : Stmt := top 26
abbrev s_tree : Stmt := top 27
abbrev s_DuplicateGauge_init : Stmt := inClass (top 3) 0
abbrev s_MissingReading_init : Stmt := inClass (top 4) 0
abbrev s_BadRule_init : Stmt := inClass (top 5) 0
abbrev s_Leaf_names : Stmt := inClass (top 17) 1
abbrev s_Rule_names : Stmt := inClass (top 16) 1
abbrev s_Rule_init : Stmt := inClass (top 16) 0
abbrev s_Leaf_init : Stmt := inClass (top 17) 0
abbrev s_Rank_init : Stmt := inClass (top 18) 0
abbrev s_Rank_of : Stmt := inClass (top 18) 1
abbrev s_Trim_init : Stmt := inClass (top 19) 0
abbrev s_Trim_of : Stmt := inClass (top 19) 1
abbrev s_Weigh_init : Stmt := inClass (top 20) 0
abbrev s_Weigh_of : Stmt := inClass (top 20) 1
abbrev s_rule : Stmt := top 28
abbrev s_Rank_counted : Stmt := inClass (top 18) 5
abbrev s_Trim_counted : Stmt := inClass (top 19) 2
abbrev s_Weigh_weight_up_to : Stmt := inClass (top 20) 3
abbrev s_Weigh_counted : Stmt := inClass (top 20) 2
abbrev s_Leaf_answer : Stmt := inClass (top 17) 2
abbrev s_Rule_answer : Stmt := inClass (top 16) 2
abbrev s_joined : Stmt := top 30
abbrev s_answer : Stmt := top 31
abbrev s_some : Stmt := top 29
abbrev s_leaves : Stmt := top 32
abbrev s_NotRanked_init : Stmt := inClass (top 6) 0
abbrev s_m_refuse_trims : Stmt := top 9
abbrev s_m_bit_readings : Stmt := top 10
abbrev s_m_first_difference : Stmt := top 11
abbrev s_m_differ : Stmt := top 12
abbrev s_m_alike : Stmt := top 13
abbrev s_NoRule_init : Stmt := inClass (top 7) 0
abbrev s_Finder_init : Stmt := inClass (top 14) 0
abbrev s_Finder_of : Stmt := inClass (top 14) 1
abbrev s_Finder_left : Stmt := inClass (top 14) 2
abbrev s_Finder_tell : Stmt := inClass (top 14) 3
abbrev s_Finder_question : Stmt := inClass (top 14) 4
abbrev s_power : Stmt := top 33
abbrev s_split : Stmt := top 34
abbrev s_first : Stmt := top 35
abbrev s_found : Stmt := top 36
abbrev s_law : Stmt := top 37
theorem sc_take : FnScope ["_law_box_here", "_law_many", "_law_cells", "_law_digit", "_law_cell"] ["_law_box_here", "_law_many"] (defScope s_take) := ⟨rfl, rfl, rfl, by decide +kernel, rfl, by decide +kernel, by decide +kernel⟩
theorem sc_box : FnScope ["_law_script", "_law_salt", "_law_cell"] ["_law_script", "_law_salt"] (defScope s_box) := ⟨rfl, rfl, rfl, by decide +kernel, rfl, by decide +kernel, by decide +kernel⟩
theorem sc_word : FnScope ["_law_number", "_law_many", "_law_back", "_law_word_here", "_law_turn"] ["_law_number", "_law_many", "_law_back"] (defScope s_word) := ⟨rfl, rfl, rfl, by decide +kernel, rfl, by decide +kernel, by decide +kernel⟩
theorem sc_words : FnScope ["_law_box_here", "_law_many", "_law_words_here", "_law_back", "_law_turn", "_law_wide", "_law_number", "_law_word_here", "_law_again"] ["_law_box_here", "_law_many"] (defScope s_words) := ⟨rfl, rfl, rfl, by decide +kernel, rfl, by decide +kernel, by decide +kernel⟩
theorem sc_node : FnScope ["_law_box_here", "_law_parts", "_law_plain", "_law_many", "_law_sort", "_law_masses", "_law_part", "_law_heavy"] ["_law_box_here", "_law_parts", "_law_plain"] (defScope s_node) := ⟨rfl, rfl, rfl, by decide +kernel, rfl, by decide +kernel, by decide +kernel⟩
theorem sc_tree : FnScope ["_law_box_here", "_law_words_here", "_law_plain", "_law_parts", "_law_word_here", "_law_turn", "_law_at", "_law_many"] ["_law_box_here", "_law_words_here", "_law_plain"] (defScope s_tree) := ⟨rfl, rfl, rfl, by decide +kernel, rfl, by decide +kernel, by decide +kernel⟩
theorem sc_DuplicateGauge_init : FnScope ["self", "name"] ["self", "name"] (defScope s_DuplicateGauge_init) := ⟨rfl, rfl, rfl, by decide +kernel, rfl, by decide +kernel, by decide +kernel⟩
theorem sc_MissingReading_init : FnScope ["self", "name"] ["self", "name"] (defScope s_MissingReading_init) := ⟨rfl, rfl, rfl, by decide +kernel, rfl, by decide +kernel, by decide +kernel⟩
theorem sc_BadRule_init : FnScope ["self", "kind"] ["self", "kind"] (defScope s_BadRule_init) := ⟨rfl, rfl, rfl, by decide +kernel, rfl, by decide +kernel, by decide +kernel⟩
theorem sc_Leaf_names : FnScope ["self"] ["self"] (defScope s_Leaf_names) := ⟨rfl, rfl, rfl, by decide +kernel, rfl, by decide +kernel, by decide +kernel⟩
theorem sc_Rule_names : FnScope ["self", "part", "name"] ["self"] (defScope s_Rule_names) := ⟨rfl, rfl, rfl, by decide +kernel, rfl, by decide +kernel, by decide +kernel⟩
theorem sc_Rule_init : FnScope ["self", "label", "numbers", "parts", "part", "names", "at", "name"] ["self", "label", "numbers", "parts"] (defScope s_Rule_init) := ⟨rfl, rfl, rfl, by decide +kernel, rfl, by decide +kernel, by decide +kernel⟩
theorem sc_Leaf_init : FnScope ["self", "name"] ["self", "name"] (defScope s_Leaf_init) := ⟨rfl, rfl, rfl, by decide +kernel, rfl, by decide +kernel, by decide +kernel⟩
theorem sc_Rank_init : FnScope ["self", "place", "parts"] ["self", "place", "parts"] (defScope s_Rank_init) := ⟨rfl, rfl, rfl, by decide +kernel, rfl, by decide +kernel, by decide +kernel⟩
theorem sc_Rank_of : FnScope ["cls", "place", "parts"] ["cls", "place", "parts"] (defScope s_Rank_of) := ⟨rfl, rfl, rfl, by decide +kernel, rfl, by decide +kernel, by decide +kernel⟩
theorem sc_Trim_init : FnScope ["self", "cut", "parts"] ["self", "cut", "parts"] (defScope s_Trim_init) := ⟨rfl, rfl, rfl, by decide +kernel, rfl, by decide +kernel, by decide +kernel⟩
theorem sc_Trim_of : FnScope ["cls", "cut", "parts"] ["cls", "cut", "parts"] (defScope s_Trim_of) := ⟨rfl, rfl, rfl, by decide +kernel, rfl, by decide +kernel, by decide +kernel⟩
theorem sc_Weigh_init : FnScope ["self", "weights", "parts", "weight"] ["self", "weights", "parts"] (defScope s_Weigh_init) := ⟨rfl, rfl, rfl, by decide +kernel, rfl, by decide +kernel, by decide +kernel⟩
theorem sc_Weigh_of : FnScope ["cls", "weights", "parts"] ["cls", "weights", "parts"] (defScope s_Weigh_of) := ⟨rfl, rfl, rfl, by decide +kernel, rfl, by decide +kernel, by decide +kernel⟩
theorem sc_rule : FnScope ["_law_tree_here", "_law_parts", "_law_part"] ["_law_tree_here"] (defScope s_rule) := ⟨rfl, rfl, rfl, by decide +kernel, rfl, by decide +kernel, by decide +kernel⟩
theorem sc_Rank_counted : FnScope ["self", "answers"] ["self", "answers"] (defScope s_Rank_counted) := ⟨rfl, rfl, rfl, by decide +kernel, rfl, by decide +kernel, by decide +kernel⟩
theorem sc_Trim_counted : FnScope ["self", "answers", "cut"] ["self", "answers"] (defScope s_Trim_counted) := ⟨rfl, rfl, rfl, by decide +kernel, rfl, by decide +kernel, by decide +kernel⟩
theorem sc_Weigh_weight_up_to : FnScope ["self", "most", "answers", "answer", "weight"] ["self", "most", "answers"] (defScope s_Weigh_weight_up_to) := ⟨rfl, rfl, rfl, by decide +kernel, rfl, by decide +kernel, by decide +kernel⟩
theorem sc_Weigh_counted : FnScope ["self", "answers", "total", "answer"] ["self", "answers"] (defScope s_Weigh_counted) := ⟨rfl, rfl, rfl, by decide +kernel, rfl, by decide +kernel, by decide +kernel⟩
theorem sc_Leaf_answer : FnScope ["self", "readings"] ["self", "readings"] (defScope s_Leaf_answer) := ⟨rfl, rfl, rfl, by decide +kernel, rfl, by decide +kernel, by decide +kernel⟩
theorem sc_Rule_answer : FnScope ["self", "readings", "counted", "part"] ["self", "readings"] (defScope s_Rule_answer) := ⟨rfl, rfl, rfl, by decide +kernel, rfl, by decide +kernel, by decide +kernel⟩
theorem sc_joined : FnScope ["_law_tree_here", "_law_worths", "_law_kept", "_law_worth", "_law_k"] ["_law_tree_here", "_law_worths"] (defScope s_joined) := ⟨rfl, rfl, rfl, by decide +kernel, rfl, by decide +kernel, by decide +kernel⟩
theorem sc_answer : FnScope ["_law_tree_here", "_law_readings", "_law_part"] ["_law_tree_here", "_law_readings"] (defScope s_answer) := ⟨rfl, rfl, rfl, by decide +kernel, rfl, by decide +kernel, by decide +kernel⟩
theorem sc_some : FnScope ["_law_box_here", "_law_words_here", "_law_left", "_law_some_here", "_law_turn"] ["_law_box_here", "_law_words_here"] (defScope s_some) := ⟨rfl, rfl, rfl, by decide +kernel, rfl, by decide +kernel, by decide +kernel⟩
theorem sc_leaves : FnScope ["_law_tree_here", "_law_found_here", "_law_part"] ["_law_tree_here"] (defScope s_leaves) := ⟨rfl, rfl, rfl, by decide +kernel, rfl, by decide +kernel, by decide +kernel⟩
theorem sc_NotRanked_init : FnScope ["self"] ["self"] (defScope s_NotRanked_init) := ⟨rfl, rfl, rfl, by decide +kernel, rfl, by decide +kernel, by decide +kernel⟩
theorem sc_m_refuse_trims : FnScope ["rules", "rule"] ["rules"] (defScope s_m_refuse_trims) := ⟨rfl, rfl, rfl, by decide +kernel, rfl, by decide +kernel, by decide +kernel⟩
theorem sc_m_bit_readings : FnScope ["rules", "names", "rule", "name", "rows", "each", "bit", "row"] ["rules"] (defScope s_m_bit_readings) := ⟨rfl, rfl, rfl, by decide +kernel, rfl, by decide +kernel, by decide +kernel⟩
theorem sc_m_first_difference : FnScope ["rules", "rows", "row", "rule"] ["rules", "rows"] (defScope s_m_first_difference) := ⟨rfl, rfl, rfl, by decide +kernel, rfl, by decide +kernel, by decide +kernel⟩
theorem sc_m_differ : FnScope ["rule", "other"] ["rule", "other"] (defScope s_m_differ) := ⟨rfl, rfl, rfl, by decide +kernel, rfl, by decide +kernel, by decide +kernel⟩
theorem sc_m_alike : FnScope ["rule", "other"] ["rule", "other"] (defScope s_m_alike) := ⟨rfl, rfl, rfl, by decide +kernel, rfl, by decide +kernel, by decide +kernel⟩
theorem sc_NoRule_init : FnScope ["self", "reply"] ["self", "reply"] (defScope s_NoRule_init) := ⟨rfl, rfl, rfl, by decide +kernel, rfl, by decide +kernel, by decide +kernel⟩
theorem sc_Finder_init : FnScope ["self", "rules"] ["self", "rules"] (defScope s_Finder_init) := ⟨rfl, rfl, rfl, by decide +kernel, rfl, by decide +kernel, by decide +kernel⟩
theorem sc_Finder_of : FnScope ["cls", "rules"] ["cls", "rules"] (defScope s_Finder_of) := ⟨rfl, rfl, rfl, by decide +kernel, rfl, by decide +kernel, by decide +kernel⟩
theorem sc_Finder_left : FnScope ["self"] ["self"] (defScope s_Finder_left) := ⟨rfl, rfl, rfl, by decide +kernel, rfl, by decide +kernel, by decide +kernel⟩
theorem sc_Finder_tell : FnScope ["self", "readings", "answer", "kept", "at"] ["self", "readings", "answer"] (defScope s_Finder_tell) := ⟨rfl, rfl, rfl, by decide +kernel, rfl, by decide +kernel, by decide +kernel⟩
theorem sc_Finder_question : FnScope ["self", "at"] ["self"] (defScope s_Finder_question) := ⟨rfl, rfl, rfl, by decide +kernel, rfl, by decide +kernel, by decide +kernel⟩
theorem sc_power : FnScope ["_law_many", "_law_found_here", "_law_turn"] ["_law_many"] (defScope s_power) := ⟨rfl, rfl, rfl, by decide +kernel, rfl, by decide +kernel, by decide +kernel⟩
theorem sc_split : FnScope ["_law_trees", "_law_names", "_law_tree_here", "_law_word_here"] ["_law_trees"] (defScope s_split) := ⟨rfl, rfl, rfl, by decide +kernel, rfl, by decide +kernel, by decide +kernel⟩
theorem sc_first : FnScope ["_law_trees", "_law_names", "_law_number", "_law_readings", "_law_rest", "_law_word_here", "_law_one", "_law_tree_here"] ["_law_trees", "_law_names"] (defScope s_first) := ⟨rfl, rfl, rfl, by decide +kernel, rfl, by decide +kernel, by decide +kernel⟩
theorem sc_found : FnScope ["_law_trees", "_law_secret", "_law_finder", "_law_tree_here", "_law_names", "_law_left", "_law_at", "_law_turn", "_law_due", "_law_reply"] ["_law_trees", "_law_secret"] (defScope s_found) := ⟨rfl, rfl, rfl, by decide +kernel, rfl, by decide +kernel, by decide +kernel⟩
theorem sc_law : FnScope ["_law_script", "_law_box_here", "_law_words_here", "_law_tree_here", "_law_other", "_law_rule_here", "_law_beside", "_law_due", "_law_trees", "_law_turn"] ["_law_script"] (defScope s_law) := ⟨rfl, rfl, rfl, by decide +kernel, rfl, by decide +kernel, by decide +kernel⟩
structure Ad where
  c_GaugeError : Addr
  c_DuplicateGauge : Addr
  c_MissingReading : Addr
  c_BadRule : Addr
  c_NotRanked : Addr
  c_NoRule : Addr
  c_Finder : Addr
  c_Rule : Addr
  c_Leaf : Addr
  c_Rank : Addr
  c_Trim : Addr
  c_Weigh : Addr
  f_take : Addr
  f_box : Addr
  f_word : Addr
  f_words : Addr
  f_node : Addr
  f_tree : Addr
  f_DuplicateGauge_init : Addr
  f_MissingReading_init : Addr
  f_BadRule_init : Addr
  f_Leaf_names : Addr
  f_Rule_names : Addr
  f_Rule_init : Addr
  f_Leaf_init : Addr
  f_Rank_init : Addr
  f_Rank_of : Addr
  f_Trim_init : Addr
  f_Trim_of : Addr
  f_Weigh_init : Addr
  f_Weigh_of : Addr
  f_rule : Addr
  f_Rank_counted : Addr
  f_Trim_counted : Addr
  f_Weigh_weight_up_to : Addr
  f_Weigh_counted : Addr
  f_Leaf_answer : Addr
  f_Rule_answer : Addr
  f_joined : Addr
  f_answer : Addr
  f_some : Addr
  f_leaves : Addr
  f_NotRanked_init : Addr
  f_m_refuse_trims : Addr
  f_m_bit_readings : Addr
  f_m_first_difference : Addr
  f_m_differ : Addr
  f_m_alike : Addr
  f_NoRule_init : Addr
  f_Finder_init : Addr
  f_Finder_of : Addr
  f_Finder_left : Addr
  f_Finder_tell : Addr
  f_Finder_question : Addr
  f_power : Addr
  f_split : Addr
  f_first : Addr
  f_found : Addr
  f_law : Addr
def bs (K : PySem.W.Frag) (A : Ad) : Bs := ⟨K, fun
  | .GaugeError => A.c_GaugeError
  | .DuplicateGauge => A.c_DuplicateGauge
  | .MissingReading => A.c_MissingReading
  | .BadRule => A.c_BadRule
  | .NotRanked => A.c_NotRanked
  | .NoRule => A.c_NoRule
  | .Finder => A.c_Finder
  | .Rule => A.c_Rule
  | .Leaf => A.c_Leaf
  | .Rank => A.c_Rank
  | .Trim => A.c_Trim
  | .Weigh => A.c_Weigh
  | _ => 0⟩
structure Txt (K : PySem.W.Frag) (mg : Str → Option Value) (A : Ad) : Prop where
  g_take : DefAt K mg "_law_take" s_take ["_law_box_here", "_law_many"] A.f_take
  g_box : DefAt K mg "_law_box" s_box ["_law_script", "_law_salt"] A.f_box
  g_word : DefAt K mg "_law_word" s_word ["_law_number", "_law_many", "_law_back"] A.f_word
  g_words : DefAt K mg "_law_words" s_words ["_law_box_here", "_law_many"] A.f_words
  g_node : DefAt K mg "_law_node" s_node ["_law_box_here", "_law_parts", "_law_plain"] A.f_node
  g_tree : DefAt K mg "_law_tree" s_tree ["_law_box_here", "_law_words_here", "_law_plain"] A.f_tree
  d_DuplicateGauge_init : DefM K "__init__" "DuplicateGauge.__init__" s_DuplicateGauge_init ["self", "name"] A.f_DuplicateGauge_init
  xi_DuplicateGauge : PySem.W.findIn K (.ref A.c_DuplicateGauge) "__init__" = some (some (.ref A.f_DuplicateGauge_init))
  xt_DuplicateGauge : PySem.W.typeIn K (.ref A.f_DuplicateGauge_init) = some (.type "function")
  d_MissingReading_init : DefM K "__init__" "MissingReading.__init__" s_MissingReading_init ["self", "name"] A.f_MissingReading_init
  xi_MissingReading : PySem.W.findIn K (.ref A.c_MissingReading) "__init__" = some (some (.ref A.f_MissingReading_init))
  xt_MissingReading : PySem.W.typeIn K (.ref A.f_MissingReading_init) = some (.type "function")
  d_BadRule_init : DefM K "__init__" "BadRule.__init__" s_BadRule_init ["self", "kind"] A.f_BadRule_init
  xi_BadRule : PySem.W.findIn K (.ref A.c_BadRule) "__init__" = some (some (.ref A.f_BadRule_init))
  xt_BadRule : PySem.W.typeIn K (.ref A.f_BadRule_init) = some (.type "function")
  d_Leaf_names : DefM K "names" "Leaf.names" s_Leaf_names ["self"] A.f_Leaf_names
  m_Leaf_names : Meth K A.c_Leaf "names" A.f_Leaf_names
  d_Rule_names : DefM K "names" "Rule.names" s_Rule_names ["self"] A.f_Rule_names
  m_Rule_names : Meth K A.c_Rule "names" A.f_Rule_names
  d_Rule_init : DefM K "__init__" "Rule.__init__" s_Rule_init ["self", "label", "numbers", "parts"] A.f_Rule_init
  m_Rule : Mk K A.c_Rule A.f_Rule_init
  d_Leaf_init : DefM K "__init__" "Leaf.__init__" s_Leaf_init ["self", "name"] A.f_Leaf_init
  m_Leaf : Mk K A.c_Leaf A.f_Leaf_init
  d_Rank_init : DefS K "__init__" "Rank.__init__" s_Rank_init ["self", "place"] "parts" A.f_Rank_init
  m_Rank : Mk K A.c_Rank A.f_Rank_init
  r_Rank : ClX.CRead K A.c_Rank (.type "type")
  q_Rank_of : ∃ p, ClX.CMet K A.c_Rank (.type "type") "of" p A.f_Rank_of
  d_Rank_of : DefM K "of" "Rank.of" s_Rank_of ["cls", "place", "parts"] A.f_Rank_of
  d_Trim_init : DefS K "__init__" "Trim.__init__" s_Trim_init ["self", "cut"] "parts" A.f_Trim_init
  m_Trim : Mk K A.c_Trim A.f_Trim_init
  r_Trim : ClX.CRead K A.c_Trim (.type "type")
  q_Trim_of : ∃ p, ClX.CMet K A.c_Trim (.type "type") "of" p A.f_Trim_of
  d_Trim_of : DefM K "of" "Trim.of" s_Trim_of ["cls", "cut", "parts"] A.f_Trim_of
  d_Weigh_init : DefS K "__init__" "Weigh.__init__" s_Weigh_init ["self", "weights"] "parts" A.f_Weigh_init
  m_Weigh : Mk K A.c_Weigh A.f_Weigh_init
  r_Weigh : ClX.CRead K A.c_Weigh (.type "type")
  q_Weigh_of : ∃ p, ClX.CMet K A.c_Weigh (.type "type") "of" p A.f_Weigh_of
  d_Weigh_of : DefM K "of" "Weigh.of" s_Weigh_of ["cls", "weights", "parts"] A.f_Weigh_of
  g_rule : DefAt K mg "_law_rule" s_rule ["_law_tree_here"] A.f_rule
  d_Rank_counted : DefM K "counted" "Rank.counted" s_Rank_counted ["self", "answers"] A.f_Rank_counted
  m_Rank_counted : Meth K A.c_Rank "counted" A.f_Rank_counted
  d_Trim_counted : DefM K "counted" "Trim.counted" s_Trim_counted ["self", "answers"] A.f_Trim_counted
  m_Trim_counted : Meth K A.c_Trim "counted" A.f_Trim_counted
  d_Weigh_weight_up_to : DefM K "_weight_up_to" "Weigh._weight_up_to" s_Weigh_weight_up_to ["self", "most", "answers"] A.f_Weigh_weight_up_to
  m_Weigh_weight_up_to : Meth K A.c_Weigh "_weight_up_to" A.f_Weigh_weight_up_to
  d_Weigh_counted : DefM K "counted" "Weigh.counted" s_Weigh_counted ["self", "answers"] A.f_Weigh_counted
  m_Weigh_counted : Meth K A.c_Weigh "counted" A.f_Weigh_counted
  d_Leaf_answer : DefM K "answer" "Leaf.answer" s_Leaf_answer ["self", "readings"] A.f_Leaf_answer
  m_Leaf_answer : Meth K A.c_Leaf "answer" A.f_Leaf_answer
  d_Rule_answer : DefM K "answer" "Rule.answer" s_Rule_answer ["self", "readings"] A.f_Rule_answer
  m_Rule_answer : Meth K A.c_Rule "answer" A.f_Rule_answer
  g_joined : DefAt K mg "_law_joined" s_joined ["_law_tree_here", "_law_worths"] A.f_joined
  g_answer : DefAt K mg "_law_answer" s_answer ["_law_tree_here", "_law_readings"] A.f_answer
  g_some : DefAt K mg "_law_some" s_some ["_law_box_here", "_law_words_here"] A.f_some
  g_leaves : DefAt K mg "_law_leaves" s_leaves ["_law_tree_here"] A.f_leaves
  d_NotRanked_init : DefM K "__init__" "NotRanked.__init__" s_NotRanked_init ["self"] A.f_NotRanked_init
  xi_NotRanked : PySem.W.findIn K (.ref A.c_NotRanked) "__init__" = some (some (.ref A.f_NotRanked_init))
  xt_NotRanked : PySem.W.typeIn K (.ref A.f_NotRanked_init) = some (.type "function")
  g_m_refuse_trims : DefAt K mg "_refuse_trims" s_m_refuse_trims ["rules"] A.f_m_refuse_trims
  g_m_bit_readings : DefAt K mg "_bit_readings" s_m_bit_readings ["rules"] A.f_m_bit_readings
  g_m_first_difference : DefAt K mg "_first_difference" s_m_first_difference ["rules", "rows"] A.f_m_first_difference
  g_m_differ : DefAt K mg "differ" s_m_differ ["rule", "other"] A.f_m_differ
  g_m_alike : DefAt K mg "alike" s_m_alike ["rule", "other"] A.f_m_alike
  d_NoRule_init : DefM K "__init__" "NoRule.__init__" s_NoRule_init ["self", "reply"] A.f_NoRule_init
  xi_NoRule : PySem.W.findIn K (.ref A.c_NoRule) "__init__" = some (some (.ref A.f_NoRule_init))
  xt_NoRule : PySem.W.typeIn K (.ref A.f_NoRule_init) = some (.type "function")
  d_Finder_init : DefS K "__init__" "Finder.__init__" s_Finder_init ["self"] "rules" A.f_Finder_init
  m_Finder : Mk K A.c_Finder A.f_Finder_init
  r_Finder : ClX.CRead K A.c_Finder (.type "type")
  q_Finder_of : ∃ p, ClX.CMet K A.c_Finder (.type "type") "of" p A.f_Finder_of
  d_Finder_of : DefM K "of" "Finder.of" s_Finder_of ["cls", "rules"] A.f_Finder_of
  d_Finder_left : DefM K "left" "Finder.left" s_Finder_left ["self"] A.f_Finder_left
  m_Finder_left : Meth K A.c_Finder "left" A.f_Finder_left
  d_Finder_tell : DefM K "tell" "Finder.tell" s_Finder_tell ["self", "readings", "answer"] A.f_Finder_tell
  m_Finder_tell : Meth K A.c_Finder "tell" A.f_Finder_tell
  d_Finder_question : DefM K "question" "Finder.question" s_Finder_question ["self"] A.f_Finder_question
  m_Finder_question : Meth K A.c_Finder "question" A.f_Finder_question
  g_power : DefAt K mg "_law_power" s_power ["_law_many"] A.f_power
  g_split : DefAt K mg "_law_split" s_split ["_law_trees"] A.f_split
  g_first : DefAt K mg "_law_first" s_first ["_law_trees", "_law_names"] A.f_first
  g_found : DefAt K mg "_law_found" s_found ["_law_trees", "_law_secret"] A.f_found
  g_law : DefAt K mg "law" s_law ["_law_script"] A.f_law
  c_GaugeError : mg "GaugeError" = some (.ref A.c_GaugeError)
  ge : GeT K mg A.c_GaugeError
  c_DuplicateGauge : mg "DuplicateGauge" = some (.ref A.c_DuplicateGauge)
  xo_DuplicateGauge : OexC K A.c_DuplicateGauge
  xf_DuplicateGauge : XfC K A.c_DuplicateGauge
  n_DuplicateGauge_name : PySem.W.findIn K (.ref A.c_DuplicateGauge) "name" = some none
  c_MissingReading : mg "MissingReading" = some (.ref A.c_MissingReading)
  xo_MissingReading : OexC K A.c_MissingReading
  xf_MissingReading : XfC K A.c_MissingReading
  n_MissingReading_name : PySem.W.findIn K (.ref A.c_MissingReading) "name" = some none
  c_BadRule : mg "BadRule" = some (.ref A.c_BadRule)
  xo_BadRule : OexC K A.c_BadRule
  xf_BadRule : XfC K A.c_BadRule
  n_BadRule_kind : PySem.W.findIn K (.ref A.c_BadRule) "kind" = some none
  c_NotRanked : mg "NotRanked" = some (.ref A.c_NotRanked)
  xo_NotRanked : OexC K A.c_NotRanked
  xf_NotRanked : XfC K A.c_NotRanked
  c_NoRule : mg "NoRule" = some (.ref A.c_NoRule)
  xo_NoRule : OexC K A.c_NoRule
  xf_NoRule : XfC K A.c_NoRule
  n_NoRule_reply : PySem.W.findIn K (.ref A.c_NoRule) "reply" = some none
  c_Finder : mg "Finder" = some (.ref A.c_Finder)
  cl_Finder : Cls K A.c_Finder
  is_Finder : IsT K A.c_Finder
  n_Finder__rules : NoAttr K A.c_Finder "_rules"
  n_Finder__left : NoAttr K A.c_Finder "_left"
  c_Rule : mg "Rule" = some (.ref A.c_Rule)
  c_Leaf : mg "Leaf" = some (.ref A.c_Leaf)
  cl_Leaf : Cls K A.c_Leaf
  is_Leaf : IsT K A.c_Leaf
  n_Leaf_label : NoAttr K A.c_Leaf "label"
  n_Leaf_numbers : NoAttr K A.c_Leaf "numbers"
  n_Leaf_parts : NoAttr K A.c_Leaf "parts"
  n_Leaf_ranked : NoAttr K A.c_Leaf "ranked"
  c_Rank : mg "Rank" = some (.ref A.c_Rank)
  cl_Rank : Cls K A.c_Rank
  is_Rank : IsT K A.c_Rank
  n_Rank_label : NoAttr K A.c_Rank "label"
  n_Rank_numbers : NoAttr K A.c_Rank "numbers"
  n_Rank_parts : NoAttr K A.c_Rank "parts"
  n_Rank_ranked : NoAttr K A.c_Rank "ranked"
  c_Trim : mg "Trim" = some (.ref A.c_Trim)
  cl_Trim : Cls K A.c_Trim
  is_Trim : IsT K A.c_Trim
  n_Trim_label : NoAttr K A.c_Trim "label"
  n_Trim_numbers : NoAttr K A.c_Trim "numbers"
  n_Trim_parts : NoAttr K A.c_Trim "parts"
  n_Trim_ranked : NoAttr K A.c_Trim "ranked"
  c_Weigh : mg "Weigh" = some (.ref A.c_Weigh)
  cl_Weigh : Cls K A.c_Weigh
  is_Weigh : IsT K A.c_Weigh
  n_Weigh_label : NoAttr K A.c_Weigh "label"
  n_Weigh_numbers : NoAttr K A.c_Weigh "numbers"
  n_Weigh_parts : NoAttr K A.c_Weigh "parts"
  n_Weigh_ranked : NoAttr K A.c_Weigh "ranked"
  cli_Rule : CliT K A.c_Rule A.f_Rule_init
  mi_Weigh__weight_up_to : Meth K A.c_Weigh "_weight_up_to" A.f_Weigh_weight_up_to
  mi_Leaf_answer : Meth K A.c_Leaf "answer" A.f_Leaf_answer
  mi_Rank_answer : Meth K A.c_Rank "answer" A.f_Rule_answer
  mi_Trim_answer : Meth K A.c_Trim "answer" A.f_Rule_answer
  mi_Weigh_answer : Meth K A.c_Weigh "answer" A.f_Rule_answer
  mi_Rank_counted : Meth K A.c_Rank "counted" A.f_Rank_counted
  mi_Trim_counted : Meth K A.c_Trim "counted" A.f_Trim_counted
  mi_Weigh_counted : Meth K A.c_Weigh "counted" A.f_Weigh_counted
  mi_Leaf_names : Meth K A.c_Leaf "names" A.f_Leaf_names
  mi_Rank_names : Meth K A.c_Rank "names" A.f_Rule_names
  mi_Trim_names : Meth K A.c_Trim "names" A.f_Rule_names
  mi_Weigh_names : Meth K A.c_Weigh "names" A.f_Rule_names
  z_all : mg "all" = none
  z_any : mg "any" = none
  z_enumerate : mg "enumerate" = none
  z_int : mg "int" = none
  z_len : mg "len" = none
  z_list : mg "list" = none
  z_min : mg "min" = none
  z_range : mg "range" = none
  z_sorted : mg "sorted" = none
  z_sum : mg "sum" = none
  z_tuple : mg "tuple" = none
  z_zip : mg "zip" = none
theorem rcT_leaf {K : PySem.W.Frag} {mg : Str → Option Value} {A : Ad} (tx : Txt K mg A) : RcT (bs K A) .leaf := ⟨tx.cl_Leaf, tx.n_Leaf_label, tx.n_Leaf_numbers, tx.n_Leaf_parts, tx.n_Leaf_ranked⟩
theorem rcT_rank {K : PySem.W.Frag} {mg : Str → Option Value} {A : Ad} (tx : Txt K mg A) : RcT (bs K A) .rank := ⟨tx.cl_Rank, tx.n_Rank_label, tx.n_Rank_numbers, tx.n_Rank_parts, tx.n_Rank_ranked⟩
theorem rcT_trim {K : PySem.W.Frag} {mg : Str → Option Value} {A : Ad} (tx : Txt K mg A) : RcT (bs K A) .trim := ⟨tx.cl_Trim, tx.n_Trim_label, tx.n_Trim_numbers, tx.n_Trim_parts, tx.n_Trim_ranked⟩
theorem rcT_weigh {K : PySem.W.Frag} {mg : Str → Option Value} {A : Ad} (tx : Txt K mg A) : RcT (bs K A) .weigh := ⟨tx.cl_Weigh, tx.n_Weigh_label, tx.n_Weigh_numbers, tx.n_Weigh_parts, tx.n_Weigh_ranked⟩
local macro_rules | `(tactic| walk_at "good") => `(tactic| first | exact trivial | exact ⟨trivial, trivial⟩ | exact fun _ _ => trivial | exact fun _ _ => ⟨trivial, trivial⟩ | exact ⟨trivial, trivial, trivial⟩ | exact ⟨⟨trivial, trivial⟩, ⟨trivial, trivial⟩, trivial, trivial⟩ | exact ⟨strOk_of _, trivial⟩ | exact ⟨strOk_of _, trivial, trivial⟩ | assumption | (show PyData.strOk _ = true; walk_at "strok"))
local macro_rules | `(tactic| walk_at "len") => `(tactic| ((try dsimp only); (try simp only [Str.length_append, emp_len]); (try rw [show (Str.ofString "Stretch(").length = 8 by decide]); (try rw [show (Str.ofString ", ").length = 2 by decide]); (try rw [show (Str.ofString ")").length = 1 by decide]); (try rw [show (Str.ofString "..").length = 2 by decide]); (try rw [show (Str.ofString "none").length = 4 by decide]); (try rw [show (Str.ofString "Levels(").length = 7 by decide]); omega))
local macro_rules | `(tactic| walk_at "strok") => `(tactic| repeat (first | exact strOk_of _ | exact strOk_emp | assumption | apply strOk_app))
local macro_rules | `(tactic| walk_at "frz") => `(tactic| repeat (first | exact .nil | apply Frz.own (by simp) | apply Frz.same))
local macro_rules | `(tactic| walk_at "hx") => `(tactic| first | exact hx_of (by assumption) | assumption | exact hx0)
local macro_rules | `(tactic| walk_at "g0") => `(tactic| first
  | ((with_reducible apply gd_s); first
    | ((with_reducible apply sx_set))
    | ((with_reducible apply sx_ret))
    | ((with_reducible apply sx_if))
    | ((with_reducible apply sx_next))
    | ((with_reducible apply sx_retN)))
  | ((with_reducible apply gd_var); first
    | ((with_reducible apply ev_var); (case h => exact rfl)))
  | ((with_reducible apply gd_c); first
    | ((with_reducible apply ev_int))
    | ((with_reducible apply ev_bl))
    | ((with_reducible apply ev_str))
    | ((with_reducible apply ev_non)))
  | ((with_reducible apply gd_op); first
    | ((with_reducible apply ev_opI))
    | ((with_reducible apply ev_opB))
    | ((with_reducible apply ev_eqG); (case hK => assumption))
    | ((with_reducible apply ev_neG); (case hK => assumption))
    | ((with_reducible apply ev_ixSp0); (case hK => assumption); (with_reducible apply ev_var); (case h => exact rfl))
    | ((with_reducible apply ev_ixSp1); (case hK => assumption); (with_reducible apply ev_var); (case h => exact rfl))
    | ((with_reducible apply ev_ixSp2); (case hK => assumption); (with_reducible apply ev_var); (case h => exact rfl))
    | ((with_reducible apply ev_ixSp3); (case hK => assumption); (with_reducible apply ev_var); (case h => exact rfl))
    | ((with_reducible apply ev_ixSp4); (case hK => assumption); (with_reducible apply ev_var); (case h => exact rfl))
    | ((with_reducible apply ev_ixSp5); (case hK => assumption); (with_reducible apply ev_var); (case h => exact rfl))
    | ((with_reducible apply ev_ixT3a); (case hK => assumption); (with_reducible apply ev_var); (case h => exact rfl))
    | ((with_reducible apply ev_ixT3b); (case hK => assumption); (with_reducible apply ev_var); (case h => exact rfl))
    | ((with_reducible apply ev_ixT3c); (case hK => assumption); (with_reducible apply ev_var); (case h => exact rfl))
    | ((with_reducible apply ev_ixT0); (case hK => assumption))
    | ((with_reducible apply ev_ixT1); (case hK => assumption))
    | ((with_reducible apply ev_ixL); (case hK => assumption))
    | ((with_reducible apply ev_pow); (case hc => exact ⟨by decide, by decide, by decide⟩))
    | ((with_reducible apply ev_ltP); (case hK => assumption))
    | ((with_reducible apply ev_ixO); (case hB => assumption))
    | ((with_reducible apply ev_opC))
    | ((with_reducible apply ev_cat))
    | ((with_reducible apply ev_addS))
    | ((with_reducible apply ev_inOwn); (case hB => assumption))
    | ((with_reducible apply ev_inI); (case hK => assumption))
    | ((with_reducible apply ev_inS); (case hK => assumption))
    | ((with_reducible apply ev_ixS))
    | ((with_reducible apply ev_notInI); (case hK => assumption))
    | ((with_reducible apply ev_eqO); (case hB => assumption); (case hK => exact rfl))
    | ((with_reducible apply ev_neO); (case hB => assumption); (case hK => exact rfl)))
  | ((with_reducible apply gd_un); first
    | ((with_reducible apply ev_unI)))
  | ((with_reducible apply gd_cb); first
    | ((with_reducible apply ev_len); (case hK => assumption))
    | ((with_reducible apply ev_intB); (with_reducible apply gd_op); first | (with_reducible apply ev_opB) | ((with_reducible apply ev_eqG); (case hK => assumption)))
    | ((with_reducible apply ev_intB); (with_reducible apply gd_k); (with_reducible apply ev_orV))
    | ((with_reducible apply ev_intI))
    | ((with_reducible apply ev_max2))
    | ((with_reducible apply ev_min2))
    | ((with_reducible apply ev_abs))
    | ((with_reducible apply ev_any); (case hK => assumption))
    | ((with_reducible apply ev_all); (case hK => assumption))
    | ((with_reducible apply ev_sum); (case hK => assumption))
    | ((with_reducible apply ev_minP); (case hK => assumption))
    | ((with_reducible apply ev_boolO); (case hB => assumption))
    | ((with_reducible apply ev_sortedP); (case hK => assumption))
    | ((with_reducible apply ev_sortedI); (case hK => assumption))
    | ((with_reducible apply ev_strO); (case hB => assumption))
    | ((with_reducible apply ev_lenO); (case hB => assumption))
    | ((with_reducible apply ev_strI))
    | ((with_reducible apply ev_isiGv); (case hK => assumption); (with_reducible apply ev_var); (case h => exact rfl))
    | ((with_reducible apply ev_isiO); (case hK => assumption))
    | ((with_reducible apply ev_isF); (case hB => assumption); (case hK => exact rfl)))
  | ((with_reducible apply gd_fld); first
    | ((with_reducible apply ev_low); (case hK => assumption); (case hS => exact stc_of (by assumption) (stcT (by assumption))))
    | ((with_reducible apply ev_high); (case hK => assumption); (case hS => exact stc_of (by assumption) (stcT (by assumption))))
    | ((with_reducible apply ev_gname); (case hK => assumption); (case hG => exact gau_of (by assumption) (gauT (by assumption))))
    | ((with_reducible apply ev_radius); (case hK => assumption); (case hG => exact gau_of (by assumption) (gauT (by assumption))))
    | ((with_reducible apply ev_step); (case hK => assumption); (case hG => exact gau_of (by assumption) (gauT (by assumption))))
    | ((with_reducible apply ev_late); (case hK => assumption); (case hG => exact gau_of (by assumption) (gauT (by assumption))))
    | ((with_reducible apply ev_pace); (case hK => assumption); (case hG => exact gau_of (by assumption) (gauT (by assumption))))
    | ((with_reducible apply ev_pieces); (case hK => assumption); (case hL => exact lvs_of (by assumption) (lvsT (by assumption)))))
  | ((with_reducible apply gd_call); first
    | ((with_reducible apply ev_callR); (case hB => assumption)))
  | ((with_reducible apply gd_tup); first
    | ((with_reducible apply ev_tup2))
    | ((with_reducible apply ev_tup3)))
  | ((with_reducible apply gd_lst); first
    | ((with_reducible apply ev_lst4))
    | ((with_reducible apply ev_lst)))
  | ((with_reducible apply gd_k); first
    | ((with_reducible apply ev_if))
    | ((with_reducible apply ev_andV))
    | ((with_reducible apply ev_orV))
    | ((with_reducible apply ev_notV))
    | ((with_reducible apply ev_chainP))
    | ((with_reducible apply ev_stretch); (case hB => assumption); (case hC => exact rfl))
    | ((with_reducible apply ev_stretchZ); (case hB => assumption); (case hC => exact rfl); (case hx => walk_at "hx"))
    | ((with_reducible apply ev_callZ); (case hB => assumption); (case hx => walk_at "hx"))
    | ((with_reducible apply ev_methZ); (case hB => assumption); (case hx => walk_at "hx"))
    | ((with_reducible apply ev_binI); (case hB => assumption); (case hx => walk_at "hx"))
    | ((with_reducible apply ev_binO); (case hB => assumption); (case hx => walk_at "hx"))
    | ((with_reducible apply ev_negO); (case hB => assumption); (case hx => walk_at "hx"))
    | ((with_reducible apply ev_xfI); (case hC => exact xcl_of (by assumption) rfl))
    | ((with_reducible apply ev_xfP); (case hC => exact xcl_of (by assumption) rfl))
    | ((with_reducible apply ev_makeV); (case hB => assumption); (case hi => exact rfl); (case hC => exact rfl))
    | ((with_reducible apply ev_levels); (case hB => assumption); (case hC => exact rfl))
    | ((with_reducible apply (ev_cmethZ .Stretch)); (case hB => assumption); (case hC => exact rfl); (case hx => walk_at "hx"))
    | ((with_reducible apply (ev_cmethZ .Levels)); (case hB => assumption); (case hC => exact rfl); (case hx => walk_at "hx"))
    | ((with_reducible apply ev_propZ); (case hB => assumption))
    | ((with_reducible apply ev_propX); (case hB => assumption); (case hx => walk_at "hx"))
    | ((with_reducible apply ev_joined))
    | ((with_reducible apply ev_fmtI)))
  | ((with_reducible apply gd_t); first
    | ((with_reducible apply et_test))
    | ((with_reducible apply et_B))
    | ((with_reducible apply et_not))
    | ((with_reducible apply et_and))
    | ((with_reducible apply et_or))
    | ((with_reducible apply et_yes))
    | ((with_reducible apply et_truthL); (case hK => assumption)))
  | ((with_reducible apply gd_a); first
    | ((with_reducible apply ea_nil))
    | ((with_reducible apply ea_cons)))
  | ((with_reducible apply gd_l); first
    | ((with_reducible apply el_nil))
    | ((with_reducible apply el_cons))
    | ((with_reducible apply el_starL); (case hK => assumption))
    | ((with_reducible apply el_starT); (case hK => assumption)))
  | ((with_reducible apply gd_j); first
    | ((with_reducible apply ej_nil))
    | ((with_reducible apply ej_cons)))
  | ((with_reducible apply tg_name))
  | ((with_reducible apply tj_name))
  | ((with_reducible apply tj_tup2); (case hK => assumption))
  | ((with_reducible apply tj_tup3); (case hK => assumption))
  | ((with_reducible apply eqg_in); (case h1 => decide); (case h2 => walk_at "good"); (case h3 => walk_at "good"))
  | ((with_reducible apply neg_in); (case h1 => decide); (case h2 => walk_at "good"); (case h3 => walk_at "good"))
  | ((with_reducible apply ownM_in); (case hC => exact rfl); (case hm => decide))
  | ((with_reducible apply own_in); (case hC => exact rfl))
  | ((with_reducible apply tyG_in); (case hn => exact nf_self))
  | ((with_reducible apply plnG_in))
  | ((with_reducible apply isO_self); (case hT => exact isT_of (by assumption) (by first | exact (by assumption : Txt _ _ _).is_Stretch | exact (by assumption : Txt _ _ _).is_Levels)); (case hC => exact cl_of (by assumption) rfl))
  | ((with_reducible apply chg_in); (case h1 => walk_at "g"; exact rfl))
  | (refine And.intro (by show _ ≤ 100000; first | exact Nat.le_of_ble_eq_true rfl | omega | (dsimp only; omega)) ?_)
  | (refine And.intro (show CMul _ _ from Or.inl ⟨by omega, by omega⟩) ?_)
  | (refine And.intro (show CMul _ _ from Or.inr ⟨by omega, by omega⟩) ?_)
  | (refine And.intro (show CDiv _ _ from ⟨by omega, by omega⟩) ?_)
  | (refine And.intro (show (0 : Int) < _ by omega) ?_)
  | (refine And.intro (by assumption : Small _) ?_)
  | (refine And.intro (show Small _ from Small.of (by omega) (by omega)) ?_)
  | (refine And.intro (by show _ ≤ 1000000; walk_at "len") ?_)
  | fail)
local macro_rules | `(tactic| walk_at "g1") => `(tactic| first | ((with_reducible apply gd_set); (conv => arg 3; dsimp only [List.set])) | (with_reducible apply sx_seq) | walk_at "g0")
local macro_rules | `(tactic| walk_at "s1") => `(tactic| first | ((with_reducible apply gd_set); (conv => arg 3; dsimp only [List.set])) | (with_reducible apply sx_seqA) | (with_reducible apply sx_seqD) | walk_at "g0")
local macro_rules | `(tactic| walk_at "s") => `(tactic| repeat walk_at "s1")
local macro_rules | `(tactic| walk_at "g") => `(tactic| repeat walk_at "g1")
section
variable {P : Program} {w : World} {K : PySem.W.Frag} {mg : Str → Option Value} {base : Heap} {A : Ad}
def P_take : PT := fun rt xx ts => ∃ (m : Int), ts = [T Bx.mk, T m] ∧ (0 < m ∧ m < 1073741824 ∧ ∀ k : Int, 0 ≤ k → k < m → rt (T k))
theorem pc_take {rt : Ty → Prop} {xx : Xn → Prop} {m : Int} (h : 0 < m ∧ m < 1073741824 ∧ ∀ k : Int, 0 ≤ k → k < m → rt (T k)) : P_take rt xx [T Bx.mk, T m] := ⟨_, rfl, h⟩
theorem ok_take (tx : Txt K mg A) : FnR P w K mg base CX0 1 A.f_take (spG (bs K A) P_take) := by
  refine fnR_of tx.g_take.d sc_take (fun vs H Q E h => ?_) (fun cdv Ar outer s H vs Q E hr h => ?_)
  · exact len_ok (n := 2) (fun rt xx ts hp => by obtain ⟨_, rfl, _⟩ := hp; rfl) vs H Q E h
  · refine ⟨_, (pss_cons (ps_set (i := 2) sc_take.nd rfl (Or.inl rfl) (pe_ix (ix_listK K) (pv 0) pe_int (fun _ _ => rfl)))
        (pss_cons (ps_if (PW.pt (pw_and (pt_cmpR (op_eqDK K (huD hr)) (pe_ix (ix_listK K) (pv 0) pe_int (fun _ _ => rfl)) pe_int (nomark _)) (pw_and (pt_cmpR op_lt (pe_ix (ix_listK K) (pv 0) pe_int (fun _ _ => rfl)) (pe_callB (call_lenK K) (by rfl) tx.z_len PySem.boot_len (pa_cons (pv 2) pa_nil)) (nomark _)) (pw_and1 (pt_cmpR op_gt (pe_ix (ix_listK K) (pv 2) (pe_ix (ix_listK K) (pv 0) pe_int (fun _ _ => rfl)) (fun _ _ => rfl)) (pe_op op_pow pe_int pe_int) (nomark _)))))) (pss_cons (ps_asg (pe_op op_sub (pe_ix (ix_listK K) (pv 2) (pe_ix (ix_listK K) (pv 0) pe_int (fun _ _ => rfl)) (fun _ _ => rfl)) (pe_op op_pow pe_int pe_int)) (pg_sub (pv 0) pe_int set_list))
        (pss_one (ps_asg (pe_op op_add (pe_ix (ix_listK K) (pv 0) pe_int (fun _ _ => rfl)) pe_int) (pg_sub (pv 0) pe_int set_list)))) pss_nil)
        (pss_cons (ps_if (pt_cmpR op_gt (pe_ix (ix_listK K) (pv 0) pe_int (fun _ _ => rfl)) pe_int (nomark _)) (pss_cons (ps_set (i := 3) sc_take.nd rfl (Or.inl rfl) (pe_op op_mod (pe_callTy call_int1 (by rfl) tx.z_int (by decide +kernel) (pa_cons (pe_ix (ix_listK K) (pv 0) pe_int (fun _ _ => rfl)) pa_nil)) (pv 1)))
        (pss_cons (ps_asg (pe_op op_fdiv (pe_callTy call_int1 (by rfl) tx.z_int (by decide +kernel) (pa_cons (pe_ix (ix_listK K) (pv 0) pe_int (fun _ _ => rfl)) pa_nil)) (pv 1)) (pg_sub (pv 0) pe_int set_list))
        (pss_one (ps_ret (pv 3))))) pss_nil)
        (pss_cons (ps_set (i := 4) sc_take.nd rfl (Or.inl rfl) pe_int)
        (pss_cons (ps_if (pt_cmpR op_lt (pe_ix (ix_listK K) (pv 0) pe_int (fun _ _ => rfl)) (pe_callB (call_lenK K) (by rfl) tx.z_len PySem.boot_len (pa_cons (pv 2) pa_nil)) (nomark _)) (pss_one (ps_set (i := 4) sc_take.nd rfl (Or.inl rfl) (pe_callTy call_int1 (by rfl) tx.z_int (by decide +kernel) (pa_cons (pe_ix (ix_listK K) (pv 2) (pe_ix (ix_listK K) (pv 0) pe_int (fun _ _ => rfl)) (fun _ _ => rfl)) pa_nil)))) pss_nil)
        (pss_cons (ps_asg (pe_op op_add (pe_ix (ix_listK K) (pv 0) pe_int (fun _ _ => rfl)) pe_int) (pg_sub (pv 0) pe_int set_list))
        (pss_cons (ps_asg (pe_op op_mod (pe_callTy call_int1 (by rfl) tx.z_int (by decide +kernel) (pa_cons (pe_op op_add (pe_op op_add (pe_op op_mul (pe_ix (ix_listK K) (pv 0) pe_int (fun _ _ => rfl)) pe_int) (pe_op op_mul (pv 4) pe_int)) (pe_ix (ix_listK K) (pv 0) pe_int (fun _ _ => rfl))) pa_nil)) pe_int) (pg_sub (pv 0) pe_int set_list))
        (pss_one (ps_ret (pe_op op_mod (pe_op op_mod (pe_callTy call_int1 (by rfl) tx.z_int (by decide +kernel) (pa_cons (pe_op op_add (pe_op op_mul (pe_op op_fdiv (pe_ix (ix_listK K) (pv 0) pe_int (fun _ _ => rfl)) pe_int) pe_int) (pe_op op_mod (pe_callTy call_int1 (by rfl) tx.z_int (by decide +kernel) (pa_cons (pe_ix (ix_listK K) (pv 0) pe_int (fun _ _ => rfl)) pa_nil)) pe_int)) pa_nil)) pe_int) (pv 1))))))))))), ?_⟩
    try dsimp only [cxOf, Cx.nox]
    obtain ⟨W, ts, rt, xx, hB, ho, d, ⟨m, rfl, hm0, hm1, hk⟩, hq, hx⟩ := h
    cases d with
    | cons db d2 =>
    cases d2 with
    | cons dm d3 =>
    cases d3
    obtain ⟨b, rfl, hbx⟩ : ∃ b, _ = V.ref b ∧ W.box b := db
    obtain rfl : _ = V.int m := dm
    obtain ⟨c, ns, i, p, s, hbc, hb0, hc0, hi, hp⟩ := W.hasbox H b ho hbx
    have mb := W.boxmu b hbx
    -- the end: any state of the box will do
    have fin : ∀ (i' p' s' k : Int), 0 ≤ i' → 0 ≤ p' → 0 ≤ k → k < m → Q (.int k) (upd H b (.lst [.ref c, .int i', .int p', .int s'])) := by
      intro i' p' s' k h1 h2 h3 h4
      refine hq (.int k) _ (T k) ⟨fun a o n e => ?_, W.boxset H b c i p s i' p' s' ho hbx hb0 h1 h2⟩ rfl (hk k h3 h4)
      rw [upd_ne (fun z => n (by rw [z]; exact mb))]; exact e
    have hlen : ((ns.map V.int).length : Int) = ns.length := by rw [List.length_map]
    have cell : ∀ j : Int, 0 ≤ j → j < ns.length → ∃ z, atI (ns.map V.int) j = some (V.int z) := by
      intro j h1 h2
      obtain ⟨n, rfl⟩ : ∃ n : Nat, j = (n : Int) := ⟨j.toNat, by omega⟩
      have hn : n < ns.length := by omega
      exact ⟨ns[n], atI_nat (by rw [List.getElem?_map, List.getElem?_eq_getElem hn]; rfl)⟩
    have p18 : ((10 : Int) ^ (18 : Int).toNat) = 1000000000000000000 := by decide
    have c18 : CPow 10 18 := ⟨by decide, by decide, by decide⟩
    have modk : ∀ y : Int, 0 ≤ y % m ∧ y % m < m := fun y => ⟨Int.emod_nonneg _ (by omega), Int.emod_lt_of_pos _ hm0⟩
    refine ⟨_, rfl, b, _, 0, .ref c, rfl, rfl, .inl (.inl hb0), rfl, ?_⟩
    -- if box[2] == 0 and ..
    refine ⟨_, rfl, b, _, 2, .int p, rfl, rfl, .inl (.inl hb0), rfl, .int p, .int 0, .int p, .int 0, rfl, rfl, _, rfl, ?_⟩
    by_cases h0 : p = 0
    · refine itT (by rw [h0]; rfl) ?_
      refine ⟨_, rfl, b, _, 1, .int i, rfl, rfl, .inl (.inl hb0), rfl, _, rfl, c, _, rfl, .inl (.inl (.inl hc0)), i, _, rfl, rfl, _, rfl, ?_⟩
      -- the third test is False, or the place lies beyond: on with the cell
      have rest : ∀ cl : Int, tSeq
          (tAsg (tOp (rI0 fun i j => V.int (i + j)) (tOp (rIxL K) (tVar 0) (tC (V.int 1))) (tC (V.int 1))) (gSub (tVar 0) (tC (V.int 1)) rSetL))
          (tSeq
            (tAsg (tOp (rI (fun x j => 0 < j) fun i j => V.int (i % j)) (tCB (fun xs H Q => (∃ i, xs = [V.int i] ∧ Q (V.int i) H) ∨ ∃ k, xs = [V.bl k] ∧ Q (V.int (if k = true then 1 else 0)) H)
              (tCons (tOp (rI0 fun i j => V.int (i + j)) (tOp (rI0 fun i j => V.int (i + j)) (tOp (rI CMul fun i j => V.int (i * j)) (tOp (rIxL K) (tVar 0) (tC (V.int 3))) (tC (V.int 48271))) (tOp (rI CMul fun i j => V.int (i * j)) (tVar 4) (tC (V.int 7))))
                (tOp (rIxL K) (tVar 0) (tC (V.int 1)))) tNil)) (tC (V.int 2147483647))) (gSub (tVar 0) (tC (V.int 3)) rSetL))
            (tRet (tOp (rI (fun x j => 0 < j) fun i j => V.int (i % j)) (tOp (rI (fun x j => 0 < j) fun i j => V.int (i % j)) (tCB (fun xs H Q => (∃ i, xs = [V.int i] ∧ Q (V.int i) H) ∨ ∃ k, xs = [V.bl k] ∧ Q (V.int (if k = true then 1 else 0)) H)
              (tCons (tOp (rI0 fun i j => V.int (i + j)) (tOp (rI CMul fun i j => V.int (i * j)) (tOp (rI CDiv fun i j => V.int (i / j)) (tOp (rIxL K) (tVar 0) (tC (V.int 3))) (tC (V.int 8))) (tC (V.int 31)))
                (tOp (rI (fun x j => 0 < j) fun i j => V.int (i % j)) (tCB (fun xs H Q => (∃ i, xs = [V.int i] ∧ Q (V.int i) H) ∨ ∃ k, xs = [V.bl k] ∧ Q (V.int (if k = true then 1 else 0)) H) (tCons (tOp (rIxL K) (tVar 0) (tC (V.int 3))) tNil)) (tC (V.int 65537)))) tNil))
              (tC (V.int 1000003))) (tVar 1))))
          { nx := fun _ H' => Q .non H', rt := Q } [some (.ref b), some (.int m), some (.ref c), none, some (.int cl)] H := by
        intro cl
        refine ⟨_, rfl, b, _, 1, .int i, rfl, rfl, .inl (.inl hb0), rfl, i, 1, rfl, rfl, _, rfl, b, _, 1, 1, rfl, rfl, hb0, rfl, ?_⟩
        refine ⟨_, rfl, b, _, 3, .int s, rfl, rfl, .inl (.inl upd_same), rfl, s, 48271, rfl, rfl, .inr ⟨by decide, by decide⟩, ?_⟩
        refine ⟨_, rfl, cl, 7, rfl, rfl, .inr ⟨by decide, by decide⟩, _, _, rfl, rfl, ?_⟩
        refine ⟨_, rfl, b, _, 1, .int (i + 1), rfl, rfl, .inl (.inl upd_same), rfl, _, _, rfl, rfl, .inl ⟨_, rfl, _, 2147483647, rfl, rfl, by show (0 : Int) < 2147483647; decide, ?_⟩⟩
        refine ⟨_, rfl, b, _, 3, 3, rfl, rfl, upd_same, rfl, ?_⟩
        rw [upd_upd]
        refine ⟨_, rfl, b, _, 3, .int _, rfl, rfl, .inl (.inl upd_same), rfl, _, 8, rfl, rfl, ⟨by decide, by decide⟩, _, 31, rfl, rfl, .inr ⟨by decide, by decide⟩, ?_⟩
        refine ⟨_, rfl, b, _, 3, .int _, rfl, rfl, .inl (.inl upd_same), rfl, .inl ⟨_, rfl, _, 65537, rfl, rfl, by show (0 : Int) < 65537; decide, _, _, rfl, rfl, .inl ⟨_, rfl, _, 1000003, rfl, rfl, by show (0 : Int) < 1000003; decide, ?_⟩⟩⟩
        exact ⟨_, rfl, _, m, rfl, rfl, hm0, fin (i + 1) p _ _ (by omega) (by omega) (modk _).1 (modk _).2⟩
      -- behind the two ifs: no pending number
      have cont : ∀ σ2 : L2.St, σ2 = [some (.ref b), some (.int m), some (.ref c), none, none] → ∀ t1 : TS, ∀ t2, t2 = tSeq
          (tIfS (tTest (tOp (rI0 fun i j => V.bl (decide (j < i))) (tOp (rIxL K) (tVar 0) (tC (V.int 2))) (tC (V.int 0)))) t1 tNext)
          (tSeq (tAsg (tC (V.int 0)) (gName 4))
            (tSeq
              (tIfS (tTest (tOp (rI0 fun i j => V.bl (decide (i < j))) (tOp (rIxL K) (tVar 0) (tC (V.int 1))) (tCB (fun xs H Q => ∃ p ys, xs = [V.ref p] ∧ (SqL K H p ys ∨ SqT K H p ys) ∧ Q (V.int ↑ys.length) H) (tCons (tVar 2) tNil))))
                (tAsg (tCB (fun xs H Q => (∃ i, xs = [V.int i] ∧ Q (V.int i) H) ∨ ∃ k, xs = [V.bl k] ∧ Q (V.int (if k = true then 1 else 0)) H) (tCons (tOp (rIxL K) (tVar 2) (tOp (rIxL K) (tVar 0) (tC (V.int 1)))) tNil)) (gName 4)) tNext)
              (tSeq
          (tAsg (tOp (rI0 fun i j => V.int (i + j)) (tOp (rIxL K) (tVar 0) (tC (V.int 1))) (tC (V.int 1))) (gSub (tVar 0) (tC (V.int 1)) rSetL))
          (tSeq
            (tAsg (tOp (rI (fun x j => 0 < j) fun i j => V.int (i % j)) (tCB (fun xs H Q => (∃ i, xs = [V.int i] ∧ Q (V.int i) H) ∨ ∃ k, xs = [V.bl k] ∧ Q (V.int (if k = true then 1 else 0)) H)
              (tCons (tOp (rI0 fun i j => V.int (i + j)) (tOp (rI0 fun i j => V.int (i + j)) (tOp (rI CMul fun i j => V.int (i * j)) (tOp (rIxL K) (tVar 0) (tC (V.int 3))) (tC (V.int 48271))) (tOp (rI CMul fun i j => V.int (i * j)) (tVar 4) (tC (V.int 7))))
                (tOp (rIxL K) (tVar 0) (tC (V.int 1)))) tNil)) (tC (V.int 2147483647))) (gSub (tVar 0) (tC (V.int 3)) rSetL))
            (tRet (tOp (rI (fun x j => 0 < j) fun i j => V.int (i % j)) (tOp (rI (fun x j => 0 < j) fun i j => V.int (i % j)) (tCB (fun xs H Q => (∃ i, xs = [V.int i] ∧ Q (V.int i) H) ∨ ∃ k, xs = [V.bl k] ∧ Q (V.int (if k = true then 1 else 0)) H)
              (tCons (tOp (rI0 fun i j => V.int (i + j)) (tOp (rI CMul fun i j => V.int (i * j)) (tOp (rI CDiv fun i j => V.int (i / j)) (tOp (rIxL K) (tVar 0) (tC (V.int 3))) (tC (V.int 8))) (tC (V.int 31)))
                (tOp (rI (fun x j => 0 < j) fun i j => V.int (i % j)) (tCB (fun xs H Q => (∃ i, xs = [V.int i] ∧ Q (V.int i) H) ∨ ∃ k, xs = [V.bl k] ∧ Q (V.int (if k = true then 1 else 0)) H) (tCons (tOp (rIxL K) (tVar 0) (tC (V.int 3))) tNil)) (tC (V.int 65537)))) tNil))
              (tC (V.int 1000003))) (tVar 1))))))) → t2 { nx := fun _ H' => Q .non H', rt := Q } σ2 H := by
        intro σ2 e t1 t2 e2
        subst e
        subst e2
        refine ⟨_, rfl, b, _, 2, .int p, rfl, rfl, .inl (.inl hb0), rfl, p, 0, rfl, rfl, _, rfl, ?_⟩
        refine itF (decide_eq_false (by omega)) ?_
        refine ⟨_, rfl, b, _, 1, .int i, rfl, rfl, .inl (.inl hb0), rfl, _, rfl, c, _, rfl, .inl (.inl (.inl hc0)), i, _, rfl, rfl, _, rfl, ?_⟩
        by_cases h1 : i < ns.length
        · obtain ⟨z, hz⟩ := cell i hi h1
          refine itT (decide_eq_true (by omega)) ?_
          refine ⟨_, rfl, _, rfl, b, _, 1, .int i, rfl, rfl, .inl (.inl hb0), rfl, c, _, i, .int z, rfl, rfl, .inl (.inl hc0), hz, .inl ⟨z, rfl, ?_⟩⟩
          exact rest z
        · refine itF (decide_eq_false (by omega)) ?_
          exact rest 0
      by_cases h1 : i < ns.length
      · refine itT (decide_eq_true (by omega)) ?_
        obtain ⟨z, hz⟩ := cell i hi h1
        refine ⟨_, rfl, _, rfl, b, _, 1, .int i, rfl, rfl, .inl (.inl hb0), rfl, c, _, i, .int z, rfl, rfl, .inl (.inl hc0), hz, 10, 18, rfl, rfl, c18, z, _, rfl, rfl, _, rfl, ?_⟩
        by_cases h2 : (1000000000000000000 : Int) < z
        · -- the cell is a pending number
          refine itT (decide_eq_true (by rw [p18]; exact h2)) ?_
          refine ⟨_, rfl, _, rfl, b, _, 1, .int i, rfl, rfl, .inl (.inl hb0), rfl, c, _, i, .int z, rfl, rfl, .inl (.inl hc0), hz, 10, 18, rfl, rfl, c18, z, _, rfl, rfl, ?_⟩
          refine ⟨_, rfl, b, _, 2, 2, rfl, rfl, hb0, rfl, ?_⟩
          refine ⟨_, rfl, b, _, 1, .int i, rfl, rfl, .inl (.inl upd_same), rfl, i, 1, rfl, rfl, _, rfl, b, _, 1, 1, rfl, rfl, upd_same, rfl, ?_⟩
          rw [upd_upd]
          refine ⟨_, rfl, b, _, 2, .int _, rfl, rfl, .inl (.inl upd_same), rfl, _, 0, rfl, rfl, _, rfl, ?_⟩
          refine itT (decide_eq_true (by rw [p18]; omega)) ?_
          refine ⟨_, rfl, b, _, 2, .int _, rfl, rfl, .inl (.inl upd_same), rfl, .inl ⟨_, rfl, _, rfl, _, m, rfl, rfl, hm0, ?_⟩⟩
          refine ⟨_, rfl, b, _, 2, .int _, rfl, rfl, .inl (.inl upd_same), rfl, .inl ⟨_, rfl, _, rfl, _, m, rfl, rfl, ⟨hm0, hm1⟩, _, rfl, b, _, 2, 2, rfl, rfl, upd_same, rfl, ?_⟩⟩
          rw [upd_upd]
          refine ⟨_, rfl, fin (i + 1) _ s _ (by omega) (Int.ediv_nonneg (by rw [p18]; omega) (by omega)) (modk _).1 (modk _).2⟩
        · refine itF (decide_eq_false (by rw [p18]; exact h2)) ?_
          exact cont _ rfl _ _ rfl
      · refine itF (decide_eq_false (by omega)) ?_
        exact cont _ rfl _ _ rfl
    · refine itF (by show (p == 0) = false; simp [h0]) ?_
      refine ⟨_, rfl, b, _, 2, .int p, rfl, rfl, .inl (.inl hb0), rfl, p, 0, rfl, rfl, _, rfl, ?_⟩
      refine itT (decide_eq_true (by omega)) ?_
      refine ⟨_, rfl, b, _, 2, .int p, rfl, rfl, .inl (.inl hb0), rfl, .inl ⟨_, rfl, _, rfl, _, m, rfl, rfl, hm0, ?_⟩⟩
      refine ⟨_, rfl, b, _, 2, .int p, rfl, rfl, .inl (.inl hb0), rfl, .inl ⟨_, rfl, _, rfl, _, m, rfl, rfl, ⟨hm0, hm1⟩, _, rfl, b, _, 2, 2, rfl, rfl, hb0, rfl, ?_⟩⟩
      exact ⟨_, rfl, fin i _ s _ hi (Int.ediv_nonneg hp (by omega)) (modk _).1 (modk _).2⟩
def spBox (K : PySem.W.Frag) : Sp := fun vs H Q E => ∃ (a : Addr) (ns : List Int) (s : Int), vs = [.ref a, .int s] ∧ SqL K H a (ns.map V.int) ∧ ns.length ≤ 63 ∧
  ∀ (b c : Addr) (H' : Hp), b ≠ c → H' b = some (.lst [.ref c, .int 0, .int 0, .int s]) → H' c = some (.lst (ns.map V.int)) → Q (.ref b) H'
theorem ok_box (tx : Txt K mg A) : FnR P w K mg base CX0 1 A.f_box (spBox K) := by
  refine fnR_of tx.g_box.d sc_box (fun vs H Q E h => ?_) (fun cdv Ar outer s H vs Q E hr h => ?_)
  · obtain ⟨a, ns, s, rfl, _⟩ := h; rfl
  · refine ⟨_, (pss_one (ps_ret (pe_lst (pa_cons (pe_lc (own := [("_law_cell", 2)]) rfl sc_box.nd (pi_listK K (pe_slice (sl_listK K) (pv 0) po_none (po_some pe_int))) (blkOk_by (N := ["_law_script", "_law_salt", "_law_cell"]) (sc := defScope s_box) (by decide +kernel)) (fun _ _ _ _ _ => (pg_name (i := 2) sc_box.nd rfl (Or.inl rfl))) (fun _ _ _ _ _ => pts_nil) (fun _ _ _ _ _ => (pe_callTy call_int1 (by rfl) tx.z_int (by decide +kernel) (pa_cons (pv 2) pa_nil)))) (pa_cons pe_int (pa_cons pe_int (pa_cons (pv 1) pa_nil))))))), ?_⟩
    try dsimp only [cxOf, Cx.nox]
    obtain ⟨a, ns, s, rfl, hS, hl, k⟩ := h
    refine ⟨_, rfl, _, rfl, a, _, rfl, hS, fun p hp => ⟨p, rfl, ⟨_, .inl (.inl upd_same)⟩, fun D nD => ?_⟩⟩
    have hpD : p ≠ D := ne_of_none upd_same nD
    have hcut : cutV (ns.map V.int) none (some 63) = ns.map V.int := by
      unfold cutV
      show (List.drop 0 (ns.map V.int)).take (HT.sIx (ns.map V.int).length (ns.map V.int).length (some 63) - 0) = _
      rw [List.drop_zero]
      have e : HT.sIx (ns.map V.int).length (ns.map V.int).length (some 63) = (ns.map V.int).length := by
        rw [List.length_map]
        unfold HT.sIx
        simp
        omega
      rw [e, Nat.sub_zero, List.take_length]
    rw [hcut]
    refine lc_list (xs := ns.map V.int) (fun i H' => H' p = some (.lst (ns.map V.int)) ∧ H' D = some (.lst ((ns.take i).map V.int))) ⟨by rw [upd_ne hpD]; exact upd_same, upd_same⟩ (fun i H' _ h => .inl (.inl h.1)) ?_ ?_
    · rintro i x H' hx ⟨h1, h2⟩
      obtain ⟨z, hz, rfl⟩ : ∃ z, ns[i]? = some z ∧ x = V.int z := by
        rw [List.getElem?_map] at hx
        cases e : ns[i]? with
        | none => rw [e] at hx; cases hx
        | some z => rw [e] at hx; exact ⟨z, rfl, (Option.some.inj hx).symm⟩
      have hi := (List.getElem?_eq_some_iff.mp hz).1
      refine ⟨rfl, ?_⟩
      refine yes_then ?_
      refine ⟨_, rfl, .inl ⟨z, rfl, _, h2, ?_, ?_, ?_⟩⟩
      · exact Nat.lt_of_le_of_lt (by rw [List.length_map]; exact List.length_take_le' _ _) (Nat.lt_of_le_of_lt hl (by decide : 63 < sizeLine))
      · rw [upd_ne hpD]; exact h1
      · rw [upd_same, List.take_succ, hz, List.map_append]; rfl
    · rintro H' ⟨h1, h2⟩
      rw [List.length_map, List.take_length] at h2
      refine ⟨_, rfl, by show 4 ≤ sizeLine; decide, fun b hb => ?_⟩
      have hbD : b ≠ D := (ne_of_none h2 hb).symm
      exact k b D _ hbD upd_same (by rw [upd_ne hbD.symm]; exact h2)
def P_word : PT := fun rt xx ts => ∃ (n : Int) (m : Int) (b : Bool), ts = [T n, T m, T b] ∧ (0 ≤ n ∧ n ≤ 1000000000 ∧ 0 ≤ m ∧ m ≤ 12 ∧ rt (T (wordS n m.toNat b)))
theorem pc_word {rt : Ty → Prop} {xx : Xn → Prop} {n : Int} {m : Int} {b : Bool} (h : 0 ≤ n ∧ n ≤ 1000000000 ∧ 0 ≤ m ∧ m ≤ 12 ∧ rt (T (wordS n m.toNat b))) : P_word rt xx [T n, T m, T b] := ⟨_, _, _, rfl, h⟩
theorem ok_word (tx : Txt K mg A) : FnR P w K mg base CX0 1 A.f_word (spG (bs K A) P_word) := by
  refine fnR_of tx.g_word.d sc_word (len_ok (n := 3) fun rt xx ts hp => by obtain ⟨_, _, _, rfl, _⟩ := hp; rfl) (fun cdv Ar outer s H vs Q E hr h => ⟨_, (pss_cons (ps_set (i := 3) sc_word.nd rfl (Or.inl rfl) pe_str)
        (pss_cons (ps_for PassesOwn.never rfl (pi_range1 (by rfl) tx.z_range (pa_cons (pv 1) pa_nil)) (pg_name (i := 4) sc_word.nd rfl (Or.inl rfl)) (pss_cons (ps_set (i := 3) sc_word.nd rfl (Or.inl rfl) (pe_op op_add_str (pv 3) (pe_ix ix_str pe_str (pe_op op_mod (pe_callTy call_int1 (by rfl) tx.z_int (by decide +kernel) (pa_cons (pv 0) pa_nil)) pe_int) (fun _ _ => rfl))))
        (pss_one (ps_set (i := 0) sc_word.nd rfl (Or.inl rfl) (pe_op op_fdiv (pe_callTy call_int1 (by rfl) tx.z_int (by decide +kernel) (pa_cons (pv 0) pa_nil)) pe_int)))))
        (pss_cons (ps_if (pt_val (pv 2)) (pss_one (ps_ret (pe_revS (pv 3)))) pss_nil)
        (pss_one (ps_ret (pv 3)))))),
      body_ok (N := ["_law_number", "_law_many", "_law_back", "_law_word_here", "_law_turn"]) (fun W ts rt xx hB ho hw hp => ?_) h⟩)
  have hK : W.B.K = K := congrArg Bs.K hB
  obtain ⟨n, m, b, rfl, hp⟩ := hp
  show Sx W _ [some (T n), some (T m), some (T b), none, none] _
  obtain ⟨h1, h2, h3, h4, hp⟩ := hp
  walk_at "g"
  apply sx_forR
  walk_at "g"
  refine ⟨by omega, fun i Γ' => ∃ (ni : Int) (z : Str) (o4 : Option Ty), 0 ≤ ni ∧ ni ≤ 1000000000 ∧ z.length = i ∧ z.cps.toList ++ wordL (m.toNat - i) ni = wordL m.toNat n ∧ Γ' = [some (T ni), some (T m), some (T b), some (T z), o4], ⟨n, Str.ofString "", none, h1, h2, by decide +kernel, ?_, rfl⟩, ?_, ?_⟩
  · rw [show (Str.ofString "").cps.toList = [] by decide +kernel]
    rfl
  · rintro i Γ' hi ⟨ni, z, o4, n0, n1, zl, ze, rfl⟩
    have hi' : i < m.toNat := hi
    obtain ⟨r, hr⟩ : ∃ r, m.toNat - i = r + 1 := ⟨m.toNat - i - 1, by omega⟩
    rw [hr] at ze
    have q0 : 0 ≤ ni % 26 := Int.emod_nonneg _ (by decide)
    have q1 : ni % 26 < 26 := Int.emod_lt_of_pos _ (by decide)
    apply tg_of
    walk_at "g"
    refine ⟨_, abc_at q0 q1, by show z.length + 1 ≤ 1000000; omega, ?_⟩
    walk_at "g"
    refine ⟨ni / 26, _, _, by omega, by omega, by rw [snoc_len, zl], ?_, rfl⟩
    rw [snoc_list, List.append_assoc, show m.toNat - (i + 1) = r by omega, ← ze]
    rfl
  · rintro Γ' ⟨ni, z, o4, n0, n1, zl, ze, rfl⟩
    have hz : z.cps.toList = wordL m.toNat n := by
      rw [Nat.sub_self] at ze
      rw [← ze]
      exact (List.append_nil _).symm
    obtain ⟨w1, w2⟩ := wordS_of hz
    walk_at "g"
    refine ⟨fun hb => ?_, fun hb => ?_⟩
    · apply sx_ret
      refine ev_revS ?_
      walk_at "g"
      rw [hb, w2] at hp
      exact hp
    · walk_at "g"
      rw [hb, w1] at hp
      exact hp
def P_words : PT := fun rt xx ts => ∃ (m : Int), ts = [T Bx.mk, T m] ∧ (0 ≤ m ∧ m ≤ 16 ∧ ∀ ws : List Str, (ws.length : Int) = m → ws.Nodup → (∀ w ∈ ws, GoodW w) → rt (T ws))
theorem pc_words {rt : Ty → Prop} {xx : Xn → Prop} {m : Int} (h : 0 ≤ m ∧ m ≤ 16 ∧ ∀ ws : List Str, (ws.length : Int) = m → ws.Nodup → (∀ w ∈ ws, GoodW w) → rt (T ws)) : P_words rt xx [T Bx.mk, T m] := ⟨_, rfl, h⟩
theorem ok_words (tx : Txt K mg A) : FnR P w K mg base CX0 2 A.f_words (spG (bs K A) P_words) := by
  have G_take := ok_take (P := P) (w := w) (base := base) tx
  have G_word := ok_word (P := P) (w := w) (base := base) tx
  refine fnR_of tx.g_words.d sc_words (len_ok (n := 2) fun rt xx ts hp => by obtain ⟨_, rfl, _⟩ := hp; rfl) (fun cdv Ar outer s H vs Q E hr h => ⟨_, (pss_cons (ps_set (i := 2) sc_words.nd rfl (Or.inl rfl) (pe_lst pa_nil))
        (pss_cons (ps_set (i := 3) sc_words.nd rfl (Or.inl rfl) (pe_cmpR (op_eqDK K (huD hr)) (pe_callR G_take (room hr) rfl (tx.g_take).g (tx.g_take).kp pass0 (pa_cons (pv 0) (pa_cons pe_int pa_nil))) pe_int (nomark _)))
        (pss_cons (ps_for PassesOwn.never rfl (pi_range1 (by rfl) tx.z_range (pa_cons (pv 1) pa_nil)) (pg_name (i := 4) sc_words.nd rfl (Or.inl rfl)) (pss_cons (ps_set (i := 5) sc_words.nd rfl (Or.inl rfl) (pe_ix (ix_listK K) (pe_lst (pa_cons pe_int (pa_cons pe_int (pa_cons pe_int (pa_cons pe_int (pa_cons pe_int (pa_cons pe_int pa_nil))))))) (pe_callR G_take (room hr) rfl (tx.g_take).g (tx.g_take).kp pass0 (pa_cons (pv 0) (pa_cons pe_int pa_nil))) (fun _ _ => rfl)))
        (pss_cons (ps_set (i := 6) sc_words.nd rfl (Or.inl rfl) (pe_callR G_take (room hr) rfl (tx.g_take).g (tx.g_take).kp pass0 (pa_cons (pv 0) (pa_cons pe_int pa_nil))))
        (pss_cons (ps_set (i := 7) sc_words.nd rfl (Or.inl rfl) (pe_callR G_word (room hr) rfl (tx.g_word).g (tx.g_word).kp pass0 (pa_cons (pv 6) (pa_cons (pv 5) (pa_cons (pv 3) pa_nil)))))
        (pss_cons (ps_for PassesOwn.never rfl (pi_range1 (by rfl) tx.z_range (pa_cons pe_int pa_nil)) (pg_name (i := 8) sc_words.nd rfl (Or.inl rfl)) (pss_one (ps_if (PW.pt (pw_or (pt_cmpR (op_inSeqK K) (pv 7) (pv 2) rfl) (pw_or1 (pt_cmpR (op_inSeqK K) (pv 7) (pe_lst (pa_cons pe_str (pa_cons pe_str (pa_cons pe_str (pa_cons pe_str pa_nil))))) rfl)))) (pss_cons (ps_set (i := 6) sc_words.nd rfl (Or.inl rfl) (pe_op op_add (pv 6) pe_int))
        (pss_one (ps_set (i := 7) sc_words.nd rfl (Or.inl rfl) (pe_callR G_word (room hr) rfl (tx.g_word).g (tx.g_word).kp pass0 (pa_cons (pv 6) (pa_cons (pv 5) (pa_cons (pv 3) pa_nil))))))) pss_nil)))
        (pss_one (ps_expr (pe_appendK K (pv 2) (pa_cons (pv 7) pa_nil)))))))))
        (pss_one (ps_ret (pv 2)))))),
      body_ok (N := ["_law_box_here", "_law_many", "_law_words_here", "_law_back", "_law_turn", "_law_wide", "_law_number", "_law_word_here", "_law_again"]) (fun W ts rt xx hB ho hw hp => ?_) h⟩)
  have hK : W.B.K = K := congrArg Bs.K hB
  obtain ⟨m, rfl, hp⟩ := hp
  show Sx W _ [some (T Bx.mk), some (T m), none, none, none, none, none, none, none] _
  obtain ⟨h1, h2, hp⟩ := hp
  refine sx_own fun F => ?_
  refine sxm_seq (sxm_new (β := Str) (rβ := inferInstance) fun Wo hW => evF_lst (el_nil (α := Str) (rα := inferInstance) ⟨by decide, fun p vs => ?_⟩))
  show SxM W F _ [(p, vs)] [some (T Bx.mk), some (T m), some (T (Ol.mk p vs ([] : List Str))), none, none, none, none, none, none] _
  refine sxm_seq (sxm_pure fun Wo hW => ?_)
  have hBo : Wo.B = bs K A := hW.B.trans hB
  have hKo : Wo.B.K = K := congrArg Bs.K hBo
  walk_at "g"
  refine pc_take ⟨by decide, by decide, fun bk b0 b1 => ⟨_, rfl, ?_⟩⟩
  walk_at "g"
  generalize decide (bk = 1) = back
  show SxM W F _ [(p, vs)] [some (T Bx.mk), some (T m), some (T (Ol.mk p vs ([] : List Str))), some (T back), none, none, none, none, none] _
  refine sxm_seq (sxm_forR fun Wo2 hW2 => ?_)
  walk_at "g"
  refine ⟨by omega, fun i L' Γ' => ∃ (vs' : List V) (as : List Str) (o4 o5 o6 o7 o8 : Option Ty), L' = [(p, vs')] ∧ as.length = i ∧ as.Nodup ∧ (∀ w ∈ as, GoodW w) ∧ Γ' = [some (T Bx.mk), some (T m), some (T (Ol.mk p vs' as)), some (T back), o4, o5, o6, o7, o8], ⟨vs, [], none, none, none, none, none, rfl, rfl, List.nodup_nil, fun _ h => (nomatch h), rfl⟩, ?_, ?_⟩
  · rintro i L' Γ' hi ⟨vs', as, o4, o5, o6, o7, o8, rfl, al, an, ag, rfl⟩ Wo' hW'
    have hi' : i < m.toNat := hi
    apply tg_of
    walk_at "g"
    show SxM W F _ [(p, vs')] [some (T Bx.mk), some (T m), some (T (Ol.mk p vs' as)), some (T back), some (T (i : Int)), o5, o6, o7, o8] _
    refine sxm_seq (sxm_pure fun Wo3 hW3 => ?_)
    have hB3 : Wo3.B = bs K A := hW3.B.trans hB
    have hK3 : Wo3.B.K = K := congrArg Bs.K hB3
    apply sx_set
    refine ev_ixL (α := Int) (rα := inferInstance) hK3 ?_
    apply ev_lst
    walk_at "g"
    refine pc_take ⟨by decide, by decide, fun z z0 z1 => ⟨_, rfl, ?_⟩⟩
    have hw : ∃ w : Int, atI [1, 1, 2, 3, 5, 12] z = some w ∧ 1 ≤ w ∧ w ≤ 12 := by
      have : z = 0 ∨ z = 1 ∨ z = 2 ∨ z = 3 ∨ z = 4 ∨ z = 5 := by omega
      rcases this with rfl | rfl | rfl | rfl | rfl | rfl
      · exact ⟨1, rfl, by omega, by omega⟩
      · exact ⟨1, rfl, by omega, by omega⟩
      · exact ⟨2, rfl, by omega, by omega⟩
      · exact ⟨3, rfl, by omega, by omega⟩
      · exact ⟨5, rfl, by omega, by omega⟩
      · exact ⟨12, rfl, by omega, by omega⟩
    obtain ⟨wd, hw, w0, w1⟩ := hw
    refine ⟨wd, hw, ?_⟩
    show SxM W F _ [(p, vs')] [some (T Bx.mk), some (T m), some (T (Ol.mk p vs' as)), some (T back), some (T (i : Int)), some (T wd), o6, o7, o8] _
    refine sxm_seq (sxm_pure fun Wo4 hW4 => ?_)
    have hB4 : Wo4.B = bs K A := hW4.B.trans hB
    have hK4 : Wo4.B.K = K := congrArg Bs.K hB4
    walk_at "g"
    refine pc_take ⟨by decide, by decide, fun n n0 n1 => ⟨_, rfl, ?_⟩⟩
    show SxM W F _ [(p, vs')] [some (T Bx.mk), some (T m), some (T (Ol.mk p vs' as)), some (T back), some (T (i : Int)), some (T wd), some (T n), o7, o8] _
    refine sxm_seq (sxm_pure fun Wo5 hW5 => ?_)
    have hB5 : Wo5.B = bs K A := hW5.B.trans hB
    have hK5 : Wo5.B.K = K := congrArg Bs.K hB5
    walk_at "g"
    refine pc_word ⟨by omega, by omega, by omega, by omega, _, rfl, ?_⟩
    obtain ⟨k, rfl⟩ : ∃ k : Nat, wd = k := ⟨wd.toNat, by omega⟩
    rw [Int.toNat_natCast]
    show SxM W F _ [(p, vs')] [some (T Bx.mk), some (T m), some (T (Ol.mk p vs' as)), some (T back), some (T (i : Int)), some (T (k : Int)), some (T n), some (T (wordS n k back)), o8] _
    refine sxm_seq (sxm_forR fun Wo6 hW6 => ?_)
    walk_at "g"
    refine ⟨by omega, fun j L' Γ' => ∃ (q : Nat) (o8 : Option Ty), L' = [(p, vs')] ∧ q ≤ j ∧ ((q = j ∧ ∀ t : Nat, t < q → wordS (n + (t : Int)) k back ∈ as ++ barS) ∨ wordS (n + (q : Int)) k back ∉ as ++ barS) ∧ Γ' = [some (T Bx.mk), some (T m), some (T (Ol.mk p vs' as)), some (T back), some (T (i : Int)), some (T (k : Int)), some (T (n + (q : Int))), some (T (wordS (n + (q : Int)) k back)), o8], ⟨0, o8, rfl, Nat.le_refl _, .inl ⟨rfl, fun t ht => absurd ht (Nat.not_lt_zero _)⟩, ?_⟩, ?_, ?_⟩
    · show _ = [some (T Bx.mk), some (T m), some (T (Ol.mk p vs' as)), some (T back), some (T (i : Int)), some (T (k : Int)), some (T (n + ((0 : Nat) : Int))), some (T (wordS (n + ((0 : Nat) : Int)) k back)), o8]
      rw [show n + ((0 : Nat) : Int) = n by omega]
    · rintro j L'' Γ'' hj ⟨q, o8', rfl, hqj, hq, rfl⟩ Wo7 hW7
      have hj' : j < 20 := hj
      apply tg_of
      walk_at "g"
      show SxM W F _ [(p, vs')] [some (T Bx.mk), some (T m), some (T (Ol.mk p vs' as)), some (T back), some (T (i : Int)), some (T (k : Int)), some (T (n + (q : Int))), some (T (wordS (n + (q : Int)) k back)), some (T (j : Int))] _
      refine sxm_ifB (Γ' := [some (T Bx.mk), some (T m), some (T as), some (T back), some (T (i : Int)), some (T (k : Int)), some (T (n + (q : Int))), some (T (wordS (n + (q : Int)) k back)), some (T (j : Int))]) (by walk_at "frz") ?_
      apply et_or
      apply et_test
      refine ev_inS hK ?_
      walk_at "g"
      refine ⟨fun hi1 => ⟨fun _ => ?_, fun h => (nomatch h)⟩, fun hi1 => ?_⟩
      · have hin : wordS (n + (q : Int)) k back ∈ as ++ barS := List.mem_append_left _ (of_decide_eq_true hi1)
        have hq2 : q = j ∧ ∀ t : Nat, t < q → wordS (n + (t : Int)) k back ∈ as ++ barS := by
          rcases hq with h' | h'
          · exact h'
          · exact absurd hin h'
        obtain ⟨rfl, hall⟩ := hq2
        refine sxm_seq (sxm_pure fun Wo8 hW8 => ?_)
        have hB8 : Wo8.B = bs K A := hW8.B.trans hB
        have hK8 : Wo8.B.K = K := congrArg Bs.K hB8
        walk_at "g"
        show SxM W F _ [(p, vs')] [some (T Bx.mk), some (T m), some (T (Ol.mk p vs' as)), some (T back), some (T (i : Int)), some (T (k : Int)), some (T (n + (q : Int) + 1)), some (T (wordS (n + (q : Int)) k back)), some (T (q : Int))] _
        refine sxm_pure fun Wo9 hW9 => ?_
        have hB9 : Wo9.B = bs K A := hW9.B.trans hB
        have hK9 : Wo9.B.K = K := congrArg Bs.K hB9
        walk_at "g"
        refine pc_word ⟨by omega, by omega, by omega, by omega, _, rfl, ?_⟩
        rw [Int.toNat_natCast]
        refine ⟨q + 1, some (T (q : Int)), rfl, Nat.le_refl _, .inl ⟨rfl, fun t ht => ?_⟩, ?_⟩
        · by_cases e : t < q
          · exact hall t e
          · have e2 : t = q := by omega
            rw [e2]
            exact hin
        · rw [show n + ((q + 1 : Nat) : Int) = n + (q : Int) + 1 by omega]
          rfl
      · apply et_test
        refine ev_inS hK ?_
        walk_at "g0"
        apply ev_lst
        walk_at "g"
        refine ⟨fun hi2 => ?_, fun hi2 => ?_⟩
        · have hin : wordS (n + (q : Int)) k back ∈ as ++ barS := List.mem_append_right _ (of_decide_eq_true hi2)
          have hq2 : q = j ∧ ∀ t : Nat, t < q → wordS (n + (t : Int)) k back ∈ as ++ barS := by
            rcases hq with h' | h'
            · exact h'
            · exact absurd hin h'
          obtain ⟨rfl, hall⟩ := hq2
          refine sxm_seq (sxm_pure fun Wo8 hW8 => ?_)
          have hB8 : Wo8.B = bs K A := hW8.B.trans hB
          have hK8 : Wo8.B.K = K := congrArg Bs.K hB8
          walk_at "g"
          show SxM W F _ [(p, vs')] [some (T Bx.mk), some (T m), some (T (Ol.mk p vs' as)), some (T back), some (T (i : Int)), some (T (k : Int)), some (T (n + (q : Int) + 1)), some (T (wordS (n + (q : Int)) k back)), some (T (q : Int))] _
          refine sxm_pure fun Wo9 hW9 => ?_
          have hB9 : Wo9.B = bs K A := hW9.B.trans hB
          have hK9 : Wo9.B.K = K := congrArg Bs.K hB9
          walk_at "g"
          refine pc_word ⟨by omega, by omega, by omega, by omega, _, rfl, ?_⟩
          rw [Int.toNat_natCast]
          refine ⟨q + 1, some (T (q : Int)), rfl, Nat.le_refl _, .inl ⟨rfl, fun t ht => ?_⟩, ?_⟩
          · by_cases e : t < q
            · exact hall t e
            · have e2 : t = q := by omega
              rw [e2]
              exact hin
          · rw [show n + ((q + 1 : Nat) : Int) = n + (q : Int) + 1 by omega]
            rfl
        · refine sxm_next ⟨q, _, rfl, by omega, .inr fun hm => ?_, rfl⟩
          rcases List.mem_append.mp hm with hm | hm
          · exact (of_decide_eq_false hi1) hm
          · exact (of_decide_eq_false hi2) hm
    · rintro L'' Γ'' ⟨q, o8', rfl, hqj, hq, rfl⟩
      have hno : wordS (n + (q : Int)) k back ∉ as ++ barS := by
        rcases hq with ⟨hq, hall⟩ | hq
        · have hq : q = 20 := hq
          subst hq
          exact (words_free (by omega) (by rw [List.length_append]; show as.length + 4 < 20; omega) hall).elim
        · exact hq
      have hna : wordS (n + (q : Int)) k back ∉ as := fun h => hno (List.mem_append_left _ h)
      have hnb : wordS (n + (q : Int)) k back ∉ barS := fun h => hno (List.mem_append_right _ h)
      refine sxm_append (α := Str) (rα := inferInstance) 0 rfl rfl fun Wo8 hW8 => ?_
      walk_at "g"
      refine fun v => ⟨_, _, _, _, _, _, _, rfl, ?_, ?_, ?_, rfl⟩
      · rw [List.length_append, al]
        rfl
      · refine List.nodup_append.mpr ⟨an, by simp, fun a ha b hb e => ?_⟩
        rw [List.mem_singleton.mp hb] at e
        exact hna (e ▸ ha)
      · intro w hw
        rcases List.mem_append.mp hw with hw | hw
        · exact ag w hw
        · rw [List.mem_singleton.mp hw]
          exact ⟨by rw [wordS_len]; omega, by rw [wordS_len]; omega, wordS_az, hnb⟩
  · rintro L' Γ' ⟨vs', as, o4, o5, o6, o7, o8, rfl, al, an, ag, rfl⟩
    refine sxm_freeze (Γ' := [some (T Bx.mk), some (T m), some (T as), some (T back), o4, o5, o6, o7, o8]) (by walk_at "frz") ?_
    refine sxm_pure fun Wf hWf => ?_
    walk_at "g"
    exact hp as (by omega) an ag
def P_node : PT := fun rt xx ts => ∃ (ps : List Ru) (pl : Bool), ts = [T Bx.mk, T (ps.map Tt.mk), T pl] ∧ (0 < ps.length ∧ ps.length ≤ 100 ∧ ∀ (k : RK) (ns : List Int), k ≠ .leaf → (pl = true → k ≠ .trim) → numOk k ns ps.length → (∀ n ∈ ns, 0 ≤ n ∧ n ≤ 1000) → rt (T (Tt.mk (nodeU k ns ps))))
theorem pc_node {rt : Ty → Prop} {xx : Xn → Prop} {ps : List Ru} {pl : Bool} (h : 0 < ps.length ∧ ps.length ≤ 100 ∧ ∀ (k : RK) (ns : List Int), k ≠ .leaf → (pl = true → k ≠ .trim) → numOk k ns ps.length → (∀ n ∈ ns, 0 ≤ n ∧ n ≤ 1000) → rt (T (Tt.mk (nodeU k ns ps)))) : P_node rt xx [T Bx.mk, T (ps.map Tt.mk), T pl] := ⟨_, _, rfl, h⟩
theorem ok_node (tx : Txt K mg A) : FnR P w K mg base CX0 2 A.f_node (spG (bs K A) P_node) := by
  have G_take := ok_take (P := P) (w := w) (base := base) tx
  refine fnR_of tx.g_node.d sc_node (len_ok (n := 3) fun rt xx ts hp => by obtain ⟨_, _, rfl, _⟩ := hp; rfl) (fun cdv Ar outer s H vs Q E hr h => ⟨_, (pss_cons (ps_set (i := 3) sc_node.nd rfl (Or.inl rfl) (pe_callB (call_lenK K) (by rfl) tx.z_len PySem.boot_len (pa_cons (pv 1) pa_nil)))
        (pss_cons (ps_set (i := 4) sc_node.nd rfl (Or.inl rfl) (pe_callR G_take (room hr) rfl (tx.g_take).g (tx.g_take).kp pass0 (pa_cons (pv 0) (pa_cons (pe_op op_sub pe_int (pe_callTy call_int1 (by rfl) tx.z_int (by decide +kernel) (pa_cons (pv 2) pa_nil))) pa_nil))))
        (pss_cons (ps_if (pt_cmpR (op_eqDK K (huD hr)) (pv 4) pe_int (nomark _)) (pss_one (ps_ret (pe_tup (pa_cons pe_str (pa_cons (pe_callR G_take (room hr) rfl (tx.g_take).g (tx.g_take).kp pass0 (pa_cons (pv 0) (pa_cons (pe_op op_fdiv (pe_op op_add (pv 3) pe_int) pe_int) pa_nil))) (pa_cons (pv 1) pa_nil)))))) pss_nil)
        (pss_cons (ps_if (pt_cmpR (op_eqDK K (huD hr)) (pv 4) pe_int (nomark _)) (pss_cons (ps_setLc (i := 5) (own := [("_law_part", 6)]) rfl sc_node.nd rfl rfl (sw_true rfl rfl rfl (by decide +kernel)) (pi_listK K (pv 1)) (blkOk_by (N := ["_law_box_here", "_law_parts", "_law_plain", "_law_many", "_law_sort", "_law_masses", "_law_part", "_law_heavy"]) (sc := defScope s_node) (by decide +kernel)) (fun _ _ _ _ _ => (pg_name (i := 6) sc_node.nd rfl (Or.inl rfl))) (fun _ _ _ _ _ => pts_nil) (fun _ _ _ _ _ => (pe_callR G_take (room hr) rfl (tx.g_take).g (tx.g_take).kp pass0 (pa_cons (pv 0) (pa_cons pe_int pa_nil)))))
        (pss_cons (ps_set (i := 7) sc_node.nd rfl (Or.inl rfl) (pe_callR G_take (room hr) rfl (tx.g_take).g (tx.g_take).kp pass0 (pa_cons (pv 0) (pa_cons (pv 3) pa_nil))))
        (pss_cons (ps_asg (pe_op op_add (pe_ix (ix_listK K) (pv 5) (pv 7) (fun _ _ => rfl)) pe_int) (pg_sub (pv 5) (pv 7) set_list))
        (pss_one (ps_ret (pe_tup (pa_cons pe_str (pa_cons (pv 5) (pa_cons (pv 1) pa_nil))))))))) pss_nil)
        (pss_one (ps_ret (pe_tup (pa_cons pe_str (pa_cons (pe_callR G_take (room hr) rfl (tx.g_take).g (tx.g_take).kp pass0 (pa_cons (pv 0) (pa_cons (pv 3) pa_nil))) (pa_cons (pv 1) pa_nil)))))))))),
      body_ok (N := ["_law_box_here", "_law_parts", "_law_plain", "_law_many", "_law_sort", "_law_masses", "_law_part", "_law_heavy"]) (fun W ts rt xx hB ho hw hp => ?_) h⟩)
  have hK : W.B.K = K := congrArg Bs.K hB
  obtain ⟨ps, pl, rfl, hp⟩ := hp
  show Sx W _ [some (T Bx.mk), some (T (ps.map Tt.mk)), some (T pl), none, none, none, none, none] _
  obtain ⟨hp0, hp1, hp⟩ := hp
  refine sx_seq (sx_set (ev_len hK (ev_var rfl ?_)))
  rw [List.length_map]
  have hpl : (0 : Int) ≤ (if pl = true then 1 else 0) ∧ (if pl = true then (1 : Int) else 0) ≤ 1 := by split <;> decide
  refine sx_seq (sx_set (α := Int) (rα := inferInstance) (ev_callR hB (ea_cons (ev_var rfl (ea_cons (ev_opI (ev_int (ev_intB (ev_var rfl ?_)))) )))))
  refine ea_nil (pc_take ⟨by omega, by omega, fun so s0 s1 => ⟨_, rfl, ?_⟩⟩)
  show Sx W _ [some (T Bx.mk), some (T (ps.map Tt.mk)), some (T pl), some (T (ps.length : Int)), some (T so), none, none, none] _
  refine sx_seq (sx_if ?_)
  walk_at "g"
  refine ⟨fun h2 => ?_, fun h2 => ?_⟩
  · have h2 : so = 2 := of_decide_eq_true h2
    have hpf : pl = false := by
      cases pl with
      | false => rfl
      | true => simp at s1; omega
    refine sx_ret (ev_mkt (α := Int) (rα := inferInstance) (ev_str (ev_callR hB (ea_cons (ev_var rfl (ea_cons (α := Int) (rα := inferInstance) ?_))))))
    walk_at "g"
    refine pc_take ⟨by omega, by omega, fun c c0 c1 => ⟨_, rfl, ?_⟩⟩
    refine ev_var rfl ⟨nodeU .trim [c] ps, rfl, rfl, trX_trim, ?_⟩
    exact hp .trim [c] (by decide) (fun z => by rw [hpf] at z; cases z) ⟨c, rfl, c0, by omega⟩ fun n hn => by rw [List.mem_singleton.mp hn]; omega
  refine sx_next ?_
  refine sx_seq (sx_if ?_)
  walk_at "g"
  refine ⟨fun h1 => ?_, fun h1 => ?_⟩
  · show Sx W _ _ _
    refine sx_own fun F => ?_
    refine sxm_seq (sxm_new (β := Int) (rβ := inferInstance) fun Wo hW => ?_)
    have hBo : Wo.B = bs K A := hW.B.trans hB
    have hKo : Wo.B.K = K := congrArg Bs.K hBo
    refine evF_lc hKo (ev_var rfl ⟨by rw [List.length_map]; omega, fun i bs => bs.length = i ∧ ∀ b ∈ bs, 0 ≤ b ∧ b ≤ 10, ⟨rfl, fun _ h => (nomatch h)⟩, fun W' sb i w bs hw hb => ⟨[6], rfl, ?_⟩, fun ms hms p vs => ?_⟩)
    · apply tj_name
      refine et_yes ⟨fun _ => ?_, fun h => (nomatch h)⟩
      refine ev_callR (sb.B.trans hBo) (ea_cons (ev_var rfl (ea_cons (ev_int (ea_nil (pc_take ⟨by decide, by decide, fun z z0 z1 => ⟨_, rfl, ?_⟩⟩))))))
      refine ⟨by rw [List.length_append, hb.1]; rfl, fun b hbm => ?_⟩
      rcases List.mem_append.mp hbm with h | h
      · exact hb.2 b h
      · rw [List.mem_singleton.mp h]; exact ⟨z0, by omega⟩
    obtain ⟨hml, hm0⟩ := hms
    rw [List.length_map] at hml
    show SxM W F _ [(p, vs)] [some (T Bx.mk), some (T (ps.map Tt.mk)), some (T pl), some (T (ps.length : Int)), some (T so), some (T (Ol.mk p vs ms)), none, none] _
    refine sxm_seq (sxm_pure fun Wo2 hW2 => ?_)
    have hB2 : Wo2.B = bs K A := hW2.B.trans hB
    refine sx_set (α := Int) (rα := inferInstance) (ev_callR hB2 (ea_cons (ev_var rfl (ea_cons (ev_var rfl (ea_nil (pc_take ⟨by omega, by omega, fun at0 z0 z1 => ⟨_, rfl, ?_⟩⟩)))))))
    obtain ⟨at_, rfl⟩ : ∃ a : Nat, at0 = a := ⟨at0.toNat, by omega⟩
    have hat : at_ < ms.length := by omega
    show SxM W F _ [(p, vs)] [some (T Bx.mk), some (T (ps.map Tt.mk)), some (T pl), some (T (ps.length : Int)), some (T so), some (T (Ol.mk p vs ms)), none, some (T (at_ : Int))] _
    refine sxm_seq (sxm_putB (α := Int) (rα := inferInstance) 0 rfl rfl (Γ' := [some (T Bx.mk), some (T (ps.map Tt.mk)), some (T pl), some (T (ps.length : Int)), some (T so), some (T ms), none, some (T (at_ : Int))]) (by walk_at "frz") ?_)
    walk_at "g"
    refine ⟨ms.getD at_ 0, getD_of (by omega) (by omega), ?_⟩
    walk_at "g"
    refine ⟨at_, by unfold ixN; rw [if_pos (by omega), if_pos (by omega), Int.toNat_natCast], fun v1 => ?_⟩
    show SxM W F _ [(p, vs.set at_ v1)] [some (T Bx.mk), some (T (ps.map Tt.mk)), some (T pl), some (T (ps.length : Int)), some (T so), some (T (Ol.mk p (vs.set at_ v1) (ms.set at_ (ms.getD at_ 0 + 1)))), none, some (T (at_ : Int))] _
    have hgd : 0 ≤ ms.getD at_ 0 ∧ ms.getD at_ 0 ≤ 10 := by
      rw [List.getD_eq_getElem?_getD, List.getElem?_eq_getElem hat]
      exact hm0 _ (List.getElem_mem hat)
    generalize hnw : ms.getD at_ 0 + 1 = nw
    have hnw1 : 1 ≤ nw := by omega
    have hms1 : ∀ w ∈ ms.set at_ nw, 0 ≤ w ∧ w ≤ 1000 := fun w hw => by
      rcases List.mem_or_eq_of_mem_set hw with h | h
      · have := hm0 w h
        omega
      · omega
    have hms0 : ∀ w ∈ ms.set at_ nw, 0 ≤ w := fun w hw => (hms1 w hw).1
    have hsum : 0 < (ms.set at_ nw).sum := by
      have := sum_some hms0 (List.mem_set hat nw)
      omega
    refine sxm_freeze (Γ' := [some (T Bx.mk), some (T (ps.map Tt.mk)), some (T pl), some (T (ps.length : Int)), some (T so), some (T (ms.set at_ nw)), none, some (T (at_ : Int))]) (by walk_at "frz") ?_
    refine sxm_pure fun Wo3 hW3 => ?_
    refine sx_ret (ev_mkt (α := List Int) (rα := inferInstance) (ev_str (ev_var rfl (ev_var rfl ⟨nodeU .weigh (ms.set at_ nw) ps, rfl, rfl, trX_weigh, ?_⟩))))
    exact hp .weigh (ms.set at_ nw) (by decide) (fun _ => by decide) ⟨by rw [List.length_set]; omega, hms0, hsum⟩ hms1
  refine sx_next ?_
  refine sx_ret (ev_mkt (α := Int) (rα := inferInstance) (ev_str (ev_callR hB (ea_cons (ev_var rfl (ea_cons (ev_var rfl (ea_nil (pc_take ⟨by omega, by omega, fun c c0 c1 => ⟨_, rfl, ?_⟩⟩)))))))))
  refine ev_var rfl ⟨nodeU .rank [c] ps, rfl, rfl, trX_rank, ?_⟩
  exact hp .rank [c] (by decide) (fun _ => by decide) ⟨c, rfl, c0, c1⟩ fun n hn => by rw [List.mem_singleton.mp hn]; omega
/-- the parts that a tree is put together of -/
structure Pts (ws : List Str) (pl : Bool) (d : Nat) (ps : List Ru) : Prop where
  ne : 0 < ps.length
  le : ps.length ≤ ws.length
  nms : namesL ps = ws
  ok : ∀ p ∈ ps, TrOk d p
  rk : pl = true → ∀ p ∈ ps, p.rk = true
  sm : ∀ p ∈ ps, smR p
theorem pts_leaves {ws : List Str} {pl : Bool} (h : 0 < ws.length) : Pts ws pl 0 (ws.map lfU) := ⟨by rw [List.length_map]; exact h, by rw [List.length_map]; exact Nat.le_refl _, lf_names ws, fun p hp => by
    obtain ⟨w, _, rfl⟩ := List.mem_map.mp hp
    exact trok_leaf w, fun _ p hp => by
    obtain ⟨w, _, rfl⟩ := List.mem_map.mp hp
    rfl, fun p hp => by
    obtain ⟨w, _, rfl⟩ := List.mem_map.mp hp
    exact smR_node.mpr ⟨⟨by show 0 ≤ 100; decide, fun n hn => (nomatch hn)⟩, trivial⟩⟩
theorem sm_node {k : RK} {ns : List Int} {qs : List Ru} (hl : qs.length ≤ 100) (hk : k ≠ .leaf) (hn : numOk k ns qs.length) (h : ∀ n ∈ ns, 0 ≤ n ∧ n ≤ 1000) (hq : ∀ q ∈ qs, smR q) : smR (nodeU k ns qs) := by
  refine smR_node.mpr ⟨⟨?_, h⟩, smL_of hq⟩
  show ns.length ≤ 100
  cases k with
  | leaf => exact absurd rfl hk
  | rank => obtain ⟨p, rfl, _⟩ := hn; show 1 ≤ 100; decide
  | trim => obtain ⟨p, rfl, _⟩ := hn; show 1 ≤ 100; decide
  | weigh => have := hn.1; omega
theorem node_rk {ws : List Str} {pl : Bool} {d : Nat} {ps qs : List Ru} {k : RK} {ns : List Int} (h : Pts ws pl d ps) (hq : ∀ p ∈ qs, p ∈ ps) (ht : pl = true → k ≠ .trim) (hp : pl = true) : (nodeU k ns qs).rk = true := by
  show (decide (k ≠ .trim) && qs.all Ru.rk) = true
  rw [decide_eq_true (ht hp), Bool.true_and]
  exact List.all_eq_true.mpr fun p hm => h.rk hp p (hq p hm)
theorem pts_step {ws : List Str} {pl : Bool} {d a m : Nat} {ps : List Ru} {k : RK} {ns : List Int} (h : Pts ws pl d ps) (hl : ws.length ≤ 20) (hm : 0 < m) (ha : a + m ≤ ps.length) (hk : k ≠ .leaf) (ht : pl = true → k ≠ .trim) (hn : numOk k ns ((ps.drop a).take m).length) (hsm : ∀ n ∈ ns, 0 ≤ n ∧ n ≤ 1000) :
    Pts ws pl (d + 1) (ps.take a ++ [nodeU k ns ((ps.drop a).take m)] ++ ps.drop (a + m)) := by
  have hsub : ∀ p ∈ (ps.drop a).take m, p ∈ ps := fun p hp => List.mem_of_mem_drop (List.mem_of_mem_take hp)
  have hle := h.le
  refine ⟨?_, ?_, ?_, ?_, ?_, ?_⟩
  · rw [List.length_append, List.length_append, List.length_singleton]; omega
  · rw [List.length_append, List.length_append, List.length_singleton, List.length_take, List.length_drop]; omega
  · rw [namesL_app, namesL_app]
    have e1 : namesL [nodeU k ns ((ps.drop a).take m)] = namesL ((ps.drop a).take m) := by
      show namesF (nodeU k ns ((ps.drop a).take m)) ++ [] = _
      rw [List.append_nil, namesF_nodeU hk]
    rw [e1, ← namesL_app, ← namesL_app, List.append_assoc, ← List.drop_drop, List.take_append_drop, List.take_append_drop]
    exact h.nms
  · intro p hp
    rcases List.mem_append.mp hp with hp | hp
    · rcases List.mem_append.mp hp with hp | hp
      · exact (h.ok p (List.mem_of_mem_take hp)).le (Nat.le_succ _)
      · rw [List.mem_singleton.mp hp]
        exact trok_node hk hn (by rw [List.length_take, List.length_drop]; omega) fun q hq => h.ok q (hsub q hq)
    · exact (h.ok p (List.mem_of_mem_drop hp)).le (Nat.le_succ _)
  · intro hpl p hp
    rcases List.mem_append.mp hp with hp | hp
    · rcases List.mem_append.mp hp with hp | hp
      · exact h.rk hpl p (List.mem_of_mem_take hp)
      · rw [List.mem_singleton.mp hp]
        exact node_rk h hsub ht hpl
    · exact h.rk hpl p (List.mem_of_mem_drop hp)
  · intro p hp
    rcases List.mem_append.mp hp with hp | hp
    · rcases List.mem_append.mp hp with hp | hp
      · exact h.sm p (List.mem_of_mem_take hp)
      · rw [List.mem_singleton.mp hp]
        exact sm_node (by rw [List.length_take, List.length_drop]; omega) hk hn hsm fun q hq => h.sm q (hsub q hq)
    · exact h.sm p (List.mem_of_mem_drop hp)
def P_tree : PT := fun rt xx ts => ∃ (ws : List Str) (pl : Bool), ts = [T Bx.mk, T ws, T pl] ∧ (0 < ws.length ∧ ws.length ≤ 20 ∧ ∀ r : Ru, TrOk 5 r → namesF r = ws → (pl = true → r.rk = true) → smR r → rt (T (Tt.mk r)))
theorem pc_tree {rt : Ty → Prop} {xx : Xn → Prop} {ws : List Str} {pl : Bool} (h : 0 < ws.length ∧ ws.length ≤ 20 ∧ ∀ r : Ru, TrOk 5 r → namesF r = ws → (pl = true → r.rk = true) → smR r → rt (T (Tt.mk r))) : P_tree rt xx [T Bx.mk, T ws, T pl] := ⟨_, _, rfl, h⟩
theorem ok_tree (tx : Txt K mg A) : FnR P w K mg base CX0 3 A.f_tree (spG (bs K A) P_tree) := by
  have G_take := ok_take (P := P) (w := w) (base := base) tx
  have G_node := ok_node (P := P) (w := w) (base := base) tx
  refine fnR_of tx.g_tree.d sc_tree (len_ok (n := 3) fun rt xx ts hp => by obtain ⟨_, _, rfl, _⟩ := hp; rfl) (fun cdv Ar outer s H vs Q E hr h => ⟨_, (pss_cons (ps_setLc (i := 3) (own := [("_law_word_here", 4)]) rfl sc_tree.nd rfl rfl (sw_true rfl rfl rfl (by decide +kernel)) (pi_listK K (pv 1)) (blkOk_by (N := ["_law_box_here", "_law_words_here", "_law_plain", "_law_parts", "_law_word_here", "_law_turn", "_law_at", "_law_many"]) (sc := defScope s_tree) (by decide +kernel)) (fun _ _ _ _ _ => (pg_name (i := 4) sc_tree.nd rfl (Or.inl rfl))) (fun _ _ _ _ _ => pts_nil) (fun _ _ _ _ _ => (pe_tup (pa_cons pe_str (pa_cons (pv 4) (pa_cons (pe_lst pa_nil) pa_nil))))))
        (pss_cons (ps_for PassesOwn.never rfl (pi_range1 (by rfl) tx.z_range (pa_cons (pe_callR G_take (room hr) rfl (tx.g_take).g (tx.g_take).kp pass0 (pa_cons (pv 0) (pa_cons pe_int pa_nil))) pa_nil)) (pg_name (i := 5) sc_tree.nd rfl (Or.inl rfl)) (pss_cons (ps_set (i := 6) sc_tree.nd rfl (Or.inl rfl) (pe_callR G_take (room hr) rfl (tx.g_take).g (tx.g_take).kp pass0 (pa_cons (pv 0) (pa_cons (pe_callB (call_lenK K) (by rfl) tx.z_len PySem.boot_len (pa_cons (pv 3) pa_nil)) pa_nil))))
        (pss_cons (ps_set (i := 7) sc_tree.nd rfl (Or.inl rfl) (pe_op op_add pe_int (pe_callR G_take (room hr) rfl (tx.g_take).g (tx.g_take).kp pass0 (pa_cons (pv 0) (pa_cons (pe_op op_sub (pe_callB (call_lenK K) (by rfl) tx.z_len PySem.boot_len (pa_cons (pv 3) pa_nil)) (pv 6)) pa_nil)))))
        (pss_one (ps_set (i := 3) sc_tree.nd rfl (Or.inl rfl) (pe_op op_cat (pe_op op_cat (pe_slice (sl_listK K) (pv 3) po_none (po_some (pv 6))) (pe_lst (pa_cons (pe_callR G_node (room hr) rfl (tx.g_node).g (tx.g_node).kp pass0 (pa_cons (pv 0) (pa_cons (pe_slice (sl_listK K) (pv 3) (po_some (pv 6)) (po_some (pe_op op_add (pv 6) (pv 7)))) (pa_cons (pv 2) pa_nil)))) pa_nil))) (pe_slice (sl_listK K) (pv 3) (po_some (pe_op op_add (pv 6) (pv 7))) po_none)))))))
        (pss_cons (ps_if (PW.pt (pw_and (pt_cmpR (op_eqDK K (huD hr)) (pe_callB (call_lenK K) (by rfl) tx.z_len PySem.boot_len (pa_cons (pv 3) pa_nil)) pe_int (nomark _)) (pw_and1 (pt_cmpR (op_eqDK K (huD hr)) (pe_callR G_take (room hr) rfl (tx.g_take).g (tx.g_take).kp pass0 (pa_cons (pv 0) (pa_cons pe_int pa_nil))) pe_int (nomark _))))) (pss_one (ps_ret (pe_ix (ix_listK K) (pv 3) pe_int (fun _ _ => rfl)))) pss_nil)
        (pss_one (ps_ret (pe_callR G_node (room hr) rfl (tx.g_node).g (tx.g_node).kp pass0 (pa_cons (pv 0) (pa_cons (pv 3) (pa_cons (pv 2) pa_nil))))))))),
      body_ok (N := ["_law_box_here", "_law_words_here", "_law_plain", "_law_parts", "_law_word_here", "_law_turn", "_law_at", "_law_many"]) (fun W ts rt xx hB ho hw hp => ?_) h⟩)
  have hK : W.B.K = K := congrArg Bs.K hB
  obtain ⟨ws, pl, rfl, hp⟩ := hp
  show Sx W _ [some (T Bx.mk), some (T ws), some (T pl), none, none, none, none, none] _
  obtain ⟨hw0, hw1, hp⟩ := hp
  refine sx_seq (sx_set (α := List Tt) (rα := inferInstance) ?_)
  refine ev_lcF (fun _ => true) (fun w => Tt.mk (lfU w)) hK (ev_var rfl ⟨by omega, fun W' sb n hn => ⟨[4], rfl, ?_⟩, ?_⟩)
  · apply tj_name
    refine et_yes ⟨fun _ => ?_, fun h => (nomatch h)⟩
    refine ev_mkt (α := Str) (rα := inferInstance) (ev_str (ev_var rfl (ev_lst (α := Tt) (rα := inferInstance) (el_nil ⟨by decide, lfU n, rfl, rfl, trX_leaf, rfl, rfl⟩))))
  rw [filtT, show (ws.map fun w => Tt.mk (lfU w)) = (ws.map lfU).map Tt.mk by rw [List.map_map]; rfl]
  show Sx W _ [some (T Bx.mk), some (T ws), some (T pl), some (T ((ws.map lfU).map Tt.mk)), none, none, none, none] _
  refine sx_seq (sx_forR ?_)
  refine ev_callR hB (ea_cons (ev_var rfl (ea_cons (ev_int (ea_nil (pc_take ⟨by decide, by decide, fun n n0 n1 => ⟨_, rfl, ?_⟩⟩))))))
  refine ⟨by omega, fun i Γ' => ∃ (ps : List Ru) (o5 o6 o7 : Option Ty), Pts ws pl i ps ∧ Γ' = [some (T Bx.mk), some (T ws), some (T pl), some (T (ps.map Tt.mk)), none, o5, o6, o7], ⟨_, none, none, none, pts_leaves hw0, rfl⟩, ?_, ?_⟩
  · rintro i Γ' hi ⟨ps, o5, o6, o7, hps, rfl⟩
    have hpe := hps.ne
    have hpl := hps.le
    apply tg_of
    walk_at "g"
    rw [List.length_map]
    refine pc_take ⟨by omega, by omega, fun a0 z0 z1 => ⟨_, rfl, ?_⟩⟩
    obtain ⟨a, rfl⟩ : ∃ a : Nat, a0 = a := ⟨a0.toNat, by omega⟩
    refine sx_seq (sx_set (α := Int) (rα := inferInstance) (ev_opI (ev_int (ev_callR hB (ea_cons (ev_var rfl (ea_cons (α := Int) (rα := inferInstance) (ev_opI (ev_len hK (ev_var rfl (ev_var rfl (ea_nil ?_))))))))))))
    rw [List.length_map]
    refine pc_take ⟨by omega, by omega, fun m0 y0 y1 => ⟨_, rfl, ?_⟩⟩
    obtain ⟨m, rfl⟩ : ∃ m : Nat, m0 = m := ⟨m0.toNat, by omega⟩
    show Sx W _ [some (T Bx.mk), some (T ws), some (T pl), some (T (ps.map Tt.mk)), none, some (T (i : Int)), some (T (a : Int)), some (T (1 + (m : Int)))] _
    refine sx_set (α := List Tt) (rα := inferInstance) (ev_cat (ev_cat (ev_upto hK (ev_var rfl (ev_var rfl ⟨by omega, ?_⟩)))))
    rw [Int.toNat_natCast]
    refine ev_lst (α := Tt) (rα := inferInstance) (el_cons (ev_callR hB (ea_cons (ev_var rfl (ea_cons (ev_cut (α := Tt) (rα := inferInstance) hK (ev_var rfl (ev_var rfl (ev_opI (ev_var rfl (ev_var rfl ?_)))))))))))
    refine ⟨⟨by omega, by omega, by rw [List.length_map]; omega⟩, ea_cons (ev_var rfl (ea_nil ?_))⟩
    rw [Int.toNat_natCast, show ((a : Int) + (1 + (m : Int))).toNat - a = m + 1 by omega, ← List.map_drop, ← List.map_take, ← List.map_take]
    refine pc_node (ps := (ps.drop a).take (m + 1)) (pl := pl) ⟨by rw [List.length_take, List.length_drop]; omega, by rw [List.length_take, List.length_drop]; omega, fun k ns hk ht hn hsm => ⟨_, rfl, ?_⟩⟩
    refine el_nil ⟨by show 1 ≤ 100000; decide, by rw [List.length_map, List.length_take]; show _ + 1 ≤ _; omega, ?_⟩
    refine ev_fromN hK (ev_var rfl (ev_opI (ev_var rfl (ev_var rfl ⟨⟨by omega, by rw [List.length_map]; omega⟩, ?_⟩))))
    rw [show ((a : Int) + (1 + (m : Int))).toNat = a + (m + 1) by omega, ← List.map_drop]
    refine ⟨?_, ?_⟩
    · rw [List.length_append, List.length_map, List.length_map, List.length_take, List.length_drop]
      show _ + 1 + _ ≤ _
      omega
    refine ⟨ps.take a ++ [nodeU k ns ((ps.drop a).take (m + 1))] ++ ps.drop (a + (m + 1)), some (T (i : Int)), some (T (a : Int)), some (T (1 + (m : Int))), pts_step hps hw1 (by omega) (by omega) hk ht hn hsm, ?_⟩
    rw [List.map_append, List.map_append]
    rfl
  · rintro Γ' ⟨ps, o5, o6, o7, hps, rfl⟩
    have hpe := hps.ne
    have hpl := hps.le
    have hn3 : n.toNat ≤ 3 := by omega
    have fin : Sx W (tRet (tCallR (spG (bs K A) P_node) E0 (tCons (tVar 0) (tCons (tVar 3) (tCons (tVar 2) tNil))))) [some (T Bx.mk), some (T ws), some (T pl), some (T (ps.map Tt.mk)), none, o5, o6, o7] { nx := fun _ => rt (T ()), rt := rt } := by
      refine sx_ret (α := Tt) (rα := inferInstance) (ev_callR hB (ea_cons (ev_var rfl (ea_cons (ev_var rfl (ea_cons (ev_var rfl (ea_nil (pc_node ⟨hpe, by omega, fun k ns hk ht hn hsm => ⟨_, rfl, ?_⟩⟩)))))))))
      exact hp _ ((trok_node hk hn (by omega) hps.ok).le (by omega)) (by rw [namesF_nodeU hk]; exact hps.nms) (fun h => node_rk hps (fun _ hq => hq) ht h) (sm_node (by omega) hk hn hsm hps.sm)
    refine sx_seq (sx_if ?_)
    refine et_and (et_test ?_)
    refine ev_eqG hK (ev_len hK (ev_var rfl (ev_int ?_)))
    rw [List.length_map]
    walk_at "g"
    refine ⟨fun h1 => et_test ?_, fun h1 => ⟨fun h => (nomatch h), fun _ => sx_next fin⟩⟩
    refine ev_eqG hK (ev_callR hB (ea_cons (ev_var rfl (ea_cons (ev_int (ea_nil (pc_take ⟨by decide, by decide, fun z z0 z1 => ⟨_, rfl, ev_int ?_⟩⟩)))))))
    walk_at "g"
    refine ⟨fun h2 => ?_, fun h2 => sx_next fin⟩
    have h1 : (ps.length : Int) = 1 := of_decide_eq_true h1
    obtain ⟨r, rfl⟩ := len1 (show ps.length = 1 by omega)
    refine sx_ret (ev_ixL (α := Tt) (rα := inferInstance) hK (ev_var rfl (ev_int ⟨Tt.mk r, atI_nat (j := 0) rfl, ?_⟩)))
    exact hp r ((hps.ok r (List.mem_singleton.mpr rfl)).le (by omega)) (by have := hps.nms; rw [show namesL [r] = namesF r ++ [] from rfl, List.append_nil] at this; exact this) (fun h => hps.rk h r (List.mem_singleton.mpr rfl)) (hps.sm r (List.mem_singleton.mpr rfl))
theorem ok_DuplicateGauge_init (tx : Txt K mg A) : FnR P w K mg base CX0 1 A.f_DuplicateGauge_init (spEr A.c_DuplicateGauge (shStr "name")) := by
  refine fnR_of tx.d_DuplicateGauge_init sc_DuplicateGauge_init (fun vs H Q E h => ?_) (fun cdv Ar outer s H vs Q E hr h => ?_)
  · obtain ⟨a, as, fs, rfl, ⟨i, rfl, _⟩, _⟩ := h; rfl
  · refine ⟨_, (pss_cons (ps_expr (pe_geinitK K tx.ge (pa_cons (pv 0) (pa_cons (pe_joined (PJ.cons pe_str (PJ.cons (pe_fmtR (pv 1)) (PJ.cons pe_str PJ.nil)))) pa_nil))))
        (pss_one (ps_ostK K (pv 0) (pv 1)))), ?_⟩
    try dsimp only [cxOf, Cx.nox]
    obtain ⟨a, as, fs, rfl, ⟨i, rfl, s1, s2, rfl⟩, ha, k⟩ := h
    exact err_one tx.xo_DuplicateGauge tx.n_DuplicateGauge_name rfl rfl (first_ge tx.xo_DuplicateGauge rfl ha fun Q q => js_ok q (.cons c_is (by decide) (.cons (fmt_rep (var_is rfl) s1) s1 (.cons c_is (by decide) .nil))) (by decide)) ha k
theorem ok_MissingReading_init (tx : Txt K mg A) : FnR P w K mg base CX0 1 A.f_MissingReading_init (spEr A.c_MissingReading (shStr "name")) := by
  refine fnR_of tx.d_MissingReading_init sc_MissingReading_init (fun vs H Q E h => ?_) (fun cdv Ar outer s H vs Q E hr h => ?_)
  · obtain ⟨a, as, fs, rfl, ⟨i, rfl, _⟩, _⟩ := h; rfl
  · refine ⟨_, (pss_cons (ps_expr (pe_geinitK K tx.ge (pa_cons (pv 0) (pa_cons (pe_joined (PJ.cons pe_str (PJ.cons (pe_fmtR (pv 1)) (PJ.cons pe_str PJ.nil)))) pa_nil))))
        (pss_one (ps_ostK K (pv 0) (pv 1)))), ?_⟩
    try dsimp only [cxOf, Cx.nox]
    obtain ⟨a, as, fs, rfl, ⟨i, rfl, s1, s2, rfl⟩, ha, k⟩ := h
    exact err_one tx.xo_MissingReading tx.n_MissingReading_name rfl rfl (first_ge tx.xo_MissingReading rfl ha fun Q q => js_ok q (.cons c_is (by decide) (.cons (fmt_rep (var_is rfl) s1) s1 (.cons c_is (by decide) .nil))) (by decide)) ha k
theorem ok_BadRule_init (tx : Txt K mg A) : FnR P w K mg base CX0 1 A.f_BadRule_init (spEr A.c_BadRule (shStr "kind")) := by
  refine fnR_of tx.d_BadRule_init sc_BadRule_init (fun vs H Q E h => ?_) (fun cdv Ar outer s H vs Q E hr h => ?_)
  · obtain ⟨a, as, fs, rfl, ⟨i, rfl, _⟩, _⟩ := h; rfl
  · refine ⟨_, (pss_cons (ps_expr (pe_geinitK K tx.ge (pa_cons (pv 0) (pa_cons (pe_joined (PJ.cons pe_str (PJ.cons (pe_fmt (pv 1)) (PJ.cons pe_str PJ.nil)))) pa_nil))))
        (pss_one (ps_ostK K (pv 0) (pv 1)))), ?_⟩
    try dsimp only [cxOf, Cx.nox]
    obtain ⟨a, as, fs, rfl, ⟨i, rfl, s1, s2, rfl⟩, ha, k⟩ := h
    exact err_one tx.xo_BadRule tx.n_BadRule_kind rfl rfl (first_ge tx.xo_BadRule rfl ha fun Q q => js_ok q (.cons c_is (by decide) (.cons (fmt_str (var_is rfl) s2) s2 (.cons c_is (by decide) .nil))) (by decide)) ha k
def P_Leaf_names : PF Str := fun k ts => ∃ r : Ru, ts = [T r] ∧ r.k = .leaf ∧ k (namesF r)
theorem ok_Leaf_names (tx : Txt K mg A) : FnR P w K mg base CX0 1 A.f_Leaf_names (spFr (bs K A) P_Leaf_names) := by
  refine fnR_of tx.d_Leaf_names sc_Leaf_names (fun vs H Q E h => ?_) (fun cdv Ar outer s H vs Q E hr h => ?_)
  · obtain ⟨W, ts, k, _, _, _, d, ⟨r, rfl, _⟩, _⟩ := h; exact d.length
  · refine ⟨_, (pss_one (ps_ret (pe_lst (pa_cons (pe_fldK K (pv 0) rfl) pa_nil)))), ?_⟩
    try dsimp only [cxOf, Cx.nox]
    obtain ⟨W, ts, k, hB, ho, hw, d, ⟨r, rfl, hk, kk⟩, hq⟩ := h
    have hK : W.B.K = K := congrArg Bs.K hB
    have G0 : GOk W H (L2.start ["self"] vs) [some (T r)] := start_ok ho hw d
    refine (evF_lst (k := fun bs => bs = namesF r) (el_cons (ev_rlabel hK (ev_var rfl (el_nil ⟨by show 1 ≤ 100000; decide, (namesF_leaf hk).symm⟩)))) : EvF W _ [some (T r)] _) _ H _ G0 fun p H' ws bs n e hp hd q => hq p H' ws bs n e hp hd (q ▸ kk)
def P_Rule_names (d : Nat) : PF Str := fun k ts => ∃ r : Ru, ts = [T r] ∧ (r.k ≠ .leaf ∧ depR r ≤ d ∧ kdsR [RK.leaf, RK.rank, RK.trim, RK.weigh] r ∧ (namesF r).length ≤ 1000) ∧ k (namesF r)
theorem ok_Rule_names (tx : Txt K mg A) : ∀ d : Nat, FnR P w K mg base CX0 (d + 2) A.f_Rule_names (spFr (bs K A) (P_Rule_names d)) := by
  intro d
  induction d with
  | zero => 
    exact fun _ _ _ _ _ _ _ _ _ _ _ h => by
      obtain ⟨W, ts, k, _, _, _, _, ⟨r, _, ⟨hk, hd, _⟩, _⟩, _⟩ := h
      rw [depR_node hk] at hd
      omega
  | succ d ih =>
  have G_Rule_names := ih
  have G_Leaf_names := ok_Leaf_names (P := P) (w := w) (base := base) tx
  refine fnR_of tx.d_Rule_names sc_Rule_names (fun vs H Q E h => ?_) (fun cdv Ar outer s H vs Q E hr h => ?_)
  · obtain ⟨W, ts, k, _, _, _, d, ⟨r, rfl, _⟩, _⟩ := h; exact d.length
  · refine ⟨_, (pss_one (ps_ret (pe_lc2 (own := [("part", 1), ("name", 2)]) (vs1 := [2]) rfl sc_Rule_names.nd (pi_tupK K (pe_fldK K (pv 0) rfl)) (blkOk_by (N := ["self", "part", "name"]) (sc := defScope s_Rule_names) (by decide +kernel)) (by decide) (fun _ _ _ _ _ => (pg_name (i := 1) sc_Rule_names.nd rfl (Or.inl rfl))) (fun _ _ _ _ _ => pts_nil) (fun _ _ _ _ _ => (pi_listK K (pe_methV0 (k := (d + 2)) (E := fun _ => E0) (S := (fun C sp => (C = A.c_Leaf ∧ sp = (spFr (bs K A) P_Leaf_names)) ∨ (C = A.c_Rank ∧ sp = (spFr (bs K A) (P_Rule_names d))) ∨ (C = A.c_Trim ∧ sp = (spFr (bs K A) (P_Rule_names d))) ∨ (C = A.c_Weigh ∧ sp = (spFr (bs K A) (P_Rule_names d))))) (pv 1) (fun C sp h => match C, sp, h with | _, _, .inl ⟨rfl, rfl⟩ => ⟨tx.cl_Leaf, _, tx.mi_Leaf_names, FnR.mono G_Leaf_names (by omega)⟩ | _, _, .inr (.inl ⟨rfl, rfl⟩) => ⟨tx.cl_Rank, _, tx.mi_Rank_names, FnR.mono G_Rule_names (by omega)⟩ | _, _, .inr (.inr (.inl ⟨rfl, rfl⟩)) => ⟨tx.cl_Trim, _, tx.mi_Trim_names, FnR.mono G_Rule_names (by omega)⟩ | _, _, .inr (.inr (.inr (⟨rfl, rfl⟩))) => ⟨tx.cl_Weigh, _, tx.mi_Weigh_names, FnR.mono G_Rule_names (by omega)⟩) (room hr (by omega)) passS0))) (fun _ _ _ _ _ => (pg_name (i := 2) sc_Rule_names.nd rfl (Or.inl rfl))) (fun _ _ _ _ _ => pts_nil) (fun _ _ _ _ _ => (pv 2))))), ?_⟩
    try dsimp only [cxOf, Cx.nox]
    obtain ⟨W, ts, k, hB, ho, hw, dt, ⟨r, rfl, ⟨hk, hdr, hkr, hln⟩, kk⟩, hq⟩ := h
    have hK : W.B.K = K := congrArg Bs.K hB
    have G0 : GOk W H (L2.start ["self", "part", "name"] vs) [some (T r), none, none] := start_ok ho hw dt
    rw [depR_node hk] at hdr
    have hdp : depRL r.ps < d + 1 := by omega
    obtain ⟨_, hks⟩ := kdsR_node.mp hkr
    have hnm := namesF_node hk
    rw [hnm] at hln kk
    have hpl : ∀ p ∈ r.ps, (namesF p).length ≤ 1000 := fun p hp => Nat.le_trans (names_mem_le hp) hln
    refine (evF_lc2G (α := Ru) (β := Str) (γ := Str) (rα := inferInstance) (rβ := inferInstance) (rγ := inferInstance) namesF (k := fun bs => bs = r.ps.flatMap namesF) (ei_tup hK (ev_rparts hK (ev_var rfl ?_))) : EvF W _ [some (T r), none, none] _) _ H _ G0 fun p H' ws bs n e hp hd q => hq p H' ws bs n e hp hd (q ▸ kk)
    refine ⟨by show (r.ps.flatMap namesF).length ≤ 100000; omega, fun W' sb p hpm => ⟨[1], rfl, ?_⟩, rfl⟩
    have hB' : W'.B = bs K A := sb.B.trans hB
    have hK' : W'.B.K = K := congrArg Bs.K hB'
    apply tj_name
    refine et_yes ⟨fun h => (nomatch h), fun _ => ei_list hK' ?_⟩
    refine (evF_methW (β := Ru) (γ := Str) (k := fun bs => bs = namesF p) hB' (by decide) (ev_var rfl ?_)).k.imp ?_
    · have hkp := (kdsR_node.mp (kdsRL_mem hks hpm)).1
      have hkk : p.k ∈ [RK.leaf, RK.rank, RK.trim, RK.weigh] := hkp
      show ∃ P : PF Str, _ ∧ EvA W' tNil _ fun ts => P _ (T p :: ts)
      cases hk2 : p.k with
      | leaf => exact ⟨_, .inl (⟨kn_ru hk2, rfl⟩), ea_nil ⟨_, rfl, hk2, rfl⟩⟩
      | rank => exact ⟨_, .inr (.inl (⟨kn_ru hk2, rfl⟩)), ea_nil ⟨_, rfl, ⟨by rw [hk2]; decide, Nat.le_of_lt_succ (Nat.lt_of_le_of_lt (depR_mem hpm) hdp), kdsRL_mem hks hpm, hpl p hpm⟩, rfl⟩⟩
      | trim => exact ⟨_, .inr (.inr (.inl (⟨kn_ru hk2, rfl⟩))), ea_nil ⟨_, rfl, ⟨by rw [hk2]; decide, Nat.le_of_lt_succ (Nat.lt_of_le_of_lt (depR_mem hpm) hdp), kdsRL_mem hks hpm, hpl p hpm⟩, rfl⟩⟩
      | weigh => exact ⟨_, .inr (.inr (.inr (⟨kn_ru hk2, rfl⟩))), ea_nil ⟨_, rfl, ⟨by rw [hk2]; decide, Nat.le_of_lt_succ (Nat.lt_of_le_of_lt (depR_mem hpm) hdp), kdsRL_mem hks hpm, hpl p hpm⟩, rfl⟩⟩
    · rintro bs rfl
      refine ⟨fun _ => true, id, by rw [List.filter_eq_self.mpr (fun _ _ => rfl), List.map_id], fun W2 sb2 b hb => ⟨[2], rfl, ?_⟩⟩
      apply tj_name
      exact et_yes ⟨rfl, fun _ => ev_var rfl rfl⟩
def P_Rule_init (K : PySem.W.Frag) (A : Ad) : PI RuB := fun c k x ts => ∃ (kd : RK) (lb : Str) (ns : List Int) (ps : List Ru), c = kd.cn ∧ (ts = [T lb, T (Tl.mk ns), T (Tl.mk ps)] ∨ ts = [T lb, T ns, T (Tl.mk ps)]) ∧ RcT (bs K A) kd ∧ (kd ∈ [RK.leaf, RK.rank, RK.trim, RK.weigh] ∧ kdsRL [RK.leaf, RK.rank, RK.trim, RK.weigh] ps ∧ depRL ps ≤ 7 ∧ ps.length ≤ 1000 ∧ (namesF (.mk kd lb ns ps (ps.all Ru.rk))).length ≤ 1000) ∧
  (match dupF (namesF (.mk kd lb ns ps (ps.all Ru.rk))) with | none => k (ruB lb ns ps (ps.all Ru.rk)) | some n => (reprText n).length ≤ 3000 ∧ n.length ≤ 3000 ∧ x ⟨.DuplicateGauge, [("name", .s n)]⟩)
theorem ok_Rule_init (tx : Txt K mg A) : FnR P w K mg base (L2.CX P w) 11 A.f_Rule_init (spIn (bs K A) (P_Rule_init K A)) := by
  have G_Leaf_names := ok_Leaf_names (P := P) (w := w) (base := base) tx
  have G_Rule_names := ok_Rule_names (P := P) (w := w) (base := base) tx 8
  have G_DuplicateGauge_init := ok_DuplicateGauge_init (P := P) (w := w) (base := base) tx
  refine fnRX_of tx.d_Rule_init sc_Rule_init (fun vs H Q E h => ?_) (fun cdv Ar outer s H vs Q E hr h => ?_)
  · obtain ⟨W, F, p, dx, c, ws, ts, k, x, oF, nF, rfl, _, _, _, _, hd, ⟨kd, lb, ns, ps, _, hts, _⟩, _⟩ := h
    have := hd.length
    rcases hts with rfl | rfl <;> exact congrArg (· + 1) this
  · refine ⟨_, (pss_cons (ps_fldK K (pv 0) (pv 1) rfl)
        (pss_cons (ps_fldK K (pv 0) (pe_tupleOfK K (by rfl) tx.z_tuple (pv 2)) rfl)
        (pss_cons (ps_fldK K (pv 0) (pv 3) rfl)
        (pss_cons (ps_fldK K (pv 0) (pe_callB (cr_all rfl) (by rfl) tx.z_all (by decide +kernel) (pa_cons (pe_lc (own := [("part", 4)]) rfl sc_Rule_init.nd (pi_tupK K (pv 3)) (blkOk_by (N := ["self", "label", "numbers", "parts", "part", "names", "at", "name"]) (sc := defScope s_Rule_init) (by decide +kernel)) (fun _ _ _ _ _ => (pg_name (i := 4) sc_Rule_init.nd rfl (Or.inl rfl))) (fun _ _ _ _ _ => pts_nil) (fun _ _ _ _ _ => (pe_fldK K (pv 4) rfl))) pa_nil)) rfl)
        (pss_cons (ps_set (i := 5) sc_Rule_init.nd rfl (Or.inl rfl) (pe_methV0 (k := 10) (E := fun _ => E0) (S := (fun C sp => (C = A.c_Leaf ∧ sp = (spFr (bs K A) P_Leaf_names)) ∨ (C = A.c_Rank ∧ sp = (spFr (bs K A) (P_Rule_names 8))) ∨ (C = A.c_Trim ∧ sp = (spFr (bs K A) (P_Rule_names 8))) ∨ (C = A.c_Weigh ∧ sp = (spFr (bs K A) (P_Rule_names 8))))) (pv 0) (fun C sp h => match C, sp, h with | _, _, .inl ⟨rfl, rfl⟩ => ⟨tx.cl_Leaf, _, tx.mi_Leaf_names, FnR.mono G_Leaf_names (by decide)⟩ | _, _, .inr (.inl ⟨rfl, rfl⟩) => ⟨tx.cl_Rank, _, tx.mi_Rank_names, FnR.mono G_Rule_names (by decide)⟩ | _, _, .inr (.inr (.inl ⟨rfl, rfl⟩)) => ⟨tx.cl_Trim, _, tx.mi_Trim_names, FnR.mono G_Rule_names (by decide)⟩ | _, _, .inr (.inr (.inr (⟨rfl, rfl⟩))) => ⟨tx.cl_Weigh, _, tx.mi_Weigh_names, FnR.mono G_Rule_names (by decide)⟩) (room hr) passS0))
        (pss_one (ps_for PassesOwn.leaving rfl (pi_enum (by rfl) tx.z_enumerate (pa_cons (pv 5) pa_nil)) (pg_tupK (n := 2) K rfl (pgs_cons (pg_name (i := 6) sc_Rule_init.nd rfl (Or.inl rfl)) (pgs_cons (pg_name (i := 7) sc_Rule_init.nd rfl (Or.inl rfl)) pgs_nil))) (pss_one (ps_if (pt_cmpR (op_inSeqK K) (pv 7) (pe_slice (sl_listK K) (pv 5) po_none (po_some (pv 6))) rfl) (pss_one (ps_raise rfl (takes_of rfl rfl rfl rfl) (pmk_oexR tx.xo_DuplicateGauge tx.xi_DuplicateGauge tx.xt_DuplicateGauge G_DuplicateGauge_init (room hr) pass0 rfl tx.c_DuplicateGauge (pa_cons (pv 7) pa_nil)))) pss_nil))))))))), ?_⟩
    refine init_ok (N := ["self", "label", "numbers", "parts", "part", "names", "at", "name"]) (fun W F p dx c ts k x hB hw hp => ?_) h
    have hK : W.B.K = K := congrArg Bs.K hB
    obtain ⟨kd, lb, ns, ps, rfl, hts, hc, ⟨hkk, hkds, hdep, hpl, hln⟩, hend⟩ := hp
    have hc' : RcT W.B kd := by rw [hB]; exact hc
    obtain ⟨c0, n1, n2, n3, n4⟩ := hc.use hB hK
    obtain ⟨o2, rfl, htup⟩ : ∃ o2 : Ty, ts = [T lb, o2, T (Tl.mk ps)] ∧ ∀ (Wo : Wd) (Γ : Gam) (k : Tl Int → Prop), Wo.B.K = K → Γ[2]? = some (some o2) → k ⟨ns⟩ → EvK Wo (tThen (tVar 2) (kTup K)) Γ k := by
      rcases hts with rfl | rfl
      · exact ⟨T (Tl.mk ns), rfl, fun Wo Γ k hKo hi q => ev_tupT hKo (ev_var hi q)⟩
      · exact ⟨T ns, rfl, fun Wo Γ k hKo hi q => ev_tupL hKo (ev_var hi q)⟩
    show SxH W F _ [(p, .ins (W.B.cl kd.cn) dx [])] [some (T (Oi.mk p kd.cn dx [] ())), some (T lb), some o2, some (T (Tl.mk ps)), none, none, none, none] _
    refine sxh_seq (sxh_setn (α := Str) (rα := inferInstance) (f := "label") 0 hK c0 n1 rfl rfl (by show 0 < 1000; decide) (fun z => (nomatch z)) fun Wo hW => ev_var rfl fun fs1 => ?_)
    show SxH W F _ [(p, .ins (W.B.cl kd.cn) dx fs1)] [some (T (Oi.mk p kd.cn dx fs1 ((⟨"label", lb⟩, ()) : Fd Str × Unit))), some (T lb), some o2, some (T (Tl.mk ps)), none, none, none, none] _
    refine sxh_seq (sxh_setn (α := Tl Int) (rα := inferInstance) (f := "numbers") 0 hK c0 n2 rfl rfl (by show 1 < 1000; decide) (by show ("numbers" : Str) ∉ [("label" : Str)]; decide +kernel) fun Wo hW => htup Wo _ _ (by rw [hW.B]; exact hK) rfl fun fs2 => ?_)
    show SxH W F _ [(p, .ins (W.B.cl kd.cn) dx fs2)] [some (T (Oi.mk p kd.cn dx fs2 ((⟨"numbers", ⟨ns⟩⟩, ⟨"label", lb⟩, ()) : Fd (Tl Int) × Fd Str × Unit))), some (T lb), some o2, some (T (Tl.mk ps)), none, none, none, none] _
    refine sxh_seq (sxh_setn (α := Tl Ru) (rα := inferInstance) (f := "parts") 0 hK c0 n3 rfl rfl (by show 2 < 1000; decide) (by show ("parts" : Str) ∉ [("label" : Str), ("numbers" : Str)]; decide +kernel) fun Wo hW => ev_var rfl fun fs3 => ?_)
    show SxH W F _ [(p, .ins (W.B.cl kd.cn) dx fs3)] [some (T (Oi.mk p kd.cn dx fs3 ((⟨"parts", ⟨ps⟩⟩, ⟨"numbers", ⟨ns⟩⟩, ⟨"label", lb⟩, ()) : Fd (Tl Ru) × Fd (Tl Int) × Fd Str × Unit))), some (T lb), some o2, some (T (Tl.mk ps)), none, none, none, none] _
    refine sxh_seq (sxh_setn (α := Bool) (rα := inferInstance) (f := "ranked") 0 hK c0 n4 rfl rfl (by show 3 < 1000; decide) (by show ("ranked" : Str) ∉ [("label" : Str), ("numbers" : Str), ("parts" : Str)]; decide +kernel) fun Wo hW => ?_)
    have hBo : Wo.B = bs K A := hW.B.trans hB
    have hKo : Wo.B.K = K := congrArg Bs.K hBo
    apply ev_all hKo
    refine (evF_lcTF (fun _ => true) (fun r : Ru => r.rk) hKo (ev_var rfl ⟨by show ps.length ≤ 100000; omega, fun W' sb q hq => ⟨[4], rfl, ?_⟩, fun fs4 => ?_⟩)).k
    · have hB' : W'.B = bs K A := sb.B.trans hBo
      have hK' : W'.B.K = K := congrArg Bs.K hB'
      apply tj_name
      exact et_yes ⟨fun _ => ev_rranked hK' (ev_var rfl ⟨rfl, rfl⟩), fun h => (nomatch h)⟩
    have eall : ((List.filter (fun _ => true) ps).map fun r : Ru => r.rk).all id = ps.all Ru.rk := by
      rw [List.filter_eq_self.mpr (fun _ _ => rfl), List.all_map]
      rfl
    show SxH W F _ [(p, .ins (W.B.cl kd.cn) dx fs4)] [some (T (Oi.mk p kd.cn dx fs4 (ruB lb ns ps (((List.filter (fun _ => true) ps).map fun r : Ru => r.rk).all id)))), some (T lb), some o2, some (T (Tl.mk ps)), none, none, none, none] _
    rw [eall]
    refine sxh_seq (sxh_lookF (β := Str) (rβ := inferInstance) (FrzH.ownI (o := Oi.mk p kd.cn dx fs4 (ruB lb ns ps (ps.all Ru.rk))) (a := ruMk kd (ruB lb ns ps (ps.all Ru.rk))) (List.mem_singleton.mpr rfl) (fun W' H' e m hH hf => ru_hden hc' W' H' p dx fs4 _ e m hH hf ⟨_, _, _, _, rfl⟩) (.same (.same (.same (.same (.same (.same (.same .nil)))))))) ?_)
    refine EvF.imp (k := fun bs => bs = namesF (.mk kd lb ns ps (ps.all Ru.rk))) (evF_methW (β := Ru) (γ := Str) hB (by decide) (ev_var rfl ?_)) ?_
    · show ∃ P : PF Str, _ ∧ EvA W tNil _ fun ts => P _ (T (Ru.mk kd lb ns ps (ps.all Ru.rk)) :: ts)
      clear hend htup c0 n1 n2 n3 n4
      cases kd with
      | leaf => exact ⟨_, .inl (⟨rfl, rfl⟩), ea_nil ⟨_, rfl, rfl, rfl⟩⟩
      | rank => exact ⟨_, .inr (.inl (⟨rfl, rfl⟩)), ea_nil ⟨_, rfl, ⟨(by show RK.rank ≠ RK.leaf; decide), by show depRL ps + 1 ≤ 8; omega, ⟨hkk, hkds⟩, hln⟩, rfl⟩⟩
      | trim => exact ⟨_, .inr (.inr (.inl (⟨rfl, rfl⟩))), ea_nil ⟨_, rfl, ⟨(by show RK.trim ≠ RK.leaf; decide), by show depRL ps + 1 ≤ 8; omega, ⟨hkk, hkds⟩, hln⟩, rfl⟩⟩
      | weigh => exact ⟨_, .inr (.inr (.inr (⟨rfl, rfl⟩))), ea_nil ⟨_, rfl, ⟨(by show RK.weigh ≠ RK.leaf; decide), by show depRL ps + 1 ≤ 8; omega, ⟨hkk, hkds⟩, hln⟩, rfl⟩⟩
    rintro nms rfl
    generalize hnm : namesF (Ru.mk kd lb ns ps (ps.all Ru.rk)) = nms at hend hln ⊢
    show SxH W F _ [(p, .ins (W.B.cl kd.cn) dx fs4)] [some (T (Oi.mk p kd.cn dx fs4 (ruB lb ns ps (ps.all Ru.rk)))), some (T lb), some o2, some (T (Tl.mk ps)), none, some (T nms), none, none] _
    refine sxh_pure fun Wo hW => ?_
    have hBo : Wo.B = bs K A := hW.B.trans hB
    have hKo : Wo.B.K = K := congrArg Bs.K hBo
    refine sx_forI (ei_enum hKo (ev_var rfl ⟨fun i Γ' => dupG (nms.take i) (nms.drop i) = dupF nms ∧ ∃ o6 o7, Γ' = [some (T (Oi.mk p kd.cn dx fs4 (ruB lb ns ps (ps.all Ru.rk)))), some (T lb), some o2, some (T (Tl.mk ps)), none, some (T nms), o6, o7], ⟨rfl, none, none, rfl⟩, ?_, ?_⟩))
    · rintro i a Γ' ha ⟨hd, o6, o7, rfl⟩
      obtain ⟨nm, hnmi, rfl⟩ := enumF_get ha
      have hstep := dupG_step hnmi rfl
      rw [hd] at hstep
      refine ⟨[6] ++ [7], tj_tup2 hKo (tj_name (tj_name ?_))⟩
      refine sx_if ?_
      apply et_test
      refine ev_inS hKo ?_
      walk_at "g"
      refine ev_upto hKo ?_
      walk_at "g"
      refine ⟨by omega, ?_⟩
      rw [Int.toNat_natCast]
      refine ⟨fun h1 => ?_, fun h1 => ?_⟩
      · rw [if_pos (of_decide_eq_true h1)] at hstep
        rw [hstep] at hend
        obtain ⟨s1, s2, hxx⟩ := hend
        refine sx_raise (c := .DuplicateGauge) (Wx := fun cls d _ H => E cls d H) hBo rfl (hx_of (hW.err E x hw)) ?_
        exact ea_cons (ev_var rfl (ea_nil ⟨_, shStr_ok s1 s2, hxx⟩))
      · rw [if_neg (of_decide_eq_false h1)] at hstep
        exact sx_next ⟨hstep.symm, _, _, rfl⟩
    · rintro Γ' ⟨hd, o6, o7, rfl⟩
      rw [enumF_length, List.take_length, List.drop_length] at hd
      rw [← hd] at hend
      exact ⟨_, _, rfl, rfl, hend⟩
def P_Leaf_init (K : PySem.W.Frag) (A : Ad) : PI RuB := fun c k x ts => ∃ (lb : Str), c = .Leaf ∧ ts = [T lb] ∧ k (ruB lb [] [] true)
theorem ev_leaf {K : PySem.W.Frag} {mg : Str → Option Value} {A : Ad} (tx : Txt K mg A) {W : Wd} {Γ : Gam} {te : TE} {E : L2.St → XK} {k : Ru → Prop} (hB : W.B = bs K A) (hx : HX W Γ E fun _ => False) (h : EvK W te Γ fun w : Str => k (lfU w)) : EvK W (tMakeZ A.c_Leaf (spIn (bs K A) (P_Leaf_init K A)) E (tCons te tNil)) Γ k :=
  ev_make (ruMk .leaf) (fun b => ∃ lb ns ps rk, b = ruB lb ns ps rk) hB rfl hx (ru_hden (rcT_leaf tx)) (ea_cons (h.imp fun w q => ea_nil ⟨w, rfl, rfl, ⟨_, _, _, _, rfl⟩, q⟩))
theorem ok_Leaf_init (tx : Txt K mg A) : FnR P w K mg base (L2.CX P w) 13 A.f_Leaf_init (spIn (bs K A) (P_Leaf_init K A)) := by
  have G_Rule_init := ok_Rule_init (P := P) (w := w) (base := base) tx
  refine fnRX_of tx.d_Leaf_init sc_Leaf_init (fun vs H Q E h => ?_) (fun cdv Ar outer s H vs Q E hr h => ?_)
  · obtain ⟨W, F, p, dx, c, ws, ts, k, x, oF, nF, rfl, _, _, _, _, hd, ⟨lb, _, rfl, _⟩, _⟩ := h
    exact congrArg (· + 1) hd.length
  · refine ⟨_, (pss_one (ps_expr (pe_cinit (E := WE (fun cls d _ H => E cls d H)) tx.cli_Rule G_Rule_init (room hr) (passAt (takes_of rfl rfl rfl rfl)) tx.c_Rule (pa_cons (pv 0) (pa_cons (pv 1) (pa_cons (pe_tup pa_nil) (pa_cons (pe_tup pa_nil) pa_nil))))))), ?_⟩
    refine init_ok (N := ["self", "name"]) (fun W F p dx c ts k x hB hw hp => ?_) h
    have hK : W.B.K = K := congrArg Bs.K hB
    obtain ⟨lb, rfl, rfl, hk⟩ := hp
    show SxH W F _ [(p, .ins (W.B.cl .Leaf) dx [])] [some (T (Oi.mk p .Leaf dx [] ())), some (T lb)] _
    refine sxh_cinit rfl rfl hB (fun H' o w _ => hw H' o w) fun Wo hW => ?_
    refine ea_cons (ev_var rfl (ea_cons (ev_tupN (α := Int) (rα := inferInstance) (el_nil ⟨by decide, ea_cons (ev_tupN (α := Ru) (rα := inferInstance) (el_nil ⟨by decide, ea_nil ?_⟩))⟩))))
    exact ⟨.leaf, lb, [], [], rfl, .inl rfl, rcT_leaf tx, ⟨by decide, trivial, by decide, by decide, by show 1 ≤ 1000; decide⟩, fun fs => ⟨_, _, rfl, rfl, hk⟩⟩
def P_Rank_init (K : PySem.W.Frag) (A : Ad) : PI RuB := fun c k x ts => ∃ (a : Int) (ps : List Ru), c = .Rank ∧ ts = [T a, T (Tl.mk ps)] ∧ PsOk [RK.leaf, RK.rank, RK.trim, RK.weigh] ps ∧ MkR "rank" .rank (0 ≤ a ∧ a < ps.length) [a] ps (ps.all Ru.rk) (fun r => k (ruB r.lb r.ns r.ps r.rk)) x
theorem ok_Rank_init (tx : Txt K mg A) : FnR P w K mg base (L2.CX P w) 13 A.f_Rank_init (spSt 2 (spIn (bs K A) (P_Rank_init K A))) := by
  have G_BadRule_init := ok_BadRule_init (P := P) (w := w) (base := base) tx
  have G_Rule_init := ok_Rule_init (P := P) (w := w) (base := base) tx
  refine fnR_ofS cxUp tx.d_Rank_init sc_Rank_init (fun cdv Ar outer s H vs Q E hr h => ?_)
  · refine ⟨_, (pss_cons (ps_if (pt_not (pt_chain op_le op_lt pe_int (pv 1) (pe_callB (call_lenK K) (by rfl) tx.z_len PySem.boot_len (pa_cons (pv 2) pa_nil)))) (pss_one (ps_raise rfl (takes_of rfl rfl rfl rfl) (pmk_oexR tx.xo_BadRule tx.xi_BadRule tx.xt_BadRule G_BadRule_init (room hr) pass0 rfl tx.c_BadRule (pa_cons pe_str pa_nil)))) pss_nil)
        (pss_one (ps_expr (pe_cinit (E := WE (fun cls d _ H => E cls d H)) tx.cli_Rule G_Rule_init (room hr) (passAt (takes_of rfl rfl rfl rfl)) tx.c_Rule (pa_cons (pv 0) (pa_cons pe_str (pa_cons (pe_tup (pa_cons (pv 1) pa_nil)) (pa_cons (pv 2) pa_nil)))))))), ?_⟩
    refine init_ok (N := ["self", "place", "parts"]) (fun W F p dx c ts k x hB hw hp => ?_) h
    have hK : W.B.K = K := congrArg Bs.K hB
    obtain ⟨a, ps, rfl, rfl, ⟨hkds, hdep, hlen, hnms⟩, hbad, hok⟩ := hp
    show SxH W F _ [(p, .ins (W.B.cl .Rank) dx [])] [some (T (Oi.mk p .Rank dx [] ())), some (T a), some (T (Tl.mk ps))] _
    have raises : ∀ {R : PoH}, x ⟨.BadRule, [("kind", .s "rank")]⟩ → SxH W F (fun _ σ H => tMkO A.c_BadRule (spEr A.c_BadRule (shStr "kind")) [] (tCons (tC (.str "rank")) tNil) σ H fun cls d H' => E cls d H') [(p, .ins (W.B.cl .Rank) dx [])] [some (T (Oi.mk p .Rank dx [] ())), some (T a), some (T (Tl.mk ps))] R := fun hg => by
      refine sxh_pure fun W2 hW2 => ?_
      refine sx_raise (c := .BadRule) (Wx := fun cls d _ H => E cls d H) (hW2.B.trans hB) rfl (hx_of (hW2.err E x hw)) ?_
      exact ea_cons (ev_str (ea_nil ⟨_, shStr_ok (by decide +kernel) (by decide +kernel), hg⟩))
    refine sxh_seq (sxh_if fun Wo hW => ?_)
    have hBo : Wo.B = bs K A := hW.B.trans hB
    have hKo : Wo.B.K = K := congrArg Bs.K hBo
    refine et_not ?_
    apply et_test
    apply ev_chainP
    walk_at "g0"
    refine ev_var rfl ?_
    refine chg_in (ev_lenTl hKo (ev_var rfl rfl)) ?_
    have hd : (decide ((0 : Int) ≤ a) && decide (a < (ps.length : Int))) = decide (0 ≤ a ∧ a < ps.length) := by rw [Bool.decide_and]
    rw [hd]
    refine ⟨fun h1 => ?_, fun h1 => ?_⟩
    · exact raises (hbad fun hg => by rw [decide_eq_true hg] at h1; exact absurd h1 (by decide))
    have hg : 0 ≤ a ∧ a < ps.length := Classical.byContradiction fun hn => by rw [decide_eq_false hn] at h1; exact absurd h1 (by decide)
    refine sxh_next ?_
    have hok := hok hg
    rw [← namesF_any (kd := .rank) (lb := "rank") (ns := [a]) (rk := ps.all Ru.rk) (by decide)] at hok
    refine (sxh_cinit rfl rfl hB (fun H' o w _ => hw H' o w) fun W2 hW2 => ?_)
    refine ea_cons (ev_str (ea_cons (ev_tupN (α := Int) (rα := inferInstance) (el_cons (ev_var rfl (el_nil ⟨by show 1 ≤ 100000; decide, ea_cons (ev_var rfl (ea_nil ?_))⟩))))))
    refine ⟨.rank, "rank", [a], ps, rfl, .inl rfl, rcT_rank tx, ⟨by decide, hkds, hdep, hlen, by rw [namesF_any (by decide)]; exact hnms⟩, ?_⟩
    generalize dupF _ = q at hok ⊢
    cases q with
    | none => exact fun fs => ⟨_, _, rfl, rfl, hok⟩
    | some n => exact hok
def P_Rank_of : PT := fun rt xx ts => ∃ (a : Int) (ps : List Ru), ts = [T (Cv.mk .Rank), T a, T ps] ∧ (PsOk [RK.leaf, RK.rank, RK.trim, RK.weigh] ps ∧ MkR "rank" .rank (0 ≤ a ∧ a < ps.length) [a] ps (ps.all Ru.rk) (fun r => rt (T r)) xx)
theorem ok_Rank_of (tx : Txt K mg A) : FnR P w K mg base (L2.CX P w) 15 A.f_Rank_of (spG (bs K A) P_Rank_of) := by
  have G_Rank_init := ok_Rank_init (P := P) (w := w) (base := base) tx
  refine fnRX_of tx.d_Rank_of sc_Rank_of (len_ok (n := 3) fun rt xx ts hp => by obtain ⟨_, _, rfl, _⟩ := hp; rfl) (fun cdv Ar outer s H vs Q E hr h => ⟨_, (pss_one (ps_ret (pe_makeV2 (i := 0) (E := WE (fun cls d _ H => E cls d H)) tx.m_Rank G_Rank_init (room hr) (passAt (takes_of rfl rfl rfl rfl)) rfl (Or.inl rfl) (pa_cons (pv 1) (pa_starK K (pv 2) pa_nil))))),
      body_ok (N := ["cls", "place", "parts"]) (fun W ts rt xx hB ho hw hp => ?_) h⟩)
  have hK : W.B.K = K := congrArg Bs.K hB
  obtain ⟨a, ps, rfl, hp⟩ := hp
  show Sx W _ [some (T (Cv.mk .Rank)), some (T a), some (T ps)] _
  obtain ⟨hps, hbad, hok⟩ := hp
  refine sx_ret (α := Ru) (rα := inferInstance) (ev_makeV hB rfl rfl ?_)
  refine ev_makeS (γ := Ru) (rγ := inferInstance) (ruMk .rank) (fun b => ∃ lb ns ps rk, b = ruB lb ns ps rk) hB rfl (hx_of hw) (ru_hden (rcT_rank tx)) ?_
  refine es_cons (ev_var rfl (es_zero (el_star hK (ev_var rfl (el_nil ⟨?_, ?_⟩)))))
  · rw [List.append_nil]
    exact Nat.le_trans hps.len (by decide)
  rw [List.append_nil]
  refine ⟨a, ps, rfl, rfl, hps, hbad, fun hg => ?_⟩
  have hok := hok hg
  generalize dupF _ = q at hok ⊢
  cases q with
  | none => exact ⟨⟨_, _, _, _, rfl⟩, hok⟩
  | some n => exact hok
def P_Trim_init (K : PySem.W.Frag) (A : Ad) : PI RuB := fun c k x ts => ∃ (a : Int) (ps : List Ru), c = .Trim ∧ ts = [T a, T (Tl.mk ps)] ∧ PsOk [RK.leaf, RK.rank, RK.trim, RK.weigh] ps ∧ MkR "trim" .trim (0 ≤ a ∧ 2 * a < ps.length) [a] ps false (fun r => k (ruB r.lb r.ns r.ps r.rk)) x
theorem ok_Trim_init (tx : Txt K mg A) : FnR P w K mg base (L2.CX P w) 13 A.f_Trim_init (spSt 2 (spIn (bs K A) (P_Trim_init K A))) := by
  have G_BadRule_init := ok_BadRule_init (P := P) (w := w) (base := base) tx
  have G_Rule_init := ok_Rule_init (P := P) (w := w) (base := base) tx
  refine fnR_ofS cxUp tx.d_Trim_init sc_Trim_init (fun cdv Ar outer s H vs Q E hr h => ?_)
  · refine ⟨_, (pss_cons (ps_if (PW.pt (pw_or (pt_cmpR op_lt (pv 1) pe_int (nomark _)) (pw_or1 (pt_cmpR op_ge (pe_op op_mul pe_int (pv 1)) (pe_callB (call_lenK K) (by rfl) tx.z_len PySem.boot_len (pa_cons (pv 2) pa_nil)) (nomark _))))) (pss_one (ps_raise rfl (takes_of rfl rfl rfl rfl) (pmk_oexR tx.xo_BadRule tx.xi_BadRule tx.xt_BadRule G_BadRule_init (room hr) pass0 rfl tx.c_BadRule (pa_cons pe_str pa_nil)))) pss_nil)
        (pss_cons (ps_expr (pe_cinit (E := WE (fun cls d _ H => E cls d H)) tx.cli_Rule G_Rule_init (room hr) (passAt (takes_of rfl rfl rfl rfl)) tx.c_Rule (pa_cons (pv 0) (pa_cons pe_str (pa_cons (pe_tup (pa_cons (pv 1) pa_nil)) (pa_cons (pv 2) pa_nil))))))
        (pss_one (ps_fldK K (pv 0) pe_bl rfl)))), ?_⟩
    refine init_ok (N := ["self", "cut", "parts"]) (fun W F p dx c ts k x hB hw hp => ?_) h
    have hK : W.B.K = K := congrArg Bs.K hB
    obtain ⟨a, ps, rfl, rfl, ⟨hkds, hdep, hlen, hnms⟩, hbad, hok⟩ := hp
    show SxH W F _ [(p, .ins (W.B.cl .Trim) dx [])] [some (T (Oi.mk p .Trim dx [] ())), some (T a), some (T (Tl.mk ps))] _
    have raises : ∀ {R : PoH}, x ⟨.BadRule, [("kind", .s "trim")]⟩ → SxH W F (fun _ σ H => tMkO A.c_BadRule (spEr A.c_BadRule (shStr "kind")) [] (tCons (tC (.str "trim")) tNil) σ H fun cls d H' => E cls d H') [(p, .ins (W.B.cl .Trim) dx [])] [some (T (Oi.mk p .Trim dx [] ())), some (T a), some (T (Tl.mk ps))] R := fun hg => by
      refine sxh_pure fun W2 hW2 => ?_
      refine sx_raise (c := .BadRule) (Wx := fun cls d _ H => E cls d H) (hW2.B.trans hB) rfl (hx_of (hW2.err E x hw)) ?_
      exact ea_cons (ev_str (ea_nil ⟨_, shStr_ok (by decide +kernel) (by decide +kernel), hg⟩))
    refine sxh_seq (sxh_if fun Wo hW => ?_)
    have hBo : Wo.B = bs K A := hW.B.trans hB
    have hKo : Wo.B.K = K := congrArg Bs.K hBo
    refine et_or ?_
    apply et_test
    walk_at "g"
    refine ⟨fun h1 => ⟨fun _ => raises (hbad fun h => absurd (of_decide_eq_true h1) (by omega)), fun h => (nomatch h)⟩, fun h1 => ?_⟩
    apply et_test
    walk_at "g0"
    walk_at "g0"
    walk_at "g0"
    walk_at "g0"
    refine ⟨.inl ⟨by decide, by decide⟩, ev_lenTl hKo (ev_var rfl ⟨fun h2 => ?_, fun h2 => ?_⟩)⟩
    · have h2 : (ps.length : Int) ≤ 2 * a := of_decide_eq_true h2
      exact raises (hbad fun h => absurd h2 (by omega))
    have hg : 0 ≤ a ∧ 2 * a < ps.length := by
      have h1 := of_decide_eq_false h1
      have h2 : ¬ (ps.length : Int) ≤ 2 * a := of_decide_eq_false h2
      omega
    refine sxh_next ?_
    have hok := hok hg
    rw [← namesF_any (kd := .trim) (lb := "trim") (ns := [a]) (rk := ps.all Ru.rk) (by decide)] at hok
    refine sxh_seq (sxh_cinit rfl rfl hB (fun H' o w _ => hw H' o w) fun W2 hW2 => ?_)
    refine ea_cons (ev_str (ea_cons (ev_tupN (α := Int) (rα := inferInstance) (el_cons (ev_var rfl (el_nil ⟨by show 1 ≤ 100000; decide, ea_cons (ev_var rfl (ea_nil ?_))⟩))))))
    refine ⟨.trim, "trim", [a], ps, rfl, .inl rfl, rcT_trim tx, ⟨by decide, hkds, hdep, hlen, by rw [namesF_any (by decide)]; exact hnms⟩, ?_⟩
    generalize dupF _ = q at hok ⊢
    cases q with
    | none => 
      intro fs
      obtain ⟨c0, n1, n2, n3, n4⟩ := (rcT_trim tx).use hB hK
      refine sxh_setl (α := Bool) (rα := inferInstance) (f := "ranked") 0 hK c0 n4 rfl rfl (by show 3 < 999; decide) (by show ("ranked" : Str) ∉ [("label" : Str), ("numbers" : Str), ("parts" : Str)]; decide +kernel) fun W3 hW3 => ev_bl fun fs2 => ?_
      exact ⟨_, _, rfl, rfl, hok⟩
    | some n => exact hok
def P_Trim_of : PT := fun rt xx ts => ∃ (a : Int) (ps : List Ru), ts = [T (Cv.mk .Trim), T a, T ps] ∧ (PsOk [RK.leaf, RK.rank, RK.trim, RK.weigh] ps ∧ MkR "trim" .trim (0 ≤ a ∧ 2 * a < ps.length) [a] ps false (fun r => rt (T r)) xx)
theorem ok_Trim_of (tx : Txt K mg A) : FnR P w K mg base (L2.CX P w) 15 A.f_Trim_of (spG (bs K A) P_Trim_of) := by
  have G_Trim_init := ok_Trim_init (P := P) (w := w) (base := base) tx
  refine fnRX_of tx.d_Trim_of sc_Trim_of (len_ok (n := 3) fun rt xx ts hp => by obtain ⟨_, _, rfl, _⟩ := hp; rfl) (fun cdv Ar outer s H vs Q E hr h => ⟨_, (pss_one (ps_ret (pe_makeV2 (i := 0) (E := WE (fun cls d _ H => E cls d H)) tx.m_Trim G_Trim_init (room hr) (passAt (takes_of rfl rfl rfl rfl)) rfl (Or.inl rfl) (pa_cons (pv 1) (pa_starK K (pv 2) pa_nil))))),
      body_ok (N := ["cls", "cut", "parts"]) (fun W ts rt xx hB ho hw hp => ?_) h⟩)
  have hK : W.B.K = K := congrArg Bs.K hB
  obtain ⟨a, ps, rfl, hp⟩ := hp
  show Sx W _ [some (T (Cv.mk .Trim)), some (T a), some (T ps)] _
  obtain ⟨hps, hbad, hok⟩ := hp
  refine sx_ret (α := Ru) (rα := inferInstance) (ev_makeV hB rfl rfl ?_)
  refine ev_makeS (γ := Ru) (rγ := inferInstance) (ruMk .trim) (fun b => ∃ lb ns ps rk, b = ruB lb ns ps rk) hB rfl (hx_of hw) (ru_hden (rcT_trim tx)) ?_
  refine es_cons (ev_var rfl (es_zero (el_star hK (ev_var rfl (el_nil ⟨?_, ?_⟩)))))
  · rw [List.append_nil]
    exact Nat.le_trans hps.len (by decide)
  rw [List.append_nil]
  refine ⟨a, ps, rfl, rfl, hps, hbad, fun hg => ?_⟩
  have hok := hok hg
  generalize dupF _ = q at hok ⊢
  cases q with
  | none => exact ⟨⟨_, _, _, _, rfl⟩, hok⟩
  | some n => exact hok
def P_Weigh_init (K : PySem.W.Frag) (A : Ad) : PI RuB := fun c k x ts => ∃ (a : List Int) (ps : List Ru), c = .Weigh ∧ ts = [T a, T (Tl.mk ps)] ∧ PsOk [RK.leaf, RK.rank, RK.trim, RK.weigh] ps ∧ MkR "weigh" .weigh (a.length = ps.length ∧ (∀ w ∈ a, 0 ≤ w) ∧ a.sum ≠ 0) a ps (ps.all Ru.rk) (fun r => k (ruB r.lb r.ns r.ps r.rk)) x
theorem ok_Weigh_init (tx : Txt K mg A) : FnR P w K mg base (L2.CX P w) 13 A.f_Weigh_init (spSt 2 (spIn (bs K A) (P_Weigh_init K A))) := by
  have G_BadRule_init := ok_BadRule_init (P := P) (w := w) (base := base) tx
  have G_Rule_init := ok_Rule_init (P := P) (w := w) (base := base) tx
  refine fnR_ofS cxUp tx.d_Weigh_init sc_Weigh_init (fun cdv Ar outer s H vs Q E hr h => ?_)
  · refine ⟨_, (pss_cons (ps_if (PW.pt (pw_or (pt_cmpR (op_neDK K (huD hr)) (pe_callB (call_lenK K) (by rfl) tx.z_len PySem.boot_len (pa_cons (pv 1) pa_nil)) (pe_callB (call_lenK K) (by rfl) tx.z_len PySem.boot_len (pa_cons (pv 2) pa_nil)) (nomark _)) (pw_or (pt_val (pe_callB (cr_any rfl) (by rfl) tx.z_any (by decide +kernel) (pa_cons (pe_lc (own := [("weight", 3)]) rfl sc_Weigh_init.nd (pi_listK K (pv 1)) (blkOk_by (N := ["self", "weights", "parts", "weight"]) (sc := defScope s_Weigh_init) (by decide +kernel)) (fun _ _ _ _ _ => (pg_name (i := 3) sc_Weigh_init.nd rfl (Or.inl rfl))) (fun _ _ _ _ _ => pts_nil) (fun _ _ _ _ _ => (pe_cmpR op_lt (pv 3) pe_int (nomark _)))) pa_nil))) (pw_or1 (pt_cmpR (op_eqDK K (huD hr)) (pe_callB (cr_sum rfl) (by rfl) tx.z_sum (by decide +kernel) (pa_cons (pv 1) pa_nil)) pe_int (nomark _)))))) (pss_one (ps_raise rfl (takes_of rfl rfl rfl rfl) (pmk_oexR tx.xo_BadRule tx.xi_BadRule tx.xt_BadRule G_BadRule_init (room hr) pass0 rfl tx.c_BadRule (pa_cons pe_str pa_nil)))) pss_nil)
        (pss_one (ps_expr (pe_cinit (E := WE (fun cls d _ H => E cls d H)) tx.cli_Rule G_Rule_init (room hr) (passAt (takes_of rfl rfl rfl rfl)) tx.c_Rule (pa_cons (pv 0) (pa_cons pe_str (pa_cons (pv 1) (pa_cons (pv 2) pa_nil)))))))), ?_⟩
    refine init_ok (N := ["self", "weights", "parts", "weight"]) (fun W F p dx c ts k x hB hw hp => ?_) h
    have hK : W.B.K = K := congrArg Bs.K hB
    obtain ⟨a, ps, rfl, rfl, ⟨hkds, hdep, hlen, hnms⟩, hbad, hok⟩ := hp
    show SxH W F _ [(p, .ins (W.B.cl .Weigh) dx [])] [some (T (Oi.mk p .Weigh dx [] ())), some (T a), some (T (Tl.mk ps)), none] _
    have raises : ∀ {R : PoH}, x ⟨.BadRule, [("kind", .s "weigh")]⟩ → SxH W F (fun _ σ H => tMkO A.c_BadRule (spEr A.c_BadRule (shStr "kind")) [] (tCons (tC (.str "weigh")) tNil) σ H fun cls d H' => E cls d H') [(p, .ins (W.B.cl .Weigh) dx [])] [some (T (Oi.mk p .Weigh dx [] ())), some (T a), some (T (Tl.mk ps)), none] R := fun hg => by
      refine sxh_pure fun W2 hW2 => ?_
      refine sx_raise (c := .BadRule) (Wx := fun cls d _ H => E cls d H) (hW2.B.trans hB) rfl (hx_of (hW2.err E x hw)) ?_
      exact ea_cons (ev_str (ea_nil ⟨_, shStr_ok (by decide +kernel) (by decide +kernel), hg⟩))
    refine sxh_seq (sxh_if fun Wo hW => ?_)
    have hBo : Wo.B = bs K A := hW.B.trans hB
    have hKo : Wo.B.K = K := congrArg Bs.K hBo
    refine et_or (et_test ?_)
    apply ev_neG hKo
    refine ev_len hKo (ev_var rfl (ev_lenTl hKo (ev_var rfl (neg_in (by decide) trivial trivial ?_))))
    refine ⟨fun h1 => ⟨fun _ => raises (hbad fun h => by simp [h.1] at h1), fun h => (nomatch h)⟩, fun h1 => ?_⟩
    have e1 : a.length = ps.length := by
      have : (a.length : Int) = ps.length := by simpa using h1
      omega
    refine et_or (et_test ?_)
    apply ev_any hKo
    refine (evF_lcF (fun _ => true) (fun w : Int => decide (w < 0)) hKo (ev_var rfl ⟨by omega, fun W' sb w hw => ⟨[3], rfl, ?_⟩, ?_⟩)).k
    · apply tj_name
      refine et_yes ⟨fun _ => ?_, fun h => (nomatch h)⟩
      walk_at "g"
      exact ⟨rfl, rfl⟩
    rw [filtT, List.any_map]
    refine ⟨fun h2 => ⟨fun _ => raises (hbad fun h => ?_), fun h => (nomatch h)⟩, fun h2 => ?_⟩
    · obtain ⟨w, hw, hn⟩ := List.any_eq_true.mp h2
      have := h.2.1 w hw
      exact absurd (of_decide_eq_true hn) (by omega)
    have e2 : ∀ w ∈ a, 0 ≤ w := fun w hw => Classical.byContradiction fun hn => by
      have := List.any_eq_false.mp h2 w hw
      exact this (decide_eq_true (by omega))
    refine et_test ?_
    walk_at "g"
    refine ⟨fun h3 => raises (hbad fun h => h.2.2 (by simpa using h3)), fun h3 => ?_⟩
    have hg : a.length = ps.length ∧ (∀ w ∈ a, 0 ≤ w) ∧ a.sum ≠ 0 := ⟨e1, e2, by simpa using h3⟩
    refine sxh_next ?_
    have hok := hok hg
    rw [← namesF_any (kd := .weigh) (lb := "weigh") (ns := a) (rk := ps.all Ru.rk) (by decide)] at hok
    refine (sxh_cinit rfl rfl hB (fun H' o w _ => hw H' o w) fun W2 hW2 => ?_)
    refine ea_cons (ev_str (ea_cons (ev_var rfl (ea_cons (ev_var rfl (ea_nil ?_))))))
    refine ⟨.weigh, "weigh", a, ps, rfl, .inr rfl, rcT_weigh tx, ⟨by decide, hkds, hdep, hlen, by rw [namesF_any (by decide)]; exact hnms⟩, ?_⟩
    generalize dupF _ = q at hok ⊢
    cases q with
    | none => exact fun fs => ⟨_, _, rfl, rfl, hok⟩
    | some n => exact hok
def P_Weigh_of : PT := fun rt xx ts => ∃ (a : List Int) (ps : List Ru), ts = [T (Cv.mk .Weigh), T a, T ps] ∧ (PsOk [RK.leaf, RK.rank, RK.trim, RK.weigh] ps ∧ MkR "weigh" .weigh (a.length = ps.length ∧ (∀ w ∈ a, 0 ≤ w) ∧ a.sum ≠ 0) a ps (ps.all Ru.rk) (fun r => rt (T r)) xx)
theorem ok_Weigh_of (tx : Txt K mg A) : FnR P w K mg base (L2.CX P w) 15 A.f_Weigh_of (spG (bs K A) P_Weigh_of) := by
  have G_Weigh_init := ok_Weigh_init (P := P) (w := w) (base := base) tx
  refine fnRX_of tx.d_Weigh_of sc_Weigh_of (len_ok (n := 3) fun rt xx ts hp => by obtain ⟨_, _, rfl, _⟩ := hp; rfl) (fun cdv Ar outer s H vs Q E hr h => ⟨_, (pss_one (ps_ret (pe_makeV2 (i := 0) (E := WE (fun cls d _ H => E cls d H)) tx.m_Weigh G_Weigh_init (room hr) (passAt (takes_of rfl rfl rfl rfl)) rfl (Or.inl rfl) (pa_cons (pv 1) (pa_starK K (pv 2) pa_nil))))),
      body_ok (N := ["cls", "weights", "parts"]) (fun W ts rt xx hB ho hw hp => ?_) h⟩)
  have hK : W.B.K = K := congrArg Bs.K hB
  obtain ⟨a, ps, rfl, hp⟩ := hp
  show Sx W _ [some (T (Cv.mk .Weigh)), some (T a), some (T ps)] _
  obtain ⟨hps, hbad, hok⟩ := hp
  refine sx_ret (α := Ru) (rα := inferInstance) (ev_makeV hB rfl rfl ?_)
  refine ev_makeS (γ := Ru) (rγ := inferInstance) (ruMk .weigh) (fun b => ∃ lb ns ps rk, b = ruB lb ns ps rk) hB rfl (hx_of hw) (ru_hden (rcT_weigh tx)) ?_
  refine es_cons (ev_var rfl (es_zero (el_star hK (ev_var rfl (el_nil ⟨?_, ?_⟩)))))
  · rw [List.append_nil]
    exact Nat.le_trans hps.len (by decide)
  rw [List.append_nil]
  refine ⟨a, ps, rfl, rfl, hps, hbad, fun hg => ?_⟩
  have hok := hok hg
  generalize dupF _ = q at hok ⊢
  cases q with
  | none => exact ⟨⟨_, _, _, _, rfl⟩, hok⟩
  | some n => exact hok
def P_rule (d : Nat) : PT := fun rt xx ts => ∃ (r : Ru), ts = [T (Tt.mk r)] ∧ (depR r < d ∧ TrOk 7 r ∧ (namesF r).Nodup ∧ (namesF r).length ≤ 100 ∧ rt (T r))
theorem trN_ok : ∀ k : RK, Dat.good (trN k)
  | .leaf => strOk_of _
  | .rank => strOk_of _
  | .trim => strOk_of _
  | .weigh => strOk_of _
theorem mkr_any {lbl : Str} {kd : RK} {good : Prop} {ns : List Int} {ps : List Ru} {rk : Bool} {ok : Ru → Prop} {xx : Xn → Prop} (hg : good) (hnd : (namesL ps).Nodup) (q : ok (.mk kd lbl ns ps rk)) : MkR lbl kd good ns ps rk ok xx :=
  ⟨fun h => absurd hg h, fun _ => by rw [dupF_none.mpr hnd]; exact q⟩
theorem names_sub {p : Ru} : ∀ {ps : List Ru}, p ∈ ps → (namesF p).Sublist (namesL ps)
  | [], h => by cases h
  | q :: ps, h => by
    show (namesF p).Sublist (namesF q ++ namesL ps)
    rcases List.mem_cons.mp h with rfl | h
    · exact List.sublist_append_left _ _
    · exact (names_sub h).trans (List.sublist_append_right _ _)
theorem ok_rule (tx : Txt K mg A) : ∀ d : Nat, FnR P w K mg base CX0 (d + 16) A.f_rule (spG (bs K A) (P_rule d)) := by
  intro d
  induction d with
  | zero => 
    exact fun _ _ _ _ _ _ _ _ _ _ _ h => by
      obtain ⟨W, ts, rt, x, _, _, _, ⟨r, _, hd, _⟩, _⟩ := h
      exact absurd hd (Nat.not_lt_zero _)
  | succ d ih =>
  have G_rule := ih
  have G_Leaf_init := ok_Leaf_init (P := P) (w := w) (base := base) tx
  have G_Rank_of := ok_Rank_of (P := P) (w := w) (base := base) tx
  have G_Trim_of := ok_Trim_of (P := P) (w := w) (base := base) tx
  have G_Weigh_of := ok_Weigh_of (P := P) (w := w) (base := base) tx
  refine fnR_of tx.g_rule.d sc_rule (len_ok (n := 1) fun rt xx ts hp => by obtain ⟨_, rfl, _⟩ := hp; rfl) (fun cdv Ar outer s H vs Q E hr h => ⟨_, (pss_cons (ps_if (pt_cmpR (op_eqDK K (huD hr)) (pe_ix (ix_tupK K) (pv 0) pe_int (fun _ _ => rfl)) pe_str (nomark _)) (pss_one (ps_ret (pe_makeZ (E := fun _ => E0) (tx.m_Leaf) G_Leaf_init (room hr (by omega)) rfl tx.c_Leaf passSL (pa_cons (pe_ix (ix_tupK K) (pv 0) pe_int (fun _ _ => rfl)) pa_nil)))) pss_nil)
        (pss_cons (ps_setLc (i := 1) (own := [("_law_part", 2)]) rfl sc_rule.nd rfl rfl (sw_true rfl rfl rfl (by decide +kernel)) (pi_listK K (pe_ix (ix_tupK K) (pv 0) pe_int (fun _ _ => rfl))) (blkOk_by (N := ["_law_tree_here", "_law_parts", "_law_part"]) (sc := defScope s_rule) (by decide +kernel)) (fun _ _ _ _ _ => (pg_name (i := 2) sc_rule.nd rfl (Or.inl rfl))) (fun _ _ _ _ _ => pts_nil) (fun _ _ _ _ _ => (pe_callR G_rule (room hr (by omega)) rfl (tx.g_rule).g (tx.g_rule).kp pass0 (pa_cons (pv 2) pa_nil))))
        (pss_cons (ps_if (pt_cmpR (op_eqDK K (huD hr)) (pe_ix (ix_tupK K) (pv 0) pe_int (fun _ _ => rfl)) pe_str (nomark _)) (pss_one (ps_ret (pe_cmethZ (E := fun _ => E0) (tx.r_Rank) (tx.q_Rank_of) G_Rank_of (room hr (by omega)) passSL tx.c_Rank (pa_cons (pe_ix (ix_tupK K) (pv 0) pe_int (fun _ _ => rfl)) (pa_cons (pv 1) pa_nil))))) pss_nil)
        (pss_cons (ps_if (pt_cmpR (op_eqDK K (huD hr)) (pe_ix (ix_tupK K) (pv 0) pe_int (fun _ _ => rfl)) pe_str (nomark _)) (pss_one (ps_ret (pe_cmethZ (E := fun _ => E0) (tx.r_Trim) (tx.q_Trim_of) G_Trim_of (room hr (by omega)) passSL tx.c_Trim (pa_cons (pe_ix (ix_tupK K) (pv 0) pe_int (fun _ _ => rfl)) (pa_cons (pv 1) pa_nil))))) pss_nil)
        (pss_one (ps_ret (pe_cmethZ (E := fun _ => E0) (tx.r_Weigh) (tx.q_Weigh_of) G_Weigh_of (room hr (by omega)) passSL tx.c_Weigh (pa_cons (pe_callTy (call_list_ofK K) (by rfl) tx.z_list (by decide +kernel) (pa_cons (pe_ix (ix_tupK K) (pv 0) pe_int (fun _ _ => rfl)) pa_nil)) (pa_cons (pv 1) pa_nil))))))))),
      body_ok (N := ["_law_tree_here", "_law_parts", "_law_part"]) (fun W ts rt xx hB ho hw hp => ?_) h⟩)
  have hK : W.B.K = K := congrArg Bs.K hB
  obtain ⟨r, rfl, hp⟩ := hp
  show Sx W _ [some (T (Tt.mk r)), none, none] _
  obtain ⟨hd, ht, hnd, hln, hp⟩ := hp
  refine sx_seq (sx_if (et_test ?_))
  refine ev_eqG hK (ev_tr0 hK (ev_var rfl (ev_str (eqg_in (by decide) (trN_ok _) (strOk_of _) ?_))))
  refine ⟨fun h1 => ?_, fun h1 => ?_⟩
  · have hk : r.k = .leaf := by
      have := of_decide_eq_true h1
      cases hk : r.k with
      | leaf => rfl
      | _ => rw [hk] at this; exact absurd this (by decide +kernel)
    refine sx_ret (ev_leaf tx hB hx0 (ev_tr1w hK (ev_var rfl ⟨hk, ?_⟩)))
    rw [← wf_leaf ht.wf hk]
    exact hp
  have hk : r.k ≠ .leaf := fun hk => by
    have := of_decide_eq_false h1
    rw [hk] at this
    exact this rfl
  obtain ⟨hnum, hl100, -⟩ := okR_node.mp ht.ok
  obtain ⟨hwf, -⟩ := wf_node ht.wf hk
  rw [depR_node hk] at hd
  have hdep := ht.dep
  rw [depR_node hk] at hdep
  have hnm : namesL r.ps = namesF r := by rw [namesF_node hk, namesL_flat]
  rw [← hnm] at hnd hln
  refine sx_next ?_
  refine sx_seq (sx_set (α := List Ru) (rα := inferInstance) ?_)
  refine ev_lcF (fun _ => true) (fun t : Tt => t.r) hK (ev_tr2 hK (ev_var rfl ⟨by rw [List.length_map]; show r.ps.length ≤ _; omega, fun W' sb t hm => ⟨[2], rfl, ?_⟩, ?_⟩))
  · obtain ⟨p, hpm, rfl⟩ := List.mem_map.mp hm
    have hpm : p ∈ r.ps := hpm
    have hB' : W'.B = bs K A := sb.B.trans hB
    apply tj_name
    refine et_yes ⟨fun _ => ?_, fun h => (nomatch h)⟩
    have h9 := depR_mem hpm
    exact ev_callR hB' (ea_cons (ev_var rfl (ea_nil ⟨p, rfl, by omega, (TrOk.part (ht.le (Nat.le_succ 7)) hk p hpm), (names_sub hpm).nodup hnd, Nat.le_trans (names_sub hpm).length_le hln, ⟨_, rfl, rfl, rfl⟩⟩)))
  rw [filtT, List.map_map, show ((fun t : Tt => t.r) ∘ Tt.mk) = id from rfl, List.map_id]
  show Sx W _ [some (T (Tt.mk r)), some (T r.ps), none] _
  have hps : PsOk [RK.leaf, RK.rank, RK.trim, RK.weigh] r.ps := ⟨(kdsR_node.mp ht.kds).2, by omega, by omega, by omega⟩
  refine sx_seq (sx_if (et_test ?_))
  refine ev_eqG hK (ev_tr0 hK (ev_var rfl (ev_str (eqg_in (by decide) (trN_ok _) (strOk_of _) ?_))))
  refine ⟨fun h2 => ?_, fun h2 => ?_⟩
  · have hk2 : r.k = .rank := by
      have := of_decide_eq_true h2
      cases hk2 : r.k with
      | rank => rfl
      | _ => rw [hk2] at this; exact absurd this (by decide +kernel)
    rw [hk2] at hnum hwf
    obtain ⟨n, hns, n0, n1⟩ := hnum
    refine sx_ret (ev_cmethZ .Rank hB rfl hx0 (ea_cons (ev_tr1n hK (ev_var rfl ⟨.inl hk2, n, hns, ea_cons (ev_var rfl (ea_nil ⟨n, r.ps, rfl, hps, mkr_any ⟨n0, n1⟩ hnd ⟨_, rfl, ?_⟩⟩))⟩))))
    rw [hwf, hns] at hp
    exact hp
  refine sx_next ?_
  refine sx_seq (sx_if (et_test ?_))
  refine ev_eqG hK (ev_tr0 hK (ev_var rfl (ev_str (eqg_in (by decide) (trN_ok _) (strOk_of _) ?_))))
  refine ⟨fun h3 => ?_, fun h3 => ?_⟩
  · have hk3 : r.k = .trim := by
      have := of_decide_eq_true h3
      cases hk3 : r.k with
      | trim => rfl
      | _ => rw [hk3] at this; exact absurd this (by decide +kernel)
    rw [hk3] at hnum hwf
    obtain ⟨n, hns, n0, n1⟩ := hnum
    refine sx_ret (ev_cmethZ .Trim hB rfl hx0 (ea_cons (ev_tr1n hK (ev_var rfl ⟨.inr hk3, n, hns, ea_cons (ev_var rfl (ea_nil ⟨n, r.ps, rfl, hps, mkr_any ⟨n0, n1⟩ hnd ⟨_, rfl, ?_⟩⟩))⟩))))
    rw [hwf, hns] at hp
    exact hp
  refine sx_next ?_
  have hk4 : r.k = .weigh := by
    cases hk4 : r.k with
    | weigh => rfl
    | leaf => exact absurd hk4 hk
    | rank => rw [hk4] at h2; exact absurd rfl (of_decide_eq_false h2)
    | trim => rw [hk4] at h3; exact absurd rfl (of_decide_eq_false h3)
  rw [hk4] at hnum hwf
  obtain ⟨n1, n2, n3⟩ := hnum
  refine sx_ret (α := Ru) (rα := inferInstance) (ev_cmethZ .Weigh hB rfl hx0 (ea_cons (evF_listOf (α := Int) (rα := inferInstance) hK (ev_tr1l hK (ev_var rfl ⟨hk4, ?_⟩))).k))
  refine ea_cons (ev_var rfl (ea_nil ⟨r.ns, r.ps, rfl, hps, mkr_any ⟨n1, n2, by omega⟩ hnd ⟨_, rfl, ?_⟩⟩))
  rw [hwf] at hp
  exact hp
def P_Rank_counted : PT := fun rt xx ts => ∃ (r : Ru) (as : List Int), ts = [T r, T as] ∧ ((∃ a, r.ns = [a] ∧ 0 ≤ a ∧ a < as.length) ∧ rt (T (cntF .rank r.ns as)))
theorem ok_Rank_counted (tx : Txt K mg A) : FnR P w K mg base CX0 1 A.f_Rank_counted (spG (bs K A) P_Rank_counted) := by
  refine fnR_of tx.d_Rank_counted sc_Rank_counted (len_ok (n := 2) fun rt xx ts hp => by obtain ⟨_, _, rfl, _⟩ := hp; rfl) (fun cdv Ar outer s H vs Q E hr h => ⟨_, (pss_one (ps_ret (pe_lst (pa_cons (pe_ix (ix_listK K) (pe_callB cr_sortedI (by rfl) tx.z_sorted (by decide +kernel) (pa_cons (pv 1) pa_nil)) (pe_ix (ix_tupK K) (pe_fldK K (pv 0) rfl) pe_int (fun _ _ => rfl)) (fun _ _ => rfl)) pa_nil)))),
      body_ok (N := ["self", "answers"]) (fun W ts rt xx hB ho hw hp => ?_) h⟩)
  have hK : W.B.K = K := congrArg Bs.K hB
  obtain ⟨r, as, rfl, hp⟩ := hp
  show Sx W _ [some (T r), some (T as)] _
  obtain ⟨⟨a, hns, h0, h1⟩, hp⟩ := hp
  refine sx_ret (ev_lst (α := Int) (rα := inferInstance) (el_cons ?_))
  refine ev_ixL hK (ev_sortedI hK (ev_var rfl fun bs hpm hss => ?_))
  obtain rfl := sortI_uniq hpm hss
  refine ev_ixTl hK (ev_rnums hK (ev_var rfl (ev_int ⟨a, by rw [hns]; rfl, ?_⟩)))
  refine ⟨_, getD_of h0 (by rw [sortI_len]; exact h1), el_nil ⟨by show 1 ≤ 100000; decide, ?_⟩⟩
  rw [hns] at hp
  exact hp
def P_Trim_counted : PT := fun rt xx ts => ∃ (r : Ru) (as : List Int), ts = [T r, T as] ∧ ((∃ a, r.ns = [a] ∧ 0 ≤ a ∧ 2 * a < as.length) ∧ rt (T (cntF .trim r.ns as)))
theorem ok_Trim_counted (tx : Txt K mg A) : FnR P w K mg base CX0 1 A.f_Trim_counted (spG (bs K A) P_Trim_counted) := by
  refine fnR_of tx.d_Trim_counted sc_Trim_counted (len_ok (n := 2) fun rt xx ts hp => by obtain ⟨_, _, rfl, _⟩ := hp; rfl) (fun cdv Ar outer s H vs Q E hr h => ⟨_, (pss_cons (ps_set (i := 2) sc_Trim_counted.nd rfl (Or.inl rfl) (pe_ix (ix_tupK K) (pe_fldK K (pv 0) rfl) pe_int (fun _ _ => rfl)))
        (pss_one (ps_ret (pe_slice (sl_listK K) (pe_callB cr_sortedI (by rfl) tx.z_sorted (by decide +kernel) (pa_cons (pv 1) pa_nil)) (po_some (pv 2)) (po_some (pe_op op_sub (pe_callB (call_lenK K) (by rfl) tx.z_len PySem.boot_len (pa_cons (pv 1) pa_nil)) (pv 2))))))),
      body_ok (N := ["self", "answers", "cut"]) (fun W ts rt xx hB ho hw hp => ?_) h⟩)
  have hK : W.B.K = K := congrArg Bs.K hB
  obtain ⟨r, as, rfl, hp⟩ := hp
  show Sx W _ [some (T r), some (T as), none] _
  obtain ⟨⟨a, hns, h0, h1⟩, hp⟩ := hp
  rw [hns] at hp
  refine sx_seq (sx_set (ev_ixTl (α := Int) (rα := inferInstance) hK (ev_rnums hK (ev_var rfl (ev_int ⟨a, by rw [hns]; rfl, ?_⟩)))))
  refine sx_ret (ev_cut (α := Int) (rα := inferInstance) hK (ev_sortedI hK (ev_var rfl fun bs hpm hss => ?_)))
  obtain rfl := sortI_uniq hpm hss
  refine ev_var rfl ?_
  walk_at "g"
  refine ⟨⟨h0, by omega, by rw [sortI_len]; omega⟩, ?_⟩
  have e : ((as.length : Int) - a).toNat - a.toNat = as.length - a.toNat - a.toNat := by omega
  rw [e]
  exact hp
def P_Weigh_weight_up_to : PT := fun rt xx ts => ∃ (r : Ru) (m : Int) (as : List Int), ts = [T r, T m, T as] ∧ (as.length ≤ 100000 ∧ rt (T (wUp r.ns as m)))
theorem pc_Weigh_weight_up_to {rt : Ty → Prop} {xx : Xn → Prop} {r : Ru} {m : Int} {as : List Int} (h : as.length ≤ 100000 ∧ rt (T (wUp r.ns as m))) : P_Weigh_weight_up_to rt xx [T r, T m, T as] := ⟨_, _, _, rfl, h⟩
theorem ok_Weigh_weight_up_to (tx : Txt K mg A) : FnR P w K mg base CX0 1 A.f_Weigh_weight_up_to (spG (bs K A) P_Weigh_weight_up_to) := by
  refine fnR_of tx.d_Weigh_weight_up_to sc_Weigh_weight_up_to (len_ok (n := 3) fun rt xx ts hp => by obtain ⟨_, _, _, rfl, _⟩ := hp; rfl) (fun cdv Ar outer s H vs Q E hr h => ⟨_, (pss_one (ps_ret (pe_callB (cr_sum rfl) (by rfl) tx.z_sum (by decide +kernel) (pa_cons (pe_lc (own := [("answer", 3), ("weight", 4)]) rfl sc_Weigh_weight_up_to.nd (pi_zipM K (by rfl) tx.z_zip (pa_cons (pv 2) (pa_cons (pe_fldK K (pv 0) rfl) pa_nil))) (blkOk_by (N := ["self", "most", "answers", "answer", "weight"]) (sc := defScope s_Weigh_weight_up_to) (by decide +kernel)) (fun _ _ _ _ _ => (pg_tupK (n := 2) K rfl (pgs_cons (pg_name (i := 3) sc_Weigh_weight_up_to.nd rfl (Or.inl rfl)) (pgs_cons (pg_name (i := 4) sc_Weigh_weight_up_to.nd rfl (Or.inl rfl)) pgs_nil)))) (fun _ _ _ _ _ => (pts_one (pt_cmpR op_le (pv 3) (pv 1) (nomark _)))) (fun _ _ _ _ _ => (pv 4))) pa_nil)))),
      body_ok (N := ["self", "most", "answers", "answer", "weight"]) (fun W ts rt xx hB ho hw hp => ?_) h⟩)
  have hK : W.B.K = K := congrArg Bs.K hB
  obtain ⟨r, m, as, rfl, hp⟩ := hp
  show Sx W _ [some (T r), some (T m), some (T as), none, none] _
  obtain ⟨hl, hp⟩ := hp
  refine sx_ret (ev_sum hK ?_)
  refine (evF_lcIF (fun q : Int × Int => decide (q.1 ≤ m)) (fun q => q.2) (ei_zipM hK (ev_var rfl (ev_rnums hK (ev_var rfl ⟨?_, fun W' sb q hq => ⟨[3] ++ [4], rfl, ?_⟩, hp⟩))))).k
  · rw [List.length_zip]; omega
  have hB' : W'.B = bs K A := sb.B.trans hB
  have hK' : W'.B.K = K := congrArg Bs.K hB'
  refine tj_tup2 hK' (tj_name (tj_name ?_))
  apply et_test
  walk_at "g"
  exact ⟨fun h => ev_var rfl ⟨h, rfl⟩, fun h => h⟩
def P_Weigh_counted : PT := fun rt xx ts => ∃ (r : Ru) (as : List Int), ts = [T r, T as] ∧ (r.k = .weigh ∧ (r.ns.length = as.length ∧ (∀ w ∈ r.ns, 0 ≤ w) ∧ 0 < r.ns.sum) ∧ 0 < as.length ∧ as.length ≤ 100000 ∧ rt (T (cntF .weigh r.ns as)))
theorem ok_Weigh_counted (tx : Txt K mg A) : FnR P w K mg base CX0 2 A.f_Weigh_counted (spG (bs K A) P_Weigh_counted) := by
  have G_Weigh_weight_up_to := ok_Weigh_weight_up_to (P := P) (w := w) (base := base) tx
  refine fnR_of tx.d_Weigh_counted sc_Weigh_counted (len_ok (n := 2) fun rt xx ts hp => by obtain ⟨_, _, rfl, _⟩ := hp; rfl) (fun cdv Ar outer s H vs Q E hr h => ⟨_, (pss_cons (ps_set (i := 2) sc_Weigh_counted.nd rfl (Or.inr rfl) (pe_callB (cr_sumT K rfl) (by rfl) tx.z_sum (by decide +kernel) (pa_cons (pe_fldK K (pv 0) rfl) pa_nil)))
        (pss_one (ps_ret (pe_lst (pa_cons (pe_callB (cr_min rfl) (by rfl) tx.z_min (by decide +kernel) (pa_cons (pe_lc (own := [("answer", 3)]) rfl sc_Weigh_counted.nd (pi_listK K (pv 1)) (blkOk_by (N := ["self", "answers", "total", "answer"]) (sc := defScope s_Weigh_counted) (by decide +kernel)) (fun _ _ _ _ _ => (pg_name (i := 3) sc_Weigh_counted.nd rfl (Or.inl rfl))) (fun _ _ _ _ _ => (pts_one (pt_cmpR op_ge (pe_op op_mul pe_int (pe_methV (k := 1) (E := fun _ => E0) (S := (fun C sp => (C = A.c_Weigh ∧ sp = spG (bs K A) P_Weigh_weight_up_to))) (pv 0) (fun C sp h => match C, sp, h with | _, _, ⟨rfl, rfl⟩ => ⟨tx.cl_Weigh, _, tx.mi_Weigh__weight_up_to, FnR.mono G_Weigh_weight_up_to (by decide)⟩) (room hr) passS0 (pa_cons (pv 3) (pa_cons (pv 1) pa_nil)))) (pv 2) (nomark _)))) (fun _ _ _ _ _ => (pv 3))) pa_nil)) pa_nil))))),
      body_ok (N := ["self", "answers", "total", "answer"]) (fun W ts rt xx hB ho hw hp => ?_) h⟩)
  have hK : W.B.K = K := congrArg Bs.K hB
  obtain ⟨r, as, rfl, hp⟩ := hp
  show Sx W _ [some (T r), some (T as), none, none] _
  obtain ⟨hk, ⟨hnl, hn0, hns⟩, ha0, hal, hp⟩ := hp
  refine sx_seq (sx_set (ev_sumT hK (ev_rnums hK (ev_var rfl ?_))))
  refine sx_ret (ev_lst (α := Int) (rα := inferInstance) (el_cons (ev_minL hK ?_)))
  refine ev_lcF (fun a : Int => decide (r.ns.sum ≤ 2 * wUp r.ns as a)) id hK (ev_var rfl ⟨hal, fun W' sb a ha => ⟨[3], rfl, ?_⟩, ?_⟩)
  · have hB' : W'.B = bs K A := sb.B.trans hB
    apply tj_name
    apply et_test
    walk_at "g0"
    walk_at "g0"
    walk_at "g0"
    refine ev_methW (β := Ru) hB' hx0 (by decide) (ev_var rfl ⟨_, ⟨kn_ru hk, rfl⟩, ea_cons (ev_var rfl (ea_cons (ev_var rfl (ea_nil (pc_Weigh_weight_up_to ⟨hal, _, rfl, ?_⟩)))))⟩)
    refine ⟨.inl ⟨by decide, by decide⟩, ?_⟩
    refine ev_var rfl ?_
    exact ⟨fun h => ev_var rfl ⟨h, rfl⟩, fun h => h⟩
  rw [List.map_id]
  refine ⟨wg_some hnl ha0 (by omega), fun m h1 h2 => el_nil ⟨by show 1 ≤ 100000; decide, ?_⟩⟩
  rw [minL_uniq h1 h2]
  exact hp
def P_Leaf_answer : PT := fun rt xx ts => ∃ (r : Ru) (ds : List (Str × Int)), ts = [T r, T (Dc.mk ds)] ∧ (r.k = .leaf ∧ (getDc ds r.lb = none → (reprText r.lb).length ≤ 3000 ∧ r.lb.length ≤ 3000 ∧ xx ⟨.MissingReading, [("name", .s r.lb)]⟩) ∧ ((getDc ds r.lb).isSome = true → rt (T (rdF ds r.lb))))
theorem ok_Leaf_answer (tx : Txt K mg A) : FnR P w K mg base (L2.CX P w) 3 A.f_Leaf_answer (spG (bs K A) P_Leaf_answer) := by
  have G_MissingReading_init := ok_MissingReading_init (P := P) (w := w) (base := base) tx
  refine fnRX_of tx.d_Leaf_answer sc_Leaf_answer (len_ok (n := 2) fun rt xx ts hp => by obtain ⟨_, _, rfl, _⟩ := hp; rfl) (fun cdv Ar outer s H vs Q E hr h => ⟨_, (pss_cons (ps_if (pt_cmp (pc_dnotin (huX hr) (pe_fldK K (pv 0) rfl) (pv 1))) (pss_one (ps_raise rfl (takes_of rfl rfl rfl rfl) (pmk_oexR tx.xo_MissingReading tx.xi_MissingReading tx.xt_MissingReading G_MissingReading_init (room hr) pass0 rfl tx.c_MissingReading (pa_cons (pe_fldK K (pv 0) rfl) pa_nil)))) pss_nil)
        (pss_one (ps_ret (pe_dget (huX hr) (pv 1) (pe_fldK K (pv 0) rfl) (fun _ _ => rfl))))),
      body_ok (N := ["self", "readings"]) (fun W ts rt xx hB ho hw hp => ?_) h⟩)
  have hK : W.B.K = K := congrArg Bs.K hB
  obtain ⟨r, ds, rfl, hp⟩ := hp
  show Sx W _ [some (T r), some (T (Dc.mk ds))] _
  obtain ⟨hk, hno, hyes⟩ := hp
  refine sx_seq (sx_if ?_)
  apply et_B
  refine ev_dnotin (ev_rlabel hK (ev_var rfl (ev_var rfl ⟨fun h1 => ?_, fun h1 => ?_⟩)))
  · have hn : getDc ds r.lb = none := by
      cases e : getDc ds r.lb with
      | none => rfl
      | some b => simp [e] at h1
    obtain ⟨s1, s2, hxx⟩ := hno hn
    refine sx_raise (c := .MissingReading) (Wx := fun cls d _ H => E cls d H) hB rfl (hx_of hw) ?_
    exact ea_cons (ev_rlabel hK (ev_var rfl (ea_nil ⟨_, shStr_ok s1 s2, hxx⟩)))
  refine sx_next ?_
  have hs : (getDc ds r.lb).isSome = true := by simpa using h1
  obtain ⟨b, hb⟩ := Option.isSome_iff_exists.mp hs
  refine sx_ret (ev_dget (ev_var rfl (ev_rlabel hK (ev_var rfl ⟨b, hb, ?_⟩))))
  have hy := hyes hs
  unfold rdF at hy
  rw [hb] at hy
  exact hy
def P_Rule_answer (d : Nat) : PT := fun rt xx ts => ∃ (r : Ru) (ds : List (Str × Int)), ts = [T r, T (Dc.mk ds)] ∧ (r.k ≠ .leaf ∧ depR r ≤ d ∧ kdsR [RK.leaf, RK.rank, RK.trim, RK.weigh] r ∧ okR r ∧ MisR ds r (fun a => rt (T a)) xx)
theorem ok_Rule_answer (tx : Txt K mg A) : ∀ d : Nat, FnR P w K mg base (L2.CX P w) (d + 4) A.f_Rule_answer (spG (bs K A) (P_Rule_answer d)) := by
  intro d
  induction d with
  | zero => 
    exact fun _ _ _ _ _ _ _ _ _ _ _ h => by
      obtain ⟨W, ts, rt, x, _, _, _, ⟨r, ds, _, hk, hd, _⟩, _⟩ := h
      rw [depR_node hk] at hd
      omega
  | succ d ih =>
  have G_Rule_answer := ih
  have G_Rank_counted := ok_Rank_counted (P := P) (w := w) (base := base) tx
  have G_Trim_counted := ok_Trim_counted (P := P) (w := w) (base := base) tx
  have G_Weigh_counted := ok_Weigh_counted (P := P) (w := w) (base := base) tx
  have G_Leaf_answer := ok_Leaf_answer (P := P) (w := w) (base := base) tx
  refine fnRX_of tx.d_Rule_answer sc_Rule_answer (len_ok (n := 2) fun rt xx ts hp => by obtain ⟨_, _, rfl, _⟩ := hp; rfl) (fun cdv Ar outer s H vs Q E hr h => ⟨_, (pss_cons (ps_set (i := 2) sc_Rule_answer.nd rfl (Or.inl rfl) (pe_methV (k := (d + 4)) (E := fun _ => E0) (S := (fun C sp => (C = A.c_Rank ∧ sp = spG (bs K A) P_Rank_counted) ∨ (C = A.c_Trim ∧ sp = spG (bs K A) P_Trim_counted) ∨ (C = A.c_Weigh ∧ sp = spG (bs K A) P_Weigh_counted))) (pv 0) (fun C sp h => match C, sp, h with | _, _, .inl ⟨rfl, rfl⟩ => ⟨tx.cl_Rank, _, tx.mi_Rank_counted, FnR.mono G_Rank_counted (by omega)⟩ | _, _, .inr (.inl ⟨rfl, rfl⟩) => ⟨tx.cl_Trim, _, tx.mi_Trim_counted, FnR.mono G_Trim_counted (by omega)⟩ | _, _, .inr (.inr (⟨rfl, rfl⟩)) => ⟨tx.cl_Weigh, _, tx.mi_Weigh_counted, FnR.mono G_Weigh_counted (by omega)⟩) (room hr (by omega)) passS0 (pa_cons (pe_lcX (E := E) (own := [("part", 3)]) rfl rfl (takes_of rfl rfl rfl rfl) rfl sc_Rule_answer.nd (pi_tupK K (pe_fldK K (pv 0) rfl)) (blkOk_by (N := ["self", "readings", "counted", "part"]) (sc := defScope s_Rule_answer) (by decide +kernel)) (fun _ _ _ _ _ => (pg_name (i := 3) sc_Rule_answer.nd rfl (Or.inl rfl))) (fun _ _ _ _ _ _ px => pts_nil) (fun _ _ _ _ _ _ px => (pe_methV (k := (d + 4)) (E := WE (fun cls d _ H => E cls d H)) (S := (fun C sp => (C = A.c_Leaf ∧ sp = spG (bs K A) P_Leaf_answer) ∨ (C = A.c_Rank ∧ sp = (spG (bs K A) (P_Rule_answer d))) ∨ (C = A.c_Trim ∧ sp = (spG (bs K A) (P_Rule_answer d))) ∨ (C = A.c_Weigh ∧ sp = (spG (bs K A) (P_Rule_answer d))))) (pv 3) (fun C sp h => match C, sp, h with | _, _, .inl ⟨rfl, rfl⟩ => ⟨tx.cl_Leaf, _, tx.mi_Leaf_answer, FnR.mono G_Leaf_answer (by omega)⟩ | _, _, .inr (.inl ⟨rfl, rfl⟩) => ⟨tx.cl_Rank, _, tx.mi_Rank_answer, FnR.mono G_Rule_answer (by omega)⟩ | _, _, .inr (.inr (.inl ⟨rfl, rfl⟩)) => ⟨tx.cl_Trim, _, tx.mi_Trim_answer, FnR.mono G_Rule_answer (by omega)⟩ | _, _, .inr (.inr (.inr (⟨rfl, rfl⟩))) => ⟨tx.cl_Weigh, _, tx.mi_Weigh_answer, FnR.mono G_Rule_answer (by omega)⟩) (room hr (by omega)) px (pa_cons (pv 1) pa_nil)))) pa_nil)))
        (pss_one (ps_ret (pe_op op_fdiv (pe_callB (cr_sum rfl) (by rfl) tx.z_sum (by decide +kernel) (pa_cons (pv 2) pa_nil)) (pe_callB (call_lenK K) (by rfl) tx.z_len PySem.boot_len (pa_cons (pv 2) pa_nil)))))),
      body_ok (N := ["self", "readings", "counted", "part"]) (fun W ts rt xx hB ho hw hp => ?_) h⟩)
  have hK : W.B.K = K := congrArg Bs.K hB
  obtain ⟨r, ds, rfl, hp⟩ := hp
  show Sx W _ [some (T r), some (T (Dc.mk ds)), none, none] _
  obtain ⟨hk, hdr, hkr, hok, hm⟩ := hp
  rw [depR_node hk] at hdr
  have hdp : depRL r.ps < d + 1 := by omega
  obtain ⟨hkk, hks⟩ := kdsR_node.mp hkr
  obtain ⟨hnum, hl100, hoks⟩ := okR_node.mp hok
  have hasl : (r.ps.map (ansF (rdF ds))).length = r.ps.length := List.length_map _
  have hcl := cnt_len hnum hk hasl hl100
  refine sx_seq (sx_set (α := List Int) (rα := inferInstance) (EvK.imp (α := List Int) (k := fun c => c = cntF r.k r.ns (r.ps.map (ansF (rdF ds))) ∧ misF ds (namesF r) = none) ?_ ?_))
  · refine ev_methW (β := Ru) hB hx0 (by decide) (ev_var rfl ?_)
    obtain ⟨P, hS, hP⟩ : ∃ P : PT, (((bs K A).cl (VIns.kn r) = A.c_Rank ∧ spG (bs K A) P = spG (bs K A) P_Rank_counted) ∨ ((bs K A).cl (VIns.kn r) = A.c_Trim ∧ spG (bs K A) P = spG (bs K A) P_Trim_counted) ∨ ((bs K A).cl (VIns.kn r) = A.c_Weigh ∧ spG (bs K A) P = spG (bs K A) P_Weigh_counted)) ∧ (misF ds (namesF r) = none → P (fun t => ∃ a : List Int, t = T a ∧ a = cntF r.k r.ns (r.ps.map (ansF (rdF ds))) ∧ misF ds (namesF r) = none) (fun _ => False) [T r, T (r.ps.map (ansF (rdF ds)))]) := by
      by_cases hno : misF ds (namesF r) = none
      · suffices h : ∃ P : PT, (((bs K A).cl (VIns.kn r) = A.c_Rank ∧ spG (bs K A) P = spG (bs K A) P_Rank_counted) ∨ ((bs K A).cl (VIns.kn r) = A.c_Trim ∧ spG (bs K A) P = spG (bs K A) P_Trim_counted) ∨ ((bs K A).cl (VIns.kn r) = A.c_Weigh ∧ spG (bs K A) P = spG (bs K A) P_Weigh_counted)) ∧ P (fun t => ∃ a : List Int, t = T a ∧ a = cntF r.k r.ns (r.ps.map (ansF (rdF ds))) ∧ misF ds (namesF r) = none) (fun _ => False) [T r, T (r.ps.map (ansF (rdF ds)))] by
          obtain ⟨P, h1, h2⟩ := h
          exact ⟨P, h1, fun _ => h2⟩
        cases hk2 : r.k with
      | leaf => exact absurd hk2 hk
      | rank => exact ⟨P_Rank_counted, .inl (⟨kn_ru hk2, rfl⟩), ⟨r, _, rfl, by rw [hk2] at hnum; rw [hasl]; exact hnum, ⟨_, rfl, rfl, hno⟩⟩⟩
      | trim => exact ⟨P_Trim_counted, .inr (.inl (⟨kn_ru hk2, rfl⟩)), ⟨r, _, rfl, by rw [hk2] at hnum; rw [hasl]; exact hnum, ⟨_, rfl, rfl, hno⟩⟩⟩
      | weigh => 
        obtain ⟨w1, w2, w3⟩ : numOk .weigh r.ns r.ps.length := hk2 ▸ hnum
        exact ⟨P_Weigh_counted, .inr (.inr (⟨kn_ru hk2, rfl⟩)), ⟨r, _, rfl, hk2, ⟨w1.trans hasl.symm, w2, w3⟩, by rw [hasl]; have := sum_pos_len w3; omega, by omega, ⟨_, rfl, rfl, hno⟩⟩⟩
      · cases hk2 : r.k with
      | leaf => exact absurd hk2 hk
      | rank => exact ⟨P_Rank_counted, .inl (⟨kn_ru hk2, rfl⟩), fun h => absurd h hno⟩
      | trim => exact ⟨P_Trim_counted, .inr (.inl (⟨kn_ru hk2, rfl⟩)), fun h => absurd h hno⟩
      | weigh => exact ⟨P_Weigh_counted, .inr (.inr (⟨kn_ru hk2, rfl⟩)), fun h => absurd h hno⟩
    refine ⟨P, hS, ea_cons (EvK.imp (k := fun as => as = r.ps.map (ansF (rdF ds)) ∧ misF ds (namesF r) = none) ?_ (by rintro _ ⟨rfl, hno⟩; exact ea_nil (hP hno)))⟩
    refine (evF_lcTX hK (ev_rparts hK (ev_var rfl ⟨by show r.ps.length ≤ 100000; omega, fun i cs => cs = (r.ps.take i).map (ansF (rdF ds)) ∧ ∀ p ∈ r.ps.take i, ∀ n ∈ namesF p, (getDc ds n).isSome = true, ⟨rfl, fun p hp => by rw [List.take_zero] at hp; cases hp⟩, fun W' sb xin i q cs hqi hI => ⟨[3], rfl, ?_⟩, fun cs hb => ?_⟩))).k
    · have hB' : W'.B = bs K A := sb.B.trans hB
      have hK' : W'.B.K = K := congrArg Bs.K hB'
      obtain ⟨rfl, hI⟩ := hI
      have hqi : r.ps[i]? = some q := hqi
      have hq : q ∈ r.ps := List.mem_of_getElem? hqi
      have key : ∀ n, misF ds (namesF q) = some n → (reprText n).length ≤ 3000 ∧ n.length ≤ 3000 ∧ xx ⟨.MissingReading, [("name", .s n)]⟩ := fun n hn => by
        have e := misF_flat hqi hI hn
        unfold MisR at hm
        rw [namesF_node hk, e] at hm
        exact hm
      apply tj_name
      refine et_yes ⟨fun _ => EvK.imp (k := fun y : Int => y = ansF (rdF ds) q ∧ misF ds (namesF q) = none) ?_ (fun y e => ?_), fun h => (nomatch h)⟩
      · refine ev_methW (β := Ru) hB' (hx_of (xin E xx hw)) (by decide) (ev_var rfl ?_)
        have hkp := (kdsR_node.mp (kdsRL_mem hks hq)).1
        have hsub : MisR ds q (fun a => ∃ a' : Int, (T a : Ty) = T a' ∧ a' = ansF (rdF ds) q ∧ misF ds (namesF q) = none) xx := by
          cases e : misF ds (namesF q) with
          | none => exact mis_all (misF_none.mp e) ⟨_, rfl, rfl, rfl⟩
          | some n =>
            obtain ⟨k1, k2, k3⟩ := key n e
            exact mis_one e k1 k2 k3
        show ∃ P : PT, _ ∧ EvA W' _ _ fun ts => P _ _ (T q :: ts)
        cases hk3 : q.k with
        | leaf => exact ⟨_, .inl (⟨kn_ru hk3, rfl⟩), ea_cons (ev_var rfl (ea_nil ⟨q, ds, rfl, hk3, fun hn => key q.lb (by rw [namesF_leaf hk3]; unfold misF; rw [List.find?_cons_of_pos (by rw [hn]; rfl)]), fun hs => ⟨_, rfl, (ansF_leaf _ hk3).symm, misF_none.mpr fun n hn => by rw [namesF_leaf hk3] at hn; rw [List.mem_singleton.mp hn]; exact hs⟩⟩))⟩
        | rank => exact ⟨_, .inr (.inl (⟨kn_ru hk3, rfl⟩)), ea_cons (ev_var rfl (ea_nil ⟨q, ds, rfl, by rw [hk3]; decide, Nat.le_of_lt_succ (Nat.lt_of_le_of_lt (depR_mem hq) hdp), kdsRL_mem hks hq, okRL_mem hoks hq, hsub⟩))⟩
        | trim => exact ⟨_, .inr (.inr (.inl (⟨kn_ru hk3, rfl⟩))), ea_cons (ev_var rfl (ea_nil ⟨q, ds, rfl, by rw [hk3]; decide, Nat.le_of_lt_succ (Nat.lt_of_le_of_lt (depR_mem hq) hdp), kdsRL_mem hks hq, okRL_mem hoks hq, hsub⟩))⟩
        | weigh => exact ⟨_, .inr (.inr (.inr (⟨kn_ru hk3, rfl⟩))), ea_cons (ev_var rfl (ea_nil ⟨q, ds, rfl, by rw [hk3]; decide, Nat.le_of_lt_succ (Nat.lt_of_le_of_lt (depR_mem hq) hdp), kdsRL_mem hks hq, okRL_mem hoks hq, hsub⟩))⟩
      · obtain ⟨rfl, e2⟩ := e
        have ht : r.ps.take (i + 1) = r.ps.take i ++ [q] := by rw [List.take_succ, hqi]; rfl
        refine ⟨by rw [ht, List.map_append]; rfl, fun p hp => ?_⟩
        rw [ht] at hp
        rcases List.mem_append.mp hp with hp | hp
        · exact hI p hp
        · rw [List.mem_singleton.mp hp]
          exact misF_none.mp e2
    · obtain ⟨rfl, hall⟩ := hb
      have hl : (Tl.mk r.ps).xs.length = r.ps.length := rfl
      rw [hl, List.take_length] at hall ⊢
      refine ⟨rfl, misF_none.mpr fun n hn => ?_⟩
      rw [namesF_node hk] at hn
      obtain ⟨p, hp, hn⟩ := List.mem_flatMap.mp hn
      exact hall p hp n hn
  rintro _ ⟨rfl, hno⟩
  unfold MisR at hm
  rw [hno] at hm
  have hp : rt (T (ansF (rdF ds) r)) := hm
  rw [ansF_node _ hk] at hp
  show Sx W _ [some (T r), some (T (Dc.mk ds)), some (T (cntF r.k r.ns (r.ps.map (ansF (rdF ds))))), none] _
  walk_at "g"
  exact hp
theorem trN_okJ : ∀ k : RK, Dat.good (trN k)
  | .leaf => strOk_of _
  | .rank => strOk_of _
  | .trim => strOk_of _
  | .weigh => strOk_of _
def P_joined : PT := fun rt xx ts => ∃ (r : Ru) (as : List Int), ts = [T (Tt.mk r), T as] ∧ (r.k ≠ .leaf ∧ numOk r.k r.ns as.length ∧ as.length ≤ 100 ∧ rt (T (nodeF r.k r.ns as)))
theorem pc_joined {rt : Ty → Prop} {xx : Xn → Prop} {r : Ru} {as : List Int} (h : r.k ≠ .leaf ∧ numOk r.k r.ns as.length ∧ as.length ≤ 100 ∧ rt (T (nodeF r.k r.ns as))) : P_joined rt xx [T (Tt.mk r), T as] := ⟨_, _, rfl, h⟩
theorem ok_joined (tx : Txt K mg A) : FnR P w K mg base CX0 1 A.f_joined (spG (bs K A) P_joined) := by
  refine fnR_of tx.g_joined.d sc_joined (len_ok (n := 2) fun rt xx ts hp => by obtain ⟨_, _, rfl, _⟩ := hp; rfl) (fun cdv Ar outer s H vs Q E hr h => ⟨_, (pss_cons (ps_if (pt_cmpR (op_eqDK K (huD hr)) (pe_ix (ix_tupK K) (pv 0) pe_int (fun _ _ => rfl)) pe_str (nomark _)) (pss_one (ps_ret (pe_ix (ix_listK K) (pe_callB cr_sortedI (by rfl) tx.z_sorted (by decide +kernel) (pa_cons (pv 1) pa_nil)) (pe_ix (ix_tupK K) (pv 0) pe_int (fun _ _ => rfl)) (fun _ _ => rfl)))) pss_nil)
        (pss_cons (ps_if (pt_cmpR (op_eqDK K (huD hr)) (pe_ix (ix_tupK K) (pv 0) pe_int (fun _ _ => rfl)) pe_str (nomark _)) (pss_cons (ps_set (i := 2) sc_joined.nd rfl (Or.inl rfl) (pe_slice (sl_listK K) (pe_callB cr_sortedI (by rfl) tx.z_sorted (by decide +kernel) (pa_cons (pv 1) pa_nil)) (po_some (pe_ix (ix_tupK K) (pv 0) pe_int (fun _ _ => rfl))) (po_some (pe_op op_sub (pe_callB (call_lenK K) (by rfl) tx.z_len PySem.boot_len (pa_cons (pv 1) pa_nil)) (pe_ix (ix_tupK K) (pv 0) pe_int (fun _ _ => rfl))))))
        (pss_one (ps_ret (pe_op op_fdiv (pe_callB (cr_sum rfl) (by rfl) tx.z_sum (by decide +kernel) (pa_cons (pv 2) pa_nil)) (pe_callB (call_lenK K) (by rfl) tx.z_len PySem.boot_len (pa_cons (pv 2) pa_nil)))))) pss_nil)
        (pss_cons (ps_for PassesOwn.never rfl (pi_listK K (pe_callB cr_sortedI (by rfl) tx.z_sorted (by decide +kernel) (pa_cons (pv 1) pa_nil))) (pg_name (i := 3) sc_joined.nd rfl (Or.inr rfl)) (pss_one (ps_if (pt_cmpR op_ge (pe_op op_mul pe_int (pe_callB (cr_sum rfl) (by rfl) tx.z_sum (by decide +kernel) (pa_cons (pe_lc (own := [("_law_k", 4)]) rfl sc_joined.nd (pi_range1 (by rfl) tx.z_range (pa_cons (pe_callB (call_lenK K) (by rfl) tx.z_len PySem.boot_len (pa_cons (pv 1) pa_nil)) pa_nil)) (blkOk_by (N := ["_law_tree_here", "_law_worths", "_law_kept", "_law_worth", "_law_k"]) (sc := defScope s_joined) (by decide +kernel)) (fun _ _ _ _ _ => (pg_name (i := 4) sc_joined.nd rfl (Or.inl rfl))) (fun _ _ _ _ _ => (pts_one (pt_cmpR op_le (pe_ix (ix_listK K) (pv 1) (pv 4) (fun _ _ => rfl)) (pv 3) (nomark _)))) (fun _ _ _ _ _ => (pe_ix (ix_listK K) (pe_ix (ix_tupK K) (pv 0) pe_int (fun _ _ => rfl)) (pv 4) (fun _ _ => rfl)))) pa_nil))) (pe_callB (cr_sum rfl) (by rfl) tx.z_sum (by decide +kernel) (pa_cons (pe_ix (ix_tupK K) (pv 0) pe_int (fun _ _ => rfl)) pa_nil)) (nomark _)) (pss_one (ps_ret (pv 3))) pss_nil)))
        (pss_one (ps_ret pe_non))))),
      body_ok (N := ["_law_tree_here", "_law_worths", "_law_kept", "_law_worth", "_law_k"]) (fun W ts rt xx hB ho hw hp => ?_) h⟩)
  have hK : W.B.K = K := congrArg Bs.K hB
  obtain ⟨r, as, rfl, hp⟩ := hp
  show Sx W _ [some (T (Tt.mk r)), some (T as), none, none, none] _
  obtain ⟨hk, hnum, hl, hp⟩ := hp
  refine sx_seq (sx_if (et_test ?_))
  refine ev_eqG hK (ev_tr0 hK (ev_var rfl (ev_str (eqg_in (by decide) (trN_okJ _) (strOk_of _) ?_))))
  refine ⟨fun h1 => ?_, fun h1 => ?_⟩
  · have hk2 : r.k = .rank := by
      have := of_decide_eq_true h1
      cases hk2 : r.k with
      | rank => rfl
      | _ => rw [hk2] at this; exact absurd this (by decide +kernel)
    rw [hk2] at hnum hp
    obtain ⟨n, hns, n0, n1⟩ := hnum
    rw [hns] at hp
    refine sx_ret (ev_ixL (α := Int) (rα := inferInstance) hK (ev_sortedI hK (ev_var rfl fun bs hpm hss => ?_)))
    obtain rfl := sortI_uniq hpm hss
    refine ev_tr1n hK (ev_var rfl ⟨.inl hk2, n, hns, (sortI as).getD n.toNat 0, getD_of n0 (by rw [sortI_len]; exact n1), ?_⟩)
    have e : nodeF .rank [n] as = (sortI as).getD n.toNat 0 := by
      show (([(sortI as).getD n.toNat 0] : List Int).sum) / ((1 : Nat) : Int) = _
      simp
    rw [e] at hp
    exact hp
  refine sx_next ?_
  refine sx_seq (sx_if (et_test ?_))
  refine ev_eqG hK (ev_tr0 hK (ev_var rfl (ev_str (eqg_in (by decide) (trN_okJ _) (strOk_of _) ?_))))
  refine ⟨fun h2 => ?_, fun h2 => ?_⟩
  · have hk2 : r.k = .trim := by
      have := of_decide_eq_true h2
      cases hk2 : r.k with
      | trim => rfl
      | _ => rw [hk2] at this; exact absurd this (by decide +kernel)
    rw [hk2] at hnum hp
    obtain ⟨n, hns, n0, n1⟩ := hnum
    rw [hns] at hp
    refine sx_seq (sx_set (α := List Int) (rα := inferInstance) (ev_cut hK (ev_sortedI hK (ev_var rfl fun bs hpm hss => ?_))))
    obtain rfl := sortI_uniq hpm hss
    refine ev_tr1n hK (ev_var rfl ⟨.inr hk2, n, hns, ev_opI (ev_len hK (ev_var rfl (ev_tr1n hK (ev_var rfl ⟨.inr hk2, n, hns, ⟨n0, by omega, by rw [sortI_len]; omega⟩, ?_⟩))))⟩)
    have e : ((sortI as).drop n.toNat).take (((as.length : Int) - n).toNat - n.toNat) = cntF .trim [n] as := by
      show _ = ((sortI as).drop n.toNat).take (as.length - n.toNat - n.toNat)
      congr 1
      omega
    rw [e]
    have hc : 0 < (cntF .trim [n] as).length ∧ (cntF .trim [n] as).length ≤ 100 := by
      show 0 < (((sortI as).drop n.toNat).take (as.length - n.toNat - n.toNat)).length ∧ (((sortI as).drop n.toNat).take (as.length - n.toNat - n.toNat)).length ≤ 100
      rw [List.length_take, List.length_drop, sortI_len]
      omega
    have hp2 : rt (T ((cntF .trim [n] as).sum / ((cntF .trim [n] as).length : Int))) := hp
    generalize cntF .trim [n] as = cs at hc hp2
    refine sx_ret (ev_opC (ev_sum hK (ev_var rfl (ev_len hK (ev_var rfl ⟨⟨by omega, by omega⟩, hp2⟩)))))
  refine sx_next ?_
  have hk4 : r.k = .weigh := by
    cases hk4 : r.k with
    | weigh => rfl
    | leaf => exact absurd hk4 hk
    | rank => rw [hk4] at h1; exact absurd rfl (of_decide_eq_false h1)
    | trim => rw [hk4] at h2; exact absurd rfl (of_decide_eq_false h2)
  rw [hk4] at hnum hp
  obtain ⟨n1, n2, n3⟩ := hnum
  have ha0 : 0 < as.length := by have := sum_pos_len n3; omega
  have e : nodeF .weigh r.ns as = minL (as.filter fun a => decide (r.ns.sum ≤ 2 * wUp r.ns as a)) := by
    show (([minL (as.filter fun a => decide (r.ns.sum ≤ 2 * wUp r.ns as a))] : List Int).sum) / ((1 : Nat) : Int) = _
    simp
  rw [e] at hp
  refine sx_seq (sx_forL (α := Int) (rα := inferInstance) hK (ev_sortedI hK (ev_var rfl fun bs hpm hss => ?_)))
  obtain rfl := sortI_uniq hpm hss
  refine ⟨fun i Γ' => (∀ j a, j < i → (sortI as)[j]? = some a → ¬ r.ns.sum ≤ 2 * wUp r.ns as a) ∧ ∃ o3, Γ' = [some (T (Tt.mk r)), some (T as), none, o3, none], ⟨fun j a hj => absurd hj (Nat.not_lt_zero _), none, rfl⟩, ?_, ?_⟩
  · rintro i a Γ' ha ⟨hf, o3, rfl⟩
    refine ⟨[3], tj_name ?_⟩
    show Sx W _ [some (T (Tt.mk r)), some (T as), none, some (T a), none] _
    refine sx_if (et_test ?_)
    refine ev_opB (ev_opC (ev_int (ev_sum hK ((evF_lcR ?_).k))))
    walk_at "g"
    refine ⟨by omega, fun i (ys : List Int) => ys.sum = ((((as.zip r.ns).take i).filter fun q => (fun x : Int => decide (x ≤ a)) q.1).map fun q => q.2).sum, rfl, fun W' sb i ys hi hb => ⟨[4], rfl, ?_⟩, fun ys hb => ?_⟩
    · have hB' : W'.B = bs K A := sb.B.trans hB
      have hK' : W'.B.K = K := congrArg Bs.K hB'
      have hi' : i < as.length := by omega
      obtain ⟨x, h1⟩ : ∃ x, as[i]? = some x := ⟨as[i], List.getElem?_eq_getElem hi'⟩
      obtain ⟨mw, h2⟩ : ∃ m, r.ns[i]? = some m := ⟨r.ns[i]'(by omega), List.getElem?_eq_getElem (by omega)⟩
      have hz := zip_take_sum (p := fun x : Int => decide (x ≤ a)) h1 h2
      apply tj_name
      apply et_test
      refine ev_opB (ev_ixL (α := Int) (rα := inferInstance) hK' (ev_var rfl (ev_var rfl ⟨x, atI_nat h1, ev_var rfl ?_⟩)))
      refine ⟨fun h => ev_ixL (α := Int) (rα := inferInstance) hK' (ev_tr1l hK' (ev_var rfl ⟨hk4, ev_var rfl ⟨mw, atI_nat h2, ?_⟩⟩)), fun h => ?_⟩
      · show (ys ++ [mw]).sum = _
        rw [List.sum_append, hb, hz, if_pos h]
        simp
      · show ys.sum = _
        rw [hb, hz, if_neg (by rw [h]; decide), Int.add_zero]
    rw [Int.toNat_natCast, show as.length = (as.zip r.ns).length by rw [List.length_zip]; omega, ← wUp_is] at hb
    rw [hb]
    refine ⟨.inl ⟨by decide, by decide⟩, ev_sum hK (ev_tr1l hK (ev_var rfl ⟨hk4, fun h => ?_, fun h => ?_⟩))⟩
    · have h := of_decide_eq_true h
      refine sx_ret (ev_var rfl ?_)
      have hm : a = minL (as.filter fun a => decide (r.ns.sum ≤ 2 * wUp r.ns as a)) := by
        refine minL_uniq (List.mem_filter.mpr ⟨(sortI_perm as).mem_iff.mp (List.mem_of_getElem? ha), decide_eq_true h⟩) fun y hy => ?_
        obtain ⟨hy1, hy2⟩ := List.mem_filter.mp hy
        obtain ⟨j, hj, hje⟩ := List.getElem_of_mem ((sortI_perm as).mem_iff.mpr hy1)
        have hjs : (sortI as)[j]? = some y := by rw [List.getElem?_eq_getElem hj, hje]
        have hij : i ≤ j := Nat.le_of_not_lt fun hlt => hf j y hlt hjs (of_decide_eq_true hy2)
        obtain ⟨hi, hie⟩ := List.getElem?_eq_some_iff.mp ha
        rcases Nat.eq_or_lt_of_le hij with rfl | hlt
        · rw [ha] at hjs
          cases hjs
          exact Int.le_refl _
        · have := List.pairwise_iff_getElem.mp (sortI_sorted as) i j hi hj hlt
          rw [hie, hje] at this
          exact this
      rw [← hm] at hp
      exact hp
    · have h := of_decide_eq_false h
      refine sx_next ⟨fun j b hj hb2 => ?_, _, rfl⟩
      rcases Nat.eq_or_lt_of_le (Nat.le_of_lt_succ hj) with rfl | hlt
      · rw [ha] at hb2
        cases hb2
        exact h
      · exact hf j b hlt hb2
  · rintro Γ' ⟨hf, o3, rfl⟩
    exfalso
    have hne := wg_some n1 ha0 (by omega)
    have hm := minL_mem (as := as.filter fun a => decide (r.ns.sum ≤ 2 * wUp r.ns as a)) (fun e => by rw [e] at hne; exact absurd hne (by decide))
    obtain ⟨h3, h4⟩ := List.mem_filter.mp hm
    obtain ⟨j, hj, hje⟩ := List.getElem_of_mem ((sortI_perm as).mem_iff.mpr h3)
    exact hf j _ hj (by rw [List.getElem?_eq_getElem hj, hje]) (of_decide_eq_true h4)
def P_answer (d : Nat) : PT := fun rt xx ts => ∃ (r : Ru) (ds : List (Str × Int)), ts = [T (Tt.mk r), T (Dc.mk ds)] ∧ (depR r < d ∧ TrOk 7 r ∧ (∀ n ∈ namesF r, (getDc ds n).isSome = true) ∧ rt (T (ansF (rdF ds) r)))
theorem ok_answer (tx : Txt K mg A) : ∀ d : Nat, FnR P w K mg base CX0 (d + 2) A.f_answer (spG (bs K A) (P_answer d)) := by
  intro d
  induction d with
  | zero => 
    exact fun _ _ _ _ _ _ _ _ _ _ _ h => by
      obtain ⟨W, ts, rt, x, _, _, _, ⟨r, ds, _, hd, _⟩, _⟩ := h
      exact absurd hd (Nat.not_lt_zero _)
  | succ d ih =>
  have G_answer := ih
  have G_joined := ok_joined (P := P) (w := w) (base := base) tx
  refine fnR_of tx.g_answer.d sc_answer (len_ok (n := 2) fun rt xx ts hp => by obtain ⟨_, _, rfl, _⟩ := hp; rfl) (fun cdv Ar outer s H vs Q E hr h => ⟨_, (pss_cons (ps_if (pt_cmpR (op_eqDK K (huD hr)) (pe_ix (ix_tupK K) (pv 0) pe_int (fun _ _ => rfl)) pe_str (nomark _)) (pss_one (ps_ret (pe_dget (huX hr) (pv 1) (pe_ix (ix_tupK K) (pv 0) pe_int (fun _ _ => rfl)) (fun _ _ => rfl)))) pss_nil)
        (pss_one (ps_ret (pe_callR G_joined (room hr (by omega)) rfl (tx.g_joined).g (tx.g_joined).kp pass0 (pa_cons (pv 0) (pa_cons (pe_lc (own := [("_law_part", 2)]) rfl sc_answer.nd (pi_listK K (pe_ix (ix_tupK K) (pv 0) pe_int (fun _ _ => rfl))) (blkOk_by (N := ["_law_tree_here", "_law_readings", "_law_part"]) (sc := defScope s_answer) (by decide +kernel)) (fun _ _ _ _ _ => (pg_name (i := 2) sc_answer.nd rfl (Or.inl rfl))) (fun _ _ _ _ _ => pts_nil) (fun _ _ _ _ _ => (pe_callR G_answer (room hr (by omega)) rfl (tx.g_answer).g (tx.g_answer).kp pass0 (pa_cons (pv 2) (pa_cons (pv 1) pa_nil))))) pa_nil)))))),
      body_ok (N := ["_law_tree_here", "_law_readings", "_law_part"]) (fun W ts rt xx hB ho hw hp => ?_) h⟩)
  have hK : W.B.K = K := congrArg Bs.K hB
  obtain ⟨r, ds, rfl, hp⟩ := hp
  show Sx W _ [some (T (Tt.mk r)), some (T (Dc.mk ds)), none] _
  obtain ⟨hd, ht, hall, hp⟩ := hp
  refine sx_seq (sx_if (et_test ?_))
  refine ev_eqG hK (ev_tr0 hK (ev_var rfl (ev_str (eqg_in (by decide) (trN_okJ _) (strOk_of _) ?_))))
  refine ⟨fun h1 => ?_, fun h1 => ?_⟩
  · have hk : r.k = .leaf := by
      have := of_decide_eq_true h1
      cases hk : r.k with
      | leaf => rfl
      | _ => rw [hk] at this; exact absurd this (by decide +kernel)
    obtain ⟨b, hb⟩ := Option.isSome_iff_exists.mp (hall r.lb (by rw [namesF_leaf hk]; exact List.mem_singleton.mpr rfl))
    refine sx_ret (ev_dget (ev_var rfl (ev_tr1w hK (ev_var rfl ⟨hk, b, hb, ?_⟩))))
    rw [ansF_leaf _ hk] at hp
    unfold rdF at hp
    rw [hb] at hp
    exact hp
  have hk : r.k ≠ .leaf := fun hk => by
    have := of_decide_eq_false h1
    rw [hk] at this
    exact this rfl
  refine sx_next ?_
  obtain ⟨hnum, hl100, -⟩ := okR_node.mp ht.ok
  rw [depR_node hk] at hd
  rw [ansF_node _ hk] at hp
  refine sx_ret (α := Int) (rα := inferInstance) (ev_callR hB (ea_cons (ev_var rfl (ea_cons (α := List Int) (rα := inferInstance) ?_))))
  refine ev_lcF (fun _ => true) (fun t : Tt => ansF (rdF ds) t.r) hK (ev_tr2 hK (ev_var rfl ⟨by rw [List.length_map]; show r.ps.length ≤ _; omega, fun W' sb t hm => ⟨[2], rfl, ?_⟩, ?_⟩))
  · obtain ⟨p, hpm, rfl⟩ := List.mem_map.mp hm
    have hpm : p ∈ r.ps := hpm
    have hB' : W'.B = bs K A := sb.B.trans hB
    apply tj_name
    refine et_yes ⟨fun _ => ?_, fun h => (nomatch h)⟩
    have h9 := depR_mem hpm
    exact ev_callR hB' (ea_cons (ev_var rfl (ea_cons (ev_var rfl (ea_nil ⟨p, ds, rfl, by omega, (TrOk.part (ht.le (Nat.le_succ 7)) hk p hpm), fun n hn => hall n (names_part hk hpm hn), ⟨_, rfl, rfl, rfl⟩⟩)))))
  have em : ((Tt.mk r).r.ps.map Tt.mk).map (fun t : Tt => ansF (rdF ds) t.r) = r.ps.map (ansF (rdF ds)) := by rw [List.map_map]; rfl
  rw [filtT, em]
  refine ea_nil (pc_joined ⟨hk, by rw [List.length_map]; exact hnum, by rw [List.length_map]; exact hl100, ⟨_, rfl, hp⟩⟩)
def P_some : PT := fun rt xx ts => ∃ (ws : List Str), ts = [T Bx.mk, T ws] ∧ (0 < ws.length ∧ ws.length ≤ 100 ∧ (∀ ss : List Str, 0 < ss.length → (∃ rest, (ss ++ rest).Perm ws) → rt (T ss)))
theorem pc_some {rt : Ty → Prop} {xx : Xn → Prop} {ws : List Str} (h : 0 < ws.length ∧ ws.length ≤ 100 ∧ (∀ ss : List Str, 0 < ss.length → (∃ rest, (ss ++ rest).Perm ws) → rt (T ss))) : P_some rt xx [T Bx.mk, T ws] := ⟨_, rfl, h⟩
theorem ok_some (tx : Txt K mg A) : FnR P w K mg base CX0 2 A.f_some (spG (bs K A) P_some) := by
  have G_take := ok_take (P := P) (w := w) (base := base) tx
  refine fnR_of tx.g_some.d sc_some (len_ok (n := 2) fun rt xx ts hp => by obtain ⟨_, rfl, _⟩ := hp; rfl) (fun cdv Ar outer s H vs Q E hr h => ⟨_, (pss_cons (ps_set (i := 2) sc_some.nd rfl (Or.inl rfl) (pe_callTy (call_list_ofK K) (by rfl) tx.z_list (by decide +kernel) (pa_cons (pv 1) pa_nil)))
        (pss_cons (ps_set (i := 3) sc_some.nd rfl (Or.inl rfl) (pe_lst pa_nil))
        (pss_cons (ps_for PassesOwn.never rfl (pi_range1 (by rfl) tx.z_range (pa_cons (pe_op op_add pe_int (pe_callR G_take (room hr) rfl (tx.g_take).g (tx.g_take).kp pass0 (pa_cons (pv 0) (pa_cons (pe_callB (call_lenK K) (by rfl) tx.z_len PySem.boot_len (pa_cons (pv 1) pa_nil)) pa_nil)))) pa_nil)) (pg_name (i := 4) sc_some.nd rfl (Or.inl rfl)) (pss_one (ps_expr (pe_appendK K (pv 3) (pa_cons (pe_popAtK K (pv 2) (pa_cons (pe_callR G_take (room hr) rfl (tx.g_take).g (tx.g_take).kp pass0 (pa_cons (pv 0) (pa_cons (pe_callB (call_lenK K) (by rfl) tx.z_len PySem.boot_len (pa_cons (pv 2) pa_nil)) pa_nil))) pa_nil)) pa_nil)))))
        (pss_one (ps_ret (pv 3)))))),
      body_ok (N := ["_law_box_here", "_law_words_here", "_law_left", "_law_some_here", "_law_turn"]) (fun W ts rt xx hB ho hw hp => ?_) h⟩)
  have hK : W.B.K = K := congrArg Bs.K hB
  obtain ⟨ws, rfl, hp⟩ := hp
  show Sx W _ [some (T Bx.mk), some (T ws), none, none, none] _
  obtain ⟨h0, hl, hp⟩ := hp
  refine sx_ownH fun F => ?_
  refine sxh_seq (sxh_newL (β := Str) (rβ := inferInstance) fun Wo hW => evF_listOf (α := Str) (rα := inferInstance) (congrArg Bs.K (hW.B.trans hB)) (ev_var rfl fun p vs => ?_))
  show SxH W F _ [(p, .lst vs)] [some (T Bx.mk), some (T ws), some (T (Ol.mk p vs ws)), none, none] _
  refine sxh_seq (sxh_newL (β := Str) (rβ := inferInstance) fun Wo hW => evF_lst (el_nil (α := Str) (rα := inferInstance) ⟨by decide, fun q us => ?_⟩))
  show SxH W F _ [(q, .lst us), (p, .lst vs)] [some (T Bx.mk), some (T ws), some (T (Ol.mk p vs ws)), some (T (Ol.mk q us ([] : List Str))), none] _
  refine sxh_seq (sxh_forI (α := Int) (rα := inferInstance) fun Wo hW => ei_rng1 (ev_opI (ev_int (ev_callR (hW.B.trans hB) (ea_cons (ev_var rfl (ea_cons (ev_len (α := Str) (rα := inferInstance) (congrArg Bs.K (hW.B.trans hB)) (ev_var rfl (ea_nil (pc_take ⟨by omega, by omega, fun m m0 m1 => ⟨_, rfl, ⟨by omega, by omega⟩, ?_⟩⟩)))))))))))
  obtain ⟨n, hn⟩ : ∃ n : Nat, 1 + m = (n : Int) := ⟨(1 + m).toNat, by omega⟩
  refine ⟨fun i L' Γ' => ∃ (us2 vs2 : List V) (as cs : List Str) (o4 : Option G.Ty), (as ++ cs).Perm ws ∧ as.length = i ∧ L' = [(q, .lst us2), (p, .lst vs2)] ∧ Γ' = [some (T Bx.mk), some (T ws), some (T (Ol.mk p vs2 cs)), some (T (Ol.mk q us2 as)), o4], ⟨us, vs, [], ws, none, List.Perm.refl _, rfl, rfl, rfl⟩, ?_, ?_, ?_⟩
  · rintro i L' Γ' ⟨us2, vs2, as, cs, o4, _, _, rfl, rfl⟩
    rfl
  · rintro i a L' Γ' hi ⟨us2, vs2, as, cs, o4, hpm, hal, rfl, rfl⟩ Wo' hW'
    have hin : i < n := by
      have := (List.getElem?_eq_some_iff.mp hi).1
      rw [List.length_map, List.length_range, hn] at this
      omega
    have hall := hpm.length_eq
    rw [List.length_append] at hall
    have hbl : 0 < cs.length := by omega
    refine ⟨[4], tj_name ?_⟩
    show SxH W F _ [(q, .lst us2), (p, .lst vs2)] [some (T Bx.mk), some (T ws), some (T (Ol.mk p vs2 cs)), some (T (Ol.mk q us2 as)), some (T a)] _
    refine sxh_appPop (α := Str) (rα := inferInstance) 0 1 rfl rfl (by decide) rfl rfl (by decide) (by omega) fun W4 hW4 => ?_
    have hB4 : W4.B = bs K A := hW4.B.trans hB
    have hK4 : W4.B.K = K := congrArg Bs.K hB4
    refine ev_callR hB4 (ea_cons (ev_var rfl (ea_cons (ev_lenOl (α := Str) (rα := inferInstance) hW4 hK4 (by simp) rfl (ea_nil (pc_take ⟨by omega, by omega, fun j j0 j1 => ⟨_, rfl, ?_⟩⟩))))))
    obtain ⟨jn, rfl⟩ : ∃ jn : Nat, j = (jn : Int) := ⟨j.toNat, by omega⟩
    refine ⟨jn, cs[jn]'(by omega), rfl, by omega, List.getElem?_eq_getElem (by omega), fun v => ⟨us2 ++ [v], vs2.eraseIdx jn, as ++ [cs[jn]'(by omega)], cs.eraseIdx jn, _, ?_, by rw [List.length_append, hal]; rfl, rfl, rfl⟩⟩
    refine List.Perm.trans ?_ hpm
    rw [List.append_assoc]
    exact List.Perm.append_left _ (perm_pop (by omega))
  rintro L' Γ' ⟨us2, vs2, as, cs, o4, hpm, hal, rfl, rfl⟩
  refine sxh_freeze (Γ' := [some (T Bx.mk), some (T ws), some (T cs), some (T as), o4]) (by repeat (first | exact .nil | apply FrzH.ownD (by simp) | apply FrzH.ownL (by simp) | apply FrzH.same)) (sxh_pure fun Wf hWf => sx_ret (α := List Str) (rα := inferInstance) (ev_var rfl (hp as (by rw [hal, List.length_map, List.length_range]; omega) ⟨cs, hpm⟩)))
def P_leaves (d : Nat) : PT := fun rt xx ts => ∃ (r : Ru), ts = [T (Tt.mk r)] ∧ (depR r < d ∧ TrOk 7 r ∧ (namesF r).length ≤ 1000 ∧ rt (T (namesF r)))
theorem ok_leaves (tx : Txt K mg A) : ∀ d : Nat, FnR P w K mg base CX0 (d + 1) A.f_leaves (spG (bs K A) (P_leaves d)) := by
  intro d
  induction d with
  | zero => 
    exact fun _ _ _ _ _ _ _ _ _ _ _ h => by
      obtain ⟨W, ts, rt, x, _, _, _, ⟨r, _, hd, _⟩, _⟩ := h
      exact absurd hd (Nat.not_lt_zero _)
  | succ d ih =>
  have G_leaves := ih
  refine fnR_of tx.g_leaves.d sc_leaves (len_ok (n := 1) fun rt xx ts hp => by obtain ⟨_, rfl, _⟩ := hp; rfl) (fun cdv Ar outer s H vs Q E hr h => ⟨_, (pss_cons (ps_if (pt_cmpR (op_eqDK K (huD hr)) (pe_ix (ix_tupK K) (pv 0) pe_int (fun _ _ => rfl)) pe_str (nomark _)) (pss_one (ps_ret (pe_lst (pa_cons (pe_ix (ix_tupK K) (pv 0) pe_int (fun _ _ => rfl)) pa_nil)))) pss_nil)
        (pss_cons (ps_set (i := 1) sc_leaves.nd rfl (Or.inl rfl) (pe_lst pa_nil))
        (pss_cons (ps_for PassesOwn.never rfl (pi_listK K (pe_ix (ix_tupK K) (pv 0) pe_int (fun _ _ => rfl))) (pg_name (i := 2) sc_leaves.nd rfl (Or.inl rfl)) (pss_one (ps_set (i := 1) sc_leaves.nd rfl (Or.inl rfl) (pe_op op_cat (pv 1) (pe_callR G_leaves (room hr (by omega)) rfl (tx.g_leaves).g (tx.g_leaves).kp pass0 (pa_cons (pv 2) pa_nil))))))
        (pss_one (ps_ret (pv 1)))))),
      body_ok (N := ["_law_tree_here", "_law_found_here", "_law_part"]) (fun W ts rt xx hB ho hw hp => ?_) h⟩)
  have hK : W.B.K = K := congrArg Bs.K hB
  obtain ⟨r, rfl, hp⟩ := hp
  show Sx W _ [some (T (Tt.mk r)), none, none] _
  obtain ⟨hd, ht, hln, hp⟩ := hp
  refine sx_seq (sx_if (et_test ?_))
  refine ev_eqG hK (ev_tr0 hK (ev_var rfl (ev_str (eqg_in (by decide) (trN_ok _) (strOk_of _) ?_))))
  refine ⟨fun h1 => ?_, fun h1 => ?_⟩
  · have hk : r.k = .leaf := by
      have := of_decide_eq_true h1
      cases hk : r.k with
      | leaf => rfl
      | _ => rw [hk] at this; exact absurd this (by decide +kernel)
    rw [namesF_leaf hk] at hp
    exact sx_ret (α := List Str) (rα := inferInstance) (ev_lst (el_cons (ev_tr1w hK (ev_var rfl ⟨hk, el_nil ⟨by show 1 ≤ 100000; decide, hp⟩⟩))))
  have hk : r.k ≠ .leaf := fun hk => by
    have := of_decide_eq_false h1
    rw [hk] at this
    exact this rfl
  have hnm := namesF_node hk
  rw [hnm] at hp hln
  rw [depR_node hk] at hd
  refine sx_next ?_
  refine sx_seq (sx_set (α := List Str) (rα := inferInstance) (ev_lst (el_nil ⟨by decide, ?_⟩)))
  refine sx_seq (sx_forL (α := Tt) (rα := inferInstance) hK (ev_tr2 hK (ev_var rfl ⟨fun i Γ' => ∃ o2 : Option G.Ty, Γ' = [some (T (Tt.mk r)), some (T ((r.ps.take i).flatMap namesF)), o2], ⟨none, rfl⟩, ?_, ?_⟩)))
  · rintro i t Γ' ht2 ⟨o2, rfl⟩
    rw [List.getElem?_map] at ht2
    obtain ⟨p, hpi, rfl⟩ : ∃ p, r.ps[i]? = some p ∧ Tt.mk p = t := by
      cases h : r.ps[i]? with
      | none => rw [h] at ht2; cases ht2
      | some p => rw [h] at ht2; exact ⟨p, rfl, Option.some.inj ht2⟩
    have hpm := List.mem_of_getElem? hpi
    have h9 := depR_mem hpm
    have hlp := mem_sum_le (List.mem_map.mpr ⟨p, hpm, rfl⟩ : (namesF p).length ∈ r.ps.map fun r => (namesF r).length)
    have e2 : (r.ps.flatMap namesF).length = ((r.ps.take i).flatMap namesF).length + ((r.ps.drop i).flatMap namesF).length := by
      rw [← List.length_append, ← List.flatMap_append, List.take_append_drop]
    have e3 := List.length_flatMap (l := r.ps) (f := namesF)
    refine tg_name ?_
    refine sx_set (α := List Str) (rα := inferInstance) (ev_cat (ev_var rfl (ev_callR hB (ea_cons (ev_var rfl (ea_nil ⟨p, rfl, by omega, TrOk.part (ht.le (Nat.le_succ 7)) hk p hpm, by omega, ⟨_, rfl, by omega, some (T (Tt.mk p)), ?_⟩⟩))))))
    rw [List.take_succ, hpi, List.flatMap_append]
    show _ = [some (T (Tt.mk r)), some (T ((r.ps.take i).flatMap namesF ++ [p].flatMap namesF)), _]
    rw [List.flatMap_cons, List.flatMap_nil, List.append_nil]
    rfl
  rintro Γ' ⟨o2, rfl⟩
  refine sx_ret (α := List Str) (rα := inferInstance) (ev_var rfl ?_)
  rw [List.length_map, List.take_length]
  exact hp
theorem ok_NotRanked_init (tx : Txt K mg A) : FnR P w K mg base CX0 1 A.f_NotRanked_init (spE0 K) := by
  refine fnR_of tx.d_NotRanked_init sc_NotRanked_init (fun vs H Q E h => ?_) (fun cdv Ar outer s H vs Q E hr h => ?_)
  · obtain ⟨a, C, rfl, _⟩ := h; rfl
  · refine ⟨_, (pss_one (ps_expr (pe_geinitK K tx.ge (pa_cons (pv 0) (pa_cons pe_str pa_nil))))), ?_⟩
    try dsimp only [cxOf, Cx.nox]
    obtain ⟨a, C, rfl, T, ha, k⟩ := h
    exact first_ge T rfl ha (fun Q q => q _) _ k
def P_m_refuse_trims : PT := fun rt xx ts => ∃ (o : G.Ty) (rs : List Ru), ts = [o] ∧ ((o = T rs ∨ o = T (Tl.mk rs)) ∧ rs.length ≤ 1000 ∧ (rs.all Ru.rk = true → rt (T ())) ∧ (rs.all Ru.rk = false → xx ⟨.NotRanked, []⟩))
theorem pc_m_refuse_trims {rt : Ty → Prop} {xx : Xn → Prop} {o : G.Ty} {rs : List Ru} (h : (o = T rs ∨ o = T (Tl.mk rs)) ∧ rs.length ≤ 1000 ∧ (rs.all Ru.rk = true → rt (T ())) ∧ (rs.all Ru.rk = false → xx ⟨.NotRanked, []⟩)) : P_m_refuse_trims rt xx [o] := ⟨_, _, rfl, h⟩
theorem ok_m_refuse_trims (tx : Txt K mg A) : FnR P w K mg base (L2.CX P w) 3 A.f_m_refuse_trims (spG (bs K A) P_m_refuse_trims) := by
  have G_NotRanked_init := ok_NotRanked_init (P := P) (w := w) (base := base) tx
  refine fnRX_of tx.g_m_refuse_trims.d sc_m_refuse_trims (len_ok (n := 1) fun rt xx ts hp => by obtain ⟨_, _, rfl, _⟩ := hp; rfl) (fun cdv Ar outer s H vs Q E hr h => ⟨_, (pss_one (ps_if (pt_not (pt_val (pe_callB (cr_all rfl) (by rfl) tx.z_all (by decide +kernel) (pa_cons (pe_lc (own := [("rule", 1)]) rfl sc_m_refuse_trims.nd (pi_seqK K (pv 0)) (blkOk_by (N := ["rules", "rule"]) (sc := defScope s_m_refuse_trims) (by decide +kernel)) (fun _ _ _ _ _ => (pg_name (i := 1) sc_m_refuse_trims.nd rfl (Or.inl rfl))) (fun _ _ _ _ _ => pts_nil) (fun _ _ _ _ _ => (pe_fldK K (pv 1) rfl))) pa_nil)))) (pss_one (ps_raise rfl (takes_of rfl rfl rfl rfl) (pmk_oexR0 tx.xo_NotRanked tx.xi_NotRanked tx.xt_NotRanked G_NotRanked_init (room hr) pass0 rfl tx.c_NotRanked))) pss_nil)),
      body_ok (N := ["rules", "rule"]) (fun W ts rt xx hB ho hw hp => ?_) h⟩)
  have hK : W.B.K = K := congrArg Bs.K hB
  obtain ⟨o, rs, rfl, hp⟩ := hp
  show Sx W _ [some (o), none] _
  obtain ⟨ho, hl, h1, h2⟩ := hp
  have key : ∀ {k : List Bool → Prop}, k (rs.map Ru.rk) → EvF W (tLc (iSeq K (tVar 0)) (gName 1) tYes (tFld K (tVar 1) (Str.ofString "ranked")) [1]) [some o, none] k := fun q => by
    rcases ho with rfl | rfl
    · exact lc_seqL (evF_lcF (fun _ => true) Ru.rk hK (ev_var rfl ⟨by omega, fun W' sb r hr => ⟨[1], rfl, tj_name (et_yes ⟨fun _ => ev_rranked (congrArg Bs.K (sb.B.trans hB)) (ev_var rfl ⟨rfl, rfl⟩), fun h => (nomatch h)⟩)⟩, by rw [filtT]; exact q⟩))
    · exact lc_seqT (evF_lcTF (fun _ => true) Ru.rk hK (ev_var rfl ⟨by show rs.length ≤ 100000; omega, fun W' sb r hr => ⟨[1], rfl, tj_name (et_yes ⟨fun _ => ev_rranked (congrArg Bs.K (sb.B.trans hB)) (ev_var rfl ⟨rfl, rfl⟩), fun h => (nomatch h)⟩)⟩, by rw [filtT]; exact q⟩))
  have eall : (rs.map Ru.rk).all id = rs.all Ru.rk := by
    rw [List.all_map]
    rfl
  refine sx_if (et_not (et_B (ev_all hK (key ?_).k)))
  rw [eall]
  refine ⟨fun h => ?_, fun h => ?_⟩
  · exact sx_raise0 (c := .NotRanked) (Wx := fun cls d _ H => E cls d H) hB rfl tx.xo_NotRanked (hx_of hw) (h2 (by simpa using h))
  · exact sx_next (h1 (by simpa using h))
theorem evF_namesT {K : PySem.W.Frag} {A : Ad} {W : Wd} {Γ : Gam} {te : TE} {k : List Str → Prop} (hB : W.B = bs K A)
    (h : EvK W te Γ fun r : Ru => depR r ≤ 8 ∧ kdsR [.leaf, .rank, .trim, .weigh] r ∧ (namesF r).length ≤ 1000 ∧ k (namesF r)) :
    EvF W (tMethV "names" (fun C sp => (C = A.c_Leaf ∧ sp = spFr (bs K A) P_Leaf_names) ∨ (C = A.c_Rank ∧ sp = spFr (bs K A) (P_Rule_names 8)) ∨ (C = A.c_Trim ∧ sp = spFr (bs K A) (P_Rule_names 8)) ∨ (C = A.c_Weigh ∧ sp = spFr (bs K A) (P_Rule_names 8))) (fun _ => E0) te tNil) Γ k :=
  evF_methW (β := Ru) (γ := Str) hB (by decide) (h.imp fun r ⟨hd, hks, hl, q⟩ => by
    show ∃ P : PF Str, _ ∧ EvA W tNil _ fun ts => P _ (T r :: ts)
    cases hk : r.k with
    | leaf => exact ⟨_, .inl ⟨kn_ru hk, rfl⟩, ea_nil ⟨_, rfl, hk, q⟩⟩
    | rank => exact ⟨_, .inr (.inl ⟨kn_ru hk, rfl⟩), ea_nil ⟨_, rfl, ⟨by rw [hk]; decide, hd, hks, hl⟩, q⟩⟩
    | trim => exact ⟨_, .inr (.inr (.inl ⟨kn_ru hk, rfl⟩)), ea_nil ⟨_, rfl, ⟨by rw [hk]; decide, hd, hks, hl⟩, q⟩⟩
    | weigh => exact ⟨_, .inr (.inr (.inr ⟨kn_ru hk, rfl⟩)), ea_nil ⟨_, rfl, ⟨by rw [hk]; decide, hd, hks, hl⟩, q⟩⟩)
def P_bit_readings : PYL Int := fun k ts => ∃ (o : G.Ty) (rs : List Ru), ts = [o] ∧ (o = T rs ∨ o = T (Tl.mk rs)) ∧ rs.length ≤ 1000 ∧ (rs.flatMap namesF).length ≤ 1000 ∧ (∀ r ∈ rs, TrOk 8 r) ∧ (∃ ws : List Str, ws.length ≤ 12 ∧ ∀ n ∈ rs.flatMap namesF, n ∈ ws) ∧ ∀ xs : List Str, xs.Nodup → (∀ x, x ∈ xs ↔ x ∈ rs.flatMap namesF) → k (rowsD (sortD xs))
theorem pc_bit_readings {k : List (List (Str × Int)) → Prop} {o : G.Ty} {rs : List Ru} (h : (o = T rs ∨ o = T (Tl.mk rs)) ∧ rs.length ≤ 1000 ∧ (rs.flatMap namesF).length ≤ 1000 ∧ (∀ r ∈ rs, TrOk 8 r) ∧ (∃ ws : List Str, ws.length ≤ 12 ∧ ∀ n ∈ rs.flatMap namesF, n ∈ ws) ∧ ∀ xs : List Str, xs.Nodup → (∀ x, x ∈ xs ↔ x ∈ rs.flatMap namesF) → k (rowsD (sortD xs))) : P_bit_readings k [o] := ⟨o, rs, rfl, h⟩
theorem ok_m_bit_readings (tx : Txt K mg A) : FnR P w K mg base CX0 11 A.f_m_bit_readings (spYL (bs K A) P_bit_readings) := by
  have G_Leaf_names := ok_Leaf_names (P := P) (w := w) (base := base) tx
  have G_Rule_names := ok_Rule_names (P := P) (w := w) (base := base) tx 8
  refine fnR_of tx.g_m_bit_readings.d sc_m_bit_readings (fun vs H Q E h => ?_) (fun cdv Ar outer s H vs Q E hr h => ?_)
  · obtain ⟨W, ts, k, _, _, _, d, ⟨o, rs, rfl, _⟩, _⟩ := h
    exact d.length
  · refine ⟨_, (pss_cons (ps_set (i := 1) sc_m_bit_readings.nd rfl (Or.inl rfl) (pe_callB (cr_sortedT P w rfl (huD hr)) (by rfl) tx.z_sorted (by decide +kernel) (pa_cons (pe_sc2G (own := [("rule", 2), ("name", 3)]) (vs1 := [3]) (kdTG P w) rfl sc_m_bit_readings.nd (pi_seqK K (pv 0)) (blkOk_by (N := ["rules", "names", "rule", "name", "rows", "each", "bit", "row"]) (sc := defScope s_m_bit_readings) (by decide +kernel)) (by decide) (fun _ _ _ _ _ => (pg_name (i := 2) sc_m_bit_readings.nd rfl (Or.inl rfl))) (fun _ _ _ _ _ => (pi_listK K (pe_methV0 (k := 10) (E := fun _ => E0) (S := (fun C sp => (C = A.c_Leaf ∧ sp = (spFr (bs K A) P_Leaf_names)) ∨ (C = A.c_Rank ∧ sp = (spFr (bs K A) (P_Rule_names 8))) ∨ (C = A.c_Trim ∧ sp = (spFr (bs K A) (P_Rule_names 8))) ∨ (C = A.c_Weigh ∧ sp = (spFr (bs K A) (P_Rule_names 8))))) (pv 2) (fun C sp h => match C, sp, h with | _, _, .inl ⟨rfl, rfl⟩ => ⟨tx.cl_Leaf, _, tx.mi_Leaf_names, FnR.mono G_Leaf_names (by decide)⟩ | _, _, .inr (.inl ⟨rfl, rfl⟩) => ⟨tx.cl_Rank, _, tx.mi_Rank_names, FnR.mono G_Rule_names (by decide)⟩ | _, _, .inr (.inr (.inl ⟨rfl, rfl⟩)) => ⟨tx.cl_Trim, _, tx.mi_Trim_names, FnR.mono G_Rule_names (by decide)⟩ | _, _, .inr (.inr (.inr (⟨rfl, rfl⟩))) => ⟨tx.cl_Weigh, _, tx.mi_Weigh_names, FnR.mono G_Rule_names (by decide)⟩) (room hr) passS0))) (fun _ _ _ _ _ => (pg_name (i := 3) sc_m_bit_readings.nd rfl (Or.inl rfl))) (fun _ _ _ _ _ => (pv 3))) pa_nil)))
        (pss_cons (ps_set (i := 4) sc_m_bit_readings.nd rfl (Or.inr rfl) (pe_lst (pa_cons pe_dnewK pa_nil)))
        (pss_cons (ps_for PassesOwn.never rfl (pi_listK K (pv 1)) (pg_name (i := 5) sc_m_bit_readings.nd rfl (Or.inr rfl)) (pss_one (ps_set (i := 4) sc_m_bit_readings.nd rfl (Or.inr rfl) (pe_lc2 (own := [("bit", 6), ("row", 7)]) (vs1 := [7]) rfl sc_m_bit_readings.nd (pi_tupK K (pe_tup (pa_cons pe_int (pa_cons pe_int pa_nil)))) (blkOk_by (N := ["rules", "names", "rule", "name", "rows", "each", "bit", "row"]) (sc := defScope s_m_bit_readings) (by decide +kernel)) (by decide) (fun _ _ _ _ _ => (pg_name (i := 6) sc_m_bit_readings.nd rfl (Or.inl rfl))) (fun _ _ _ _ _ => pts_nil) (fun _ _ _ _ _ => (pi_listK K (pv 4))) (fun _ _ _ _ _ => (pg_name (i := 7) sc_m_bit_readings.nd rfl (Or.inl rfl))) (fun _ _ _ _ _ => pts_nil) (fun _ _ _ _ _ => (pe_star (pv 7) (pv 5) (pv 6)))))))
        (pss_one (ps_ret (pv 4)))))), ?_⟩
    try dsimp only [cxOf, Cx.nox]
    refine yl_ok (N := ["rules", "names", "rule", "name", "rows", "each", "bit", "row"]) (fun W0 ts k F hB0 hp => ?_) h
    obtain ⟨o, rs, rfl, hp⟩ := hp
    show SxH W0 F _ [] [some o, none, none, none, none, none, none, none] _
    refine sxh_pureM fun W hW hM => ?_
    have hB : W.B = bs K A := hW.B.trans hB0
    have hK : W.B.K = K := congrArg Bs.K hB
    obtain ⟨ho, hl, hln, htr, ⟨ws, hwl, hws⟩, hp⟩ := hp
    refine sx_seqI (fun Γ' => ∃ xs : List Str, xs.Nodup ∧ (∀ x, x ∈ xs ↔ x ∈ rs.flatMap namesF) ∧ Γ' = [some o, some (T (sortD xs)), none, none, none, none, none, none]) ?_ ?_
    · refine sx_set (α := List Str) (rα := inferInstance) (ev_sortedT ?_)
      have turn : ∀ W', Sub W W' → ∀ r ∈ rs, Sd2Turn Str W W' (gName 2) (tMethV "names" (fun C sp => (C = A.c_Leaf ∧ sp = spFr (bs K A) P_Leaf_names) ∨ (C = A.c_Rank ∧ sp = spFr (bs K A) (P_Rule_names 8)) ∨ (C = A.c_Trim ∧ sp = spFr (bs K A) (P_Rule_names 8)) ∨ (C = A.c_Weigh ∧ sp = spFr (bs K A) (P_Rule_names 8))) (fun _ => E0) (tVar 2) tNil) (gName 3) (tVar 3) [2, 3] [3] [some o, none, none, none, none, none, none, none] r (namesF r) := fun W' sb r hr =>
        ⟨[2], rfl, tj_name ((evF_namesT (sb.B.trans hB) (ev_var rfl ⟨(htr r hr).dep, (htr r hr).kds, by
          have h1 := List.length_flatMap (l := rs) (f := namesF)
          have := mem_sum_le (List.mem_map.mpr ⟨r, hr, rfl⟩ : (namesF r).length ∈ rs.map fun r => (namesF r).length)
          omega, ⟨id, List.map_id _, fun W2 sb2 b hb => ⟨[3], rfl, tj_name (ev_var rfl rfl)⟩⟩⟩)).k)⟩
      rcases ho with rfl | rfl
      · exact sc2_seqL (ev_sd2 (β := Str) namesF str_enc hK (ev_var rfl ⟨hln, turn, fun xs hnd hmem _ => ⟨xs, hnd, fun x => (hmem x).trans decide_eq_true_iff, rfl⟩⟩))
      · exact sc2_seqT (ev_sd2T (β := Str) namesF str_enc hK (ev_var rfl ⟨hln, turn, fun xs hnd hmem _ => ⟨xs, hnd, fun x => (hmem x).trans decide_eq_true_iff, rfl⟩⟩))
    rintro _ ⟨xs, hnd, hmem, rfl⟩
    have hpm := sortD_perm xs
    have hnd2 : (sortD xs).Nodup := hpm.nodup_iff.mpr hnd
    have hxl : (sortD xs).length ≤ 12 := by
      refine Nat.le_trans (nodup_len hnd2 fun x hx => ?_) hwl
      exact hws x ((hmem x).mp (hpm.mem_iff.mp hx))
    generalize hys : sortD xs = ys at hnd2 hxl
    refine sx_seq (sx_set (α := List (Yg F Int)) (rα := inferInstance) (ev_lst (el_cons (ev_dnewY hM (el_nil ⟨by show 1 ≤ 100000; decide, ?_⟩)))))
    refine sx_seq (sx_forL (α := Str) (rα := inferInstance) hK (ev_var rfl ⟨fun i Γ' => ∃ (o5 o6 o7 : Option G.Ty), Γ' = [some o, some (T ys), none, none, some (T ((rowsD (ys.take i)).map fun l => (Yg.mk l : Yg F Int))), o5, o6, o7], ⟨none, none, none, rfl⟩, ?_, ?_⟩))
    · rintro i wd Γ' hwd ⟨o5, o6, o7, rfl⟩
      have hi : i < ys.length := (List.getElem?_eq_some_iff.mp hwd).1
      have htk : ys.take (i + 1) = ys.take i ++ [wd] := by
        rw [List.take_succ, hwd]
        rfl
      have hnd3 : (ys.take i ++ [wd]).Nodup := by
        rw [← htk]
        exact hnd2.sublist (List.take_sublist _ _)
      have hpow : ∀ j, j ≤ 12 → 2 ^ j ≤ 4096 := fun j hj => Nat.le_trans (Nat.pow_le_pow_right (by decide) hj) (by decide)
      have hrl : (rowsD (ys.take i)).length ≤ 4096 := by
        rw [rowsD_len, List.length_take]
        exact hpow _ (by omega)
      generalize hpre : ys.take i = pre at hrl hnd3 htk
      have hpl : pre.length ≤ 12 := by rw [← hpre, List.length_take]; omega
      refine tg_name ?_
      refine sx_set (α := List (Yg F Int)) (rα := inferInstance) (evF_lc2G (α := Int) (β := Yg F Int) (γ := Yg F Int) (rα := inferInstance) (rβ := inferInstance) (rγ := inferInstance) (fun b => (rowsD pre).map fun row => (Yg.mk (row ++ [(wd, b)]) : Yg F Int)) (ei_tup hK (ev_tupN (α := Int) (rα := inferInstance) (el_cons (ev_int (el_cons (ev_int (el_nil ⟨by decide, ?_⟩)))))))).k
      refine ⟨?_, fun W' sb b hb => ⟨[6], rfl, tj_name (et_yes ⟨fun h => (nomatch h), fun _ => ei_list (congrArg Bs.K (sb.B.trans hB)) (ev_var rfl ⟨fun _ => true, fun d => (Yg.mk (putDc (mergeD [] d.l) wd b) : Yg F Int), ?_, fun W2 sb2 d hd => ⟨[7], rfl, tj_name (et_yes ⟨rfl, fun _ => ?_⟩)⟩⟩)⟩)⟩, ?_⟩
      · show ([(0 : Int), 1].flatMap _).length ≤ _
        rw [List.flatMap_cons, List.flatMap_cons, List.flatMap_nil, List.length_append, List.length_append, List.length_map, List.length_map, List.length_nil]
        omega
      · rw [filtT, List.map_map]
        refine List.map_congr_left fun row hrow => ?_
        show (Yg.mk (putDc (mergeD [] row) wd b) : Yg F Int) = _
        rw [star_row hrow hnd3]
      · obtain ⟨ds, hds, rfl⟩ := List.mem_map.mp hd
        refine ev_starY (ds := ds) (hM.sub sb2) rfl ?_ (ev_var rfl (ev_var rfl rfl))
        have := congrArg List.length (rowsD_keys hds)
        rw [List.length_map] at this
        omega
      · refine ⟨some (T wd), o6, o7, ?_⟩
        rw [htk, rowsD_snoc, bitStep, List.map_flatMap]
        simp only [List.map_map]
        rfl
    rintro Γ' ⟨o5, o6, o7, rfl⟩
    refine sx_ret (α := List (Yg F Int)) (rα := inferInstance) (ev_var rfl ?_)
    rw [List.take_length, ← hys]
    exact ⟨_, rfl, hp xs hnd hmem⟩
theorem ev_ansX {K : PySem.W.Frag} {A : Ad} {W : Wd} {Γ : Gam} {te td : TE} {E : L2.St → XK} {k : Int → Prop} {x : Xn → Prop} (hB : W.B = bs K A) (hx : HX W Γ E x)
    (h : EvK W te Γ fun r : Ru => TrOk 8 r ∧ EvK W td Γ fun ds : Dc Int => MisR ds.l r k x) :
    EvK W (tMethV "answer" (fun C sp => (C = A.c_Leaf ∧ sp = spG (bs K A) P_Leaf_answer) ∨ (C = A.c_Rank ∧ sp = spG (bs K A) (P_Rule_answer 8)) ∨ (C = A.c_Trim ∧ sp = spG (bs K A) (P_Rule_answer 8)) ∨ (C = A.c_Weigh ∧ sp = spG (bs K A) (P_Rule_answer 8))) E te (tCons td tNil)) Γ k :=
  ev_methW (β := Ru) hB hx (by decide) (h.imp fun r ⟨ht, h2⟩ => by
    have node : r.k ≠ .leaf → EvA W (tCons td tNil) Γ fun ts => P_Rule_answer 8 (fun t => ∃ a : Int, t = T a ∧ k a) x (T r :: ts) := fun hk =>
      ea_cons (h2.imp fun ds q => ea_nil ⟨r, ds.l, rfl, hk, ht.dep, ht.kds, ht.ok, q.imp fun a q => ⟨_, rfl, q⟩⟩)
    cases hk : r.k with
    | leaf => exact ⟨P_Leaf_answer, .inl ⟨kn_ru hk, rfl⟩, ea_cons (h2.imp fun ds q => ea_nil ⟨r, ds.l, rfl, hk, fun hn => by
        unfold MisR at q
        rw [show misF ds.l (namesF r) = some r.lb by rw [namesF_leaf hk]; unfold misF; rw [List.find?_cons_of_pos (by rw [hn]; rfl)]] at q
        exact q, fun hs => by
        unfold MisR at q
        rw [misF_none.mpr fun n hn => by rw [namesF_leaf hk] at hn; rw [List.mem_singleton.mp hn]; exact hs] at q
        exact ⟨_, rfl, by rw [ansF_leaf _ hk] at q; exact q⟩⟩)⟩
    | rank => exact ⟨P_Rule_answer 8, .inr (.inl ⟨kn_ru hk, rfl⟩), node (by rw [hk]; decide)⟩
    | trim => exact ⟨P_Rule_answer 8, .inr (.inr (.inl ⟨kn_ru hk, rfl⟩)), node (by rw [hk]; decide)⟩
    | weigh => exact ⟨P_Rule_answer 8, .inr (.inr (.inr ⟨kn_ru hk, rfl⟩)), node (by rw [hk]; decide)⟩)
def P_m_first_difference : PT := fun rt xx ts => ∃ (F : Hp) (rs : List Ru) (rows : List (List (Str × Int))), ts = [T rs, T (rows.map fun l => (Yg.mk l : Yg F Int))] ∧ (rs.length ≤ 1000 ∧ (∀ r ∈ rs, TrOk 8 r) ∧ rows.length ≤ 10000 ∧ (∀ row ∈ rows, ∀ r ∈ rs, misF row (namesF r) = none) ∧ rt (T (((rows.find? fun row => decide (1 < nDif (rs.map (ansF (rdF row))))).map fun l => (Yg.mk l : Yg F Int)) : Option (Yg F Int))))
theorem pc_m_first_difference {rt : Ty → Prop} {xx : Xn → Prop} {F : Hp} {rs : List Ru} {rows : List (List (Str × Int))} (h : rs.length ≤ 1000 ∧ (∀ r ∈ rs, TrOk 8 r) ∧ rows.length ≤ 10000 ∧ (∀ row ∈ rows, ∀ r ∈ rs, misF row (namesF r) = none) ∧ rt (T (((rows.find? fun row => decide (1 < nDif (rs.map (ansF (rdF row))))).map fun l => (Yg.mk l : Yg F Int)) : Option (Yg F Int)))) : P_m_first_difference rt xx [T rs, T (rows.map fun l => (Yg.mk l : Yg F Int))] := ⟨_, _, _, rfl, h⟩
theorem ok_m_first_difference (tx : Txt K mg A) : FnR P w K mg base CX0 13 A.f_m_first_difference (spG (bs K A) P_m_first_difference) := by
  have G_Leaf_answer := ok_Leaf_answer (P := P) (w := w) (base := base) tx
  have G_Rule_answer := ok_Rule_answer (P := P) (w := w) (base := base) tx 8
  refine fnR_of tx.g_m_first_difference.d sc_m_first_difference (len_ok (n := 2) fun rt xx ts hp => by obtain ⟨_, _, _, rfl, _⟩ := hp; rfl) (fun cdv Ar outer s H vs Q E hr h => ⟨_, (pss_cons (ps_for PassesOwn.never rfl (pi_listK K (pv 1)) (pg_name (i := 2) sc_m_first_difference.nd rfl (Or.inr rfl)) (pss_one (ps_if (pt_cmpR op_gt (pe_callB (cr_lenI w) (by rfl) tx.z_len (by decide +kernel) (pa_cons (pe_sc1G (own := [("rule", 3)]) (kdIG P w) rfl sc_m_first_difference.nd (pi_listK K (pv 0)) (blkOk_by (N := ["rules", "rows", "row", "rule"]) (sc := defScope s_m_first_difference) (by decide +kernel)) (fun _ _ _ _ _ => (pg_name (i := 3) sc_m_first_difference.nd rfl (Or.inl rfl))) (fun _ _ _ _ _ => (pe_methV (k := 12) (E := fun _ => E0) (S := (fun C sp => (C = A.c_Leaf ∧ sp = spG (bs K A) P_Leaf_answer) ∨ (C = A.c_Rank ∧ sp = (spG (bs K A) (P_Rule_answer 8))) ∨ (C = A.c_Trim ∧ sp = (spG (bs K A) (P_Rule_answer 8))) ∨ (C = A.c_Weigh ∧ sp = (spG (bs K A) (P_Rule_answer 8))))) (pv 3) (fun C sp h => match C, sp, h with | _, _, .inl ⟨rfl, rfl⟩ => ⟨tx.cl_Leaf, _, tx.mi_Leaf_answer, FnR.mono G_Leaf_answer (by decide)⟩ | _, _, .inr (.inl ⟨rfl, rfl⟩) => ⟨tx.cl_Rank, _, tx.mi_Rank_answer, FnR.mono G_Rule_answer (by decide)⟩ | _, _, .inr (.inr (.inl ⟨rfl, rfl⟩)) => ⟨tx.cl_Trim, _, tx.mi_Trim_answer, FnR.mono G_Rule_answer (by decide)⟩ | _, _, .inr (.inr (.inr (⟨rfl, rfl⟩))) => ⟨tx.cl_Weigh, _, tx.mi_Weigh_answer, FnR.mono G_Rule_answer (by decide)⟩) (room hr) passSL (pa_cons (pv 2) pa_nil)))) pa_nil)) pe_int (nomark _)) (pss_one (ps_ret (pv 2))) pss_nil)))
        (pss_one (ps_ret pe_non))),
      body_ok (N := ["rules", "rows", "row", "rule"]) (fun W ts rt xx hB ho hw hp => ?_) h⟩)
  have hK : W.B.K = K := congrArg Bs.K hB
  obtain ⟨F, rs, rows, rfl, hp⟩ := hp
  show Sx W _ [some (T rs), some (T (rows.map fun l => (Yg.mk l : Yg F Int))), none, none] _
  obtain ⟨hl, htr, hrl, hmis, hp⟩ := hp
  refine sx_seq (sx_forL (α := Yg F Int) (rα := inferInstance) hK (ev_var rfl ⟨fun i Γ' => (rows.find? fun row => decide (1 < nDif (rs.map (ansF (rdF row))))) = ((rows.drop i).find? fun row => decide (1 < nDif (rs.map (ansF (rdF row))))) ∧ ∃ (o2 o3 : Option G.Ty), Γ' = [some (T rs), some (T (rows.map fun l => (Yg.mk l : Yg F Int))), o2, o3], ⟨rfl, none, none, rfl⟩, ?_, ?_⟩))
  · rintro i d Γ' hd ⟨hf, o2, o3, rfl⟩
    rw [List.getElem?_map] at hd
    obtain ⟨row, hrow, rfl⟩ : ∃ row, rows[i]? = some row ∧ (Yg.mk row : Yg F Int) = d := by
      cases h : rows[i]? with
      | none => rw [h] at hd; cases hd
      | some row => rw [h] at hd; exact ⟨row, rfl, Option.some.inj hd⟩
    have hrm := List.mem_of_getElem? hrow
    have hi := (List.getElem?_eq_some_iff.mp hrow).1
    rw [List.drop_eq_getElem_cons hi, (List.getElem?_eq_some_iff.mp hrow).2] at hf
    refine tg_name ?_
    refine sx_if (et_test (ev_opB (ev_lenI (ev_sc1 (ansF (rdF row)) int_enc hK (ev_var rfl ⟨hl, fun W' sb r hr => ⟨[3], rfl, tj_name (ev_ansX (sb.B.trans hB) hx0 (ev_var rfl ⟨htr r hr, ev_yd (F := F) (ev_var rfl (mis_all (misF_none.mp (hmis row hrm r hr)) rfl))⟩))⟩, ev_int ?_⟩)))))
    have ec : decide ((1 : Int) < (nDif (rs.map (ansF (rdF row))) : Nat)) = decide (1 < nDif (rs.map (ansF (rdF row)))) := decide_eq_decide.mpr (by omega)
    refine ⟨fun h1 => ?_, fun h1 => ?_⟩
    · have h1 := ec.symm.trans h1
      rw [List.find?_cons_of_pos (p := fun row => decide (1 < nDif (rs.map (ansF (rdF row))))) (l := rows.drop (i + 1)) h1] at hf
      rw [hf] at hp
      exact sx_ret (α := Option (Yg F Int)) (rα := inferInstance) (ev_opt (ev_var rfl hp))
    · have h1 := ec.symm.trans h1
      rw [List.find?_cons_of_neg (p := fun row => decide (1 < nDif (rs.map (ansF (rdF row))))) (l := rows.drop (i + 1)) (by show ¬ (decide _ = true); rw [h1]; exact Bool.false_ne_true)] at hf
      exact sx_next ⟨hf, _, _, rfl⟩
  rintro Γ' ⟨hf, o2, o3, rfl⟩
  rw [List.length_map, List.drop_length] at hf
  rw [hf] at hp
  exact sx_ret (α := Option (Yg F Int)) (rα := inferInstance) (ev_optN (ev_non hp))
def firstD (ws : List Str) (r q : Ru) : Option (List (Str × Int)) := (rowsD ws).find? fun row => decide (ansF (rdF row) r ≠ ansF (rdF row) q)
theorem dif_two (a b : Int) : decide (1 < nDif [a, b]) = decide (a ≠ b) := by
  refine decide_eq_decide.mpr ⟨fun h e => ?_, fun h => ?_⟩
  · have := nDif_one (xs := [a, b]).mpr (by
      intro x hx y hy
      have hx : x = b := by rcases List.mem_cons.mp hx with h | h; exact h.trans e; exact List.mem_singleton.mp h
      have hy : y = b := by rcases List.mem_cons.mp hy with h | h; exact h.trans e; exact List.mem_singleton.mp h
      exact hx.trans hy.symm)
    omega
  · refine Nat.lt_of_not_le fun z => h ?_
    exact nDif_one.mp z a List.mem_cons_self b (List.mem_cons_of_mem _ List.mem_cons_self)
theorem firstD_eq (ws : List Str) (r q : Ru) : ((rowsD ws).find? fun row => decide (1 < nDif ([r, q].map (ansF (rdF row))))) = firstD ws r q := by
  unfold firstD
  congr 1
  funext row
  exact dif_two _ _
def P_m_differ : PYO Int := fun k ts => ∃ (r q : Ru), ts = [T r, T q] ∧ TrOk 8 r ∧ TrOk 8 q ∧ r.rk = true ∧ q.rk = true ∧ (namesF r).length ≤ 400 ∧ (namesF q).length ≤ 400 ∧ (∃ ws : List Str, ws.length ≤ 12 ∧ ∀ n ∈ namesF r ++ namesF q, n ∈ ws) ∧ (∀ xs : List Str, xs.Nodup → (∀ x, x ∈ xs ↔ x ∈ namesF r ++ namesF q) → k (firstD (sortD xs) r q))
theorem pc_m_differ {k : Option (List (Str × Int)) → Prop} {r q : Ru} (h : TrOk 8 r ∧ TrOk 8 q ∧ r.rk = true ∧ q.rk = true ∧ (namesF r).length ≤ 400 ∧ (namesF q).length ≤ 400 ∧ (∃ ws : List Str, ws.length ≤ 12 ∧ ∀ n ∈ namesF r ++ namesF q, n ∈ ws) ∧ (∀ xs : List Str, xs.Nodup → (∀ x, x ∈ xs ↔ x ∈ namesF r ++ namesF q) → k (firstD (sortD xs) r q))) : P_m_differ k [T r, T q] := ⟨r, q, rfl, h⟩
theorem ok_m_differ (tx : Txt K mg A) : FnR P w K mg base CX0 14 A.f_m_differ (spYO (bs K A) P_m_differ) := by
  have G_m_refuse_trims := ok_m_refuse_trims (P := P) (w := w) (base := base) tx
  have G_m_first_difference := ok_m_first_difference (P := P) (w := w) (base := base) tx
  have G_m_bit_readings := ok_m_bit_readings (P := P) (w := w) (base := base) tx
  refine fnR_of tx.g_m_differ.d sc_m_differ (fun vs H Q E h => ?_) (fun cdv Ar outer s H vs Q E hr h => ?_)
  · obtain ⟨W, ts, k, _, _, _, d, ⟨r, q, rfl, _⟩, _⟩ := h
    exact d.length
  · refine ⟨_, (pss_cons (ps_expr (pe_callZ (E := fun _ => E0) G_m_refuse_trims (room hr) rfl (tx.g_m_refuse_trims).g (tx.g_m_refuse_trims).kp passSL (pa_cons (pe_lst (pa_cons (pv 0) (pa_cons (pv 1) pa_nil))) pa_nil)))
        (pss_one (ps_ret (pe_callR G_m_first_difference (room hr) rfl (tx.g_m_first_difference).g (tx.g_m_first_difference).kp pass0 (pa_cons (pe_lst (pa_cons (pv 0) (pa_cons (pv 1) pa_nil))) (pa_cons (pe_callR G_m_bit_readings (room hr) rfl (tx.g_m_bit_readings).g (tx.g_m_bit_readings).kp pass0 (pa_cons (pe_lst (pa_cons (pv 0) (pa_cons (pv 1) pa_nil))) pa_nil)) pa_nil)))))), ?_⟩
    try dsimp only [cxOf, Cx.nox]
    refine yo_ok (N := ["rule", "other"]) (fun W0 ts k F hB0 hp => ?_) h
    obtain ⟨r, q, rfl, hr, hq, kr, kq, hlr, hlq, ⟨ws, hwl, hws⟩, hp⟩ := hp
    show SxH W0 F _ [] [some (T r), some (T q)] _
    refine sxh_pureM fun W hW hM => ?_
    have hB : W.B = bs K A := hW.B.trans hB0
    have hK : W.B.K = K := congrArg Bs.K hB
    have hall : [r, q].all Ru.rk = true := by
      show (r.rk && (q.rk && true)) = _
      rw [kr, kq]
      rfl
    have htr : ∀ p ∈ [r, q], TrOk 8 p := fun p hp => by
      rcases List.mem_cons.mp hp with rfl | hp
      · exact hr
      · rw [List.mem_singleton.mp hp]
        exact hq
    have en : [r, q].flatMap namesF = namesF r ++ namesF q := by
      rw [List.flatMap_cons, List.flatMap_cons, List.flatMap_nil, List.append_nil]
    refine sx_seq (sx_drop (α := Unit) (rα := inferInstance) (ev_callZ hB hx0 (ea_cons (ev_lst (el_cons (ev_var rfl (el_cons (ev_var rfl (el_nil ⟨by show 2 ≤ 100000; decide, ea_nil (pc_m_refuse_trims ⟨.inl rfl, by show 2 ≤ 1000; decide, fun h => ⟨(), rfl, ?_⟩, fun h => (by rw [hall] at h; cases h)⟩)⟩)))))))))
    refine sx_ret (α := Option (Yg F Int)) (rα := inferInstance) (ev_callR hB (ea_cons (ev_lst (el_cons (ev_var rfl (el_cons (ev_var rfl (el_nil ⟨by show 2 ≤ 100000; decide, ?_⟩))))))))
    refine ea_cons (α := List (Yg F Int)) (rα := inferInstance) (evYL_call hM hB (ea_cons (α := List Ru) (rα := inferInstance) (ev_lst (el_cons (ev_var rfl (el_cons (ev_var rfl (el_nil ⟨by show 2 ≤ 100000; decide, ea_nil (pc_bit_readings ⟨.inl rfl, by show 2 ≤ 1000; decide, ?_, htr, ⟨ws, hwl, fun n hn => hws n (en ▸ hn)⟩, fun xs hnd hmem => ea_nil (pc_m_first_difference ⟨by show 2 ≤ 1000; decide, htr, ?_, fun row hrow p hp => ?_, ⟨_, rfl, ⟨_, rfl, (firstD_eq _ r q).symm ▸ hp xs hnd fun x => by rw [← en]; exact hmem x⟩⟩⟩)⟩)⟩))))))))
    · rw [en, List.length_append]
      omega
    · rw [rowsD_len]
      have hsl : (sortD xs).length ≤ 12 := by
        refine Nat.le_trans (nodup_len ((sortD_perm xs).nodup_iff.mpr hnd) fun x hx => ?_) hwl
        exact hws x (en ▸ (hmem x).mp ((sortD_perm xs).mem_iff.mp hx))
      exact Nat.le_trans (Nat.pow_le_pow_right (by decide) hsl) (by decide)
    · refine misF_none.mpr fun n hn => ?_
      have hk := rowsD_keys hrow
      exact getDc_has (by rw [hk]; exact (sortD_perm xs).mem_iff.mpr ((hmem n).mpr (List.mem_flatMap.mpr ⟨p, hp, hn⟩)))
def P_m_alike : PT := fun rt xx ts => ∃ (r : Ru) (q : Ru), ts = [T r, T q] ∧ (TrOk 8 r ∧ TrOk 8 q ∧ r.rk = true ∧ q.rk = true ∧ (namesF r).length ≤ 400 ∧ (namesF q).length ≤ 400 ∧ (∃ ws : List Str, ws.length ≤ 12 ∧ ∀ n ∈ namesF r ++ namesF q, n ∈ ws) ∧ (∀ xs : List Str, xs.Nodup → (∀ x, x ∈ xs ↔ x ∈ namesF r ++ namesF q) → rt (T (!(firstD (sortD xs) r q).isSome))))
theorem pc_m_alike {rt : Ty → Prop} {xx : Xn → Prop} {r : Ru} {q : Ru} (h : TrOk 8 r ∧ TrOk 8 q ∧ r.rk = true ∧ q.rk = true ∧ (namesF r).length ≤ 400 ∧ (namesF q).length ≤ 400 ∧ (∃ ws : List Str, ws.length ≤ 12 ∧ ∀ n ∈ namesF r ++ namesF q, n ∈ ws) ∧ (∀ xs : List Str, xs.Nodup → (∀ x, x ∈ xs ↔ x ∈ namesF r ++ namesF q) → rt (T (!(firstD (sortD xs) r q).isSome)))) : P_m_alike rt xx [T r, T q] := ⟨_, _, rfl, h⟩
theorem ok_m_alike (tx : Txt K mg A) : FnR P w K mg base CX0 15 A.f_m_alike (spG (bs K A) P_m_alike) := by
  have G_m_differ := ok_m_differ (P := P) (w := w) (base := base) tx
  refine fnR_of tx.g_m_alike.d sc_m_alike (len_ok (n := 2) fun rt xx ts hp => by obtain ⟨_, _, rfl, _⟩ := hp; rfl) (fun cdv Ar outer s H vs Q E hr h => ⟨_, (pss_one (ps_ret (pe_cmpR op_isN (pe_callR G_m_differ (room hr) rfl (tx.g_m_differ).g (tx.g_m_differ).kp pass0 (pa_cons (pv 0) (pa_cons (pv 1) pa_nil))) pe_non (nomark _)))),
      body_ok (N := ["rule", "other"]) (fun W ts rt xx hB ho hw hp => ?_) h⟩)
  have hK : W.B.K = K := congrArg Bs.K hB
  obtain ⟨r, q, rfl, hp⟩ := hp
  show Sx W _ [some (T r), some (T q)] _
  obtain ⟨hr, hq, kr, kq, hlr, hlq, hws, hp⟩ := hp
  refine sx_ret (α := Bool) (rα := inferInstance) (ev_optIs (α := Dc Int) (rα := inferInstance) (EvYO.k (evYO_call hB (ea_cons (ev_var rfl (ea_cons (ev_var rfl (ea_nil (pc_m_differ ⟨hr, hq, kr, kq, hlr, hlq, hws, fun xs hnd hmem => ?_⟩)))))))))
  rw [Option.isSome_map]
  exact hp xs hnd hmem
/-- an error with one number, its reply -/
def shInt_reply (vs : List V) (fs : List (Str × V)) : Prop := ∃ i : Int, vs = [.int i] ∧ Small i ∧ fs = ([("reply", .int i)] : List (Str × V))
theorem ok_NoRule_init (tx : Txt K mg A) : FnR P w K mg base CX0 1 A.f_NoRule_init (spEr A.c_NoRule shInt_reply) := by
  refine fnR_of tx.d_NoRule_init sc_NoRule_init (fun vs H Q E h => ?_) (fun cdv Ar outer s H vs Q E hr h => ?_)
  · obtain ⟨a, as, fs, rfl, ⟨i, rfl, _⟩, _⟩ := h; rfl
  · refine ⟨_, (pss_cons (ps_expr (pe_geinitK K tx.ge (pa_cons (pv 0) (pa_cons (pe_joined (PJ.cons pe_str (PJ.cons (pe_fmt (pv 1)) PJ.nil))) pa_nil))))
        (pss_one (ps_ostK K (pv 0) (pv 1)))), ?_⟩
    try dsimp only [cxOf, Cx.nox]
    obtain ⟨a, as, fs, rfl, ⟨i, rfl, si, rfl⟩, ha, k⟩ := h
    exact err_one tx.xo_NoRule tx.n_NoRule_reply rfl rfl (first_ge tx.xo_NoRule rfl ha fun Q q => js_ok q (.cons c_is (by decide) (.cons (fmt_int (var_is rfl) si) (txt_len si) .nil)) (by decide)) ha k
def P_Finder_init (K : PySem.W.Frag) (A : Ad) : PI FiB := fun c k x ts => ∃ (rs : List Ru), c = .Finder ∧ ts = [T (Tl.mk rs)] ∧ FinT (bs K A) ∧ rs.length ≤ 1000 ∧ (rs.all Ru.rk = true → k (fiB rs ((List.range rs.length).map fun i : Nat => (i : Int)))) ∧ (rs.all Ru.rk = false → x ⟨.NotRanked, []⟩)
theorem finT {K : PySem.W.Frag} {mg : Str → Option Value} {A : Ad} (tx : Txt K mg A) : FinT (bs K A) := ⟨tx.cl_Finder, tx.n_Finder__rules, tx.n_Finder__left⟩
theorem ok_Finder_init (tx : Txt K mg A) : FnR P w K mg base (L2.CX P w) 4 A.f_Finder_init (spSt 1 (spIn (bs K A) (P_Finder_init K A))) := by
  have G_m_refuse_trims := ok_m_refuse_trims (P := P) (w := w) (base := base) tx
  refine fnR_ofS cxUp tx.d_Finder_init sc_Finder_init (fun cdv Ar outer s H vs Q E hr h => ?_)
  · refine ⟨_, (pss_cons (ps_expr (pe_callZ (E := WE (fun cls d _ H => E cls d H)) G_m_refuse_trims (room hr) rfl (tx.g_m_refuse_trims).g (tx.g_m_refuse_trims).kp (passAt (takes_of rfl rfl rfl rfl)) (pa_cons (pv 1) pa_nil)))
        (pss_cons (ps_fldK K (pv 0) (pv 1) rfl)
        (pss_one (ps_fldK K (pv 0) (pe_listRg (by rfl) (by rfl) tx.z_list (prg_1 (by rfl) tx.z_range (pe_callB (call_lenK K) (by rfl) tx.z_len PySem.boot_len (pa_cons (pv 1) pa_nil)))) rfl)))), ?_⟩
    refine init_ok (N := ["self", "rules"]) (fun W F p dx c ts k x hB hw hp => ?_) h
    have hK : W.B.K = K := congrArg Bs.K hB
    obtain ⟨rs, rfl, rfl, hT, hl, hk, hx⟩ := hp
    show SxH W F _ [(p, .ins (W.B.cl .Finder) dx [])] [some (T (Oi.mk p .Finder dx [] ())), some (T (Tl.mk rs))] _
    have hT' : FinT W.B := by rw [hB]; exact hT
    have hcl : L2.Cls K (W.B.cl .Finder) := hK ▸ hT'.cl
    have n1 : NoAttr K (W.B.cl .Finder) "_rules" := hK ▸ hT'.nr
    have n2 : NoAttr K (W.B.cl .Finder) "_left" := hK ▸ hT'.nl
    refine sxh_seq (sxh_pure fun Wo hW => sx_drop (α := Unit) (rα := inferInstance) (ev_callZ (hW.B.trans hB) (hx_of (hW.err E x hw)) (ea_cons (ev_var rfl (ea_nil (pc_m_refuse_trims ⟨.inr rfl, hl, fun h => ⟨(), rfl, ?_⟩, fun h => hx h⟩))))))
    refine sxh_seq (sxh_setn (α := Tl Ru) (rα := inferInstance) (f := "_rules") 0 hK hcl n1 rfl rfl (by show 0 < 1000; decide) (fun z => (nomatch z)) fun Wo hW => ev_var rfl fun fs1 => ?_)
    show SxH W F _ [(p, .ins (W.B.cl .Finder) dx fs1)] [some (T (Oi.mk p .Finder dx fs1 ((⟨"_rules", ⟨rs⟩⟩, ()) : Fd (Tl Ru) × Unit))), some (T (Tl.mk rs))] _
    refine sxh_setn (α := List Int) (rα := inferInstance) (f := "_left") 0 hK hcl n2 rfl rfl (by show 1 < 1000; decide) (by show ("_left" : Str) ∉ [("_rules" : Str)]; decide +kernel) fun Wo hW => ev_listRg (ev_lenTl (congrArg Bs.K (hW.B.trans hB)) (ev_var rfl ⟨rs.length, rfl, hl, fun fs2 => ⟨_, _, rfl, rfl, hk h⟩⟩))
def P_Finder_of (K : PySem.W.Frag) (A : Ad) : PFo FiB := fun k ts => ∃ (rs : List Ru), ts = [T (Cv.mk .Finder), T rs] ∧ rs.length ≤ 1000 ∧ rs.all Ru.rk = true ∧ k (fiB rs ((List.range rs.length).map fun i : Nat => (i : Int)))
theorem ok_Finder_of (tx : Txt K mg A) : FnR P w K mg base (L2.CX P w) 6 A.f_Finder_of (spFo (bs K A) .Finder (P_Finder_of K A)) := by
  have G_Finder_init := ok_Finder_init (P := P) (w := w) (base := base) tx
  refine fnRX_of tx.d_Finder_of sc_Finder_of (fun vs H Q E h => ?_) (fun cdv Ar outer s H vs Q E hr h => ?_)
  · obtain ⟨W, ts, k, _, _, _, d, ⟨rs, rfl, _⟩, _⟩ := h
    exact d.length
  · refine ⟨_, (pss_one (ps_ret (pe_makeSV K (i := 0) (E := WE (fun cls d _ H => E cls d H)) tx.m_Finder G_Finder_init (room hr) (passAt (takes_of rfl rfl rfl rfl)) rfl (Or.inl rfl) (pv 1)))), ?_⟩
    try dsimp only [cxOf, Cx.nox]
    obtain ⟨W, ts, k, hB, ho, hw, d, ⟨rs, rfl, hl, hall, kk⟩, hq⟩ := h
    have hK : W.B.K = K := congrArg Bs.K hB
    have G0 : GOk W H (L2.start ["cls", "rules"] vs) [some (T (Cv.mk .Finder)), some (T rs)] := start_ok ho hw d
    refine (show EvFO W .Finder _ _ k from evFO_makeV (c := .Finder) hB rfl rfl (evFO_makeS (γ := Ru) (rγ := inferInstance) hB rfl hx0 (es_zero (el_starL hK (ev_var rfl ⟨by omega, rs, rfl, rfl, finT tx, hl, fun _ => kk, fun h => (by rw [hall] at h; cases h)⟩))))) _ H _ G0 fun p dx fs H' b n e hp hf q => ?_
    rw [hB] at hp
    exact hq p dx fs H' b n e hp hf q
def P_Finder_left : PT := fun rt xx ts => ∃ (rs : List Ru) (lf : List Int), ts = [T (Fi.mk rs lf)] ∧ (rt (T lf))
theorem pc_Finder_left {rt : Ty → Prop} {xx : Xn → Prop} {rs : List Ru} {lf : List Int} (h : rt (T lf)) : P_Finder_left rt xx [T (Fi.mk rs lf)] := ⟨_, _, rfl, h⟩
theorem ok_Finder_left (tx : Txt K mg A) : FnR P w K mg base CX0 1 A.f_Finder_left (spG (bs K A) P_Finder_left) := by
  refine fnR_of tx.d_Finder_left sc_Finder_left (len_ok (n := 1) fun rt xx ts hp => by obtain ⟨_, _, rfl, _⟩ := hp; rfl) (fun cdv Ar outer s H vs Q E hr h => ⟨_, (pss_one (ps_ret (pe_callTy (call_list_ofK K) (by rfl) tx.z_list (by decide +kernel) (pa_cons (pe_fldK K (pv 0) rfl) pa_nil)))),
      body_ok (N := ["self"]) (fun W ts rt xx hB ho hw hp => ?_) h⟩)
  have hK : W.B.K = K := congrArg Bs.K hB
  obtain ⟨rs, lf, rfl, hp⟩ := hp
  show Sx W _ [some (T (Fi.mk rs lf))] _

  exact sx_ret (α := List Int) (rα := inferInstance) (evF_listOf hK (ev_fleft hK (ev_var rfl hp))).k
def P_Finder_tell (K : PySem.W.Frag) (A : Ad) : PM FiB := fun c b0 k ts => ∃ (rs : List Ru) (lf : List Int) (ds : List (Str × Int)) (a : Int), c = .Finder ∧ b0 = fiB rs lf ∧ ts = [T (Dc.mk ds), T a] ∧ FinT (bs K A) ∧ lf.length ≤ 1000 ∧ (∀ i ∈ lf, 0 ≤ i ∧ i < rs.length ∧ TrOk 8 (ruAt rs i) ∧ ∀ n ∈ namesF (ruAt rs i), (getDc ds n).isSome = true) ∧ tellF rs lf ds a ≠ [] ∧ k (fiB rs (tellF rs lf ds a))
theorem ok_Finder_tell (tx : Txt K mg A) : FnR P w K mg base (L2.CX P w) 13 A.f_Finder_tell (spMt (bs K A) (P_Finder_tell K A)) := by
  have G_Leaf_answer := ok_Leaf_answer (P := P) (w := w) (base := base) tx
  have G_Rule_answer := ok_Rule_answer (P := P) (w := w) (base := base) tx 8
  have G_NoRule_init := ok_NoRule_init (P := P) (w := w) (base := base) tx
  refine fnRX_of tx.d_Finder_tell sc_Finder_tell (fun vs H Q E h => ?_) (fun cdv Ar outer s H vs Q E hr h => ?_)
  · obtain ⟨W, F, p, dx, c, fs0, b0, ws, ts, k, oF, nF, rfl, _, _, _, _, _, d, ⟨rs, lf, ds, a, _, _, rfl, _⟩, _⟩ := h
    have := d.length
    exact congrArg (· + 1) this
  · refine ⟨_, (pss_cons (ps_setLcX (E := E) (i := 3) (own := [("at", 4)]) rfl rfl (takes_of rfl rfl rfl rfl) rfl sc_Finder_tell.nd rfl rfl (sw_true rfl rfl rfl (by decide +kernel)) (pi_listK K (pe_fldK K (pv 0) rfl)) (blkOk_by (N := ["self", "readings", "answer", "kept", "at"]) (sc := defScope s_Finder_tell) (by decide +kernel)) (fun _ _ _ _ _ => (pg_name (i := 4) sc_Finder_tell.nd rfl (Or.inl rfl))) (fun _ _ _ _ _ _ px => (pts_one (pt_cmpR (op_eqDK K (huD hr)) (pe_methV (k := 12) (E := WE (fun cls d _ H => E cls d H)) (S := (fun C sp => (C = A.c_Leaf ∧ sp = spG (bs K A) P_Leaf_answer) ∨ (C = A.c_Rank ∧ sp = (spG (bs K A) (P_Rule_answer 8))) ∨ (C = A.c_Trim ∧ sp = (spG (bs K A) (P_Rule_answer 8))) ∨ (C = A.c_Weigh ∧ sp = (spG (bs K A) (P_Rule_answer 8))))) (pe_ix (ix_tupK K) (pe_fldK K (pv 0) rfl) (pv 4) (fun _ _ => rfl)) (fun C sp h => match C, sp, h with | _, _, .inl ⟨rfl, rfl⟩ => ⟨tx.cl_Leaf, _, tx.mi_Leaf_answer, FnR.mono G_Leaf_answer (by decide)⟩ | _, _, .inr (.inl ⟨rfl, rfl⟩) => ⟨tx.cl_Rank, _, tx.mi_Rank_answer, FnR.mono G_Rule_answer (by decide)⟩ | _, _, .inr (.inr (.inl ⟨rfl, rfl⟩)) => ⟨tx.cl_Trim, _, tx.mi_Trim_answer, FnR.mono G_Rule_answer (by decide)⟩ | _, _, .inr (.inr (.inr (⟨rfl, rfl⟩))) => ⟨tx.cl_Weigh, _, tx.mi_Weigh_answer, FnR.mono G_Rule_answer (by decide)⟩) (room hr) px (pa_cons (pv 1) pa_nil)) (pv 2) (nomark _)))) (fun _ _ _ _ _ _ px => (pv 4)))
        (pss_cons (ps_if (pt_not (pt_truthK K (pv 3) (fun _ => rfl))) (pss_one (ps_raise rfl (takes_of rfl rfl rfl rfl) (pmk_oexR tx.xo_NoRule tx.xi_NoRule tx.xt_NoRule G_NoRule_init (room hr) pass0 rfl tx.c_NoRule (pa_cons (pv 2) pa_nil)))) pss_nil)
        (pss_one (ps_fldK K (pv 0) (pv 3) rfl)))), ?_⟩
    try dsimp only [cxOf, Cx.nox]
    refine mt_ok (N := ["self", "readings", "answer", "kept", "at"]) (fun W F p dx c fs0 b0 ts k hB hp => ?_) h
    have hK : W.B.K = K := congrArg Bs.K hB
    obtain ⟨rs, lf, ds, a, rfl, rfl, rfl, hT, hl, hat, hne, hk⟩ := hp
    have hT' : FinT W.B := by rw [hB]; exact hT
    have hcl : L2.Cls K (W.B.cl .Finder) := hK ▸ hT'.cl
    have n1 : NoAttr K (W.B.cl .Finder) "_rules" := hK ▸ hT'.nr
    have n2 : NoAttr K (W.B.cl .Finder) "_left" := hK ▸ hT'.nl
    have g1 : GetF ("_left" : Str) inferInstance lf inferInstance (fiB rs lf) := .here (by show ("_left" : Str) ∉ [("_rules" : Str)]; decide +kernel)
    have g2 : GetF ("_rules" : Str) inferInstance (Tl.mk rs) inferInstance (fiB rs lf) := .there (by show ("_rules" : Str) ≠ "_left"; decide +kernel) (.here (fun z => (nomatch z)))
    show SxH W F _ [(p, .ins (W.B.cl .Finder) dx fs0)] [some (T (Oi.mk p .Finder dx fs0 (fiB rs lf))), some (T (Dc.mk ds)), some (T a), none, none] _
    refine sxh_seq (sxh_pure fun Wo hW => ?_)
    have hKo : Wo.B.K = K := congrArg Bs.K (hW.B.trans hB)
    refine sx_set (α := List Int) (rα := inferInstance) (evF_lcX hKo (ev_fldOi hW hK hcl n2 List.mem_cons_self rfl g1 ⟨by omega, fun i cs => cs = (lf.take i).filter fun i => decide (ansF (rdF ds) (ruAt rs i) = a), rfl, fun W' sb xin i c cs hci hI => ⟨[4], rfl, ?_⟩, fun cs hb => ?_⟩)).k
    · have hB' : W'.B = bs K A := sb.B.trans (hW.B.trans hB)
      have hK' : W'.B.K = K := congrArg Bs.K hB'
      obtain ⟨c0, c1, ht, hn⟩ := hat c (List.mem_of_getElem? hci)
      have nxt : (lf.take (i + 1)).filter (fun i => decide (ansF (rdF ds) (ruAt rs i) = a)) = if decide (ansF (rdF ds) (ruAt rs c) = a) = true then cs ++ [c] else cs := by
        rw [List.take_succ, hci, List.filter_append, hI]
        show _ ++ [c].filter _ = _
        rw [List.filter_cons, List.filter_nil]
        split <;> simp
      refine tj_name (et_test (ev_eqG (α := Int) (rα := inferInstance) hK' (ev_ansX hB' hx0 (ev_ixTl hK' (ev_fldPin (fun H o => hW.pin H (sb.ok H o) _ List.mem_cons_self) hcl n1 rfl g2 (ev_var rfl ⟨ruAt rs c, (ruAt_ok c0 c1).1, ht, ev_var rfl (mis_all hn (ev_var rfl (eqg_in (by decide) trivial trivial ⟨fun h => ev_var rfl ?_, fun h => ?_⟩)))⟩))))))
      · show cs ++ [c] = (lf.take (i + 1)).filter _
        rw [nxt, if_pos h]
      · show cs = (lf.take (i + 1)).filter _
        rw [nxt, if_neg (by rw [h]; decide)]
    have hb : cs = (lf.take lf.length).filter fun i => decide (ansF (rdF ds) (ruAt rs i) = a) := hb
    rw [List.take_length] at hb
    have hb : cs = tellF rs lf ds a := hb
    subst hb
    show SxH W F _ [(p, .ins (W.B.cl .Finder) dx fs0)] [some (T (Oi.mk p .Finder dx fs0 (fiB rs lf))), some (T (Dc.mk ds)), some (T a), some (T (tellF rs lf ds a)), none] _
    refine sxh_seq (sxh_if fun Wo hW => et_not (et_truthL (α := Int) (rα := inferInstance) (congrArg Bs.K (hW.B.trans hB)) (ev_var rfl ⟨fun h => absurd (List.isEmpty_iff.mp (by simpa using h)) hne, fun _ => sxh_next ?_⟩)))
    show SxH W F _ [(p, .ins (W.B.cl .Finder) dx fs0)] [some (T (Oi.mk p .Finder dx fs0 (fiB rs lf))), some (T (Dc.mk ds)), some (T a), some (T (tellF rs lf ds a)), none] _
    exact sxh_setl (α := List Int) (γ := List Int) (rα := inferInstance) (rγ := inferInstance) (f := "_left") (c0 := lf) (b := ((⟨"_rules", ⟨rs⟩⟩, ()) : Fd (Tl Ru) × Unit)) 0 hK hcl n2 rfl rfl (by show 1 < 999; decide) (by show ("_left" : Str) ∉ [("_rules" : Str)]; decide +kernel) fun Wo hW => ev_var rfl fun fs2 => ⟨_, _, rfl, rfl, hk⟩
def P_Finder_question : PYO Int := fun k ts => ∃ (rs : List Ru) (lf : List Int), ts = [T (Fi.mk rs lf)] ∧ rs.length ≤ 1000 ∧ (rs.flatMap namesF).length ≤ 1000 ∧ (∀ r ∈ rs, TrOk 8 r) ∧ (∃ ws : List Str, ws.length ≤ 12 ∧ ∀ n ∈ rs.flatMap namesF, n ∈ ws) ∧ lf.length ≤ 1000 ∧ (∀ i ∈ lf, 0 ≤ i ∧ i < rs.length) ∧ ∀ xs : List Str, xs.Nodup → (∀ x, x ∈ xs ↔ x ∈ rs.flatMap namesF) → k (splitD (sortD xs) (lf.map (ruAt rs)))
theorem pc_Finder_question {k : Option (List (Str × Int)) → Prop} {rs : List Ru} {lf : List Int} (h : rs.length ≤ 1000 ∧ (rs.flatMap namesF).length ≤ 1000 ∧ (∀ r ∈ rs, TrOk 8 r) ∧ (∃ ws : List Str, ws.length ≤ 12 ∧ ∀ n ∈ rs.flatMap namesF, n ∈ ws) ∧ lf.length ≤ 1000 ∧ (∀ i ∈ lf, 0 ≤ i ∧ i < rs.length) ∧ ∀ xs : List Str, xs.Nodup → (∀ x, x ∈ xs ↔ x ∈ rs.flatMap namesF) → k (splitD (sortD xs) (lf.map (ruAt rs)))) : P_Finder_question k [T (Fi.mk rs lf)] := ⟨rs, lf, rfl, h⟩
theorem ok_Finder_question (tx : Txt K mg A) : FnR P w K mg base CX0 14 A.f_Finder_question (spYO (bs K A) P_Finder_question) := by
  have G_m_first_difference := ok_m_first_difference (P := P) (w := w) (base := base) tx
  have G_m_bit_readings := ok_m_bit_readings (P := P) (w := w) (base := base) tx
  refine fnR_of tx.d_Finder_question sc_Finder_question (fun vs H Q E h => ?_) (fun cdv Ar outer s H vs Q E hr h => ?_)
  · obtain ⟨W, ts, k, _, _, _, d, ⟨rs, lf, rfl, _⟩, _⟩ := h
    exact d.length
  · refine ⟨_, (pss_one (ps_ret (pe_callR G_m_first_difference (room hr) rfl (tx.g_m_first_difference).g (tx.g_m_first_difference).kp pass0 (pa_cons (pe_lc (own := [("at", 1)]) rfl sc_Finder_question.nd (pi_listK K (pe_fldK K (pv 0) rfl)) (blkOk_by (N := ["self", "at"]) (sc := defScope s_Finder_question) (by decide +kernel)) (fun _ _ _ _ _ => (pg_name (i := 1) sc_Finder_question.nd rfl (Or.inl rfl))) (fun _ _ _ _ _ => pts_nil) (fun _ _ _ _ _ => (pe_ix (ix_tupK K) (pe_fldK K (pv 0) rfl) (pv 1) (fun _ _ => rfl)))) (pa_cons (pe_callR G_m_bit_readings (room hr) rfl (tx.g_m_bit_readings).g (tx.g_m_bit_readings).kp pass0 (pa_cons (pe_fldK K (pv 0) rfl) pa_nil)) pa_nil))))), ?_⟩
    try dsimp only [cxOf, Cx.nox]
    refine yo_ok (N := ["self", "at"]) (fun W0 ts k F hB0 hp => ?_) h
    obtain ⟨rs, lf, rfl, hl, hln, htr, ⟨ws, hwl, hws⟩, hll, hat, hp⟩ := hp
    show SxH W0 F _ [] [some (T (Fi.mk rs lf)), none] _
    refine sxh_pureM fun W hW hM => ?_
    have hB : W.B = bs K A := hW.B.trans hB0
    have hK : W.B.K = K := congrArg Bs.K hB
    refine sx_ret (α := Option (Yg F Int)) (rα := inferInstance) (ev_callR hB (ea_cons (α := List Ru) (rα := inferInstance) (ev_lcF (α := Int) (β := Ru) (fun _ => true) (ruAt rs) hK (ev_fleft hK (ev_var rfl ⟨by show lf.length ≤ 100000; omega, fun W' sb i hi => ⟨[1], rfl, tj_name (et_yes ⟨fun _ => ev_ixTl (congrArg Bs.K (sb.B.trans hB)) (ev_frules (congrArg Bs.K (sb.B.trans hB)) (ev_var rfl (ev_var rfl ⟨_, (ruAt_ok (hat i hi).1 (hat i hi).2).1, rfl, rfl⟩))), fun h => (nomatch h)⟩)⟩, ?_⟩)))))
    rw [filtT]
    refine ea_cons (α := List (Yg F Int)) (rα := inferInstance) (evYL_call hM hB (ea_cons (α := Tl Ru) (rα := inferInstance) (ev_frules hK (ev_var rfl (ea_nil (pc_bit_readings ⟨.inr rfl, hl, hln, htr, ⟨ws, hwl, hws⟩, fun xs hnd hmem => ea_nil (pc_m_first_difference ⟨by rw [List.length_map]; exact hll, fun r hr => ?_, ?_, fun row hrow p hp => ?_, ⟨_, rfl, ⟨_, rfl, hp xs hnd hmem⟩⟩⟩)⟩))))))
    · obtain ⟨i, hi, rfl⟩ := List.mem_map.mp hr
      exact htr _ (ruAt_ok (hat i hi).1 (hat i hi).2).2
    · rw [rowsD_len]
      have hsl : (sortD xs).length ≤ 12 := by
        refine Nat.le_trans (nodup_len ((sortD_perm xs).nodup_iff.mpr hnd) fun x hx => ?_) hwl
        exact hws x ((hmem x).mp ((sortD_perm xs).mem_iff.mp hx))
      exact Nat.le_trans (Nat.pow_le_pow_right (by decide) hsl) (by decide)
    · obtain ⟨i, hi, rfl⟩ := List.mem_map.mp hp
      refine misF_none.mpr fun n hn => ?_
      have hk := rowsD_keys hrow
      exact getDc_has (by rw [hk]; exact (sortD_perm xs).mem_iff.mpr ((hmem n).mpr (List.mem_flatMap.mpr ⟨_, (ruAt_ok (hat i hi).1 (hat i hi).2).2, hn⟩)))
def P_power : PT := fun rt xx ts => ∃ (n : Nat), ts = [T (n : Int)] ∧ (n ≤ 30 ∧ rt (T ((2 ^ n : Nat) : Int)))
theorem pc_power {rt : Ty → Prop} {xx : Xn → Prop} {n : Nat} (h : n ≤ 30 ∧ rt (T ((2 ^ n : Nat) : Int))) : P_power rt xx [T (n : Int)] := ⟨_, rfl, h⟩
theorem ok_power (tx : Txt K mg A) : FnR P w K mg base CX0 1 A.f_power (spG (bs K A) P_power) := by
  refine fnR_of tx.g_power.d sc_power (len_ok (n := 1) fun rt xx ts hp => by obtain ⟨_, rfl, _⟩ := hp; rfl) (fun cdv Ar outer s H vs Q E hr h => ⟨_, (pss_cons (ps_set (i := 1) sc_power.nd rfl (Or.inl rfl) pe_int)
        (pss_cons (ps_for PassesOwn.never rfl (pi_range1 (by rfl) tx.z_range (pa_cons (pv 0) pa_nil)) (pg_name (i := 2) sc_power.nd rfl (Or.inl rfl)) (pss_one (ps_set (i := 1) sc_power.nd rfl (Or.inl rfl) (pe_op op_mul (pv 1) pe_int))))
        (pss_one (ps_ret (pv 1))))),
      body_ok (N := ["_law_many", "_law_found_here", "_law_turn"]) (fun W ts rt xx hB ho hw hp => ?_) h⟩)
  have hK : W.B.K = K := congrArg Bs.K hB
  obtain ⟨n, rfl, hp⟩ := hp
  show Sx W _ [some (T (n : Int)), none, none] _
  obtain ⟨hn, hp⟩ := hp
  refine sx_seq (sx_set (α := Int) (rα := inferInstance) (ev_int ?_))
  refine sx_seq (sx_forR (ev_var rfl ⟨⟨by omega, by omega⟩, fun i Γ' => ∃ o2 : Option G.Ty, Γ' = [some (T (n : Int)), some (T ((2 ^ i : Nat) : Int)), o2], ⟨none, rfl⟩, ?_, ?_⟩))
  · rintro i Γ' hi ⟨o2, rfl⟩
    refine tg_name ?_
    walk_at "g"
    have e : ((2 ^ i : Nat) : Int) * 2 = ((2 ^ (i + 1) : Nat) : Int) := by
      rw [Nat.pow_succ]
      rfl
    refine ⟨some (T (i : Int)), ?_⟩
    rw [← e]
    rfl
  rintro Γ' ⟨o2, rfl⟩
  refine sx_ret (α := Int) (rα := inferInstance) (ev_var rfl ?_)
  rw [Int.toNat_natCast]
  exact hp
def P_split : PT := fun rt xx ts => ∃ (rs : List Ru), ts = [T (rs.map Tt.mk)] ∧ (rs.length ≤ 20 ∧ (∀ r ∈ rs, TrOk 5 r ∧ (namesF r).length ≤ 20 ∧ (namesF r).Nodup) ∧ ∀ ns : List Str, ns.Nodup → (∀ x, x ∈ ns ↔ x ∈ rs.flatMap namesF) → rt (T (sortD ns)))
theorem pc_split {rt : Ty → Prop} {xx : Xn → Prop} {rs : List Ru} (h : rs.length ≤ 20 ∧ (∀ r ∈ rs, TrOk 5 r ∧ (namesF r).length ≤ 20 ∧ (namesF r).Nodup) ∧ ∀ ns : List Str, ns.Nodup → (∀ x, x ∈ ns ↔ x ∈ rs.flatMap namesF) → rt (T (sortD ns))) : P_split rt xx [T (rs.map Tt.mk)] := ⟨_, rfl, h⟩
theorem ok_split (tx : Txt K mg A) : FnR P w K mg base CX0 10 A.f_split (spG (bs K A) P_split) := by
  have G_leaves := ok_leaves (P := P) (w := w) (base := base) tx 8
  refine fnR_of tx.g_split.d sc_split (len_ok (n := 1) fun rt xx ts hp => by obtain ⟨_, rfl, _⟩ := hp; rfl) (fun cdv Ar outer s H vs Q E hr h => ⟨_, (pss_cons (ps_set (i := 1) sc_split.nd rfl (Or.inr rfl) (pe_lst pa_nil))
        (pss_cons (ps_for PassesOwn.never rfl (pi_listK K (pv 0)) (pg_name (i := 2) sc_split.nd rfl (Or.inl rfl)) (pss_one (ps_set (i := 1) sc_split.nd rfl (Or.inr rfl) (pe_op op_cat (pv 1) (pe_lc (own := [("_law_word_here", 3)]) rfl sc_split.nd (pi_listK K (pe_callR G_leaves (room hr) rfl (tx.g_leaves).g (tx.g_leaves).kp pass0 (pa_cons (pv 2) pa_nil))) (blkOk_by (N := ["_law_trees", "_law_names", "_law_tree_here", "_law_word_here"]) (sc := defScope s_split) (by decide +kernel)) (fun _ _ _ _ _ => (pg_name (i := 3) sc_split.nd rfl (Or.inl rfl))) (fun _ _ _ _ _ => (pts_one (pt_cmpR (op_notInSeqK K) (pv 3) (pv 1) rfl))) (fun _ _ _ _ _ => (pv 3)))))))
        (pss_one (ps_ret (pe_callB (cr_sortedDK K (huD hr)) (by rfl) tx.z_sorted (by decide +kernel) (pa_cons (pv 1) pa_nil)))))),
      body_ok (N := ["_law_trees", "_law_names", "_law_tree_here", "_law_word_here"]) (fun W ts rt xx hB ho hw hp => ?_) h⟩)
  have hK : W.B.K = K := congrArg Bs.K hB
  obtain ⟨rs, rfl, hp⟩ := hp
  show Sx W _ [some (T (rs.map Tt.mk)), none, none, none] _
  obtain ⟨hl, hr, hp⟩ := hp
  refine sx_seq (sx_set (α := List Str) (rα := inferInstance) (ev_lst (el_nil ⟨by decide, ?_⟩)))
  refine sx_seq (sx_forL (α := Tt) (rα := inferInstance) hK (ev_var rfl ⟨fun i Γ' => ∃ (ns : List Str) (o2 o3 : Option G.Ty), ns.Nodup ∧ ns.length ≤ 20 * i ∧ (∀ x, x ∈ ns ↔ x ∈ (rs.take i).flatMap namesF) ∧ Γ' = [some (T (rs.map Tt.mk)), some (T ns), o2, o3], ⟨[], none, none, .nil, Nat.zero_le _, fun x => Iff.rfl, rfl⟩, ?_, ?_⟩))
  · rintro i t Γ' ht ⟨ns, o2, o3, hnd, hnl, hmem, rfl⟩
    rw [List.getElem?_map] at ht
    obtain ⟨r, hr1, rfl⟩ : ∃ r, rs[i]? = some r ∧ Tt.mk r = t := by
      cases h : rs[i]? with
      | none => rw [h] at ht; cases ht
      | some p => rw [h] at ht; exact ⟨p, rfl, Option.some.inj ht⟩
    have hil := (List.getElem?_eq_some_iff.mp hr1).1
    obtain ⟨h5, hnl2, hnd2⟩ := hr r (List.mem_of_getElem? hr1)
    refine tg_name ?_
    refine sx_set (α := List Str) (rα := inferInstance) (ev_cat (ev_var rfl (ev_lcF (α := Str) (β := Str) (fun n => !decide (n ∈ ns)) (fun n => n) hK (ev_callR hB (ea_cons (ev_var rfl (ea_nil ⟨r, rfl, by have := h5.dep; omega, h5.le (by decide), by omega, ⟨_, rfl, ⟨by omega, fun W' sb n hn => ⟨[3], rfl, tj_name (et_test (ev_notInS (congrArg Bs.K (sb.B.trans hB)) (ev_var rfl (ev_var rfl ⟨fun h => ev_var rfl ⟨h, rfl⟩, fun h => h⟩))))⟩, ?_⟩⟩⟩)))))))
    rw [List.map_id']
    have hfl := List.length_filter_le (fun n => !decide (n ∈ ns)) (namesF r)
    refine ⟨by omega, ns ++ (namesF r).filter (fun n => !decide (n ∈ ns)), _, _, ?_, ?_, fun x => ?_, rfl⟩
    · refine List.nodup_append.mpr ⟨hnd, hnd2.sublist List.filter_sublist, fun a ha b hb e => ?_⟩
      have := (List.mem_filter.mp hb).2
      rw [← e, decide_eq_true ha] at this
      cases this
    · rw [List.length_append]
      omega
    · rw [List.take_succ, hr1, List.flatMap_append, List.mem_append, List.mem_append, hmem x, List.mem_filter]
      show _ ↔ _ ∨ x ∈ [r].flatMap namesF
      rw [List.flatMap_cons, List.flatMap_nil, List.append_nil]
      refine ⟨fun h => h.imp id fun h => h.1, fun h => ?_⟩
      by_cases hx : x ∈ ns
      · exact .inl ((hmem x).mp hx)
      · exact h.imp id fun h => ⟨h, by rw [decide_eq_false hx]; rfl⟩
  rintro Γ' ⟨ns, o2, o3, hnd, hnl, hmem, rfl⟩
  rw [List.length_map, List.take_length] at hmem
  exact sx_ret (α := List Str) (rα := inferInstance) (ev_sortedD hK (by decide) (ev_var rfl (hp ns hnd hmem)))
def P_first : PT := fun rt xx ts => ∃ (qs : List Ru) (ws : List Str), ts = [T (qs.map Tt.mk), T ws] ∧ (0 < qs.length ∧ qs.length ≤ 20 ∧ ws.Nodup ∧ ws.length ≤ 12 ∧ (∀ q ∈ qs, TrOk 5 q ∧ ∀ n ∈ namesF q, n ∈ ws) ∧ rt (T (((splitD ws qs).map Dc.mk) : Option (Dc Int))))
theorem pc_first {rt : Ty → Prop} {xx : Xn → Prop} {qs : List Ru} {ws : List Str} (h : 0 < qs.length ∧ qs.length ≤ 20 ∧ ws.Nodup ∧ ws.length ≤ 12 ∧ (∀ q ∈ qs, TrOk 5 q ∧ ∀ n ∈ namesF q, n ∈ ws) ∧ rt (T (((splitD ws qs).map Dc.mk) : Option (Dc Int)))) : P_first rt xx [T (qs.map Tt.mk), T ws] := ⟨_, _, rfl, h⟩
theorem ok_first (tx : Txt K mg A) : FnR P w K mg base CX0 11 A.f_first (spG (bs K A) P_first) := by
  have G_power := ok_power (P := P) (w := w) (base := base) tx
  have G_answer := ok_answer (P := P) (w := w) (base := base) tx 8
  refine fnR_of tx.g_first.d sc_first (len_ok (n := 2) fun rt xx ts hp => by obtain ⟨_, _, rfl, _⟩ := hp; rfl) (fun cdv Ar outer s H vs Q E hr h => ⟨_, (pss_cons (ps_for PassesOwn.never rfl (pi_range1 (by rfl) tx.z_range (pa_cons (pe_callR G_power (room hr) rfl (tx.g_power).g (tx.g_power).kp pass0 (pa_cons (pe_callB (call_lenK K) (by rfl) tx.z_len PySem.boot_len (pa_cons (pv 1) pa_nil)) pa_nil)) pa_nil)) (pg_name (i := 2) sc_first.nd rfl (Or.inl rfl)) (pss_cons (ps_set (i := 3) sc_first.nd rfl (Or.inl rfl) pe_dnewK)
        (pss_cons (ps_set (i := 4) sc_first.nd rfl (Or.inl rfl) (pv 2))
        (pss_cons (ps_for PassesOwn.never rfl (pi_listK K (pv 1)) (pg_name (i := 5) sc_first.nd rfl (Or.inl rfl)) (pss_cons (ps_dput (huX hr) (pv 3) (pv 5) (pe_op op_mod (pe_callTy call_int1 (by rfl) tx.z_int (by decide +kernel) (pa_cons (pv 4) pa_nil)) pe_int) (by rfl))
        (pss_one (ps_set (i := 4) sc_first.nd rfl (Or.inl rfl) (pe_op op_fdiv (pe_callTy call_int1 (by rfl) tx.z_int (by decide +kernel) (pa_cons (pv 4) pa_nil)) pe_int)))))
        (pss_cons (ps_set (i := 6) sc_first.nd rfl (Or.inl rfl) (pe_callR G_answer (room hr) rfl (tx.g_answer).g (tx.g_answer).kp pass0 (pa_cons (pe_ix (ix_listK K) (pv 0) pe_int (fun _ _ => rfl)) (pa_cons (pv 3) pa_nil))))
        (pss_one (ps_for PassesOwn.never rfl (pi_listK K (pv 0)) (pg_name (i := 7) sc_first.nd rfl (Or.inl rfl)) (pss_one (ps_if (pt_cmpR (op_neDK K (huD hr)) (pe_callR G_answer (room hr) rfl (tx.g_answer).g (tx.g_answer).kp pass0 (pa_cons (pv 7) (pa_cons (pv 3) pa_nil))) (pv 6) (nomark _)) (pss_one (ps_ret (pv 3))) pss_nil)))))))))
        (pss_one (ps_ret pe_non))),
      body_ok (N := ["_law_trees", "_law_names", "_law_number", "_law_readings", "_law_rest", "_law_word_here", "_law_one", "_law_tree_here"]) (fun W ts rt xx hB ho hw hp => ?_) h⟩)
  have hK : W.B.K = K := congrArg Bs.K hB
  obtain ⟨qs, ws, rfl, hp⟩ := hp
  show Sx W _ [some (T (qs.map Tt.mk)), some (T ws), none, none, none, none, none, none] _
  obtain ⟨h0, hl, hnd, hwl, hq, hp⟩ := hp
  have hp9 : ∀ z, splitD ws qs = z → rt (T ((z.map Dc.mk) : Option (Dc Int))) := fun z hz => hz ▸ hp
  have hdue : ∀ {p : Ru} {row : List (Str × Int)} {k : Int → Prop}, p ∈ qs → row.map (·.1) = ws → k (ansF (rdF row) p) → P_answer 8 (fun t => ∃ a : Int, t = T a ∧ k a) (fun _ => False) [T (Tt.mk p), T (Dc.mk row)] := fun {p row k} hpq hk q2 => by
    obtain ⟨h5, hn⟩ := hq p hpq
    exact ⟨p, row, rfl, by have := h5.dep; omega, h5.le (by decide), fun n hn2 => getDc_has (by rw [hk]; exact hn n hn2), ⟨_, rfl, q2⟩⟩
  obtain ⟨q0, hq0⟩ : ∃ q0, qs[0]? = some q0 := ⟨qs[0], List.getElem?_eq_getElem h0⟩
  have hq0m := List.mem_of_getElem? hq0
  refine sx_seq (sx_forR (ev_callR hB (ea_cons (ev_len (α := Str) (rα := inferInstance) hK (ev_var rfl (ea_nil (pc_power ⟨by omega, _, rfl, ⟨?_, fun i Γ' => splitD ws qs = (((rowsD ws).drop i).find? fun row => decide (1 < nDif (qs.map (ansF (rdF row))))) ∧ ∃ o2 o3 o4 o5 o6 o7 : Option G.Ty, Γ' = [some (T (qs.map Tt.mk)), some (T ws), o2, o3, o4, o5, o6, o7], ⟨rfl, none, none, none, none, none, none, rfl⟩, ?_, ?_⟩⟩)))))))
  · have h9 : 2 ^ ws.length ≤ 4096 := Nat.le_trans (Nat.pow_le_pow_right (n := 2) (by decide) hwl) (by decide)
    generalize 2 ^ ws.length = z at h9 ⊢
    omega
  · rintro m Γ' hi ⟨hf, o2, o3, o4, o5, o6, o7, rfl⟩
    rw [Int.toNat_natCast] at hi
    have hrow : (rowsD ws)[m]? = some (markD ws m) := by
      rw [rowsD_mark, List.getElem?_map, List.getElem?_range hi]
      rfl
    have hil := (List.getElem?_eq_some_iff.mp hrow).1
    rw [List.drop_eq_getElem_cons hil, (List.getElem?_eq_some_iff.mp hrow).2] at hf
    have hk := markD_keys ws m
    refine tg_name ?_
    refine sx_ownH fun F => ?_
    refine sxh_seq (sxh_newD (rβ := inferInstance) Int fun p => ?_)
    show SxH W F _ [(p, .dK [])] [some (T (qs.map Tt.mk)), some (T ws), some (T (m : Int)), some (T (Od.mk p [] ([] : List (Str × Int)))), o4, o5, o6, o7] _
    refine sxh_seq (sxh_pure fun Wo hW => sx_set (α := Int) (rα := inferInstance) (ev_var rfl ?_))
    show SxH W F _ [(p, .dK [])] [some (T (qs.map Tt.mk)), some (T ws), some (T (m : Int)), some (T (Od.mk p [] ([] : List (Str × Int)))), some (T (m : Int)), o5, o6, o7] _
    refine sxh_seq (sxh_forL (α := Str) (rα := inferInstance) hK fun Wo hW => ev_var rfl ?_)
    refine ⟨fun i L' Γ' => ∃ (kvs : List (Key × V)) (o5 : Option G.Ty), L' = [(p, .dK kvs)] ∧ Γ' = [some (T (qs.map Tt.mk)), some (T ws), some (T (m : Int)), some (T (Od.mk p kvs (markD (ws.take i) m))), some (T ((m / 2 ^ i : Nat) : Int)), o5, o6, o7], ⟨[], o5, rfl, by rw [Nat.pow_zero, Nat.div_one]; rfl⟩, fun i L' Γ' ⟨_, _, h, _⟩ => by rw [h]; rfl, ?_, ?_⟩
    · rintro i a L' Γ' ha ⟨kvs, o5, rfl, rfl⟩ Wo' hW'
      have hil := (List.getElem?_eq_some_iff.mp ha).1
      have htk : ws.take (i + 1) = ws.take i ++ [a] := by rw [List.take_succ, ha]; rfl
      have hpl : (ws.take i).length = i := by rw [List.length_take]; omega
      have hnew : a ∉ (markD (ws.take i) m).map (·.1) := by
        rw [markD_keys]
        have : (ws.take i ++ [a]).Nodup := by rw [← htk]; exact hnd.sublist (List.take_sublist _ _)
        intro z
        exact (List.nodup_append.mp this).2.2 a z a (by simp) rfl
      have hlen : (markD (ws.take i) m).length = i := by
        have := congrArg List.length (markD_keys (ws.take i) m)
        rwa [List.length_map, hpl] at this
      refine tg_name ?_
      show SxH W F _ [(p, .dK kvs)] [some (T (qs.map Tt.mk)), some (T ws), some (T (m : Int)), some (T (Od.mk p kvs (markD (ws.take i) m))), some (T ((m / 2 ^ i : Nat) : Int)), some (T a), o6, o7] _
      refine sxh_seq (sxh_dput (β := Int) (rβ := inferInstance) 0 rfl rfl fun W2 hW2 => ?_)
      walk_at "g"
      intro kvs'
      have e1 : putDc (markD (ws.take i) m) a (((m / 2 ^ i : Nat) : Int) % 2) = markD (ws.take (i + 1)) m := by
        rw [putDc_new hnew, htk, markD_snoc, hpl]
        rfl
      have e2 : ((m / 2 ^ i : Nat) : Int) / 2 = ((m / 2 ^ (i + 1) : Nat) : Int) := by
        rw [Nat.pow_succ, ← Nat.div_div_eq_div_mul]
        rfl
      show SxH W F _ [(p, .dK kvs')] [some (T (qs.map Tt.mk)), some (T ws), some (T (m : Int)), some (T (Od.mk p kvs' (putDc (markD (ws.take i) m) a (((m / 2 ^ i : Nat) : Int) % 2)))), some (T ((m / 2 ^ i : Nat) : Int)), some (T a), o6, o7] _
      rw [e1]
      refine sxh_pure fun Wz hWz => ?_
      walk_at "g"
      refine ⟨kvs', some (T a), rfl, ?_⟩
      rw [← e2]
      rfl
    rintro L' Γ' ⟨kvs, o5, rfl, rfl⟩
    rw [List.take_length]
    show SxH W F _ [(p, .dK kvs)] [some (T (qs.map Tt.mk)), some (T ws), some (T (m : Int)), some (T (Od.mk p kvs (markD ws m))), some (T ((m / 2 ^ ws.length : Nat) : Int)), o5, o6, o7] _
    refine sxh_freeze (Γ' := [some (T (qs.map Tt.mk)), some (T ws), some (T (m : Int)), some (T (Dc.mk (markD ws m))), some (T ((m / 2 ^ ws.length : Nat) : Int)), o5, o6, o7]) (by repeat (first | exact .nil | apply FrzH.ownD (by simp) | apply FrzH.same)) (sxh_pure fun Wf hWf => ?_)
    have hBf : Wf.B = bs K A := hWf.B.trans hB
    have hKf : Wf.B.K = K := congrArg Bs.K hBf
    refine sx_seq (sx_set (α := Int) (rα := inferInstance) (ev_callR hBf (ea_cons (ev_ixL (α := Tt) (rα := inferInstance) hKf (ev_var rfl (ev_int ⟨Tt.mk q0, atI_nat (j := 0) (by rw [List.getElem?_map, hq0]; rfl), ea_cons (ev_var rfl (ea_nil (hdue hq0m hk ?_)))⟩))))))
    refine sx_forL (α := Tt) (rα := inferInstance) hKf (ev_var rfl ⟨fun i Γ' => (∀ q ∈ qs.take i, ansF (rdF (markD ws m)) q = ansF (rdF (markD ws m)) q0) ∧ ∃ o7 : Option G.Ty, Γ' = [some (T (qs.map Tt.mk)), some (T ws), some (T (m : Int)), some (T (Dc.mk (markD ws m))), some (T ((m / 2 ^ ws.length : Nat) : Int)), o5, some (T (ansF (rdF (markD ws m)) q0)), o7], ⟨fun q hq => (by rw [List.take_zero] at hq; cases hq), o7, rfl⟩, ?_, ?_⟩)
    · rintro i t Γ' ht ⟨hsame, o7, rfl⟩
      rw [List.getElem?_map] at ht
      obtain ⟨q, hq1, rfl⟩ : ∃ r, qs[i]? = some r ∧ Tt.mk r = t := by
        cases h : qs[i]? with
        | none => rw [h] at ht; cases ht
        | some p => rw [h] at ht; exact ⟨p, rfl, Option.some.inj ht⟩
      have hqm := List.mem_of_getElem? hq1
      refine tg_name ?_
      refine sx_if (et_test (ev_neG (α := Int) (rα := inferInstance) hKf (ev_callR hBf (ea_cons (ev_var rfl (ea_cons (ev_var rfl (ea_nil (hdue hqm hk (ev_var rfl (neg_in (by decide) trivial trivial ⟨fun h1 => ?_, fun h1 => sx_next ?_⟩)))))))))))
      · have h1 : ansF (rdF (markD ws m)) q ≠ ansF (rdF (markD ws m)) q0 := by simpa using h1
        have h2 : decide (1 < nDif (qs.map (ansF (rdF (markD ws m))))) = true := decide_eq_true (Nat.lt_of_not_le fun z => h1 (nDif_one.mp z _ (List.mem_map.mpr ⟨q, hqm, rfl⟩) _ (List.mem_map.mpr ⟨q0, hq0m, rfl⟩)))
        rw [List.find?_cons_of_pos (p := fun row => decide (1 < nDif (qs.map (ansF (rdF row))))) (l := (rowsD ws).drop (m + 1)) h2] at hf
        exact sx_ret (α := Option (Dc Int)) (rα := inferInstance) (ev_opt (ev_var rfl (hp9 _ hf)))
      · have h1 : ansF (rdF (markD ws m)) q = ansF (rdF (markD ws m)) q0 := by simpa using h1
        refine ⟨fun q2 hq2 => ?_, _, rfl⟩
        rw [List.take_succ, hq1] at hq2
        rcases List.mem_append.mp hq2 with h | h
        · exact hsame q2 h
        · have : q2 = q := by simpa using h
          rw [this]
          exact h1
    rintro Γ' ⟨hsame, o7, rfl⟩
    rw [List.length_map, List.take_length] at hsame
    have h2 : ¬ decide (1 < nDif (qs.map (ansF (rdF (markD ws m))))) = true := fun z => by
      have := nDif_one (xs := qs.map (ansF (rdF (markD ws m)))).mpr fun a ha b hb => by
        obtain ⟨x, hx, rfl⟩ := List.mem_map.mp ha
        obtain ⟨y, hy, rfl⟩ := List.mem_map.mp hb
        rw [hsame x hx, hsame y hy]
      have := of_decide_eq_true z
      omega
    rw [List.find?_cons_of_neg (p := fun row => decide (1 < nDif (qs.map (ansF (rdF row))))) (l := (rowsD ws).drop (m + 1)) h2] at hf
    exact ⟨hf, _, _, _, _, _, _, rfl⟩
  rintro Γ' ⟨hf, o2, o3, o4, o5, o6, o7, rfl⟩
  rw [Int.toNat_natCast, List.drop_eq_nil_of_le (by rw [rowsD_len]; exact Nat.le_refl _)] at hf
  exact sx_ret (α := Option (Dc Int)) (rα := inferInstance) (ev_optN (ev_non (hp9 _ hf)))
def P_found : PT := fun rt xx ts => ∃ (rs : List Ru) (s : Ru), ts = [T (rs.map Tt.mk), T (Tt.mk s)] ∧ (s ∈ rs ∧ rs.length ≤ 20 ∧ (∀ r ∈ rs, TrOk 5 r ∧ r.rk = true ∧ (namesF r).length ≤ 4 ∧ (namesF r).Nodup) ∧ (∃ ws : List Str, ws.length ≤ 12 ∧ ∀ r ∈ rs, ∀ n ∈ namesF r, n ∈ ws) ∧ rt (T true))
theorem pc_found {rt : Ty → Prop} {xx : Xn → Prop} {rs : List Ru} {s : Ru} (h : s ∈ rs ∧ rs.length ≤ 20 ∧ (∀ r ∈ rs, TrOk 5 r ∧ r.rk = true ∧ (namesF r).length ≤ 4 ∧ (namesF r).Nodup) ∧ (∃ ws : List Str, ws.length ≤ 12 ∧ ∀ r ∈ rs, ∀ n ∈ namesF r, n ∈ ws) ∧ rt (T true)) : P_found rt xx [T (rs.map Tt.mk), T (Tt.mk s)] := ⟨_, _, rfl, h⟩
theorem ok_found (tx : Txt K mg A) : FnR P w K mg base CX0 25 A.f_found (spG (bs K A) P_found) := by
  have G_Finder_of := ok_Finder_of (P := P) (w := w) (base := base) tx
  have G_rule := ok_rule (P := P) (w := w) (base := base) tx 8
  have G_split := ok_split (P := P) (w := w) (base := base) tx
  have G_first := ok_first (P := P) (w := w) (base := base) tx
  have G_Finder_question := ok_Finder_question (P := P) (w := w) (base := base) tx
  have G_Finder_left := ok_Finder_left (P := P) (w := w) (base := base) tx
  have G_answer := ok_answer (P := P) (w := w) (base := base) tx 8
  have G_Finder_tell := ok_Finder_tell (P := P) (w := w) (base := base) tx
  refine fnR_of tx.g_found.d sc_found (len_ok (n := 2) fun rt xx ts hp => by obtain ⟨_, _, rfl, _⟩ := hp; rfl) (fun cdv Ar outer s H vs Q E hr h => ⟨_, (pss_cons (ps_set (i := 2) sc_found.nd rfl (Or.inl rfl) (pe_cmethZ (E := fun _ => E0) (tx.r_Finder) (tx.q_Finder_of) G_Finder_of (room hr) passSL tx.c_Finder (pa_cons (pe_lc (own := [("_law_tree_here", 3)]) rfl sc_found.nd (pi_listK K (pv 0)) (blkOk_by (N := ["_law_trees", "_law_secret", "_law_finder", "_law_tree_here", "_law_names", "_law_left", "_law_at", "_law_turn", "_law_due", "_law_reply"]) (sc := defScope s_found) (by decide +kernel)) (fun _ _ _ _ _ => (pg_name (i := 3) sc_found.nd rfl (Or.inl rfl))) (fun _ _ _ _ _ => pts_nil) (fun _ _ _ _ _ => (pe_callR G_rule (room hr) rfl (tx.g_rule).g (tx.g_rule).kp pass0 (pa_cons (pv 3) pa_nil)))) pa_nil)))
        (pss_cons (ps_set (i := 4) sc_found.nd rfl (Or.inl rfl) (pe_callR G_split (room hr) rfl (tx.g_split).g (tx.g_split).kp pass0 (pa_cons (pv 0) pa_nil)))
        (pss_cons (ps_setLc (i := 5) (own := [("_law_at", 6)]) rfl sc_found.nd rfl rfl (sw_true rfl rfl rfl (by decide +kernel)) (pi_range1 (by rfl) tx.z_range (pa_cons (pe_callB (call_lenK K) (by rfl) tx.z_len PySem.boot_len (pa_cons (pv 0) pa_nil)) pa_nil)) (blkOk_by (N := ["_law_trees", "_law_secret", "_law_finder", "_law_tree_here", "_law_names", "_law_left", "_law_at", "_law_turn", "_law_due", "_law_reply"]) (sc := defScope s_found) (by decide +kernel)) (fun _ _ _ _ _ => (pg_name (i := 6) sc_found.nd rfl (Or.inl rfl))) (fun _ _ _ _ _ => pts_nil) (fun _ _ _ _ _ => (pv 6)))
        (pss_cons (ps_for PassesOwn.never rfl (pi_range1 (by rfl) tx.z_range (pa_cons (pe_callB (call_lenK K) (by rfl) tx.z_len PySem.boot_len (pa_cons (pv 0) pa_nil)) pa_nil)) (pg_name (i := 7) sc_found.nd rfl (Or.inl rfl)) (pss_cons (ps_set (i := 8) sc_found.nd rfl (Or.inr rfl) (pe_callR G_first (room hr) rfl (tx.g_first).g (tx.g_first).kp pass0 (pa_cons (pe_lc (own := [("_law_at", 6)]) rfl sc_found.nd (pi_listK K (pv 5)) (blkOk_by (N := ["_law_trees", "_law_secret", "_law_finder", "_law_tree_here", "_law_names", "_law_left", "_law_at", "_law_turn", "_law_due", "_law_reply"]) (sc := defScope s_found) (by decide +kernel)) (fun _ _ _ _ _ => (pg_name (i := 6) sc_found.nd rfl (Or.inl rfl))) (fun _ _ _ _ _ => pts_nil) (fun _ _ _ _ _ => (pe_ix (ix_listK K) (pv 0) (pv 6) (fun _ _ => rfl)))) (pa_cons (pv 4) pa_nil))))
        (pss_cons (ps_if (PW.pt (pw_or (pt_cmpR (op_neDK K (huD hr)) (pe_methZ0 (E := fun _ => E0) (pv 2) (tx.cl_Finder) (tx.m_Finder_left) G_Finder_left (room hr) passS0) (pv 5) (nomark _)) (pw_or1 (pt_cmpR (op_neODK K (huD hr)) (pe_methZ0 (E := fun _ => E0) (pv 2) (tx.cl_Finder) (tx.m_Finder_question) G_Finder_question (room hr) passS0) (pv 8) (nomark _))))) (pss_one (ps_ret pe_bl)) pss_nil)
        (pss_one (ps_if (pt_cmpR op_notN (pv 8) pe_non (nomark _)) (pss_cons (ps_set (i := 9) sc_found.nd rfl (Or.inr rfl) (pe_callR G_answer (room hr) rfl (tx.g_answer).g (tx.g_answer).kp pass0 (pa_cons (pv 1) (pa_cons (pv 8) pa_nil))))
        (pss_cons (ps_setLc (i := 5) (own := [("_law_at", 6)]) rfl sc_found.nd rfl rfl (sw_true rfl rfl rfl (by decide +kernel)) (pi_listK K (pv 5)) (blkOk_by (N := ["_law_trees", "_law_secret", "_law_finder", "_law_tree_here", "_law_names", "_law_left", "_law_at", "_law_turn", "_law_due", "_law_reply"]) (sc := defScope s_found) (by decide +kernel)) (fun _ _ _ _ _ => (pg_name (i := 6) sc_found.nd rfl (Or.inl rfl))) (fun _ _ _ _ _ => (pts_one (pt_cmpR (op_eqDK K (huD hr)) (pe_callR G_answer (room hr) rfl (tx.g_answer).g (tx.g_answer).kp pass0 (pa_cons (pe_ix (ix_listK K) (pv 0) (pv 6) (fun _ _ => rfl)) (pa_cons (pv 8) pa_nil))) (pv 9) (nomark _)))) (fun _ _ _ _ _ => (pv 6)))
        (pss_one (ps_expr (pe_methZ (E := fun _ => E0) (pv 2) (tx.cl_Finder) (tx.m_Finder_tell) G_Finder_tell (room hr) passSL (pa_cons (pv 8) (pa_cons (pv 9) pa_nil))))))) pss_nil)))))
        (pss_one (ps_ret (pe_and (pe_cmpR op_isN (pe_methZ0 (E := fun _ => E0) (pv 2) (tx.cl_Finder) (tx.m_Finder_question) G_Finder_question (room hr) passS0) pe_non (nomark _)) (pe_one (pe_cmpR (op_eqDK K (huD hr)) (pe_methZ0 (E := fun _ => E0) (pv 2) (tx.cl_Finder) (tx.m_Finder_left) G_Finder_left (room hr) passS0) (pv 5) (nomark _)))))))))),
      body_ok (N := ["_law_trees", "_law_secret", "_law_finder", "_law_tree_here", "_law_names", "_law_left", "_law_at", "_law_turn", "_law_due", "_law_reply"]) (fun W ts rt xx hB ho hw hp => ?_) h⟩)
  have hK : W.B.K = K := congrArg Bs.K hB
  obtain ⟨rs, s, rfl, hp⟩ := hp
  show Sx W _ [some (T (rs.map Tt.mk)), some (T (Tt.mk s)), none, none, none, none, none, none, none, none] _
  obtain ⟨hs, hl, hr, ⟨ws, hwl, hws⟩, hp⟩ := hp
  have hT : FinT W.B := by rw [hB]; exact finT tx
  have rul : ∀ {u : Ru} {k : Ru → Prop}, u ∈ rs → k u → P_rule 8 (fun t => ∃ a : Ru, t = T a ∧ k a) (fun _ => False) [T (Tt.mk u)] := fun {u k} hu q => by
    obtain ⟨h5, _, h4, hn⟩ := hr u hu
    exact ⟨u, rfl, by have := h5.dep; omega, h5.le (by decide), hn, by omega, _, rfl, q⟩
  have hall : rs.all Ru.rk = true := List.all_eq_true.mpr fun r h => (hr r h).2.1
  have hnl : (rs.flatMap namesF).length ≤ 1000 := by
    have : ∀ l : List Ru, (∀ r ∈ l, (namesF r).length ≤ 4) → (l.flatMap namesF).length ≤ 4 * l.length := fun l => by
      induction l with
      | nil => exact fun _ => Nat.zero_le _
      | cons a l ih =>
        intro h
        rw [List.flatMap_cons, List.length_append, List.length_cons]
        have h1 := ih fun r hr => h r (List.mem_cons_of_mem _ hr)
        have h2 := h a List.mem_cons_self
        omega
    have := this rs fun r h => (hr r h).2.2.1
    omega
  refine sx_ownH fun F => ?_
  show SxH W F _ [] [some (T (rs.map Tt.mk)), some (T (Tt.mk s)), none, none, none, none, none, none, none, none] _
  refine sxh_seq (sxh_newFO (c := .Finder) fun Wo hW => evFO_cmeth .Finder .Finder (hW.B.trans hB) rfl (ea_cons (α := List Ru) (rα := inferInstance) (ev_lcF (α := Tt) (β := Ru) (fun _ => true) Tt.r (congrArg Bs.K (hW.B.trans hB)) (ev_var rfl ⟨by rw [List.length_map]; omega, fun W' sb t ht => ⟨[3], rfl, tj_name (et_yes ⟨fun _ => ev_callR (sb.B.trans (hW.B.trans hB)) (ea_cons (ev_var rfl (ea_nil ?_))), fun h => (nomatch h)⟩)⟩, ?_⟩))))
  · obtain ⟨r, hr, rfl⟩ := List.mem_map.mp ht
    exact rul hr ⟨rfl, rfl⟩
  rw [filtT, List.map_map]
  have e : rs.map (Tt.r ∘ Tt.mk) = rs := List.map_id' rs
  rw [e]
  refine ea_nil ⟨rs, rfl, by omega, hall, fun p dx fs => ?_⟩
  generalize hlf : ((List.range rs.length).map fun i : Nat => (i : Int)) = lf
  have hlv : ∀ i ∈ lf, 0 ≤ i ∧ i < rs.length := fun i hi => by
    rw [← hlf] at hi
    obtain ⟨j, hj, rfl⟩ := List.mem_map.mp hi
    have := List.mem_range.mp hj
    omega
  have hlm : s ∈ lf.map (ruAt rs) := by
    obtain ⟨j, hj, e⟩ := List.getElem_of_mem hs
    rw [← hlf]
    refine List.mem_map.mpr ⟨(j : Int), List.mem_map.mpr ⟨j, List.mem_range.mpr hj, rfl⟩, ?_⟩
    exact ruAt_of (by rw [atI_nat (List.getElem?_eq_getElem hj), e])
  have hll : lf.length ≤ rs.length := by rw [← hlf, List.length_map, List.length_range]; exact Nat.le_refl _
  show SxH W F _ [(p, .ins (W.B.cl .Finder) dx fs)] [some (T (rs.map Tt.mk)), some (T (Tt.mk s)), some (T (Oi.mk p .Finder dx fs (fiB rs lf))), none, none, none, none, none, none, none] _
  refine sxh_seq (sxh_pure fun Wo hW => sx_set (α := List Str) (rα := inferInstance) (ev_callR (hW.B.trans hB) (ea_cons (ev_var rfl (ea_nil (pc_split ⟨hl, fun r h => ⟨(hr r h).1, by have := (hr r h).2.2.1; omega, (hr r h).2.2.2⟩, fun ns hnd hmem => ⟨_, rfl, ?_⟩⟩))))))
  show SxH W F _ [(p, .ins (W.B.cl .Finder) dx fs)] [some (T (rs.map Tt.mk)), some (T (Tt.mk s)), some (T (Oi.mk p .Finder dx fs (fiB rs lf))), none, some (T (sortD ns)), none, none, none, none, none] _
  refine sxh_seqI (fun L' Γ' => L' = [(p, .ins (W.B.cl .Finder) dx fs)] ∧ Γ' = [some (T (rs.map Tt.mk)), some (T (Tt.mk s)), some (T (Oi.mk p .Finder dx fs (fiB rs lf))), none, some (T (sortD ns)), some (T lf), none, none, none, none]) (sxh_pure fun Wo hW => sx_set (α := List Int) (rα := inferInstance) (ev_lcR (β := Int) (rβ := inferInstance) (ev_len (α := Tt) (rα := inferInstance) (congrArg Bs.K (hW.B.trans hB)) (ev_var rfl ⟨by rw [List.length_map]; omega, by omega, fun i bs => bs = (List.range i).map fun i : Nat => (i : Int), rfl, fun W' sb i bs hi hbs => ⟨[6], rfl, tj_name (et_yes ⟨fun _ => ev_var rfl ?_, fun h => (nomatch h)⟩)⟩, fun bs hbs => ?_⟩)))) ?_
  · show bs ++ [(i : Int)] = _
    rw [hbs, List.range_succ, List.map_append]
    rfl
  · rw [List.length_map, Int.toNat_natCast, hlf] at hbs
    rw [hbs]
    exact ⟨rfl, rfl⟩
  rintro L' Γ' ⟨rfl, rfl⟩
  have hmem2 : ∀ n, n ∈ sortD ns ↔ n ∈ rs.flatMap namesF := fun n => ((sortD_perm ns).mem_iff).trans (hmem n)
  have hnd2 : (sortD ns).Nodup := (sortD_perm ns).nodup_iff.mpr hnd
  have hsl : (sortD ns).length ≤ 12 := by
    refine Nat.le_trans (nodup_len hnd2 fun x hx => ?_) hwl
    obtain ⟨r, hr1, hn⟩ := List.mem_flatMap.mp ((hmem2 x).mp hx)
    exact hws r hr1 x hn
  have hns : ∀ xs : List Str, xs.Nodup → (∀ x, x ∈ xs ↔ x ∈ rs.flatMap namesF) → sortD xs = sortD ns := fun xs hxd hxm => sortD_congr ((List.perm_ext_iff_of_nodup hxd hnd).mpr fun x => (hxm x).trans (hmem x).symm)
  have hq : ∀ {lf : List Int} {k : Option (List (Str × Int)) → Prop}, lf.length ≤ rs.length → (∀ i ∈ lf, 0 ≤ i ∧ i < rs.length) → k (splitD (sortD ns) (lf.map (ruAt rs))) → P_Finder_question k [T (Fi.mk rs lf)] := fun {lf k} h1 h2 q => pc_Finder_question ⟨by omega, hnl, fun r h => (hr r h).1.le (by decide), ⟨ws, hwl, fun n hn => by
    obtain ⟨r, hr1, hn⟩ := List.mem_flatMap.mp hn
    exact hws r hr1 n hn⟩, by omega, h2, fun xs hxd hxm => by rw [hns xs hxd hxm]; exact q⟩
  have hrow9 : ∀ {qs : List Ru} {row : List (Str × Int)}, splitD (sortD ns) qs = some row → row.map (·.1) = sortD ns := fun h => rowsD_keys (List.mem_of_find?_eq_some h)
  have hkeys : ∀ (qs : List Ru) (l : Dc Int), ((splitD (sortD ns) qs).map Dc.mk) = some l → (l.l.map (·.1)).Nodup := fun qs l hl => by
    obtain ⟨row, h1, rfl⟩ := Option.map_eq_some_iff.mp hl
    rw [hrow9 h1]
    exact hnd2
  have hdue : ∀ {q : Ru} {row : List (Str × Int)} {k : Int → Prop}, q ∈ rs → row.map (·.1) = sortD ns → k (ansF (rdF row) q) → P_answer 8 (fun t => ∃ a : Int, t = T a ∧ k a) (fun _ => False) [T (Tt.mk q), T (Dc.mk row)] := fun {q row k} hpq hk q2 => by
    have h5 := (hr q hpq).1
    exact ⟨q, row, rfl, by have := h5.dep; omega, h5.le (by decide), fun n hn2 => getDc_has (by rw [hk]; exact (hmem2 n).mpr (List.mem_flatMap.mpr ⟨q, hpq, hn2⟩)), ⟨_, rfl, q2⟩⟩
  have hatT : ∀ {i : Int}, 0 ≤ i → i < rs.length → atI (rs.map Tt.mk) i = some (Tt.mk (ruAt rs i)) := fun {i} h0 h1 => by
    obtain ⟨j, rfl⟩ : ∃ j : Nat, i = j := ⟨i.toNat, by omega⟩
    have hj : j < rs.length := by omega
    rw [ruAt_of (atI_nat (List.getElem?_eq_getElem hj))]
    exact atI_nat (by rw [List.getElem?_map, List.getElem?_eq_getElem hj]; rfl)
  clear hlf
  refine sxh_seqI (fun L' Γ' => ∃ (fs : List (Str × V)) (lf : List Int) (o6 o7 o8 o9 : Option G.Ty), splitD (sortD ns) (lf.map (ruAt rs)) = none ∧ lf.length ≤ rs.length ∧ (∀ i ∈ lf, 0 ≤ i ∧ i < rs.length) ∧ L' = [(p, .ins (W.B.cl .Finder) dx fs)] ∧ Γ' = [some (T (rs.map Tt.mk)), some (T (Tt.mk s)), some (T (Oi.mk p .Finder dx fs (fiB rs lf))), none, some (T (sortD ns)), some (T lf), o6, o7, o8, o9]) ?_ ?_
  · refine sxh_forI (α := Int) (rα := inferInstance) fun Wo hW => ei_rng1 (ev_len (α := Tt) (rα := inferInstance) (congrArg Bs.K (hW.B.trans hB)) (ev_var rfl ⟨⟨by omega, by rw [List.length_map]; omega⟩, fun i L' Γ' => ∃ (fs : List (Str × V)) (lf : List Int) (o6 o7 o8 o9 : Option G.Ty), (splitD (sortD ns) (lf.map (ruAt rs)) = none ∨ lf.length + i ≤ rs.length) ∧ s ∈ lf.map (ruAt rs) ∧ lf.length ≤ rs.length ∧ (∀ i ∈ lf, 0 ≤ i ∧ i < rs.length) ∧ L' = [(p, .ins (W.B.cl .Finder) dx fs)] ∧ Γ' = [some (T (rs.map Tt.mk)), some (T (Tt.mk s)), some (T (Oi.mk p .Finder dx fs (fiB rs lf))), none, some (T (sortD ns)), some (T lf), o6, o7, o8, o9], ⟨fs, lf, none, none, none, none, .inr hll, hlm, hll, hlv, rfl, rfl⟩, ?_, ?_, ?_⟩))
    · rintro i L' Γ' ⟨fs, lf, o6, o7, o8, o9, _, _, _, _, rfl, _⟩
      rfl
    · clear hlm hll hlv
      rintro i a L' Γ' hi ⟨fs, lf, o6, o7, o8, o9, hd, hlm, hll, hlv, rfl, rfl⟩ Wo' hW'
      refine tg_name ?_
      have hqs : ∀ q ∈ lf.map (ruAt rs), q ∈ rs := fun q hq => by
        obtain ⟨i, hi, rfl⟩ := List.mem_map.mp hq
        exact (ruAt_ok (hlv i hi).1 (hlv i hi).2).2
      show SxH W F _ [(p, .ins (W.B.cl .Finder) dx fs)] [some (T (rs.map Tt.mk)), some (T (Tt.mk s)), some (T (Oi.mk p .Finder dx fs (fiB rs lf))), none, some (T (sortD ns)), some (T lf), o6, some (T a), o8, o9] _
      refine sxh_seqI (fun L' Γ' => L' = [(p, .ins (W.B.cl .Finder) dx fs)] ∧ Γ' = [some (T (rs.map Tt.mk)), some (T (Tt.mk s)), some (T (Oi.mk p .Finder dx fs (fiB rs lf))), none, some (T (sortD ns)), some (T lf), o6, some (T a), some (T ((splitD (sortD ns) (lf.map (ruAt rs))).map Dc.mk : Option (Dc Int))), o9]) (sxh_pure fun Wo hW => sx_set (α := Option (Dc Int)) (rα := inferInstance) (ev_callR (hW.B.trans hB) (ea_cons (α := List Tt) (rα := inferInstance) (ev_lcF (α := Int) (β := Tt) (fun _ => true) (fun i => Tt.mk (ruAt rs i)) (congrArg Bs.K (hW.B.trans hB)) (ev_var rfl ⟨by omega, fun W' sb i hi => ⟨[6], rfl, tj_name (et_yes ⟨fun _ => ev_ixL (α := Tt) (rα := inferInstance) (congrArg Bs.K (sb.B.trans (hW.B.trans hB))) (ev_var rfl (ev_var rfl ⟨_, hatT (hlv i hi).1 (hlv i hi).2, rfl, rfl⟩)), fun h => (nomatch h)⟩)⟩, ?_⟩))))) ?_
      · rw [filtT, show (lf.map fun i => Tt.mk (ruAt rs i)) = (lf.map (ruAt rs)).map Tt.mk by rw [List.map_map]; rfl]
        refine ea_cons (ev_var rfl (ea_nil (pc_first ⟨?_, by rw [List.length_map]; omega, hnd2, hsl, fun q hq => ⟨(hr q (hqs q hq)).1, fun n hn => (hmem2 n).mpr (List.mem_flatMap.mpr ⟨q, hqs q hq, hn⟩)⟩, _, rfl, ⟨rfl, rfl⟩⟩)))
        exact List.length_pos_of_mem hlm
      rintro L' Γ' ⟨rfl, rfl⟩
      refine sxh_seq (sxh_lookIf (Γ' := [some (T (rs.map Tt.mk)), some (T (Tt.mk s)), some (T (Fi.mk rs lf)), none, some (T (sortD ns)), some (T lf), o6, some (T a), some (T ((splitD (sortD ns) (lf.map (ruAt rs))).map Dc.mk : Option (Dc Int))), o9]) (.same (.same (FrzH.ownI (o := Oi.mk p .Finder dx fs (fiB rs lf)) (a := Fi.mk rs lf) List.mem_cons_self (fun W2 H2 hB2 m2 hH2 hf2 => fi_hden hT W2 H2 p dx fs (fiB rs lf) hB2 m2 hH2 hf2 rfl) (by repeat (first | exact .nil | apply FrzH.same))))) (et_or (et_test (ev_neG (α := List Int) (rα := inferInstance) hK (ev_methZ (α := List Int) (β := Fi) (rα := inferInstance) (rβ := inferInstance) hB hx0 (ev_var rfl (ownM_in rfl (by decide +kernel) (ea_nil (pc_Finder_left ⟨_, rfl, ev_var rfl (neg_in (by decide) (fun _ _ => trivial) (fun _ _ => trivial) ⟨fun h => absurd h (by simp), fun _ => ?_⟩)⟩)))))))))
      refine et_test (ev_neOD (EvYO.k (evYO_methZ (γ := Fi) hB (ev_var rfl (ownM_in rfl (by decide +kernel) (ea_nil (hq hll hlv (ev_var rfl ⟨rfl, fun l hl => hkeys _ l hl, ⟨fun h => (nomatch h), fun _ => sxh_next ?_⟩⟩))))))))
      show SxH W F _ [(p, .ins (W.B.cl .Finder) dx fs)] [some (T (rs.map Tt.mk)), some (T (Tt.mk s)), some (T (Oi.mk p .Finder dx fs (fiB rs lf))), none, some (T (sortD ns)), some (T lf), o6, some (T a), some (T ((splitD (sortD ns) (lf.map (ruAt rs))).map Dc.mk : Option (Dc Int))), o9] _
      cases hD : splitD (sortD ns) (lf.map (ruAt rs)) with
      | none =>
        exact sxh_if fun Wo hW => et_test (ev_optNot (α := Dc Int) (rα := inferInstance) (ev_var rfl ⟨fun h => (nomatch h), fun _ => sxh_next ⟨fs, lf, _, _, _, _, .inl hD, hlm, hll, hlv, rfl, rfl⟩⟩))
      | some row =>
        have hrw := hrow9 hD
        refine sxh_if fun Wo hW => et_test (ev_optNot (α := Dc Int) (rα := inferInstance) (ev_var rfl ⟨fun _ => ?_, fun h => (nomatch h)⟩))
        refine sxh_seq (sxh_pure fun Wo hW => sx_set (α := Int) (rα := inferInstance) (ev_callR (hW.B.trans hB) (ea_cons (ev_var rfl (ea_cons (α := Dc Int) (rα := inferInstance) (ev_unopt (ev_var rfl ⟨_, rfl, ea_nil (hdue hs hrw ?_)⟩)))))))
        show SxH W F _ [(p, .ins (W.B.cl .Finder) dx fs)] [some (T (rs.map Tt.mk)), some (T (Tt.mk s)), some (T (Oi.mk p .Finder dx fs (fiB rs lf))), none, some (T (sortD ns)), some (T lf), o6, some (T a), some (T (some (Dc.mk row) : Option (Dc Int))), some (T (ansF (rdF row) s))] _
        refine sxh_seqI (fun L' Γ' => L' = [(p, .ins (W.B.cl .Finder) dx fs)] ∧ Γ' = [some (T (rs.map Tt.mk)), some (T (Tt.mk s)), some (T (Oi.mk p .Finder dx fs (fiB rs lf))), none, some (T (sortD ns)), some (T (tellF rs lf row (ansF (rdF row) s))), o6, some (T a), some (T (some (Dc.mk row) : Option (Dc Int))), some (T (ansF (rdF row) s))]) (sxh_pure fun Wo hW => sx_set (α := List Int) (rα := inferInstance) (ev_lcF (α := Int) (β := Int) (fun i => decide (ansF (rdF row) (ruAt rs i) = ansF (rdF row) s)) (fun i => i) (congrArg Bs.K (hW.B.trans hB)) (ev_var rfl ⟨by omega, fun W' sb i hi => ⟨[6], rfl, tj_name (et_test (ev_eqG (α := Int) (rα := inferInstance) (congrArg Bs.K (sb.B.trans (hW.B.trans hB))) (ev_callR (sb.B.trans (hW.B.trans hB)) (ea_cons (ev_ixL (α := Tt) (rα := inferInstance) (congrArg Bs.K (sb.B.trans (hW.B.trans hB))) (ev_var rfl (ev_var rfl ⟨_, hatT (hlv i hi).1 (hlv i hi).2, ea_cons (α := Dc Int) (rα := inferInstance) (ev_unopt (ev_var rfl ⟨_, rfl, ea_nil (hdue (ruAt_ok (hlv i hi).1 (hlv i hi).2).2 hrw (ev_var rfl (eqg_in (by decide) trivial trivial ⟨fun h => ev_var rfl ⟨h, rfl⟩, fun h => h⟩)))⟩))⟩)))))) )⟩, ?_⟩))) ?_
        · rw [List.map_id']
          exact ⟨rfl, rfl⟩
        rintro L' Γ' ⟨rfl, rfl⟩
        have hin : s ∈ (tellF rs lf row (ansF (rdF row) s)).map (ruAt rs) := by
          obtain ⟨i, hi, e⟩ := List.mem_map.mp hlm
          exact List.mem_map.mpr ⟨i, List.mem_filter.mpr ⟨hi, decide_eq_true (by rw [e])⟩, e⟩
        have hlt := tell_less (a := ansF (rdF row) s) hD
        refine sxh_methM rfl rfl hB rfl (by show ("tell" : Str) ∉ [("_rules" : Str), "_left"]; decide +kernel) fun Wo hW => ea_cons (α := Dc Int) (rα := inferInstance) (ev_unopt (ev_var rfl ⟨_, rfl, ea_cons (ev_var rfl (ea_nil ⟨rs, lf, row, ansF (rdF row) s, rfl, rfl, rfl, finT tx, by omega, fun i hi => ⟨(hlv i hi).1, (hlv i hi).2, (hr _ (ruAt_ok (hlv i hi).1 (hlv i hi).2).2).1.le (by decide), fun n hn => getDc_has (by rw [hrw]; exact (hmem2 n).mpr (List.mem_flatMap.mpr ⟨_, (ruAt_ok (hlv i hi).1 (hlv i hi).2).2, hn⟩))⟩, fun e => (by rw [e] at hin; cases hin), fun fs2 => ⟨fs2, tellF rs lf row (ansF (rdF row) s), _, _, _, _, .inr ?_, hin, by omega, fun i hi => hlv i (List.mem_filter.mp hi).1, rfl, rfl⟩⟩))⟩))
        rcases hd with hd | hd
        · rw [hD] at hd
          cases hd
        · omega
    · rintro L' Γ' ⟨fs, lf, o6, o7, o8, o9, hd, hlm, hll, hlv, rfl, rfl⟩
      refine ⟨fs, lf, o6, o7, o8, o9, hd.elim id fun h => ?_, hll, hlv, rfl, rfl⟩
      have h2 := List.length_pos_of_mem hlm
      rw [List.length_map] at h2
      simp only [List.length_map, List.length_range, Int.toNat_natCast] at h
      omega
  rintro L' Γ' ⟨fs, lf, o6, o7, o8, o9, hd, hll, hlv, rfl, rfl⟩
  refine sxh_freeze (Γ' := [some (T (rs.map Tt.mk)), some (T (Tt.mk s)), some (T (Fi.mk rs lf)), none, some (T (sortD ns)), some (T lf), o6, o7, o8, o9]) (.same (.same (FrzH.ownI (o := Oi.mk p .Finder dx fs (fiB rs lf)) (a := Fi.mk rs lf) List.mem_cons_self (fun W2 H2 hB2 m2 hH2 hf2 => fi_hden hT W2 H2 p dx fs (fiB rs lf) hB2 m2 hH2 hf2 rfl) (by repeat (first | exact .nil | apply FrzH.same))))) (sxh_pure fun Wf hWf => ?_)
  have hBf : Wf.B = bs K A := hWf.B.trans hB
  have hKf : Wf.B.K = K := congrArg Bs.K hBf
  refine sx_ret (α := Bool) (rα := inferInstance) (ev_andV (ev_optIs (α := Dc Int) (rα := inferInstance) (EvYO.k (evYO_methZ (γ := Fi) hBf (ev_var rfl (ownM_in rfl (by decide +kernel) (ea_nil (hq hll hlv ?_))))))))
  rw [hd]
  refine ⟨fun _ => ?_, fun h => (nomatch h)⟩
  refine ev_eqG (α := List Int) (rα := inferInstance) hKf (ev_methZ (α := List Int) (β := Fi) (rα := inferInstance) (rβ := inferInstance) hBf hx0 (ev_var rfl (ownM_in rfl (by decide +kernel) (ea_nil (pc_Finder_left ⟨_, rfl, ev_var rfl (eqg_in (by decide) (fun _ _ => trivial) (fun _ _ => trivial) ?_)⟩)))))
  rw [decide_eq_true rfl]
  exact hp
def spLaw (K : PySem.W.Frag) : Sp := fun vs H Q _ => ∃ (a : Addr) (ns : List Int), vs = [.ref a] ∧ SqL K H a (ns.map V.int) ∧ ns.length ≤ 63 ∧ ∀ H', Q (.bl true) H'
theorem firstD_comm (ws : List Str) (r q : Ru) : firstD ws q r = firstD ws r q := by
  unfold firstD
  congr 1
  funext row
  exact decide_eq_decide.mpr ⟨fun h e => h e.symm, fun h e => h e.symm⟩
theorem splitD_two (ws : List Str) (r q : Ru) : splitD ws [r, q] = firstD ws r q := firstD_eq ws r q
structure TrH (ws : List Str) (n : Nat) (r : Ru) : Prop where
  ok : TrOk 5 r
  nd : (namesF r).Nodup
  sub : ∀ x ∈ namesF r, x ∈ ws
  le : (namesF r).length ≤ n
  rk : r.rk = true
theorem ok_law' (tx : Txt K mg A) {fd : FuncData} (F : Fun K "law" "law" s_law A.f_law fd) : FnOk P w K mg base CX0 26 A.f_law fd ["_law_script"] (spLaw K) := by
  have G_box := ok_box (P := P) (w := w) (base := base) tx
  have G_words := ok_words (P := P) (w := w) (base := base) tx
  have G_take := ok_take (P := P) (w := w) (base := base) tx
  have G_tree := ok_tree (P := P) (w := w) (base := base) tx
  have G_some := ok_some (P := P) (w := w) (base := base) tx
  have G_rule := ok_rule (P := P) (w := w) (base := base) tx 8
  have G_first := ok_first (P := P) (w := w) (base := base) tx
  have G_split := ok_split (P := P) (w := w) (base := base) tx
  have G_m_alike := ok_m_alike (P := P) (w := w) (base := base) tx
  have G_m_differ := ok_m_differ (P := P) (w := w) (base := base) tx
  have G_found := ok_found (P := P) (w := w) (base := base) tx
  refine F.ok sc_law (fun vs H Q E h => ?_) (fun cdv Ar outer s H vs Q E hr h => ?_)
  · obtain ⟨a, ns, rfl, _⟩ := h; rfl
  · refine ⟨_, (pss_cons (ps_set (i := 1) sc_law.nd rfl (Or.inr rfl) (pe_callR G_box (room hr) rfl (tx.g_box).g (tx.g_box).kp pass0 (pa_cons (pv 0) (pa_cons pe_int pa_nil))))
        (pss_cons (ps_set (i := 2) sc_law.nd rfl (Or.inr rfl) (pe_callR G_words (room hr) rfl (tx.g_words).g (tx.g_words).kp pass0 (pa_cons (pv 1) (pa_cons (pe_op op_add pe_int (pe_ix (ix_listK K) (pe_lst (pa_cons pe_int (pa_cons pe_int (pa_cons pe_int (pa_cons pe_int pa_nil))))) (pe_callR G_take (room hr) rfl (tx.g_take).g (tx.g_take).kp pass0 (pa_cons (pv 1) (pa_cons pe_int pa_nil))) (fun _ _ => rfl))) pa_nil))))
        (pss_cons (ps_set (i := 3) sc_law.nd rfl (Or.inl rfl) (pe_callR G_tree (room hr) rfl (tx.g_tree).g (tx.g_tree).kp pass0 (pa_cons (pv 1) (pa_cons (pv 2) (pa_cons pe_bl pa_nil)))))
        (pss_cons (ps_set (i := 4) sc_law.nd rfl (Or.inl rfl) (pe_callR G_tree (room hr) rfl (tx.g_tree).g (tx.g_tree).kp pass0 (pa_cons (pv 1) (pa_cons (pe_callR G_some (room hr) rfl (tx.g_some).g (tx.g_some).kp pass0 (pa_cons (pv 1) (pa_cons (pv 2) pa_nil))) (pa_cons pe_bl pa_nil)))))
        (pss_cons (ps_set (i := 5) sc_law.nd rfl (Or.inl rfl) (pe_callR G_rule (room hr) rfl (tx.g_rule).g (tx.g_rule).kp pass0 (pa_cons (pv 3) pa_nil)))
        (pss_cons (ps_set (i := 6) sc_law.nd rfl (Or.inl rfl) (pe_callR G_rule (room hr) rfl (tx.g_rule).g (tx.g_rule).kp pass0 (pa_cons (pv 4) pa_nil)))
        (pss_cons (ps_set (i := 7) sc_law.nd rfl (Or.inl rfl) (pe_callR G_first (room hr) rfl (tx.g_first).g (tx.g_first).kp pass0 (pa_cons (pe_lst (pa_cons (pv 3) (pa_cons (pv 4) pa_nil))) (pa_cons (pe_callR G_split (room hr) rfl (tx.g_split).g (tx.g_split).kp pass0 (pa_cons (pe_lst (pa_cons (pv 3) (pa_cons (pv 4) pa_nil))) pa_nil)) pa_nil))))
        (pss_cons (ps_if (PW.pt (pw_or (pt_cmpR (op_neODK K (huD hr)) (pe_callR G_m_differ (room hr) rfl (tx.g_m_differ).g (tx.g_m_differ).kp pass0 (pa_cons (pv 5) (pa_cons (pv 6) pa_nil))) (pv 7) (nomark _)) (pw_or1 (pt_cmpR (op_neDK K (huD hr)) (pe_callR G_m_alike (room hr) rfl (tx.g_m_alike).g (tx.g_m_alike).kp pass0 (pa_cons (pv 6) (pa_cons (pv 5) pa_nil))) (pe_cmpR op_isN (pv 7) pe_non (nomark _)) (nomark _))))) (pss_one (ps_ret pe_bl)) pss_nil)
        (pss_cons (ps_setLc (i := 8) (own := [("_law_turn", 9)]) rfl sc_law.nd rfl rfl (sw_true rfl rfl rfl (by decide +kernel)) (pi_range1 (by rfl) tx.z_range (pa_cons pe_int pa_nil)) (blkOk_by (N := ["_law_script", "_law_box_here", "_law_words_here", "_law_tree_here", "_law_other", "_law_rule_here", "_law_beside", "_law_due", "_law_trees", "_law_turn"]) (sc := defScope s_law) (by decide +kernel)) (fun _ _ _ _ _ => (pg_name (i := 9) sc_law.nd rfl (Or.inl rfl))) (fun _ _ _ _ _ => pts_nil) (fun _ _ _ _ _ => (pe_callR G_tree (room hr) rfl (tx.g_tree).g (tx.g_tree).kp pass0 (pa_cons (pv 1) (pa_cons (pe_callR G_some (room hr) rfl (tx.g_some).g (tx.g_some).kp pass0 (pa_cons (pv 1) (pa_cons (pe_slice (sl_listK K) (pv 2) po_none (po_some pe_int)) pa_nil))) (pa_cons pe_bl pa_nil))))))
        (pss_one (ps_ret (pe_callR G_found (room hr) rfl (tx.g_found).g (tx.g_found).kp pass0 (pa_cons (pv 8) (pa_cons (pe_ix (ix_listK K) (pv 8) (pe_callR G_take (room hr) rfl (tx.g_take).g (tx.g_take).kp pass0 (pa_cons (pv 1) (pa_cons pe_int pa_nil))) (fun _ _ => rfl)) pa_nil)))))))))))))), ?_⟩
    try dsimp only [cxOf, Cx.nox]
    obtain ⟨a, ns, rfl, hS, hl, kq⟩ := h
    refine raw_seq (raw_asg ⟨_, rfl, a, ns, 187, rfl, hS, hl, fun b c H' hbc hb hc => ?_⟩)
    dsimp only
    refine law_run (B := bs K A) (j := 1) hbc hb hc (by exact rfl) kq fun W hB => ?_
    have hK : W.B.K = K := congrArg Bs.K hB
    show Sx W _ [none, some (T Bx.mk), none, none, none, none, none, none, none, none] _
    walk_at "g"
    refine pc_take ⟨by decide, by decide, fun m h0 h1 => ⟨_, rfl, ?_⟩⟩
    obtain ⟨w9, hw9, v0, v1⟩ : ∃ w : Int, atI [0, 1, 1, 3] m = some w ∧ 0 ≤ w ∧ w ≤ 3 := by
      have : m = 0 ∨ m = 1 ∨ m = 2 ∨ m = 3 := by omega
      rcases this with rfl | rfl | rfl | rfl
      · exact ⟨0, rfl, by omega, by omega⟩
      · exact ⟨1, rfl, by omega, by omega⟩
      · exact ⟨1, rfl, by omega, by omega⟩
      · exact ⟨3, rfl, by omega, by omega⟩
    refine ⟨w9, hw9, ?_⟩
    walk_at "g"
    refine pc_words ⟨by omega, by omega, fun ws hwl hwn hwg => ⟨_, rfl, ?_⟩⟩
    have hw0 : 0 < ws.length := by omega
    have hw9 : ws.length ≤ 9 := by omega
    show Sx W _ [none, some (T Bx.mk), some (T ws), none, none, none, none, none, none, none] _
    refine sx_seqI (fun Γ' => ∃ r : Ru, TrH ws 9 r ∧ Γ' = [none, some (T Bx.mk), some (T ws), some (T (Tt.mk r)), none, none, none, none, none, none]) ?_ ?_
    · exact sx_set (α := Tt) (rα := inferInstance) (ev_callR hB (ea_cons (ev_var rfl (ea_cons (ev_var rfl (ea_cons (ev_bl (ea_nil (pc_tree ⟨hw0, by omega, fun r hr hrn hrk _ => ⟨_, rfl, r, ⟨hr, by rw [hrn]; exact hwn, fun n hn => by rw [hrn] at hn; exact hn, by rw [hrn]; exact hw9, hrk rfl⟩, rfl⟩⟩)))))))))
    rintro Γ' ⟨r, hr, rfl⟩
    refine sx_seqI (fun Γ' => ∃ q : Ru, TrH ws 9 q ∧ Γ' = [none, some (T Bx.mk), some (T ws), some (T (Tt.mk r)), some (T (Tt.mk q)), none, none, none, none, none]) ?_ ?_
    · refine sx_set (α := Tt) (rα := inferInstance) (ev_callR hB (ea_cons (ev_var rfl (ea_cons (ev_callR hB (ea_cons (ev_var rfl (ea_cons (ev_var rfl (ea_nil (pc_some ⟨hw0, by omega, fun ss hs0 ⟨rest, hpm⟩ => ⟨_, rfl, ?_⟩⟩)))))))))))
      have hsn : ss.Nodup := ((hpm.nodup_iff).mpr hwn).sublist (List.sublist_append_left _ _)
      have hsl : ss.length ≤ 9 := by
        have := hpm.length_eq
        rw [List.length_append] at this
        omega
      exact ea_cons (ev_bl (ea_nil (pc_tree ⟨hs0, by omega, fun q hq hrn hrk _ => ⟨_, rfl, q, ⟨hq, by rw [hrn]; exact hsn, fun n hn => by
            rw [hrn] at hn
            exact (hpm.mem_iff).mp (List.mem_append_left _ hn), by rw [hrn]; exact hsl, hrk rfl⟩, rfl⟩⟩)))
    rintro Γ' ⟨q, hq, rfl⟩
    have rul : ∀ {u : Ru} {k : Ru → Prop}, TrH ws 9 u → k u → P_rule 8 (fun t => ∃ a : Ru, t = T a ∧ k a) (fun _ => False) [T (Tt.mk u)] := fun {u k} hu q => ⟨u, rfl, by have := hu.ok.dep; omega, hu.ok.le (by decide), hu.nd, by have := hu.le; omega, _, rfl, q⟩
    refine sx_seq (sx_set (α := Ru) (rα := inferInstance) (ev_callR hB (ea_cons (ev_var rfl (ea_nil (rul hr ?_))))))
    refine sx_seq (sx_set (α := Ru) (rα := inferInstance) (ev_callR hB (ea_cons (ev_var rfl (ea_nil (rul hq ?_))))))
    have h2 : ∀ p ∈ [r, q], TrH ws 9 p := fun p hp => by
      rcases List.mem_cons.mp hp with rfl | hp
      · exact hr
      · rw [List.mem_singleton.mp hp]
        exact hq
    have en : [r, q].flatMap namesF = namesF r ++ namesF q := by
      rw [List.flatMap_cons, List.flatMap_cons, List.flatMap_nil, List.append_nil]
    show Sx W _ [none, some (T Bx.mk), some (T ws), some (T (Tt.mk r)), some (T (Tt.mk q)), some (T r), some (T q), none, none, none] _
    refine sx_seqI (fun Γ' => ∃ ns : List Str, ns.Nodup ∧ (∀ x, x ∈ ns ↔ x ∈ namesF r ++ namesF q) ∧ Γ' = [none, some (T Bx.mk), some (T ws), some (T (Tt.mk r)), some (T (Tt.mk q)), some (T r), some (T q), some (T ((splitD (sortD ns) [r, q]).map Dc.mk : Option (Dc Int))), none, none]) ?_ ?_
    · refine sx_set (α := Option (Dc Int)) (rα := inferInstance) (ev_callR hB (ea_cons (α := List Tt) (rα := inferInstance) (ev_lst (el_cons (ev_var rfl (el_cons (ev_var rfl (el_nil ⟨by show 2 ≤ 100000; decide, ea_cons (α := List Str) (rα := inferInstance) (ev_callR hB (ea_cons (α := List Tt) (rα := inferInstance) (ev_lst (el_cons (ev_var rfl (el_cons (ev_var rfl (el_nil ⟨by show 2 ≤ 100000; decide, ea_nil (pc_split (rs := [r, q]) ⟨by show 2 ≤ 20; decide, fun p hp => ⟨(h2 p hp).ok, by have := (h2 p hp).le; omega, (h2 p hp).nd⟩, fun ns hnd hmem => ⟨_, rfl, ?_⟩⟩)⟩))))))))⟩))))))))
      rw [en] at hmem
      have hmem2 : ∀ n, n ∈ sortD ns ↔ n ∈ namesF r ++ namesF q := fun n => ((sortD_perm ns).mem_iff).trans (hmem n)
      have hnd2 : (sortD ns).Nodup := (sortD_perm ns).nodup_iff.mpr hnd
      have hsl : (sortD ns).length ≤ 9 := Nat.le_trans (nodup_len hnd2 fun x hx => (List.mem_append.mp ((hmem2 x).mp hx)).elim (hr.sub x) (hq.sub x)) hw9
      refine ea_nil (pc_first (qs := [r, q]) ⟨by show 0 < 2; decide, by show 2 ≤ 20; decide, hnd2, by omega, fun p hp => ⟨(h2 p hp).ok, fun n hn => (hmem2 n).mpr ?_⟩, ⟨_, rfl, ns, hnd, hmem, rfl⟩⟩)
      rw [← en]
      exact List.mem_flatMap.mpr ⟨p, hp, hn⟩
    rintro Γ' ⟨ns, hnd, hmem, rfl⟩
    have hns : ∀ xs : List Str, xs.Nodup → (∀ x, x ∈ xs ↔ x ∈ namesF r ++ namesF q) → sortD xs = sortD ns := fun xs hxd hxm => sortD_congr ((List.perm_ext_iff_of_nodup hxd hnd).mpr fun x => (hxm x).trans (hmem x).symm)
    have hnd2 : (sortD ns).Nodup := (sortD_perm ns).nodup_iff.mpr hnd
    have hkeys : ∀ l : Dc Int, ((firstD (sortD ns) r q).map Dc.mk) = some l → (l.l.map (·.1)).Nodup := fun l hl => by
      obtain ⟨row, h1, rfl⟩ := Option.map_eq_some_iff.mp hl
      rw [rowsD_keys (List.mem_of_find?_eq_some h1)]
      exact hnd2
    refine sx_seq (sx_if (et_or (et_test (ev_neOD (EvYO.k (evYO_call hB (ea_cons (ev_var rfl (ea_cons (ev_var rfl (ea_nil (pc_m_differ ⟨hr.ok.le (by decide), hq.ok.le (by decide), hr.rk, hq.rk, by have := hr.le; omega, by have := hq.le; omega, ⟨ws, by omega, fun n hn => (List.mem_append.mp hn).elim (hr.sub n) (hq.sub n)⟩, fun xs hxd hxm => ?_⟩))))))))))))
    rw [hns xs hxd hxm]
    refine ev_var rfl ⟨by rw [splitD_two], fun l hl => hkeys l hl, ⟨fun h => (nomatch h), fun _ => ?_⟩⟩
    refine et_test (ev_neG (α := Bool) (rα := inferInstance) hK (ev_callR hB (ea_cons (ev_var rfl (ea_cons (ev_var rfl (ea_nil (pc_m_alike ⟨hq.ok.le (by decide), hr.ok.le (by decide), hq.rk, hr.rk, by have := hq.le; omega, by have := hr.le; omega, ⟨ws, by omega, fun n hn => (List.mem_append.mp hn).elim (hq.sub n) (hr.sub n)⟩, fun xs hxd hxm => ⟨_, rfl, ?_⟩⟩))))))))
    rw [hns xs hxd (fun x => (hxm x).trans (by rw [List.mem_append, List.mem_append]; exact Or.comm)), firstD_comm]
    refine ev_optIs (α := Dc Int) (rα := inferInstance) (ev_var rfl (neg_in (by decide) trivial trivial ⟨fun h => absurd h (by rw [splitD_two, Option.isSome_map]; simp), fun _ => sx_next ?_⟩))
    refine sx_seqI (fun Γ' => ∃ (rs : List Ru) (o9 : Option G.Ty), rs.length = 9 ∧ (∀ r ∈ rs, TrH ws 4 r) ∧ Γ' = [none, some (T Bx.mk), some (T ws), some (T (Tt.mk r)), some (T (Tt.mk q)), some (T r), some (T q), some (T ((splitD (sortD ns) [r, q]).map Dc.mk : Option (Dc Int))), some (T (rs.map Tt.mk)), o9]) ?_ ?_
    · refine sx_set (α := List Tt) (rα := inferInstance) (ev_lcR (β := Tt) (rβ := inferInstance) (ev_int ⟨by decide, by decide, fun i bs => ∃ rs : List Ru, rs.length = i ∧ bs = rs.map Tt.mk ∧ ∀ r ∈ rs, TrH ws 4 r, ⟨[], rfl, rfl, fun t h => (nomatch h)⟩, fun W' sb i bs hi hbs => ⟨[9], rfl, ?_⟩, fun bs hbs => ?_⟩))
      · have hB' : W'.B = Lw.bs K A := sb.B.trans hB
        have hK' : W'.B.K = K := congrArg Bs.K hB'
        obtain ⟨rs, hb1, rfl, hb2⟩ := hbs
        refine tj_name (et_yes ⟨fun _ => ?_, fun h => (nomatch h)⟩)
        have e4 : (ws.take (4 : Int).toNat).length = min 4 ws.length := List.length_take
        refine ev_callR hB' (ea_cons (ev_var rfl (ea_cons (ev_callR hB' (ea_cons (ev_var rfl (ea_cons (ev_upto hK' (ev_var rfl (ev_int ⟨by decide, ea_nil (pc_some ⟨by omega, by omega, fun ss hs0 ⟨rest, hpm⟩ => ⟨_, rfl, ?_⟩⟩)⟩))))))))))
        have hsn : ss.Nodup := ((hpm.nodup_iff).mpr (hwn.sublist (List.take_sublist _ _))).sublist (List.sublist_append_left _ _)
        have hsl : ss.length ≤ 4 := by
          have := hpm.length_eq
          rw [List.length_append] at this
          omega
        refine ea_cons (ev_bl (ea_nil (pc_tree ⟨hs0, by omega, fun r hr hrn hrk _ => ⟨_, rfl, rs ++ [r], by rw [List.length_append, hb1]; rfl, by rw [List.map_append]; rfl, fun t ht => ?_⟩⟩)))
        rcases List.mem_append.mp ht with ht | ht
        · exact hb2 t ht
        · rw [List.mem_singleton.mp ht]
          exact ⟨hr, by rw [hrn]; exact hsn, fun n hn => by
            rw [hrn] at hn
            exact List.mem_of_mem_take ((hpm.mem_iff).mp (List.mem_append_left _ hn)), by rw [hrn]; exact hsl, hrk rfl⟩
      · obtain ⟨rs, hb1, rfl, hb2⟩ := hbs
        exact ⟨rs, none, hb1, hb2, rfl⟩
    rintro Γ' ⟨rs, o9, hrl, hrs, rfl⟩
    refine sx_ret (α := Bool) (rα := inferInstance) (ev_callR hB (ea_cons (ev_var rfl (ea_cons (ev_ixL (α := Tt) (rα := inferInstance) hK (ev_var rfl (ev_callR hB (ea_cons (ev_var rfl (ea_cons (ev_int (ea_nil (pc_take ⟨by decide, by decide, fun z z0 z1 => ⟨_, rfl, ?_⟩⟩)))))))))))))
    obtain ⟨s, hs, hsm⟩ := atI_some (rs := rs) (i := z) z0 (by omega)
    obtain ⟨j, rfl⟩ : ∃ j : Nat, z = j := ⟨z.toNat, by omega⟩
    refine ⟨Tt.mk s, ?_, ea_nil (pc_found ⟨hsm, by omega, fun r hr => ⟨(hrs r hr).ok, (hrs r hr).rk, (hrs r hr).le, (hrs r hr).nd⟩, ⟨ws, by omega, fun r hr n hn => (hrs r hr).sub n hn⟩, ⟨_, rfl, rfl⟩⟩)⟩
    have hj : j < rs.length := by omega
    have e : rs[j]? = some s := by
      have h1 : atI rs (j : Int) = some rs[j] := atI_nat (List.getElem?_eq_getElem hj)
      rw [hs] at h1
      rw [List.getElem?_eq_getElem hj]
      exact h1.symm
    exact atI_nat (by rw [List.getElem?_map, e]; rfl)
end
theorem all_mk {l : PySem.W.OpenLaw} {w : World} {K : PySem.W.Frag} {h : Heap} {mg : Str → Option Value} {fa C_GaugeError C_DuplicateGauge C_MissingReading C_BadRule C_NotRanked C_NoRule C_Finder C_Rule C_Leaf C_Rank C_Trim C_Weigh f1 f2 f3 f4 f5 f6 f7 f8 f9 f10 f11 f12 f13 f14 f15 f16 f17 f18 f19 f20 f21 f22 f23 f24 f25 f26 f27 f28 f29 f30 f31 f32 f33 f34 f35 f36 f37 f38 f39 f40 f41 f42 f43 f44 f45 f46 f47 : Addr} (X : K.In h) (G : h.Ns mainGlobals mg) (hfa : mg "law" = some (.ref fa))
    {od1 an1 : Option Addr} {sl1 : Array (Option Value)} {oc1 kV1 dc1 pm1 cd1 ct1 : Value} {od2 an2 : Option Addr} {sl2 : Array (Option Value)} {oc2 kV2 dc2 pm2 cd2 ct2 : Value} {od3 an3 : Option Addr} {sl3 : Array (Option Value)} {oc3 kV3 dc3 pm3 cd3 ct3 : Value} {od4 an4 : Option Addr} {sl4 : Array (Option Value)} {oc4 kV4 dc4 pm4 cd4 ct4 : Value} {od5 an5 : Option Addr} {sl5 : Array (Option Value)} {oc5 kV5 dc5 pm5 cd5 ct5 : Value} {od6 an6 : Option Addr} {sl6 : Array (Option Value)} {oc6 kV6 dc6 pm6 cd6 ct6 : Value} {od7 an7 : Option Addr} {sl7 : Array (Option Value)} {oc7 kV7 dc7 pm7 cd7 ct7 : Value} {od8 an8 : Option Addr} {sl8 : Array (Option Value)} {oc8 kV8 dc8 pm8 cd8 ct8 : Value} {od9 an9 : Option Addr} {sl9 : Array (Option Value)} {oc9 kV9 dc9 pm9 cd9 ct9 : Value} {od10 an10 : Option Addr} {sl10 : Array (Option Value)} {oc10 kV10 dc10 pm10 cd10 ct10 : Value} {od11 an11 : Option Addr} {sl11 : Array (Option Value)} {oc11 kV11 dc11 pm11 cd11 ct11 : Value} {od12 an12 : Option Addr} {sl12 : Array (Option Value)} {oc12 kV12 dc12 pm12 cd12 ct12 : Value} {od13 an13 : Option Addr} {sl13 : Array (Option Value)} {oc13 kV13 dc13 pm13 cd13 ct13 : Value} {od14 an14 : Option Addr} {sl14 : Array (Option Value)} {oc14 kV14 dc14 pm14 cd14 ct14 : Value} {od15 an15 : Option Addr} {sl15 : Array (Option Value)} {oc15 kV15 dc15 pm15 cd15 ct15 : Value} {od16 an16 : Option Addr} {sl16 : Array (Option Value)} {oc16 kV16 dc16 pm16 cd16 ct16 : Value} {od17 an17 : Option Addr} {sl17 : Array (Option Value)} {oc17 kV17 dc17 pm17 cd17 ct17 : Value} {od18 an18 : Option Addr} {sl18 : Array (Option Value)} {oc18 kV18 dc18 pm18 cd18 ct18 : Value} {od19 an19 : Option Addr} {sl19 : Array (Option Value)} {oc19 kV19 dc19 pm19 cd19 ct19 : Value} {od20 an20 : Option Addr} {sl20 : Array (Option Value)} {oc20 kV20 dc20 pm20 cd20 ct20 : Value} {od21 an21 : Option Addr} {sl21 : Array (Option Value)} {oc21 kV21 dc21 pm21 cd21 ct21 : Value} {od22 an22 : Option Addr} {sl22 : Array (Option Value)} {oc22 kV22 dc22 pm22 cd22 ct22 : Value} {od23 an23 : Option Addr} {sl23 : Array (Option Value)} {oc23 kV23 dc23 pm23 cd23 ct23 : Value} {od24 an24 : Option Addr} {sl24 : Array (Option Value)} {oc24 kV24 dc24 pm24 cd24 ct24 : Value} {od25 an25 : Option Addr} {sl25 : Array (Option Value)} {oc25 kV25 dc25 pm25 cd25 ct25 : Value} {od26 an26 : Option Addr} {sl26 : Array (Option Value)} {oc26 kV26 dc26 pm26 cd26 ct26 : Value} {od27 an27 : Option Addr} {sl27 : Array (Option Value)} {oc27 kV27 dc27 pm27 cd27 ct27 : Value} {od28 an28 : Option Addr} {sl28 : Array (Option Value)} {oc28 kV28 dc28 pm28 cd28 ct28 : Value} {od29 an29 : Option Addr} {sl29 : Array (Option Value)} {oc29 kV29 dc29 pm29 cd29 ct29 : Value} {od30 an30 : Option Addr} {sl30 : Array (Option Value)} {oc30 kV30 dc30 pm30 cd30 ct30 : Value} {od31 an31 : Option Addr} {sl31 : Array (Option Value)} {oc31 kV31 dc31 pm31 cd31 ct31 : Value} {od32 an32 : Option Addr} {sl32 : Array (Option Value)} {oc32 kV32 dc32 pm32 cd32 ct32 : Value} {od33 an33 : Option Addr} {sl33 : Array (Option Value)} {oc33 kV33 dc33 pm33 cd33 ct33 : Value} {od34 an34 : Option Addr} {sl34 : Array (Option Value)} {oc34 kV34 dc34 pm34 cd34 ct34 : Value} {od35 an35 : Option Addr} {sl35 : Array (Option Value)} {oc35 kV35 dc35 pm35 cd35 ct35 : Value} {od36 an36 : Option Addr} {sl36 : Array (Option Value)} {oc36 kV36 dc36 pm36 cd36 ct36 : Value} {od37 an37 : Option Addr} {sl37 : Array (Option Value)} {oc37 kV37 dc37 pm37 cd37 ct37 : Value} {od38 an38 : Option Addr} {sl38 : Array (Option Value)} {oc38 kV38 dc38 pm38 cd38 ct38 : Value} {od39 an39 : Option Addr} {sl39 : Array (Option Value)} {oc39 kV39 dc39 pm39 cd39 ct39 : Value} {od40 an40 : Option Addr} {sl40 : Array (Option Value)} {oc40 kV40 dc40 pm40 cd40 ct40 : Value} {od41 an41 : Option Addr} {sl41 : Array (Option Value)} {oc41 kV41 dc41 pm41 cd41 ct41 : Value} {od42 an42 : Option Addr} {sl42 : Array (Option Value)} {oc42 kV42 dc42 pm42 cd42 ct42 : Value} {od43 an43 : Option Addr} {sl43 : Array (Option Value)} {oc43 kV43 dc43 pm43 cd43 ct43 : Value} {od44 an44 : Option Addr} {sl44 : Array (Option Value)} {oc44 kV44 dc44 pm44 cd44 ct44 : Value} {od45 an45 : Option Addr} {sl45 : Array (Option Value)} {oc45 kV45 dc45 pm45 cd45 ct45 : Value} {od46 an46 : Option Addr} {sl46 : Array (Option Value)} {oc46 kV46 dc46 pm46 cd46 ct46 : Value} {od47 an47 : Option Addr} {sl47 : Array (Option Value)} {oc47 kV47 dc47 pm47 cd47 ct47 : Value} {nmDuplicateGauge qDuplicateGauge : Str} {NDuplicateGauge : Addr} {bsDuplicateGauge : List Value} {snDuplicateGauge : List Str} {subDuplicateGauge : List Value} {abDuplicateGauge : Bool} {colDuplicateGauge : Option Bool} {ddDuplicateGauge : Option Addr} {m0DuplicateGauge m1DuplicateGauge m2DuplicateGauge m3DuplicateGauge m5DuplicateGauge : Option Value} {nmMissingReading qMissingReading : Str} {NMissingReading : Addr} {bsMissingReading : List Value} {snMissingReading : List Str} {subMissingReading : List Value} {abMissingReading : Bool} {colMissingReading : Option Bool} {ddMissingReading : Option Addr} {m0MissingReading m1MissingReading m2MissingReading m3MissingReading m5MissingReading : Option Value} {nmBadRule qBadRule : Str} {NBadRule : Addr} {bsBadRule : List Value} {snBadRule : List Str} {subBadRule : List Value} {abBadRule : Bool} {colBadRule : Option Bool} {ddBadRule : Option Addr} {m0BadRule m1BadRule m2BadRule m3BadRule m5BadRule : Option Value} {nmNotRanked qNotRanked : Str} {NNotRanked : Addr} {bsNotRanked : List Value} {snNotRanked : List Str} {subNotRanked : List Value} {abNotRanked : Bool} {colNotRanked : Option Bool} {ddNotRanked : Option Addr} {m0NotRanked m1NotRanked m2NotRanked m3NotRanked m5NotRanked : Option Value} {nmNoRule qNoRule : Str} {NNoRule : Addr} {bsNoRule : List Value} {snNoRule : List Str} {subNoRule : List Value} {abNoRule : Bool} {colNoRule : Option Bool} {ddNoRule : Option Addr} {m0NoRule m1NoRule m2NoRule m3NoRule m5NoRule : Option Value} {p15 : Addr} {rs15 : List Value} {p17 : Addr} {rs17 : List Value} {p19 : Addr} {rs19 : List Value} {p39 : Addr} {rs39 : List Value} 
    (aC_GaugeError : PySem.W.nsIn K mainGlobals "GaugeError" = some (some (.ref C_GaugeError)))
    (aC_DuplicateGauge : PySem.W.nsIn K mainGlobals "DuplicateGauge" = some (some (.ref C_DuplicateGauge)))
    (aC_MissingReading : PySem.W.nsIn K mainGlobals "MissingReading" = some (some (.ref C_MissingReading)))
    (aC_BadRule : PySem.W.nsIn K mainGlobals "BadRule" = some (some (.ref C_BadRule)))
    (aC_NotRanked : PySem.W.nsIn K mainGlobals "NotRanked" = some (some (.ref C_NotRanked)))
    (aC_NoRule : PySem.W.nsIn K mainGlobals "NoRule" = some (some (.ref C_NoRule)))
    (aC_Finder : PySem.W.nsIn K mainGlobals "Finder" = some (some (.ref C_Finder)))
    (aC_Rule : PySem.W.nsIn K mainGlobals "Rule" = some (some (.ref C_Rule)))
    (aC_Leaf : PySem.W.nsIn K mainGlobals "Leaf" = some (some (.ref C_Leaf)))
    (aC_Rank : PySem.W.nsIn K mainGlobals "Rank" = some (some (.ref C_Rank)))
    (aC_Trim : PySem.W.nsIn K mainGlobals "Trim" = some (some (.ref C_Trim)))
    (aC_Weigh : PySem.W.nsIn K mainGlobals "Weigh" = some (some (.ref C_Weigh)))
    (a1 : PySem.W.nsIn K mainGlobals "_law_take" = some (some (.ref f1)))
    (l1 : K.lookup f1 = some ⟨oc1, od1, .func (PySem.W.fnOf "_law_take" "_law_take" (defArgs s_take) (defBody s_take) (defScope s_take) .none kV1 dc1 pm1 an1 cd1 ct1), sl1⟩)
    (c1 : PySem.W.codeIn K cd1 "_law_take" = true)
    (k1 : PySem.W.keepIn K (.ref f1) = true)
    (a2 : PySem.W.nsIn K mainGlobals "_law_box" = some (some (.ref f2)))
    (l2 : K.lookup f2 = some ⟨oc2, od2, .func (PySem.W.fnOf "_law_box" "_law_box" (defArgs s_box) (defBody s_box) (defScope s_box) .none kV2 dc2 pm2 an2 cd2 ct2), sl2⟩)
    (c2 : PySem.W.codeIn K cd2 "_law_box" = true)
    (k2 : PySem.W.keepIn K (.ref f2) = true)
    (a3 : PySem.W.nsIn K mainGlobals "_law_word" = some (some (.ref f3)))
    (l3 : K.lookup f3 = some ⟨oc3, od3, .func (PySem.W.fnOf "_law_word" "_law_word" (defArgs s_word) (defBody s_word) (defScope s_word) .none kV3 dc3 pm3 an3 cd3 ct3), sl3⟩)
    (c3 : PySem.W.codeIn K cd3 "_law_word" = true)
    (k3 : PySem.W.keepIn K (.ref f3) = true)
    (a4 : PySem.W.nsIn K mainGlobals "_law_words" = some (some (.ref f4)))
    (l4 : K.lookup f4 = some ⟨oc4, od4, .func (PySem.W.fnOf "_law_words" "_law_words" (defArgs s_words) (defBody s_words) (defScope s_words) .none kV4 dc4 pm4 an4 cd4 ct4), sl4⟩)
    (c4 : PySem.W.codeIn K cd4 "_law_words" = true)
    (k4 : PySem.W.keepIn K (.ref f4) = true)
    (a5 : PySem.W.nsIn K mainGlobals "_law_node" = some (some (.ref f5)))
    (l5 : K.lookup f5 = some ⟨oc5, od5, .func (PySem.W.fnOf "_law_node" "_law_node" (defArgs s_node) (defBody s_node) (defScope s_node) .none kV5 dc5 pm5 an5 cd5 ct5), sl5⟩)
    (c5 : PySem.W.codeIn K cd5 "_law_node" = true)
    (k5 : PySem.W.keepIn K (.ref f5) = true)
    (a6 : PySem.W.nsIn K mainGlobals "_law_tree" = some (some (.ref f6)))
    (l6 : K.lookup f6 = some ⟨oc6, od6, .func (PySem.W.fnOf "_law_tree" "_law_tree" (defArgs s_tree) (defBody s_tree) (defScope s_tree) .none kV6 dc6 pm6 an6 cd6 ct6), sl6⟩)
    (c6 : PySem.W.codeIn K cd6 "_law_tree" = true)
    (k6 : PySem.W.keepIn K (.ref f6) = true)
    (a7 : PySem.W.findIn K (.ref C_DuplicateGauge) "__init__" = some (some (.ref f7)))
    (i7 : PySem.W.isFn K (.ref f7) = true)
    (l7 : K.lookup f7 = some ⟨oc7, od7, .func (PySem.W.fnOf "__init__" "DuplicateGauge.__init__" (defArgs s_DuplicateGauge_init) (defBody s_DuplicateGauge_init) (defScope s_DuplicateGauge_init) .none kV7 dc7 pm7 an7 cd7 ct7), sl7⟩)
    (c7 : PySem.W.codeIn K cd7 "DuplicateGauge.__init__" = true)
    (k7 : PySem.W.keepIn K (.ref f7) = true)
    (ty_DuplicateGauge : PySem.W.typeIn K (.ref f7) = some (.type "function"))
    (a8 : PySem.W.findIn K (.ref C_MissingReading) "__init__" = some (some (.ref f8)))
    (i8 : PySem.W.isFn K (.ref f8) = true)
    (l8 : K.lookup f8 = some ⟨oc8, od8, .func (PySem.W.fnOf "__init__" "MissingReading.__init__" (defArgs s_MissingReading_init) (defBody s_MissingReading_init) (defScope s_MissingReading_init) .none kV8 dc8 pm8 an8 cd8 ct8), sl8⟩)
    (c8 : PySem.W.codeIn K cd8 "MissingReading.__init__" = true)
    (k8 : PySem.W.keepIn K (.ref f8) = true)
    (ty_MissingReading : PySem.W.typeIn K (.ref f8) = some (.type "function"))
    (a9 : PySem.W.findIn K (.ref C_BadRule) "__init__" = some (some (.ref f9)))
    (i9 : PySem.W.isFn K (.ref f9) = true)
    (l9 : K.lookup f9 = some ⟨oc9, od9, .func (PySem.W.fnOf "__init__" "BadRule.__init__" (defArgs s_BadRule_init) (defBody s_BadRule_init) (defScope s_BadRule_init) .none kV9 dc9 pm9 an9 cd9 ct9), sl9⟩)
    (c9 : PySem.W.codeIn K cd9 "BadRule.__init__" = true)
    (k9 : PySem.W.keepIn K (.ref f9) = true)
    (ty_BadRule : PySem.W.typeIn K (.ref f9) = some (.type "function"))
    (a10 : PySem.W.findIn K (.ref C_Leaf) "names" = some (some (.ref f10)))
    (i10 : PySem.W.isFn K (.ref f10) = true)
    (l10 : K.lookup f10 = some ⟨oc10, od10, .func (PySem.W.fnOf "names" "Leaf.names" (defArgs s_Leaf_names) (defBody s_Leaf_names) (defScope s_Leaf_names) .none kV10 dc10 pm10 an10 cd10 ct10), sl10⟩)
    (c10 : PySem.W.codeIn K cd10 "Leaf.names" = true)
    (k10 : PySem.W.keepIn K (.ref f10) = true)
    (a11 : PySem.W.findIn K (.ref C_Rule) "names" = some (some (.ref f11)))
    (i11 : PySem.W.isFn K (.ref f11) = true)
    (l11 : K.lookup f11 = some ⟨oc11, od11, .func (PySem.W.fnOf "names" "Rule.names" (defArgs s_Rule_names) (defBody s_Rule_names) (defScope s_Rule_names) .none kV11 dc11 pm11 an11 cd11 ct11), sl11⟩)
    (c11 : PySem.W.codeIn K cd11 "Rule.names" = true)
    (k11 : PySem.W.keepIn K (.ref f11) = true)
    (a12 : PySem.W.findIn K (.ref C_Rule) "__init__" = some (some (.ref f12)))
    (i12 : PySem.W.isFn K (.ref f12) = true)
    (l12 : K.lookup f12 = some ⟨oc12, od12, .func (PySem.W.fnOf "__init__" "Rule.__init__" (defArgs s_Rule_init) (defBody s_Rule_init) (defScope s_Rule_init) .none kV12 dc12 pm12 an12 cd12 ct12), sl12⟩)
    (c12 : PySem.W.codeIn K cd12 "Rule.__init__" = true)
    (k12 : PySem.W.keepIn K (.ref f12) = true)
    (mk_Rule : PySem.W.makesIn K C_Rule = true)
    (kc_Rule : PySem.W.keepIn K (.ref C_Rule) = true)
    (a13 : PySem.W.findIn K (.ref C_Leaf) "__init__" = some (some (.ref f13)))
    (i13 : PySem.W.isFn K (.ref f13) = true)
    (l13 : K.lookup f13 = some ⟨oc13, od13, .func (PySem.W.fnOf "__init__" "Leaf.__init__" (defArgs s_Leaf_init) (defBody s_Leaf_init) (defScope s_Leaf_init) .none kV13 dc13 pm13 an13 cd13 ct13), sl13⟩)
    (c13 : PySem.W.codeIn K cd13 "Leaf.__init__" = true)
    (k13 : PySem.W.keepIn K (.ref f13) = true)
    (mk_Leaf : PySem.W.makesIn K C_Leaf = true)
    (kc_Leaf : PySem.W.keepIn K (.ref C_Leaf) = true)
    (a14 : PySem.W.findIn K (.ref C_Rank) "__init__" = some (some (.ref f14)))
    (i14 : PySem.W.isFn K (.ref f14) = true)
    (l14 : K.lookup f14 = some ⟨oc14, od14, .func (PySem.W.fnOf "__init__" "Rank.__init__" (defArgs s_Rank_init) (defBody s_Rank_init) (defScope s_Rank_init) .none kV14 dc14 pm14 an14 cd14 ct14), sl14⟩)
    (c14 : PySem.W.codeIn K cd14 "Rank.__init__" = true)
    (k14 : PySem.W.keepIn K (.ref f14) = true)
    (mk_Rank : PySem.W.makesIn K C_Rank = true)
    (kc_Rank : PySem.W.keepIn K (.ref C_Rank) = true)
    (cg_Rank : PySem.W.specialIn K (.ref C_Rank) "__getattribute__" = some (some (.builtin "type.__getattribute__")))
    (cr_Rank : PySem.W.readsIn K C_Rank (.type "type") = true)
    (ma15 : PySem.W.findCls K (.ref C_Rank) (.type "type") "of" = some (.get (.builtin "classmethod.__get__") (.ref p15) .none (.ref C_Rank)))
    (mr15 : PySem.W.recIn K p15 "classmethod" = some (.ref f15 :: rs15))
    (mf15 : PySem.W.fnIn K f15 = true)
    (l15 : K.lookup f15 = some ⟨oc15, od15, .func (PySem.W.fnOf "of" "Rank.of" (defArgs s_Rank_of) (defBody s_Rank_of) (defScope s_Rank_of) .none kV15 dc15 pm15 an15 cd15 ct15), sl15⟩)
    (c15 : PySem.W.codeIn K cd15 "Rank.of" = true)
    (k15 : PySem.W.keepIn K (.ref f15) = true)
    (a16 : PySem.W.findIn K (.ref C_Trim) "__init__" = some (some (.ref f16)))
    (i16 : PySem.W.isFn K (.ref f16) = true)
    (l16 : K.lookup f16 = some ⟨oc16, od16, .func (PySem.W.fnOf "__init__" "Trim.__init__" (defArgs s_Trim_init) (defBody s_Trim_init) (defScope s_Trim_init) .none kV16 dc16 pm16 an16 cd16 ct16), sl16⟩)
    (c16 : PySem.W.codeIn K cd16 "Trim.__init__" = true)
    (k16 : PySem.W.keepIn K (.ref f16) = true)
    (mk_Trim : PySem.W.makesIn K C_Trim = true)
    (kc_Trim : PySem.W.keepIn K (.ref C_Trim) = true)
    (cg_Trim : PySem.W.specialIn K (.ref C_Trim) "__getattribute__" = some (some (.builtin "type.__getattribute__")))
    (cr_Trim : PySem.W.readsIn K C_Trim (.type "type") = true)
    (ma17 : PySem.W.findCls K (.ref C_Trim) (.type "type") "of" = some (.get (.builtin "classmethod.__get__") (.ref p17) .none (.ref C_Trim)))
    (mr17 : PySem.W.recIn K p17 "classmethod" = some (.ref f17 :: rs17))
    (mf17 : PySem.W.fnIn K f17 = true)
    (l17 : K.lookup f17 = some ⟨oc17, od17, .func (PySem.W.fnOf "of" "Trim.of" (defArgs s_Trim_of) (defBody s_Trim_of) (defScope s_Trim_of) .none kV17 dc17 pm17 an17 cd17 ct17), sl17⟩)
    (c17 : PySem.W.codeIn K cd17 "Trim.of" = true)
    (k17 : PySem.W.keepIn K (.ref f17) = true)
    (a18 : PySem.W.findIn K (.ref C_Weigh) "__init__" = some (some (.ref f18)))
    (i18 : PySem.W.isFn K (.ref f18) = true)
    (l18 : K.lookup f18 = some ⟨oc18, od18, .func (PySem.W.fnOf "__init__" "Weigh.__init__" (defArgs s_Weigh_init) (defBody s_Weigh_init) (defScope s_Weigh_init) .none kV18 dc18 pm18 an18 cd18 ct18), sl18⟩)
    (c18 : PySem.W.codeIn K cd18 "Weigh.__init__" = true)
    (k18 : PySem.W.keepIn K (.ref f18) = true)
    (mk_Weigh : PySem.W.makesIn K C_Weigh = true)
    (kc_Weigh : PySem.W.keepIn K (.ref C_Weigh) = true)
    (cg_Weigh : PySem.W.specialIn K (.ref C_Weigh) "__getattribute__" = some (some (.builtin "type.__getattribute__")))
    (cr_Weigh : PySem.W.readsIn K C_Weigh (.type "type") = true)
    (ma19 : PySem.W.findCls K (.ref C_Weigh) (.type "type") "of" = some (.get (.builtin "classmethod.__get__") (.ref p19) .none (.ref C_Weigh)))
    (mr19 : PySem.W.recIn K p19 "classmethod" = some (.ref f19 :: rs19))
    (mf19 : PySem.W.fnIn K f19 = true)
    (l19 : K.lookup f19 = some ⟨oc19, od19, .func (PySem.W.fnOf "of" "Weigh.of" (defArgs s_Weigh_of) (defBody s_Weigh_of) (defScope s_Weigh_of) .none kV19 dc19 pm19 an19 cd19 ct19), sl19⟩)
    (c19 : PySem.W.codeIn K cd19 "Weigh.of" = true)
    (k19 : PySem.W.keepIn K (.ref f19) = true)
    (a20 : PySem.W.nsIn K mainGlobals "_law_rule" = some (some (.ref f20)))
    (l20 : K.lookup f20 = some ⟨oc20, od20, .func (PySem.W.fnOf "_law_rule" "_law_rule" (defArgs s_rule) (defBody s_rule) (defScope s_rule) .none kV20 dc20 pm20 an20 cd20 ct20), sl20⟩)
    (c20 : PySem.W.codeIn K cd20 "_law_rule" = true)
    (k20 : PySem.W.keepIn K (.ref f20) = true)
    (a21 : PySem.W.findIn K (.ref C_Rank) "counted" = some (some (.ref f21)))
    (i21 : PySem.W.isFn K (.ref f21) = true)
    (l21 : K.lookup f21 = some ⟨oc21, od21, .func (PySem.W.fnOf "counted" "Rank.counted" (defArgs s_Rank_counted) (defBody s_Rank_counted) (defScope s_Rank_counted) .none kV21 dc21 pm21 an21 cd21 ct21), sl21⟩)
    (c21 : PySem.W.codeIn K cd21 "Rank.counted" = true)
    (k21 : PySem.W.keepIn K (.ref f21) = true)
    (a22 : PySem.W.findIn K (.ref C_Trim) "counted" = some (some (.ref f22)))
    (i22 : PySem.W.isFn K (.ref f22) = true)
    (l22 : K.lookup f22 = some ⟨oc22, od22, .func (PySem.W.fnOf "counted" "Trim.counted" (defArgs s_Trim_counted) (defBody s_Trim_counted) (defScope s_Trim_counted) .none kV22 dc22 pm22 an22 cd22 ct22), sl22⟩)
    (c22 : PySem.W.codeIn K cd22 "Trim.counted" = true)
    (k22 : PySem.W.keepIn K (.ref f22) = true)
    (a23 : PySem.W.findIn K (.ref C_Weigh) "_weight_up_to" = some (some (.ref f23)))
    (i23 : PySem.W.isFn K (.ref f23) = true)
    (l23 : K.lookup f23 = some ⟨oc23, od23, .func (PySem.W.fnOf "_weight_up_to" "Weigh._weight_up_to" (defArgs s_Weigh_weight_up_to) (defBody s_Weigh_weight_up_to) (defScope s_Weigh_weight_up_to) .none kV23 dc23 pm23 an23 cd23 ct23), sl23⟩)
    (c23 : PySem.W.codeIn K cd23 "Weigh._weight_up_to" = true)
    (k23 : PySem.W.keepIn K (.ref f23) = true)
    (a24 : PySem.W.findIn K (.ref C_Weigh) "counted" = some (some (.ref f24)))
    (i24 : PySem.W.isFn K (.ref f24) = true)
    (l24 : K.lookup f24 = some ⟨oc24, od24, .func (PySem.W.fnOf "counted" "Weigh.counted" (defArgs s_Weigh_counted) (defBody s_Weigh_counted) (defScope s_Weigh_counted) .none kV24 dc24 pm24 an24 cd24 ct24), sl24⟩)
    (c24 : PySem.W.codeIn K cd24 "Weigh.counted" = true)
    (k24 : PySem.W.keepIn K (.ref f24) = true)
    (a25 : PySem.W.findIn K (.ref C_Leaf) "answer" = some (some (.ref f25)))
    (i25 : PySem.W.isFn K (.ref f25) = true)
    (l25 : K.lookup f25 = some ⟨oc25, od25, .func (PySem.W.fnOf "answer" "Leaf.answer" (defArgs s_Leaf_answer) (defBody s_Leaf_answer) (defScope s_Leaf_answer) .none kV25 dc25 pm25 an25 cd25 ct25), sl25⟩)
    (c25 : PySem.W.codeIn K cd25 "Leaf.answer" = true)
    (k25 : PySem.W.keepIn K (.ref f25) = true)
    (a26 : PySem.W.findIn K (.ref C_Rule) "answer" = some (some (.ref f26)))
    (i26 : PySem.W.isFn K (.ref f26) = true)
    (l26 : K.lookup f26 = some ⟨oc26, od26, .func (PySem.W.fnOf "answer" "Rule.answer" (defArgs s_Rule_answer) (defBody s_Rule_answer) (defScope s_Rule_answer) .none kV26 dc26 pm26 an26 cd26 ct26), sl26⟩)
    (c26 : PySem.W.codeIn K cd26 "Rule.answer" = true)
    (k26 : PySem.W.keepIn K (.ref f26) = true)
    (a27 : PySem.W.nsIn K mainGlobals "_law_joined" = some (some (.ref f27)))
    (l27 : K.lookup f27 = some ⟨oc27, od27, .func (PySem.W.fnOf "_law_joined" "_law_joined" (defArgs s_joined) (defBody s_joined) (defScope s_joined) .none kV27 dc27 pm27 an27 cd27 ct27), sl27⟩)
    (c27 : PySem.W.codeIn K cd27 "_law_joined" = true)
    (k27 : PySem.W.keepIn K (.ref f27) = true)
    (a28 : PySem.W.nsIn K mainGlobals "_law_answer" = some (some (.ref f28)))
    (l28 : K.lookup f28 = some ⟨oc28, od28, .func (PySem.W.fnOf "_law_answer" "_law_answer" (defArgs s_answer) (defBody s_answer) (defScope s_answer) .none kV28 dc28 pm28 an28 cd28 ct28), sl28⟩)
    (c28 : PySem.W.codeIn K cd28 "_law_answer" = true)
    (k28 : PySem.W.keepIn K (.ref f28) = true)
    (a29 : PySem.W.nsIn K mainGlobals "_law_some" = some (some (.ref f29)))
    (l29 : K.lookup f29 = some ⟨oc29, od29, .func (PySem.W.fnOf "_law_some" "_law_some" (defArgs s_some) (defBody s_some) (defScope s_some) .none kV29 dc29 pm29 an29 cd29 ct29), sl29⟩)
    (c29 : PySem.W.codeIn K cd29 "_law_some" = true)
    (k29 : PySem.W.keepIn K (.ref f29) = true)
    (a30 : PySem.W.nsIn K mainGlobals "_law_leaves" = some (some (.ref f30)))
    (l30 : K.lookup f30 = some ⟨oc30, od30, .func (PySem.W.fnOf "_law_leaves" "_law_leaves" (defArgs s_leaves) (defBody s_leaves) (defScope s_leaves) .none kV30 dc30 pm30 an30 cd30 ct30), sl30⟩)
    (c30 : PySem.W.codeIn K cd30 "_law_leaves" = true)
    (k30 : PySem.W.keepIn K (.ref f30) = true)
    (a31 : PySem.W.findIn K (.ref C_NotRanked) "__init__" = some (some (.ref f31)))
    (i31 : PySem.W.isFn K (.ref f31) = true)
    (l31 : K.lookup f31 = some ⟨oc31, od31, .func (PySem.W.fnOf "__init__" "NotRanked.__init__" (defArgs s_NotRanked_init) (defBody s_NotRanked_init) (defScope s_NotRanked_init) .none kV31 dc31 pm31 an31 cd31 ct31), sl31⟩)
    (c31 : PySem.W.codeIn K cd31 "NotRanked.__init__" = true)
    (k31 : PySem.W.keepIn K (.ref f31) = true)
    (ty_NotRanked : PySem.W.typeIn K (.ref f31) = some (.type "function"))
    (a32 : PySem.W.nsIn K mainGlobals "_refuse_trims" = some (some (.ref f32)))
    (l32 : K.lookup f32 = some ⟨oc32, od32, .func (PySem.W.fnOf "_refuse_trims" "_refuse_trims" (defArgs s_m_refuse_trims) (defBody s_m_refuse_trims) (defScope s_m_refuse_trims) .none kV32 dc32 pm32 an32 cd32 ct32), sl32⟩)
    (c32 : PySem.W.codeIn K cd32 "_refuse_trims" = true)
    (k32 : PySem.W.keepIn K (.ref f32) = true)
    (a33 : PySem.W.nsIn K mainGlobals "_bit_readings" = some (some (.ref f33)))
    (l33 : K.lookup f33 = some ⟨oc33, od33, .func (PySem.W.fnOf "_bit_readings" "_bit_readings" (defArgs s_m_bit_readings) (defBody s_m_bit_readings) (defScope s_m_bit_readings) .none kV33 dc33 pm33 an33 cd33 ct33), sl33⟩)
    (c33 : PySem.W.codeIn K cd33 "_bit_readings" = true)
    (k33 : PySem.W.keepIn K (.ref f33) = true)
    (a34 : PySem.W.nsIn K mainGlobals "_first_difference" = some (some (.ref f34)))
    (l34 : K.lookup f34 = some ⟨oc34, od34, .func (PySem.W.fnOf "_first_difference" "_first_difference" (defArgs s_m_first_difference) (defBody s_m_first_difference) (defScope s_m_first_difference) .none kV34 dc34 pm34 an34 cd34 ct34), sl34⟩)
    (c34 : PySem.W.codeIn K cd34 "_first_difference" = true)
    (k34 : PySem.W.keepIn K (.ref f34) = true)
    (a35 : PySem.W.nsIn K mainGlobals "differ" = some (some (.ref f35)))
    (l35 : K.lookup f35 = some ⟨oc35, od35, .func (PySem.W.fnOf "differ" "differ" (defArgs s_m_differ) (defBody s_m_differ) (defScope s_m_differ) .none kV35 dc35 pm35 an35 cd35 ct35), sl35⟩)
    (c35 : PySem.W.codeIn K cd35 "differ" = true)
    (k35 : PySem.W.keepIn K (.ref f35) = true)
    (a36 : PySem.W.nsIn K mainGlobals "alike" = some (some (.ref f36)))
    (l36 : K.lookup f36 = some ⟨oc36, od36, .func (PySem.W.fnOf "alike" "alike" (defArgs s_m_alike) (defBody s_m_alike) (defScope s_m_alike) .none kV36 dc36 pm36 an36 cd36 ct36), sl36⟩)
    (c36 : PySem.W.codeIn K cd36 "alike" = true)
    (k36 : PySem.W.keepIn K (.ref f36) = true)
    (a37 : PySem.W.findIn K (.ref C_NoRule) "__init__" = some (some (.ref f37)))
    (i37 : PySem.W.isFn K (.ref f37) = true)
    (l37 : K.lookup f37 = some ⟨oc37, od37, .func (PySem.W.fnOf "__init__" "NoRule.__init__" (defArgs s_NoRule_init) (defBody s_NoRule_init) (defScope s_NoRule_init) .none kV37 dc37 pm37 an37 cd37 ct37), sl37⟩)
    (c37 : PySem.W.codeIn K cd37 "NoRule.__init__" = true)
    (k37 : PySem.W.keepIn K (.ref f37) = true)
    (ty_NoRule : PySem.W.typeIn K (.ref f37) = some (.type "function"))
    (a38 : PySem.W.findIn K (.ref C_Finder) "__init__" = some (some (.ref f38)))
    (i38 : PySem.W.isFn K (.ref f38) = true)
    (l38 : K.lookup f38 = some ⟨oc38, od38, .func (PySem.W.fnOf "__init__" "Finder.__init__" (defArgs s_Finder_init) (defBody s_Finder_init) (defScope s_Finder_init) .none kV38 dc38 pm38 an38 cd38 ct38), sl38⟩)
    (c38 : PySem.W.codeIn K cd38 "Finder.__init__" = true)
    (k38 : PySem.W.keepIn K (.ref f38) = true)
    (mk_Finder : PySem.W.makesIn K C_Finder = true)
    (kc_Finder : PySem.W.keepIn K (.ref C_Finder) = true)
    (cg_Finder : PySem.W.specialIn K (.ref C_Finder) "__getattribute__" = some (some (.builtin "type.__getattribute__")))
    (cr_Finder : PySem.W.readsIn K C_Finder (.type "type") = true)
    (ma39 : PySem.W.findCls K (.ref C_Finder) (.type "type") "of" = some (.get (.builtin "classmethod.__get__") (.ref p39) .none (.ref C_Finder)))
    (mr39 : PySem.W.recIn K p39 "classmethod" = some (.ref f39 :: rs39))
    (mf39 : PySem.W.fnIn K f39 = true)
    (l39 : K.lookup f39 = some ⟨oc39, od39, .func (PySem.W.fnOf "of" "Finder.of" (defArgs s_Finder_of) (defBody s_Finder_of) (defScope s_Finder_of) .none kV39 dc39 pm39 an39 cd39 ct39), sl39⟩)
    (c39 : PySem.W.codeIn K cd39 "Finder.of" = true)
    (k39 : PySem.W.keepIn K (.ref f39) = true)
    (a40 : PySem.W.findIn K (.ref C_Finder) "left" = some (some (.ref f40)))
    (i40 : PySem.W.isFn K (.ref f40) = true)
    (l40 : K.lookup f40 = some ⟨oc40, od40, .func (PySem.W.fnOf "left" "Finder.left" (defArgs s_Finder_left) (defBody s_Finder_left) (defScope s_Finder_left) .none kV40 dc40 pm40 an40 cd40 ct40), sl40⟩)
    (c40 : PySem.W.codeIn K cd40 "Finder.left" = true)
    (k40 : PySem.W.keepIn K (.ref f40) = true)
    (a41 : PySem.W.findIn K (.ref C_Finder) "tell" = some (some (.ref f41)))
    (i41 : PySem.W.isFn K (.ref f41) = true)
    (l41 : K.lookup f41 = some ⟨oc41, od41, .func (PySem.W.fnOf "tell" "Finder.tell" (defArgs s_Finder_tell) (defBody s_Finder_tell) (defScope s_Finder_tell) .none kV41 dc41 pm41 an41 cd41 ct41), sl41⟩)
    (c41 : PySem.W.codeIn K cd41 "Finder.tell" = true)
    (k41 : PySem.W.keepIn K (.ref f41) = true)
    (a42 : PySem.W.findIn K (.ref C_Finder) "question" = some (some (.ref f42)))
    (i42 : PySem.W.isFn K (.ref f42) = true)
    (l42 : K.lookup f42 = some ⟨oc42, od42, .func (PySem.W.fnOf "question" "Finder.question" (defArgs s_Finder_question) (defBody s_Finder_question) (defScope s_Finder_question) .none kV42 dc42 pm42 an42 cd42 ct42), sl42⟩)
    (c42 : PySem.W.codeIn K cd42 "Finder.question" = true)
    (k42 : PySem.W.keepIn K (.ref f42) = true)
    (a43 : PySem.W.nsIn K mainGlobals "_law_power" = some (some (.ref f43)))
    (l43 : K.lookup f43 = some ⟨oc43, od43, .func (PySem.W.fnOf "_law_power" "_law_power" (defArgs s_power) (defBody s_power) (defScope s_power) .none kV43 dc43 pm43 an43 cd43 ct43), sl43⟩)
    (c43 : PySem.W.codeIn K cd43 "_law_power" = true)
    (k43 : PySem.W.keepIn K (.ref f43) = true)
    (a44 : PySem.W.nsIn K mainGlobals "_law_split" = some (some (.ref f44)))
    (l44 : K.lookup f44 = some ⟨oc44, od44, .func (PySem.W.fnOf "_law_split" "_law_split" (defArgs s_split) (defBody s_split) (defScope s_split) .none kV44 dc44 pm44 an44 cd44 ct44), sl44⟩)
    (c44 : PySem.W.codeIn K cd44 "_law_split" = true)
    (k44 : PySem.W.keepIn K (.ref f44) = true)
    (a45 : PySem.W.nsIn K mainGlobals "_law_first" = some (some (.ref f45)))
    (l45 : K.lookup f45 = some ⟨oc45, od45, .func (PySem.W.fnOf "_law_first" "_law_first" (defArgs s_first) (defBody s_first) (defScope s_first) .none kV45 dc45 pm45 an45 cd45 ct45), sl45⟩)
    (c45 : PySem.W.codeIn K cd45 "_law_first" = true)
    (k45 : PySem.W.keepIn K (.ref f45) = true)
    (a46 : PySem.W.nsIn K mainGlobals "_law_found" = some (some (.ref f46)))
    (l46 : K.lookup f46 = some ⟨oc46, od46, .func (PySem.W.fnOf "_law_found" "_law_found" (defArgs s_found) (defBody s_found) (defScope s_found) .none kV46 dc46 pm46 an46 cd46 ct46), sl46⟩)
    (c46 : PySem.W.codeIn K cd46 "_law_found" = true)
    (k46 : PySem.W.keepIn K (.ref f46) = true)
    (a47 : PySem.W.nsIn K mainGlobals "law" = some (some (.ref f47)))
    (l47 : K.lookup f47 = some ⟨oc47, od47, .func (PySem.W.fnOf "law" "law" (defArgs s_law) (defBody s_law) (defScope s_law) .none kV47 dc47 pm47 an47 cd47 ct47), sl47⟩)
    (c47 : PySem.W.codeIn K cd47 "law" = true)
    (k47 : PySem.W.keepIn K (.ref f47) = true)
    (ge_ga : PySem.W.specialIn K (.ref C_GaugeError) "__getattribute__" = some (some (.builtin "type.__getattribute__")))
    (ge_rd : PySem.W.readsIn K C_GaugeError (.type "type") = true)
    (ge_at : PySem.W.findCls K (.ref C_GaugeError) (.type "type") "__init__" = some (.val (.builtin "ValueError.__init__")))
    (xL_DuplicateGauge : K.lookup C_DuplicateGauge = some (excClassObj nmDuplicateGauge qDuplicateGauge C_DuplicateGauge NDuplicateGauge bsDuplicateGauge [.ref C_GaugeError, .type "ValueError", .type "Exception", .type "BaseException", .type "object"] true snDuplicateGauge subDuplicateGauge abDuplicateGauge colDuplicateGauge ddDuplicateGauge m0DuplicateGauge m1DuplicateGauge m2DuplicateGauge m3DuplicateGauge m5DuplicateGauge "ValueError.__new__"))
    (xsa_DuplicateGauge : PySem.W.findIn K (.ref C_DuplicateGauge) "__setattr__" = some (some (.builtin "object.__setattr__")))
    (xga_DuplicateGauge : PySem.W.findIn K (.ref C_DuplicateGauge) "__getattribute__" = some (some (.builtin "BaseException.__getattribute__")))
    (xgg_DuplicateGauge : PySem.W.findIn K (.ref C_DuplicateGauge) "__getattr__" = some none)
    (xkC_DuplicateGauge : PySem.W.keepIn K (.ref C_DuplicateGauge) = true)
    (xeC_DuplicateGauge : PySem.W.subIn K (.ref C_DuplicateGauge) (.type "BaseException") = some true)
    (xtC_DuplicateGauge : PySem.W.typeIn K (.ref C_DuplicateGauge) = some (.type "type"))
    (xhC_DuplicateGauge : PySem.W.hasDictIn K C_DuplicateGauge = true)
    (xic_DuplicateGauge : PySem.W.isClsIn K C_DuplicateGauge = true)
    (n_DuplicateGauge_name : PySem.W.findIn K (.ref C_DuplicateGauge) "name" = some none)
    (xL_MissingReading : K.lookup C_MissingReading = some (excClassObj nmMissingReading qMissingReading C_MissingReading NMissingReading bsMissingReading [.ref C_GaugeError, .type "ValueError", .type "Exception", .type "BaseException", .type "object"] true snMissingReading subMissingReading abMissingReading colMissingReading ddMissingReading m0MissingReading m1MissingReading m2MissingReading m3MissingReading m5MissingReading "ValueError.__new__"))
    (xsa_MissingReading : PySem.W.findIn K (.ref C_MissingReading) "__setattr__" = some (some (.builtin "object.__setattr__")))
    (xga_MissingReading : PySem.W.findIn K (.ref C_MissingReading) "__getattribute__" = some (some (.builtin "BaseException.__getattribute__")))
    (xgg_MissingReading : PySem.W.findIn K (.ref C_MissingReading) "__getattr__" = some none)
    (xkC_MissingReading : PySem.W.keepIn K (.ref C_MissingReading) = true)
    (xeC_MissingReading : PySem.W.subIn K (.ref C_MissingReading) (.type "BaseException") = some true)
    (xtC_MissingReading : PySem.W.typeIn K (.ref C_MissingReading) = some (.type "type"))
    (xhC_MissingReading : PySem.W.hasDictIn K C_MissingReading = true)
    (xic_MissingReading : PySem.W.isClsIn K C_MissingReading = true)
    (n_MissingReading_name : PySem.W.findIn K (.ref C_MissingReading) "name" = some none)
    (xL_BadRule : K.lookup C_BadRule = some (excClassObj nmBadRule qBadRule C_BadRule NBadRule bsBadRule [.ref C_GaugeError, .type "ValueError", .type "Exception", .type "BaseException", .type "object"] true snBadRule subBadRule abBadRule colBadRule ddBadRule m0BadRule m1BadRule m2BadRule m3BadRule m5BadRule "ValueError.__new__"))
    (xsa_BadRule : PySem.W.findIn K (.ref C_BadRule) "__setattr__" = some (some (.builtin "object.__setattr__")))
    (xga_BadRule : PySem.W.findIn K (.ref C_BadRule) "__getattribute__" = some (some (.builtin "BaseException.__getattribute__")))
    (xgg_BadRule : PySem.W.findIn K (.ref C_BadRule) "__getattr__" = some none)
    (xkC_BadRule : PySem.W.keepIn K (.ref C_BadRule) = true)
    (xeC_BadRule : PySem.W.subIn K (.ref C_BadRule) (.type "BaseException") = some true)
    (xtC_BadRule : PySem.W.typeIn K (.ref C_BadRule) = some (.type "type"))
    (xhC_BadRule : PySem.W.hasDictIn K C_BadRule = true)
    (xic_BadRule : PySem.W.isClsIn K C_BadRule = true)
    (n_BadRule_kind : PySem.W.findIn K (.ref C_BadRule) "kind" = some none)
    (xL_NotRanked : K.lookup C_NotRanked = some (excClassObj nmNotRanked qNotRanked C_NotRanked NNotRanked bsNotRanked [.ref C_GaugeError, .type "ValueError", .type "Exception", .type "BaseException", .type "object"] true snNotRanked subNotRanked abNotRanked colNotRanked ddNotRanked m0NotRanked m1NotRanked m2NotRanked m3NotRanked m5NotRanked "ValueError.__new__"))
    (xsa_NotRanked : PySem.W.findIn K (.ref C_NotRanked) "__setattr__" = some (some (.builtin "object.__setattr__")))
    (xga_NotRanked : PySem.W.findIn K (.ref C_NotRanked) "__getattribute__" = some (some (.builtin "BaseException.__getattribute__")))
    (xgg_NotRanked : PySem.W.findIn K (.ref C_NotRanked) "__getattr__" = some none)
    (xkC_NotRanked : PySem.W.keepIn K (.ref C_NotRanked) = true)
    (xeC_NotRanked : PySem.W.subIn K (.ref C_NotRanked) (.type "BaseException") = some true)
    (xtC_NotRanked : PySem.W.typeIn K (.ref C_NotRanked) = some (.type "type"))
    (xhC_NotRanked : PySem.W.hasDictIn K C_NotRanked = true)
    (xic_NotRanked : PySem.W.isClsIn K C_NotRanked = true)
    (xL_NoRule : K.lookup C_NoRule = some (excClassObj nmNoRule qNoRule C_NoRule NNoRule bsNoRule [.ref C_GaugeError, .type "ValueError", .type "Exception", .type "BaseException", .type "object"] true snNoRule subNoRule abNoRule colNoRule ddNoRule m0NoRule m1NoRule m2NoRule m3NoRule m5NoRule "ValueError.__new__"))
    (xsa_NoRule : PySem.W.findIn K (.ref C_NoRule) "__setattr__" = some (some (.builtin "object.__setattr__")))
    (xga_NoRule : PySem.W.findIn K (.ref C_NoRule) "__getattribute__" = some (some (.builtin "BaseException.__getattribute__")))
    (xgg_NoRule : PySem.W.findIn K (.ref C_NoRule) "__getattr__" = some none)
    (xkC_NoRule : PySem.W.keepIn K (.ref C_NoRule) = true)
    (xeC_NoRule : PySem.W.subIn K (.ref C_NoRule) (.type "BaseException") = some true)
    (xtC_NoRule : PySem.W.typeIn K (.ref C_NoRule) = some (.type "type"))
    (xhC_NoRule : PySem.W.hasDictIn K C_NoRule = true)
    (xic_NoRule : PySem.W.isClsIn K C_NoRule = true)
    (n_NoRule_reply : PySem.W.findIn K (.ref C_NoRule) "reply" = some none)
    (pg_Finder : PySem.W.plainGet K C_Finder Str.empty = true)
    (hd_Finder : PySem.W.hasDictIn K C_Finder = true)
    (po_Finder : PySem.W.plainOver K C_Finder = true)
    (sa_Finder : PySem.W.findIn K (.ref C_Finder) "__setattr__" = some (some (.builtin "object.__setattr__")))
    (cc_Finder : PySem.W.findIn K (.ref C_Finder) "__class__" = some (some (.builtin "object.__class__")))
    (oc_s : PySem.W.specialIn K (.builtin "object.__class__") "__get__" = some (some (.builtin "getset_descriptor.__get__")))
    (oc_t : PySem.W.takesIn K (.builtin "object.__class__") = some true)
    (mo_Finder : PySem.W.mroIn K C_Finder (.type "object") = some true)
    (n_Finder__rules : PySem.W.findIn K (.ref C_Finder) "_rules" = some none)
    (n_Finder__left : PySem.W.findIn K (.ref C_Finder) "_left" = some none)
    (pg_Leaf : PySem.W.plainGet K C_Leaf Str.empty = true)
    (hd_Leaf : PySem.W.hasDictIn K C_Leaf = true)
    (po_Leaf : PySem.W.plainOver K C_Leaf = true)
    (sa_Leaf : PySem.W.findIn K (.ref C_Leaf) "__setattr__" = some (some (.builtin "object.__setattr__")))
    (cc_Leaf : PySem.W.findIn K (.ref C_Leaf) "__class__" = some (some (.builtin "object.__class__")))
    (mo_Leaf : PySem.W.mroIn K C_Leaf (.type "object") = some true)
    (n_Leaf_label : PySem.W.findIn K (.ref C_Leaf) "label" = some none)
    (n_Leaf_numbers : PySem.W.findIn K (.ref C_Leaf) "numbers" = some none)
    (n_Leaf_parts : PySem.W.findIn K (.ref C_Leaf) "parts" = some none)
    (n_Leaf_ranked : PySem.W.findIn K (.ref C_Leaf) "ranked" = some none)
    (pg_Rank : PySem.W.plainGet K C_Rank Str.empty = true)
    (hd_Rank : PySem.W.hasDictIn K C_Rank = true)
    (po_Rank : PySem.W.plainOver K C_Rank = true)
    (sa_Rank : PySem.W.findIn K (.ref C_Rank) "__setattr__" = some (some (.builtin "object.__setattr__")))
    (cc_Rank : PySem.W.findIn K (.ref C_Rank) "__class__" = some (some (.builtin "object.__class__")))
    (mo_Rank : PySem.W.mroIn K C_Rank (.type "object") = some true)
    (n_Rank_label : PySem.W.findIn K (.ref C_Rank) "label" = some none)
    (n_Rank_numbers : PySem.W.findIn K (.ref C_Rank) "numbers" = some none)
    (n_Rank_parts : PySem.W.findIn K (.ref C_Rank) "parts" = some none)
    (n_Rank_ranked : PySem.W.findIn K (.ref C_Rank) "ranked" = some none)
    (pg_Trim : PySem.W.plainGet K C_Trim Str.empty = true)
    (hd_Trim : PySem.W.hasDictIn K C_Trim = true)
    (po_Trim : PySem.W.plainOver K C_Trim = true)
    (sa_Trim : PySem.W.findIn K (.ref C_Trim) "__setattr__" = some (some (.builtin "object.__setattr__")))
    (cc_Trim : PySem.W.findIn K (.ref C_Trim) "__class__" = some (some (.builtin "object.__class__")))
    (mo_Trim : PySem.W.mroIn K C_Trim (.type "object") = some true)
    (n_Trim_label : PySem.W.findIn K (.ref C_Trim) "label" = some none)
    (n_Trim_numbers : PySem.W.findIn K (.ref C_Trim) "numbers" = some none)
    (n_Trim_parts : PySem.W.findIn K (.ref C_Trim) "parts" = some none)
    (n_Trim_ranked : PySem.W.findIn K (.ref C_Trim) "ranked" = some none)
    (pg_Weigh : PySem.W.plainGet K C_Weigh Str.empty = true)
    (hd_Weigh : PySem.W.hasDictIn K C_Weigh = true)
    (po_Weigh : PySem.W.plainOver K C_Weigh = true)
    (sa_Weigh : PySem.W.findIn K (.ref C_Weigh) "__setattr__" = some (some (.builtin "object.__setattr__")))
    (cc_Weigh : PySem.W.findIn K (.ref C_Weigh) "__class__" = some (some (.builtin "object.__class__")))
    (mo_Weigh : PySem.W.mroIn K C_Weigh (.type "object") = some true)
    (n_Weigh_label : PySem.W.findIn K (.ref C_Weigh) "label" = some none)
    (n_Weigh_numbers : PySem.W.findIn K (.ref C_Weigh) "numbers" = some none)
    (n_Weigh_parts : PySem.W.findIn K (.ref C_Weigh) "parts" = some none)
    (n_Weigh_ranked : PySem.W.findIn K (.ref C_Weigh) "ranked" = some none)
    (cg_Rule : PySem.W.specialIn K (.ref C_Rule) "__getattribute__" = some (some (.builtin "type.__getattribute__")))
    (cr_Rule : PySem.W.readsIn K C_Rule (.type "type") = true)
    (ca_Rule : PySem.W.findCls K (.ref C_Rule) (.type "type") "__init__" = some (.val (.ref f12)))
    (va_Weigh__weight_up_to : PySem.W.findIn K (.ref C_Weigh) "_weight_up_to" = some (some (.ref f23)))
    (va_Leaf_answer : PySem.W.findIn K (.ref C_Leaf) "answer" = some (some (.ref f25)))
    (va_Rank_answer : PySem.W.findIn K (.ref C_Rank) "answer" = some (some (.ref f26)))
    (va_Trim_answer : PySem.W.findIn K (.ref C_Trim) "answer" = some (some (.ref f26)))
    (va_Weigh_answer : PySem.W.findIn K (.ref C_Weigh) "answer" = some (some (.ref f26)))
    (va_Rank_counted : PySem.W.findIn K (.ref C_Rank) "counted" = some (some (.ref f21)))
    (va_Trim_counted : PySem.W.findIn K (.ref C_Trim) "counted" = some (some (.ref f22)))
    (va_Weigh_counted : PySem.W.findIn K (.ref C_Weigh) "counted" = some (some (.ref f24)))
    (va_Leaf_names : PySem.W.findIn K (.ref C_Leaf) "names" = some (some (.ref f10)))
    (va_Rank_names : PySem.W.findIn K (.ref C_Rank) "names" = some (some (.ref f11)))
    (va_Trim_names : PySem.W.findIn K (.ref C_Trim) "names" = some (some (.ref f11)))
    (va_Weigh_names : PySem.W.findIn K (.ref C_Weigh) "names" = some (some (.ref f11)))
    (z_all : PySem.W.nsIn K mainGlobals "all" = some none)
    (z_any : PySem.W.nsIn K mainGlobals "any" = some none)
    (z_enumerate : PySem.W.nsIn K mainGlobals "enumerate" = some none)
    (z_int : PySem.W.nsIn K mainGlobals "int" = some none)
    (z_len : PySem.W.nsIn K mainGlobals "len" = some none)
    (z_list : PySem.W.nsIn K mainGlobals "list" = some none)
    (z_min : PySem.W.nsIn K mainGlobals "min" = some none)
    (z_range : PySem.W.nsIn K mainGlobals "range" = some none)
    (z_sorted : PySem.W.nsIn K mainGlobals "sorted" = some none)
    (z_sum : PySem.W.nsIn K mainGlobals "sum" = some none)
    (z_tuple : PySem.W.nsIn K mainGlobals "tuple" = some none)
    (z_zip : PySem.W.nsIn K mainGlobals "zip" = some none) :
    ∃ fd : FuncData, (∀ (s : Shared) (v : Value), BindsTo s fd ⟨[v], []⟩ [("_law_script", v)]) ∧ ∀ base : Heap, K.In base → base.Ns mainGlobals mg → FnOk l.prog w K mg base CX0 26 fa fd ["_law_script"] (spLaw K) := by
  have e := hfa.symm.trans (PySem.W.mg_of X G a47)
  cases e
  have tx : Txt K mg ⟨C_GaugeError, C_DuplicateGauge, C_MissingReading, C_BadRule, C_NotRanked, C_NoRule, C_Finder, C_Rule, C_Leaf, C_Rank, C_Trim, C_Weigh, f1, f2, f3, f4, f5, f6, f7, f8, f9, f10, f11, f12, f13, f14, f15, f16, f17, f18, f19, f20, f21, f22, f23, f24, f25, f26, f27, f28, f29, f30, f31, f32, f33, f34, f35, f36, f37, f38, f39, f40, f41, f42, f43, f44, f45, f46, fa⟩ := ⟨⟨⟨_, fun_mk (st := s_take) l1 c1 k1, (fun_mk (st := s_take) l1 c1 k1).binds (ps := ["_law_box_here", "_law_many"]) fun _ _ _ _ _ _ us hl => match us, hl with | [_, _], _ => rfl⟩, PySem.W.mg_of X G a1, k1⟩,
    ⟨⟨_, fun_mk (st := s_box) l2 c2 k2, (fun_mk (st := s_box) l2 c2 k2).binds (ps := ["_law_script", "_law_salt"]) fun _ _ _ _ _ _ us hl => match us, hl with | [_, _], _ => rfl⟩, PySem.W.mg_of X G a2, k2⟩,
    ⟨⟨_, fun_mk (st := s_word) l3 c3 k3, (fun_mk (st := s_word) l3 c3 k3).binds (ps := ["_law_number", "_law_many", "_law_back"]) fun _ _ _ _ _ _ us hl => match us, hl with | [_, _, _], _ => rfl⟩, PySem.W.mg_of X G a3, k3⟩,
    ⟨⟨_, fun_mk (st := s_words) l4 c4 k4, (fun_mk (st := s_words) l4 c4 k4).binds (ps := ["_law_box_here", "_law_many"]) fun _ _ _ _ _ _ us hl => match us, hl with | [_, _], _ => rfl⟩, PySem.W.mg_of X G a4, k4⟩,
    ⟨⟨_, fun_mk (st := s_node) l5 c5 k5, (fun_mk (st := s_node) l5 c5 k5).binds (ps := ["_law_box_here", "_law_parts", "_law_plain"]) fun _ _ _ _ _ _ us hl => match us, hl with | [_, _, _], _ => rfl⟩, PySem.W.mg_of X G a5, k5⟩,
    ⟨⟨_, fun_mk (st := s_tree) l6 c6 k6, (fun_mk (st := s_tree) l6 c6 k6).binds (ps := ["_law_box_here", "_law_words_here", "_law_plain"]) fun _ _ _ _ _ _ us hl => match us, hl with | [_, _, _], _ => rfl⟩, PySem.W.mg_of X G a6, k6⟩,
    ⟨_, fun_mk (st := s_DuplicateGauge_init) l7 c7 k7, (fun_mk (st := s_DuplicateGauge_init) l7 c7 k7).binds (ps := ["self", "name"]) fun _ _ _ _ _ _ us hl => match us, hl with | [_, _], _ => rfl⟩,
    a7,
    ty_DuplicateGauge,
    ⟨_, fun_mk (st := s_MissingReading_init) l8 c8 k8, (fun_mk (st := s_MissingReading_init) l8 c8 k8).binds (ps := ["self", "name"]) fun _ _ _ _ _ _ us hl => match us, hl with | [_, _], _ => rfl⟩,
    a8,
    ty_MissingReading,
    ⟨_, fun_mk (st := s_BadRule_init) l9 c9 k9, (fun_mk (st := s_BadRule_init) l9 c9 k9).binds (ps := ["self", "kind"]) fun _ _ _ _ _ _ us hl => match us, hl with | [_, _], _ => rfl⟩,
    a9,
    ty_BadRule,
    ⟨_, fun_mk (st := s_Leaf_names) l10 c10 k10, (fun_mk (st := s_Leaf_names) l10 c10 k10).binds (ps := ["self"]) fun _ _ _ _ _ _ us hl => match us, hl with | [_], _ => rfl⟩,
    ⟨a10, i10, k10⟩,
    ⟨_, fun_mk (st := s_Rule_names) l11 c11 k11, (fun_mk (st := s_Rule_names) l11 c11 k11).binds (ps := ["self"]) fun _ _ _ _ _ _ us hl => match us, hl with | [_], _ => rfl⟩,
    ⟨a11, i11, k11⟩,
    ⟨_, fun_mk (st := s_Rule_init) l12 c12 k12, (fun_mk (st := s_Rule_init) l12 c12 k12).binds (ps := ["self", "label", "numbers", "parts"]) fun _ _ _ _ _ _ us hl => match us, hl with | [_, _, _, _], _ => rfl⟩,
    ⟨mk_Rule, a12, i12, kc_Rule⟩,
    ⟨_, fun_mk (st := s_Leaf_init) l13 c13 k13, (fun_mk (st := s_Leaf_init) l13 c13 k13).binds (ps := ["self", "name"]) fun _ _ _ _ _ _ us hl => match us, hl with | [_, _], _ => rfl⟩,
    ⟨mk_Leaf, a13, i13, kc_Leaf⟩,
    defS2 (fun_mk (st := s_Rank_init) l14 c14 k14) (fun a b => rfl) (fun a b r rs => rfl),
    ⟨mk_Rank, a14, i14, kc_Rank⟩,
    ⟨cr_Rank, cg_Rank⟩,
    ⟨_, ma15, ⟨_, mr15⟩, mf15⟩,
    ⟨_, fun_mk (st := s_Rank_of) l15 c15 k15, (fun_mk (st := s_Rank_of) l15 c15 k15).binds (ps := ["cls", "place", "parts"]) fun _ _ _ _ _ _ us hl => match us, hl with | [_, _, _], _ => rfl⟩,
    defS2 (fun_mk (st := s_Trim_init) l16 c16 k16) (fun a b => rfl) (fun a b r rs => rfl),
    ⟨mk_Trim, a16, i16, kc_Trim⟩,
    ⟨cr_Trim, cg_Trim⟩,
    ⟨_, ma17, ⟨_, mr17⟩, mf17⟩,
    ⟨_, fun_mk (st := s_Trim_of) l17 c17 k17, (fun_mk (st := s_Trim_of) l17 c17 k17).binds (ps := ["cls", "cut", "parts"]) fun _ _ _ _ _ _ us hl => match us, hl with | [_, _, _], _ => rfl⟩,
    defS2 (fun_mk (st := s_Weigh_init) l18 c18 k18) (fun a b => rfl) (fun a b r rs => rfl),
    ⟨mk_Weigh, a18, i18, kc_Weigh⟩,
    ⟨cr_Weigh, cg_Weigh⟩,
    ⟨_, ma19, ⟨_, mr19⟩, mf19⟩,
    ⟨_, fun_mk (st := s_Weigh_of) l19 c19 k19, (fun_mk (st := s_Weigh_of) l19 c19 k19).binds (ps := ["cls", "weights", "parts"]) fun _ _ _ _ _ _ us hl => match us, hl with | [_, _, _], _ => rfl⟩,
    ⟨⟨_, fun_mk (st := s_rule) l20 c20 k20, (fun_mk (st := s_rule) l20 c20 k20).binds (ps := ["_law_tree_here"]) fun _ _ _ _ _ _ us hl => match us, hl with | [_], _ => rfl⟩, PySem.W.mg_of X G a20, k20⟩,
    ⟨_, fun_mk (st := s_Rank_counted) l21 c21 k21, (fun_mk (st := s_Rank_counted) l21 c21 k21).binds (ps := ["self", "answers"]) fun _ _ _ _ _ _ us hl => match us, hl with | [_, _], _ => rfl⟩,
    ⟨a21, i21, k21⟩,
    ⟨_, fun_mk (st := s_Trim_counted) l22 c22 k22, (fun_mk (st := s_Trim_counted) l22 c22 k22).binds (ps := ["self", "answers"]) fun _ _ _ _ _ _ us hl => match us, hl with | [_, _], _ => rfl⟩,
    ⟨a22, i22, k22⟩,
    ⟨_, fun_mk (st := s_Weigh_weight_up_to) l23 c23 k23, (fun_mk (st := s_Weigh_weight_up_to) l23 c23 k23).binds (ps := ["self", "most", "answers"]) fun _ _ _ _ _ _ us hl => match us, hl with | [_, _, _], _ => rfl⟩,
    ⟨a23, i23, k23⟩,
    ⟨_, fun_mk (st := s_Weigh_counted) l24 c24 k24, (fun_mk (st := s_Weigh_counted) l24 c24 k24).binds (ps := ["self", "answers"]) fun _ _ _ _ _ _ us hl => match us, hl with | [_, _], _ => rfl⟩,
    ⟨a24, i24, k24⟩,
    ⟨_, fun_mk (st := s_Leaf_answer) l25 c25 k25, (fun_mk (st := s_Leaf_answer) l25 c25 k25).binds (ps := ["self", "readings"]) fun _ _ _ _ _ _ us hl => match us, hl with | [_, _], _ => rfl⟩,
    ⟨a25, i25, k25⟩,
    ⟨_, fun_mk (st := s_Rule_answer) l26 c26 k26, (fun_mk (st := s_Rule_answer) l26 c26 k26).binds (ps := ["self", "readings"]) fun _ _ _ _ _ _ us hl => match us, hl with | [_, _], _ => rfl⟩,
    ⟨a26, i26, k26⟩,
    ⟨⟨_, fun_mk (st := s_joined) l27 c27 k27, (fun_mk (st := s_joined) l27 c27 k27).binds (ps := ["_law_tree_here", "_law_worths"]) fun _ _ _ _ _ _ us hl => match us, hl with | [_, _], _ => rfl⟩, PySem.W.mg_of X G a27, k27⟩,
    ⟨⟨_, fun_mk (st := s_answer) l28 c28 k28, (fun_mk (st := s_answer) l28 c28 k28).binds (ps := ["_law_tree_here", "_law_readings"]) fun _ _ _ _ _ _ us hl => match us, hl with | [_, _], _ => rfl⟩, PySem.W.mg_of X G a28, k28⟩,
    ⟨⟨_, fun_mk (st := s_some) l29 c29 k29, (fun_mk (st := s_some) l29 c29 k29).binds (ps := ["_law_box_here", "_law_words_here"]) fun _ _ _ _ _ _ us hl => match us, hl with | [_, _], _ => rfl⟩, PySem.W.mg_of X G a29, k29⟩,
    ⟨⟨_, fun_mk (st := s_leaves) l30 c30 k30, (fun_mk (st := s_leaves) l30 c30 k30).binds (ps := ["_law_tree_here"]) fun _ _ _ _ _ _ us hl => match us, hl with | [_], _ => rfl⟩, PySem.W.mg_of X G a30, k30⟩,
    ⟨_, fun_mk (st := s_NotRanked_init) l31 c31 k31, (fun_mk (st := s_NotRanked_init) l31 c31 k31).binds (ps := ["self"]) fun _ _ _ _ _ _ us hl => match us, hl with | [_], _ => rfl⟩,
    a31,
    ty_NotRanked,
    ⟨⟨_, fun_mk (st := s_m_refuse_trims) l32 c32 k32, (fun_mk (st := s_m_refuse_trims) l32 c32 k32).binds (ps := ["rules"]) fun _ _ _ _ _ _ us hl => match us, hl with | [_], _ => rfl⟩, PySem.W.mg_of X G a32, k32⟩,
    ⟨⟨_, fun_mk (st := s_m_bit_readings) l33 c33 k33, (fun_mk (st := s_m_bit_readings) l33 c33 k33).binds (ps := ["rules"]) fun _ _ _ _ _ _ us hl => match us, hl with | [_], _ => rfl⟩, PySem.W.mg_of X G a33, k33⟩,
    ⟨⟨_, fun_mk (st := s_m_first_difference) l34 c34 k34, (fun_mk (st := s_m_first_difference) l34 c34 k34).binds (ps := ["rules", "rows"]) fun _ _ _ _ _ _ us hl => match us, hl with | [_, _], _ => rfl⟩, PySem.W.mg_of X G a34, k34⟩,
    ⟨⟨_, fun_mk (st := s_m_differ) l35 c35 k35, (fun_mk (st := s_m_differ) l35 c35 k35).binds (ps := ["rule", "other"]) fun _ _ _ _ _ _ us hl => match us, hl with | [_, _], _ => rfl⟩, PySem.W.mg_of X G a35, k35⟩,
    ⟨⟨_, fun_mk (st := s_m_alike) l36 c36 k36, (fun_mk (st := s_m_alike) l36 c36 k36).binds (ps := ["rule", "other"]) fun _ _ _ _ _ _ us hl => match us, hl with | [_, _], _ => rfl⟩, PySem.W.mg_of X G a36, k36⟩,
    ⟨_, fun_mk (st := s_NoRule_init) l37 c37 k37, (fun_mk (st := s_NoRule_init) l37 c37 k37).binds (ps := ["self", "reply"]) fun _ _ _ _ _ _ us hl => match us, hl with | [_, _], _ => rfl⟩,
    a37,
    ty_NoRule,
    defS1 (fun_mk (st := s_Finder_init) l38 c38 k38) (fun a => rfl) (fun a r rs => rfl),
    ⟨mk_Finder, a38, i38, kc_Finder⟩,
    ⟨cr_Finder, cg_Finder⟩,
    ⟨_, ma39, ⟨_, mr39⟩, mf39⟩,
    ⟨_, fun_mk (st := s_Finder_of) l39 c39 k39, (fun_mk (st := s_Finder_of) l39 c39 k39).binds (ps := ["cls", "rules"]) fun _ _ _ _ _ _ us hl => match us, hl with | [_, _], _ => rfl⟩,
    ⟨_, fun_mk (st := s_Finder_left) l40 c40 k40, (fun_mk (st := s_Finder_left) l40 c40 k40).binds (ps := ["self"]) fun _ _ _ _ _ _ us hl => match us, hl with | [_], _ => rfl⟩,
    ⟨a40, i40, k40⟩,
    ⟨_, fun_mk (st := s_Finder_tell) l41 c41 k41, (fun_mk (st := s_Finder_tell) l41 c41 k41).binds (ps := ["self", "readings", "answer"]) fun _ _ _ _ _ _ us hl => match us, hl with | [_, _, _], _ => rfl⟩,
    ⟨a41, i41, k41⟩,
    ⟨_, fun_mk (st := s_Finder_question) l42 c42 k42, (fun_mk (st := s_Finder_question) l42 c42 k42).binds (ps := ["self"]) fun _ _ _ _ _ _ us hl => match us, hl with | [_], _ => rfl⟩,
    ⟨a42, i42, k42⟩,
    ⟨⟨_, fun_mk (st := s_power) l43 c43 k43, (fun_mk (st := s_power) l43 c43 k43).binds (ps := ["_law_many"]) fun _ _ _ _ _ _ us hl => match us, hl with | [_], _ => rfl⟩, PySem.W.mg_of X G a43, k43⟩,
    ⟨⟨_, fun_mk (st := s_split) l44 c44 k44, (fun_mk (st := s_split) l44 c44 k44).binds (ps := ["_law_trees"]) fun _ _ _ _ _ _ us hl => match us, hl with | [_], _ => rfl⟩, PySem.W.mg_of X G a44, k44⟩,
    ⟨⟨_, fun_mk (st := s_first) l45 c45 k45, (fun_mk (st := s_first) l45 c45 k45).binds (ps := ["_law_trees", "_law_names"]) fun _ _ _ _ _ _ us hl => match us, hl with | [_, _], _ => rfl⟩, PySem.W.mg_of X G a45, k45⟩,
    ⟨⟨_, fun_mk (st := s_found) l46 c46 k46, (fun_mk (st := s_found) l46 c46 k46).binds (ps := ["_law_trees", "_law_secret"]) fun _ _ _ _ _ _ us hl => match us, hl with | [_, _], _ => rfl⟩, PySem.W.mg_of X G a46, k46⟩,
    ⟨⟨_, fun_mk (st := s_law) l47 c47 k47, (fun_mk (st := s_law) l47 c47 k47).binds (ps := ["_law_script"]) fun _ _ _ _ _ _ us hl => match us, hl with | [_], _ => rfl⟩, PySem.W.mg_of X G a47, k47⟩,
    PySem.W.mg_of X G aC_GaugeError,
    ⟨PySem.W.mg_of X G aC_GaugeError, ge_ga, ge_rd, ge_at⟩,
    PySem.W.mg_of X G aC_DuplicateGauge,
    ⟨⟨nmDuplicateGauge, qDuplicateGauge, NDuplicateGauge, bsDuplicateGauge, _, snDuplicateGauge, subDuplicateGauge, abDuplicateGauge, colDuplicateGauge, ddDuplicateGauge, m0DuplicateGauge, m1DuplicateGauge, m2DuplicateGauge, m3DuplicateGauge, m5DuplicateGauge, xL_DuplicateGauge, by rfl⟩, xsa_DuplicateGauge, xeC_DuplicateGauge, xtC_DuplicateGauge, xkC_DuplicateGauge⟩,
    ⟨xga_DuplicateGauge, xgg_DuplicateGauge, xeC_DuplicateGauge, xhC_DuplicateGauge⟩,
    n_DuplicateGauge_name,
    PySem.W.mg_of X G aC_MissingReading,
    ⟨⟨nmMissingReading, qMissingReading, NMissingReading, bsMissingReading, _, snMissingReading, subMissingReading, abMissingReading, colMissingReading, ddMissingReading, m0MissingReading, m1MissingReading, m2MissingReading, m3MissingReading, m5MissingReading, xL_MissingReading, by rfl⟩, xsa_MissingReading, xeC_MissingReading, xtC_MissingReading, xkC_MissingReading⟩,
    ⟨xga_MissingReading, xgg_MissingReading, xeC_MissingReading, xhC_MissingReading⟩,
    n_MissingReading_name,
    PySem.W.mg_of X G aC_BadRule,
    ⟨⟨nmBadRule, qBadRule, NBadRule, bsBadRule, _, snBadRule, subBadRule, abBadRule, colBadRule, ddBadRule, m0BadRule, m1BadRule, m2BadRule, m3BadRule, m5BadRule, xL_BadRule, by rfl⟩, xsa_BadRule, xeC_BadRule, xtC_BadRule, xkC_BadRule⟩,
    ⟨xga_BadRule, xgg_BadRule, xeC_BadRule, xhC_BadRule⟩,
    n_BadRule_kind,
    PySem.W.mg_of X G aC_NotRanked,
    ⟨⟨nmNotRanked, qNotRanked, NNotRanked, bsNotRanked, _, snNotRanked, subNotRanked, abNotRanked, colNotRanked, ddNotRanked, m0NotRanked, m1NotRanked, m2NotRanked, m3NotRanked, m5NotRanked, xL_NotRanked, by rfl⟩, xsa_NotRanked, xeC_NotRanked, xtC_NotRanked, xkC_NotRanked⟩,
    ⟨xga_NotRanked, xgg_NotRanked, xeC_NotRanked, xhC_NotRanked⟩,
    PySem.W.mg_of X G aC_NoRule,
    ⟨⟨nmNoRule, qNoRule, NNoRule, bsNoRule, _, snNoRule, subNoRule, abNoRule, colNoRule, ddNoRule, m0NoRule, m1NoRule, m2NoRule, m3NoRule, m5NoRule, xL_NoRule, by rfl⟩, xsa_NoRule, xeC_NoRule, xtC_NoRule, xkC_NoRule⟩,
    ⟨xga_NoRule, xgg_NoRule, xeC_NoRule, xhC_NoRule⟩,
    n_NoRule_reply,
    PySem.W.mg_of X G aC_Finder,
    ⟨pg_Finder, hd_Finder, po_Finder, sa_Finder⟩,
    ⟨⟨pg_Finder, hd_Finder, po_Finder, sa_Finder⟩, cc_Finder, oc_s, oc_t, mo_Finder⟩,
    n_Finder__rules,
    n_Finder__left,
    PySem.W.mg_of X G aC_Rule,
    PySem.W.mg_of X G aC_Leaf,
    ⟨pg_Leaf, hd_Leaf, po_Leaf, sa_Leaf⟩,
    ⟨⟨pg_Leaf, hd_Leaf, po_Leaf, sa_Leaf⟩, cc_Leaf, oc_s, oc_t, mo_Leaf⟩,
    n_Leaf_label,
    n_Leaf_numbers,
    n_Leaf_parts,
    n_Leaf_ranked,
    PySem.W.mg_of X G aC_Rank,
    ⟨pg_Rank, hd_Rank, po_Rank, sa_Rank⟩,
    ⟨⟨pg_Rank, hd_Rank, po_Rank, sa_Rank⟩, cc_Rank, oc_s, oc_t, mo_Rank⟩,
    n_Rank_label,
    n_Rank_numbers,
    n_Rank_parts,
    n_Rank_ranked,
    PySem.W.mg_of X G aC_Trim,
    ⟨pg_Trim, hd_Trim, po_Trim, sa_Trim⟩,
    ⟨⟨pg_Trim, hd_Trim, po_Trim, sa_Trim⟩, cc_Trim, oc_s, oc_t, mo_Trim⟩,
    n_Trim_label,
    n_Trim_numbers,
    n_Trim_parts,
    n_Trim_ranked,
    PySem.W.mg_of X G aC_Weigh,
    ⟨pg_Weigh, hd_Weigh, po_Weigh, sa_Weigh⟩,
    ⟨⟨pg_Weigh, hd_Weigh, po_Weigh, sa_Weigh⟩, cc_Weigh, oc_s, oc_t, mo_Weigh⟩,
    n_Weigh_label,
    n_Weigh_numbers,
    n_Weigh_parts,
    n_Weigh_ranked,
    ⟨cg_Rule, cr_Rule, ca_Rule, k12⟩,
    ⟨va_Weigh__weight_up_to, i23, k23⟩,
    ⟨va_Leaf_answer, i25, k25⟩,
    ⟨va_Rank_answer, i26, k26⟩,
    ⟨va_Trim_answer, i26, k26⟩,
    ⟨va_Weigh_answer, i26, k26⟩,
    ⟨va_Rank_counted, i21, k21⟩,
    ⟨va_Trim_counted, i22, k22⟩,
    ⟨va_Weigh_counted, i24, k24⟩,
    ⟨va_Leaf_names, i10, k10⟩,
    ⟨va_Rank_names, i11, k11⟩,
    ⟨va_Trim_names, i11, k11⟩,
    ⟨va_Weigh_names, i11, k11⟩,
    PySem.W.mg_none_of X G z_all,
    PySem.W.mg_none_of X G z_any,
    PySem.W.mg_none_of X G z_enumerate,
    PySem.W.mg_none_of X G z_int,
    PySem.W.mg_none_of X G z_len,
    PySem.W.mg_none_of X G z_list,
    PySem.W.mg_none_of X G z_min,
    PySem.W.mg_none_of X G z_range,
    PySem.W.mg_none_of X G z_sorted,
    PySem.W.mg_none_of X G z_sum,
    PySem.W.mg_none_of X G z_tuple,
    PySem.W.mg_none_of X G z_zip⟩
  exact ⟨_, fun s v => .of_eq rfl, fun base _ _ => ok_law' tx (fun_mk (st := s_law) l47 c47 k47)⟩
def ac_GaugeError (K : PySem.W.Frag) : Addr := He.ga K "GaugeError"
def ac_DuplicateGauge (K : PySem.W.Frag) : Addr := He.ga K "DuplicateGauge"
def ac_MissingReading (K : PySem.W.Frag) : Addr := He.ga K "MissingReading"
def ac_BadRule (K : PySem.W.Frag) : Addr := He.ga K "BadRule"
def ac_NotRanked (K : PySem.W.Frag) : Addr := He.ga K "NotRanked"
def ac_NoRule (K : PySem.W.Frag) : Addr := He.ga K "NoRule"
def ac_Finder (K : PySem.W.Frag) : Addr := He.ga K "Finder"
def ac_Rule (K : PySem.W.Frag) : Addr := He.ga K "Rule"
def ac_Leaf (K : PySem.W.Frag) : Addr := He.ga K "Leaf"
def ac_Rank (K : PySem.W.Frag) : Addr := He.ga K "Rank"
def ac_Trim (K : PySem.W.Frag) : Addr := He.ga K "Trim"
def ac_Weigh (K : PySem.W.Frag) : Addr := He.ga K "Weigh"
def af_1 (K : PySem.W.Frag) : Addr := He.ga K "_law_take"
def af_2 (K : PySem.W.Frag) : Addr := He.ga K "_law_box"
def af_3 (K : PySem.W.Frag) : Addr := He.ga K "_law_word"
def af_4 (K : PySem.W.Frag) : Addr := He.ga K "_law_words"
def af_5 (K : PySem.W.Frag) : Addr := He.ga K "_law_node"
def af_6 (K : PySem.W.Frag) : Addr := He.ga K "_law_tree"
def af_7 (K : PySem.W.Frag) : Addr := He.ma K (ac_DuplicateGauge K) "__init__"
def af_8 (K : PySem.W.Frag) : Addr := He.ma K (ac_MissingReading K) "__init__"
def af_9 (K : PySem.W.Frag) : Addr := He.ma K (ac_BadRule K) "__init__"
def af_10 (K : PySem.W.Frag) : Addr := He.ma K (ac_Leaf K) "names"
def af_11 (K : PySem.W.Frag) : Addr := He.ma K (ac_Rule K) "names"
def af_12 (K : PySem.W.Frag) : Addr := He.ma K (ac_Rule K) "__init__"
def af_13 (K : PySem.W.Frag) : Addr := He.ma K (ac_Leaf K) "__init__"
def af_14 (K : PySem.W.Frag) : Addr := He.ma K (ac_Rank K) "__init__"
def ap_15 (K : PySem.W.Frag) : Addr := cpA K (ac_Rank K) "of"
def af_15 (K : PySem.W.Frag) : Addr := rf K (ap_15 K) "classmethod"
def af_16 (K : PySem.W.Frag) : Addr := He.ma K (ac_Trim K) "__init__"
def ap_17 (K : PySem.W.Frag) : Addr := cpA K (ac_Trim K) "of"
def af_17 (K : PySem.W.Frag) : Addr := rf K (ap_17 K) "classmethod"
def af_18 (K : PySem.W.Frag) : Addr := He.ma K (ac_Weigh K) "__init__"
def ap_19 (K : PySem.W.Frag) : Addr := cpA K (ac_Weigh K) "of"
def af_19 (K : PySem.W.Frag) : Addr := rf K (ap_19 K) "classmethod"
def af_20 (K : PySem.W.Frag) : Addr := He.ga K "_law_rule"
def af_21 (K : PySem.W.Frag) : Addr := He.ma K (ac_Rank K) "counted"
def af_22 (K : PySem.W.Frag) : Addr := He.ma K (ac_Trim K) "counted"
def af_23 (K : PySem.W.Frag) : Addr := He.ma K (ac_Weigh K) "_weight_up_to"
def af_24 (K : PySem.W.Frag) : Addr := He.ma K (ac_Weigh K) "counted"
def af_25 (K : PySem.W.Frag) : Addr := He.ma K (ac_Leaf K) "answer"
def af_26 (K : PySem.W.Frag) : Addr := He.ma K (ac_Rule K) "answer"
def af_27 (K : PySem.W.Frag) : Addr := He.ga K "_law_joined"
def af_28 (K : PySem.W.Frag) : Addr := He.ga K "_law_answer"
def af_29 (K : PySem.W.Frag) : Addr := He.ga K "_law_some"
def af_30 (K : PySem.W.Frag) : Addr := He.ga K "_law_leaves"
def af_31 (K : PySem.W.Frag) : Addr := He.ma K (ac_NotRanked K) "__init__"
def af_32 (K : PySem.W.Frag) : Addr := He.ga K "_refuse_trims"
def af_33 (K : PySem.W.Frag) : Addr := He.ga K "_bit_readings"
def af_34 (K : PySem.W.Frag) : Addr := He.ga K "_first_difference"
def af_35 (K : PySem.W.Frag) : Addr := He.ga K "differ"
def af_36 (K : PySem.W.Frag) : Addr := He.ga K "alike"
def af_37 (K : PySem.W.Frag) : Addr := He.ma K (ac_NoRule K) "__init__"
def af_38 (K : PySem.W.Frag) : Addr := He.ma K (ac_Finder K) "__init__"
def ap_39 (K : PySem.W.Frag) : Addr := cpA K (ac_Finder K) "of"
def af_39 (K : PySem.W.Frag) : Addr := rf K (ap_39 K) "classmethod"
def af_40 (K : PySem.W.Frag) : Addr := He.ma K (ac_Finder K) "left"
def af_41 (K : PySem.W.Frag) : Addr := He.ma K (ac_Finder K) "tell"
def af_42 (K : PySem.W.Frag) : Addr := He.ma K (ac_Finder K) "question"
def af_43 (K : PySem.W.Frag) : Addr := He.ga K "_law_power"
def af_44 (K : PySem.W.Frag) : Addr := He.ga K "_law_split"
def af_45 (K : PySem.W.Frag) : Addr := He.ga K "_law_first"
def af_46 (K : PySem.W.Frag) : Addr := He.ga K "_law_found"
def af_47 (K : PySem.W.Frag) : Addr := He.ga K "law"
def ex_0 : List (PySem.W.Frag → Bool) := [
  fun K => decide (PySem.W.nsIn K mainGlobals "GaugeError" = some (some (.ref (ac_GaugeError K)))),
  fun K => decide (PySem.W.nsIn K mainGlobals "DuplicateGauge" = some (some (.ref (ac_DuplicateGauge K)))),
  fun K => decide (PySem.W.nsIn K mainGlobals "MissingReading" = some (some (.ref (ac_MissingReading K)))),
  fun K => decide (PySem.W.nsIn K mainGlobals "BadRule" = some (some (.ref (ac_BadRule K)))),
  fun K => decide (PySem.W.nsIn K mainGlobals "NotRanked" = some (some (.ref (ac_NotRanked K)))),
  fun K => decide (PySem.W.nsIn K mainGlobals "NoRule" = some (some (.ref (ac_NoRule K)))),
  fun K => decide (PySem.W.nsIn K mainGlobals "Finder" = some (some (.ref (ac_Finder K)))),
  fun K => decide (PySem.W.nsIn K mainGlobals "Rule" = some (some (.ref (ac_Rule K)))),
  fun K => decide (PySem.W.nsIn K mainGlobals "Leaf" = some (some (.ref (ac_Leaf K)))),
  fun K => decide (PySem.W.nsIn K mainGlobals "Rank" = some (some (.ref (ac_Rank K)))),
  fun K => decide (PySem.W.nsIn K mainGlobals "Trim" = some (some (.ref (ac_Trim K)))),
  fun K => decide (PySem.W.nsIn K mainGlobals "Weigh" = some (some (.ref (ac_Weigh K)))),
  fun K => decide (PySem.W.nsIn K mainGlobals "_law_take" = some (some (.ref (af_1 K)))),
  fun K => decide (fxD K (af_1 K) = Value.none),
  fun K => PySem.W.codeIn K (fxC K (af_1 K)) "_law_take",
  fun K => PySem.W.keepIn K (.ref (af_1 K)),
  fun K => decide (PySem.W.nsIn K mainGlobals "_law_box" = some (some (.ref (af_2 K)))),
  fun K => decide (fxD K (af_2 K) = Value.none),
  fun K => PySem.W.codeIn K (fxC K (af_2 K)) "_law_box",
  fun K => PySem.W.keepIn K (.ref (af_2 K)),
  fun K => decide (PySem.W.nsIn K mainGlobals "_law_word" = some (some (.ref (af_3 K)))),
  fun K => decide (fxD K (af_3 K) = Value.none),
  fun K => PySem.W.codeIn K (fxC K (af_3 K)) "_law_word",
  fun K => PySem.W.keepIn K (.ref (af_3 K)),
  fun K => decide (PySem.W.nsIn K mainGlobals "_law_words" = some (some (.ref (af_4 K)))),
  fun K => decide (fxD K (af_4 K) = Value.none),
  fun K => PySem.W.codeIn K (fxC K (af_4 K)) "_law_words",
  fun K => PySem.W.keepIn K (.ref (af_4 K)),
  fun K => decide (PySem.W.nsIn K mainGlobals "_law_node" = some (some (.ref (af_5 K)))),
  fun K => decide (fxD K (af_5 K) = Value.none),
  fun K => PySem.W.codeIn K (fxC K (af_5 K)) "_law_node",
  fun K => PySem.W.keepIn K (.ref (af_5 K)),
  fun K => decide (PySem.W.nsIn K mainGlobals "_law_tree" = some (some (.ref (af_6 K)))),
  fun K => decide (fxD K (af_6 K) = Value.none),
  fun K => PySem.W.codeIn K (fxC K (af_6 K)) "_law_tree",
  fun K => PySem.W.keepIn K (.ref (af_6 K)),
  fun K => decide (PySem.W.findIn K (.ref (ac_DuplicateGauge K)) "__init__" = some (some (.ref (af_7 K)))),
  fun K => PySem.W.isFn K (.ref (af_7 K)),
  fun K => decide (fxD K (af_7 K) = Value.none),
  fun K => PySem.W.codeIn K (fxC K (af_7 K)) "DuplicateGauge.__init__",
  fun K => PySem.W.keepIn K (.ref (af_7 K)),
  fun K => decide (PySem.W.typeIn K (.ref (af_7 K)) = some (.type "function")),
  fun K => decide (PySem.W.findIn K (.ref (ac_MissingReading K)) "__init__" = some (some (.ref (af_8 K)))),
  fun K => PySem.W.isFn K (.ref (af_8 K)),
  fun K => decide (fxD K (af_8 K) = Value.none),
  fun K => PySem.W.codeIn K (fxC K (af_8 K)) "MissingReading.__init__",
  fun K => PySem.W.keepIn K (.ref (af_8 K)),
  fun K => decide (PySem.W.typeIn K (.ref (af_8 K)) = some (.type "function")),
  fun K => decide (PySem.W.findIn K (.ref (ac_BadRule K)) "__init__" = some (some (.ref (af_9 K)))),
  fun K => PySem.W.isFn K (.ref (af_9 K)),
  fun K => decide (fxD K (af_9 K) = Value.none),
  fun K => PySem.W.codeIn K (fxC K (af_9 K)) "BadRule.__init__",
  fun K => PySem.W.keepIn K (.ref (af_9 K)),
  fun K => decide (PySem.W.typeIn K (.ref (af_9 K)) = some (.type "function")),
  fun K => decide (PySem.W.findIn K (.ref (ac_Leaf K)) "names" = some (some (.ref (af_10 K)))),
  fun K => PySem.W.isFn K (.ref (af_10 K)),
  fun K => decide (fxD K (af_10 K) = Value.none),
  fun K => PySem.W.codeIn K (fxC K (af_10 K)) "Leaf.names",
  fun K => PySem.W.keepIn K (.ref (af_10 K)),
  fun K => decide (PySem.W.findIn K (.ref (ac_Rule K)) "names" = some (some (.ref (af_11 K))))]
def ex_1 : List (PySem.W.Frag → Bool) := [
  fun K => PySem.W.isFn K (.ref (af_11 K)),
  fun K => decide (fxD K (af_11 K) = Value.none),
  fun K => PySem.W.codeIn K (fxC K (af_11 K)) "Rule.names",
  fun K => PySem.W.keepIn K (.ref (af_11 K)),
  fun K => decide (PySem.W.findIn K (.ref (ac_Rule K)) "__init__" = some (some (.ref (af_12 K)))),
  fun K => PySem.W.isFn K (.ref (af_12 K)),
  fun K => decide (fxD K (af_12 K) = Value.none),
  fun K => PySem.W.codeIn K (fxC K (af_12 K)) "Rule.__init__",
  fun K => PySem.W.keepIn K (.ref (af_12 K)),
  fun K => PySem.W.makesIn K (ac_Rule K),
  fun K => PySem.W.keepIn K (.ref (ac_Rule K)),
  fun K => decide (PySem.W.findIn K (.ref (ac_Leaf K)) "__init__" = some (some (.ref (af_13 K)))),
  fun K => PySem.W.isFn K (.ref (af_13 K)),
  fun K => decide (fxD K (af_13 K) = Value.none),
  fun K => PySem.W.codeIn K (fxC K (af_13 K)) "Leaf.__init__",
  fun K => PySem.W.keepIn K (.ref (af_13 K)),
  fun K => PySem.W.makesIn K (ac_Leaf K),
  fun K => PySem.W.keepIn K (.ref (ac_Leaf K)),
  fun K => decide (PySem.W.findIn K (.ref (ac_Rank K)) "__init__" = some (some (.ref (af_14 K)))),
  fun K => PySem.W.isFn K (.ref (af_14 K)),
  fun K => decide (fxD K (af_14 K) = Value.none),
  fun K => PySem.W.codeIn K (fxC K (af_14 K)) "Rank.__init__",
  fun K => PySem.W.keepIn K (.ref (af_14 K)),
  fun K => PySem.W.makesIn K (ac_Rank K),
  fun K => PySem.W.keepIn K (.ref (ac_Rank K)),
  fun K => decide (PySem.W.specialIn K (.ref (ac_Rank K)) "__getattribute__" = some (some (.builtin "type.__getattribute__"))),
  fun K => PySem.W.readsIn K (ac_Rank K) (.type "type"),
  fun K => cgB K (ac_Rank K) "classmethod.__get__" "of",
  fun K => recB K (ap_15 K) "classmethod" (af_15 K),
  fun K => PySem.W.fnIn K (af_15 K),
  fun K => decide (fxD K (af_15 K) = Value.none),
  fun K => PySem.W.codeIn K (fxC K (af_15 K)) "Rank.of",
  fun K => PySem.W.keepIn K (.ref (af_15 K)),
  fun K => decide (PySem.W.findIn K (.ref (ac_Trim K)) "__init__" = some (some (.ref (af_16 K)))),
  fun K => PySem.W.isFn K (.ref (af_16 K)),
  fun K => decide (fxD K (af_16 K) = Value.none),
  fun K => PySem.W.codeIn K (fxC K (af_16 K)) "Trim.__init__",
  fun K => PySem.W.keepIn K (.ref (af_16 K)),
  fun K => PySem.W.makesIn K (ac_Trim K),
  fun K => PySem.W.keepIn K (.ref (ac_Trim K)),
  fun K => decide (PySem.W.specialIn K (.ref (ac_Trim K)) "__getattribute__" = some (some (.builtin "type.__getattribute__"))),
  fun K => PySem.W.readsIn K (ac_Trim K) (.type "type"),
  fun K => cgB K (ac_Trim K) "classmethod.__get__" "of",
  fun K => recB K (ap_17 K) "classmethod" (af_17 K),
  fun K => PySem.W.fnIn K (af_17 K),
  fun K => decide (fxD K (af_17 K) = Value.none),
  fun K => PySem.W.codeIn K (fxC K (af_17 K)) "Trim.of",
  fun K => PySem.W.keepIn K (.ref (af_17 K)),
  fun K => decide (PySem.W.findIn K (.ref (ac_Weigh K)) "__init__" = some (some (.ref (af_18 K)))),
  fun K => PySem.W.isFn K (.ref (af_18 K)),
  fun K => decide (fxD K (af_18 K) = Value.none),
  fun K => PySem.W.codeIn K (fxC K (af_18 K)) "Weigh.__init__",
  fun K => PySem.W.keepIn K (.ref (af_18 K)),
  fun K => PySem.W.makesIn K (ac_Weigh K),
  fun K => PySem.W.keepIn K (.ref (ac_Weigh K)),
  fun K => decide (PySem.W.specialIn K (.ref (ac_Weigh K)) "__getattribute__" = some (some (.builtin "type.__getattribute__"))),
  fun K => PySem.W.readsIn K (ac_Weigh K) (.type "type"),
  fun K => cgB K (ac_Weigh K) "classmethod.__get__" "of",
  fun K => recB K (ap_19 K) "classmethod" (af_19 K),
  fun K => PySem.W.fnIn K (af_19 K)]
def ex_2 : List (PySem.W.Frag → Bool) := [
  fun K => decide (fxD K (af_19 K) = Value.none),
  fun K => PySem.W.codeIn K (fxC K (af_19 K)) "Weigh.of",
  fun K => PySem.W.keepIn K (.ref (af_19 K)),
  fun K => decide (PySem.W.nsIn K mainGlobals "_law_rule" = some (some (.ref (af_20 K)))),
  fun K => decide (fxD K (af_20 K) = Value.none),
  fun K => PySem.W.codeIn K (fxC K (af_20 K)) "_law_rule",
  fun K => PySem.W.keepIn K (.ref (af_20 K)),
  fun K => decide (PySem.W.findIn K (.ref (ac_Rank K)) "counted" = some (some (.ref (af_21 K)))),
  fun K => PySem.W.isFn K (.ref (af_21 K)),
  fun K => decide (fxD K (af_21 K) = Value.none),
  fun K => PySem.W.codeIn K (fxC K (af_21 K)) "Rank.counted",
  fun K => PySem.W.keepIn K (.ref (af_21 K)),
  fun K => decide (PySem.W.findIn K (.ref (ac_Trim K)) "counted" = some (some (.ref (af_22 K)))),
  fun K => PySem.W.isFn K (.ref (af_22 K)),
  fun K => decide (fxD K (af_22 K) = Value.none),
  fun K => PySem.W.codeIn K (fxC K (af_22 K)) "Trim.counted",
  fun K => PySem.W.keepIn K (.ref (af_22 K)),
  fun K => decide (PySem.W.findIn K (.ref (ac_Weigh K)) "_weight_up_to" = some (some (.ref (af_23 K)))),
  fun K => PySem.W.isFn K (.ref (af_23 K)),
  fun K => decide (fxD K (af_23 K) = Value.none),
  fun K => PySem.W.codeIn K (fxC K (af_23 K)) "Weigh._weight_up_to",
  fun K => PySem.W.keepIn K (.ref (af_23 K)),
  fun K => decide (PySem.W.findIn K (.ref (ac_Weigh K)) "counted" = some (some (.ref (af_24 K)))),
  fun K => PySem.W.isFn K (.ref (af_24 K)),
  fun K => decide (fxD K (af_24 K) = Value.none),
  fun K => PySem.W.codeIn K (fxC K (af_24 K)) "Weigh.counted",
  fun K => PySem.W.keepIn K (.ref (af_24 K)),
  fun K => decide (PySem.W.findIn K (.ref (ac_Leaf K)) "answer" = some (some (.ref (af_25 K)))),
  fun K => PySem.W.isFn K (.ref (af_25 K)),
  fun K => decide (fxD K (af_25 K) = Value.none),
  fun K => PySem.W.codeIn K (fxC K (af_25 K)) "Leaf.answer",
  fun K => PySem.W.keepIn K (.ref (af_25 K)),
  fun K => decide (PySem.W.findIn K (.ref (ac_Rule K)) "answer" = some (some (.ref (af_26 K)))),
  fun K => PySem.W.isFn K (.ref (af_26 K)),
  fun K => decide (fxD K (af_26 K) = Value.none),
  fun K => PySem.W.codeIn K (fxC K (af_26 K)) "Rule.answer",
  fun K => PySem.W.keepIn K (.ref (af_26 K)),
  fun K => decide (PySem.W.nsIn K mainGlobals "_law_joined" = some (some (.ref (af_27 K)))),
  fun K => decide (fxD K (af_27 K) = Value.none),
  fun K => PySem.W.codeIn K (fxC K (af_27 K)) "_law_joined",
  fun K => PySem.W.keepIn K (.ref (af_27 K)),
  fun K => decide (PySem.W.nsIn K mainGlobals "_law_answer" = some (some (.ref (af_28 K)))),
  fun K => decide (fxD K (af_28 K) = Value.none),
  fun K => PySem.W.codeIn K (fxC K (af_28 K)) "_law_answer",
  fun K => PySem.W.keepIn K (.ref (af_28 K)),
  fun K => decide (PySem.W.nsIn K mainGlobals "_law_some" = some (some (.ref (af_29 K)))),
  fun K => decide (fxD K (af_29 K) = Value.none),
  fun K => PySem.W.codeIn K (fxC K (af_29 K)) "_law_some",
  fun K => PySem.W.keepIn K (.ref (af_29 K)),
  fun K => decide (PySem.W.nsIn K mainGlobals "_law_leaves" = some (some (.ref (af_30 K)))),
  fun K => decide (fxD K (af_30 K) = Value.none),
  fun K => PySem.W.codeIn K (fxC K (af_30 K)) "_law_leaves",
  fun K => PySem.W.keepIn K (.ref (af_30 K)),
  fun K => decide (PySem.W.findIn K (.ref (ac_NotRanked K)) "__init__" = some (some (.ref (af_31 K)))),
  fun K => PySem.W.isFn K (.ref (af_31 K)),
  fun K => decide (fxD K (af_31 K) = Value.none),
  fun K => PySem.W.codeIn K (fxC K (af_31 K)) "NotRanked.__init__",
  fun K => PySem.W.keepIn K (.ref (af_31 K)),
  fun K => decide (PySem.W.typeIn K (.ref (af_31 K)) = some (.type "function")),
  fun K => decide (PySem.W.nsIn K mainGlobals "_refuse_trims" = some (some (.ref (af_32 K))))]
def ex_3 : List (PySem.W.Frag → Bool) := [
  fun K => decide (fxD K (af_32 K) = Value.none),
  fun K => PySem.W.codeIn K (fxC K (af_32 K)) "_refuse_trims",
  fun K => PySem.W.keepIn K (.ref (af_32 K)),
  fun K => decide (PySem.W.nsIn K mainGlobals "_bit_readings" = some (some (.ref (af_33 K)))),
  fun K => decide (fxD K (af_33 K) = Value.none),
  fun K => PySem.W.codeIn K (fxC K (af_33 K)) "_bit_readings",
  fun K => PySem.W.keepIn K (.ref (af_33 K)),
  fun K => decide (PySem.W.nsIn K mainGlobals "_first_difference" = some (some (.ref (af_34 K)))),
  fun K => decide (fxD K (af_34 K) = Value.none),
  fun K => PySem.W.codeIn K (fxC K (af_34 K)) "_first_difference",
  fun K => PySem.W.keepIn K (.ref (af_34 K)),
  fun K => decide (PySem.W.nsIn K mainGlobals "differ" = some (some (.ref (af_35 K)))),
  fun K => decide (fxD K (af_35 K) = Value.none),
  fun K => PySem.W.codeIn K (fxC K (af_35 K)) "differ",
  fun K => PySem.W.keepIn K (.ref (af_35 K)),
  fun K => decide (PySem.W.nsIn K mainGlobals "alike" = some (some (.ref (af_36 K)))),
  fun K => decide (fxD K (af_36 K) = Value.none),
  fun K => PySem.W.codeIn K (fxC K (af_36 K)) "alike",
  fun K => PySem.W.keepIn K (.ref (af_36 K)),
  fun K => decide (PySem.W.findIn K (.ref (ac_NoRule K)) "__init__" = some (some (.ref (af_37 K)))),
  fun K => PySem.W.isFn K (.ref (af_37 K)),
  fun K => decide (fxD K (af_37 K) = Value.none),
  fun K => PySem.W.codeIn K (fxC K (af_37 K)) "NoRule.__init__",
  fun K => PySem.W.keepIn K (.ref (af_37 K)),
  fun K => decide (PySem.W.typeIn K (.ref (af_37 K)) = some (.type "function")),
  fun K => decide (PySem.W.findIn K (.ref (ac_Finder K)) "__init__" = some (some (.ref (af_38 K)))),
  fun K => PySem.W.isFn K (.ref (af_38 K)),
  fun K => decide (fxD K (af_38 K) = Value.none),
  fun K => PySem.W.codeIn K (fxC K (af_38 K)) "Finder.__init__",
  fun K => PySem.W.keepIn K (.ref (af_38 K)),
  fun K => PySem.W.makesIn K (ac_Finder K),
  fun K => PySem.W.keepIn K (.ref (ac_Finder K)),
  fun K => decide (PySem.W.specialIn K (.ref (ac_Finder K)) "__getattribute__" = some (some (.builtin "type.__getattribute__"))),
  fun K => PySem.W.readsIn K (ac_Finder K) (.type "type"),
  fun K => cgB K (ac_Finder K) "classmethod.__get__" "of",
  fun K => recB K (ap_39 K) "classmethod" (af_39 K),
  fun K => PySem.W.fnIn K (af_39 K),
  fun K => decide (fxD K (af_39 K) = Value.none),
  fun K => PySem.W.codeIn K (fxC K (af_39 K)) "Finder.of",
  fun K => PySem.W.keepIn K (.ref (af_39 K)),
  fun K => decide (PySem.W.findIn K (.ref (ac_Finder K)) "left" = some (some (.ref (af_40 K)))),
  fun K => PySem.W.isFn K (.ref (af_40 K)),
  fun K => decide (fxD K (af_40 K) = Value.none),
  fun K => PySem.W.codeIn K (fxC K (af_40 K)) "Finder.left",
  fun K => PySem.W.keepIn K (.ref (af_40 K)),
  fun K => decide (PySem.W.findIn K (.ref (ac_Finder K)) "tell" = some (some (.ref (af_41 K)))),
  fun K => PySem.W.isFn K (.ref (af_41 K)),
  fun K => decide (fxD K (af_41 K) = Value.none),
  fun K => PySem.W.codeIn K (fxC K (af_41 K)) "Finder.tell",
  fun K => PySem.W.keepIn K (.ref (af_41 K)),
  fun K => decide (PySem.W.findIn K (.ref (ac_Finder K)) "question" = some (some (.ref (af_42 K)))),
  fun K => PySem.W.isFn K (.ref (af_42 K)),
  fun K => decide (fxD K (af_42 K) = Value.none),
  fun K => PySem.W.codeIn K (fxC K (af_42 K)) "Finder.question",
  fun K => PySem.W.keepIn K (.ref (af_42 K)),
  fun K => decide (PySem.W.nsIn K mainGlobals "_law_power" = some (some (.ref (af_43 K)))),
  fun K => decide (fxD K (af_43 K) = Value.none),
  fun K => PySem.W.codeIn K (fxC K (af_43 K)) "_law_power",
  fun K => PySem.W.keepIn K (.ref (af_43 K)),
  fun K => decide (PySem.W.nsIn K mainGlobals "_law_split" = some (some (.ref (af_44 K))))]
def ex_4 : List (PySem.W.Frag → Bool) := [
  fun K => decide (fxD K (af_44 K) = Value.none),
  fun K => PySem.W.codeIn K (fxC K (af_44 K)) "_law_split",
  fun K => PySem.W.keepIn K (.ref (af_44 K)),
  fun K => decide (PySem.W.nsIn K mainGlobals "_law_first" = some (some (.ref (af_45 K)))),
  fun K => decide (fxD K (af_45 K) = Value.none),
  fun K => PySem.W.codeIn K (fxC K (af_45 K)) "_law_first",
  fun K => PySem.W.keepIn K (.ref (af_45 K)),
  fun K => decide (PySem.W.nsIn K mainGlobals "_law_found" = some (some (.ref (af_46 K)))),
  fun K => decide (fxD K (af_46 K) = Value.none),
  fun K => PySem.W.codeIn K (fxC K (af_46 K)) "_law_found",
  fun K => PySem.W.keepIn K (.ref (af_46 K)),
  fun K => decide (PySem.W.nsIn K mainGlobals "law" = some (some (.ref (af_47 K)))),
  fun K => decide (fxD K (af_47 K) = Value.none),
  fun K => PySem.W.codeIn K (fxC K (af_47 K)) "law",
  fun K => PySem.W.keepIn K (.ref (af_47 K)),
  fun K => decide (PySem.W.specialIn K (.ref (ac_GaugeError K)) "__getattribute__" = some (some (.builtin "type.__getattribute__"))),
  fun K => PySem.W.readsIn K (ac_GaugeError K) (.type "type"),
  fun K => cbB K (ac_GaugeError K) "__init__" "ValueError.__init__",
  fun K => exB K (ac_DuplicateGauge K) [.ref (ac_GaugeError K), .type "ValueError", .type "Exception", .type "BaseException", .type "object"],
  fun K => decide (PySem.W.findIn K (.ref (ac_DuplicateGauge K)) "__setattr__" = some (some (.builtin "object.__setattr__"))),
  fun K => decide (PySem.W.findIn K (.ref (ac_DuplicateGauge K)) "__getattribute__" = some (some (.builtin "BaseException.__getattribute__"))),
  fun K => decide (PySem.W.findIn K (.ref (ac_DuplicateGauge K)) "__getattr__" = some none),
  fun K => PySem.W.keepIn K (.ref (ac_DuplicateGauge K)),
  fun K => decide (PySem.W.subIn K (.ref (ac_DuplicateGauge K)) (.type "BaseException") = some true),
  fun K => decide (PySem.W.typeIn K (.ref (ac_DuplicateGauge K)) = some (.type "type")),
  fun K => PySem.W.hasDictIn K (ac_DuplicateGauge K),
  fun K => PySem.W.isClsIn K (ac_DuplicateGauge K),
  fun K => decide (PySem.W.findIn K (.ref (ac_DuplicateGauge K)) "name" = some none),
  fun K => exB K (ac_MissingReading K) [.ref (ac_GaugeError K), .type "ValueError", .type "Exception", .type "BaseException", .type "object"],
  fun K => decide (PySem.W.findIn K (.ref (ac_MissingReading K)) "__setattr__" = some (some (.builtin "object.__setattr__"))),
  fun K => decide (PySem.W.findIn K (.ref (ac_MissingReading K)) "__getattribute__" = some (some (.builtin "BaseException.__getattribute__"))),
  fun K => decide (PySem.W.findIn K (.ref (ac_MissingReading K)) "__getattr__" = some none),
  fun K => PySem.W.keepIn K (.ref (ac_MissingReading K)),
  fun K => decide (PySem.W.subIn K (.ref (ac_MissingReading K)) (.type "BaseException") = some true),
  fun K => decide (PySem.W.typeIn K (.ref (ac_MissingReading K)) = some (.type "type")),
  fun K => PySem.W.hasDictIn K (ac_MissingReading K),
  fun K => PySem.W.isClsIn K (ac_MissingReading K),
  fun K => decide (PySem.W.findIn K (.ref (ac_MissingReading K)) "name" = some none),
  fun K => exB K (ac_BadRule K) [.ref (ac_GaugeError K), .type "ValueError", .type "Exception", .type "BaseException", .type "object"],
  fun K => decide (PySem.W.findIn K (.ref (ac_BadRule K)) "__setattr__" = some (some (.builtin "object.__setattr__"))),
  fun K => decide (PySem.W.findIn K (.ref (ac_BadRule K)) "__getattribute__" = some (some (.builtin "BaseException.__getattribute__"))),
  fun K => decide (PySem.W.findIn K (.ref (ac_BadRule K)) "__getattr__" = some none),
  fun K => PySem.W.keepIn K (.ref (ac_BadRule K)),
  fun K => decide (PySem.W.subIn K (.ref (ac_BadRule K)) (.type "BaseException") = some true),
  fun K => decide (PySem.W.typeIn K (.ref (ac_BadRule K)) = some (.type "type")),
  fun K => PySem.W.hasDictIn K (ac_BadRule K),
  fun K => PySem.W.isClsIn K (ac_BadRule K),
  fun K => decide (PySem.W.findIn K (.ref (ac_BadRule K)) "kind" = some none),
  fun K => exB K (ac_NotRanked K) [.ref (ac_GaugeError K), .type "ValueError", .type "Exception", .type "BaseException", .type "object"],
  fun K => decide (PySem.W.findIn K (.ref (ac_NotRanked K)) "__setattr__" = some (some (.builtin "object.__setattr__"))),
  fun K => decide (PySem.W.findIn K (.ref (ac_NotRanked K)) "__getattribute__" = some (some (.builtin "BaseException.__getattribute__"))),
  fun K => decide (PySem.W.findIn K (.ref (ac_NotRanked K)) "__getattr__" = some none),
  fun K => PySem.W.keepIn K (.ref (ac_NotRanked K)),
  fun K => decide (PySem.W.subIn K (.ref (ac_NotRanked K)) (.type "BaseException") = some true),
  fun K => decide (PySem.W.typeIn K (.ref (ac_NotRanked K)) = some (.type "type")),
  fun K => PySem.W.hasDictIn K (ac_NotRanked K),
  fun K => PySem.W.isClsIn K (ac_NotRanked K),
  fun K => exB K (ac_NoRule K) [.ref (ac_GaugeError K), .type "ValueError", .type "Exception", .type "BaseException", .type "object"],
  fun K => decide (PySem.W.findIn K (.ref (ac_NoRule K)) "__setattr__" = some (some (.builtin "object.__setattr__"))),
  fun K => decide (PySem.W.findIn K (.ref (ac_NoRule K)) "__getattribute__" = some (some (.builtin "BaseException.__getattribute__")))]
def ex_5 : List (PySem.W.Frag → Bool) := [
  fun K => decide (PySem.W.findIn K (.ref (ac_NoRule K)) "__getattr__" = some none),
  fun K => PySem.W.keepIn K (.ref (ac_NoRule K)),
  fun K => decide (PySem.W.subIn K (.ref (ac_NoRule K)) (.type "BaseException") = some true),
  fun K => decide (PySem.W.typeIn K (.ref (ac_NoRule K)) = some (.type "type")),
  fun K => PySem.W.hasDictIn K (ac_NoRule K),
  fun K => PySem.W.isClsIn K (ac_NoRule K),
  fun K => decide (PySem.W.findIn K (.ref (ac_NoRule K)) "reply" = some none),
  fun K => PySem.W.plainGet K (ac_Finder K) Str.empty,
  fun K => PySem.W.hasDictIn K (ac_Finder K),
  fun K => PySem.W.plainOver K (ac_Finder K),
  fun K => decide (PySem.W.findIn K (.ref (ac_Finder K)) "__setattr__" = some (some (.builtin "object.__setattr__"))),
  fun K => decide (PySem.W.findIn K (.ref (ac_Finder K)) "__class__" = some (some (.builtin "object.__class__"))),
  fun K => decide (PySem.W.specialIn K (.builtin "object.__class__") "__get__" = some (some (.builtin "getset_descriptor.__get__"))),
  fun K => decide (PySem.W.takesIn K (.builtin "object.__class__") = some true),
  fun K => decide (PySem.W.mroIn K (ac_Finder K) (.type "object") = some true),
  fun K => decide (PySem.W.findIn K (.ref (ac_Finder K)) "_rules" = some none),
  fun K => decide (PySem.W.findIn K (.ref (ac_Finder K)) "_left" = some none),
  fun K => PySem.W.plainGet K (ac_Leaf K) Str.empty,
  fun K => PySem.W.hasDictIn K (ac_Leaf K),
  fun K => PySem.W.plainOver K (ac_Leaf K),
  fun K => decide (PySem.W.findIn K (.ref (ac_Leaf K)) "__setattr__" = some (some (.builtin "object.__setattr__"))),
  fun K => decide (PySem.W.findIn K (.ref (ac_Leaf K)) "__class__" = some (some (.builtin "object.__class__"))),
  fun K => decide (PySem.W.mroIn K (ac_Leaf K) (.type "object") = some true),
  fun K => decide (PySem.W.findIn K (.ref (ac_Leaf K)) "label" = some none),
  fun K => decide (PySem.W.findIn K (.ref (ac_Leaf K)) "numbers" = some none),
  fun K => decide (PySem.W.findIn K (.ref (ac_Leaf K)) "parts" = some none),
  fun K => decide (PySem.W.findIn K (.ref (ac_Leaf K)) "ranked" = some none),
  fun K => PySem.W.plainGet K (ac_Rank K) Str.empty,
  fun K => PySem.W.hasDictIn K (ac_Rank K),
  fun K => PySem.W.plainOver K (ac_Rank K),
  fun K => decide (PySem.W.findIn K (.ref (ac_Rank K)) "__setattr__" = some (some (.builtin "object.__setattr__"))),
  fun K => decide (PySem.W.findIn K (.ref (ac_Rank K)) "__class__" = some (some (.builtin "object.__class__"))),
  fun K => decide (PySem.W.mroIn K (ac_Rank K) (.type "object") = some true),
  fun K => decide (PySem.W.findIn K (.ref (ac_Rank K)) "label" = some none),
  fun K => decide (PySem.W.findIn K (.ref (ac_Rank K)) "numbers" = some none),
  fun K => decide (PySem.W.findIn K (.ref (ac_Rank K)) "parts" = some none),
  fun K => decide (PySem.W.findIn K (.ref (ac_Rank K)) "ranked" = some none),
  fun K => PySem.W.plainGet K (ac_Trim K) Str.empty,
  fun K => PySem.W.hasDictIn K (ac_Trim K),
  fun K => PySem.W.plainOver K (ac_Trim K),
  fun K => decide (PySem.W.findIn K (.ref (ac_Trim K)) "__setattr__" = some (some (.builtin "object.__setattr__"))),
  fun K => decide (PySem.W.findIn K (.ref (ac_Trim K)) "__class__" = some (some (.builtin "object.__class__"))),
  fun K => decide (PySem.W.mroIn K (ac_Trim K) (.type "object") = some true),
  fun K => decide (PySem.W.findIn K (.ref (ac_Trim K)) "label" = some none),
  fun K => decide (PySem.W.findIn K (.ref (ac_Trim K)) "numbers" = some none),
  fun K => decide (PySem.W.findIn K (.ref (ac_Trim K)) "parts" = some none),
  fun K => decide (PySem.W.findIn K (.ref (ac_Trim K)) "ranked" = some none),
  fun K => PySem.W.plainGet K (ac_Weigh K) Str.empty,
  fun K => PySem.W.hasDictIn K (ac_Weigh K),
  fun K => PySem.W.plainOver K (ac_Weigh K),
  fun K => decide (PySem.W.findIn K (.ref (ac_Weigh K)) "__setattr__" = some (some (.builtin "object.__setattr__"))),
  fun K => decide (PySem.W.findIn K (.ref (ac_Weigh K)) "__class__" = some (some (.builtin "object.__class__"))),
  fun K => decide (PySem.W.mroIn K (ac_Weigh K) (.type "object") = some true),
  fun K => decide (PySem.W.findIn K (.ref (ac_Weigh K)) "label" = some none),
  fun K => decide (PySem.W.findIn K (.ref (ac_Weigh K)) "numbers" = some none),
  fun K => decide (PySem.W.findIn K (.ref (ac_Weigh K)) "parts" = some none),
  fun K => decide (PySem.W.findIn K (.ref (ac_Weigh K)) "ranked" = some none),
  fun K => decide (PySem.W.specialIn K (.ref (ac_Rule K)) "__getattribute__" = some (some (.builtin "type.__getattribute__"))),
  fun K => PySem.W.readsIn K (ac_Rule K) (.type "type"),
  fun K => cvB K (ac_Rule K) "__init__" (af_12 K)]
def ex_6 : List (PySem.W.Frag → Bool) := [
  fun K => decide (PySem.W.findIn K (.ref (ac_Weigh K)) "_weight_up_to" = some (some (.ref (af_23 K)))),
  fun K => decide (PySem.W.findIn K (.ref (ac_Leaf K)) "answer" = some (some (.ref (af_25 K)))),
  fun K => decide (PySem.W.findIn K (.ref (ac_Rank K)) "answer" = some (some (.ref (af_26 K)))),
  fun K => decide (PySem.W.findIn K (.ref (ac_Trim K)) "answer" = some (some (.ref (af_26 K)))),
  fun K => decide (PySem.W.findIn K (.ref (ac_Weigh K)) "answer" = some (some (.ref (af_26 K)))),
  fun K => decide (PySem.W.findIn K (.ref (ac_Rank K)) "counted" = some (some (.ref (af_21 K)))),
  fun K => decide (PySem.W.findIn K (.ref (ac_Trim K)) "counted" = some (some (.ref (af_22 K)))),
  fun K => decide (PySem.W.findIn K (.ref (ac_Weigh K)) "counted" = some (some (.ref (af_24 K)))),
  fun K => decide (PySem.W.findIn K (.ref (ac_Leaf K)) "names" = some (some (.ref (af_10 K)))),
  fun K => decide (PySem.W.findIn K (.ref (ac_Rank K)) "names" = some (some (.ref (af_11 K)))),
  fun K => decide (PySem.W.findIn K (.ref (ac_Trim K)) "names" = some (some (.ref (af_11 K)))),
  fun K => decide (PySem.W.findIn K (.ref (ac_Weigh K)) "names" = some (some (.ref (af_11 K)))),
  fun K => decide (PySem.W.nsIn K mainGlobals "all" = some none),
  fun K => decide (PySem.W.nsIn K mainGlobals "any" = some none),
  fun K => decide (PySem.W.nsIn K mainGlobals "enumerate" = some none),
  fun K => decide (PySem.W.nsIn K mainGlobals "int" = some none),
  fun K => decide (PySem.W.nsIn K mainGlobals "len" = some none),
  fun K => decide (PySem.W.nsIn K mainGlobals "list" = some none),
  fun K => decide (PySem.W.nsIn K mainGlobals "min" = some none),
  fun K => decide (PySem.W.nsIn K mainGlobals "range" = some none),
  fun K => decide (PySem.W.nsIn K mainGlobals "sorted" = some none),
  fun K => decide (PySem.W.nsIn K mainGlobals "sum" = some none),
  fun K => decide (PySem.W.nsIn K mainGlobals "tuple" = some none),
  fun K => decide (PySem.W.nsIn K mainGlobals "zip" = some none)]
def exs : List (PySem.W.Frag → Bool) := ex_0 ++ ex_1 ++ ex_2 ++ ex_3 ++ ex_4 ++ ex_5 ++ ex_6
def fns : List FxS := [
  ⟨af_1, "_law_take", "_law_take", s_take, []⟩,
  ⟨af_2, "_law_box", "_law_box", s_box, []⟩,
  ⟨af_3, "_law_word", "_law_word", s_word, []⟩,
  ⟨af_4, "_law_words", "_law_words", s_words, []⟩,
  ⟨af_5, "_law_node", "_law_node", s_node, []⟩,
  ⟨af_6, "_law_tree", "_law_tree", s_tree, []⟩,
  ⟨af_7, "__init__", "DuplicateGauge.__init__", s_DuplicateGauge_init, []⟩,
  ⟨af_8, "__init__", "MissingReading.__init__", s_MissingReading_init, []⟩,
  ⟨af_9, "__init__", "BadRule.__init__", s_BadRule_init, []⟩,
  ⟨af_10, "names", "Leaf.names", s_Leaf_names, []⟩,
  ⟨af_11, "names", "Rule.names", s_Rule_names, []⟩,
  ⟨af_12, "__init__", "Rule.__init__", s_Rule_init, []⟩,
  ⟨af_13, "__init__", "Leaf.__init__", s_Leaf_init, []⟩,
  ⟨af_14, "__init__", "Rank.__init__", s_Rank_init, []⟩,
  ⟨af_15, "of", "Rank.of", s_Rank_of, []⟩,
  ⟨af_16, "__init__", "Trim.__init__", s_Trim_init, []⟩,
  ⟨af_17, "of", "Trim.of", s_Trim_of, []⟩,
  ⟨af_18, "__init__", "Weigh.__init__", s_Weigh_init, []⟩,
  ⟨af_19, "of", "Weigh.of", s_Weigh_of, []⟩,
  ⟨af_20, "_law_rule", "_law_rule", s_rule, []⟩,
  ⟨af_21, "counted", "Rank.counted", s_Rank_counted, []⟩,
  ⟨af_22, "counted", "Trim.counted", s_Trim_counted, []⟩,
  ⟨af_23, "_weight_up_to", "Weigh._weight_up_to", s_Weigh_weight_up_to, []⟩,
  ⟨af_24, "counted", "Weigh.counted", s_Weigh_counted, []⟩,
  ⟨af_25, "answer", "Leaf.answer", s_Leaf_answer, []⟩,
  ⟨af_26, "answer", "Rule.answer", s_Rule_answer, []⟩,
  ⟨af_27, "_law_joined", "_law_joined", s_joined, []⟩,
  ⟨af_28, "_law_answer", "_law_answer", s_answer, []⟩,
  ⟨af_29, "_law_some", "_law_some", s_some, []⟩,
  ⟨af_30, "_law_leaves", "_law_leaves", s_leaves, []⟩,
  ⟨af_31, "__init__", "NotRanked.__init__", s_NotRanked_init, []⟩,
  ⟨af_32, "_refuse_trims", "_refuse_trims", s_m_refuse_trims, []⟩,
  ⟨af_33, "_bit_readings", "_bit_readings", s_m_bit_readings, []⟩,
  ⟨af_34, "_first_difference", "_first_difference", s_m_first_difference, []⟩,
  ⟨af_35, "differ", "differ", s_m_differ, []⟩,
  ⟨af_36, "alike", "alike", s_m_alike, []⟩,
  ⟨af_37, "__init__", "NoRule.__init__", s_NoRule_init, []⟩,
  ⟨af_38, "__init__", "Finder.__init__", s_Finder_init, []⟩,
  ⟨af_39, "of", "Finder.of", s_Finder_of, []⟩,
  ⟨af_40, "left", "Finder.left", s_Finder_left, []⟩,
  ⟨af_41, "tell", "Finder.tell", s_Finder_tell, []⟩,
  ⟨af_42, "question", "Finder.question", s_Finder_question, []⟩,
  ⟨af_43, "_law_power", "_law_power", s_power, []⟩,
  ⟨af_44, "_law_split", "_law_split", s_split, []⟩,
  ⟨af_45, "_law_first", "_law_first", s_first, []⟩,
  ⟨af_46, "_law_found", "_law_found", s_found, []⟩,
  ⟨af_47, "law", "law", s_law, []⟩]
theorem facts {l : PySem.W.OpenLaw} {w : World} {K : PySem.W.Frag} {h : Heap} {mg : Str → Option Value} {fa : Addr} (X : K.In h) (G : h.Ns mainGlobals mg) (hfa : mg "law" = some (.ref fa)) (c : SaysB exs fns K) :
    ∃ fd : FuncData, (∀ (s : Shared) (v : Value), BindsTo s fd ⟨[v], []⟩ [("_law_script", v)]) ∧ ∀ base : Heap, K.In base → base.Ns mainGlobals mg → FnOk l.prog w K mg base CX0 26 fa fd ["_law_script"] (spLaw K) := by
  obtain ⟨oc1, od1, sl1, dc1, pm1, an1, ct1, l1⟩ := fx_ok (c.fnc 0)
  rw [show fxD K (af_1 K) = Value.none from of_decide_eq_true (c.fact 13)] at l1
  obtain ⟨oc2, od2, sl2, dc2, pm2, an2, ct2, l2⟩ := fx_ok (c.fnc 1)
  rw [show fxD K (af_2 K) = Value.none from of_decide_eq_true (c.fact 17)] at l2
  obtain ⟨oc3, od3, sl3, dc3, pm3, an3, ct3, l3⟩ := fx_ok (c.fnc 2)
  rw [show fxD K (af_3 K) = Value.none from of_decide_eq_true (c.fact 21)] at l3
  obtain ⟨oc4, od4, sl4, dc4, pm4, an4, ct4, l4⟩ := fx_ok (c.fnc 3)
  rw [show fxD K (af_4 K) = Value.none from of_decide_eq_true (c.fact 25)] at l4
  obtain ⟨oc5, od5, sl5, dc5, pm5, an5, ct5, l5⟩ := fx_ok (c.fnc 4)
  rw [show fxD K (af_5 K) = Value.none from of_decide_eq_true (c.fact 29)] at l5
  obtain ⟨oc6, od6, sl6, dc6, pm6, an6, ct6, l6⟩ := fx_ok (c.fnc 5)
  rw [show fxD K (af_6 K) = Value.none from of_decide_eq_true (c.fact 33)] at l6
  obtain ⟨oc7, od7, sl7, dc7, pm7, an7, ct7, l7⟩ := fx_ok (c.fnc 6)
  rw [show fxD K (af_7 K) = Value.none from of_decide_eq_true (c.fact 38)] at l7
  obtain ⟨oc8, od8, sl8, dc8, pm8, an8, ct8, l8⟩ := fx_ok (c.fnc 7)
  rw [show fxD K (af_8 K) = Value.none from of_decide_eq_true (c.fact 44)] at l8
  obtain ⟨oc9, od9, sl9, dc9, pm9, an9, ct9, l9⟩ := fx_ok (c.fnc 8)
  rw [show fxD K (af_9 K) = Value.none from of_decide_eq_true (c.fact 50)] at l9
  obtain ⟨oc10, od10, sl10, dc10, pm10, an10, ct10, l10⟩ := fx_ok (c.fnc 9)
  rw [show fxD K (af_10 K) = Value.none from of_decide_eq_true (c.fact 56)] at l10
  obtain ⟨oc11, od11, sl11, dc11, pm11, an11, ct11, l11⟩ := fx_ok (c.fnc 10)
  rw [show fxD K (af_11 K) = Value.none from of_decide_eq_true (c.fact 61)] at l11
  obtain ⟨oc12, od12, sl12, dc12, pm12, an12, ct12, l12⟩ := fx_ok (c.fnc 11)
  rw [show fxD K (af_12 K) = Value.none from of_decide_eq_true (c.fact 66)] at l12
  obtain ⟨oc13, od13, sl13, dc13, pm13, an13, ct13, l13⟩ := fx_ok (c.fnc 12)
  rw [show fxD K (af_13 K) = Value.none from of_decide_eq_true (c.fact 73)] at l13
  obtain ⟨oc14, od14, sl14, dc14, pm14, an14, ct14, l14⟩ := fx_ok (c.fnc 13)
  rw [show fxD K (af_14 K) = Value.none from of_decide_eq_true (c.fact 80)] at l14
  obtain ⟨rs15, mr15⟩ := recB_ok (c.fact 88)
  obtain ⟨oc15, od15, sl15, dc15, pm15, an15, ct15, l15⟩ := fx_ok (c.fnc 14)
  rw [show fxD K (af_15 K) = Value.none from of_decide_eq_true (c.fact 90)] at l15
  obtain ⟨oc16, od16, sl16, dc16, pm16, an16, ct16, l16⟩ := fx_ok (c.fnc 15)
  rw [show fxD K (af_16 K) = Value.none from of_decide_eq_true (c.fact 95)] at l16
  obtain ⟨rs17, mr17⟩ := recB_ok (c.fact 103)
  obtain ⟨oc17, od17, sl17, dc17, pm17, an17, ct17, l17⟩ := fx_ok (c.fnc 16)
  rw [show fxD K (af_17 K) = Value.none from of_decide_eq_true (c.fact 105)] at l17
  obtain ⟨oc18, od18, sl18, dc18, pm18, an18, ct18, l18⟩ := fx_ok (c.fnc 17)
  rw [show fxD K (af_18 K) = Value.none from of_decide_eq_true (c.fact 110)] at l18
  obtain ⟨rs19, mr19⟩ := recB_ok (c.fact 118)
  obtain ⟨oc19, od19, sl19, dc19, pm19, an19, ct19, l19⟩ := fx_ok (c.fnc 18)
  rw [show fxD K (af_19 K) = Value.none from of_decide_eq_true (c.fact 120)] at l19
  obtain ⟨oc20, od20, sl20, dc20, pm20, an20, ct20, l20⟩ := fx_ok (c.fnc 19)
  rw [show fxD K (af_20 K) = Value.none from of_decide_eq_true (c.fact 124)] at l20
  obtain ⟨oc21, od21, sl21, dc21, pm21, an21, ct21, l21⟩ := fx_ok (c.fnc 20)
  rw [show fxD K (af_21 K) = Value.none from of_decide_eq_true (c.fact 129)] at l21
  obtain ⟨oc22, od22, sl22, dc22, pm22, an22, ct22, l22⟩ := fx_ok (c.fnc 21)
  rw [show fxD K (af_22 K) = Value.none from of_decide_eq_true (c.fact 134)] at l22
  obtain ⟨oc23, od23, sl23, dc23, pm23, an23, ct23, l23⟩ := fx_ok (c.fnc 22)
  rw [show fxD K (af_23 K) = Value.none from of_decide_eq_true (c.fact 139)] at l23
  obtain ⟨oc24, od24, sl24, dc24, pm24, an24, ct24, l24⟩ := fx_ok (c.fnc 23)
  rw [show fxD K (af_24 K) = Value.none from of_decide_eq_true (c.fact 144)] at l24
  obtain ⟨oc25, od25, sl25, dc25, pm25, an25, ct25, l25⟩ := fx_ok (c.fnc 24)
  rw [show fxD K (af_25 K) = Value.none from of_decide_eq_true (c.fact 149)] at l25
  obtain ⟨oc26, od26, sl26, dc26, pm26, an26, ct26, l26⟩ := fx_ok (c.fnc 25)
  rw [show fxD K (af_26 K) = Value.none from of_decide_eq_true (c.fact 154)] at l26
  obtain ⟨oc27, od27, sl27, dc27, pm27, an27, ct27, l27⟩ := fx_ok (c.fnc 26)
  rw [show fxD K (af_27 K) = Value.none from of_decide_eq_true (c.fact 158)] at l27
  obtain ⟨oc28, od28, sl28, dc28, pm28, an28, ct28, l28⟩ := fx_ok (c.fnc 27)
  rw [show fxD K (af_28 K) = Value.none from of_decide_eq_true (c.fact 162)] at l28
  obtain ⟨oc29, od29, sl29, dc29, pm29, an29, ct29, l29⟩ := fx_ok (c.fnc 28)
  rw [show fxD K (af_29 K) = Value.none from of_decide_eq_true (c.fact 166)] at l29
  obtain ⟨oc30, od30, sl30, dc30, pm30, an30, ct30, l30⟩ := fx_ok (c.fnc 29)
  rw [show fxD K (af_30 K) = Value.none from of_decide_eq_true (c.fact 170)] at l30
  obtain ⟨oc31, od31, sl31, dc31, pm31, an31, ct31, l31⟩ := fx_ok (c.fnc 30)
  rw [show fxD K (af_31 K) = Value.none from of_decide_eq_true (c.fact 175)] at l31
  obtain ⟨oc32, od32, sl32, dc32, pm32, an32, ct32, l32⟩ := fx_ok (c.fnc 31)
  rw [show fxD K (af_32 K) = Value.none from of_decide_eq_true (c.fact 180)] at l32
  obtain ⟨oc33, od33, sl33, dc33, pm33, an33, ct33, l33⟩ := fx_ok (c.fnc 32)
  rw [show fxD K (af_33 K) = Value.none from of_decide_eq_true (c.fact 184)] at l33
  obtain ⟨oc34, od34, sl34, dc34, pm34, an34, ct34, l34⟩ := fx_ok (c.fnc 33)
  rw [show fxD K (af_34 K) = Value.none from of_decide_eq_true (c.fact 188)] at l34
  obtain ⟨oc35, od35, sl35, dc35, pm35, an35, ct35, l35⟩ := fx_ok (c.fnc 34)
  rw [show fxD K (af_35 K) = Value.none from of_decide_eq_true (c.fact 192)] at l35
  obtain ⟨oc36, od36, sl36, dc36, pm36, an36, ct36, l36⟩ := fx_ok (c.fnc 35)
  rw [show fxD K (af_36 K) = Value.none from of_decide_eq_true (c.fact 196)] at l36
  obtain ⟨oc37, od37, sl37, dc37, pm37, an37, ct37, l37⟩ := fx_ok (c.fnc 36)
  rw [show fxD K (af_37 K) = Value.none from of_decide_eq_true (c.fact 201)] at l37
  obtain ⟨oc38, od38, sl38, dc38, pm38, an38, ct38, l38⟩ := fx_ok (c.fnc 37)
  rw [show fxD K (af_38 K) = Value.none from of_decide_eq_true (c.fact 207)] at l38
  obtain ⟨rs39, mr39⟩ := recB_ok (c.fact 215)
  obtain ⟨oc39, od39, sl39, dc39, pm39, an39, ct39, l39⟩ := fx_ok (c.fnc 38)
  rw [show fxD K (af_39 K) = Value.none from of_decide_eq_true (c.fact 217)] at l39
  obtain ⟨oc40, od40, sl40, dc40, pm40, an40, ct40, l40⟩ := fx_ok (c.fnc 39)
  rw [show fxD K (af_40 K) = Value.none from of_decide_eq_true (c.fact 222)] at l40
  obtain ⟨oc41, od41, sl41, dc41, pm41, an41, ct41, l41⟩ := fx_ok (c.fnc 40)
  rw [show fxD K (af_41 K) = Value.none from of_decide_eq_true (c.fact 227)] at l41
  obtain ⟨oc42, od42, sl42, dc42, pm42, an42, ct42, l42⟩ := fx_ok (c.fnc 41)
  rw [show fxD K (af_42 K) = Value.none from of_decide_eq_true (c.fact 232)] at l42
  obtain ⟨oc43, od43, sl43, dc43, pm43, an43, ct43, l43⟩ := fx_ok (c.fnc 42)
  rw [show fxD K (af_43 K) = Value.none from of_decide_eq_true (c.fact 236)] at l43
  obtain ⟨oc44, od44, sl44, dc44, pm44, an44, ct44, l44⟩ := fx_ok (c.fnc 43)
  rw [show fxD K (af_44 K) = Value.none from of_decide_eq_true (c.fact 240)] at l44
  obtain ⟨oc45, od45, sl45, dc45, pm45, an45, ct45, l45⟩ := fx_ok (c.fnc 44)
  rw [show fxD K (af_45 K) = Value.none from of_decide_eq_true (c.fact 244)] at l45
  obtain ⟨oc46, od46, sl46, dc46, pm46, an46, ct46, l46⟩ := fx_ok (c.fnc 45)
  rw [show fxD K (af_46 K) = Value.none from of_decide_eq_true (c.fact 248)] at l46
  obtain ⟨oc47, od47, sl47, dc47, pm47, an47, ct47, l47⟩ := fx_ok (c.fnc 46)
  rw [show fxD K (af_47 K) = Value.none from of_decide_eq_true (c.fact 252)] at l47
  obtain ⟨_, _, _, _, _, _, _, _, _, _, _, _, _, _, xL_DuplicateGauge⟩ := exB_ok (c.fact 258)
  obtain ⟨_, _, _, _, _, _, _, _, _, _, _, _, _, _, xL_MissingReading⟩ := exB_ok (c.fact 268)
  obtain ⟨_, _, _, _, _, _, _, _, _, _, _, _, _, _, xL_BadRule⟩ := exB_ok (c.fact 278)
  obtain ⟨_, _, _, _, _, _, _, _, _, _, _, _, _, _, xL_NotRanked⟩ := exB_ok (c.fact 288)
  obtain ⟨_, _, _, _, _, _, _, _, _, _, _, _, _, _, xL_NoRule⟩ := exB_ok (c.fact 297)
  exact all_mk X G hfa (of_decide_eq_true (c.fact 0))
    (of_decide_eq_true (c.fact 1))
    (of_decide_eq_true (c.fact 2))
    (of_decide_eq_true (c.fact 3))
    (of_decide_eq_true (c.fact 4))
    (of_decide_eq_true (c.fact 5))
    (of_decide_eq_true (c.fact 6))
    (of_decide_eq_true (c.fact 7))
    (of_decide_eq_true (c.fact 8))
    (of_decide_eq_true (c.fact 9))
    (of_decide_eq_true (c.fact 10))
    (of_decide_eq_true (c.fact 11))
    (of_decide_eq_true (c.fact 12))
    l1
    (c.fact 14)
    (c.fact 15)
    (of_decide_eq_true (c.fact 16))
    l2
    (c.fact 18)
    (c.fact 19)
    (of_decide_eq_true (c.fact 20))
    l3
    (c.fact 22)
    (c.fact 23)
    (of_decide_eq_true (c.fact 24))
    l4
    (c.fact 26)
    (c.fact 27)
    (of_decide_eq_true (c.fact 28))
    l5
    (c.fact 30)
    (c.fact 31)
    (of_decide_eq_true (c.fact 32))
    l6
    (c.fact 34)
    (c.fact 35)
    (of_decide_eq_true (c.fact 36))
    (c.fact 37)
    l7
    (c.fact 39)
    (c.fact 40)
    (of_decide_eq_true (c.fact 41))
    (of_decide_eq_true (c.fact 42))
    (c.fact 43)
    l8
    (c.fact 45)
    (c.fact 46)
    (of_decide_eq_true (c.fact 47))
    (of_decide_eq_true (c.fact 48))
    (c.fact 49)
    l9
    (c.fact 51)
    (c.fact 52)
    (of_decide_eq_true (c.fact 53))
    (of_decide_eq_true (c.fact 54))
    (c.fact 55)
    l10
    (c.fact 57)
    (c.fact 58)
    (of_decide_eq_true (c.fact 59))
    (c.fact 60)
    l11
    (c.fact 62)
    (c.fact 63)
    (of_decide_eq_true (c.fact 64))
    (c.fact 65)
    l12
    (c.fact 67)
    (c.fact 68)
    (c.fact 69)
    (c.fact 70)
    (of_decide_eq_true (c.fact 71))
    (c.fact 72)
    l13
    (c.fact 74)
    (c.fact 75)
    (c.fact 76)
    (c.fact 77)
    (of_decide_eq_true (c.fact 78))
    (c.fact 79)
    l14
    (c.fact 81)
    (c.fact 82)
    (c.fact 83)
    (c.fact 84)
    (of_decide_eq_true (c.fact 85))
    (c.fact 86)
    (cgB_ok (c.fact 87))
    mr15
    (c.fact 89)
    l15
    (c.fact 91)
    (c.fact 92)
    (of_decide_eq_true (c.fact 93))
    (c.fact 94)
    l16
    (c.fact 96)
    (c.fact 97)
    (c.fact 98)
    (c.fact 99)
    (of_decide_eq_true (c.fact 100))
    (c.fact 101)
    (cgB_ok (c.fact 102))
    mr17
    (c.fact 104)
    l17
    (c.fact 106)
    (c.fact 107)
    (of_decide_eq_true (c.fact 108))
    (c.fact 109)
    l18
    (c.fact 111)
    (c.fact 112)
    (c.fact 113)
    (c.fact 114)
    (of_decide_eq_true (c.fact 115))
    (c.fact 116)
    (cgB_ok (c.fact 117))
    mr19
    (c.fact 119)
    l19
    (c.fact 121)
    (c.fact 122)
    (of_decide_eq_true (c.fact 123))
    l20
    (c.fact 125)
    (c.fact 126)
    (of_decide_eq_true (c.fact 127))
    (c.fact 128)
    l21
    (c.fact 130)
    (c.fact 131)
    (of_decide_eq_true (c.fact 132))
    (c.fact 133)
    l22
    (c.fact 135)
    (c.fact 136)
    (of_decide_eq_true (c.fact 137))
    (c.fact 138)
    l23
    (c.fact 140)
    (c.fact 141)
    (of_decide_eq_true (c.fact 142))
    (c.fact 143)
    l24
    (c.fact 145)
    (c.fact 146)
    (of_decide_eq_true (c.fact 147))
    (c.fact 148)
    l25
    (c.fact 150)
    (c.fact 151)
    (of_decide_eq_true (c.fact 152))
    (c.fact 153)
    l26
    (c.fact 155)
    (c.fact 156)
    (of_decide_eq_true (c.fact 157))
    l27
    (c.fact 159)
    (c.fact 160)
    (of_decide_eq_true (c.fact 161))
    l28
    (c.fact 163)
    (c.fact 164)
    (of_decide_eq_true (c.fact 165))
    l29
    (c.fact 167)
    (c.fact 168)
    (of_decide_eq_true (c.fact 169))
    l30
    (c.fact 171)
    (c.fact 172)
    (of_decide_eq_true (c.fact 173))
    (c.fact 174)
    l31
    (c.fact 176)
    (c.fact 177)
    (of_decide_eq_true (c.fact 178))
    (of_decide_eq_true (c.fact 179))
    l32
    (c.fact 181)
    (c.fact 182)
    (of_decide_eq_true (c.fact 183))
    l33
    (c.fact 185)
    (c.fact 186)
    (of_decide_eq_true (c.fact 187))
    l34
    (c.fact 189)
    (c.fact 190)
    (of_decide_eq_true (c.fact 191))
    l35
    (c.fact 193)
    (c.fact 194)
    (of_decide_eq_true (c.fact 195))
    l36
    (c.fact 197)
    (c.fact 198)
    (of_decide_eq_true (c.fact 199))
    (c.fact 200)
    l37
    (c.fact 202)
    (c.fact 203)
    (of_decide_eq_true (c.fact 204))
    (of_decide_eq_true (c.fact 205))
    (c.fact 206)
    l38
    (c.fact 208)
    (c.fact 209)
    (c.fact 210)
    (c.fact 211)
    (of_decide_eq_true (c.fact 212))
    (c.fact 213)
    (cgB_ok (c.fact 214))
    mr39
    (c.fact 216)
    l39
    (c.fact 218)
    (c.fact 219)
    (of_decide_eq_true (c.fact 220))
    (c.fact 221)
    l40
    (c.fact 223)
    (c.fact 224)
    (of_decide_eq_true (c.fact 225))
    (c.fact 226)
    l41
    (c.fact 228)
    (c.fact 229)
    (of_decide_eq_true (c.fact 230))
    (c.fact 231)
    l42
    (c.fact 233)
    (c.fact 234)
    (of_decide_eq_true (c.fact 235))
    l43
    (c.fact 237)
    (c.fact 238)
    (of_decide_eq_true (c.fact 239))
    l44
    (c.fact 241)
    (c.fact 242)
    (of_decide_eq_true (c.fact 243))
    l45
    (c.fact 245)
    (c.fact 246)
    (of_decide_eq_true (c.fact 247))
    l46
    (c.fact 249)
    (c.fact 250)
    (of_decide_eq_true (c.fact 251))
    l47
    (c.fact 253)
    (c.fact 254)
    (of_decide_eq_true (c.fact 255))
    (c.fact 256)
    (cbB_ok (c.fact 257))
    xL_DuplicateGauge
    (of_decide_eq_true (c.fact 259))
    (of_decide_eq_true (c.fact 260))
    (of_decide_eq_true (c.fact 261))
    (c.fact 262)
    (of_decide_eq_true (c.fact 263))
    (of_decide_eq_true (c.fact 264))
    (c.fact 265)
    (c.fact 266)
    (of_decide_eq_true (c.fact 267))
    xL_MissingReading
    (of_decide_eq_true (c.fact 269))
    (of_decide_eq_true (c.fact 270))
    (of_decide_eq_true (c.fact 271))
    (c.fact 272)
    (of_decide_eq_true (c.fact 273))
    (of_decide_eq_true (c.fact 274))
    (c.fact 275)
    (c.fact 276)
    (of_decide_eq_true (c.fact 277))
    xL_BadRule
    (of_decide_eq_true (c.fact 279))
    (of_decide_eq_true (c.fact 280))
    (of_decide_eq_true (c.fact 281))
    (c.fact 282)
    (of_decide_eq_true (c.fact 283))
    (of_decide_eq_true (c.fact 284))
    (c.fact 285)
    (c.fact 286)
    (of_decide_eq_true (c.fact 287))
    xL_NotRanked
    (of_decide_eq_true (c.fact 289))
    (of_decide_eq_true (c.fact 290))
    (of_decide_eq_true (c.fact 291))
    (c.fact 292)
    (of_decide_eq_true (c.fact 293))
    (of_decide_eq_true (c.fact 294))
    (c.fact 295)
    (c.fact 296)
    xL_NoRule
    (of_decide_eq_true (c.fact 298))
    (of_decide_eq_true (c.fact 299))
    (of_decide_eq_true (c.fact 300))
    (c.fact 301)
    (of_decide_eq_true (c.fact 302))
    (of_decide_eq_true (c.fact 303))
    (c.fact 304)
    (c.fact 305)
    (of_decide_eq_true (c.fact 306))
    (c.fact 307)
    (c.fact 308)
    (c.fact 309)
    (of_decide_eq_true (c.fact 310))
    (of_decide_eq_true (c.fact 311))
    (of_decide_eq_true (c.fact 312))
    (of_decide_eq_true (c.fact 313))
    (of_decide_eq_true (c.fact 314))
    (of_decide_eq_true (c.fact 315))
    (of_decide_eq_true (c.fact 316))
    (c.fact 317)
    (c.fact 318)
    (c.fact 319)
    (of_decide_eq_true (c.fact 320))
    (of_decide_eq_true (c.fact 321))
    (of_decide_eq_true (c.fact 322))
    (of_decide_eq_true (c.fact 323))
    (of_decide_eq_true (c.fact 324))
    (of_decide_eq_true (c.fact 325))
    (of_decide_eq_true (c.fact 326))
    (c.fact 327)
    (c.fact 328)
    (c.fact 329)
    (of_decide_eq_true (c.fact 330))
    (of_decide_eq_true (c.fact 331))
    (of_decide_eq_true (c.fact 332))
    (of_decide_eq_true (c.fact 333))
    (of_decide_eq_true (c.fact 334))
    (of_decide_eq_true (c.fact 335))
    (of_decide_eq_true (c.fact 336))
    (c.fact 337)
    (c.fact 338)
    (c.fact 339)
    (of_decide_eq_true (c.fact 340))
    (of_decide_eq_true (c.fact 341))
    (of_decide_eq_true (c.fact 342))
    (of_decide_eq_true (c.fact 343))
    (of_decide_eq_true (c.fact 344))
    (of_decide_eq_true (c.fact 345))
    (of_decide_eq_true (c.fact 346))
    (c.fact 347)
    (c.fact 348)
    (c.fact 349)
    (of_decide_eq_true (c.fact 350))
    (of_decide_eq_true (c.fact 351))
    (of_decide_eq_true (c.fact 352))
    (of_decide_eq_true (c.fact 353))
    (of_decide_eq_true (c.fact 354))
    (of_decide_eq_true (c.fact 355))
    (of_decide_eq_true (c.fact 356))
    (of_decide_eq_true (c.fact 357))
    (c.fact 358)
    (cvB_ok (c.fact 359))
    (of_decide_eq_true (c.fact 360))
    (of_decide_eq_true (c.fact 361))
    (of_decide_eq_true (c.fact 362))
    (of_decide_eq_true (c.fact 363))
    (of_decide_eq_true (c.fact 364))
    (of_decide_eq_true (c.fact 365))
    (of_decide_eq_true (c.fact 366))
    (of_decide_eq_true (c.fact 367))
    (of_decide_eq_true (c.fact 368))
    (of_decide_eq_true (c.fact 369))
    (of_decide_eq_true (c.fact 370))
    (of_decide_eq_true (c.fact 371))
    (of_decide_eq_true (c.fact 372))
    (of_decide_eq_true (c.fact 373))
    (of_decide_eq_true (c.fact 374))
    (of_decide_eq_true (c.fact 375))
    (of_decide_eq_true (c.fact 376))
    (of_decide_eq_true (c.fact 377))
    (of_decide_eq_true (c.fact 378))
    (of_decide_eq_true (c.fact 379))
    (of_decide_eq_true (c.fact 380))
    (of_decide_eq_true (c.fact 381))
    (of_decide_eq_true (c.fact 382))
    (of_decide_eq_true (c.fact 383))
def loose_0 : List PySem.Str := ["_wall", "__name__", "GaugeError", "DuplicateGauge", "MissingReading", "BadRule", "NotRanked", "NoRule", "_refuse_trims", "_bit_readings", "_first_difference", "differ", "alike", "Finder", "Rule", "Leaf", "Rank", "Trim", "Weigh", "_law_box", "_law_take", "_law_word", "_law_words", "_law_node", "_law_tree", "_law_rule", "_law_some", "_law_joined", "_law_answer", "_law_leaves"]
def loose_1 : List PySem.Str := ["_law_power", "_law_split", "_law_first", "_law_found"]
def looseN : List PySem.Str := loose_0 ++ loose_1
abbrev RR : PySem.W.OpenRow := PySem.W.OpenLaw.row PySem.Challenge.rw_gaugemiss_k87_whole_nine_names
abbrev hkB : PySem.W.Hook := hookB 6 exs fns
def obR (s : PySem.W.SharedT) : Bool × List FxV := obsBG 6 exs fns (HandSHeadRun.getT s)
theorem obR_eq (s : PySem.W.SharedT) : obR s = hkB.obs s.abs := obsBG_eq (HandSHeadRun.getT_eq s)
set_option maxHeartbeats 0 in
theorem runA (w : World) (os : OsState) : (HandSHeadRun.endF (HandSHeadRun.stepQ (HandSHeadRun.denQ HandSHeadRun.tabQ) RR.prog w) 40000 RR.prog w os).map (fun s => (HandSHeadRun.looksF RR.prog (PySem.W.boot_heap w.params) s.abs, HandSHeadRun.seenQ (PySem.W.view RR.prog [37]) looseN (importedModules RR.prog.main.body) (fun s => PySem.W.xlAt (PySem.W.view RR.prog [37]) [] s && PySem.W.recOk RR.toRowW.records s) s.abs)) = some (true, PySem.W.openGood (PySem.W.view RR.prog [37]) looseN) := by
  kernel_rfl
set_option maxHeartbeats 0 in
theorem runB (w : World) (os : OsState) : (HandSHeadRun.endF (HandSHeadRun.stepQ (HandSHeadRun.denQ HandSHeadRun.tabQ) RR.prog w) 40000 RR.prog w os).map obR = some (valB fns) := by
  kernel_rfl
theorem runR (w : World) : HandSHeadRun.RunEq RR (PySem.W.view RR.prog [37]) hkB obR 40000 looseN w := by
  intro os
  obtain ⟨s, hs, ha⟩ := Option.map_eq_some_iff.mp (runA w os)
  obtain ⟨s2, hs2, hb⟩ := Option.map_eq_some_iff.mp (runB w os)
  rw [hs] at hs2
  cases hs2
  rw [hs]
  exact some3 (Prod.mk.inj ha).1 (Prod.mk.inj ha).2 hb
end Lw
open PySem PySem.W PyProof.Rows
set_option maxRecDepth 100000 in
set_option maxHeartbeats 0 in
theorem PySem.Challenge.cw_gaugemiss_k87_whole_nine_names_holds : PySem.Challenge.rw_gaugemiss_k87_whole_nine_names.Holds := by
  w_on; o_law
  refine HandSHeadRun.head_any (r := OpenLaw.row PySem.Challenge.rw_gaugemiss_k87_whole_nine_names) (q := view (OpenLaw.row PySem.Challenge.rw_gaugemiss_k87_whole_nine_names).prog [37]) (H := Lw.hkB) (ob := Lw.obR) (M := 40000) (loose := Lw.looseN) (d := HandSHeadRun.topDef (OpenLaw.row PySem.Challenge.rw_gaugemiss_k87_whole_nine_names).prog 37) (kwd := []) Lw.obR_eq
    (by kernel_rfl) (fun s => by kernel_rfl) Lw.runR (by kernel_rfl) (by kernel_rfl) (by kernel_rfl) (by rfl) (by first | assumption | decide +kernel) (by decide +kernel) ⟨rfl, rfl, rfl, rfl, rfl, by decide +kernel⟩ ?hw ?hc
  case hw => w_witness2
  case hc =>
    refine L2.walk_ofE (l := PySem.Challenge.rw_gaugemiss_k87_whole_nine_names) (n := 63) (k := 26) (x := "_law_script") (CX := L2.CX0) rfl (by decide) (by kernel_rfl) ⟨rfl, by decide, by decide⟩ ?F (fun _ _ _ _ z => z)
    intro w mg fa h Y G hmg0
    obtain ⟨K, KX, c⟩ := Y
    have hmg : mg ("law" : PySem.Str) = some (.ref fa) := by
      have e : (HandSHeadRun.topDef (OpenLaw.row PySem.Challenge.rw_gaugemiss_k87_whole_nine_names).prog 37).name = ("law" : PySem.Str) := by kernel_rfl
      rw [← e]
      exact hmg0
    obtain ⟨fd, hb, hF⟩ := Lw.facts (l := PySem.Challenge.rw_gaugemiss_k87_whole_nine_names) (w := w) KX G hmg c
    exact ⟨K, fd, Lw.spLaw K, KX, hb, fun H a ns hl _ hS => ⟨a, ns, rfl, hS, hl, fun _ => rfl⟩, hF⟩
