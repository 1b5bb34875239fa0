import PyProof.Rows.All
import Wide.All
import OpenK.AllK
import Wide.FinOn
import PyProof.EqAt
import PyProof.EqKinds
import PyProof.TupleCall
import HandS.ForMost
import HandS.ForExc
import HandS.Gcd
import HandS.WideBits
import HandS.IsInst
import HandS.ExcInit
import HandS.RaiseMore
import HandS.TryMany
import HandS.Wide
import HandS.ExcField
import HandS.ExcIs
import PyProof.ReprRoads
import PyProof.Rows.IntBool
import HandS.Style
import KE.KExcIs
import HandS.Small
import HandS.WordsExc
import HandS.Ends
import PySem.Challenge.RW_whichpaces_k10_ratios_reckoned
set_option Elab.async false
set_option linter.all false
set_option maxRecDepth 100000
set_option maxHeartbeats 4000000
/-! Sh, part A: plain values, their relation to the tracked heap, results. -/
namespace Sh
open PySem PySem.Spec PyProof.Rows L2

/-- a plain value: tuples are trees, lists stand in a store and are told by their number; a locked list is a tree; rep d is the text repr gives of the datum d -/
inductive C where
  | non | bl (b : Bool) | int (i : Int) | str (x : Str) | tup (xs : List C) | ref (n : Nat) | frz (xs : List C) | rep (d : PyData)
deriving Inhabited

abbrev Hc := List (List C)
abbrev Sl := List (Option C)

/-- a list that none writes: one that stood before, one of the program's own -/
def FzL (K : PySem.W.Frag) (H : Hp) (a : Addr) (vs : List V) : Prop :=
  (∃ o, H a = some (.frz o (.lst vs))) ∨ ∃ (o : Obj) (its : Array Value) (n : Nat), K.lookup a = some o ∧ o.cls = .type "list" ∧ o.dict = none ∧ o.data = .seq its n ∧ its.size ≤ sizeLine ∧ Vals vs its.toList
theorem FzL.sq {K : PySem.W.Frag} {H : Hp} {a : Addr} {vs : List V} (h : FzL K H a vs) : SqL K H a vs := by
  rcases h with ⟨o, h⟩ | h
  · exact .inl (.inr ⟨o, h⟩)
  · exact .inr h
mutual
def RV (K : PySem.W.Frag) (m : List Addr) (H : Hp) : C → V → Prop
  | .non, v => v = .non
  | .bl b, v => v = .bl b
  | .int i, v => v = .int i
  | .str x, v => v = .str x
  | .tup cs, v => ∃ a vs, v = .ref a ∧ SqT K H a vs ∧ RVs K m H cs vs
  | .ref n, v => ∃ a, m[n]? = some a ∧ v = .ref a
  | .frz cs, v => ∃ a vs, v = .ref a ∧ FzL K H a vs ∧ RVs K m H cs vs
  | .rep d, v => v = .str d.shown ∧ d.canLay0 = true
def RVs (K : PySem.W.Frag) (m : List Addr) (H : Hp) : List C → List V → Prop
  | [], vs => vs = []
  | c :: cs, vs => ∃ v r, vs = v :: r ∧ RV K m H c v ∧ RVs K m H cs r
end

/-- what stays from one moment to a later one -/
structure Ext (K : PySem.W.Frag) (m : List Addr) (H : Hp) (m' : List Addr) (H' : Hp) : Prop where
  pre : ∀ (n : Nat) (a : Addr), m[n]? = some a → m'[n]? = some a
  fr : ∀ b o, H b = some o → b ∉ m → b ∉ m' ∧ H' b = some o
  tu : ∀ a xs, SqT K H a xs → SqT K H' a xs
  fz : ∀ a o u, H a = some (.frz o u) → H' a = some (.frz o u)

section
variable {K : PySem.W.Frag} {m m' m2 : List Addr} {H H' H2 : Hp}
theorem Ext.refl : Ext K m H m H := ⟨fun _ _ h => h, fun _ _ h n => ⟨n, h⟩, fun _ _ h => h, fun _ _ _ h => h⟩
theorem Ext.trans (a : Ext K m H m' H') (b : Ext K m' H' m2 H2) : Ext K m H m2 H2 :=
  ⟨fun n x h => b.pre n x (a.pre n x h), fun x o h n => let ⟨n1, h1⟩ := a.fr x o h n; b.fr x o h1 n1, fun x xs h => b.tu x xs (a.tu x xs h), fun x o u h => b.fz x o u (a.fz x o u h)⟩

mutual
theorem RV.ext (e : Ext K m H m' H') : ∀ {c : C} {v : V}, RV K m H c v → RV K m' H' c v
  | .non, _, h => h
  | .bl _, _, h => h
  | .int _, _, h => h
  | .str _, _, h => h
  | .tup cs, _, h => by
    obtain ⟨a, vs, e1, e2, e3⟩ := h
    exact ⟨a, vs, e1, e.tu _ _ e2, RVs.ext e e3⟩
  | .ref n, _, h => by
    obtain ⟨a, e1, e2⟩ := h
    exact ⟨a, e.pre _ _ e1, e2⟩
  | .frz cs, _, h => by
    obtain ⟨a, vs, e1, e2, e3⟩ := h
    exact ⟨a, vs, e1, e2.imp (fun ⟨o, q⟩ => ⟨o, e.fz _ _ _ q⟩) id, RVs.ext e e3⟩
  | .rep d, _, h => h
theorem RVs.ext (e : Ext K m H m' H') : ∀ {cs : List C} {vs : List V}, RVs K m H cs vs → RVs K m' H' cs vs
  | [], _, h => h
  | c :: cs, _, h => by
    obtain ⟨v, r, e1, e2, e3⟩ := h
    exact ⟨v, r, e1, RV.ext e e2, RVs.ext e e3⟩
end

theorem RVs.length : ∀ {cs : List C} {vs : List V}, RVs K m H cs vs → cs.length = vs.length
  | [], _, h => by cases h; rfl
  | c :: cs, _, h => by
    obtain ⟨v, r, rfl, _, e3⟩ := h
    simp [RVs.length e3]
theorem RVs.get : ∀ {cs : List C} {vs : List V} {i : Nat} {c : C}, RVs K m H cs vs → cs[i]? = some c → ∃ v, vs[i]? = some v ∧ RV K m H c v
  | [], _, _, _, _, h => by simp at h
  | c :: cs, _, 0, x, h, q => by
    obtain ⟨v, r, rfl, e2, e3⟩ := h
    simp at q
    subst q
    exact ⟨v, rfl, e2⟩
  | c :: cs, _, i + 1, x, h, q => by
    obtain ⟨v, r, rfl, e2, e3⟩ := h
    obtain ⟨w, h1, h2⟩ := RVs.get (i := i) e3 (by simpa using q)
    exact ⟨w, by simpa using h1, h2⟩
theorem RVs.append : ∀ {cs ds : List C} {vs ws : List V}, RVs K m H cs vs → RVs K m H ds ws → RVs K m H (cs ++ ds) (vs ++ ws)
  | [], _, _, _, h, q => by cases h; exact q
  | c :: cs, _, _, _, h, q => by
    obtain ⟨v, r, rfl, e2, e3⟩ := h
    exact ⟨v, r ++ _, rfl, e2, RVs.append e3 q⟩
theorem RVs.set : ∀ {cs : List C} {vs : List V} (i : Nat) {c : C} {v : V}, RVs K m H cs vs → RV K m H c v → RVs K m H (cs.set i c) (vs.set i v)
  | [], _, _, _, _, h, _ => by cases h; rfl
  | _ :: cs, _, 0, _, _, h, q => by
    obtain ⟨v, r, rfl, e2, e3⟩ := h
    exact ⟨_, _, rfl, q, e3⟩
  | _ :: cs, _, i + 1, _, _, h, q => by
    obtain ⟨v, r, rfl, e2, e3⟩ := h
    exact ⟨_, _, rfl, e2, RVs.set i e3 q⟩
theorem RVs.one {c : C} {v : V} (h : RV K m H c v) : RVs K m H [c] [v] := ⟨v, [], rfl, h, rfl⟩
theorem RVs.take : ∀ {cs : List C} {vs : List V} (n : Nat), RVs K m H cs vs → RVs K m H (cs.take n) (vs.take n)
  | _, _, 0, _ => rfl
  | [], _, n + 1, h => by cases h; rfl
  | c :: cs, _, n + 1, h => by
    obtain ⟨v, r, rfl, e2, e3⟩ := h
    exact ⟨v, r.take n, rfl, e2, RVs.take n e3⟩
theorem RVs.drop : ∀ {cs : List C} {vs : List V} (n : Nat), RVs K m H cs vs → RVs K m H (cs.drop n) (vs.drop n)
  | _, _, 0, h => h
  | [], _, n + 1, h => by cases h; rfl
  | c :: cs, _, n + 1, h => by
    obtain ⟨v, r, rfl, e2, e3⟩ := h
    exact RVs.drop n e3
theorem RVs.reverse {cs : List C} {vs : List V} (h : RVs K m H cs vs) : RVs K m H cs.reverse vs.reverse := by
  induction cs generalizing vs with
  | nil => cases h; rfl
  | cons c cs ih =>
    obtain ⟨v, r, rfl, e2, e3⟩ := h
    rw [List.reverse_cons, List.reverse_cons]
    exact RVs.append (ih e3) (RVs.one e2)
end

/-- the lists of the store stand at the addresses m -/
structure Rl (K : PySem.W.Frag) (m : List Addr) (h : Hc) (H : Hp) : Prop where
  len : m.length = h.length
  nd : m.Nodup
  at_ : ∀ (n : Nat) (a : Addr) (cs : List C), m[n]? = some a → h[n]? = some cs → ∃ vs, H a = some (.lst vs) ∧ RVs K m H cs vs
/-- the slots -/
structure RS (K : PySem.W.Frag) (m : List Addr) (H : Hp) (sl : Sl) (σ : L2.St) : Prop where
  len : sl.length = σ.length
  at_ : ∀ (i : Nat) (c : C), sl[i]? = some (some c) → ∃ v, σ[i]? = some (some v) ∧ RV K m H c v

section
variable {K : PySem.W.Frag} {m m' m2 : List Addr} {H H' H2 : Hp} {h : Hc} {sl : Sl} {σ : L2.St}
theorem RS.ext (r : RS K m H sl σ) (e : Ext K m H m' H') : RS K m' H' sl σ := ⟨r.len, fun i c q => let ⟨v, a, b⟩ := r.at_ i c q; ⟨v, a, b.ext e⟩⟩
theorem RS.set (r : RS K m H sl σ) (i : Nat) {c : C} {v : V} (q : RV K m H c v) : RS K m H (sl.set i (some c)) (σ.set i (some v)) := by
  refine ⟨by simp [r.len], fun j d e => ?_⟩
  by_cases hj : i = j
  · subst hj
    by_cases hi : i < sl.length
    · rw [List.getElem?_set_self hi] at e
      cases e
      exact ⟨v, List.getElem?_set_self (r.len ▸ hi), q⟩
    · rw [List.getElem?_eq_none (by simpa using hi)] at e
      cases e
  · rw [List.getElem?_set_ne hj] at e
    rw [List.getElem?_set_ne hj]
    exact r.at_ j d e
theorem RS.weak (r : RS K m H sl σ) {σ' : L2.St} {sl' : Sl} (hl : sl'.length = sl.length) (hl2 : σ'.length = σ.length) (hs : ∀ (i : Nat) (c : C), sl'[i]? = some (some c) → sl[i]? = some (some c) ∧ ∀ v, σ[i]? = some (some v) → σ'[i]? = some (some v)) : RS K m H sl' σ' :=
  ⟨by rw [hl, hl2, r.len], fun i c q => by
    obtain ⟨q1, q2⟩ := hs i c q
    obtain ⟨v, a, b⟩ := r.at_ i c q1
    exact ⟨v, q2 v a, b⟩⟩
/-- a new object that is no list of the store -/
theorem Ext.new {p : Addr} {o : HO} (hn : H p = none) : Ext K m H m (upd H p o) := by
  refine ⟨fun _ _ q => q, fun b u q n => ⟨n, by rw [upd_ne (ne_of_none q hn)]; exact q⟩, fun a xs q => ?_, fun a o u q => by rw [upd_ne (ne_of_none q hn)]; exact q⟩
  rcases q with (q | ⟨o, q⟩) | q
  · exact .inl (.inl (by rw [upd_ne (ne_of_none q hn)]; exact q))
  · exact .inl (.inr ⟨o, by rw [upd_ne (ne_of_none q hn)]; exact q⟩)
  · exact .inr q
theorem Rl.new {p : Addr} {o : HO} (r : Rl K m h H) (hn : H p = none) : Rl K m h (upd H p o) := by
  refine ⟨r.len, r.nd, fun n a cs e1 e2 => ?_⟩
  obtain ⟨vs, q1, q2⟩ := r.at_ n a cs e1 e2
  exact ⟨vs, by rw [upd_ne (ne_of_none q1 hn)]; exact q1, q2.ext (Ext.new hn)⟩
theorem Rl.out (r : Rl K m h H) {p : Addr} (hn : H p = none) : p ∉ m := fun hm => by
  obtain ⟨n, hn'⟩ := List.getElem?_of_mem hm
  have hl : n < h.length := by rw [← r.len]; exact (List.getElem?_eq_some_iff.mp hn').1
  obtain ⟨vs, q, _⟩ := r.at_ n p h[n] hn' (List.getElem?_eq_getElem hl)
  rw [hn] at q
  cases q
/-- a new list of the store -/
theorem Ext.newL {p : Addr} {o : HO} (hn : H p = none) : Ext K m H (m ++ [p]) (upd H p o) := by
  have e := Ext.new (K := K) (m := m) (o := o) hn
  refine ⟨fun n a q => ?_, fun b u q n => ?_, e.tu, e.fz⟩
  · rw [List.getElem?_append_left (List.getElem?_eq_some_iff.mp q).1]
    exact q
  · refine ⟨fun z => ?_, (e.fr b u q n).2⟩
    rcases List.mem_append.mp z with z | z
    · exact n z
    · have : b = p := by simpa using z
      rw [this, hn] at q
      cases q
theorem Rl.newL {p : Addr} {cs : List C} {vs : List V} (r : Rl K m h H) (hn : H p = none) (q : RVs K m H cs vs) : Rl K (m ++ [p]) (h ++ [cs]) (upd H p (.lst vs)) := by
  refine ⟨by simp [r.len], ?_, fun n a ds e1 e2 => ?_⟩
  · refine List.nodup_append.mpr ⟨r.nd, by simp, fun a ha b hb => ?_⟩
    have : b = p := by simpa using hb
    subst this
    rintro rfl
    exact r.out hn ha
  · by_cases hl : n < m.length
    · rw [List.getElem?_append_left hl] at e1
      rw [List.getElem?_append_left (r.len ▸ hl)] at e2
      obtain ⟨ws, q1, q2⟩ := r.at_ n a ds e1 e2
      exact ⟨ws, by rw [upd_ne (ne_of_none q1 hn)]; exact q1, q2.ext (Ext.newL hn)⟩
    · have hn' : n = m.length := by
        have := (List.getElem?_eq_some_iff.mp e1).1
        simp at this
        omega
      subst hn'
      rw [List.getElem?_append_right (Nat.le_refl _)] at e1
      rw [r.len, List.getElem?_append_right (Nat.le_refl _)] at e2
      simp at e1 e2
      subst e1 e2
      exact ⟨vs, upd_same, q.ext (Ext.newL hn)⟩
/-- a list of the store is written -/
theorem Ext.write {a : Addr} {vs : List V} {o : HO} (ha : a ∈ m) (hv : H a = some (.lst vs)) : Ext K m H m (upd H a o) := by
  have ne : ∀ {b : Addr} {u : HO}, H b = some u → u ≠ .lst vs → b ≠ a := fun {b u} q d z => by
    rw [z, hv] at q
    exact d (Option.some.inj q).symm
  refine ⟨fun _ _ q => q, fun b u q n => ⟨n, by rw [upd_ne (fun z : b = a => n (by rw [z]; exact ha))]; exact q⟩, fun b xs q => ?_, fun b o u q => by rw [upd_ne (ne q (by intro z; cases z))]; exact q⟩
  rcases q with (q | ⟨o, q⟩) | q
  · exact .inl (.inl (by rw [upd_ne (ne q (by intro z; cases z))]; exact q))
  · exact .inl (.inr ⟨o, by rw [upd_ne (ne q (by intro z; cases z))]; exact q⟩)
  · exact .inr q
theorem Rl.write {n : Nat} {a : Addr} {cs : List C} {vs ws : List V} (r : Rl K m h H) (hm : m[n]? = some a) (hv : H a = some (.lst vs)) (q : RVs K m H cs ws) : Rl K m (h.set n cs) (upd H a (.lst ws)) := by
  have ha : a ∈ m := List.mem_of_getElem? hm
  have ex : Ext K m H m (upd H a (.lst ws)) := Ext.write ha hv
  refine ⟨by simp [r.len], r.nd, fun k b ds e1 e2 => ?_⟩
  by_cases hk : n = k
  · subst hk
    rw [hm] at e1
    cases e1
    have hl : n < h.length := by rw [← r.len]; exact (List.getElem?_eq_some_iff.mp hm).1
    rw [List.getElem?_set_self hl] at e2
    cases e2
    exact ⟨ws, upd_same, q.ext ex⟩
  · rw [List.getElem?_set_ne hk] at e2
    obtain ⟨us, q1, q2⟩ := r.at_ k b ds e1 e2
    have hb : b ≠ a := by
      rintro rfl
      obtain ⟨l1, x1⟩ := List.getElem?_eq_some_iff.mp hm
      obtain ⟨l2, x2⟩ := List.getElem?_eq_some_iff.mp e1
      exact hk ((List.getElem_inj r.nd).mp (x1.trans x2.symm))
    exact ⟨us, by rw [upd_ne hb]; exact q1, q2.ext ex⟩
theorem Rl.get (r : Rl K m h H) {n : Nat} {a : Addr} (hm : m[n]? = some a) : ∃ cs vs, h[n]? = some cs ∧ H a = some (.lst vs) ∧ RVs K m H cs vs := by
  have hl : n < h.length := by rw [← r.len]; exact (List.getElem?_eq_some_iff.mp hm).1
  obtain ⟨vs, q1, q2⟩ := r.at_ n a _ hm (List.getElem?_eq_getElem hl)
  exact ⟨_, vs, List.getElem?_eq_getElem hl, q1, q2⟩
theorem Rl.get' (r : Rl K m h H) {n : Nat} {a : Addr} {cs : List C} (hm : m[n]? = some a) (hc : h[n]? = some cs) : ∃ vs, H a = some (.lst vs) ∧ RVs K m H cs vs := r.at_ n a cs hm hc
end

/-- the end of an expression: a value, an exception by its number with its fields' values, or out of what is told here -/
inductive R (α : Type) where
  | ok (a : α) (h : Hc) | err (k : Nat) (xs : List C) (h : Hc) | bad
def R.bind {α β : Type} : R α → (α → Hc → R β) → R β
  | .ok a h, f => f a h
  | .err k xs h, _ => .err k xs h
  | .bad, _ => .bad

/-- exceptions' classes by number: where the class stands, its fields (the last one stored ahead) -/
abbrev ETab := Nat → Option (Addr × List Str)
/-- an exception of the class cls with its own dict d, as number k with the fields' values xs (in the order of storing) -/
def RX (et : ETab) (K : PySem.W.Frag) (m : List Addr) (H : Hp) (k : Nat) (xs : List C) (cls : Value) (d : Option Addr) : Prop :=
  ∃ A fs vs, et k = some (A, fs) ∧ cls = .ref A ∧ fs.length = vs.length ∧ RVs K m H xs vs ∧ ((fs = [] ∧ d = none) ∨ ∃ dd, d = some dd ∧ H dd = some (.xd (fs.zip vs).reverse) ∧ dd ∉ m)

section
variable {et : ETab} {K : PySem.W.Frag} {α β : Type}
theorem RX.ext {m m' : List Addr} {H H' : Hp} {k : Nat} {xs : List C} {cls : Value} {d : Option Addr} (x : RX et K m H k xs cls d) (e : Ext K m H m' H') : RX et K m' H' k xs cls d := by
  obtain ⟨A, fs, vs, h1, h2, h3, h4, h5⟩ := x
  refine ⟨A, fs, vs, h1, h2, h3, h4.ext e, ?_⟩
  rcases h5 with h5 | ⟨dd, e1, e2, e3⟩
  · exact .inl h5
  · obtain ⟨n, q⟩ := e.fr dd _ e2 e3
    exact .inr ⟨dd, e1, q, n⟩
/-- what holds behind: rel relates the plain result with the one of the layer; W: the wish about exceptions -/
def Post (et : ETab) (K : PySem.W.Frag) (W : Value → Option Addr → Hp → Prop) (m : List Addr) (H : Hp) (rel : List Addr → Hp → α → β → Prop) (Q : β → Hp → Prop) : R α → Prop
  | .ok a h' => ∀ m' H' v, Ext K m H m' H' → Rl K m' h' H' → rel m' H' a v → Q v H'
  | .err k xs h' => ∀ m' H' cls d, Ext K m H m' H' → Rl K m' h' H' → RX et K m' H' k xs cls d → W cls d H'
  | .bad => False
variable {W : Value → Option Addr → Hp → Prop} {m m' : List Addr} {H H' : Hp} {γ δ : Type} {rel : List Addr → Hp → α → β → Prop} {rel2 : List Addr → Hp → γ → δ → Prop} {Q : β → Hp → Prop} {Q2 : δ → Hp → Prop}
theorem Post.ext {r : R α} (p : Post et K W m H rel Q r) (e : Ext K m H m' H') : Post et K W m' H' rel Q r := by
  cases r with
  | ok a h => exact fun m2 H2 v x => p m2 H2 v (e.trans x)
  | err k xs h => exact fun m2 H2 c d x => p m2 H2 c d (e.trans x)
  | bad => exact p
theorem Post.bind {r : R α} {f : α → Hc → R γ} (p : Post et K W m H rel2 Q2 (r.bind f))
    (g : ∀ c h1, r = .ok c h1 → ∀ m1 H1 v, Ext K m H m1 H1 → Rl K m1 h1 H1 → rel m1 H1 c v → Post et K W m1 H1 rel2 Q2 (f c h1) → Q v H1) : Post et K W m H rel Q r := by
  cases r with
  | ok a h => exact fun m1 H1 v x rl rv => g a h rfl m1 H1 v x rl rv (Post.ext p x)
  | err k xs h => exact p
  | bad => exact p
theorem Post.imp {r : R α} {Q' : β → Hp → Prop} (p : Post et K W m H rel Q r) (g : ∀ m1 H1 c v h1, r = .ok c h1 → Ext K m H m1 H1 → Rl K m1 h1 H1 → rel m1 H1 c v → Q v H1 → Q' v H1) : Post et K W m H rel Q' r := by
  cases r with
  | ok a h => exact fun m1 H1 v x rl rv => g m1 H1 a v h rfl x rl rv (p m1 H1 v x rl rv)
  | err k xs h => exact p
  | bad => exact p
end
end Sh
set_option Elab.async false
set_option linter.all false
set_option autoImplicit false
set_option maxRecDepth 100000
set_option maxHeartbeats 4000000
/-! Sh, part B: the plain language and what it does. -/
namespace Sh
open PySem

inductive Cm where | eq | ne | lt | le | gt | ge | is_ | isn | in_ | nin
inductive Op where | add | sub | mul | div | mod | pow
inductive Ty where | int | bool | str | tuple | list | dict
inductive Bi where | len | abs | max2 | min2 | sum | gcd | divmod | repr | tuple | list | maxL | minL | int | bool | all | any

mutual
inductive E where
  | con (c : C) | var (i : Nat) | glob (x : Str) (c : C)
  | bin (o : Op) (a b : E) | neg (a : E) | notv (a : E)
  | cmp (o : Cm) (a b : E) | chain (o o' : Cm) (a b c : E)
  | andv (a b : E) | orv (a b : E) | ite (t : T) (a b : E)
  | tup (es : Es) | lst (es : Es) | idx (a i : E) | slc (a : E) (lo hi : Oe)
  | call (f : Nat) (es : Es) | callk (f : Nat) (es ks : Es) (perm : List Nat)
  | bi (b : Bi) (es : Es) | isi (a : E) (t : Ty) | pop (a : E)
  | comp (e : E) (p : Pt) (it : It) (t : T)
  | excf (j : Nat) | excis (x : Str)
inductive T where
  | yes | tr (a : E) | cmp (o : Cm) (a b : E) | and (a b : T) | or (a b : T) | not (a : T)
inductive Es where
  | nil | cons (e : E) (es : Es)
inductive Oe where
  | none | some (e : E)
inductive It where
  | seq (a : E) | rng1 (a : E) | rng2 (a b : E) | rng3 (a b c : E) | enum (a : E) | zip (a b : E) | rev (a : E) | revr (a : E)
inductive Pt where
  | v (i : Nat) | sub (o i : E) | tup (ps : Pts)
inductive Pts where
  | nil | cons (p : Pt) (ps : Pts)
end

mutual
inductive S where
  | asg (p : Pt) (e : E) | par (i j : Nat) (a b : E)
  | aug (i : Nat) (o : Op) (e : E) | augi (o i : E) (op : Op) (e : E)
  | ifs (t : T) (a b : Ss) | whl (t : T) (b : Ss) | for_ (p : Pt) (it : It) (b : Ss)
  | ret (e : E) | retn | expr (e : E) | app (o e : E) | raise (k : Nat) (es : Es) | brk | cnt | pass
  | try_ (b : Ss) (hs : Hs)
inductive Ss where
  | nil | cons (s : S) (ss : Ss)
inductive Hs where
  | nil | cons (ks : List Nat) (i : Nat) (b : Ss) (hs : Hs)
end

def gK {α : Type} (n k : Nat) (perm : List Nat) (us ws : List α) : List α := if us.length = n ∧ ws.length = k then us ++ perm.filterMap (fun i => ws[i]?) else []
def Pts.len : Pts → Nat
  | .nil => 0
  | .cons _ ps => ps.len + 1
def Es.len : Es → Nat
  | .nil => 0
  | .cons _ es => es.len + 1
def R.noerr {α : Type} : R α → R α
  | .err _ _ _ => .bad
  | r => r
/-! ### data -/
def toD (h : Hc) : Nat → C → Option PyData
  | 0, _ => none
  | n + 1, c => match c with
    | .non => some .none
    | .bl b => some (.bool b)
    | .int i => some (.int i)
    | .str x => some (.str x)
    | .tup cs => (cs.mapM (toD h n)).map .tuple
    | .ref k => match h[k]? with
      | some cs => (cs.mapM (toD h n)).map .list
      | none => none
    | .frz cs => (cs.mapM (toD h n)).map .list
    | .rep d => some (.str d.shown)
def datum (h : Hc) (c : C) : Option PyData := toD h 60 c
mutual
def pdEq : PyData → PyData → Bool
  | .none, .none => true
  | .bool a, .bool b => a == b
  | .int i, .int j => i == j
  | .str x, .str y => x == y
  | .list xs, .list ys => pdEqs xs ys
  | .tuple xs, .tuple ys => pdEqs xs ys
  | _, _ => false
def pdEqs : List PyData → List PyData → Bool
  | [], [] => true
  | x :: xs, y :: ys => pdEq x y && pdEqs xs ys
  | _, _ => false
end
/-- == of two values as data, by the data itself -/
def eqFar (h : Hc) (n : Nat) (x y : C) : Option Bool :=
  match toD h n x, toD h n y with
  | some a, some b => if SeqAt.shaped a && SeqAt.shaped b then some (a.eqv b) else none
  | _, _ => none
def both (f : C → C → Option Bool) : List C → List C → Option Bool
  | [], [] => some true
  | x :: xs, y :: ys => match f x y with
    | none => none
    | some b => match both f xs ys with
      | none => none
      | some c => some (b && c)
  | _, _ => none
def ceq (h : Hc) : Nat → C → C → Option Bool
  | 0, _, _ => none
  | n + 1, x, y => match x, y with
    | .rep d, .rep e => if pdEq d e then some true else eqFar h (n + 1) x y
    | .int i, .int j => some (i == j)
    | .tup xs, .tup ys => if xs.length = ys.length then both (ceq h n) xs ys else eqFar h (n + 1) x y
    | .ref a, .ref b => match h[a]?, h[b]? with
      | some xs, some ys => if xs.length = ys.length then both (ceq h n) xs ys else eqFar h (n + 1) x y
      | _, _ => none
    | _, _ => eqFar h (n + 1) x y

/-! ### operators -/
def big : Nat := 2 ^ 60000
@[irreducible] def tooBig (i : Int) : Bool := decide (big ≤ i.natAbs)
def seqOf (h : Hc) : C → Option (List C)
  | .ref n => h[n]?
  | .frz cs => some cs
  | .tup cs => some cs
  | _ => none
def lineN : Nat := 1000000
def addC (x y : C) (h : Hc) : R C :=
  match x, y with
  | .int i, .int j => .ok (.int (i + j)) h
  | .str x, .str y => if lineN < x.length + y.length then .bad else .ok (.str (x ++ y)) h
  | .tup xs, .tup ys => if xs = [] ∨ ys = [] ∨ lineN < xs.length + ys.length then .bad else .ok (.tup (xs ++ ys)) h
  | .ref a, .ref b => match h[a]?, h[b]? with
    | some xs, some ys => if lineN < xs.length + ys.length then .bad else .ok (.ref h.length) (h ++ [xs ++ ys])
    | _, _ => .bad
  | _, _ => .bad
def subC (x y : C) (h : Hc) : R C :=
  match x, y with
  | .int i, .int j => .ok (.int (i - j)) h
  | .bl a, .bl b => .ok (.int ((if a = true then 1 else 0) - (if b = true then 1 else 0))) h
  | _, _ => .bad
def mulC (x y : C) (h : Hc) : R C :=
  match x, y with
  | .int i, .int j => if tooBig i || tooBig j then .bad else .ok (.int (i * j)) h
  | .ref a, .int k => match h[a]? with
    | some xs => if k < 0 ∨ lineN < xs.length * k.toNat ∨ 1000000000 ≤ k then .bad else .ok (.ref h.length) (h ++ [(List.replicate k.toNat xs).flatten])
    | _ => .bad
  | _, _ => .bad
@[irreducible] def divLine : Nat := 2 ^ 8000
def divC (x y : C) (h : Hc) : R C :=
  match x, y with
  | .int i, .int j => if j = 0 ∨ divLine ≤ j.natAbs then .bad else .ok (.int (i.fdiv j)) h
  | _, _ => .bad
def modC (x y : C) (h : Hc) : R C :=
  match x, y with
  | .int i, .int j => if j = 0 then .bad else .ok (.int (i.fmod j)) h
  | _, _ => .bad
def powC (x y : C) (h : Hc) : R C :=
  match x, y with
  | .int i, .int j => if 0 ≤ j ∧ j ≤ 1000 ∧ i.natAbs < 18446744073709551616 then .ok (.int (i ^ j.toNat)) h else .bad
  | _, _ => .bad
def binop (o : Op) (x y : C) (h : Hc) : R C :=
  match o with
  | .add => addC x y h
  | .sub => subC x y h
  | .mul => mulC x y h
  | .div => divC x y h
  | .mod => modC x y h
  | .pow => powC x y h
/-- in place, of ints -/
def augC (o : Op) (i j : Int) (h : Hc) : R C :=
  match o with
  | .add => .ok (.int (i + j)) h
  | .sub => .ok (.int (i - j)) h
  | .mul => if tooBig i || tooBig j then .bad else .ok (.int (i * j)) h
  | _ => .bad
def isS : C → C → Option Bool
  | x, .non => match x with | .non => some true | _ => some false
  | .bl a, .bl b => some (decide (a = b))
  | _, _ => none
def cmpop (o : Cm) (x y : C) (h : Hc) : R C :=
  match o with
  | .eq => match ceq h 40 x y with
    | some b => .ok (.bl b) h
    | none => .bad
  | .ne => match ceq h 40 x y with
    | some b => .ok (.bl (!b)) h
    | none => .bad
  | .lt => match x, y with
    | .int i, .int j => .ok (.bl (decide (i < j))) h
    | _, _ => .bad
  | .le => match x, y with
    | .int i, .int j => .ok (.bl (decide (i ≤ j))) h
    | _, _ => .bad
  | .gt => match x, y with
    | .int i, .int j => .ok (.bl (decide (j < i))) h
    | _, _ => .bad
  | .ge => match x, y with
    | .int i, .int j => .ok (.bl (decide (j ≤ i))) h
    | _, _ => .bad
  | .is_ => match isS x y with
    | some b => .ok (.bl b) h
    | none => .bad
  | .isn => match isS x y with
    | some b => .ok (.bl (!b)) h
    | none => .bad
  | .in_ => .bad
  | .nin => .bad
def truth (x : C) (h : Hc) : R Bool :=
  match x with
  | .non => .ok false h
  | .bl b => .ok b h
  | .int i => .ok (i != 0) h
  | .str x => if x.length ≤ lineN then .ok ((x.length : Int) != 0) h else .bad
  | c => match seqOf h c with
    | some xs => .ok (!xs.isEmpty) h
    | none => .bad
def ixC (n : Nat) (i : Int) : Option Nat := if 0 ≤ i then (if i < n then some i.toNat else none) else if -(n : Int) ≤ i then some (i + n).toNat else none
def item (x y : C) (h : Hc) : R C :=
  match y with
  | .int i => match seqOf h x with
    | some xs => match (ixC xs.length i).bind fun j => xs[j]? with
      | some c => .ok c h
      | none => .bad
    | none => .bad
  | _ => .bad
def setitem (x y z : C) (h : Hc) : R Unit :=
  match x, y with
  | .ref n, .int i => match h[n]? with
    | some xs => match ixC xs.length i with
      | some j => .ok () (h.set n (xs.set j z))
      | none => .bad
    | none => .bad
  | _, _ => .bad
def sIxC (n d : Nat) : Option Int → Nat
  | none => d
  | some v => if v < 0 then (v + (n : Int)).toNat else min v.toNat n
def cutC (xs : List C) (lo hi : Option Int) : List C := (xs.drop (sIxC xs.length 0 lo)).take (sIxC xs.length xs.length hi - sIxC xs.length 0 lo)
def slice (x : C) (lo hi : Option Int) (h : Hc) : R C :=
  match x with
  | .ref n => match h[n]? with
    | some xs => .ok (.ref h.length) (h ++ [cutC xs lo hi])
    | none => .bad
  | .frz xs => .ok (.ref h.length) (h ++ [cutC xs lo hi])
  | .tup xs => if sIxC xs.length 0 lo = 0 ∧ sIxC xs.length xs.length hi = xs.length then .bad else .ok (.tup (cutC xs lo hi)) h
  | _ => .bad
def tyC : C → Option Ty
  | .bl _ => some .bool
  | .int _ => some .int
  | .str _ => some .str
  | .tup _ => some .tuple
  | .ref _ => some .list
  | .frz _ => some .list
  | .rep _ => some .str
  | .non => none
def isiT (o : Option Ty) (t : Ty) : Bool :=
  match o, t with
  | some .bool, .bool => true
  | some .bool, .int => true
  | some .int, .int => true
  | some .str, .str => true
  | some .tuple, .tuple => true
  | some .list, .list => true
  | some .dict, .dict => true
  | _, _ => false
def isiC (c : C) (t : Ty) : Bool := isiT (tyC c) t
def Ty.name : Ty → String
  | .int => "int" | .bool => "bool" | .str => "str" | .tuple => "tuple" | .list => "list" | .dict => "dict"
def tyName : Option Ty → String
  | none => "NoneType" | some t => t.name
def intsC : List C → Option (List Int)
  | [] => some []
  | .int i :: r => (intsC r).map (i :: ·)
  | _ => none
def shortD (d : PyData) : Bool := decide (d.weight ≤ 8000)
def bi (b : Bi) (xs : List C) (h : Hc) : R C :=
  match b with
  | .len => match xs with
    | [.str z] => if z.length ≤ lineN then .ok (.int z.length) h else .bad
    | [c] => match seqOf h c with
      | some ys => .ok (.int ys.length) h
      | none => .bad
    | _ => .bad
  | .abs => match xs with
    | [.int i] => .ok (.int (if i < 0 then -i else i)) h
    | _ => .bad
  | .max2 => match xs with
    | [.int i, .int j] => .ok (.int (if j > i then j else i)) h
    | _ => .bad
  | .min2 => match xs with
    | [.int i, .int j] => .ok (.int (if j < i then j else i)) h
    | _ => .bad
  | .sum => match xs with
    | [.ref n] => match (h[n]?).bind intsC with
      | some ns => .ok (.int ns.sum) h
      | none => .bad
    | _ => .bad
  | .gcd => match xs with
    | [.int i, .int j] => .ok (.int (Nat.gcd i.natAbs j.natAbs : Nat)) h
    | _ => .bad
  | .divmod => match xs with
    | [.int i, .int j] => if 0 < j ∧ j < 1000000000 then .ok (.tup [.int (i / j), .int (i % j)]) h else .bad
    | _ => .bad
  | .repr => match xs with
    | [c] => match datum h c with
      | some d => if d.showable && SeqAt.shaped d && shortD d then .ok (.rep d) h else .bad
      | none => .bad
    | _ => .bad
  | .tuple => match xs with
    | [.tup cs] => .ok (.tup cs) h
    | [.ref n] => match h[n]? with
      | some cs => .ok (.tup cs) h
      | none => .bad
    | _ => .bad
  | .list => match xs with
    | [c] => match seqOf h c with
      | some cs => .ok (.ref h.length) (h ++ [cs])
      | none => .bad
    | _ => .bad
  | .int => match xs with
    | [.int i] => .ok (.int i) h
    | _ => .bad
  | _ => .bad

/-! ### what is walked -/
inductive ItV where
  | lst (n : Nat) | tre (cs : List C) | rng (lo : Int) (n : Nat)
/-- the i-th item: none: out of what is told; some none: the end -/
def ItV.at_ (it : ItV) (i : Nat) (h : Hc) : Option (Option C) :=
  match it with
  | .lst n => match h[n]? with
    | some cs => some cs[i]?
    | none => none
  | .tre cs => some cs[i]?
  | .rng lo n => if i < n then some (some (.int (lo + i))) else some none

/-- a comprehension's turns -/
def compF (it : ItV) (g : C → Sl → Hc → R Sl) (t : Sl → Hc → R Bool) (e : Sl → Hc → R C) : Nat → Nat → Sl → List C → Hc → R (List C)
  | 0, _, _, _, _ => .bad
  | n + 1, i, sl, acc, h => match it.at_ i h with
    | none => .bad
    | some none => .ok acc h
    | some (some c) => (g c sl h).bind fun sl1 h1 => (t sl1 h1).bind fun k h2 => if k then (e sl1 h2).bind fun x h3 => if acc.length < lineN then compF it g t e n (i + 1) sl (acc ++ [x]) h3 else .bad
      else compF it g t e n (i + 1) sl acc h2
mutual
def Pt.slots : Pt → List Nat
  | .v i => [i]
  | .sub _ _ => []
  | .tup ps => Pts.slots ps
def Pts.slots : Pts → List Nat
  | .nil => []
  | .cons p ps => Pt.slots p ++ Pts.slots ps
end
def wipeC (sl : Sl) : List Nat → Sl
  | [] => sl
  | v :: vs => (wipeC sl vs).set v none
def Pt.wipe (p : Pt) (sl : Sl) : Sl := wipeC sl p.slots

section
variable (call : Nat → List C → Hc → R C) (sub : Nat → Str → Option Bool) (w : Nat) (cx : Option (Nat × List C))

mutual
def E.ev : E → Sl → Hc → R C
  | .con c, _, h => .ok c h
  | .var i, sl, h => match sl[i]? with
    | some (some c) => .ok c h
    | _ => .bad
  | .glob _ c, _, h => .ok c h
  | .bin o a b, sl, h => (E.ev a sl h).bind fun x h1 => (E.ev b sl h1).bind fun y h2 => binop o x y h2
  | .neg a, sl, h => (E.ev a sl h).bind fun x h1 => match x with
    | .int i => .ok (.int (-i)) h1
    | _ => .bad
  | .notv a, sl, h => (E.ev a sl h).bind fun x h1 => match x with
    | .bl b => .ok (.bl (!b)) h1
    | _ => .bad
  | .cmp o a b, sl, h => (E.ev a sl h).bind fun x h1 => (E.ev b sl h1).bind fun y h2 => cmpop o x y h2
  | .chain o o' a b c, sl, h => (E.ev a sl h).bind fun x h1 => (E.ev b sl h1).bind fun y h2 => (cmpop o x y h2).bind fun z h3 => match z with
    | .bl true => (E.ev c sl h3).bind fun u h4 => cmpop o' y u h4
    | .bl false => .ok (.bl false) h3
    | _ => .bad
  | .andv a b, sl, h => (E.ev a sl h).bind fun x h1 => match x with
    | .bl true => E.ev b sl h1
    | .bl false => .ok (.bl false) h1
    | _ => .bad
  | .orv a b, sl, h => (E.ev a sl h).bind fun x h1 => match x with
    | .bl false => E.ev b sl h1
    | .bl true => .ok (.bl true) h1
    | _ => .bad
  | .ite t a b, sl, h => (T.ev t sl h).bind fun k h1 => if k then E.ev a sl h1 else E.ev b sl h1
  | .tup es, sl, h => (Es.ev es sl h).bind fun xs h1 => if xs.length ≤ lineN then .ok (.tup xs) h1 else .bad
  | .lst es, sl, h => (Es.ev es sl h).bind fun xs h1 => if xs.length ≤ lineN then .ok (.ref h1.length) (h1 ++ [xs]) else .bad
  | .idx a i, sl, h => (E.ev a sl h).bind fun x h1 => (E.ev i sl h1).bind fun y h2 => item x y h2
  | .slc a lo hi, sl, h => (E.ev a sl h).bind fun x h1 => (Oe.ev lo sl h1).bind fun l h2 => (Oe.ev hi sl h2).bind fun u h3 => slice x l u h3
  | .call f es, sl, h => (Es.ev es sl h).bind fun xs h1 => call f xs h1
  | .callk f es ks perm, sl, h => (Es.ev es sl h).bind fun xs h1 => (Es.ev ks sl h1).bind fun ys h2 => call f (gK es.len ks.len perm xs ys) h2
  | .bi b es, sl, h => (Es.ev es sl h).bind fun xs h1 => bi b xs h1
  | .isi a t, sl, h => (E.ev a sl h).bind fun x h1 => .ok (.bl (isiC x t)) h1
  | .pop a, sl, h => (E.ev a sl h).bind fun x h1 => match x with
    | .ref n => match h1[n]? with
      | some xs => match xs[xs.length - 1]? with
        | some c => .ok c (h1.set n xs.dropLast)
        | none => .bad
      | none => .bad
    | _ => .bad
  | .comp e p it t, sl, h => (It.ev it sl h).bind fun v h1 => (compF v (fun c sl h => Pt.put p c sl h) (fun sl h => T.ev t sl h) (fun sl h => E.ev e sl h) w 0 (p.wipe sl) [] h1).bind fun xs h2 => .ok (.ref h2.length) (h2 ++ [xs])
  | .excf j, _, h => match cx with
    | some (_, xs) => match xs[j]? with
      | some c => .ok c h
      | none => .bad
    | none => .bad
  | .excis x, _, h => match cx with
    | some (k, _) => match sub k x with
      | some b => .ok (.bl b) h
      | none => .bad
    | none => .bad
def T.ev : T → Sl → Hc → R Bool
  | .yes, _, h => .ok true h
  | .tr a, sl, h => (E.ev a sl h).bind fun x h1 => truth x h1
  | .cmp o a b, sl, h => (E.ev a sl h).bind fun x h1 => (E.ev b sl h1).bind fun y h2 => (cmpop o x y h2).bind fun z h3 => match z with
    | .bl k => .ok k h3
    | _ => .bad
  | .and a b, sl, h => (T.ev a sl h).bind fun k h1 => if k then T.ev b sl h1 else .ok false h1
  | .or a b, sl, h => (T.ev a sl h).bind fun k h1 => if k then .ok true h1 else T.ev b sl h1
  | .not a, sl, h => (T.ev a sl h).bind fun k h1 => .ok (!k) h1
def Es.ev : Es → Sl → Hc → R (List C)
  | .nil, _, h => .ok [] h
  | .cons e es, sl, h => (E.ev e sl h).bind fun x h1 => (Es.ev es sl h1).bind fun xs h2 => .ok (x :: xs) h2
def Oe.ev : Oe → Sl → Hc → R (Option Int)
  | .none, _, h => .ok none h
  | .some e, sl, h => (E.ev e sl h).bind fun x h1 => match x with
    | .int i => .ok (some i) h1
    | _ => .bad
def It.ev : It → Sl → Hc → R ItV
  | .seq a, sl, h => (E.ev a sl h).bind fun x h1 => match x with
    | .ref n => .ok (.lst n) h1
    | .tup cs => .ok (.tre cs) h1
    | _ => .bad
  | .rng1 a, sl, h => (E.ev a sl h).bind fun x h1 => match x with
    | .int j => if -1000000000 < j ∧ j < 1000000000 then .ok (.rng 0 j.toNat) h1 else .bad
    | _ => .bad
  | .rng2 a b, sl, h => (E.ev a sl h).bind fun x h1 => (E.ev b sl h1).bind fun y h2 => match x, y with
    | .int i, .int j => if -1000000 < i ∧ i < 1000000 ∧ -1000000 < j ∧ j < 1000000 then .ok (.rng i (j - i).toNat) h2 else .bad
    | _, _ => .bad
  | _, _, _ => .bad
def Pt.put : Pt → C → Sl → Hc → R Sl
  | .v i, c, sl, h => .ok (sl.set i (some c)) h
  | .sub o i, c, sl, h => (E.ev o sl h).noerr.bind fun x h1 => (E.ev i sl h1).noerr.bind fun y h2 => (setitem x y c h2).bind fun _ h3 => .ok sl h3
  | .tup ps, c, sl, h => match c with
    | .tup cs => if cs.length = ps.len then Pts.put ps cs sl h else .bad
    | _ => .bad
def Pts.put : Pts → List C → Sl → Hc → R Sl
  | .nil, cs, sl, h => match cs with
    | [] => .ok sl h
    | _ :: _ => .bad
  | .cons p ps, cs, sl, h => match cs with
    | [] => .bad
    | c :: cs => (Pt.put p c sl h).bind fun sl1 h1 => Pts.put ps cs sl1 h1
end
end

/-- the end of a statement -/
inductive RS' where
  | nx (sl : Sl) (h : Hc) | ret (c : C) (h : Hc) | bk (sl : Sl) (h : Hc) | ct (sl : Sl) (h : Hc) | err (k : Nat) (xs : List C) (sl : Sl) (h : Hc) | bad
/-- an expression, then on -/
def R.th {α : Type} (r : R α) (sl : Sl) (f : α → Hc → RS') : RS' :=
  match r with
  | .ok a h => f a h
  | .err k xs h => .err k xs sl h
  | .bad => .bad
def RS'.th (r : RS') (f : Sl → Hc → RS') : RS' :=
  match r with
  | .nx sl h => f sl h
  | r => r
def whileF (t : Sl → Hc → R Bool) (b : Sl → Hc → RS') : Nat → Sl → Hc → RS'
  | 0, _, _ => .bad
  | n + 1, sl, h => (t sl h).th sl fun k h1 => if k then
      (match b sl h1 with
        | .nx sl2 h2 => whileF t b n sl2 h2
        | .ct sl2 h2 => whileF t b n sl2 h2
        | .bk sl2 h2 => .nx sl2 h2
        | r => r)
    else .nx sl h1
def forF (it : ItV) (g : C → Sl → Hc → R Sl) (b : Sl → Hc → RS') : Nat → Nat → Sl → Hc → RS'
  | 0, _, _, _ => .bad
  | n + 1, i, sl, h => match it.at_ i h with
    | none => .bad
    | some none => .nx sl h
    | some (some c) => (g c sl h).noerr.th sl fun sl1 h1 => match b sl1 h1 with
      | .nx sl2 h2 => forF it g b n (i + 1) sl2 h2
      | .ct sl2 h2 => forF it g b n (i + 1) sl2 h2
      | .bk sl2 h2 => .nx sl2 h2
      | r => r

section
variable (call : Nat → List C → Hc → R C) (sub : Nat → Str → Option Bool) (w : Nat)
mutual
def S.ev : S → Option (Nat × List C) → Sl → Hc → RS'
  | .asg p e, cx, sl, h => (E.ev call sub w cx e sl h).th sl fun c h1 => (Pt.put call sub w cx p c sl h1).noerr.th sl fun sl1 h2 => .nx sl1 h2
  | .par i j a b, cx, sl, h => (E.ev call sub w cx a sl h).th sl fun x h1 => (E.ev call sub w cx b sl h1).th sl fun y h2 => .nx ((sl.set i (some x)).set j (some y)) h2
  | .aug i o e, cx, sl, h => match sl[i]? with
    | some (some x) => (E.ev call sub w cx e sl h).th sl fun y h1 => (match x, y with
      | .int a, .int b => (augC o a b h1).th sl fun z h2 => .nx (sl.set i (some z)) h2
      | _, _ => .bad)
    | _ => .bad
  | .augi o i op e, cx, sl, h => (E.ev call sub w cx o sl h).th sl fun x h1 => (E.ev call sub w cx i sl h1).th sl fun y h2 => (match x with
    | .ref _ => (item x y h2).th sl fun old h3 => (E.ev call sub w cx e sl h3).th sl fun v h4 => (match old, v with
      | .int a, .int b => (augC op a b h4).th sl fun new h5 => (setitem x y new h5).th sl fun _ h6 => .nx sl h6
      | _, _ => .bad)
    | _ => .bad)
  | .ifs t a b, cx, sl, h => (T.ev call sub w cx t sl h).th sl fun k h1 => if k then Ss.ev a cx sl h1 else Ss.ev b cx sl h1
  | .whl t b, cx, sl, h => whileF (T.ev call sub w cx t) (Ss.ev b cx) w sl h
  | .for_ p it b, cx, sl, h => (It.ev call sub w cx it sl h).th sl fun v h1 => forF v (Pt.put call sub w cx p) (Ss.ev b cx) w 0 sl h1
  | .ret e, cx, sl, h => (E.ev call sub w cx e sl h).th sl fun c h1 => .ret c h1
  | .retn, _, _, h => .ret .non h
  | .expr e, cx, sl, h => (E.ev call sub w cx e sl h).th sl fun _ h1 => .nx sl h1
  | .app o e, cx, sl, h => (E.ev call sub w cx o sl h).th sl fun x h1 => (E.ev call sub w cx e sl h1).th sl fun y h2 => (match x with
    | .ref n => match h2[n]? with
      | some xs => if xs.length < lineN then .nx sl (h2.set n (xs ++ [y])) else .bad
      | none => .bad
    | _ => .bad)
  | .raise k es, cx, sl, h => (Es.ev call sub w cx es sl h).th sl fun xs h1 => .err k xs sl h1
  | .brk, _, sl, h => .bk sl h
  | .cnt, _, sl, h => .ct sl h
  | .pass, _, sl, h => .nx sl h
  | .try_ b hs, cx, sl, h => match cx with
    | some _ => .bad
    | none => match Ss.ev b none sl h with
      | .err k xs sl1 h1 => Hs.ev hs k xs sl1 h1
      | r => r
def Ss.ev : Ss → Option (Nat × List C) → Sl → Hc → RS'
  | .nil, _, sl, h => .nx sl h
  | .cons s ss, cx, sl, h => (S.ev s cx sl h).th fun sl1 h1 => Ss.ev ss cx sl1 h1
/-- the clauses: the exception's number is among ks; behind the suite the name is gone -/
def Hs.ev : Hs → Nat → List C → Sl → Hc → RS'
  | .nil, k, xs, sl, h => .err k xs sl h
  | .cons ks i b hs, k, xs, sl, h => if ks.contains k then
      (match Ss.ev b (some (k, xs)) (sl.set i none) h with
        | .nx sl2 h2 => .nx (sl2.set i none) h2
        | .ret c h2 => .ret c h2
        | .bk sl2 h2 => .bk (sl2.set i none) h2
        | .ct sl2 h2 => .ct (sl2.set i none) h2
        | _ => .bad)
    else Hs.ev hs k xs sl h
end
end

/-- a def: how many names it has, how many parameters, its body -/
structure Fn where
  n : Nat
  np : Nat
  body : Ss
mutual
def C.under (n : Nat) : C → Bool
  | .tup cs => C.unders n cs
  | .ref k => decide (k < n)
  | .frz cs => C.unders n cs
  | _ => true
def C.unders (n : Nat) : List C → Bool
  | [] => true
  | c :: cs => C.under n c && C.unders n cs
end
/-- what a call leaves: new lists that nothing old or told holds are let go -/
def tidy (n : Nat) (c : C) (h : Hc) : R C :=
  if c.under n && (h.take n).all (C.unders n) then .ok c (h.take n) else .ok c h
def tidyX (n : Nat) (k : Nat) (xs : List C) (h : Hc) : R C :=
  if C.unders n xs && (h.take n).all (C.unders n) then .err k xs (h.take n) else .err k xs h
def run (fns : Nat → Option Fn) (sub : Nat → Str → Option Bool) (w : Nat) : Nat → Nat → List C → Hc → R C
  | 0, _, _, _ => .bad
  | d + 1, f, xs, h => match fns f with
    | none => .bad
    | some fn => if xs.length = fn.np ∧ fn.np ≤ fn.n then
        (match Ss.ev (run fns sub w d) sub w fn.body none (xs.map some ++ List.replicate (fn.n - fn.np) none) h with
          | .nx _ h1 => tidy h.length .non h1
          | .ret c h1 => tidy h.length c h1
          | .err k ys _ h1 => tidyX h.length k ys h1
          | _ => .bad)
      else .bad
end Sh
set_option Elab.async false
set_option linter.all false
set_option autoImplicit false
set_option maxRecDepth 100000
set_option maxHeartbeats 4000000
/-! Sh, part C: a def's promise where no repr is under way; readings over plain values. -/
namespace Sh
open PySem PySem.Spec PyProof.Rows L2

/-- FnOk where nothing guards around -/
structure FnOkG (P : Program) (w : World) (K : PySem.W.Frag) (mg : Str → Option Value) (base : Heap) (k : Nat) (f : Addr) (fd : FuncData) (ps : List Str) (sp : Sp) : Prop where
  len : ∀ vs H Q E, sp vs H Q E → vs.length = ps.length
  run : ∀ (A : Around) (outer : List Env) (s : Shared) (H : Hp) (args : Args) (us : List Value) (vs : List V) (Q : VK) (E : XK), A.guards = some [] → Room k A → Env0 P w K mg base A outer s H → BindsTo s fd args (ps.zip us) → Vals vs us → sp vs H Q E →
    codeAny (model P w) A (.call (.ref f) args) (CR (L2.CX P w) outer P w H s Q E) s

section
variable {P : Program} {w : World} {K : PySem.W.Frag} {mg : Str → Option Value} {base : Heap}
theorem FnOkG.mono {j k : Nat} {f : Addr} {fd : FuncData} {ps : List Str} {sp : Sp} (F : FnOkG P w K mg base j f fd ps sp) (h : j ≤ k) : FnOkG P w K mg base k f fd ps sp :=
  ⟨F.len, fun A outer s H args us vs Q E hg hr => F.run A outer s H args us vs Q E hg (hr.mono h)⟩
theorem FnOkG.imp {k : Nat} {f : Addr} {fd : FuncData} {ps : List Str} {sp sp' : Sp} (F : FnOkG P w K mg base k f fd ps sp) (h : ∀ vs H Q E, sp' vs H Q E → sp vs H Q E) : FnOkG P w K mg base k f fd ps sp' :=
  ⟨fun vs H Q E q => F.len vs H Q E (h _ _ _ _ q), fun A outer s H args us vs Q E hg hr he hb hv hs => F.run A outer s H args us vs Q E hg hr he hb hv (h _ _ _ _ hs)⟩
/-- a def by its body -/
theorem Fun.okG {x qual : Str} {st : Stmt} {f : Addr} {fd : FuncData} {N ps : List Str} {k : Nat} {sp : Sp} (F : Fun K x qual st f fd) (S : FnScope N ps (defScope st)) (len : ∀ vs H Q E, sp vs H Q E → vs.length = ps.length)
    (hbody : ∀ (cdv : Value) (A : Around) (outer : List Env) (s : Shared) (H : Hp) (vs : List V) (Q : VK) (E : XK), A.guards = some [] → Room k (A.deeper (envOfC qual (defScope st) s.heap.objs.size f cdv)) → sp vs H Q E →
      ∃ t, PSs (cxOf (L2.CX P w) P w K mg base N qual (defScope st) f cdv A outer s H E) (defBody st) t ∧ t { nx := fun _ H' => Q .non H', rt := Q } (start N vs) H) : FnOkG P w K mg base (k + 1) f fd ps sp := by
  obtain ⟨oc, od, kV, doc, pm, an, cdv, ct, osl, rfl, lk, hcd⟩ := F.ex
  refine ⟨len, fun A outer s H args us vs Q E hg hr e0 hb r hsp => ?_⟩
  have hl := len _ _ _ _ hsp
  have KX : K.In s.heap := e0.mod.kin.keeps fun b o e => (e0.bs b o e).1
  have lim : s.heap.NoLimit := e0.mod.nolimit.keeps fun b o e => (e0.bs b o e).1
  have hkind : ∀ y ∈ ps.zip us, (defScope st).names.lookup y.1 = some .local ∨ ((defScope st).names.lookup y.1 = some .cell ∧ ((cellsFrom (s.heap.objs.size + 1) (defScope st).names []).lookup y.1).isSome = true) := fun ⟨n, v⟩ hy => by
    rcases S.par n (List.of_mem_zip hy).1 with q | q
    · exact .inl q
    · exact .inr ⟨q, PySem.W.cellsFrom_some _ _ _ (.inl q)⟩
  refine codeAny_call_function hr.depth (KX _ _ lk) rfl S.co S.gen rfl (PySem.W.codeRec_of KX hcd) (hb _ _ _ _ ?_)
  refine wpAny_newFunctionEnv_cells S.kind hkind fun env he s1 x => ?_
  subst he
  refine ⟨lim.keeps x.toInCall.keep, codeAny_func ?_⟩
  obtain ⟨t, ht, hq⟩ := hbody cdv A outer s H vs Q E hg (hr.deeper _) hsp
  have I : Inv (cxOf (L2.CX P w) P w K mg base N qual (defScope st) f cdv A outer s H E) [] (start N vs) H s1 := inv_start S hr.hd e0 hl r x
  refine wpAny_mono (ht.run [] s1 (start N vs) H _ I hq) (fun fl s' hs => ?_) fun e s' hs => hs
  have fin : ∀ {σ' : L2.St} {H' : Hp} {v : V} {u : Value}, Inv (cxOf (L2.CX P w) P w K mg base N qual (defScope st) f cdv A outer s H E) [] σ' H' s' → RelV v u → Q v H' → CE outer P w H s Q u s' :=
    fun {σ' H' v u} J rv q => ⟨v, H', J.os, J.bare, J.base, J.hok, rv, q⟩
  cases fl with
  | ret u =>
    obtain ⟨v, σ', H', J, rv, q⟩ := hs
    exact fin J rv q
  | next =>
    obtain ⟨σ', H', J, q⟩ := hs
    exact fin (v := V.non) (u := Value.none) J rfl q
  | brk =>
    obtain ⟨_, _, _, q⟩ := hs
    exact False.elim q
  | cont =>
    obtain ⟨_, _, _, q⟩ := hs
    exact False.elim q
end

section
variable {X : Cx} {k : Nat} {f : Addr} {fd : FuncData} {ps ks : List Str} {sp : Sp} {E : L2.St → XK} {x : Str} {p pos : Pos} {e : Expr} {es : List Expr} {t tk : TA} {kws : List Keyword} {g : List Value → List Value → List Value} {gV : List V → List V → List V}
theorem run_g {pins : List (Addr × Obj)} {σ : L2.St} {H : Hp} {s : Shared} {Q : VK} {us : List Value} {vs : List V} (F : FnOkG X.prog X.w X.K X.mg X.base k f fd ps sp) (hg : X.A.guards = some []) (hr : Room k X.A) (hb : Binds X.K fd ps []) (hx : PassesAt (L2.CX X.prog X.w) X σ (E σ))
    (I : Inv X pins σ H s) (r : Vals vs us) (h : sp vs H Q (E σ)) : wpAny (model X.prog X.w) X.A (call (.ref f) us) (EP X pins σ Q) X.xe s := by
  have hl : us.length = ps.length := by rw [← r.length]; exact F.len _ _ _ _ h
  have b := hb s us I.kIn (by rw [List.append_nil]; exact hl)
  rw [List.append_nil] at b
  refine wpAny_call (codeAny_mono (F.run X.A X.stack s H ⟨us, []⟩ us vs Q (E σ) hg hr I.env0 b r h) fun r s' hq => ?_)
  cases r with
  | error e => exact hx pins H s e s' I hq
  | ok fl =>
    cases fl with
    | ret u => exact I.after hq
    | next => exact False.elim hq
    | brk => exact False.elim hq
    | cont => exact False.elim hq
theorem run_gk {pins : List (Addr × Obj)} {σ : L2.St} {H : Hp} {s : Shared} {Q : VK} {us ws : List Value} {vs zs : List V} (F : FnOkG X.prog X.w X.K X.mg X.base k f fd ps sp) (hg : X.A.guards = some []) (hr : Room k X.A) (hb : KBinds X.K fd ps ks g gV) (hx : PassesAt (L2.CX X.prog X.w) X σ (E σ))
    (I : Inv X pins σ H s) (r : Vals vs us) (rz : Vals zs ws) (h : sp (gV vs zs) H Q (E σ)) : wpAny (model X.prog X.w) X.A (call (.ref f) us (ks.zip ws)) (EP X pins σ Q) X.xe s := by
  have r2 := hb.rel r rz
  have hl : (g us ws).length = ps.length := by rw [← r2.length]; exact F.len _ _ _ _ h
  refine wpAny_call (codeAny_mono (F.run X.A X.stack s H ⟨us, ks.zip ws⟩ (g us ws) (gV vs zs) Q (E σ) hg hr I.env0 (hb.to s us ws I.kIn hl) r2 h) fun r s' hq => ?_)
  cases r with
  | error e => exact hx pins H s e s' I hq
  | ok fl =>
    cases fl with
    | ret u => exact I.after hq
    | next => exact False.elim hq
    | brk => exact False.elim hq
    | cont => exact False.elim hq
theorem pe_g (F : FnOkG X.prog X.w X.K X.mg X.base k f fd ps sp) (hgu : X.A.guards = some []) (hr : Room k X.A) (hg : Gl X x) (hm : X.mg x = some (.ref f)) (hk : PySem.W.keepIn X.K (.ref f) = true) (hb : Binds X.K fd ps []) (hx : ∀ σ, PassesAt (L2.CX X.prog X.w) X σ (E σ))
    (ha : PA X (e :: es) t) (hdb : (x == ("__debug__" : Str)) = false) (he : starEach (e :: es) X.env = (false, eval e X.env) :: starEach es X.env) (hpl : (backTo pos (starEach es X.env)).any (·.1) = false) :
    PE X (.Call (.Name x p) (e :: es) [] pos) (tCallS sp E t) := by
  refine ⟨fun pins s σ H Q I h => ?_⟩
  refine wpAny_Call_Name_kw (ld_glob I hg hm ?_ hdb)
  refine PySem.W.callWith_K (h₀ := X.base) I.ok.mod.kin hk (thn (ha.run pos pins s σ H _ I h) fun us s1 ⟨vs, H1, I1, r, q⟩ => ⟨I1.kIn, ?_⟩) he hpl
  exact run_g F hgu hr hb (hx σ) I1 r q
theorem pe_g0 (F : FnOkG X.prog X.w X.K X.mg X.base k f fd ps sp) (hgu : X.A.guards = some []) (hr : Room k X.A) (hg : Gl X x) (hm : X.mg x = some (.ref f)) (hk : PySem.W.keepIn X.K (.ref f) = true) (hb : Binds X.K fd ps []) (hx : ∀ σ, PassesAt (L2.CX X.prog X.w) X σ (E σ))
    (hdb : (x == ("__debug__" : Str)) = false) : PE X (.Call (.Name x p) [] [] pos) (tCallS sp E tNil) := by
  refine ⟨fun pins s σ H Q I h => ?_⟩
  refine wpAny_Call_Name_kw (ld_glob I hg hm ?_ hdb)
  exact PySem.W.callWith_K0 I.kIn hk (run_g (us := []) F hgu hr hb (hx σ) I .nil h)
def tCallSK (sp : Sp) (gV : List V → List V → List V) (E : L2.St → XK) (t tk : TA) : TE := fun σ H Q => t σ H fun vs H1 => tk σ H1 fun zs H2 => sp (gV vs zs) H2 Q (E σ)
theorem pe_gk (F : FnOkG X.prog X.w X.K X.mg X.base k f fd ps sp) (hgu : X.A.guards = some []) (hr : Room k X.A) (hg : Gl X x) (hm : X.mg x = some (.ref f)) (hk : PySem.W.keepIn X.K (.ref f) = true) (hb : KBinds X.K fd ps ks g gV) (hx : ∀ σ, PassesAt (L2.CX X.prog X.w) X σ (E σ))
    (ha : PA X (e :: es) t) (hkw : PK X kws tk) (hall : (backToKw pos (keywordEach kws X.env)).all (·.1.isSome) = true) (hks : (backToKw pos (keywordEach kws X.env)).filterMap (·.1) = ks)
    (hdb : (x == ("__debug__" : Str)) = false) (he : starEach (e :: es) X.env = (false, eval e X.env) :: starEach es X.env)
    (hpl : ((backTo pos (starEach (e :: es) X.env)).any (·.1) || (backToKw pos (keywordEach kws X.env)).any (·.1.isNone)) = false) :
    PE X (.Call (.Name x p) (e :: es) kws pos) (tCallSK sp gV E t tk) := by
  refine ⟨fun pins s σ H Q I h => ?_⟩
  refine wpAny_Call_Name_kw (ld_glob I hg hm ?_ hdb)
  refine PySem.W.callWith_KW (h₀ := X.base) I.ok.mod.kin hk hall (thn (ha.run pos pins s σ H _ I h) fun us s1 ⟨vs, H1, I1, r, q⟩ => ?_) hpl he
  refine thn (hkw.run pos pins s1 σ H1 _ I1 q) fun ws s2 ⟨zs, H2, I2, rz, q2⟩ => ⟨I2.kIn, ?_⟩
  rw [hks]
  exact run_gk F hgu hr hb (hx σ) I2 r rz q2
end

/-! ### readings over plain values -/
section
variable (et : ETab) (K : PySem.W.Frag)
def relV : List Addr → Hp → C → V → Prop := fun m H c v => RV K m H c v
def relVs : List Addr → Hp → List C → List V → Prop := fun m H c v => RVs K m H c v
def relB {α : Type} : List Addr → Hp → α → α → Prop := fun _ _ a b => b = a
def tE (W : WX) (f : Sl → Hc → R C) : TE := fun σ H Q => ∃ m sl h, Rl K m h H ∧ RS K m H sl σ ∧ Post et K (fun c d H' => W c d σ H') m H (relV K) Q (f sl h)
def tT (W : WX) (f : Sl → Hc → R Bool) : TT := fun σ H Q => ∃ m sl h, Rl K m h H ∧ RS K m H sl σ ∧ Post et K (fun c d H' => W c d σ H') m H relB Q (f sl h)
def tA (W : WX) (f : Sl → Hc → R (List C)) : TA := fun σ H Q => ∃ m sl h, Rl K m h H ∧ RS K m H sl σ ∧ Post et K (fun c d H' => W c d σ H') m H (relVs K) Q (f sl h)
def tO (W : WX) (f : Sl → Hc → R (Option Int)) : TO := fun σ H Q => ∃ m sl h, Rl K m h H ∧ RS K m H sl σ ∧ Post et K (fun c d H' => W c d σ H') m H relB Q (f sl h)
end
theorem _root_.L2.PE.imp {X : Cx} {e : Expr} {t t' : TE} (h : PE X e t) (hi : ∀ σ H Q, t' σ H Q → t σ H Q) : PE X e t' := ⟨fun pins s σ H Q I q => h.run pins s σ H Q I (hi _ _ _ q)⟩
theorem _root_.L2.PT.imp {X : Cx} {e : Expr} {t t' : TT} (h : PT X e t) (hi : ∀ σ H Q, t' σ H Q → t σ H Q) : PT X e t' := ⟨fun pins s σ H Q I q => h.run pins s σ H Q I (hi _ _ _ q)⟩
theorem _root_.L2.PW.imp {X : Cx} {e : Expr} {t t' : TT} (h : PW X e t) (hi : ∀ σ H Q, t' σ H Q → t σ H Q) : PW X e t' := ⟨fun wh pins s σ H Q I q => h.run wh pins s σ H Q I (hi _ _ _ q)⟩
theorem _root_.L2.PA.imp {X : Cx} {es : List Expr} {t t' : TA} (h : PA X es t) (hi : ∀ σ H Q, t' σ H Q → t σ H Q) : PA X es t' := ⟨fun pos pins s σ H Q I q => h.run pos pins s σ H Q I (hi _ _ _ q)⟩
theorem _root_.L2.PS.imp {X : Cx} {st : Stmt} {t t' : TS} (h : PS X st t) (hi : ∀ D σ H, t' D σ H → t D σ H) : PS X st t' := ⟨fun pins s σ H D I q => h.run pins s σ H D I (hi _ _ _ q)⟩
theorem _root_.L2.PSs.imp {X : Cx} {st : List Stmt} {t t' : TS} (h : PSs X st t) (hi : ∀ D σ H, t' D σ H → t D σ H) : PSs X st t' := ⟨fun pins s σ H D I q => h.run pins s σ H D I (hi _ _ _ q)⟩
end Sh
set_option Elab.async false
set_option linter.all false
set_option autoImplicit false
set_option maxRecDepth 100000
set_option maxHeartbeats 4000000
/-! Sh, part D: operators over plain values do what the machine does. -/
namespace Sh
open PySem PySem.Spec PyProof.Rows L2

theorem bb_sub (a b : Bool) : Gives (Builtin.«int.__sub__» ⟨[.bool a, .bool b], []⟩) (.int ((if a = true then (1 : Int) else 0) - (if b = true then (1 : Int) else 0))) :=
  .of_wp fun M A E s Q h => by obtain ⟨hp, g, d, tk, os⟩ := s; wp_walk; exact ⟨_, rfl, h⟩
theorem sub_bool_bool {prog : Program} {w : World} {A : Around} {E : Value → Shared → Prop} {s : Shared} {Q : Value → Shared → Prop} {a b : Bool}
    (h : Q (.int ((if a = true then (1 : Int) else 0) - (if b = true then (1 : Int) else 0)) s.toks) { s with toks := s.toks + 1 }) : wpAny (model prog w) A (binaryOp .Sub (.bool a) (.bool b)) Q E s :=
  binaryOp_gives (op := .Sub) (T := "bool") rfl rfl F.fills_bool_sub F.slot_bool_sub F.entry_int_sub (F.args_int_sub_2 _ _) (bb_sub a b) trivial h

section
variable {X : Cx} {et : ETab} {W : Value → Option Addr → Hp → Prop} {m : List Addr} {H : Hp} {h : Hc} {x y : C} {v u : V} {Q : VK}
theorem op_subBB : OpR X (binaryOp .Sub) (fun x y H Q => ∃ a b, x = .bl a ∧ y = .bl b ∧ Q (.int ((if a = true then (1 : Int) else 0) - (if b = true then (1 : Int) else 0))) H) := by
  intro pins s σ H x y v u Q I rx ry h
  obtain ⟨i, k, rfl, rfl, q⟩ := h
  cases rx
  cases ry
  exact sub_bool_bool ⟨.int _, H, I.tok _, ⟨_, rfl⟩, q⟩
def CDivX (_ j : Int) : Prop := j ≠ 0 ∧ j.natAbs.log2 < 9000
theorem op_fdivX : OpR X (binaryOp .FloorDiv) (rI CDivX fun i j => .int (i.fdiv j)) := opI fun _ _ _ _ _ _ _ hc q => floordiv_int hc.1 q (.inl (PyProof.noPylong_of_log2 hc.2))

def opr : Op → Operator
  | .add => .Add | .sub => .Sub | .mul => .Mult | .div => .FloorDiv | .mod => .Mod | .pow => .Pow

/-- a tuple of the store's values is laid -/
theorem tup_laid {K : PySem.W.Frag} {cs : List C} {vs : List V} {p : Addr} (q : RVs K m H cs vs) (hn : H p = none) : RV K m (upd H p (.tup vs)) (.tup cs) (.ref p) :=
  ⟨p, vs, rfl, SqT.of upd_same, q.ext (Ext.new hn)⟩
theorem lst_laid {K : PySem.W.Frag} {p : Addr} {o : HO} (rl : Rl K m h H) : RV K (m ++ [p]) (upd H p o) (.ref h.length) (.ref p) :=
  ⟨p, by rw [← rl.len, List.getElem?_append_right (Nat.le_refl _)]; simp, rfl⟩
theorem seq_read {K : PySem.W.Frag} {c : C} {v : V} {xs : List C} (rl : Rl K m h H) (rv : RV K m H c v) (e : seqOf h c = some xs) : ∃ a vs, v = .ref a ∧ (SqL K H a vs ∨ SqT K H a vs) ∧ RVs K m H xs vs := by
  cases c with
  | ref n =>
    obtain ⟨a, e1, e2⟩ := rv
    obtain ⟨vs, q1, q2⟩ := rl.at_ n a xs e1 e
    exact ⟨a, vs, e2, .inl (SqL.of q1), q2⟩
  | tup cs =>
    obtain ⟨a, vs, e1, e2, e3⟩ := rv
    cases e
    exact ⟨a, vs, e1, .inr e2, e3⟩
  | frz cs =>
    obtain ⟨a, vs, e1, e2, e3⟩ := rv
    cases e
    exact ⟨a, vs, e1, .inl e2.sq, e3⟩
  | non => cases e
  | bl _ => cases e
  | int _ => cases e
  | str _ => cases e
  | rep _ => cases e
theorem line_le {n : Nat} (h : n ≤ lineN) : n ≤ sizeLine := by rw [sizeLine_eq]; unfold lineN at h; omega
theorem line_lt {n : Nat} (h : n < lineN) : n < sizeLine := by rw [sizeLine_eq]; unfold lineN at h; omega
theorem RVs.flat {K : PySem.W.Frag} {cs : List C} {vs : List V} (q : RVs K m H cs vs) : ∀ k : Nat, RVs K m H (List.replicate k cs).flatten (List.replicate k vs).flatten
  | 0 => rfl
  | k + 1 => by
    rw [List.replicate_succ, List.replicate_succ, List.flatten_cons, List.flatten_cons]
    exact RVs.append q (RVs.flat q k)
theorem small_of {i : Int} (h : tooBig i = false) : i.natAbs < 2 ^ 60000 := by
  unfold tooBig at h
  have h1 : ¬ big ≤ i.natAbs := of_decide_eq_false h
  exact Nat.lt_of_not_le fun z => h1 (by unfold big; exact z)

/-- arithmetic -/
theorem binop_ok (o : Op) : ∃ r : R2, OpR X (binaryOp (opr o)) r ∧ ∀ (m : List Addr) (H : Hp) (h : Hc) (x y : C) (v u : V) (Q : VK), Rl X.K m h H → RV X.K m H x v → RV X.K m H y u → Post et X.K W m H (relV X.K) Q (binop o x y h) → r v u H Q := by
  cases o with
  | add =>
    refine ⟨_, op_add.or (op_cat.or (op_catT.or op_add_str)), fun m H h x y v u Q rl rx ry p => ?_⟩
    replace p : Post et X.K W m H (relV X.K) Q (addC x y h) := p
    cases x <;> cases y <;> try (exact False.elim p)
    · rename_i i j
      exact .inl ⟨i, j, rx, ry, p m H _ Ext.refl rl rfl⟩
    · rename_i i j
      unfold addC at p
      simp only at p
      split at p
      · exact False.elim p
      · rename_i hz
        exact .inr (.inr (.inr ⟨i, j, rx, ry, line_le (by omega), p m H _ Ext.refl rl rfl⟩))
    · rename_i xs ys
      unfold addC at p
      simp only at p
      split at p
      · exact False.elim p
      · rename_i hn
        obtain ⟨a, vs, e1, e2, e3⟩ := rx
        obtain ⟨b, us, f1, f2, f3⟩ := ry
        have l1 := e3.length
        have l2 := f3.length
        have n1 : vs ≠ [] := by rintro rfl; simp at l1; exact hn (.inl l1)
        have n2 : us ≠ [] := by rintro rfl; simp at l2; exact hn (.inr (.inl l2))
        have n3 : ¬ lineN < xs.length + ys.length := fun z => hn (.inr (.inr z))
        refine .inr (.inr (.inl ⟨a, b, vs, us, e1, f1, e2, f2, n1, by rw [← l1, ← l2]; exact line_le (by omega), fun z => absurd z n2, fun _ p' hp => ?_⟩))
        exact p m _ _ (Ext.new hp) (rl.new hp) (tup_laid (RVs.append e3 f3) hp)
    · rename_i a b
      unfold addC at p
      simp only at p
      split at p
      · rename_i xs ys e1 e2
        split at p
        · exact False.elim p
        · rename_i hz
          obtain ⟨a', q1, q2⟩ := rx
          obtain ⟨b', r1, r2⟩ := ry
          obtain ⟨vs, s1, s2⟩ := rl.at_ _ _ _ q1 e1
          obtain ⟨us, t1, t2⟩ := rl.at_ _ _ _ r1 e2
          refine .inr (.inl ⟨a', b', vs, us, q2, r2, s1, t1, by rw [← s2.length, ← t2.length]; exact line_le (by omega), fun p' hp => ?_⟩)
          exact p _ _ _ (Ext.newL hp) (rl.newL hp (RVs.append s2 t2)) (lst_laid rl)
      · exact False.elim p
  | sub =>
    refine ⟨_, op_sub.or op_subBB, fun m H h x y v u Q rl rx ry p => ?_⟩
    replace p : Post et X.K W m H (relV X.K) Q (subC x y h) := p
    cases x <;> cases y <;> try (exact False.elim p)
    · rename_i i j
      exact .inr ⟨i, j, rx, ry, p m H _ Ext.refl rl rfl⟩
    · rename_i i j
      exact .inl ⟨i, j, rx, ry, p m H _ Ext.refl rl rfl⟩
  | mul =>
    refine ⟨_, op_mulX.or op_rep, fun m H h x y v u Q rl rx ry p => ?_⟩
    replace p : Post et X.K W m H (relV X.K) Q (mulC x y h) := p
    cases x <;> cases y <;> try (exact False.elim p)
    · rename_i i j
      unfold mulC at p
      simp only at p
      split at p
      · exact False.elim p
      · rename_i hb
        have hb' : tooBig i = false ∧ tooBig j = false := by
          cases h1 : tooBig i <;> cases h2 : tooBig j <;> simp_all
        exact .inl ⟨i, j, rx, ry, mulx_ok (a := 60000) (b := 60000) (small_of hb'.1) (small_of hb'.2) (by omega), p m H _ Ext.refl rl rfl⟩
    · rename_i a k
      unfold mulC at p
      simp only at p
      split at p
      · rename_i xs e1
        split at p
        · exact False.elim p
        · rename_i hz
          obtain ⟨a', q1, q2⟩ := rx
          obtain ⟨vs, s1, s2⟩ := rl.at_ _ _ _ q1 e1
          have z1 : ¬ k < 0 := fun z => hz (.inl z)
          have z2 : ¬ lineN < xs.length * k.toNat := fun z => hz (.inr (.inl z))
          have z3 : ¬ 1000000000 ≤ k := fun z => hz (.inr (.inr z))
          refine .inr ⟨a', k, vs, q2, ry, s1, by omega, by omega, by rw [← s2.length]; exact line_le (by omega), fun p' hp => ?_⟩
          exact p _ _ _ (Ext.newL hp) (rl.newL hp (RVs.flat s2 _)) (lst_laid rl)
      · exact False.elim p
  | div =>
    refine ⟨_, op_fdivX, fun m H h x y v u Q rl rx ry p => ?_⟩
    replace p : Post et X.K W m H (relV X.K) Q (divC x y h) := p
    cases x <;> cases y <;> try (exact False.elim p)
    rename_i i j
    unfold divC at p
    simp only at p
    split at p
    · exact False.elim p
    · rename_i hz
      have z1 : j ≠ 0 := fun z => hz (.inl z)
      have z2 : j.natAbs < 2 ^ 8000 := Nat.lt_of_not_le fun z => hz (.inr (by unfold divLine; exact z))
      exact ⟨i, j, rx, ry, ⟨z1, Nat.lt_of_lt_of_le (PySem.Flt.log2_lt_of (by omega) z2) (by omega)⟩, p m H _ Ext.refl rl rfl⟩
  | mod =>
    refine ⟨_, op_modN, fun m H h x y v u Q rl rx ry p => ?_⟩
    replace p : Post et X.K W m H (relV X.K) Q (modC x y h) := p
    cases x <;> cases y <;> try (exact False.elim p)
    rename_i i j
    unfold modC at p
    simp only at p
    split at p
    · exact False.elim p
    · rename_i hz
      exact ⟨i, j, rx, ry, hz, p m H _ Ext.refl rl rfl⟩
  | pow =>
    refine ⟨_, op_pow, fun m H h x y v u Q rl rx ry p => ?_⟩
    replace p : Post et X.K W m H (relV X.K) Q (powC x y h) := p
    cases x <;> cases y <;> try (exact False.elim p)
    rename_i i j
    unfold powC at p
    simp only at p
    split at p
    · rename_i hz
      exact ⟨i, j, rx, ry, ⟨hz.1, by omega, by omega⟩, p m H _ Ext.refl rl rfl⟩
    · exact False.elim p

/-! ### data -/
theorem mapM_dp {K : PySem.W.Frag} {f : C → Option PyData} (ih : ∀ c v d, RV K m H c v → f c = some d → Dp K H v d) : ∀ (cs : List C) (vs : List V) (ds : List PyData), RVs K m H cs vs → cs.mapM f = some ds → DpAll K H vs ds
  | [], _, ds, q, e => by
    cases q
    simp at e
    subst e
    exact .nil
  | c :: cs, _, ds, q, e => by
    obtain ⟨v, r, rfl, q1, q2⟩ := q
    rw [List.mapM_cons] at e
    cases h1 : f c with
    | none => rw [h1] at e; simp at e
    | some d =>
      cases h2 : cs.mapM f with
      | none => rw [h1, h2] at e; simp at e
      | some ds' =>
        rw [h1, h2] at e
        simp at e
        subst e
        exact .cons (ih c v d q1 h1) (mapM_dp ih cs r ds' q2 h2)
theorem toD_dp {K : PySem.W.Frag} (rl : Rl K m h H) : ∀ (n : Nat) (c : C) (v : V) (d : PyData), RV K m H c v → toD h n c = some d → Dp K H v d
  | 0, _, _, _, _, e => by cases e
  | n + 1, c, v, d, rv, e => by
    have ih := fun c v d => toD_dp rl n c v d
    cases c with
    | non => cases rv; cases e; exact .non
    | bl b => cases rv; cases e; exact .bl b
    | int i => cases rv; cases e; exact .int i
    | str x => cases rv; cases e; exact .str x
    | rep d => obtain ⟨rfl, _⟩ := rv; cases e; exact .str _
    | tup cs =>
      obtain ⟨a, vs, rfl, e2, e3⟩ := rv
      have e' : (cs.mapM (toD h n)).map PyData.tuple = some d := e
      cases hm : cs.mapM (toD h n) with
      | none => rw [hm] at e'; cases e'
      | some ds =>
        rw [hm] at e'
        cases e'
        exact .tup e2 (mapM_dp ih cs vs ds e3 hm)
    | frz cs =>
      obtain ⟨a, vs, rfl, e2, e3⟩ := rv
      have e' : (cs.mapM (toD h n)).map PyData.list = some d := e
      cases hm : cs.mapM (toD h n) with
      | none => rw [hm] at e'; cases e'
      | some ds =>
        rw [hm] at e'
        cases e'
        exact .lst e2.sq (mapM_dp ih cs vs ds e3 hm)
    | ref k =>
      obtain ⟨a, e1, rfl⟩ := rv
      have e' : (match h[k]? with | some cs => (cs.mapM (toD h n)).map PyData.list | none => none) = some d := e
      cases hk : h[k]? with
      | none => rw [hk] at e'; cases e'
      | some cs =>
        rw [hk] at e'
        obtain ⟨vs, q1, q2⟩ := rl.at_ _ _ _ e1 hk
        have e2 : (cs.mapM (toD h n)).map PyData.list = some d := e'
        cases hm : cs.mapM (toD h n) with
        | none => rw [hm] at e2; cases e2
        | some ds =>
          rw [hm] at e2
          cases e2
          exact .lst (SqL.of q1) (mapM_dp ih cs vs ds q2 hm)

/-! ### comparisons -/
def cmr : Cm → CmpOp
  | .eq => .Eq | .ne => .NotEq | .lt => .Lt | .le => .LtE | .gt => .Gt | .ge => .GtE | .is_ => .Is | .isn => .IsNot | .in_ => .In | .nin => .NotIn
def isV : V → V → Option Bool
  | x, .non => some (decide (x = .non))
  | .bl a, .bl b => some (a == b)
  | .bl _, _ => none
  | _, .bl _ => some false
  | _, _ => none
end
end Sh
set_option Elab.async false
set_option linter.all false
set_option autoImplicit false
set_option maxRecDepth 100000
set_option maxHeartbeats 4000000
/-! Sh, part E0: texts that repr gives; == of data. -/
namespace Sh
open PySem PySem.Spec PyProof.Rows L2

/-! ### texts that repr gives are texts -/
def cpsOk (x : Str) : Prop := ∀ c ∈ x.cps.toList, c < 0x110000
theorem strOk_iff (x : Str) : PyData.strOk x = true ↔ cpsOk x := by
  unfold PyData.strOk cpsOk
  rw [Array.all_eq_true_iff_forall_mem]
  constructor
  · intro h c hc
    simpa using h c (Array.mem_toList_iff.mp hc)
  · intro h c hc
    simpa using h c (Array.mem_toList_iff.mpr hc)
theorem cpsOk_of (z : String) : cpsOk (Str.ofString z) := by
  unfold cpsOk Str.ofString
  intro c hc
  have hc' : c ∈ cpsOfBytes 0 0 z.toByteArray.data.toList := by simpa using hc
  rw [cpsOfBytes_string] at hc'
  obtain ⟨ch, _, rfl⟩ := List.mem_map.mp hc'
  have h1 := ch.valid
  have h2 : ch.val.toNat = ch.toNat := rfl
  rcases h1 with h1 | h1
  · have h3 : ch.val.toNat < 55296 := h1
    omega
  · have h3 : ch.val.toNat < 1114112 := h1.2
    omega
theorem cpsOk_append {a b : Str} (ha : cpsOk a) (hb : cpsOk b) : cpsOk (a ++ b) := fun c hc => by
  have hc' : c ∈ (a.cps ++ b.cps).toList := hc
  rw [Array.toList_append] at hc'
  rcases List.mem_append.mp hc' with h | h
  · exact ha c h
  · exact hb c h
theorem reprChar_ok {q c : Nat} (hc : c < 0x110000) : ∀ d ∈ Builtin.Str.reprChar q c, d < 0x110000 := by
  have hex : ∀ w : Nat, ∀ d ∈ List.replicate (w - ((Nat.toDigits 16 c).map Char.toNat).length) 48 ++ (Nat.toDigits 16 c).map Char.toNat, d < 0x110000 := fun w d hd => by
    rcases List.mem_append.mp hd with h | h
    · have := (List.mem_replicate.mp h).2
      omega
    · obtain ⟨ch, _, rfl⟩ := List.mem_map.mp h
      have h2 : ch.val.toNat = ch.toNat := rfl
      rcases ch.valid with h1 | h1
      · have h3 : ch.val.toNat < 55296 := h1
        omega
      · have h3 : ch.val.toNat < 1114112 := h1.2
        omega
  intro d hd
  unfold Builtin.Str.reprChar at hd
  simp only at hd
  have two : ∀ a b : Nat, a < 0x110000 → b < 0x110000 → d ∈ [a, b] → d < 0x110000 := fun a b ha hb h => by
    simp only [List.mem_cons, List.not_mem_nil, or_false] at h
    rcases h with rfl | rfl <;> assumption
  have hx : ∀ a b : Nat, a < 0x110000 → b < 0x110000 → ∀ w, d ∈ [a, b] ++ (List.replicate (w - ((Nat.toDigits 16 c).map Char.toNat).length) 48 ++ (Nat.toDigits 16 c).map Char.toNat) → d < 0x110000 := fun a b ha hb w h => by
    rcases List.mem_append.mp h with h | h
    · exact two a b ha hb h
    · exact hex w d h
  split at hd
  · exact two _ _ (by omega) hc hd
  split at hd
  · exact two _ _ (by omega) (by omega) hd
  split at hd
  · exact two _ _ (by omega) (by omega) hd
  split at hd
  · exact two _ _ (by omega) (by omega) hd
  split at hd
  · have : d = c := by simpa using hd
    omega
  split at hd
  · exact hx _ _ (by omega) (by omega) 2 hd
  split at hd
  · exact hx _ _ (by omega) (by omega) 4 hd
  · exact hx _ _ (by omega) (by omega) 8 hd
theorem foldl_ok {q : Nat} : ∀ (l : List Nat) (acc : Array Nat), (∀ c ∈ l, c < 0x110000) → (∀ c ∈ acc.toList, c < 0x110000) → ∀ c ∈ (l.foldl (fun out c => out ++ (Builtin.Str.reprChar q c).toArray) acc).toList, c < 0x110000
  | [], acc, _, h => h
  | c :: l, acc, h1, h2 => by
    refine foldl_ok l _ (fun d hd => h1 d (List.mem_cons_of_mem _ hd)) (fun d hd => ?_)
    rw [Array.toList_append] at hd
    rcases List.mem_append.mp hd with h | h
    · exact h2 d h
    · exact reprChar_ok (h1 c List.mem_cons_self) d (by simpa using h)
theorem quote_ok (x : Str) : reprQuote x < 0x110000 := by
  unfold reprQuote
  split <;> omega
theorem cpsOk_repr {x : Str} (h : cpsOk x) : cpsOk (reprText x) := by
  unfold cpsOk reprText
  intro c hc
  rw [Array.toList_push, ← Array.foldl_toList] at hc
  rcases List.mem_append.mp hc with h' | h'
  · refine foldl_ok x.cps.toList #[reprQuote x] h (fun d hd => ?_) c h'
    have : d = reprQuote x := by simpa using hd
    rw [this]; exact quote_ok x
  · have : c = reprQuote x := by simpa using h'
    rw [this]; exact quote_ok x
theorem cpsOk_join {sep : Str} (hs : cpsOk sep) : ∀ ts : List Str, (∀ t ∈ ts, cpsOk t) → cpsOk (Str.join sep ts)
  | [], _ => fun c hc => by simp [Str.join, Str.empty] at hc
  | [t], h => h t (by simp)
  | t :: u :: r, h => by
    show cpsOk (t ++ sep ++ Str.join sep (u :: r))
    exact cpsOk_append (cpsOk_append (h t (by simp)) hs) (cpsOk_join hs (u :: r) fun v hv => h v (List.mem_cons_of_mem _ hv))
theorem cpsOk_from : ∀ (ts : List Str) (k : Nat) (acc : Str), cpsOk acc → (∀ t ∈ ts, cpsOk t) → cpsOk (textFrom k acc ts)
  | [], _, acc, h, _ => h
  | t :: ts, k, acc, h, h2 => by
    show cpsOk (textFrom (k + 1) (acc ++ (if k > 0 then ", " else "" : String) ++ t) ts)
    refine cpsOk_from ts _ _ (cpsOk_append (cpsOk_append h ?_) (h2 t (by simp))) fun v hv => h2 v (List.mem_cons_of_mem _ hv)
    split <;> exact cpsOk_of _
mutual
theorem shown_cps : ∀ d : PyData, d.canLay0 = true → cpsOk d.shown
  | .none, _ => cpsOk_of "None"
  | .bool b, _ => by
    unfold PyData.shown
    split
    · exact cpsOk_of "True"
    · exact cpsOk_of "False"
  | .int i, _ => cpsOk_of (toString i)
  | .str x, h => by
    have h' : PyData.strOk x = true := by simpa only [PyData.canLay0] using h
    exact cpsOk_repr ((strOk_iff x).mp h')
  | .list xs, h => by
    have h' : PyData.canLayAll0 xs = true := by simpa only [PyData.canLay0] using h
    have hs := shownAll_cps xs h'
    show cpsOk (listText (PyData.shownAll xs))
    unfold listText
    exact cpsOk_append (cpsOk_from _ 0 _ (cpsOk_of "[") hs) (cpsOk_of "]")
  | .tuple xs, h => by
    have h' : PyData.canLayAll0 xs = true := by simpa only [PyData.canLay0] using h
    have hs := shownAll_cps xs h'
    show cpsOk (tupleText (PyData.shownAll xs))
    unfold tupleText
    refine cpsOk_append (cpsOk_append (cpsOk_of "(") (cpsOk_join (cpsOk_of ", ") _ hs)) ?_
    split <;> exact cpsOk_of _
  | .dict _, h => by simp [PyData.canLay0] at h
theorem shownAll_cps : ∀ xs : List PyData, PyData.canLayAll0 xs = true → ∀ t ∈ PyData.shownAll xs, cpsOk t
  | [], _ => fun t ht => by simp [PyData.shownAll] at ht
  | x :: xs, h => by
    have h' : x.canLay0 = true ∧ PyData.canLayAll0 xs = true := by simpa [PyData.canLayAll0] using h
    intro t ht
    have ht' : t = x.shown ∨ t ∈ PyData.shownAll xs := by simpa [PyData.shownAll] using ht
    rcases ht' with rfl | ht'
    · exact shown_cps x h'.1
    · exact shownAll_cps xs h'.2 t ht'
end
theorem shown_ok {d : PyData} (h : d.canLay0 = true) : PyData.strOk d.shown = true := (strOk_iff _).mpr (shown_cps d h)
mutual
theorem leaves_of : ∀ d : PyData, d.canLay0 = true → d.showable = true → d.intsShort 1921 = true
  | .none, _, _ => rfl
  | .bool _, _, _ => rfl
  | .int i, _, h => by
    have h' : i.natAbs.log2 < 1920 := by simpa [PyData.showable] using h
    simp only [PyData.intsShort, decide_eq_true_eq]
    exact int_text_len_1921 h'
  | .str _, _, _ => rfl
  | .list xs, hc, h => by
    simp only [PyData.intsShort]
    exact leavesAll_of xs (by simpa only [PyData.canLay0] using hc) (by simpa only [PyData.showable] using h)
  | .tuple xs, hc, h => by
    simp only [PyData.intsShort]
    exact leavesAll_of xs (by simpa only [PyData.canLay0] using hc) (by simpa only [PyData.showable] using h)
  | .dict _, hc, _ => by simp [PyData.canLay0] at hc
theorem leavesAll_of : ∀ xs : List PyData, PyData.canLayAll0 xs = true → PyData.showableAll xs = true → PyData.intsShortAll 1921 xs = true
  | [], _, _ => rfl
  | x :: xs, hc, h => by
    have hc' : x.canLay0 = true ∧ PyData.canLayAll0 xs = true := by simpa [PyData.canLayAll0] using hc
    have h' : x.showable = true ∧ PyData.showableAll xs = true := by simpa [PyData.showableAll] using h
    simp only [PyData.intsShortAll, Bool.and_eq_true]
    exact ⟨leaves_of x hc'.1 h'.1, leavesAll_of xs hc'.2 h'.2⟩
end
theorem shown_short {d : PyData} (hc : d.canLay0 = true) (hs : d.showable = true) (hw : shortD d = true) : d.shown.length ≤ sizeLine := by
  have h1 := PyData.shown_le 1921 (by omega) d (PyData.leavesShort_of_canLay0 1921 d hc (leaves_of d hc hs))
  have h2 : d.weight ≤ 8000 := of_decide_eq_true hw
  rw [sizeLine_eq]
  omega

/-! ### == -/
mutual
theorem pdEq_eq : ∀ d e : PyData, pdEq d e = true → d = e
  | .none, e, h => by cases e <;> first | rfl | cases h
  | .bool a, e, h => by
    cases e <;> try (cases h; done)
    have h' : (a == _) = true := h
    rw [beq_iff_eq.mp h']
  | .int a, e, h => by
    cases e <;> try (cases h; done)
    have h' : (a == _) = true := h
    rw [beq_iff_eq.mp h']
  | .str a, e, h => by
    cases e <;> try (cases h; done)
    have h' : (a == _) = true := h
    rw [beq_iff_eq.mp h']
  | .list xs, e, h => by
    cases e <;> try (cases h; done)
    rw [pdEqs_eq xs _ h]
  | .tuple xs, e, h => by
    cases e <;> try (cases h; done)
    rw [pdEqs_eq xs _ h]
  | .dict _, e, h => by cases e <;> cases h
theorem pdEqs_eq : ∀ ds es : List PyData, pdEqs ds es = true → ds = es
  | [], es, h => by cases es <;> first | rfl | cases h
  | d :: ds, es, h => by
    cases es with
    | nil => cases h
    | cons e es =>
      have h' : (pdEq d e && pdEqs ds es) = true := h
      rw [Bool.and_eq_true] at h'
      rw [pdEq_eq d e h'.1, pdEqs_eq ds es h'.2]
end
section
variable {K : PySem.W.Frag} {m : List Addr} {H : Hp} {h : Hc}
theorem mapM_depth {f : C → Option PyData} {n : Nat} (ih : ∀ c d, f c = some d → d.depth ≤ n) : ∀ (cs : List C) (ds : List PyData), cs.mapM f = some ds → PyData.depthAll ds ≤ n
  | [], ds, e => by
    simp at e
    subst e
    simp [PyData.depthAll]
  | c :: cs, ds, e => by
    rw [List.mapM_cons] at e
    cases h1 : f c with
    | none => rw [h1] at e; simp at e
    | some d =>
      cases h2 : cs.mapM f with
      | none => rw [h1, h2] at e; simp at e
      | some ds' =>
        rw [h1, h2] at e
        simp at e
        subst e
        simp only [PyData.depthAll]
        exact Nat.max_le.mpr ⟨ih c d h1, mapM_depth ih cs ds' h2⟩
theorem toD_depth : ∀ (n : Nat) (c : C) (d : PyData), toD h n c = some d → d.depth ≤ n
  | 0, _, _, e => by cases e
  | n + 1, c, d, e => by
    have ih := fun c d => toD_depth n c d
    have two : ∀ (cs : List C) (g : List PyData → PyData), (∀ ds, (g ds).depth = PyData.depthAll ds + 1) → (cs.mapM (toD h n)).map g = some d → d.depth ≤ n + 1 := fun cs g hg e => by
      cases hm : cs.mapM (toD h n) with
      | none => rw [hm] at e; cases e
      | some ds =>
        rw [hm] at e
        cases e
        rw [hg]
        exact Nat.succ_le_succ (mapM_depth ih cs ds hm)
    cases c with
    | non => cases e; simp [PyData.depth]
    | bl b => cases e; simp [PyData.depth]
    | int i => cases e; simp [PyData.depth]
    | str x => cases e; simp [PyData.depth]
    | rep d => cases e; simp [PyData.depth]
    | tup cs => exact two cs .tuple (fun ds => by simp [PyData.depth]) e
    | frz cs => exact two cs .list (fun ds => by simp [PyData.depth]) e
    | ref k =>
      have e' : (match h[k]? with | some cs => (cs.mapM (toD h n)).map PyData.list | none => none) = some d := e
      cases hk : h[k]? with
      | none => rw [hk] at e'; cases e'
      | some cs =>
        rw [hk] at e'
        exact two cs .list (fun ds => by simp [PyData.depth]) e'
/-- what == gives, with the data -/
def EqIs (K : PySem.W.Frag) (H : Hp) (n : Nat) (v u : V) (b : Bool) : Prop := ∃ d e, Dp K H v d ∧ Dp K H u e ∧ d.canLay0 = true ∧ e.canLay0 = true ∧ d.depth ≤ n ∧ e.depth ≤ n ∧ PyData.eqv d e = b
theorem eqFar_ok (rl : Rl K m h H) {n : Nat} {x y : C} {v u : V} {b : Bool} (rx : RV K m H x v) (ry : RV K m H y u) (e : eqFar h n x y = some b) : EqIs K H n v u b := by
  unfold eqFar at e
  split at e
  · rename_i d d' e1 e2
    split at e
    · rename_i hs
      rw [Bool.and_eq_true] at hs
      cases e
      exact ⟨d, d', toD_dp rl n x v d rx e1, toD_dp rl n y u d' ry e2, SeqAt.canLay_of_shaped hs.1, SeqAt.canLay_of_shaped hs.2, toD_depth n x d e1, toD_depth n y d' e2, rfl⟩
    · cases e
  · cases e
theorem both_ok {n : Nat} {f : C → C → Option Bool} (ih : ∀ x y v u b, RV K m H x v → RV K m H y u → f x y = some b → EqIs K H n v u b) : ∀ (xs ys : List C) (vs us : List V) (b : Bool), RVs K m H xs vs → RVs K m H ys us → both f xs ys = some b →
    ∃ ds es, DpAll K H vs ds ∧ DpAll K H us es ∧ PyData.canLayAll0 ds = true ∧ PyData.canLayAll0 es = true ∧ PyData.depthAll ds ≤ n ∧ PyData.depthAll es ≤ n ∧ PyData.eqvAll ds es = b
  | [], ys, vs, us, b, q1, q2, e => by
    cases ys with
    | nil =>
      cases q1
      cases q2
      cases e
      exact ⟨[], [], .nil, .nil, rfl, rfl, Nat.zero_le _, Nat.zero_le _, rfl⟩
    | cons _ _ => cases e
  | x :: xs, ys, vs, us, b, q1, q2, e => by
    cases ys with
    | nil => cases e
    | cons y ys =>
      obtain ⟨v, r, rfl, a1, a2⟩ := q1
      obtain ⟨u, t, rfl, b1, b2⟩ := q2
      unfold both at e
      split at e
      · cases e
      · rename_i c hc
        split at e
        · cases e
        · rename_i c' hc'
          cases e
          obtain ⟨d, d', h1, h2, h3, h4, h5, h6, h7⟩ := ih x y v u c a1 b1 hc
          obtain ⟨ds, es, k1, k2, k3, k4, k5, k6, k7⟩ := both_ok ih xs ys r t c' a2 b2 hc'
          refine ⟨d :: ds, d' :: es, .cons h1 k1, .cons h2 k2, ?_, ?_, ?_, ?_, ?_⟩
          · simp only [PyData.canLayAll0, h3, k3, Bool.and_self]
          · simp only [PyData.canLayAll0, h4, k4, Bool.and_self]
          · simp only [PyData.depthAll]; exact Nat.max_le.mpr ⟨h5, k5⟩
          · simp only [PyData.depthAll]; exact Nat.max_le.mpr ⟨h6, k6⟩
          · simp only [PyData.eqvAll, h7, k7]
theorem ceq_all (rl : Rl K m h H) : ∀ (n : Nat) (x y : C) (v u : V) (b : Bool), RV K m H x v → RV K m H y u → ceq h n x y = some b → EqIs K H n v u b
  | 0, _, _, _, _, _, _, _, e => by cases e
  | n + 1, x, y, v, u, b, rx, ry, e => by
    have ih := fun x y v u b => ceq_all rl n x y v u b
    have far : eqFar h (n + 1) x y = some b → EqIs K H (n + 1) v u b := eqFar_ok rl rx ry
    unfold ceq at e
    split at e
    · rename_i d d'
      split at e
      · rename_i hd
        cases e
        cases pdEq_eq _ _ hd
        obtain ⟨rfl, hc⟩ := rx
        obtain ⟨rfl, _⟩ := ry
        refine ⟨.str d.shown, .str d.shown, .str _, .str _, ?_, ?_, ?_, ?_, ?_⟩
        · simp only [PyData.canLay0]; exact shown_ok hc
        · simp only [PyData.canLay0]; exact shown_ok hc
        · simp [PyData.depth]
        · simp [PyData.depth]
        · simp [PyData.eqv]
      · exact far e
    · rename_i i j
      cases e
      cases rx
      cases ry
      exact ⟨.int i, .int j, .int i, .int j, rfl, rfl, by simp [PyData.depth], by simp [PyData.depth], rfl⟩
    · rename_i xs ys
      split at e
      · obtain ⟨a, vs, rfl, e2, e3⟩ := rx
        obtain ⟨a', us, rfl, f2, f3⟩ := ry
        obtain ⟨ds, es, k1, k2, k3, k4, k5, k6, k7⟩ := both_ok ih xs ys vs us b e3 f3 e
        exact ⟨.tuple ds, .tuple es, .tup e2 k1, .tup f2 k2, by simpa only [PyData.canLay0] using k3, by simpa only [PyData.canLay0] using k4,
          by simp only [PyData.depth]; omega, by simp only [PyData.depth]; omega, by simpa only [PyData.eqv] using k7⟩
      · exact far e
    · rename_i a a'
      split at e
      · rename_i xs ys h1 h2
        split at e
        · obtain ⟨p, q1, rfl⟩ := rx
          obtain ⟨p', q2, rfl⟩ := ry
          obtain ⟨vs, s1, s2⟩ := rl.at_ _ _ _ q1 h1
          obtain ⟨us, t1, t2⟩ := rl.at_ _ _ _ q2 h2
          obtain ⟨ds, es, k1, k2, k3, k4, k5, k6, k7⟩ := both_ok ih xs ys vs us b s2 t2 e
          exact ⟨.list ds, .list es, .lst (SqL.of s1) k1, .lst (SqL.of t1) k2, by simpa only [PyData.canLay0] using k3, by simpa only [PyData.canLay0] using k4,
            by simp only [PyData.depth]; omega, by simp only [PyData.depth]; omega, by simpa only [PyData.eqv] using k7⟩
        · exact far e
      · cases e
    · exact far e
theorem ceq_ok (rl : Rl K m h H) (n : Nat) (hn : n ≤ 64) (x y : C) (v u : V) (b : Bool) (rx : RV K m H x v) (ry : RV K m H y u) (e : ceq h n x y = some b) :
    ∃ d d', Dp K H v d ∧ Dp K H u d' ∧ SeqAt.shaped d = true ∧ SeqAt.shaped d' = true ∧ PyData.eqv d d' = b := by
  obtain ⟨d, d', h1, h2, h3, h4, h5, h6, h7⟩ := ceq_all rl n x y v u b rx ry e
  refine ⟨d, d', h1, h2, ?_, ?_, h7⟩
  · unfold SeqAt.shaped
    rw [h3, decide_eq_true (Nat.le_trans h5 hn)]
    rfl
  · unfold SeqAt.shaped
    rw [h4, decide_eq_true (Nat.le_trans h6 hn)]
    rfl
end
end Sh
set_option Elab.async false
set_option linter.all false
set_option autoImplicit false
set_option maxRecDepth 100000
set_option maxHeartbeats 4000000
/-! Sh, part E: comparisons, truth, items, slices, built-ins. -/
namespace Sh
open PySem PySem.Spec PyProof.Rows L2
section
variable {X : Cx} {et : ETab} {W : Value → Option Addr → Hp → Prop} {m : List Addr} {H : Hp} {h : Hc} {x y : C} {v u : V} {Q : VK}
theorem non_iff {K : PySem.W.Frag} {c : C} {v : V} (r : RV K m H c v) : decide (v = .non) = (match c with | .non => true | _ => false) := by
  cases c with
  | non => cases r; rfl
  | bl _ => cases r; rfl
  | int _ => cases r; rfl
  | str _ => cases r; rfl
  | rep _ => obtain ⟨rfl, _⟩ := r; rfl
  | tup _ => obtain ⟨a, vs, rfl, _⟩ := r; rfl
  | ref _ => obtain ⟨a, _, rfl⟩ := r; rfl
  | frz _ => obtain ⟨a, vs, rfl, _⟩ := r; rfl
theorem cmp_int {o : Cm} {op : CmpOp} {g : Int → Int → Bool} (ho : OpR X (compareOp op) (rI0 fun i j => .bl (g i j)))
    (hc : ∀ x y h, cmpop o x y h = match x, y with | .int i, .int j => .ok (.bl (g i j)) h | _, _ => .bad) :
    ∃ r : R2, OpR X (compareOp op) r ∧ ∀ (m : List Addr) (H : Hp) (h : Hc) (x y : C) (v u : V) (Q : VK), Rl X.K m h H → RV X.K m H x v → RV X.K m H y u → Post et X.K W m H (relV X.K) Q (cmpop o x y h) → r v u H Q := by
  refine ⟨_, ho, fun m H h x y v u Q rl rx ry p => ?_⟩
  rw [hc] at p
  cases x <;> cases y <;> try (exact False.elim p)
  rename_i i j
  exact ⟨i, j, rx, ry, p m H _ Ext.refl rl rfl⟩
theorem cmpop_ok (o : Cm) (hu : X.A.units + 64 < cLine) : ∃ r : R2, OpR X (compareOp (cmr o)) r ∧ ∀ (m : List Addr) (H : Hp) (h : Hc) (x y : C) (v u : V) (Q : VK), Rl X.K m h H → RV X.K m H x v → RV X.K m H y u → Post et X.K W m H (relV X.K) Q (cmpop o x y h) → r v u H Q := by
  cases o with
  | eq =>
    refine ⟨_, op_eqD hu, fun m H h x y v u Q rl rx ry p => ?_⟩
    unfold cmpop at p
    simp only at p
    split at p
    · rename_i b e1
      obtain ⟨d, e, h1, h2, h3, h4, h5⟩ := ceq_ok rl 40 (by omega) x y v u b rx ry e1
      exact ⟨d, e, h1, h2, h3, h4, by rw [h5]; exact p m H _ Ext.refl rl rfl⟩
    · exact False.elim p
  | ne =>
    refine ⟨_, op_neD hu, fun m H h x y v u Q rl rx ry p => ?_⟩
    unfold cmpop at p
    simp only at p
    split at p
    · rename_i b e1
      obtain ⟨d, e, h1, h2, h3, h4, h5⟩ := ceq_ok rl 40 (by omega) x y v u b rx ry e1
      exact ⟨d, e, h1, h2, h3, h4, by rw [h5]; exact p m H _ Ext.refl rl rfl⟩
    · exact False.elim p
  | lt => exact cmp_int op_lt (fun x y h => by cases x <;> cases y <;> rfl)
  | le => exact cmp_int op_le (fun x y h => by cases x <;> cases y <;> rfl)
  | gt => exact cmp_int op_gt (fun x y h => by cases x <;> cases y <;> rfl)
  | ge => exact cmp_int op_ge (fun x y h => by cases x <;> cases y <;> rfl)
  | is_ =>
    refine ⟨_, op_isN.or op_isBl, fun m H h x y v u Q rl rx ry p => ?_⟩
    have e : cmpop .is_ x y h = match isS x y with | some b => .ok (.bl b) h | none => .bad := rfl
    rw [e] at p
    have hn := non_iff rx
    cases y <;> try (cases x <;> exact False.elim p)
    · cases ry
      refine .inl ⟨rfl, ?_⟩
      rw [hn]
      cases x <;> exact p m H _ Ext.refl rl rfl
    · cases x <;> try (exact False.elim p)
      exact .inr ⟨_, _, rx, ry, p m H _ Ext.refl rl rfl⟩
  | isn =>
    refine ⟨_, op_notN.or op_notBl, fun m H h x y v u Q rl rx ry p => ?_⟩
    have e : cmpop .isn x y h = match isS x y with | some b => .ok (.bl (!b)) h | none => .bad := rfl
    rw [e] at p
    have hn := non_iff rx
    cases y <;> try (cases x <;> exact False.elim p)
    · cases ry
      refine .inl ⟨rfl, ?_⟩
      rw [hn]
      cases x <;> exact p m H _ Ext.refl rl rfl
    · cases x <;> try (exact False.elim p)
      exact .inr ⟨_, _, rx, ry, p m H _ Ext.refl rl rfl⟩
  | in_ => exact ⟨fun _ _ _ _ => False, fun _ _ _ _ _ _ _ _ _ _ _ _ q => q.elim, fun m H h x y v u Q rl rx ry p => p⟩
  | nin => exact ⟨fun _ _ _ _ => False, fun _ _ _ _ _ _ _ _ _ _ _ _ q => q.elim, fun m H h x y v u Q rl rx ry p => p⟩

/-! ### truth -/
theorem isEmpty_rvs {K : PySem.W.Frag} {cs : List C} {vs : List V} (q : RVs K m H cs vs) : vs.isEmpty = cs.isEmpty := by
  cases cs with
  | nil => cases q; rfl
  | cons c cs => obtain ⟨v, r, rfl, _⟩ := q; rfl
theorem truth_ok (rl : Rl X.K m h H) (rx : RV X.K m H x v) {Q : Bool → Hp → Prop} (p : Post et X.K W m H relB Q (truth x h)) : ∃ k, TruV X.K v H k ∧ Q k H := by
  have sq : ∀ xs, seqOf h x = some xs → Post et X.K W m H relB Q (.ok (!xs.isEmpty) h) → ∃ k, TruV X.K v H k ∧ Q k H := fun xs e p => by
    obtain ⟨a, vs, rfl, hs, q⟩ := seq_read rl rx e
    refine ⟨!xs.isEmpty, ?_, p m H _ Ext.refl rl rfl⟩
    rw [← isEmpty_rvs q]
    rcases hs with hs | hs
    · exact .inl ⟨vs, hs, rfl⟩
    · exact .inr (.inl ⟨vs, hs, rfl⟩)
  cases x with
  | non => cases rx; exact ⟨false, rfl, p m H _ Ext.refl rl rfl⟩
  | bl b => cases rx; exact ⟨b, rfl, p m H _ Ext.refl rl rfl⟩
  | int i => cases rx; exact ⟨_, rfl, p m H _ Ext.refl rl rfl⟩
  | str z =>
    cases rx
    unfold truth at p
    simp only at p
    split at p
    · rename_i hz
      exact ⟨_, ⟨line_le hz, rfl⟩, p m H _ Ext.refl rl rfl⟩
    · exact False.elim p
  | rep d => exact False.elim p
  | tup cs => exact sq cs rfl p
  | frz cs => exact sq cs rfl p
  | ref n =>
    have e : truth (.ref n) h = match h[n]? with | some xs => .ok (!xs.isEmpty) h | none => .bad := rfl
    rw [e] at p
    cases hn : h[n]? with
    | none => rw [hn] at p; exact False.elim p
    | some xs => rw [hn] at p; exact sq xs hn p

/-! ### items -/
theorem ixC_eq (n : Nat) (i : Int) : ixC n i = ixN n i := rfl
theorem item_ok : ∃ r : R2, IxR X r ∧ ∀ (m : List Addr) (H : Hp) (h : Hc) (x y : C) (v u : V) (Q : VK), Rl X.K m h H → RV X.K m H x v → RV X.K m H y u → Post et X.K W m H (relV X.K) Q (item x y h) → r v u H Q := by
  refine ⟨_, ix_list.or ix_tup, fun m H h x y v u Q rl rx ry p => ?_⟩
  cases y <;> try (exact False.elim p)
  rename_i i
  unfold item at p
  simp only at p
  split at p
  · rename_i xs e1
    split at p
    · rename_i c e2
      obtain ⟨a, vs, rfl, hs, q⟩ := seq_read rl rx e1
      have hl := q.length
      cases hj : ixC xs.length i with
      | none => rw [hj] at e2; cases e2
      | some j =>
        rw [hj] at e2
        have e3 : xs[j]? = some c := e2
        obtain ⟨w, w1, w2⟩ := q.get e3
        have e4 : atI vs i = some w := by
          unfold atI
          rw [← hl, ← ixC_eq, hj]
          exact w1
        rcases hs with hs | hs
        · exact .inl ⟨a, vs, i, w, rfl, ry, hs, e4, p m H _ Ext.refl rl w2⟩
        · exact .inr ⟨a, vs, i, w, rfl, ry, hs, e4, p m H _ Ext.refl rl w2⟩
    · exact False.elim p
  · exact False.elim p
theorem setitem_ok : ∀ (m : List Addr) (H : Hp) (h : Hc) (x y z : C) (v u t : V) (Q : Hp → Prop), Rl X.K m h H → RV X.K m H x v → RV X.K m H y u → RV X.K m H z t → Post et X.K W m H (fun _ _ _ (_ : Unit) => True) (fun _ H' => Q H') (setitem x y z h) → rSetL v u t H Q := by
  intro m H h x y z v u t Q rl rx ry rz p
  cases x <;> cases y <;> try (exact False.elim p)
  rename_i n i
  unfold setitem at p
  simp only at p
  split at p
  · rename_i xs e1
    split at p
    · rename_i j e2
      obtain ⟨a, q1, rfl⟩ := rx
      obtain ⟨vs, q2, q3⟩ := rl.at_ _ _ _ q1 e1
      refine ⟨a, vs, i, j, rfl, ry, q2, by rw [← q3.length]; exact e2, ?_⟩
      exact p m _ () (Ext.write (List.mem_of_getElem? q1) q2) (rl.write q1 q2 (q3.set j rz)) trivial
    · exact False.elim p
  · exact False.elim p
theorem cut_rvs {K : PySem.W.Frag} {cs : List C} {vs : List V} (q : RVs K m H cs vs) (lo hi : Option Int) : RVs K m H (cutC cs lo hi) (cutV vs lo hi) := by
  have hl := q.length
  unfold cutC cutV
  rw [← hl]
  exact RVs.take _ (RVs.drop _ q)
theorem slice_ok : ∃ r, SlR X r ∧ ∀ (m : List Addr) (H : Hp) (h : Hc) (x : C) (lo hi : Option Int) (v : V) (Q : VK), Rl X.K m h H → RV X.K m H x v → Post et X.K W m H (relV X.K) Q (slice x lo hi h) → r v lo hi H Q := by
  refine ⟨_, sl_list.or sl_tup, fun m H h x lo hi v Q rl rx p => ?_⟩
  cases x <;> try (exact False.elim p)
  · rename_i cs
    obtain ⟨a, vs, rfl, e2, e3⟩ := rx
    unfold slice at p
    simp only at p
    split at p
    · exact False.elim p
    · rename_i hw
      have hl := e3.length
      refine .inr ⟨a, vs, rfl, e2, fun z => hw (by rw [hl]; exact z), fun p' hp => ?_⟩
      exact p m _ _ (Ext.new hp) (rl.new hp) (tup_laid (cut_rvs e3 lo hi) hp)
  · rename_i n
    unfold slice at p
    simp only at p
    split at p
    · rename_i xs e1
      obtain ⟨a, q1, rfl⟩ := rx
      obtain ⟨vs, q2, q3⟩ := rl.at_ _ _ _ q1 e1
      exact .inl ⟨a, vs, rfl, SqL.of q2, fun p' hp => p _ _ _ (Ext.newL hp) (rl.newL hp (cut_rvs q3 lo hi)) (lst_laid rl)⟩
    · exact False.elim p
  · rename_i cs
    obtain ⟨a, vs, rfl, e2, e3⟩ := rx
    exact .inl ⟨a, vs, rfl, e2.sq, fun p' hp => p _ _ _ (Ext.newL hp) (rl.newL hp (cut_rvs e3 lo hi)) (lst_laid rl)⟩

/-! ### types -/
theorem kit_table (o : Option Ty) (T : Ty) : kitB (tyName o) T.name = some (isiT o T) := by
  cases o with
  | none => cases T <;> decide +kernel
  | some t => cases t <;> cases T <;> decide +kernel
theorem tyx_of {K : PySem.W.Frag} (rl : Rl K m h H) (rx : RV K m H x v) : TyX K H v (.type (tyName (tyC x))) := by
  cases x with
  | non => cases rx; exact .base .non
  | bl b => cases rx; exact .base (.bl b)
  | int i => cases rx; exact .base (.int i)
  | str z => cases rx; exact .base (.str z)
  | rep d => obtain ⟨rfl, _⟩ := rx; exact .base (.str _)
  | tup cs =>
    obtain ⟨a, vs, rfl, e2, e3⟩ := rx
    rcases e2 with (e2 | ⟨o, e2⟩) | ⟨o, its, n, e2, e4, _⟩
    · exact .base (.tup e2)
    · exact .fTuple e2
    · exact .kTuple e2 e4
  | ref n =>
    obtain ⟨a, e1, rfl⟩ := rx
    obtain ⟨cs, vs, _, q, _⟩ := rl.get e1
    exact .base (.lst q)
  | frz cs =>
    obtain ⟨a, vs, rfl, e2, e3⟩ := rx
    rcases e2 with ⟨o, e2⟩ | ⟨o, its, n, e2, e4, _⟩
    · exact .base (.frz e2)
    · exact .kList e2 e4
end
end Sh
set_option Elab.async false
set_option linter.all false
set_option autoImplicit false
set_option maxRecDepth 100000
set_option maxHeartbeats 4000000
/-! Sh, part F: built-ins; expressions, rule by rule. -/
namespace Sh
open PySem PySem.Spec PyProof.Rows L2

def biName : Bi → Str
  | .len => "len" | .abs => "abs" | .max2 => "max" | .min2 => "min" | .sum => "sum" | .gcd => "gcd" | .divmod => "divmod" | .repr => "repr" | .tuple => "tuple" | .list => "list" | .maxL => "max" | .minL => "min" | .int => "int" | .bool => "bool" | .all => "all" | .any => "any"
def biVal : Bi → Value
  | .len => .builtin "len" | .abs => .builtin "abs" | .max2 => .builtin "max" | .min2 => .builtin "min" | .sum => .builtin "sum" | .gcd => .builtin "math.gcd" | .divmod => .builtin "divmod" | .repr => .builtin "repr"
  | .tuple => .type "tuple" | .list => .type "list" | .maxL => .builtin "max" | .minL => .builtin "min" | .int => .type "int" | .bool => .type "bool" | .all => .builtin "all" | .any => .builtin "any"

section
variable {X : Cx} {et : ETab} {W : Value → Option Addr → Hp → Prop}
theorem call_reprD (hg : X.A.guards = some []) (hu : X.A.units + 70 < cLine) : CallR X (.builtin "repr") (fun xs H Q => ∃ v d, xs = [v] ∧ Dp X.K H v d ∧ d.showable = true ∧ SeqAt.shaped d = true ∧ d.shown.length ≤ sizeLine ∧ Q (.str d.shown) H) := by
  intro pins s σ H xs us Q I r h
  obtain ⟨v, d, rfl, hd, hs, hc, hz, q⟩ := h
  obtain ⟨u, rfl, ru⟩ := vals1 r
  have hcl := SeqAt.canLay_of_shaped hc
  have hdp := SeqAt.depth_of_shaped hc
  have ref : ∀ a, v = .ref a → wpAny (model X.prog X.w) X.A (call (.builtin "repr") [u]) (EP X pins σ Q) X.xe s := fun a e => by
    subst e
    cases ru
    obtain ⟨as, rd⟩ := Dp.reads I d _ _ hd rfl
    refine repr_of_reads' rd hs (fun hx => ?_) hg (by omega) (fun _ _ e => e) (fun h' u tk k => ?_) hz
    · rw [PyData.hasDict_of_canLay d hcl] at hx
      cases hx
    · exact ⟨.str d.shown, H, I.kept (h' := h') (t' := tk) k, ⟨u, rfl⟩, q⟩
  cases hd with
  | non =>
    cases ru
    exact PySem.P.repr_of_none ⟨.str _, H, I.tok _, ⟨_, rfl⟩, q⟩
  | bl b =>
    cases ru
    exact PySem.P.repr_of_bool ⟨.str _, H, I.tok _, ⟨_, rfl⟩, q⟩
  | int i =>
    obtain ⟨t, rfl⟩ := ru
    exact PySem.P.repr_of_int (by simpa [PyData.showable] using hs) ⟨.str _, H, I.tok _, ⟨_, rfl⟩, q⟩
  | str x =>
    obtain ⟨t, rfl⟩ := ru
    exact PySem.P.repr_of_str ⟨.str _, H, I.tok _, ⟨_, rfl⟩, q⟩ hz
  | lst _ _ => exact ref _ rfl
  | tup _ _ => exact ref _ rfl
theorem ints_of {K : PySem.W.Frag} {m : List Addr} {H : Hp} : ∀ {cs : List C} {ns : List Int} {vs : List V}, intsC cs = some ns → RVs K m H cs vs → vs = ns.map V.int
  | [], ns, vs, e, q => by
    cases q
    have e' : some [] = some ns := e
    cases e'
    rfl
  | c :: cs, ns, vs, e, q => by
    obtain ⟨v, r, rfl, q1, q2⟩ := q
    cases c with
    | int i =>
      have e' : (intsC cs).map (i :: ·) = some ns := e
      cases hh : intsC cs with
      | none => rw [hh] at e'; cases e'
      | some ms =>
        rw [hh] at e'
        cases e'
        rw [ints_of hh q2]
        have q1' : v = .int i := q1
        rw [q1']
        rfl
    | non => cases e
    | bl _ => cases e
    | str _ => cases e
    | tup _ => cases e
    | ref _ => cases e
    | frz _ => cases e
    | rep _ => cases e
theorem rvs1 {K : PySem.W.Frag} {m : List Addr} {H : Hp} {c : C} {vs : List V} (q : RVs K m H [c] vs) : ∃ v, vs = [v] ∧ RV K m H c v := by
  obtain ⟨v, r, rfl, q1, q2⟩ := q
  cases q2
  exact ⟨v, rfl, q1⟩
theorem rvs2 {K : PySem.W.Frag} {m : List Addr} {H : Hp} {c d : C} {vs : List V} (q : RVs K m H [c, d] vs) : ∃ v u, vs = [v, u] ∧ RV K m H c v ∧ RV K m H d u := by
  obtain ⟨v, r, rfl, q1, q2⟩ := q
  obtain ⟨u, rfl, q3⟩ := rvs1 q2
  exact ⟨v, u, rfl, q1, q3⟩
theorem bi_ok (b : Bi) (hc : X.calm = true ∨ b = .repr) (hg : X.A.guards = some []) (hu : X.A.units + 70 < cLine) : ∃ r, CallR X (biVal b) r ∧ ∀ (m : List Addr) (H : Hp) (h : Hc) (xs : List C) (vs : List V) (Q : VK), Rl X.K m h H → RVs X.K m H xs vs → Post et X.K W m H (relV X.K) Q (bi b xs h) → r vs H Q := by
  have no : ∀ f : Value, CallR X f (fun _ _ _ => False) := fun _ _ _ _ _ _ _ _ _ _ q => q.elim
  cases b with
  | len =>
    refine ⟨_, call_len, fun m H h xs vs Q rl q p => ?_⟩
    match xs, q, p with
    | [], _, p => exact False.elim p
    | c :: d :: r, _, p => exact False.elim (by cases c <;> exact p)
    | [c], q, p =>
      obtain ⟨v, rfl, rv⟩ := rvs1 q
      have sq : ∀ ys, seqOf h c = some ys → Post et X.K W m H (relV X.K) Q (.ok (.int ys.length) h) → ∃ x n, [v] = [x] ∧ LenV X.K x H n ∧ Q (.int n) H := fun ys e p => by
        obtain ⟨a, ws, rfl, hs, q⟩ := seq_read rl rv e
        refine ⟨_, ys.length, rfl, ?_, p m H _ Ext.refl rl rfl⟩
        rcases hs with hs | hs
        · exact .inl ⟨ws, hs, q.length⟩
        · exact .inr ⟨ws, hs, q.length⟩
      have go : Post et X.K W m H (relV X.K) Q (match seqOf h c with | some ys => .ok (.int ys.length) h | none => .bad) → ∃ x n, [v] = [x] ∧ LenV X.K x H n ∧ Q (.int n) H := fun p => by
        cases e : seqOf h c with
        | none => rw [e] at p; exact False.elim p
        | some ys => rw [e] at p; exact sq ys e p
      cases c with
      | str z =>
        cases rv
        unfold bi at p
        simp only at p
        split at p
        · rename_i hz
          exact ⟨_, z.length, rfl, ⟨line_le hz, rfl⟩, p m H _ Ext.refl rl rfl⟩
        · exact False.elim p
      | non => exact go p
      | bl _ => exact go p
      | int _ => exact go p
      | tup _ => exact go p
      | ref _ => exact go p
      | frz _ => exact go p
      | rep _ => exact go p
  | abs =>
    refine ⟨_, call_abs, fun m H h xs vs Q rl q p => ?_⟩
    match xs, q, p with
    | [.int i], q, p =>
      obtain ⟨v, rfl, rv⟩ := rvs1 q
      cases rv
      exact ⟨i, rfl, p m H _ Ext.refl rl rfl⟩
    | [], _, p => exact False.elim p
    | [.non], _, p => exact False.elim p
    | [.bl _], _, p => exact False.elim p
    | [.str _], _, p => exact False.elim p
    | [.tup _], _, p => exact False.elim p
    | [.ref _], _, p => exact False.elim p
    | [.frz _], _, p => exact False.elim p
    | [.rep _], _, p => exact False.elim p
    | c :: _ :: _, _, p => exact False.elim (by cases c <;> exact p)
  | max2 =>
    refine ⟨_, call_max2 (hc.resolve_right (by intro z; cases z)), fun m H h xs vs Q rl q p => ?_⟩
    unfold bi at p
    simp only at p
    split at p
    · rename_i i j
      obtain ⟨v, u, rfl, r1, r2⟩ := rvs2 q
      cases r1
      cases r2
      exact ⟨i, j, rfl, p m H _ Ext.refl rl rfl⟩
    · exact False.elim p
  | min2 =>
    refine ⟨_, call_min2 (hc.resolve_right (by intro z; cases z)), fun m H h xs vs Q rl q p => ?_⟩
    unfold bi at p
    simp only at p
    split at p
    · rename_i i j
      obtain ⟨v, u, rfl, r1, r2⟩ := rvs2 q
      cases r1
      cases r2
      exact ⟨i, j, rfl, p m H _ Ext.refl rl rfl⟩
    · exact False.elim p
  | sum =>
    refine ⟨_, cr_sum (hc.resolve_right (by intro z; cases z)), fun m H h xs vs Q rl q p => ?_⟩
    unfold bi at p
    simp only at p
    split at p
    · rename_i n
      split at p
      · rename_i ns e1
        obtain ⟨v, rfl, r1⟩ := rvs1 q
        obtain ⟨a, q1, rfl⟩ := r1
        cases hn : h[n]? with
        | none => rw [hn] at e1; cases e1
        | some cs =>
          rw [hn] at e1
          obtain ⟨ws, s1, s2⟩ := rl.at_ _ _ _ q1 hn
          have e2 := ints_of (show intsC cs = some ns from e1) s2
          exact ⟨a, ns, rfl, by rw [← e2]; exact SqL.of s1, p m H _ Ext.refl rl rfl⟩
      · exact False.elim p
    · exact False.elim p
  | gcd =>
    refine ⟨_, cr_gcd, fun m H h xs vs Q rl q p => ?_⟩
    unfold bi at p
    simp only at p
    split at p
    · rename_i i j
      obtain ⟨v, u, rfl, r1, r2⟩ := rvs2 q
      cases r1
      cases r2
      exact ⟨i, j, rfl, p m H _ Ext.refl rl rfl⟩
    · exact False.elim p
  | divmod =>
    refine ⟨_, call_divmod, fun m H h xs vs Q rl q p => ?_⟩
    unfold bi at p
    simp only at p
    split at p
    · rename_i i j
      split at p
      · rename_i hz
        obtain ⟨v, u, rfl, r1, r2⟩ := rvs2 q
        cases r1
        cases r2
        refine ⟨i, j, rfl, ⟨hz.1, by omega⟩, fun p' hp => ?_⟩
        exact p m _ _ (Ext.new hp) (rl.new hp) (tup_laid (cs := [.int (i / j), .int (i % j)]) ⟨_, _, rfl, rfl, _, _, rfl, rfl, rfl⟩ hp)
      · exact False.elim p
    · exact False.elim p
  | repr =>
    refine ⟨_, call_reprD hg hu, fun m H h xs vs Q rl q p => ?_⟩
    unfold bi at p
    simp only at p
    split at p
    · rename_i c
      split at p
      · rename_i d e1
        split at p
        · rename_i hs
          rw [Bool.and_eq_true, Bool.and_eq_true] at hs
          obtain ⟨v, rfl, r1⟩ := rvs1 q
          have hcl := SeqAt.canLay_of_shaped hs.1.2
          exact ⟨v, d, rfl, toD_dp rl 60 c v d r1 e1, hs.1.1, hs.1.2, shown_short hcl hs.1.1 hs.2, p m H _ Ext.refl rl ⟨rfl, hcl⟩⟩
        · exact False.elim p
      · exact False.elim p
    · exact False.elim p
  | tuple =>
    refine ⟨_, call_tuple_of, fun m H h xs vs Q rl q p => ?_⟩
    unfold bi at p
    simp only at p
    split at p
    · rename_i cs
      obtain ⟨v, rfl, r1⟩ := rvs1 q
      have r1' := r1
      obtain ⟨a, ws, rfl, e2, e3⟩ := r1
      exact ⟨a, ws, rfl, .inr ⟨e2, p m H _ Ext.refl rl r1'⟩⟩
    · rename_i n
      split at p
      · rename_i cs e1
        obtain ⟨v, rfl, r1⟩ := rvs1 q
        obtain ⟨a, q1, rfl⟩ := r1
        obtain ⟨ws, s1, s2⟩ := rl.at_ _ _ _ q1 e1
        exact ⟨a, ws, rfl, .inl ⟨SqL.of s1, fun l hl => p m _ _ (Ext.new hl) (rl.new hl) (tup_laid s2 hl)⟩⟩
      · exact False.elim p
    · exact False.elim p
  | list =>
    refine ⟨_, call_list_of, fun m H h xs vs Q rl q p => ?_⟩
    unfold bi at p
    simp only at p
    split at p
    · rename_i c
      split at p
      · rename_i cs e1
        obtain ⟨v, rfl, r1⟩ := rvs1 q
        obtain ⟨a, ws, rfl, hs, s2⟩ := seq_read rl r1 e1
        exact ⟨a, ws, rfl, hs, fun l hl => p _ _ _ (Ext.newL hl) (rl.newL hl s2) (lst_laid rl)⟩
      · exact False.elim p
    · exact False.elim p
  | int =>
    refine ⟨_, call_int1, fun m H h xs vs Q rl q p => ?_⟩
    unfold bi at p
    simp only at p
    split at p
    · rename_i i
      obtain ⟨v, rfl, r1⟩ := rvs1 q
      cases r1
      exact .inl ⟨i, rfl, p m H _ Ext.refl rl rfl⟩
    · exact False.elim p
  | maxL => exact ⟨_, no _, fun m H h xs vs Q rl q p => p⟩
  | minL => exact ⟨_, no _, fun m H h xs vs Q rl q p => p⟩
  | bool => exact ⟨_, no _, fun m H h xs vs Q rl q p => p⟩
  | all => exact ⟨_, no _, fun m H h xs vs Q rl q p => p⟩
  | any => exact ⟨_, no _, fun m H h xs vs Q rl q p => p⟩
end

/-! ### expressions -/
section
variable {X : Cx} {et : ETab} {W : WX} {a b c e : Expr} {es : List Expr} {pos : Pos} {fa fb fc : Sl → Hc → R C} {ft : Sl → Hc → R Bool} {fs : Sl → Hc → R (List C)}
theorem sE_const {k : C} {v : V} (h : PE X e (tC v)) (r : ∀ m H, RV X.K m H k v) : PE X e (tE et X.K W fun _ h => .ok k h) :=
  h.imp fun σ H Q ⟨m, sl, h, rl, rs, p⟩ => p m H v Ext.refl rl (r m H)
theorem sE_var {i : Nat} (h : PE X e (tVar i)) : PE X e (tE et X.K W fun sl h => match sl[i]? with | some (some c) => .ok c h | _ => .bad) :=
  h.imp fun σ H Q ⟨m, sl, h, rl, rs, p⟩ => by
    dsimp only at p
    cases e : sl[i]? with
    | none => rw [e] at p; exact False.elim p
    | some o =>
      cases o with
      | none => rw [e] at p; exact False.elim p
      | some c =>
        rw [e] at p
        obtain ⟨v, e1, e2⟩ := rs.at_ i c e
        exact ⟨v, e1, p m H v Ext.refl rl e2⟩
theorem bin_imp {r : R2} {opf : C → C → Hc → R C} (ok : ∀ (σ : L2.St) (m : List Addr) (H : Hp) (h : Hc) (x y : C) (v u : V) (Q : VK), Rl X.K m h H → RV X.K m H x v → RV X.K m H y u → Post et X.K (fun c d H' => W c d σ H') m H (relV X.K) Q (opf x y h) → r v u H Q)
    (σ : L2.St) (H : Hp) (Q : VK) (h : tE et X.K W (fun sl h => (fa sl h).bind fun x h1 => (fb sl h1).bind fun y h2 => opf x y h2) σ H Q) : tOp r (tE et X.K W fa) (tE et X.K W fb) σ H Q := by
  obtain ⟨m, sl, h, rl, rs, p⟩ := h
  refine ⟨m, sl, h, rl, rs, p.bind fun x h1 e1 m1 H1 v x1 rl1 rv1 p1 => ?_⟩
  refine ⟨m1, sl, h1, rl1, rs.ext x1, p1.bind fun y h2 e2 m2 H2 u x2 rl2 rv2 p2 => ?_⟩
  exact ok σ m2 H2 h2 x y v u Q rl2 (RV.ext x2 rv1) rv2 p2
theorem sE_bin (o : Op) (ha : PE X a (tE et X.K W fa)) (hb : PE X b (tE et X.K W fb)) : PE X (.BinOp a (opr o) b pos) (tE et X.K W fun sl h => (fa sl h).bind fun x h1 => (fb sl h1).bind fun y h2 => binop o x y h2) := by
  have key : ∀ (σ : L2.St), ∃ r : R2, OpR X (binaryOp (opr o)) r ∧ ∀ (m : List Addr) (H : Hp) (h : Hc) (x y : C) (v u : V) (Q : VK), Rl X.K m h H → RV X.K m H x v → RV X.K m H y u → Post et X.K (fun c d H' => W c d σ H') m H (relV X.K) Q (binop o x y h) → r v u H Q := fun σ => binop_ok o
  refine ⟨fun pins s σ H Q I h => ?_⟩
  obtain ⟨r, ho, ok⟩ := key σ
  refine (pe_op ho ha hb).run pins s σ H Q I ?_
  obtain ⟨m, sl, h, rl, rs, p⟩ := h
  refine ⟨m, sl, h, rl, rs, p.bind fun x h1 e1 m1 H1 v x1 rl1 rv1 p1 => ?_⟩
  refine ⟨m1, sl, h1, rl1, rs.ext x1, p1.bind fun y h2 e2 m2 H2 u x2 rl2 rv2 p2 => ?_⟩
  exact ok m2 H2 h2 x y v u Q rl2 (RV.ext x2 rv1) rv2 p2
theorem sE_cmp (o : Cm) (hu : X.A.units + 64 < cLine) (hm : behindInMarks (cmr o) b = false) (ha : PE X a (tE et X.K W fa)) (hb : PE X b (tE et X.K W fb)) : PE X (.Compare a [cmr o] [b] pos) (tE et X.K W fun sl h => (fa sl h).bind fun x h1 => (fb sl h1).bind fun y h2 => cmpop o x y h2) := by
  refine ⟨fun pins s σ H Q I h => ?_⟩
  obtain ⟨r, ho, ok⟩ := cmpop_ok (X := X) (et := et) (W := fun c d H' => W c d σ H') o hu
  refine (pe_cmpR ho ha hb hm).run pins s σ H Q I ?_
  obtain ⟨m, sl, h, rl, rs, p⟩ := h
  refine ⟨m, sl, h, rl, rs, p.bind fun x h1 e1 m1 H1 v x1 rl1 rv1 p1 => ?_⟩
  refine ⟨m1, sl, h1, rl1, rs.ext x1, p1.bind fun y h2 e2 m2 H2 u x2 rl2 rv2 p2 => ?_⟩
  exact ok m2 H2 h2 x y v u Q rl2 (RV.ext x2 rv1) rv2 p2
theorem sT_cmp (o : Cm) (hu : X.A.units + 64 < cLine) (hm : behindInMarks (cmr o) b = false) (ha : PE X a (tE et X.K W fa)) (hb : PE X b (tE et X.K W fb)) : PT X (.Compare a [cmr o] [b] pos) (tT et X.K W fun sl h => (fa sl h).bind fun x h1 => (fb sl h1).bind fun y h2 => (cmpop o x y h2).bind fun z h3 => match z with
    | .bl k => .ok k h3
    | _ => .bad) := by
  refine ⟨fun pins s σ H Q I h => ?_⟩
  obtain ⟨r, ho, ok⟩ := cmpop_ok (X := X) (et := et) (W := fun c d H' => W c d σ H') o hu
  refine (pt_cmpR ho ha hb hm).run pins s σ H Q I ?_
  obtain ⟨m, sl, h, rl, rs, p⟩ := h
  refine ⟨m, sl, h, rl, rs, p.bind fun x h1 e1 m1 H1 v x1 rl1 rv1 p1 => ?_⟩
  refine ⟨m1, sl, h1, rl1, rs.ext x1, p1.bind fun y h2 e2 m2 H2 u x2 rl2 rv2 p2 => ?_⟩
  refine ok m2 H2 h2 x y v u _ rl2 (RV.ext x2 rv1) rv2 (p2.bind fun z h3 e3 m3 H3 t x3 rl3 rv3 p3 => ?_)
  cases z with
  | bl k => cases rv3; exact ⟨k, rfl, p3 m3 H3 k Ext.refl rl3 rfl⟩
  | non => exact False.elim p3
  | int _ => exact False.elim p3
  | str _ => exact False.elim p3
  | tup _ => exact False.elim p3
  | ref _ => exact False.elim p3
  | frz _ => exact False.elim p3
  | rep _ => exact False.elim p3
theorem sE_chain (o o' : Cm) (hu : X.A.units + 64 < cLine) (hm : lastMarks [cmr o, cmr o'] [b, c] = false) (ha : PE X a (tE et X.K W fa)) (hb : PE X b (tE et X.K W fb)) (hc : PE X c (tE et X.K W fc)) : PE X (.Compare a [cmr o, cmr o'] [b, c] pos) (tE et X.K W fun sl h => (fa sl h).bind fun x h1 => (fb sl h1).bind fun y h2 => (cmpop o x y h2).bind fun z h3 => match z with
    | .bl true => (fc sl h3).bind fun u h4 => cmpop o' y u h4
    | .bl false => .ok (.bl false) h3
    | _ => .bad) := by
  refine ⟨fun pins s σ H Q I h => ?_⟩
  obtain ⟨r, ho, ok⟩ := cmpop_ok (X := X) (et := et) (W := fun c d H' => W c d σ H') o hu
  obtain ⟨r', ho', ok'⟩ := cmpop_ok (X := X) (et := et) (W := fun c d H' => W c d σ H') o' hu
  refine (pe_chain ho ho' ha hb hc hm).run pins s σ H Q I ?_
  obtain ⟨m, sl, h, rl, rs, p⟩ := h
  refine ⟨m, sl, h, rl, rs, p.bind fun x h1 e1 m1 H1 v x1 rl1 rv1 p1 => ?_⟩
  refine ⟨m1, sl, h1, rl1, rs.ext x1, p1.bind fun y h2 e2 m2 H2 u x2 rl2 rv2 p2 => ?_⟩
  refine ok m2 H2 h2 x y v u _ rl2 (RV.ext x2 rv1) rv2 (p2.bind fun z h3 e3 m3 H3 t x3 rl3 rv3 p3 => ?_)
  cases z with
  | bl k =>
    cases rv3
    cases k with
    | true =>
      refine ⟨true, rfl, iteT ?_⟩
      refine ⟨m3, sl, h3, rl3, ((rs.ext x1).ext x2).ext x3, Post.bind p3 fun u' h4 e4 m4 H4 t' x4 rl4 rv4 p4 => ?_⟩
      exact ok' m4 H4 h4 y u' u t' Q rl4 (RV.ext x4 (RV.ext x3 rv2)) rv4 p4
    | false => exact ⟨false, rfl, iteF (p3 m3 H3 _ Ext.refl rl3 rfl)⟩
  | non => exact False.elim p3
  | int _ => exact False.elim p3
  | str _ => exact False.elim p3
  | tup _ => exact False.elim p3
  | ref _ => exact False.elim p3
  | frz _ => exact False.elim p3
  | rep _ => exact False.elim p3
theorem bl_of {K : PySem.W.Frag} {m : List Addr} {H : Hp} {x : C} {v : V} {g : Bool → R C} {Q : VK} {W' : Value → Option Addr → Hp → Prop} (r : RV K m H x v) (p : Post et K W' m H (relV K) Q (match (generalizing := false) x with | .bl b => g b | _ => .bad)) : ∃ b, x = .bl b ∧ v = .bl b ∧ Post et K W' m H (relV K) Q (g b) := by
  cases x with
  | bl b => cases r; exact ⟨b, rfl, rfl, p⟩
  | non => exact False.elim p
  | int _ => exact False.elim p
  | str _ => exact False.elim p
  | tup _ => exact False.elim p
  | ref _ => exact False.elim p
  | frz _ => exact False.elim p
  | rep _ => exact False.elim p
theorem sE_neg (ha : PE X a (tE et X.K W fa)) : PE X (.UnaryOp .USub a pos) (tE et X.K W fun sl h => (fa sl h).bind fun x h1 => match x with
    | .int i => .ok (.int (-i)) h1
    | _ => .bad) :=
  (pe_un un_neg ha).imp fun σ H Q ⟨m, sl, h, rl, rs, p⟩ => ⟨m, sl, h, rl, rs, p.bind fun x h1 e1 m1 H1 v x1 rl1 rv1 p1 => by
    cases x with
    | int i => cases rv1; exact ⟨i, rfl, p1 m1 H1 _ Ext.refl rl1 rfl⟩
    | non => exact False.elim p1
    | bl _ => exact False.elim p1
    | str _ => exact False.elim p1
    | tup _ => exact False.elim p1
    | ref _ => exact False.elim p1
    | frz _ => exact False.elim p1
    | rep _ => exact False.elim p1⟩
theorem sE_notv (ha : PE X a (tE et X.K W fa)) : PE X (.UnaryOp .Not a pos) (tE et X.K W fun sl h => (fa sl h).bind fun x h1 => match x with
    | .bl b => .ok (.bl (!b)) h1
    | _ => .bad) :=
  (pe_not ha).imp fun σ H Q ⟨m, sl, h, rl, rs, p⟩ => ⟨m, sl, h, rl, rs, p.bind fun x h1 e1 m1 H1 v x1 rl1 rv1 p1 => by
    cases x with
    | bl i => cases rv1; exact ⟨i, rfl, p1 m1 H1 _ Ext.refl rl1 rfl⟩
    | non => exact False.elim p1
    | int _ => exact False.elim p1
    | str _ => exact False.elim p1
    | tup _ => exact False.elim p1
    | ref _ => exact False.elim p1
    | frz _ => exact False.elim p1
    | rep _ => exact False.elim p1⟩
theorem sE_and {rest : List Expr} (ha : PE X a (tE et X.K W fa)) (hb : PE X (.BoolOp .And (b :: rest) pos) (tE et X.K W fb)) : PE X (.BoolOp .And (a :: b :: rest) pos) (tE et X.K W fun sl h => (fa sl h).bind fun x h1 => match x with
    | .bl true => fb sl h1
    | .bl false => .ok (.bl false) h1
    | _ => .bad) :=
  (pe_and ha hb).imp fun σ H Q ⟨m, sl, h, rl, rs, p⟩ => ⟨m, sl, h, rl, rs, p.bind fun x h1 e1 m1 H1 v x1 rl1 rv1 p1 => by
    cases x with
    | bl k =>
      cases rv1
      cases k with
      | true => exact ⟨true, rfl, iteT ⟨m1, sl, h1, rl1, rs.ext x1, p1⟩⟩
      | false => exact ⟨false, rfl, iteF (p1 m1 H1 _ Ext.refl rl1 rfl)⟩
    | non => exact False.elim p1
    | int _ => exact False.elim p1
    | str _ => exact False.elim p1
    | tup _ => exact False.elim p1
    | ref _ => exact False.elim p1
    | frz _ => exact False.elim p1
    | rep _ => exact False.elim p1⟩
theorem sE_or {rest : List Expr} (ha : PE X a (tE et X.K W fa)) (hb : PE X (.BoolOp .Or (b :: rest) pos) (tE et X.K W fb)) : PE X (.BoolOp .Or (a :: b :: rest) pos) (tE et X.K W fun sl h => (fa sl h).bind fun x h1 => match x with
    | .bl false => fb sl h1
    | .bl true => .ok (.bl true) h1
    | _ => .bad) :=
  (pe_or ha hb).imp fun σ H Q ⟨m, sl, h, rl, rs, p⟩ => ⟨m, sl, h, rl, rs, p.bind fun x h1 e1 m1 H1 v x1 rl1 rv1 p1 => by
    cases x with
    | bl k =>
      cases rv1
      cases k with
      | false => exact ⟨false, rfl, iteF ⟨m1, sl, h1, rl1, rs.ext x1, p1⟩⟩
      | true => exact ⟨true, rfl, iteT (p1 m1 H1 _ Ext.refl rl1 rfl)⟩
    | non => exact False.elim p1
    | int _ => exact False.elim p1
    | str _ => exact False.elim p1
    | tup _ => exact False.elim p1
    | ref _ => exact False.elim p1
    | frz _ => exact False.elim p1
    | rep _ => exact False.elim p1⟩
theorem sE_ite (hc : PT X c (tT et X.K W ft)) (ha : PE X a (tE et X.K W fa)) (hb : PE X b (tE et X.K W fb)) : PE X (.IfExp c a b pos) (tE et X.K W fun sl h => (ft sl h).bind fun k h1 => if k then fa sl h1 else fb sl h1) :=
  (pe_ifExp hc ha hb).imp fun σ H Q ⟨m, sl, h, rl, rs, p⟩ => ⟨m, sl, h, rl, rs, p.bind fun k h1 e1 m1 H1 v x1 rl1 rv1 p1 => by
    cases rv1
    cases k with
    | true => exact iteT ⟨m1, sl, h1, rl1, rs.ext x1, p1⟩
    | false => exact iteF ⟨m1, sl, h1, rl1, rs.ext x1, p1⟩⟩
theorem sE_tup {x1 : Nat} (h : PA X es (tA et X.K W fs)) (hn : es.length ≤ 1000) : PE X (.Tuple es x1 pos) (tE et X.K W fun sl h => (fs sl h).bind fun xs h1 => if xs.length ≤ lineN then .ok (.tup xs) h1 else .bad) :=
  (pe_tup h).imp fun σ H Q ⟨m, sl, h, rl, rs, p⟩ => ⟨m, sl, h, rl, rs, p.bind fun xs h1 e1 m1 H1 vs x1 rl1 rv1 p1 => by
    have rv1 : RVs X.K m1 H1 xs vs := rv1
    split at p1
    · rename_i hz
      exact ⟨by rw [← rv1.length]; exact line_le hz, fun p' hp => p1 m1 _ _ (Ext.new hp) (rl1.new hp) (tup_laid rv1 hp)⟩
    · exact False.elim p1⟩
theorem sE_lst (h : PA X es (tA et X.K W fs)) : PE X (.List es pos) (tE et X.K W fun sl h => (fs sl h).bind fun xs h1 => if xs.length ≤ lineN then .ok (.ref h1.length) (h1 ++ [xs]) else .bad) :=
  (pe_lst h).imp fun σ H Q ⟨m, sl, h, rl, rs, p⟩ => ⟨m, sl, h, rl, rs, p.bind fun xs h1 e1 m1 H1 vs x1 rl1 rv1 p1 => by
    have rv1 : RVs X.K m1 H1 xs vs := rv1
    split at p1
    · rename_i hz
      exact ⟨by rw [← rv1.length]; exact line_le hz, fun p' hp => p1 _ _ _ (Ext.newL hp) (rl1.newL hp rv1) (lst_laid rl1)⟩
    · exact False.elim p1⟩
theorem sE_idx (hs : PlainIx b) (ha : PE X a (tE et X.K W fa)) (hb : PE X b (tE et X.K W fb)) : PE X (.Subscript a b pos) (tE et X.K W fun sl h => (fa sl h).bind fun x h1 => (fb sl h1).bind fun y h2 => item x y h2) := by
  refine ⟨fun pins s σ H Q I h => ?_⟩
  obtain ⟨r, ho, ok⟩ := item_ok (X := X) (et := et) (W := fun c d H' => W c d σ H')
  refine (pe_ix ho ha hb hs).run pins s σ H Q I ?_
  obtain ⟨m, sl, h, rl, rs, p⟩ := h
  refine ⟨m, sl, h, rl, rs, p.bind fun x h1 e1 m1 H1 v x1 rl1 rv1 p1 => ?_⟩
  refine ⟨m1, sl, h1, rl1, rs.ext x1, p1.bind fun y h2 e2 m2 H2 u x2 rl2 rv2 p2 => ?_⟩
  exact ok m2 H2 h2 x y v u Q rl2 (RV.ext x2 rv1) rv2 p2
theorem sO_none : PO X none (tO et X.K W fun _ h => .ok none h) := ⟨fun pins s σ H Q I ⟨m, sl, h, rl, rs, p⟩ => po_none.run pins s σ H Q I (p m H _ Ext.refl rl rfl)⟩
theorem sO_some (ha : PE X a (tE et X.K W fa)) : PO X (some a) (tO et X.K W fun sl h => (fa sl h).bind fun x h1 => match x with
    | .int i => .ok (some i) h1
    | _ => .bad) := by
  refine ⟨fun pins s σ H Q I ⟨m, sl, h, rl, rs, p⟩ => (po_some ha).run pins s σ H Q I ⟨m, sl, h, rl, rs, p.bind fun x h1 e1 m1 H1 v x1 rl1 rv1 p1 => ?_⟩⟩
  cases x with
  | int i => cases rv1; exact ⟨i, rfl, p1 m1 H1 _ Ext.refl rl1 rfl⟩
  | non => exact False.elim p1
  | bl _ => exact False.elim p1
  | str _ => exact False.elim p1
  | tup _ => exact False.elim p1
  | ref _ => exact False.elim p1
  | frz _ => exact False.elim p1
  | rep _ => exact False.elim p1
theorem sE_slc {lo hi : Option Expr} {p2 : Pos} {fl fu : Sl → Hc → R (Option Int)} (ha : PE X a (tE et X.K W fa)) (hl : PO X lo (tO et X.K W fl)) (hh : PO X hi (tO et X.K W fu)) :
    PE X (.Subscript a (.Slice lo hi none p2) pos) (tE et X.K W fun sl h => (fa sl h).bind fun x h1 => (fl sl h1).bind fun l h2 => (fu sl h2).bind fun u h3 => slice x l u h3) := by
  refine ⟨fun pins s σ H Q I h => ?_⟩
  obtain ⟨r, ho, ok⟩ := slice_ok (X := X) (et := et) (W := fun c d H' => W c d σ H')
  refine (pe_slice ho ha hl hh).run pins s σ H Q I ?_
  obtain ⟨m, sl, h, rl, rs, p⟩ := h
  refine ⟨m, sl, h, rl, rs, p.bind fun x h1 e1 m1 H1 v x1 rl1 rv1 p1 => ?_⟩
  refine ⟨m1, sl, h1, rl1, rs.ext x1, p1.bind fun l h2 e2 m2 H2 u x2 rl2 rv2 p2 => ?_⟩
  refine ⟨m2, sl, h2, rl2, (rs.ext x1).ext x2, p2.bind fun l' h3 e3 m3 H3 u' x3 rl3 rv3 p3 => ?_⟩
  cases rv2
  cases rv3
  exact ok m3 H3 h3 x l l' v Q rl3 (RV.ext x3 (RV.ext x2 rv1)) p3
theorem sA_nil : PA X [] (tA et X.K W fun _ h => .ok [] h) := pa_nil.imp fun σ H Q ⟨m, sl, h, rl, rs, p⟩ => p m H [] Ext.refl rl rfl
theorem sA_cons (hs : starEach (e :: es) X.env = (false, eval e X.env) :: starEach es X.env) (ha : PE X e (tE et X.K W fa)) (hr : PA X es (tA et X.K W fs)) : PA X (e :: es) (tA et X.K W fun sl h => (fa sl h).bind fun x h1 => (fs sl h1).bind fun xs h2 => .ok (x :: xs) h2) :=
  (pa_cons ha hr hs).imp fun σ H Q ⟨m, sl, h, rl, rs, p⟩ => ⟨m, sl, h, rl, rs, p.bind fun x h1 e1 m1 H1 v x1 rl1 rv1 p1 =>
    ⟨m1, sl, h1, rl1, rs.ext x1, p1.bind fun xs h2 e2 m2 H2 vs x2 rl2 rv2 p2 => p2 m2 H2 (v :: vs) Ext.refl rl2 ⟨v, vs, rfl, RV.ext x2 rv1, rv2⟩⟩⟩
theorem sE_isi {t : Ty} {x : Str} {p1 p2 : Pos} (hg : Gl X "isinstance") (hm : X.mg "isinstance" = none) (hg2 : Gl X x) (hm2 : X.mg x = none) (hx : bootBuiltins x = some (.type t.name)) (hn : x ≠ "__name__") (hd : (x == ("__debug__" : Str)) = false)
    (hs : starEach [a, .Name x p1] X.env = (false, eval a X.env) :: starEach [.Name x p1] X.env) (hpl : (backTo pos (starEach [.Name x p1] X.env)).any (·.1) = false) (ha : PE X a (tE et X.K W fa)) :
    PE X (.Call (.Name "isinstance" p2) [a, .Name x p1] [] pos) (tE et X.K W fun sl h => (fa sl h).bind fun x h1 => .ok (.bl (isiC x t)) h1) := by
  have hb : PE X (.Name x p1) (tC (.ty t.name)) := pe_bltn hg2 hm2 hx rfl hn hd
  have hA : PA X [a, .Name x p1] (tCons (tE et X.K W fa) (tCons (tC (.ty t.name)) tNil)) := pa_cons ha (pa_cons hb pa_nil (by rfl)) hs
  refine (pe_callB call_isi hg hm PyProof.Rows.boot_isinstance hA (by decide) (by decide) hs hpl).imp fun σ H Q ⟨m, sl, h, rl, rs, p⟩ => ⟨m, sl, h, rl, rs, p.bind fun c h1 e1 m1 H1 v x1 rl1 rv1 p1 => ?_⟩
  exact ⟨v, .ty t.name, .type (tyName (tyC c)), .type t.name, isiC c t, rfl, .ty _, tyx_of rl1 rv1, kit_ty (kit_table _ _), p1 m1 H1 _ Ext.refl rl1 rfl⟩
theorem sE_bi {x : Str} {p2 : Pos} {val : Value} (bb : Bi) (hval : biVal bb = val) (hcalm : X.calm = true ∨ bb = .repr) (hgu : X.A.guards = some []) (hu : X.A.units + 70 < cLine)
    (hA : PA X (e :: es) (tA et X.K W fs))
    (hcall : ∀ r, CallR X (biVal bb) r → PE X (.Call (.Name x p2) (e :: es) [] pos) (tCB r (tA et X.K W fs))) :
    PE X (.Call (.Name x p2) (e :: es) [] pos) (tE et X.K W fun sl h => (fs sl h).bind fun xs h1 => bi bb xs h1) := by
  refine ⟨fun pins s σ H Q I h => ?_⟩
  obtain ⟨r, hr, ok⟩ := bi_ok (X := X) (et := et) (W := fun c d H' => W c d σ H') bb hcalm hgu hu
  refine (hcall r hr).run pins s σ H Q I ?_
  obtain ⟨m, sl, h, rl, rs, p⟩ := h
  exact ⟨m, sl, h, rl, rs, p.bind fun xs h1 e1 m1 H1 vs x1 rl1 rv1 p1 => ok m1 H1 h1 xs vs Q rl1 rv1 p1⟩
theorem sT_tr (he : ∀ whole, isTrue a X.env whole = (do let v ← whole; standAt a.pos; holding [v] (truthy v))) (ha : PE X a (tE et X.K W fa)) : PT X a (tT et X.K W fun sl h => (fa sl h).bind fun x h1 => truth x h1) :=
  (pt_truth ha he).imp fun σ H Q ⟨m, sl, h, rl, rs, p⟩ => ⟨m, sl, h, rl, rs, p.bind fun x h1 e1 m1 H1 v x1 rl1 rv1 p1 => truth_ok rl1 rv1 p1⟩
theorem sT_not (ha : PT X a (tT et X.K W ft)) : PT X (.UnaryOp .Not a pos) (tT et X.K W fun sl h => (ft sl h).bind fun k h1 => .ok (!k) h1) :=
  (pt_not ha).imp fun σ H Q ⟨m, sl, h, rl, rs, p⟩ => ⟨m, sl, h, rl, rs, p.bind fun k h1 e1 m1 H1 v x1 rl1 rv1 p1 => by cases rv1; exact p1 m1 H1 _ Ext.refl rl1 rfl⟩
theorem sW_and {rest : List Expr} {fu : Sl → Hc → R Bool} (ha : PT X a (tT et X.K W ft)) (hb : PW X (.BoolOp .And (b :: rest) pos) (tT et X.K W fu)) : PW X (.BoolOp .And (a :: b :: rest) pos) (tT et X.K W fun sl h => (ft sl h).bind fun k h1 => if k then fu sl h1 else .ok false h1) :=
  (pw_and ha hb).imp fun σ H Q ⟨m, sl, h, rl, rs, p⟩ => ⟨m, sl, h, rl, rs, p.bind fun k h1 e1 m1 H1 v x1 rl1 rv1 p1 => by
    cases rv1
    cases k with
    | true => exact iteT ⟨m1, sl, h1, rl1, rs.ext x1, p1⟩
    | false => exact iteF (p1 m1 H1 _ Ext.refl rl1 rfl)⟩
theorem sW_or {rest : List Expr} {fu : Sl → Hc → R Bool} (ha : PT X a (tT et X.K W ft)) (hb : PW X (.BoolOp .Or (b :: rest) pos) (tT et X.K W fu)) : PW X (.BoolOp .Or (a :: b :: rest) pos) (tT et X.K W fun sl h => (ft sl h).bind fun k h1 => if k then .ok true h1 else fu sl h1) :=
  (pw_or ha hb).imp fun σ H Q ⟨m, sl, h, rl, rs, p⟩ => ⟨m, sl, h, rl, rs, p.bind fun k h1 e1 m1 H1 v x1 rl1 rv1 p1 => by
    cases rv1
    cases k with
    | true => exact iteT (p1 m1 H1 _ Ext.refl rl1 rfl)
    | false => exact iteF ⟨m1, sl, h1, rl1, rs.ext x1, p1⟩⟩
end
end Sh
set_option Elab.async false
set_option linter.all false
set_option autoImplicit false
set_option maxRecDepth 100000
set_option maxHeartbeats 8000000
/-! Sh, part G: a written expression matches a plain one; then the plain one tells what it does. -/
namespace Sh
open PySem PySem.Spec PyProof.Rows L2

structure Cfg where
  N : List Str
  kind : Str → Option NameKind
  fn : List (Str × List Str)
  kw : List (Nat × Nat × List Str × List Nat)
  con : List (Str × C)
  bn : List Str
  gcd : Bool

def visB (cf : Cfg) (x : Str) : Bool := cf.kind x == some .local || cf.kind x == some .cell || cf.kind x == some .free
def glB (cf : Cfg) (x : Str) : Bool := cf.kind x == some .globalImplicit && !(x == ("__debug__" : Str)) && !(x == ("__name__" : Str))
def varB (cf : Cfg) (i : Nat) (x : Str) : Bool := cf.N[i]? == some x && visB cf x && !(x == ("__debug__" : Str)) && !(x == ("__classdict__" : Str))
def freeB (cf : Cfg) (x : Str) : Bool := glB cf x && cf.bn.contains x
def biB (cf : Cfg) (b : Bi) (x : Str) : Bool := match b with
  | .gcd => glB cf x && cf.gcd
  | _ => freeB cf x
def conIs : Const → C → Bool
  | .none, .non => true
  | .bool a, .bl b => a == b
  | .int i, .int j => i == j
  | .str x, .str y => x == y
  | _, _ => false
def cSame : C → C → Bool
  | .int i, .int j => i == j
  | .str x, .str y => x == y
  | .bl a, .bl b => a == b
  | _, _ => false
def noStar : Expr → Bool
  | .Starred _ _ => false
  | _ => true
def plainT : Expr → Bool
  | .Name _ _ => true
  | .Call _ _ _ _ => true
  | .Subscript _ _ _ => true
  | .Constant _ _ _ => true
  | .BinOp _ _ _ _ => true
  | _ => false
def noSlice : Expr → Bool
  | .Name _ _ => true
  | .Call _ _ _ _ => true
  | .Subscript _ _ _ => true
  | .Constant _ _ _ => true
  | .BinOp _ _ _ _ => true
  | .UnaryOp _ _ _ => true
  | _ => false
def andTail (m : Expr → Bool) (op : BoolOp) (p : Pos) : List Expr → Bool
  | [] => false
  | [y] => m y
  | y :: z :: r => m (.BoolOp op (y :: z :: r) p)
def kwName : Keyword → Option Str := fun k => k.arg

mutual
def mE (cf : Cfg) : E → Expr → Bool
  | .con c => fun e => match e with
    | .Constant k _ _ => conIs k c
    | _ => false
  | .var i => fun e => match e with
    | .Name x _ => varB cf i x
    | _ => false
  | .glob y c => fun e => match e with
    | .Name x _ => x == y && glB cf x && cf.con.any fun p => p.1 == x && cSame p.2 c
    | _ => false
  | .bin o a b => fun e => match e with
    | .BinOp l op r _ => decide (op = opr o) && (mE cf a l && mE cf b r)
    | _ => false
  | .neg a => fun e => match e with
    | .UnaryOp op l _ => decide (op = .USub) && mE cf a l
    | _ => false
  | .notv a => fun e => match e with
    | .UnaryOp op l _ => decide (op = .Not) && mE cf a l
    | _ => false
  | .cmp o a b => fun e => match e with
    | .Compare l ops rs _ => match ops with
      | [op] => match rs with
        | [r] => decide (op = cmr o) && !(behindInMarks (cmr o) r) && (mE cf a l && mE cf b r)
        | _ => false
      | _ => false
    | _ => false
  | .chain o o' a b c => fun e => match e with
    | .Compare l ops rs _ => match ops with
      | [op, op'] => match rs with
        | [r, q] => decide (op = cmr o) && decide (op' = cmr o') && !(lastMarks [cmr o, cmr o'] [r, q]) && (mE cf a l && (mE cf b r && mE cf c q))
        | _ => false
      | _ => false
    | _ => false
  | .andv a b => fun e => match e with
    | .BoolOp op l p => match l with
      | x :: l => decide (op = .And) && (mE cf a x && andTail (mE cf b) .And p l)
      | [] => false
    | _ => false
  | .orv a b => fun e => match e with
    | .BoolOp op l p => match l with
      | x :: l => decide (op = .Or) && (mE cf a x && andTail (mE cf b) .Or p l)
      | [] => false
    | _ => false
  | .ite t a b => fun e => match e with
    | .IfExp c l r _ => mT cf t c && (mE cf a l && mE cf b r)
    | _ => false
  | .tup es => fun e => match e with
    | .Tuple l _ _ => decide (l.length ≤ 1000) && mEs cf es l
    | _ => false
  | .lst es => fun e => match e with
    | .List l _ => mEs cf es l
    | _ => false
  | .idx a i => fun e => match e with
    | .Subscript l r _ => noSlice r && (mE cf a l && mE cf i r)
    | _ => false
  | .slc a lo hi => fun e => match e with
    | .Subscript l r _ => match r with
      | .Slice lo' hi' st _ => st.isNone && (mE cf a l && (mO cf lo lo' && mO cf hi hi'))
      | _ => false
    | _ => false
  | .call f es => fun e => match e with
    | .Call fn args kws _ => match fn with
      | .Name x _ => kws.isEmpty && glB cf x && decide ((cf.fn[f]?).map (·.1) = some x) && mEs cf es args
      | _ => false
    | _ => false
  | .callk f es ks perm => fun e => match e with
    | .Call fn args kws _ => match fn with
      | .Name x _ => glB cf x && decide ((cf.fn[f]?).map (·.1) = some x) && cf.kw.any (fun q => decide (q = (f, args.length, kws.filterMap kwName, perm))) && decide ((kws.filterMap kwName).length = kws.length) && (mEs cf es args && mKs cf ks kws)
      | _ => false
    | _ => false
  | .bi b es => fun e => match e with
    | .Call fn args kws _ => match fn with
      | .Name x _ => kws.isEmpty && decide (x = biName b) && biB cf b x && !args.isEmpty && mEs cf es args
      | _ => false
    | _ => false
  | .isi a t => fun e => match e with
    | .Call fn args kws _ => match fn with
      | .Name f _ => match args with
        | [l, r] => match r with
          | .Name x _ => kws.isEmpty && decide (f = "isinstance") && freeB cf f && decide (x = Str.ofString t.name) && freeB cf x && noStar l && mE cf a l
          | _ => false
        | _ => false
      | _ => false
    | _ => false
  | _ => fun _ => false
def mT (cf : Cfg) : T → Expr → Bool
  | .tr a => fun e => plainT e && mE cf a e
  | .cmp o a b => fun e => match e with
    | .Compare l ops rs _ => match ops with
      | [op] => match rs with
        | [r] => decide (op = cmr o) && !(behindInMarks (cmr o) r) && (mE cf a l && mE cf b r)
        | _ => false
      | _ => false
    | _ => false
  | .and a b => fun e => match e with
    | .BoolOp op l p => match l with
      | x :: l => decide (op = .And) && (mT cf a x && andTail (mT cf b) .And p l)
      | [] => false
    | _ => false
  | .or a b => fun e => match e with
    | .BoolOp op l p => match l with
      | x :: l => decide (op = .Or) && (mT cf a x && andTail (mT cf b) .Or p l)
      | [] => false
    | _ => false
  | .not a => fun e => match e with
    | .UnaryOp op l _ => decide (op = .Not) && mT cf a l
    | _ => false
  | _ => fun _ => false
def mEs (cf : Cfg) : Es → List Expr → Bool
  | .nil => fun l => l.isEmpty
  | .cons a es => fun l => match l with
    | x :: l => noStar x && (mE cf a x && mEs cf es l)
    | [] => false
def mKs (cf : Cfg) : Es → List Keyword → Bool
  | .nil => fun l => l.isEmpty
  | .cons a es => fun l => match l with
    | x :: l => mE cf a x.value && mKs cf es l
    | [] => false
def mO (cf : Cfg) : Oe → Option Expr → Bool
  | .none => fun l => l.isNone
  | .some a => fun l => match l with
    | some x => mE cf a x
    | none => false
end

/-- the promise of a def of the plain language -/
def spI (et : ETab) (K : PySem.W.Frag) (f : List C → Hc → R C) : Sp := fun vs H Q E => ∃ m h cs, Rl K m h H ∧ RVs K m H cs vs ∧ Post et K (fun c d H' => E c d H') m H (relV K) Q (f cs h)

/-- what stands around -/
structure Good (cf : Cfg) (et : ETab) (call : Nat → List C → Hc → R C) (k : Nat) (X : Cx) (W : WX) : Prop where
  N : X.N = cf.N
  nd : cf.N.Nodup
  kind : ∀ x, X.env.kindOf x = cf.kind x
  calm : X.calm = true
  room : Room k X.A
  gu : X.A.guards = some []
  tk : Takes X W
  bn : ∀ x, cf.bn.contains x = true → X.mg x = none
  gcd : cf.gcd = true → X.mg "gcd" = some (.builtin "math.gcd")
  con : ∀ x c, (x, c) ∈ cf.con → ∃ v u, X.mg x = some u ∧ RelV v u ∧ ∀ m H, RV X.K m H c v
  fn : ∀ (f : Nat) (x : Str) (ps : List Str), cf.fn[f]? = some (x, ps) → ∃ a fd, X.mg x = some (.ref a) ∧ PySem.W.keepIn X.K (.ref a) = true ∧ Binds X.K fd ps [] ∧ FnOkG X.prog X.w X.K X.mg X.base k a fd ps (spI et X.K (call f)) ∧
    ∀ n ks perm, (f, n, ks, perm) ∈ cf.kw → KBinds X.K fd ps ks (gK n ks.length perm) (gK n ks.length perm) ∧ 0 < ps.length

section
variable {cf : Cfg} {et : ETab} {call : Nat → List C → Hc → R C} {sub : Nat → Str → Option Bool} {w : Nat} {k : Nat} {X : Cx} {W : WX}
theorem star_of {e : Expr} {es : List Expr} {env : Env} (h : noStar e = true) : starEach (e :: es) env = (false, eval e env) :: starEach es env := by
  cases e <;> first | rfl | cases h
theorem two {a b : Bool} (h : (a && b) = true) : a = true ∧ b = true := Bool.and_eq_true_iff.mp h
theorem noB {a : Bool} (h : (!a) = true) : a = false := by cases a <;> first | rfl | cases h
theorem Good.units (g : Good cf et call k X W) : X.A.units + 70 < cLine := by have := g.room.un; omega
theorem Good.gl (g : Good cf et call k X W) {x : Str} (h : glB cf x = true) : Gl X x ∧ (x == ("__debug__" : Str)) = false ∧ x ≠ "__name__" := by
  obtain ⟨h1, h3⟩ := two h
  obtain ⟨h1, h2⟩ := two h1
  refine ⟨?_, noB h2, fun z => ?_⟩
  · show X.env.kindOf x = _
    rw [g.kind x]
    exact beq_iff_eq.mp h1
  · have := noB h3
    rw [z] at this
    simp at this
theorem Good.free (g : Good cf et call k X W) {x : Str} (h : freeB cf x = true) : Gl X x ∧ X.mg x = none ∧ (x == ("__debug__" : Str)) = false ∧ x ≠ "__name__" := by
  obtain ⟨h1, h2⟩ := two h
  obtain ⟨a, b, c⟩ := g.gl h1
  exact ⟨a, g.bn x h2, b, c⟩
theorem truth_he {e : Expr} (h : plainT e = true) (env : Env) : ∀ whole, isTrue e env whole = (do let v ← whole; standAt e.pos; holding [v] (truthy v)) := by
  intro whole
  cases e <;> first | rfl | cases h
theorem plain_ix {e : Expr} (h : noSlice e = true) : PlainIx e := by
  intro o i
  cases e <;> first | rfl | cases h
theorem no_any : ∀ {es : Es} {l : List Expr} {env : Env} {pos : Pos}, mEs cf es l = true → (backTo pos (starEach l env)).any (·.1) = false
  | .nil, l, env, pos, h => by
    cases l with
    | nil => rfl
    | cons _ _ => cases h
  | .cons a es, l, env, pos, h => by
    cases l with
    | nil => cases h
    | cons x l =>
      obtain ⟨h1, h2⟩ := two h
      obtain ⟨h2, h3⟩ := two h2
      rw [star_of h1]
      show (false || (backTo pos (starEach l env)).any (·.1)) = false
      rw [no_any h3]
      rfl
theorem pn_of {p : Bool → Bool} : True := trivial
theorem kw_all : ∀ {kws : List Keyword} {env : Env} {pos : Pos}, (kws.filterMap kwName).length = kws.length → (backToKw pos (keywordEach kws env)).all (·.1.isSome) = true ∧ (backToKw pos (keywordEach kws env)).filterMap (·.1) = kws.filterMap kwName ∧ (backToKw pos (keywordEach kws env)).any (·.1.isNone) = false
  | [], _, _, _ => ⟨rfl, rfl, rfl⟩
  | ⟨nm, v, p⟩ :: kws, env, pos, h => by
    have hle : (kws.filterMap kwName).length ≤ kws.length := List.length_filterMap_le _ _
    cases nm with
    | none =>
      exfalso
      have : (kws.filterMap kwName).length = kws.length + 1 := h
      omega
    | some n =>
      have h' : (kws.filterMap kwName).length = kws.length := by
        have : (kws.filterMap kwName).length + 1 = kws.length + 1 := h
        omega
      obtain ⟨a, b, c⟩ := kw_all (env := env) (pos := pos) h'
      refine ⟨?_, ?_, ?_⟩
      · show (true && (backToKw pos (keywordEach kws env)).all (·.1.isSome)) = true
        rw [a]; rfl
      · show n :: (backToKw pos (keywordEach kws env)).filterMap (·.1) = n :: kws.filterMap kwName
        rw [b]
      · show (false || (backToKw pos (keywordEach kws env)).any (·.1.isNone)) = false
        rw [c]; rfl
theorem sK_nil : PK X [] (tA et X.K W fun _ h => .ok [] h) := ⟨fun pos pins s σ H Q I ⟨m, sl, h, rl, rs, p⟩ => pk_nil.run pos pins s σ H Q I (p m H [] Ext.refl rl rfl)⟩
theorem sK_cons {nm : Option Str} {e : Expr} {kpos : Pos} {kws : List Keyword} {fa : Sl → Hc → R C} {fs : Sl → Hc → R (List C)} (ha : PE X e (tE et X.K W fa)) (hr : PK X kws (tA et X.K W fs)) : PK X (⟨nm, e, kpos⟩ :: kws) (tA et X.K W fun sl h => (fa sl h).bind fun x h1 => (fs sl h1).bind fun xs h2 => .ok (x :: xs) h2) :=
  ⟨fun pos pins s σ H Q I ⟨m, sl, h, rl, rs, p⟩ => (pk_cons ha hr).run pos pins s σ H Q I ⟨m, sl, h, rl, rs, p.bind fun x h1 e1 m1 H1 v x1 rl1 rv1 p1 =>
    ⟨m1, sl, h1, rl1, rs.ext x1, p1.bind fun xs h2 e2 m2 H2 vs x2 rl2 rv2 p2 => p2 m2 H2 (v :: vs) Ext.refl rl2 ⟨v, vs, rfl, RV.ext x2 rv1, rv2⟩⟩⟩⟩
theorem RVs.filterAt {K : PySem.W.Frag} {m : List Addr} {H : Hp} {cs : List C} {vs : List V} (q : RVs K m H cs vs) : ∀ perm : List Nat, RVs K m H (perm.filterMap fun i => cs[i]?) (perm.filterMap fun i => vs[i]?)
  | [] => rfl
  | i :: perm => by
    have ih := RVs.filterAt q perm
    rw [List.filterMap_cons, List.filterMap_cons]
    cases e : cs[i]? with
    | none =>
      have : vs[i]? = none := by
        rw [List.getElem?_eq_none_iff] at e ⊢
        rw [← q.length]; exact e
      rw [this]
      exact ih
    | some c =>
      obtain ⟨v, e1, e2⟩ := q.get e
      rw [e1]
      exact ⟨v, _, rfl, e2, ih⟩
theorem sE_call1 {f : Nat} {x : Str} {p pos : Pos} {e : Expr} {es : List Expr} {fs : Sl → Hc → R (List C)} {ps : List Str} (g : Good cf et call k X W) (hf : cf.fn[f]? = some (x, ps)) (hg : glB cf x = true) (hA : PA X (e :: es) (tA et X.K W fs))
    (s1 : starEach (e :: es) X.env = (false, eval e X.env) :: starEach es X.env) (s2 : (backTo pos (starEach es X.env)).any (·.1) = false) :
    PE X (.Call (.Name x p) (e :: es) [] pos) (tE et X.K W fun sl h => (fs sl h).bind fun xs h1 => call f xs h1) := by
  obtain ⟨a, fd, hm, hk, hb, F, _⟩ := g.fn f x ps hf
  obtain ⟨g1, g2, g3⟩ := g.gl hg
  exact (pe_g F g.gu g.room g1 hm hk hb (E := WE W) (fun σ => passAt g.tk σ) hA g2 s1 s2).imp fun σ H Q ⟨m, sl, h, rl, rs, q⟩ =>
    ⟨m, sl, h, rl, rs, q.bind fun xs h1 e1 m1 H1 vs x1 rl1 rv1 p1 => ⟨m1, h1, xs, rl1, rv1, p1⟩⟩
theorem sE_call0 {f : Nat} {x : Str} {p pos : Pos} {ps : List Str} (g : Good cf et call k X W) (hf : cf.fn[f]? = some (x, ps)) (hg : glB cf x = true) :
    PE X (.Call (.Name x p) [] [] pos) (tE et X.K W fun _ h => call f [] h) := by
  obtain ⟨a, fd, hm, hk, hb, F, _⟩ := g.fn f x ps hf
  obtain ⟨g1, g2, g3⟩ := g.gl hg
  exact (pe_g0 F g.gu g.room g1 hm hk hb (E := WE W) (fun σ => passAt g.tk σ) g2).imp fun σ H Q ⟨m, sl, h, rl, rs, q⟩ => ⟨m, h, [], rl, rfl, q⟩
theorem gK_rel {K : PySem.W.Frag} {m : List Addr} {H : Hp} {n j : Nat} {perm : List Nat} {xs ys : List C} {vs zs : List V} (q : RVs K m H xs vs) (r : RVs K m H ys zs) : RVs K m H (gK n j perm xs ys) (gK n j perm vs zs) := by
  unfold gK
  rw [q.length, r.length]
  split
  · exact RVs.append q (RVs.filterAt r perm)
  · rfl
theorem sE_callk1 {f : Nat} {x : Str} {p pos : Pos} {e : Expr} {es : List Expr} {kws : List Keyword} {fs gs : Sl → Hc → R (List C)} {ps : List Str} {n : Nat} {perm : List Nat} (g : Good cf et call k X W) (hf : cf.fn[f]? = some (x, ps)) (hg : glB cf x = true)
    (hkw : (f, n, kws.filterMap kwName, perm) ∈ cf.kw) (hl : (kws.filterMap kwName).length = kws.length) (hA : PA X (e :: es) (tA et X.K W fs)) (hK : PK X kws (tA et X.K W gs))
    (s1 : starEach (e :: es) X.env = (false, eval e X.env) :: starEach es X.env) (s2 : (backTo pos (starEach es X.env)).any (·.1) = false) :
    PE X (.Call (.Name x p) (e :: es) kws pos) (tE et X.K W fun sl h => (fs sl h).bind fun xs h1 => (gs sl h1).bind fun ys h2 => call f (gK n kws.length perm xs ys) h2) := by
  obtain ⟨a, fd, hm, hk, hb, F, hkb⟩ := g.fn f x ps hf
  obtain ⟨g1, g2, g3⟩ := g.gl hg
  obtain ⟨kb, _⟩ := hkb n _ perm hkw
  obtain ⟨k1, k2, k3⟩ := kw_all (env := X.env) (pos := pos) hl
  refine (pe_gk F g.gu g.room g1 hm hk kb (E := WE W) (fun σ => passAt g.tk σ) hA hK k1 k2 g2 s1 (by
    rw [s1]
    show ((false || (backTo pos (starEach es X.env)).any (·.1)) || _) = false
    rw [s2, k3]; rfl)).imp fun σ H Q ⟨m, sl, h, rl, rs, q⟩ => ⟨m, sl, h, rl, rs, q.bind fun xs h1 e1 m1 H1 vs x1 rl1 rv1 p1 => ?_⟩
  refine ⟨m1, sl, h1, rl1, rs.ext x1, p1.bind fun ys h2 e2 m2 H2 zs x2 rl2 rv2 p2 => ?_⟩
  refine ⟨m2, h2, gK n kws.length perm xs ys, rl2, ?_, p2⟩
  rw [hl]
  exact gK_rel (RVs.ext x2 rv1) rv2
theorem sE_callk0 {f : Nat} {x : Str} {p pos : Pos} {kws : List Keyword} {gs : Sl → Hc → R (List C)} {ps : List Str} {perm : List Nat} (g : Good cf et call k X W) (hf : cf.fn[f]? = some (x, ps)) (hg : glB cf x = true)
    (hkw : (f, 0, kws.filterMap kwName, perm) ∈ cf.kw) (hl : (kws.filterMap kwName).length = kws.length) (hK : PK X kws (tA et X.K W gs)) :
    PE X (.Call (.Name x p) [] kws pos) (tE et X.K W fun sl h => (gs sl h).bind fun ys h2 => call f (gK 0 kws.length perm [] ys) h2) := by
  obtain ⟨a, fd, hm, hk, hb, F, hkb⟩ := g.fn f x ps hf
  obtain ⟨g1, g2, g3⟩ := g.gl hg
  obtain ⟨kb, _⟩ := hkb 0 _ perm hkw
  obtain ⟨k1, k2, k3⟩ := kw_all (env := X.env) (pos := pos) hl
  refine ⟨fun pins s σ H Q I ⟨m, sl, h, rl, rs, q⟩ => ?_⟩
  refine wpAny_Call_Name_kw (ld_glob I g1 hm ?_ g2)
  refine PySem.W.callWith_KW0 (h₀ := X.base) I.ok.mod.kin hk k1 ?_ (by
    show (false || _) = false
    rw [k3]; rfl)
  refine thn (hK.run pos pins s σ H (fun zs H2 => spI et X.K (call f) (gK 0 (kws.filterMap kwName).length perm [] zs) H2 Q (WE W σ)) I ⟨m, sl, h, rl, rs, q.bind fun ys h2 e2 m2 H2 zs x2 rl2 rv2 p2 => ⟨m2, h2, _, rl2, by rw [hl]; exact gK_rel (n := 0) (xs := []) (vs := []) rfl rv2, p2⟩⟩) fun ws s2 ⟨zs, H2, I2, rz, q2⟩ => ⟨I2.kIn, ?_⟩
  rw [k2]
  exact run_gk (us := []) (vs := []) F g.gu g.room kb (E := WE W) (passAt g.tk σ) I2 .nil rz q2
end
end Sh
set_option Elab.async false
set_option linter.all false
set_option autoImplicit false
set_option maxRecDepth 100000
set_option maxHeartbeats 8000000
/-! Sh, part H: every matched expression does what the plain one tells. -/
namespace Sh
open PySem PySem.Spec PyProof.Rows L2
section
variable {cf : Cfg} {et : ETab} {call : Nat → List C → Hc → R C} {sub : Nat → Str → Option Bool} {w : Nat} {k : Nat} {X : Cx} {W : WX}
theorem boot_bi (b : Bi) (h : b ≠ .gcd) : bootBuiltins (biName b) = some (biVal b) := by
  cases b <;> first | exact absurd rfl h | decide +kernel
theorem boot_ty (t : Ty) : bootBuiltins (Str.ofString t.name) = some (.type t.name) := by
  cases t <;> decide +kernel
theorem len_es : ∀ {es : Es} {l : List Expr}, mEs cf es l = true → l.length = es.len
  | .nil, l, h => by
    cases l with
    | nil => rfl
    | cons _ _ => cases h
  | .cons a es, l, h => by
    cases l with
    | nil => cases h
    | cons x l =>
      obtain ⟨h1, h2⟩ := two h
      obtain ⟨h2, h3⟩ := two h2
      show l.length + 1 = es.len + 1
      rw [len_es h3]
theorem len_ks : ∀ {es : Es} {l : List Keyword}, mKs cf es l = true → l.length = es.len
  | .nil, l, h => by
    cases l with
    | nil => rfl
    | cons _ _ => cases h
  | .cons a es, l, h => by
    cases l with
    | nil => cases h
    | cons x l =>
      obtain ⟨h1, h2⟩ := two h
      show l.length + 1 = es.len + 1
      rw [len_ks h2]
theorem fn_get {f : Nat} {x : Str} (h : decide ((cf.fn[f]?).map (·.1) = some x) = true) : ∃ ps, cf.fn[f]? = some (x, ps) := by
  have h' := of_decide_eq_true h
  cases e : cf.fn[f]? with
  | none => rw [e] at h'; cases h'
  | some q =>
    rw [e] at h'
    obtain ⟨y, ps⟩ := q
    have h2 : some y = some x := h'
    cases h2
    exact ⟨ps, rfl⟩
theorem sE_bi_all (g : Good cf et call k X W) {b : Bi} {x : Str} {p pos : Pos} {e : Expr} {es : List Expr} {fs : Sl → Hc → R (List C)} (hx : x = biName b) (hf : biB cf b x = true) (hA : PA X (e :: es) (tA et X.K W fs))
    (s1 : starEach (e :: es) X.env = (false, eval e X.env) :: starEach es X.env) (s2 : (backTo pos (starEach es X.env)).any (·.1) = false) :
    PE X (.Call (.Name x p) (e :: es) [] pos) (tE et X.K W fun sl h => (fs sl h).bind fun xs h1 => bi b xs h1) := by
  subst hx
  refine sE_bi b rfl (.inl g.calm) g.gu g.units hA fun r hr => ?_
  have blt : ∀ id, b ≠ .gcd → biVal b = .builtin id → PE X (.Call (.Name (biName b) p) (e :: es) [] pos) (tCB r (tA et X.K W fs)) := fun id hb hv => by
    have hf' : freeB cf (biName b) = true := by cases b <;> first | exact absurd rfl hb | exact hf
    obtain ⟨f1, f2, f3, f4⟩ := g.free hf'
    rw [hv] at hr
    exact pe_callB hr f1 f2 (by rw [boot_bi b hb, hv]) hA f4 f3 s1 s2
  have ty : ∀ id, b ≠ .gcd → biVal b = .type id → PE X (.Call (.Name (biName b) p) (e :: es) [] pos) (tCB r (tA et X.K W fs)) := fun id hb hv => by
    have hf' : freeB cf (biName b) = true := by cases b <;> first | exact absurd rfl hb | exact hf
    obtain ⟨f1, f2, f3, f4⟩ := g.free hf'
    rw [hv] at hr
    exact pe_callTy hr f1 f2 (by rw [boot_bi b hb, hv]) hA f4 f3 s1 s2
  have ng : ∀ {c : Bi}, c = .gcd ∨ c ≠ .gcd := fun {c} => by cases c <;> first | exact .inl rfl | exact .inr (by intro z; cases z)
  cases b with
  | gcd =>
    obtain ⟨h1, h2⟩ := two hf
    obtain ⟨f1, f2, f3⟩ := g.gl h1
    exact pe_callBfun hr f1 (g.gcd h2) hA f2 s1 s2
  | len => exact blt _ (by intro z; cases z) rfl
  | abs => exact blt _ (by intro z; cases z) rfl
  | max2 => exact blt _ (by intro z; cases z) rfl
  | min2 => exact blt _ (by intro z; cases z) rfl
  | sum => exact blt _ (by intro z; cases z) rfl
  | divmod => exact blt _ (by intro z; cases z) rfl
  | repr => exact blt _ (by intro z; cases z) rfl
  | tuple => exact ty _ (by intro z; cases z) rfl
  | list => exact ty _ (by intro z; cases z) rfl
  | maxL => exact blt _ (by intro z; cases z) rfl
  | minL => exact blt _ (by intro z; cases z) rfl
  | int => exact ty _ (by intro z; cases z) rfl
  | bool => exact ty _ (by intro z; cases z) rfl
  | all => exact blt _ (by intro z; cases z) rfl
  | any => exact blt _ (by intro z; cases z) rfl

theorem bool_tail {op : BoolOp} {p : Pos} {m : Expr → Bool} {l : List Expr} {t : TE} (h : andTail m op p l = true) (ih : ∀ e, m e = true → PE X e t) : ∃ y r, l = y :: r ∧ PE X (.BoolOp op (y :: r) p) t := by
  match l, h with
  | [], h => cases h
  | [y], h => exact ⟨y, [], rfl, pe_one (ih y h)⟩
  | y :: z :: r, h => exact ⟨y, z :: r, rfl, ih _ h⟩
/-- a test that is an and, an or of tests, is so whatever its whole is -/
def PTW (X : Cx) (e : Expr) (t : TT) : Prop := PT X e t ∧ ∀ op l p, e = .BoolOp op l p → PW X e t
theorem test_tail {op : BoolOp} {p : Pos} {m : Expr → Bool} {l : List Expr} {t : TT} (h : andTail m op p l = true) (ih : ∀ e, m e = true → PTW X e t) : ∃ y r, l = y :: r ∧ PW X (.BoolOp op (y :: r) p) t := by
  match l, h with
  | [], h => cases h
  | [y], h =>
    refine ⟨y, [], rfl, ?_⟩
    cases op with
    | And => exact pw_and1 (ih y h).1
    | Or => exact pw_or1 (ih y h).1
  | y :: z :: r, h => exact ⟨y, z :: r, rfl, (ih _ h).2 _ _ _ rfl⟩

mutual
theorem E.sound (g : Good cf et call k X W) : ∀ (ir : E) (e : Expr), mE cf ir e = true → PE X e (tE et X.K W (E.ev call sub w none ir))
  | .con c, e, h => by
    cases e <;> try (cases h; done)
    rename_i kk j pos
    replace h : conIs kk c = true := h
    cases kk <;> cases c <;> try (cases h; done)
    · exact sE_const pe_non fun m H => rfl
    · rename_i b b'
      have : b = b' := beq_iff_eq.mp h
      subst this
      exact sE_const pe_bl fun m H => rfl
    · rename_i b b'
      have : b = b' := beq_iff_eq.mp h
      subst this
      exact sE_const pe_int fun m H => rfl
    · rename_i b b'
      have : b = b' := beq_iff_eq.mp h
      subst this
      exact sE_const pe_str fun m H => rfl
  | .var i, e, h => by
    cases e <;> try (cases h; done)
    rename_i x pos
    obtain ⟨h, h4⟩ := two h
    obtain ⟨h, h3⟩ := two h
    obtain ⟨h1, h2⟩ := two h
    have hv : Vis X.env.scope x := by
      have q : ∀ y, X.env.scope.names.lookup y = cf.kind y := g.kind
      obtain h2 | h2 := Bool.or_eq_true_iff.mp h2
      · obtain h2 | h2 := Bool.or_eq_true_iff.mp h2
        · exact .inl ((q x).trans (beq_iff_eq.mp h2))
        · exact .inr (.inl ((q x).trans (beq_iff_eq.mp h2)))
      · exact .inr (.inr ((q x).trans (beq_iff_eq.mp h2)))
    exact sE_var (pe_var (by rw [g.N]; exact beq_iff_eq.mp h1) hv (noB h3) (noB h4))
  | .glob y c, e, h => by
    cases e <;> try (cases h; done)
    rename_i x pos
    obtain ⟨h, h3⟩ := two h
    obtain ⟨h1, h2⟩ := two h
    obtain ⟨f1, f2, f3⟩ := g.gl h2
    obtain ⟨q, hq, hh⟩ := List.any_eq_true.mp h3
    obtain ⟨q1, q2⟩ := two hh
    obtain ⟨y', c'⟩ := q
    have e1 : y' = x := beq_iff_eq.mp q1
    subst e1
    have e2 : c' = c := by
      cases c' <;> cases c <;> first | (have := beq_iff_eq.mp q2; rw [this]) | cases q2
    subst e2
    obtain ⟨v, u, hm, r, rv⟩ := g.con _ _ hq
    exact sE_const (pe_glob f1 hm r f2) fun m H => rv m H
  | .bin o a b, e, h => by
    cases e <;> try (cases h; done)
    rename_i l op r pos
    obtain ⟨h1, h2⟩ := two h
    obtain ⟨h2, h3⟩ := two h2
    have := of_decide_eq_true h1
    subst this
    exact sE_bin o (E.sound g a l h2) (E.sound g b r h3)
  | .neg a, e, h => by
    cases e <;> try (cases h; done)
    rename_i op l pos
    obtain ⟨h1, h2⟩ := two h
    have := of_decide_eq_true h1
    subst this
    exact sE_neg (E.sound g a l h2)
  | .notv a, e, h => by
    cases e <;> try (cases h; done)
    rename_i op l pos
    obtain ⟨h1, h2⟩ := two h
    have := of_decide_eq_true h1
    subst this
    exact sE_notv (E.sound g a l h2)
  | .cmp o a b, e, h => by
    cases e <;> try (cases h; done)
    rename_i l ops rs pos
    match ops, rs, h with
    | [op], [r], h =>
      obtain ⟨h, h3⟩ := two h
      obtain ⟨h1, h2⟩ := two h
      obtain ⟨h3, h4⟩ := two h3
      have := of_decide_eq_true h1
      subst this
      exact sE_cmp o (by have := g.units; omega) (noB h2) (E.sound g a l h3) (E.sound g b r h4)
    | [], _, h => cases h
    | _ :: _ :: _, _, h => cases h
    | [_], [], h => cases h
    | [_], _ :: _ :: _, h => cases h
  | .chain o o' a b c, e, h => by
    cases e <;> try (cases h; done)
    rename_i l ops rs pos
    match ops, rs, h with
    | [op, op'], [r, q], h =>
      obtain ⟨h, h4⟩ := two h
      obtain ⟨h, h3⟩ := two h
      obtain ⟨h1, h2⟩ := two h
      obtain ⟨h4, h5⟩ := two h4
      obtain ⟨h5, h6⟩ := two h5
      have := of_decide_eq_true h1
      subst this
      have := of_decide_eq_true h2
      subst this
      exact sE_chain o o' (by have := g.units; omega) (noB h3) (E.sound g a l h4) (E.sound g b r h5) (E.sound g c q h6)
    | [], _, h => cases h
    | [_], _, h => cases h
    | _ :: _ :: _ :: _, _, h => cases h
    | [_, _], [], h => cases h
    | [_, _], [_], h => cases h
    | [_, _], _ :: _ :: _ :: _, h => cases h
  | .andv a b, e, h => by
    cases e <;> try (cases h; done)
    rename_i op l p
    match l, h with
    | [], h => cases h
    | x :: l, h =>
      obtain ⟨h1, h23⟩ := two h
      obtain ⟨h2, h3⟩ := two h23
      have := of_decide_eq_true h1
      subst this
      obtain ⟨y, r, rfl, hb⟩ := bool_tail (X := X) h3 fun e he => E.sound g b e he
      exact sE_and (E.sound g a x h2) hb
  | .orv a b, e, h => by
    cases e <;> try (cases h; done)
    rename_i op l p
    match l, h with
    | [], h => cases h
    | x :: l, h =>
      obtain ⟨h1, h23⟩ := two h
      obtain ⟨h2, h3⟩ := two h23
      have := of_decide_eq_true h1
      subst this
      obtain ⟨y, r, rfl, hb⟩ := bool_tail (X := X) h3 fun e he => E.sound g b e he
      exact sE_or (E.sound g a x h2) hb
  | .ite t a b, e, h => by
    cases e <;> try (cases h; done)
    rename_i c l r pos
    obtain ⟨h1, h2⟩ := two h
    obtain ⟨h2, h3⟩ := two h2
    exact sE_ite (T.sound g t c h1).1 (E.sound g a l h2) (E.sound g b r h3)
  | .tup es, e, h => by
    cases e <;> try (cases h; done)
    rename_i l kk pos
    obtain ⟨h1, h2⟩ := two h
    exact sE_tup (Es.sound g es l h2) (of_decide_eq_true h1)
  | .lst es, e, h => by
    cases e <;> try (cases h; done)
    rename_i l pos
    exact sE_lst (Es.sound g es l h)
  | .idx a i, e, h => by
    cases e <;> try (cases h; done)
    rename_i l r pos
    obtain ⟨h1, h2⟩ := two h
    obtain ⟨h2, h3⟩ := two h2
    exact sE_idx (plain_ix h1) (E.sound g a l h2) (E.sound g i r h3)
  | .slc a lo hi, e, h => by
    cases e <;> try (cases h; done)
    rename_i l r pos
    cases r <;> try (cases h; done)
    rename_i lo' hi' st p2
    obtain ⟨h1, h2⟩ := two h
    obtain ⟨h2, h3⟩ := two h2
    obtain ⟨h3, h4⟩ := two h3
    cases st with
    | some _ => cases h1
    | none => exact sE_slc (E.sound g a l h2) (Oe.sound g lo lo' h3) (Oe.sound g hi hi' h4)
  | .call f es, e, h => by
    cases e <;> try (cases h; done)
    rename_i fn args kws pos
    cases fn <;> try (cases h; done)
    rename_i x p
    obtain ⟨h, h4⟩ := two h
    obtain ⟨h, h3⟩ := two h
    obtain ⟨h1, h2⟩ := two h
    obtain ⟨ps, hf⟩ := fn_get h3
    cases kws with
    | cons _ _ => cases h1
    | nil =>
      cases es with
      | nil =>
        cases args with
        | cons _ _ => cases h4
        | nil => exact sE_call0 g hf h2
      | cons a es =>
        cases args with
        | nil => cases h4
        | cons e' l =>
          obtain ⟨q1, q2⟩ := two h4
          obtain ⟨q2, q3⟩ := two q2
          exact sE_call1 g hf h2 (Es.sound g (.cons a es) (e' :: l) h4) (star_of q1) (no_any q3)
  | .callk f es ks perm, e, h => by
    cases e <;> try (cases h; done)
    rename_i fn args kws pos
    cases fn <;> try (cases h; done)
    rename_i x p
    obtain ⟨h, h5⟩ := two h
    obtain ⟨h, h4⟩ := two h
    obtain ⟨h, h3⟩ := two h
    obtain ⟨h1, h2⟩ := two h
    obtain ⟨h5, h6⟩ := two h5
    obtain ⟨ps, hf⟩ := fn_get h2
    obtain ⟨q, hq, hh⟩ := List.any_eq_true.mp h3
    have := of_decide_eq_true hh
    subst this
    have h4 := of_decide_eq_true h4
    have hk := Es.soundK g ks kws h6
    have l2 := len_ks h6
    have l1 := len_es h5
    cases es with
    | nil =>
      cases args with
      | cons _ _ => cases h5
      | nil =>
        have := sE_callk0 (pos := pos) (p := p) g hf h1 hq h4 hk
        rw [l2] at this
        exact this
    | cons a es =>
      cases args with
      | nil => cases h5
      | cons e' l =>
        obtain ⟨q1, q2⟩ := two h5
        obtain ⟨q2, q3⟩ := two q2
        have := sE_callk1 (pos := pos) (p := p) g hf h1 hq h4 (Es.sound g (.cons a es) (e' :: l) h5) hk (star_of q1) (no_any q3)
        rw [l2, l1] at this
        exact this
  | .bi b es, e, h => by
    cases e <;> try (cases h; done)
    rename_i fn args kws pos
    cases fn <;> try (cases h; done)
    rename_i x p
    obtain ⟨h, h5⟩ := two h
    obtain ⟨h, h4⟩ := two h
    obtain ⟨h, h3⟩ := two h
    obtain ⟨h1, h2⟩ := two h
    cases kws with
    | cons _ _ => cases h1
    | nil =>
      cases args with
      | nil => cases h4
      | cons e' l =>
        cases es with
        | nil => cases h5
        | cons a es =>
          obtain ⟨q1, q2⟩ := two h5
          obtain ⟨q2, q3⟩ := two q2
          exact sE_bi_all g (of_decide_eq_true h2) h3 (Es.sound g (.cons a es) (e' :: l) h5) (star_of q1) (no_any q3)
  | .isi a t, e, h => by
    cases e <;> try (cases h; done)
    rename_i fn args kws pos
    cases fn <;> try (cases h; done)
    rename_i f p
    match args, h with
    | [], h => cases h
    | [_], h => cases h
    | _ :: _ :: _ :: _, h => cases h
    | [l, r], h =>
      cases r <;> try (cases h; done)
      rename_i x p1
      obtain ⟨h, h7⟩ := two h
      obtain ⟨h, h6⟩ := two h
      obtain ⟨h, h5⟩ := two h
      obtain ⟨h, h4⟩ := two h
      obtain ⟨h, h3⟩ := two h
      obtain ⟨h1, h2⟩ := two h
      have := of_decide_eq_true h2
      subst this
      have := of_decide_eq_true h4
      subst this
      obtain ⟨f1, f2, f3, f4⟩ := g.free h3
      obtain ⟨g1, g2, g3, g4⟩ := g.free h5
      cases kws with
      | cons _ _ => cases h1
      | nil => exact sE_isi f1 f2 g1 g2 (boot_ty t) g4 g3 (star_of h6) (by rfl) (E.sound g a l h7)
  | .pop _, e, h => by cases h
  | .comp _ _ _ _, e, h => by cases h
  | .excf _, e, h => by cases h
  | .excis _, e, h => by cases h
theorem T.sound (g : Good cf et call k X W) : ∀ (ir : T) (e : Expr), mT cf ir e = true → PTW X e (tT et X.K W (T.ev call sub w none ir))
  | .tr a, e, h => by
    obtain ⟨h1, h2⟩ := two h
    refine ⟨sT_tr (truth_he h1 _) (E.sound g a e h2), fun op l p z => ?_⟩
    subst z
    cases h1
  | .cmp o a b, e, h => by
    cases e <;> try (cases h; done)
    rename_i l ops rs pos
    match ops, rs, h with
    | [op], [r], h =>
      obtain ⟨h, h3⟩ := two h
      obtain ⟨h1, h2⟩ := two h
      obtain ⟨h3, h4⟩ := two h3
      have := of_decide_eq_true h1
      subst this
      exact ⟨sT_cmp o (by have := g.units; omega) (noB h2) (E.sound g a l h3) (E.sound g b r h4), fun op l p z => by cases z⟩
    | [], _, h => cases h
    | _ :: _ :: _, _, h => cases h
    | [_], [], h => cases h
    | [_], _ :: _ :: _, h => cases h
  | .and a b, e, h => by
    cases e <;> try (cases h; done)
    rename_i op l p
    match l, h with
    | [], h => cases h
    | x :: l, h =>
      obtain ⟨h1, h23⟩ := two h
      obtain ⟨h2, h3⟩ := two h23
      have := of_decide_eq_true h1
      subst this
      obtain ⟨y, r, rfl, hb⟩ := test_tail (X := X) h3 fun e he => T.sound g b e he
      have q := sW_and (T.sound g a x h2).1 hb
      exact ⟨q.pt, fun _ _ _ _ => q⟩
  | .or a b, e, h => by
    cases e <;> try (cases h; done)
    rename_i op l p
    match l, h with
    | [], h => cases h
    | x :: l, h =>
      obtain ⟨h1, h23⟩ := two h
      obtain ⟨h2, h3⟩ := two h23
      have := of_decide_eq_true h1
      subst this
      obtain ⟨y, r, rfl, hb⟩ := test_tail (X := X) h3 fun e he => T.sound g b e he
      have q := sW_or (T.sound g a x h2).1 hb
      exact ⟨q.pt, fun _ _ _ _ => q⟩
  | .not a, e, h => by
    cases e <;> try (cases h; done)
    rename_i op l pos
    obtain ⟨h1, h2⟩ := two h
    have := of_decide_eq_true h1
    subst this
    exact ⟨sT_not (T.sound g a l h2).1, fun op l p z => by cases z⟩
  | .yes, e, h => by cases h
theorem Es.sound (g : Good cf et call k X W) : ∀ (ir : Es) (l : List Expr), mEs cf ir l = true → PA X l (tA et X.K W (Es.ev call sub w none ir))
  | .nil, l, h => by
    cases l with
    | nil => exact sA_nil
    | cons _ _ => cases h
  | .cons a es, l, h => by
    cases l with
    | nil => cases h
    | cons x l =>
      obtain ⟨h1, h2⟩ := two h
      obtain ⟨h2, h3⟩ := two h2
      exact sA_cons (star_of h1) (E.sound g a x h2) (Es.sound g es l h3)
theorem Es.soundK (g : Good cf et call k X W) : ∀ (ir : Es) (l : List Keyword), mKs cf ir l = true → PK X l (tA et X.K W (Es.ev call sub w none ir))
  | .nil, l, h => by
    cases l with
    | nil => exact sK_nil
    | cons _ _ => cases h
  | .cons a es, l, h => by
    cases l with
    | nil => cases h
    | cons x l =>
      obtain ⟨h1, h2⟩ := two h
      obtain ⟨nm, v, kp⟩ := x
      exact sK_cons (E.sound g a v h1) (Es.soundK g es l h2)
theorem Oe.sound (g : Good cf et call k X W) : ∀ (ir : Oe) (l : Option Expr), mO cf ir l = true → PO X l (tO et X.K W (Oe.ev call sub w none ir))
  | .none, l, h => by
    cases l with
    | none => exact sO_none
    | some _ => cases h
  | .some a, l, h => by
    cases l with
    | none => cases h
    | some x => exact sO_some (E.sound g a x h)
end
end
end Sh
set_option Elab.async false
set_option linter.all false
set_option autoImplicit false
set_option maxRecDepth 100000
set_option maxHeartbeats 8000000
/-! Sh, part I: statements. -/
namespace Sh
open PySem PySem.Spec PyProof.Rows L2

section
variable (et : ETab) (K : PySem.W.Frag) (W : WX)
def PostS (D : Ends) (m : List Addr) (H : Hp) : RS' → Prop
  | .nx sl h => ∀ m' H' σ', Ext K m H m' H' → Rl K m' h H' → RS K m' H' sl σ' → D.nx σ' H'
  | .ret c h => ∀ m' H' v, Ext K m H m' H' → Rl K m' h H' → RV K m' H' c v → D.rt v H'
  | .bk sl h => ∀ m' H' σ', Ext K m H m' H' → Rl K m' h H' → RS K m' H' sl σ' → D.bk σ' H'
  | .ct sl h => ∀ m' H' σ', Ext K m H m' H' → Rl K m' h H' → RS K m' H' sl σ' → D.ct σ' H'
  | .err k xs sl h => ∀ m' H' σ' cls d, Ext K m H m' H' → Rl K m' h H' → RS K m' H' sl σ' → RX et K m' H' k xs cls d → W cls d σ' H'
  | .bad => False
def tS (f : Sl → Hc → RS') : TS := fun D σ H => ∃ m sl h, Rl K m h H ∧ RS K m H sl σ ∧ PostS et K W D m H (f sl h)
end
def relS (K : PySem.W.Frag) : List Addr → Hp → Sl → L2.St → Prop := fun m H sl σ => RS K m H sl σ
def tG (et : ETab) (K : PySem.W.Frag) (f : C → Sl → Hc → R Sl) : TG := fun v σ H Q => ∃ m sl h c, Rl K m h H ∧ RS K m H sl σ ∧ RV K m H c v ∧ Post et K (fun _ _ _ => False) m H (relS K) Q (f c sl h)
def tGs (et : ETab) (K : PySem.W.Frag) (f : List C → Sl → Hc → R Sl) : TGs := fun vs σ H Q => ∃ m sl h cs, Rl K m h H ∧ RS K m H sl σ ∧ RVs K m H cs vs ∧ Post et K (fun _ _ _ => False) m H (relS K) Q (f cs sl h)

section
variable {et : ETab} {K : PySem.W.Frag} {W : WX} {D : Ends} {m m' : List Addr} {H H' : Hp} {sl : Sl} {σ : L2.St} {α β : Type} {rel : List Addr → Hp → α → β → Prop} {Q : β → Hp → Prop}
theorem PostS.ext {r : RS'} (p : PostS et K W D m H r) (e : Ext K m H m' H') : PostS et K W D m' H' r := by
  cases r with
  | nx sl h => exact fun m2 H2 s x => p m2 H2 s (e.trans x)
  | ret c h => exact fun m2 H2 s x => p m2 H2 s (e.trans x)
  | bk sl h => exact fun m2 H2 s x => p m2 H2 s (e.trans x)
  | ct sl h => exact fun m2 H2 s x => p m2 H2 s (e.trans x)
  | err k xs sl h => exact fun m2 H2 s c d x => p m2 H2 s c d (e.trans x)
  | bad => exact p
theorem PostS.th {r : R α} {f : α → Hc → RS'} (p : PostS et K W D m H (r.th sl f)) (rs : RS K m H sl σ)
    (g : ∀ a h1, r = .ok a h1 → ∀ m1 H1 v, Ext K m H m1 H1 → Rl K m1 h1 H1 → rel m1 H1 a v → PostS et K W D m1 H1 (f a h1) → Q v H1) : Post et K (fun c d H' => W c d σ H') m H rel Q r := by
  cases r with
  | ok a h => exact fun m1 H1 v x rl rv => g a h rfl m1 H1 v x rl rv (PostS.ext p x)
  | err k xs h => exact fun m1 H1 c d x rl rx => p m1 H1 σ c d x rl (rs.ext x) rx
  | bad => exact p
theorem PostS.seq {r : RS'} {f : Sl → Hc → RS'} (p : PostS et K W D m H (r.th f)) : PostS et K W { D with nx := fun σ H => tS et K W f D σ H } m H r := by
  cases r with
  | nx sl h => exact fun m1 H1 s x rl rs => ⟨m1, sl, h, rl, rs, PostS.ext p x⟩
  | ret c h => exact p
  | bk sl h => exact p
  | ct sl h => exact p
  | err k xs sl h => exact p
  | bad => exact p
theorem Post.noerr {r : R α} {Wa Wb : Value → Option Addr → Hp → Prop} (p : Post et K Wa m H rel Q r.noerr) : Post et K Wb m H rel Q r := by
  cases r with
  | ok a h => exact p
  | err k xs h => exact False.elim p
  | bad => exact p
end

section
variable {cf : Cfg} {et : ETab} {call : Nat → List C → Hc → R C} {sub : Nat → Str → Option Bool} {w : Nat} {k : Nat} {X : Cx} {W : WX}

/-! ### targets -/
def locB (cf : Cfg) (i : Nat) (x : Str) : Bool := cf.N[i]? == some x && cf.kind x == some .local
theorem Good.loc (g : Good cf et call k X W) {i : Nat} {x : Str} (h : locB cf i x = true) : X.N[i]? = some x ∧ Loc X.env.scope x ∧ X.env.scope.names.lookup x = some .local ∧ X.N.Nodup := by
  obtain ⟨h1, h2⟩ := two h
  have q : X.env.scope.names.lookup x = cf.kind x := g.kind x
  have h3 := q.trans (beq_iff_eq.mp h2)
  exact ⟨by rw [g.N]; exact beq_iff_eq.mp h1, .inl h3, h3, by rw [g.N]; exact g.nd⟩
theorem RS.setN {K : PySem.W.Frag} {m : List Addr} {H : Hp} {sl : Sl} {σ : L2.St} (r : RS K m H sl σ) (i : Nat) {c : C} {v : V} (q : RV K m H c v) : RS K m H (sl.set i (some c)) (σ.set i (some v)) := r.set i q

mutual
def mP (cf : Cfg) : Pt → Expr → Bool
  | .v i => fun e => match e with
    | .Name x _ => locB cf i x
    | _ => false
  | .sub o i => fun e => match e with
    | .Subscript l r _ => noSlice r && (mE cf o l && mE cf i r)
    | _ => false
  | .tup ps => fun e => match e with
    | .Tuple l _ _ => mPs cf ps l
    | _ => false
def mPs (cf : Cfg) : Pts → List Expr → Bool
  | .nil => fun l => l.isEmpty
  | .cons p ps => fun l => match l with
    | x :: l => noStar x && (mP cf p x && mPs cf ps l)
    | [] => false
end
theorem asg_of {e : Expr} {es : List Expr} {env : Env} (h : noStar e = true) : assignEach (e :: es) env = (false, assign e env) :: assignEach es env := by
  cases e <;> first | rfl | cases h
theorem asg_len : ∀ {ps : Pts} {l : List Expr} {env : Env}, mPs cf ps l = true → (assignEach l env).length = l.length ∧ (assignEach l env).findIdx? (·.1) = none
  | .nil, l, env, h => by
    cases l with
    | nil => exact ⟨rfl, rfl⟩
    | cons _ _ => cases h
  | .cons p ps, l, env, h => by
    cases l with
    | nil => cases h
    | cons x l =>
      obtain ⟨h1, h2⟩ := two h
      obtain ⟨h2, h3⟩ := two h2
      obtain ⟨q1, q2⟩ := asg_len (env := env) h3
      rw [asg_of h1]
      refine ⟨by simp [q1], ?_⟩
      rw [List.findIdx?_cons, q2]
      rfl
theorem len_ps : ∀ {ps : Pts} {l : List Expr}, mPs cf ps l = true → l.length = ps.len
  | .nil, l, h => by
    cases l with
    | nil => rfl
    | cons _ _ => cases h
  | .cons p ps, l, h => by
    cases l with
    | nil => cases h
    | cons x l =>
      obtain ⟨h1, h2⟩ := two h
      obtain ⟨h2, h3⟩ := two h2
      show l.length + 1 = ps.len + 1
      rw [len_ps h3]
mutual
theorem Pt.sound (g : Good cf et call k X W) : ∀ (p : Pt) (e : Expr), mP cf p e = true → PG X e (tG et X.K (Pt.put call sub w none p))
  | .v i, e, h => by
    cases e <;> try (cases h; done)
    rename_i x pos
    obtain ⟨q1, q2, q3, q4⟩ := g.loc h
    refine ⟨fun pins s σ H v u Q I r ⟨m, sl, hh, c, rl, rs, rv, p⟩ => (pg_name q4 q1 q2 (.inr q3)).run pins s σ H v u Q I r ?_⟩
    exact p m H (σ.set i (some v)) Ext.refl rl (rs.set i rv)
  | .sub o i, e, h => by
    cases e <;> try (cases h; done)
    rename_i l r pos
    obtain ⟨h1, h2⟩ := two h
    obtain ⟨h2, h3⟩ := two h2
    have hs : ∀ v, assign (.Subscript l r pos) X.env v = (do
      let ov ← holding [v] (eval l X.env)
      let iv ← holding [v, ov] (eval r X.env)
      standAt pos
      holding [v, ov, iv] (setItem ov iv v)
      release [v, ov, iv] []) := fun v => by cases r <;> first | rfl | cases h1
    refine ⟨fun pins s σ H v u Q I r' ⟨m, sl, hh, c, rl, rs, rv, p⟩ => (pg_sub (E.sound (sub := sub) (w := w) g o l h2) (E.sound (sub := sub) (w := w) g i r h3) set_list hs).run pins s σ H v u Q I r' ?_⟩
    have p : Post et X.K (fun _ _ _ => False) m H (relS X.K) Q (((E.ev call sub w none o sl hh).noerr).bind fun x h1 => ((E.ev call sub w none i sl h1).noerr).bind fun y h2 => (setitem x y c h2).bind fun _ h3 => .ok sl h3) := p
    refine ⟨m, sl, hh, rl, rs, Post.noerr (Post.bind p fun x hx e1 m1 H1 v1 x1 rl1 rv1 p1 => ?_)⟩
    refine ⟨m1, sl, hx, rl1, rs.ext x1, Post.noerr (Post.bind p1 fun y hy e2 m2 H2 v2 x2 rl2 rv2 p2 => ?_)⟩
    refine setitem_ok (et := et) (W := fun _ _ _ => False) m2 H2 hy x y c v1 v2 v _ rl2 (RV.ext x2 rv1) rv2 (RV.ext x2 (RV.ext x1 rv)) ?_
    exact Post.bind p2 fun _ hz e3 m3 H3 _ x3 rl3 _ p3 => p3 m3 H3 σ Ext.refl rl3 (((rs.ext x1).ext x2).ext x3)
  | .tup ps, e, h => by
    cases e <;> try (cases h; done)
    rename_i l kk pos
    have ih := Pts.sound g ps l h
    obtain ⟨q1, q2⟩ := asg_len (env := X.env) h
    refine ⟨fun pins s σ H v u Q I r ⟨m, sl, hh, c, rl, rs, rv, p⟩ => (pg_tup (n := l.length) g.calm ih q1 q2).run pins s σ H v u Q I r ?_⟩
    cases c <;> try (exact False.elim p)
    rename_i cs
    obtain ⟨a, vs, rfl, e2, e3⟩ := rv
    have p : Post et X.K (fun _ _ _ => False) m H (relS X.K) Q (if cs.length = ps.len then Pts.put call sub w none ps cs sl hh else .bad) := p
    split at p
    · rename_i hl
      exact ⟨a, vs, rfl, e2, by rw [← e3.length, len_ps h]; exact hl, m, sl, hh, cs, rl, rs, e3, p⟩
    · exact p.elim
theorem Pts.sound (g : Good cf et call k X W) : ∀ (p : Pts) (l : List Expr), mPs cf p l = true → PGs X l (tGs et X.K (Pts.put call sub w none p))
  | .nil, l, h => by
    cases l with
    | cons _ _ => cases h
    | nil =>
      refine ⟨fun pins s σ H vs us Q I r ⟨m, sl, hh, cs, rl, rs, rv, p⟩ => pgs_nil.run pins s σ H vs us Q I r ?_⟩
      cases cs with
      | nil =>
        cases rv
        exact ⟨rfl, p m H σ Ext.refl rl rs⟩
      | cons _ _ => exact False.elim p
  | .cons pt ps, l, h => by
    cases l with
    | nil => cases h
    | cons x l =>
      obtain ⟨h1, h2⟩ := two h
      obtain ⟨h2, h3⟩ := two h2
      have hp := Pt.sound g pt x h2
      have hps := Pts.sound g ps l h3
      refine ⟨fun pins s σ H vs us Q I r ⟨m, sl, hh, cs, rl, rs, rv, p⟩ => (pgs_cons hp hps (by rw [asg_of h1]; rfl)).run pins s σ H vs us Q I r ?_⟩
      cases cs with
      | nil => exact False.elim p
      | cons c cs =>
        obtain ⟨v, t, rfl, r1, r2⟩ := rv
        have p : Post et X.K (fun _ _ _ => False) m H (relS X.K) Q ((Pt.put call sub w none pt c sl hh).bind fun sl1 h1 => Pts.put call sub w none ps cs sl1 h1) := p
        exact ⟨v, t, rfl, m, sl, hh, c, rl, rs, r1, Post.bind p fun sl1 h1' e1 m1 H1 σ1 x1 rl1 rs1 p1 => ⟨m1, sl1, h1', cs, rl1, rs1, r2.ext x1, p1⟩⟩
end
end
end Sh
set_option Elab.async false
set_option linter.all false
set_option autoImplicit false
set_option maxRecDepth 100000
set_option maxHeartbeats 8000000
/-! Sh, part J: what is walked; loops. -/
namespace Sh
open PySem PySem.Spec PyProof.Rows L2

/-- the layer's iterator does as the plain one, from now on -/
def JRel (K : PySem.W.Frag) (m : List Addr) (H : Hp) (it : ItV) (J : L2.It) : Prop :=
  ∀ (i : Nat) (m' : List Addr) (h' : Hc) (H' : Hp), Ext K m H m' H' → Rl K m' h' H' →
    (it.at_ i h' = some none → J.stop i H') ∧ ∀ c, it.at_ i h' = some (some c) → J.go i H' ∧ ∀ x H2, J.yld i H' x H2 → ∃ m2, Ext K m' H' m2 H2 ∧ Rl K m2 h' H2 ∧ RV K m2 H2 c x
def relJ (K : PySem.W.Frag) : List Addr → Hp → ItV → L2.It → Prop := fun m H it J => JRel K m H it J
def tI (et : ETab) (K : PySem.W.Frag) (W : WX) (f : Sl → Hc → R ItV) : TI := fun σ H R => ∃ m sl h, Rl K m h H ∧ RS K m H sl σ ∧ Post et K (fun c d H' => W c d σ H') m H (relJ K) R (f sl h)
theorem JRel.ext {K : PySem.W.Frag} {m m' : List Addr} {H H' : Hp} {it : ItV} {J : L2.It} (j : JRel K m H it J) (e : Ext K m H m' H') : JRel K m' H' it J := fun i m2 h2 H2 x rl => j i m2 h2 H2 (e.trans x) rl

section
variable {X : Cx} {tg : Expr} {et : ETab} {W : WX}
def iSeq (K : PySem.W.Frag) (tl : TE) : TI := fun σ H R => tl σ H fun x H1 => (∃ a, x = .ref a ∧ (∃ xs, SqL K H1 a xs) ∧ R (Itl K a) H1) ∨ ∃ a, x = .ref a ∧ (∃ xs, SqT K H1 a xs) ∧ R (Itt K a) H1
theorem pi_seq {l : Expr} {tl : TE} (hl : PE X l tl) : PI X tg l (iSeq X.K tl) := by
  refine ⟨fun pins s σ H R I h => ?_⟩
  refine thn (hl.run pins s σ H _ I h) fun v s1 ⟨x, H1, I1, r1, q1⟩ => ?_
  rcases q1 with ⟨a, e, ⟨xs, hq⟩, q⟩ | ⟨a, e, ⟨xs, hq⟩, q⟩
  · subst e
    cases r1
    obtain ⟨its, rv, p, hz⟩ := I1.list hq
    refine wpAny_pyIter_list p.isList ?_
    refine ⟨s1.heap.objs.size, [s1.heap.objs.size], _, _, H1, rfl, I1.kept (t' := s1.toks) fun b o e => Heap.get?_push_of_some _ e, turn_list a _, ⟨_, Heap.get?_push_size _ rfl, rfl, rfl⟩, fun b hb => ?_, q⟩
    have e : b = s1.heap.objs.size := by simpa using hb
    subst e
    exact I1.fpOk (Nat.le_refl _) (I1.hok.fresh (Nat.le_refl _))
  · subst e
    cases r1
    obtain ⟨its, rv, p, hz⟩ := I1.tuple hq
    refine wpAny_pyIter_tuple (show s1.heap.IsTuple a its.toArray from p) ?_
    refine ⟨s1.heap.objs.size, [s1.heap.objs.size], _, _, H1, rfl, I1.kept (t' := s1.toks) fun b o e => Heap.get?_push_of_some _ e, turn_tuple a _, ⟨_, Heap.get?_push_size _ rfl, rfl, rfl⟩, fun b hb => ?_, q⟩
    have e : b = s1.heap.objs.size := by simpa using hb
    subst e
    exact I1.fpOk (Nat.le_refl _) (I1.hok.fresh (Nat.le_refl _))
theorem jr_lst {m : List Addr} {H : Hp} {n : Nat} {a : Addr} (hm : m[n]? = some a) : JRel X.K m H (.lst n) (Itl X.K a) := by
  intro i m' h' H' e rl
  have hm' := e.pre _ _ hm
  obtain ⟨cs, vs, hc, hv, rv⟩ := rl.get hm'
  have at_ : ItV.at_ (.lst n) i h' = some cs[i]? := by
    show (match h'[n]? with | some cs => some cs[i]? | none => none) = _
    rw [hc]
  rw [at_]
  constructor
  · intro z
    have z' : cs[i]? = none := Option.some.inj z
    exact ⟨vs, SqL.of hv, by rw [← rv.length]; exact List.getElem?_eq_none_iff.mp z'⟩
  · intro c z
    have z' : cs[i]? = some c := Option.some.inj z
    obtain ⟨w, w1, w2⟩ := rv.get z'
    refine ⟨⟨vs, w, SqL.of hv, w1⟩, fun x H2 y => ?_⟩
    obtain ⟨rfl, y⟩ := y
    have := (y vs (SqL.of hv)).symm.trans w1
    cases this
    exact ⟨m', Ext.refl, rl, w2⟩
theorem jr_tre {m : List Addr} {H : Hp} {cs : List C} {vs : List V} {a : Addr} (ht : SqT X.K H a vs) (rv : RVs X.K m H cs vs) : JRel X.K m H (.tre cs) (Itt X.K a) := by
  intro i m' h' H' e rl
  have ht' := e.tu _ _ ht
  have rv' := rv.ext e
  have at_ : ItV.at_ (.tre cs) i h' = some cs[i]? := rfl
  rw [at_]
  constructor
  · intro z
    have z' : cs[i]? = none := Option.some.inj z
    exact ⟨vs, ht', by rw [← rv'.length]; exact List.getElem?_eq_none_iff.mp z'⟩
  · intro c z
    have z' : cs[i]? = some c := Option.some.inj z
    obtain ⟨w, w1, w2⟩ := rv'.get z'
    refine ⟨⟨vs, w, ht', w1⟩, fun x H2 y => ?_⟩
    obtain ⟨rfl, y⟩ := y
    have := (y vs ht').symm.trans w1
    cases this
    exact ⟨m', Ext.refl, rl, w2⟩
theorem jr_rng {m : List Addr} {H : Hp} {lo : Int} {n : Nat} : JRel X.K m H (.rng lo n) (Itr lo n) := by
  intro i m' h' H' e rl
  have at_ : ItV.at_ (.rng lo n) i h' = if i < n then some (some (.int (lo + i))) else some none := rfl
  rw [at_]
  by_cases hi : i < n
  · rw [if_pos hi]
    refine ⟨fun z => (by cases z), fun c z => ?_⟩
    cases z
    refine ⟨hi, fun x H2 y => ?_⟩
    obtain ⟨rfl, rfl⟩ := y
    exact ⟨m', Ext.refl, rl, rfl⟩
  · rw [if_neg hi]
    exact ⟨fun _ => Nat.le_of_not_lt hi, fun c z => by cases z⟩
end

section
variable {cf : Cfg} {et : ETab} {call : Nat → List C → Hc → R C} {sub : Nat → Str → Option Bool} {w : Nat} {k : Nat} {X : Cx} {W : WX}
def mI (cf : Cfg) : It → Expr → Bool
  | .seq a => fun e => mE cf a e
  | .rng1 a => fun e => match e with
    | .Call fn args kws _ => match fn with
      | .Name x _ => match args with
        | [l] => kws.isEmpty && decide (x = "range") && freeB cf x && noStar l && mE cf a l
        | _ => false
      | _ => false
    | _ => false
  | .rng2 a b => fun e => match e with
    | .Call fn args kws _ => match fn with
      | .Name x _ => match args with
        | [l, r] => kws.isEmpty && decide (x = "range") && freeB cf x && noStar l && noStar r && (mE cf a l && mE cf b r)
        | _ => false
      | _ => false
    | _ => false
  | _ => fun _ => false
theorem It.sound (g : Good cf et call k X W) (tg : Expr) : ∀ (it : Sh.It) (e : Expr), mI cf it e = true → PI X tg e (tI et X.K W (It.ev call sub w none it))
  | .seq a, e, h => by
    refine ⟨fun pins s σ H R I ⟨m, sl, hh, rl, rs, p⟩ => (pi_seq (E.sound (sub := sub) (w := w) g a e h)).run pins s σ H R I ⟨m, sl, hh, rl, rs, ?_⟩⟩
    refine Post.bind (f := fun x h1 => show Sh.R ItV from match x with
      | .ref n => .ok (ItV.lst n) h1
      | .tup cs => .ok (ItV.tre cs) h1
      | _ => .bad) p fun x h1 e1 m1 H1 v x1 rl1 rv1 p1 => ?_
    cases x with
    | ref n =>
      obtain ⟨a, q1, rfl⟩ := rv1
      obtain ⟨cs, vs, _, hv, _⟩ := rl1.get q1
      exact .inl ⟨a, rfl, ⟨vs, SqL.of hv⟩, p1 m1 H1 _ Ext.refl rl1 (jr_lst q1)⟩
    | tup cs =>
      obtain ⟨a, vs, rfl, e2, e3⟩ := rv1
      exact .inr ⟨a, rfl, ⟨vs, e2⟩, p1 m1 H1 _ Ext.refl rl1 (jr_tre e2 e3)⟩
    | non => exact False.elim p1
    | bl _ => exact False.elim p1
    | int _ => exact False.elim p1
    | str _ => exact False.elim p1
    | frz _ => exact False.elim p1
    | rep _ => exact False.elim p1
  | .rng1 a, e, h => by
    cases e <;> try (cases h; done)
    rename_i fn args kws pos
    cases fn <;> try (cases h; done)
    rename_i x p
    match args, h with
    | [], h => cases h
    | _ :: _ :: _, h => cases h
    | [l], h =>
      obtain ⟨h, h5⟩ := two h
      obtain ⟨h, h4⟩ := two h
      obtain ⟨h, h3⟩ := two h
      obtain ⟨h1, h2⟩ := two h
      have := of_decide_eq_true h2
      subst this
      obtain ⟨f1, f2, f3, f4⟩ := g.free h3
      cases kws with
      | cons _ _ => cases h1
      | nil =>
        have hA : PA X [l] (tCons (tE et X.K W (E.ev call sub w none a)) tNil) := pa_cons (E.sound g a l h5) pa_nil (star_of h4)
        refine ⟨fun pins s σ H R I ⟨m, sl, hh, rl, rs, p⟩ => (pi_range1 f1 f2 hA (star_of h4)).run pins s σ H R I ⟨m, sl, hh, rl, rs, ?_⟩⟩
        refine Post.bind (f := fun x h1 => show Sh.R ItV from match x with
          | .int j => if -1000000000 < j ∧ j < 1000000000 then .ok (ItV.rng 0 j.toNat) h1 else .bad
          | _ => .bad) p fun x h1 e1 m1 H1 v x1 rl1 rv1 p1 => ?_
        cases x with
        | int j =>
          cases rv1
          dsimp only at p1
          split at p1
          · rename_i hj
            exact ⟨j, rfl, by omega, by omega, p1 m1 H1 _ Ext.refl rl1 jr_rng⟩
          · exact False.elim p1
        | non => exact False.elim p1
        | bl _ => exact False.elim p1
        | str _ => exact False.elim p1
        | tup _ => exact False.elim p1
        | ref _ => exact False.elim p1
        | frz _ => exact False.elim p1
        | rep _ => exact False.elim p1
  | .rng2 a b, e, h => by
    cases e <;> try (cases h; done)
    rename_i fn args kws pos
    cases fn <;> try (cases h; done)
    rename_i x p
    match args, h with
    | [], h => cases h
    | [_], h => cases h
    | _ :: _ :: _ :: _, h => cases h
    | [l, r], h =>
      obtain ⟨h, h6⟩ := two h
      obtain ⟨h, h5⟩ := two h
      obtain ⟨h, h4⟩ := two h
      obtain ⟨h, h3⟩ := two h
      obtain ⟨h1, h2⟩ := two h
      obtain ⟨h6, h7⟩ := two h6
      have := of_decide_eq_true h2
      subst this
      obtain ⟨f1, f2, f3, f4⟩ := g.free h3
      cases kws with
      | cons _ _ => cases h1
      | nil =>
        have hA : PA X [l, r] (tCons (tE et X.K W (E.ev call sub w none a)) (tCons (tE et X.K W (E.ev call sub w none b)) tNil)) := pa_cons (E.sound g a l h6) (pa_cons (E.sound g b r h7) pa_nil (star_of h5)) (star_of h4)
        refine ⟨fun pins s σ H R I ⟨m, sl, hh, rl, rs, p⟩ => (pi_range2 f1 f2 hA (by rw [star_of h4, star_of h5]; rfl) (star_of h5)).run pins s σ H R I ⟨m, sl, hh, rl, rs, ?_⟩⟩
        refine Post.bind (f := fun x h1 => (E.ev call sub w none b sl h1).bind fun y h2 => match x, y with
          | .int i, .int j => if -1000000 < i ∧ i < 1000000 ∧ -1000000 < j ∧ j < 1000000 then .ok (ItV.rng i (j - i).toNat) h2 else .bad
          | _, _ => .bad) p fun x h1 e1 m1 H1 v x1 rl1 rv1 p1 => ?_
        refine ⟨m1, sl, h1, rl1, rs.ext x1, Post.bind p1 fun y h2 e2 m2 H2 u x2 rl2 rv2 p2 => ?_⟩
        have rv1' := RV.ext x2 rv1
        cases x <;> cases y <;> try (exact False.elim p2)
        rename_i i j
        cases rv1'
        cases rv2
        dsimp only at p2
        split at p2
        · rename_i hj
          exact ⟨i, j, rfl, ⟨by omega, by omega, by omega, by omega⟩, p2 m2 H2 _ Ext.refl rl2 jr_rng⟩
        · exact False.elim p2
  | .rng3 _ _ _, e, h => by cases h
  | .enum _, e, h => by cases h
  | .zip _ _, e, h => by cases h
  | .rev _, e, h => by cases h
  | .revr _, e, h => by cases h

/-! ### loops -/
theorem sS_while {c : Expr} {body : List Stmt} {pos : Pos} {ft : Sl → Hc → R Bool} {fb : Sl → Hc → RS'} (hp : PassesOwn (model X.prog X.w) X.A X.env X.xe) (hc : PT X c (tT et X.K W ft)) (hb : PSs X body (tS et X.K W fb)) :
    PS X (.While c body [] pos) (tS et X.K W fun sl h => whileF ft fb w sl h) := by
  refine (ps_while hp hc hb).imp fun D σ H ⟨m, sl, h, rl, rs, p⟩ => ?_
  refine ⟨fun n σ H => ∃ m sl h, Rl X.K m h H ∧ RS X.K m H sl σ ∧ PostS et X.K W D m H (whileF ft fb n sl h), ⟨w, m, sl, h, rl, rs, p⟩, ?_⟩
  rintro n σ H ⟨m, sl, h, rl, rs, p⟩
  cases n with
  | zero => exact False.elim p
  | succ n =>
    have p : PostS et X.K W D m H ((ft sl h).th sl fun k h1 => if k then
      (match fb sl h1 with
        | .nx sl2 h2 => whileF ft fb n sl2 h2
        | .ct sl2 h2 => whileF ft fb n sl2 h2
        | .bk sl2 h2 => .nx sl2 h2
        | r => r)
      else .nx sl h1) := p
    refine ⟨m, sl, h, rl, rs, PostS.th p rs fun k h1 e1 m1 H1 v x1 rl1 rv1 p1 => ?_⟩
    cases rv1
    cases k with
    | false =>
      rw [if_neg Bool.false_ne_true]
      exact p1 m1 H1 σ Ext.refl rl1 (rs.ext x1)
    | true =>
      rw [if_pos rfl]
      have p1 : PostS et X.K W D m1 H1 (match fb sl h1 with
        | .nx sl2 h2 => whileF ft fb n sl2 h2
        | .ct sl2 h2 => whileF ft fb n sl2 h2
        | .bk sl2 h2 => .nx sl2 h2
        | r => r) := p1
      refine ⟨fun σ' H' => ∃ m sl h, Rl X.K m h H' ∧ RS X.K m H' sl σ' ∧ PostS et X.K W D m H' (whileF ft fb n sl h), fun σ' H' q => ⟨n, Nat.lt_succ_self n, q⟩, m1, sl, h1, rl1, rs.ext x1, ?_⟩
      cases q : fb sl h1 with
      | nx sl2 h2 => rw [q] at p1; exact fun m2 H2 σ2 x2 rl2 rs2 => ⟨m2, sl2, h2, rl2, rs2, PostS.ext p1 x2⟩
      | ct sl2 h2 => rw [q] at p1; exact fun m2 H2 σ2 x2 rl2 rs2 => ⟨m2, sl2, h2, rl2, rs2, PostS.ext p1 x2⟩
      | bk sl2 h2 => rw [q] at p1; exact p1
      | ret c h2 => rw [q] at p1; exact p1
      | err k xs sl2 h2 => rw [q] at p1; exact p1
      | bad => rw [q] at p1; exact p1
theorem sS_for {tg iter : Expr} {body : List Stmt} {pos : Pos} {fi : Sl → Hc → R ItV} {fg : C → Sl → Hc → R Sl} {fb : Sl → Hc → RS'} (hp : PassesOwn (model X.prog X.w) X.A X.env X.xe) (hcalm : X.calm = true) (hi : PI X tg iter (tI et X.K W fi)) (hg : PG X tg (tG et X.K fg)) (hb : PSs X body (tS et X.K W fb))
    (hs : ∀ x, foldedSetIterable iter X.env x = pure x) : PS X (.For tg iter body [] pos) (tS et X.K W fun sl h => (fi sl h).th sl fun v h1 => forF v fg fb w 0 sl h1) := by
  refine (ps_for hp hcalm hi hg hb hs).imp fun D σ H ⟨m, sl, h, rl, rs, p⟩ => ?_
  refine ⟨m, sl, h, rl, rs, PostS.th p rs fun it h1 e1 m1 H1 J x1 rl1 j1 p1 => ?_⟩
  refine ⟨fun i n σ H => ∃ m sl h, Rl X.K m h H ∧ RS X.K m H sl σ ∧ JRel X.K m H it J ∧ PostS et X.K W D m H (forF it fg fb n i sl h), ⟨w, m1, sl, h1, rl1, rs.ext x1, j1, p1⟩, ?_⟩
  rintro i n σ H ⟨m, sl, h, rl, rs, j, p⟩
  cases n with
  | zero => exact False.elim p
  | succ n =>
    have p : PostS et X.K W D m H (match it.at_ i h with
      | none => .bad
      | some none => .nx sl h
      | some (some c) => (fg c sl h).noerr.th sl fun sl1 h1 => match fb sl1 h1 with
        | .nx sl2 h2 => forF it fg fb n (i + 1) sl2 h2
        | .ct sl2 h2 => forF it fg fb n (i + 1) sl2 h2
        | .bk sl2 h2 => .nx sl2 h2
        | r => r) := p
    obtain ⟨j1, j2⟩ := j i m h H Ext.refl rl
    cases q : it.at_ i h with
    | none => rw [q] at p; exact False.elim p
    | some o =>
      cases o with
      | none =>
        rw [q] at p
        exact .inl ⟨j1 q, p m H σ Ext.refl rl rs⟩
      | some c =>
        rw [q] at p
        obtain ⟨go, yl⟩ := j2 c q
        refine .inr ⟨go, fun σ' H' => ∃ m sl h, Rl X.K m h H' ∧ RS X.K m H' sl σ' ∧ JRel X.K m H' it J ∧ PostS et X.K W D m H' (forF it fg fb n (i + 1) sl h), fun σ' H' q => ⟨n, Nat.lt_succ_self n, q⟩, fun x H2 y => ?_⟩
        obtain ⟨m2, x2, rl2, rv2⟩ := yl x H2 y
        have p2 := PostS.ext p x2
        refine ⟨m2, sl, h, c, rl2, rs.ext x2, rv2, ?_⟩
        have p2 : PostS et X.K W D m2 H2 ((fg c sl h).noerr.th sl fun sl1 h1 => match fb sl1 h1 with
          | .nx sl2 h2 => forF it fg fb n (i + 1) sl2 h2
          | .ct sl2 h2 => forF it fg fb n (i + 1) sl2 h2
          | .bk sl2 h2 => .nx sl2 h2
          | r => r) := p2
        cases qg : fg c sl h with
        | err _ _ _ => rw [qg] at p2; exact False.elim p2
        | bad => rw [qg] at p2; exact False.elim p2
        | ok sl1 h1 =>
          rw [qg] at p2
          intro m3 H3 σ3 x3 rl3 rs3
          refine ⟨m3, sl1, h1, rl3, rs3, ?_⟩
          have p3 : PostS et X.K W D m2 H2 (match fb sl1 h1 with
            | .nx sl2 h2 => forF it fg fb n (i + 1) sl2 h2
            | .ct sl2 h2 => forF it fg fb n (i + 1) sl2 h2
            | .bk sl2 h2 => .nx sl2 h2
            | r => r) := p2
          have p3 := PostS.ext p3 x3
          have j3 : ∀ {m4 : List Addr} {H4 : Hp}, Ext X.K m3 H3 m4 H4 → JRel X.K m4 H4 it J := fun x4 => ((j.ext x2).ext x3).ext x4
          cases qb : fb sl1 h1 with
          | nx sl2 h2 => rw [qb] at p3; exact fun m4 H4 σ4 x4 rl4 rs4 => ⟨m4, sl2, h2, rl4, rs4, j3 x4, PostS.ext p3 x4⟩
          | ct sl2 h2 => rw [qb] at p3; exact fun m4 H4 σ4 x4 rl4 rs4 => ⟨m4, sl2, h2, rl4, rs4, j3 x4, PostS.ext p3 x4⟩
          | bk sl2 h2 => rw [qb] at p3; exact p3
          | ret c h2 => rw [qb] at p3; exact p3
          | err k xs sl2 h2 => rw [qb] at p3; exact p3
          | bad => rw [qb] at p3; exact p3
end
end Sh
set_option Elab.async false
set_option linter.all false
set_option autoImplicit false
set_option maxRecDepth 100000
set_option maxHeartbeats 8000000
/-! Sh, part K: exceptions: made, caught by several named clauses, what a clause tells of them. -/
namespace Sh
open PySem PySem.Spec PyProof.Rows L2

/-! ### several clauses, each with a name -/
def wAsM (K : PySem.W.Frag) (Wout : WX) (D : Ends) : List (Value × Nat × (Addr → Value → Option Addr → TS)) → WX
  | [] => Wout
  | (c, i, ts) :: r => fun cls d σ H => ∃ b, PySem.W.exmOne K cls c = some b ∧
    (b = true → ∀ a, H a = none → ts a cls d { nx := fun σ' H' => D.nx (σ'.set i none) H', rt := D.rt, bk := fun σ' H' => D.bk (σ'.set i none) H', ct := fun σ' H' => D.ct (σ'.set i none) H' } (σ.set i (some (.ref a))) H) ∧
    (b = false → wAsM K Wout D r cls d σ H)
inductive HdsAs (X : Cx) : List ExceptHandler → List (Value × Nat × (Addr → Value → Option Addr → TS)) → Prop
  | nil : HdsAs X [] []
  | cons {x n : Str} {c : Value} {i : Nat} {ts : Addr → Value → Option Addr → TS} {b₀ : Stmt} {suite : List Stmt} {np pos' : Pos} {hds : List ExceptHandler} {l : List (Value × Nat × (Addr → Value → Option Addr → TS))} (hi : X.N[i]? = some n) (hln : X.env.kindOf n = some .local) (hc : Names X x c)
      (hsu : ∀ (a : Addr) (oe : Obj) (cls : Value) (d : Option Addr) (pn : List (Addr × Obj)), Zc cls d oe → (∃ vs, oe.data = .fields vs) → PSs (X.suite a ((a, oe) :: pn)) (b₀ :: suite) (ts a cls d)) (r : HdsAs X hds l) :
      HdsAs X (.ExceptHandler (some (.Name x np)) (some n) (b₀ :: suite) pos' :: hds) ((c, i, ts) :: l)
section
variable {X : Cx} {body : List Stmt} {h₀ : ExceptHandler} {hds : List ExceptHandler} {l : List (Value × Nat × (Addr → Value → Option Addr → TS))} {pos : Pos} {tb : WX → TS} {Wout : WX}
theorem ps_try_asm (hs : X.stack = X.env :: X.outer) (hf : X.env.frame = some X.env.locals) (hN : X.N.Nodup) (tk : Takes X Wout)
    (hb : ∀ (W : WX) (pn : List (Addr × Obj)) (xe : Value → Shared → Prop), Takes (X.tr pn xe) W → PassesOwn (model X.prog X.w) X.A X.env xe → PSs (X.tr pn xe) body (tb W))
    (hh : HdsAs X (h₀ :: hds) l) : PS X (.Try body (h₀ :: hds) [] [] pos) (fun D σ H => tb (wAsM X.K Wout D l) D σ H) := by
  refine ⟨fun pins s σ H D I h => ?_⟩
  have ok := I.ok
  have hfr : X.A.frames = some (X.env :: X.outer) := by rw [ok.frames, hs]
  refine wpAny_Try_except ?_
  refine wpAny_mono ((hb (wAsM X.K Wout D l) (X.pn ++ pins) (fun e s₁ => wpAny (model X.prog X.w) X.A (noteFrame e X.env) (fun _ s₂ => wpAny (model X.prog X.w) X.A (setFlight e none) (fun _ s₃ =>
    wpAny (model X.prog X.w) X.A (handleBy e X.env (h₀ :: hds)) (SP X pins D) X.xe s₃) X.xe s₂) X.xe s₁) (fun u s' xx => ?_) PassesOwn.looking).run [] s σ H D (I.toTry _) h) (fun f s1 hsp => ?_) (fun e s1 he => he)
  · -- the catch
    obtain ⟨a, B, sI, pins', σ', H', cls, d, rfl, J', nb, up, sky, na, os, ag, w⟩ := xx
    have J : Inv X pins σ' H' sI := J'.ofTry ok
    have sky' : Sky B (X.env :: X.outer) a (Zc cls d) X.env.locals s'.heap := by rw [← hs]; exact sky
    show wpAny (model X.prog X.w) X.A (noteFrame (.ref a) X.env) _ _ _
    refine Sky.land Zc.steady hfr hf sky' fun h3 fl3 up3 => ?_
    have J3 : Inv X pins σ' H' { s' with heap := h3 } := J.landed nb fl3.1 (up.trans up3) os ag
    obtain ⟨oe3, vs3, he3, hz3, hd3⟩ := fl3.there
    have notFr : ∀ {h : Heap} {o : Obj} {vs : Array Value}, h.FunFrames B (X.env :: X.outer) → h.get? a = some o → o.data = .fields vs → a ∉ frs (X.env :: X.outer) := fun {h o vs} ff e dd hm => by
      obtain ⟨_, o', e', hnf⟩ := ff.mem hm
      rw [e] at e'; cases e'
      exact hnf _ dd
    have nfr := notFr fl3.2.2.1 he3 hd3
    have nL : a ≠ X.env.locals := fun z => nfr (List.mem_filterMap.mpr ⟨X.env, List.mem_cons_self, by rw [hf, z]⟩)
    have nF : a ∉ X.fs := fun hm => by
      obtain ⟨e, he, q⟩ := List.mem_filterMap.mp hm
      exact nfr (List.mem_filterMap.mpr ⟨e, List.mem_cons_of_mem _ he, q⟩)
    have S3 := J3.suite he3 hd3 na nL nF
    have go : ∀ {hds' : List ExceptHandler} {l' : List (Value × Nat × (Addr → Value → Option Addr → TS))}, HdsAs X hds' l' → wAsM X.K Wout D l' cls d σ' H' →
        wpAny (model X.prog X.w) X.A (handleBy (.ref a) X.env hds') (SP X pins D) X.xe { s' with heap := h3 } := by
      intro hds' l' hk
      induction hk with
      | nil =>
        intro w
        refine wpAny_handleBy_nil ?_
        obtain ⟨k1, k2, k3, oe, vs, T, oT, ts', he, hz, hd, h1, hr⟩ := id fl3
        unfold PySem.passOn
        refine wpAny_bind (wpAny_field he hd h1 ?_)
        rw [if_neg (show ¬ ((Value.ref T == Value.none) = true) from by simp)]
        have fin : wpAny (model X.prog X.w) X.A (setFlight (.ref a) X.env.frame) (fun _ s4 => wpAny (model X.prog X.w) X.A (throw (.ref a) : Sem Flow) (SP X pins D) X.xe s4) X.xe { s' with heap := h3 } := by
          rw [hf]
          refine HandSPX.setFlight_upZ fl3 fun h4 hh4 up4 => wpAny_throw (tk _ _ ?_)
          exact ⟨a, B, sI, pins, σ', H', cls, d, rfl, J, nb, (up.trans up3).trans up4, .inr (.inr (by rw [hs]; exact hh4)), na, os, ag, w⟩
        first
          | exact wpAny_bind (wpAny_pure (wpAny_bind fin))
          | exact wpAny_bind fin
      | @cons x n c i ts b₀ suite np pos' hds2 l2 hi hln hc hsu r ih =>
        intro w
        obtain ⟨b, hb1, hyes, hno⟩ := w
        have hloc : Loc X.env.scope n := .inl hln
        refine wpAny_handleBy_cons (codeAny_handlers_test ?_) (by intro q; cases q)
        have LT : PySem.W.Looks (model X.prog X.w) h3 (typeOf (.ref a)) cls := fun A Q E s k q => wpAny_typeOf_ref (k _ _ he3) (by rw [hz3.1]; exact q)
        have LM := PySem.W.exm_one (M := model X.prog X.w) (J3.kIn) LT hb1
        have test : ∀ {Q : Value → Shared → Prop} {E : Value → Shared → Prop}, Q c { s' with heap := h3 } → wpAny (model X.prog X.w) (X.A.mark (some (.ref a))) (eval (.Name x np) X.env) Q E { s' with heap := h3 } := fun {Q E} q => by
          obtain ⟨hg, hdbg, hm | ⟨hm, hv, hnn⟩⟩ := hc
          · exact ld_glob (X := X.suite a ((a, oe3) :: (X.pn ++ pins))) S3 hg hm q hdbg
          · exact ld_blt (X := X.suite a ((a, oe3) :: (X.pn ++ pins))) S3 hg hm hv q hnn hdbg
        refine test (LM.here ?_)
        cases b with
        | true =>
          refine codeAny_handlers_suite_as ?_
          refine HandSPX.lands_againZ fl3 fun h4 fl4 up4 => ?_
          have J4 : Inv X pins σ' H' { s' with heap := h4 } := J.landed nb fl4.1 ((up.trans up3).trans up4) os ag
          obtain ⟨oe4, vs4, he4, hz4, hd4⟩ := fl4.there
          have S4 := J4.suite he4 hd4 na nL nF
          refine store_ok (X := X.suite a ((a, oe4) :: (X.pn ++ pins))) (v := .ref a) S4 hN hi hloc rfl (fun s5 S5 => ?_) (.inr hln)
          refine wpAny_mono ((hsu a oe4 cls d (X.pn ++ pins) hz4 ⟨_, hd4⟩).run [] s5 _ H' _ S5 (hyes rfl a na)) (fun f s6 hsp => ?_) (fun _ _ z => False.elim z)
          have end_ : ∀ {σ6 : L2.St} {H6 : Hp} {Q : Shared → Prop}, Inv (X.suite a ((a, oe4) :: (X.pn ++ pins))) [] σ6 H6 s6 → (∀ s7, Inv X pins (σ6.set i none) H6 s7 → Q s7) →
              wpAny (model X.prog X.w) X.A (do bindName X.env n .none; unbindBehindTheSuite X.env n pos') (fun _ s7 => Q s7) X.xe s6 := fun {σ6 H6 Q} S6 hq => gone_ok (S6.unsuite ok) hN hi hln hq
          cases f with
          | next =>
            obtain ⟨σ6, H6, S6, q6⟩ := hsp
            exact end_ S6 fun s7 J7 => ⟨_, _, J7, q6⟩
          | brk =>
            obtain ⟨σ6, H6, S6, q6⟩ := hsp
            exact end_ S6 fun s7 J7 => ⟨_, _, J7, q6⟩
          | cont =>
            obtain ⟨σ6, H6, S6, q6⟩ := hsp
            exact end_ S6 fun s7 J7 => ⟨_, _, J7, q6⟩
          | ret u =>
            obtain ⟨v6, σ6, H6, S6, r6, q6⟩ := hsp
            exact end_ S6 fun s7 J7 => ⟨_, _, _, J7, r6, q6⟩
        | false =>
          show wpAny _ X.A (handleBy (.ref a) X.env hds2) _ _ _
          exact ih (hno rfl)
    exact go hh w
  · cases f with
    | next =>
      obtain ⟨σ', H', J', q⟩ := hsp
      exact wpAny_execs_nil ⟨σ', H', J'.ofTry ok, q⟩
    | brk =>
      obtain ⟨σ', H', J', q⟩ := hsp
      exact ⟨σ', H', J'.ofTry ok, q⟩
    | cont =>
      obtain ⟨σ', H', J', q⟩ := hsp
      exact ⟨σ', H', J'.ofTry ok, q⟩
    | ret u =>
      obtain ⟨v, σ', H', J', r, q⟩ := hsp
      exact ⟨v, σ', H', J'.ofTry ok, r, q⟩
end

/-! ### the table of classes -/
structure Cfx where
  cf : Cfg
  ex : List (Str × Nat × Bool)
  hd : List (Str × List Nat)
  fs : List (List Str)
  cl : List Str
/-- what isinstance and the reading of fields ask of an own class of exceptions -/
structure XcC (K : PySem.W.Frag) (C : Addr) : Prop where
  cl : (PySem.W.clsIn K C).isSome = true
  ga : PySem.W.findIn K (.ref C) "__getattribute__" = some (some (.builtin "BaseException.__getattribute__"))
  gg : PySem.W.findIn K (.ref C) "__getattr__" = some none
  su : PySem.W.subIn K (.ref C) (.type "BaseException") = some true
  hd : PySem.W.hasDictIn K C = true
  ha : PySem.W.findIn K (.ref C) "__class__" = some (some (.builtin "object.__class__"))
  hn : PySem.W.specialIn K (.builtin "object.__class__") "__get__" = some (some (.builtin "getset_descriptor.__get__"))
  ht : PySem.W.takesIn K (.builtin "object.__class__") = some true
  hm : PySem.W.mroIn K C (.type "object") = some true
/-- __init__(self, ..): each field is stored -/
def spIni (C : Addr) (f : List Str) : Sp := fun vs H Q E => ∃ a ws, vs = .ref a :: ws ∧ ws.length = f.length ∧ OexC0 C a H ∧
    (∀ dx H2, H dx = none → dx ≠ a → H2 a = some (exo a C (some dx)) → H2 dx = some (exd dx (f.zip ws).reverse) → (∀ b, b ≠ a → b ≠ dx → H2 b = H b) → Q .non H2)
where OexC0 (C a : Addr) (H : Hp) : Prop := H a = some (exo a C none)
/-- where a name of a class stands -/
def ClsAt (mg : Str → Option Value) (x : Str) (c : Value) : Prop := mg x = some c ∨ (mg x = none ∧ bootBuiltins x = some c ∧ x ≠ "__name__")
inductive Mk (P : Program) (w : World) (K : PySem.W.Frag) (mg : Str → Option Value) (base : Heap) (k : Nat) (C : Addr) (f : List Str) : Bool → Prop
  | own (fI : Addr) (fd : FuncData) (T : OexC K C) (iC : PySem.W.findIn K (.ref C) "__init__" = some (some (.ref fI))) (tI : PySem.W.typeIn K (.ref fI) = some (.type "function")) (j : Nat) (hj : j + 1 ≤ k)
      (F : FnOk P w K mg base (L2.CX P w) j fI fd ("self" :: f) (spIni C f)) (hb : Binds K fd ("self" :: f) []) : Mk P w K mg base k C f true
  | bare (bmB : List Value) (B newId initId : String) (F : ExcBaseFacts B newId initId bmB) (q : PySem.W.excIn K C bmB newId = true) (kC : PySem.W.keepIn K (.ref C) = true) (tC : PySem.W.typeIn K (.ref C) = some (.type "type")) (sC : PySem.W.subIn K (.ref C) (.type "BaseException") = some true) (hf : f = []) : Mk P w K mg base k C f false
structure Tab (P : Program) (w : World) (K : PySem.W.Frag) (mg : Str → Option Value) (base : Heap) (k : Nat) (cx : Cfx) (et : ETab) (sub : Nat → Str → Option Bool) : Prop where
  fs : ∀ kk A f, et kk = some (A, f) → cx.fs[kk]? = some f ∧ f.Nodup
  made : ∀ x kk b, cx.ex.contains (x, kk, b) = true → ∃ C f, et kk = some (C, f) ∧ mg x = some (.ref C) ∧ Mk P w K mg base k C f b
  hd : ∀ x ks, cx.hd.contains (x, ks) = true → ∃ c, ClsAt mg x c ∧ ∀ kk A f, et kk = some (A, f) → PySem.W.exmOne K (.ref A) c = some (ks.contains kk)
  isx : ∀ kk A f x b, cx.cl.contains x = true → et kk = some (A, f) → sub kk x = some b → ∃ c, ClsAt mg x c ∧ PySem.W.kitOne K (.ref A) c = some b
  xc : ∀ kk A f, et kk = some (A, f) → XcC K A ∧ ∀ n ∈ f, PySem.W.findIn K (.ref A) n = some none

section
variable {cx : Cfx} {et : ETab} {sub : Nat → Str → Option Bool} {k : Nat} {X : Cx} {W : WX}
/-! ### an exception is made -/
def tMk (et : ETab) (K : PySem.W.Frag) (W : WX) (n : Nat) (fs : Sl → Hc → R (List C)) (kk : Nat) : L2.St → Hp → XK → Prop := fun σ H Q => tA et K W fs σ H fun vs H1 => ∃ m h xs, Rl K m h H1 ∧ RVs K m H1 xs vs ∧ xs.length = n ∧ n ≤ 900 ∧
  ∀ m' H' cls d, Ext K m H1 m' H' → Rl K m' h H' → RX et K m' H' kk xs cls d → Q cls d H'
theorem zip_rel {K : PySem.W.Frag} : True := trivial
theorem mk_own {x : Str} {p pos : Pos} {e : Expr} {es : List Expr} {fs : Sl → Hc → R (List C)} {kk : Nat} {C : Addr} {f : List Str} (hr : Room k X.A) (hk : et kk = some (C, f)) (hm : X.mg x = some (.ref C)) (M : Mk X.prog X.w X.K X.mg X.base k C f true) (hg : Gl X x) (hdb : (x == ("__debug__" : Str)) = false)
    (ha : PA X (e :: es) (tA et X.K W fs)) (he : starEach (e :: es) X.env = (false, eval e X.env) :: starEach es X.env) (hpl : (backTo pos (starEach es X.env)).any (·.1) = false) :
    PMk X (.Call (.Name x p) (e :: es) [] pos) (tMk et X.K W f.length fs kk) := by
  cases M with
  | own fI fd T iC tI j hj F hb =>
    intro pins s σ H Q I q
    refine pmk_oex (ds := []) (dvs := []) T iC tI F (hr.mono hj) hb .nil passL hg hm ha hdb he hpl pins s σ H Q I ?_
    obtain ⟨m, sl, h, rl, rs, q⟩ := q
    refine ⟨m, sl, h, rl, rs, q.imp fun m1 H1 cs vs h1 e1 x1 rl1 rv1 q1 => ?_⟩
    obtain ⟨m2, h2, xs, rl2, rv2, hl, hn, q2⟩ := q1
    refine ⟨by rw [← rv2.length, hl]; omega, fun a na => ?_⟩
    rw [List.append_nil]
    refine ⟨a, vs, rfl, by rw [← rv2.length, hl], upd_same, fun dx H2 n1 n2 e2 e3 e4 => ?_⟩
    have n3 : H1 dx = none := by rw [upd_ne n2] at n1; exact n1
    refine ⟨rfl, dx, _, e2, e3, n3, ?_⟩
    have eq : upd (del H2 a) dx (.xd (f.zip vs).reverse) = upd H1 dx (.xd (f.zip vs).reverse) := by
      funext b
      by_cases hb1 : b = dx
      · rw [hb1, upd_same, upd_same]
      · rw [upd_ne hb1, upd_ne hb1]
        by_cases hb2 : b = a
        · rw [hb2, del_same, na]
        · rw [del_ne hb2, e4 b hb2 hb1, upd_ne hb2]
    rw [eq]
    exact q2 m2 _ _ _ (Ext.new n3) (rl2.new n3) ⟨C, f, vs, hk, rfl, by rw [← rv2.length, hl], rv2.ext (Ext.new n3), .inr ⟨dx, rfl, upd_same, rl2.out n3⟩⟩
theorem mk_bare {x : Str} {p pos : Pos} {kk : Nat} {C : Addr} {f : List Str} (hk : et kk = some (C, f)) (hm : X.mg x = some (.ref C)) (M : Mk X.prog X.w X.K X.mg X.base k C f false) (hg : Gl X x) (hdb : (x == ("__debug__" : Str)) = false) :
    PMk X (.Call (.Name x p) [] [] pos) (fun σ H Q => Q (.ref C) none H) := by
  cases M with
  | bare bmB B newId initId F q kC tC sC hf =>
    intro pins s σ H Q I h
    refine wpAny_Call_Name_kw (ld_glob I hg hm ?_ hdb)
    refine PySem.W.callWith_K0 I.kIn kC ?_
    show wpAny _ _ (call (.ref C) []) _ _ _
    obtain ⟨bm, N, nm, qn, bs, hdct, sn, sub, ab, col, dd, k0, k1, k2, k3, k5, mN, hC, hN, hni, T⟩ := exc_obj I.kIn q
    refine wpAny_call_exc_subT F T hC hN hni (fun h' e hm => ?_) (by show 0 ≤ sizeLine; exact Nat.zero_le _)
    exact mk_of I hm (raises_own sC tC) h (I.hok.gone hm.new)

/-! ### what a clause tells of the exception that it holds -/
structure HotI (et : ETab) (K : PySem.W.Frag) (i : Nat) (a : Addr) (cls : Value) (d : Option Addr) (kk : Nat) (xs : List C) (m : List Addr) (sl : Sl) (h : Hc) (H : Hp) (σ : L2.St) : Prop where
  rl : Rl K m h H
  rs : RS K m H sl σ
  rx : RX et K m H kk xs cls d
  at_ : i < σ.length → σ[i]? = some (some (.ref a))
theorem HotI.ext {et : ETab} {K : PySem.W.Frag} {i : Nat} {a : Addr} {cls : Value} {d : Option Addr} {kk : Nat} {xs : List C} {m m' : List Addr} {sl : Sl} {h h' : Hc} {H H' : Hp} {σ : L2.St} (q : HotI et K i a cls d kk xs m sl h H σ) (e : Ext K m H m' H') (rl : Rl K m' h' H') : HotI et K i a cls d kk xs m' sl h' H' σ :=
  ⟨rl, q.rs.ext e, q.rx.ext e, q.at_⟩
def NX : Value → Option Addr → Hp → Prop := fun _ _ _ => False
def tH (et : ETab) (K : PySem.W.Frag) (i : Nat) (a : Addr) (cls : Value) (d : Option Addr) (kk : Nat) (xs : List C) (f : Sl → Hc → R C) : TE := fun σ H Q => ∃ m sl h, HotI et K i a cls d kk xs m sl h H σ ∧ Post et K NX m H (relV K) Q (f sl h)
def tHA (et : ETab) (K : PySem.W.Frag) (i : Nat) (a : Addr) (cls : Value) (d : Option Addr) (kk : Nat) (xs : List C) (f : Sl → Hc → R (List C)) : TA := fun σ H Q => ∃ m sl h, HotI et K i a cls d kk xs m sl h H σ ∧ Post et K NX m H (relVs K) Q (f sl h)
variable {i kk : Nat} {n : Str} {a : Addr} {cls : Value} {d : Option Addr} {oe : Obj} {pn : List (Addr × Obj)} {xs : List C} {e : Expr} {es : List Expr} {fa : Sl → Hc → R C} {fb : Sl → Hc → R C} {fs : Sl → Hc → R (List C)} {pos : Pos}
theorem h_of (h : PE (X.suite a ((a, oe) :: pn)) e (tE et X.K (fun _ _ _ _ => False) fa)) : PE (X.suite a ((a, oe) :: pn)) e (tH et X.K i a cls d kk xs fa) := h.imp fun σ H Q ⟨m, sl, h, q, p⟩ => ⟨m, sl, h, q.rl, q.rs, p⟩
theorem hA_nil : PA (X.suite a ((a, oe) :: pn)) [] (tHA et X.K i a cls d kk xs fun _ h => .ok [] h) := pa_nil.imp fun σ H Q ⟨m, sl, h, q, p⟩ => p m H [] Ext.refl q.rl rfl
theorem hA_cons (hs : starEach (e :: es) X.env = (false, eval e X.env) :: starEach es X.env) (ha : PE (X.suite a ((a, oe) :: pn)) e (tH et X.K i a cls d kk xs fa)) (hr : PA (X.suite a ((a, oe) :: pn)) es (tHA et X.K i a cls d kk xs fs)) :
    PA (X.suite a ((a, oe) :: pn)) (e :: es) (tHA et X.K i a cls d kk xs fun sl h => (fa sl h).bind fun x h1 => (fs sl h1).bind fun ys h2 => .ok (x :: ys) h2) :=
  (pa_cons ha hr hs).imp fun σ H Q ⟨m, sl, h, q, p⟩ => ⟨m, sl, h, q, p.bind fun x h1 e1 m1 H1 v x1 rl1 rv1 p1 =>
    ⟨m1, sl, h1, q.ext x1 rl1, p1.bind fun ys h2 e2 m2 H2 vs x2 rl2 rv2 p2 => p2 m2 H2 (v :: vs) Ext.refl rl2 ⟨v, vs, rfl, RV.ext x2 rv1, rv2⟩⟩⟩
theorem h_lst (h : PA (X.suite a ((a, oe) :: pn)) es (tHA et X.K i a cls d kk xs fs)) : PE (X.suite a ((a, oe) :: pn)) (.List es pos) (tH et X.K i a cls d kk xs fun sl h => (fs sl h).bind fun xs h1 => if xs.length ≤ lineN then .ok (.ref h1.length) (h1 ++ [xs]) else .bad) :=
  (pe_lst h).imp fun σ H Q ⟨m, sl, h, q, p⟩ => ⟨m, sl, h, q, p.bind fun xs h1 e1 m1 H1 vs x1 rl1 rv1 p1 => by
    have rv1 : RVs X.K m1 H1 xs vs := rv1
    split at p1
    · rename_i hz
      exact ⟨by rw [← rv1.length]; exact line_le hz, fun p' hp => p1 _ _ _ (Ext.newL hp) (rl1.newL hp rv1) (lst_laid rl1)⟩
    · exact False.elim p1⟩
theorem h_and {b : Expr} {rest : List Expr} (ha : PE (X.suite a ((a, oe) :: pn)) e (tH et X.K i a cls d kk xs fa)) (hb : PE (X.suite a ((a, oe) :: pn)) (.BoolOp .And (b :: rest) pos) (tH et X.K i a cls d kk xs fb)) :
    PE (X.suite a ((a, oe) :: pn)) (.BoolOp .And (e :: b :: rest) pos) (tH et X.K i a cls d kk xs fun sl h => (fa sl h).bind fun x h1 => match x with
      | .bl true => fb sl h1
      | .bl false => .ok (.bl false) h1
      | _ => .bad) :=
  (pe_and ha hb).imp fun σ H Q ⟨m, sl, h, q, p⟩ => ⟨m, sl, h, q, p.bind fun x h1 e1 m1 H1 v x1 rl1 rv1 p1 => by
    cases x with
    | bl k =>
      cases rv1
      cases k with
      | true => exact ⟨true, rfl, ⟨m1, sl, h1, q.ext x1 rl1, p1⟩⟩
      | false => exact ⟨false, rfl, p1 m1 H1 _ Ext.refl rl1 rfl⟩
    | non => exact False.elim p1
    | int _ => exact False.elim p1
    | str _ => exact False.elim p1
    | tup _ => exact False.elim p1
    | ref _ => exact False.elim p1
    | frz _ => exact False.elim p1
    | rep _ => exact False.elim p1⟩
/-- the name of the clause -/
theorem h_name {p : Pos} (hi : X.N[i]? = some n) (hln : X.env.kindOf n = some .local) (hd : (n == ("__debug__" : Str)) = false) (hcd : (n == ("__classdict__" : Str)) = false) {R : V → Hp → Prop} {pins : List (Addr × Obj)} {σ : L2.St} {H : Hp} {s : Shared}
    (I : Inv (X.suite a ((a, oe) :: pn)) pins σ H s) (at_ : i < σ.length → σ[i]? = some (some (.ref a))) (q : R (.ref a) H) : wpAny (model X.prog X.w) (X.suite a ((a, oe) :: pn)).A (eval (.Name n p) X.env) (EP (X.suite a ((a, oe) :: pn)) pins σ R) (fun _ _ => False) s := by
  have hl : i < σ.length := by
    rw [I.len]
    exact (List.getElem?_eq_some_iff.mp hi).1
  exact (pe_var (X := X.suite a ((a, oe) :: pn)) (i := i) hi (.inl hln) hd hcd).run pins s σ H R I ⟨_, at_ hl, q⟩
theorem lookup_mem {α : Type} : ∀ {l : List (Str × α)} {f : Str} {v : α}, (l.map (·.1)).Nodup → (f, v) ∈ l → l.lookup f = some v
  | [], f, v, _, h => by cases h
  | (g, u) :: l, f, v, hn, h => by
    rw [List.map_cons, List.nodup_cons] at hn
    rw [List.lookup_cons]
    rcases List.mem_cons.mp h with e | e
    · cases e
      simp
    · have : f ≠ g := by
        rintro rfl
        exact hn.1 (List.mem_map.mpr ⟨_, e, rfl⟩)
      rw [show (f == g) = false from by simpa using this]
      exact lookup_mem hn.2 e
theorem zip_lookup {fs : List Str} {vs : List V} {j : Nat} {f : Str} {v : V} (hn : fs.Nodup) (hl : fs.length = vs.length) (h1 : fs[j]? = some f) (h2 : vs[j]? = some v) : (fs.zip vs).reverse.lookup f = some v := by
  refine lookup_mem ?_ ?_
  · rw [List.map_reverse, List.map_fst_zip (Nat.le_of_eq hl)]
    exact (List.reverse_perm fs).nodup_iff.mpr hn
  · rw [List.mem_reverse]
    refine List.mem_of_getElem? (i := j) ?_
    rw [List.getElem?_zip_eq_some]
    exact ⟨h1, h2⟩
theorem h_fld {j : Nat} {f : Str} {p1 q : Pos} (T : Tab X.prog X.w X.K X.mg X.base k cx et sub) (hz : Zc cls d oe) (hf : ∃ vs, oe.data = .fields vs) (hi : X.N[i]? = some n) (hln : X.env.kindOf n = some .local) (hd : (n == ("__debug__" : Str)) = false) (hcd : (n == ("__classdict__" : Str)) = false)
    (hj : ∀ f', cx.fs[kk]? = some f' → f'[j]? = some f) :
    PE (X.suite a ((a, oe) :: pn)) (.Attribute (.Name n p1) f q) (tH et X.K i a cls d kk xs fun _ h => match xs[j]? with
      | some c => .ok c h
      | none => .bad) := by
  refine ⟨fun pins s σ H Q I ⟨m, sl, h, g, p⟩ => ?_⟩
  obtain ⟨A, fs, vs, h1, h2, h3, h4, h5⟩ := id g.rx
  obtain ⟨f1, f2⟩ := T.fs _ _ _ h1
  obtain ⟨c1, c2⟩ := T.xc _ _ _ h1
  have hj' := hj _ f1
  cases hx : xs[j]? with
  | none =>
    rw [hx] at p
    exact False.elim p
  | some c =>
    rw [hx] at p
    obtain ⟨v, e1, e2⟩ := h4.get hx
    rcases h5 with ⟨h5, _⟩ | ⟨dd, hd1, hd2, hd3⟩
    · rw [h5] at hj'
      cases hj'
    · have he : PE (X.suite a ((a, oe) :: pn)) (.Name n p1) (fun σ H Q => (i < σ.length → σ[i]? = some (some (.ref a))) ∧ Q (.ref a) H) := ⟨fun pins s σ H Q I q => h_name hi hln hd hcd I q.1 q.2⟩
      refine (pe_xf (C := A) ⟨c1.ga, c1.gg, c1.su, c1.hd⟩ (c2 f (List.mem_of_getElem? hj')) hz hf he).run pins s σ H Q I ?_
      exact ⟨g.at_, rfl, h2, dd, _, v, hd1, hd2, zip_lookup f2 h3 hj' e1, p m H v Ext.refl g.rl e2⟩
theorem h_is {x : Str} {p p2 p3 : Pos} (T : Tab X.prog X.w X.K X.mg X.base k cx et sub) (hz : Zc cls d oe) (hf : ∃ vs, oe.data = .fields vs) (hi : X.N[i]? = some n) (hln : X.env.kindOf n = some .local) (hd : (n == ("__debug__" : Str)) = false) (hcd : (n == ("__classdict__" : Str)) = false)
    (hg : Gl X "isinstance") (hm : X.mg "isinstance" = none) (hgx : Gl X x) (hdx : (x == ("__debug__" : Str)) = false) (hcl : cx.cl.contains x = true) :
    PE (X.suite a ((a, oe) :: pn)) (.Call (.Name "isinstance" p3) [.Name n p, .Name x p2] [] pos) (tH et X.K i a cls d kk xs fun _ h => match sub kk x with
      | some b => .ok (.bl b) h
      | none => .bad) := by
  refine ⟨fun pins s σ H Q I ⟨m, sl, h, g, p⟩ => ?_⟩
  obtain ⟨A, fs, vs, h1, h2, h3, h4, h5⟩ := id g.rx
  subst h2
  obtain ⟨c1, c2⟩ := T.xc _ _ _ h1
  cases hx : sub kk x with
  | none =>
    rw [hx] at p
    exact False.elim p
  | some b =>
    rw [hx] at p
    obtain ⟨c, k1, k2⟩ := T.isx _ _ _ _ _ hcl h1 hx
    refine wpAny_Call_Name_kw (ld_blt I hg hm PyProof.Rows.boot_isinstance ?_ (by decide) (by decide))
    refine PyProof.Rows.callWith_builtin1 (args_cons (thn (h_name (R := fun x H' => x = .ref a ∧ H' = H) hi hln hd hcd I g.at_ ⟨rfl, rfl⟩) fun u s1 ⟨x1, H1, I1, r1, e1, e2⟩ => ?_) rfl) rfl rfl
    subst e1
    subst e2
    obtain rfl : u = Value.ref a := r1
    refine args_cons ?_ rfl
    have fin : ∀ (s2 : Shared), Inv (X.suite a ((a, oe) :: pn)) pins σ H1 s2 → wpAny (model X.prog X.w) (X.suite a ((a, oe) :: pn)).A (call (.builtin "isinstance") [.ref a, c]) (EP (X.suite a ((a, oe) :: pn)) pins σ Q) (fun _ _ => False) s2 := fun s2 I2 => by
      obtain ⟨hget, _⟩ := I2.pin (a, oe) (List.mem_append.mpr (.inl List.mem_cons_self))
      obtain ⟨vs', hv⟩ := hf
      have J : ∃ od, PySem.W.InstAt s2.heap a oe A od := by
        rcases h5 with ⟨_, h5⟩ | ⟨dd, hd1, hd2, hd3⟩
        · exact ⟨none, hget, hz.1, by unfold PySem.W.notCls; rw [hv] <;> rfl, by rw [hz.2, h5]; trivial⟩
        · obtain ⟨mA, hns, hr⟩ := (I2.hok dd _ hd2 : ObjOk X.prog X.w H1 s2.heap dd (.xd (fs.zip vs).reverse))
          obtain ⟨od, ho, hl⟩ := lookIn_ns hns
          exact ⟨some od, hget, hz.1, by unfold PySem.W.notCls; rw [hv] <;> rfl, by rw [hz.2, hd1]; exact ho⟩
      obtain ⟨od, J⟩ := J
      exact PySem.W.kia_one (PySem.W.kitx_exc c1.cl c1.ga c1.gg c1.su c1.ha c1.hn c1.ht c1.hm) I2.kIn J k2 (fun z => nomatch z) fun tk => ⟨.bl b, H1, I2.kept (t' := tk) fun _ _ z => z, rfl, p m H1 _ Ext.refl g.rl rfl⟩
    rcases k1 with k1 | ⟨k1, k3, k4⟩
    · exact ld_glob I1 hgx k1 (args_nil (fin _ I1)) hdx
    · exact ld_blt I1 hgx k1 k3 (args_nil (fin _ I1)) k4 hdx
theorem h_repr {p : Pos} (hgu : X.A.guards = some []) (hu : X.A.units + 70 < cLine) (hg : Gl X "repr") (hm : X.mg "repr" = none) (hs : starEach [e] X.env = (false, eval e X.env) :: starEach [] X.env) (ha : PE (X.suite a ((a, oe) :: pn)) e (tH et X.K i a cls d kk xs fa)) :
    PE (X.suite a ((a, oe) :: pn)) (.Call (.Name "repr" p) [e] [] pos) (tH et X.K i a cls d kk xs fun sl h => ((fa sl h).bind fun x h1 => Sh.R.bind (.ok [] h1) fun ys h2 => .ok (x :: ys) h2).bind fun xs h1 => bi .repr xs h1) := by
  refine ⟨fun pins s σ H Q I h => ?_⟩
  obtain ⟨r, hr, ok⟩ := bi_ok (X := X.suite a ((a, oe) :: pn)) (et := et) (W := NX) .repr (.inr rfl) hgu hu
  refine (pe_callB hr hg hm (by decide +kernel) (hA_cons (fs := fun _ h => .ok [] h) hs ha hA_nil) (by decide) (by decide) hs rfl).run pins s σ H Q I ?_
  obtain ⟨m, sl, h, g, p⟩ := h
  exact ⟨m, sl, h, g, p.bind fun xs h1 e1 m1 H1 vs x1 rl1 rv1 p1 => ok m1 H1 h1 xs vs Q rl1 rv1 p1⟩
end
end Sh
set_option Elab.async false
set_option linter.all false
set_option autoImplicit false
set_option maxRecDepth 100000
set_option maxHeartbeats 8000000
/-! Sh, part L: every matched statement does what the plain one tells. -/
namespace Sh
open PySem PySem.Spec PyProof.Rows L2

def noComp : Expr → Bool
  | .ListComp _ _ _ _ => false
  | .SetComp _ _ _ _ => false
  | .DictComp _ _ _ _ _ => false
  | _ => true
theorem swaps_no {e : Expr} {t : Option Expr} {l : Nat} {env : Env} (h : noComp e = true) : swapsWith e t l env = pure false := by
  cases e <;> first | rfl | cases h
def isStar : Expr → Bool
  | .Starred _ _ => true
  | _ => false
def swN (tg e : Expr) : Bool := match tg with
  | .Tuple ts _ _ => match e with
    | .Tuple vs _ _ => !(ts.length == 2 || ts.length == 3) || vs.all (foldedForSure 8)
    | _ => true
  | .Name _ _ => true
  | .Subscript _ _ _ => true
  | _ => false
theorem sw_none {tg e : Expr} {env : Env} (h : swN tg e = true) : swappedStores [tg] e env = pure none := by
  cases tg <;> first | rfl | (cases h; done) | skip
  rename_i ts k p
  cases e <;> first | rfl | skip
  rename_i vs k2 p2
  have h : (!(ts.length == 2 || ts.length == 3) || vs.all (foldedForSure 8)) = true := h
  unfold swappedStores
  dsimp only
  cases h1 : (!(ts.length == 2 || ts.length == 3)) with
  | true =>
    simp [h1]
  | false =>
    rw [h1] at h
    have h2 : vs.all (foldedForSure 8) = true := h
    simp only [h2]
    split
    · rfl
    · split
      · rfl
      · split
        · rfl
        · rfl
def parB (px py : Pos) (x y : Str) (a b : Expr) : Bool := noStar a && noStar b && py.line == px.line && !(x == y) && !([a, b].all (foldedForSure 8)) && !([a, b].all (constantsAlone 8))
theorem two' {a b : Bool} (h : (a && b) = true) : a = true ∧ b = true := Bool.and_eq_true_iff.mp h
theorem sw_some {x y : Str} {px py pt pt2 : Pos} {kt k2 : Nat} {a b : Expr} {env : Env} (h : parB px py x y a b = true) (hb : env.blockKind = .function) (hx : env.kindOf x = some .local) (hy : env.kindOf y = some .local) :
    swappedStores [.Tuple [.Name x px, .Name y py] kt pt] (.Tuple [a, b] k2 pt2) env = pure (some [x, y]) := by
  obtain ⟨h, h6⟩ := two' h
  obtain ⟨h, h5⟩ := two' h
  obtain ⟨h, h4⟩ := two' h
  obtain ⟨h, h3⟩ := two' h
  obtain ⟨h1, h2⟩ := two' h
  have e5 := noB h5
  have e6 := noB h6
  have e4 : x ≠ y := by simpa using h4
  have e3 : py.line = px.line := by simpa using h3
  have key : ∀ f : Expr → Bool, f a = false → f b = false → [a, b].any f = false := fun f q r => by
    show (f a || (f b || false)) = false
    rw [q, r]; rfl
  unfold swappedStores
  dsimp only
  have ne4 : (x == y) = false := by simpa using e4
  have ne5 : (y == x) = false := by simpa using fun z : y = x => e4 z.symm
  rw [key _ (by cases a <;> first | rfl | cases h1) (by cases b <;> first | rfl | cases h2), e5, e6]
  simp [hb, hx, hy, e3, ne4, ne5, Expr.pos, List.eraseDups, List.eraseDupsBy, List.eraseDupsBy.loop]

/-! ### matchers -/
mutual
def mH (cx : Cfx) (n : Str) (ks : List Nat) : E → Expr → Bool
  | .con c => fun e => match e with
    | .Constant k _ _ => conIs k c
    | _ => false
  | .excf j => fun e => match e with
    | .Attribute o f _ => match o with
      | .Name x _ => x == n && ks.all fun kk => match cx.fs[kk]? with
        | some fs => fs[j]? == some f
        | none => true
      | _ => false
    | _ => false
  | .excis y => fun e => match e with
    | .Call fn args kws _ => match fn with
      | .Name f _ => match args with
        | [l, r] => match l with
          | .Name x _ => match r with
            | .Name z _ => kws.isEmpty && decide (f = "isinstance") && freeB cx.cf f && x == n && z == y && glB cx.cf z && cx.cl.contains z
            | _ => false
          | _ => false
        | _ => false
      | _ => false
    | _ => false
  | .andv a b => fun e => match e with
    | .BoolOp op l p => match l with
      | x :: l => decide (op = .And) && (mH cx n ks a x && andTail (mH cx n ks b) .And p l)
      | [] => false
    | _ => false
  | .bi .repr (.cons a .nil) => fun e => match e with
    | .Call fn args kws _ => match fn with
      | .Name f _ => match args with
        | [l] => kws.isEmpty && decide (f = "repr") && freeB cx.cf f && noStar l && mH cx n ks a l
        | _ => false
      | _ => false
    | _ => false
  | .lst es => fun e => match e with
    | .List l _ => mHs cx n ks es l
    | _ => false
  | _ => fun _ => false
def mHs (cx : Cfx) (n : Str) (ks : List Nat) : Es → List Expr → Bool
  | .nil => fun l => l.isEmpty
  | .cons a es => fun l => match l with
    | x :: l => noStar x && (mH cx n ks a x && mHs cx n ks es l)
    | [] => false
end
def notSet : Expr → Bool
  | .Set _ _ _ => false
  | _ => true
mutual
def mS (cx : Cfx) : S → Stmt → Bool
  | .asg p a => fun s => match s with
    | .Assign tgs e _ => match tgs with
      | [tg] => noComp e && swN tg e && noStar tg && (mP cx.cf p tg && mE cx.cf a e)
      | _ => false
    | _ => false
  | .par i j a b => fun s => match s with
    | .Assign tgs e _ => match tgs with
      | [tg] => match tg with
        | .Tuple ts _ _ => match ts with
          | [t1, t2] => match t1 with
            | .Name x px => match t2 with
              | .Name y py => match e with
                | .Tuple es _ _ => match es with
                  | [l, r] => parB px py x y l r && decide (i ≠ j) && locB cx.cf i x && locB cx.cf j y && (mE cx.cf a l && mE cx.cf b r)
                  | _ => false
                | _ => false
              | _ => false
            | _ => false
          | _ => false
        | _ => false
      | _ => false
    | _ => false
  | .aug i o a => fun s => match s with
    | .AugAssign tg op e _ => match tg with
      | .Name x _ => decide (op = opr o) && locB cx.cf i x && mE cx.cf a e
      | _ => false
    | _ => false
  | .ifs t a b => fun s => match s with
    | .If c p q _ => mT cx.cf t c && (mSs cx a p && mSs cx b q)
    | _ => false
  | .whl t b => fun s => match s with
    | .While c p q _ => q.isEmpty && (mT cx.cf t c && mSs cx b p)
    | _ => false
  | .for_ p it b => fun s => match s with
    | .For tg iter bd q _ => q.isEmpty && notSet iter && (mP cx.cf p tg && (mI cx.cf it iter && mSs cx b bd))
    | _ => false
  | .ret a => fun s => match s with
    | .Return v _ => match v with
      | some e => mE cx.cf a e
      | none => false
    | _ => false
  | .retn => fun s => match s with
    | .Return v _ => v.isNone
    | _ => false
  | .expr a => fun s => match s with
    | .Expr e _ => noComp e && mE cx.cf a e
    | _ => false
  | .raise kk es => fun s => match s with
    | .Raise v c _ => match c with
      | none => match v with
        | some v => match v with
          | .Call fn args kws _ => match fn with
            | .Name x _ => match args with
              | [] => kws.isEmpty && glB cx.cf x && cx.ex.contains (x, kk, false) && es.len == 0
              | _ :: _ => kws.isEmpty && glB cx.cf x && cx.ex.contains (x, kk, true) && (match cx.fs[kk]? with | some f => f.length == es.len && decide (f.length ≤ 900) | none => false) && mEs cx.cf es args
            | _ => false
          | _ => false
        | none => false
      | some _ => false
    | _ => false
  | .brk => fun s => match s with
    | .Break _ => true
    | _ => false
  | .cnt => fun s => match s with
    | .Continue _ => true
    | _ => false
  | .pass => fun s => match s with
    | .Pass _ => true
    | _ => false
  | .try_ b hs => fun s => match s with
    | .Try body hds orelse fin _ => orelse.isEmpty && fin.isEmpty && !hds.isEmpty && (mSs cx b body && mHd cx hs hds)
    | _ => false
  | _ => fun _ => false
def mSs (cx : Cfx) : Ss → List Stmt → Bool
  | .nil => fun l => l.isEmpty
  | .cons s ss => fun l => match l with
    | x :: l => mS cx s x && mSs cx ss l
    | [] => false
def mHd (cx : Cfx) : Hs → List ExceptHandler → Bool
  | .nil => fun l => l.isEmpty
  | .cons ks i b hs => fun l => match l with
    | h :: l => (match h with
      | .ExceptHandler ty nm suite _ => match ty with
        | some ty => match ty with
          | .Name x _ => match nm with
            | some n => match suite with
              | [st] => match st with
                | .Return v _ => match v with
                  | some e => glB cx.cf x && cx.hd.contains (x, ks) && locB cx.cf i n && !(n == ("__debug__" : Str)) && !(n == ("__classdict__" : Str)) && (match b with
                    | .cons (.ret a) .nil => mH cx n ks a e
                    | _ => false)
                  | none => false
                | _ => false
              | _ => false
            | none => false
          | _ => false
        | none => false) && mHd cx hs l
    | [] => false
end

structure GoodX (cx : Cfx) (et : ETab) (call : Nat → List C → Hc → R C) (sub : Nat → Str → Option Bool) (k : Nat) (X : Cx) (W : WX) : Prop where
  base : Good cx.cf et call k X W
  tab : Tab X.prog X.w X.K X.mg X.base k cx et sub
  stack : X.stack = X.env :: X.outer
  frame : X.env.frame = some X.env.locals
  bk : X.env.blockKind = .function
  po : PassesOwn (model X.prog X.w) X.A X.env X.xe

section
variable {cx : Cfx} {et : ETab} {call : Nat → List C → Hc → R C} {sub : Nat → Str → Option Bool} {w : Nat} {k : Nat} {X : Cx} {W : WX}
theorem GoodX.tr (g : GoodX cx et call sub k X W) {W' : WX} {pn : List (Addr × Obj)} {xe : Value → Shared → Prop} (tk : Takes (X.tr pn xe) W') (po : PassesOwn (model X.prog X.w) X.A X.env xe) : GoodX cx et call sub k (X.tr pn xe) W' :=
  ⟨⟨g.base.N, g.base.nd, g.base.kind, g.base.calm, g.base.room, g.base.gu, tk, g.base.bn, g.base.gcd, g.base.con, g.base.fn⟩, g.tab, g.stack, g.frame, g.bk, po⟩

/-! ### clauses -/
mutual
theorem mH_ok (g : GoodX cx et call sub k X W) {i : Nat} {n : Str} {ks : List Nat} {a' : Addr} {oe : Obj} {cls : Value} {d : Option Addr} {pn : List (Addr × Obj)} {kk : Nat} {xs : List C} (hz : Zc cls d oe) (hf : ∃ vs, oe.data = .fields vs) (hi : X.N[i]? = some n) (hln : X.env.kindOf n = some .local) (hd : (n == ("__debug__" : Str)) = false) (hcd : (n == ("__classdict__" : Str)) = false)
    (hk : ks.contains kk = true) : ∀ (e : E) (ex : Expr), mH cx n ks e ex = true → PE (X.suite a' ((a', oe) :: pn)) ex (tH et X.K i a' cls d kk xs (E.ev call sub w (some (kk, xs)) e))
  | .con c, ex, h => by
    cases ex <;> try (cases h; done)
    rename_i cst _ _
    replace h : conIs cst c = true := h
    refine h_of ?_
    cases cst <;> cases c <;> try (cases h; done)
    · exact sE_const pe_non fun _ _ => rfl
    · rename_i b1 b2
      obtain rfl : b1 = b2 := beq_iff_eq.mp h
      exact sE_const pe_bl fun _ _ => rfl
    · rename_i b1 b2
      obtain rfl : b1 = b2 := beq_iff_eq.mp h
      exact sE_const pe_int fun _ _ => rfl
    · rename_i b1 b2
      obtain rfl : b1 = b2 := beq_iff_eq.mp h
      exact sE_const pe_str fun _ _ => rfl
  | .excf j, ex, h => by
    cases ex <;> try (cases h; done)
    rename_i o f p
    cases o <;> try (cases h; done)
    rename_i x p1
    obtain ⟨h1, h2⟩ := two h
    obtain rfl : x = n := beq_iff_eq.mp h1
    refine h_fld g.tab hz hf hi hln hd hcd fun f' hf' => ?_
    have := List.all_eq_true.mp h2 kk (by simpa using hk)
    rw [hf'] at this
    exact beq_iff_eq.mp this
  | .excis y, ex, h => by
    cases ex <;> try (cases h; done)
    rename_i fn args kws pos
    cases fn <;> try (cases h; done)
    rename_i f p
    match args, h with
    | [], h => cases h
    | [_], h => cases h
    | _ :: _ :: _ :: _, h => cases h
    | [l, r], h =>
      cases l <;> try (cases h; done)
      cases r <;> try (cases h; done)
      rename_i x px z pz
      obtain ⟨h, h7⟩ := two h
      obtain ⟨h, h6⟩ := two h
      obtain ⟨h, h5⟩ := two h
      obtain ⟨h, h4⟩ := two h
      obtain ⟨h, h3⟩ := two h
      obtain ⟨h1, h2⟩ := two h
      have := of_decide_eq_true h2
      subst this
      obtain rfl : x = n := beq_iff_eq.mp h4
      obtain rfl : z = y := beq_iff_eq.mp h5
      obtain ⟨f1, f2, f3, f4⟩ := g.base.free h3
      obtain ⟨q1, q2, q3⟩ := g.base.gl h6
      cases kws with
      | cons _ _ => cases h1
      | nil => exact h_is g.tab hz hf hi hln hd hcd f1 f2 q1 q2 h7
  | .andv a b, ex, h => by
    cases ex <;> try (cases h; done)
    rename_i op l p
    match l, h with
    | [], h => cases h
    | x :: l, h =>
      obtain ⟨h1, h23⟩ := two h
      have := of_decide_eq_true h1
      subst this
      obtain ⟨h2, h3⟩ := two h23
      obtain ⟨y, r, rfl, hb⟩ := bool_tail (X := X.suite a' ((a', oe) :: pn)) h3 fun e he => mH_ok g (a' := a') (oe := oe) (pn := pn) (xs := xs) hz hf hi hln hd hcd hk b e he
      exact h_and (mH_ok g hz hf hi hln hd hcd hk a x h2) hb
  | .bi .repr (.cons a .nil), ex, h => by
    cases ex <;> try (cases h; done)
    rename_i fn args kws pos
    cases fn <;> try (cases h; done)
    rename_i f p
    match args, h with
    | [], h => cases h
    | _ :: _ :: _, h => cases h
    | [l], h =>
      obtain ⟨h, h5⟩ := two h
      obtain ⟨h, h4⟩ := two h
      obtain ⟨h, h3⟩ := two h
      obtain ⟨h1, h2⟩ := two h
      have := of_decide_eq_true h2
      subst this
      obtain ⟨f1, f2, f3, f4⟩ := g.base.free h3
      cases kws with
      | cons _ _ => cases h1
      | nil => exact h_repr g.base.gu g.base.units f1 f2 (star_of h4) (mH_ok g hz hf hi hln hd hcd hk a l h5)
  | .lst es, ex, h => by
    cases ex <;> try (cases h; done)
    exact h_lst (mHs_ok g hz hf hi hln hd hcd hk es _ h)
  | .var _, ex, h => by cases h
  | .glob _ _, ex, h => by cases h
  | .bin _ _ _, ex, h => by cases h
  | .neg _, ex, h => by cases h
  | .notv _, ex, h => by cases h
  | .cmp _ _ _, ex, h => by cases h
  | .chain _ _ _ _ _, ex, h => by cases h
  | .orv _ _, ex, h => by cases h
  | .ite _ _ _, ex, h => by cases h
  | .tup _, ex, h => by cases h
  | .idx _ _, ex, h => by cases h
  | .slc _ _ _, ex, h => by cases h
  | .call _ _, ex, h => by cases h
  | .callk _ _ _ _, ex, h => by cases h
  | .isi _ _, ex, h => by cases h
  | .pop _, ex, h => by cases h
  | .comp _ _ _ _, ex, h => by cases h
  | .bi .repr .nil, ex, h => by cases h
  | .bi .repr (.cons _ (.cons _ _)), ex, h => by cases h
  | .bi .len _, ex, h => by cases h
  | .bi .abs _, ex, h => by cases h
  | .bi .max2 _, ex, h => by cases h
  | .bi .min2 _, ex, h => by cases h
  | .bi .sum _, ex, h => by cases h
  | .bi .gcd _, ex, h => by cases h
  | .bi .divmod _, ex, h => by cases h
  | .bi .tuple _, ex, h => by cases h
  | .bi .list _, ex, h => by cases h
  | .bi .maxL _, ex, h => by cases h
  | .bi .minL _, ex, h => by cases h
  | .bi .int _, ex, h => by cases h
  | .bi .bool _, ex, h => by cases h
  | .bi .all _, ex, h => by cases h
  | .bi .any _, ex, h => by cases h
theorem mHs_ok (g : GoodX cx et call sub k X W) {i : Nat} {n : Str} {ks : List Nat} {a : Addr} {oe : Obj} {cls : Value} {d : Option Addr} {pn : List (Addr × Obj)} {kk : Nat} {xs : List C} (hz : Zc cls d oe) (hf : ∃ vs, oe.data = .fields vs) (hi : X.N[i]? = some n) (hln : X.env.kindOf n = some .local) (hd : (n == ("__debug__" : Str)) = false) (hcd : (n == ("__classdict__" : Str)) = false)
    (hk : ks.contains kk = true) : ∀ (es : Es) (l : List Expr), mHs cx n ks es l = true → PA (X.suite a ((a, oe) :: pn)) l (tHA et X.K i a cls d kk xs (Es.ev call sub w (some (kk, xs)) es))
  | .nil, l, h => by
    cases l with
    | nil => exact hA_nil
    | cons _ _ => cases h
  | .cons a es, l, h => by
    cases l with
    | nil => cases h
    | cons x l =>
      obtain ⟨h1, h2⟩ := two h
      obtain ⟨h2, h3⟩ := two h2
      exact hA_cons (star_of h1) (mH_ok g hz hf hi hln hd hcd hk a x h2) (mHs_ok g hz hf hi hln hd hcd hk es l h3)
end
end
end Sh
set_option Elab.async false
set_option linter.all false
set_option autoImplicit false
set_option maxRecDepth 100000
set_option maxHeartbeats 8000000
/-! Sh, part M: statements. -/
namespace Sh
open PySem PySem.Spec PyProof.Rows L2

section
variable {cx : Cfx} {et : ETab} {call : Nat → List C → Hc → R C} {sub : Nat → Str → Option Bool} {w : Nat} {k : Nat} {X : Cx} {W : WX}
theorem RS.setNone {K : PySem.W.Frag} {m : List Addr} {H : Hp} {sl : Sl} {σ : L2.St} (r : RS K m H sl σ) (i : Nat) (o : Option V) : RS K m H (sl.set i none) (σ.set i o) := by
  refine r.weak (by simp) (by simp) fun j c q => ?_
  by_cases hj : i = j
  · subst hj
    by_cases hi : i < sl.length
    · rw [List.getElem?_set_self hi] at q
      cases q
    · rw [List.getElem?_eq_none (by simpa using hi)] at q
      cases q
  · rw [List.getElem?_set_ne hj] at q
    exact ⟨q, fun v e => by rw [List.getElem?_set_ne hj]; exact e⟩
theorem locK (g : GoodX cx et call sub k X W) {i : Nat} {n : Str} (h : locB cx.cf i n = true) : X.N[i]? = some n ∧ X.env.kindOf n = some .local := by
  obtain ⟨q1, q2, q3, q4⟩ := g.base.loc h
  exact ⟨q1, q3⟩
theorem mHd_ok (g : GoodX cx et call sub k X W) : ∀ (hs : Hs) (l : List ExceptHandler), mHd cx hs l = true → ∃ L, HdsAs X l L ∧
    ∀ (D : Ends) (kk : Nat) (xs : List C) (sl : Sl) (h : Hc) (m : List Addr) (H : Hp) (σ : L2.St) (cls : Value) (d : Option Addr), Rl X.K m h H → RS X.K m H sl σ → RX et X.K m H kk xs cls d → PostS et X.K W D m H (Hs.ev call sub w hs kk xs sl h) → wAsM X.K W D L cls d σ H
  | .nil, l, h => by
    cases l with
    | cons _ _ => cases h
    | nil => exact ⟨[], .nil, fun D kk xs sl h m H σ cls d rl rs rx p => p m H σ cls d Ext.refl rl rs rx⟩
  | .cons ks i b hs, l, h => by
    cases l with
    | nil => cases h
    | cons hd l =>
      obtain ⟨h1, h2⟩ := two h
      obtain ⟨L, hL, ih⟩ := mHd_ok g hs l h2
      cases hd with
      | ExceptHandler ty nm suite pos' =>
        cases ty with
        | none => cases h1
        | some ty =>
          cases ty <;> try (cases h1; done)
          rename_i x np
          cases nm with
          | none => cases h1
          | some n =>
            match suite, h1 with
            | [], h1 => cases h1
            | _ :: _ :: _, h1 => cases h1
            | [st], h1 =>
              cases st <;> try (cases h1; done)
              rename_i v rp
              cases v with
              | none => cases h1
              | some e =>
                have q6 := (two h1).2
                replace h1 := (two h1).1
                have q5 := (two h1).2
                replace h1 := (two h1).1
                have q4 := (two h1).2
                replace h1 := (two h1).1
                have q3 := (two h1).2
                replace h1 := (two h1).1
                have q2 := (two h1).2
                replace h1 := (two h1).1
                have q1 := h1
                clear h1
                obtain ⟨f1, f2, f3⟩ := g.base.gl q1
                obtain ⟨c, c1, c2⟩ := g.tab.hd x ks q2
                obtain ⟨e1, e2⟩ := locK g q3
                cases b with
                | nil => cases q6
                | cons s0 ss =>
                  cases s0 <;> try (cases q6; done)
                  rename_i a0
                  cases ss with
                  | cons _ _ => cases q6
                  | nil =>
                    refine ⟨(c, i, fun a cls d => fun D σ H => ∃ kk xs m sl h, ks.contains kk = true ∧ HotI et X.K i a cls d kk xs m sl h H σ ∧ PostS et X.K (fun _ _ _ _ => False) D m H ((E.ev call sub w (some (kk, xs)) a0 sl h).th sl fun c h1 => .ret c h1)) :: L, .cons e1 e2 ⟨f1, f2, c1⟩ (fun a oe cls d pn hz hf => ?_) hL, ?_⟩
                    · refine ⟨fun pins s σ H D I ⟨kk, xs, m, sl, h, hk, q, p⟩ => ?_⟩
                      refine (pss_one (ps_ret (mH_ok (w := w) g (kk := kk) (xs := xs) hz hf e1 e2 (noB q4) (noB q5) hk a0 e q6))).run pins s σ H D I ⟨m, sl, h, q, ?_⟩
                      exact PostS.th p q.rs fun c h1 e1 m1 H1 v x1 rl1 rv1 p1 => p1 m1 H1 v Ext.refl rl1 rv1
                    · intro D kk xs sl h m H σ cls d rl rs rx p
                      obtain ⟨A, fs, vs, r1, r2, r3, r4, r5⟩ := id rx
                      subst r2
                      have p : PostS et X.K W D m H (if ks.contains kk then
                          (match Ss.ev call sub w (.cons (.ret a0) .nil) (some (kk, xs)) (sl.set i none) h with
                            | .nx sl2 h2 => .nx (sl2.set i none) h2
                            | .ret c h2 => .ret c h2
                            | .bk sl2 h2 => .bk (sl2.set i none) h2
                            | .ct sl2 h2 => .ct (sl2.set i none) h2
                            | _ => .bad)
                        else Hs.ev call sub w hs kk xs sl h) := p
                      refine ⟨ks.contains kk, c2 _ _ _ r1, fun hk a na => ?_, fun hk => ?_⟩
                      · rw [if_pos hk] at p
                        refine ⟨kk, xs, m, sl.set i none, h, hk, ⟨rl, rs.setNone i _, rx, fun hi => List.getElem?_set_self (by simpa using hi)⟩, ?_⟩
                        have e0 : Ss.ev call sub w (.cons (.ret a0) .nil) (some (kk, xs)) (sl.set i none) h = ((E.ev call sub w (some (kk, xs)) a0 (sl.set i none) h).th (sl.set i none) fun c h1 => RS'.ret c h1).th fun sl1 h1 => .nx sl1 h1 := rfl
                        rw [e0] at p
                        cases e3 : E.ev call sub w (some (kk, xs)) a0 (sl.set i none) h with
                        | ok c h1 => rw [e3] at p; exact p
                        | err _ _ _ => rw [e3] at p; exact False.elim p
                        | bad => rw [e3] at p; exact False.elim p
                      · rw [hk, if_neg Bool.false_ne_true] at p
                        exact ih D kk xs sl h m H σ (.ref A) d rl rs rx p

/-! ### statements -/
section
variable {tg e c v : Expr} {body orelse : List Stmt} {pos : Pos} {fe fv : Sl → Hc → R C} {fg : C → Sl → Hc → R Sl} {ft : Sl → Hc → R Bool} {fa fb : Sl → Hc → RS'} {fs : Sl → Hc → R (List C)}
theorem sS_asg (h1 : noComp e = true) (h2 : swN tg e = true) (h3 : noStar tg = true) (he : PE X e (tE et X.K W fe)) (hg : PG X tg (tG et X.K fg)) : PS X (.Assign [tg] e pos) (tS et X.K W fun sl h => (fe sl h).th sl fun c h1 => (fg c sl h1).noerr.th sl fun sl1 h2 => .nx sl1 h2) :=
  (ps_asg he hg (swaps_no h1) (sw_none h2) (by rw [asg_of h3]; rfl)).imp fun D σ H ⟨m, sl, h, rl, rs, p⟩ => ⟨m, sl, h, rl, rs, PostS.th p rs fun c h1 e1 m1 H1 v x1 rl1 rv1 p1 =>
    ⟨m1, sl, h1, c, rl1, rs.ext x1, rv1, Post.noerr (PostS.th (rel := relS X.K) (Q := D.nx) p1 (rs.ext x1) fun sl2 h2 e2 m2 H2 σ2 x2 rl2 rs2 p2 => p2 m2 H2 σ2 Ext.refl rl2 rs2)⟩⟩
theorem sS_par (g : GoodX cx et call sub k X W) {i j : Nat} {x y : Str} {a b : Expr} {px py pt pt2 : Pos} {kt k2 : Nat} (hp : parB px py x y a b = true) (hij : i ≠ j) (hx : locB cx.cf i x = true) (hy : locB cx.cf j y = true) (ha : PE X a (tE et X.K W fe)) (hb : PE X b (tE et X.K W fv)) :
    PS X (.Assign [.Tuple [.Name x px, .Name y py] kt pt] (.Tuple [a, b] k2 pt2) pos) (tS et X.K W fun sl h => (fe sl h).th sl fun x h1 => (fv sl h1).th sl fun y h2 => .nx ((sl.set i (some x)).set j (some y)) h2) := by
  obtain ⟨q1, q2, q3, q4⟩ := g.base.loc hx
  obtain ⟨r1, r2, r3, r4⟩ := g.base.loc hy
  have hp' := hp
  obtain ⟨hp', _⟩ := two hp'
  obtain ⟨hp', _⟩ := two hp'
  obtain ⟨hp', _⟩ := two hp'
  obtain ⟨hp', _⟩ := two hp'
  obtain ⟨s1, s2⟩ := two hp'
  refine (ps_par g.base.calm q4 q1 r1 hij q3 r3 (pa_cons ha (pa_cons hb pa_nil (star_of s2)) (star_of s1)) (sw_some hp g.bk q3 r3) rfl).imp fun D σ H ⟨m, sl, h, rl, rs, p⟩ => ?_
  refine ⟨m, sl, h, rl, rs, PostS.th p rs fun x h1 e1 m1 H1 v x1 rl1 rv1 p1 => ⟨m1, sl, h1, rl1, rs.ext x1, PostS.th p1 (rs.ext x1) fun y h2 e2 m2 H2 u x2 rl2 rv2 p2 => ⟨v, u, rfl, ?_⟩⟩⟩
  exact p2 m2 H2 _ Ext.refl rl2 ((((rs.ext x1).ext x2).set i (RV.ext x2 rv1)).set j rv2)
theorem ip_mulX : PIp X .Mult (rI CMulX fun i j => .int (i * j)) := fun pins s σ H x y v u Q I r1 r2 h => (opI (X := X) (f := inplaceOp .Mult) fun _ _ _ _ _ _ _ hc q => imul_int q hc.ok) pins s σ H x y v u Q I r1 r2 h
theorem aug_ok (o : Op) : ∃ ti, PIp X (opr o) ti ∧ ∀ (Wx : Value → Option Addr → Hp → Prop) (m : List Addr) (H : Hp) (h : Hc) (i j : Int) (Q : VK), Rl X.K m h H → Post et X.K Wx m H (relV X.K) Q (augC o i j h) → ti (.int i) (.int j) H Q := by
  cases o with
  | add => exact ⟨_, ip_add, fun Wx m H h i j Q rl p => ⟨i, j, rfl, rfl, p m H _ Ext.refl rl rfl⟩⟩
  | sub => exact ⟨_, ip_sub, fun Wx m H h i j Q rl p => ⟨i, j, rfl, rfl, p m H _ Ext.refl rl rfl⟩⟩
  | mul =>
    refine ⟨_, ip_mulX, fun Wx m H h i j Q rl p => ?_⟩
    unfold augC at p
    simp only at p
    split at p
    · exact False.elim p
    · rename_i hb
      have hb' : tooBig i = false ∧ tooBig j = false := by
        cases h1 : tooBig i <;> cases h2 : tooBig j <;> simp_all
      exact ⟨i, j, rfl, rfl, mulx_ok (a := 60000) (b := 60000) (small_of hb'.1) (small_of hb'.2) (by omega), p m H _ Ext.refl rl rfl⟩
  | div => exact ⟨fun _ _ _ _ => False, fun _ _ _ _ _ _ _ _ _ _ _ _ h => h.elim, fun Wx m H h i j Q rl p => p⟩
  | mod => exact ⟨fun _ _ _ _ => False, fun _ _ _ _ _ _ _ _ _ _ _ _ h => h.elim, fun Wx m H h i j Q rl p => p⟩
  | pow => exact ⟨fun _ _ _ _ => False, fun _ _ _ _ _ _ _ _ _ _ _ _ h => h.elim, fun Wx m H h i j Q rl p => p⟩
theorem sS_aug (g : GoodX cx et call sub k X W) {i : Nat} {x : Str} {o : Op} {pos' : Pos} (hx : locB cx.cf i x = true) (he : PE X e (tE et X.K W fe)) : PS X (.AugAssign (.Name x pos') (opr o) e pos) (tS et X.K W fun sl h => match sl[i]? with
    | some (some x) => (fe sl h).th sl fun y h1 => (match x, y with
      | .int a, .int b => (augC o a b h1).th sl fun z h2 => .nx (sl.set i (some z)) h2
      | _, _ => .bad)
    | _ => .bad) := by
  obtain ⟨q1, q2, q3, q4⟩ := g.base.loc hx
  obtain ⟨ti, ho, ok⟩ := aug_ok (X := X) (et := et) o
  refine (ps_aug q4 q1 q2 he ho (.inr q3)).imp fun D σ H ⟨m, sl, h, rl, rs, p⟩ => ?_
  dsimp only at p
  cases e1 : sl[i]? with
  | none => rw [e1] at p; exact False.elim p
  | some o' =>
    cases o' with
    | none => rw [e1] at p; exact False.elim p
    | some x =>
      rw [e1] at p
      obtain ⟨v, s1, s2⟩ := rs.at_ i x e1
      refine ⟨v, s1, m, sl, h, rl, rs, PostS.th p rs fun y h1 e2 m1 H1 u x1 rl1 rv1 p1 => ?_⟩
      cases x <;> cases y <;> try (exact False.elim p1)
      rename_i a b
      cases s2
      cases rv1
      exact ok (fun c d H' => W c d σ H') m1 H1 h1 a b _ rl1 (PostS.th p1 (rs.ext x1) fun z h2 e3 m2 H2 t x2 rl2 rv2 p2 => p2 m2 H2 _ Ext.refl rl2 (((rs.ext x1).ext x2).set i rv2))
theorem sS_ifs (hc : PT X c (tT et X.K W ft)) (ha : PSs X body (tS et X.K W fa)) (hb : PSs X orelse (tS et X.K W fb)) : PS X (.If c body orelse pos) (tS et X.K W fun sl h => (ft sl h).th sl fun k h1 => if k then fa sl h1 else fb sl h1) := by
  refine (ps_if hc ha hb).imp fun D σ H ⟨m, sl, h, rl, rs, p⟩ => ⟨m, sl, h, rl, rs, PostS.th p rs fun k h1 e1 m1 H1 v x1 rl1 rv1 p1 => ?_⟩
  cases rv1
  cases k with
  | true => exact ⟨m1, sl, h1, rl1, rs.ext x1, p1⟩
  | false => exact ⟨m1, sl, h1, rl1, rs.ext x1, p1⟩
theorem sS_ret (he : PE X e (tE et X.K W fe)) : PS X (.Return (some e) pos) (tS et X.K W fun sl h => (fe sl h).th sl fun c h1 => .ret c h1) :=
  (ps_ret he).imp fun D σ H ⟨m, sl, h, rl, rs, p⟩ => ⟨m, sl, h, rl, rs, PostS.th p rs fun c h1 e1 m1 H1 v x1 rl1 rv1 p1 => p1 m1 H1 v Ext.refl rl1 rv1⟩
theorem sS_expr (h1 : noComp e = true) (he : PE X e (tE et X.K W fe)) : PS X (.Expr e pos) (tS et X.K W fun sl h => (fe sl h).th sl fun c h1 => .nx sl h1) :=
  (ps_expr he (swaps_no h1)).imp fun D σ H ⟨m, sl, h, rl, rs, p⟩ => ⟨m, sl, h, rl, rs, PostS.th p rs fun c h1 e1 m1 H1 v x1 rl1 rv1 p1 => p1 m1 H1 σ Ext.refl rl1 (rs.ext x1)⟩
end
theorem Es.ev_len {cx' : Option (Nat × List C)} {sl : Sl} : ∀ {es : Es} {h h' : Hc} {xs : List C}, Es.ev call sub w cx' es sl h = .ok xs h' → xs.length = es.len
  | .nil, h, h', xs, e => by
    cases e
    rfl
  | .cons a es, h, h', xs, e => by
    have e : (E.ev call sub w cx' a sl h).bind (fun x h1 => (Es.ev call sub w cx' es sl h1).bind fun xs h2 => .ok (x :: xs) h2) = .ok xs h' := e
    cases e1 : E.ev call sub w cx' a sl h with
    | bad => rw [e1] at e; cases e
    | err _ _ _ => rw [e1] at e; cases e
    | ok x h1 =>
      rw [e1] at e
      have e : (Es.ev call sub w cx' es sl h1).bind (fun xs h2 => .ok (x :: xs) h2) = .ok xs h' := e
      cases e2 : Es.ev call sub w cx' es sl h1 with
      | bad => rw [e2] at e; cases e
      | err _ _ _ => rw [e2] at e; cases e
      | ok ys h2 =>
        rw [e2] at e
        cases e
        show ys.length + 1 = es.len + 1
        rw [Es.ev_len e2]
theorem fold_no {e : Expr} {env : Env} (h : notSet e = true) : ∀ x, foldedSetIterable e env x = pure x := fun x => by
  cases e <;> first | rfl | cases h

mutual
theorem S.sound {X : Cx} {W : WX} (g : GoodX cx et call sub k X W) : ∀ (s : S) (st : Stmt), mS cx s st = true → PS X st (tS et X.K W (S.ev call sub w s none))
  | .asg p a, st, h => by
    cases st <;> try (cases h; done)
    rename_i tgs e pos
    match tgs, h with
    | [], h => cases h
    | _ :: _ :: _, h => cases h
    | [tg], h =>
      obtain ⟨h, h4⟩ := two h
      obtain ⟨h, h3⟩ := two h
      obtain ⟨h1, h2⟩ := two h
      obtain ⟨h4, h5⟩ := two h4
      exact sS_asg h1 h2 h3 (E.sound (sub := sub) (w := w) g.base a e h5) (Pt.sound (sub := sub) (w := w) g.base p tg h4)
  | .par i j a b, st, h => by
    cases st <;> try (cases h; done)
    rename_i tgs e pos
    match tgs, h with
    | [], h => cases h
    | _ :: _ :: _, h => cases h
    | [tg], h =>
      cases tg <;> try (cases h; done)
      rename_i ts kt pt
      match ts, h with
      | [], h => cases h
      | [_], h => cases h
      | _ :: _ :: _ :: _, h => cases h
      | [t1, t2], h =>
        cases t1 <;> try (cases h; done)
        cases t2 <;> try (cases h; done)
        rename_i x px y py
        cases e <;> try (cases h; done)
        rename_i es k2 pt2 _ _
        match es, h with
        | [], h => cases h
        | [_], h => cases h
        | _ :: _ :: _ :: _, h => cases h
        | [l, r], h =>
          obtain ⟨h, h5⟩ := two h
          obtain ⟨h, h4⟩ := two h
          obtain ⟨h, h3⟩ := two h
          obtain ⟨h1, h2⟩ := two h
          obtain ⟨h5, h6⟩ := two h5
          exact sS_par g h1 (of_decide_eq_true h2) h3 h4 (E.sound (sub := sub) (w := w) g.base a l h5) (E.sound (sub := sub) (w := w) g.base b r h6)
  | .aug i o a, st, h => by
    cases st <;> try (cases h; done)
    rename_i tg op e pos
    cases tg <;> try (cases h; done)
    obtain ⟨h, h3⟩ := two h
    obtain ⟨h1, h2⟩ := two h
    have := of_decide_eq_true h1
    subst this
    exact sS_aug g h2 (E.sound (sub := sub) (w := w) g.base a e h3)
  | .ifs t a b, st, h => by
    cases st <;> try (cases h; done)
    rename_i c p q pos
    obtain ⟨h1, h2⟩ := two h
    obtain ⟨h2, h3⟩ := two h2
    exact sS_ifs (T.sound (sub := sub) (w := w) g.base t c h1).1 (Ss.sound g a p h2) (Ss.sound g b q h3)
  | .whl t b, st, h => by
    cases st <;> try (cases h; done)
    rename_i c p q pos
    obtain ⟨h1, h2⟩ := two h
    obtain ⟨h2, h3⟩ := two h2
    cases q with
    | cons _ _ => cases h1
    | nil => exact sS_while g.po (T.sound (sub := sub) (w := w) g.base t c h2).1 (Ss.sound g b p h3)
  | .for_ p it b, st, h => by
    cases st <;> try (cases h; done)
    rename_i tg iter bd q pos
    obtain ⟨h, h3⟩ := two h
    obtain ⟨h1, h2⟩ := two h
    obtain ⟨h3, h4⟩ := two h3
    obtain ⟨h4, h5⟩ := two h4
    cases q with
    | cons _ _ => cases h1
    | nil => exact sS_for g.po g.base.calm (It.sound (sub := sub) (w := w) g.base tg it iter h4) (Pt.sound (sub := sub) (w := w) g.base p tg h3) (Ss.sound g b bd h5) (fold_no h2)
  | .ret a, st, h => by
    cases st <;> try (cases h; done)
    rename_i v pos
    cases v with
    | none => cases h
    | some e => exact sS_ret (E.sound (sub := sub) (w := w) g.base a e h)
  | .retn, st, h => by
    cases st <;> try (cases h; done)
    rename_i v pos
    cases v with
    | some e => cases h
    | none => exact ps_retN.imp fun D σ H ⟨m, sl, h, rl, rs, p⟩ => p m H .non Ext.refl rl rfl
  | .expr a, st, h => by
    cases st <;> try (cases h; done)
    rename_i e pos
    obtain ⟨h1, h2⟩ := two h
    exact sS_expr h1 (E.sound (sub := sub) (w := w) g.base a e h2)
  | .raise kk es, st, h => by
    cases st <;> try (cases h; done)
    rename_i v c pos
    cases c with
    | some _ => cases h
    | none =>
      cases v with
      | none => cases h
      | some v =>
        cases v <;> try (cases h; done)
        rename_i fn args kws p2
        cases fn <;> try (cases h; done)
        rename_i x p1
        cases args with
        | nil =>
          obtain ⟨h, h4⟩ := two h
          obtain ⟨h, h3⟩ := two h
          obtain ⟨h1, h2⟩ := two h
          cases kws with
          | cons _ _ => cases h1
          | nil =>
            obtain ⟨f1, f2, f3⟩ := g.base.gl h2
            obtain ⟨A, f, t1, t2, t3⟩ := g.tab.made _ _ _ h3
            have hf : f = [] := by cases t3; assumption
            subst hf
            refine (ps_raise g.base.calm g.base.tk (mk_bare t1 t2 t3 f1 f2)).imp fun D σ H ⟨m, sl, h, rl, rs, p⟩ => ?_
            have e0 : Es.ev call sub w none es sl h = .ok [] h := by
              cases es with
              | nil => rfl
              | cons _ es => simp [Es.len] at h4
            have p : PostS et X.K W D m H ((Es.ev call sub w none es sl h).th sl fun xs h1 => .err kk xs sl h1) := p
            rw [e0] at p
            exact p m H σ (.ref A) none Ext.refl rl rs ⟨A, [], [], t1, rfl, rfl, rfl, .inl ⟨rfl, rfl⟩⟩
        | cons e args =>
          obtain ⟨h, h5⟩ := two h
          obtain ⟨h, h4⟩ := two h
          obtain ⟨h, h3⟩ := two h
          obtain ⟨h1, h2⟩ := two h
          cases kws with
          | cons _ _ => cases h1
          | nil =>
            obtain ⟨f1, f2, f3⟩ := g.base.gl h2
            obtain ⟨A, f, t1, t2, t3⟩ := g.tab.made _ _ _ h3
            obtain ⟨t4, _⟩ := g.tab.fs _ _ _ t1
            rw [t4] at h4
            obtain ⟨h4, h6⟩ := two h4
            have hl : f.length = es.len := by simpa using h4
            have hA := Es.sound (sub := sub) (w := w) g.base es (e :: args) h5
            have s1 : starEach (e :: args) X.env = (false, eval e X.env) :: starEach args X.env := by
              cases es with
              | nil => cases h5
              | cons a0 es0 =>
                obtain ⟨q1, _⟩ := two h5
                exact star_of q1
            have s2 : (backTo p2 (starEach args X.env)).any (·.1) = false := by
              cases es with
              | nil => cases h5
              | cons a0 es0 =>
                obtain ⟨_, q2⟩ := two h5
                obtain ⟨_, q3⟩ := two q2
                exact no_any q3
            refine (ps_raise g.base.calm g.base.tk (mk_own g.base.room t1 t2 t3 f1 f2 hA s1 s2)).imp fun D σ H ⟨m, sl, h, rl, rs, p⟩ => ?_
            have p : PostS et X.K W D m H ((Es.ev call sub w none es sl h).th sl fun xs h1 => .err kk xs sl h1) := p
            refine ⟨m, sl, h, rl, rs, PostS.th p rs fun xs h1 e1 m1 H1 vs x1 rl1 rv1 p1 => ⟨m1, h1, xs, rl1, rv1, by rw [hl]; exact Es.ev_len e1, of_decide_eq_true h6, fun m' H' cls d x2 rl2 rx => ?_⟩⟩
            exact p1 m' H' σ cls d x2 rl2 ((rs.ext x1).ext x2) rx
  | .brk, st, h => by
    cases st <;> try (cases h; done)
    exact ps_break.imp fun D σ H ⟨m, sl, h, rl, rs, p⟩ => p m H σ Ext.refl rl rs
  | .cnt, st, h => by
    cases st <;> try (cases h; done)
    exact ps_continue.imp fun D σ H ⟨m, sl, h, rl, rs, p⟩ => p m H σ Ext.refl rl rs
  | .pass, st, h => by
    cases st <;> try (cases h; done)
    exact ps_pass.imp fun D σ H ⟨m, sl, h, rl, rs, p⟩ => p m H σ Ext.refl rl rs
  | .try_ b hs, st, h => by
    cases st <;> try (cases h; done)
    rename_i body hds orelse fin pos
    obtain ⟨h, h4⟩ := two h
    obtain ⟨h, h3⟩ := two h
    obtain ⟨h1, h2⟩ := two h
    have h5 := (two h4).2
    replace h4 := (two h4).1
    cases orelse with
    | cons _ _ => cases h1
    | nil =>
      cases fin with
      | cons _ _ => cases h2
      | nil =>
        cases hds with
        | nil => cases h3
        | cons h₀ hds =>
          obtain ⟨L, hL, hw⟩ := mHd_ok g (w := w) hs (h₀ :: hds) h5
          refine (ps_try_asm (tb := fun W => tS et X.K W (Ss.ev call sub w b none)) g.stack g.frame (by rw [g.base.N]; exact g.base.nd) g.base.tk (fun W' pn xe tk po => Ss.sound (g.tr tk po) b body h4) hL).imp fun D σ H ⟨m, sl, h, rl, rs, p⟩ => ⟨m, sl, h, rl, rs, ?_⟩
          have p : PostS et X.K W D m H (match Ss.ev call sub w b none sl h with
            | .err k xs sl1 h1 => Hs.ev call sub w hs k xs sl1 h1
            | r => r) := p
          cases e : Ss.ev call sub w b none sl h with
          | nx _ _ => rw [e] at p; exact p
          | ret _ _ => rw [e] at p; exact p
          | bk _ _ => rw [e] at p; exact p
          | ct _ _ => rw [e] at p; exact p
          | bad => rw [e] at p; exact p
          | err kk xs sl1 h1 =>
            rw [e] at p
            exact fun m1 H1 σ1 cls d x1 rl1 rs1 rx => hw D kk xs sl1 h1 m1 H1 σ1 cls d rl1 rs1 rx (PostS.ext p x1)
  | .augi _ _ _ _, st, h => by cases h
  | .app _ _, st, h => by cases h
theorem Ss.sound {X : Cx} {W : WX} (g : GoodX cx et call sub k X W) : ∀ (ss : Ss) (l : List Stmt), mSs cx ss l = true → PSs X l (tS et X.K W (Ss.ev call sub w ss none))
  | .nil, l, h => by
    cases l with
    | cons _ _ => cases h
    | nil => exact pss_nil.imp fun D σ H ⟨m, sl, h, rl, rs, p⟩ => p m H σ Ext.refl rl rs
  | .cons s ss, l, h => by
    cases l with
    | nil => cases h
    | cons st l =>
      obtain ⟨h1, h2⟩ := two h
      exact (pss_cons (S.sound g s st h1) (Ss.sound g ss l h2)).imp fun D σ H ⟨m, sl, h, rl, rs, p⟩ => ⟨m, sl, h, rl, rs, PostS.seq p⟩
end
end
end Sh
set_option Elab.async false
set_option linter.all false
set_option autoImplicit false
set_option maxRecDepth 100000
set_option maxHeartbeats 8000000
/-! Sh, part N: every def of the program does what the plain run tells; the head. -/
namespace Sh
open PySem PySem.Spec PyProof.Rows L2

/-! ### lists that none holds any more are let go -/
section
variable {K : PySem.W.Frag} {m m' : List Addr} {H H' : Hp} {n : Nat}
mutual
theorem RV.take (n : Nat) : ∀ {c : C} {v : V}, c.under n = true → RV K m H c v → RV K (m.take n) H c v
  | .non, _, _, h => h
  | .bl _, _, _, h => h
  | .int _, _, _, h => h
  | .str _, _, _, h => h
  | .rep _, _, _, h => h
  | .tup cs, _, u, h => by
    obtain ⟨a, vs, e1, e2, e3⟩ := h
    exact ⟨a, vs, e1, e2, RVs.takeM n u e3⟩
  | .ref k, _, u, h => by
    obtain ⟨a, e1, e2⟩ := h
    have hk : k < n := of_decide_eq_true u
    exact ⟨a, by rw [List.getElem?_take]; rw [if_pos hk]; exact e1, e2⟩
  | .frz cs, _, u, h => by
    obtain ⟨a, vs, e1, e2, e3⟩ := h
    exact ⟨a, vs, e1, e2, RVs.takeM n u e3⟩
theorem RVs.takeM (n : Nat) : ∀ {cs : List C} {vs : List V}, C.unders n cs = true → RVs K m H cs vs → RVs K (m.take n) H cs vs
  | [], _, _, h => h
  | c :: cs, _, u, h => by
    obtain ⟨v, r, e1, e2, e3⟩ := h
    obtain ⟨u1, u2⟩ := two u
    exact ⟨v, r, e1, RV.take n u1 e2, RVs.takeM n u2 e3⟩
end
theorem Rl.take {h : Hc} (r : Rl K m h H) (n : Nat) (hu : (h.take n).all (C.unders n) = true) : Rl K (m.take n) (h.take n) H := by
  refine ⟨by simp [r.len], r.nd.sublist (List.take_sublist n m), fun i a cs e1 e2 => ?_⟩
  have hi : i < n := by
    by_cases q : i < n
    · exact q
    · rw [List.getElem?_take, if_neg q] at e1
      cases e1
  rw [List.getElem?_take, if_pos hi] at e1 e2
  obtain ⟨vs, q1, q2⟩ := r.at_ i a cs e1 e2
  refine ⟨vs, q1, RVs.takeM n (List.all_eq_true.mp hu cs ?_) q2⟩
  exact List.mem_of_getElem? (i := i) (by rw [List.getElem?_take, if_pos hi]; exact e2)
theorem Ext.take {h : Hc} (e : Ext K m H m' H') (r : Rl K m h H) : Ext K m H (m'.take h.length) H' := by
  refine ⟨fun i a q => ?_, fun b o q n => ?_, e.tu, e.fz⟩
  · have hi : i < h.length := by rw [← r.len]; exact (List.getElem?_eq_some_iff.mp q).1
    rw [List.getElem?_take, if_pos hi]
    exact e.pre i a q
  · obtain ⟨n1, n2⟩ := e.fr b o q n
    exact ⟨fun z => n1 (List.mem_of_mem_take z), n2⟩
theorem tidy_ok {et : ETab} {W : Value → Option Addr → Hp → Prop} {Q : VK} {h h1 : Hc} {c : C} (rl : Rl K m h H) (p : Post et K W m H (relV K) Q (tidy h.length c h1)) {m1 : List Addr} {H1 : Hp} {v : V} (x : Ext K m H m1 H1) (rl1 : Rl K m1 h1 H1) (rv : RV K m1 H1 c v) : Q v H1 := by
  unfold tidy at p
  split at p
  · rename_i hu
    obtain ⟨u1, u2⟩ := two hu
    exact p (m1.take h.length) H1 v (x.take rl) (rl1.take _ u2) (RV.take _ u1 rv)
  · exact p m1 H1 v x rl1 rv
theorem tidyX_ok {et : ETab} {W : Value → Option Addr → Hp → Prop} {Q : VK} {h h1 : Hc} {kk : Nat} {xs : List C} (rl : Rl K m h H) (p : Post et K W m H (relV K) Q (tidyX h.length kk xs h1)) {m1 : List Addr} {H1 : Hp} {cls : Value} {d : Option Addr} (x : Ext K m H m1 H1) (rl1 : Rl K m1 h1 H1) (rx : RX et K m1 H1 kk xs cls d) : W cls d H1 := by
  unfold tidyX at p
  split at p
  · rename_i hu
    obtain ⟨u1, u2⟩ := two hu
    obtain ⟨A, fs, vs, h1', h2, h3, h4, h5⟩ := rx
    refine p (m1.take h.length) H1 cls d (x.take rl) (rl1.take _ u2) ⟨A, fs, vs, h1', h2, h3, RVs.takeM _ u1 h4, h5.imp id fun ⟨dd, e1, e2, e3⟩ => ⟨dd, e1, e2, fun z => e3 (List.mem_of_mem_take z)⟩⟩
  · exact p m1 H1 cls d x rl1 rx
end

/-! ### the program -/
structure Item where
  x : Str
  st : Stmt
  N : List Str
  ps : List Str
  body : Ss
def Item.cfx (c0 : Cfx) (it : Item) : Cfx := { c0 with cf := { c0.cf with N := it.N, kind := fun y => (defScope it.st).names.lookup y } }
def fnsOf (its : List Item) : Nat → Option Fn := fun i => (its[i]?).map fun it => ⟨it.N.length, it.ps.length, it.body⟩
structure Item.Ok (c0 : Cfx) (it : Item) : Prop where
  sc : FnScope it.N it.ps (defScope it.st)
  m : mSs (it.cfx c0) it.body (defBody it.st) = true
structure Land (its : List Item) (c0 : Cfx) (et : ETab) (sub : Nat → Str → Option Bool) (P : Program) (w : World) (K : PySem.W.Frag) (mg : Str → Option Value) (base : Heap) : Prop where
  cfn : c0.cf.fn = its.map fun it => (it.x, it.ps)
  ok : ∀ it ∈ its, it.Ok c0
  fn : ∀ (i : Nat) (it : Item), its[i]? = some it → ∃ f fd, mg it.x = some (.ref f) ∧ Fun K it.x it.x it.st f fd ∧ Binds K fd it.ps [] ∧ ∀ n ks perm, (i, n, ks, perm) ∈ c0.cf.kw → KBinds K fd it.ps ks (gK n ks.length perm) (gK n ks.length perm) ∧ 0 < it.ps.length
  bn : ∀ x, c0.cf.bn.contains x = true → mg x = none
  gcd : c0.cf.gcd = true → mg "gcd" = some (.builtin "math.gcd")
  con : ∀ x c, (x, c) ∈ c0.cf.con → ∃ v u, mg x = some u ∧ RelV v u ∧ ∀ m H, RV K m H c v
  tab : ∀ k, 2 ≤ k → Tab P w K mg base k c0 et sub
section
variable {its : List Item} {c0 : Cfx} {et : ETab} {sub : Nat → Str → Option Bool} {P : Program} {w : World} {K : PySem.W.Frag} {mg : Str → Option Value} {base : Heap}
theorem RS.start {m : List Addr} {H : Hp} {N : List Str} {cs : List C} {vs : List V} (r : RVs K m H cs vs) (n : Nat) (hn : n = N.length) : RS K m H (cs.map some ++ List.replicate (n - cs.length) none) (start N vs) := by
  have hl := r.length
  subst hn
  refine ⟨by unfold L2.start; simp [hl], fun i c q => ?_⟩
  by_cases hi : i < cs.length
  · rw [List.getElem?_append_left (by simpa using hi), List.getElem?_map] at q
    cases e : cs[i]? with
    | none => rw [e] at q; cases q
    | some c' =>
      rw [e] at q
      cases q
      obtain ⟨v, e1, e2⟩ := r.get e
      refine ⟨v, ?_, e2⟩
      unfold L2.start
      rw [List.getElem?_append_left (by simpa [← hl] using hi), List.getElem?_map, e1]
      rfl
  · rw [List.getElem?_append_right (by simpa using Nat.le_of_not_lt hi), List.getElem?_replicate] at q
    split at q
    · cases q
    · cases q
theorem run_ok (L : Land its c0 et sub P w K mg base) (wh : Nat) : ∀ (d i : Nat) (it : Item), its[i]? = some it → ∀ (f : Addr) (fd : FuncData), Fun K it.x it.x it.st f fd → FnOkG P w K mg base (d + 2) f fd it.ps (spI et K (run (fnsOf its) sub wh d i))
  | 0, i, it, hi, f, fd, F => ⟨fun vs H Q E ⟨m, h, cs, rl, rv, p⟩ => False.elim p, fun A outer s H args us vs Q E hg hr he hb hv ⟨m, h, cs, rl, rv, p⟩ => False.elim p⟩
  | d + 1, i, it, hi, f, fd, F => by
    have ok := L.ok it (List.mem_of_getElem? hi)
    have S := ok.sc
    have hf : fnsOf its i = some ⟨it.N.length, it.ps.length, it.body⟩ := by
      unfold fnsOf
      rw [hi]
      rfl
    have hrun : ∀ (cs : List C) (h : Hc), run (fnsOf its) sub wh (d + 1) i cs h = if cs.length = it.ps.length ∧ it.ps.length ≤ it.N.length then
        (match Ss.ev (run (fnsOf its) sub wh d) sub wh it.body none (cs.map some ++ List.replicate (it.N.length - it.ps.length) none) h with
          | .nx _ h1 => tidy h.length .non h1
          | .ret c h1 => tidy h.length c h1
          | .err k ys _ h1 => tidyX h.length k ys h1
          | _ => .bad)
      else .bad := fun cs h => by
      show (match fnsOf its i with
        | none => R.bad
        | some fn => if cs.length = fn.np ∧ fn.np ≤ fn.n then
            (match Ss.ev (run (fnsOf its) sub wh d) sub wh fn.body none (cs.map some ++ List.replicate (fn.n - fn.np) none) h with
              | .nx _ h1 => tidy h.length .non h1
              | .ret c h1 => tidy h.length c h1
              | .err k ys _ h1 => tidyX h.length k ys h1
              | _ => .bad)
          else .bad) = _
      rw [hf]
    refine Sh.Fun.okG F S (fun vs H Q E ⟨m, h, cs, rl, rv, p⟩ => ?_) (fun cdv A outer s H vs Q E hg hr ⟨m, h, cs, rl, rv, p⟩ => ?_)
    · rw [hrun] at p
      split at p
      · rename_i hc
        rw [← rv.length]
        exact hc.1
      · exact False.elim p
    · rw [hrun] at p
      split at p
      · rename_i hc
        have g : GoodX (it.cfx c0) et (run (fnsOf its) sub wh d) sub (d + 2) (cxOf (L2.CX P w) P w K mg base it.N it.x (defScope it.st) f cdv A outer s H E) (fun cls d _ H => E cls d H) := by
          refine ⟨⟨rfl, S.nd, fun x => rfl, rfl, hr, hg, takes_of rfl rfl rfl rfl, L.bn, L.gcd, L.con, fun fi x ps hfi => ?_⟩, ?_, rfl, rfl, ?_, passes_of rfl⟩
          · have hfi : c0.cf.fn[fi]? = some (x, ps) := hfi
            rw [L.cfn, List.getElem?_map] at hfi
            cases e : its[fi]? with
            | none => rw [e] at hfi; cases hfi
            | some it2 =>
              rw [e] at hfi
              cases hfi
              obtain ⟨a2, fd2, q1, q2, q3, q4⟩ := L.fn fi it2 e
              exact ⟨a2, fd2, q1, q2.kp, q3, run_ok L wh d fi it2 e a2 fd2 q2, q4⟩
          · have t := L.tab (d + 2) (by omega)
            exact ⟨t.fs, t.made, t.hd, t.isx, t.xc⟩
          · show (if (defScope it.st).kind.isAnnotationScope then ScopeKind.function else (defScope it.st).kind) = .function
            rw [S.kind]
            rfl
        refine ⟨_, Ss.sound (w := wh) g it.body (defBody it.st) ok.m, m, _, h, rl, RS.start rv it.N.length rfl, ?_⟩
        rw [hc.1]
        cases e : Ss.ev (run (fnsOf its) sub wh d) sub wh it.body none (cs.map some ++ List.replicate (it.N.length - it.ps.length) none) h with
        | nx sl h1 =>
          rw [e] at p
          exact fun m1 H1 σ1 x1 rl1 rs1 => tidy_ok rl p x1 rl1 (v := .non) rfl
        | ret c h1 =>
          rw [e] at p
          exact fun m1 H1 v x1 rl1 rv1 => tidy_ok rl p x1 rl1 rv1
        | err kk ys sl h1 =>
          rw [e] at p
          exact fun m1 H1 σ1 cls d x1 rl1 rs1 rx => tidyX_ok (W := E) rl p x1 rl1 rx
        | bk _ _ => rw [e] at p; exact False.elim p
        | ct _ _ => rw [e] at p; exact False.elim p
        | bad => rw [e] at p; exact False.elim p
      · exact False.elim p
end

/-! ### the head: as the layer's own, where nothing guards -/
theorem law_callG {P : Program} {w : World} {K : PySem.W.Frag} {mg mb : Str → Option Value} {k : Nat} {fa a : Addr} {fd : FuncData} {x : Str} {sp : Sp} {s₁ : Shared} {vs : List Value} {ns : List Int}
    (KX : K.In s₁.heap) (hns : s₁.heap.Ns mainGlobals mg) (hb : s₁.heap.Ns builtinsNs mb) (hbb : ∀ x : Str, x ≠ "__name__" → mb x = bootBuiltins x) (hlim : s₁.heap.NoLimit) (hg : s₁.gens = #[])
    (ha : s₁.heap.get? a = some { cls := .type "list", data := .seq vs.toArray }) (hi : IntsAre vs ns) (hl : ns.length ≤ sizeLine) (hr : Room k callerA)
    (F : ∀ base : Heap, K.In base → base.Ns mainGlobals mg → FnOkG P w K mg base k fa fd [x] sp) (hbind : ∀ (s : Shared) (u : Value), BindsTo s fd ⟨[u], []⟩ [(x, u)])
    (hsp : ∀ H : Hp, Only H → FzL K H a (ns.map V.int) → sp [.ref a] H (fun v _ => v = .bl true) fun _ _ _ => False) :
    codeAny (model P w) callerA (.call (.ref fa) ⟨[.ref a], []⟩) (fun r s' => r = .ok (.ret (.bool true)) ∧ OldK s₁.heap s'.heap ∧ s'.os = s₁.os ∧ AllBare s'.gens) s₁ := by
  have rv := vals_ints hi
  have go : ∀ H : Hp, Only H → FzL K H a (ns.map V.int) → HOk P w H s₁.heap → (∀ b, H b ≠ none → b = a) → (H a ≠ none → K.lookup a = none) →
      codeAny (model P w) callerA (.call (.ref fa) ⟨[.ref a], []⟩) (fun r s' => r = .ok (.ret (.bool true)) ∧ OldK s₁.heap s'.heap ∧ s'.os = s₁.os ∧ AllBare s'.gens) s₁ := fun H hO hS hok hA hK => by
    have isA : ∀ {b : Addr} {u : HO}, H b = some u → b = a := fun {b u} q => hA b (by rw [q]; simp)
    have noD : ∀ {b : Addr} {o : Obj} {es : Array DictEntry} {ep : Nat}, s₁.heap.get? b = some o → o.data = .dict es ep → H b = none := fun {b o es ep} e d => by
      cases q : H b with
      | none => rfl
      | some u =>
        obtain rfl := isA q
        rw [ha] at e
        cases e
        exact absurd (show Data.seq vs.toArray _ = Data.dict es ep from d) (by intro z; cases z)
    have nsT : ∀ {b : Addr} {m : Str → Option Value}, s₁.heap.Ns b m → (hidT s₁.heap H).Ns b m := fun {b m} ⟨o, es, ep, e, d, r⟩ => ⟨o, es, ep, hidT_get e (noD e d), d, r⟩
    have inT : K.In (hidT s₁.heap H) := fun b o e => hidT_get (KX b o e) (by
      cases q : H b with
      | none => rfl
      | some u =>
        obtain rfl := isA q
        rw [hK (by rw [q]; simp)] at e
        cases e)
    have e0 : Env0 P w K mg (hidT s₁.heap H) callerA [] s₁ H := ⟨rfl, ⟨inT, nsT hns, ⟨mb, nsT hb, hbb⟩, let ⟨mc, h1, h2⟩ := hlim; ⟨mc, nsT h1, h2⟩⟩, fun b o e => of_hidT e, Nat.le_of_eq (hidT_size _ _), trivial, fun b hb => absurd (show b ∈ ([] : List Addr) from hb) (by simp), hok, .of_eq hg⟩
    refine codeAny_mono ((F _ inT (nsT hns)).run callerA [] s₁ H ⟨[.ref a], []⟩ [.ref a] [.ref a] _ _ rfl hr e0 (hbind s₁ (.ref a)) (.cons rfl .nil) (hsp H hO hS)) fun r s' h => ?_
    cases r with
    | error e =>
      obtain ⟨_, _, _, _, _, _, _, _, _, _, _, _, z⟩ := h
      exact z.elim
    | ok fl =>
      cases fl <;> first | exact False.elim h | skip
      obtain ⟨v, H', os, bare, un, hok', r', q⟩ := h
      have q' : v = .bl true := q
      subst q'
      obtain rfl := r'
      refine ⟨rfl, OldK.of_keep fun b o e => ?_, os, bare⟩
      cases q : H b with
      | none => exact un.keep b o e q (by intro z; exact absurd (show b ∈ ([] : List Addr) from z) (by simp)) (by simp)
      | some u =>
        rcases hO b with z | ⟨ob, xs, z⟩
        · rw [q] at z; cases z
        · obtain ⟨e1, _⟩ := hok b _ z
          obtain ⟨e2, _⟩ := hok' b _ (un.frzs b ob _ z)
          rw [e] at e1
          cases e1
          exact e2
  cases hk : K.lookup a with
  | some o =>
    have e := KX a o hk
    rw [ha] at e
    cases e
    exact go (fun _ => none) (fun _ => .inl rfl) (.inr ⟨_, vs.toArray, _, hk, rfl, rfl, rfl, by rw [List.size_toArray, hi.length]; exact hl, by simpa using rv⟩) (fun b u z => by have z' : (none : Option HO) = some u := z; cases z') (fun b z => absurd rfl z) fun z => absurd rfl z
  | none =>
    have at_ : (fun b => if b = a then some (HO.frz { cls := .type "list", data := .seq vs.toArray } (.lst (ns.map V.int))) else none) a = some (HO.frz { cls := .type "list", data := .seq vs.toArray } (.lst (ns.map V.int))) := if_pos rfl
    refine go (fun b => if b = a then some (.frz { cls := .type "list", data := .seq vs.toArray } (.lst (ns.map V.int))) else none) (fun b => ?_) (.inl ⟨_, at_⟩) (fun b u z => ?_) (fun b z => ?_) fun _ => hk
    · by_cases hb : b = a
      · exact .inr ⟨_, _, if_pos hb⟩
      · exact .inl (if_neg hb)
    · by_cases hb : b = a
      · have z' := (if_pos hb).symm.trans z
        cases z'
        subst hb
        exact ⟨ha, by rw [List.length_map]; exact hl, vs, _, rv, ha⟩
      · have z' := (if_neg hb).symm.trans z
        cases z'
    · by_cases hb : b = a
      · exact hb
      · exact absurd (if_neg hb) z
/-- the goal that k_head leaves -/
theorem walk_G {l : PySem.W.OpenLaw} {n k : Nat} {q : Program} {loose : List Str} {XP : (Str → Option Value) → Heap → Prop} {YP : World → Heap → Prop} {d : DefRec} {K : Params → PySem.W.Frag} {sp : World → Sp} {x : Str}
    (hn : l.most = some n) (hn2 : n ≤ sizeLine) (hdf : d.params.defaults = []) (hr : Room k callerA)
    (hY : ∀ (w : World) (h : Heap), YP w h → (K w.params).In h)
    (F : ∀ (w : World) (mg : Str → Option Value) (fa : Addr) (h : Heap), (K w.params).In h → h.Ns mainGlobals mg → mg d.name = some (.ref fa) →
      ∃ fd : FuncData, (∀ (s : Shared) (u : Value), BindsTo s fd ⟨[u], []⟩ [(x, u)]) ∧
        ∀ base : Heap, (K w.params).In base → base.Ns mainGlobals mg → FnOkG l.prog w (K w.params) mg base k fa fd [x] (sp w))
    (hsp : ∀ (w : World) (H : Hp) (a : Addr) (ns : List Int), ns.length ≤ n → Only H → FzL (K w.params) H a (ns.map V.int) → sp w [.ref a] H (fun v _ => v = .bl true) fun _ _ _ => False) :
    PySem.W.WalkO q loose XP YP l.row.toRowW d [] (fun f vs => PySem.call f vs) := by
  refine Att.attach_call hn hdf fun w s₀ s₁ mg mb fa o pm cd doc a vs ns G Y ho hd hcd hmg hobj hints hlen hg => ?_
  have KX := hY w _ Y
  obtain ⟨fd, hb, hF⟩ := F w mg fa _ KX G.T.g hmg
  exact law_callG KX G.T.g G.T.b G.T.builtins G.T.nolimit hg hobj hints (Nat.le_trans hlen hn2) hr hF hb fun H hO hS => hsp w H a ns hlen hO hS
end Sh
set_option Elab.async false
set_option linter.all false
set_option autoImplicit false
set_option maxRecDepth 100000
set_option maxHeartbeats 8000000
/-! Sh, part O: the facts of a program's world, from what the written part says. -/
namespace Sh
open PySem PySem.Spec PyProof.Rows L2

section
variable {P : Program} {w : World} {K : PySem.W.Frag} {mg : Str → Option Value} {base : Heap} {C fI : Addr} {fd : FuncData}
/-- __init__(self, v): self.v = v -/
theorem ini1 {f q : Str} {st : Stmt} {q1 q2 q3 q4 : Pos} (F : Fun K "__init__" q st fI fd) (hb : defBody st = [.Assign [.Attribute (.Name "self" q1) f q2] (.Name f q3) q4]) (S : FnScope ["self", f] ["self", f] (defScope st)) (hf1 : (f == ("__debug__" : Str)) = false) (hf2 : (f == ("__classdict__" : Str)) = false)
    (T : OexC K C) (hno : PySem.W.findIn K (.ref C) f = some none) : FnOk P w K mg base (L2.CX P w) 1 fI fd ("self" :: [f]) (spIni C [f]) := by
  refine F.okX S (fun vs H Q E ⟨a, ws, e1, e2, _⟩ => by rw [e1]; simpa using e2) (fun cdv A outer s H vs Q E hr ⟨a, ws, e1, e2, e3, e4⟩ => ?_)
  rw [hb]
  have vis : ∀ x, x ∈ (["self", f] : List Str) → Vis (defScope st) x := fun x hx => (S.par x hx).elim .inl fun z => .inr (.inl z)
  refine ⟨_, pss_one (ps_ost (pe_var (i := 0) rfl (vis "self" (by simp))) (pe_var (i := 1) rfl (vis f (by simp)) hf1 hf2) rfl), ?_⟩
  match ws, e2 with
  | [y], _ =>
    subst e1
    refine ⟨y, rfl, .ref a, rfl, a, C, rfl, T, hno, .inl ⟨e3, fun dx n1 n2 => ?_⟩⟩
    exact e4 dx _ n1 n2 upd_same (by rw [upd_ne n2, upd_same]; rfl) fun b h1 h2 => by rw [upd_ne h1, upd_ne h2]
theorem gK_vals {n k : Nat} {perm : List Nat} {vs zs : List V} {us ws : List Value} (r : Vals vs us) (rz : Vals zs ws) : Vals (gK n k perm vs zs) (gK n k perm us ws) := by
  unfold gK
  rw [r.length, rz.length]
  split
  · refine r.append ?_
    induction perm with
    | nil => exact .nil
    | cons i perm ih =>
      rw [List.filterMap_cons, List.filterMap_cons]
      cases e : zs[i]? with
      | none =>
        have : ws[i]? = none := by
          rw [List.getElem?_eq_none_iff] at e ⊢
          rw [← rz.length]; exact e
        rw [this]
        exact ih
      | some z =>
        obtain ⟨u, e1, e2⟩ := rz.get e
        rw [e1]
        exact .cons e2 ih
  · exact .nil
theorem kb_mk {fd : FuncData} {ps ks : List Str} {n k : Nat} {perm : List Nat} (hp : 0 < ps.length) (h : ∀ (s : Shared) (us ws : List Value), us.length = n → ws.length = k → BindsTo s fd ⟨us, ks.zip ws⟩ (ps.zip (us ++ perm.filterMap fun i => ws[i]?))) : KBinds K fd ps ks (gK n k perm) (gK n k perm) :=
  ⟨fun s us ws _ hl => by
    unfold gK at hl ⊢
    split at hl
    · rename_i hc
      rw [if_pos hc]
      exact h s us ws hc.1 hc.2
    · exact absurd hl (by simp; omega), fun r rz => gK_vals r rz⟩
theorem xc_mk (ga : PySem.W.findIn K (.ref C) "__getattribute__" = some (some (.builtin "BaseException.__getattribute__"))) (gg : PySem.W.findIn K (.ref C) "__getattr__" = some none) (su : PySem.W.subIn K (.ref C) (.type "BaseException") = some true) (hd : PySem.W.hasDictIn K C = true)
    (ha : PySem.W.findIn K (.ref C) "__class__" = some (some (.builtin "object.__class__"))) (hn : PySem.W.specialIn K (.builtin "object.__class__") "__get__" = some (some (.builtin "getset_descriptor.__get__"))) (ht : PySem.W.takesIn K (.builtin "object.__class__") = some true) (hm : PySem.W.mroIn K C (.type "object") = some true) : XcC K C := by
  refine ⟨?_, ga, gg, su, hd, ha, hn, ht, hm⟩
  unfold PySem.W.hasDictIn at hd
  cases e : PySem.W.clsIn K C with
  | none => rw [e] at hd; cases hd
  | some _ => rfl
theorem kit_mk {A : Addr} {b : Bool} (hd : PySem.W.hasDictIn K C = true) (ht : PySem.W.typeIn K (.ref C) = some (.type "type")) (hne : A ≠ C) (hs : PySem.W.subIn K (.ref A) (.ref C) = some b) : PySem.W.kitOne K (.ref A) (.ref C) = some b := by
  have hc : (PySem.W.clsIn K C).isSome = true := by
    unfold PySem.W.hasDictIn at hd
    cases e : PySem.W.clsIn K C with
    | none => rw [e] at hd; cases hd
    | some _ => rfl
  unfold PySem.W.kitOne
  rw [if_neg (by
    intro z
    exact hne (Value.ref.inj (beq_iff_eq.mp z)))]
  have e2 : ((PySem.W.clsIn K C).isSome && PySem.W.typeIn K (.ref C) == some (.type "type")) = true := by rw [hc, ht] <;> rfl
  show (if ((PySem.W.clsIn K C).isSome && PySem.W.typeIn K (.ref C) == some (.type "type")) = true then PySem.W.subIn K (.ref A) (.ref C) else none) = some b
  rw [if_pos e2]
  exact hs
/-- the law's promise at its own script -/
def sp0 (K : PySem.W.Frag) : Sp := fun vs H Q _ => ∃ (a : Addr) (ns : List Int), vs = [.ref a] ∧ ns.length ≤ 63 ∧ FzL K H a (ns.map V.int) ∧ ∀ H', Q (.bl true) H'
theorem rvs_ints {m : List Addr} {H : Hp} : ∀ ns : List Int, RVs K m H (ns.map Sh.C.int) (ns.map V.int)
  | [] => rfl
  | n :: ns => ⟨.int n, _, rfl, rfl, rvs_ints ns⟩
theorem sp0_of {et : ETab} {k : Nat} {f : Addr} {ps : List Str} {r : List Sh.C → Hc → R Sh.C} (F : FnOkG P w K mg base k f fd ps (spI et K r)) (hp : ∀ ns : List Int, ns.length ≤ 63 → ∃ h', r [.frz (ns.map Sh.C.int)] [] = .ok (.bl true) h') : FnOkG P w K mg base k f fd ps (sp0 K) :=
  F.imp fun vs H Q E ⟨a, ns, e1, e2, e3, e4⟩ => by
    obtain ⟨h', hr⟩ := hp ns e2
    refine ⟨[], [], [.frz (ns.map Sh.C.int)], ⟨rfl, .nil, fun n a cs q => by cases q⟩, ?_, ?_⟩
    · rw [e1]
      exact RVs.one ⟨a, _, rfl, e3, rvs_ints ns⟩
    · rw [hr]
      exact fun m' H' v x rl rv => by cases rv; exact e4 H'
end
end Sh
set_option linter.all false
set_option autoImplicit false
set_option maxRecDepth 100000
set_option maxHeartbeats 2000000
/-! Sh, part P: what the plain language's parts do, for reckoning by simp. -/
namespace Sh
open PySem
section
variable {α β : Type}
theorem bind_ok (a : α) (h : Hc) (f : α → Hc → R β) : (R.ok a h).bind f = f a h := rfl
theorem bind_err (k : Nat) (xs : List C) (h : Hc) (f : α → Hc → R β) : (R.err k xs h).bind f = .err k xs h := rfl
theorem bind_bad (f : α → Hc → R β) : (R.bad : R α).bind f = .bad := rfl
theorem th_ok (a : α) (h : Hc) (sl : Sl) (f : α → Hc → RS') : (R.ok a h).th sl f = f a h := rfl
theorem th_err (k : Nat) (xs : List C) (h : Hc) (sl : Sl) (f : α → Hc → RS') : (R.err k xs h).th sl f = .err k xs sl h := rfl
theorem th_bad (sl : Sl) (f : α → Hc → RS') : (R.bad : R α).th sl f = .bad := rfl
theorem nxth (sl : Sl) (h : Hc) (f : Sl → Hc → RS') : (RS'.nx sl h).th f = f sl h := rfl
theorem retth (c : C) (h : Hc) (f : Sl → Hc → RS') : (RS'.ret c h).th f = .ret c h := rfl
theorem errth (k : Nat) (xs : List C) (sl : Sl) (h : Hc) (f : Sl → Hc → RS') : (RS'.err k xs sl h).th f = .err k xs sl h := rfl
theorem badth (f : Sl → Hc → RS') : (RS'.bad).th f = .bad := rfl
theorem noerr_ok (a : α) (h : Hc) : (R.ok a h).noerr = .ok a h := rfl
end
/-- the end of a def -/
def fin (h : Hc) : RS' → R C
  | .nx _ h1 => tidy h.length .non h1
  | .ret c h1 => tidy h.length c h1
  | .err k ys _ h1 => tidyX h.length k ys h1
  | _ => .bad
theorem tidy_same (h : Hc) (c : C) : tidy h.length c h = .ok c h := by
  unfold tidy
  split
  · rw [List.take_length]
  · rfl
theorem tidyX_same (h : Hc) (k : Nat) (xs : List C) : tidyX h.length k xs h = .err k xs h := by
  unfold tidyX
  split
  · rw [List.take_length]
  · rfl
theorem fin_nx (sl : Sl) (h h1 : Hc) : fin h (.nx sl h1) = tidy h.length .non h1 := rfl
theorem fin_ret (c : C) (h h1 : Hc) : fin h (.ret c h1) = tidy h.length c h1 := rfl
theorem fin_err (k : Nat) (ys : List C) (sl : Sl) (h h1 : Hc) : fin h (.err k ys sl h1) = tidyX h.length k ys h1 := rfl

/-! ### sizes -/
def Bd (k : Nat) (i : Int) : Prop := i.natAbs < 2 ^ k
theorem Bd.mono {a b : Nat} {i : Int} (h : Bd a i) (l : a ≤ b) : Bd b i := Nat.lt_of_lt_of_le h (Nat.pow_le_pow_right (by decide) l)
theorem Bd.mul {a b : Nat} {i j : Int} (h : Bd a i) (k : Bd b j) : Bd (a + b) (i * j) := by
  unfold Bd at *
  rw [Int.natAbs_mul, Nat.pow_add]
  exact Nat.mul_lt_mul_of_lt_of_lt h k
theorem Bd.add {a : Nat} {i j : Int} (h : Bd a i) (k : Bd a j) : Bd (a + 1) (i + j) := by
  unfold Bd at *
  rw [Nat.pow_succ]
  have := Int.natAbs_add_le i j
  omega
theorem Bd.sub {a : Nat} {i j : Int} (h : Bd a i) (k : Bd a j) : Bd (a + 1) (i - j) := by
  unfold Bd at *
  rw [Nat.pow_succ]
  have := Int.natAbs_sub_le i j
  omega
theorem Bd.neg {a : Nat} {i : Int} (h : Bd a i) : Bd a (-i) := by
  unfold Bd at *
  rw [Int.natAbs_neg]; exact h
theorem Bd.le {a : Nat} {i j : Int} (h : Bd a i) (k : j.natAbs ≤ i.natAbs) : Bd a j := Nat.lt_of_le_of_lt k h
theorem tb_of {i : Int} {a : Nat} (h : Bd a i) (l : a ≤ 60000) : tooBig i = false := by
  unfold tooBig big
  have := h.mono l
  exact decide_eq_false (Nat.not_le.mpr this)
theorem mul_of {a b : Nat} {i j : Int} (h : Bd a i) (k : Bd b j) (l : a ≤ 60000) (l2 : b ≤ 60000) (hc : Hc) : mulC (.int i) (.int j) hc = .ok (.int (i * j)) hc := by
  show (if tooBig i || tooBig j then R.bad else R.ok (C.int (i * j)) hc) = _
  rw [tb_of h l, tb_of k l2]
  rfl
theorem div_of {b : Nat} {i j : Int} (hj : j ≠ 0) (k : Bd b j) (l : b ≤ 8000) (hc : Hc) : divC (.int i) (.int j) hc = .ok (.int (i.fdiv j)) hc := by
  show (if j = 0 ∨ divLine ≤ j.natAbs then R.bad else R.ok (C.int (i.fdiv j)) hc) = _
  rw [if_neg]
  rintro (z | z)
  · exact hj z
  · have := k.mono l
    unfold divLine at z
    exact absurd this (Nat.not_lt.mpr z)
theorem mod_of {i j : Int} (hj : j ≠ 0) (hc : Hc) : modC (.int i) (.int j) hc = .ok (.int (i.fmod j)) hc := by
  show (if j = 0 then R.bad else R.ok (C.int (i.fmod j)) hc) = _
  rw [if_neg hj]
theorem bd_small {i : Int} (h1 : -1000000000000000000000 < i) (h2 : i < 1000000000000000000000) : Bd 80 i := by
  unfold Bd
  omega
theorem eq_int (h : Hc) (i j : Int) : cmpop .eq (.int i) (.int j) h = .ok (.bl (i == j)) h := rfl
theorem ne_int (h : Hc) (i j : Int) : cmpop .ne (.int i) (.int j) h = .ok (.bl (!(i == j))) h := rfl
mutual
theorem pd_refl : ∀ d : PyData, d.hasDict = false → pdEq d d = true
  | .none, _ => rfl
  | .bool b, _ => by show (b == b) = true; simp
  | .int i, _ => by show (i == i) = true; simp
  | .str x, _ => by show (x == x) = true; simp
  | .list xs, h => pds_refl xs h
  | .tuple xs, h => pds_refl xs h
  | .dict _, h => by cases h
theorem pds_refl : ∀ ds : List PyData, PyData.hasDictAll ds = false → pdEqs ds ds = true
  | [], _ => rfl
  | d :: ds, h => by
    have h : (d.hasDict || PyData.hasDictAll ds) = false := h
    obtain ⟨h1, h2⟩ := Bool.or_eq_false_iff.mp h
    show (pdEq d d && pdEqs ds ds) = true
    rw [pd_refl d h1, pds_refl ds h2]
    rfl
end
end Sh
set_option Elab.async false
set_option linter.all false
set_option autoImplicit false
set_option maxRecDepth 100000
set_option maxHeartbeats 8000000

namespace K10
open PySem PySem.Spec PyProof.Rows L2 Sh
def top (i : Nat) : Stmt := PySem.Challenge.pw_whichpaces_k10_ratios_reckoned.main.body.getD i (.Pass ⟨0, 0, 0, 0⟩)
def clsBody : Stmt → List Stmt
  | .ClassDef _ _ _ b _ _ _ _ _ _ _ => b
  | _ => []
def meth (i j : Nat) : Stmt := (clsBody (top i)).getD j (.Pass ⟨0, 0, 0, 0⟩)
abbrev st0 : Stmt := top 2
def N0 : List Str := ["value"]
def P0 : List Str := ["value"]
def b0 : Ss := (.cons (.ret (.andv (.isi (.var 0) .int) (.notv (.isi (.var 0) .bool)))) .nil)
abbrev st1 : Stmt := top 10
def N1 : List Str := ["value"]
def P1 : List Str := ["value"]
def b1 : Ss := (.cons (.ifs (.not (.tr (.call 0 (.cons (.var 0) .nil)))) (.cons (.raise 0 (.cons (.var 0) .nil)) .nil) .nil) .nil)
abbrev st2 : Stmt := top 11
def N2 : List Str := ["value"]
def P2 : List Str := ["value"]
def b2 : Ss := (.cons (.ifs (.or (.not (.tr (.call 0 (.cons (.var 0) .nil)))) (.cmp .eq (.var 0) (.con (.int 0)))) (.cons (.raise 0 (.cons (.var 0) .nil)) .nil) .nil) .nil)
abbrev st3 : Stmt := top 13
def N3 : List Str := ["value", "number", "under"]
def P3 : List Str := ["value"]
def b3 : Ss := (.cons (.ifs (.or (.not (.tr (.isi (.var 0) .tuple))) (.cmp .ne (.bi .len (.cons (.var 0) .nil)) (.con (.int 2)))) (.cons (.ret (.con (.bl false))) .nil) .nil) (.cons (.asg (.tup (.cons (.v 1) (.cons (.v 2) .nil))) (.var 0)) (.cons (.ifs (.or (.not (.tr (.call 0 (.cons (.var 1) .nil)))) (.not (.tr (.call 0 (.cons (.var 2) .nil))))) (.cons (.ret (.con (.bl false))) .nil) .nil) (.cons (.ret (.andv (.cmp .ge (.var 2) (.con (.int 1))) (.cmp .eq (.bi .gcd (.cons (.var 1) (.cons (.var 2) .nil))) (.con (.int 1))))) .nil))))
abbrev st4 : Stmt := top 14
def N4 : List Str := ["value"]
def P4 : List Str := ["value"]
def b4 : Ss := (.cons (.ifs (.not (.tr (.call 3 (.cons (.var 0) .nil)))) (.cons (.raise 1 (.cons (.var 0) .nil)) .nil) .nil) .nil)
abbrev st5 : Stmt := top 15
def N5 : List Str := ["number", "under", "common"]
def P5 : List Str := ["number", "under"]
def b5 : Ss := (.cons (.asg (.v 2) (.bi .gcd (.cons (.var 0) (.cons (.var 1) .nil)))) (.cons (.ifs (.cmp .lt (.var 1) (.con (.int 0))) (.cons (.asg (.v 2) (.neg (.var 2))) .nil) .nil) (.cons (.ret (.tup (.cons (.bin .div (.var 0) (.var 2)) (.cons (.bin .div (.var 1) (.var 2)) .nil)))) .nil)))
abbrev st6 : Stmt := top 16
def N6 : List Str := ["number", "under"]
def P6 : List Str := ["number", "under"]
def b6 : Ss := (.cons (.expr (.call 1 (.cons (.var 0) .nil))) (.cons (.expr (.call 2 (.cons (.var 1) .nil))) (.cons (.ret (.call 5 (.cons (.var 0) (.cons (.var 1) .nil)))) .nil)))
abbrev st7 : Stmt := top 17
def N7 : List Str := ["ratio", "other"]
def P7 : List Str := ["ratio", "other"]
def b7 : Ss := (.cons (.expr (.call 4 (.cons (.var 0) .nil))) (.cons (.expr (.call 4 (.cons (.var 1) .nil))) (.cons (.ret (.call 5 (.cons (.bin .add (.bin .mul (.idx (.var 0) (.con (.int 0))) (.idx (.var 1) (.con (.int 1)))) (.bin .mul (.idx (.var 1) (.con (.int 0))) (.idx (.var 0) (.con (.int 1))))) (.cons (.bin .mul (.idx (.var 0) (.con (.int 1))) (.idx (.var 1) (.con (.int 1)))) .nil)))) .nil)))
abbrev st8 : Stmt := top 18
def N8 : List Str := ["ratio", "other"]
def P8 : List Str := ["ratio", "other"]
def b8 : Ss := (.cons (.expr (.call 4 (.cons (.var 0) .nil))) (.cons (.expr (.call 4 (.cons (.var 1) .nil))) (.cons (.ret (.call 5 (.cons (.bin .sub (.bin .mul (.idx (.var 0) (.con (.int 0))) (.idx (.var 1) (.con (.int 1)))) (.bin .mul (.idx (.var 1) (.con (.int 0))) (.idx (.var 0) (.con (.int 1))))) (.cons (.bin .mul (.idx (.var 0) (.con (.int 1))) (.idx (.var 1) (.con (.int 1)))) .nil)))) .nil)))
abbrev st9 : Stmt := top 19
def N9 : List Str := ["ratio", "other"]
def P9 : List Str := ["ratio", "other"]
def b9 : Ss := (.cons (.expr (.call 4 (.cons (.var 0) .nil))) (.cons (.expr (.call 4 (.cons (.var 1) .nil))) (.cons (.ret (.call 5 (.cons (.bin .mul (.idx (.var 0) (.con (.int 0))) (.idx (.var 1) (.con (.int 0)))) (.cons (.bin .mul (.idx (.var 0) (.con (.int 1))) (.idx (.var 1) (.con (.int 1)))) .nil)))) .nil)))
abbrev st10 : Stmt := top 20
def N10 : List Str := ["ratio", "other"]
def P10 : List Str := ["ratio", "other"]
def b10 : Ss := (.cons (.expr (.call 4 (.cons (.var 0) .nil))) (.cons (.expr (.call 4 (.cons (.var 1) .nil))) (.cons (.ifs (.cmp .eq (.idx (.var 1) (.con (.int 0))) (.con (.int 0))) (.cons (.raise 2 .nil) .nil) .nil) (.cons (.ret (.call 5 (.cons (.bin .mul (.idx (.var 0) (.con (.int 0))) (.idx (.var 1) (.con (.int 1)))) (.cons (.bin .mul (.idx (.var 0) (.con (.int 1))) (.idx (.var 1) (.con (.int 0)))) .nil)))) .nil))))
abbrev st11 : Stmt := top 21
def N11 : List Str := ["ratio", "other", "first", "second"]
def P11 : List Str := ["ratio", "other"]
def b11 : Ss := (.cons (.expr (.call 4 (.cons (.var 0) .nil))) (.cons (.expr (.call 4 (.cons (.var 1) .nil))) (.cons (.asg (.v 2) (.bin .mul (.idx (.var 0) (.con (.int 0))) (.idx (.var 1) (.con (.int 1))))) (.cons (.asg (.v 3) (.bin .mul (.idx (.var 1) (.con (.int 0))) (.idx (.var 0) (.con (.int 1))))) (.cons (.ret (.bin .sub (.cmp .gt (.var 2) (.var 3)) (.cmp .lt (.var 2) (.var 3)))) .nil)))))
abbrev st12 : Stmt := top 22
def N12 : List Str := ["ratio"]
def P12 : List Str := ["ratio"]
def b12 : Ss := (.cons (.expr (.call 4 (.cons (.var 0) .nil))) (.cons (.ret (.bin .div (.idx (.var 0) (.con (.int 0))) (.idx (.var 0) (.con (.int 1))))) .nil))
abbrev st13 : Stmt := top 24
def N13 : List Str := []
def P13 : List Str := []
def b13 : Ss := (.cons (.ret (.lst (.cons (.tup (.cons (.con (.int 2)) (.cons (.con (.int 4)) .nil))) (.cons (.tup (.cons (.con (.int 1)) (.cons (.con (.int 0)) .nil))) (.cons (.tup (.cons (.con (.int 1)) (.cons (.neg (.con (.int 2))) .nil))) (.cons (.tup (.cons (.con (.int 0)) (.cons (.con (.int 2)) .nil))) (.cons (.lst (.cons (.con (.int 1)) (.cons (.con (.int 2)) .nil))) (.cons (.tup (.cons (.con (.int 1)) .nil)) (.cons (.tup (.cons (.con (.int 1)) (.cons (.con (.int 2)) (.cons (.con (.int 3)) .nil)))) (.cons (.tup (.cons (.con (.bl true)) (.cons (.con (.int 1)) .nil))) (.cons (.tup (.cons (.con (.int 1)) (.cons (.con (.bl true)) .nil))) (.cons (.tup (.cons (.con (.int 0)) (.cons (.con (.bl false)) .nil))) (.cons (.tup (.cons (.con (.str "1")) (.cons (.con (.int 2)) .nil))) (.cons (.tup (.cons (.con (.int 1)) (.cons (.con (.str "2")) .nil))) (.cons (.tup (.cons (.con .non) (.cons (.con (.int 1)) .nil))) (.cons (.con .non) (.cons (.con (.str "1/2")) (.cons (.con (.int 1)) (.cons (.tup .nil) (.cons (.tup (.cons (.tup (.cons (.con (.int 1)) (.cons (.con (.int 2)) .nil))) (.cons (.con (.int 1)) .nil))) (.cons (.tup (.cons (.con (.int 1)) (.cons (.tup (.cons (.con (.int 2)) .nil)) .nil))) (.cons (.lst (.cons (.lst (.cons (.con (.int 1)) .nil)) (.cons (.con (.int 2)) .nil))) .nil)))))))))))))))))))))) .nil)
abbrev st14 : Stmt := top 25
def N14 : List Str := ["script", "k", "cell", "start"]
def P14 : List Str := ["script", "k"]
def b14 : Ss := (.cons (.asg (.v 2) (.ite (.cmp .lt (.var 1) (.bi .len (.cons (.var 0) .nil))) (.bi .abs (.cons (.idx (.var 0) (.var 1)) .nil)) (.bin .add (.bin .add (.bin .mul (.con (.int 613)) (.var 1)) (.con (.int 29))) (.bin .mod (.bi .sum (.cons (.slc (.var 0) .none (.some (.con (.int 1)))) .nil)) (.con (.int 1000003)))))) (.cons (.asg (.v 3) (.bin .add (.bin .mod (.bin .add (.bin .add (.bin .mul (.bin .mod (.var 2) (.con (.int 2147483549))) (.con (.int 40014))) (.bin .mul (.con (.int 9221)) (.var 1))) (.con (.int 57))) (.con (.int 2147483563))) (.con (.int 1)))) (.cons (.ret (.lst (.cons (.bi .max2 (.cons (.con (.int 0)) (.cons (.bin .sub (.var 2) (.bin .pow (.con (.int 10)) (.con (.int 18)))) .nil))) (.cons (.var 3) .nil)))) .nil)))
abbrev st15 : Stmt := top 26
def N15 : List Str := ["pot", "many", "digit"]
def P15 : List Str := ["pot", "many"]
def b15 : Ss := (.cons (.ifs (.cmp .gt (.idx (.var 0) (.con (.int 0))) (.con (.int 0))) (.cons (.asg (.tup (.cons (.sub (.var 0) (.con (.int 0))) (.cons (.v 2) .nil))) (.bi .divmod (.cons (.idx (.var 0) (.con (.int 0))) (.cons (.var 1) .nil)))) (.cons (.ret (.var 2)) .nil)) .nil) (.cons (.asg (.sub (.var 0) (.con (.int 1))) (.bin .mod (.bin .add (.bin .mul (.idx (.var 0) (.con (.int 1))) (.con (.int 39373))) (.con (.int 9209))) (.con (.int 2147483587)))) (.cons (.ret (.bin .mod (.bin .div (.bin .mod (.bin .mul (.idx (.var 0) (.con (.int 1))) (.idx (.var 0) (.con (.int 1)))) (.con (.int 2147483563))) (.con (.int 17))) (.var 1))) .nil)))
abbrev st16 : Stmt := top 27
def N16 : List Str := ["pot", "way", "size"]
def P16 : List Str := ["pot"]
def b16 : Ss := (.cons (.asg (.v 1) (.call 15 (.cons (.var 0) (.cons (.con (.int 4)) .nil)))) (.cons (.ifs (.cmp .eq (.var 1) (.con (.int 3))) (.cons (.asg (.v 2) (.bin .add (.bin .mul (.call 15 (.cons (.var 0) (.cons (.bin .pow (.con (.int 10)) (.con (.int 6))) .nil))) (.bin .pow (.con (.int 10)) (.con (.int 6)))) (.call 15 (.cons (.var 0) (.cons (.bin .pow (.con (.int 10)) (.con (.int 6))) .nil))))) (.cons (.ret (.ite (.cmp .eq (.call 15 (.cons (.var 0) (.cons (.con (.int 2)) .nil))) (.con (.int 0))) (.var 2) (.neg (.var 2)))) .nil)) .nil) (.cons (.ret (.bin .sub (.call 15 (.cons (.var 0) (.cons (.con (.int 25)) .nil))) (.con (.int 12)))) .nil)))
abbrev st17 : Stmt := top 28
def N17 : List Str := ["pot", "under"]
def P17 : List Str := ["pot"]
def b17 : Ss := (.cons (.asg (.v 1) (.call 16 (.cons (.var 0) .nil))) (.cons (.ret (.ite (.cmp .ne (.var 1) (.con (.int 0))) (.var 1) (.bin .add (.con (.int 1)) (.call 15 (.cons (.var 0) (.cons (.con (.int 9)) .nil)))))) .nil))
abbrev st18 : Stmt := top 29
def N18 : List Str := ["number", "under", "one", "other"]
def P18 : List Str := ["number", "under"]
def b18 : Ss := (.cons (.ifs (.cmp .lt (.var 1) (.con (.int 0))) (.cons (.par 0 1 (.neg (.var 0)) (.neg (.var 1))) .nil) .nil) (.cons (.par 2 3 (.bi .abs (.cons (.var 0) .nil)) (.var 1)) (.cons (.whl (.cmp .ne (.var 2) (.con (.int 0))) (.cons (.par 2 3 (.bin .mod (.var 3) (.var 2)) (.var 2)) .nil)) (.cons (.ret (.tup (.cons (.bin .div (.var 0) (.var 3)) (.cons (.bin .div (.var 1) (.var 3)) .nil)))) .nil))))
abbrev st19 : Stmt := top 30
def N19 : List Str := ["word", "one", "other"]
def P19 : List Str := ["word", "one", "other"]
def b19 : Ss := (.cons (.ifs (.cmp .eq (.var 0) (.con (.str "made"))) (.cons (.ret (.call 6 (.cons (.var 1) (.cons (.var 2) .nil)))) .nil) .nil) (.cons (.ifs (.cmp .eq (.var 0) (.con (.str "plus"))) (.cons (.ret (.call 7 (.cons (.var 1) (.cons (.var 2) .nil)))) .nil) .nil) (.cons (.ifs (.cmp .eq (.var 0) (.con (.str "minus"))) (.cons (.ret (.call 8 (.cons (.var 1) (.cons (.var 2) .nil)))) .nil) .nil) (.cons (.ifs (.cmp .eq (.var 0) (.con (.str "times"))) (.cons (.ret (.call 9 (.cons (.var 1) (.cons (.var 2) .nil)))) .nil) .nil) (.cons (.ifs (.cmp .eq (.var 0) (.con (.str "over"))) (.cons (.ret (.call 10 (.cons (.var 1) (.cons (.var 2) .nil)))) .nil) .nil) (.cons (.ret (.ite (.cmp .eq (.var 0) (.con (.str "compared"))) (.call 11 (.cons (.var 1) (.cons (.var 2) .nil))) (.call 12 (.cons (.var 1) .nil)))) .nil))))))
abbrev st20 : Stmt := top 31
def N20 : List Str := ["word", "one", "other", "e"]
def P20 : List Str := ["word", "one", "other"]
def b20 : Ss := (.cons (.try_ (.cons (.expr (.call 19 (.cons (.var 0) (.cons (.var 1) (.cons (.var 2) .nil))))) .nil) (.cons [1] 3 (.cons (.ret (.lst (.cons (.con (.str "InvalidRatio")) (.cons (.bi .repr (.cons (.excf 0) .nil)) (.cons (.excis "PaceError") .nil))))) .nil) (.cons [0] 3 (.cons (.ret (.lst (.cons (.con (.str "InvalidInteger")) (.cons (.bi .repr (.cons (.excf 0) .nil)) (.cons (.excis "PaceError") .nil))))) .nil) (.cons [2] 3 (.cons (.ret (.lst (.cons (.con (.str "DividedByNought")) (.cons (.con (.str "")) (.cons (.excis "StateError") .nil))))) .nil) .nil)))) (.cons (.ret (.lst .nil)) .nil))
abbrev st21 : Stmt := top 32
def N21 : List Str := ["told", "due"]
def P21 : List Str := ["told", "due"]
def b21 : Ss := (.cons (.ret (.cmp .eq (.bi .repr (.cons (.var 0) .nil)) (.bi .repr (.cons (.var 1) .nil)))) .nil)
abbrev st22 : Stmt := top 33
def N22 : List Str := ["a", "b", "c", "d", "one", "other", "gap", "floor"]
def P22 : List Str := ["a", "b", "c", "d"]
def b22 : Ss := (.cons (.par 4 5 (.call 18 (.cons (.var 0) (.cons (.var 1) .nil))) (.call 18 (.cons (.var 2) (.cons (.var 3) .nil)))) (.cons (.ifs (.or (.not (.tr (.call 21 (.cons (.call 6 (.cons (.var 0) (.cons (.var 1) .nil))) (.cons (.var 4) .nil))))) (.not (.tr (.call 21 (.cons (.callk 6 .nil (.cons (.var 3) (.cons (.var 2) .nil)) [1, 0]) (.cons (.var 5) .nil)))))) (.cons (.ret (.con (.bl false))) .nil) .nil) (.cons (.ifs (.or (.cmp .isn (.call 3 (.cons (.var 4) .nil)) (.con (.bl true))) (.cmp .isn (.callk 3 .nil (.cons (.var 5) .nil) [0]) (.con (.bl true)))) (.cons (.ret (.con (.bl false))) .nil) .nil) (.cons (.ifs (.not (.tr (.call 21 (.cons (.call 7 (.cons (.var 4) (.cons (.var 5) .nil))) (.cons (.call 18 (.cons (.bin .add (.bin .mul (.var 0) (.var 3)) (.bin .mul (.var 2) (.var 1))) (.cons (.bin .mul (.var 1) (.var 3)) .nil))) .nil))))) (.cons (.ret (.con (.bl false))) .nil) .nil) (.cons (.ifs (.not (.tr (.call 21 (.cons (.callk 8 .nil (.cons (.var 4) (.cons (.var 5) .nil)) [0, 1]) (.cons (.call 18 (.cons (.bin .sub (.bin .mul (.var 0) (.var 3)) (.bin .mul (.var 2) (.var 1))) (.cons (.bin .mul (.var 1) (.var 3)) .nil))) .nil))))) (.cons (.ret (.con (.bl false))) .nil) .nil) (.cons (.ifs (.not (.tr (.call 21 (.cons (.call 9 (.cons (.var 4) (.cons (.var 5) .nil))) (.cons (.call 18 (.cons (.bin .mul (.var 0) (.var 2)) (.cons (.bin .mul (.var 1) (.var 3)) .nil))) .nil))))) (.cons (.ret (.con (.bl false))) .nil) .nil) (.cons (.ifs (.cmp .eq (.var 2) (.con (.int 0))) (.cons (.ifs (.cmp .ne (.call 20 (.cons (.con (.str "over")) (.cons (.var 4) (.cons (.var 5) .nil)))) (.lst (.cons (.con (.str "DividedByNought")) (.cons (.con (.str "")) (.cons (.con (.bl true)) .nil))))) (.cons (.ret (.con (.bl false))) .nil) .nil) .nil) (.cons (.ifs (.not (.tr (.call 21 (.cons (.call 10 (.cons (.var 4) (.cons (.var 5) .nil))) (.cons (.call 18 (.cons (.bin .mul (.var 0) (.var 3)) (.cons (.bin .mul (.var 1) (.var 2)) .nil))) .nil))))) (.cons (.ret (.con (.bl false))) .nil) .nil) .nil)) (.cons (.asg (.v 6) (.bin .sub (.bin .mul (.idx (.var 4) (.con (.int 0))) (.idx (.var 5) (.con (.int 1)))) (.bin .mul (.idx (.var 5) (.con (.int 0))) (.idx (.var 4) (.con (.int 1)))))) (.cons (.ifs (.cmp .ne (.call 11 (.cons (.var 4) (.cons (.var 5) .nil))) (.bin .sub (.cmp .gt (.var 6) (.con (.int 0))) (.cmp .lt (.var 6) (.con (.int 0))))) (.cons (.ret (.con (.bl false))) .nil) .nil) (.cons (.asg (.v 7) (.callk 12 .nil (.cons (.var 4) .nil) [0])) (.cons (.ifs (.or (.tr (.isi (.var 7) .bool)) (.not (.tr (.isi (.var 7) .int)))) (.cons (.ret (.con (.bl false))) .nil) .nil) (.cons (.ret (.chain .le .lt (.bin .mul (.var 7) (.idx (.var 4) (.con (.int 1)))) (.idx (.var 4) (.con (.int 0))) (.bin .mul (.bin .add (.var 7) (.con (.int 1))) (.idx (.var 4) (.con (.int 1)))))) .nil))))))))))))
abbrev st23 : Stmt := top 34
def N23 : List Str := ["pot", "one", "some", "odd", "later", "word", "strange", "under"]
def P23 : List Str := ["pot", "one"]
def b23 : Ss := (.cons (.asg (.v 2) (.call 13 .nil)) (.cons (.par 3 4 (.idx (.var 2) (.call 15 (.cons (.var 0) (.cons (.bi .len (.cons (.var 2) .nil)) .nil)))) (.idx (.var 2) (.call 15 (.cons (.var 0) (.cons (.bi .len (.cons (.var 2) .nil)) .nil))))) (.cons (.ifs (.cmp .isn (.call 3 (.cons (.var 3) .nil)) (.con (.bl false))) (.cons (.ret (.con (.bl false))) .nil) .nil) (.cons (.for_ (.v 5) (.seq (.lst (.cons (.con (.str "plus")) (.cons (.con (.str "minus")) (.cons (.con (.str "times")) (.cons (.con (.str "over")) (.cons (.con (.str "compared")) .nil))))))) (.cons (.ifs (.cmp .ne (.call 20 (.cons (.var 5) (.cons (.var 3) (.cons (.var 4) .nil)))) (.lst (.cons (.con (.str "InvalidRatio")) (.cons (.bi .repr (.cons (.var 3) .nil)) (.cons (.con (.bl true)) .nil))))) (.cons (.ret (.con (.bl false))) .nil) .nil) (.cons (.ifs (.cmp .ne (.call 20 (.cons (.var 5) (.cons (.var 1) (.cons (.var 3) .nil)))) (.lst (.cons (.con (.str "InvalidRatio")) (.cons (.bi .repr (.cons (.var 3) .nil)) (.cons (.con (.bl true)) .nil))))) (.cons (.ret (.con (.bl false))) .nil) .nil) .nil))) (.cons (.ifs (.cmp .ne (.call 20 (.cons (.con (.str "floor")) (.cons (.var 3) (.cons (.con .non) .nil)))) (.lst (.cons (.con (.str "InvalidRatio")) (.cons (.bi .repr (.cons (.var 3) .nil)) (.cons (.con (.bl true)) .nil))))) (.cons (.ret (.con (.bl false))) .nil) .nil) (.cons (.asg (.v 6) (.idx (.lst (.cons (.con (.bl true)) (.cons (.con (.bl false)) (.cons (.con .non) (.cons (.con (.str "1")) (.cons (.tup (.cons (.con (.int 1)) (.cons (.con (.int 2)) .nil))) (.cons (.lst (.cons (.con (.int 3)) .nil)) (.cons (.con (.str "")) (.cons (.tup .nil) .nil))))))))) (.call 15 (.cons (.var 0) (.cons (.con (.int 8)) .nil))))) (.cons (.ifs (.cmp .ne (.call 20 (.cons (.con (.str "made")) (.cons (.var 6) (.cons (.con (.int 0)) .nil)))) (.lst (.cons (.con (.str "InvalidInteger")) (.cons (.bi .repr (.cons (.var 6) .nil)) (.cons (.con (.bl true)) .nil))))) (.cons (.ret (.con (.bl false))) .nil) .nil) (.cons (.for_ (.v 7) (.seq (.lst (.cons (.var 6) (.cons (.con (.int 0)) .nil)))) (.cons (.ifs (.cmp .ne (.call 20 (.cons (.con (.str "made")) (.cons (.idx (.var 1) (.con (.int 0))) (.cons (.var 7) .nil)))) (.lst (.cons (.con (.str "InvalidInteger")) (.cons (.bi .repr (.cons (.var 7) .nil)) (.cons (.con (.bl true)) .nil))))) (.cons (.ret (.con (.bl false))) .nil) .nil) .nil)) (.cons (.ret (.con (.bl true))) .nil)))))))))
abbrev st24 : Stmt := top 35
def N24 : List Str := ["script", "k", "pot", "a", "b", "c", "d"]
def P24 : List Str := ["script"]
def b24 : Ss := (.cons (.for_ (.v 1) (.rng1 (.con (.int 2))) (.cons (.asg (.v 2) (.call 14 (.cons (.var 0) (.cons (.var 1) .nil)))) (.cons (.asg (.tup (.cons (.v 3) (.cons (.v 4) (.cons (.v 5) (.cons (.v 6) .nil))))) (.tup (.cons (.call 16 (.cons (.var 2) .nil)) (.cons (.call 17 (.cons (.var 2) .nil)) (.cons (.call 16 (.cons (.var 2) .nil)) (.cons (.call 17 (.cons (.var 2) .nil)) .nil)))))) (.cons (.ifs (.or (.not (.tr (.call 22 (.cons (.var 3) (.cons (.var 4) (.cons (.var 5) (.cons (.var 6) .nil))))))) (.not (.tr (.call 22 (.cons (.var 5) (.cons (.var 6) (.cons (.var 3) (.cons (.var 4) .nil)))))))) (.cons (.ret (.con (.bl false))) .nil) .nil) (.cons (.ifs (.or (.not (.tr (.call 22 (.cons (.var 3) (.cons (.var 4) (.cons (.bin .mul (.var 3) (.con (.int 3))) (.cons (.bin .mul (.var 4) (.con (.int 3))) .nil))))))) (.not (.tr (.call 22 (.cons (.var 3) (.cons (.var 4) (.cons (.con (.int 0)) (.cons (.var 6) .nil)))))))) (.cons (.ret (.con (.bl false))) .nil) .nil) (.cons (.ifs (.not (.tr (.call 23 (.cons (.var 2) (.cons (.call 18 (.cons (.var 3) (.cons (.var 4) .nil))) .nil))))) (.cons (.ret (.con (.bl false))) .nil) .nil) .nil)))))) (.cons (.ret (.con (.bl true))) .nil))
def its : List Item := [⟨"is_integer", st0, N0, P0, b0⟩, ⟨"check_integer", st1, N1, P1, b1⟩, ⟨"check_divisor", st2, N2, P2, b2⟩, ⟨"is_ratio", st3, N3, P3, b3⟩, ⟨"check_ratio", st4, N4, P4, b4⟩, ⟨"lowest", st5, N5, P5, b5⟩, ⟨"ratio_made", st6, N6, P6, b6⟩, ⟨"ratio_plus", st7, N7, P7, b7⟩, ⟨"ratio_minus", st8, N8, P8, b8⟩, ⟨"ratio_times", st9, N9, P9, b9⟩, ⟨"ratio_over", st10, N10, P10, b10⟩, ⟨"ratio_compared", st11, N11, P11, b11⟩, ⟨"ratio_floor", st12, N12, P12, b12⟩, ⟨"_law_odd", st13, N13, P13, b13⟩, ⟨"_law_pot", st14, N14, P14, b14⟩, ⟨"_law_draw", st15, N15, P15, b15⟩, ⟨"_law_whole", st16, N16, P16, b16⟩, ⟨"_law_under", st17, N17, P17, b17⟩, ⟨"_law_least", st18, N18, P18, b18⟩, ⟨"_law_told", st19, N19, P19, b19⟩, ⟨"_law_raised", st20, N20, P20, b20⟩, ⟨"_law_is", st21, N21, P21, b21⟩, ⟨"_law_pair_right", st22, N22, P22, b22⟩, ⟨"_law_refusals_right", st23, N23, P23, b23⟩, ⟨"law", st24, N24, P24, b24⟩]
def c0 : Cfx where
  cf := { N := [], kind := fun _ => none, fn := its.map fun it => (it.x, it.ps), kw := [(12, 0, ["ratio"], [0]), (8, 0, ["ratio", "other"], [0, 1]), (3, 0, ["value"], [0]), (6, 0, ["under", "number"], [1, 0])], con := [], bn := ["abs", "bool", "divmod", "int", "isinstance", "len", "max", "range", "repr", "sum", "tuple"], gcd := true }
  ex := [("InvalidInteger", 0, true), ("InvalidRatio", 1, true), ("DividedByNought", 2, false)]
  hd := [("DividedByNought", [2]), ("InvalidInteger", [0]), ("InvalidRatio", [1])]
  fs := [["value"], ["value"], []]
  cl := ["StateError", "PaceError"]
def sub : Nat → Str → Option Bool := fun k x => ([((0, "StateError"), false), ((0, "PaceError"), true), ((1, "StateError"), false), ((1, "PaceError"), true), ((2, "StateError"), true), ((2, "PaceError"), false)] : List ((Nat × Str) × Bool)).lookup (k, x)
theorem sc0 : FnScope N0 P0 (defScope st0) := ⟨rfl, rfl, rfl, by decide +kernel, rfl, by decide +kernel, by decide +kernel⟩
theorem ok0 : Item.Ok c0 ⟨"is_integer", st0, N0, P0, b0⟩ := ⟨sc0, by decide +kernel⟩
theorem sc1 : FnScope N1 P1 (defScope st1) := ⟨rfl, rfl, rfl, by decide +kernel, rfl, by decide +kernel, by decide +kernel⟩
theorem ok1 : Item.Ok c0 ⟨"check_integer", st1, N1, P1, b1⟩ := ⟨sc1, by decide +kernel⟩
theorem sc2 : FnScope N2 P2 (defScope st2) := ⟨rfl, rfl, rfl, by decide +kernel, rfl, by decide +kernel, by decide +kernel⟩
theorem ok2 : Item.Ok c0 ⟨"check_divisor", st2, N2, P2, b2⟩ := ⟨sc2, by decide +kernel⟩
theorem sc3 : FnScope N3 P3 (defScope st3) := ⟨rfl, rfl, rfl, by decide +kernel, rfl, by decide +kernel, by decide +kernel⟩
theorem ok3 : Item.Ok c0 ⟨"is_ratio", st3, N3, P3, b3⟩ := ⟨sc3, by decide +kernel⟩
theorem sc4 : FnScope N4 P4 (defScope st4) := ⟨rfl, rfl, rfl, by decide +kernel, rfl, by decide +kernel, by decide +kernel⟩
theorem ok4 : Item.Ok c0 ⟨"check_ratio", st4, N4, P4, b4⟩ := ⟨sc4, by decide +kernel⟩
theorem sc5 : FnScope N5 P5 (defScope st5) := ⟨rfl, rfl, rfl, by decide +kernel, rfl, by decide +kernel, by decide +kernel⟩
theorem ok5 : Item.Ok c0 ⟨"lowest", st5, N5, P5, b5⟩ := ⟨sc5, by decide +kernel⟩
theorem sc6 : FnScope N6 P6 (defScope st6) := ⟨rfl, rfl, rfl, by decide +kernel, rfl, by decide +kernel, by decide +kernel⟩
theorem ok6 : Item.Ok c0 ⟨"ratio_made", st6, N6, P6, b6⟩ := ⟨sc6, by decide +kernel⟩
theorem sc7 : FnScope N7 P7 (defScope st7) := ⟨rfl, rfl, rfl, by decide +kernel, rfl, by decide +kernel, by decide +kernel⟩
theorem ok7 : Item.Ok c0 ⟨"ratio_plus", st7, N7, P7, b7⟩ := ⟨sc7, by decide +kernel⟩
theorem sc8 : FnScope N8 P8 (defScope st8) := ⟨rfl, rfl, rfl, by decide +kernel, rfl, by decide +kernel, by decide +kernel⟩
theorem ok8 : Item.Ok c0 ⟨"ratio_minus", st8, N8, P8, b8⟩ := ⟨sc8, by decide +kernel⟩
theorem sc9 : FnScope N9 P9 (defScope st9) := ⟨rfl, rfl, rfl, by decide +kernel, rfl, by decide +kernel, by decide +kernel⟩
theorem ok9 : Item.Ok c0 ⟨"ratio_times", st9, N9, P9, b9⟩ := ⟨sc9, by decide +kernel⟩
theorem sc10 : FnScope N10 P10 (defScope st10) := ⟨rfl, rfl, rfl, by decide +kernel, rfl, by decide +kernel, by decide +kernel⟩
theorem ok10 : Item.Ok c0 ⟨"ratio_over", st10, N10, P10, b10⟩ := ⟨sc10, by decide +kernel⟩
theorem sc11 : FnScope N11 P11 (defScope st11) := ⟨rfl, rfl, rfl, by decide +kernel, rfl, by decide +kernel, by decide +kernel⟩
theorem ok11 : Item.Ok c0 ⟨"ratio_compared", st11, N11, P11, b11⟩ := ⟨sc11, by decide +kernel⟩
theorem sc12 : FnScope N12 P12 (defScope st12) := ⟨rfl, rfl, rfl, by decide +kernel, rfl, by decide +kernel, by decide +kernel⟩
theorem ok12 : Item.Ok c0 ⟨"ratio_floor", st12, N12, P12, b12⟩ := ⟨sc12, by decide +kernel⟩
theorem sc13 : FnScope N13 P13 (defScope st13) := ⟨rfl, rfl, rfl, by decide +kernel, rfl, by decide +kernel, by decide +kernel⟩
theorem ok13 : Item.Ok c0 ⟨"_law_odd", st13, N13, P13, b13⟩ := ⟨sc13, by decide +kernel⟩
theorem sc14 : FnScope N14 P14 (defScope st14) := ⟨rfl, rfl, rfl, by decide +kernel, rfl, by decide +kernel, by decide +kernel⟩
theorem ok14 : Item.Ok c0 ⟨"_law_pot", st14, N14, P14, b14⟩ := ⟨sc14, by decide +kernel⟩
theorem sc15 : FnScope N15 P15 (defScope st15) := ⟨rfl, rfl, rfl, by decide +kernel, rfl, by decide +kernel, by decide +kernel⟩
theorem ok15 : Item.Ok c0 ⟨"_law_draw", st15, N15, P15, b15⟩ := ⟨sc15, by decide +kernel⟩
theorem sc16 : FnScope N16 P16 (defScope st16) := ⟨rfl, rfl, rfl, by decide +kernel, rfl, by decide +kernel, by decide +kernel⟩
theorem ok16 : Item.Ok c0 ⟨"_law_whole", st16, N16, P16, b16⟩ := ⟨sc16, by decide +kernel⟩
theorem sc17 : FnScope N17 P17 (defScope st17) := ⟨rfl, rfl, rfl, by decide +kernel, rfl, by decide +kernel, by decide +kernel⟩
theorem ok17 : Item.Ok c0 ⟨"_law_under", st17, N17, P17, b17⟩ := ⟨sc17, by decide +kernel⟩
theorem sc18 : FnScope N18 P18 (defScope st18) := ⟨rfl, rfl, rfl, by decide +kernel, rfl, by decide +kernel, by decide +kernel⟩
theorem ok18 : Item.Ok c0 ⟨"_law_least", st18, N18, P18, b18⟩ := ⟨sc18, by decide +kernel⟩
theorem sc19 : FnScope N19 P19 (defScope st19) := ⟨rfl, rfl, rfl, by decide +kernel, rfl, by decide +kernel, by decide +kernel⟩
theorem ok19 : Item.Ok c0 ⟨"_law_told", st19, N19, P19, b19⟩ := ⟨sc19, by decide +kernel⟩
theorem sc20 : FnScope N20 P20 (defScope st20) := ⟨rfl, rfl, rfl, by decide +kernel, rfl, by decide +kernel, by decide +kernel⟩
theorem ok20 : Item.Ok c0 ⟨"_law_raised", st20, N20, P20, b20⟩ := ⟨sc20, by decide +kernel⟩
theorem sc21 : FnScope N21 P21 (defScope st21) := ⟨rfl, rfl, rfl, by decide +kernel, rfl, by decide +kernel, by decide +kernel⟩
theorem ok21 : Item.Ok c0 ⟨"_law_is", st21, N21, P21, b21⟩ := ⟨sc21, by decide +kernel⟩
theorem sc22 : FnScope N22 P22 (defScope st22) := ⟨rfl, rfl, rfl, by decide +kernel, rfl, by decide +kernel, by decide +kernel⟩
theorem ok22 : Item.Ok c0 ⟨"_law_pair_right", st22, N22, P22, b22⟩ := ⟨sc22, by decide +kernel⟩
theorem sc23 : FnScope N23 P23 (defScope st23) := ⟨rfl, rfl, rfl, by decide +kernel, rfl, by decide +kernel, by decide +kernel⟩
theorem ok23 : Item.Ok c0 ⟨"_law_refusals_right", st23, N23, P23, b23⟩ := ⟨sc23, by decide +kernel⟩
theorem sc24 : FnScope N24 P24 (defScope st24) := ⟨rfl, rfl, rfl, by decide +kernel, rfl, by decide +kernel, by decide +kernel⟩
theorem ok24 : Item.Ok c0 ⟨"law", st24, N24, P24, b24⟩ := ⟨sc24, by decide +kernel⟩
theorem all_ok : ∀ it ∈ its, it.Ok c0 := by
  intro it h
  simp only [its, List.mem_cons, List.not_mem_nil, or_false] at h
  rcases h with rfl | rfl | rfl | rfl | rfl | rfl | rfl | rfl | rfl | rfl | rfl | rfl | rfl | rfl | rfl | rfl | rfl | rfl | rfl | rfl | rfl | rfl | rfl | rfl | rfl
  · exact ok0
  · exact ok1
  · exact ok2
  · exact ok3
  · exact ok4
  · exact ok5
  · exact ok6
  · exact ok7
  · exact ok8
  · exact ok9
  · exact ok10
  · exact ok11
  · exact ok12
  · exact ok13
  · exact ok14
  · exact ok15
  · exact ok16
  · exact ok17
  · exact ok18
  · exact ok19
  · exact ok20
  · exact ok21
  · exact ok22
  · exact ok23
  · exact ok24
end K10
set_option linter.all false
set_option autoImplicit false
set_option maxRecDepth 100000
set_option maxHeartbeats 2000000
namespace K10
open Sh PySem
def WH' : Nat := 2 ^ 200
abbrev WH := WH'
abbrev Rn (d : Nat) := run (fnsOf its) sub WH d
theorem u0 (d : Nat) (h : Hc) (x0 : C) : Rn (d + 1) 0 [x0] h = fin h (Ss.ev (Rn d) sub WH b0 none [some x0] h) := rfl
theorem u1 (d : Nat) (h : Hc) (x0 : C) : Rn (d + 1) 1 [x0] h = fin h (Ss.ev (Rn d) sub WH b1 none [some x0] h) := rfl
theorem u2 (d : Nat) (h : Hc) (x0 : C) : Rn (d + 1) 2 [x0] h = fin h (Ss.ev (Rn d) sub WH b2 none [some x0] h) := rfl
theorem u3 (d : Nat) (h : Hc) (x0 : C) : Rn (d + 1) 3 [x0] h = fin h (Ss.ev (Rn d) sub WH b3 none [some x0, none, none] h) := rfl
theorem u4 (d : Nat) (h : Hc) (x0 : C) : Rn (d + 1) 4 [x0] h = fin h (Ss.ev (Rn d) sub WH b4 none [some x0] h) := rfl
theorem u5 (d : Nat) (h : Hc) (x0 x1 : C) : Rn (d + 1) 5 [x0, x1] h = fin h (Ss.ev (Rn d) sub WH b5 none [some x0, some x1, none] h) := rfl
theorem u6 (d : Nat) (h : Hc) (x0 x1 : C) : Rn (d + 1) 6 [x0, x1] h = fin h (Ss.ev (Rn d) sub WH b6 none [some x0, some x1] h) := rfl
theorem u7 (d : Nat) (h : Hc) (x0 x1 : C) : Rn (d + 1) 7 [x0, x1] h = fin h (Ss.ev (Rn d) sub WH b7 none [some x0, some x1] h) := rfl
theorem u8 (d : Nat) (h : Hc) (x0 x1 : C) : Rn (d + 1) 8 [x0, x1] h = fin h (Ss.ev (Rn d) sub WH b8 none [some x0, some x1] h) := rfl
theorem u9 (d : Nat) (h : Hc) (x0 x1 : C) : Rn (d + 1) 9 [x0, x1] h = fin h (Ss.ev (Rn d) sub WH b9 none [some x0, some x1] h) := rfl
theorem u10 (d : Nat) (h : Hc) (x0 x1 : C) : Rn (d + 1) 10 [x0, x1] h = fin h (Ss.ev (Rn d) sub WH b10 none [some x0, some x1] h) := rfl
theorem u11 (d : Nat) (h : Hc) (x0 x1 : C) : Rn (d + 1) 11 [x0, x1] h = fin h (Ss.ev (Rn d) sub WH b11 none [some x0, some x1, none, none] h) := rfl
theorem u12 (d : Nat) (h : Hc) (x0 : C) : Rn (d + 1) 12 [x0] h = fin h (Ss.ev (Rn d) sub WH b12 none [some x0] h) := rfl
theorem u13 (d : Nat) (h : Hc) : Rn (d + 1) 13 [] h = fin h (Ss.ev (Rn d) sub WH b13 none [] h) := rfl
theorem u14 (d : Nat) (h : Hc) (x0 x1 : C) : Rn (d + 1) 14 [x0, x1] h = fin h (Ss.ev (Rn d) sub WH b14 none [some x0, some x1, none, none] h) := rfl
theorem u15 (d : Nat) (h : Hc) (x0 x1 : C) : Rn (d + 1) 15 [x0, x1] h = fin h (Ss.ev (Rn d) sub WH b15 none [some x0, some x1, none] h) := rfl
theorem u16 (d : Nat) (h : Hc) (x0 : C) : Rn (d + 1) 16 [x0] h = fin h (Ss.ev (Rn d) sub WH b16 none [some x0, none, none] h) := rfl
theorem u17 (d : Nat) (h : Hc) (x0 : C) : Rn (d + 1) 17 [x0] h = fin h (Ss.ev (Rn d) sub WH b17 none [some x0, none] h) := rfl
theorem u18 (d : Nat) (h : Hc) (x0 x1 : C) : Rn (d + 1) 18 [x0, x1] h = fin h (Ss.ev (Rn d) sub WH b18 none [some x0, some x1, none, none] h) := rfl
theorem u19 (d : Nat) (h : Hc) (x0 x1 x2 : C) : Rn (d + 1) 19 [x0, x1, x2] h = fin h (Ss.ev (Rn d) sub WH b19 none [some x0, some x1, some x2] h) := rfl
theorem u20 (d : Nat) (h : Hc) (x0 x1 x2 : C) : Rn (d + 1) 20 [x0, x1, x2] h = fin h (Ss.ev (Rn d) sub WH b20 none [some x0, some x1, some x2, none] h) := rfl
theorem u21 (d : Nat) (h : Hc) (x0 x1 : C) : Rn (d + 1) 21 [x0, x1] h = fin h (Ss.ev (Rn d) sub WH b21 none [some x0, some x1] h) := rfl
theorem u22 (d : Nat) (h : Hc) (x0 x1 x2 x3 : C) : Rn (d + 1) 22 [x0, x1, x2, x3] h = fin h (Ss.ev (Rn d) sub WH b22 none [some x0, some x1, some x2, some x3, none, none, none, none] h) := rfl
theorem u23 (d : Nat) (h : Hc) (x0 x1 : C) : Rn (d + 1) 23 [x0, x1] h = fin h (Ss.ev (Rn d) sub WH b23 none [some x0, some x1, none, none, none, none, none, none] h) := rfl
theorem u24 (d : Nat) (h : Hc) (x0 : C) : Rn (d + 1) 24 [x0] h = fin h (Ss.ev (Rn d) sub WH b24 none [some x0, none, none, none, none, none, none] h) := rfl

def isI : C → Bool
  | .int _ => true
  | _ => false
theorem r0 (d : Nat) (h : Hc) (x : C) : Rn (d + 1) 0 [x] h = .ok (.bl (isI x)) h := by
  rw [u0]
  cases x <;> simp [b0, Ss.ev, S.ev, E.ev, Es.ev, T.ev, Pt.put, Pts.put, Pts.len, Es.len, Oe.ev, It.ev, bind_ok, bind_err, bind_bad, th_ok, th_err, th_bad, nxth, retth, errth, badth, noerr_ok, fin_nx, fin_ret, fin_err, tidy_same, tidyX_same, List.getElem?_cons_zero, List.getElem?_cons_succ, List.set_cons_zero, List.set_cons_succ, isiC, isiT, tyC, isI]
theorem truth_bl (b : Bool) (h : Hc) : truth (.bl b) h = .ok b h := rfl
theorem r1 (d : Nat) (h : Hc) (x : C) : Rn (d + 2) 1 [x] h = if isI x then .ok .non h else .err 0 [x] h := by
  rw [u1]
  cases e : isI x <;> simp [b1, Ss.ev, S.ev, E.ev, Es.ev, T.ev, Pt.put, Pts.put, Pts.len, Es.len, Oe.ev, It.ev, bind_ok, bind_err, bind_bad, th_ok, th_err, th_bad, nxth, retth, errth, badth, noerr_ok, fin_nx, fin_ret, fin_err, tidy_same, tidyX_same, List.getElem?_cons_zero, List.getElem?_cons_succ, List.set_cons_zero, List.set_cons_succ, r0, truth_bl, e]
theorem r2 (d : Nat) (h : Hc) (i : Int) : Rn (d + 2) 2 [.int i] h = if i = 0 then .err 0 [.int i] h else .ok .non h := by
  rw [u2]
  by_cases e : i = 0 <;> simp [b2, Ss.ev, S.ev, E.ev, Es.ev, T.ev, Pt.put, Pts.put, Pts.len, Es.len, Oe.ev, It.ev, bind_ok, bind_err, bind_bad, th_ok, th_err, th_bad, nxth, retth, errth, badth, noerr_ok, fin_nx, fin_ret, fin_err, tidy_same, tidyX_same, List.getElem?_cons_zero, List.getElem?_cons_succ, List.set_cons_zero, List.set_cons_succ, r0, truth_bl, isI, eq_int, e]
theorem r2' (d : Nat) (h : Hc) (x : C) (e : isI x = false) : Rn (d + 2) 2 [x] h = .err 0 [x] h := by
  rw [u2]
  simp [b2, Ss.ev, S.ev, E.ev, Es.ev, T.ev, Pt.put, Pts.put, Pts.len, Es.len, Oe.ev, It.ev, bind_ok, bind_err, bind_bad, th_ok, th_err, th_bad, nxth, retth, errth, badth, noerr_ok, fin_nx, fin_ret, fin_err, tidy_same, tidyX_same, List.getElem?_cons_zero, List.getElem?_cons_succ, List.set_cons_zero, List.set_cons_succ, r0, truth_bl, e]
theorem ge_int (h : Hc) (i j : Int) : cmpop .ge (.int i) (.int j) h = .ok (.bl (decide (j ≤ i))) h := rfl
theorem lt_int (h : Hc) (i j : Int) : cmpop .lt (.int i) (.int j) h = .ok (.bl (decide (i < j))) h := rfl
theorem gt_int (h : Hc) (i j : Int) : cmpop .gt (.int i) (.int j) h = .ok (.bl (decide (j < i))) h := rfl
theorem gcd_int (h : Hc) (i j : Int) : bi .gcd [.int i, .int j] h = .ok (.int (Nat.gcd i.natAbs j.natAbs : Nat)) h := rfl
theorem len_tup (h : Hc) (xs : List C) : bi .len [.tup xs] h = .ok (.int xs.length) h := rfl
theorem r3 (d : Nat) (h : Hc) (n u : Int) : Rn (d + 2) 3 [.tup [.int n, .int u]] h = .ok (.bl (decide (1 ≤ u) && decide (Nat.gcd n.natAbs u.natAbs = 1))) h := by
  rw [u3]
  by_cases e : 1 ≤ u <;> by_cases f : Nat.gcd n.natAbs u.natAbs = 1 <;> simp [b3, Ss.ev, S.ev, E.ev, Es.ev, T.ev, Pt.put, Pts.put, Pts.len, Es.len, Oe.ev, It.ev, bind_ok, bind_err, bind_bad, th_ok, th_err, th_bad, nxth, retth, errth, badth, noerr_ok, fin_nx, fin_ret, fin_err, tidy_same, tidyX_same, List.getElem?_cons_zero, List.getElem?_cons_succ, List.set_cons_zero, List.set_cons_succ, r0, truth_bl, isI, isiC, isiT, tyC, len_tup, ne_int, gcd_int, ge_int, eq_int, e, f] <;> omega
theorem r4 (d : Nat) (h : Hc) (x : C) (b : Bool) (e : Rn d 3 [x] h = .ok (.bl b) h) : Rn (d + 1) 4 [x] h = if b then .ok .non h else .err 1 [x] h := by
  rw [u4]
  cases b <;> simp [b4, Ss.ev, S.ev, E.ev, Es.ev, T.ev, Pt.put, Pts.put, Pts.len, Es.len, Oe.ev, It.ev, bind_ok, bind_err, bind_bad, th_ok, th_err, th_bad, nxth, retth, errth, badth, noerr_ok, fin_nx, fin_ret, fin_err, tidy_same, tidyX_same, List.getElem?_cons_zero, List.getElem?_cons_succ, List.set_cons_zero, List.set_cons_succ, truth_bl, e]
def low (n u : Int) : Int × Int := if u < 0 then (n.fdiv (-(Nat.gcd n.natAbs u.natAbs : Int)), u.fdiv (-(Nat.gcd n.natAbs u.natAbs : Int))) else (n.fdiv (Nat.gcd n.natAbs u.natAbs : Int), u.fdiv (Nat.gcd n.natAbs u.natAbs : Int))
def tp (p : Int × Int) : C := .tup [.int p.1, .int p.2]
theorem bin_div (i j : C) (h : Hc) : binop .div i j h = divC i j h := rfl
theorem bin_mul (i j : C) (h : Hc) : binop .mul i j h = mulC i j h := rfl
theorem bin_add (i j : Int) (h : Hc) : binop .add (.int i) (.int j) h = .ok (.int (i + j)) h := rfl
theorem bin_sub (i j : Int) (h : Hc) : binop .sub (.int i) (.int j) h = .ok (.int (i - j)) h := rfl
theorem line2 : (2 : Nat) ≤ lineN := by decide
theorem r5 (d : Nat) (h : Hc) (n u : Int) (hu : u ≠ 0) (hb : Bd 600 u) : Rn (d + 1) 5 [.int n, .int u] h = .ok (tp (low n u)) h := by
  rw [u5]
  have hg : (Nat.gcd n.natAbs u.natAbs : Int) ≠ 0 := by
    have := Nat.gcd_pos_of_pos_right n.natAbs (Int.natAbs_pos.mpr hu)
    omega
  have hb' : Bd 600 (Nat.gcd n.natAbs u.natAbs : Int) := hb.le (Nat.le_of_dvd (Int.natAbs_pos.mpr hu) (Nat.gcd_dvd_right _ _))
  have hg2 : -(Nat.gcd n.natAbs u.natAbs : Int) ≠ 0 := by omega
  by_cases e : u < 0
  · simp [b5, Ss.ev, S.ev, E.ev, Es.ev, T.ev, Pt.put, Pts.put, Pts.len, Es.len, Oe.ev, It.ev, bind_ok, bind_err, bind_bad, th_ok, th_err, th_bad, nxth, retth, errth, badth, noerr_ok, fin_nx, fin_ret, fin_err, tidy_same, tidyX_same, List.getElem?_cons_zero, List.getElem?_cons_succ, List.set_cons_zero, List.set_cons_succ, gcd_int, lt_int, e, bin_div, div_of hg2 hb'.neg, low, tp, lineN]
  · simp [b5, Ss.ev, S.ev, E.ev, Es.ev, T.ev, Pt.put, Pts.put, Pts.len, Es.len, Oe.ev, It.ev, bind_ok, bind_err, bind_bad, th_ok, th_err, th_bad, nxth, retth, errth, badth, noerr_ok, fin_nx, fin_ret, fin_err, tidy_same, tidyX_same, List.getElem?_cons_zero, List.getElem?_cons_succ, List.set_cons_zero, List.set_cons_succ, gcd_int, lt_int, e, bin_div, div_of hg hb', low, tp, lineN]
end K10
set_option linter.all false
set_option autoImplicit false
set_option maxRecDepth 100000
set_option maxHeartbeats 4000000
namespace K10
open Sh PySem
structure Gd (a b : Int) : Prop where
  pos : 1 ≤ b
  cop : Nat.gcd a.natAbs b.natAbs = 1
theorem item0 (a b : C) (h : Hc) : item (.tup [a, b]) (.int 0) h = .ok a h := rfl
theorem item1 (a b : C) (h : Hc) : item (.tup [a, b]) (.int 1) h = .ok b h := rfl
variable {a b c e : Int}
theorem r3g (g : Gd a b) (d : Nat) (h : Hc) : Rn (d + 2) 3 [.tup [.int a, .int b]] h = .ok (.bl true) h := by
  rw [r3]
  simp [g.pos, g.cop]
theorem r4g (g : Gd a b) (d : Nat) (h : Hc) : Rn (d + 3) 4 [.tup [.int a, .int b]] h = .ok .non h := by
  rw [r4 _ _ _ true (r3g g _ _)]
  rfl
theorem r6 (d : Nat) (h : Hc) (n u : Int) (hu : u ≠ 0) (hb : Bd 600 u) : Rn (d + 3) 6 [.int n, .int u] h = .ok (tp (low n u)) h := by
  rw [u6]
  simp [b6, Ss.ev, S.ev, E.ev, Es.ev, T.ev, Pt.put, Pts.put, Pts.len, Es.len, Oe.ev, It.ev, bind_ok, bind_err, bind_bad, th_ok, th_err, th_bad, nxth, retth, errth, badth, noerr_ok, fin_nx, fin_ret, fin_err, tidy_same, tidyX_same, List.getElem?_cons_zero, List.getElem?_cons_succ, List.set_cons_zero, List.set_cons_succ, r1, r2, r5 _ _ n u hu hb, isI, hu]
theorem ne0 (g : Gd a b) : b ≠ 0 := by have := g.pos; omega
theorem r7 (g : Gd a b) (k : Gd c e) (ha : Bd 200 a) (hb : Bd 200 b) (hc : Bd 200 c) (he : Bd 200 e) (d : Nat) (h : Hc) : Rn (d + 4) 7 [.tup [.int a, .int b], .tup [.int c, .int e]] h = .ok (tp (low (a * e + c * b) (b * e))) h := by
  rw [u7]
  simp [b7, Ss.ev, S.ev, E.ev, Es.ev, T.ev, Pt.put, Pts.put, Pts.len, Es.len, Oe.ev, It.ev, bind_ok, bind_err, bind_bad, th_ok, th_err, th_bad, nxth, retth, errth, badth, noerr_ok, fin_nx, fin_ret, fin_err, tidy_same, tidyX_same, List.getElem?_cons_zero, List.getElem?_cons_succ, List.set_cons_zero, List.set_cons_succ, r4g g, r4g k, item0, item1, bin_mul, mul_of ha he, mul_of hc hb, mul_of hb he, bin_add, r5 _ _ (a * e + c * b) (b * e) (Int.mul_ne_zero (ne0 g) (ne0 k)) ((hb.mul he).mono (by decide))]
theorem r8 (g : Gd a b) (k : Gd c e) (ha : Bd 200 a) (hb : Bd 200 b) (hc : Bd 200 c) (he : Bd 200 e) (d : Nat) (h : Hc) : Rn (d + 4) 8 [.tup [.int a, .int b], .tup [.int c, .int e]] h = .ok (tp (low (a * e - c * b) (b * e))) h := by
  rw [u8]
  simp [b8, Ss.ev, S.ev, E.ev, Es.ev, T.ev, Pt.put, Pts.put, Pts.len, Es.len, Oe.ev, It.ev, bind_ok, bind_err, bind_bad, th_ok, th_err, th_bad, nxth, retth, errth, badth, noerr_ok, fin_nx, fin_ret, fin_err, tidy_same, tidyX_same, List.getElem?_cons_zero, List.getElem?_cons_succ, List.set_cons_zero, List.set_cons_succ, r4g g, r4g k, item0, item1, bin_mul, mul_of ha he, mul_of hc hb, mul_of hb he, bin_sub, r5 _ _ (a * e - c * b) (b * e) (Int.mul_ne_zero (ne0 g) (ne0 k)) ((hb.mul he).mono (by decide))]
theorem r9 (g : Gd a b) (k : Gd c e) (ha : Bd 200 a) (hb : Bd 200 b) (hc : Bd 200 c) (he : Bd 200 e) (d : Nat) (h : Hc) : Rn (d + 4) 9 [.tup [.int a, .int b], .tup [.int c, .int e]] h = .ok (tp (low (a * c) (b * e))) h := by
  rw [u9]
  simp [b9, Ss.ev, S.ev, E.ev, Es.ev, T.ev, Pt.put, Pts.put, Pts.len, Es.len, Oe.ev, It.ev, bind_ok, bind_err, bind_bad, th_ok, th_err, th_bad, nxth, retth, errth, badth, noerr_ok, fin_nx, fin_ret, fin_err, tidy_same, tidyX_same, List.getElem?_cons_zero, List.getElem?_cons_succ, List.set_cons_zero, List.set_cons_succ, r4g g, r4g k, item0, item1, bin_mul, mul_of ha hc, mul_of hb he, r5 _ _ (a * c) (b * e) (Int.mul_ne_zero (ne0 g) (ne0 k)) ((hb.mul he).mono (by decide))]
theorem r10 (g : Gd a b) (k : Gd c e) (ha : Bd 200 a) (hb : Bd 200 b) (hc : Bd 200 c) (he : Bd 200 e) (d : Nat) (h : Hc) : Rn (d + 4) 10 [.tup [.int a, .int b], .tup [.int c, .int e]] h = if c = 0 then .err 2 [] h else .ok (tp (low (a * e) (b * c))) h := by
  rw [u10]
  by_cases z : c = 0
  · subst z
    simp [b10, Ss.ev, S.ev, E.ev, Es.ev, T.ev, Pt.put, Pts.put, Pts.len, Es.len, Oe.ev, It.ev, bind_ok, bind_err, bind_bad, th_ok, th_err, th_bad, nxth, retth, errth, badth, noerr_ok, fin_nx, fin_ret, fin_err, tidy_same, tidyX_same, List.getElem?_cons_zero, List.getElem?_cons_succ, List.set_cons_zero, List.set_cons_succ, r4g g, r4g k, item0, item1, eq_int]
  · simp [b10, Ss.ev, S.ev, E.ev, Es.ev, T.ev, Pt.put, Pts.put, Pts.len, Es.len, Oe.ev, It.ev, bind_ok, bind_err, bind_bad, th_ok, th_err, th_bad, nxth, retth, errth, badth, noerr_ok, fin_nx, fin_ret, fin_err, tidy_same, tidyX_same, List.getElem?_cons_zero, List.getElem?_cons_succ, List.set_cons_zero, List.set_cons_succ, r4g g, r4g k, item0, item1, eq_int, z, bin_mul, mul_of ha he, mul_of hb hc, r5 _ _ (a * e) (b * c) (Int.mul_ne_zero (ne0 g) z) ((hb.mul hc).mono (by decide))]
theorem bin_subB (i j : Bool) (h : Hc) : binop .sub (.bl i) (.bl j) h = .ok (.int ((if i = true then 1 else 0) - (if j = true then 1 else 0))) h := rfl
theorem r11 (g : Gd a b) (k : Gd c e) (ha : Bd 200 a) (hb : Bd 200 b) (hc : Bd 200 c) (he : Bd 200 e) (d : Nat) (h : Hc) : Rn (d + 4) 11 [.tup [.int a, .int b], .tup [.int c, .int e]] h = .ok (.int ((if c * b < a * e then 1 else 0) - (if a * e < c * b then 1 else 0))) h := by
  rw [u11]
  simp [b11, Ss.ev, S.ev, E.ev, Es.ev, T.ev, Pt.put, Pts.put, Pts.len, Es.len, Oe.ev, It.ev, bind_ok, bind_err, bind_bad, th_ok, th_err, th_bad, nxth, retth, errth, badth, noerr_ok, fin_nx, fin_ret, fin_err, tidy_same, tidyX_same, List.getElem?_cons_zero, List.getElem?_cons_succ, List.set_cons_zero, List.set_cons_succ, r4g g, r4g k, item0, item1, bin_mul, mul_of ha he, mul_of hc hb, gt_int, lt_int, bin_subB]
theorem r12 (g : Gd a b) (hb : Bd 200 b) (d : Nat) (h : Hc) : Rn (d + 4) 12 [.tup [.int a, .int b]] h = .ok (.int (a.fdiv b)) h := by
  rw [u12]
  simp [b12, Ss.ev, S.ev, E.ev, Es.ev, T.ev, Pt.put, Pts.put, Pts.len, Es.len, Oe.ev, It.ev, bind_ok, bind_err, bind_bad, th_ok, th_err, th_bad, nxth, retth, errth, badth, noerr_ok, fin_nx, fin_ret, fin_err, tidy_same, tidyX_same, List.getElem?_cons_zero, List.getElem?_cons_succ, List.set_cons_zero, List.set_cons_succ, r4g g, item0, item1, bin_div, div_of (ne0 g) hb]
/-- repr of a pair, and that of one told alike -/
theorem repr_tp (ha : Bd 600 a) (hb : Bd 600 b) (h : Hc) : bi .repr [.tup [.int a, .int b]] h = .ok (.rep (.tuple [.int a, .int b])) h := by
  have l : ∀ i : Int, Bd 600 i → i.natAbs.log2 < 1920 ∧ (if i == 0 then 0 else i.natAbs.log2 + 1) ≤ 601 := fun i hi => by
    have : i.natAbs.log2 ≤ 600 := by
      by_cases z : i.natAbs = 0
      · rw [z]; decide
      · have := (Nat.log2_lt z).mpr hi
        omega
    refine ⟨by omega, ?_⟩
    split
    · omega
    · omega
  obtain ⟨h1, h2⟩ := l a ha
  obtain ⟨h3, h4⟩ := l b hb
  have e : datum h (.tup [.int a, .int b]) = some (.tuple [.int a, .int b]) := rfl
  show (match datum h (.tup [.int a, .int b]) with
      | some d => if d.showable && SeqAt.shaped d && shortD d then R.ok (C.rep d) h else .bad
      | none => .bad) = _
  rw [e]
  have s1 : (PyData.tuple [.int a, .int b]).showable = true := by
    simp [PyData.showable, PyData.showableAll, h1, h3]
  have s2 : SeqAt.shaped (PyData.tuple [.int a, .int b]) = true := by
    simp [SeqAt.shaped, PyData.canLay0, PyData.canLayAll0, PyData.depth, PyData.depthAll]
  have s3 : shortD (PyData.tuple [.int a, .int b]) = true := by
    refine decide_eq_true ?_
    show (if (a == 0) = true then 0 else a.natAbs.log2 + 1) + 1 + ((if (b == 0) = true then 0 else b.natAbs.log2 + 1) + 1 + 0) ≤ 8000
    revert h2 h4
    generalize (if (a == 0) = true then 0 else a.natAbs.log2 + 1) = x
    generalize (if (b == 0) = true then 0 else b.natAbs.log2 + 1) = y
    omega
  simp [s1, s2, s3]
theorem r21 (ha : Bd 600 a) (hb : Bd 600 b) (d : Nat) (h : Hc) : Rn (d + 1) 21 [.tup [.int a, .int b], .tup [.int a, .int b]] h = .ok (.bl true) h := by
  rw [u21]
  have e : cmpop .eq (.rep (.tuple [.int a, .int b])) (.rep (.tuple [.int a, .int b])) h = .ok (.bl true) h := by
    show (match ceq h 40 (.rep (.tuple [.int a, .int b])) (.rep (.tuple [.int a, .int b])) with
      | some b => R.ok (C.bl b) h
      | none => .bad) = _
    have : ceq h 40 (.rep (.tuple [.int a, .int b])) (.rep (.tuple [.int a, .int b])) = some true := by
      show (if pdEq (.tuple [.int a, .int b]) (.tuple [.int a, .int b]) then some true else eqFar h 40 _ _) = _
      rw [pd_refl _ rfl]
      rfl
    rw [this]
  simp [b21, Ss.ev, S.ev, E.ev, Es.ev, T.ev, Pt.put, Pts.put, Pts.len, Es.len, Oe.ev, It.ev, bind_ok, bind_err, bind_bad, th_ok, th_err, th_bad, nxth, retth, errth, badth, noerr_ok, fin_nx, fin_ret, fin_err, tidy_same, tidyX_same, List.getElem?_cons_zero, List.getElem?_cons_succ, List.set_cons_zero, List.set_cons_succ, repr_tp ha hb, e]
end K10
set_option linter.all false
set_option autoImplicit false
set_option maxRecDepth 100000
set_option maxHeartbeats 4000000
namespace K10
open Sh PySem
theorem low_uni {a b t : Int} (g : Gd a b) (ht : t ≠ 0) : low (a * t) (b * t) = (a, b) := by
  have hg : Nat.gcd (a * t).natAbs (b * t).natAbs = t.natAbs := by
    rw [Int.natAbs_mul, Int.natAbs_mul, Nat.gcd_mul_right, g.cop, Nat.one_mul]
  unfold low
  rw [hg]
  have hb := g.pos
  by_cases h : t < 0
  · have h1 : b * t < 0 := Int.mul_neg_of_pos_of_neg (by omega) h
    have h2 : -(t.natAbs : Int) = t := by omega
    rw [if_pos h1, h2, Int.mul_fdiv_cancel _ ht, Int.mul_fdiv_cancel _ ht]
  · have h1 : ¬ b * t < 0 := Int.not_lt.mpr (Int.le_of_lt (Int.mul_pos (by omega) (by omega)))
    have h2 : (t.natAbs : Int) = t := by omega
    rw [if_neg h1, h2, Int.mul_fdiv_cancel _ ht, Int.mul_fdiv_cancel _ ht]
theorem low_spec (n u : Int) (hu : u ≠ 0) : ∃ a b t, low n u = (a, b) ∧ t ≠ 0 ∧ n = a * t ∧ u = b * t ∧ Gd a b ∧ a.natAbs ≤ n.natAbs ∧ b.natAbs ≤ u.natAbs := by
  have hg := Nat.gcd_pos_of_pos_right n.natAbs (Int.natAbs_pos.mpr hu)
  have key : ∀ t : Int, t.natAbs = Nat.gcd n.natAbs u.natAbs → (0 < u * t) → ∃ a b, n = a * t ∧ u = b * t ∧ Gd a b ∧ a.natAbs ≤ n.natAbs ∧ b.natAbs ≤ u.natAbs := fun t e hp => by
    have d1 : t ∣ n := Int.natAbs_dvd_natAbs.mp (by rw [e]; exact Nat.gcd_dvd_left _ _)
    have d2 : t ∣ u := Int.natAbs_dvd_natAbs.mp (by rw [e]; exact Nat.gcd_dvd_right _ _)
    obtain ⟨a, rfl⟩ := d1
    obtain ⟨b, rfl⟩ := d2
    have ht : 1 ≤ t.natAbs := by omega
    refine ⟨a, b, Int.mul_comm _ _, Int.mul_comm _ _, ⟨?_, ?_⟩, ?_, ?_⟩
    · have h1 : 0 < b * (t * t) := by
        rw [show b * (t * t) = t * b * t by rw [Int.mul_comm t b, Int.mul_assoc]]
        exact hp
      have h2 : 0 ≤ t * t := by
        rcases Int.le_total 0 t with z | z
        · exact Int.mul_nonneg z z
        · exact Int.mul_nonneg_of_nonpos_of_nonpos z z
      by_cases hb : 1 ≤ b
      · exact hb
      · have : b * (t * t) ≤ 0 := Int.mul_nonpos_of_nonpos_of_nonneg (by omega) h2
        omega
    · rw [Int.natAbs_mul, Int.natAbs_mul, Nat.gcd_mul_left] at e
      have := Nat.eq_of_mul_eq_mul_left (by omega : 0 < t.natAbs) (e.symm.trans (Nat.mul_one _).symm)
      exact this
    · rw [Int.natAbs_mul]
      exact Nat.le_mul_of_pos_left _ (by omega)
    · rw [Int.natAbs_mul]
      exact Nat.le_mul_of_pos_left _ (by omega)
  have fin_ : ∀ t : Int, t.natAbs = Nat.gcd n.natAbs u.natAbs → (0 < u * t) → ∃ a b t, low n u = (a, b) ∧ t ≠ 0 ∧ n = a * t ∧ u = b * t ∧ Gd a b ∧ a.natAbs ≤ n.natAbs ∧ b.natAbs ≤ u.natAbs := fun t e hp => by
    obtain ⟨a, b, h1, h2, h3, h4, h5⟩ := key t e hp
    have ht : t ≠ 0 := by omega
    exact ⟨a, b, t, by rw [h1, h2, low_uni h3 ht], ht, h1, h2, h3, h4, h5⟩
  by_cases h : u < 0
  · exact fin_ (-(Nat.gcd n.natAbs u.natAbs : Int)) (by omega) (Int.mul_pos_of_neg_of_neg h (by omega))
  · exact fin_ (Nat.gcd n.natAbs u.natAbs : Int) (by omega) (Int.mul_pos (by omega) (by omega))
/-! ### Euclid's way -/
theorem abs_int (h : Hc) (i : Int) : bi .abs [.int i] h = .ok (.int (if i < 0 then -i else i)) h := rfl
theorem bin_mod (i j : C) (h : Hc) : binop .mod i j h = modC i j h := rfl
theorem euclid (call : Nat → List C → Hc → R C) (w : Nat) (N U : C) (h : Hc) : ∀ (f x y : Nat), x < f →
    whileF (T.ev call sub w none (.cmp .ne (.var 2) (.con (.int 0)))) (Ss.ev call sub w (.cons (.par 2 3 (.bin .mod (.var 3) (.var 2)) (.var 2)) .nil) none) f [some N, some U, some (.int x), some (.int y)] h
      = .nx [some N, some U, some (.int 0), some (.int (Nat.gcd x y : Nat))] h
  | 0, x, y, hx => absurd hx (Nat.not_lt_zero _)
  | f + 1, x, y, hx => by
    unfold whileF
    by_cases hz : x = 0
    · subst hz
      simp [Ss.ev, S.ev, E.ev, Es.ev, T.ev, Pt.put, Pts.put, Pts.len, Es.len, Oe.ev, It.ev, bind_ok, bind_err, bind_bad, th_ok, th_err, th_bad, nxth, retth, errth, badth, noerr_ok, fin_nx, fin_ret, fin_err, tidy_same, tidyX_same, List.getElem?_cons_zero, List.getElem?_cons_succ, List.set_cons_zero, List.set_cons_succ, ne_int]
    · have hx0 : (x : Int) ≠ 0 := by omega
      have hb : ((x : Int) == 0) = false := by simpa using hx0
      have hm : (y : Int).fmod (x : Int) = ((y % x : Nat) : Int) := by
        rw [Int.fmod_eq_emod_of_nonneg _ (by omega), Int.natCast_emod]
      have ih := euclid call w N U h f (y % x) x (by have := Nat.mod_lt y (by omega : 0 < x); omega)
      have hg : Nat.gcd (y % x) x = Nat.gcd x y := (Nat.gcd_rec x y).symm
      rw [hg] at ih
      simp [Ss.ev, S.ev, E.ev, Es.ev, T.ev, Pt.put, Pts.put, Pts.len, Es.len, Oe.ev, It.ev, bind_ok, bind_err, bind_bad, th_ok, th_err, th_bad, nxth, retth, errth, badth, noerr_ok, fin_nx, fin_ret, fin_err, tidy_same, tidyX_same, List.getElem?_cons_zero, List.getElem?_cons_succ, List.set_cons_zero, List.set_cons_succ, ne_int, hb, bin_mod, mod_of hx0, hm]
      exact ih
theorem wh_big {i : Int} (h : Bd 190 i) : i.natAbs < WH := Nat.lt_of_lt_of_le h (Nat.pow_le_pow_right (by decide) (by decide))
theorem r18 (d : Nat) (h : Hc) (n u : Int) (hu : u ≠ 0) (hn : Bd 190 n) (hb : Bd 600 u) : Rn (d + 1) 18 [.int n, .int u] h = .ok (tp (low n u)) h := by
  rw [u18]
  have hg := Nat.gcd_pos_of_pos_right n.natAbs (Int.natAbs_pos.mpr hu)
  have hg0 : (Nat.gcd n.natAbs u.natAbs : Int) ≠ 0 := by omega
  have hb' : Bd 600 (Nat.gcd n.natAbs u.natAbs : Int) := hb.le (Nat.le_of_dvd (Int.natAbs_pos.mpr hu) (Nat.gcd_dvd_right _ _))
  by_cases e : u < 0
  · have e1 : (if -n < 0 then - -n else -n) = (n.natAbs : Int) := by split <;> omega
    have e2 : -u = (u.natAbs : Int) := by omega
    have ee := euclid (Rn d) WH (.int (-n)) (.int (-u)) h WH n.natAbs u.natAbs (wh_big hn)
    rw [← e2] at ee
    simp only [Ss.ev, S.ev, E.ev, Es.ev, T.ev, Pt.put, Pts.put, Pts.len, Es.len, Oe.ev, It.ev, bind_ok, bind_err, bind_bad, th_ok, th_err, th_bad, nxth, retth, errth, badth, noerr_ok, fin_nx, fin_ret, fin_err, tidy_same, tidyX_same, List.getElem?_cons_zero, List.getElem?_cons_succ, List.set_cons_zero, List.set_cons_succ] at ee
    have q1 : (-n).fdiv (Nat.gcd n.natAbs u.natAbs : Int) = n.fdiv (-(Nat.gcd n.natAbs u.natAbs : Int)) := by
      rw [← Int.neg_fdiv_neg n, Int.neg_neg]
    have q2 : (-u).fdiv (Nat.gcd n.natAbs u.natAbs : Int) = u.fdiv (-(Nat.gcd n.natAbs u.natAbs : Int)) := by
      rw [← Int.neg_fdiv_neg u, Int.neg_neg]
    simp only [b18, Ss.ev, S.ev, E.ev, Es.ev, T.ev, Pt.put, Pts.put, Pts.len, Es.len, Oe.ev, It.ev, bind_ok, bind_err, bind_bad, th_ok, th_err, th_bad, nxth, retth, errth, badth, noerr_ok, fin_nx, fin_ret, fin_err, tidy_same, tidyX_same, List.getElem?_cons_zero, List.getElem?_cons_succ, List.set_cons_zero, List.set_cons_succ, lt_int, e, decide_true, if_true, abs_int, e1]
    rw [ee]
    simp only [Ss.ev, S.ev, E.ev, Es.ev, T.ev, Pt.put, Pts.put, Pts.len, Es.len, Oe.ev, It.ev, bind_ok, bind_err, bind_bad, th_ok, th_err, th_bad, nxth, retth, errth, badth, noerr_ok, fin_nx, fin_ret, fin_err, tidy_same, tidyX_same, List.getElem?_cons_zero, List.getElem?_cons_succ, List.set_cons_zero, List.set_cons_succ, bin_div, div_of hg0 hb' (by decide)]
    simp [lineN, q1, q2, low, tp, e, Ss.ev, S.ev, E.ev, Es.ev, T.ev, Pt.put, Pts.put, Pts.len, Es.len, Oe.ev, It.ev, bind_ok, bind_err, bind_bad, th_ok, th_err, th_bad, nxth, retth, errth, badth, noerr_ok, fin_nx, fin_ret, fin_err, tidy_same, tidyX_same, List.getElem?_cons_zero, List.getElem?_cons_succ, List.set_cons_zero, List.set_cons_succ]
  · have e1 : (if n < 0 then -n else n) = (n.natAbs : Int) := by split <;> omega
    have e2 : u = (u.natAbs : Int) := by omega
    have ee := euclid (Rn d) WH (.int n) (.int u) h WH n.natAbs u.natAbs (wh_big hn)
    rw [← e2] at ee
    simp only [Ss.ev, S.ev, E.ev, Es.ev, T.ev, Pt.put, Pts.put, Pts.len, Es.len, Oe.ev, It.ev, bind_ok, bind_err, bind_bad, th_ok, th_err, th_bad, nxth, retth, errth, badth, noerr_ok, fin_nx, fin_ret, fin_err, tidy_same, tidyX_same, List.getElem?_cons_zero, List.getElem?_cons_succ, List.set_cons_zero, List.set_cons_succ] at ee
    simp only [b18, Ss.ev, S.ev, E.ev, Es.ev, T.ev, Pt.put, Pts.put, Pts.len, Es.len, Oe.ev, It.ev, bind_ok, bind_err, bind_bad, th_ok, th_err, th_bad, nxth, retth, errth, badth, noerr_ok, fin_nx, fin_ret, fin_err, tidy_same, tidyX_same, List.getElem?_cons_zero, List.getElem?_cons_succ, List.set_cons_zero, List.set_cons_succ, lt_int, e, decide_false, if_false, abs_int, e1, Bool.false_eq_true]
    rw [ee]
    simp only [Ss.ev, S.ev, E.ev, Es.ev, T.ev, Pt.put, Pts.put, Pts.len, Es.len, Oe.ev, It.ev, bind_ok, bind_err, bind_bad, th_ok, th_err, th_bad, nxth, retth, errth, badth, noerr_ok, fin_nx, fin_ret, fin_err, tidy_same, tidyX_same, List.getElem?_cons_zero, List.getElem?_cons_succ, List.set_cons_zero, List.set_cons_succ, bin_div, div_of hg0 hb' (by decide)]
    simp [lineN, low, tp, e, Ss.ev, S.ev, E.ev, Es.ev, T.ev, Pt.put, Pts.put, Pts.len, Es.len, Oe.ev, It.ev, bind_ok, bind_err, bind_bad, th_ok, th_err, th_bad, nxth, retth, errth, badth, noerr_ok, fin_nx, fin_ret, fin_err, tidy_same, tidyX_same, List.getElem?_cons_zero, List.getElem?_cons_succ, List.set_cons_zero, List.set_cons_succ]
end K10
set_option linter.all false
set_option autoImplicit false
set_option maxRecDepth 100000
set_option maxHeartbeats 8000000
namespace K10
open Sh PySem
theorem so_made : PyData.strOk (Str.ofString "made") = true := by decide +kernel
theorem so_plus : PyData.strOk (Str.ofString "plus") = true := by decide +kernel
theorem so_minus : PyData.strOk (Str.ofString "minus") = true := by decide +kernel
theorem so_times : PyData.strOk (Str.ofString "times") = true := by decide +kernel
theorem so_over : PyData.strOk (Str.ofString "over") = true := by decide +kernel
theorem so_compared : PyData.strOk (Str.ofString "compared") = true := by decide +kernel
theorem so_floor : PyData.strOk (Str.ofString "floor") = true := by decide +kernel
theorem so_InvalidRatio : PyData.strOk (Str.ofString "InvalidRatio") = true := by decide +kernel
theorem so_InvalidInteger : PyData.strOk (Str.ofString "InvalidInteger") = true := by decide +kernel
theorem so_DividedByNought : PyData.strOk (Str.ofString "DividedByNought") = true := by decide +kernel
theorem so_nil : PyData.strOk (Str.ofString "") = true := by decide +kernel
theorem ceq_str (hh : Hc) (n : Nat) (x y : Str) (hx : PyData.strOk x = true) (hy : PyData.strOk y = true) : ceq hh (n + 1) (.str x) (.str y) = some (x == y) := by
  show eqFar hh (n + 1) (.str x) (.str y) = _
  unfold eqFar
  simp [toD, SeqAt.shaped, PyData.canLay0, PyData.depth, PyData.eqv, hx, hy]
theorem ceq_bl (hh : Hc) (n : Nat) (x y : Bool) : ceq hh (n + 1) (.bl x) (.bl y) = some (x == y) := by
  show eqFar hh (n + 1) (.bl x) (.bl y) = _
  unfold eqFar
  simp [toD, SeqAt.shaped, PyData.canLay0, PyData.depth, PyData.eqv]
theorem ceq_rep (hh : Hc) (n : Nat) (d : PyData) (hd : d.hasDict = false) : ceq hh (n + 1) (.rep d) (.rep d) = some true := by
  show (if pdEq d d then some true else eqFar hh (n + 1) _ _) = _
  rw [pd_refl d hd]
  rfl
theorem eq_str (h : Hc) (x y : Str) (hx : PyData.strOk x = true) (hy : PyData.strOk y = true) : cmpop .eq (.str x) (.str y) h = .ok (.bl (x == y)) h := by
  show (match ceq h 40 (.str x) (.str y) with
    | some b => R.ok (C.bl b) h
    | none => .bad) = _
  rw [ceq_str _ _ _ _ hx hy]
theorem ne_lists {hh : Hc} {a b : Nat} {L : List C} (ha : hh[a]? = some L) (hb : hh[b]? = some L) (hL : both (ceq hh 39) L L = some true) : cmpop .ne (.ref a) (.ref b) hh = .ok (.bl false) hh := by
  have e : ceq hh 40 (.ref a) (.ref b) = some true := by
    show (match hh[a]?, hh[b]? with
      | some xs, some ys => if xs.length = ys.length then both (ceq hh 39) xs ys else eqFar hh 40 (.ref a) (.ref b)
      | _, _ => none) = _
    rw [ha, hb]
    simpa using hL
  show (match ceq hh 40 (.ref a) (.ref b) with
    | some b => R.ok (C.bl (!b)) hh
    | none => .bad) = _
  rw [e]
  rfl
/-! ### what is told, what is raised -/
def fnW : List (Str × Nat) := [("made", 6), ("plus", 7), ("minus", 8), ("times", 9), ("over", 10), ("compared", 11)]
theorem r19e (d : Nat) (h : Hc) (x y : C) (k : Nat) (xs : List C) (word : Str) (j : Nat) (hw : (word, j) ∈ fnW) (hr : Rn d j [x, y] h = .err k xs h) : Rn (d + 1) 19 [.str word, x, y] h = .err k xs h := by
  simp only [fnW, List.mem_cons, List.not_mem_nil, or_false, Prod.mk.injEq] at hw
  rw [u19]
  rcases hw with ⟨rfl, rfl⟩ | ⟨rfl, rfl⟩ | ⟨rfl, rfl⟩ | ⟨rfl, rfl⟩ | ⟨rfl, rfl⟩ | ⟨rfl, rfl⟩
  · have e1 : ((Str.ofString "made") == (Str.ofString "made")) = true := by decide +kernel
    simp [b19, Ss.ev, S.ev, Hs.ev, E.ev, Es.ev, T.ev, Pt.put, Pts.put, Pts.len, Es.len, Oe.ev, It.ev, bind_ok, bind_err, bind_bad, th_ok, th_err, th_bad, nxth, retth, errth, badth, noerr_ok, fin_nx, fin_ret, fin_err, tidy_same, tidyX_same, List.getElem?_cons_zero, List.getElem?_cons_succ, List.set_cons_zero, List.set_cons_succ, eq_str, so_made, so_plus, so_minus, so_times, so_over, so_compared, so_floor, e1, hr]
  · have e1 : ((Str.ofString "plus") == (Str.ofString "made")) = false := by decide +kernel
    have e2 : ((Str.ofString "plus") == (Str.ofString "plus")) = true := by decide +kernel
    simp [b19, Ss.ev, S.ev, Hs.ev, E.ev, Es.ev, T.ev, Pt.put, Pts.put, Pts.len, Es.len, Oe.ev, It.ev, bind_ok, bind_err, bind_bad, th_ok, th_err, th_bad, nxth, retth, errth, badth, noerr_ok, fin_nx, fin_ret, fin_err, tidy_same, tidyX_same, List.getElem?_cons_zero, List.getElem?_cons_succ, List.set_cons_zero, List.set_cons_succ, eq_str, so_made, so_plus, so_minus, so_times, so_over, so_compared, so_floor, e1, e2, hr]
  · have e1 : ((Str.ofString "minus") == (Str.ofString "made")) = false := by decide +kernel
    have e2 : ((Str.ofString "minus") == (Str.ofString "plus")) = false := by decide +kernel
    have e3 : ((Str.ofString "minus") == (Str.ofString "minus")) = true := by decide +kernel
    simp [b19, Ss.ev, S.ev, Hs.ev, E.ev, Es.ev, T.ev, Pt.put, Pts.put, Pts.len, Es.len, Oe.ev, It.ev, bind_ok, bind_err, bind_bad, th_ok, th_err, th_bad, nxth, retth, errth, badth, noerr_ok, fin_nx, fin_ret, fin_err, tidy_same, tidyX_same, List.getElem?_cons_zero, List.getElem?_cons_succ, List.set_cons_zero, List.set_cons_succ, eq_str, so_made, so_plus, so_minus, so_times, so_over, so_compared, so_floor, e1, e2, e3, hr]
  · have e1 : ((Str.ofString "times") == (Str.ofString "made")) = false := by decide +kernel
    have e2 : ((Str.ofString "times") == (Str.ofString "plus")) = false := by decide +kernel
    have e3 : ((Str.ofString "times") == (Str.ofString "minus")) = false := by decide +kernel
    have e4 : ((Str.ofString "times") == (Str.ofString "times")) = true := by decide +kernel
    simp [b19, Ss.ev, S.ev, Hs.ev, E.ev, Es.ev, T.ev, Pt.put, Pts.put, Pts.len, Es.len, Oe.ev, It.ev, bind_ok, bind_err, bind_bad, th_ok, th_err, th_bad, nxth, retth, errth, badth, noerr_ok, fin_nx, fin_ret, fin_err, tidy_same, tidyX_same, List.getElem?_cons_zero, List.getElem?_cons_succ, List.set_cons_zero, List.set_cons_succ, eq_str, so_made, so_plus, so_minus, so_times, so_over, so_compared, so_floor, e1, e2, e3, e4, hr]
  · have e1 : ((Str.ofString "over") == (Str.ofString "made")) = false := by decide +kernel
    have e2 : ((Str.ofString "over") == (Str.ofString "plus")) = false := by decide +kernel
    have e3 : ((Str.ofString "over") == (Str.ofString "minus")) = false := by decide +kernel
    have e4 : ((Str.ofString "over") == (Str.ofString "times")) = false := by decide +kernel
    have e5 : ((Str.ofString "over") == (Str.ofString "over")) = true := by decide +kernel
    simp [b19, Ss.ev, S.ev, Hs.ev, E.ev, Es.ev, T.ev, Pt.put, Pts.put, Pts.len, Es.len, Oe.ev, It.ev, bind_ok, bind_err, bind_bad, th_ok, th_err, th_bad, nxth, retth, errth, badth, noerr_ok, fin_nx, fin_ret, fin_err, tidy_same, tidyX_same, List.getElem?_cons_zero, List.getElem?_cons_succ, List.set_cons_zero, List.set_cons_succ, eq_str, so_made, so_plus, so_minus, so_times, so_over, so_compared, so_floor, e1, e2, e3, e4, e5, hr]
  · have e1 : ((Str.ofString "compared") == (Str.ofString "made")) = false := by decide +kernel
    have e2 : ((Str.ofString "compared") == (Str.ofString "plus")) = false := by decide +kernel
    have e3 : ((Str.ofString "compared") == (Str.ofString "minus")) = false := by decide +kernel
    have e4 : ((Str.ofString "compared") == (Str.ofString "times")) = false := by decide +kernel
    have e5 : ((Str.ofString "compared") == (Str.ofString "over")) = false := by decide +kernel
    have e6 : ((Str.ofString "compared") == (Str.ofString "compared")) = true := by decide +kernel
    simp [b19, Ss.ev, S.ev, Hs.ev, E.ev, Es.ev, T.ev, Pt.put, Pts.put, Pts.len, Es.len, Oe.ev, It.ev, bind_ok, bind_err, bind_bad, th_ok, th_err, th_bad, nxth, retth, errth, badth, noerr_ok, fin_nx, fin_ret, fin_err, tidy_same, tidyX_same, List.getElem?_cons_zero, List.getElem?_cons_succ, List.set_cons_zero, List.set_cons_succ, eq_str, so_made, so_plus, so_minus, so_times, so_over, so_compared, so_floor, e1, e2, e3, e4, e5, e6, hr]
theorem r19f (d : Nat) (h : Hc) (x y : C) (k : Nat) (xs : List C) (hr : Rn d 12 [x] h = .err k xs h) : Rn (d + 1) 19 [.str "floor", x, y] h = .err k xs h := by
  rw [u19]
  have e1 : ((Str.ofString "floor") == (Str.ofString "made")) = false := by decide +kernel
  have e2 : ((Str.ofString "floor") == (Str.ofString "plus")) = false := by decide +kernel
  have e3 : ((Str.ofString "floor") == (Str.ofString "minus")) = false := by decide +kernel
  have e4 : ((Str.ofString "floor") == (Str.ofString "times")) = false := by decide +kernel
  have e5 : ((Str.ofString "floor") == (Str.ofString "over")) = false := by decide +kernel
  have e6 : ((Str.ofString "floor") == (Str.ofString "compared")) = false := by decide +kernel
  simp [b19, Ss.ev, S.ev, Hs.ev, E.ev, Es.ev, T.ev, Pt.put, Pts.put, Pts.len, Es.len, Oe.ev, It.ev, bind_ok, bind_err, bind_bad, th_ok, th_err, th_bad, nxth, retth, errth, badth, noerr_ok, fin_nx, fin_ret, fin_err, tidy_same, tidyX_same, List.getElem?_cons_zero, List.getElem?_cons_succ, List.set_cons_zero, List.set_cons_succ, eq_str, so_made, so_plus, so_minus, so_times, so_over, so_compared, so_floor, e1, e2, e3, e4, e5, e6, hr]
theorem tidy_new (h : Hc) (L : List C) : tidy h.length (.ref h.length) (h ++ [L]) = .ok (.ref h.length) (h ++ [L]) := by
  unfold tidy
  rw [show C.under h.length (.ref h.length) = false from decide_eq_false (Nat.lt_irrefl _)]
  rfl
theorem line3 : (3 : Nat) ≤ lineN := by decide
theorem sub1 : sub 1 "PaceError" = some true := by decide +kernel
theorem sub0 : sub 0 "PaceError" = some true := by decide +kernel
theorem sub2 : sub 2 "StateError" = some true := by decide +kernel
def Lr (d : PyData) : List C := [.str "InvalidRatio", .rep d, .bl true]
def Li (d : PyData) : List C := [.str "InvalidInteger", .rep d, .bl true]
def Ln : List C := [.str "DividedByNought", .str "", .bl true]
theorem r20r (d : Nat) (h : Hc) (w x y v : C) (dv : PyData) (he : Rn d 19 [w, x, y] h = .err 1 [v] h) (hr : bi .repr [v] h = .ok (.rep dv) h) : Rn (d + 1) 20 [w, x, y] h = .ok (.ref h.length) (h ++ [Lr dv]) := by
  rw [u20]
  simp [b20, Ss.ev, S.ev, Hs.ev, E.ev, Es.ev, T.ev, Pt.put, Pts.put, Pts.len, Es.len, Oe.ev, It.ev, bind_ok, bind_err, bind_bad, th_ok, th_err, th_bad, nxth, retth, errth, badth, noerr_ok, fin_nx, fin_ret, fin_err, tidy_same, tidyX_same, List.getElem?_cons_zero, List.getElem?_cons_succ, List.set_cons_zero, List.set_cons_succ, he, hr, sub1, line3, tidy_new, Lr]
theorem r20i (d : Nat) (h : Hc) (w x y v : C) (dv : PyData) (he : Rn d 19 [w, x, y] h = .err 0 [v] h) (hr : bi .repr [v] h = .ok (.rep dv) h) : Rn (d + 1) 20 [w, x, y] h = .ok (.ref h.length) (h ++ [Li dv]) := by
  rw [u20]
  simp [b20, Ss.ev, S.ev, Hs.ev, E.ev, Es.ev, T.ev, Pt.put, Pts.put, Pts.len, Es.len, Oe.ev, It.ev, bind_ok, bind_err, bind_bad, th_ok, th_err, th_bad, nxth, retth, errth, badth, noerr_ok, fin_nx, fin_ret, fin_err, tidy_same, tidyX_same, List.getElem?_cons_zero, List.getElem?_cons_succ, List.set_cons_zero, List.set_cons_succ, he, hr, sub0, line3, tidy_new, Li]
theorem r20n (d : Nat) (h : Hc) (w x y : C) (he : Rn d 19 [w, x, y] h = .err 2 [] h) : Rn (d + 1) 20 [w, x, y] h = .ok (.ref h.length) (h ++ [Ln]) := by
  rw [u20]
  simp [b20, Ss.ev, S.ev, Hs.ev, E.ev, Es.ev, T.ev, Pt.put, Pts.put, Pts.len, Es.len, Oe.ev, It.ev, bind_ok, bind_err, bind_bad, th_ok, th_err, th_bad, nxth, retth, errth, badth, noerr_ok, fin_nx, fin_ret, fin_err, tidy_same, tidyX_same, List.getElem?_cons_zero, List.getElem?_cons_succ, List.set_cons_zero, List.set_cons_succ, he, sub2, line3, tidy_new, Ln]
theorem both3 (hh : Hc) (a b c : C) (ha : ceq hh 39 a a = some true) (hb : ceq hh 39 b b = some true) (hc : ceq hh 39 c c = some true) : both (ceq hh 39) [a, b, c] [a, b, c] = some true := by
  simp [both, ha, hb, hc]
theorem eqs (x : Str) : (x == x) = true := by simp
/-- the list told is like the one due -/
theorem due_ok (h : Hc) (L : List C) (hL : ∀ hh, both (ceq hh 39) L L = some true) : cmpop .ne (.ref h.length) (.ref (h ++ [L]).length) ((h ++ [L]) ++ [L]) = .ok (.bl false) ((h ++ [L]) ++ [L]) :=
  ne_lists (L := L) (by rw [List.append_assoc, List.getElem?_append_right (Nat.le_refl _)]; simp) (by rw [List.getElem?_append_right (Nat.le_refl _)]; simp) (hL _)
theorem bothLr (d : PyData) (hd : d.hasDict = false) (hh : Hc) : both (ceq hh 39) (Lr d) (Lr d) = some true := both3 hh _ _ _ (by rw [ceq_str _ _ _ _ so_InvalidRatio so_InvalidRatio, eqs]) (ceq_rep _ _ _ hd) (by rw [ceq_bl]; rfl)
theorem bothLi (d : PyData) (hd : d.hasDict = false) (hh : Hc) : both (ceq hh 39) (Li d) (Li d) = some true := both3 hh _ _ _ (by rw [ceq_str _ _ _ _ so_InvalidInteger so_InvalidInteger, eqs]) (ceq_rep _ _ _ hd) (by rw [ceq_bl]; rfl)
theorem bothLn (hh : Hc) : both (ceq hh 39) Ln Ln = some true := both3 hh _ _ _ (by rw [ceq_str _ _ _ _ so_DividedByNought so_DividedByNought, eqs]) (by rw [ceq_str _ _ _ _ so_nil so_nil, eqs]) (by rw [ceq_bl]; rfl)
end K10
set_option linter.all false
set_option autoImplicit false
set_option maxRecDepth 100000
set_option maxHeartbeats 16000000
namespace K10
open Sh PySem
def Closed (h : Hc) : Prop := h.all (C.unders h.length) = true
theorem tidy_cl {h x : Hc} (cl : Closed h) (c : C) (hc : c.under h.length = true) : tidy h.length c (h ++ x) = .ok c h := by
  unfold tidy
  rw [List.take_left' rfl, hc, show h.all (C.unders h.length) = true from cl]
  rfl
theorem low_scale {n u k : Int} (hu : u ≠ 0) (hk : k ≠ 0) : low (n * k) (u * k) = low n u := by
  obtain ⟨a, b, t, e1, e2, e3, e4, e5, _⟩ := low_spec n u hu
  rw [e1]
  conv => lhs; rw [e3, e4]
  rw [Int.mul_assoc, Int.mul_assoc, low_uni e5 (Int.mul_ne_zero e2 hk)]
theorem low_bd {n u : Int} (hu : u ≠ 0) {k : Nat} (hn : Bd k n) (hb : Bd k u) : Bd k (low n u).1 ∧ Bd k (low n u).2 := by
  obtain ⟨a, b, t, e1, e2, e3, e4, e5, e6, e7⟩ := low_spec n u hu
  rw [e1]
  exact ⟨hn.le e6, hb.le e7⟩
theorem r21t {n u : Int} (hu : u ≠ 0) (hn : Bd 600 n) (hb : Bd 600 u) (d : Nat) (h : Hc) : Rn (d + 1) 21 [tp (low n u), tp (low n u)] h = .ok (.bl true) h := r21 (low_bd hu hn hb).1 (low_bd hu hn hb).2 d h
theorem is_ne (h : Hc) : cmpop .isn (.bl true) (.bl true) h = .ok (.bl false) h := rfl
theorem le_int (h : Hc) (i j : Int) : cmpop .le (.int i) (.int j) h = .ok (.bl (decide (i ≤ j))) h := rfl
theorem pair_ok {a b c e t s : Int} (g : Gd a b) (k : Gd c e) (ht : t ≠ 0) (hs : s ≠ 0) (hA : Bd 45 (a * t)) (hB : Bd 45 (b * t)) (hC : Bd 45 (c * s)) (hD : Bd 45 (e * s)) (ha : Bd 45 a) (hb : Bd 45 b) (hc : Bd 45 c) (he : Bd 45 e) (d : Nat) (h : Hc) (cl : Closed h) :
    Rn (d + 9) 22 [.int (a * t), .int (b * t), .int (c * s), .int (e * s)] h = .ok (.bl true) h := by
  have b0 := ne0 g
  have e0 := ne0 k
  have hB0 : b * t ≠ 0 := Int.mul_ne_zero b0 ht
  have hD0 : e * s ≠ 0 := Int.mul_ne_zero e0 hs
  have hts : t * s ≠ 0 := Int.mul_ne_zero ht hs
  have M : ∀ {x : Int} {k : Nat}, Bd k x → k ≤ 600 → Bd 600 x := fun h l => h.mono l
  have A18 : ∀ d h, Rn (d + 1) 18 [.int (a * t), .int (b * t)] h = .ok (.tup [.int a, .int b]) h := fun d h => by rw [r18 _ _ _ _ hB0 (hA.mono (by decide)) (hB.mono (by decide)), low_uni g ht]; rfl
  have C18 : ∀ d h, Rn (d + 1) 18 [.int (c * s), .int (e * s)] h = .ok (.tup [.int c, .int e]) h := fun d h => by rw [r18 _ _ _ _ hD0 (hC.mono (by decide)) (hD.mono (by decide)), low_uni k hs]; rfl
  have A6 : ∀ d h, Rn (d + 3) 6 [.int (a * t), .int (b * t)] h = .ok (.tup [.int a, .int b]) h := fun d h => by rw [r6 _ _ _ _ hB0 (hB.mono (by decide)), low_uni g ht]; rfl
  have C6 : ∀ d h, Rn (d + 3) 6 [.int (c * s), .int (e * s)] h = .ok (.tup [.int c, .int e]) h := fun d h => by rw [r6 _ _ _ _ hD0 (hD.mono (by decide)), low_uni k hs]; rfl
  have A21 : ∀ d h, Rn (d + 1) 21 [.tup [.int a, .int b], .tup [.int a, .int b]] h = .ok (.bl true) h := r21 (ha.mono (by decide)) (hb.mono (by decide))
  have C21 : ∀ d h, Rn (d + 1) 21 [.tup [.int c, .int e], .tup [.int c, .int e]] h = .ok (.bl true) h := r21 (hc.mono (by decide)) (he.mono (by decide))
  have ha' := ha.mono (b := 200) (by decide)
  have hb' := hb.mono (b := 200) (by decide)
  have hc' := hc.mono (b := 200) (by decide)
  have he' := he.mono (b := 200) (by decide)
  have hbe : b * e ≠ 0 := Int.mul_ne_zero b0 e0
  have x1 : b * t * (e * s) = b * e * (t * s) := by
    rw [Int.mul_assoc, Int.mul_assoc, Int.mul_left_comm t e s]
  have x2 : a * t * (e * s) = a * e * (t * s) := by
    rw [Int.mul_assoc, Int.mul_assoc, Int.mul_left_comm t e s]
  have x3 : c * s * (b * t) = c * b * (t * s) := by
    rw [Int.mul_assoc, Int.mul_assoc, Int.mul_left_comm s b t, Int.mul_comm s t]
  have x4 : a * t * (c * s) = a * c * (t * s) := by
    rw [Int.mul_assoc, Int.mul_assoc, Int.mul_left_comm t c s]
  have x5 : b * t * (c * s) = b * c * (t * s) := by
    rw [Int.mul_assoc, Int.mul_assoc, Int.mul_left_comm t c s]
  have m1 : Bd 90 (a * e) := ha.mul he
  have m2 : Bd 90 (c * b) := hc.mul hb
  have m3 : Bd 90 (b * e) := hb.mul he
  have m4 : Bd 90 (a * c) := ha.mul hc
  have m5 : Bd 90 (b * c) := hb.mul hc
  have hbeT : b * t * (e * s) ≠ 0 := Int.mul_ne_zero hB0 hD0
  have P18 : ∀ d h, Rn (d + 1) 18 [.int (a * t * (e * s) + c * s * (b * t)), .int (b * t * (e * s))] h = .ok (tp (low (a * e + c * b) (b * e))) h := fun d h => by
    rw [r18 _ _ _ _ hbeT (((hA.mul hD).add (hC.mul hB)).mono (by decide)) ((hB.mul hD).mono (by decide))]
    rw [x1, x2, x3, ← Int.add_mul, low_scale hbe hts]
  have M18 : ∀ d h, Rn (d + 1) 18 [.int (a * t * (e * s) - c * s * (b * t)), .int (b * t * (e * s))] h = .ok (tp (low (a * e - c * b) (b * e))) h := fun d h => by
    rw [r18 _ _ _ _ hbeT (((hA.mul hD).sub (hC.mul hB)).mono (by decide)) ((hB.mul hD).mono (by decide))]
    rw [x1, x2, x3, ← Int.sub_mul, low_scale hbe hts]
  have T18 : ∀ d h, Rn (d + 1) 18 [.int (a * t * (c * s)), .int (b * t * (e * s))] h = .ok (tp (low (a * c) (b * e))) h := fun d h => by
    rw [r18 _ _ _ _ hbeT ((hA.mul hC).mono (by decide)) ((hB.mul hD).mono (by decide))]
    rw [x1, x4, low_scale hbe hts]
  have P21 : ∀ d h, Rn (d + 1) 21 [tp (low (a * e + c * b) (b * e)), tp (low (a * e + c * b) (b * e))] h = .ok (.bl true) h := r21t hbe ((m1.add m2).mono (by decide)) (m3.mono (by decide))
  have M21 : ∀ d h, Rn (d + 1) 21 [tp (low (a * e - c * b) (b * e)), tp (low (a * e - c * b) (b * e))] h = .ok (.bl true) h := r21t hbe ((m1.sub m2).mono (by decide)) (m3.mono (by decide))
  have T21 : ∀ d h, Rn (d + 1) 21 [tp (low (a * c) (b * e)), tp (low (a * c) (b * e))] h = .ok (.bl true) h := r21t hbe (m4.mono (by decide)) (m3.mono (by decide))
  have q1 := mul_of hA hD (by decide) (by decide)
  have q2 := mul_of hC hB (by decide) (by decide)
  have q3 := mul_of hB hD (by decide) (by decide)
  have q4 := mul_of hA hC (by decide) (by decide)
  have q5 := mul_of hB hC (by decide) (by decide)
  have q6 := mul_of ha he (by decide) (by decide)
  have q7 := mul_of hc hb (by decide) (by decide)
  have fl1 : a.fdiv b * b ≤ a := by
    have := Int.mul_fdiv_add_fmod a b
    have := Int.fmod_nonneg_of_pos a (by have := g.pos; omega : 0 < b)
    rw [Int.mul_comm]
    omega
  have fl2 : a < (a.fdiv b + 1) * b := by
    have h1 := Int.mul_fdiv_add_fmod a b
    have h2 := Int.fmod_lt_of_pos a (by have := g.pos; omega : 0 < b)
    rw [Int.add_mul, Int.one_mul, Int.mul_comm]
    omega
  have hfl : Bd 45 (a.fdiv b) := ha.le (Int.natAbs_fdiv_le_natAbs a b)
  have q8 := mul_of hfl hb (by decide) (by decide)
  have hf1 : Bd 46 (a.fdiv b + 1) := Bd.add hfl (by unfold Bd; decide)
  have q9 := mul_of hf1 hb (by decide) (by decide)
  have r7' : ∀ d h, _ := r7 g k ha' hb' hc' he'
  have r8' : ∀ d h, _ := r8 g k ha' hb' hc' he'
  have r9' : ∀ d h, _ := r9 g k ha' hb' hc' he'
  have r10' : ∀ d h, _ := r10 g k ha' hb' hc' he'
  have r11' : ∀ d h, _ := r11 g k ha' hb' hc' he'
  have r12' : ∀ d h, _ := r12 g hb'
  have hneg : (a * e - c * b < 0) = (a * e < c * b) := propext ⟨fun _ => by omega, fun _ => by omega⟩
  have hpos : (0 < a * e - c * b) = (c * b < a * e) := propext ⟨fun _ => by omega, fun _ => by omega⟩
  rw [u22]
  by_cases z : c = 0
  · have zb : (c * s == 0) = true := by simp [z]
    have N20 : ∀ d h, Rn (d + 6) 20 [.str "over", .tup [.int a, .int b], .tup [.int c, .int e]] h = .ok (.ref h.length) (h ++ [[.str "DividedByNought", .str "", .bl true]]) := fun d h => r20n _ h _ _ _ (r19e _ h _ _ 2 [] "over" 10 (by simp [fnW]) (by rw [r10', if_pos z]))
    have dn : cmpop .ne (.ref h.length) (.ref (h.length + 1)) (h ++ [[.str "DividedByNought", .str "", .bl true], [.str "DividedByNought", .str "", .bl true]]) = .ok (.bl false) (h ++ [[.str "DividedByNought", .str "", .bl true], [.str "DividedByNought", .str "", .bl true]]) := by
      have := due_ok h Ln bothLn
      rw [List.length_append, List.append_assoc] at this
      exact this
    have tc : ∀ x, tidy h.length (.bl true) (h ++ x) = .ok (.bl true) h := fun x => tidy_cl cl _ rfl
    simp [b22, Ss.ev, S.ev, Hs.ev, E.ev, Es.ev, T.ev, Pt.put, Pts.put, Pts.len, Es.len, Oe.ev, It.ev, bind_ok, bind_err, bind_bad, th_ok, th_err, th_bad, nxth, retth, errth, badth, noerr_ok, fin_nx, fin_ret, fin_err, tidy_same, tidyX_same, List.getElem?_cons_zero, List.getElem?_cons_succ, List.set_cons_zero, List.set_cons_succ, A18, C18, A6, C6, A21, C21, truth_bl, r3g g, r3g k, is_ne, r7', r8', r9', r11', r12', P18, M18, T18, P21, M21, T21, N20, dn, q1, q2, q3, q4, q5, q6, q7, q8, q9, bin_mul, bin_add, bin_sub, bin_subB, gt_int, lt_int, eq_int, ne_int, item0, item1, zb, gK, le_int, isiC, isiT, tyC, hneg, hpos, fl1, fl2, lineN, tc]
  · have z' : c * s ≠ 0 := Int.mul_ne_zero z hs
    have hbc : b * c ≠ 0 := Int.mul_ne_zero b0 z
    have O18 : ∀ d h, Rn (d + 1) 18 [.int (a * t * (e * s)), .int (b * t * (c * s))] h = .ok (tp (low (a * e) (b * c))) h := fun d h => by
      rw [r18 _ _ _ _ (Int.mul_ne_zero hB0 z') ((hA.mul hD).mono (by decide)) ((hB.mul hC).mono (by decide))]
      rw [x2, x5, low_scale hbc hts]
    have O21 : ∀ d h, Rn (d + 1) 21 [tp (low (a * e) (b * c)), tp (low (a * e) (b * c))] h = .ok (.bl true) h := r21t hbc (m1.mono (by decide)) (m5.mono (by decide))
    have zb : (c * s == 0) = false := by simpa using z'
    simp [b22, Ss.ev, S.ev, Hs.ev, E.ev, Es.ev, T.ev, Pt.put, Pts.put, Pts.len, Es.len, Oe.ev, It.ev, bind_ok, bind_err, bind_bad, th_ok, th_err, th_bad, nxth, retth, errth, badth, noerr_ok, fin_nx, fin_ret, fin_err, tidy_same, tidyX_same, List.getElem?_cons_zero, List.getElem?_cons_succ, List.set_cons_zero, List.set_cons_succ, A18, C18, A6, C6, A21, C21, truth_bl, r3g g, r3g k, is_ne, r7', r8', r9', r10', r11', r12', P18, M18, T18, P21, M21, T21, O18, O21, q1, q2, q3, q4, q5, q6, q7, q8, q9, bin_mul, bin_add, bin_sub, bin_subB, gt_int, lt_int, eq_int, ne_int, item0, item1, zb, z, gK, le_int, isiC, isiT, tyC, hneg, hpos, fl1, fl2]
end K10
set_option linter.all false
set_option autoImplicit false
set_option maxRecDepth 100000
set_option maxHeartbeats 16000000
namespace K10
open Sh PySem
theorem r22 (A B C' D : Int) (hB : B ≠ 0) (hD : D ≠ 0) (b1 : Bd 45 A) (b2 : Bd 45 B) (b3 : Bd 45 C') (b4 : Bd 45 D) (d : Nat) (h : Hc) (cl : Closed h) : Rn (d + 9) 22 [.int A, .int B, .int C', .int D] h = .ok (.bl true) h := by
  obtain ⟨a, b, t, _, ht, e1, e2, g, l1, l2⟩ := low_spec A B hB
  obtain ⟨c, e, s, _, hs, e3, e4, k, l3, l4⟩ := low_spec C' D hD
  have := pair_ok g k ht hs (by rw [← e1]; exact b1) (by rw [← e2]; exact b2) (by rw [← e3]; exact b3) (by rw [← e4]; exact b4) (b1.le l1) (b2.le l2) (b3.le l3) (b4.le l4) d h cl
  rw [← e1, ← e2, ← e3, ← e4] at this
  exact this
/-! ### draws -/
def Pot (L : List C) : Prop := ∃ p0 p1 : Int, L = [.int p0, .int p1] ∧ 0 ≤ p1 ∧ p1 < 2147483648
def PotAt (h : Hc) (n : Nat) : Prop := ∃ L, h[n]? = some L ∧ Pot L
def Nx (n : Nat) (h h' : Hc) : Prop := h' = h ∨ ∃ L, h' = h.set n L ∧ Pot L
theorem PotAt.lt {h : Hc} {n : Nat} (p : PotAt h n) : n < h.length := by
  obtain ⟨L, e, _⟩ := p
  exact (List.getElem?_eq_some_iff.mp e).1
theorem Nx.len {n : Nat} {h h' : Hc} (x : Nx n h h') : h'.length = h.length := by
  rcases x with rfl | ⟨L, rfl, _⟩
  · rfl
  · simp
theorem Nx.pot {n : Nat} {h h' : Hc} (x : Nx n h h') (p : PotAt h n) : PotAt h' n := by
  rcases x with rfl | ⟨L, rfl, q⟩
  · exact p
  · exact ⟨L, List.getElem?_set_self p.lt, q⟩
theorem Nx.trans {n : Nat} {h h' h2 : Hc} (x : Nx n h h') (y : Nx n h' h2) : Nx n h h2 := by
  rcases y with rfl | ⟨L, rfl, q⟩
  · exact x
  · rcases x with rfl | ⟨M, rfl, _⟩
    · exact .inr ⟨L, rfl, q⟩
    · exact .inr ⟨L, by rw [List.set_set], q⟩
theorem Pot.under {L : List C} (p : Pot L) (n : Nat) : C.unders n L = true := by
  obtain ⟨a, b, rfl, _⟩ := p
  rfl
theorem Nx.closed {n : Nat} {h h' : Hc} (x : Nx n h h') (cl : Closed h) : Closed h' := by
  have hl := x.len
  rcases x with rfl | ⟨L, rfl, q⟩
  · exact cl
  · unfold Closed at *
    rw [hl]
    refine List.all_eq_true.mpr fun l hl' => ?_
    rcases List.mem_or_eq_of_mem_set hl' with z | rfl
    · exact List.all_eq_true.mp cl l z
    · exact q.under _
theorem tidy_len {h h1 : Hc} (e : h1.length = h.length) (c : C) : tidy h.length c h1 = .ok c h1 := by
  rw [← e]
  exact tidy_same h1 c
theorem itr0 {h : Hc} {n : Nat} {x y : C} (e : h[n]? = some [x, y]) : item (.ref n) (.int 0) h = .ok x h := by
  show (match h[n]? with
    | some xs => match (ixC xs.length 0).bind fun j => xs[j]? with
      | some c => R.ok c h
      | none => .bad
    | none => .bad) = _
  rw [e]
  rfl
theorem itr1 {h : Hc} {n : Nat} {x y : C} (e : h[n]? = some [x, y]) : item (.ref n) (.int 1) h = .ok y h := by
  show (match h[n]? with
    | some xs => match (ixC xs.length 1).bind fun j => xs[j]? with
      | some c => R.ok c h
      | none => .bad
    | none => .bad) = _
  rw [e]
  rfl
theorem sei0 {h : Hc} {n : Nat} {x y z : C} (e : h[n]? = some [x, y]) : setitem (.ref n) (.int 0) z h = .ok () (h.set n [z, y]) := by
  show (match h[n]? with
    | some xs => match ixC xs.length 0 with
      | some j => R.ok () (h.set n (xs.set j z))
      | none => .bad
    | none => .bad) = _
  rw [e]
  rfl
theorem sei1 {h : Hc} {n : Nat} {x y z : C} (e : h[n]? = some [x, y]) : setitem (.ref n) (.int 1) z h = .ok () (h.set n [x, z]) := by
  show (match h[n]? with
    | some xs => match ixC xs.length 1 with
      | some j => R.ok () (h.set n (xs.set j z))
      | none => .bad
    | none => .bad) = _
  rw [e]
  rfl
theorem fmod_b (i : Int) {j : Int} (h : 0 < j) : 0 ≤ i.fmod j ∧ i.fmod j < j := ⟨Int.fmod_nonneg_of_pos i h, Int.fmod_lt_of_pos i h⟩
theorem divmod_int (h : Hc) (i j : Int) (h1 : 0 < j) (h2 : j < 1000000000) : bi .divmod [.int i, .int j] h = .ok (.tup [.int (i / j), .int (i % j)]) h := by
  show (if 0 < j ∧ j < 1000000000 then R.ok (C.tup [.int (i / j), .int (i % j)]) h else .bad) = _
  rw [if_pos ⟨h1, h2⟩]
theorem r15 (d : Nat) (h : Hc) (n : Nat) (many : Int) (p : PotAt h n) (h1 : 0 < many) (h2 : many < 1000000000) : ∃ dg h', 0 ≤ dg ∧ dg < many ∧ Nx n h h' ∧ Rn (d + 1) 15 [.ref n, .int many] h = .ok (.int dg) h' := by
  have hn := p.lt
  obtain ⟨L, e, p0, p1, rfl, q1, q2⟩ := p
  by_cases z : 0 < p0
  · refine ⟨p0 % many, h.set n [.int (p0 / many), .int p1], Int.emod_nonneg _ (by omega), Int.emod_lt_of_pos _ h1, .inr ⟨_, rfl, _, _, rfl, q1, q2⟩, ?_⟩
    rw [u15]
    simp [b15, Ss.ev, S.ev, Hs.ev, E.ev, Es.ev, T.ev, Pt.put, Pts.put, Pts.len, Es.len, Oe.ev, It.ev, bind_ok, bind_err, bind_bad, th_ok, th_err, th_bad, nxth, retth, errth, badth, noerr_ok, fin_nx, fin_ret, fin_err, tidy_same, tidyX_same, List.getElem?_cons_zero, List.getElem?_cons_succ, List.set_cons_zero, List.set_cons_succ, itr0 e, gt_int, z, divmod_int _ _ _ h1 h2, sei0 e, tidy_len]
  · obtain ⟨f1, f2⟩ := fmod_b (p1 * 39373 + 9209) (by decide : (0 : Int) < 2147483587)
    generalize hr : (p1 * 39373 + 9209).fmod 2147483587 = r at f1 f2
    obtain ⟨f3, f4⟩ := fmod_b (((r * r).fmod 2147483563).fdiv 17) h1
    have e2 : (h.set n [.int p0, .int r])[n]? = some [.int p0, .int r] := List.getElem?_set_self hn
    have m1 := mul_of (i := p1) (j := 39373) (bd_small (by omega) (by omega)) (bd_small (by omega) (by omega)) (by decide) (by decide)
    have m2 := mul_of (i := r) (j := r) (bd_small (by omega) (by omega)) (bd_small (by omega) (by omega)) (by decide) (by decide)
    have dv := div_of (i := (r * r).fmod 2147483563) (j := 17) (b := 80) (by decide) (bd_small (by omega) (by omega)) (by decide)
    have md1 := mod_of (i := p1 * 39373 + 9209) (j := 2147483587) (by decide)
    have md2 := mod_of (i := r * r) (j := 2147483563) (by decide)
    have md3 := mod_of (i := ((r * r).fmod 2147483563).fdiv 17) (j := many) (by omega)
    rw [hr] at md1
    refine ⟨_, h.set n [.int p0, .int r], f3, f4, .inr ⟨_, rfl, _, _, rfl, f1, by omega⟩, ?_⟩
    rw [u15]
    simp [b15, Ss.ev, S.ev, Hs.ev, E.ev, Es.ev, T.ev, Pt.put, Pts.put, Pts.len, Es.len, Oe.ev, It.ev, bind_ok, bind_err, bind_bad, th_ok, th_err, th_bad, nxth, retth, errth, badth, noerr_ok, fin_nx, fin_ret, fin_err, tidy_same, tidyX_same, List.getElem?_cons_zero, List.getElem?_cons_succ, List.set_cons_zero, List.set_cons_succ, itr0 e, itr1 e, itr1 e2, gt_int, z, sei1 e, tidy_len, bin_mul, bin_add, bin_mod, bin_div, m1, m2, dv, md1, md2, md3]
theorem pow6 (h : Hc) : binop .pow (.int 10) (.int 6) h = .ok (.int 1000000) h := rfl
theorem r16 (d : Nat) (h : Hc) (n : Nat) (p : PotAt h n) : ∃ w h', Bd 42 w ∧ Nx n h h' ∧ Rn (d + 2) 16 [.ref n] h = .ok (.int w) h' := by
  obtain ⟨w1, h1, a1, a2, x1, e1⟩ := r15 d h n 4 p (by decide) (by decide)
  by_cases z : w1 = 3
  · have p1 := x1.pot p
    obtain ⟨w2, h2, c1, c2, x2, e2⟩ := r15 d h1 n 1000000 p1 (by decide) (by decide)
    have p2 := x2.pot p1
    obtain ⟨w3, h3, c3, c4, x3, e3⟩ := r15 d h2 n 1000000 p2 (by decide) (by decide)
    have p3 := x3.pot p2
    obtain ⟨w4, h4, c5, c6, x4, e4⟩ := r15 d h3 n 2 p3 (by decide) (by decide)
    have x := ((x1.trans x2).trans x3).trans x4
    have m1 := mul_of (i := w2) (j := 1000000) (bd_small (by omega) (by omega)) (bd_small (by omega) (by omega)) (by decide) (by decide)
    have z' : (w1 == 3) = true := by simpa using z
    by_cases y : w4 = 0
    · have y' : (w4 == 0) = true := by simpa using y
      refine ⟨w2 * 1000000 + w3, h4, by unfold Bd; omega, x, ?_⟩
      rw [u16]
      simp [b16, Ss.ev, S.ev, Hs.ev, E.ev, Es.ev, T.ev, Pt.put, Pts.put, Pts.len, Es.len, Oe.ev, It.ev, bind_ok, bind_err, bind_bad, th_ok, th_err, th_bad, nxth, retth, errth, badth, noerr_ok, fin_nx, fin_ret, fin_err, tidy_same, tidyX_same, List.getElem?_cons_zero, List.getElem?_cons_succ, List.set_cons_zero, List.set_cons_succ, e1, e2, e3, e4, eq_int, z', pow6, bin_mul, m1, bin_add, y', tidy_len x.len]
    · have y' : (w4 == 0) = false := by simpa using y
      refine ⟨-(w2 * 1000000 + w3), h4, by unfold Bd; omega, x, ?_⟩
      rw [u16]
      simp [b16, Ss.ev, S.ev, Hs.ev, E.ev, Es.ev, T.ev, Pt.put, Pts.put, Pts.len, Es.len, Oe.ev, It.ev, bind_ok, bind_err, bind_bad, th_ok, th_err, th_bad, nxth, retth, errth, badth, noerr_ok, fin_nx, fin_ret, fin_err, tidy_same, tidyX_same, List.getElem?_cons_zero, List.getElem?_cons_succ, List.set_cons_zero, List.set_cons_succ, e1, e2, e3, e4, eq_int, z', pow6, bin_mul, m1, bin_add, y', tidy_len x.len]
  · have z' : (w1 == 3) = false := by simpa using z
    obtain ⟨w2, h2, c1, c2, x2, e2⟩ := r15 d h1 n 25 (x1.pot p) (by decide) (by decide)
    refine ⟨w2 - 12, h2, by unfold Bd; omega, x1.trans x2, ?_⟩
    rw [u16]
    simp [b16, Ss.ev, S.ev, Hs.ev, E.ev, Es.ev, T.ev, Pt.put, Pts.put, Pts.len, Es.len, Oe.ev, It.ev, bind_ok, bind_err, bind_bad, th_ok, th_err, th_bad, nxth, retth, errth, badth, noerr_ok, fin_nx, fin_ret, fin_err, tidy_same, tidyX_same, List.getElem?_cons_zero, List.getElem?_cons_succ, List.set_cons_zero, List.set_cons_succ, e1, e2, eq_int, z', bin_sub, tidy_len (x1.trans x2).len]
theorem r17 (d : Nat) (h : Hc) (n : Nat) (p : PotAt h n) : ∃ w h', Bd 42 w ∧ w ≠ 0 ∧ Nx n h h' ∧ Rn (d + 3) 17 [.ref n] h = .ok (.int w) h' := by
  obtain ⟨w1, h1, a1, x1, e1⟩ := r16 d h n p
  by_cases z : w1 = 0
  · have z' : (w1 == 0) = true := by simpa using z
    obtain ⟨w2, h2, c1, c2, x2, e2⟩ := r15 (d + 1) h1 n 9 (x1.pot p) (by decide) (by decide)
    refine ⟨1 + w2, h2, by unfold Bd; omega, by omega, x1.trans x2, ?_⟩
    rw [u17]
    simp [b17, Ss.ev, S.ev, Hs.ev, E.ev, Es.ev, T.ev, Pt.put, Pts.put, Pts.len, Es.len, Oe.ev, It.ev, bind_ok, bind_err, bind_bad, th_ok, th_err, th_bad, nxth, retth, errth, badth, noerr_ok, fin_nx, fin_ret, fin_err, tidy_same, tidyX_same, List.getElem?_cons_zero, List.getElem?_cons_succ, List.set_cons_zero, List.set_cons_succ, e1, e2, ne_int, z', bin_add, tidy_len (x1.trans x2).len]
  · have z' : (w1 == 0) = false := by simpa using z
    refine ⟨w1, h1, a1, z, x1, ?_⟩
    rw [u17]
    simp [b17, Ss.ev, S.ev, Hs.ev, E.ev, Es.ev, T.ev, Pt.put, Pts.put, Pts.len, Es.len, Oe.ev, It.ev, bind_ok, bind_err, bind_bad, th_ok, th_err, th_bad, nxth, retth, errth, badth, noerr_ok, fin_nx, fin_ret, fin_err, tidy_same, tidyX_same, List.getElem?_cons_zero, List.getElem?_cons_succ, List.set_cons_zero, List.set_cons_succ, e1, ne_int, z', tidy_len x1.len]
end K10
set_option linter.all false
set_option autoImplicit false
set_option maxRecDepth 100000
set_option maxHeartbeats 16000000
namespace K10
open Sh PySem
theorem ints_map : ∀ ns : List Int, intsC (ns.map C.int) = some ns
  | [] => rfl
  | n :: ns => by
    show (intsC (ns.map C.int)).map (n :: ·) = _
    rw [ints_map ns]
    rfl
theorem unders_ints (n : Nat) : ∀ ns : List Int, C.unders n (ns.map C.int) = true
  | [] => rfl
  | i :: ns => by
    show (C.under n (.int i) && C.unders n (ns.map C.int)) = true
    rw [unders_ints n ns]
    rfl
theorem unders_mono {a b : Nat} (l : a ≤ b) : (∀ c : C, c.under a = true → c.under b = true) := by
  have key : ∀ c : C, c.under a = true → c.under b = true := fun c => by
    refine C.rec (motive_1 := fun c => c.under a = true → c.under b = true) (motive_2 := fun cs => C.unders a cs = true → C.unders b cs = true) ?_ ?_ ?_ ?_ ?_ ?_ ?_ ?_ ?_ ?_ c
    · exact fun h => h
    · exact fun _ h => h
    · exact fun _ h => h
    · exact fun _ h => h
    · exact fun _ ih h => ih h
    · intro n h
      have h : n < a := of_decide_eq_true h
      exact decide_eq_true (show n < b by omega)
    · exact fun _ ih h => ih h
    · exact fun _ h => h
    · exact fun h => h
    · intro c cs i1 i2 h
      obtain ⟨h1, h2⟩ := Bool.and_eq_true_iff.mp h
      exact Bool.and_eq_true_iff.mpr ⟨i1 h1, i2 h2⟩
  exact key
theorem unders_monos {a b : Nat} (l : a ≤ b) : ∀ cs : List C, C.unders a cs = true → C.unders b cs = true
  | [], h => h
  | c :: cs, h => by
    obtain ⟨h1, h2⟩ := Bool.and_eq_true_iff.mp h
    exact Bool.and_eq_true_iff.mpr ⟨unders_mono l c h1, unders_monos l cs h2⟩
/-- new lists that hold only what stands -/
theorem closed_app {h x : Hc} (cl : Closed h) (hx : ∀ l ∈ x, C.unders (h.length + x.length) l = true) : Closed (h ++ x) := by
  unfold Closed at *
  refine List.all_eq_true.mpr fun l hl => ?_
  rw [List.length_append]
  rcases List.mem_append.mp hl with z | z
  · exact unders_monos (Nat.le_add_right _ _) _ (List.all_eq_true.mp cl l z)
  · exact hx l z
theorem len2 (a b : C) : [a, b].length ≤ lineN := line2
theorem len_frz (h : Hc) (xs : List C) : bi .len [.frz xs] h = .ok (.int xs.length) h := rfl
theorem max_int (h : Hc) (i j : Int) : bi .max2 [.int i, .int j] h = .ok (.int (if j > i then j else i)) h := rfl
theorem pow18 (h : Hc) : binop .pow (.int 10) (.int 18) h = .ok (.int 1000000000000000000) h := rfl
theorem slc_frz (h : Hc) (xs : List C) (a b : Option Int) : slice (.frz xs) a b h = .ok (.ref h.length) (h ++ [cutC xs a b]) := rfl
theorem cut_ints (ns : List Int) (a b : Option Int) : ∃ ms : List Int, cutC (ns.map C.int) a b = ms.map C.int := by
  refine ⟨(ns.drop (sIxC ns.length 0 a)).take (sIxC ns.length ns.length b - sIxC ns.length 0 a), ?_⟩
  unfold cutC
  rw [List.length_map, List.map_take, List.map_drop]
theorem sum_ref {h : Hc} {n : Nat} {ms : List Int} (e : h[n]? = some (ms.map C.int)) : bi .sum [.ref n] h = .ok (.int ms.sum) h := by
  show (match (h[n]?).bind intsC with
    | some ns => R.ok (C.int ns.sum) h
    | none => .bad) = _
  rw [e]
  show (match intsC (ms.map C.int) with
    | some ns => R.ok (C.int ns.sum) h
    | none => .bad) = _
  rw [ints_map]
theorem item_frz {h : Hc} {xs : List C} {k : Nat} {c : C} (e : xs[k]? = some c) : item (.frz xs) (.int k) h = .ok c h := by
  have hl : k < xs.length := (List.getElem?_eq_some_iff.mp e).1
  show (match (ixC xs.length k).bind fun j => xs[j]? with
      | some c => R.ok c h
      | none => .bad) = _
  have : ixC xs.length k = some k := by
    unfold ixC
    rw [if_pos (by omega), if_pos (by omega)]
    rfl
  rw [this]
  show (match xs[k]? with
      | some c => R.ok c h
      | none => .bad) = _
  rw [e]
theorem r14 (d : Nat) (h : Hc) (ns : List Int) (k : Nat) (hk : k < 100) (cl : Closed h) : ∃ n h', PotAt h' n ∧ Closed h' ∧ Rn (d + 1) 14 [.frz (ns.map C.int), .int k] h = .ok (.ref n) h' := by
  have tid : ∀ (x : Hc) (L : List C), tidy h.length (.ref (h.length + x.length)) (h ++ x ++ [L]) = .ok (.ref (h.length + x.length)) (h ++ x ++ [L]) := fun x L => by
    unfold tidy
    rw [show C.under h.length (.ref (h.length + x.length)) = false from decide_eq_false (by omega)]
    rfl
  have key : ∀ (cell : Int) (x : Hc), (∀ l ∈ x, ∃ ms : List Int, l = ms.map C.int) → ∃ s : Int, PotAt (h ++ x ++ [[.int (if cell - 1000000000000000000 > 0 then cell - 1000000000000000000 else 0), .int s]]) (h.length + x.length) ∧ Closed (h ++ x ++ [[.int (if cell - 1000000000000000000 > 0 then cell - 1000000000000000000 else 0), .int s]]) ∧
      (cell.fmod 2147483549 * 40014 + 9221 * k + 57).fmod 2147483563 + 1 = s := fun cell x hx => by
    obtain ⟨f3, f4⟩ := fmod_b (cell.fmod 2147483549 * 40014 + 9221 * k + 57) (by decide : (0 : Int) < 2147483563)
    refine ⟨(cell.fmod 2147483549 * 40014 + 9221 * k + 57).fmod 2147483563 + 1, ?_, ?_, rfl⟩
    · have hp : Pot [.int (if cell - 1000000000000000000 > 0 then cell - 1000000000000000000 else 0), .int ((cell.fmod 2147483549 * 40014 + 9221 * k + 57).fmod 2147483563 + 1)] := ⟨_, _, rfl, by omega, by omega⟩
      refine ⟨_, ?_, hp⟩
      rw [List.getElem?_append_right (by simp)]
      simp
    · rw [List.append_assoc]
      refine closed_app cl fun l hl => ?_
      rcases List.mem_append.mp hl with z | z
      · obtain ⟨ms, rfl⟩ := hx l z
        exact unders_ints _ _
      · have : l = _ := List.mem_singleton.mp z
        rw [this]
        rfl
  have bounds : ∀ cell : Int, Bd 80 (cell.fmod 2147483549) := fun cell => by
    obtain ⟨f1, f2⟩ := fmod_b cell (by decide : (0 : Int) < 2147483549)
    exact bd_small (by omega) (by omega)
  have m2 := mul_of (i := 9221) (j := (k : Int)) (bd_small (by omega) (by omega)) (bd_small (by omega) (by omega)) (by decide) (by decide)
  have m3 := mul_of (i := 613) (j := (k : Int)) (bd_small (by omega) (by omega)) (bd_small (by omega) (by omega)) (by decide) (by decide)
  have md1 := fun (i : Int) => mod_of (i := i) (j := 2147483549) (by decide)
  have md2 := fun (i : Int) => mod_of (i := i) (j := 2147483563) (by decide)
  have md3 := fun (i : Int) => mod_of (i := i) (j := 1000003) (by decide)
  have m1 := fun (i : Int) => mul_of (j := 40014) (bounds i) (bd_small (by omega) (by omega)) (by decide) (by decide)
  by_cases z : k < ns.length
  · have zi : ((k : Int) < ((ns.map C.int).length : Int)) := by simp; omega
    have e1 : (ns.map C.int)[k]? = some (.int ns[k]) := by
      rw [List.getElem?_map, List.getElem?_eq_getElem z]
      rfl
    generalize hc : (if ns[k] < 0 then -ns[k] else ns[k]) = cell
    obtain ⟨s, s1, s2, s3⟩ := key cell [] (by simp)
    refine ⟨_, _, s1, s2, ?_⟩
    have t1 := tid [] [.int (if cell - 1000000000000000000 > 0 then cell - 1000000000000000000 else 0), .int s]
    simp only [List.append_nil, List.length_nil, Nat.add_zero] at t1 ⊢
    rw [u14]
    simp only [b14, Ss.ev, S.ev, Hs.ev, E.ev, Es.ev, T.ev, Pt.put, Pts.put, Pts.len, Es.len, Oe.ev, It.ev, bind_ok, bind_err, bind_bad, th_ok, th_err, th_bad, nxth, retth, errth, badth, noerr_ok, fin_nx, fin_ret, fin_err, tidy_same, tidyX_same, List.getElem?_cons_zero, List.getElem?_cons_succ, List.set_cons_zero, List.set_cons_succ, lt_int, len_frz, zi, decide_true, if_true, item_frz e1, abs_int, hc, bin_mod, md1, bin_mul, m1, m2, bin_add, md2, pow18, bin_sub, max_int, s3]
    simp only [len2, if_true, Ss.ev, S.ev, Hs.ev, E.ev, Es.ev, T.ev, Pt.put, Pts.put, Pts.len, Es.len, Oe.ev, It.ev, bind_ok, bind_err, bind_bad, th_ok, th_err, th_bad, nxth, retth, errth, badth, noerr_ok, fin_nx, fin_ret, fin_err, tidy_same, tidyX_same, List.getElem?_cons_zero, List.getElem?_cons_succ, List.set_cons_zero, List.set_cons_succ, t1]
  · have zi : ¬ ((k : Int) < ((ns.map C.int).length : Int)) := by simp; omega
    obtain ⟨ms, hms⟩ := cut_ints ns none (some 1)
    have e1 : (h ++ [ms.map C.int])[h.length]? = some (ms.map C.int) := by
      rw [List.getElem?_append_right (Nat.le_refl _), Nat.sub_self]
      rfl
    generalize hc : 613 * (k : Int) + 29 + ms.sum.fmod 1000003 = cell
    obtain ⟨s, s1, s2, s3⟩ := key cell [ms.map C.int] (fun l hl => ⟨ms, List.mem_singleton.mp hl⟩)
    refine ⟨_, _, s1, s2, ?_⟩
    have t1 := tid [ms.map C.int] [.int (if cell - 1000000000000000000 > 0 then cell - 1000000000000000000 else 0), .int s]
    have hl : (h ++ [ms.map C.int]).length = h.length + [ms.map C.int].length := List.length_append
    rw [u14]
    simp only [b14, Ss.ev, S.ev, Hs.ev, E.ev, Es.ev, T.ev, Pt.put, Pts.put, Pts.len, Es.len, Oe.ev, It.ev, bind_ok, bind_err, bind_bad, th_ok, th_err, th_bad, nxth, retth, errth, badth, noerr_ok, fin_nx, fin_ret, fin_err, tidy_same, tidyX_same, List.getElem?_cons_zero, List.getElem?_cons_succ, List.set_cons_zero, List.set_cons_succ, lt_int, len_frz, zi, decide_false, if_false, Bool.false_eq_true, bin_mul, m3, bin_add, slc_frz, hms, sum_ref e1, bin_mod, md3, hc, md1, m1, m2, md2, pow18, bin_sub, max_int, s3]
    simp only [len2, if_true, Ss.ev, S.ev, Hs.ev, E.ev, Es.ev, T.ev, Pt.put, Pts.put, Pts.len, Es.len, Oe.ev, It.ev, bind_ok, bind_err, bind_bad, th_ok, th_err, th_bad, nxth, retth, errth, badth, noerr_ok, fin_nx, fin_ret, fin_err, tidy_same, tidyX_same, List.getElem?_cons_zero, List.getElem?_cons_succ, List.set_cons_zero, List.set_cons_succ, hl, t1]
end K10
set_option linter.all false
set_option autoImplicit false
set_option maxRecDepth 100000
set_option maxHeartbeats 16000000
namespace Sh
open PySem
theorem ss_cons (call : Nat → List C → Hc → R C) (sub : Nat → Str → Option Bool) (w : Nat) (s : S) (ss : Ss) (cx : Option (Nat × List C)) (sl : Sl) (h : Hc) : Ss.ev call sub w (.cons s ss) cx sl h = (S.ev call sub w s cx sl h).th fun sl1 h1 => Ss.ev call sub w ss cx sl1 h1 := rfl
theorem ss_nil (call : Nat → List C → Hc → R C) (sub : Nat → Str → Option Bool) (w : Nat) (cx : Option (Nat × List C)) (sl : Sl) (h : Hc) : Ss.ev call sub w .nil cx sl h = .nx sl h := rfl
/-- a list that stays, walked to its end -/
theorem forF_lst {idx : Nat} {xs : List C} {g : C → Sl → Hc → R Sl} {b : Sl → Hc → RS'} (inv : Nat → Sl → Hc → Prop) (hx : ∀ i sl h, inv i sl h → h[idx]? = some xs)
    (step : ∀ i c sl h, inv i sl h → xs[i]? = some c → ∃ sl1 h1 sl2 h2, g c sl h = .ok sl1 h1 ∧ b sl1 h1 = .nx sl2 h2 ∧ inv (i + 1) sl2 h2) :
    ∀ (f i : Nat) (sl : Sl) (h : Hc), inv i sl h → i ≤ xs.length → xs.length < i + f → ∃ sl' h', forF (.lst idx) g b f i sl h = .nx sl' h' ∧ inv xs.length sl' h'
  | 0, i, sl, h, _, h1, h2 => by omega
  | f + 1, i, sl, h, hi, h1, h2 => by
    have e : ItV.at_ (.lst idx) i h = some xs[i]? := by
      show (match h[idx]? with | some cs => some cs[i]? | none => none) = _
      rw [hx i sl h hi]
    by_cases z : i < xs.length
    · obtain ⟨sl1, h1', sl2, h2', e1, e2, e3⟩ := step i xs[i] sl h hi (List.getElem?_eq_getElem z)
      obtain ⟨sl', h', e4, e5⟩ := forF_lst inv hx step f (i + 1) sl2 h2' e3 z (by omega)
      refine ⟨sl', h', ?_, e5⟩
      unfold forF
      rw [e, List.getElem?_eq_getElem z]
      show (R.noerr (g xs[i] sl h)).th sl _ = _
      rw [e1]
      show (match b sl1 h1' with
        | .nx sl2 h2 => forF (.lst idx) g b f (i + 1) sl2 h2
        | .ct sl2 h2 => forF (.lst idx) g b f (i + 1) sl2 h2
        | .bk sl2 h2 => .nx sl2 h2
        | r => r) = _
      rw [e2]
      exact e4
    · have : i = xs.length := by omega
      subst this
      refine ⟨sl, h, ?_, hi⟩
      unfold forF
      rw [e, List.getElem?_eq_none (Nat.le_refl _)]
theorem forF_rng {lo : Int} {n : Nat} {g : C → Sl → Hc → R Sl} {b : Sl → Hc → RS'} (inv : Nat → Sl → Hc → Prop)
    (step : ∀ i sl h, inv i sl h → i < n → ∃ sl1 h1 sl2 h2, g (.int (lo + i)) sl h = .ok sl1 h1 ∧ b sl1 h1 = .nx sl2 h2 ∧ inv (i + 1) sl2 h2) :
    ∀ (f i : Nat) (sl : Sl) (h : Hc), inv i sl h → i ≤ n → n < i + f → ∃ sl' h', forF (.rng lo n) g b f i sl h = .nx sl' h' ∧ inv n sl' h'
  | 0, i, sl, h, _, h1, h2 => by omega
  | f + 1, i, sl, h, hi, h1, h2 => by
    have e : ItV.at_ (.rng lo n) i h = if i < n then some (some (.int (lo + i))) else some none := rfl
    by_cases z : i < n
    · obtain ⟨sl1, h1', sl2, h2', e1, e2, e3⟩ := step i sl h hi z
      obtain ⟨sl', h', e4, e5⟩ := forF_rng inv step f (i + 1) sl2 h2' e3 z (by omega)
      refine ⟨sl', h', ?_, e5⟩
      unfold forF
      rw [e, if_pos z]
      show (R.noerr (g (.int (lo + i)) sl h)).th sl _ = _
      rw [e1]
      show (match b sl1 h1' with
        | .nx sl2 h2 => forF (.rng lo n) g b f (i + 1) sl2 h2
        | .ct sl2 h2 => forF (.rng lo n) g b f (i + 1) sl2 h2
        | .bk sl2 h2 => .nx sl2 h2
        | r => r) = _
      rw [e2]
      exact e4
    · have : i = n := by omega
      subst this
      refine ⟨sl, h, ?_, hi⟩
      unfold forF
      rw [e, if_neg z]
end Sh
namespace K10
open Sh PySem
def s23_0 : S := (.asg (.v 2) (.call 13 .nil))
def s23_1 : S := (.par 3 4 (.idx (.var 2) (.call 15 (.cons (.var 0) (.cons (.bi .len (.cons (.var 2) .nil)) .nil)))) (.idx (.var 2) (.call 15 (.cons (.var 0) (.cons (.bi .len (.cons (.var 2) .nil)) .nil)))))
def s23_2 : S := (.ifs (.cmp .isn (.call 3 (.cons (.var 3) .nil)) (.con (.bl false))) (.cons (.ret (.con (.bl false))) .nil) .nil)
def l23_3 : Ss := (.cons (.ifs (.cmp .ne (.call 20 (.cons (.var 5) (.cons (.var 3) (.cons (.var 4) .nil)))) (.lst (.cons (.con (.str "InvalidRatio")) (.cons (.bi .repr (.cons (.var 3) .nil)) (.cons (.con (.bl true)) .nil))))) (.cons (.ret (.con (.bl false))) .nil) .nil) (.cons (.ifs (.cmp .ne (.call 20 (.cons (.var 5) (.cons (.var 1) (.cons (.var 3) .nil)))) (.lst (.cons (.con (.str "InvalidRatio")) (.cons (.bi .repr (.cons (.var 3) .nil)) (.cons (.con (.bl true)) .nil))))) (.cons (.ret (.con (.bl false))) .nil) .nil) .nil))
def s23_3 : S := (.for_ (.v 5) (.seq (.lst (.cons (.con (.str "plus")) (.cons (.con (.str "minus")) (.cons (.con (.str "times")) (.cons (.con (.str "over")) (.cons (.con (.str "compared")) .nil))))))) l23_3)
def s23_4 : S := (.ifs (.cmp .ne (.call 20 (.cons (.con (.str "floor")) (.cons (.var 3) (.cons (.con .non) .nil)))) (.lst (.cons (.con (.str "InvalidRatio")) (.cons (.bi .repr (.cons (.var 3) .nil)) (.cons (.con (.bl true)) .nil))))) (.cons (.ret (.con (.bl false))) .nil) .nil)
def s23_5 : S := (.asg (.v 6) (.idx (.lst (.cons (.con (.bl true)) (.cons (.con (.bl false)) (.cons (.con .non) (.cons (.con (.str "1")) (.cons (.tup (.cons (.con (.int 1)) (.cons (.con (.int 2)) .nil))) (.cons (.lst (.cons (.con (.int 3)) .nil)) (.cons (.con (.str "")) (.cons (.tup .nil) .nil))))))))) (.call 15 (.cons (.var 0) (.cons (.con (.int 8)) .nil)))))
def s23_6 : S := (.ifs (.cmp .ne (.call 20 (.cons (.con (.str "made")) (.cons (.var 6) (.cons (.con (.int 0)) .nil)))) (.lst (.cons (.con (.str "InvalidInteger")) (.cons (.bi .repr (.cons (.var 6) .nil)) (.cons (.con (.bl true)) .nil))))) (.cons (.ret (.con (.bl false))) .nil) .nil)
def l23_7 : Ss := (.cons (.ifs (.cmp .ne (.call 20 (.cons (.con (.str "made")) (.cons (.idx (.var 1) (.con (.int 0))) (.cons (.var 7) .nil)))) (.lst (.cons (.con (.str "InvalidInteger")) (.cons (.bi .repr (.cons (.var 7) .nil)) (.cons (.con (.bl true)) .nil))))) (.cons (.ret (.con (.bl false))) .nil) .nil) .nil)
def s23_7 : S := (.for_ (.v 7) (.seq (.lst (.cons (.var 6) (.cons (.con (.int 0)) .nil)))) l23_7)
def s23_8 : S := (.ret (.con (.bl true)))
theorem bs23 : b23 = (.cons s23_0 (.cons s23_1 (.cons s23_2 (.cons s23_3 (.cons s23_4 (.cons s23_5 (.cons s23_6 (.cons s23_7 (.cons s23_8 .nil))))))))) := rfl

def odds (L : Nat) : List C := [.tup [.int 2, .int 4], .tup [.int 1, .int 0], .tup [.int 1, .int (-2)], .tup [.int 0, .int 2], .ref L, .tup [.int 1], .tup [.int 1, .int 2, .int 3], .tup [.bl true, .int 1], .tup [.int 1, .bl true], .tup [.int 0, .bl false], .tup [.str "1", .int 2], .tup [.int 1, .str "2"], .tup [.non, .int 1], .non, .str "1/2", .int 1, .tup [], .tup [.tup [.int 1, .int 2], .int 1], .tup [.int 1, .tup [.int 2]], .ref (L + 2)]
def olds (L : Nat) : Hc := [[.int 1, .int 2], [.int 1], [.ref (L + 1), .int 2], odds L]
theorem lenle {xs : List C} (h : xs.length ≤ 100) : xs.length ≤ lineN := Nat.le_trans h (by decide)
theorem r13 (d : Nat) (h : Hc) : Rn (d + 1) 13 [] h = .ok (.ref (h.length + 3)) (h ++ olds h.length) := by
  have tid : ∀ x, tidy h.length (.ref (h.length + 3)) (h ++ x) = .ok (.ref (h.length + 3)) (h ++ x) := fun x => by
    unfold tidy
    rw [show C.under h.length (.ref (h.length + 3)) = false from decide_eq_false (by omega)]
    rfl
  rw [u13]
  simp [b13, Ss.ev, S.ev, Hs.ev, E.ev, Es.ev, T.ev, Pt.put, Pts.put, Pts.len, Es.len, Oe.ev, It.ev, bind_ok, bind_err, bind_bad, th_ok, th_err, th_bad, nxth, retth, errth, badth, noerr_ok, fin_nx, fin_ret, fin_err, tidy_same, tidyX_same, List.getElem?_cons_zero, List.getElem?_cons_succ, List.set_cons_zero, List.set_cons_succ, lineN, tid, olds, odds]
structure Base (L : Nat) (h : Hc) : Prop where
  a : h[L]? = some [.int 1, .int 2]
  b : h[L + 1]? = some [.int 1]
  c : h[L + 2]? = some [.ref (L + 1), .int 2]
  d : h[L + 3]? = some (odds L)
def OddOk (L : Nat) (o : C) : Prop := ∃ dv, (∀ d hh, Rn (d + 2) 3 [o] hh = .ok (.bl false) hh) ∧ dv.hasDict = false ∧ ∀ hh, Base L hh → bi .repr [o] hh = .ok (.rep dv) hh
theorem repr_of {hh : Hc} {c : C} {dv : PyData} (e : datum hh c = some dv) (k : (dv.showable && SeqAt.shaped dv && shortD dv) = true) : bi .repr [c] hh = .ok (.rep dv) hh := by
  show (match datum hh c with
      | some d => if d.showable && SeqAt.shaped d && shortD d then R.ok (C.rep d) hh else .bad
      | none => .bad) = _
  rw [e]
  show (if (dv.showable && SeqAt.shaped dv && shortD dv) = true then R.ok (C.rep dv) hh else .bad) = _
  rw [if_pos k]
theorem nt3 (d : Nat) (hh : Hc) (o : C) (h : isiC o .tuple = false) : Rn (d + 2) 3 [o] hh = .ok (.bl false) hh := by
  rw [u3]
  simp [b3, Ss.ev, S.ev, Hs.ev, E.ev, Es.ev, T.ev, Pt.put, Pts.put, Pts.len, Es.len, Oe.ev, It.ev, bind_ok, bind_err, bind_bad, th_ok, th_err, th_bad, nxth, retth, errth, badth, noerr_ok, fin_nx, fin_ret, fin_err, tidy_same, tidyX_same, List.getElem?_cons_zero, List.getElem?_cons_succ, List.set_cons_zero, List.set_cons_succ, truth_bl, h]
theorem nl3 (d : Nat) (hh : Hc) (xs : List C) (h : xs.length ≠ 2) : Rn (d + 2) 3 [.tup xs] hh = .ok (.bl false) hh := by
  have h' : ((xs.length : Int) == 2) = false := by simp; omega
  rw [u3]
  simp [b3, Ss.ev, S.ev, Hs.ev, E.ev, Es.ev, T.ev, Pt.put, Pts.put, Pts.len, Es.len, Oe.ev, It.ev, bind_ok, bind_err, bind_bad, th_ok, th_err, th_bad, nxth, retth, errth, badth, noerr_ok, fin_nx, fin_ret, fin_err, tidy_same, tidyX_same, List.getElem?_cons_zero, List.getElem?_cons_succ, List.set_cons_zero, List.set_cons_succ, truth_bl, isiC, isiT, tyC, len_tup, ne_int, h']
theorem ni3 (d : Nat) (hh : Hc) (x y : C) (h : isI x = false ∨ isI y = false) : Rn (d + 2) 3 [.tup [x, y]] hh = .ok (.bl false) hh := by
  rw [u3]
  cases e1 : isI x <;> cases e2 : isI y <;> simp [b3, Ss.ev, S.ev, Hs.ev, E.ev, Es.ev, T.ev, Pt.put, Pts.put, Pts.len, Es.len, Oe.ev, It.ev, bind_ok, bind_err, bind_bad, th_ok, th_err, th_bad, nxth, retth, errth, badth, noerr_ok, fin_nx, fin_ret, fin_err, tidy_same, tidyX_same, List.getElem?_cons_zero, List.getElem?_cons_succ, List.set_cons_zero, List.set_cons_succ, truth_bl, isiC, isiT, tyC, len_tup, ne_int, r0, e1, e2] <;> simp [e1, e2] at h
theorem n3 (d : Nat) (hh : Hc) (n u : Int) (h : (decide (1 ≤ u) && decide (Nat.gcd n.natAbs u.natAbs = 1)) = false) : Rn (d + 2) 3 [.tup [.int n, .int u]] hh = .ok (.bl false) hh := by
  rw [r3, h]
theorem odds_ok (L : Nat) : ∀ o ∈ odds L, OddOk L o := by
  intro o ho
  simp only [odds, List.mem_cons, List.not_mem_nil, or_false] at ho
  rcases ho with rfl | rfl | rfl | rfl | rfl | rfl | rfl | rfl | rfl | rfl | rfl | rfl | rfl | rfl | rfl | rfl | rfl | rfl | rfl | rfl
  · exact ⟨.tuple [.int 2, .int 4], fun d hh => n3 d hh _ _ (by decide), rfl, fun hh _ => repr_of rfl (by decide +kernel)⟩
  · exact ⟨.tuple [.int 1, .int 0], fun d hh => n3 d hh _ _ (by decide), rfl, fun hh _ => repr_of rfl (by decide +kernel)⟩
  · exact ⟨.tuple [.int 1, .int (-2)], fun d hh => n3 d hh _ _ (by decide), rfl, fun hh _ => repr_of rfl (by decide +kernel)⟩
  · exact ⟨.tuple [.int 0, .int 2], fun d hh => n3 d hh _ _ (by decide), rfl, fun hh _ => repr_of rfl (by decide +kernel)⟩
  · refine ⟨.list [.int 1, .int 2], fun d hh => nt3 d hh _ rfl, rfl, fun hh b => repr_of ?_ (by decide +kernel)⟩
    show (match hh[L]? with
      | some cs => (cs.mapM (toD hh 59)).map PyData.list
      | none => none) = _
    rw [b.a]; rfl
  · exact ⟨.tuple [.int 1], fun d hh => nl3 d hh _ (by decide), rfl, fun hh _ => repr_of rfl (by decide +kernel)⟩
  · exact ⟨.tuple [.int 1, .int 2, .int 3], fun d hh => nl3 d hh _ (by simp), rfl, fun hh _ => repr_of rfl (by decide +kernel)⟩
  · exact ⟨.tuple [.bool true, .int 1], fun d hh => ni3 d hh _ _ (.inl rfl), rfl, fun hh _ => repr_of rfl (by decide +kernel)⟩
  · exact ⟨.tuple [.int 1, .bool true], fun d hh => ni3 d hh _ _ (.inr rfl), rfl, fun hh _ => repr_of rfl (by decide +kernel)⟩
  · exact ⟨.tuple [.int 0, .bool false], fun d hh => ni3 d hh _ _ (.inr rfl), rfl, fun hh _ => repr_of rfl (by decide +kernel)⟩
  · exact ⟨.tuple [.str "1", .int 2], fun d hh => ni3 d hh _ _ (.inl rfl), rfl, fun hh _ => repr_of rfl (by decide +kernel)⟩
  · exact ⟨.tuple [.int 1, .str "2"], fun d hh => ni3 d hh _ _ (.inr rfl), rfl, fun hh _ => repr_of rfl (by decide +kernel)⟩
  · exact ⟨.tuple [.none, .int 1], fun d hh => ni3 d hh _ _ (.inl rfl), rfl, fun hh _ => repr_of rfl (by decide +kernel)⟩
  · exact ⟨.none, fun d hh => nt3 d hh _ rfl, rfl, fun hh _ => repr_of rfl (by decide +kernel)⟩
  · exact ⟨.str "1/2", fun d hh => nt3 d hh _ rfl, rfl, fun hh _ => repr_of rfl (by decide +kernel)⟩
  · exact ⟨.int 1, fun d hh => nt3 d hh _ rfl, rfl, fun hh _ => repr_of rfl (by decide +kernel)⟩
  · exact ⟨.tuple [], fun d hh => nl3 d hh _ (by decide), rfl, fun hh _ => repr_of rfl (by decide +kernel)⟩
  · exact ⟨.tuple [.tuple [.int 1, .int 2], .int 1], fun d hh => ni3 d hh _ _ (.inl rfl), rfl, fun hh _ => repr_of rfl (by decide +kernel)⟩
  · exact ⟨.tuple [.int 1, .tuple [.int 2]], fun d hh => ni3 d hh _ _ (.inr rfl), rfl, fun hh _ => repr_of rfl (by decide +kernel)⟩
  · refine ⟨.list [.list [.int 1], .int 2], fun d hh => nt3 d hh _ rfl, rfl, fun hh b => repr_of ?_ (by decide +kernel)⟩
    show (match hh[L + 2]? with
      | some cs => (cs.mapM (toD hh 59)).map PyData.list
      | none => none) = _
    rw [b.c]
    show (List.mapM (toD hh 59) [.ref (L + 1), .int 2]).map PyData.list = _
    have : toD hh 59 (.ref (L + 1)) = some (.list [.int 1]) := by
      show (match hh[L + 1]? with
        | some cs => (cs.mapM (toD hh 58)).map PyData.list
        | none => none) = _
      rw [b.b]; rfl
    have t2 : toD hh 59 (.int 2) = some (.int 2) := rfl
    simp only [List.mapM_cons, List.mapM_nil, this, t2]
    rfl
end K10
set_option linter.all false
set_option autoImplicit false
set_option maxRecDepth 100000
set_option maxHeartbeats 16000000
namespace K10
open Sh PySem
/-! ### refusals -/
def NotR (x : C) : Prop := ∀ d hh, Rn (d + 2) 3 [x] hh = .ok (.bl false) hh
theorem r4b {x : C} (hx : NotR x) (d : Nat) (h : Hc) : Rn (d + 3) 4 [x] h = .err 1 [x] h := by
  rw [r4 _ _ _ false (hx d h)]
  rfl
def five : List (Str × Nat) := [("plus", 7), ("minus", 8), ("times", 9), ("over", 10), ("compared", 11)]
theorem bad1 {x : C} (hx : NotR x) (y : C) (d : Nat) (h : Hc) {w : Str} {j : Nat} (hw : (w, j) ∈ five) : Rn (d + 4) j [x, y] h = .err 1 [x] h := by
  simp only [five, List.mem_cons, List.not_mem_nil, or_false, Prod.mk.injEq] at hw
  rcases hw with ⟨-, rfl⟩ | ⟨-, rfl⟩ | ⟨-, rfl⟩ | ⟨-, rfl⟩ | ⟨-, rfl⟩
  · rw [u7]; simp [b7, Ss.ev, S.ev, Hs.ev, E.ev, Es.ev, T.ev, Pt.put, Pts.put, Pts.len, Es.len, Oe.ev, It.ev, bind_ok, bind_err, bind_bad, th_ok, th_err, th_bad, nxth, retth, errth, badth, noerr_ok, fin_nx, fin_ret, fin_err, tidy_same, tidyX_same, List.getElem?_cons_zero, List.getElem?_cons_succ, List.set_cons_zero, List.set_cons_succ, r4b hx]
  · rw [u8]; simp [b8, Ss.ev, S.ev, Hs.ev, E.ev, Es.ev, T.ev, Pt.put, Pts.put, Pts.len, Es.len, Oe.ev, It.ev, bind_ok, bind_err, bind_bad, th_ok, th_err, th_bad, nxth, retth, errth, badth, noerr_ok, fin_nx, fin_ret, fin_err, tidy_same, tidyX_same, List.getElem?_cons_zero, List.getElem?_cons_succ, List.set_cons_zero, List.set_cons_succ, r4b hx]
  · rw [u9]; simp [b9, Ss.ev, S.ev, Hs.ev, E.ev, Es.ev, T.ev, Pt.put, Pts.put, Pts.len, Es.len, Oe.ev, It.ev, bind_ok, bind_err, bind_bad, th_ok, th_err, th_bad, nxth, retth, errth, badth, noerr_ok, fin_nx, fin_ret, fin_err, tidy_same, tidyX_same, List.getElem?_cons_zero, List.getElem?_cons_succ, List.set_cons_zero, List.set_cons_succ, r4b hx]
  · rw [u10]; simp [b10, Ss.ev, S.ev, Hs.ev, E.ev, Es.ev, T.ev, Pt.put, Pts.put, Pts.len, Es.len, Oe.ev, It.ev, bind_ok, bind_err, bind_bad, th_ok, th_err, th_bad, nxth, retth, errth, badth, noerr_ok, fin_nx, fin_ret, fin_err, tidy_same, tidyX_same, List.getElem?_cons_zero, List.getElem?_cons_succ, List.set_cons_zero, List.set_cons_succ, r4b hx]
  · rw [u11]; simp [b11, Ss.ev, S.ev, Hs.ev, E.ev, Es.ev, T.ev, Pt.put, Pts.put, Pts.len, Es.len, Oe.ev, It.ev, bind_ok, bind_err, bind_bad, th_ok, th_err, th_bad, nxth, retth, errth, badth, noerr_ok, fin_nx, fin_ret, fin_err, tidy_same, tidyX_same, List.getElem?_cons_zero, List.getElem?_cons_succ, List.set_cons_zero, List.set_cons_succ, r4b hx]
theorem bad2 {x : C} (hx : NotR x) {a b : Int} (g : Gd a b) (d : Nat) (h : Hc) {w : Str} {j : Nat} (hw : (w, j) ∈ five) : Rn (d + 4) j [.tup [.int a, .int b], x] h = .err 1 [x] h := by
  simp only [five, List.mem_cons, List.not_mem_nil, or_false, Prod.mk.injEq] at hw
  rcases hw with ⟨-, rfl⟩ | ⟨-, rfl⟩ | ⟨-, rfl⟩ | ⟨-, rfl⟩ | ⟨-, rfl⟩
  · rw [u7]; simp [b7, Ss.ev, S.ev, Hs.ev, E.ev, Es.ev, T.ev, Pt.put, Pts.put, Pts.len, Es.len, Oe.ev, It.ev, bind_ok, bind_err, bind_bad, th_ok, th_err, th_bad, nxth, retth, errth, badth, noerr_ok, fin_nx, fin_ret, fin_err, tidy_same, tidyX_same, List.getElem?_cons_zero, List.getElem?_cons_succ, List.set_cons_zero, List.set_cons_succ, r4b hx, r4g g]
  · rw [u8]; simp [b8, Ss.ev, S.ev, Hs.ev, E.ev, Es.ev, T.ev, Pt.put, Pts.put, Pts.len, Es.len, Oe.ev, It.ev, bind_ok, bind_err, bind_bad, th_ok, th_err, th_bad, nxth, retth, errth, badth, noerr_ok, fin_nx, fin_ret, fin_err, tidy_same, tidyX_same, List.getElem?_cons_zero, List.getElem?_cons_succ, List.set_cons_zero, List.set_cons_succ, r4b hx, r4g g]
  · rw [u9]; simp [b9, Ss.ev, S.ev, Hs.ev, E.ev, Es.ev, T.ev, Pt.put, Pts.put, Pts.len, Es.len, Oe.ev, It.ev, bind_ok, bind_err, bind_bad, th_ok, th_err, th_bad, nxth, retth, errth, badth, noerr_ok, fin_nx, fin_ret, fin_err, tidy_same, tidyX_same, List.getElem?_cons_zero, List.getElem?_cons_succ, List.set_cons_zero, List.set_cons_succ, r4b hx, r4g g]
  · rw [u10]; simp [b10, Ss.ev, S.ev, Hs.ev, E.ev, Es.ev, T.ev, Pt.put, Pts.put, Pts.len, Es.len, Oe.ev, It.ev, bind_ok, bind_err, bind_bad, th_ok, th_err, th_bad, nxth, retth, errth, badth, noerr_ok, fin_nx, fin_ret, fin_err, tidy_same, tidyX_same, List.getElem?_cons_zero, List.getElem?_cons_succ, List.set_cons_zero, List.set_cons_succ, r4b hx, r4g g]
  · rw [u11]; simp [b11, Ss.ev, S.ev, Hs.ev, E.ev, Es.ev, T.ev, Pt.put, Pts.put, Pts.len, Es.len, Oe.ev, It.ev, bind_ok, bind_err, bind_bad, th_ok, th_err, th_bad, nxth, retth, errth, badth, noerr_ok, fin_nx, fin_ret, fin_err, tidy_same, tidyX_same, List.getElem?_cons_zero, List.getElem?_cons_succ, List.set_cons_zero, List.set_cons_succ, r4b hx, r4g g]
theorem bad12 {x : C} (hx : NotR x) (d : Nat) (h : Hc) : Rn (d + 4) 12 [x] h = .err 1 [x] h := by
  rw [u12]; simp [b12, Ss.ev, S.ev, Hs.ev, E.ev, Es.ev, T.ev, Pt.put, Pts.put, Pts.len, Es.len, Oe.ev, It.ev, bind_ok, bind_err, bind_bad, th_ok, th_err, th_bad, nxth, retth, errth, badth, noerr_ok, fin_nx, fin_ret, fin_err, tidy_same, tidyX_same, List.getElem?_cons_zero, List.getElem?_cons_succ, List.set_cons_zero, List.set_cons_succ, r4b hx]
theorem made1 {x : C} (hx : isI x = false) (y : C) (d : Nat) (h : Hc) : Rn (d + 3) 6 [x, y] h = .err 0 [x] h := by
  rw [u6]; simp [b6, Ss.ev, S.ev, Hs.ev, E.ev, Es.ev, T.ev, Pt.put, Pts.put, Pts.len, Es.len, Oe.ev, It.ev, bind_ok, bind_err, bind_bad, th_ok, th_err, th_bad, nxth, retth, errth, badth, noerr_ok, fin_nx, fin_ret, fin_err, tidy_same, tidyX_same, List.getElem?_cons_zero, List.getElem?_cons_succ, List.set_cons_zero, List.set_cons_succ, r1, hx]
theorem made2 (i : Int) {y : C} (hy : isI y = false) (d : Nat) (h : Hc) : Rn (d + 3) 6 [.int i, y] h = .err 0 [y] h := by
  rw [u6]; simp [b6, Ss.ev, S.ev, Hs.ev, E.ev, Es.ev, T.ev, Pt.put, Pts.put, Pts.len, Es.len, Oe.ev, It.ev, bind_ok, bind_err, bind_bad, th_ok, th_err, th_bad, nxth, retth, errth, badth, noerr_ok, fin_nx, fin_ret, fin_err, tidy_same, tidyX_same, List.getElem?_cons_zero, List.getElem?_cons_succ, List.set_cons_zero, List.set_cons_succ, r1, r2' _ _ _ hy, isI]
theorem made3 (i : Int) (d : Nat) (h : Hc) : Rn (d + 3) 6 [.int i, .int 0] h = .err 0 [.int 0] h := by
  rw [u6]; simp [b6, Ss.ev, S.ev, Hs.ev, E.ev, Es.ev, T.ev, Pt.put, Pts.put, Pts.len, Es.len, Oe.ev, It.ev, bind_ok, bind_err, bind_bad, th_ok, th_err, th_bad, nxth, retth, errth, badth, noerr_ok, fin_nx, fin_ret, fin_err, tidy_same, tidyX_same, List.getElem?_cons_zero, List.getElem?_cons_succ, List.set_cons_zero, List.set_cons_succ, r1, r2, isI]
theorem five_fn {w : Str} {j : Nat} (h : (w, j) ∈ five) : (w, j) ∈ fnW := by
  simp only [five, fnW, List.mem_cons, List.not_mem_nil, or_false] at h ⊢
  rcases h with h | h | h | h | h
  · exact .inr (.inl h)
  · exact .inr (.inr (.inl h))
  · exact .inr (.inr (.inr (.inl h)))
  · exact .inr (.inr (.inr (.inr (.inl h))))
  · exact .inr (.inr (.inr (.inr (.inr h))))
theorem len3 (a b c : C) : [a, b, c].length ≤ lineN := line3
/-! ### stores -/
theorem get_app {h : Hc} {i : Nat} {l : List C} (e : h[i]? = some l) (x : Hc) : (h ++ x)[i]? = some l := by
  rw [List.getElem?_append_left (List.getElem?_eq_some_iff.mp e).1]
  exact e
theorem get_nx {n : Nat} {h h' : Hc} (x : Nx n h h') {i : Nat} {l : List C} (e : h[i]? = some l) (hn : n ≠ i) : h'[i]? = some l := by
  rcases x with rfl | ⟨L, rfl, _⟩
  · exact e
  · rw [List.getElem?_set_ne hn]
    exact e
theorem Base.app {L : Nat} {h : Hc} (b : Base L h) (x : Hc) : Base L (h ++ x) := ⟨get_app b.a x, get_app b.b x, get_app b.c x, get_app b.d x⟩
theorem Base.nx {L n : Nat} {h h' : Hc} (b : Base L h) (x : Nx n h h') (hn : n < L) : Base L h' := ⟨get_nx x b.a (by omega), get_nx x b.b (by omega), get_nx x b.c (by omega), get_nx x b.d (by omega)⟩
/-- the store h with another pot at n, and lists behind it -/
def St (n : Nat) (h hh : Hc) : Prop := ∃ h' x, Nx n h h' ∧ hh = h' ++ x
theorem St.app {n : Nat} {h hh : Hc} (s : St n h hh) (y : Hc) : St n h (hh ++ y) := by
  obtain ⟨h', x, a, rfl⟩ := s
  exact ⟨h', x ++ y, a, by rw [List.append_assoc]⟩
theorem St.nx {n : Nat} {h hh h2 : Hc} (s : St n h hh) (hn : n < h.length) (x : Nx n hh h2) : St n h h2 := by
  obtain ⟨h', y, a, rfl⟩ := s
  rcases x with rfl | ⟨L, rfl, q⟩
  · exact ⟨h', y, a, rfl⟩
  · refine ⟨h'.set n L, y, a.trans (.inr ⟨L, rfl, q⟩), ?_⟩
    rw [List.set_append_left]
    rw [a.len]
    exact hn
theorem PotAt.app {n : Nat} {h : Hc} (p : PotAt h n) (x : Hc) : PotAt (h ++ x) n := by
  obtain ⟨L, e, q⟩ := p
  exact ⟨L, get_app e x, q⟩
theorem St.end {n : Nat} {h hh : Hc} (cl : Closed h) (s : St n h hh) : ∃ h', Nx n h h' ∧ tidy h.length (.bl true) hh = .ok (.bl true) h' := by
  obtain ⟨h', x, a, rfl⟩ := s
  refine ⟨h', a, ?_⟩
  rw [← a.len]
  exact tidy_cl (a.closed cl) _ rfl
/-! ### the words -/
section
variable {d L : Nat} {a b : Int} {o later : C} {dv : PyData} {P S' n6 n7 : Option C}
theorem told1 (hx : NotR o) (hr : ∀ hh, Base L hh → bi .repr [o] hh = .ok (.rep dv) hh) {w : Str} {j : Nat} (hw : (w, j) ∈ five) (y : C) (hh : Hc) (B : Base L hh) : Rn (d + 6) 20 [.str w, o, y] hh = .ok (.ref hh.length) (hh ++ [Lr dv]) :=
  r20r _ hh _ _ _ o dv (r19e _ hh _ _ _ _ w j (five_fn hw) (bad1 hx y d hh hw)) (hr hh B)
theorem told2 (hx : NotR o) (hr : ∀ hh, Base L hh → bi .repr [o] hh = .ok (.rep dv) hh) (g : Gd a b) {w : Str} {j : Nat} (hw : (w, j) ∈ five) (hh : Hc) (B : Base L hh) : Rn (d + 6) 20 [.str w, .tup [.int a, .int b], o] hh = .ok (.ref hh.length) (hh ++ [Lr dv]) :=
  r20r _ hh _ _ _ o dv (r19e _ hh _ _ _ _ w j (five_fn hw) (bad2 hx g d hh hw)) (hr hh B)
theorem dueR (hd : dv.hasDict = false) (h : Hc) : cmpop .ne (.ref h.length) (.ref (h ++ [Lr dv]).length) (h ++ [Lr dv] ++ [[.str "InvalidRatio", .rep dv, .bl true]]) = .ok (.bl false) (h ++ [Lr dv] ++ [[.str "InvalidRatio", .rep dv, .bl true]]) := due_ok h (Lr dv) (bothLr dv hd)
theorem dueI (hd : dv.hasDict = false) (h : Hc) : cmpop .ne (.ref h.length) (.ref (h ++ [Li dv]).length) (h ++ [Li dv] ++ [[.str "InvalidInteger", .rep dv, .bl true]]) = .ok (.bl false) (h ++ [Li dv] ++ [[.str "InvalidInteger", .rep dv, .bl true]]) := due_ok h (Li dv) (bothLi dv hd)
theorem word_body (hx : NotR o) (hd : dv.hasDict = false) (hr : ∀ hh, Base L hh → bi .repr [o] hh = .ok (.rep dv) hh) (g : Gd a b) {w : Str} {j : Nat} (hw : (w, j) ∈ five) (h : Hc) (B : Base L h) :
    ∃ x, Ss.ev (Rn (d + 6)) sub WH l23_3 none [P, some (.tup [.int a, .int b]), S', some o, some later, some (.str w), n6, n7] h = .nx [P, some (.tup [.int a, .int b]), S', some o, some later, some (.str w), n6, n7] (h ++ x) := by
  have t1 := told1 (d := d) hx hr hw later h B
  have t2 := told2 (d := d) hx hr g hw (h ++ [Lr dv] ++ [[.str "InvalidRatio", .rep dv, .bl true]]) ((B.app _).app _)
  have p1 := hr (h ++ [Lr dv]) (B.app _)
  have p2 := hr (h ++ [Lr dv] ++ [[.str "InvalidRatio", .rep dv, .bl true]] ++ [Lr dv]) (((B.app _).app _).app _)
  have d1 := dueR hd h
  have d2 := dueR hd (h ++ [Lr dv] ++ [[.str "InvalidRatio", .rep dv, .bl true]])
  refine ⟨[Lr dv] ++ ([[.str "InvalidRatio", .rep dv, .bl true]] ++ ([Lr dv] ++ [[.str "InvalidRatio", .rep dv, .bl true]])), ?_⟩
  rw [← List.append_assoc, ← List.append_assoc, ← List.append_assoc]
  simp only [l23_3, Ss.ev, S.ev, Hs.ev, E.ev, Es.ev, T.ev, Pt.put, Pts.put, Pts.len, Es.len, Oe.ev, It.ev, bind_ok, bind_err, bind_bad, th_ok, th_err, th_bad, nxth, retth, errth, badth, noerr_ok, fin_nx, fin_ret, fin_err, tidy_same, tidyX_same, List.getElem?_cons_zero, List.getElem?_cons_succ, List.set_cons_zero, List.set_cons_succ, t1, p1, len3, if_true, d1, t2, p2, d2, Bool.false_eq_true, if_false]
theorem words_ok (hx : NotR o) (hd : dv.hasDict = false) (hr : ∀ hh, Base L hh → bi .repr [o] hh = .ok (.rep dv) hh) (g : Gd a b) (h : Hc) (B : Base L h) :
    ∃ x o5, S.ev (Rn (d + 6)) sub WH s23_3 none [P, some (.tup [.int a, .int b]), S', some o, some later, none, n6, n7] h = .nx [P, some (.tup [.int a, .int b]), S', some o, some later, o5, n6, n7] (h ++ x) := by
  have e := forF_lst (idx := h.length) (xs := [.str "plus", .str "minus", .str "times", .str "over", .str "compared"]) (g := Pt.put (Rn (d + 6)) sub WH none (.v 5)) (b := Ss.ev (Rn (d + 6)) sub WH l23_3 none)
    (fun _ sl hh => ∃ x o5, sl = [P, some (.tup [.int a, .int b]), S', some o, some later, o5, n6, n7] ∧ hh = h ++ [[.str "plus", .str "minus", .str "times", .str "over", .str "compared"]] ++ x)
    (fun i sl hh ⟨x, o5, e1, e2⟩ => by
      rw [e2, List.append_assoc, List.getElem?_append_right (Nat.le_refl _), Nat.sub_self]
      rfl)
    (fun i c sl hh ⟨x, o5, e1, e2⟩ hc => by
      obtain ⟨w, j, hw, rfl⟩ : ∃ w j, (w, j) ∈ five ∧ c = .str w := by
        have hm := List.mem_of_getElem? hc
        simp only [List.mem_cons, List.not_mem_nil, or_false] at hm
        rcases hm with rfl | rfl | rfl | rfl | rfl
        · exact ⟨_, 7, by simp [five], rfl⟩
        · exact ⟨_, 8, by simp [five], rfl⟩
        · exact ⟨_, 9, by simp [five], rfl⟩
        · exact ⟨_, 10, by simp [five], rfl⟩
        · exact ⟨_, 11, by simp [five], rfl⟩
      subst e1 e2
      obtain ⟨y, hy⟩ := word_body (d := d) (P := P) (S' := S') (n6 := n6) (n7 := n7) (later := later) hx hd hr g hw (h ++ [[.str "plus", .str "minus", .str "times", .str "over", .str "compared"]] ++ x) ((B.app _).app _)
      exact ⟨_, _, _, _, rfl, hy, x ++ y, _, rfl, by rw [List.append_assoc _ x y]⟩)
    WH 0 [P, some (.tup [.int a, .int b]), S', some o, some later, none, n6, n7] (h ++ [[.str "plus", .str "minus", .str "times", .str "over", .str "compared"]]) ⟨[], none, rfl, by rw [List.append_nil]⟩ (Nat.zero_le _) (by decide)
  obtain ⟨sl', h', e1, x, o5, e2, e3⟩ := e
  subst e2 e3
  simp only [Ss.ev, S.ev, Hs.ev, E.ev, Es.ev, T.ev, Pt.put, Pts.put, Pts.len, Es.len, Oe.ev, It.ev, bind_ok, bind_err, bind_bad, th_ok, th_err, th_bad, nxth, retth, errth, badth, noerr_ok, fin_nx, fin_ret, fin_err, tidy_same, tidyX_same, List.getElem?_cons_zero, List.getElem?_cons_succ, List.set_cons_zero, List.set_cons_succ] at e1
  refine ⟨[[.str "plus", .str "minus", .str "times", .str "over", .str "compared"]] ++ x, o5, ?_⟩
  rw [← List.append_assoc]
  have l5 : ([.str "plus", .str "minus", .str "times", .str "over", .str "compared"] : List C).length ≤ lineN := lenle (by decide)
  simp only [s23_3, Ss.ev, S.ev, Hs.ev, E.ev, Es.ev, T.ev, Pt.put, Pts.put, Pts.len, Es.len, Oe.ev, It.ev, bind_ok, bind_err, bind_bad, th_ok, th_err, th_bad, nxth, retth, errth, badth, noerr_ok, fin_nx, fin_ret, fin_err, tidy_same, tidyX_same, List.getElem?_cons_zero, List.getElem?_cons_succ, List.set_cons_zero, List.set_cons_succ, l5, if_true]
  exact e1
end
end K10
set_option linter.all false
set_option autoImplicit false
set_option maxRecDepth 100000
set_option maxHeartbeats 16000000
namespace K10
open Sh PySem
def l24_0 : Ss := (.cons (.asg (.v 2) (.call 14 (.cons (.var 0) (.cons (.var 1) .nil)))) (.cons (.asg (.tup (.cons (.v 3) (.cons (.v 4) (.cons (.v 5) (.cons (.v 6) .nil))))) (.tup (.cons (.call 16 (.cons (.var 2) .nil)) (.cons (.call 17 (.cons (.var 2) .nil)) (.cons (.call 16 (.cons (.var 2) .nil)) (.cons (.call 17 (.cons (.var 2) .nil)) .nil)))))) (.cons (.ifs (.or (.not (.tr (.call 22 (.cons (.var 3) (.cons (.var 4) (.cons (.var 5) (.cons (.var 6) .nil))))))) (.not (.tr (.call 22 (.cons (.var 5) (.cons (.var 6) (.cons (.var 3) (.cons (.var 4) .nil)))))))) (.cons (.ret (.con (.bl false))) .nil) .nil) (.cons (.ifs (.or (.not (.tr (.call 22 (.cons (.var 3) (.cons (.var 4) (.cons (.bin .mul (.var 3) (.con (.int 3))) (.cons (.bin .mul (.var 4) (.con (.int 3))) .nil))))))) (.not (.tr (.call 22 (.cons (.var 3) (.cons (.var 4) (.cons (.con (.int 0)) (.cons (.var 6) .nil)))))))) (.cons (.ret (.con (.bl false))) .nil) .nil) (.cons (.ifs (.not (.tr (.call 23 (.cons (.var 2) (.cons (.call 18 (.cons (.var 3) (.cons (.var 4) .nil))) .nil))))) (.cons (.ret (.con (.bl false))) .nil) .nil) .nil)))))
def s24_0 : S := (.for_ (.v 1) (.rng1 (.con (.int 2))) l24_0)
def s24_1 : S := (.ret (.con (.bl true)))
theorem bs24 : b24 = (.cons s24_0 (.cons s24_1 .nil)) := rfl

theorem item_get {h : Hc} {n k : Nat} {xs : List C} {c : C} (e : h[n]? = some xs) (ec : xs[k]? = some c) : item (.ref n) (.int k) h = .ok c h := by
  have hl : k < xs.length := (List.getElem?_eq_some_iff.mp ec).1
  show (match h[n]? with
    | some xs => match (ixC xs.length k).bind fun j => xs[j]? with
      | some c => R.ok c h
      | none => .bad
    | none => .bad) = _
  rw [e]
  have : ixC xs.length k = some k := by
    unfold ixC
    rw [if_pos (by omega), if_pos (by omega)]
    rfl
  show (match (ixC xs.length k).bind fun j => xs[j]? with
      | some c => R.ok c h
      | none => .bad) = _
  rw [this]
  show (match xs[k]? with
      | some c => R.ok c h
      | none => .bad) = _
  rw [ec]
theorem len_ref {h : Hc} {n : Nat} {xs : List C} (e : h[n]? = some xs) : bi .len [.ref n] h = .ok (.int xs.length) h := by
  show (match seqOf h (.ref n) with
      | some ys => R.ok (C.int ys.length) h
      | none => .bad) = _
  rw [show seqOf h (.ref n) = some xs from e]
/-- an item drawn -/
theorem pick {h : Hc} {n : Nat} {xs : List C} (e : h[n]? = some xs) {i : Int} (h1 : 0 ≤ i) (h2 : i < xs.length) : ∃ c, c ∈ xs ∧ item (.ref n) (.int i) h = .ok c h := by
  obtain ⟨k, rfl⟩ : ∃ k : Nat, i = k := ⟨i.toNat, by omega⟩
  have hk : k < xs.length := by omega
  exact ⟨xs[k], List.getElem_mem hk, item_get e (List.getElem?_eq_getElem hk)⟩
def strange (m : Nat) : List C := [.bl true, .bl false, .non, .str "1", .tup [.int 1, .int 2], .ref m, .str "", .tup []]
def StrOk (m : Nat) (o : C) : Prop := isI o = false ∧ ∃ dv : PyData, dv.hasDict = false ∧ ∀ hh : Hc, hh[m]? = some [.int 3] → bi .repr [o] hh = .ok (.rep dv) hh
theorem strange_ok (m : Nat) : ∀ o ∈ strange m, StrOk m o := by
  intro o ho
  simp only [strange, List.mem_cons, List.not_mem_nil, or_false] at ho
  rcases ho with rfl | rfl | rfl | rfl | rfl | rfl | rfl | rfl
  · exact ⟨rfl, .bool true, rfl, fun hh _ => repr_of rfl (by decide +kernel)⟩
  · exact ⟨rfl, .bool false, rfl, fun hh _ => repr_of rfl (by decide +kernel)⟩
  · exact ⟨rfl, .none, rfl, fun hh _ => repr_of rfl (by decide +kernel)⟩
  · exact ⟨rfl, .str "1", rfl, fun hh _ => repr_of rfl (by decide +kernel)⟩
  · exact ⟨rfl, .tuple [.int 1, .int 2], rfl, fun hh _ => repr_of rfl (by decide +kernel)⟩
  · refine ⟨rfl, .list [.int 3], rfl, fun hh e => repr_of ?_ (by decide +kernel)⟩
    show (match hh[m]? with
      | some cs => (cs.mapM (toD hh 59)).map PyData.list
      | none => none) = _
    rw [e]; rfl
  · exact ⟨rfl, .str "", rfl, fun hh _ => repr_of rfl (by decide +kernel)⟩
  · exact ⟨rfl, .tuple [], rfl, fun hh _ => repr_of rfl (by decide +kernel)⟩
theorem isn_ff (h : Hc) : cmpop .isn (.bl false) (.bl false) h = .ok (.bl false) h := rfl
section
variable {d m : Nat} {a b : Int} {o : C} {dv : PyData} {P S' n3 n4 n5 n6 n7 : Option C}
theorem floor_ok {L : Nat} (hx : NotR o) (hd : dv.hasDict = false) (hr : ∀ hh, Base L hh → bi .repr [o] hh = .ok (.rep dv) hh) (h : Hc) (B : Base L h) : ∃ x, S.ev (Rn (d + 6)) sub WH s23_4 none [P, n3, S', some o, n4, n5, n6, n7] h = .nx [P, n3, S', some o, n4, n5, n6, n7] (h ++ x) := by
  have t1 : Rn (d + 6) 20 [.str "floor", o, .non] h = .ok (.ref h.length) (h ++ [Lr dv]) := r20r _ h _ _ _ o dv (r19f _ h _ _ _ _ (bad12 hx d h)) (hr h B)
  have p1 := hr (h ++ [Lr dv]) (B.app _)
  have d1 := dueR hd h
  refine ⟨[Lr dv] ++ [[.str "InvalidRatio", .rep dv, .bl true]], ?_⟩
  rw [← List.append_assoc]
  simp only [s23_4, Ss.ev, S.ev, Hs.ev, E.ev, Es.ev, T.ev, Pt.put, Pts.put, Pts.len, Es.len, Oe.ev, It.ev, bind_ok, bind_err, bind_bad, th_ok, th_err, th_bad, nxth, retth, errth, badth, noerr_ok, fin_nx, fin_ret, fin_err, tidy_same, tidyX_same, List.getElem?_cons_zero, List.getElem?_cons_succ, List.set_cons_zero, List.set_cons_succ, t1, p1, len3, if_true, d1, Bool.false_eq_true, if_false]
theorem made_ok (so : StrOk m o) (h : Hc) (hm : h[m]? = some [.int 3]) : ∃ x, S.ev (Rn (d + 6)) sub WH s23_6 none [P, n3, S', n4, n5, n7, some o, none] h = .nx [P, n3, S', n4, n5, n7, some o, none] (h ++ x) := by
  obtain ⟨hi, dv, hd, hr⟩ := so
  have t1 : Rn (d + 6) 20 [.str "made", o, .int 0] h = .ok (.ref h.length) (h ++ [Li dv]) := r20i _ h _ _ _ o dv (r19e _ h _ _ _ _ "made" 6 (by simp [fnW]) (made1 hi _ (d + 1) h)) (hr h hm)
  have p1 := hr (h ++ [Li dv]) (get_app hm _)
  have d1 := dueI hd h
  refine ⟨[Li dv] ++ [[.str "InvalidInteger", .rep dv, .bl true]], ?_⟩
  rw [← List.append_assoc]
  simp only [s23_6, Ss.ev, S.ev, Hs.ev, E.ev, Es.ev, T.ev, Pt.put, Pts.put, Pts.len, Es.len, Oe.ev, It.ev, bind_ok, bind_err, bind_bad, th_ok, th_err, th_bad, nxth, retth, errth, badth, noerr_ok, fin_nx, fin_ret, fin_err, tidy_same, tidyX_same, List.getElem?_cons_zero, List.getElem?_cons_succ, List.set_cons_zero, List.set_cons_succ, t1, p1, len3, if_true, d1, Bool.false_eq_true, if_false]
theorem under_body (u : C) (hu : isI u = false ∨ u = .int 0) (hd : dv.hasDict = false) (h : Hc) (hr : ∀ x, bi .repr [u] (h ++ x) = .ok (.rep dv) (h ++ x)) :
    ∃ x, Ss.ev (Rn (d + 6)) sub WH l23_7 none [P, some (.tup [.int a, .int b]), S', n3, n4, n5, n6, some u] h = .nx [P, some (.tup [.int a, .int b]), S', n3, n4, n5, n6, some u] (h ++ x) := by
  have h6 : Rn (d + 4) 6 [.int a, u] h = .err 0 [u] h := by
    rcases hu with hu | rfl
    · exact made2 a hu (d + 1) h
    · exact made3 a (d + 1) h
  have r0' : bi .repr [u] h = .ok (.rep dv) h := by
    have := hr []
    rw [List.append_nil] at this
    exact this
  have t1 : Rn (d + 6) 20 [.str "made", .int a, u] h = .ok (.ref h.length) (h ++ [Li dv]) := r20i _ h _ _ _ u dv (r19e _ h _ _ _ _ "made" 6 (by simp [fnW]) h6) r0'
  have p1 := hr [Li dv]
  have d1 := dueI hd h
  refine ⟨[Li dv] ++ [[.str "InvalidInteger", .rep dv, .bl true]], ?_⟩
  rw [← List.append_assoc]
  simp only [l23_7, Ss.ev, S.ev, Hs.ev, E.ev, Es.ev, T.ev, Pt.put, Pts.put, Pts.len, Es.len, Oe.ev, It.ev, bind_ok, bind_err, bind_bad, th_ok, th_err, th_bad, nxth, retth, errth, badth, noerr_ok, fin_nx, fin_ret, fin_err, tidy_same, tidyX_same, List.getElem?_cons_zero, List.getElem?_cons_succ, List.set_cons_zero, List.set_cons_succ, item0, t1, p1, len3, if_true, d1, Bool.false_eq_true, if_false]
theorem unders_ok (so : StrOk m o) (h : Hc) (hm : h[m]? = some [.int 3]) : ∃ x o7, S.ev (Rn (d + 6)) sub WH s23_7 none [P, some (.tup [.int a, .int b]), S', n3, n4, n5, some o, none] h = .nx [P, some (.tup [.int a, .int b]), S', n3, n4, n5, some o, o7] (h ++ x) := by
  obtain ⟨hi, dv, hd, hr⟩ := so
  have e := forF_lst (idx := h.length) (xs := [o, .int 0]) (g := Pt.put (Rn (d + 6)) sub WH none (.v 7)) (b := Ss.ev (Rn (d + 6)) sub WH l23_7 none)
    (fun _ sl hh => ∃ x o7, sl = [P, some (.tup [.int a, .int b]), S', n3, n4, n5, some o, o7] ∧ hh = h ++ [[o, .int 0]] ++ x)
    (fun i sl hh ⟨x, o7, e1, e2⟩ => by
      rw [e2, List.append_assoc, List.getElem?_append_right (Nat.le_refl _), Nat.sub_self]
      rfl)
    (fun i c sl hh ⟨x, o7, e1, e2⟩ hc => by
      subst e1 e2
      have hm2 := List.mem_of_getElem? hc
      simp only [List.mem_cons, List.not_mem_nil, or_false] at hm2
      have : ∃ dv' : PyData, (isI c = false ∨ c = .int 0) ∧ dv'.hasDict = false ∧ ∀ y, bi .repr [c] (h ++ [[o, .int 0]] ++ x ++ y) = .ok (.rep dv') (h ++ [[o, .int 0]] ++ x ++ y) := by
        rcases hm2 with rfl | rfl
        · exact ⟨dv, .inl hi, hd, fun y => hr _ (get_app (get_app (get_app hm _) _) _)⟩
        · exact ⟨.int 0, .inr rfl, rfl, fun y => repr_of rfl (by decide +kernel)⟩
      obtain ⟨dv', q1, q2, q3⟩ := this
      obtain ⟨y, hy⟩ := under_body (d := d) (a := a) (b := b) (P := P) (S' := S') (n3 := n3) (n4 := n4) (n5 := n5) (n6 := some o) c q1 q2 (h ++ [[o, .int 0]] ++ x) q3
      exact ⟨_, _, _, _, rfl, hy, x ++ y, _, rfl, by rw [List.append_assoc _ x y]⟩)
    WH 0 [P, some (.tup [.int a, .int b]), S', n3, n4, n5, some o, none] (h ++ [[o, .int 0]]) ⟨[], none, rfl, by rw [List.append_nil]⟩ (Nat.zero_le _) (show (2 : Nat) < 0 + WH from by decide)
  obtain ⟨sl', h', e1, x, o7, e2, e3⟩ := e
  subst e2 e3
  simp only [Ss.ev, S.ev, Hs.ev, E.ev, Es.ev, T.ev, Pt.put, Pts.put, Pts.len, Es.len, Oe.ev, It.ev, bind_ok, bind_err, bind_bad, th_ok, th_err, th_bad, nxth, retth, errth, badth, noerr_ok, fin_nx, fin_ret, fin_err, tidy_same, tidyX_same, List.getElem?_cons_zero, List.getElem?_cons_succ, List.set_cons_zero, List.set_cons_succ] at e1
  refine ⟨[[o, .int 0]] ++ x, o7, ?_⟩
  rw [← List.append_assoc]
  simp only [s23_7, Ss.ev, S.ev, Hs.ev, E.ev, Es.ev, T.ev, Pt.put, Pts.put, Pts.len, Es.len, Oe.ev, It.ev, bind_ok, bind_err, bind_bad, th_ok, th_err, th_bad, nxth, retth, errth, badth, noerr_ok, fin_nx, fin_ret, fin_err, tidy_same, tidyX_same, List.getElem?_cons_zero, List.getElem?_cons_succ, List.set_cons_zero, List.set_cons_succ, len2, if_true]
  exact e1
end
theorem r23 (d : Nat) (h : Hc) (n : Nat) (a b : Int) (g : Gd a b) (p : PotAt h n) (cl : Closed h) : ∃ h', Nx n h h' ∧ Rn (d + 7) 23 [.ref n, .tup [.int a, .int b]] h = .ok (.bl true) h' := by
  have hn := p.lt
  have B0 : Base h.length (h ++ olds h.length) := by
    refine ⟨?_, ?_, ?_, ?_⟩ <;> rw [List.getElem?_append_right (by omega)] <;> simp [olds]
  have s0 : St n h (h ++ olds h.length) := ⟨h, _, .inl rfl, rfl⟩
  obtain ⟨i1, h1, a1, a2, x1, e1⟩ := r15 (d + 5) (h ++ olds h.length) n 20 (p.app _) (by decide) (by decide)
  have B1 := B0.nx x1 hn
  obtain ⟨o, ho, io⟩ := pick B1.d a1 a2
  obtain ⟨i2, h2, a3, a4, x2, e2⟩ := r15 (d + 5) h1 n 20 (x1.pot (p.app _)) (by decide) (by decide)
  have B2 := B1.nx x2 hn
  obtain ⟨later, hl, il⟩ := pick B2.d a3 a4
  obtain ⟨dv, hx, hd, hr⟩ := odds_ok _ o ho
  have s2 := (s0.nx hn x1).nx hn x2
  obtain ⟨x3, o5, w3⟩ := words_ok (d := d) (later := later) (P := some (.ref n)) (S' := some (.ref (h.length + 3))) (n6 := none) (n7 := none) hx hd hr g h2 B2
  obtain ⟨x4, w4⟩ := floor_ok (d := d) (P := some (.ref n)) (n3 := some (.tup [.int a, .int b])) (S' := some (.ref (h.length + 3))) (n4 := some later) (n5 := o5) (n6 := none) (n7 := none) hx hd hr (h2 ++ x3) (B2.app _)
  have s4 := (s2.app x3).app x4
  have p2 := x2.pot (x1.pot (p.app _))
  have p4 := (p2.app x3).app x4
  generalize hh4 : h2 ++ x3 ++ x4 = h4 at *
  have m5 : (h4 ++ [[.int 3]] ++ [strange h4.length])[h4.length]? = some [.int 3] := by
    rw [List.append_assoc, List.getElem?_append_right (Nat.le_refl _), Nat.sub_self]
    rfl
  have m6 : (h4 ++ [[.int 3]] ++ [strange h4.length])[h4.length + 1]? = some (strange h4.length) := by
    rw [List.append_assoc, List.getElem?_append_right (by omega)]
    simp
  have ln4 : n < h4.length := p4.lt
  obtain ⟨i5, h5, a5, a6, x5, e5⟩ := r15 (d + 5) (h4 ++ [[.int 3]] ++ [strange h4.length]) n 8 ((p4.app _).app _) (by decide) (by decide)
  have m5' := get_nx x5 m5 (by omega)
  obtain ⟨st, hst, ist⟩ := pick (get_nx x5 m6 (by omega)) a5 a6
  have so := strange_ok _ st hst
  obtain ⟨x6, w6⟩ := made_ok (d := d) (P := some (.ref n)) (n3 := some (.tup [.int a, .int b])) (S' := some (.ref (h.length + 3))) (n4 := some o) (n5 := some later) (n7 := o5) so h5 m5'
  obtain ⟨x7, o7, w7⟩ := unders_ok (d := d) (a := a) (b := b) (P := some (.ref n)) (S' := some (.ref (h.length + 3))) (n3 := some o) (n4 := some later) (n5 := o5) so (h5 ++ x6) (get_app m5' _)
  have s7 := ((((s4.app [[.int 3]]).app [strange h4.length]).nx hn x5).app x6).app x7
  obtain ⟨h', q1, q2⟩ := s7.end cl
  refine ⟨h', q1, ?_⟩
  have z0 : S.ev (Rn (d + 6)) sub WH s23_0 none [some (.ref n), some (.tup [.int a, .int b]), none, none, none, none, none, none] h = .nx [some (.ref n), some (.tup [.int a, .int b]), some (.ref (h.length + 3)), none, none, none, none, none] (h ++ olds h.length) := by
    simp only [s23_0, Ss.ev, S.ev, Hs.ev, E.ev, Es.ev, T.ev, Pt.put, Pts.put, Pts.len, Es.len, Oe.ev, It.ev, bind_ok, bind_err, bind_bad, th_ok, th_err, th_bad, nxth, retth, errth, badth, noerr_ok, fin_nx, fin_ret, fin_err, tidy_same, tidyX_same, List.getElem?_cons_zero, List.getElem?_cons_succ, List.set_cons_zero, List.set_cons_succ, r13]
  have z1 : S.ev (Rn (d + 6)) sub WH s23_1 none [some (.ref n), some (.tup [.int a, .int b]), some (.ref (h.length + 3)), none, none, none, none, none] (h ++ olds h.length) = .nx [some (.ref n), some (.tup [.int a, .int b]), some (.ref (h.length + 3)), some o, some later, none, none, none] h2 := by
    have k1 : ((odds h.length).length : Int) = 20 := rfl
    simp only [s23_1, Ss.ev, S.ev, Hs.ev, E.ev, Es.ev, T.ev, Pt.put, Pts.put, Pts.len, Es.len, Oe.ev, It.ev, bind_ok, bind_err, bind_bad, th_ok, th_err, th_bad, nxth, retth, errth, badth, noerr_ok, fin_nx, fin_ret, fin_err, tidy_same, tidyX_same, List.getElem?_cons_zero, List.getElem?_cons_succ, List.set_cons_zero, List.set_cons_succ, len_ref B0.d, len_ref B1.d, k1, e1, e2, io, il]
  have z2 : S.ev (Rn (d + 6)) sub WH s23_2 none [some (.ref n), some (.tup [.int a, .int b]), some (.ref (h.length + 3)), some o, some later, none, none, none] h2 = .nx [some (.ref n), some (.tup [.int a, .int b]), some (.ref (h.length + 3)), some o, some later, none, none, none] h2 := by
    have := hx (d + 4) h2
    simp only [s23_2, Ss.ev, S.ev, Hs.ev, E.ev, Es.ev, T.ev, Pt.put, Pts.put, Pts.len, Es.len, Oe.ev, It.ev, bind_ok, bind_err, bind_bad, th_ok, th_err, th_bad, nxth, retth, errth, badth, noerr_ok, fin_nx, fin_ret, fin_err, tidy_same, tidyX_same, List.getElem?_cons_zero, List.getElem?_cons_succ, List.set_cons_zero, List.set_cons_succ, this, isn_ff, Bool.false_eq_true, if_false]
  have z5 : S.ev (Rn (d + 6)) sub WH s23_5 none [some (.ref n), some (.tup [.int a, .int b]), some (.ref (h.length + 3)), some o, some later, o5, none, none] h4 = .nx [some (.ref n), some (.tup [.int a, .int b]), some (.ref (h.length + 3)), some o, some later, o5, some st, none] h5 := by
    have l1 : ([.int 3] : List C).length ≤ lineN := lenle (by simp)
    have l8 : (strange h4.length).length ≤ lineN := lenle (by simp [strange])
    have l2 : ([.int 1, .int 2] : List C).length ≤ lineN := len2 _ _
    have l0 : ([] : List C).length ≤ lineN := lenle (by simp)
    have k8 : (h4 ++ [[C.int 3]]).length = h4.length + 1 := by simp
    simp only [strange] at l8 e5 ist
    simp only [s23_5, Ss.ev, S.ev, Hs.ev, E.ev, Es.ev, T.ev, Pt.put, Pts.put, Pts.len, Es.len, Oe.ev, It.ev, bind_ok, bind_err, bind_bad, th_ok, th_err, th_bad, nxth, retth, errth, badth, noerr_ok, fin_nx, fin_ret, fin_err, tidy_same, tidyX_same, List.getElem?_cons_zero, List.getElem?_cons_succ, List.set_cons_zero, List.set_cons_succ, l1, l2, l0, l8, if_true, k8, e5, ist]
  rw [u23, bs23, ss_cons, z0, nxth, ss_cons, z1, nxth, ss_cons, z2, nxth, ss_cons, w3, nxth, ss_cons, w4, nxth, ss_cons, z5, nxth, ss_cons, w6, nxth, ss_cons, w7, nxth]
  simp only [s23_8, Ss.ev, S.ev, Hs.ev, E.ev, Es.ev, T.ev, Pt.put, Pts.put, Pts.len, Es.len, Oe.ev, It.ev, bind_ok, bind_err, bind_bad, th_ok, th_err, th_bad, nxth, retth, errth, badth, noerr_ok, fin_nx, fin_ret, fin_err, tidy_same, tidyX_same, List.getElem?_cons_zero, List.getElem?_cons_succ, List.set_cons_zero, List.set_cons_succ]
  exact q2
/-! ### the law -/
theorem r24 (ns : List Int) (d : Nat) : ∃ h', Rn (d + 11) 24 [.frz (ns.map C.int)] [] = .ok (.bl true) h' := by
  have e := forF_rng (lo := 0) (n := 2) (g := Pt.put (Rn (d + 10)) sub WH none (.v 1)) (b := Ss.ev (Rn (d + 10)) sub WH l24_0 none)
    (fun _ sl hh => Closed hh ∧ ∃ o1 o2 o3 o4 o5 o6, sl = [some (.frz (ns.map C.int)), o1, o2, o3, o4, o5, o6])
    (fun i sl hh ⟨cl, o1, o2, o3, o4, o5, o6, e1⟩ hi => by
      subst e1
      have z0 : (0 + (i : Int)) = (i : Int) := Int.zero_add _
      obtain ⟨n, h0, p0, c0, w0⟩ := r14 (d + 9) hh ns i (by omega) cl
      obtain ⟨a, h1, ba, x1, w1⟩ := r16 (d + 8) h0 n p0
      have p1 := x1.pot p0
      obtain ⟨b, h2, bb, nb, x2, w2⟩ := r17 (d + 7) h1 n p1
      have p2 := x2.pot p1
      obtain ⟨c, h3, bc, x3, w3⟩ := r16 (d + 8) h2 n p2
      have p3 := x3.pot p2
      obtain ⟨e, h4, be, ne, x4, w4⟩ := r17 (d + 7) h3 n p3
      have p4 := x4.pot p3
      have c4 := x4.closed (x3.closed (x2.closed (x1.closed c0)))
      have M : ∀ {x : Int}, Bd 42 x → Bd 45 x := fun h => h.mono (by decide)
      have b3 : Bd 45 (a * 3) := by unfold Bd at *; omega
      have b4 : Bd 45 (b * 3) := by unfold Bd at *; omega
      have b5 : Bd 45 0 := by unfold Bd; decide
      have y1 := r22 a b c e nb ne (M ba) (M bb) (M bc) (M be) (d + 1) h4 c4
      have y2 := r22 c e a b ne nb (M bc) (M be) (M ba) (M bb) (d + 1) h4 c4
      have y3 := r22 a b (a * 3) (b * 3) nb (by omega) (M ba) (M bb) b3 b4 (d + 1) h4 c4
      have y4 := r22 a b 0 e nb ne (M ba) (M bb) b5 (M be) (d + 1) h4 c4
      have y5 := r18 (d + 9) h4 a b nb (ba.mono (by decide)) (bb.mono (by decide))
      obtain ⟨u, v, t, l1, _, _, _, g, _, _⟩ := low_spec a b nb
      rw [l1] at y5
      obtain ⟨h5, x5, y6⟩ := r23 (d + 3) h4 n u v g p4 c4
      have m1 := mul_of (j := 3) (M ba) (show Bd 45 3 by unfold Bd; decide) (by decide) (by decide)
      have m2 := mul_of (j := 3) (M bb) (show Bd 45 3 by unfold Bd; decide) (by decide) (by decide)
      have l4 : (4 : Nat) ≤ lineN := by decide
      refine ⟨_, _, [some (.frz (ns.map C.int)), some (.int i), some (.ref n), some (.int a), some (.int b), some (.int c), some (.int e)], h5, rfl, ?_, x5.closed c4, _, _, _, _, _, _, rfl⟩
      have k1 : ([C.int a, C.int b, C.int c, C.int e] : List C).length = 4 := rfl
      simp only [tp] at y5
      simp only [l24_0, Ss.ev, S.ev, Hs.ev, E.ev, Es.ev, T.ev, Pt.put, Pts.put, Pts.len, Es.len, Oe.ev, It.ev, bind_ok, bind_err, bind_bad, th_ok, th_err, th_bad, nxth, retth, errth, badth, noerr_ok, fin_nx, fin_ret, fin_err, tidy_same, tidyX_same, List.getElem?_cons_zero, List.getElem?_cons_succ, List.set_cons_zero, List.set_cons_succ, z0, w0, w1, w2, w3, w4, l4, if_true, k1, Nat.zero_add, Nat.reduceAdd, y1, y2, y3, y4, y5, y6, truth_bl, bin_mul, m1, m2, Bool.not_true, Bool.false_eq_true, if_false])
    WH 0 [some (.frz (ns.map C.int)), none, none, none, none, none, none] [] ⟨rfl, _, _, _, _, _, _, rfl⟩ (Nat.zero_le _) (by decide)
  obtain ⟨sl', h', e1, _, q1, q2, q3, q4, q5, q6, e2⟩ := e
  subst e2
  simp only [Ss.ev, S.ev, Hs.ev, E.ev, Es.ev, T.ev, Pt.put, Pts.put, Pts.len, Es.len, Oe.ev, It.ev, bind_ok, bind_err, bind_bad, th_ok, th_err, th_bad, nxth, retth, errth, badth, noerr_ok, fin_nx, fin_ret, fin_err, tidy_same, tidyX_same, List.getElem?_cons_zero, List.getElem?_cons_succ, List.set_cons_zero, List.set_cons_succ] at e1
  rw [u24, bs24, ss_cons]
  have z : S.ev (Rn (d + 10)) sub WH s24_0 none [some (.frz (ns.map C.int)), none, none, none, none, none, none] [] = .nx [some (.frz (ns.map C.int)), q1, q2, q3, q4, q5, q6] h' := by
    simp only [s24_0, Ss.ev, S.ev, Hs.ev, E.ev, Es.ev, T.ev, Pt.put, Pts.put, Pts.len, Es.len, Oe.ev, It.ev, bind_ok, bind_err, bind_bad, th_ok, th_err, th_bad, nxth, retth, errth, badth, noerr_ok, fin_nx, fin_ret, fin_err, tidy_same, tidyX_same, List.getElem?_cons_zero, List.getElem?_cons_succ, List.set_cons_zero, List.set_cons_succ]
    rw [if_pos (by decide)]
    exact e1
  rw [z, nxth]
  simp only [s24_1, Ss.ev, S.ev, Hs.ev, E.ev, Es.ev, T.ev, Pt.put, Pts.put, Pts.len, Es.len, Oe.ev, It.ev, bind_ok, bind_err, bind_bad, th_ok, th_err, th_bad, nxth, retth, errth, badth, noerr_ok, fin_nx, fin_ret, fin_err, tidy_same, tidyX_same, List.getElem?_cons_zero, List.getElem?_cons_succ, List.set_cons_zero, List.set_cons_succ]
  unfold tidy
  split <;> exact ⟨_, rfl⟩
end K10
namespace K10
open PySem PySem.Spec PyProof.Rows L2 Sh
abbrev BM2 : List Value := [.type "RuntimeError", .type "Exception", .type "BaseException", .type "object"]
abbrev DP : Nat := 30
set_option linter.unusedVariables false in
theorem all_mk {P : Program} {w : World} {K : PySem.W.Frag} {h : Heap} {mg : Str → Option Value} {fa : Addr} (X : K.In h) (G : h.Ns mainGlobals mg) (hfa : mg "law" = some (.ref fa))
    {C0 : Addr}
    {nm0 q0 : Str} {Na0 : Addr} {bs0 bm0 : List Value} {sn0 : List Str} {sb0 : List Value} {ab0 : Bool} {co0 : Option Bool} {dd0 : Option Addr} {x0a x0b x0c x0d x0e : Option Value}
    {g0 : Addr} {god0 gan0 : Option Addr} {gsl0 : Array (Option Value)} {goc0 gkV0 gdc0 gpm0 gcd0 gct0 : Value}
    {C1 : Addr}
    {nm1 q1 : Str} {Na1 : Addr} {bs1 bm1 : List Value} {sn1 : List Str} {sb1 : List Value} {ab1 : Bool} {co1 : Option Bool} {dd1 : Option Addr} {x1a x1b x1c x1d x1e : Option Value}
    {g1 : Addr} {god1 gan1 : Option Addr} {gsl1 : Array (Option Value)} {goc1 gkV1 gdc1 gpm1 gcd1 gct1 : Value}
    {C2 : Addr}
    {C3 : Addr}
    {C4 : Addr}
    {f0 : Addr} {od0 an0 : Option Addr} {sl0 : Array (Option Value)} {oc0 kV0 dc0 pm0 cd0 ct0 : Value}
    {f1 : Addr} {od1 an1 : Option Addr} {sl1 : Array (Option Value)} {oc1 kV1 dc1 pm1 cd1 ct1 : Value}
    {f2 : Addr} {od2 an2 : Option Addr} {sl2 : Array (Option Value)} {oc2 kV2 dc2 pm2 cd2 ct2 : Value}
    {f3 : Addr} {od3 an3 : Option Addr} {sl3 : Array (Option Value)} {oc3 kV3 dc3 pm3 cd3 ct3 : Value}
    {f4 : Addr} {od4 an4 : Option Addr} {sl4 : Array (Option Value)} {oc4 kV4 dc4 pm4 cd4 ct4 : Value}
    {f5 : Addr} {od5 an5 : Option Addr} {sl5 : Array (Option Value)} {oc5 kV5 dc5 pm5 cd5 ct5 : Value}
    {f6 : Addr} {od6 an6 : Option Addr} {sl6 : Array (Option Value)} {oc6 kV6 dc6 pm6 cd6 ct6 : Value}
    {f7 : Addr} {od7 an7 : Option Addr} {sl7 : Array (Option Value)} {oc7 kV7 dc7 pm7 cd7 ct7 : Value}
    {f8 : Addr} {od8 an8 : Option Addr} {sl8 : Array (Option Value)} {oc8 kV8 dc8 pm8 cd8 ct8 : Value}
    {f9 : Addr} {od9 an9 : Option Addr} {sl9 : Array (Option Value)} {oc9 kV9 dc9 pm9 cd9 ct9 : Value}
    {f10 : Addr} {od10 an10 : Option Addr} {sl10 : Array (Option Value)} {oc10 kV10 dc10 pm10 cd10 ct10 : Value}
    {f11 : Addr} {od11 an11 : Option Addr} {sl11 : Array (Option Value)} {oc11 kV11 dc11 pm11 cd11 ct11 : Value}
    {f12 : Addr} {od12 an12 : Option Addr} {sl12 : Array (Option Value)} {oc12 kV12 dc12 pm12 cd12 ct12 : Value}
    {f13 : Addr} {od13 an13 : Option Addr} {sl13 : Array (Option Value)} {oc13 kV13 dc13 pm13 cd13 ct13 : Value}
    {f14 : Addr} {od14 an14 : Option Addr} {sl14 : Array (Option Value)} {oc14 kV14 dc14 pm14 cd14 ct14 : Value}
    {f15 : Addr} {od15 an15 : Option Addr} {sl15 : Array (Option Value)} {oc15 kV15 dc15 pm15 cd15 ct15 : Value}
    {f16 : Addr} {od16 an16 : Option Addr} {sl16 : Array (Option Value)} {oc16 kV16 dc16 pm16 cd16 ct16 : Value}
    {f17 : Addr} {od17 an17 : Option Addr} {sl17 : Array (Option Value)} {oc17 kV17 dc17 pm17 cd17 ct17 : Value}
    {f18 : Addr} {od18 an18 : Option Addr} {sl18 : Array (Option Value)} {oc18 kV18 dc18 pm18 cd18 ct18 : Value}
    {f19 : Addr} {od19 an19 : Option Addr} {sl19 : Array (Option Value)} {oc19 kV19 dc19 pm19 cd19 ct19 : Value}
    {f20 : Addr} {od20 an20 : Option Addr} {sl20 : Array (Option Value)} {oc20 kV20 dc20 pm20 cd20 ct20 : Value}
    {f21 : Addr} {od21 an21 : Option Addr} {sl21 : Array (Option Value)} {oc21 kV21 dc21 pm21 cd21 ct21 : Value}
    {f22 : Addr} {od22 an22 : Option Addr} {sl22 : Array (Option Value)} {oc22 kV22 dc22 pm22 cd22 ct22 : Value}
    {f23 : Addr} {od23 an23 : Option Addr} {sl23 : Array (Option Value)} {oc23 kV23 dc23 pm23 cd23 ct23 : Value}
    {f24 : Addr} {od24 an24 : Option Addr} {sl24 : Array (Option Value)} {oc24 kV24 dc24 pm24 cd24 ct24 : Value}
    (aC0 : PySem.W.nsIn K mainGlobals "InvalidInteger" = some (some (.ref C0)))
    (su0 : PySem.W.subIn K (.ref C0) (.type "BaseException") = some true)
    (hd0 : PySem.W.hasDictIn K C0 = true)
    (tC0 : PySem.W.typeIn K (.ref C0) = some (.type "type"))
    (ga0 : PySem.W.findIn K (.ref C0) "__getattribute__" = some (some (.builtin "BaseException.__getattribute__")))
    (gg0 : PySem.W.findIn K (.ref C0) "__getattr__" = some none)
    (ha0 : PySem.W.findIn K (.ref C0) "__class__" = some (some (.builtin "object.__class__")))
    (hm0 : PySem.W.mroIn K C0 (.type "object") = some true)
    (kC0 : PySem.W.keepIn K (.ref C0) = true)
    (no0_value : PySem.W.findIn K (.ref C0) "value" = some none)
    (xL0 : K.lookup C0 = some (excClassObj nm0 q0 C0 Na0 bs0 bm0 true sn0 sb0 ab0 co0 dd0 x0a x0b x0c x0d x0e "ValueError.__new__"))
    (bm0_ : PySem.HandSPX.refsVE bm0 = true)
    (sa0 : PySem.W.findIn K (.ref C0) "__setattr__" = some (some (.builtin "object.__setattr__")))
    (gi0 : PySem.W.findIn K (.ref C0) "__init__" = some (some (.ref g0)))
    (gt0 : PySem.W.typeIn K (.ref g0) = some (.type "function"))
    (gl0 : K.lookup g0 = some ⟨goc0, god0, .func (PySem.W.fnOf "__init__" "InvalidInteger.__init__" (defArgs (meth 5 0)) (defBody (meth 5 0)) (defScope (meth 5 0)) .none gkV0 gdc0 gpm0 gan0 gcd0 gct0), gsl0⟩)
    (gc0 : PySem.W.codeIn K gcd0 "InvalidInteger.__init__" = true)
    (gk0 : PySem.W.keepIn K (.ref g0) = true)
    (aC1 : PySem.W.nsIn K mainGlobals "InvalidRatio" = some (some (.ref C1)))
    (su1 : PySem.W.subIn K (.ref C1) (.type "BaseException") = some true)
    (hd1 : PySem.W.hasDictIn K C1 = true)
    (tC1 : PySem.W.typeIn K (.ref C1) = some (.type "type"))
    (ga1 : PySem.W.findIn K (.ref C1) "__getattribute__" = some (some (.builtin "BaseException.__getattribute__")))
    (gg1 : PySem.W.findIn K (.ref C1) "__getattr__" = some none)
    (ha1 : PySem.W.findIn K (.ref C1) "__class__" = some (some (.builtin "object.__class__")))
    (hm1 : PySem.W.mroIn K C1 (.type "object") = some true)
    (kC1 : PySem.W.keepIn K (.ref C1) = true)
    (no1_value : PySem.W.findIn K (.ref C1) "value" = some none)
    (xL1 : K.lookup C1 = some (excClassObj nm1 q1 C1 Na1 bs1 bm1 true sn1 sb1 ab1 co1 dd1 x1a x1b x1c x1d x1e "ValueError.__new__"))
    (bm1_ : PySem.HandSPX.refsVE bm1 = true)
    (sa1 : PySem.W.findIn K (.ref C1) "__setattr__" = some (some (.builtin "object.__setattr__")))
    (gi1 : PySem.W.findIn K (.ref C1) "__init__" = some (some (.ref g1)))
    (gt1 : PySem.W.typeIn K (.ref g1) = some (.type "function"))
    (gl1 : K.lookup g1 = some ⟨goc1, god1, .func (PySem.W.fnOf "__init__" "InvalidRatio.__init__" (defArgs (meth 6 0)) (defBody (meth 6 0)) (defScope (meth 6 0)) .none gkV1 gdc1 gpm1 gan1 gcd1 gct1), gsl1⟩)
    (gc1 : PySem.W.codeIn K gcd1 "InvalidRatio.__init__" = true)
    (gk1 : PySem.W.keepIn K (.ref g1) = true)
    (aC2 : PySem.W.nsIn K mainGlobals "DividedByNought" = some (some (.ref C2)))
    (su2 : PySem.W.subIn K (.ref C2) (.type "BaseException") = some true)
    (hd2 : PySem.W.hasDictIn K C2 = true)
    (tC2 : PySem.W.typeIn K (.ref C2) = some (.type "type"))
    (ga2 : PySem.W.findIn K (.ref C2) "__getattribute__" = some (some (.builtin "BaseException.__getattribute__")))
    (gg2 : PySem.W.findIn K (.ref C2) "__getattr__" = some none)
    (ha2 : PySem.W.findIn K (.ref C2) "__class__" = some (some (.builtin "object.__class__")))
    (hm2 : PySem.W.mroIn K C2 (.type "object") = some true)
    (kC2 : PySem.W.keepIn K (.ref C2) = true)
    (xi2 : PySem.W.excIn K C2 BM2 "RuntimeError.__new__" = true)
    (aC3 : PySem.W.nsIn K mainGlobals "StateError" = some (some (.ref C3)))
    (su3 : PySem.W.subIn K (.ref C3) (.type "BaseException") = some true)
    (hd3 : PySem.W.hasDictIn K C3 = true)
    (tC3 : PySem.W.typeIn K (.ref C3) = some (.type "type"))
    (aC4 : PySem.W.nsIn K mainGlobals "PaceError" = some (some (.ref C4)))
    (su4 : PySem.W.subIn K (.ref C4) (.type "BaseException") = some true)
    (hd4 : PySem.W.hasDictIn K C4 = true)
    (tC4 : PySem.W.typeIn K (.ref C4) = some (.type "type"))
    (sb0_0 : PySem.W.subIn K (.ref C0) (.ref C0) = some true)
    (sb0_1 : PySem.W.subIn K (.ref C0) (.ref C1) = some false)
    (sb0_2 : PySem.W.subIn K (.ref C0) (.ref C2) = some false)
    (sb0_3 : PySem.W.subIn K (.ref C0) (.ref C3) = some false)
    (sb0_4 : PySem.W.subIn K (.ref C0) (.ref C4) = some true)
    (sb1_0 : PySem.W.subIn K (.ref C1) (.ref C0) = some false)
    (sb1_1 : PySem.W.subIn K (.ref C1) (.ref C1) = some true)
    (sb1_2 : PySem.W.subIn K (.ref C1) (.ref C2) = some false)
    (sb1_3 : PySem.W.subIn K (.ref C1) (.ref C3) = some false)
    (sb1_4 : PySem.W.subIn K (.ref C1) (.ref C4) = some true)
    (sb2_0 : PySem.W.subIn K (.ref C2) (.ref C0) = some false)
    (sb2_1 : PySem.W.subIn K (.ref C2) (.ref C1) = some false)
    (sb2_2 : PySem.W.subIn K (.ref C2) (.ref C2) = some true)
    (sb2_3 : PySem.W.subIn K (.ref C2) (.ref C3) = some true)
    (sb2_4 : PySem.W.subIn K (.ref C2) (.ref C4) = some false)
    (sG : PySem.W.specialIn K (.builtin "object.__class__") "__get__" = some (some (.builtin "getset_descriptor.__get__")))
    (sT : PySem.W.takesIn K (.builtin "object.__class__") = some true)
    (ne0_3 : C0 ≠ C3)
    (ne0_4 : C0 ≠ C4)
    (ne1_3 : C1 ≠ C3)
    (ne1_4 : C1 ≠ C4)
    (ne2_3 : C2 ≠ C3)
    (ne2_4 : C2 ≠ C4)
    (z_abs : PySem.W.nsIn K mainGlobals "abs" = some none)
    (z_bool : PySem.W.nsIn K mainGlobals "bool" = some none)
    (z_divmod : PySem.W.nsIn K mainGlobals "divmod" = some none)
    (z_int : PySem.W.nsIn K mainGlobals "int" = some none)
    (z_isinstance : PySem.W.nsIn K mainGlobals "isinstance" = some none)
    (z_len : PySem.W.nsIn K mainGlobals "len" = some none)
    (z_max : PySem.W.nsIn K mainGlobals "max" = some none)
    (z_range : PySem.W.nsIn K mainGlobals "range" = some none)
    (z_repr : PySem.W.nsIn K mainGlobals "repr" = some none)
    (z_sum : PySem.W.nsIn K mainGlobals "sum" = some none)
    (z_tuple : PySem.W.nsIn K mainGlobals "tuple" = some none)
    (z_gcd : PySem.W.nsIn K mainGlobals "gcd" = some (some (.builtin "math.gcd")))
    (a0 : PySem.W.nsIn K mainGlobals "is_integer" = some (some (.ref f0)))
    (l0 : K.lookup f0 = some ⟨oc0, od0, .func (PySem.W.fnOf "is_integer" "is_integer" (defArgs st0) (defBody st0) (defScope st0) .none kV0 dc0 pm0 an0 cd0 ct0), sl0⟩)
    (cc0 : PySem.W.codeIn K cd0 "is_integer" = true)
    (k0 : PySem.W.keepIn K (.ref f0) = true)
    (a1 : PySem.W.nsIn K mainGlobals "check_integer" = some (some (.ref f1)))
    (l1 : K.lookup f1 = some ⟨oc1, od1, .func (PySem.W.fnOf "check_integer" "check_integer" (defArgs st1) (defBody st1) (defScope st1) .none kV1 dc1 pm1 an1 cd1 ct1), sl1⟩)
    (cc1 : PySem.W.codeIn K cd1 "check_integer" = true)
    (k1 : PySem.W.keepIn K (.ref f1) = true)
    (a2 : PySem.W.nsIn K mainGlobals "check_divisor" = some (some (.ref f2)))
    (l2 : K.lookup f2 = some ⟨oc2, od2, .func (PySem.W.fnOf "check_divisor" "check_divisor" (defArgs st2) (defBody st2) (defScope st2) .none kV2 dc2 pm2 an2 cd2 ct2), sl2⟩)
    (cc2 : PySem.W.codeIn K cd2 "check_divisor" = true)
    (k2 : PySem.W.keepIn K (.ref f2) = true)
    (a3 : PySem.W.nsIn K mainGlobals "is_ratio" = some (some (.ref f3)))
    (l3 : K.lookup f3 = some ⟨oc3, od3, .func (PySem.W.fnOf "is_ratio" "is_ratio" (defArgs st3) (defBody st3) (defScope st3) .none kV3 dc3 pm3 an3 cd3 ct3), sl3⟩)
    (cc3 : PySem.W.codeIn K cd3 "is_ratio" = true)
    (k3 : PySem.W.keepIn K (.ref f3) = true)
    (a4 : PySem.W.nsIn K mainGlobals "check_ratio" = some (some (.ref f4)))
    (l4 : K.lookup f4 = some ⟨oc4, od4, .func (PySem.W.fnOf "check_ratio" "check_ratio" (defArgs st4) (defBody st4) (defScope st4) .none kV4 dc4 pm4 an4 cd4 ct4), sl4⟩)
    (cc4 : PySem.W.codeIn K cd4 "check_ratio" = true)
    (k4 : PySem.W.keepIn K (.ref f4) = true)
    (a5 : PySem.W.nsIn K mainGlobals "lowest" = some (some (.ref f5)))
    (l5 : K.lookup f5 = some ⟨oc5, od5, .func (PySem.W.fnOf "lowest" "lowest" (defArgs st5) (defBody st5) (defScope st5) .none kV5 dc5 pm5 an5 cd5 ct5), sl5⟩)
    (cc5 : PySem.W.codeIn K cd5 "lowest" = true)
    (k5 : PySem.W.keepIn K (.ref f5) = true)
    (a6 : PySem.W.nsIn K mainGlobals "ratio_made" = some (some (.ref f6)))
    (l6 : K.lookup f6 = some ⟨oc6, od6, .func (PySem.W.fnOf "ratio_made" "ratio_made" (defArgs st6) (defBody st6) (defScope st6) .none kV6 dc6 pm6 an6 cd6 ct6), sl6⟩)
    (cc6 : PySem.W.codeIn K cd6 "ratio_made" = true)
    (k6 : PySem.W.keepIn K (.ref f6) = true)
    (a7 : PySem.W.nsIn K mainGlobals "ratio_plus" = some (some (.ref f7)))
    (l7 : K.lookup f7 = some ⟨oc7, od7, .func (PySem.W.fnOf "ratio_plus" "ratio_plus" (defArgs st7) (defBody st7) (defScope st7) .none kV7 dc7 pm7 an7 cd7 ct7), sl7⟩)
    (cc7 : PySem.W.codeIn K cd7 "ratio_plus" = true)
    (k7 : PySem.W.keepIn K (.ref f7) = true)
    (a8 : PySem.W.nsIn K mainGlobals "ratio_minus" = some (some (.ref f8)))
    (l8 : K.lookup f8 = some ⟨oc8, od8, .func (PySem.W.fnOf "ratio_minus" "ratio_minus" (defArgs st8) (defBody st8) (defScope st8) .none kV8 dc8 pm8 an8 cd8 ct8), sl8⟩)
    (cc8 : PySem.W.codeIn K cd8 "ratio_minus" = true)
    (k8 : PySem.W.keepIn K (.ref f8) = true)
    (a9 : PySem.W.nsIn K mainGlobals "ratio_times" = some (some (.ref f9)))
    (l9 : K.lookup f9 = some ⟨oc9, od9, .func (PySem.W.fnOf "ratio_times" "ratio_times" (defArgs st9) (defBody st9) (defScope st9) .none kV9 dc9 pm9 an9 cd9 ct9), sl9⟩)
    (cc9 : PySem.W.codeIn K cd9 "ratio_times" = true)
    (k9 : PySem.W.keepIn K (.ref f9) = true)
    (a10 : PySem.W.nsIn K mainGlobals "ratio_over" = some (some (.ref f10)))
    (l10 : K.lookup f10 = some ⟨oc10, od10, .func (PySem.W.fnOf "ratio_over" "ratio_over" (defArgs st10) (defBody st10) (defScope st10) .none kV10 dc10 pm10 an10 cd10 ct10), sl10⟩)
    (cc10 : PySem.W.codeIn K cd10 "ratio_over" = true)
    (k10 : PySem.W.keepIn K (.ref f10) = true)
    (a11 : PySem.W.nsIn K mainGlobals "ratio_compared" = some (some (.ref f11)))
    (l11 : K.lookup f11 = some ⟨oc11, od11, .func (PySem.W.fnOf "ratio_compared" "ratio_compared" (defArgs st11) (defBody st11) (defScope st11) .none kV11 dc11 pm11 an11 cd11 ct11), sl11⟩)
    (cc11 : PySem.W.codeIn K cd11 "ratio_compared" = true)
    (k11 : PySem.W.keepIn K (.ref f11) = true)
    (a12 : PySem.W.nsIn K mainGlobals "ratio_floor" = some (some (.ref f12)))
    (l12 : K.lookup f12 = some ⟨oc12, od12, .func (PySem.W.fnOf "ratio_floor" "ratio_floor" (defArgs st12) (defBody st12) (defScope st12) .none kV12 dc12 pm12 an12 cd12 ct12), sl12⟩)
    (cc12 : PySem.W.codeIn K cd12 "ratio_floor" = true)
    (k12 : PySem.W.keepIn K (.ref f12) = true)
    (a13 : PySem.W.nsIn K mainGlobals "_law_odd" = some (some (.ref f13)))
    (l13 : K.lookup f13 = some ⟨oc13, od13, .func (PySem.W.fnOf "_law_odd" "_law_odd" (defArgs st13) (defBody st13) (defScope st13) .none kV13 dc13 pm13 an13 cd13 ct13), sl13⟩)
    (cc13 : PySem.W.codeIn K cd13 "_law_odd" = true)
    (k13 : PySem.W.keepIn K (.ref f13) = true)
    (a14 : PySem.W.nsIn K mainGlobals "_law_pot" = some (some (.ref f14)))
    (l14 : K.lookup f14 = some ⟨oc14, od14, .func (PySem.W.fnOf "_law_pot" "_law_pot" (defArgs st14) (defBody st14) (defScope st14) .none kV14 dc14 pm14 an14 cd14 ct14), sl14⟩)
    (cc14 : PySem.W.codeIn K cd14 "_law_pot" = true)
    (k14 : PySem.W.keepIn K (.ref f14) = true)
    (a15 : PySem.W.nsIn K mainGlobals "_law_draw" = some (some (.ref f15)))
    (l15 : K.lookup f15 = some ⟨oc15, od15, .func (PySem.W.fnOf "_law_draw" "_law_draw" (defArgs st15) (defBody st15) (defScope st15) .none kV15 dc15 pm15 an15 cd15 ct15), sl15⟩)
    (cc15 : PySem.W.codeIn K cd15 "_law_draw" = true)
    (k15 : PySem.W.keepIn K (.ref f15) = true)
    (a16 : PySem.W.nsIn K mainGlobals "_law_whole" = some (some (.ref f16)))
    (l16 : K.lookup f16 = some ⟨oc16, od16, .func (PySem.W.fnOf "_law_whole" "_law_whole" (defArgs st16) (defBody st16) (defScope st16) .none kV16 dc16 pm16 an16 cd16 ct16), sl16⟩)
    (cc16 : PySem.W.codeIn K cd16 "_law_whole" = true)
    (k16 : PySem.W.keepIn K (.ref f16) = true)
    (a17 : PySem.W.nsIn K mainGlobals "_law_under" = some (some (.ref f17)))
    (l17 : K.lookup f17 = some ⟨oc17, od17, .func (PySem.W.fnOf "_law_under" "_law_under" (defArgs st17) (defBody st17) (defScope st17) .none kV17 dc17 pm17 an17 cd17 ct17), sl17⟩)
    (cc17 : PySem.W.codeIn K cd17 "_law_under" = true)
    (k17 : PySem.W.keepIn K (.ref f17) = true)
    (a18 : PySem.W.nsIn K mainGlobals "_law_least" = some (some (.ref f18)))
    (l18 : K.lookup f18 = some ⟨oc18, od18, .func (PySem.W.fnOf "_law_least" "_law_least" (defArgs st18) (defBody st18) (defScope st18) .none kV18 dc18 pm18 an18 cd18 ct18), sl18⟩)
    (cc18 : PySem.W.codeIn K cd18 "_law_least" = true)
    (k18 : PySem.W.keepIn K (.ref f18) = true)
    (a19 : PySem.W.nsIn K mainGlobals "_law_told" = some (some (.ref f19)))
    (l19 : K.lookup f19 = some ⟨oc19, od19, .func (PySem.W.fnOf "_law_told" "_law_told" (defArgs st19) (defBody st19) (defScope st19) .none kV19 dc19 pm19 an19 cd19 ct19), sl19⟩)
    (cc19 : PySem.W.codeIn K cd19 "_law_told" = true)
    (k19 : PySem.W.keepIn K (.ref f19) = true)
    (a20 : PySem.W.nsIn K mainGlobals "_law_raised" = some (some (.ref f20)))
    (l20 : K.lookup f20 = some ⟨oc20, od20, .func (PySem.W.fnOf "_law_raised" "_law_raised" (defArgs st20) (defBody st20) (defScope st20) .none kV20 dc20 pm20 an20 cd20 ct20), sl20⟩)
    (cc20 : PySem.W.codeIn K cd20 "_law_raised" = true)
    (k20 : PySem.W.keepIn K (.ref f20) = true)
    (a21 : PySem.W.nsIn K mainGlobals "_law_is" = some (some (.ref f21)))
    (l21 : K.lookup f21 = some ⟨oc21, od21, .func (PySem.W.fnOf "_law_is" "_law_is" (defArgs st21) (defBody st21) (defScope st21) .none kV21 dc21 pm21 an21 cd21 ct21), sl21⟩)
    (cc21 : PySem.W.codeIn K cd21 "_law_is" = true)
    (k21 : PySem.W.keepIn K (.ref f21) = true)
    (a22 : PySem.W.nsIn K mainGlobals "_law_pair_right" = some (some (.ref f22)))
    (l22 : K.lookup f22 = some ⟨oc22, od22, .func (PySem.W.fnOf "_law_pair_right" "_law_pair_right" (defArgs st22) (defBody st22) (defScope st22) .none kV22 dc22 pm22 an22 cd22 ct22), sl22⟩)
    (cc22 : PySem.W.codeIn K cd22 "_law_pair_right" = true)
    (k22 : PySem.W.keepIn K (.ref f22) = true)
    (a23 : PySem.W.nsIn K mainGlobals "_law_refusals_right" = some (some (.ref f23)))
    (l23 : K.lookup f23 = some ⟨oc23, od23, .func (PySem.W.fnOf "_law_refusals_right" "_law_refusals_right" (defArgs st23) (defBody st23) (defScope st23) .none kV23 dc23 pm23 an23 cd23 ct23), sl23⟩)
    (cc23 : PySem.W.codeIn K cd23 "_law_refusals_right" = true)
    (k23 : PySem.W.keepIn K (.ref f23) = true)
    (a24 : PySem.W.nsIn K mainGlobals "law" = some (some (.ref f24)))
    (l24 : K.lookup f24 = some ⟨oc24, od24, .func (PySem.W.fnOf "law" "law" (defArgs st24) (defBody st24) (defScope st24) .none kV24 dc24 pm24 an24 cd24 ct24), sl24⟩)
    (cc24 : PySem.W.codeIn K cd24 "law" = true)
    (k24 : PySem.W.keepIn K (.ref f24) = true)
    (plain : ∀ ns : List Int, ns.length ≤ 63 → ∃ h', run (fnsOf its) sub WH DP 24 [.frz (ns.map C.int)] [] = .ok (.bl true) h') :
    ∃ fd : FuncData, (∀ (s : Shared) (v : Value), BindsTo s fd ⟨[v], []⟩ [("script", v)]) ∧ ∀ base : Heap, K.In base → base.Ns mainGlobals mg → FnOkG P w K mg base (DP + 2) fa fd ["script"] (sp0 K) := by
  have e := hfa.symm.trans (PySem.W.mg_of X G a24)
  cases e
  have F0 := fun_mk (st := st0) l0 cc0 k0
  have B0 := F0.binds (ps := P0) fun _ _ _ _ _ _ us hl => match us, hl with | [_], _ => rfl
  have F1 := fun_mk (st := st1) l1 cc1 k1
  have B1 := F1.binds (ps := P1) fun _ _ _ _ _ _ us hl => match us, hl with | [_], _ => rfl
  have F2 := fun_mk (st := st2) l2 cc2 k2
  have B2 := F2.binds (ps := P2) fun _ _ _ _ _ _ us hl => match us, hl with | [_], _ => rfl
  have F3 := fun_mk (st := st3) l3 cc3 k3
  have B3 := F3.binds (ps := P3) fun _ _ _ _ _ _ us hl => match us, hl with | [_], _ => rfl
  have F4 := fun_mk (st := st4) l4 cc4 k4
  have B4 := F4.binds (ps := P4) fun _ _ _ _ _ _ us hl => match us, hl with | [_], _ => rfl
  have F5 := fun_mk (st := st5) l5 cc5 k5
  have B5 := F5.binds (ps := P5) fun _ _ _ _ _ _ us hl => match us, hl with | [_, _], _ => rfl
  have F6 := fun_mk (st := st6) l6 cc6 k6
  have B6 := F6.binds (ps := P6) fun _ _ _ _ _ _ us hl => match us, hl with | [_, _], _ => rfl
  have F7 := fun_mk (st := st7) l7 cc7 k7
  have B7 := F7.binds (ps := P7) fun _ _ _ _ _ _ us hl => match us, hl with | [_, _], _ => rfl
  have F8 := fun_mk (st := st8) l8 cc8 k8
  have B8 := F8.binds (ps := P8) fun _ _ _ _ _ _ us hl => match us, hl with | [_, _], _ => rfl
  have F9 := fun_mk (st := st9) l9 cc9 k9
  have B9 := F9.binds (ps := P9) fun _ _ _ _ _ _ us hl => match us, hl with | [_, _], _ => rfl
  have F10 := fun_mk (st := st10) l10 cc10 k10
  have B10 := F10.binds (ps := P10) fun _ _ _ _ _ _ us hl => match us, hl with | [_, _], _ => rfl
  have F11 := fun_mk (st := st11) l11 cc11 k11
  have B11 := F11.binds (ps := P11) fun _ _ _ _ _ _ us hl => match us, hl with | [_, _], _ => rfl
  have F12 := fun_mk (st := st12) l12 cc12 k12
  have B12 := F12.binds (ps := P12) fun _ _ _ _ _ _ us hl => match us, hl with | [_], _ => rfl
  have F13 := fun_mk (st := st13) l13 cc13 k13
  have B13 := F13.binds (ps := P13) fun _ _ _ _ _ _ us hl => match us, hl with | [], _ => rfl
  have F14 := fun_mk (st := st14) l14 cc14 k14
  have B14 := F14.binds (ps := P14) fun _ _ _ _ _ _ us hl => match us, hl with | [_, _], _ => rfl
  have F15 := fun_mk (st := st15) l15 cc15 k15
  have B15 := F15.binds (ps := P15) fun _ _ _ _ _ _ us hl => match us, hl with | [_, _], _ => rfl
  have F16 := fun_mk (st := st16) l16 cc16 k16
  have B16 := F16.binds (ps := P16) fun _ _ _ _ _ _ us hl => match us, hl with | [_], _ => rfl
  have F17 := fun_mk (st := st17) l17 cc17 k17
  have B17 := F17.binds (ps := P17) fun _ _ _ _ _ _ us hl => match us, hl with | [_], _ => rfl
  have F18 := fun_mk (st := st18) l18 cc18 k18
  have B18 := F18.binds (ps := P18) fun _ _ _ _ _ _ us hl => match us, hl with | [_, _], _ => rfl
  have F19 := fun_mk (st := st19) l19 cc19 k19
  have B19 := F19.binds (ps := P19) fun _ _ _ _ _ _ us hl => match us, hl with | [_, _, _], _ => rfl
  have F20 := fun_mk (st := st20) l20 cc20 k20
  have B20 := F20.binds (ps := P20) fun _ _ _ _ _ _ us hl => match us, hl with | [_, _, _], _ => rfl
  have F21 := fun_mk (st := st21) l21 cc21 k21
  have B21 := F21.binds (ps := P21) fun _ _ _ _ _ _ us hl => match us, hl with | [_, _], _ => rfl
  have F22 := fun_mk (st := st22) l22 cc22 k22
  have B22 := F22.binds (ps := P22) fun _ _ _ _ _ _ us hl => match us, hl with | [_, _, _, _], _ => rfl
  have F23 := fun_mk (st := st23) l23 cc23 k23
  have B23 := F23.binds (ps := P23) fun _ _ _ _ _ _ us hl => match us, hl with | [_, _], _ => rfl
  have F24 := fun_mk (st := st24) l24 cc24 k24
  have B24 := F24.binds (ps := P24) fun _ _ _ _ _ _ us hl => match us, hl with | [_], _ => rfl
  have xc0 : XcC K C0 := xc_mk ga0 gg0 su0 hd0 ha0 sG sT hm0
  have T0 : OexC K C0 := ⟨⟨_, _, _, _, _, _, _, _, _, _, _, _, _, _, _, xL0, bm0_⟩, sa0, su0, tC0, kC0⟩
  have I0 := fun_mk (st := meth 5 0) gl0 gc0 gk0
  have J0 := I0.binds (ps := ["self", "value"]) fun _ _ _ _ _ _ us hl => match us, hl with | [_, _], _ => rfl
  have xc1 : XcC K C1 := xc_mk ga1 gg1 su1 hd1 ha1 sG sT hm1
  have T1 : OexC K C1 := ⟨⟨_, _, _, _, _, _, _, _, _, _, _, _, _, _, _, xL1, bm1_⟩, sa1, su1, tC1, kC1⟩
  have I1 := fun_mk (st := meth 6 0) gl1 gc1 gk1
  have J1 := I1.binds (ps := ["self", "value"]) fun _ _ _ _ _ _ us hl => match us, hl with | [_, _], _ => rfl
  have xc2 : XcC K C2 := xc_mk ga2 gg2 su2 hd2 ha2 sG sT hm2
  let tb : List (Addr × List Str) := [(C0, (["value"] : List Str)), (C1, (["value"] : List Str)), (C2, ([] : List Str))]
  let et : ETab := fun k => tb[k]?
  have ec : ∀ (kk : Nat) (A : Addr) (f : List Str), et kk = some (A, f) → (kk = 0 ∧ A = C0 ∧ f = (["value"] : List Str)) ∨ (kk = 1 ∧ A = C1 ∧ f = (["value"] : List Str)) ∨ (kk = 2 ∧ A = C2 ∧ f = ([] : List Str)) := by
    intro kk A f h
    match kk, h with
    | 0, h => cases h; exact .inl ⟨rfl, rfl, rfl⟩
    | 1, h => cases h; exact .inr (.inl ⟨rfl, rfl, rfl⟩)
    | 2, h => cases h; exact .inr (.inr (⟨rfl, rfl, rfl⟩))
    | n + 3, h => cases h
  have land : ∀ base : Heap, K.In base → base.Ns mainGlobals mg → Land its c0 et sub P w K mg base := fun base Y GB => by
    refine ⟨rfl, all_ok, ?_, ?_, ?_, ?_, ?_⟩
    · intro i it hi
      match i, hi with
      | 0, hi =>
        cases hi
        refine ⟨_, _, PySem.W.mg_of X G a0, F0, B0, fun n ks perm hk => ?_⟩
        simp only [c0, List.mem_cons, List.not_mem_nil, or_false, Prod.mk.injEq] at hk
        rcases hk with ⟨e0, e1, e2, e3⟩ | ⟨e0, e1, e2, e3⟩ | ⟨e0, e1, e2, e3⟩ | ⟨e0, e1, e2, e3⟩
        · exact absurd e0 (by decide)
        · exact absurd e0 (by decide)
        · exact absurd e0 (by decide)
        · exact absurd e0 (by decide)
      | 1, hi =>
        cases hi
        refine ⟨_, _, PySem.W.mg_of X G a1, F1, B1, fun n ks perm hk => ?_⟩
        simp only [c0, List.mem_cons, List.not_mem_nil, or_false, Prod.mk.injEq] at hk
        rcases hk with ⟨e0, e1, e2, e3⟩ | ⟨e0, e1, e2, e3⟩ | ⟨e0, e1, e2, e3⟩ | ⟨e0, e1, e2, e3⟩
        · exact absurd e0 (by decide)
        · exact absurd e0 (by decide)
        · exact absurd e0 (by decide)
        · exact absurd e0 (by decide)
      | 2, hi =>
        cases hi
        refine ⟨_, _, PySem.W.mg_of X G a2, F2, B2, fun n ks perm hk => ?_⟩
        simp only [c0, List.mem_cons, List.not_mem_nil, or_false, Prod.mk.injEq] at hk
        rcases hk with ⟨e0, e1, e2, e3⟩ | ⟨e0, e1, e2, e3⟩ | ⟨e0, e1, e2, e3⟩ | ⟨e0, e1, e2, e3⟩
        · exact absurd e0 (by decide)
        · exact absurd e0 (by decide)
        · exact absurd e0 (by decide)
        · exact absurd e0 (by decide)
      | 3, hi =>
        cases hi
        refine ⟨_, _, PySem.W.mg_of X G a3, F3, B3, fun n ks perm hk => ?_⟩
        simp only [c0, List.mem_cons, List.not_mem_nil, or_false, Prod.mk.injEq] at hk
        rcases hk with ⟨e0, e1, e2, e3⟩ | ⟨e0, e1, e2, e3⟩ | ⟨e0, e1, e2, e3⟩ | ⟨e0, e1, e2, e3⟩
        · exact absurd e0 (by decide)
        · exact absurd e0 (by decide)
        · subst e1 e2 e3
          exact ⟨kb_mk (by decide) fun s us ws h1 h2 => match us, ws, h1, h2 with | [], [w0], _, _ => .of_eq rfl, by decide⟩
        · exact absurd e0 (by decide)
      | 4, hi =>
        cases hi
        refine ⟨_, _, PySem.W.mg_of X G a4, F4, B4, fun n ks perm hk => ?_⟩
        simp only [c0, List.mem_cons, List.not_mem_nil, or_false, Prod.mk.injEq] at hk
        rcases hk with ⟨e0, e1, e2, e3⟩ | ⟨e0, e1, e2, e3⟩ | ⟨e0, e1, e2, e3⟩ | ⟨e0, e1, e2, e3⟩
        · exact absurd e0 (by decide)
        · exact absurd e0 (by decide)
        · exact absurd e0 (by decide)
        · exact absurd e0 (by decide)
      | 5, hi =>
        cases hi
        refine ⟨_, _, PySem.W.mg_of X G a5, F5, B5, fun n ks perm hk => ?_⟩
        simp only [c0, List.mem_cons, List.not_mem_nil, or_false, Prod.mk.injEq] at hk
        rcases hk with ⟨e0, e1, e2, e3⟩ | ⟨e0, e1, e2, e3⟩ | ⟨e0, e1, e2, e3⟩ | ⟨e0, e1, e2, e3⟩
        · exact absurd e0 (by decide)
        · exact absurd e0 (by decide)
        · exact absurd e0 (by decide)
        · exact absurd e0 (by decide)
      | 6, hi =>
        cases hi
        refine ⟨_, _, PySem.W.mg_of X G a6, F6, B6, fun n ks perm hk => ?_⟩
        simp only [c0, List.mem_cons, List.not_mem_nil, or_false, Prod.mk.injEq] at hk
        rcases hk with ⟨e0, e1, e2, e3⟩ | ⟨e0, e1, e2, e3⟩ | ⟨e0, e1, e2, e3⟩ | ⟨e0, e1, e2, e3⟩
        · exact absurd e0 (by decide)
        · exact absurd e0 (by decide)
        · exact absurd e0 (by decide)
        · subst e1 e2 e3
          exact ⟨kb_mk (by decide) fun s us ws h1 h2 => match us, ws, h1, h2 with | [], [w0, w1], _, _ => .of_eq rfl, by decide⟩
      | 7, hi =>
        cases hi
        refine ⟨_, _, PySem.W.mg_of X G a7, F7, B7, fun n ks perm hk => ?_⟩
        simp only [c0, List.mem_cons, List.not_mem_nil, or_false, Prod.mk.injEq] at hk
        rcases hk with ⟨e0, e1, e2, e3⟩ | ⟨e0, e1, e2, e3⟩ | ⟨e0, e1, e2, e3⟩ | ⟨e0, e1, e2, e3⟩
        · exact absurd e0 (by decide)
        · exact absurd e0 (by decide)
        · exact absurd e0 (by decide)
        · exact absurd e0 (by decide)
      | 8, hi =>
        cases hi
        refine ⟨_, _, PySem.W.mg_of X G a8, F8, B8, fun n ks perm hk => ?_⟩
        simp only [c0, List.mem_cons, List.not_mem_nil, or_false, Prod.mk.injEq] at hk
        rcases hk with ⟨e0, e1, e2, e3⟩ | ⟨e0, e1, e2, e3⟩ | ⟨e0, e1, e2, e3⟩ | ⟨e0, e1, e2, e3⟩
        · exact absurd e0 (by decide)
        · subst e1 e2 e3
          exact ⟨kb_mk (by decide) fun s us ws h1 h2 => match us, ws, h1, h2 with | [], [w0, w1], _, _ => .of_eq rfl, by decide⟩
        · exact absurd e0 (by decide)
        · exact absurd e0 (by decide)
      | 9, hi =>
        cases hi
        refine ⟨_, _, PySem.W.mg_of X G a9, F9, B9, fun n ks perm hk => ?_⟩
        simp only [c0, List.mem_cons, List.not_mem_nil, or_false, Prod.mk.injEq] at hk
        rcases hk with ⟨e0, e1, e2, e3⟩ | ⟨e0, e1, e2, e3⟩ | ⟨e0, e1, e2, e3⟩ | ⟨e0, e1, e2, e3⟩
        · exact absurd e0 (by decide)
        · exact absurd e0 (by decide)
        · exact absurd e0 (by decide)
        · exact absurd e0 (by decide)
      | 10, hi =>
        cases hi
        refine ⟨_, _, PySem.W.mg_of X G a10, F10, B10, fun n ks perm hk => ?_⟩
        simp only [c0, List.mem_cons, List.not_mem_nil, or_false, Prod.mk.injEq] at hk
        rcases hk with ⟨e0, e1, e2, e3⟩ | ⟨e0, e1, e2, e3⟩ | ⟨e0, e1, e2, e3⟩ | ⟨e0, e1, e2, e3⟩
        · exact absurd e0 (by decide)
        · exact absurd e0 (by decide)
        · exact absurd e0 (by decide)
        · exact absurd e0 (by decide)
      | 11, hi =>
        cases hi
        refine ⟨_, _, PySem.W.mg_of X G a11, F11, B11, fun n ks perm hk => ?_⟩
        simp only [c0, List.mem_cons, List.not_mem_nil, or_false, Prod.mk.injEq] at hk
        rcases hk with ⟨e0, e1, e2, e3⟩ | ⟨e0, e1, e2, e3⟩ | ⟨e0, e1, e2, e3⟩ | ⟨e0, e1, e2, e3⟩
        · exact absurd e0 (by decide)
        · exact absurd e0 (by decide)
        · exact absurd e0 (by decide)
        · exact absurd e0 (by decide)
      | 12, hi =>
        cases hi
        refine ⟨_, _, PySem.W.mg_of X G a12, F12, B12, fun n ks perm hk => ?_⟩
        simp only [c0, List.mem_cons, List.not_mem_nil, or_false, Prod.mk.injEq] at hk
        rcases hk with ⟨e0, e1, e2, e3⟩ | ⟨e0, e1, e2, e3⟩ | ⟨e0, e1, e2, e3⟩ | ⟨e0, e1, e2, e3⟩
        · subst e1 e2 e3
          exact ⟨kb_mk (by decide) fun s us ws h1 h2 => match us, ws, h1, h2 with | [], [w0], _, _ => .of_eq rfl, by decide⟩
        · exact absurd e0 (by decide)
        · exact absurd e0 (by decide)
        · exact absurd e0 (by decide)
      | 13, hi =>
        cases hi
        refine ⟨_, _, PySem.W.mg_of X G a13, F13, B13, fun n ks perm hk => ?_⟩
        simp only [c0, List.mem_cons, List.not_mem_nil, or_false, Prod.mk.injEq] at hk
        rcases hk with ⟨e0, e1, e2, e3⟩ | ⟨e0, e1, e2, e3⟩ | ⟨e0, e1, e2, e3⟩ | ⟨e0, e1, e2, e3⟩
        · exact absurd e0 (by decide)
        · exact absurd e0 (by decide)
        · exact absurd e0 (by decide)
        · exact absurd e0 (by decide)
      | 14, hi =>
        cases hi
        refine ⟨_, _, PySem.W.mg_of X G a14, F14, B14, fun n ks perm hk => ?_⟩
        simp only [c0, List.mem_cons, List.not_mem_nil, or_false, Prod.mk.injEq] at hk
        rcases hk with ⟨e0, e1, e2, e3⟩ | ⟨e0, e1, e2, e3⟩ | ⟨e0, e1, e2, e3⟩ | ⟨e0, e1, e2, e3⟩
        · exact absurd e0 (by decide)
        · exact absurd e0 (by decide)
        · exact absurd e0 (by decide)
        · exact absurd e0 (by decide)
      | 15, hi =>
        cases hi
        refine ⟨_, _, PySem.W.mg_of X G a15, F15, B15, fun n ks perm hk => ?_⟩
        simp only [c0, List.mem_cons, List.not_mem_nil, or_false, Prod.mk.injEq] at hk
        rcases hk with ⟨e0, e1, e2, e3⟩ | ⟨e0, e1, e2, e3⟩ | ⟨e0, e1, e2, e3⟩ | ⟨e0, e1, e2, e3⟩
        · exact absurd e0 (by decide)
        · exact absurd e0 (by decide)
        · exact absurd e0 (by decide)
        · exact absurd e0 (by decide)
      | 16, hi =>
        cases hi
        refine ⟨_, _, PySem.W.mg_of X G a16, F16, B16, fun n ks perm hk => ?_⟩
        simp only [c0, List.mem_cons, List.not_mem_nil, or_false, Prod.mk.injEq] at hk
        rcases hk with ⟨e0, e1, e2, e3⟩ | ⟨e0, e1, e2, e3⟩ | ⟨e0, e1, e2, e3⟩ | ⟨e0, e1, e2, e3⟩
        · exact absurd e0 (by decide)
        · exact absurd e0 (by decide)
        · exact absurd e0 (by decide)
        · exact absurd e0 (by decide)
      | 17, hi =>
        cases hi
        refine ⟨_, _, PySem.W.mg_of X G a17, F17, B17, fun n ks perm hk => ?_⟩
        simp only [c0, List.mem_cons, List.not_mem_nil, or_false, Prod.mk.injEq] at hk
        rcases hk with ⟨e0, e1, e2, e3⟩ | ⟨e0, e1, e2, e3⟩ | ⟨e0, e1, e2, e3⟩ | ⟨e0, e1, e2, e3⟩
        · exact absurd e0 (by decide)
        · exact absurd e0 (by decide)
        · exact absurd e0 (by decide)
        · exact absurd e0 (by decide)
      | 18, hi =>
        cases hi
        refine ⟨_, _, PySem.W.mg_of X G a18, F18, B18, fun n ks perm hk => ?_⟩
        simp only [c0, List.mem_cons, List.not_mem_nil, or_false, Prod.mk.injEq] at hk
        rcases hk with ⟨e0, e1, e2, e3⟩ | ⟨e0, e1, e2, e3⟩ | ⟨e0, e1, e2, e3⟩ | ⟨e0, e1, e2, e3⟩
        · exact absurd e0 (by decide)
        · exact absurd e0 (by decide)
        · exact absurd e0 (by decide)
        · exact absurd e0 (by decide)
      | 19, hi =>
        cases hi
        refine ⟨_, _, PySem.W.mg_of X G a19, F19, B19, fun n ks perm hk => ?_⟩
        simp only [c0, List.mem_cons, List.not_mem_nil, or_false, Prod.mk.injEq] at hk
        rcases hk with ⟨e0, e1, e2, e3⟩ | ⟨e0, e1, e2, e3⟩ | ⟨e0, e1, e2, e3⟩ | ⟨e0, e1, e2, e3⟩
        · exact absurd e0 (by decide)
        · exact absurd e0 (by decide)
        · exact absurd e0 (by decide)
        · exact absurd e0 (by decide)
      | 20, hi =>
        cases hi
        refine ⟨_, _, PySem.W.mg_of X G a20, F20, B20, fun n ks perm hk => ?_⟩
        simp only [c0, List.mem_cons, List.not_mem_nil, or_false, Prod.mk.injEq] at hk
        rcases hk with ⟨e0, e1, e2, e3⟩ | ⟨e0, e1, e2, e3⟩ | ⟨e0, e1, e2, e3⟩ | ⟨e0, e1, e2, e3⟩
        · exact absurd e0 (by decide)
        · exact absurd e0 (by decide)
        · exact absurd e0 (by decide)
        · exact absurd e0 (by decide)
      | 21, hi =>
        cases hi
        refine ⟨_, _, PySem.W.mg_of X G a21, F21, B21, fun n ks perm hk => ?_⟩
        simp only [c0, List.mem_cons, List.not_mem_nil, or_false, Prod.mk.injEq] at hk
        rcases hk with ⟨e0, e1, e2, e3⟩ | ⟨e0, e1, e2, e3⟩ | ⟨e0, e1, e2, e3⟩ | ⟨e0, e1, e2, e3⟩
        · exact absurd e0 (by decide)
        · exact absurd e0 (by decide)
        · exact absurd e0 (by decide)
        · exact absurd e0 (by decide)
      | 22, hi =>
        cases hi
        refine ⟨_, _, PySem.W.mg_of X G a22, F22, B22, fun n ks perm hk => ?_⟩
        simp only [c0, List.mem_cons, List.not_mem_nil, or_false, Prod.mk.injEq] at hk
        rcases hk with ⟨e0, e1, e2, e3⟩ | ⟨e0, e1, e2, e3⟩ | ⟨e0, e1, e2, e3⟩ | ⟨e0, e1, e2, e3⟩
        · exact absurd e0 (by decide)
        · exact absurd e0 (by decide)
        · exact absurd e0 (by decide)
        · exact absurd e0 (by decide)
      | 23, hi =>
        cases hi
        refine ⟨_, _, PySem.W.mg_of X G a23, F23, B23, fun n ks perm hk => ?_⟩
        simp only [c0, List.mem_cons, List.not_mem_nil, or_false, Prod.mk.injEq] at hk
        rcases hk with ⟨e0, e1, e2, e3⟩ | ⟨e0, e1, e2, e3⟩ | ⟨e0, e1, e2, e3⟩ | ⟨e0, e1, e2, e3⟩
        · exact absurd e0 (by decide)
        · exact absurd e0 (by decide)
        · exact absurd e0 (by decide)
        · exact absurd e0 (by decide)
      | 24, hi =>
        cases hi
        refine ⟨_, _, PySem.W.mg_of X G a24, F24, B24, fun n ks perm hk => ?_⟩
        simp only [c0, List.mem_cons, List.not_mem_nil, or_false, Prod.mk.injEq] at hk
        rcases hk with ⟨e0, e1, e2, e3⟩ | ⟨e0, e1, e2, e3⟩ | ⟨e0, e1, e2, e3⟩ | ⟨e0, e1, e2, e3⟩
        · exact absurd e0 (by decide)
        · exact absurd e0 (by decide)
        · exact absurd e0 (by decide)
        · exact absurd e0 (by decide)
      | n + 25, hi => cases hi
    · intro x hx
      have hx : x ∈ c0.cf.bn := List.contains_iff_mem.mp hx
      simp only [c0, List.mem_cons, List.not_mem_nil, or_false] at hx
      rcases hx with rfl | rfl | rfl | rfl | rfl | rfl | rfl | rfl | rfl | rfl | rfl
      · exact PySem.W.mg_none_of X G z_abs
      · exact PySem.W.mg_none_of X G z_bool
      · exact PySem.W.mg_none_of X G z_divmod
      · exact PySem.W.mg_none_of X G z_int
      · exact PySem.W.mg_none_of X G z_isinstance
      · exact PySem.W.mg_none_of X G z_len
      · exact PySem.W.mg_none_of X G z_max
      · exact PySem.W.mg_none_of X G z_range
      · exact PySem.W.mg_none_of X G z_repr
      · exact PySem.W.mg_none_of X G z_sum
      · exact PySem.W.mg_none_of X G z_tuple
    · exact fun _ => PySem.W.mg_of X G z_gcd
    · intro x c hx; cases hx
    · intro k hk
      refine ⟨?_, ?_, ?_, ?_, ?_⟩
      · intro kk A f h
        rcases ec kk A f h with ⟨rfl, rfl, rfl⟩ | ⟨rfl, rfl, rfl⟩ | ⟨rfl, rfl, rfl⟩
        · exact ⟨rfl, by decide⟩
        · exact ⟨rfl, by decide⟩
        · exact ⟨rfl, by decide⟩
      · intro x kk b hx
        have hx : (x, kk, b) ∈ c0.ex := List.contains_iff_mem.mp hx
        simp only [c0, List.mem_cons, List.not_mem_nil, or_false, Prod.mk.injEq] at hx
        rcases hx with ⟨rfl, rfl, rfl⟩ | ⟨rfl, rfl, rfl⟩ | ⟨rfl, rfl, rfl⟩
        · exact ⟨C0, ["value"], rfl, PySem.W.mg_of X G aC0, .own g0 _ T0 gi0 gt0 1 hk (ini1 I0 rfl ⟨rfl, rfl, rfl, by decide +kernel, rfl, by decide +kernel, by decide +kernel⟩ (by decide) (by decide) T0 no0_value) J0⟩
        · exact ⟨C1, ["value"], rfl, PySem.W.mg_of X G aC1, .own g1 _ T1 gi1 gt1 1 hk (ini1 I1 rfl ⟨rfl, rfl, rfl, by decide +kernel, rfl, by decide +kernel, by decide +kernel⟩ (by decide) (by decide) T1 no1_value) J1⟩
        · exact ⟨C2, [], rfl, PySem.W.mg_of X G aC2, .bare BM2 "RuntimeError" "RuntimeError.__new__" "RuntimeError.__init__" PySem.F.excBase_RuntimeError xi2 kC2 tC2 su2 rfl⟩
      · intro x ks hx
        have hx : (x, ks) ∈ c0.hd := List.contains_iff_mem.mp hx
        simp only [c0, List.mem_cons, List.not_mem_nil, or_false, Prod.mk.injEq] at hx
        rcases hx with ⟨rfl, rfl⟩ | ⟨rfl, rfl⟩ | ⟨rfl, rfl⟩
        · refine ⟨.ref C2, .inl (PySem.W.mg_of X G aC2), fun kk A f h => ?_⟩
          rcases ec kk A f h with ⟨rfl, rfl, rfl⟩ | ⟨rfl, rfl, rfl⟩ | ⟨rfl, rfl, rfl⟩
          · exact PySem.W.exm_ref su2 hd2 tC2 sb0_2
          · exact PySem.W.exm_ref su2 hd2 tC2 sb1_2
          · exact PySem.W.exm_ref su2 hd2 tC2 sb2_2
        · refine ⟨.ref C0, .inl (PySem.W.mg_of X G aC0), fun kk A f h => ?_⟩
          rcases ec kk A f h with ⟨rfl, rfl, rfl⟩ | ⟨rfl, rfl, rfl⟩ | ⟨rfl, rfl, rfl⟩
          · exact PySem.W.exm_ref su0 hd0 tC0 sb0_0
          · exact PySem.W.exm_ref su0 hd0 tC0 sb1_0
          · exact PySem.W.exm_ref su0 hd0 tC0 sb2_0
        · refine ⟨.ref C1, .inl (PySem.W.mg_of X G aC1), fun kk A f h => ?_⟩
          rcases ec kk A f h with ⟨rfl, rfl, rfl⟩ | ⟨rfl, rfl, rfl⟩ | ⟨rfl, rfl, rfl⟩
          · exact PySem.W.exm_ref su1 hd1 tC1 sb0_1
          · exact PySem.W.exm_ref su1 hd1 tC1 sb1_1
          · exact PySem.W.exm_ref su1 hd1 tC1 sb2_1
      · intro kk A f x b hx h hs
        have hx : x ∈ c0.cl := List.contains_iff_mem.mp hx
        simp only [c0, List.mem_cons, List.not_mem_nil, or_false] at hx
        rcases ec kk A f h with ⟨rfl, rfl, rfl⟩ | ⟨rfl, rfl, rfl⟩ | ⟨rfl, rfl, rfl⟩
        · rcases hx with rfl | rfl
          · obtain rfl : false = b := Option.some.inj ((by decide +kernel : some false = sub 0 "StateError").trans hs)
            exact ⟨.ref C3, .inl (PySem.W.mg_of X G aC3), kit_mk hd3 tC3 ne0_3 sb0_3⟩
          · obtain rfl : true = b := Option.some.inj ((by decide +kernel : some true = sub 0 "PaceError").trans hs)
            exact ⟨.ref C4, .inl (PySem.W.mg_of X G aC4), kit_mk hd4 tC4 ne0_4 sb0_4⟩
        · rcases hx with rfl | rfl
          · obtain rfl : false = b := Option.some.inj ((by decide +kernel : some false = sub 1 "StateError").trans hs)
            exact ⟨.ref C3, .inl (PySem.W.mg_of X G aC3), kit_mk hd3 tC3 ne1_3 sb1_3⟩
          · obtain rfl : true = b := Option.some.inj ((by decide +kernel : some true = sub 1 "PaceError").trans hs)
            exact ⟨.ref C4, .inl (PySem.W.mg_of X G aC4), kit_mk hd4 tC4 ne1_4 sb1_4⟩
        · rcases hx with rfl | rfl
          · obtain rfl : true = b := Option.some.inj ((by decide +kernel : some true = sub 2 "StateError").trans hs)
            exact ⟨.ref C3, .inl (PySem.W.mg_of X G aC3), kit_mk hd3 tC3 ne2_3 sb2_3⟩
          · obtain rfl : false = b := Option.some.inj ((by decide +kernel : some false = sub 2 "PaceError").trans hs)
            exact ⟨.ref C4, .inl (PySem.W.mg_of X G aC4), kit_mk hd4 tC4 ne2_4 sb2_4⟩
      · intro kk A f h
        rcases ec kk A f h with ⟨rfl, rfl, rfl⟩ | ⟨rfl, rfl, rfl⟩ | ⟨rfl, rfl, rfl⟩
        · refine ⟨xc0, fun n hn => ?_⟩
          simp only [List.mem_cons, List.not_mem_nil, or_false] at hn
          rcases hn with rfl
          · exact no0_value
        · refine ⟨xc1, fun n hn => ?_⟩
          simp only [List.mem_cons, List.not_mem_nil, or_false] at hn
          rcases hn with rfl
          · exact no1_value
        · refine ⟨xc2, fun n hn => ?_⟩
          simp only [List.mem_cons, List.not_mem_nil, or_false] at hn
          
  exact ⟨PySem.W.fnOf "law" "law" (defArgs st24) (defBody st24) (defScope st24) .none kV24 dc24 pm24 an24 cd24 ct24, fun s v => .of_eq rfl, fun base Y GB => sp0_of (run_ok (land base Y GB) WH DP 24 _ rfl _ _ F24) plain⟩
end K10
namespace K10
theorem plain : ∀ ns : List Int, ns.length ≤ 63 → ∃ h', Sh.run (Sh.fnsOf its) sub WH DP 24 [.frz (ns.map Sh.C.int)] [] = .ok (.bl true) h' := fun ns _ => r24 ns 19
end K10
open PySem PySem.W PyProof.Rows
set_option maxRecDepth 100000 in
set_option maxHeartbeats 0 in
theorem PySem.Challenge.cw_whichpaces_k10_ratios_reckoned_holds : PySem.Challenge.rw_whichpaces_k10_ratios_reckoned.Holds := by
  w_on; o_law; k_head; (case hw => w_witness2)
  k_fill
  refine Sh.walk_G (l := PySem.Challenge.rw_whichpaces_k10_ratios_reckoned) (n := 63) (k := K10.DP + 2) (x := "script") (sp := fun w => Sh.sp0 _) rfl (by decide) rfl ⟨rfl, by decide, by decide⟩ (fun w h Y => PySem.W.kIn_of Y) ?F (fun _ H a ns h1 h2 h3 => ⟨a, ns, rfl, h1, h3, fun _ => rfl⟩)
  case F =>
    intro w mg fa h KX G hmg
    refine' K10.all_mk KX G hmg ?aC0 ?su0 ?hd0 ?tC0 ?ga0 ?gg0 ?ha0 ?hm0 ?kC0 ?no0_value ?xL0 ?bm0_ ?sa0 ?gi0 ?gt0 ?gl0 ?gc0 ?gk0 ?aC1 ?su1 ?hd1 ?tC1 ?ga1 ?gg1 ?ha1 ?hm1 ?kC1 ?no1_value ?xL1 ?bm1_ ?sa1 ?gi1 ?gt1 ?gl1 ?gc1 ?gk1 ?aC2 ?su2 ?hd2 ?tC2 ?ga2 ?gg2 ?ha2 ?hm2 ?kC2 ?xi2 ?aC3 ?su3 ?hd3 ?tC3 ?aC4 ?su4 ?hd4 ?tC4 ?sb0_0 ?sb0_1 ?sb0_2 ?sb0_3 ?sb0_4 ?sb1_0 ?sb1_1 ?sb1_2 ?sb1_3 ?sb1_4 ?sb2_0 ?sb2_1 ?sb2_2 ?sb2_3 ?sb2_4 ?sG ?sT ?ne0_3 ?ne0_4 ?ne1_3 ?ne1_4 ?ne2_3 ?ne2_4 ?z_abs ?z_bool ?z_divmod ?z_int ?z_isinstance ?z_len ?z_max ?z_range ?z_repr ?z_sum ?z_tuple ?z_gcd ?a0 ?l0 ?cc0 ?k0 ?a1 ?l1 ?cc1 ?k1 ?a2 ?l2 ?cc2 ?k2 ?a3 ?l3 ?cc3 ?k3 ?a4 ?l4 ?cc4 ?k4 ?a5 ?l5 ?cc5 ?k5 ?a6 ?l6 ?cc6 ?k6 ?a7 ?l7 ?cc7 ?k7 ?a8 ?l8 ?cc8 ?k8 ?a9 ?l9 ?cc9 ?k9 ?a10 ?l10 ?cc10 ?k10 ?a11 ?l11 ?cc11 ?k11 ?a12 ?l12 ?cc12 ?k12 ?a13 ?l13 ?cc13 ?k13 ?a14 ?l14 ?cc14 ?k14 ?a15 ?l15 ?cc15 ?k15 ?a16 ?l16 ?cc16 ?k16 ?a17 ?l17 ?cc17 ?k17 ?a18 ?l18 ?cc18 ?k18 ?a19 ?l19 ?cc19 ?k19 ?a20 ?l20 ?cc20 ?k20 ?a21 ?l21 ?cc21 ?k21 ?a22 ?l22 ?cc22 ?k22 ?a23 ?l23 ?cc23 ?k23 ?a24 ?l24 ?cc24 ?k24 ?plain
    (case aC0 => k_is)
    (case su0 => k_is)
    (case hd0 => k_is)
    (case tC0 => k_is)
    (case ga0 => k_is)
    (case gg0 => k_is)
    (case ha0 => k_is)
    (case hm0 => k_is)
    (case kC0 => k_is)
    (case no0_value => k_is)
    (case xL0 => k_is)
    (case bm0_ => decide +kernel)
    (case sa0 => k_is)
    (case gi0 => k_is)
    (case gt0 => k_is)
    (case gl0 => k_is)
    (case gc0 => k_is)
    (case gk0 => k_is)
    (case aC1 => k_is)
    (case su1 => k_is)
    (case hd1 => k_is)
    (case tC1 => k_is)
    (case ga1 => k_is)
    (case gg1 => k_is)
    (case ha1 => k_is)
    (case hm1 => k_is)
    (case kC1 => k_is)
    (case no1_value => k_is)
    (case xL1 => k_is)
    (case bm1_ => decide +kernel)
    (case sa1 => k_is)
    (case gi1 => k_is)
    (case gt1 => k_is)
    (case gl1 => k_is)
    (case gc1 => k_is)
    (case gk1 => k_is)
    (case aC2 => k_is)
    (case su2 => k_is)
    (case hd2 => k_is)
    (case tC2 => k_is)
    (case ga2 => k_is)
    (case gg2 => k_is)
    (case ha2 => k_is)
    (case hm2 => k_is)
    (case kC2 => k_is)
    (case xi2 => first | k_exc | decide +kernel)
    (case aC3 => k_is)
    (case su3 => k_is)
    (case hd3 => k_is)
    (case tC3 => k_is)
    (case aC4 => k_is)
    (case su4 => k_is)
    (case hd4 => k_is)
    (case tC4 => k_is)
    (case sb0_0 => first | rfl | k_is)
    (case sb0_1 => first | rfl | k_is)
    (case sb0_2 => first | rfl | k_is)
    (case sb0_3 => first | rfl | k_is)
    (case sb0_4 => first | rfl | k_is)
    (case sb1_0 => first | rfl | k_is)
    (case sb1_1 => first | rfl | k_is)
    (case sb1_2 => first | rfl | k_is)
    (case sb1_3 => first | rfl | k_is)
    (case sb1_4 => first | rfl | k_is)
    (case sb2_0 => first | rfl | k_is)
    (case sb2_1 => first | rfl | k_is)
    (case sb2_2 => first | rfl | k_is)
    (case sb2_3 => first | rfl | k_is)
    (case sb2_4 => first | rfl | k_is)
    (case sG => k_is)
    (case sT => k_is)
    (case ne0_3 => decide)
    (case ne0_4 => decide)
    (case ne1_3 => decide)
    (case ne1_4 => decide)
    (case ne2_3 => decide)
    (case ne2_4 => decide)
    (case z_abs => k_is)
    (case z_bool => k_is)
    (case z_divmod => k_is)
    (case z_int => k_is)
    (case z_isinstance => k_is)
    (case z_len => k_is)
    (case z_max => k_is)
    (case z_range => k_is)
    (case z_repr => k_is)
    (case z_sum => k_is)
    (case z_tuple => k_is)
    (case z_gcd => k_is)
    (case a0 => k_is)
    (case l0 => k_is)
    (case cc0 => k_is)
    (case k0 => k_is)
    (case a1 => k_is)
    (case l1 => k_is)
    (case cc1 => k_is)
    (case k1 => k_is)
    (case a2 => k_is)
    (case l2 => k_is)
    (case cc2 => k_is)
    (case k2 => k_is)
    (case a3 => k_is)
    (case l3 => k_is)
    (case cc3 => k_is)
    (case k3 => k_is)
    (case a4 => k_is)
    (case l4 => k_is)
    (case cc4 => k_is)
    (case k4 => k_is)
    (case a5 => k_is)
    (case l5 => k_is)
    (case cc5 => k_is)
    (case k5 => k_is)
    (case a6 => k_is)
    (case l6 => k_is)
    (case cc6 => k_is)
    (case k6 => k_is)
    (case a7 => k_is)
    (case l7 => k_is)
    (case cc7 => k_is)
    (case k7 => k_is)
    (case a8 => k_is)
    (case l8 => k_is)
    (case cc8 => k_is)
    (case k8 => k_is)
    (case a9 => k_is)
    (case l9 => k_is)
    (case cc9 => k_is)
    (case k9 => k_is)
    (case a10 => k_is)
    (case l10 => k_is)
    (case cc10 => k_is)
    (case k10 => k_is)
    (case a11 => k_is)
    (case l11 => k_is)
    (case cc11 => k_is)
    (case k11 => k_is)
    (case a12 => k_is)
    (case l12 => k_is)
    (case cc12 => k_is)
    (case k12 => k_is)
    (case a13 => k_is)
    (case l13 => k_is)
    (case cc13 => k_is)
    (case k13 => k_is)
    (case a14 => k_is)
    (case l14 => k_is)
    (case cc14 => k_is)
    (case k14 => k_is)
    (case a15 => k_is)
    (case l15 => k_is)
    (case cc15 => k_is)
    (case k15 => k_is)
    (case a16 => k_is)
    (case l16 => k_is)
    (case cc16 => k_is)
    (case k16 => k_is)
    (case a17 => k_is)
    (case l17 => k_is)
    (case cc17 => k_is)
    (case k17 => k_is)
    (case a18 => k_is)
    (case l18 => k_is)
    (case cc18 => k_is)
    (case k18 => k_is)
    (case a19 => k_is)
    (case l19 => k_is)
    (case cc19 => k_is)
    (case k19 => k_is)
    (case a20 => k_is)
    (case l20 => k_is)
    (case cc20 => k_is)
    (case k20 => k_is)
    (case a21 => k_is)
    (case l21 => k_is)
    (case cc21 => k_is)
    (case k21 => k_is)
    (case a22 => k_is)
    (case l22 => k_is)
    (case cc22 => k_is)
    (case k22 => k_is)
    (case a23 => k_is)
    (case l23 => k_is)
    (case cc23 => k_is)
    (case k23 => k_is)
    (case a24 => k_is)
    (case l24 => k_is)
    (case cc24 => k_is)
    (case k24 => k_is)
    (case plain => exact K10.plain)
