import PyProof.Rows.All
import Wide.All
import OpenK.AllK
import Wide.FinOn
import HandS.ForMost
import HandS.Zip
import HandS.TupAny
import HandS.IsInst
import HandS.Walk
import HandS.Conv
import HandS.Lambda
import HandS.WordsExc
import HandS.TupMul
import HandS.Style
import KE.GoesMore
import KE.GoesEnum
import HandS.ExcInit
import HandS.ExcIs
import HandS.ExcOwn
import KE.KRevSl
import HandS.Dict
import PyProof.ReprBulk
import PyProof.FitsInt
import HandS.WordsDict
import PyProof.P3Eq
import HandS.EndBits
import HandS.WideBits
import HandS.Wide
import HandS.Gcd
import HandS.SetFor
import HandS.Deep
import HandS.EndTab
import PySem.Challenge.RW_steadycraft_k05_whole_formulas_judged_an
set_option Elab.async false
set_option linter.all false
set_option maxRecDepth 100000
set_option maxHeartbeats 4000000
/-! A layer of plain data over the hand layer: values as trees (D), lists that one def may still change by their addresses (OH); the readings speak of no heap. -/
namespace SC
open PySem PySem.Spec PyProof.Rows L2

/-! ### data -/
inductive D where
  | non | bl (b : Bool) | int (i : Int) | str (x : Str) | ty (n : String)
  | tup (xs : List D) | lst (xs : List D) | own (a : Addr)
  /-- a list that is handed in -/
  | fz (xs : List D)
  /-- a dict without entries -/
  | dct
  /-- an object of the class at C: the names of its fields, what they hold -/
  | obj (C : Addr) (ns : List Str) (fs : List D)

abbrev OH := Addr → Option (List D)
abbrev DV := List (Option D)
def oset (O : OH) (p : Addr) (ds : List D) : OH := fun b => if b = p then some ds else O b
def odel (O : OH) (p : Addr) : OH := fun b => if b = p then none else O b
theorem oset_same {O : OH} {p : Addr} {ds : List D} : oset O p ds p = some ds := if_pos rfl
theorem oset_ne {O : OH} {p b : Addr} {ds : List D} (h : b ≠ p) : oset O p ds b = O b := if_neg h
theorem oset_oset {O : OH} {p : Addr} {ds es : List D} : oset (oset O p ds) p es = oset O p es := by
  funext b; unfold oset; split <;> rfl

mutual
inductive Rep (K : PySem.W.Frag) (F : Hp) : V → D → Prop
  | non : Rep K F .non .non
  | bl (b : Bool) : Rep K F (.bl b) (.bl b)
  | int (i : Int) : Rep K F (.int i) (.int i)
  | str (x : Str) : Rep K F (.str x) (.str x)
  | ty (n : String) : Rep K F (.ty n) (.ty n)
  | tup {a : Addr} {xs : List V} {ds : List D} (h : SqT K F a xs) (r : Reps K F xs ds) : Rep K F (.ref a) (.tup ds)
  | lst {a : Addr} {xs : List V} {ds : List D} (h : F a = some (.lst xs)) (r : Reps K F xs ds) : Rep K F (.ref a) (.lst ds)
  | fz {a : Addr} {xs : List V} {ds : List D} (h : SqL K F a xs) (r : Reps K F xs ds) : Rep K F (.ref a) (.fz ds)
  | own (a : Addr) : Rep K F (.ref a) (.own a)
  | dct {a : Addr} (h : F a = some (.dK [])) : Rep K F (.ref a) .dct
  | obj {a C dx : Addr} {ns : List Str} {xs : List V} {ds : List D} (h : F a = some (.ins C dx (ns.zip xs))) (r : Reps K F xs ds) : Rep K F (.ref a) (.obj C ns ds)
inductive Reps (K : PySem.W.Frag) (F : Hp) : List V → List D → Prop
  | nil : Reps K F [] []
  | cons {v : V} {vs : List V} {d : D} {ds : List D} (h : Rep K F v d) (r : Reps K F vs ds) : Reps K F (v :: vs) (d :: ds)
end
theorem Same.seqT {K : PySem.W.Frag} {H H' : Hp} {a : Addr} {xs : List V} (e : Same H H') (h : SqT K H a xs) : SqT K H' a xs := by
  rcases h with (h | ⟨o, h⟩) | h
  · exact .inl (.inl (e _ _ h))
  · exact .inl (.inr ⟨o, e _ _ h⟩)
  · exact .inr h
mutual
theorem Rep.mono {K : PySem.W.Frag} {F F' : Hp} (e : Same F F') : ∀ {v : V} {d : D}, Rep K F v d → Rep K F' v d
  | _, _, .non => .non
  | _, _, .bl b => .bl b
  | _, _, .int i => .int i
  | _, _, .str x => .str x
  | _, _, .ty n => .ty n
  | _, _, .tup h r => .tup (Same.seqT e h) (Reps.mono e r)
  | _, _, .lst h r => .lst (e _ _ h) (Reps.mono e r)
  | _, _, .fz h r => .fz (e.seq h) (Reps.mono e r)
  | _, _, .own a => .own a
  | _, _, .dct h => .dct (e _ _ h)
  | _, _, .obj h r => .obj (e _ _ h) (Reps.mono e r)
theorem Reps.mono {K : PySem.W.Frag} {F F' : Hp} (e : Same F F') : ∀ {vs : List V} {ds : List D}, Reps K F vs ds → Reps K F' vs ds
  | _, _, .nil => .nil
  | _, _, .cons h r => .cons (Rep.mono e h) (Reps.mono e r)
end
section
variable {K : PySem.W.Frag} {F F' : Hp}
theorem Reps.length : ∀ {vs : List V} {ds : List D}, Reps K F vs ds → vs.length = ds.length
  | _, _, .nil => rfl
  | _, _, .cons _ r => congrArg Nat.succ (Reps.length r)
theorem Reps.get : ∀ {vs : List V} {ds : List D} {i : Nat} {d : D}, Reps K F vs ds → ds[i]? = some d → ∃ v, vs[i]? = some v ∧ Rep K F v d
  | _, _, _, _, .nil, e => by simp at e
  | _, _, 0, _, .cons h _, e => by simp at e; subst e; exact ⟨_, rfl, h⟩
  | _, _, i + 1, d, .cons _ r, e => by
    obtain ⟨u, h1, h2⟩ := Reps.get (i := i) (d := d) r (by simpa using e)
    exact ⟨u, by simpa using h1, h2⟩
theorem Reps.getV : ∀ {vs : List V} {ds : List D} {i : Nat} {v : V}, Reps K F vs ds → vs[i]? = some v → ∃ d, ds[i]? = some d ∧ Rep K F v d
  | _, _, _, _, .nil, e => by simp at e
  | _, _, 0, _, .cons h _, e => by simp at e; subst e; exact ⟨_, rfl, h⟩
  | _, _, i + 1, d, .cons _ r, e => by
    obtain ⟨u, h1, h2⟩ := Reps.getV (i := i) (v := d) r (by simpa using e)
    exact ⟨u, by simpa using h1, h2⟩
theorem Reps.append : ∀ {vs ws : List V} {ds es : List D}, Reps K F vs ds → Reps K F ws es → Reps K F (vs ++ ws) (ds ++ es)
  | _, _, _, _, .nil, s => s
  | _, _, _, _, .cons h r, s => .cons h (Reps.append r s)
theorem Reps.drop : ∀ {vs : List V} {ds : List D} (n : Nat), Reps K F vs ds → Reps K F (vs.drop n) (ds.drop n)
  | _, _, 0, r => r
  | _, _, _ + 1, .nil => .nil
  | _, _, n + 1, .cons _ r => Reps.drop n r
theorem Reps.take : ∀ {vs : List V} {ds : List D} (n : Nat), Reps K F vs ds → Reps K F (vs.take n) (ds.take n)
  | _, _, 0, _ => .nil
  | _, _, _ + 1, .nil => .nil
  | _, _, n + 1, .cons h r => .cons h (Reps.take n r)
theorem Reps.set : ∀ {vs : List V} {ds : List D} {v : V} {d : D} (n : Nat), Rep K F v d → Reps K F vs ds → Reps K F (vs.set n v) (ds.set n d)
  | _, _, _, _, _, _, .nil => .nil
  | _, _, _, _, 0, q, .cons _ r => .cons q r
  | _, _, _, _, n + 1, q, .cons h r => .cons h (Reps.set n q r)
theorem Reps.atI {vs : List V} {ds : List D} {i : Int} {d : D} (r : Reps K F vs ds) (e : atI ds i = some d) : ∃ v, atI vs i = some v ∧ Rep K F v d := by
  unfold L2.atI at e ⊢
  rw [r.length]
  cases h : ixN ds.length i with
  | none => rw [h] at e; cases e
  | some j =>
    rw [h] at e
    exact r.get (i := j) e
def cutA {α : Type} (xs : List α) (lo hi : Option Int) : List α := (xs.drop (HT.sIx xs.length 0 lo)).take (HT.sIx xs.length xs.length hi - HT.sIx xs.length 0 lo)
theorem Reps.cut {vs : List V} {ds : List D} (lo hi : Option Int) (r : Reps K F vs ds) : Reps K F (cutV vs lo hi) (cutA ds lo hi) := by
  unfold cutV cutA
  rw [r.length]
  exact (r.drop _).take _

inductive ERep (K : PySem.W.Frag) (F : Hp) : L2.St → DV → Prop
  | nil : ERep K F [] []
  | none {s : Option V} {σ : L2.St} {e : DV} (r : ERep K F σ e) : ERep K F (s :: σ) (none :: e)
  | some {v : V} {d : D} {σ : L2.St} {e : DV} (h : Rep K F v d) (r : ERep K F σ e) : ERep K F (some v :: σ) (some d :: e)
theorem ERep.mono (m : Same F F') : ∀ {σ : L2.St} {e : DV}, ERep K F σ e → ERep K F' σ e
  | _, _, .nil => .nil
  | _, _, .none r => .none (ERep.mono m r)
  | _, _, .some h r => .some (h.mono m) (ERep.mono m r)
theorem ERep.length : ∀ {σ : L2.St} {e : DV}, ERep K F σ e → σ.length = e.length
  | _, _, .nil => rfl
  | _, _, .none r => congrArg Nat.succ (ERep.length r)
  | _, _, .some _ r => congrArg Nat.succ (ERep.length r)
theorem ERep.get : ∀ {σ : L2.St} {e : DV} {i : Nat} {d : D}, ERep K F σ e → e[i]? = Option.some (Option.some d) → ∃ v, σ[i]? = Option.some (Option.some v) ∧ Rep K F v d
  | _, _, _, _, .nil, q => by simp at q
  | _, _, 0, _, .none _, q => by simp at q
  | _, _, 0, _, .some h _, q => by simp at q; subst q; exact ⟨_, rfl, h⟩
  | _, _, i + 1, d, .none r, q => by
    obtain ⟨u, h1, h2⟩ := ERep.get (i := i) (d := d) r (by simpa using q)
    exact ⟨u, by simpa using h1, h2⟩
  | _, _, i + 1, d, .some _ r, q => by
    obtain ⟨u, h1, h2⟩ := ERep.get (i := i) (d := d) r (by simpa using q)
    exact ⟨u, by simpa using h1, h2⟩
theorem ERep.set {v : V} {d : D} (q : Rep K F v d) : ∀ {σ : L2.St} {e : DV} (i : Nat), ERep K F σ e → ERep K F (σ.set i (Option.some v)) (e.set i (Option.some d))
  | _, _, _, .nil => .nil
  | _, _, 0, .none r => .some q r
  | _, _, 0, .some _ r => .some q r
  | _, _, i + 1, .none r => .none (ERep.set q i r)
  | _, _, i + 1, .some h r => .some h (ERep.set q i r)
theorem ERep.clear : ∀ {σ : L2.St} {e : DV} (i : Nat), ERep K F σ e → ERep K F (σ.set i Option.none) (e.set i Option.none)
  | _, _, _, .nil => .nil
  | _, _, 0, .none r => .none r
  | _, _, 0, .some _ r => .none r
  | _, _, i + 1, .none r => .none (ERep.clear i r)
  | _, _, i + 1, .some h r => .some h (ERep.clear i r)
def wipeD (e : DV) : List Nat → DV
  | [] => e
  | v :: vs => (wipeD e vs).set v none
theorem ERep.wipe {σ : L2.St} {e : DV} (r : ERep K F σ e) : ∀ vs : List Nat, ERep K F (L2.wipe σ vs) (wipeD e vs)
  | [] => r
  | v :: vs => (ERep.wipe r vs).clear v
end

/-! ### states and steps -/
/-- the tables of code objects that a law's lambdas use: where they lie, the lambda's name -/
class TabL where
  tabs : List (Addr × Str)
variable [TabL]
theorem tabS_new {H : Hp} {p P : Addr} {q : Str} {o : HO} (t : LamX.TabS H P q) (n : H p = none) : LamX.TabS (upd H p o) P q := t.ext fun b u e => by rw [upd_ne (ne_of_none e n)]; exact e
theorem tabS_at {H : Hp} {P : Addr} {q : Str} (t : LamX.TabS H P q) : ∃ ps, H P = some (.tbl ps) := let ⟨ps, h, _⟩ := t; ⟨ps, h⟩
theorem tabS_lst {H : Hp} {p P : Addr} {q : Str} {o : HO} {xs : List V} (t : LamX.TabS H P q) (n : H p = some (.lst xs)) : LamX.TabS (upd H p o) P q := by
  obtain ⟨ps, h1, h2, h3⟩ := t
  refine ⟨ps, ?_, h2, fun pos cv hc => ?_⟩
  · rw [upd_ne (fun z => by rw [z, n] at h1; cases h1)]; exact h1
  · obtain ⟨c, e1, e2⟩ := h3 pos cv hc
    refine ⟨c, e1, ?_⟩
    rw [upd_ne (fun z => by rw [z, n] at e2; unfold LamX.CodeO at e2; cases e2)]; exact e2
/-- what stays, and what is not looked at stays as it is -/
structure Go0 (F : Hp) (O : OH) (H : Hp) (F' : Hp) (O' : OH) (H' : Hp) : Prop where
  same : Same F F'
  frame : ∀ a o, H a = some o → F a = none → O a = none → (∀ ps, o ≠ .tbl ps) → H' a = some o ∧ F' a = none ∧ O' a = none
theorem Go0.trans {F F1 F2 H H1 H2 : Hp} {O O1 O2 : OH} (a : Go0 F O H F1 O1 H1) (b : Go0 F1 O1 H1 F2 O2 H2) : Go0 F O H F2 O2 H2 :=
  ⟨a.same.trans b.same, fun p o h f q n => let ⟨x, y, z⟩ := a.frame p o h f q n; b.frame p o x y z n⟩
theorem Go0.refl {F H : Hp} {O : OH} : Go0 F O H F O H := ⟨Same.refl _, fun _ _ h f o _ => ⟨h, f, o⟩⟩
/-- where an error is taken: the state there, what is asked of the class, the values of the names and the lists, and what the frame takes -/
class XCx where
  F0 : Hp
  O0 : OH
  H0 : Hp
  ex : Addr → DV → OH → Prop
  W : WX
/-- nothing is taken -/
@[reducible] def XCx.nil : XCx := ⟨fun _ => none, fun _ => none, fun _ => none, fun _ _ _ => False, fun _ _ _ _ => False⟩
variable [XCx]
structure Stt (K : PySem.W.Frag) (F : Hp) (O : OH) (H : Hp) : Prop where
  same : Same F H
  own : ∀ a ds, O a = some ds → F a = none ∧ ∃ xs, H a = some (.lst xs) ∧ Reps K F xs ds
  tabs : ∀ t ∈ TabL.tabs, LamX.TabS H t.1 t.2 ∧ F t.1 = none ∧ O t.1 = none
  anch : Go0 XCx.F0 XCx.O0 XCx.H0 F O H
  nt : ∀ b ps, F b ≠ some (.tbl ps)
theorem nt_upd {F : Hp} {p : Addr} {o : HO} (h : ∀ b ps, F b ≠ some (.tbl ps)) (n : ∀ ps, o ≠ .tbl ps) (b : Addr) (ps : Array Value) : upd F p o b ≠ some (.tbl ps) := fun z => by
  by_cases e : b = p
  · subst e; rw [upd_same] at z; exact n ps (Option.some.inj z)
  · rw [upd_ne e] at z; exact h b ps z
structure Go (K : PySem.W.Frag) (F : Hp) (O : OH) (H : Hp) (F' : Hp) (O' : OH) (H' : Hp) : Prop where
  same : Same F F'
  stt : Stt K F' O' H'
  frame : ∀ a o, H a = some o → F a = none → O a = none → (∀ ps, o ≠ .tbl ps) → H' a = some o ∧ F' a = none ∧ O' a = none
section
variable {K : PySem.W.Frag} {F F1 F2 H H1 H2 : Hp} {O O1 O2 : OH}
theorem Go.of (s : Stt K F O H) (a : Same F F1) (b : Same F1 H1) (c : ∀ a ds, O1 a = some ds → F1 a = none ∧ ∃ xs, H1 a = some (.lst xs) ∧ Reps K F1 xs ds) (d : ∀ t ∈ TabL.tabs, LamX.TabS H1 t.1 t.2 ∧ F1 t.1 = none ∧ O1 t.1 = none)
    (e : ∀ a o, H a = some o → F a = none → O a = none → (∀ ps, o ≠ .tbl ps) → H1 a = some o ∧ F1 a = none ∧ O1 a = none) (f : ∀ b ps, F1 b ≠ some (.tbl ps)) : Go K F O H F1 O1 H1 := ⟨a, ⟨b, c, d, s.anch.trans ⟨a, e⟩, f⟩, e⟩
theorem Stt.go (s : Stt K F O H) : Go K F O H F O H := ⟨Same.refl _, s, fun _ _ h f o _ => ⟨h, f, o⟩⟩
theorem Go.go0 (g : Go K F O H F1 O1 H1) : Go0 F O H F1 O1 H1 := ⟨g.same, g.frame⟩
theorem Go.trans (a : Go K F O H F1 O1 H1) (b : Go K F1 O1 H1 F2 O2 H2) : Go K F O H F2 O2 H2 :=
  ⟨a.same.trans b.same, b.stt, fun p o h f q n => let ⟨x, y, z⟩ := a.frame p o h f q n; b.frame p o x y z n⟩
theorem free_F (s : Stt K F O H) {p : Addr} (n : H p = none) : F p = none := s.same.free n
theorem free_O (s : Stt K F O H) {p : Addr} (n : H p = none) : O p = none := by
  cases q : O p with
  | none => rfl
  | some ds =>
    obtain ⟨_, xs, h, _⟩ := s.own p ds q
    rw [n] at h; cases h
theorem same_upd {p : Addr} {o : HO} (n : H p = none) : Same H (upd H p o) := fun b x e => by rw [upd_ne (ne_of_none e n)]; exact e
theorem tab_ne (s : Stt K F O H) {t : Addr × Str} (ht : t ∈ TabL.tabs) {p : Addr} (n : H p = none) : t.1 ≠ p := by
  obtain ⟨ps, h⟩ := tabS_at (s.tabs t ht).1
  exact ne_of_none h n
/-- a new object, not looked at -/
theorem Stt.junk (s : Stt K F O H) {p : Addr} {o : HO} (n : H p = none) : Go K F O H F O (upd H p o) :=
  Go.of s (Same.refl _) (s.same.trans (same_upd n)) (fun a ds e => let ⟨f, xs, h, r⟩ := s.own a ds e; ⟨f, xs, same_upd n _ _ h, r⟩) (fun t ht => let ⟨a, b, c⟩ := s.tabs t ht; ⟨tabS_new a n, b, c⟩) (fun a o h f q _ => ⟨same_upd n _ _ h, f, q⟩) s.nt
/-- a new object, known -/
theorem Stt.made (s : Stt K F O H) {p : Addr} {o : HO} (n : H p = none) (no : ∀ ps, o ≠ .tbl ps := by intro _ z; cases z) : Go K F O H (upd F p o) O (upd H p o) := by
  have fp := free_F s n
  refine Go.of s (same_upd fp) (fun b x e => ?_) (fun a ds e => ?_) (fun t ht => ?_) (fun a u h f q _ => ?_) (nt_upd s.nt no)
  · by_cases z : b = p
    · subst z; rw [upd_same] at e ⊢; exact e
    · rw [upd_ne z] at e ⊢; exact s.same _ _ e
  · obtain ⟨f, xs, h, r⟩ := s.own a ds e
    have z := ne_of_none h n
    exact ⟨by rw [upd_ne z]; exact f, xs, by rw [upd_ne z]; exact h, r.mono (same_upd fp)⟩
  · obtain ⟨a, b, c⟩ := s.tabs t ht
    exact ⟨tabS_new a n, by rw [upd_ne (tab_ne s ht n)]; exact b, c⟩
  · have z := ne_of_none h n
    exact ⟨by rw [upd_ne z]; exact h, by rw [upd_ne z]; exact f, q⟩
/-- a new list, still to be changed -/
theorem Stt.fresh (s : Stt K F O H) {p : Addr} {xs : List V} {ds : List D} (n : H p = none) (r : Reps K F xs ds) : Go K F O H F (oset O p ds) (upd H p (.lst xs)) := by
  refine Go.of s (Same.refl _) (s.same.trans (same_upd n)) (fun a es e => ?_) (fun t ht => ?_) (fun a u h f q _ => ?_) s.nt
  · by_cases z : a = p
    · subst z; rw [oset_same] at e; cases e; exact ⟨free_F s n, xs, upd_same, r⟩
    · rw [oset_ne z] at e
      obtain ⟨f, ys, h, r'⟩ := s.own a es e
      exact ⟨f, ys, by rw [upd_ne z]; exact h, r'⟩
  · obtain ⟨a, b, c⟩ := s.tabs t ht
    exact ⟨tabS_new a n, b, by rw [oset_ne (tab_ne s ht n)]; exact c⟩
  · have z := ne_of_none h n
    exact ⟨by rw [upd_ne z]; exact h, f, by rw [oset_ne z]; exact q⟩
/-- an own list changed -/
theorem Stt.put (s : Stt K F O H) {p : Addr} {xs : List V} {ds es : List D} (e : O p = some es) (r : Reps K F xs ds) : Go K F O H F (oset O p ds) (upd H p (.lst xs)) := by
  obtain ⟨f0, ys0, h0, _⟩ := s.own p es e
  refine Go.of s (Same.refl _) (fun b x q => ?_) (fun a es' q => ?_) (fun t ht => ?_) (fun a u h f q _ => ?_) s.nt
  · have z : b ≠ p := fun z => by rw [z, f0] at q; cases q
    rw [upd_ne z]; exact s.same _ _ q
  · by_cases z : a = p
    · subst z; rw [oset_same] at q; cases q; exact ⟨f0, xs, upd_same, r⟩
    · rw [oset_ne z] at q
      obtain ⟨f, ys, h, r'⟩ := s.own a es' q
      exact ⟨f, ys, by rw [upd_ne z]; exact h, r'⟩
  · obtain ⟨a, b, c⟩ := s.tabs t ht
    have z : t.1 ≠ p := fun z => by rw [z, e] at c; cases c
    exact ⟨tabS_lst a h0, b, by rw [oset_ne z]; exact c⟩
  · have z : a ≠ p := fun z => by rw [z, e] at q; cases q
    exact ⟨by rw [upd_ne z]; exact h, f, by rw [oset_ne z]; exact q⟩
/-- an own list is changed no more -/
theorem Stt.freeze (s : Stt K F O H) {p : Addr} {xs : List V} {ds : List D} (e : O p = some ds) (hx : H p = some (.lst xs)) : Go K F O H (upd F p (.lst xs)) (odel O p) H := by
  obtain ⟨f0, _, _, _⟩ := s.own p ds e
  refine Go.of s (same_upd f0) (fun b x q => ?_) (fun a es q => ?_) (fun t ht => ?_) (fun a u h f q _ => ?_) (nt_upd s.nt fun _ z => by cases z)
  · by_cases z : b = p
    · subst z; rw [upd_same] at q; cases q; exact hx
    · rw [upd_ne z] at q; exact s.same _ _ q
  · by_cases z : a = p
    · subst z; simp [odel] at q
    · have q' : O a = some es := by simpa [odel, z] using q
      obtain ⟨f, ys, h, r⟩ := s.own a es q'
      exact ⟨by rw [upd_ne z]; exact f, ys, h, r.mono (same_upd f0)⟩
  · obtain ⟨a, b, c⟩ := s.tabs t ht
    have z : t.1 ≠ p := fun z => by rw [z, e] at c; cases c
    exact ⟨a, by rw [upd_ne z]; exact b, by simp [odel, z, c]⟩
  · have z : a ≠ p := fun z => by rw [z, e] at q; cases q
    exact ⟨h, by rw [upd_ne z]; exact f, by simp [odel, z, q]⟩
/-- what was made since and tracked by none is now known -/
theorem Go.known (s : Stt K F1 O1 H1) (g : Go K F1 O1 H1 F O H) {p : Addr} {o : HO} (n : H1 p = none) (f0 : F p = none) (o0 : O p = none) (hx : H p = some o) (nt : ∀ ps, o ≠ .tbl ps := by intro _ z; cases z) : Go K F1 O1 H1 (upd F p o) O H := by
  refine Go.of s (g.same.trans (same_upd f0)) (fun b x q => ?_) (fun a es q => ?_) (fun t ht => ?_) (fun a u h f q ht => ?_) (nt_upd g.stt.nt nt)
  · by_cases z : b = p
    · subst z; rw [upd_same] at q; cases q; exact hx
    · rw [upd_ne z] at q; exact g.stt.same _ _ q
  · obtain ⟨f, ys, h, r⟩ := g.stt.own a es q
    have z : a ≠ p := fun z => by rw [z, o0] at q; cases q
    exact ⟨by rw [upd_ne z]; exact f, ys, h, r.mono (same_upd f0)⟩
  · obtain ⟨a, b, c⟩ := g.stt.tabs t ht
    obtain ⟨ps, h⟩ := tabS_at a
    have z : t.1 ≠ p := fun z => by rw [z, hx] at h; exact nt ps (Option.some.inj h)
    exact ⟨a, by rw [upd_ne z]; exact b, c⟩
  · obtain ⟨q1, q2, q3⟩ := g.frame a u h f q ht
    exact ⟨q1, by rw [upd_ne (ne_of_none h n)]; exact q2, q3⟩
/-- what was made since and tracked by none is an own list now -/
theorem Go.adopt (s : Stt K F1 O1 H1) (g : Go K F1 O1 H1 F O H) {p : Addr} {xs : List V} {ds : List D} (n : H1 p = none) (f0 : F p = none) (o0 : O p = none) (hx : H p = some (.lst xs)) (r : Reps K F xs ds) : Go K F1 O1 H1 F (oset O p ds) H := by
  refine Go.of s g.same g.stt.same (fun a q z => ?_) (fun t ht => ?_) (fun a u h f q ht => ?_) g.stt.nt
  · by_cases w : a = p
    · subst w; rw [oset_same] at z; cases z; exact ⟨f0, xs, hx, r⟩
    · rw [oset_ne w] at z; exact g.stt.own a q z
  · obtain ⟨a, b, c⟩ := g.stt.tabs t ht
    obtain ⟨ps, h⟩ := tabS_at a
    have z : t.1 ≠ p := fun z => by rw [z, hx] at h; cases h
    exact ⟨a, b, by rw [oset_ne z]; exact c⟩
  · obtain ⟨q1, q2, q3⟩ := g.frame a u h f q ht
    exact ⟨q1, q2, by rw [oset_ne (ne_of_none h n)]; exact q3⟩
theorem Stt.rel {p : Addr} {ds : List D} (s : Stt K F O H) (e : O p = some ds) : ∃ xs, H p = some (.lst xs) ∧ Reps K F xs ds := (s.own p ds e).2
end

/-! ### readings -/
abbrev DE := DV → OH → (D → OH → Prop) → Prop
abbrev DA := DV → OH → (List D → OH → Prop) → Prop
abbrev DT := DV → OH → (Bool → OH → Prop) → Prop
structure DEnds where
  nx : DV → OH → Prop
  rt : D → OH → Prop
  bk : DV → OH → Prop := fun _ _ => False
  ct : DV → OH → Prop := fun _ _ => False
abbrev DS := DEnds → DV → OH → Prop
abbrev DSp := List D → OH → (D → OH → Prop) → Prop

def Outs (K : PySem.W.Frag) (F : Hp) (O : OH) (H : Hp) (k : D → OH → Prop) (Q : VK) : Prop := ∀ d O' F' H' v, k d O' → Go K F O H F' O' H' → Rep K F' v d → Q v H'
def OutsA (K : PySem.W.Frag) (F : Hp) (O : OH) (H : Hp) (k : List D → OH → Prop) (Q : List V → Hp → Prop) : Prop := ∀ ds O' F' H' vs, k ds O' → Go K F O H F' O' H' → Reps K F' vs ds → Q vs H'
def OutsT (K : PySem.W.Frag) (F : Hp) (O : OH) (H : Hp) (k : Bool → OH → Prop) (Q : Bool → Hp → Prop) : Prop := ∀ b O' F' H', k b O' → Go K F O H F' O' H' → Q b H'
def OutsS (K : PySem.W.Frag) (F : Hp) (O : OH) (H : Hp) (k : DV → OH → Prop) (Q : L2.St → Hp → Prop) : Prop := ∀ e O' F' H' σ, k e O' → Go K F O H F' O' H' → ERep K F' σ e → Q σ H'
def upE (K : PySem.W.Frag) (t : DE) : TE := fun σ H Q => ∃ F e O k, Stt K F O H ∧ ERep K F σ e ∧ t e O k ∧ Outs K F O H k Q
def upA (K : PySem.W.Frag) (t : DA) : TA := fun σ H Q => ∃ F e O k, Stt K F O H ∧ ERep K F σ e ∧ t e O k ∧ OutsA K F O H k Q
def upT (K : PySem.W.Frag) (t : DT) : TT := fun σ H Q => ∃ F e O k, Stt K F O H ∧ ERep K F σ e ∧ t e O k ∧ OutsT K F O H k Q
structure EndsOk (K : PySem.W.Frag) (F : Hp) (O : OH) (H : Hp) (k : DEnds) (D : Ends) : Prop where
  nx : OutsS K F O H k.nx D.nx
  rt : Outs K F O H k.rt D.rt
  bk : OutsS K F O H k.bk D.bk
  ct : OutsS K F O H k.ct D.ct
def upS (K : PySem.W.Frag) (t : DS) : TS := fun D σ H => ∃ F e O k, Stt K F O H ∧ ERep K F σ e ∧ t k e O ∧ EndsOk K F O H k D
def upSp (K : PySem.W.Frag) (sp : DSp) : Sp := fun vs H Q _ => ∃ F ds O k, Stt K F O H ∧ Reps K F vs ds ∧ sp ds O k ∧ Outs K F O H k Q
section
variable {K : PySem.W.Frag} {F F1 H H1 : Hp} {O O1 : OH}
theorem Outs.after {k : D → OH → Prop} {Q : VK} (o : Outs K F O H k Q) (g : Go K F O H F1 O1 H1) : Outs K F1 O1 H1 k Q := fun d O' F' H' v q s r => o d O' F' H' v q (g.trans s) r
theorem OutsA.after {k : List D → OH → Prop} {Q : List V → Hp → Prop} (o : OutsA K F O H k Q) (g : Go K F O H F1 O1 H1) : OutsA K F1 O1 H1 k Q := fun d O' F' H' v q s r => o d O' F' H' v q (g.trans s) r
theorem OutsT.after {k : Bool → OH → Prop} {Q : Bool → Hp → Prop} (o : OutsT K F O H k Q) (g : Go K F O H F1 O1 H1) : OutsT K F1 O1 H1 k Q := fun d O' F' H' q s => o d O' F' H' q (g.trans s)
theorem OutsS.after {k : DV → OH → Prop} {Q : L2.St → Hp → Prop} (o : OutsS K F O H k Q) (g : Go K F O H F1 O1 H1) : OutsS K F1 O1 H1 k Q := fun d O' F' H' v q s r => o d O' F' H' v q (g.trans s) r
theorem EndsOk.after {k : DEnds} {D : Ends} (o : EndsOk K F O H k D) (g : Go K F O H F1 O1 H1) : EndsOk K F1 O1 H1 k D := ⟨o.nx.after g, o.rt.after g, o.bk.after g, o.ct.after g⟩
theorem OutsS.no {Q : L2.St → Hp → Prop} : OutsS K F O H (fun _ _ => False) Q := fun _ _ _ _ _ h => h.elim
end
structure PD (X : Cx) (x : Expr) (t : DE) : Prop where
  pe : PE X x (upE X.K t)
structure PAD (X : Cx) (xs : List Expr) (t : DA) : Prop where
  pa : PA X xs (upA X.K t)
structure PTD (X : Cx) (x : Expr) (t : DT) : Prop where
  pt : PT X x (upT X.K t)
structure PWD (X : Cx) (x : Expr) (t : DT) : Prop where
  pw : PW X x (upT X.K t)
structure PSD (X : Cx) (st : Stmt) (t : DS) : Prop where
  ps : PS X st (upS X.K t)
structure PBD (X : Cx) (st : List Stmt) (t : DS) : Prop where
  pb : PSs X st (upS X.K t)
theorem PE.weak {X : Cx} {e : Expr} {t u : TE} (p : PE X e t) (h : ∀ σ H Q, u σ H Q → t σ H Q) : PE X e u := ⟨fun pins s σ H Q I q => p.run pins s σ H Q I (h _ _ _ q)⟩
theorem PA.weak {X : Cx} {e : List Expr} {t u : TA} (p : PA X e t) (h : ∀ σ H Q, u σ H Q → t σ H Q) : PA X e u := ⟨fun pos pins s σ H Q I q => p.run pos pins s σ H Q I (h _ _ _ q)⟩
theorem PT.weak {X : Cx} {e : Expr} {t u : TT} (p : PT X e t) (h : ∀ σ H Q, u σ H Q → t σ H Q) : PT X e u := ⟨fun pins s σ H Q I q => p.run pins s σ H Q I (h _ _ _ q)⟩
theorem PW.weak {X : Cx} {e : Expr} {t u : TT} (p : PW X e t) (h : ∀ σ H Q, u σ H Q → t σ H Q) : PW X e u := ⟨fun wh pins s σ H Q I q => p.run wh pins s σ H Q I (h _ _ _ q)⟩
theorem PS.weak {X : Cx} {e : Stmt} {t u : TS} (p : PS X e t) (h : ∀ D σ H, u D σ H → t D σ H) : PS X e u := ⟨fun pins s σ H Q I q => p.run pins s σ H Q I (h _ _ _ q)⟩
theorem PSs.weak {X : Cx} {e : List Stmt} {t u : TS} (p : PSs X e t) (h : ∀ D σ H, u D σ H → t D σ H) : PSs X e u := ⟨fun pins s σ H Q I q => p.run pins s σ H Q I (h _ _ _ q)⟩

/-! ### expressions -/
section
variable {X : Cx} {a b c : Expr} {pos : Pos} {da db dc : DE}
def dVar (i : Nat) : DE := fun e O k => match e[i]? with
  | some (some d) => k d O
  | _ => False
def dC (d : D) : DE := fun _ O k => k d O
theorem pd_v (i : Nat) {x : Str} {pos : Pos} (hN : X.N[i]? = some x := by rfl) (hv : Vis X.env.scope x := by first | exact Or.inl rfl | exact Or.inr (Or.inl rfl) | exact Or.inr (Or.inr rfl)) (hd : (x == ("__debug__" : Str)) = false := by decide)
    (hcd : (x == ("__classdict__" : Str)) = false := by decide) : PD X (.Name x pos) (dVar i) := by
  refine ⟨PE.weak (pe_var hN hv hd hcd) fun σ H Q h => ?_⟩
  obtain ⟨F, e, O, k, st, er, h, o⟩ := h
  unfold dVar at h
  split at h
  · rename_i d q
    obtain ⟨v, hv, r⟩ := er.get q
    exact ⟨v, hv, o d O F H v h st.go r⟩
  · exact h.elim
theorem pd_c {x : Expr} {v : V} {d : D} (h : PE X x (tC v)) (r : ∀ F, Rep X.K F v d) : PD X x (dC d) :=
  ⟨PE.weak h fun σ H Q ⟨F, e, O, k, st, er, h, o⟩ => o d O F H v h st.go (r F)⟩
theorem pd_int {i j pos} : PD X (.Constant (.int i) j pos) (dC (.int i)) := pd_c pe_int fun _ => .int i
theorem pd_bl {i j pos} : PD X (.Constant (.bool i) j pos) (dC (.bl i)) := pd_c pe_bl fun _ => .bl i
theorem pd_non {j pos} : PD X (.Constant .none j pos) (dC .non) := pd_c pe_non fun _ => .non
theorem pd_str {i j pos} : PD X (.Constant (.str i) j pos) (dC (.str i)) := pd_c pe_str fun _ => .str i

/-- by values, on trees -/
abbrev R2D := D → D → OH → (D → OH → Prop) → Prop
def OpD (K : PySem.W.Frag) (r : R2) (rd : R2D) : Prop := ∀ x y a b F O H k Q, Stt K F O H → Rep K F x a → Rep K F y b → rd a b O k → Outs K F O H k Q → r x y H Q
def dOp (rd : R2D) (da db : DE) : DE := fun e O k => da e O fun x O1 => db e O1 fun y O2 => rd x y O2 k
theorem up_op {r : R2} {rd : R2D} (hr : OpD X.K r rd) {σ : L2.St} {H : Hp} {Q : VK} (h : upE X.K (dOp rd da db) σ H Q) : tOp r (upE X.K da) (upE X.K db) σ H Q := by
  obtain ⟨F, e, O, k, st, er, h, o⟩ := h
  exact ⟨F, e, O, _, st, er, h, fun d O1 F1 H1 v h1 g1 r1 => ⟨F1, e, O1, _, g1.stt, er.mono g1.same, h1, fun d2 O2 F2 H2 v2 h2 g2 r2 => hr v v2 d d2 F2 O2 H2 k Q g2.stt (r1.mono g2.same) r2 h2 (o.after (g1.trans g2))⟩⟩
theorem pd_op {op : Operator} {r : R2} {rd : R2D} (ho : OpR X (binaryOp op) r) (hr : OpD X.K r rd) (ha : PD X a da) (hb : PD X b db) : PD X (.BinOp a op b pos) (dOp rd da db) :=
  ⟨PE.weak (pe_op ho ha.pe hb.pe) fun _ _ _ h => up_op hr h⟩
theorem pd_cmp {op : CmpOp} {r : R2} {rd : R2D} (ho : OpR X (compareOp op) r) (hr : OpD X.K r rd) (ha : PD X a da) (hb : PD X b db) (hm : behindInMarks op b = false := by first | exact nomark _ | rfl) : PD X (.Compare a [op] [b] pos) (dOp rd da db) :=
  ⟨PE.weak (pe_cmpR ho ha.pe hb.pe hm) fun _ _ _ h => up_op hr h⟩
theorem pd_ix {r : R2} {rd : R2D} (ho : IxR X r) (hr : OpD X.K r rd) (ha : PD X a da) (hb : PD X b db) (hs : PlainIx b := by exact fun _ _ => rfl) : PD X (.Subscript a b pos) (dOp rd da db) :=
  ⟨PE.weak (pe_ix ho ha.pe hb.pe hs) fun _ _ _ h => up_op hr h⟩
abbrev R1D := D → OH → (D → OH → Prop) → Prop
def UnD (K : PySem.W.Frag) (r : V → Hp → VK → Prop) (rd : R1D) : Prop := ∀ x a F O H k Q, Stt K F O H → Rep K F x a → rd a O k → Outs K F O H k Q → r x H Q
def dUn (rd : R1D) (da : DE) : DE := fun e O k => da e O fun x O1 => rd x O1 k
theorem up_un {r : V → Hp → VK → Prop} {rd : R1D} (hr : UnD X.K r rd) {σ : L2.St} {H : Hp} {Q : VK} (h : upE X.K (dUn rd da) σ H Q) : upE X.K da σ H fun x H1 => r x H1 Q := by
  obtain ⟨F, e, O, k, st, er, h, o⟩ := h
  exact ⟨F, e, O, _, st, er, h, fun d O1 F1 H1 v h1 g1 r1 => hr v d F1 O1 H1 k Q g1.stt r1 h1 (o.after g1)⟩
theorem pd_un {op : UnaryOp} {r : V → Hp → VK → Prop} {rd : R1D} (ho : UnR X (unaryOp op) r) (hr : UnD X.K r rd) (ha : PD X a da) : PD X (.UnaryOp op a pos) (dUn rd da) :=
  ⟨PE.weak (pe_un ho ha.pe) fun _ _ _ h => up_un hr h⟩

def dI (C : Int → Int → Prop) (g : Int → Int → D) : R2D := fun a b O k => match a, b with
  | .int i, .int j => C i j ∧ k (g i j) O
  | _, _ => False
def dI0 (g : Int → Int → D) : R2D := fun a b O k => match a, b with
  | .int i, .int j => k (g i j) O
  | _, _ => False
theorem od_I {K : PySem.W.Frag} {C : Int → Int → Prop} {g : Int → Int → V} {gd : Int → Int → D} (hg : ∀ F i j, Rep K F (g i j) (gd i j)) : OpD K (rI C g) (dI C gd) := by
  intro x y a b F O H k Q st ra rb h o
  unfold dI at h
  split at h
  · rename_i i j
    cases ra; cases rb
    exact ⟨i, j, rfl, rfl, h.1, o _ _ F H _ h.2 st.go (hg F i j)⟩
  · exact h.elim
theorem od_I0 {K : PySem.W.Frag} {g : Int → Int → V} {gd : Int → Int → D} (hg : ∀ F i j, Rep K F (g i j) (gd i j)) : OpD K (rI0 g) (dI0 gd) := by
  intro x y a b F O H k Q st ra rb h o
  unfold dI0 at h
  split at h
  · rename_i i j
    cases ra; cases rb
    exact ⟨i, j, rfl, rfl, o _ _ F H _ h st.go (hg F i j)⟩
  · exact h.elim
theorem od_i0 {K : PySem.W.Frag} {g : Int → Int → Int} : OpD K (rI0 fun i j => .int (g i j)) (dI0 fun i j => .int (g i j)) := od_I0 fun _ _ _ => .int _
theorem od_b0 {K : PySem.W.Frag} {g : Int → Int → Bool} : OpD K (rI0 fun i j => .bl (g i j)) (dI0 fun i j => .bl (g i j)) := od_I0 fun _ _ _ => .bl _
theorem od_i {K : PySem.W.Frag} {C : Int → Int → Prop} {g : Int → Int → Int} : OpD K (rI C fun i j => .int (g i j)) (dI C fun i j => .int (g i j)) := od_I fun _ _ _ => .int _
def dU (g : Int → D) : R1D := fun a O k => match a with
  | .int i => k (g i) O
  | _ => False
theorem ud_I {K : PySem.W.Frag} {g : Int → Int} : UnD K (rU fun i => .int (g i)) (dU fun i => .int (g i)) := by
  intro x a F O H k Q st ra h o
  unfold dU at h
  split at h
  · rename_i i
    cases ra
    exact ⟨i, rfl, o _ _ F H _ h st.go (.int _)⟩
  · exact h.elim
theorem pd_add (ha : PD X a da) (hb : PD X b db) : PD X (.BinOp a .Add b pos) (dOp (dI0 fun i j => .int (i + j)) da db) := pd_op op_add od_i0 ha hb
theorem pd_sub (ha : PD X a da) (hb : PD X b db) : PD X (.BinOp a .Sub b pos) (dOp (dI0 fun i j => .int (i - j)) da db) := pd_op op_sub od_i0 ha hb
theorem pd_mul (ha : PD X a da) (hb : PD X b db) : PD X (.BinOp a .Mult b pos) (dOp (dI CMul fun i j => .int (i * j)) da db) := pd_op op_mul od_i ha hb
theorem pd_mod (ha : PD X a da) (hb : PD X b db) : PD X (.BinOp a .Mod b pos) (dOp (dI (fun _ j => 0 < j) fun i j => .int (i % j)) da db) := pd_op op_mod od_i ha hb
theorem pd_fdiv (ha : PD X a da) (hb : PD X b db) : PD X (.BinOp a .FloorDiv b pos) (dOp (dI CDiv fun i j => .int (i / j)) da db) := pd_op op_fdiv od_i ha hb
theorem pd_pow (ha : PD X a da) (hb : PD X b db) : PD X (.BinOp a .Pow b pos) (dOp (dI CPow fun i j => .int (i ^ j.toNat)) da db) := pd_op op_pow od_i ha hb
theorem pd_neg (ha : PD X a da) : PD X (.UnaryOp .USub a pos) (dUn (dU fun i => .int (-i)) da) := pd_un un_neg ud_I ha
abbrev dLtE (da db : DE) : DE := dOp (dI0 fun i j => .bl (decide (i < j))) da db
theorem pd_lt (ha : PD X a da) (hb : PD X b db) : PD X (.Compare a [.Lt] [b] pos) (dOp (dI0 fun i j => .bl (decide (i < j))) da db) := pd_cmp op_lt od_b0 ha hb
theorem pd_le (ha : PD X a da) (hb : PD X b db) : PD X (.Compare a [.LtE] [b] pos) (dOp (dI0 fun i j => .bl (decide (i ≤ j))) da db) := pd_cmp op_le od_b0 ha hb
theorem pd_gt (ha : PD X a da) (hb : PD X b db) : PD X (.Compare a [.Gt] [b] pos) (dOp (dI0 fun i j => .bl (decide (j < i))) da db) := pd_cmp op_gt od_b0 ha hb
theorem pd_ge (ha : PD X a da) (hb : PD X b db) : PD X (.Compare a [.GtE] [b] pos) (dOp (dI0 fun i j => .bl (decide (j ≤ i))) da db) := pd_cmp op_ge od_b0 ha hb
omit [TabL] [XCx] in
theorem strEq_ex : ∃ f : Str → Str → Bool, ∀ a b, f a b = decide (a = b) := ⟨fun a b => decide (a = b), fun _ _ => rfl⟩
noncomputable def strEq : Str → Str → Bool := Classical.choose strEq_ex
omit [TabL] [XCx] in
theorem strEq_eq (a b : Str) : strEq a b = decide (a = b) := Classical.choose_spec strEq_ex a b
omit [TabL] [XCx] in
theorem strEq_self (a : Str) : strEq a a = true := by rw [strEq_eq]; exact decide_eq_true rfl
/-- == of what is not nested -/
noncomputable def eqS : D → D → Option Bool
  | .int i, .int j => some (decide (i = j))
  | .str i, .str j => some (strEq i j)
  | .bl i, .bl j => some (decide (i = j))
  | .non, .non => some true
  | .non, .int _ => some false
  | .int _, .non => some false
  | .non, .str _ => some false
  | .str _, .non => some false
  | _, _ => none
noncomputable def dEqS (f : Bool → Bool) : R2D := fun a b O k => match eqS a b with
  | some r => k (.bl (f r)) O
  | none => False
theorem eqS_scal {K : PySem.W.Frag} {F : Hp} {x y : V} {a b : D} {r : Bool} (ra : Rep K F x a) (rb : Rep K F y b) (h : eqS a b = some r) : scal x y = true ∧ decide (x = y) = r := by
  unfold eqS at h
  split at h <;> cases h <;> cases ra <;> cases rb <;> refine ⟨rfl, ?_⟩ <;> first | (rw [strEq_eq]; simp; done) | (simp; done)
theorem od_eq {K : PySem.W.Frag} : OpD K rEq (dEqS fun r => r) := by
  intro x y a b F O H k Q st ra rb h o
  unfold dEqS at h
  split at h
  · rename_i r e
    obtain ⟨h1, h2⟩ := eqS_scal ra rb e
    exact ⟨h1, o _ _ F H _ h st.go (by rw [h2]; exact .bl _)⟩
  · exact h.elim
theorem od_ne {K : PySem.W.Frag} : OpD K rNe (dEqS fun r => !r) := by
  intro x y a b F O H k Q st ra rb h o
  unfold dEqS at h
  split at h
  · rename_i r e
    obtain ⟨h1, h2⟩ := eqS_scal ra rb e
    exact ⟨h1, o _ _ F H _ h st.go (by rw [h2]; exact .bl _)⟩
  · exact h.elim
theorem pd_eq (ha : PD X a da) (hb : PD X b db) : PD X (.Compare a [.Eq] [b] pos) (dOp (dEqS fun r => r) da db) := pd_cmp op_eq od_eq ha hb
theorem pd_ne (ha : PD X a da) (hb : PD X b db) : PD X (.Compare a [.NotEq] [b] pos) (dOp (dEqS fun r => !r) da db) := pd_cmp op_ne od_ne ha hb
def isNon : D → Bool
  | .non => true
  | _ => false
theorem isNon_of {K : PySem.W.Frag} {F : Hp} {x : V} {a : D} (ra : Rep K F x a) : decide (x = .non) = isNon a := by
  cases ra <;> simp [isNon]
def dIsN (f : Bool → Bool) : R2D := fun a b O k => match b with
  | .non => k (.bl (f (isNon a))) O
  | _ => False
theorem od_isN {K : PySem.W.Frag} : OpD K (fun x y H Q => y = .non ∧ Q (.bl (decide (x = .non))) H) (dIsN fun r => r) := by
  intro x y a b F O H k Q st ra rb h o
  unfold dIsN at h
  split at h
  · cases rb
    exact ⟨rfl, o _ _ F H _ h st.go (by rw [isNon_of ra]; exact .bl _)⟩
  · exact h.elim
theorem od_notN {K : PySem.W.Frag} : OpD K (fun x y H Q => y = .non ∧ Q (.bl (!decide (x = .non))) H) (dIsN fun r => !r) := by
  intro x y a b F O H k Q st ra rb h o
  unfold dIsN at h
  split at h
  · cases rb
    exact ⟨rfl, o _ _ F H _ h st.go (by rw [isNon_of ra]; exact .bl _)⟩
  · exact h.elim
theorem pd_is (ha : PD X a da) (hb : PD X b db) : PD X (.Compare a [.Is] [b] pos) (dOp (dIsN fun r => r) da db) := pd_cmp op_isN od_isN ha hb
theorem pd_isnot (ha : PD X a da) (hb : PD X b db) : PD X (.Compare a [.IsNot] [b] pos) (dOp (dIsN fun r => !r) da db) := pd_cmp op_notN od_notN ha hb
end
end SC
namespace SC
open PySem PySem.Spec PyProof.Rows L2
variable [TabL] [XCx]
/-! ### tests, and, or, not -/
section
variable {X : Cx} {a b c : Expr} {pos : Pos} {da db dc : DE} {ta tb tc : DT} {rest : List Expr}
def dB (t : DE) : DT := fun e O k => t e O fun d O1 => match d with
  | .bl b => k b O1
  | _ => False
theorem up_tb {t : DE} {σ : L2.St} {H : Hp} {Q : Bool → Hp → Prop} (h : upT X.K (dB t) σ H Q) : upE X.K t σ H fun x H1 => ∃ c, x = .bl c ∧ Q c H1 := by
  obtain ⟨F, e, O, k, st, er, h, o⟩ := h
  refine ⟨F, e, O, _, st, er, h, fun d O1 F1 H1 v h1 g1 r1 => ?_⟩
  try dsimp only at h1
  split at h1
  · cases r1
    exact ⟨_, rfl, o _ O1 F1 H1 h1 g1⟩
  · exact h1.elim
/-- a test that is a value -/
theorem ptd_val (h : PD X a da) (he : ∀ whole, isTrue a X.env whole = (do let v ← whole; standAt a.pos; holding [v] (truthy v)) := by intro _; rfl) : PTD X a (dB da) :=
  ⟨PT.weak (pt_val h.pe he) fun _ _ _ h => up_tb h⟩
theorem ptd_cmp {op : CmpOp} {r : R2} {rd : R2D} (ho : OpR X (compareOp op) r) (hr : OpD X.K r rd) (ha : PD X a da) (hb : PD X b db) (hm : behindInMarks op b = false := by first | exact nomark _ | rfl) : PTD X (.Compare a [op] [b] pos) (dB (dOp rd da db)) :=
  ⟨PT.weak (pt_cmpR ho ha.pe hb.pe hm) fun σ H Q h => up_op hr (up_tb h)⟩
theorem ptd_lt (ha : PD X a da) (hb : PD X b db) : PTD X (.Compare a [.Lt] [b] pos) (dB (dOp (dI0 fun i j => .bl (decide (i < j))) da db)) := ptd_cmp op_lt od_b0 ha hb
theorem ptd_le (ha : PD X a da) (hb : PD X b db) : PTD X (.Compare a [.LtE] [b] pos) (dB (dOp (dI0 fun i j => .bl (decide (i ≤ j))) da db)) := ptd_cmp op_le od_b0 ha hb
theorem ptd_gt (ha : PD X a da) (hb : PD X b db) : PTD X (.Compare a [.Gt] [b] pos) (dB (dOp (dI0 fun i j => .bl (decide (j < i))) da db)) := ptd_cmp op_gt od_b0 ha hb
theorem ptd_ge (ha : PD X a da) (hb : PD X b db) : PTD X (.Compare a [.GtE] [b] pos) (dB (dOp (dI0 fun i j => .bl (decide (j ≤ i))) da db)) := ptd_cmp op_ge od_b0 ha hb
theorem ptd_eq (ha : PD X a da) (hb : PD X b db) : PTD X (.Compare a [.Eq] [b] pos) (dB (dOp (dEqS fun r => r) da db)) := ptd_cmp op_eq od_eq ha hb
theorem ptd_ne (ha : PD X a da) (hb : PD X b db) : PTD X (.Compare a [.NotEq] [b] pos) (dB (dOp (dEqS fun r => !r) da db)) := ptd_cmp op_ne od_ne ha hb
theorem ptd_is (ha : PD X a da) (hb : PD X b db) : PTD X (.Compare a [.Is] [b] pos) (dB (dOp (dIsN fun r => r) da db)) := ptd_cmp op_isN od_isN ha hb
theorem ptd_isnot (ha : PD X a da) (hb : PD X b db) : PTD X (.Compare a [.IsNot] [b] pos) (dB (dOp (dIsN fun r => !r) da db)) := ptd_cmp op_notN od_notN ha hb
def dAnd (t u : DT) : DT := fun e O k => t e O fun b O1 => match b with
  | true => u e O1 k
  | false => k false O1
def dOr (t u : DT) : DT := fun e O k => t e O fun b O1 => match b with
  | true => k true O1
  | false => u e O1 k
def dNot (t : DT) : DT := fun e O k => t e O fun b O1 => k (!b) O1
theorem up_and {σ : L2.St} {H : Hp} {Q : Bool → Hp → Prop} (h : upT X.K (dAnd ta tb) σ H Q) : tAnd (upT X.K ta) (upT X.K tb) σ H Q := by
  obtain ⟨F, e, O, k, st, er, h, o⟩ := h
  refine ⟨F, e, O, _, st, er, h, fun d O1 F1 H1 h1 g1 => ?_⟩
  cases d with
  | true => rw [if_pos rfl]; exact ⟨F1, e, O1, k, g1.stt, er.mono g1.same, h1, o.after g1⟩
  | false => rw [if_neg (by decide)]; exact o _ _ _ _ h1 g1
theorem up_or {σ : L2.St} {H : Hp} {Q : Bool → Hp → Prop} (h : upT X.K (dOr ta tb) σ H Q) : tOr (upT X.K ta) (upT X.K tb) σ H Q := by
  obtain ⟨F, e, O, k, st, er, h, o⟩ := h
  refine ⟨F, e, O, _, st, er, h, fun d O1 F1 H1 h1 g1 => ?_⟩
  cases d with
  | false => rw [if_neg (by decide)]; exact ⟨F1, e, O1, k, g1.stt, er.mono g1.same, h1, o.after g1⟩
  | true => rw [if_pos rfl]; exact o _ _ _ _ h1 g1
theorem pwd_and1 (ha : PTD X a ta) : PWD X (.BoolOp .And [a] pos) ta := ⟨pw_and1 ha.pt⟩
theorem pwd_or1 (ha : PTD X a ta) : PWD X (.BoolOp .Or [a] pos) ta := ⟨pw_or1 ha.pt⟩
theorem pwd_and (ha : PTD X a ta) (hb : PWD X (.BoolOp .And (b :: rest) pos) tb) : PWD X (.BoolOp .And (a :: b :: rest) pos) (dAnd ta tb) := ⟨PW.weak (pw_and ha.pt hb.pw) fun _ _ _ h => up_and h⟩
theorem pwd_or (ha : PTD X a ta) (hb : PWD X (.BoolOp .Or (b :: rest) pos) tb) : PWD X (.BoolOp .Or (a :: b :: rest) pos) (dOr ta tb) := ⟨PW.weak (pw_or ha.pt hb.pw) fun _ _ _ h => up_or h⟩
theorem ptd_w (h : PWD X a ta) : PTD X a ta := ⟨h.pw.pt⟩
theorem ptd_not (ha : PTD X a ta) : PTD X (.UnaryOp .Not a pos) (dNot ta) := by
  refine ⟨PT.weak (pt_not ha.pt) fun σ H Q h => ?_⟩
  obtain ⟨F, e, O, k, st, er, h, o⟩ := h
  exact ⟨F, e, O, _, st, er, h, fun d O1 F1 H1 h1 g1 => o _ _ _ _ h1 g1⟩
/-- and, or of flags, as values -/
def dAndV (t u : DE) : DE := fun e O k => t e O fun d O1 => match d with
  | .bl true => u e O1 k
  | .bl false => k (.bl false) O1
  | _ => False
def dOrV (t u : DE) : DE := fun e O k => t e O fun d O1 => match d with
  | .bl true => k (.bl true) O1
  | .bl false => u e O1 k
  | _ => False
theorem pd_one {op} (h : PD X a da) : PD X (.BoolOp op [a] pos) da := ⟨pe_one h.pe⟩
theorem pd_and (ha : PD X a da) (hb : PD X (.BoolOp .And (b :: rest) pos) db) : PD X (.BoolOp .And (a :: b :: rest) pos) (dAndV da db) := by
  refine ⟨PE.weak (pe_and ha.pe hb.pe) fun σ H Q h => ?_⟩
  obtain ⟨F, e, O, k, st, er, h, o⟩ := h
  refine ⟨F, e, O, _, st, er, h, fun d O1 F1 H1 v h1 g1 r1 => ?_⟩
  try dsimp only at h1
  split at h1
  · cases r1
    exact ⟨true, rfl, by rw [if_pos rfl]; exact ⟨F1, e, O1, k, g1.stt, er.mono g1.same, h1, o.after g1⟩⟩
  · cases r1
    exact ⟨false, rfl, by rw [if_neg (by decide)]; exact o _ _ _ _ _ h1 g1 (.bl _)⟩
  · exact h1.elim
theorem pd_or (ha : PD X a da) (hb : PD X (.BoolOp .Or (b :: rest) pos) db) : PD X (.BoolOp .Or (a :: b :: rest) pos) (dOrV da db) := by
  refine ⟨PE.weak (pe_or ha.pe hb.pe) fun σ H Q h => ?_⟩
  obtain ⟨F, e, O, k, st, er, h, o⟩ := h
  refine ⟨F, e, O, _, st, er, h, fun d O1 F1 H1 v h1 g1 r1 => ?_⟩
  try dsimp only at h1
  split at h1
  · cases r1
    exact ⟨true, rfl, by rw [if_pos rfl]; exact o _ _ _ _ _ h1 g1 (.bl _)⟩
  · cases r1
    exact ⟨false, rfl, by rw [if_neg (by decide)]; exact ⟨F1, e, O1, k, g1.stt, er.mono g1.same, h1, o.after g1⟩⟩
  · exact h1.elim
def dNotV (t : DE) : DE := fun e O k => t e O fun d O1 => match d with
  | .bl b => k (.bl (!b)) O1
  | _ => False
theorem pd_not (ha : PD X a da) : PD X (.UnaryOp .Not a pos) (dNotV da) := by
  refine ⟨PE.weak (pe_not ha.pe) fun σ H Q h => ?_⟩
  obtain ⟨F, e, O, k, st, er, h, o⟩ := h
  refine ⟨F, e, O, _, st, er, h, fun d O1 F1 H1 v h1 g1 r1 => ?_⟩
  try dsimp only at h1
  split at h1
  · cases r1
    exact ⟨_, rfl, o _ _ _ _ _ h1 g1 (.bl _)⟩
  · exact h1.elim
def dIfE (t : DT) (u v : DE) : DE := fun e O k => t e O fun b O1 => match b with
  | true => u e O1 k
  | false => v e O1 k
theorem pd_ifE (hc : PTD X c tc) (ha : PD X a da) (hb : PD X b db) : PD X (.IfExp c a b pos) (dIfE tc da db) := by
  refine ⟨PE.weak (pe_ifExp hc.pt ha.pe hb.pe) fun σ H Q h => ?_⟩
  obtain ⟨F, e, O, k, st, er, h, o⟩ := h
  refine ⟨F, e, O, _, st, er, h, fun d O1 F1 H1 h1 g1 => ?_⟩
  cases d with
  | true => rw [if_pos rfl]; exact ⟨F1, e, O1, k, g1.stt, er.mono g1.same, h1, o.after g1⟩
  | false => rw [if_neg (by decide)]; exact ⟨F1, e, O1, k, g1.stt, er.mono g1.same, h1, o.after g1⟩
/-- a op b op' c -/
def dChain (r r' : R2D) (ta tb tc : DE) : DE := fun e O k => ta e O fun x O1 => tb e O1 fun y O2 => r x y O2 fun z O3 => match z with
  | .bl true => tc e O3 fun w O4 => r' y w O4 k
  | .bl false => k (.bl false) O3
  | _ => False
theorem up_chain {r r' : R2} {rd rd' : R2D} (hr : OpD X.K r rd) (hr' : OpD X.K r' rd') {σ : L2.St} {H : Hp} {Q : VK} (h : upE X.K (dChain rd rd' da db dc) σ H Q) : tChain r r' (upE X.K da) (upE X.K db) (upE X.K dc) σ H Q := by
  obtain ⟨F, e, O, k, st, er, h, o⟩ := h
  refine ⟨F, e, O, _, st, er, h, fun d O1 F1 H1 v h1 g1 r1 => ⟨F1, e, O1, _, g1.stt, er.mono g1.same, h1, fun d2 O2 F2 H2 v2 h2 g2 r2 => hr v v2 d d2 F2 O2 H2 _ _ g2.stt (r1.mono g2.same) r2 h2 fun d3 O3 F3 H3 v3 h3 g3 r3 => ?_⟩⟩
  try dsimp only at h3
  split at h3
  · cases r3
    refine ⟨true, rfl, ?_⟩
    rw [if_pos rfl]
    exact ⟨F3, e, O3, _, g3.stt, er.mono (g1.same.trans (g2.same.trans g3.same)), h3, fun d4 O4 F4 H4 v4 h4 g4 r4 => hr' v2 v4 d2 d4 F4 O4 H4 k Q g4.stt (r2.mono (g3.same.trans g4.same)) r4 h4 (o.after (g1.trans (g2.trans (g3.trans g4))))⟩
  · cases r3
    refine ⟨false, rfl, ?_⟩
    rw [if_neg (by decide)]
    exact o _ _ _ _ _ h3 (g1.trans (g2.trans g3)) (.bl _)
  · exact h3.elim
theorem pd_chain {op op' : CmpOp} {r r' : R2} {rd rd' : R2D} (ho : OpR X (compareOp op) r) (ho' : OpR X (compareOp op') r') (hr : OpD X.K r rd) (hr' : OpD X.K r' rd') (ha : PD X a da) (hb : PD X b db) (hc : PD X c dc)
    (hm : lastMarks [op, op'] [b, c] = false := by with_unfolding_all rfl) : PD X (.Compare a [op, op'] [b, c] pos) (dChain rd rd' da db dc) :=
  ⟨PE.weak (pe_chain ho ho' ha.pe hb.pe hc.pe hm) fun _ _ _ h => up_chain hr hr' h⟩
theorem ptd_chain {op op' : CmpOp} {r r' : R2} {rd rd' : R2D} (ho : OpR X (compareOp op) r) (ho' : OpR X (compareOp op') r') (hr : OpD X.K r rd) (hr' : OpD X.K r' rd') (ha : PD X a da) (hb : PD X b db) (hc : PD X c dc)
    (hm : lastMarks [op, op'] [b, c] = false := by with_unfolding_all rfl) : PTD X (.Compare a [op, op'] [b, c] pos) (dB (dChain rd rd' da db dc)) :=
  ⟨PT.weak (pt_chain ho ho' ha.pe hb.pe hc.pe hm) fun _ _ _ h => up_chain hr hr' (up_tb h)⟩
theorem pd_lele (ha : PD X a da) (hb : PD X b db) (hc : PD X c dc) (hm : lastMarks [.LtE, .LtE] [b, c] = false := by with_unfolding_all rfl) : PD X (.Compare a [.LtE, .LtE] [b, c] pos) (dChain (dI0 fun i j => .bl (decide (i ≤ j))) (dI0 fun i j => .bl (decide (i ≤ j))) da db dc) := pd_chain op_le op_le od_b0 od_b0 ha hb hc hm
end

/-! ### arguments, displays -/
section
variable {X : Cx} {a b : Expr} {es : List Expr} {pos : Pos} {da db : DE} {ds : DA}
def dNil : DA := fun _ O k => k [] O
def dCons (t : DE) (u : DA) : DA := fun e O k => t e O fun x O1 => u e O1 fun xs O2 => k (x :: xs) O2
theorem pad_nil : PAD X [] dNil := by
  refine ⟨PA.weak pa_nil fun σ H Q h => ?_⟩
  obtain ⟨F, e, O, k, st, er, h, o⟩ := h
  exact o _ _ _ _ _ h st.go .nil
theorem pad_cons (ha : PD X a da) (hr : PAD X es ds) (hs : starEach (a :: es) X.env = (false, eval a X.env) :: starEach es X.env := by rfl) : PAD X (a :: es) (dCons da ds) := by
  refine ⟨PA.weak (pa_cons ha.pe hr.pa hs) fun σ H Q h => ?_⟩
  obtain ⟨F, e, O, k, st, er, h, o⟩ := h
  exact ⟨F, e, O, _, st, er, h, fun d O1 F1 H1 v h1 g1 r1 => ⟨F1, e, O1, _, g1.stt, er.mono g1.same, h1, fun d2 O2 F2 H2 v2 h2 g2 r2 => o _ _ _ _ _ h2 (g1.trans g2) (.cons (r1.mono g2.same) r2)⟩⟩
def dTup (t : DA) : DE := fun e O k => t e O fun xs O1 => xs.length ≤ sizeLine ∧ k (.tup xs) O1
def dLst (t : DA) : DE := fun e O k => t e O fun xs O1 => xs.length ≤ sizeLine ∧ k (.lst xs) O1
def dLstO (t : DA) : DE := fun e O k => t e O fun xs O1 => xs.length ≤ sizeLine ∧ ∀ p, O1 p = none → k (.own p) (oset O1 p xs)
theorem pd_tup {x1} (h : PAD X es ds) : PD X (.Tuple es x1 pos) (dTup ds) := by
  refine ⟨PE.weak (pe_tup h.pa) fun σ H Q h => ?_⟩
  obtain ⟨F, e, O, k, st, er, h, o⟩ := h
  exact ⟨F, e, O, _, st, er, h, fun d O1 F1 H1 v h1 g1 r1 => ⟨by rw [r1.length]; exact h1.1, fun p n =>
    o _ _ _ _ _ h1.2 (g1.trans (g1.stt.made n)) (.tup (.of upd_same) (r1.mono (same_upd (free_F g1.stt n))))⟩⟩
theorem pd_lst (h : PAD X es ds) : PD X (.List es pos) (dLst ds) := by
  refine ⟨PE.weak (pe_lst h.pa) fun σ H Q h => ?_⟩
  obtain ⟨F, e, O, k, st, er, h, o⟩ := h
  exact ⟨F, e, O, _, st, er, h, fun d O1 F1 H1 v h1 g1 r1 => ⟨by rw [r1.length]; exact h1.1, fun p n =>
    o _ _ _ _ _ h1.2 (g1.trans (g1.stt.made n)) (.lst upd_same (r1.mono (same_upd (free_F g1.stt n))))⟩⟩
theorem pd_lstO (h : PAD X es ds) : PD X (.List es pos) (dLstO ds) := by
  refine ⟨PE.weak (pe_lst h.pa) fun σ H Q h => ?_⟩
  obtain ⟨F, e, O, k, st, er, h, o⟩ := h
  exact ⟨F, e, O, _, st, er, h, fun d O1 F1 H1 v h1 g1 r1 => ⟨by rw [r1.length]; exact h1.1, fun p n =>
    o _ _ _ _ _ (h1.2 p (free_O g1.stt n)) (g1.trans (g1.stt.fresh n r1)) (.own p)⟩⟩
end

/-! ### calls of own defs -/
section
variable {X : Cx} {CX : CXT} {k : Nat} {f : Addr} {fd : FuncData} {ps : List Str} {sp : DSp} {x : Str} {p pos : Pos} {a : Expr} {es : List Expr} {da : DE} {t : DA}
def dCall (sp : DSp) (t : DA) : DE := fun e O k => t e O fun xs O1 => sp xs O1 k
theorem pd_call (Fn : FnOk X.prog X.w X.K X.mg X.base CX0 k f fd ps (upSp X.K sp)) (hr : Room k X.A) (hg : Gl X x) (hm : X.mg x = some (.ref f)) (hk : PySem.W.keepIn X.K (.ref f) = true) (hb : Binds X.K fd ps [])
    (ha : PAD X (a :: es) t) (h : PE X (.Call (.Name x p) (a :: es) [] pos) (tCall (upSp X.K sp) [] E0 (upA X.K t))) : PD X (.Call (.Name x p) (a :: es) [] pos) (dCall sp t) := by
  refine ⟨PE.weak h fun σ H Q h => ?_⟩
  obtain ⟨F, e, O, k, st, er, h, o⟩ := h
  exact ⟨F, e, O, _, st, er, h, fun ds O1 F1 H1 vs h1 g1 r1 => by show upSp _ sp (vs ++ []) H1 Q E0; rw [List.append_nil]; exact ⟨F1, ds, O1, k, g1.stt, r1, h1, o.after g1⟩⟩
end
/-- a call with its premises, where the context is known -/
theorem up_call {K : PySem.W.Frag} {sp : DSp} {t : DA} {σ : L2.St} {H : Hp} {Q : VK} (h : upE K (dCall sp t) σ H Q) : tCall (upSp K sp) [] E0 (upA K t) σ H Q := by
  obtain ⟨F, e, O, k, st, er, h, o⟩ := h
  exact ⟨F, e, O, _, st, er, h, fun ds O1 F1 H1 vs h1 g1 r1 => by show upSp _ sp (vs ++ []) H1 Q E0; rw [List.append_nil]; exact ⟨F1, ds, O1, k, g1.stt, r1, h1, o.after g1⟩⟩
theorem up_call0 {K : PySem.W.Frag} {sp : DSp} {σ : L2.St} {H : Hp} {Q : VK} (h : upE K (dCall sp dNil) σ H Q) : tCall (upSp K sp) [] E0 tNil σ H Q := by
  obtain ⟨F, e, O, k, st, er, h, o⟩ := h
  exact ⟨F, [], O, k, st, .nil, h, o⟩

/-! ### calls of built-ins by values -/
abbrev RCD := List D → OH → (D → OH → Prop) → Prop
def CallD (K : PySem.W.Frag) (r : List V → Hp → VK → Prop) (rd : RCD) : Prop := ∀ xs ds F O H k Q, Stt K F O H → Reps K F xs ds → rd ds O k → Outs K F O H k Q → r xs H Q
def dCB (rd : RCD) (t : DA) : DE := fun e O k => t e O fun xs O1 => rd xs O1 k
theorem up_cb {K : PySem.W.Frag} {r : List V → Hp → VK → Prop} {rd : RCD} {t : DA} (hr : CallD K r rd) {σ : L2.St} {H : Hp} {Q : VK} (h : upE K (dCB rd t) σ H Q) : tCB r (upA K t) σ H Q := by
  obtain ⟨F, e, O, k, st, er, h, o⟩ := h
  exact ⟨F, e, O, _, st, er, h, fun ds O1 F1 H1 vs h1 g1 r1 => hr vs ds F1 O1 H1 k Q g1.stt r1 h1 (o.after g1)⟩
def rLenD : RCD := fun ds O k => match ds with
  | [.tup xs] => k (.int xs.length) O
  | [.lst xs] => k (.int xs.length) O
  | [.fz xs] => k (.int xs.length) O
  | [.own p] => match O p with
    | some xs => k (.int xs.length) O
    | none => False
  | _ => False
theorem cd_len {K : PySem.W.Frag} : CallD K (fun xs H Q => ∃ p ys, xs = [.ref p] ∧ (SqL K H p ys ∨ SqT K H p ys) ∧ Q (.int ys.length) H) rLenD := by
  intro xs ds F O H k Q st r h o
  unfold rLenD at h
  split at h
  · cases r with
    | cons r1 r2 =>
      cases r2
      cases r1 with
      | tup q rr => exact ⟨_, _, rfl, .inr (Same.seqT st.same q), by rw [rr.length]; exact o _ _ _ _ _ h st.go (.int _)⟩
  · cases r with
    | cons r1 r2 =>
      cases r2
      cases r1 with
      | lst q rr => exact ⟨_, _, rfl, .inl (.of (st.same _ _ q)), by rw [rr.length]; exact o _ _ _ _ _ h st.go (.int _)⟩
  · cases r with
    | cons r1 r2 =>
      cases r2
      cases r1 with
      | fz q rr => exact ⟨_, _, rfl, .inl (st.same.seq q), by rw [rr.length]; exact o _ _ _ _ _ h st.go (.int _)⟩
  · cases r with
    | cons r1 r2 =>
      cases r2
      cases r1
      split at h
      · rename_i e
        obtain ⟨xs, q, rr⟩ := st.rel e
        exact ⟨_, _, rfl, .inl (.of q), by rw [rr.length]; exact o _ _ _ _ _ h st.go (.int _)⟩
      · exact h.elim
  · exact h.elim
def boolsD : List D → Option (List Bool)
  | [] => some []
  | .bl b :: r => (boolsD r).map (b :: ·)
  | _ :: _ => none
theorem boolsD_map : ∀ l : List Bool, boolsD (l.map D.bl) = some l
  | [] => rfl
  | b :: r => by show (boolsD (r.map D.bl)).map (b :: ·) = _; rw [boolsD_map r]; rfl
theorem boolsD_rep {K : PySem.W.Frag} {F : Hp} : ∀ {ds : List D} {vs : List V} {l : List Bool}, boolsD ds = some l → Reps K F vs ds → vs = l.map V.bl
  | [], _, _, h, .nil => by cases h; rfl
  | .bl b :: r, _, l, h, .cons q rr => by
    simp only [boolsD] at h
    cases e : boolsD r with
    | none => rw [e] at h; cases h
    | some l' =>
      rw [e] at h; cases h
      cases q
      rw [boolsD_rep e rr]; rfl
def rBools (f : List Bool → Bool) : RCD := fun ds O k => match ds with
  | [.lst xs] => match boolsD xs with
    | some l => k (.bl (f l)) O
    | none => False
  | _ => False
theorem cd_bools {K : PySem.W.Frag} {f : List Bool → Bool} : CallD K (fun vs H Q => ∃ (a : Addr) (bs : List Bool), vs = [V.ref a] ∧ SqL K H a (bs.map V.bl) ∧ Q (.bl (f bs)) H) (rBools f) := by
  intro xs ds F O H k Q st r h o
  unfold rBools at h
  split at h
  · cases r with
    | cons r1 r2 =>
      cases r2
      split at h
      · rename_i e
        cases r1 with
        | lst q rr =>
          have z := boolsD_rep e rr
          subst z
          exact ⟨_, _, rfl, .of (st.same _ _ q), o _ _ _ _ _ h st.go (.bl _)⟩
      · exact h.elim
  · exact h.elim
def rAbsD : RCD := fun ds O k => match ds with
  | [.int i] => k (.int (if i < 0 then -i else i)) O
  | _ => False
theorem cd_abs {K : PySem.W.Frag} : CallD K (fun xs H Q => ∃ i, xs = [.int i] ∧ Q (.int (if i < 0 then -i else i)) H) rAbsD := by
  intro xs ds F O H k Q st r h o
  unfold rAbsD at h
  split at h
  · cases r with
    | cons r1 r2 => cases r2; cases r1; exact ⟨_, rfl, o _ _ _ _ _ h st.go (.int _)⟩
  · exact h.elim
def rTwo (g : Int → Int → Int) : RCD := fun ds O k => match ds with
  | [.int i, .int j] => k (.int (g i j)) O
  | _ => False
theorem cd_two {K : PySem.W.Frag} {g : Int → Int → Int} : CallD K (fun xs H Q => ∃ i j, xs = [.int i, .int j] ∧ Q (.int (g i j)) H) (rTwo g) := by
  intro xs ds F O H k Q st r h o
  unfold rTwo at h
  split at h
  · cases r with
    | cons r1 r2 => cases r2 with
      | cons r3 r4 => cases r4; cases r1; cases r3; exact ⟨_, _, rfl, o _ _ _ _ _ h st.go (.int _)⟩
  · exact h.elim
def rIntD : RCD := fun ds O k => match ds with
  | [.int i] => k (.int i) O
  | [.bl b] => k (.int (if b then 1 else 0)) O
  | _ => False
theorem cd_int {K : PySem.W.Frag} : CallD K (fun xs H Q => (∃ i, xs = [.int i] ∧ Q (.int i) H) ∨ ∃ k, xs = [.bl k] ∧ Q (.int (if k then 1 else 0)) H) rIntD := by
  intro xs ds F O H k Q st r h o
  unfold rIntD at h
  split at h
  · cases r with
    | cons r1 r2 => cases r2; cases r1; exact .inl ⟨_, rfl, o _ _ _ _ _ h st.go (.int _)⟩
  · cases r with
    | cons r1 r2 => cases r2; cases r1; exact .inr ⟨_, rfl, o _ _ _ _ _ h st.go (.int _)⟩
  · exact h.elim
/-- isinstance of a built-in class -/
def tyD : D → Option String
  | .non => some "NoneType" | .bl _ => some "bool" | .int _ => some "int" | .str _ => some "str" | .tup _ => some "tuple" | .lst _ => some "list" | .dct => some "dict"
  | _ => none
def isTy (t n : String) : Bool := t == n || (t == "bool" && n == "int")
def rIsiD : RCD := fun ds O k => match ds with
  | [x, .ty n] => (n = "int" ∨ n = "bool" ∨ n = "str" ∨ n = "tuple" ∨ n = "list" ∨ n = "dict") ∧ match tyD x with
    | some t => k (.bl (isTy t n)) O
    | none => False
  | _ => False
theorem tyD_ty {K : PySem.W.Frag} {F O H} {x : V} {d : D} {t : String} (st : Stt K F O H) (r : Rep K F x d) (h : tyD d = some t) : TyX K H x (.type t) := by
  cases r with
  | non => cases h; exact .base .non
  | bl b => cases h; exact .base (.bl b)
  | int i => cases h; exact .base (.int i)
  | str x => cases h; exact .base (.str x)
  | ty n => cases h
  | own a => cases h
  | tup q _ =>
    cases h
    rcases q with (q | ⟨o, q⟩) | ⟨o, its, n, k, c, _⟩
    · exact .base (.tup (st.same _ _ q))
    · exact .fTuple (st.same _ _ q)
    · exact .kTuple k c
  | lst q _ =>
    cases h
    exact .base (.lst (st.same _ _ q))
  | fz q _ => cases h
  | dct q =>
    cases h
    exact .base (.dK (st.same _ _ q))
  | obj q _ => cases h
theorem kit_isTy : ∀ t ∈ ["NoneType", "bool", "int", "str", "tuple", "list", "dict"], ∀ n ∈ ["int", "bool", "str", "tuple", "list", "dict"], kitB t n = some (isTy t n) := by decide +kernel
theorem tyD_mem {d : D} {t : String} (h : tyD d = some t) : t ∈ ["NoneType", "bool", "int", "str", "tuple", "list", "dict"] := by
  cases d <;> cases h <;> simp
theorem cd_isi {K : PySem.W.Frag} : CallD K (rIsi K) rIsiD := by
  intro xs ds F O H k Q st r h o
  unfold rIsiD at h
  split at h
  · obtain ⟨hn, h⟩ := h
    cases r with
    | cons r1 r2 => cases r2 with
      | cons r3 r4 =>
        cases r4; cases r3
        split at h
        · rename_i t e
          exact ⟨_, _, _, _, _, rfl, .ty _, tyD_ty st r1 e, kit_ty (kit_isTy _ (tyD_mem e) _ (by simpa using hn)), o _ _ _ _ _ h st.go (.bl _)⟩
        · exact h.elim
  · exact h.elim
/-- tuple(x) -/
def rTupD : R1D := fun d O k => match d with
  | .lst xs => k (.tup xs) O
  | .tup xs => k (.tup xs) O
  | .own p => match O p with
    | some xs => k (.tup xs) O
    | none => False
  | _ => False
theorem ud_tup {K : PySem.W.Frag} : UnD K (kTup K) rTupD := by
  intro x a F O H k Q st r h o
  unfold rTupD at h
  split at h
  · cases r with
    | lst q rr => exact .inl ⟨_, _, rfl, .of (st.same _ _ q), fun p n => o _ _ _ _ _ h (st.made n) (.tup (.of upd_same) (rr.mono (same_upd (free_F st n))))⟩
  · cases r with
    | tup q rr => exact .inr ⟨_, _, rfl, Same.seqT st.same q, o _ _ _ _ _ h st.go (.tup q rr)⟩
  · cases r
    split at h
    · rename_i e
      obtain ⟨xs, q, rr⟩ := st.rel e
      exact .inl ⟨_, _, rfl, .of q, fun p n => o _ _ _ _ _ h (st.made n) (.tup (.of upd_same) (rr.mono (same_upd (free_F st n))))⟩
    · exact h.elim
  · exact h.elim
section
variable {X : Cx} {a b : Expr} {es : List Expr} {x : Str} {p pos : Pos} {da : DE} {t : DA}
theorem pd_tuple (hg : Gl X "tuple") (hm : X.mg "tuple" = none) (ha : PD X a da) (na : starEach [a] X.env = (false, eval a X.env) :: starEach [] X.env := by rfl) : PD X (.Call (.Name "tuple" p) [a] [] pos) (dUn rTupD da) :=
  ⟨PE.weak (pe_tupleOf hg hm ha.pe na) fun σ H Q h => up_un ud_tup h⟩
theorem pd_tyc {n : String} (hg : Gl X x) (hm : X.mg x = none) (hv : bootBuiltins x = some (.type n)) (hn : x ≠ "__name__" := by decide) (hd : (x == ("__debug__" : Str)) = false := by decide) : PD X (.Name x p) (dC (.ty n)) :=
  pd_c (v := .ty n) (pe_bltn hg hm hv (show RelV (.ty n) (.type n) from rfl) hn hd) fun _ => .ty n
end

/-! ### subscripts, slices -/
def rIxD : R2D := fun a b O k => match a, b with
  | .tup xs, .int i => match atI xs i with
    | some d => k d O
    | none => False
  | .lst xs, .int i => match atI xs i with
    | some d => k d O
    | none => False
  | .fz xs, .int i => match atI xs i with
    | some d => k d O
    | none => False
  | .own p, .int i => match O p with
    | some xs => match atI xs i with
      | some d => k d O
      | none => False
    | none => False
  | _, _ => False
theorem od_ix {K : PySem.W.Frag} : OpD K (rIx K) rIxD := by
  intro x y a b F O H k Q st ra rb h o
  unfold rIxD at h
  split at h
  · split at h
    · rename_i e
      cases rb
      cases ra with
      | tup q rr =>
        obtain ⟨v, e', r⟩ := rr.atI e
        exact .inr (.inl ⟨_, _, _, v, rfl, rfl, Same.seqT st.same q, e', o _ _ _ _ _ h st.go r⟩)
    · exact h.elim
  · split at h
    · rename_i e
      cases rb
      cases ra with
      | lst q rr =>
        obtain ⟨v, e', r⟩ := rr.atI e
        exact .inl ⟨_, _, _, v, rfl, rfl, .of (st.same _ _ q), e', o _ _ _ _ _ h st.go r⟩
    · exact h.elim
  · split at h
    · rename_i e
      cases rb
      cases ra with
      | fz q rr =>
        obtain ⟨v, e', r⟩ := rr.atI e
        exact .inl ⟨_, _, _, v, rfl, rfl, st.same.seq q, e', o _ _ _ _ _ h st.go r⟩
    · exact h.elim
  · split at h
    · rename_i e0
      split at h
      · rename_i e
        cases rb
        cases ra
        obtain ⟨xs, q, rr⟩ := st.rel e0
        obtain ⟨v, e', r⟩ := rr.atI e
        exact .inl ⟨_, _, _, v, rfl, rfl, .of q, e', o _ _ _ _ _ h st.go r⟩
      · exact h.elim
    · exact h.elim
  · exact h.elim
abbrev DO := DV → OH → (Option Int → OH → Prop) → Prop
def upO (K : PySem.W.Frag) (t : DO) : TO := fun σ H Q => ∃ F e O k, Stt K F O H ∧ ERep K F σ e ∧ t e O k ∧ ∀ i O' F' H', k i O' → Go K F O H F' O' H' → Q i H'
structure POD (X : Cx) (e : Option Expr) (t : DO) : Prop where
  po : PO X e (upO X.K t)
def dPart0 : DO := fun _ O k => k none O
def dPart (t : DE) : DO := fun e O k => t e O fun d O1 => match d with
  | .int i => k (some i) O1
  | _ => False
section
variable {X : Cx} {a : Expr} {da : DE} {lo hi : Option Expr} {dl dh : DO} {pos p2 : Pos}
theorem pod_none : POD X none dPart0 := ⟨⟨fun pins s σ H Q I ⟨F, e, O, k, st, er, h, o⟩ => po_none.run pins s σ H Q I (o _ _ _ _ h st.go)⟩⟩
theorem pod_some (h : PD X a da) : POD X (some a) (dPart da) := by
  refine ⟨⟨fun pins s σ H Q I h' => (po_some h.pe).run pins s σ H Q I ?_⟩⟩
  obtain ⟨F, e, O, k, st, er, h, o⟩ := h'
  refine ⟨F, e, O, _, st, er, h, fun d O1 F1 H1 v h1 g1 r1 => ?_⟩
  try dsimp only at h1
  split at h1
  · cases r1
    exact ⟨_, rfl, o _ _ _ _ h1 g1⟩
  · exact h1.elim
def dSl (ta : DE) (tl th : DO) : DE := fun e O k => ta e O fun x O1 => tl e O1 fun l O2 => th e O2 fun u O3 => match x with
  | .tup xs => k (.tup (cutA xs l u)) O3
  | .lst xs => k (.lst (cutA xs l u)) O3
  | .fz xs => k (.lst (cutA xs l u)) O3
  | .own p => match O3 p with
    | some xs => k (.lst (cutA xs l u)) O3
    | none => False
  | _ => False
theorem cutV_all {xs : List V} {l u : Option Int} (h : HT.sIx xs.length 0 l = 0 ∧ HT.sIx xs.length xs.length u = xs.length) : cutV xs l u = xs := by
  unfold cutV
  rw [h.1, h.2, List.drop_zero, Nat.sub_zero, List.take_length]
theorem pd_slice (ha : PD X a da) (hl : POD X lo dl) (hh : POD X hi dh) : PD X (.Subscript a (.Slice lo hi none p2) pos) (dSl da dl dh) := by
  refine ⟨PE.weak (pe_slice (SlR.or sl_list sl_tupA) ha.pe hl.po hh.po) fun σ H Q h => ?_⟩
  obtain ⟨F, e, O, k, st, er, h, o⟩ := h
  refine ⟨F, e, O, _, st, er, h, fun d O1 F1 H1 v h1 g1 r1 => ⟨F1, e, O1, _, g1.stt, er.mono g1.same, h1, fun l O2 F2 H2 h2 g2 => ⟨F2, e, O2, _, g2.stt, er.mono (g1.same.trans g2.same), h2, fun u O3 F3 H3 h3 g3 => ?_⟩⟩⟩
  have g := g1.trans (g2.trans g3)
  have r3 := r1.mono (g2.same.trans g3.same)
  try dsimp only at h3
  split at h3
  · cases r3 with
    | @tup a xs ds q rr =>
      refine .inr ⟨_, _, rfl, Same.seqT g.stt.same q, fun w => ?_, fun w p n => ?_⟩
      · exact o _ _ _ _ _ h3 g (.tup q (by rw [← cutV_all w]; exact rr.cut l u))
      · exact o _ _ _ _ _ h3 (g.trans (g.stt.made n)) (.tup (.of upd_same) ((rr.cut l u).mono (same_upd (free_F g.stt n))))
  · cases r3 with
    | lst q rr => exact .inl ⟨_, _, rfl, .of (g.stt.same _ _ q), fun p n => o _ _ _ _ _ h3 (g.trans (g.stt.made n)) (.lst upd_same ((rr.cut l u).mono (same_upd (free_F g.stt n))))⟩
  · cases r3 with
    | fz q rr => exact .inl ⟨_, _, rfl, g.stt.same.seq q, fun p n => o _ _ _ _ _ h3 (g.trans (g.stt.made n)) (.lst upd_same ((rr.cut l u).mono (same_upd (free_F g.stt n))))⟩
  · cases r3
    split at h3
    · rename_i e0
      obtain ⟨xs, q, rr⟩ := g.stt.rel e0
      exact .inl ⟨_, _, rfl, .of q, fun p n => o _ _ _ _ _ h3 (g.trans (g.stt.made n)) (.lst upd_same ((rr.cut l u).mono (same_upd (free_F g.stt n))))⟩
    · exact h3.elim
  · exact h3.elim
/-- a list of one's own is changed no more from here on -/
def frzD (d : D) (O : OH) (k : D → OH → Prop) : Prop := match d with
  | .own p => match O p with
    | some xs => k (.lst xs) (odel O p)
    | none => False
  | d => k d O
def dFrz (t : DE) : DE := fun e O k => t e O fun d O1 => frzD d O1 k
theorem pd_frz (ha : PD X a da) : PD X a (dFrz da) := by
  refine ⟨PE.weak ha.pe fun σ H Q h => ?_⟩
  obtain ⟨F, e, O, k, st, er, h, o⟩ := h
  refine ⟨F, e, O, _, st, er, h, fun d O1 F1 H1 v h1 g1 r1 => ?_⟩
  try dsimp only at h1
  unfold frzD at h1
  split at h1
  · cases r1
    split at h1
    · rename_i e0
      obtain ⟨xs, q, rr⟩ := g1.stt.rel e0
      have z := g1.stt.freeze e0 q
      exact o _ _ _ _ _ h1 (g1.trans z) (.lst upd_same (rr.mono z.same))
    · exact h1.elim
  · exact o _ _ _ _ _ h1 g1 r1
end
end SC
namespace SC
open PySem PySem.Spec PyProof.Rows L2
variable [TabL] [XCx]
/-! ### calls with their premises -/
section
variable {X : Cx} {CX : CXT} {k : Nat} {f : Addr} {fd : FuncData} {ps : List Str} {sp : DSp} {x : Str} {p pos : Pos} {a : Expr} {es : List Expr} {t : DA} {id T : String} {r : List V → Hp → VK → Prop} {rd : RCD}
theorem pd_callF (Fn : FnOk X.prog X.w X.K X.mg X.base CX0 k f fd ps (upSp X.K sp)) (hr : Room k X.A) (hg : Gl X x) (hm : X.mg x = some (.ref f)) (hk : PySem.W.keepIn X.K (.ref f) = true) (hb : Binds X.K fd ps [])
    (ha : PAD X (a :: es) t) (hdb : (x == ("__debug__" : Str)) = false := by decide) (he : starEach (a :: es) X.env = (false, eval a X.env) :: starEach es X.env := by rfl) (hpl : (backTo pos (starEach es X.env)).any (·.1) = false := by rfl) :
    PD X (.Call (.Name x p) (a :: es) [] pos) (dCall sp t) := ⟨PE.weak (pe_call Fn hr hg hm hk hb .nil pass0 ha.pa hdb he hpl) fun _ _ _ h => up_call h⟩
theorem pd_callF0 (Fn : FnOk X.prog X.w X.K X.mg X.base CX0 k f fd ps (upSp X.K sp)) (hr : Room k X.A) (hg : Gl X x) (hm : X.mg x = some (.ref f)) (hk : PySem.W.keepIn X.K (.ref f) = true) (hb : Binds X.K fd ps [])
    (hdb : (x == ("__debug__" : Str)) = false := by decide) : PD X (.Call (.Name x p) [] [] pos) (dCall sp dNil) := by
  refine ⟨PE.weak (pe_call0 Fn hr hg hm hk hb .nil pass0 hdb) fun σ H Q h => ?_⟩
  obtain ⟨F, e, O, k, st, er, h, o⟩ := h
  exact ⟨F, [], O, k, st, .nil, h, o⟩
theorem pd_callB (hc : CallR X (.builtin id) r) (hr : CallD X.K r rd) (hg : Gl X x) (hm : X.mg x = none) (hv : bootBuiltins x = some (.builtin id)) (ha : PAD X (a :: es) t) (hn : x ≠ "__name__" := by decide) (hdb : (x == ("__debug__" : Str)) = false := by decide)
    (he : starEach (a :: es) X.env = (false, eval a X.env) :: starEach es X.env := by rfl) (hpl : (backTo pos (starEach es X.env)).any (·.1) = false := by rfl) : PD X (.Call (.Name x p) (a :: es) [] pos) (dCB rd t) :=
  ⟨PE.weak (pe_callB hc hg hm hv ha.pa hn hdb he hpl) fun _ _ _ h => up_cb hr h⟩
theorem pd_callTy (hc : CallR X (.type T) r) (hr : CallD X.K r rd) (hg : Gl X x) (hm : X.mg x = none) (hv : bootBuiltins x = some (.type T)) (ha : PAD X (a :: es) t) (hn : x ≠ "__name__" := by decide) (hdb : (x == ("__debug__" : Str)) = false := by decide)
    (he : starEach (a :: es) X.env = (false, eval a X.env) :: starEach es X.env := by rfl) (hpl : (backTo pos (starEach es X.env)).any (·.1) = false := by rfl) : PD X (.Call (.Name x p) (a :: es) [] pos) (dCB rd t) :=
  ⟨PE.weak (pe_callTy hc hg hm hv ha.pa hn hdb he hpl) fun _ _ _ h => up_cb hr h⟩
end

/-! ### targets -/
theorem wipe_get : ∀ (ws : List Nat) (σ : L2.St) (j : Nat), (wipe σ ws)[j]? = if j ∈ ws then σ[j]?.map (fun _ => none) else σ[j]?
  | [], σ, j => by simp [wipe]
  | v :: vs, σ, j => by
    unfold wipe
    rw [List.getElem?_set, wipe_length]
    by_cases e : v = j
    · subst e
      by_cases l : v < σ.length
      · simp [l]
      · simp [l]
    · rw [if_neg e, wipe_get vs σ j]
      by_cases m : j ∈ vs
      · simp [m]
      · have : j ≠ v := fun z => e z.symm
        simp [m, this]
theorem wipe_set {σ : L2.St} {i : Nat} {x : Option V} {ws : List Nat} (h : i ∈ ws) : wipe (σ.set i x) ws = wipe σ ws := by
  apply List.ext_getElem?
  intro j
  rw [wipe_get, wipe_get, List.getElem?_set]
  by_cases e : i = j
  · subst e
    rw [if_pos h, if_pos h]
    by_cases l : i < σ.length
    · simp [l]
    · simp [l]
  · rw [if_neg e]
abbrev DG := D → DV → OH → (DV → Prop) → Prop
abbrev DGs := List D → DV → OH → (DV → Prop) → Prop
def GOut (K : PySem.W.Frag) (F : Hp) (is : List Nat) (σ : L2.St) (k : DV → Prop) (H : Hp) (Q : L2.St → Hp → Prop) : Prop := ∀ e' σ', k e' → ERep K F σ' e' → (∀ ws, (∀ i ∈ is, i ∈ ws) → wipe σ' ws = wipe σ ws) → Q σ' H
def GD (K : PySem.W.Frag) (t : TG) (g : DG) (is : List Nat) : Prop := ∀ v d F e O σ H k Q, Stt K F O H → ERep K F σ e → Rep K F v d → g d e O k → GOut K F is σ k H Q → t v σ H Q
def GDs (K : PySem.W.Frag) (t : TGs) (g : DGs) (is : List Nat) : Prop := ∀ v d F e O σ H k Q, Stt K F O H → ERep K F σ e → Reps K F v d → g d e O k → GOut K F is σ k H Q → t v σ H Q
structure PGD (X : Cx) (tg : Expr) (t : TG) (g : DG) (is : List Nat) : Prop where
  pg : PG X tg t
  ok : GD X.K t g is
structure PGDs (X : Cx) (tg : List Expr) (t : TGs) (g : DGs) (is : List Nat) : Prop where
  pg : PGs X tg t
  ok : GDs X.K t g is
def dNm (i : Nat) : DG := fun d e _ k => k (e.set i (some d))
def dGNil : DGs := fun ds e _ k => match ds with
  | [] => k e
  | _ => False
def dGCons (g : DG) (gs : DGs) : DGs := fun ds e O k => match ds with
  | d :: r => g d e O fun e' => gs r e' O k
  | [] => False
def dTg (n : Nat) (gs : DGs) : DG := fun d e O k => match d with
  | .tup ds => ds.length = n ∧ gs ds e O k
  | _ => False
section
variable {X : Cx} {pos : Pos}
theorem pgd_name {i : Nat} {x : Str} (hN : X.N.Nodup) (hi : X.N[i]? = some x) (hx : Loc X.env.scope x) (hf : X.fn x = true ∨ X.env.scope.names.lookup x = some .local := by first | exact .inl rfl | exact .inr rfl | assumption) : PGD X (.Name x pos) (gName i) (dNm i) [i] :=
  ⟨pg_name hN hi hx hf, fun v d F e O σ H k Q st er r h o => o _ _ h (er.set r i) fun ws hw => wipe_set (hw i (by simp))⟩
theorem pgds_nil : PGDs X [] gNil dGNil [] := by
  refine ⟨pgs_nil, fun v d F e O σ H k Q st er r h o => ?_⟩
  unfold dGNil at h
  split at h
  · cases r
    exact ⟨rfl, o _ _ h er fun _ _ => rfl⟩
  · exact h.elim
theorem pgds_cons {a : Expr} {es : List Expr} {t : TG} {u : TGs} {g : DG} {gs : DGs} {is js : List Nat} (h1 : PGD X a t g is) (h2 : PGDs X es u gs js) (hs : (assignEach (a :: es) X.env).map (·.2) = assign a X.env :: (assignEach es X.env).map (·.2) := by rfl) : PGDs X (a :: es) (gCons t u) (dGCons g gs) (is ++ js) := by
  obtain ⟨p, q⟩ := h1
  obtain ⟨p2, q2⟩ := h2
  refine ⟨pgs_cons p p2 hs, fun v d F e O σ H k Q st er r h o => ?_⟩
  unfold dGCons at h
  split at h
  · cases r with
    | cons r1 r2 =>
      exact ⟨_, _, rfl, q _ _ F e O σ H _ _ st er r1 h fun e1 σ1 h1 er1 w1 => q2 _ _ F e1 O σ1 H k _ st er1 r2 h1 fun e2 σ2 h2 er2 w2 => o e2 σ2 h2 er2 fun ws hw =>
        (w2 ws fun i m => hw i (List.mem_append_right _ m)).trans (w1 ws fun i m => hw i (List.mem_append_left _ m))⟩
  · exact h.elim
theorem pgd_tup {es : List Expr} {k : Nat} {t : TGs} {gs : DGs} {is : List Nat} {n : Nat} {K : PySem.W.Frag} (hc : X.calm = true) (h : PGDs X es t gs is) (hK : X.K = K := by rfl) (hn : (assignEach es X.env).length = n := by rfl) (hst : (assignEach es X.env).findIdx? (·.1) = none := by rfl) : PGD X (.Tuple es k pos) (gTup K n t) (dTg n gs) is := by
  subst hK
  obtain ⟨p, q⟩ := h
  refine ⟨pg_tup hc p hn hst, fun v d F e O σ H k Q st er r h o => ?_⟩
  unfold dTg at h
  split at h
  · cases r with
    | tup s rr => exact ⟨_, _, rfl, Same.seqT st.same s, rr.length.trans h.1, q _ _ F e O σ H k _ st er rr h.2 o⟩
  · exact h.elim
end

/-! ### what is walked -/
structure ItOk (K : PySem.W.Frag) (F1 : Hp) (J : It) (items : List D) : Prop where
  ok : ∃ (G : Hp → Prop) (Y : Nat → Hp → V → Hp → Prop), Walk J items.length G Y ∧ (∀ H, Same F1 H → G H) ∧
    ∀ i H x H' F' O', i < items.length → Same F1 F' → Stt K F' O' H → Y i H x H' → ∃ d F'', items[i]? = some d ∧ Go K F' O' H F'' O' H' ∧ Rep K F'' x d
abbrev DI := DV → OH → (List D → OH → Prop) → Prop
structure PID (X : Cx) (tg iter : Expr) (di : DI) : Prop where
  pi : ∃ wi, PI X tg iter wi ∧ ∀ σ H R F e O k, Stt X.K F O H → ERep X.K F σ e → di e O k → (∀ items O1 F1 H1 J, k items O1 → Go X.K F O H F1 O1 H1 → ItOk X.K F1 J items → R J H1) → wi σ H R
section
variable {X : Cx} {a b : Expr} {tg : Expr} {da db : DE} {p pos : Pos}
theorem it_list {K : PySem.W.Frag} {F1 : Hp} {l : Addr} {xs : List V} {ds : List D} (q : SqL K F1 l xs) (r : Reps K F1 xs ds) : ItOk K F1 (Itl K l) ds := by
  refine ⟨_, _, by rw [← r.length]; exact walk_list, fun H s => s.seq q, fun i H x H' F' O' hi s st y => ?_⟩
  obtain ⟨e, y⟩ := y
  subst e
  obtain ⟨d, h1, h2⟩ := r.getV y
  exact ⟨d, F', h1, st.go, h2.mono s⟩
theorem it_tup {K : PySem.W.Frag} {F1 : Hp} {l : Addr} {xs : List V} {ds : List D} (q : SqT K F1 l xs) (r : Reps K F1 xs ds) : ItOk K F1 (Itt K l) ds := by
  refine ⟨_, _, by rw [← r.length]; exact walk_tup, fun H s => Same.seqT s q, fun i H x H' F' O' hi s st y => ?_⟩
  obtain ⟨e, y⟩ := y
  subst e
  obtain ⟨d, h1, h2⟩ := r.getV y
  exact ⟨d, F', h1, st.go, h2.mono s⟩
/-- a list or a tuple is walked -/
def iSeq (K : PySem.W.Frag) (tl : TE) : TI := fun σ H R => tl σ H fun x H1 => ∃ a, x = .ref a ∧ (((∃ xs, SqL K H1 a xs) ∧ R (Itl K a) H1) ∨ ((∃ xs, SqT K H1 a xs) ∧ R (Itt K a) H1))
theorem pi_seq {l : Expr} {tl : TE} (hl : PE X l tl) : PI X tg l (iSeq X.K tl) := by
  refine ⟨fun pins s σ H R I h => ?_⟩
  refine thn (hl.run pins s σ H _ I h) fun v s1 ⟨x, H1, I1, r1, q1⟩ => ?_
  obtain ⟨a, e, q1⟩ := q1
  subst e
  cases r1
  rcases q1 with ⟨⟨xs, hq⟩, q⟩ | ⟨⟨xs, hq⟩, q⟩
  · obtain ⟨its, rv, p, hz⟩ := I1.list hq
    refine wpAny_pyIter_list p.isList ?_
    refine ⟨s1.heap.objs.size, [s1.heap.objs.size], _, _, H1, rfl, I1.kept (t' := s1.toks) fun b o e => Heap.get?_push_of_some _ e, turn_list a _, ⟨_, Heap.get?_push_size _ rfl, rfl, rfl⟩, fun b hb => ?_, q⟩
    have e : b = s1.heap.objs.size := by simpa using hb
    subst e
    exact I1.fpOk (Nat.le_refl _) (I1.hok.fresh (Nat.le_refl _))
  · obtain ⟨its, rv, p, hz⟩ := I1.tuple hq
    refine wpAny_pyIter_tuple (show s1.heap.IsTuple a its.toArray from p) ?_
    refine ⟨s1.heap.objs.size, [s1.heap.objs.size], _, _, H1, rfl, I1.kept (t' := s1.toks) fun b o e => Heap.get?_push_of_some _ e, turn_tuple a _, ⟨_, Heap.get?_push_size _ rfl, rfl, rfl⟩, fun b hb => ?_, q⟩
    have e : b = s1.heap.objs.size := by simpa using hb
    subst e
    exact I1.fpOk (Nat.le_refl _) (I1.hok.fresh (Nat.le_refl _))
def dSeq (t : DE) : DI := fun e O k => t e O fun d O1 => match d with
  | .lst xs => k xs O1
  | .fz xs => k xs O1
  | .tup xs => k xs O1
  | _ => False
theorem pid_seq (ha : PD X a da) : PID X tg a (dSeq da) := by
  refine ⟨_, pi_seq ha.pe, fun σ H R F e O k st er h o => ⟨F, e, O, _, st, er, h, fun d O1 F1 H1 v h1 g1 r1 => ?_⟩⟩
  try dsimp only at h1
  split at h1
  · cases r1 with
    | lst q rr => exact ⟨_, rfl, .inl ⟨⟨_, .of (g1.stt.same _ _ q)⟩, o _ _ F1 H1 _ h1 g1 (it_list (.of q) rr)⟩⟩
  · cases r1 with
    | fz q rr => exact ⟨_, rfl, .inl ⟨⟨_, g1.stt.same.seq q⟩, o _ _ F1 H1 _ h1 g1 (it_list q rr)⟩⟩
  · cases r1 with
    | tup q rr => exact ⟨_, rfl, .inr ⟨⟨_, Same.seqT g1.stt.same q⟩, o _ _ F1 H1 _ h1 g1 (it_tup q rr)⟩⟩
  · exact h1.elim
def rngD (lo : Int) (n : Nat) : List D := (List.range n).map fun i => .int (lo + (i : Nat))
theorem rngD_length (lo : Int) (n : Nat) : (rngD lo n).length = n := by simp [rngD]
theorem it_range {K : PySem.W.Frag} {F1 : Hp} {lo : Int} {n : Nat} : ItOk K F1 (Itr lo n) (rngD lo n) := by
  refine ⟨_, _, by rw [rngD_length]; exact walk_range, fun H s => trivial, fun i H x H' F' O' hi s st y => ?_⟩
  obtain ⟨e, y⟩ := y
  subst e y
  rw [rngD_length] at hi
  exact ⟨.int (lo + i), F', by simp [rngD, hi], st.go, .int _⟩
def dRng1 (t : DE) : DI := fun e O k => t e O fun d O1 => match d with
  | .int j => (-(2 ^ 62) ≤ j ∧ j < 2 ^ 62) ∧ k (rngD 0 j.toNat) O1
  | _ => False
def dRng2 (t u : DE) : DI := fun e O k => t e O fun d O1 => u e O1 fun d2 O2 => match d, d2 with
  | .int i, .int j => (-(2 ^ 62) ≤ i ∧ i < 2 ^ 62 ∧ -(2 ^ 62) ≤ j ∧ j < 2 ^ 62) ∧ k (rngD i (j - i).toNat) O2
  | _, _ => False
theorem pid_range1 (hg : Gl X "range") (hm : X.mg "range" = none) (ha : PD X a da) (hs : starEach [a] X.env = [(false, eval a X.env)] := by rfl) : PID X tg (.Call (.Name "range" p) [a] [] pos) (dRng1 da) := by
  refine ⟨_, pi_range1 hg hm (pa_cons ha.pe pa_nil (by rw [hs]; rfl)) hs, fun σ H R F e O k st er h o => ⟨F, e, O, _, st, er, h, fun d O1 F1 H1 v h1 g1 r1 => ?_⟩⟩
  try dsimp only at h1
  split at h1
  · cases r1
    exact ⟨_, rfl, h1.1.1, h1.1.2, o _ _ F1 H1 _ h1.2 g1 it_range⟩
  · exact h1.elim
theorem pid_range2 (hg : Gl X "range") (hm : X.mg "range" = none) (ha : PD X a da) (hb : PD X b db) (hs : starEach [a, b] X.env = [(false, eval a X.env), (false, eval b X.env)] := by rfl) (hs2 : starEach [b] X.env = [(false, eval b X.env)] := by rfl) :
    PID X tg (.Call (.Name "range" p) [a, b] [] pos) (dRng2 da db) := by
  refine ⟨_, pi_range2 hg hm (pa_cons ha.pe (pa_cons hb.pe pa_nil (by rw [hs2]; rfl)) (by rw [hs, hs2])) hs hs2, fun σ H R F e O k st er h o => ⟨F, e, O, _, st, er, h, fun d O1 F1 H1 v h1 g1 r1 => ⟨F1, e, O1, _, g1.stt, er.mono g1.same, h1, fun d2 O2 F2 H2 v2 h2 g2 r2 => ?_⟩⟩⟩
  try dsimp only at h2
  split at h2
  · cases r1; cases r2
    exact ⟨_, _, rfl, h2.1, o _ _ F2 H2 _ h2.2 (g1.trans g2) it_range⟩
  · exact h2.elim
/-- pairs -/
def pairsD : List D → List D → List D
  | x :: xs, y :: ys => .tup [x, y] :: pairsD xs ys
  | _, _ => []
theorem pairsD_length : ∀ xs ys : List D, (pairsD xs ys).length = min xs.length ys.length
  | [], _ => by simp [pairsD]
  | _ :: _, [] => by simp [pairsD]
  | x :: xs, y :: ys => by simp [pairsD, pairsD_length xs ys]
theorem pairsD_get : ∀ (xs ys : List D) (i : Nat) (x y : D), xs[i]? = some x → ys[i]? = some y → (pairsD xs ys)[i]? = some (.tup [x, y])
  | [], _, _, _, _, h, _ => by simp at h
  | _ :: _, [], _, _, _, _, h => by simp at h
  | a :: xs, b :: ys, 0, x, y, h, h2 => by simp at h h2; subst h h2; rfl
  | a :: xs, b :: ys, i + 1, x, y, h, h2 => pairsD_get xs ys i x y (by simpa using h) (by simpa using h2)
theorem pair_made {K : PySem.W.Frag} {F O H} {T : Addr} {x y : V} {c d : D} (st : Stt K F O H) (n : H T = none) (r1 : Rep K F x c) (r2 : Rep K F y d) : Go K F O H (upd F T (.tup [x, y])) O (upd H T (.tup [x, y])) ∧ Rep K (upd F T (.tup [x, y])) (.ref T) (.tup [c, d]) :=
  have s := same_upd (o := .tup [x, y]) (free_F st n)
  ⟨st.made n, .tup (.of upd_same) (.cons (r1.mono s) (.cons (r2.mono s) .nil))⟩
theorem it_zipL {K : PySem.W.Frag} {F1 : Hp} {l m : Addr} {xs ys : List V} {ds es : List D} (q : SqL K F1 l xs) (r : Reps K F1 xs ds) (q2 : SqL K F1 m ys) (r2 : Reps K F1 ys es) : ItOk K F1 (Itz K l m) (pairsD ds es) := by
  refine ⟨_, _, walk_zip (by rw [pairsD_length, r.length, r2.length]), fun H s => ⟨s.seq q, s.seq q2⟩, fun i H x H' F' O' hi s st y => ?_⟩
  obtain ⟨T, u, w, e, n, e2, h1, h2⟩ := y
  subst e e2
  obtain ⟨c, c1, c2⟩ := r.getV h1
  obtain ⟨d, d1, d2⟩ := r2.getV h2
  obtain ⟨g, rr⟩ := pair_made st n (c2.mono s) (d2.mono s)
  exact ⟨_, _, pairsD_get _ _ _ _ _ c1 d1, g, rr⟩
theorem walk_zipT {K : PySem.W.Frag} {a b : Addr} {xs ys : List V} {n : Nat} (hn : n = min xs.length ys.length) : Walk (RZ.ItzT K a b) n (fun H => SqT K H a xs ∧ SqT K H b ys) (YPair (fun i => xs[i]?) (fun i => ys[i]?)) := by
  subst hn
  refine ⟨fun i _ hi q => ?_, fun _ q => ⟨xs, ys, q.1, q.2, by omega⟩, fun i H v H' _ q y => ?_⟩
  · have h1 : i < xs.length := by omega
    have h2 : i < ys.length := by omega
    exact ⟨xs, ys, xs[i], ys[i], q.1, q.2, by simp [h1], by simp [h2]⟩
  · obtain ⟨T, x, z, h1, h2, h3, h4, h5⟩ := y
    exact ⟨T, x, z, h1, h2, h3, h4 xs q.1, h5 ys q.2⟩
theorem it_zipT {K : PySem.W.Frag} {F1 : Hp} {l m : Addr} {xs ys : List V} {ds es : List D} (q : SqT K F1 l xs) (r : Reps K F1 xs ds) (q2 : SqT K F1 m ys) (r2 : Reps K F1 ys es) : ItOk K F1 (RZ.ItzT K l m) (pairsD ds es) := by
  refine ⟨_, _, walk_zipT (by rw [pairsD_length, r.length, r2.length]), fun H s => ⟨Same.seqT s q, Same.seqT s q2⟩, fun i H x H' F' O' hi s st y => ?_⟩
  obtain ⟨T, u, w, e, n, e2, h1, h2⟩ := y
  subst e e2
  obtain ⟨c, c1, c2⟩ := r.getV h1
  obtain ⟨d, d1, d2⟩ := r2.getV h2
  obtain ⟨g, rr⟩ := pair_made st n (c2.mono s) (d2.mono s)
  exact ⟨_, _, pairsD_get _ _ _ _ _ c1 d1, g, rr⟩
def dZip (t u : DE) : DI := fun e O k => t e O fun d O1 => u e O1 fun d2 O2 => match d, d2 with
  | .lst xs, .lst ys => k (pairsD xs ys) O2
  | .tup xs, .tup ys => k (pairsD xs ys) O2
  | _, _ => False
theorem pid_zip {elts : List Expr} {kk : Nat} {tpos : Pos} (hg : Gl X "zip") (hm : X.mg "zip" = none) (ha : PD X a da) (hb : PD X b db) (hs : starEach [a, b] X.env = (false, eval a X.env) :: starEach [b] X.env := by rfl) (hs2 : starEach [b] X.env = [(false, eval b X.env)] := by rfl)
    (hpl : (backTo pos (starEach [b] X.env)).any (·.1) = false := by rfl) : PID X (.Tuple elts kk tpos) (.Call (.Name "zip" p) [a, b] [] pos) (dZip da db) := by
  refine ⟨_, RZ.pi_zipA hg hm (pa_cons ha.pe (pa_cons hb.pe pa_nil (by rw [hs2]; rfl)) hs) hs hpl, fun σ H R F e O k st er h o => ⟨F, e, O, _, st, er, h, fun d O1 F1 H1 v h1 g1 r1 => ⟨F1, e, O1, _, g1.stt, er.mono g1.same, h1, fun d2 O2 F2 H2 v2 h2 g2 r2 => ?_⟩⟩⟩
  try dsimp only at h2
  split at h2
  · cases r1 with
    | lst q rr => cases r2 with
      | lst q2 rr2 =>
        have q' := g2.same.seq (SqL.of (K := X.K) q)
        have q2 := SqL.of (K := X.K) q2
        exact ⟨_, _, _, _, rfl, .inl ⟨g2.stt.same.seq q', g2.stt.same.seq q2, o _ _ F2 H2 _ h2 (g1.trans g2) (it_zipL q' (rr.mono g2.same) q2 rr2)⟩⟩
  · cases r1 with
    | tup q rr => cases r2 with
      | tup q2 rr2 =>
        have q' := Same.seqT g2.same q
        exact ⟨_, _, _, _, rfl, .inr ⟨Same.seqT g2.stt.same q', Same.seqT g2.stt.same q2, o _ _ F2 H2 _ h2 (g1.trans g2) (it_zipT q' (rr.mono g2.same) q2 rr2)⟩⟩
  · exact h2.elim
def enumD (i : Nat) : List D → List D
  | [] => []
  | x :: xs => .tup [.int (i : Nat), x] :: enumD (i + 1) xs
theorem enumD_length : ∀ (i : Nat) (xs : List D), (enumD i xs).length = xs.length
  | _, [] => rfl
  | i, x :: xs => by simp [enumD, enumD_length (i + 1) xs]
theorem enumD_get : ∀ (xs : List D) (b i : Nat) (x : D), xs[i]? = some x → (enumD b xs)[i]? = some (.tup [.int ((b + i : Nat) : Int), x])
  | [], _, _, _, h => by simp at h
  | a :: xs, b, 0, x, h => by simp at h; subst h; rfl
  | a :: xs, b, i + 1, x, h => by
    have := enumD_get xs (b + 1) i x (by simpa using h)
    simp only [enumD, List.getElem?_cons_succ]
    rw [this, Nat.add_assoc, Nat.add_comm 1 i]
theorem it_enum {K : PySem.W.Frag} {F1 : Hp} {l : Addr} {xs : List V} {ds : List D} (q : SqL K F1 l xs) (r : Reps K F1 xs ds) : ItOk K F1 (Ite K l) (enumD 0 ds) := by
  refine ⟨_, _, by rw [enumD_length, ← r.length]; exact walk_enum, fun H s => s.seq q, fun i H x H' F' O' hi s st y => ?_⟩
  obtain ⟨T, u, w, e, n, e2, h1, h2⟩ := y
  subst e e2
  obtain ⟨d, d1, d2⟩ := r.getV h2
  have h1 : V.int (i : Nat) = u := Option.some.inj h1
  subst h1
  obtain ⟨g, rr⟩ := pair_made st n (.int (i : Nat)) (d2.mono s)
  refine ⟨_, _, ?_, g, rr⟩
  have z := enumD_get ds 0 i d d1
  rw [Nat.zero_add] at z
  exact z
def dEnum (t : DE) : DI := fun e O k => t e O fun d O1 => match d with
  | .lst xs => k (enumD 0 xs) O1
  | _ => False
theorem pid_enum {elts : List Expr} {kk : Nat} {tpos : Pos} (hg : Gl X "enumerate") (hm : X.mg "enumerate" = none) (ha : PD X a da) (hs : starEach [a] X.env = [(false, eval a X.env)] := by rfl) : PID X (.Tuple elts kk tpos) (.Call (.Name "enumerate" p) [a] [] pos) (dEnum da) := by
  refine ⟨_, pi_enum hg hm (pa_cons ha.pe pa_nil (by rw [hs]; rfl)) hs, fun σ H R F e O k st er h o => ⟨F, e, O, _, st, er, h, fun d O1 F1 H1 v h1 g1 r1 => ?_⟩⟩
  try dsimp only at h1
  split at h1
  · cases r1 with
    | lst q rr => exact ⟨_, _, rfl, .of (g1.stt.same _ _ q), o _ _ F1 H1 _ h1 g1 (it_enum (.of q) rr)⟩
  · exact h1.elim
end

/-! ### comprehensions -/
def relabelS (scope sc : Scope) : Scope :=
  { scope with names := scope.names.map fun (n, k) => if (k == .free && sc.kind == .function && sc.names.lookup n == some .cell) then (n, .cell) else (n, k) }
theorem relabel_S (scope : Scope) (env : Env) : relabel scope env = relabelS scope env.scope := rfl
def dAcc (g : DG) (tt : DT) (te : DE) (e : DV) (k : List D → OH → Prop) : List D → List D → OH → Prop
  | [], acc, O => k acc O
  | d :: ds, acc, O => g d e O fun e2 => tt e2 O fun b O2 => match b with
    | true => te e2 O2 fun y O3 => dAcc g tt te e k ds (acc ++ [y]) O3
    | false => dAcc g tt te e k ds acc O2
def dComp (di : DI) (g : DG) (tt : DT) (te : DE) (is : List Nat) : DE := fun e O k => di e O fun items O1 => items.length ≤ sizeLine ∧ dAcc g tt te (wipeD e is) (fun acc O2 => k (.lst acc) O2) items [] O1
structure PTsD (X : Cx) (ifs : List Expr) (t : DT) : Prop where
  pts : PTs X ifs (upT X.K t)
def dYes : DT := fun _ O k => k true O
theorem ptsd_nil {X : Cx} : PTsD X [] dYes := ⟨⟨fun pins s σ H Q I ⟨F, e, O, k, st, er, h, o⟩ => pts_nil.run pins s σ H Q I (o _ _ _ _ h st.go)⟩⟩
theorem ptsd_one {X : Cx} {c : Expr} {t : DT} (h : PTD X c t) : PTsD X [c] t := ⟨pts_one h.pt⟩
structure AccSt (K : PySem.W.Frag) (F1 : Hp) (O1 : OH) (H1 : Hp) (Dl : Addr) (n : Nat) (R : List D → OH → Prop) (H : Hp) : Prop where
  ok : ∃ F O acc xs, Go K F1 O1 H1 F O H ∧ H Dl = some (.lst xs) ∧ Reps K F xs acc ∧ F Dl = none ∧ O Dl = none ∧ acc.length ≤ n ∧ R acc O
theorem up_lc0 {K : PySem.W.Frag} {wi : TI} {gt : TG} {di : DI} {g : DG} {tt : DT} {te : DE} {is js : List Nat} (hjs : ∀ i ∈ js, i ∈ is)
    (hi : ∀ σ H R F e O k, Stt K F O H → ERep K F σ e → di e O k → (∀ items O1 F1 H1 J, k items O1 → Go K F O H F1 O1 H1 → ItOk K F1 J items → R J H1) → wi σ H R)
    (hg : ∀ v d F e O σ H k Q, Stt K F O H → ERep K F σ e → Rep K F v d → g d e O k → GOut K F js σ k H Q → gt v σ H Q)
    {σ : L2.St} {H : Hp} {Q : VK} {F : Hp} {e : DV} {O : OH} {k : List D → OH → Prop} (st : Stt K F O H) (er : ERep K F σ e) (h : di e O fun items O1 => items.length ≤ sizeLine ∧ dAcc g tt te (wipeD e is) k items [] O1)
    (o : ∀ acc O1 F1 H1 O2 F2 H2 Dl xs, k acc O2 → Go K F O H F1 O1 H1 → H1 Dl = none → Go K F1 O1 H1 F2 O2 H2 → H2 Dl = some (.lst xs) → F2 Dl = none → O2 Dl = none → Reps K F2 xs acc → Q (.ref Dl) H2) : tLc wi gt (upT K tt) (upE K te) is σ H Q := by
  refine hi σ H _ F e O _ st er h fun items O1 F1 H1 J h1 g1 it Dl nD => ?_
  obtain ⟨hz, h1⟩ := h1
  obtain ⟨G, Y, w, hG, hY⟩ := it.ok
  have erw : ERep K F1 (wipe σ is) (wipeD e is) := (er.mono g1.same).wipe is
  refine lc_it w (fun i H => AccSt K F1 O1 H1 Dl i (fun acc O => dAcc g tt te (wipeD e is) k (items.drop i) acc O) H) ?_ ?_ ?_ ?_
  · exact ⟨F1, O1, [], [], g1.stt.junk nD, upd_same, .nil, free_F g1.stt nD, free_O g1.stt nD, Nat.le_refl _, h1⟩
  · intro i H _ p
    obtain ⟨F2, O2, acc, xs, g2, _⟩ := p.ok
    exact hG H (g2.same.trans g2.stt.same)
  · intro i x H2 H3 hin p y
    obtain ⟨F2, O2, acc, xs, g2, hD, rr, fD, oD, hl, h2⟩ := p.ok
    obtain ⟨d, F3, hd, g3, rd⟩ := hY i H2 x H3 F2 O2 hin g2.same g2.stt y
    have hdr : items.drop i = d :: items.drop (i + 1) := by
      rw [List.drop_eq_getElem_cons hin]
      congr 1
      rw [List.getElem?_eq_getElem hin] at hd
      exact Option.some.inj hd
    rw [hdr] at h2
    unfold dAcc at h2
    obtain ⟨hD3, fD3, oD3⟩ := g3.frame Dl _ hD fD oD (fun _ z => by cases z)
    refine hg x d F3 _ O2 _ H3 _ _ g3.stt (erw.mono (g2.same.trans g3.same)) rd h2 fun e4 σ4 h4 er4 w4 => ⟨?_, ?_⟩
    · rw [w4 is hjs]
      apply List.ext_getElem?
      intro j
      rw [wipe_get, wipe_get]
      split
      · cases σ[j]? <;> rfl
      · rfl
    · refine ⟨F3, e4, O2, _, g3.stt, er4, h4, fun b O5 F5 H5 h5 g5 => ?_⟩
      obtain ⟨hD5, fD5, oD5⟩ := g5.frame Dl _ hD3 fD3 oD3 (fun _ z => by cases z)
      cases b with
      | true =>
        rw [if_pos rfl]
        refine ⟨F5, e4, O5, _, g5.stt, er4.mono g5.same, h5, fun y O6 F6 H6 v h6 g6 r6 => ?_⟩
        obtain ⟨hD6, fD6, oD6⟩ := g6.frame Dl _ hD5 fD5 oD5 (fun _ z => by cases z)
        refine ⟨xs, hD6, ?_, ?_⟩
        · rw [rr.length]; omega
        · have s6 : Same F2 F6 := g3.same.trans (g5.same.trans g6.same)
          have gg := g2.trans (g3.trans (g5.trans g6))
          refine ⟨F6, O6, acc ++ [y], xs ++ [v], ?_, upd_same, (rr.mono s6).append (.cons r6 .nil), fD6, oD6, by simp; omega, h6⟩
          refine Go.of g1.stt gg.same (fun b z q => ?_) (fun a ds q => ?_) (fun t ht => let ⟨t1, t2, t3⟩ := gg.stt.tabs t ht; ⟨tabS_lst t1 hD6, t2, t3⟩) (fun a z q f u nt => ?_) gg.stt.nt
          · have ne : b ≠ Dl := fun z' => by rw [z', fD6] at q; cases q
            rw [upd_ne ne]; exact gg.stt.same _ _ q
          · obtain ⟨f, ys, hh, r'⟩ := gg.stt.own a ds q
            have ne : a ≠ Dl := fun z' => by rw [z', oD6] at q; cases q
            exact ⟨f, ys, by rw [upd_ne ne]; exact hh, r'⟩
          · obtain ⟨q1, q2, q3⟩ := gg.frame a z q f u nt
            have ne : a ≠ Dl := ne_of_none q nD
            exact ⟨by rw [upd_ne ne]; exact q1, q2, q3⟩
      | false =>
        rw [if_neg (by decide)]
        exact ⟨F5, O5, acc, xs, g2.trans (g3.trans g5), hD5, rr.mono (g3.same.trans g5.same), fD5, oD5, Nat.le_succ_of_le hl, h5⟩
  · intro H2 p
    obtain ⟨F2, O2, acc, xs, g2, hD, rr, fD, oD, hl, h2⟩ := p.ok
    rw [List.drop_length] at h2
    exact o _ _ _ _ _ _ _ _ _ h2 g1 nD g2 hD fD oD rr
theorem up_lc {K : PySem.W.Frag} {wi : TI} {gt : TG} {di : DI} {g : DG} {tt : DT} {te : DE} {is js : List Nat} (hjs : ∀ i ∈ js, i ∈ is)
    (hi : ∀ σ H R F e O k, Stt K F O H → ERep K F σ e → di e O k → (∀ items O1 F1 H1 J, k items O1 → Go K F O H F1 O1 H1 → ItOk K F1 J items → R J H1) → wi σ H R)
    (hg : ∀ v d F e O σ H k Q, Stt K F O H → ERep K F σ e → Rep K F v d → g d e O k → GOut K F js σ k H Q → gt v σ H Q)
    {σ : L2.St} {H : Hp} {Q : VK} (h : upE K (dComp di g tt te is) σ H Q) : tLc wi gt (upT K tt) (upE K te) is σ H Q := by
  obtain ⟨F, e, O, k, st, er, h, o⟩ := h
  exact up_lc0 hjs hi hg st er h fun acc O1 F1 H1 O2 F2 H2 Dl xs h2 g1 nD g2 hD fD oD rr => o _ O2 (upd F2 Dl (.lst xs)) H2 _ h2 (g1.trans (Go.known g1.stt g2 nD fD oD hD)) (.lst upd_same (rr.mono (same_upd fD)))
/-- the list may still be changed -/
def dCompO (di : DI) (g : DG) (tt : DT) (te : DE) (is : List Nat) : DE := fun e O k => di e O fun items O1 => items.length ≤ sizeLine ∧ dAcc g tt te (wipeD e is) (fun acc O2 => ∀ p, O2 p = none → k (.own p) (oset O2 p acc)) items [] O1
theorem up_lcO {K : PySem.W.Frag} {wi : TI} {gt : TG} {di : DI} {g : DG} {tt : DT} {te : DE} {is js : List Nat} (hjs : ∀ i ∈ js, i ∈ is)
    (hi : ∀ σ H R F e O k, Stt K F O H → ERep K F σ e → di e O k → (∀ items O1 F1 H1 J, k items O1 → Go K F O H F1 O1 H1 → ItOk K F1 J items → R J H1) → wi σ H R)
    (hg : ∀ v d F e O σ H k Q, Stt K F O H → ERep K F σ e → Rep K F v d → g d e O k → GOut K F js σ k H Q → gt v σ H Q)
    {σ : L2.St} {H : Hp} {Q : VK} (h : upE K (dCompO di g tt te is) σ H Q) : tLc wi gt (upT K tt) (upE K te) is σ H Q := by
  obtain ⟨F, e, O, k, st, er, h, o⟩ := h
  exact up_lc0 hjs hi hg st er h fun acc O1 F1 H1 O2 F2 H2 Dl xs h2 g1 nD g2 hD fD oD rr => o _ _ F2 H2 _ (h2 Dl oD) (g1.trans (Go.adopt g1.stt g2 nD fD oD hD rr)) (.own Dl)
section
variable {X : Cx}
theorem pd_lc {elt tg iter : Expr} {ifs : List Expr} {scope : Scope} {own : List (Str × Nat)} {pos : Pos} {di : DI} {gt : TG} {g : DG} {tt : DT} {te : DE} {js : List Nat} (hc : X.calm = true) (hN : X.N.Nodup) (hi : PID X tg iter di) (ok : BlkOk X.N X.env.scope scope own)
    (hjs : ∀ i ∈ js, i ∈ own.map (·.2)) (hg : ∀ (s : Shared) (H : Hp) (C : Addr) (cl : List (Str × Addr)) (fp : List Addr), PGD (X.blk s H scope (compEnvC scope cl C X.env) fp) tg gt g js)
    (ht : ∀ (s : Shared) (H : Hp) (C : Addr) (cl : List (Str × Addr)) (fp : List Addr), PTsD (X.blk s H scope (compEnvC scope cl C X.env) fp) ifs tt)
    (he : ∀ (s : Shared) (H : Hp) (C : Addr) (cl : List (Str × Addr)) (fp : List Addr), PD (X.blk s H scope (compEnvC scope cl C X.env) fp) elt te) (hs : ∀ x, foldedSetIterable iter X.env x = pure x := by intro _; rfl) :
    PD X (.ListComp elt [⟨tg, iter, ifs, 0⟩] scope pos) (dComp di g tt te (own.map (·.2))) := by
  obtain ⟨wi, p, q⟩ := hi.pi
  exact ⟨⟨fun pins s σ H Q I h => (pe_lc hc hN p ok (fun s H C cl fp => (hg s H C cl fp).pg) (fun s H C cl fp => (ht s H C cl fp).pts) (fun s H C cl fp => (he s H C cl fp).pe) hs).run pins s σ H Q I (up_lc hjs q (hg s H 0 [] []).ok h)⟩⟩
theorem pd_lcO {elt tg iter : Expr} {ifs : List Expr} {scope : Scope} {own : List (Str × Nat)} {pos : Pos} {di : DI} {gt : TG} {g : DG} {tt : DT} {te : DE} {js : List Nat} (hc : X.calm = true) (hN : X.N.Nodup) (hi : PID X tg iter di) (ok : BlkOk X.N X.env.scope scope own)
    (hjs : ∀ i ∈ js, i ∈ own.map (·.2)) (hg : ∀ (s : Shared) (H : Hp) (C : Addr) (cl : List (Str × Addr)) (fp : List Addr), PGD (X.blk s H scope (compEnvC scope cl C X.env) fp) tg gt g js)
    (ht : ∀ (s : Shared) (H : Hp) (C : Addr) (cl : List (Str × Addr)) (fp : List Addr), PTsD (X.blk s H scope (compEnvC scope cl C X.env) fp) ifs tt)
    (he : ∀ (s : Shared) (H : Hp) (C : Addr) (cl : List (Str × Addr)) (fp : List Addr), PD (X.blk s H scope (compEnvC scope cl C X.env) fp) elt te) (hs : ∀ x, foldedSetIterable iter X.env x = pure x := by intro _; rfl) :
    PD X (.ListComp elt [⟨tg, iter, ifs, 0⟩] scope pos) (dCompO di g tt te (own.map (·.2))) := by
  obtain ⟨wi, p, q⟩ := hi.pi
  exact ⟨⟨fun pins s σ H Q I h => (pe_lc hc hN p ok (fun s H C cl fp => (hg s H C cl fp).pg) (fun s H C cl fp => (ht s H C cl fp).pts) (fun s H C cl fp => (he s H C cl fp).pe) hs).run pins s σ H Q I (up_lcO hjs q (hg s H 0 [] []).ok h)⟩⟩
end
end SC
namespace SC
open PySem PySem.Spec PyProof.Rows L2
variable [TabL] [XCx]
/-! ### statements -/
section
variable {X : Cx} {a b c : Expr} {st : Stmt} {sts rest : List Stmt} {pos : Pos} {da db dc : DE} {dt : DT} {t u : DS}
def dSkip : DS := fun k e O => k.nx e O
def dThen (t u : DS) : DS := fun k e O => t { k with nx := u k } e O
theorem pbd_nil : PBD X [] dSkip := ⟨PSs.weak pss_nil fun D σ H ⟨F, e, O, k, st, er, h, o⟩ => o.nx _ _ _ _ _ h st.go er⟩
theorem pbd_cons (h1 : PSD X st t) (h2 : PBD X rest u) : PBD X (st :: rest) (dThen t u) := by
  refine ⟨PSs.weak (pss_cons h1.ps h2.pb) fun D σ H h => ?_⟩
  obtain ⟨F, e, O, k, st, er, h, o⟩ := h
  exact ⟨F, e, O, _, st, er, h, ⟨fun e1 O1 F1 H1 σ1 h1 g1 r1 => ⟨F1, e1, O1, k, g1.stt, r1, h1, o.after g1⟩, o.rt, o.bk, o.ct⟩⟩
theorem pbd_one (h1 : PSD X st t) : PBD X [st] t := ⟨pss_one h1.ps⟩
theorem psd_pass : PSD X (.Pass pos) dSkip := ⟨PS.weak ps_pass fun D σ H ⟨F, e, O, k, st, er, h, o⟩ => o.nx _ _ _ _ _ h st.go er⟩
def dBrk : DS := fun k e O => k.bk e O
def dCont : DS := fun k e O => k.ct e O
theorem psd_break : PSD X (.Break pos) dBrk := ⟨PS.weak ps_break fun D σ H ⟨F, e, O, k, st, er, h, o⟩ => o.bk _ _ _ _ _ h st.go er⟩
theorem psd_continue : PSD X (.Continue pos) dCont := ⟨PS.weak ps_continue fun D σ H ⟨F, e, O, k, st, er, h, o⟩ => o.ct _ _ _ _ _ h st.go er⟩
def dExpr (t : DE) : DS := fun k e O => t e O fun _ O1 => k.nx e O1
theorem psd_expr (ha : PD X a da) (hs : swapsWith a none pos.line X.env = pure false := by rfl) : PSD X (.Expr a pos) (dExpr da) := by
  refine ⟨PS.weak (ps_expr ha.pe hs) fun D σ H h => ?_⟩
  obtain ⟨F, e, O, k, st, er, h, o⟩ := h
  exact ⟨F, e, O, _, st, er, h, fun d O1 F1 H1 v h1 g1 r1 => o.nx _ _ _ _ _ h1 g1 (er.mono g1.same)⟩
def dRet (t : DE) : DS := fun k e O => t e O k.rt
theorem psd_ret (ha : PD X a da) : PSD X (.Return (some a) pos) (dRet da) := by
  refine ⟨PS.weak (ps_ret ha.pe) fun D σ H h => ?_⟩
  obtain ⟨F, e, O, k, st, er, h, o⟩ := h
  exact ⟨F, e, O, _, st, er, h, o.rt⟩
def dRetN : DS := fun k _ O => k.rt .non O
theorem psd_retN : PSD X (.Return none pos) dRetN := ⟨PS.weak ps_retN fun D σ H ⟨F, e, O, k, st, er, h, o⟩ => o.rt _ _ _ _ _ h st.go .non⟩
def dIf (c : DT) (t u : DS) : DS := fun k e O => c e O fun b O1 => match b with
  | true => t k e O1
  | false => u k e O1
theorem psd_if {bt bu : List Stmt} (hc : PTD X c dt) (ha : PBD X bt t) (hb : PBD X bu u) : PSD X (.If c bt bu pos) (dIf dt t u) := by
  refine ⟨PS.weak (ps_if hc.pt ha.pb hb.pb) fun D σ H h => ?_⟩
  obtain ⟨F, e, O, k, st, er, h, o⟩ := h
  refine ⟨F, e, O, _, st, er, h, fun b O1 F1 H1 h1 g1 => ?_⟩
  cases b with
  | true => rw [if_pos rfl]; exact ⟨F1, e, O1, k, g1.stt, er.mono g1.same, h1, o.after g1⟩
  | false => rw [if_neg (by decide)]; exact ⟨F1, e, O1, k, g1.stt, er.mono g1.same, h1, o.after g1⟩
def dSet (i : Nat) (t : DE) : DS := fun k e O => t e O fun d O1 => k.nx (e.set i (some d)) O1
theorem psd_set {i : Nat} {x : Str} {pos' : Pos} (hN : X.N.Nodup) (hi : X.N[i]? = some x) (hx : Loc X.env.scope x) (ha : PD X a da) (hs : swapsWith a (some (.Name x pos')) pos.line X.env = pure false := by rfl) (hf : X.fn x = true ∨ X.env.scope.names.lookup x = some .local := by first | exact .inl rfl | exact .inr rfl | assumption) :
    PSD X (.Assign [.Name x pos'] a pos) (dSet i da) := by
  refine ⟨PS.weak (ps_set hN hi hx ha.pe hs hf) fun D σ H h => ?_⟩
  obtain ⟨F, e, O, k, st, er, h, o⟩ := h
  exact ⟨F, e, O, _, st, er, h, fun d O1 F1 H1 v h1 g1 r1 => o.nx _ _ _ _ _ h1 g1 ((er.mono g1.same).set r1 i)⟩
def dAsg (t : DE) (g : DG) : DS := fun k e O => t e O fun d O1 => g d e O1 fun e1 => k.nx e1 O1
theorem psd_asg {tg : Expr} {gt : TG} {g : DG} {is : List Nat} (ha : PD X a da) (hg : PGD X tg gt g is) (hs : swapsWithSole [tg] a pos.line X.env = pure false := by rfl) (hw : swappedStores [tg] a X.env = pure none := by rfl)
    (h1 : (assignEach [tg] X.env).map (·.2) = [assign tg X.env] := by rfl) : PSD X (.Assign [tg] a pos) (dAsg da g) := by
  refine ⟨PS.weak (ps_asg ha.pe hg.pg hs hw h1) fun D σ H h => ?_⟩
  obtain ⟨F, e, O, k, st, er, h, o⟩ := h
  exact ⟨F, e, O, _, st, er, h, fun d O1 F1 H1 v h1 g1 r1 => hg.ok v d F1 e O1 σ H1 _ _ g1.stt (er.mono g1.same) r1 h1 fun e2 σ2 h2 er2 _ => o.nx _ _ _ _ _ h2 g1 er2⟩
def dPar (i j : Nat) (t : DA) : DS := fun k e O => t e O fun xs O1 => match xs with
  | [v, w] => k.nx ((e.set i (some v)).set j (some w)) O1
  | _ => False
theorem psd_par {i j : Nat} {x y : Str} {ta : DA} {px py pt : Pos} {kt k2 pt2} (hc : X.calm = true) (hN : X.N.Nodup) (hi : X.N[i]? = some x) (hj : X.N[j]? = some y) (hij : i ≠ j)
    (hx : X.env.scope.names.lookup x = some .local) (hy : X.env.scope.names.lookup y = some .local) (ha : PAD X [a, b] ta)
    (hw : swappedStores [.Tuple [.Name x px, .Name y py] kt pt] (.Tuple [a, b] k2 pt2) X.env = pure (some [x, y]))
    (hs : swapsWithSole [.Tuple [.Name x px, .Name y py] kt pt] (.Tuple [a, b] k2 pt2) pos.line X.env = pure false := by rfl) :
    PSD X (.Assign [.Tuple [.Name x px, .Name y py] kt pt] (.Tuple [a, b] k2 pt2) pos) (dPar i j ta) := by
  refine ⟨PS.weak (ps_par hc hN hi hj hij hx hy ha.pa hw hs) fun D σ H h => ?_⟩
  obtain ⟨F, e, O, k, st, er, h, o⟩ := h
  refine ⟨F, e, O, _, st, er, h, fun ds O1 F1 H1 vs h1 g1 r1 => ?_⟩
  try dsimp only at h1
  split at h1
  · cases r1 with
    | cons r1 r2 => cases r2 with
      | cons r2 r3 =>
        cases r3
        exact ⟨_, _, rfl, o.nx _ _ _ _ _ h1 g1 (((er.mono g1.same).set r1 i).set r2 j)⟩
  · exact h1.elim
/-- o[i] = e of a list of one's own -/
def dSetIx (to ti te : DE) : DS := fun k e O => te e O fun d O1 => to e O1 fun o O2 => ti e O2 fun i O3 => match o, i with
  | .own p, .int n => match O3 p with
    | some xs => match ixN xs.length n with
      | some j => k.nx e (oset O3 p (xs.set j d))
      | none => False
    | none => False
  | _, _ => False
theorem psd_setix {tpos : Pos} (ho : PD X b db) (hi : PD X c dc) (ha : PD X a da)
    (haa : ∀ v, assign (.Subscript b c tpos) X.env v = (do
      let ov ← holding [v] (eval b X.env)
      let iv ← holding [v, ov] (eval c X.env)
      standAt tpos
      holding [v, ov, iv] (setItem ov iv v)
      release [v, ov, iv] []) := by intro _; rfl)
    (hs : swapsWithSole [.Subscript b c tpos] a pos.line X.env = pure false := by rfl) (hw : swappedStores [.Subscript b c tpos] a X.env = pure none := by rfl)
    (h1 : (assignEach [.Subscript b c tpos] X.env).map (·.2) = [assign (.Subscript b c tpos) X.env] := by rfl) : PSD X (.Assign [.Subscript b c tpos] a pos) (dSetIx db dc da) := by
  refine ⟨PS.weak (ps_asg ha.pe (pg_sub ho.pe hi.pe set_list haa) hs hw h1) fun D σ H h => ?_⟩
  obtain ⟨F, e, O, k, st, er, h, o⟩ := h
  refine ⟨F, e, O, _, st, er, h, fun d O1 F1 H1 v h1 g1 r1 => ⟨F1, e, O1, _, g1.stt, er.mono g1.same, h1, fun d2 O2 F2 H2 v2 h2 g2 r2 => ⟨F2, e, O2, _, g2.stt, er.mono (g1.same.trans g2.same), h2, fun d3 O3 F3 H3 v3 h3 g3 r3 => ?_⟩⟩⟩
  have g := g1.trans (g2.trans g3)
  try dsimp only at h3
  split at h3
  · split at h3
    · rename_i e0
      split at h3
      · rename_i j e1
        cases r2; cases r3
        obtain ⟨xs, q, rr⟩ := g.stt.rel e0
        have z := g.stt.put (xs := xs.set j v) e0 (rr.set j (r1.mono (g2.same.trans g3.same)))
        exact ⟨_, _, _, _, rfl, rfl, q, by rw [rr.length]; exact e1, o.nx _ _ _ _ _ h3 (g.trans z) (er.mono (g.trans z).same)⟩
      · exact h3.elim
    · exact h3.elim
  · exact h3.elim
/-- o.append(e) of a list of one's own -/
def dApp (to te : DE) : DS := fun k e O => to e O fun o O1 => match o with
  | .own p => match O1 p with
    | some _ => te e O1 fun d O2 => match O2 p with
      | some ys => ys.length < sizeLine ∧ k.nx e (oset O2 p (ys ++ [d]))
      | none => False
    | none => False
  | _ => False
theorem psd_app {apos cpos : Pos} (ho : PD X a da) (ha : PD X b db) (hbase : attributeBase a "append" X.env (eval a X.env) = eval a X.env := by rfl)
    (hfew : ((backTo cpos (starEach [b] X.env)).all (fun x => !x.1) && (backToKw cpos (keywordEach [] X.env)).all (fun x => x.1.isSome)
      && decide ([b].length + ([] : List Keyword).length + (if ([] : List Keyword).isEmpty then 0 else 1) < 30)) = true := by rfl)
    (hline : (apos.endLine == cpos.line) = true := by rfl) (hs : starEach [b] X.env = (false, eval b X.env) :: starEach [] X.env := by rfl) (hplain : (backTo cpos (starEach [] X.env)).any (·.1) = false := by rfl)
    (hsw : swapsWith (.Call (.Attribute a "append" apos) [b] [] cpos) none pos.line X.env = pure false := by rfl) : PSD X (.Expr (.Call (.Attribute a "append" apos) [b] [] cpos) pos) (dApp da db) := by
  refine ⟨PS.weak (ps_expr (pe_bm PySem.F.plainAttrs_list PySem.F.slot_list_append PySem.F.type_list_append mt_append ho.pe (pa_cons ha.pe pa_nil hs) hbase hfew hline hs hplain) hsw) fun D σ H h => ?_⟩
  obtain ⟨F, e, O, k, st, er, h, o⟩ := h
  refine ⟨F, e, O, _, st, er, h, fun d O1 F1 H1 v h1 g1 r1 => ?_⟩
  try dsimp only at h1
  split at h1
  · split at h1
    · rename_i e0
      cases r1
      obtain ⟨xs, q, rr⟩ := g1.stt.rel e0
      refine ⟨.inl ⟨rfl, _, .of q⟩, F1, e, O1, _, g1.stt, er.mono g1.same, h1, fun d2 O2 F2 H2 v2 h2 g2 r2 => ?_⟩
      try dsimp only at h2
      split at h2
      · rename_i e1
        obtain ⟨ys, q2, rr2⟩ := g2.stt.rel e1
        have z := g2.stt.put (xs := ys ++ [v2]) e1 (rr2.append (.cons r2 .nil))
        have g := g1.trans (g2.trans z)
        exact ⟨_, ys, v2, rfl, rfl, q2, by rw [rr2.length]; exact h2.1, o.nx _ _ _ _ _ h2.2 g (er.mono g.same)⟩
      · exact h2.elim
    · exact h1.elim
  · exact h1.elim
/-- x op= e -/
def dAug (i : Nat) (rd : R2D) (te : DE) : DS := fun k e O => match e[i]? with
  | some (some x) => te e O fun y O1 => rd x y O1 fun z O2 => k.nx (e.set i (some z)) O2
  | _ => False
theorem psd_aug {i : Nat} {x : Str} {op : Operator} {ti : TIp} {rd : R2D} {pos' : Pos} (hN : X.N.Nodup) (hi : X.N[i]? = some x) (hx : Loc X.env.scope x) (ha : PD X a da) (ho : PIp X op ti) (hr : OpD X.K ti rd)
    (hf : X.fn x = true ∨ X.env.scope.names.lookup x = some .local := by first | exact .inl rfl | exact .inr rfl | assumption) : PSD X (.AugAssign (.Name x pos') op a pos) (dAug i rd da) := by
  refine ⟨PS.weak (ps_aug hN hi hx ha.pe ho hf) fun D σ H h => ?_⟩
  obtain ⟨F, e, O, k, st, er, h, o⟩ := h
  unfold dAug at h
  split at h
  · rename_i q
    obtain ⟨v, hv, r⟩ := er.get q
    exact ⟨v, hv, F, e, O, _, st, er, h, fun d O1 F1 H1 w h1 g1 r1 => hr v w _ d F1 O1 H1 _ _ g1.stt (r.mono g1.same) r1 h1 fun d2 O2 F2 H2 w2 h2 g2 r2 => o.nx _ _ _ _ _ h2 (g1.trans g2) ((er.mono (g1.same.trans g2.same)).set r2 i)⟩
  · exact h.elim
/-- for -/
def dLoop (g : DG) (body : DS) (k : DEnds) : List D → DV → OH → Prop
  | [], e, O => k.nx e O
  | d :: ds, e, O => g d e O fun e1 => body { nx := dLoop g body k ds, rt := k.rt, bk := k.nx, ct := dLoop g body k ds } e1 O
def dFor (di : DI) (g : DG) (body : DS) : DS := fun k e O => di e O fun items O1 => dLoop g body k items e O1
theorem psd_for {iter tg : Expr} {body : List Stmt} {di : DI} {gt : TG} {g : DG} {is : List Nat} {tb : DS} (hp : PassesOwn (model X.prog X.w) X.A X.env X.xe) (hc : X.calm = true) (hi : PID X tg iter di) (hg : PGD X tg gt g is) (hb : PBD X body tb)
    (hs : ∀ x, foldedSetIterable iter X.env x = pure x := by intro _; rfl) : PSD X (.For tg iter body [] pos) (dFor di g tb) := by
  obtain ⟨wi, p, q⟩ := hi.pi
  refine ⟨PS.weak (ps_for hp hc p hg.pg hb.pb hs) fun D σ H h => ?_⟩
  obtain ⟨F, e, O, k, st, er, h, o⟩ := h
  refine q σ H _ F e O _ st er h fun items O1 F1 H1 J h1 g1 it => ?_
  obtain ⟨G, Y, w, hG, hY⟩ := it.ok
  refine for_it w (fun i σ2 H2 => ∃ F2 e2 O2, Go X.K F1 O1 H1 F2 O2 H2 ∧ ERep X.K F2 σ2 e2 ∧ dLoop g tb k (items.drop i) e2 O2) ⟨F1, e, O1, g1.stt.go, er.mono g1.same, h1⟩ ?_ ?_ ?_
  · rintro i σ2 H2 _ ⟨F2, e2, O2, g2, _⟩
    exact hG H2 (g2.same.trans g2.stt.same)
  · rintro i x σ2 H2 H3 hin ⟨F2, e2, O2, g2, er2, h2⟩ y
    obtain ⟨d, F3, hd, g3, rd⟩ := hY i H2 x H3 F2 O2 hin g2.same g2.stt y
    have hdr : items.drop i = d :: items.drop (i + 1) := by
      rw [List.drop_eq_getElem_cons hin]
      congr 1
      rw [List.getElem?_eq_getElem hin] at hd
      exact Option.some.inj hd
    rw [hdr] at h2
    unfold dLoop at h2
    refine hg.ok x d F3 e2 O2 σ2 H3 _ _ g3.stt (er2.mono g3.same) rd h2 fun e4 σ4 h4 er4 _ => ⟨F3, e4, O2, _, g3.stt, er4, h4, ?_⟩
    have gg := g1.trans (g2.trans g3)
    have nx : OutsS X.K F3 O2 H3 (dLoop g tb k (items.drop (i + 1))) (fun σ2 H2 => ∃ F2 e2 O2, Go X.K F1 O1 H1 F2 O2 H2 ∧ ERep X.K F2 σ2 e2 ∧ dLoop g tb k (items.drop (i + 1)) e2 O2) :=
      fun e5 O5 F5 H5 σ5 h5 g5 er5 => ⟨F5, e5, O5, g2.trans (g3.trans g5), er5, h5⟩
    exact ⟨nx, o.rt.after gg, o.nx.after gg, nx⟩
  · rintro σ2 H2 ⟨F2, e2, O2, g2, er2, h2⟩
    rw [List.drop_length] at h2
    exact o.nx _ _ _ _ _ h2 (g1.trans g2) er2
/-- while -/
def dWhile (c : DT) (body : DS) : DS := fun k e O => ∃ W : Nat → DV → OH → Prop, (∃ m, W m e O) ∧ ∀ m e O, W m e O → c e O fun b O1 => match b with
  | true => body { nx := fun e1 O1 => ∃ m', m' < m ∧ W m' e1 O1, rt := k.rt, bk := k.nx, ct := fun e1 O1 => ∃ m', m' < m ∧ W m' e1 O1 } e O1
  | false => k.nx e O1
theorem psd_while {body : List Stmt} {tb : DS} (hp : PassesOwn (model X.prog X.w) X.A X.env X.xe) (hc : PTD X c dt) (hb : PBD X body tb) : PSD X (.While c body [] pos) (dWhile dt tb) := by
  refine ⟨PS.weak (ps_while hp hc.pt hb.pb) fun D σ H h => ?_⟩
  obtain ⟨F, e, O, k, st, er, ⟨W, ⟨m0, w0⟩, turn⟩, o⟩ := h
  refine ⟨fun m σ2 H2 => ∃ F2 e2 O2, Go X.K F O H F2 O2 H2 ∧ ERep X.K F2 σ2 e2 ∧ W m e2 O2, ⟨m0, F, e, O, st.go, er, w0⟩, ?_⟩
  rintro m σ2 H2 ⟨F2, e2, O2, g2, er2, w2⟩
  refine ⟨F2, e2, O2, _, g2.stt, er2, turn m e2 O2 w2, fun b O3 F3 H3 h3 g3 => ?_⟩
  cases b with
  | true =>
    rw [if_pos rfl]
    refine ⟨fun σ' H' => ∃ m', m' < m ∧ ∃ F2 e2 O2, Go X.K F O H F2 O2 H' ∧ ERep X.K F2 σ' e2 ∧ W m' e2 O2, fun _ _ z => z, F3, e2, O3, _, g3.stt, er2.mono g3.same, h3, ?_⟩
    have nx : OutsS X.K F3 O3 H3 (fun e1 O1 => ∃ m', m' < m ∧ W m' e1 O1) (fun σ' H' => ∃ m', m' < m ∧ ∃ F2 e2 O2, Go X.K F O H F2 O2 H' ∧ ERep X.K F2 σ' e2 ∧ W m' e2 O2) :=
      fun e5 O5 F5 H5 σ5 ⟨m', hm, h5⟩ g5 er5 => ⟨m', hm, F5, e5, O5, g2.trans (g3.trans g5), er5, h5⟩
    exact ⟨nx, o.rt.after (g2.trans g3), o.nx.after (g2.trans g3), nx⟩
  | false =>
    rw [if_neg (by decide)]
    exact o.nx _ _ _ _ _ h3 (g2.trans g3) (er2.mono g3.same)
end
/-! ### name = [.. for ..], a name that is no cell -/
section
variable {X : Cx}
theorem psd_setLc {i : Nat} {y : Str} {py : Pos} {elt tg iter : Expr} {ifs : List Expr} {scope : Scope} {own : List (Str × Nat)} {pos spos : Pos} {di : DI} {gt : TG} {g : DG} {tt : DT} {te : DE} {js : List Nat} (hc : X.calm = true) (hN : X.N.Nodup) (hy : X.N[i]? = some y) (hyl : X.env.scope.names.lookup y = some .local)
    (hsw : swapsWith (.ListComp elt [⟨tg, iter, ifs, 0⟩] scope pos) (some (.Name y py)) spos.line X.env = pure true) (hi : PID X tg iter di) (ok : BlkOk X.N X.env.scope scope own)
    (hjs : ∀ i ∈ js, i ∈ own.map (·.2)) (hg : ∀ (s : Shared) (H : Hp) (C : Addr) (cl : List (Str × Addr)) (fp : List Addr), PGD (X.blk s H scope (compEnvC scope cl C X.env) fp) tg gt g js)
    (ht : ∀ (s : Shared) (H : Hp) (C : Addr) (cl : List (Str × Addr)) (fp : List Addr), PTsD (X.blk s H scope (compEnvC scope cl C X.env) fp) ifs tt)
    (he : ∀ (s : Shared) (H : Hp) (C : Addr) (cl : List (Str × Addr)) (fp : List Addr), PD (X.blk s H scope (compEnvC scope cl C X.env) fp) elt te) (hs : ∀ x, foldedSetIterable iter X.env x = pure x := by intro _; rfl) :
    PSD X (.Assign [.Name y py] (.ListComp elt [⟨tg, iter, ifs, 0⟩] scope pos) spos) (dSet i (dComp di g tt te (own.map (·.2)))) := by
  obtain ⟨wi, p, q⟩ := hi.pi
  refine ⟨⟨fun pins s σ H D I h => (ps_setLc (tt := upT X.K tt) (te := upE X.K te) hc hN hy hyl hsw p ok (fun s H C cl fp => (hg s H C cl fp).pg) (fun s H C cl fp => (ht s H C cl fp).pts) (fun s H C cl fp => (he s H C cl fp).pe) hs).run pins s σ H D I ?_⟩⟩
  obtain ⟨F, e, O, k, st, er, h, o⟩ := h
  exact up_lc hjs q (hg s H 0 [] []).ok ⟨F, e, O, _, st, er, h, fun d O1 F1 H1 v h1 g1 r1 => o.nx _ _ _ _ _ h1 g1 ((er.mono g1.same).set r1 i)⟩
theorem psd_setLcO {i : Nat} {y : Str} {py : Pos} {elt tg iter : Expr} {ifs : List Expr} {scope : Scope} {own : List (Str × Nat)} {pos spos : Pos} {di : DI} {gt : TG} {g : DG} {tt : DT} {te : DE} {js : List Nat} (hc : X.calm = true) (hN : X.N.Nodup) (hy : X.N[i]? = some y) (hyl : X.env.scope.names.lookup y = some .local)
    (hsw : swapsWith (.ListComp elt [⟨tg, iter, ifs, 0⟩] scope pos) (some (.Name y py)) spos.line X.env = pure true) (hi : PID X tg iter di) (ok : BlkOk X.N X.env.scope scope own)
    (hjs : ∀ i ∈ js, i ∈ own.map (·.2)) (hg : ∀ (s : Shared) (H : Hp) (C : Addr) (cl : List (Str × Addr)) (fp : List Addr), PGD (X.blk s H scope (compEnvC scope cl C X.env) fp) tg gt g js)
    (ht : ∀ (s : Shared) (H : Hp) (C : Addr) (cl : List (Str × Addr)) (fp : List Addr), PTsD (X.blk s H scope (compEnvC scope cl C X.env) fp) ifs tt)
    (he : ∀ (s : Shared) (H : Hp) (C : Addr) (cl : List (Str × Addr)) (fp : List Addr), PD (X.blk s H scope (compEnvC scope cl C X.env) fp) elt te) (hs : ∀ x, foldedSetIterable iter X.env x = pure x := by intro _; rfl) :
    PSD X (.Assign [.Name y py] (.ListComp elt [⟨tg, iter, ifs, 0⟩] scope pos) spos) (dSet i (dCompO di g tt te (own.map (·.2)))) := by
  obtain ⟨wi, p, q⟩ := hi.pi
  refine ⟨⟨fun pins s σ H D I h => (ps_setLc (tt := upT X.K tt) (te := upE X.K te) hc hN hy hyl hsw p ok (fun s H C cl fp => (hg s H C cl fp).pg) (fun s H C cl fp => (ht s H C cl fp).pts) (fun s H C cl fp => (he s H C cl fp).pe) hs).run pins s σ H D I ?_⟩⟩
  obtain ⟨F, e, O, k, st, er, h, o⟩ := h
  exact up_lcO hjs q (hg s H 0 [] []).ok ⟨F, e, O, _, st, er, h, fun d O1 F1 H1 v h1 g1 r1 => o.nx _ _ _ _ _ h1 g1 ((er.mono g1.same).set r1 i)⟩
end
/-! ### defs -/
section
variable {P : Program} {w : World} {K : PySem.W.Frag} {mg : Str → Option Value} {base : Heap}
def startD (N : List Str) (ds : List D) : DV := ds.map some ++ List.replicate (N.length - ds.length) none
theorem erep_nones {F : Hp} : ∀ n, ERep K F (List.replicate n none) (List.replicate n none)
  | 0 => .nil
  | n + 1 => .none (erep_nones n)
theorem erep_start {F : Hp} {vs : List V} {ds : List D} (r : Reps K F vs ds) (N : List Str) : ERep K F (L2.start N vs) (startD N ds) := by
  unfold L2.start startD
  rw [r.length]
  generalize N.length - ds.length = n
  induction vs generalizing ds with
  | nil => cases r; exact erep_nones n
  | cons v vs ih => cases r with
    | cons r1 r2 => exact .some r1 (ih r2)
/-- a def's body keeps its promise, on trees -/
theorem okD {x qual : Str} {st : Stmt} {f : Addr} {fd : FuncData} {N ps : List Str} {k : Nat} {sp : DSp} (F : Fun K x qual st f fd) (S : FnScope N ps (defScope st)) (len : ∀ ds O k, sp ds O k → ds.length = ps.length)
    (hbody : ∀ (cdv : Value) (A : Around) (outer : List Env) (s : Shared) (H : Hp) (E : XK), Room k (A.deeper (envOfC qual (defScope st) s.heap.objs.size f cdv)) →
      ∃ t : DS, PBD (cxOf CX0 P w K mg base N qual (defScope st) f cdv A outer s H E).nox (defBody st) t ∧ ∀ ds O (kk : D → OH → Prop), sp ds O kk → t { nx := fun _ O' => kk .non O', rt := kk } (startD N ds) O) :
    FnOk P w K mg base CX0 (k + 1) f fd ps (upSp K sp) := by
  refine F.ok S (fun vs H Q E h => ?_) fun cdv A outer s H vs Q E hr h => ?_
  · obtain ⟨F, ds, O, k, st, r, h, o⟩ := h
    rw [r.length]
    exact len _ _ _ h
  · obtain ⟨t, p, q⟩ := hbody cdv A outer s H E hr
    obtain ⟨F, ds, O, kk, st, r, h, o⟩ := h
    exact ⟨_, p.pb, F, _, O, _, st, erep_start r N, q ds O kk h, fun e' O' F' H' σ' h' g' _ => o _ _ _ _ _ h' g' .non, o, fun _ _ _ _ _ z => z.elim, fun _ _ _ _ _ z => z.elim⟩
end
end SC
namespace SC
open PySem PySem.Spec PyProof.Rows L2
variable [TabL] [XCx]
/-! ### more operations -/
section
variable {X : Cx} {a b c : Expr} {pos : Pos} {da db dc : DE}
/-- a + b: ints, texts, tuples, lists -/
def rAddA (K : PySem.W.Frag) : R2 := fun x y H Q => (∃ i j, x = .int i ∧ y = .int j ∧ Q (.int (i + j)) H) ∨ (rCatA K x y H Q ∨ rCat x y H Q)
def dAddA : R2D := fun a b O k => match a, b with
  | .int i, .int j => k (.int (i + j)) O
  | .tup xs, .tup ys => xs.length + ys.length ≤ sizeLine ∧ k (.tup (xs ++ ys)) O
  | .lst xs, .lst ys => xs.length + ys.length ≤ sizeLine ∧ k (.lst (xs ++ ys)) O
  | _, _ => False
theorem od_add {K : PySem.W.Frag} : OpD K (rAddA K) dAddA := by
  intro x y a b F O H k Q st ra rb h o
  unfold dAddA at h
  split at h
  · cases ra; cases rb
    exact .inl ⟨_, _, rfl, rfl, o _ _ _ _ _ h st.go (.int _)⟩
  · cases ra with
    | tup q rr => cases rb with
      | tup q2 rr2 =>
        refine .inr (.inl ⟨_, _, _, _, rfl, rfl, Same.seqT st.same q, Same.seqT st.same q2, by rw [rr.length, rr2.length]; exact h.1, fun z => ?_, fun _ z => ?_, fun _ _ p n => ?_⟩)
        · subst z
          cases rr
          exact o _ _ _ _ _ h.2 st.go (.tup q2 rr2)
        · subst z
          cases rr2
          exact o _ _ _ _ _ h.2 st.go (.tup q (by rw [List.append_nil]; exact rr))
        · exact o _ _ _ _ _ h.2 (st.made n) (.tup (.of upd_same) ((rr.append rr2).mono (same_upd (free_F st n))))
  · cases ra with
    | lst q rr => cases rb with
      | lst q2 rr2 => exact .inr (.inr ⟨_, _, _, _, rfl, rfl, st.same _ _ q, st.same _ _ q2, by rw [rr.length, rr2.length]; exact h.1, fun p n => o _ _ _ _ _ h.2 (st.made n) (.lst upd_same ((rr.append rr2).mono (same_upd (free_F st n))))⟩)
  · exact h.elim
theorem pd_addA (ha : PD X a da) (hb : PD X b db) : PD X (.BinOp a .Add b pos) (dOp dAddA da db) := pd_op (OpR.or op_add (OpR.or op_catA op_cat)) od_add ha hb
/-- in, of flat items -/
def flatF : D → Bool
  | .non => true | .bl _ => true | .int _ => true | .str _ => true
  | _ => false
noncomputable def eqF : D → D → Bool
  | .non, .non => true
  | .bl a, .bl b => a == b
  | .bl a, .int b => (if a then 1 else 0) == b
  | .int a, .bl b => a == (if b then 1 else 0)
  | .int a, .int b => a == b
  | .str a, .str b => strEq a b
  | _, _ => false
theorem flatF_V {K : PySem.W.Frag} {F : Hp} {x : V} {d : D} (r : Rep K F x d) (h : flatF d = true) : flatV x = true := by cases r <;> first | rfl | cases h
theorem eqF_V {K : PySem.W.Frag} {F : Hp} {x y : V} {c d : D} (r : Rep K F x c) (s : Rep K F y d) (hc : flatF c = true) (hd : flatF d = true) : eqV x y = eqF c d := by
  cases r <;> first | (cases hc; done) | (cases s <;> first | rfl | (cases hd; done) | (show (_ == _) = strEq _ _; rw [strEq_eq, Bool.beq_eq_decide_eq]))
theorem flatF_all {K : PySem.W.Frag} {F : Hp} : ∀ {vs : List V} {ds : List D}, Reps K F vs ds → ds.all flatF = true → vs.all flatV = true
  | _, _, .nil, _ => rfl
  | _, _, .cons r rr, h => by
    simp only [List.all_cons, Bool.and_eq_true] at h ⊢
    exact ⟨flatF_V r h.1, flatF_all rr h.2⟩
theorem inF_V {K : PySem.W.Frag} {F : Hp} {x : V} {d : D} (r : Rep K F x d) (hd : flatF d = true) : ∀ {vs : List V} {ds : List D}, Reps K F vs ds → ds.all flatF = true → inV x vs = ds.any fun y => eqF y d
  | _, _, .nil, _ => rfl
  | _, _, .cons s rr, h => by
    simp only [List.all_cons, Bool.and_eq_true] at h
    have z := inF_V r hd rr h.2
    unfold inV at z ⊢
    rw [List.any_cons, List.any_cons, z, eqF_V s r h.1 hd]
noncomputable def dIn (neg : Bool) : R2D := fun a b O k => match b with
  | .tup xs => (flatF a = true ∧ xs.all flatF = true) ∧ k (.bl (if neg then !(xs.any fun y => eqF y a) else xs.any fun y => eqF y a)) O
  | .lst xs => (flatF a = true ∧ xs.all flatF = true) ∧ k (.bl (if neg then !(xs.any fun y => eqF y a) else xs.any fun y => eqF y a)) O
  | _ => False
theorem od_in {K : PySem.W.Frag} {neg : Bool} : OpD K (rIn K neg) (dIn neg) := by
  intro x y a b F O H k Q st ra rb h o
  unfold dIn at h
  split at h
  · cases rb with
    | tup q rr => exact ⟨_, _, rfl, .inr (Same.seqT st.same q), flatF_V ra h.1.1, flatF_all rr h.1.2, by rw [inF_V ra h.1.1 rr h.1.2]; exact o _ _ _ _ _ h.2 st.go (.bl _)⟩
  · cases rb with
    | lst q rr => exact ⟨_, _, rfl, .inl (.of (st.same _ _ q)), flatF_V ra h.1.1, flatF_all rr h.1.2, by rw [inF_V ra h.1.1 rr h.1.2]; exact o _ _ _ _ _ h.2 st.go (.bl _)⟩
  · exact h.elim
theorem pd_in (ha : PD X a da) (hb : PD X b db) (hm : behindInMarks .In b = false := by rfl) : PD X (.Compare a [.In] [b] pos) (dOp (dIn false) da db) := pd_cmp op_in_seq od_in ha hb hm
theorem ptd_in (ha : PD X a da) (hb : PD X b db) (hm : behindInMarks .In b = false := by rfl) : PTD X (.Compare a [.In] [b] pos) (dB (dOp (dIn false) da db)) := ptd_cmp op_in_seq od_in ha hb hm
omit [TabL] [XCx] in
/-- a written tuple of texts at the top -/
theorem rep_txts {K : PySem.W.Frag} {a : Addr} {od : Option Addr} {xs : List Str} {its : List Value} {n : Nat} {sl : Array (Option Value)} (l : K.lookup a = some ⟨.type "tuple", od, .seq its.toArray n, sl⟩) (r : Vals (xs.map V.str) its) (hz : its.length ≤ 1000) (F : Hp) :
    Rep K F (.ref a) (.tup (xs.map D.str)) := by
  refine .tup (xs := xs.map V.str) (.inr ⟨_, _, _, l, rfl, rfl, ?_, ?_⟩) ?_
  · simpa using Nat.le_of_lt (small1000 hz)
  · simpa using r
  · clear r l
    induction xs with
    | nil => exact .nil
    | cons x xs ih => exact .cons (.str x) ih
end
def dPar3 (i j l : Nat) (t : DA) : DS := fun k e O => t e O fun xs O1 => match xs with
  | [u, v, w] => k.nx (((e.set i (some u)).set j (some v)).set l (some w)) O1
  | _ => False
theorem psd_par3 {X : Cx} {i j l : Nat} {x y z : Str} {a b c : Expr} {ta : DA} {px py pz pt pos : Pos} {kt k2 pt2} (hc : X.calm = true) (hN : X.N.Nodup) (hi : X.N[i]? = some x) (hj : X.N[j]? = some y) (hl : X.N[l]? = some z) (hij : i ≠ j) (hil : i ≠ l) (hjl : j ≠ l)
    (hx : X.env.scope.names.lookup x = some .local) (hy : X.env.scope.names.lookup y = some .local) (hz : X.env.scope.names.lookup z = some .local) (ha : PAD X [a, b, c] ta)
    (hw : swappedStores [.Tuple [.Name x px, .Name y py, .Name z pz] kt pt] (.Tuple [a, b, c] k2 pt2) X.env = pure (some [x, y, z]))
    (hs : swapsWithSole [.Tuple [.Name x px, .Name y py, .Name z pz] kt pt] (.Tuple [a, b, c] k2 pt2) pos.line X.env = pure false := by rfl) :
    PSD X (.Assign [.Tuple [.Name x px, .Name y py, .Name z pz] kt pt] (.Tuple [a, b, c] k2 pt2) pos) (dPar3 i j l ta) := by
  refine ⟨PS.weak (ps_par3 hc hN hi hj hl hij hil hjl hx hy hz ha.pa hw hs) fun D σ H h => ?_⟩
  obtain ⟨F, e, O, k, st, er, h, o⟩ := h
  refine ⟨F, e, O, _, st, er, h, fun ds O1 F1 H1 vs h1 g1 r1 => ?_⟩
  try dsimp only at h1
  split at h1
  · cases r1 with
    | cons r1 r2 => cases r2 with
      | cons r2 r3 => cases r3 with
        | cons r3 r4 =>
          cases r4
          exact ⟨_, _, _, rfl, o.nx _ _ _ _ _ h1 g1 ((((er.mono g1.same).set r1 i).set r2 j).set r3 l)⟩
  · exact h1.elim
/-! ### subscripts by small numbers, for simp -/
section
variable {α : Type} {x y z w v : α} {xs : List α}
theorem atI_0 : atI (x :: xs) 0 = some x := atI_nat (j := 0) rfl
theorem atI_1 : atI (x :: y :: xs) 1 = some y := atI_nat (j := 1) rfl
theorem atI_2 : atI (x :: y :: z :: xs) 2 = some z := atI_nat (j := 2) rfl
theorem atI_3 : atI (x :: y :: z :: w :: xs) 3 = some w := atI_nat (j := 3) rfl
theorem atI_4 : atI (x :: y :: z :: w :: v :: xs) 4 = some v := atI_nat (j := 4) rfl
end
end SC
namespace SC
open PySem PySem.Spec PyProof.Rows L2
variable [TabL] [XCx]
/-! ### zip of three tuples -/
def Itz3 (K : PySem.W.Frag) (a b c : Addr) : It :=
  ⟨fun i H => ∃ (xs ys zs : List V) (x y z : V), SqT K H a xs ∧ SqT K H b ys ∧ SqT K H c zs ∧ xs[i]? = some x ∧ ys[i]? = some y ∧ zs[i]? = some z,
    fun i H v H' => ∃ T x y z, v = .ref T ∧ H T = none ∧ H' = upd H T (.tup [x, y, z]) ∧ (∀ xs, SqT K H a xs → xs[i]? = some x) ∧ (∀ ys, SqT K H b ys → ys[i]? = some y) ∧ ∀ zs, SqT K H c zs → zs[i]? = some z,
    fun i H => ∃ xs ys zs : List V, SqT K H a xs ∧ SqT K H b ys ∧ SqT K H c zs ∧ xs.length = ys.length ∧ xs.length = zs.length ∧ i = xs.length⟩
structure Sep3 (z TI TO i1 i2 i3 a b c : Addr) : Prop where
  s : ZipSep3 z TI TO i1 i2 i3 [i1, a] [i2, b] [i3, c]
  a1 : a ≠ i1
  b2 : b ≠ i2
  c3 : c ≠ i3
  i1z : i1 ≠ z
  i2z : i2 ≠ z
  i3z : i3 ≠ z
theorem tupIter_at {h h' : Heap} {it l : Addr} {i : Nat} (x : h.IsTupleIter it l i) (k : ∀ o, h.get? it = some o → h'.get? it = some o) : h'.IsTupleIter it l i := x.at k
theorem turn_zip3 {P : Program} {w : World} {K : PySem.W.Frag} {elts : List Expr} {kk : Nat} {tpos : Pos} {a b c z TI TO i1 i2 i3 : Addr} (D : Sep3 z TI TO i1 i2 i3 a b c) :
    Turn P w K (.Tuple elts kk tpos) (Itz3 K a b c) [z, TI, TO, i1, i2, i3] z (fun i h => IsZip h z TI TO .none ∧ IsTupOf3 h TI (.ref i1) (.ref i2) (.ref i3) ∧ (∃ x y u, IsTupOf3 h TO x y u) ∧ h.IsTupleIter i1 a i ∧ h.IsTupleIter i2 b i ∧ h.IsTupleIter i3 c i) where
  mem := by simp
  obj := fun i h st e he => by
    obtain ⟨hz, hTI, ⟨x, y, u, hTO⟩, ⟨o1, e1, _, d1⟩, ⟨o2, e2, _, d2⟩, ⟨o3, e3, _, d3⟩⟩ := st
    have e' : e = z ∨ e = TI ∨ e = TO ∨ e = i1 ∨ e = i2 ∨ e = i3 := by simpa using he
    rcases e' with q | q | q | q | q | q
    · rw [q]; exact ⟨_, hz, fun v q => nomatch q⟩
    · rw [q]; exact ⟨_, hTI, fun v q => nomatch q⟩
    · rw [q]; exact ⟨_, hTO, fun v q => nomatch q⟩
    · rw [q]; exact ⟨o1, e1, fun v q => by rw [d1] at q; cases q⟩
    · rw [q]; exact ⟨o2, e2, fun v q => by rw [d2] at q; cases q⟩
    · rw [q]; exact ⟨o3, e3, fun v q => by rw [d3] at q; cases q⟩
  keep := fun i h h' st k => by
    obtain ⟨hz, hTI, ⟨x, y, u, hTO⟩, h1, h2, h3⟩ := st
    exact ⟨k z (by simp) _ hz, k TI (by simp) _ hTI, ⟨x, y, u, k TO (by simp) _ hTO⟩, h1.at fun o q => k i1 (by simp) o q, h2.at fun o q => k i2 (by simp) o q, h3.at fun o q => k i3 (by simp) o q⟩
  item := by
    intro X hP hw hK hc i pins s σ H E I hf st hg
    subst hP hw hK
    obtain ⟨hz, hTI, ⟨x0, y0, u0, hTO⟩, h1, h2, h3⟩ := st
    obtain ⟨xs, ys, zs, x, y, u, hqx, hqy, hqz, hx, hy, hu⟩ := hg
    obtain ⟨its1, rv1, p1, _⟩ := I.tuple hqx
    obtain ⟨its2, rv2, p2, _⟩ := I.tuple hqy
    obtain ⟨its3, rv3, p3, _⟩ := I.tuple hqz
    obtain ⟨v1, hv1, r1⟩ := rv1.get hx
    obtain ⟨v2, hv2, r2⟩ := rv2.get hy
    obtain ⟨v3, hv3, r3⟩ := rv3.get hu
    have hzl : z < s.heap.objs.size := Heap.lt_size hz
    have lt {its : List Value} {v : Value} (e : its[i]? = some v) : i < its.toArray.size := by rw [List.size_toArray]; exact (List.getElem?_eq_some_iff.mp e).1
    refine wpAny_pyNext_zipD3_item D.s (Draws.tuple (prog := X.prog) (w := X.w) (A := X.A.in1) (show X.A.in1.handled = none from I.ok.hd hc) i1 a D.a1 its1.toArray) (Draws.tuple (prog := X.prog) (w := X.w) (A := X.A.in1) (show X.A.in1.handled = none from I.ok.hd hc) i2 b D.b2 its2.toArray) (Draws.tuple (prog := X.prog) (w := X.w) (A := X.A.in1) (show X.A.in1.handled = none from I.ok.hd hc) i3 c D.c3 its3.toArray) hz hTI hTO
      ⟨h1, p1⟩ ⟨h2, p2⟩ ⟨h3, p3⟩ (lt hv1) (lt hv2) (lt hv3) fun w1 w2 w3 h' tk q1 q2 q3 z' TO' t1 t2 t3 hT hsz hk => ?_
    have e1 : w1 = v1 := Option.some.inj (q1.symm.trans (by simpa using hv1))
    have e2 : w2 = v2 := Option.some.inj (q2.symm.trans (by simpa using hv2))
    have e3 : w3 = v3 := Option.some.inj (q3.symm.trans (by simpa using hv3))
    subst e1 e2 e3
    refine ⟨_, rfl, wpAny_letOwnedTupleGo_zip (s := { s with heap := h', toks := tk }) z' fun h'' z'' sb => ?_⟩
    have hT2 : h''.get? s.heap.objs.size = some { cls := .type "tuple", data := .seq #[w1, w2, w3] } := (sb.2 _ (Nat.ne_of_gt hzl)).trans hT
    have new : ObjOk X.prog X.w (upd H s.heap.objs.size (.tup [x, y, u])) h'' s.heap.objs.size (.tup [x, y, u]) :=
      ⟨by show 3 ≤ sizeLine; decide, [w1, w2, w3], .cons r1 (.cons r2 (.cons r3 .nil)), ⟨_, hT2, rfl, _, rfl⟩⟩
    have I1 : Inv X pins σ (upd H s.heap.objs.size (.tup [x, y, u])) { s with heap := h'', toks := tk } :=
      I.turnedNew (t' := tk) (ch := [z, TI, TO, i1, i2, i3]) (fun c o hb q => (sb.2 c (fun q' => hb (by simp [q']))).trans (hk c o (fun q' => hb (by simp [q'])) (fun q' => hb (by simp [q'])) (fun q' => hb (by simp [q'])) (fun q' => hb (by simp [q'])) (fun q' => hb (by simp [q'])) q)) hf (Nat.le_refl _) new
    refine ⟨.ref s.heap.objs.size, _, I1, rfl, ⟨_, x, y, u, rfl, I.hok.fresh (Nat.le_refl _), rfl, fun l hl => by rw [I.tuple_inj hl hqx]; exact hx, fun l hl => by rw [I.tuple_inj hl hqy]; exact hy, fun l hl => by rw [I.tuple_inj hl hqz]; exact hu⟩, ⟨z'', ?_, ⟨w1, w2, w3, ?_⟩, ?_, ?_, ?_⟩, fun e hem => ?_⟩
    · exact (sb.2 _ D.s.TIz).trans (hk _ _ D.s.TIz D.s.TITO D.s.TIi1 D.s.TIi2 D.s.TIi3 hTI)
    · exact (sb.2 _ D.s.TOz).trans TO'
    · exact t1.1.at fun o q => (sb.2 _ D.i1z).trans q
    · exact t2.1.at fun o q => (sb.2 _ D.i2z).trans q
    · exact t3.1.at fun o q => (sb.2 _ D.i3z).trans q
    · have hlt : e < s.heap.objs.size := by
        have e' : e = z ∨ e = TI ∨ e = TO ∨ e = i1 ∨ e = i2 ∨ e = i3 := by simpa using hem
        rcases e' with q | q | q | q | q | q
        · rw [q]; exact hzl
        · rw [q]; exact Heap.lt_size hTI
        · rw [q]; exact Heap.lt_size hTO
        · rw [q]; obtain ⟨_, e1, _⟩ := h1; exact Heap.lt_size e1
        · rw [q]; obtain ⟨_, e1, _⟩ := h2; exact Heap.lt_size e1
        · rw [q]; obtain ⟨_, e1, _⟩ := h3; exact Heap.lt_size e1
      rw [upd_ne (Nat.ne_of_lt hlt)]
      exact (hf e hem).1
  done := by
    intro X hP hw hK hc i pins s σ H E I hf st hg
    subst hP hw hK
    obtain ⟨hz, hTI, ⟨x0, y0, u0, hTO⟩, h1, h2, h3⟩ := st
    obtain ⟨xs, ys, zs, hqx, hqy, hqz, l1, l2, rfl⟩ := hg
    obtain ⟨its1, rv1, p1, _⟩ := I.tuple hqx
    obtain ⟨its2, rv2, p2, _⟩ := I.tuple hqy
    obtain ⟨its3, rv3, p3, _⟩ := I.tuple hqz
    have m1 := rv1.length
    have m2 := rv2.length
    have m3 := rv3.length
    refine wpAny_pyNext_zipD3_end D.s (Draws.tuple (prog := X.prog) (w := X.w) (A := X.A.in1) (show X.A.in1.handled = none from I.ok.hd hc) i1 a D.a1 its1.toArray) (Draws.tuple (prog := X.prog) (w := X.w) (A := X.A.in1) (show X.A.in1.handled = none from I.ok.hd hc) i2 b D.b2 its2.toArray) (Draws.tuple (prog := X.prog) (w := X.w) (A := X.A.in1) (show X.A.in1.handled = none from I.ok.hd hc) i3 c D.c3 its3.toArray) hz hTI hTO
      ⟨h1, p1⟩ ⟨h2, p2⟩ ⟨h3, p3⟩ (by rw [List.size_toArray]; omega) (by rw [List.size_toArray]; omega) (by rw [List.size_toArray]; omega) (.inl (by rw [List.size_toArray]; omega)) fun h' tk hk => ?_
    exact ⟨rfl, I.turnedL (t' := tk) (ch := [z, TI, TO, i1, i2, i3]) (fun c o hb q =>
      hk c o (fun q' => hb (by simp [q'])) (fun q' => hb (by simp [q'])) (fun q' => hb (by simp [q'])) (fun q' => hb (by simp [q'])) (fun q' => hb (by simp [q'])) q) hf⟩
  self := fun A i s Q E st h => wpAny_pyIter_zip st.1 h
def iZip3 (K : PySem.W.Frag) (ta : TA) : TI := fun σ H R => ta σ H fun vs H1 => ∃ a b c xs ys zs, vs = [.ref a, .ref b, .ref c] ∧ SqT K H1 a xs ∧ SqT K H1 b ys ∧ SqT K H1 c zs ∧ R (Itz3 K a b c) H1
theorem pi_zip3 {X : Cx} {e e2 e3 : Expr} {ta : TA} {p pos tpos : Pos} {elts : List Expr} {kk : Nat} (hg : Gl X "zip") (hm : X.mg "zip" = none) (ha : PA X [e, e2, e3] ta)
    (hs : starEach [e, e2, e3] X.env = (false, eval e X.env) :: starEach [e2, e3] X.env := by rfl) (hpl : (backTo pos (starEach [e2, e3] X.env)).any (·.1) = false := by rfl) :
    PI X (.Tuple elts kk tpos) (.Call (.Name "zip" p) [e, e2, e3] [] pos) (iZip3 X.K ta) := by
  refine ⟨fun pins s σ H R I h => ?_⟩
  refine Call_ (ld_blt I hg hm PyProof.Rows.boot_zip (PyProof.Rows.callWith_type1 (thn (ha.run pos pins s σ H _ I h) fun us s1 ⟨vs, H1, I1, r1, q1⟩ => ?_) hs hpl))
  obtain ⟨a, b, c, xs, ys, zs, ex, hqx, hqy, hqz, q⟩ := q1
  subst ex
  cases r1 with
  | cons r rr => cases rr with
    | cons r' rr => cases rr with
      | cons r'' rr =>
        cases rr; cases r; cases r'; cases r''
        obtain ⟨its1, rv1, p1, _⟩ := I1.tuple hqx
        obtain ⟨its2, rv2, p2, _⟩ := I1.tuple hqy
        obtain ⟨its3, rv3, p3, _⟩ := I1.tuple hqz
        have ha : a < s1.heap.objs.size := p1.lt
        have hb : b < s1.heap.objs.size := p2.lt
        have hc : c < s1.heap.objs.size := p3.lt
        refine zip_begins3 (begins_tuple a its1.toArray) (begins_tuple b its2.toArray) (begins_tuple c its3.toArray) p1 p2 p3 fun h' hz hTI hTO h1 h2 h3 hsz hk => wpAny_pyIter_zip hz ?_
        have I2 : Inv X pins σ H1 { s1 with heap := h' } := I1.kept (t' := s1.toks) hk
        have fresh6 : ∀ c, c ∈ [s1.heap.objs.size + 5, s1.heap.objs.size + 3, s1.heap.objs.size + 4, s1.heap.objs.size, s1.heap.objs.size + 1, s1.heap.objs.size + 2] → FpOk X pins H1 c := fun c hcm => by
          have e' : c = s1.heap.objs.size + 5 ∨ c = s1.heap.objs.size + 3 ∨ c = s1.heap.objs.size + 4 ∨ c = s1.heap.objs.size ∨ c = s1.heap.objs.size + 1 ∨ c = s1.heap.objs.size + 2 := by simpa using hcm
          have hle : s1.heap.objs.size ≤ c := by
            rcases e' with z | z | z | z | z | z <;> rw [z] <;> first | exact Nat.le_refl _ | exact Nat.le_add_right _ _
          exact I1.fpOk hle (I1.hok.fresh hle)
        have sep := zip_sep3 (N := s1.heap.objs.size) (fp1 := [a]) (fp2 := [b]) (fp3 := [c]) (fun e he => by rw [List.mem_singleton.mp he]; exact ha) (fun e he => by rw [List.mem_singleton.mp he]; exact hb) (fun e he => by rw [List.mem_singleton.mp he]; exact hc)
        exact ⟨s1.heap.objs.size + 5, [s1.heap.objs.size + 5, s1.heap.objs.size + 3, s1.heap.objs.size + 4, s1.heap.objs.size, s1.heap.objs.size + 1, s1.heap.objs.size + 2], _, _, H1, rfl, I2,
          turn_zip3 ⟨sep, Nat.ne_of_lt ha, Nat.ne_of_lt (Nat.lt_succ_of_lt hb), Nat.ne_of_lt (Nat.lt_succ_of_lt (Nat.lt_succ_of_lt hc)), show (s1.heap.objs.size : Nat) ≠ s1.heap.objs.size + 5 by omega, show (s1.heap.objs.size + 1 : Nat) ≠ s1.heap.objs.size + 5 by omega, show (s1.heap.objs.size + 2 : Nat) ≠ s1.heap.objs.size + 5 by omega⟩,
          ⟨hz, hTI, ⟨_, _, _, hTO⟩, ⟨_, h1, rfl, rfl⟩, ⟨_, h2, rfl, rfl⟩, ⟨_, h3, rfl, rfl⟩⟩, fresh6, q⟩
def trip : List D → List D → List D → List D
  | x :: xs, y :: ys, z :: zs => .tup [x, y, z] :: trip xs ys zs
  | _, _, _ => []
theorem trip_length : ∀ xs ys zs : List D, xs.length = ys.length → xs.length = zs.length → (trip xs ys zs).length = xs.length
  | [], _, _, _, _ => by simp [trip]
  | x :: xs, [], _, h, _ => by simp at h
  | x :: xs, _ :: _, [], _, h => by simp at h
  | x :: xs, y :: ys, z :: zs, h1, h2 => by simp [trip, trip_length xs ys zs (by simpa using h1) (by simpa using h2)]
theorem trip_get : ∀ (xs ys zs : List D) (i : Nat) (x y z : D), xs[i]? = some x → ys[i]? = some y → zs[i]? = some z → (trip xs ys zs)[i]? = some (.tup [x, y, z])
  | [], _, _, _, _, _, _, h, _, _ => by simp at h
  | _ :: _, [], _, _, _, _, _, _, h, _ => by simp at h
  | _ :: _, _ :: _, [], _, _, _, _, _, _, h => by simp at h
  | a :: xs, b :: ys, c :: zs, 0, x, y, z, h, h2, h3 => by simp at h h2 h3; subst h h2 h3; rfl
  | a :: xs, b :: ys, c :: zs, i + 1, x, y, z, h, h2, h3 => trip_get xs ys zs i x y z (by simpa using h) (by simpa using h2) (by simpa using h3)
def dZip3 (t u v : DE) : DI := fun e O k => t e O fun d O1 => u e O1 fun d2 O2 => v e O2 fun d3 O3 => match d, d2, d3 with
  | .tup xs, .tup ys, .tup zs => (xs.length = ys.length ∧ xs.length = zs.length) ∧ k (trip xs ys zs) O3
  | _, _, _ => False
theorem pid_zip3 {X : Cx} {a b c : Expr} {da db dc : DE} {p pos : Pos} {elts : List Expr} {kk : Nat} {tpos : Pos} (hg : Gl X "zip") (hm : X.mg "zip" = none) (ha : PD X a da) (hb : PD X b db) (hc : PD X c dc)
    (hs : starEach [a, b, c] X.env = (false, eval a X.env) :: starEach [b, c] X.env := by rfl) (hs2 : starEach [b, c] X.env = (false, eval b X.env) :: starEach [c] X.env := by rfl) (hs3 : starEach [c] X.env = [(false, eval c X.env)] := by rfl)
    (hpl : (backTo pos (starEach [b, c] X.env)).any (·.1) = false := by rfl) : PID X (.Tuple elts kk tpos) (.Call (.Name "zip" p) [a, b, c] [] pos) (dZip3 da db dc) := by
  refine ⟨_, pi_zip3 hg hm (pa_cons ha.pe (pa_cons hb.pe (pa_cons hc.pe pa_nil (by rw [hs3] <;> rfl)) hs2) hs) hs hpl, fun σ H R F e O k st er h o => ⟨F, e, O, _, st, er, h, fun d O1 F1 H1 v h1 g1 r1 => ⟨F1, e, O1, _, g1.stt, er.mono g1.same, h1, fun d2 O2 F2 H2 v2 h2 g2 r2 => ⟨F2, e, O2, _, g2.stt, er.mono (g1.same.trans g2.same), h2, fun d3 O3 F3 H3 v3 h3 g3 r3 => ?_⟩⟩⟩⟩
  try dsimp only at h3
  split at h3
  · rename_i xs ys zs
    obtain ⟨⟨l1, l2⟩, h3⟩ := h3
    have r1 := r1.mono (g2.same.trans g3.same)
    have r2 := r2.mono g3.same
    cases r1 with
    | @tup a1 us1 _ q1 rr1 => cases r2 with
      | @tup a2 us2 _ q2 rr2 => cases r3 with
        | @tup a3 us3 _ q3 rr3 =>
          refine ⟨_, _, _, _, _, _, rfl, Same.seqT g3.stt.same q1, Same.seqT g3.stt.same q2, Same.seqT g3.stt.same q3, o _ _ F3 H3 _ h3 (g1.trans (g2.trans g3)) ?_⟩
          have m1 := rr1.length
          have m2 := rr2.length
          have m3 := rr3.length
          refine ⟨fun H => SqT X.K H a1 us1 ∧ SqT X.K H a2 us2 ∧ SqT X.K H a3 us3, fun i H v H' => ∃ T x y z, v = .ref T ∧ H T = none ∧ H' = upd H T (.tup [x, y, z]) ∧ us1[i]? = some x ∧ us2[i]? = some y ∧ us3[i]? = some z, ?_, fun H s => ⟨Same.seqT s q1, Same.seqT s q2, Same.seqT s q3⟩, ?_⟩
          · rw [trip_length _ _ _ l1 l2]
            refine ⟨fun i H hi q => ?_, fun H q => ⟨us1, us2, us3, q.1, q.2.1, q.2.2, by omega, by omega, by omega⟩, fun i H x H' hi q y => ?_⟩
            · exact ⟨us1, us2, us3, us1[i]'(by omega), us2[i]'(by omega), us3[i]'(by omega), q.1, q.2.1, q.2.2, by simp [show i < us1.length by omega], by simp [show i < us2.length by omega], by simp [show i < us3.length by omega]⟩
            · obtain ⟨T, x, y, z, h1, h2, h3, h4, h5, h6⟩ := y
              exact ⟨T, x, y, z, h1, h2, h3, h4 _ q.1, h5 _ q.2.1, h6 _ q.2.2⟩
          · intro i H x H' F' O' hi s st y
            obtain ⟨T, x, y, z, e1, n, e2, y1, y2, y3⟩ := y
            subst e1 e2
            obtain ⟨c1, d1, f1⟩ := rr1.getV y1
            obtain ⟨c2, d2, f2⟩ := rr2.getV y2
            obtain ⟨c3, d3, f3⟩ := rr3.getV y3
            have sm := same_upd (o := .tup [x, y, z]) (free_F st n)
            have s2 := s.trans sm
            exact ⟨_, _, trip_get _ _ _ _ _ _ _ d1 d2 d3, st.made n, .tup (.of upd_same) (.cons (f1.mono s2) (.cons (f2.mono s2) (.cons (f3.mono s2) .nil)))⟩
  · exact h3.elim
/-! ### the law's own def -/
/-- handed a list of ints, the tables empty, it tells True -/
def spTop (K : PySem.W.Frag) : Sp := fun vs H Q _ => ∃ (a : Addr) (ns : List Int), vs = [.ref a] ∧ SqL K H a (ns.map V.int) ∧ ns.length ≤ 63 ∧ (∀ t ∈ TabL.tabs, H t.1 = some (.tbl #[])) ∧ ∀ H', Q (.bl true) H'
def spLaw : DSp := fun ds O k => ∃ ns : List Int, ds = [.fz (ns.map D.int)] ∧ ns.length ≤ 63 ∧ ∀ O', k (.bl true) O'
theorem reps_ints {K : PySem.W.Frag} {F : Hp} : ∀ ns : List Int, Reps K F (ns.map V.int) (ns.map D.int)
  | [] => .nil
  | n :: ns => .cons (.int n) (reps_ints ns)
/-- what is known at the begin: all but the tables -/
def noTab (H : Hp) : Hp := fun b => match H b with
  | some (.tbl _) => none
  | x => x
theorem noTab_same (H : Hp) : Same (noTab H) H := fun b x e => by
  unfold noTab at e
  split at e
  · cases e
  · exact e
theorem noTab_of {H : Hp} {b : Addr} {o : HO} (h : H b = some o) (n : ∀ ps, o ≠ .tbl ps) : noTab H b = some o := by
  unfold noTab
  split
  · rename_i ps e
    rw [h] at e
    exact (n _ (Option.some.inj e)).elim
  · exact h
theorem noTab_tab {H : Hp} {b : Addr} {ps : Array Value} (h : H b = some (.tbl ps)) : noTab H b = none := by
  unfold noTab
  rw [h]
omit [XCx] in
theorem top_imp {K : PySem.W.Frag} : ∀ vs H Q E, spTop K vs H Q E → @upSp _ XCx.nil K spLaw vs H Q E := by
  letI : XCx := XCx.nil
  intro vs H Q E h
  obtain ⟨a, ns, rfl, hS, hl, hT, q⟩ := h
  have hS' : SqL K (noTab H) a (ns.map V.int) := by
    rcases hS with (h | ⟨o, h⟩) | h
    · exact .inl (.inl (noTab_of h fun _ z => by cases z))
    · exact .inl (.inr ⟨o, noTab_of h fun _ z => by cases z⟩)
    · exact .inr h
  refine ⟨noTab H, [.fz (ns.map D.int)], fun _ => none, fun d _ => d = .bl true, ⟨noTab_same H, (fun _ _ z => by cases z), fun t ht => ⟨LamX.TabS.nil (hT t ht), noTab_tab (hT t ht), rfl⟩, ⟨(fun _ _ z => by cases z), fun _ _ z => by cases z⟩, fun b ps z => by
    have z' := noTab_same H _ _ z
    rw [noTab_tab z'] at z
    cases z⟩, .cons (.fz hS' (reps_ints ns)) .nil, ⟨ns, rfl, hl, fun _ => rfl⟩, fun d O' F' H' v e g r => ?_⟩
  subst e
  cases r
  exact q _
end SC
namespace SC
open PySem PySem.Spec PyProof.Rows L2
variable [TabL] [XCx]
/-! ### readings, unfolded -/
theorem odel_oset {O : OH} {q : Addr} {ys : List D} (h : O q = none) : odel (oset O q ys) q = O := by
  funext b
  unfold odel oset
  by_cases e : b = q
  · rw [if_pos e, e, h]
  · rw [if_neg e, if_neg e]
theorem oset_comm {O : OH} {p q : Addr} {xs ys : List D} (h : p ≠ q) : oset (oset O p xs) q ys = oset (oset O q ys) p xs := by
  funext b
  unfold oset
  by_cases e : b = q
  · subst e; rw [if_pos rfl, if_neg h.symm, if_pos rfl]
  · by_cases e2 : b = p
    · subst e2; rw [if_neg e, if_pos rfl, if_pos rfl]
    · rw [if_neg e, if_neg e2, if_neg e2, if_neg e]
theorem own_ne {O : OH} {p q : Addr} {xs : List D} (h : O p = some xs) (n : O q = none) : q ≠ p := fun e => by rw [e, h] at n; cases n
theorem startD_eq {N : List Str} {ds : List D} {n : Nat} (h : N.length - ds.length = n) : startD N ds = ds.map some ++ List.replicate n none := by unfold startD; rw [h]
/-- tuple(x) of a list of one's own that is asked no more -/
def rTupX : R1D := fun d O k => match d with
  | .own p => match O p with
    | some xs => k (.tup xs) (odel O p)
    | none => False
  | _ => False
theorem ud_tupX {K : PySem.W.Frag} : UnD K (kTup K) rTupX := by
  intro x a F O H k Q st r h o
  unfold rTupX at h
  split at h
  · rename_i p
    cases r
    split at h
    · rename_i e
      obtain ⟨xs, q, rr⟩ := st.rel e
      refine .inl ⟨_, _, rfl, .of q, fun r n => ?_⟩
      have g := st.made (o := .tup xs) n
      have q' : (upd H r (.tup xs)) p = some (.lst xs) := by rw [upd_ne (ne_of_none q n)]; exact q
      have g2 : Go K F O H (upd F r (.tup xs)) (odel O p) (upd H r (.tup xs)) := by
        refine Go.of st g.same g.stt.same (fun a ds z => ?_) (fun t ht => ?_) (fun a u h1 f1 u1 nt => ?_) g.stt.nt
        · by_cases w : a = p
          · subst w; simp [odel] at z
          · exact g.stt.own a ds (by simpa [odel, w] using z)
        · obtain ⟨t1, t2, t3⟩ := g.stt.tabs t ht
          have w : t.1 ≠ p := fun w => by rw [w, e] at t3; cases t3
          exact ⟨t1, t2, by simp [odel, w, t3]⟩
        · obtain ⟨y1, y2, y3⟩ := g.frame a u h1 f1 u1 nt
          refine ⟨y1, y2, ?_⟩
          by_cases w : a = p
          · subst w; rw [e] at u1; cases u1
          · simp [odel, w, y3]
      exact o _ _ _ _ _ h g2 (.tup (.of upd_same) (rr.mono (same_upd (free_F st n))))
    · exact h.elim
  · exact h.elim
theorem pd_tupleX {X : Cx} {a : Expr} {p pos : Pos} {da : DE} (hg : Gl X "tuple") (hm : X.mg "tuple" = none) (ha : PD X a da) (na : starEach [a] X.env = (false, eval a X.env) :: starEach [] X.env := by rfl) : PD X (.Call (.Name "tuple" p) [a] [] pos) (dUn rTupX da) :=
  ⟨PE.weak (pe_tupleOf hg hm ha.pe na) fun σ H Q h => up_un ud_tupX h⟩
/-! ### comprehensions and loops over mapped lists -/
section
variable {α : Type}
theorem dAcc_map {g : DG} {te : DE} {e : DV} {k : List D → OH → Prop} (to f : α → D) : ∀ (xs : List α) (acc : List D) (O : OH),
    (∀ x ∈ xs, ∀ (O : OH) (k' : D → OH → Prop), k' (f x) O → g (to x) e O fun e2 => te e2 O k') → k (acc ++ xs.map f) O → dAcc g dYes te e k (xs.map to) acc O
  | [], acc, O, _, h => by simpa [dAcc] using h
  | x :: xs, acc, O, hs, h => by
    show g (to x) e O fun e2 => te e2 O fun y O3 => dAcc g dYes te e k (xs.map to) (acc ++ [y]) O3
    refine hs x (by simp) O _ ?_
    exact dAcc_map to f xs (acc ++ [f x]) O (fun y hy => hs y (by simp [hy])) (by simpa using h)
theorem dAcc_filter {g : DG} {tt : DT} {te : DE} {e : DV} {k : List D → OH → Prop} (to f : α → D) (c : α → Bool) : ∀ (xs : List α) (acc : List D) (O : OH),
    (∀ x ∈ xs, ∀ (O : OH) (A : D → OH → Prop) (B : OH → Prop), (if c x = true then A (f x) O else B O) → g (to x) e O fun e2 => tt e2 O fun b O2 => match b with
      | true => te e2 O2 A
      | false => B O2) → k (acc ++ (xs.filter c).map f) O → dAcc g tt te e k (xs.map to) acc O
  | [], acc, O, _, h => by simpa [dAcc] using h
  | x :: xs, acc, O, hs, h => by
    show g (to x) e O fun e2 => tt e2 O fun b O2 => match b with
      | true => te e2 O2 fun y O3 => dAcc g tt te e k (xs.map to) (acc ++ [y]) O3
      | false => dAcc g tt te e k (xs.map to) acc O2
    refine hs x (by simp) O _ (fun O2 => dAcc g tt te e k (xs.map to) acc O2) ?_
    cases hc : c x with
    | true =>
      rw [if_pos rfl]
      refine dAcc_filter to f c xs _ O (fun y hy => hs y (by simp [hy])) ?_
      simpa [hc] using h
    | false =>
      rw [if_neg (by decide)]
      refine dAcc_filter to f c xs _ O (fun y hy => hs y (by simp [hy])) ?_
      simpa [hc] using h
/-- the items satisfy what each turn gives; the state keeps J -/
theorem dAcc_inv {g : DG} {te : DE} {e : DV} {k : List D → OH → Prop} (J : OH → Prop) (Pd : D → Prop) : ∀ (items acc : List D) (O : OH),
    (∀ d ∈ items, ∀ (O : OH) (k' : D → OH → Prop), J O → (∀ y O', Pd y → J O' → k' y O') → g d e O fun e2 => te e2 O k') → J O → (∀ ys O', (∀ y ∈ ys, Pd y) → ys.length = items.length → J O' → k (acc ++ ys) O') → dAcc g dYes te e k items acc O
  | [], acc, O, _, hJ, h => by
    show k acc O
    have := h [] O (by simp) rfl hJ
    simpa using this
  | d :: ds, acc, O, hs, hJ, h => by
    show g d e O fun e2 => te e2 O fun y O3 => dAcc g dYes te e k ds (acc ++ [y]) O3
    refine hs d (by simp) O _ hJ fun y O' py hJ' => ?_
    refine dAcc_inv J Pd ds (acc ++ [y]) O' (fun d' hd => hs d' (by simp [hd])) hJ' fun ys O'' hy hl hJ'' => ?_
    have := h (y :: ys) O'' (by intro z hz; rcases List.mem_cons.mp hz with rfl | hz; exact py; exact hy z hz) (by simp [hl]) hJ''
    simpa using this
/-- a loop, by what is kept for the rest of the items -/
theorem dLoop_ind {g : DG} {body : DS} {k : DEnds} (to : α → D) (P : List α → DV → OH → Prop)
    (hs : ∀ x xs e O, P (x :: xs) e O → ∀ nx : DV → OH → Prop, (∀ e2 O2, P xs e2 O2 → nx e2 O2) → g (to x) e O fun e1 => body { nx := nx, rt := k.rt, bk := k.nx, ct := nx } e1 O)
    (hd : ∀ e O, P [] e O → k.nx e O) : ∀ (xs : List α) (e : DV) (O : OH), P xs e O → dLoop g body k (xs.map to) e O
  | [], e, O, h => hd e O h
  | x :: xs, e, O, h => hs x xs e O h _ fun e2 O2 h2 => dLoop_ind to P hs hd xs e2 O2 h2
theorem pairsD_map {β : Type} (f : α → D) (g : β → D) : ∀ (xs : List α) (ys : List β), pairsD (xs.map f) (ys.map g) = (xs.zip ys).map fun p => .tup [f p.1, g p.2]
  | [], _ => by simp [pairsD]
  | _ :: _, [] => by simp [pairsD]
  | x :: xs, y :: ys => by simp [pairsD, pairsD_map f g xs ys]
end
theorem small_len {n : Nat} (h : n ≤ 100000) : n ≤ sizeLine := Nat.le_trans h (by decide)
theorem lt_len {n : Nat} (h : n ≤ 100000) : n < sizeLine := Nat.lt_of_le_of_lt h (by decide)
theorem boolsD_map' {α : Type} (f : α → Bool) (l : List α) : boolsD (l.map fun x => D.bl (f x)) = some (l.map f) := by
  have := boolsD_map (l.map f)
  rw [List.map_map] at this
  exact this
end SC
namespace SC
open PySem PySem.Spec PyProof.Rows L2
variable [TabL] [XCx]
theorem oset_id {O : OH} {p : Addr} {h : List D} (e : O p = some h) : oset O p h = O := by
  funext b
  unfold oset
  by_cases z : b = p
  · rw [if_pos z, z, e]
  · rw [if_neg z]
theorem oset_at {O : OH} {p q : Addr} {h : List D} (n : q ≠ p) : oset O p h q = O q := oset_ne n
/-- the hand that a law draws from -/
def HandOk (h : List D) : Prop := ∃ (cs : List Int) (i big seed c : Int), h = [.lst (cs.map .int), .int i, .int big, .int seed, .int c] ∧ 0 ≤ i
def spHand : DSp := fun ds O k => ∃ ns : List Int, ds = [.fz (ns.map .int)] ∧ ns.length ≤ 63 ∧ ∀ p h, O p = none → HandOk h → k (.own p) (oset O p h)
def spDraw : DSp := fun ds O k => ∃ p h m, ds = [.own p, .int m] ∧ O p = some h ∧ HandOk h ∧ 0 < m ∧ m < 1073741824 ∧ ∀ n h', 0 ≤ n → n < m → HandOk h' → k (.int n) (oset O p h')
def spSome : DSp := fun ds O k => ∃ p h xs, ds = [.own p, .lst xs] ∧ O p = some h ∧ HandOk h ∧ xs ≠ [] ∧ xs.length ≤ 1000 ∧ ∀ x ∈ xs, ∀ h', HandOk h' → k x (oset O p h')
theorem ln_spHand : ∀ ds O k, spHand ds O k → ds.length = 1 := by rintro ds O k ⟨ns, rfl, _⟩; rfl
theorem ln_spDraw : ∀ ds O k, spDraw ds O k → ds.length = 2 := by rintro ds O k ⟨p, h, m, rfl, _⟩; rfl
theorem ln_spSome : ∀ ds O k, spSome ds O k → ds.length = 2 := by rintro ds O k ⟨p, h, m, rfl, _⟩; rfl
theorem ixN_lt {n : Nat} {i : Int} (h0 : 0 ≤ i) (h1 : i < n) : ixN n i = some i.toNat := by unfold ixN; rw [if_pos h0, if_pos h1]
theorem atI_map {α β : Type} {f : α → β} {xs : List α} {i : Int} (h0 : 0 ≤ i) (h1 : i < xs.length) : ∃ x, xs[i.toNat]? = some x ∧ atI (xs.map f) i = some (f x) := by
  have hl : i.toNat < xs.length := by omega
  refine ⟨xs[i.toNat], List.getElem?_eq_getElem hl, ?_⟩
  unfold atI
  rw [List.length_map, ixN_lt h0 h1]
  show (xs.map f)[i.toNat]? = _
  rw [List.getElem?_map, List.getElem?_eq_getElem hl]; rfl
theorem ix5 : ixN 5 0 = some 0 ∧ ixN 5 1 = some 1 ∧ ixN 5 2 = some 2 ∧ ixN 5 3 = some 3 ∧ ixN 5 4 = some 4 := by decide
theorem all_map {α : Type} {f : α → D} {P : α → Prop} : ∀ {ys : List D}, (∀ y ∈ ys, ∃ b, y = f b ∧ P b) → ∃ bs : List α, ys = bs.map f ∧ bs.length = ys.length ∧ ∀ b ∈ bs, P b
  | [], _ => ⟨[], rfl, rfl, fun _ h => nomatch h⟩
  | y :: ys, h => by
    obtain ⟨b, rfl, pb⟩ := h y (by simp)
    obtain ⟨bs, rfl, hl, pbs⟩ := all_map (ys := ys) fun z hz => h z (by simp [hz])
    refine ⟨b :: bs, rfl, by simp, fun c hc => ?_⟩
    rcases List.mem_cons.mp hc with rfl | hc
    · exact pb
    · exact pbs c hc
theorem cut_take {α : Type} {xs : List α} {n : Nat} {i : Int} (h : i = (n : Int)) : cutA xs none (some i) = xs.take n := by
  subst h
  unfold cutA
  rw [HT.sIx_none, HT.sIx_nat, List.drop_zero, Nat.sub_zero]
  rcases Nat.le_total n xs.length with z | z
  · rw [Nat.min_eq_left z]
  · rw [Nat.min_eq_right z, List.take_of_length_le (Nat.le_refl _), List.take_of_length_le z]
theorem cut_drop {α : Type} {xs : List α} {n : Nat} {i : Int} (h : i = (n : Int)) : cutA xs (some i) none = xs.drop n := by
  subst h
  unfold cutA
  rw [HT.sIx_none, HT.sIx_nat]
  rcases Nat.le_total n xs.length with z | z
  · rw [Nat.min_eq_left z, List.take_of_length_le]
    rw [List.length_drop]; exact Nat.le_refl _
  · rw [Nat.min_eq_right z, List.drop_of_length_le z, List.drop_of_length_le (Nat.le_refl _)]; simp
theorem atI_in {α : Type} {xs : List α} {n : Nat} {x : α} {i : Int} (hi : i = (n : Int)) (h : xs[n]? = some x) : atI xs i = some x := by subst hi; exact atI_nat h
theorem dThen_by {t u : DS} {k : DEnds} {e : DV} {O : OH} (P : DV → OH → Prop) (h1 : ∀ nx : DV → OH → Prop, (∀ e O, P e O → nx e O) → t { k with nx := nx } e O) (h2 : ∀ e O, P e O → u k e O) : dThen t u k e O := h1 _ h2
theorem mod_lt' {a m : Int} (h : 0 < m) : 0 ≤ a % m ∧ a % m < m := ⟨Int.emod_nonneg _ (by omega), Int.emod_lt_of_pos _ h⟩
end SC
/-! Errors of the program's own classes whose __init__ does nothing, made without arguments. -/
namespace SC
open PySem PySem.Spec PyProof.Rows L2
section
variable {X : Cx} {p pos : Pos}
theorem mk_end0n {pins : List (Addr × Obj)} {σ : L2.St} {H1 H2 : Hp} {hp hp2 h2 : Heap} {g1 g2 : Array GenState} {d1 d2 : Drawn} {t1 t2 : Nat} {os1 os2 : OsState} {a C : Addr} (I1 : Inv X pins σ H1 ⟨hp, g1, d1, t1, os1⟩)
    (ha : hp.objs.size ≤ a) (k : ∀ b o, hp.get? b = some o → hp2.get? b = some o) (un : Un (frs X.stack) [] (upd H1 a (exo a C none)) H2 hp2 h2) (hok : HOk X.prog X.w H2 h2) (ho : os2 = os1) (hb : AllBare g2)
    (ea : H2 a = some (exo a C none)) :
    ∃ (t0 : Addr) (G : Heap), Inv X pins σ (del H2 a) ⟨G, g2, d2, t2, os2⟩ ∧ (∀ b o, G.get? b = some o → h2.get? b = some o) ∧ G.get? a = none ∧
      h2.get? a = some ({ cls := .ref C, dict := none, data := .fields #[.ref t0, .none, .none, .none, .bool false, .none] } : Obj) ∧ (del H2 a) a = none := by
  obtain ⟨t0, hoe⟩ := exo_at hok ea
  have hn : H1 a = none := I1.hok.fresh ha
  obtain ⟨G, g1', g2'⟩ := restrict h2 fun b => decide (b ≠ a)
  have gk : ∀ b, b ≠ a → G.get? b = h2.get? b := fun b hb => g1' b (decide_eq_true hb)
  have ge : G.get? a = none := g2' a (by simp)
  have nha : ∀ {b : Addr} {o : Obj}, hp.get? b = some o → b ≠ a := fun {b o} z => Nat.ne_of_lt (Nat.lt_of_lt_of_le (Heap.lt_size z) ha)
  have up : ∀ {b : Addr}, b ≠ a → H1 b = none → upd H1 a (exo a C none) b = none := fun {b} hb n => by rw [upd_ne hb]; exact n
  have U : Un (frs X.stack) [] H1 (del H2 a) hp G := {
    keep := fun b o z n hf hx => by
      rw [gk b (nha z)]
      exact un.keep b o (k b o z) (up (nha z) n) hf hx
    slot := fun b o z n hf hx => by
      rw [gk b (nha z)]
      exact un.slot b o (k b o z) (up (nha z) n) hf hx
    free := fun b o z n hx => by
      rw [del_ne (nha z)]
      exact un.free b o (k b o z) (up (nha z) n) hx
    there := fun b o z hx => by
      rw [gk b (nha z)]
      exact un.there b o (k b o z) hx
    tups := fun b xs z => by
      rw [del_ne (ne_of_none z hn)]
      exact un.tups b xs (by rw [upd_ne (ne_of_none z hn)]; exact z)
    frzs := fun b o v z => by
      rw [del_ne (ne_of_none z hn)]
      exact un.frzs b o v (by rw [upd_ne (ne_of_none z hn)]; exact z)
    tbls := fun b ps z => by
      rw [del_ne (ne_of_none z hn)]
      exact un.tbls b ps (by rw [upd_ne (ne_of_none z hn)]; exact z) }
  have hok3 : HOk X.prog X.w (del H2 a) G := fun b o z => by
    have hba : b ≠ a := fun e => by
      rw [e, del_same] at z
      cases z
    rw [del_ne hba] at z
    have noa : ∀ {c : Addr}, H2 c = some (.own b) → c ≠ a := fun {c} hc => at_ne ea hc exo_own
    exact (hok b o z).stay (fun c v hc y => by
        have hca : c ≠ a := by
          rcases hc with hc | hc
          · rw [hc]
            exact hba
          · exact noa hc
        rw [gk c hca]
        exact y)
      (fun c hc => by rw [del_ne (noa hc)]; exact hc) (fun c xs hc => by rw [del_ne (at_ne ea hc exo_tup)]; exact hc)
  have J : Inv X pins σ (del H2 a) ⟨G, g2, d2, t2, os2⟩ := I1.call' (ch := []) ho U hok3 hb (fun b z => absurd z (by simp))
  refine ⟨t0, G, J, fun b o z => ?_, ge, hoe, del_same⟩
  by_cases hba : b = a
  · rw [hba, ge] at z
    cases z
  · exact (gk b hba).symm.trans z
/-- C(), C's own __init__ keeping sp: it sets no field -/
def tMkN (C : Addr) (sp : Sp) : L2.St → Hp → XK → Prop := fun _ H Q => ∀ a, H a = none → sp [.ref a] (upd H a (exo a C none))
  (fun v H2 => v = .non ∧ H2 a = some (exo a C none) ∧ Q (.ref C) none (del H2 a)) (fun _ _ _ => False)
theorem pmk_oex0 {CX : CXT} {x : Str} {C fI : Addr} {k : Nat} {fd : FuncData} {ps : List Str} {sp : Sp} (T : OexC X.K C) (iC : PySem.W.findIn X.K (.ref C) "__init__" = some (some (.ref fI))) (tI : PySem.W.typeIn X.K (.ref fI) = some (.type "function"))
    (F1 : FnOk X.prog X.w X.K X.mg X.base CX k fI fd ps sp) (hr : Room (k + 1) X.A) (hb : Binds X.K fd ps []) (hx : Passes CX X (fun _ _ _ => False)) (hg : Gl X x) (hm : X.mg x = some (.ref C))
    (hdb : (x == ("__debug__" : Str)) = false := by decide) :
    PMk X (.Call (.Name x p) [] [] pos) (tMkN C sp) := by
  intro pins s σ H Q I h
  obtain ⟨nm, q, N, bs, bm, sn, sub, ab, col, dd, k0, k1, k2, k3, k5, hC, hbm⟩ := T.cls
  refine wpAny_Call_Name_kw (ld_glob I hg hm ?_ hdb)
  refine PySem.W.callWith_K0 I.kIn T.kC ?_
  obtain ⟨hp, g, dr, tk, os⟩ := s
  have hsz : hp.objs.size ≤ hp.objs.size + 1 := Nat.le_succ _
  have hn : H (hp.objs.size + 1) = none := I.hok.fresh hsz
  have hq := h (hp.objs.size + 1) hn
  have kk : ∀ b o, hp.get? b = some o → ((hp.push (PySem.W.kdv_tup [])).push (PySem.HandSPX.excO C hp.objs.size)).get? b = some o := fun b o e => Heap.get?_push_of_some _ (Heap.get?_push_of_some _ e)
  have hget : ((hp.push (PySem.W.kdv_tup [])).push (PySem.HandSPX.excO C hp.objs.size)).get? (hp.objs.size + 1) = some (PySem.HandSPX.excO C hp.objs.size) := by heap_get
  have I2 : Inv X pins σ (upd H (hp.objs.size + 1) (exo (hp.objs.size + 1) C none)) ⟨(hp.push (PySem.W.kdv_tup [])).push (PySem.HandSPX.excO C hp.objs.size), g, dr, tk, os⟩ :=
    I.laid (t' := tk) (a := hp.objs.size + 1) (o := exo (hp.objs.size + 1) C none) (h' := (hp.push (PySem.W.kdv_tup [])).push (PySem.HandSPX.excO C hp.objs.size)) kk hsz (exo_ok hget)
  have r2 : Vals [V.ref (hp.objs.size + 1)] [Value.ref (hp.objs.size + 1)] := .cons rfl .nil
  have hl : [Value.ref (hp.objs.size + 1)].length = ps.length := by
    have e := r2.length
    rw [F1.len _ _ _ _ hq] at e
    exact e.symm
  refine wpAny_call (PySem.HandSPX.call_own F.excBase_ValueError (fun Y => PySem.HandSPX.refsVE_contains Y bm hbm) (I.kIn _ _ hC) (PySem.W.looks_findIn I.kIn iC) (fun self => PySem.W.bind_fn I.kIn self tI) (Nat.zero_le _)
    (codeAny_mono (F1.run _ X.stack _ _ ⟨[Value.ref (hp.objs.size + 1)], []⟩ [Value.ref (hp.objs.size + 1)] _ _ (fun _ _ _ => False) (hr.make C [] []) (I2.env0.make C [] []) (hb _ [Value.ref (hp.objs.size + 1)] I2.kIn hl) r2 hq) fun r s' hq' => ?_))
  cases r with
  | error er => exact hx pins σ _ _ er s' I2 hq'
  | ok fl =>
    cases fl with
    | ret u =>
      obtain ⟨v, H2, os2, bare2, un2, hok2, rv, ev, ea, q2⟩ := hq'
      subst ev
      obtain ⟨h2, g2, d2, t2, os'⟩ := s'
      obtain ⟨t0, G, J, kG, ge, hoe, na⟩ := mk_end0n (d2 := d2) (t2 := t2) I hsz kk un2 hok2 os2 bare2 ea
      exact ⟨rv, _, _, _, ⟨G, g2, d2, t2, os'⟩, _, .ref C, none, rfl, J, kG, ge, hoe, ⟨rfl, rfl⟩, rfl, rfl, na, rfl, bare2, raises_own T.exC T.tyC, q2⟩
    | next => exact False.elim hq'
    | brk => exact False.elim hq'
    | cont => exact False.elim hq'
end
end SC
/-! Errors: raise, calls of defs that may raise, try .. except C as n. -/
namespace SC
open PySem PySem.Spec PyProof.Rows L2
section
variable [TabL]
theorem Stt.conv {I0 I1 : XCx} {K : PySem.W.Frag} {F F' H H' : Hp} {O O' : OH} (s : @Stt _ I0 K F O H) (g : @Stt _ I1 K F' O' H') (a : Go0 F O H F' O' H') : @Stt _ I0 K F' O' H' := @Stt.mk _ I0 _ _ _ _ (@Stt.same _ I1 _ _ _ _ g) (@Stt.own _ I1 _ _ _ _ g) (@Stt.tabs _ I1 _ _ _ _ g) ((@Stt.anch _ I0 _ _ _ _ s).trans a) (@Stt.nt _ I1 _ _ _ _ g)
theorem Go.conv {I0 I1 : XCx} {K : PySem.W.Frag} {F F' H H' : Hp} {O O' : OH} (s : @Stt _ I0 K F O H) (g : @Go _ I1 K F O H F' O' H') : @Go _ I0 K F O H F' O' H' := @Go.mk _ I0 _ _ _ _ _ _ _ (@Go.same _ I1 _ _ _ _ _ _ _ g) (Stt.conv s (@Go.stt _ I1 _ _ _ _ _ _ _ g) (@Go.go0 _ I1 _ _ _ _ _ _ _ g)) (@Go.frame _ I1 _ _ _ _ _ _ _ g)
theorem Outs.conv {I0 I1 : XCx} {K : PySem.W.Frag} {F H : Hp} {O : OH} {k : D → OH → Prop} {Q : VK} (s : @Stt _ I0 K F O H) (o : @Outs _ I0 K F O H k Q) : @Outs _ I1 K F O H k Q := fun d O' F' H' v q g r => o d O' F' H' v q (Go.conv s g) r
theorem OutsS.conv {I0 I1 : XCx} {K : PySem.W.Frag} {F H : Hp} {O : OH} {k : DV → OH → Prop} {Q : L2.St → Hp → Prop} (s : @Stt _ I0 K F O H) (o : @OutsS _ I0 K F O H k Q) : @OutsS _ I1 K F O H k Q := fun d O' F' H' v q g r => o d O' F' H' v q (Go.conv s g) r
theorem EndsOk.conv {I0 I1 : XCx} {K : PySem.W.Frag} {F H : Hp} {O : OH} {k : DEnds} {D : Ends} (s : @Stt _ I0 K F O H) (o : @EndsOk _ I0 K F O H k D) : @EndsOk _ I1 K F O H k D :=
  @EndsOk.mk _ I1 _ _ _ _ _ _ (OutsS.conv s (@EndsOk.nx _ I0 _ _ _ _ _ _ o)) (Outs.conv s (@EndsOk.rt _ I0 _ _ _ _ _ _ o)) (OutsS.conv s (@EndsOk.bk _ I0 _ _ _ _ _ _ o)) (OutsS.conv s (@EndsOk.ct _ I0 _ _ _ _ _ _ o))
/-- the state seen from itself -/
theorem Stt.self {I0 : XCx} {K : PySem.W.Frag} {F H : Hp} {O : OH} {ex : Addr → DV → OH → Prop} {W : WX} (s : @Stt _ I0 K F O H) : @Stt _ ⟨F, O, H, ex, W⟩ K F O H := @Stt.mk _ ⟨F, O, H, ex, W⟩ _ _ _ _ (@Stt.same _ I0 _ _ _ _ s) (@Stt.own _ I0 _ _ _ _ s) (@Stt.tabs _ I0 _ _ _ _ s) Go0.refl (@Stt.nt _ I0 _ _ _ _ s)
end
section
variable [TabL] [XCx]
/-- an error whose class is asked for is taken -/
def XOk (K : PySem.W.Frag) : Prop := ∀ C e F O H σ, XCx.ex C e O → Stt K F O H → ERep K F σ e → XCx.W (.ref C) none σ H
abbrev DSpX := List D → OH → (D → OH → Prop) → (Addr → OH → Prop) → Prop
def upSpX (K : PySem.W.Frag) (sp : DSpX) : Sp := fun vs H Q E => ∃ F ds O k kx, Stt K F O H ∧ Reps K F vs ds ∧ sp ds O k kx ∧ Outs K F O H k Q ∧ ∀ C O' F' H', kx C O' → Go K F O H F' O' H' → E (.ref C) none H'
def dCallX (sp : DSpX) (ex : Addr → DV → OH → Prop) (t : DA) : DE := fun e O k => t e O fun xs O1 => sp xs O1 k fun C O' => ex C e O'
def dRaise (C : Addr) (ex : Addr → DV → OH → Prop) : DS := fun _ e O => ex C e O
section
variable {X : Cx} {k : Nat} {f : Addr} {fd : FuncData} {ps : List Str} {sp : DSpX} {x : Str} {p pos : Pos} {a : Expr} {es : List Expr} {t : DA}
theorem pd_callX (Fn : FnOk X.prog X.w X.K X.mg X.base (L2.CX X.prog X.w) k f fd ps (upSpX X.K sp)) (tk : Takes X XCx.W) (xo : XOk X.K) (hr : Room k X.A) (hg : Gl X x) (hm : X.mg x = some (.ref f)) (hk : PySem.W.keepIn X.K (.ref f) = true) (hb : Binds X.K fd ps [])
    (ha : PAD X (a :: es) t) (hdb : (x == ("__debug__" : Str)) = false := by decide) (he : starEach (a :: es) X.env = (false, eval a X.env) :: starEach es X.env := by rfl) (hpl : (backTo pos (starEach es X.env)).any (·.1) = false := by rfl) :
    PD X (.Call (.Name x p) (a :: es) [] pos) (dCallX sp XCx.ex t) := by
  refine ⟨PE.weak (pe_callS (E := WE XCx.W) Fn hr hg hm hk hb (fun σ => passAt tk σ) ha.pa hdb he hpl) fun σ H Q h => ?_⟩
  obtain ⟨F, e, O, k, st, er, h, o⟩ := h
  exact ⟨F, e, O, _, st, er, h, fun ds O1 F1 H1 vs h1 g1 r1 => ⟨F1, ds, O1, k, _, g1.stt, r1, h1, o.after g1, fun C O' F' H' hx g => xo C e F' O' H' σ hx g.stt (er.mono (g1.same.trans g.same))⟩⟩
theorem psd_raise {C : Addr} {ex : Expr} (hc : X.calm = true) (tk : Takes X XCx.W) (xo : XOk X.K) (he : PMk X ex (fun _ H Q => Q (.ref C) none H)) : PSD X (.Raise (some ex) none pos) (dRaise C XCx.ex) :=
  ⟨PS.weak (ps_raise hc tk he) fun D σ H ⟨F, e, O, k, st, er, h, o⟩ => xo _ _ _ _ _ _ h st er⟩
/-- an __init__ that does nothing -/
def spPass : Sp := fun vs H Q _ => ∃ v, vs = [v] ∧ Q .non H
theorem pmk_n {CX : CXT} {C fI : Addr} (T : OexC X.K C) (iC : PySem.W.findIn X.K (.ref C) "__init__" = some (some (.ref fI))) (tI : PySem.W.typeIn X.K (.ref fI) = some (.type "function"))
    (F1 : FnOk X.prog X.w X.K X.mg X.base CX k fI fd ps spPass) (hr : Room (k + 1) X.A) (hb : Binds X.K fd ps []) (hx : Passes CX X (fun _ _ _ => False)) (hg : Gl X x) (hm : X.mg x = some (.ref C))
    (hdb : (x == ("__debug__" : Str)) = false := by decide) : PMk X (.Call (.Name x p) [] [] pos) (fun _ H Q => Q (.ref C) none H) := fun pins s σ H Q I h =>
  pmk_oex0 T iC tI F1 hr hb hx hg hm hdb pins s σ H Q I fun a n => ⟨_, rfl, rfl, upd_same, by
    have e : del (upd H a (exo a C none)) a = H := by
      funext b
      by_cases hb : b = a
      · rw [hb, del_same, n]
      · rw [del_ne hb, upd_ne hb]
    rw [e]; exact h⟩
end
section
variable {P : Program} {w : World} {K : PySem.W.Frag} {mg : Str → Option Value} {base : Heap}
/-- a def's body keeps its promise, on trees; it may raise -/
theorem okXD {x qual : Str} {st : Stmt} {f : Addr} {fd : FuncData} {N ps : List Str} {k : Nat} {sp : DSpX} (F : Fun K x qual st f fd) (S : FnScope N ps (defScope st)) (len : ∀ ds O k kx, sp ds O k kx → ds.length = ps.length)
    (hbody : ∀ (I : XCx) (cdv : Value) (A : Around) (outer : List Env) (s : Shared) (H : Hp) (E : XK), Room k (A.deeper (envOfC qual (defScope st) s.heap.objs.size f cdv)) → XOk K → Takes (cxOf (L2.CX P w) P w K mg base N qual (defScope st) f cdv A outer s H E) XCx.W →
      ∃ t : (Addr → DV → OH → Prop) → DS, PBD (cxOf (L2.CX P w) P w K mg base N qual (defScope st) f cdv A outer s H E) (defBody st) (t XCx.ex) ∧ ∀ ds O (kk : D → OH → Prop) kx, sp ds O kk kx → t (fun C _ O' => kx C O') { nx := fun _ O' => kk .non O', rt := kk } (startD N ds) O) :
    FnOk P w K mg base (L2.CX P w) (k + 1) f fd ps (upSpX K sp) := by
  rename_i I0
  refine F.okX S (fun vs H Q E h => ?_) fun cdv A outer s H vs Q E hr h => ?_
  · obtain ⟨F, ds, O, k, kx, st, r, h, o⟩ := h
    rw [r.length]
    exact len _ _ _ _ h
  · obtain ⟨F, ds, O, kk, kx, st, r, h, o, hE⟩ := h
    let I : XCx := ⟨F, O, H, fun C _ O' => kx C O', fun cls d _ H' => E cls d H'⟩
    have st' : @Stt _ I K F O H := st.self
    have xo : @XOk _ I K := fun C e F' O' H' σ hx s2 _ => hE C O' F' H' hx (@Go.mk _ I0 _ _ _ _ _ _ _ (@Stt.anch _ I _ _ _ _ s2).same (Stt.conv st s2 (@Stt.anch _ I _ _ _ _ s2)) (@Stt.anch _ I _ _ _ _ s2).frame)
    obtain ⟨t, p, q⟩ := hbody I cdv A outer s H E hr xo (takes_of rfl rfl rfl rfl)
    have o' : @Outs _ I K F O H kk Q := Outs.conv st o
    exact ⟨_, p.pb, F, _, O, _, st', erep_start r N, q ds O kk kx h, fun e' O' F' H' σ' h' g' _ => o' _ _ _ _ _ h' g' .non, o', fun _ _ _ _ _ z => z.elim, fun _ _ _ _ _ z => z.elim⟩
end
end
end SC
/-! try .. except C as n, on trees. -/
namespace SC
open PySem PySem.Spec PyProof.Rows L2
section
variable [TabL] [XCx]
variable {X : Cx} {x n : Str} {c : Value} {i : Nat} {body suite : List Stmt} {b₀ : Stmt} {np pos pos' : Pos}
abbrev DEx := Addr → DV → OH → Prop
/-- the handler: the error's class C is asked, its address a -/
def exTry (mt : Addr → Option Bool) (i : Nat) (ts : Addr → Addr → DS) (ex : DEx) (k : DEnds) : DEx := fun C e O => ∃ b, mt C = some b ∧
  (b = true → ∀ a, O a = none → ts a C { nx := fun e' O' => k.nx (e'.set i none) O', rt := k.rt, bk := fun e' O' => k.bk (e'.set i none) O', ct := fun e' O' => k.ct (e'.set i none) O' } (e.set i (some (.own a))) O) ∧ (b = false → ex C e O)
def dTryAs (mt : Addr → Option Bool) (i : Nat) (tb : DEx → DS) (ts : Addr → Addr → DS) (ex : DEx) : DS := fun k e O => tb (exTry mt i ts ex k) k e O
theorem try_end {K : PySem.W.Frag} {F F' H H' : Hp} {O O' : OH} {k : DEnds} {D : Ends} {i : Nat} {a : Addr} {e' : DV} {σ' : L2.St} (o : EndsOk K F O H k D) (s0 : Stt K F' O' H') (an : Go0 F O H F' O' H') (er2 : ERep K F' σ' e') {t' : DS} (ht : t' { nx := fun e' O' => k.nx (e'.set i none) O', rt := k.rt, bk := fun e' O' => k.bk (e'.set i none) O', ct := fun e' O' => k.ct (e'.set i none) O' } (e'.set i (some (.own a))) O') :
    upS K t' { nx := fun σ' H' => D.nx (σ'.set i none) H', rt := D.rt, bk := fun σ' H' => D.bk (σ'.set i none) H', ct := fun σ' H' => D.ct (σ'.set i none) H' } (σ'.set i (some (.ref a))) H' := by
  have g0 : Go K F O H F' O' H' := ⟨an.same, s0, an.frame⟩
  have o0 := o.after g0
  exact ⟨F', _, O', _, s0, er2.set (.own a) i, ht, ⟨fun e4 O4 F4 H4 σ4 h4 g4 r4 => o0.nx _ _ _ _ _ h4 g4 (r4.clear i), o0.rt, fun e4 O4 F4 H4 σ4 h4 g4 r4 => o0.bk _ _ _ _ _ h4 g4 (r4.clear i), fun e4 O4 F4 H4 σ4 h4 g4 r4 => o0.ct _ _ _ _ _ h4 g4 (r4.clear i)⟩⟩
omit [XCx] in
theorem psd_try_as [I0 : XCx] {tb : DEx → DS} {ts : Addr → Addr → DS} (hs : X.stack = X.env :: X.outer) (hf : X.env.frame = some X.env.locals) (hN : X.N.Nodup) (hi : X.N[i]? = some n) (hln : X.env.kindOf n = some .local) (hc : Names X x c) (tk : Takes X XCx.W) (xo : XOk X.K)
    (hb : ∀ (I : XCx) (pn : List (Addr × Obj)) (xe : Value → Shared → Prop), Go0 (@XCx.F0 I0) (@XCx.O0 I0) (@XCx.H0 I0) XCx.F0 XCx.O0 XCx.H0 → XOk X.K → Takes (X.tr pn xe) XCx.W → PBD (X.tr pn xe) body (tb XCx.ex))
    (hsu : ∀ (a : Addr) (oe : Obj) (C : Addr) (pn : List (Addr × Obj)), Zc (.ref C) none oe → (∃ vs, oe.data = .fields vs) → PBD (X.suite a ((a, oe) :: pn)) (b₀ :: suite) (ts a C)) :
    PSD X (.Try body [.ExceptHandler (some (.Name x np)) (some n) (b₀ :: suite) pos'] [] [] pos) (dTryAs (fun C => PySem.W.exmOne X.K (.ref C) c) i tb ts XCx.ex) := by
  refine ⟨PS.weak (ps_try_as (i := i) (c := c) (Wout := XCx.W)
    (tb := fun W D σ H => ∃ F e O k ex, Go0 (@XCx.F0 I0) (@XCx.O0 I0) (@XCx.H0 I0) F O H ∧ @XOk _ ⟨F, O, H, ex, W⟩ X.K ∧ @Stt _ ⟨F, O, H, ex, W⟩ X.K F O H ∧ ERep X.K F σ e ∧ tb ex k e O ∧ @EndsOk _ ⟨F, O, H, ex, W⟩ X.K F O H k D)
    (ts := fun a cls d D σ H => ∃ C, cls = .ref C ∧ d = none ∧ upS X.K (ts a C) D σ H)
    hs hf hN hi hln hc tk (fun W pn xe tkW _ => ⟨fun pins s σ H D I h => ?_⟩) (fun a oe cls d pn hz hd => ⟨fun pins s σ H D I h => ?_⟩)) fun D σ H h => ?_⟩
  · obtain ⟨F, e, O, k, ex, an, xo', st, er, h, o⟩ := h
    exact (@PBD.pb _ ⟨F, O, H, ex, W⟩ _ _ _ (hb ⟨F, O, H, ex, W⟩ pn xe an xo' tkW)).run pins s σ H D I ⟨F, e, O, k, st, er, h, o⟩
  · obtain ⟨C, rfl, rfl, h⟩ := h
    exact ((hsu a oe C pn hz hd).pb).run pins s σ H D I h
  · obtain ⟨F, e, O, k, st, er, h, o⟩ := h
    let I1 : XCx := ⟨F, O, H, exTry (fun C => PySem.W.exmOne X.K (.ref C) c) i ts (@XCx.ex I0) k, wAs X.K c i (fun a cls d D σ H => ∃ C, cls = .ref C ∧ d = none ∧ @upS _ I0 X.K (ts a C) D σ H) (@XCx.W I0) D⟩
    refine ⟨F, e, O, k, _, @Stt.anch _ I0 _ _ _ _ st, fun C e' F' O' H' σ' hx s2 er2 => ?_, st.self, er, h, EndsOk.conv st o⟩
    obtain ⟨b, e1, e2, e3⟩ := hx
    have an : Go0 F O H F' O' H' := @Stt.anch _ I1 _ _ _ _ s2
    have s0 : @Stt _ I0 X.K F' O' H' := Stt.conv st s2 an
    exact ⟨b, e1, fun hb' a na => ⟨C, rfl, rfl, @try_end _ I0 _ _ _ _ _ _ _ _ _ _ _ _ _ o s0 an er2 _ (e2 hb' a (@free_O _ I0 _ _ _ _ s0 _ na))⟩, fun hb' => xo _ _ _ _ _ _ (e3 hb') s0 er2⟩
/-- isinstance of the error that the suite holds -/
def rIsED (K : PySem.W.Frag) (C a : Addr) : RCD := fun ds O k => ∃ cd cv b, ds = [.own a, cd] ∧ ((∃ n, cd = .ty n ∧ cv = .type n) ∨ ∃ D, cd = .own D ∧ cv = .ref D) ∧ PySem.W.kitOne K (.ref C) cv = some b ∧ k (.bl b) O
theorem cd_isE {K : PySem.W.Frag} {C a : Addr} : CallD K (rIsE K C a) (rIsED K C a) := by
  intro xs ds F O H k Q st r h o
  obtain ⟨cd, cv, b, rfl, hcd, hk, h⟩ := h
  cases r with
  | cons r1 r2 => cases r2 with
    | cons r2 r3 =>
      cases r3
      cases r1
      rename_i v
      refine ⟨v, cv, b, rfl, fun u ru => ?_, hk, o _ _ _ _ _ h st.go (.bl b)⟩
      rcases hcd with ⟨n, rfl, rfl⟩ | ⟨D, rfl, rfl⟩
      · cases r2; exact ru
      · cases r2; exact ru
end
end SC
/-! A lambda without parameters, handed to a def that calls it, on trees. -/
namespace SC
open PySem PySem.Spec PyProof.Rows L2 LamX
/-- the lambda, told by what is done at an error, the lists, what follows -/
abbrev RL := (Addr → OH → Prop) → OH → (D → OH → Prop) → Prop
/-- what the def that calls it promises -/
abbrev DLm := RL → OH → (D → OH → Prop) → Prop
def blank (n : Nat) : DV := List.replicate n none
theorem erep_blank {K : PySem.W.Frag} {F : Hp} : ∀ σ : L2.St, ERep K F σ (blank σ.length)
  | [] => .nil
  | s :: σ => .none (erep_blank σ)
section
variable [TabL] [XCx]
/-- of the store only its length need be known -/
theorem Takes.len {X : Cx} {W : WX} (t : Takes X W) : Takes X (fun c d σ H => σ.length = X.N.length → W c d σ H) := fun u s' ⟨a, B, sI, pins, σ, H, cls, d, e, I, nb, up, sky, na, os, ag, w⟩ =>
  t u s' ⟨a, B, sI, pins, σ, H, cls, d, e, I, nb, up, sky, na, os, ag, w I.len⟩
theorem Stt.ext {K : PySem.W.Frag} {F H H1 : Hp} {O : OH} (s : Stt K F O H) (e : ExtN H H1) (t : Tabs TabL.tabs H1) : Go K F O H F O H1 :=
  Go.of s (Same.refl _) (fun b o q => e _ _ (s.same _ _ q) fun ps z => s.nt b ps (by rw [q, z])) (fun a ds q => let ⟨f, xs, h, r⟩ := s.own a ds q; ⟨f, xs, e _ _ h (fun _ z => by cases z), r⟩) (fun p hp => ⟨t p hp, (s.tabs p hp).2⟩) (fun a o h f q n => ⟨e _ _ h n, f, q⟩) s.nt
/-- a code object stays -/
theorem Go0.code {K : PySem.W.Frag} {F F' H H' : Hp} {O O' : OH} {c : Addr} {q : Str} (s : Stt K F O H) (g : Go0 F O H F' O' H') (sm : Same F' H') (h : H c = some (CodeO c q)) : H' c = some (CodeO c q) := by
  cases f : F c with
  | some u =>
    have e := s.same _ _ f
    rw [h] at e
    cases e
    exact sm _ _ (g.same _ _ f)
  | none =>
    cases o : O c with
    | some ds =>
      obtain ⟨_, xs, e, _⟩ := s.own _ _ o
      rw [h] at e
      unfold CodeO at e
      cases e
    | none => exact (g.frame _ _ h f o (codeO_ne)).1
/-- the lambda's reading at the state where it is called -/
def tRL (K : PySem.W.Frag) (tb : DEx → DE) : XK → TE := fun E σ H Q => ∃ (F : Hp) (e : DV) (O : OH) (k : D → OH → Prop) (kx : Addr → OH → Prop), Stt K F O H ∧ ERep K F σ e ∧ tb (fun C _ O' => kx C O') e O k ∧ Outs K F O H k Q ∧ ∀ C O' F' H', kx C O' → Go K F O H F' O' H' → E (.ref C) none H'
/-- what the callee is to keep -/
def TTD (K : PySem.W.Frag) (spW : DLm) : (XK → Hp → VK → Prop) → Hp → VK → Prop := fun tl H Q => ∃ F O k rl, Stt K F O H ∧
  (∀ F' O' H' E Q' k' kx, Stt K F' O' H' → Go0 F O H F' O' H' → rl kx O' k' → Outs K F' O' H' k' Q' → (∀ C O2 F2 H2, kx C O2 → Go K F' O' H' F2 O2 H2 → E (.ref C) none H2) → tl E H' Q') ∧ spW rl O k ∧ Outs K F O H k Q
/-- a(), a the lambda handed in -/
def dAct (f : Addr) (n : Nat) (rl : RL) (ex : DEx) : DE := fun e O k => e[0]? = some (some (.own f)) ∧ rl (fun C O' => ex C (blank n) O') O k
/-- x(lambda: body) -/
def dLam (tb : DEx → DE) (spW : DLm) : DE := fun e O k => spW (fun kx O' k' => tb (fun C _ O2 => kx C O2) e O' k') O k
theorem start_up {K : PySem.W.Frag} {F H : Hp} {O : OH} {N : List Str} {vs : List V} {ds : List D} {t : DS} {kk : D → OH → Prop} {Q : VK} (st : Stt K F O H) (r : Reps K F vs ds) (o : Outs K F O H kk Q) (h : t { nx := fun _ O' => kk .non O', rt := kk } (startD N ds) O) :
    upS K t { nx := fun _ H' => Q .non H', rt := Q } (L2.start N vs) H := ⟨F, _, O, _, st, erep_start r N, h, ⟨fun e' O' F' H' σ' h' g' _ => o _ _ _ _ _ h' g' .non, o, fun _ _ _ _ _ z => z.elim, fun _ _ _ _ _ z => z.elim⟩⟩
theorem gives_D {X : Cx} {Ng : List Str} {x a q : Str} {sg : Scope} {g : Addr} {cdg : Value} {bg : List Stmt} {spW : DLm}
    (h : ∀ (I0 : XCx) (f : Addr) (s : Shared) (H : Hp) (rl : RL), @XOk _ I0 X.K → Takes (cxOf C8.CX0 X.prog X.w X.K X.mg X.base Ng x sg g cdg X.A X.stack s H C8.E0).nox (@XCx.W I0) → (∀ (I : XCx) (pn : List (Addr × Obj)) (xe : Value → Shared → Prop) (p1 p2 : Pos), Go0 (@XCx.F0 I0) (@XCx.O0 I0) (@XCx.H0 I0) XCx.F0 XCx.O0 XCx.H0 → XOk X.K → Takes ((cxOf C8.CX0 X.prog X.w X.K X.mg X.base Ng x sg g cdg X.A X.stack s H C8.E0).tr pn xe) XCx.W →
        PD ((cxOf C8.CX0 X.prog X.w X.K X.mg X.base Ng x sg g cdg X.A X.stack s H C8.E0).tr pn xe) (.Call (.Name a p1) [] [] p2) (dAct f Ng.length rl XCx.ex)) →
      ∃ t : DS, @PBD _ I0 (cxOf C8.CX0 X.prog X.w X.K X.mg X.base Ng x sg g cdg X.A X.stack s H C8.E0).nox bg t ∧ ∀ O (k : D → OH → Prop), spW rl O k → t { nx := fun _ O' => k .non O', rt := k } (startD Ng [.own f]) O) :
    GivesTo X Ng x sg g cdg bg a q (TTD X.K spW) := by
  rename_i I0
  intro f c' s H Q tl act hc ht
  obtain ⟨F, O, k, rl, st, hrl, hs, o⟩ := ht
  have hact : ∀ (I : XCx) (pn : List (Addr × Obj)) (xe : Value → Shared → Prop) (p1 p2 : Pos), Go0 F O H I.F0 I.O0 I.H0 → @XOk _ I X.K → Takes ((cxOf C8.CX0 X.prog X.w X.K X.mg X.base Ng x sg g cdg X.A X.stack s H C8.E0).tr pn xe) I.W →
      @PD _ I ((cxOf C8.CX0 X.prog X.w X.K X.mg X.base Ng x sg g cdg X.A X.stack s H C8.E0).tr pn xe) (.Call (.Name a p1) [] [] p2) (dAct f Ng.length rl I.ex) := by
    intro I pn xe p1 p2 an xo tk
    refine @PD.mk _ I _ _ _ (PE.weak (act _ pn xe (fun cls d H' => ∃ C F' O', cls = .ref C ∧ d = none ∧ @Stt _ I X.K F' O' H' ∧ @XCx.ex I C (blank Ng.length) O') p1 p2 (Takes.len tk) fun cls d σ' H' hE len => ?_) fun σ HZ Q' hh => ?_)
    · obtain ⟨C, F', O', rfl, rfl, s', hx⟩ := hE
      have len : σ'.length = Ng.length := len
      exact xo C _ F' O' H' σ' hx s' (len ▸ erep_blank σ')
    · obtain ⟨F', e', O', k', st', er', ⟨h0, hr⟩, ok'⟩ := hh
      obtain ⟨v, hv, rv⟩ := er'.get h0
      cases rv
      have g0 : Go0 F O H F' O' HZ := an.trans (@Stt.anch _ I _ _ _ _ st')
      exact ⟨hv, @Go0.code _ I0 _ _ _ _ _ _ _ _ _ st g0 (@Stt.same _ I _ _ _ _ st') hc, hrl F' O' HZ _ Q' k' _ (Stt.conv st st' g0) g0 hr (Outs.conv st' ok') fun C O2 F2 H2 hx g => ⟨C, F2, O2, rfl, rfl, Stt.conv st' (@Go.stt _ I0 _ _ _ _ _ _ _ g) (@Go.go0 _ I0 _ _ _ _ _ _ _ g), hx⟩⟩
  obtain ⟨t, p, hq⟩ := h ⟨F, O, H, fun _ _ _ => False, fun _ _ _ _ => False⟩ f s H rl (fun _ _ _ _ _ _ z => z.elim) L2.takes0 hact
  have o' : @Outs _ ⟨F, O, H, fun _ _ _ => False, fun _ _ _ _ => False⟩ X.K F O H k Q := Outs.conv st o
  exact ⟨_, @PBD.pb _ ⟨F, O, H, fun _ _ _ => False, fun _ _ _ _ => False⟩ _ _ _ p, @start_up _ ⟨F, O, H, fun _ _ _ => False, fun _ _ _ _ => False⟩ _ _ _ _ _ _ _ _ _ _ st.self (.cons (.own f) .nil) o' (hq O k hs)⟩
theorem rl_body {X : Cx} {A : Around} {outer : List Env} {s : Shared} {H : Hp} {E : XK} {scope : Scope} {f c' : Addr} {body : Expr} {tb : DEx → DE}
    (h : ∀ (I : XCx), XOk X.K → Takes (lamCx X A outer s H E scope f c') XCx.W → PD (lamCx X A outer s H E scope f c') body (tb XCx.ex)) : PE (lamCx X A outer s H E scope f c') body (tRL X.K tb E) := by
  rename_i I0
  refine ⟨fun pins s' σ HZ Q' I' hh => ?_⟩
  obtain ⟨F, e, O, k, kx, st, er, hh, o, hE⟩ := hh
  have xo : @XOk _ ⟨F, O, HZ, fun C _ O' => kx C O', fun cls d _ H' => E cls d H'⟩ X.K := fun C e' F' O' H' σ' hx s2 _ => hE C O' F' H' hx (@Go.mk _ I0 _ _ _ _ _ _ _ (@Stt.anch _ ⟨F, O, HZ, fun C _ O' => kx C O', fun cls d _ H' => E cls d H'⟩ _ _ _ _ s2).same (Stt.conv st s2 (@Stt.anch _ ⟨F, O, HZ, fun C _ O' => kx C O', fun cls d _ H' => E cls d H'⟩ _ _ _ _ s2)) (@Stt.anch _ ⟨F, O, HZ, fun C _ O' => kx C O', fun cls d _ H' => E cls d H'⟩ _ _ _ _ s2).frame)
  exact (@PD.pe _ ⟨F, O, HZ, fun C _ O' => kx C O', fun cls d _ H' => E cls d H'⟩ _ _ _ (h ⟨F, O, HZ, fun C _ O' => kx C O', fun cls d _ H' => E cls d H'⟩ xo (takes_of rfl rfl rfl rfl))).run pins s' σ HZ Q' I' ⟨F, e, O, k, st.self, er, hh, Outs.conv st o⟩
theorem pd_lamcall {X : Cx} {x a : Str} {g c P : Addr} {k : Nat} {pg : Arguments} {bg : List Stmt} {sg : Scope} {dV kV doc pm cdv ct oc : Value} {an od : Option Addr} {osl : Array (Option Value)} {Ng : List Str}
    {params : Arguments} {body : Expr} {scope : Scope} {tb : DEx → DE} {spW : DLm} {p lpos pos : Pos} (hg : Gl X x) (hm : X.mg x = some (.ref g)) (hk : PySem.W.keepIn X.K (.ref g) = true)
    (lk : X.K.lookup g = some ⟨oc, od, .func (PySem.W.fnOf x x pg bg sg dV kV doc pm an cdv ct), osl⟩) (hcg : PySem.W.codeIn X.K cdv x = true) (hb : L2.Binds X.K (PySem.W.fnOf x x pg bg sg dV kV doc pm an cdv ct) [a] []) (Sg : FnScope Ng [a] sg) (hNg : Ng[0]? = some a) (hva : Vis sg a)
    (hG : GivesTo X Ng x sg g cdv bg a (X.env.qual ++ "<lambda>") (TTD X.K spW))
    (TB : TabB X.base X.mg c P) (hcode : X.env.code = .ref c) (hmT : (P, X.env.qual ++ "<lambda>") ∈ TabL.tabs) (hu : ∀ p ∈ TabL.tabs, p.1 = P → p.2 = X.env.qual ++ "<lambda>") (hr : Room (k + 2) X.A) (L : LamS X.env.scope scope) (hdef : defaultsOf params X.env = ([], []))
    (hbind : ∀ (q : Str) (cl : List (Str × Addr)) (pm cv ctv : Value), bindArgs (PySem.W.kla_fn "<lambda>" q params body scope cl pm cv ctv) ⟨[], []⟩ = pure [])
    (hbody : ∀ (I : XCx) (A : Around) (outer : List Env) (s : Shared) (H : Hp) (E : XK) (f c' : Addr), Room k (A.deeper (lamEnv X scope s.heap.objs.size f c')) → XOk X.K → Takes (lamCx X A outer s H E scope f c') XCx.W → PD (lamCx X A outer s H E scope f c') body (tb XCx.ex))
    (hdb : (x == ("__debug__" : Str)) = false := by decide) (hd : (a == ("__debug__" : Str)) = false := by decide) (hcd : (a == ("__classdict__" : Str)) = false := by decide) :
    PD X (.Call (.Name x p) [.Lambda params body scope lpos] [] pos) (dLam tb spW) := by
  rename_i I0
  refine ⟨PE.weak (pe_lamcall (T := TabL.tabs) (t := tRL X.K tb) hg hm hk lk hcg hb Sg hNg hva hG TB hcode hmT hu hr L hdef hbind (fun A outer s H E f c' hr' => rl_body fun I xo tk => hbody I A outer s H E f c' hr' xo tk) hdb hd hcd) fun σ H Q h => ?_⟩
  obtain ⟨F, e, O, k, st, er, h, o⟩ := h
  refine ⟨fun t ht => (st.tabs t ht).1, fun H1 eN hT => ?_⟩
  have g := st.ext eN hT
  exact ⟨F, O, k, _, g.stt, fun F' O' H' E Q' k' kx s' g0 hr o' hx => ⟨F', e, O', k', kx, s', er.mono g0.same, hr, o', hx⟩, h, o.after g⟩
end
end SC
/-! t[::s] of a tuple, s one or minus one. -/
namespace SC
open PySem PySem.Spec PyProof.Rows L2 HT
section
variable {prog : Program} {w : World} {A : Around} {E : Value → Shared → Prop} {s : Shared}
theorem slice_step {sl : Addr} {c : Int} {t : Tok} {n : Nat} {Q : Int × Int × Nat → Shared → Prop} (hs : s.heap.IsSliceOf sl .none .none (.int c t)) (h1 : c = 1 → Q ((0 : Int), 1, n) s) (h2 : c = -1 → Q ((n : Int) - 1, -1, n) s) (hc : c = 1 ∨ c = -1) :
    wpAny (model prog w) A (Builtin.Slice.sliceApplied (.ref sl) (pure (n : Int))) Q E s := by
  obtain ⟨os, hos, hcs, hds⟩ := id hs
  unfold Builtin.Slice.sliceApplied Builtin.Slice.sliceFields
  refine wpAny_bind (wpAny_bind (wpAny_field hos hds (x := .none) rfl (wpAny_bind (wpAny_field hos hds (x := .none) rfl (wpAny_bind (wpAny_field hos hds (x := .int c t) rfl (wpAny_pure ?_)))))))
  refine wpAny_bind (slicePart_int ?_)
  rcases hc with rfl | rfl
  · show wpAny _ _ (if ((1 : Int) == 0) = true then _ else _) _ _ s
    rw [if_neg (by decide)]
    refine wpAny_bind (slicePart_none (wpAny_bind (slicePart_none (wpAny_bind (wpAny_pure ?_)))))
    show wpAny _ _ (match Builtin.Slice.sliceAdjust none none 1 (n : Int) with | (lo, hi) => pure (lo, (1 : Int), Builtin.Slice.slicePlaces lo hi 1)) _ _ s
    have e : Builtin.Slice.sliceAdjust none none 1 (n : Int) = (0, (n : Int)) := by simp [Builtin.Slice.sliceAdjust]
    have e2 : Builtin.Slice.slicePlaces 0 (n : Int) 1 = n := by
      unfold Builtin.Slice.slicePlaces
      simp only [show (1 : Int) > 0 by omega, if_true, Int.ediv_one]
      split <;> omega
    rw [e]
    show wpAny _ _ (pure ((0 : Int), (1 : Int), Builtin.Slice.slicePlaces 0 (n : Int) 1)) _ _ s
    rw [e2]
    exact wpAny_pure (h1 rfl)
  · show wpAny _ _ (if ((-1 : Int) == 0) = true then _ else _) _ _ s
    rw [if_neg (by decide)]
    refine wpAny_bind (slicePart_none (wpAny_bind (slicePart_none (wpAny_bind (wpAny_pure ?_)))))
    show wpAny _ _ (match Builtin.Slice.sliceAdjust none none (-1) (n : Int) with | (lo, hi) => pure (lo, (-1 : Int), Builtin.Slice.slicePlaces lo hi (-1))) _ _ s
    have e : Builtin.Slice.sliceAdjust none none (-1) (n : Int) = ((n : Int) - 1, -1) := by simp [Builtin.Slice.sliceAdjust]
    have e2 : Builtin.Slice.slicePlaces ((n : Int) - 1) (-1) (-1) = n := by
      unfold Builtin.Slice.slicePlaces
      simp only [show ¬ ((-1 : Int) > 0) by omega, if_false, show (- -1 : Int) = 1 by decide, Int.ediv_one]
      split <;> omega
    rw [e]
    show wpAny _ _ (pure ((n : Int) - 1, (-1 : Int), Builtin.Slice.slicePlaces ((n : Int) - 1) (-1) (-1))) _ _ s
    rw [e2]
    exact wpAny_pure (h2 rfl)
theorem fm_congr {α β : Type} {f g : α → Option β} : ∀ l : List α, (∀ m ∈ l, f m = g m) → l.filterMap f = l.filterMap g
  | [], _ => rfl
  | a :: l, h => by
    rw [List.filterMap_cons, List.filterMap_cons, h a (by simp), fm_congr l fun m hm => h m (by simp [hm])]
theorem pick_rev (xs : Array Value) : ((List.range xs.size).filterMap fun (m : Nat) => xs[(((xs.size : Int) - 1) + (m : Int) * -1).toNat]?).toArray = xs.toList.reverse.toArray := by
  have e : ∀ m ∈ List.range xs.size, xs[(((xs.size : Int) - 1) + (m : Int) * -1).toNat]? = xs[xs.size - 1 - m]? := fun m hm => by
    have hm := List.mem_range.mp hm
    have : (((xs.size : Int) - 1) + (m : Int) * -1).toNat = xs.size - 1 - m := by omega
    rw [this]
  have e2 : ((List.range xs.size).filterMap fun (m : Nat) => xs[(((xs.size : Int) - 1) + (m : Int) * -1).toNat]?) = (List.range xs.size).filterMap fun m => xs[xs.size - 1 - m]? := by
    exact fm_congr _ e
  rw [e2]
  have := PySem.W.krv_range xs.size
  have e3 : (List.range xs.size).filterMap (fun m => xs[xs.size - 1 - m]?) = ((List.range xs.size).map fun k => xs.size - 1 - k).filterMap (xs[·]?) := by
    rw [List.filterMap_map]
    rfl
  rw [e3, this, List.filterMap_reverse, PySem.W.krv_all]
theorem getItem_tuple_step {t sl : Addr} {items : Array Value} {c : Int} {tk : Tok} {Q : Value → Shared → Prop} (ht : IsTup s.heap t items) (hs : s.heap.IsSliceOf sl .none .none (.int c tk)) (hc : c = 1 ∨ c = -1)
    (h1 : c = 1 → Q (.ref t) s) (h : c = -1 → Q (.ref s.heap.objs.size) { s with heap := s.heap.push { cls := .type "tuple", data := .seq items.toList.reverse.toArray } })
    (hsz : items.size ≤ sizeLine) : wpAny (model prog w) A (getItem (.ref t) (.ref sl)) Q E s := by
  have htake : sizeOk (.seq items.toList.reverse.toArray) := by
    show items.toList.reverse.toArray.size ≤ sizeLine
    simpa using hsz
  obtain ⟨os, hos, hcs, hds⟩ := id hs
  have hTs : s.TypeIs (.ref sl) "slice" := ⟨os, hos, hcs⟩
  unfold getItem
  try with_reducible refine wpAny_holding ?_
  first | refine wpAny_bind (wpAny_pure ?_) | skip
  refine wpAny_bind (wpAny_sequenceKey ht.typeIs (by decide) ?_)
  refine wpAny_bind (wpAny_callSpecial?_slot (name := Str.ofString "__getitem__") ht.typeIs PyProof.Rows.slot_tuple_getitem
    (wpAny_call_entry PyProof.Rows.slot_tuple_getitem ht.typeIs entry_tuple_getitem ?_ (args_tuple_getitem _ _)))
  show wpAny _ _ (Builtin.Tuple.tupleItemsOf (.ref t) >>= _) _ _ s
  refine wpAny_bind (tupleItemsOf_ ht ?_)
  refine wpAny_bind (wpAny_typeOf hTs ?_)
  rw [if_pos (by decide)]
  refine wpAny_bind (slice_step hs (fun e => ?_) (fun e => ?_) hc)
  · have hyes : ((0 : Int) == 0 && (1 : Int) == 1 && items.size == items.size) = true := by simp
    show wpAny _ _ (if ((0 : Int) == 0 && (1 : Int) == 1 && items.size == items.size) = true then _ else _) _ _ s
    rw [if_pos hyes]
    refine wpAny_bind ?_
    show wpAny _ _ (typeOf (.ref t) >>= fun T => pure (T == .type "tuple")) _ _ s
    refine wpAny_bind (wpAny_typeOf ht.typeIs (wpAny_pure ?_))
    first
      | rw [if_pos (by decide)]
      | simp only [beq_self_eq_true, if_true]
    first
      | exact wpAny_bind (wpAny_rule (wpAny_pure ⟨_, rfl, wpAny_pure (h1 e)⟩))
      | exact wpAny_bind (wpAny_rule (wpAny_bind (wpAny_pure (wpAny_pure ⟨_, rfl, wpAny_pure (h1 e)⟩))))
  · have hno : ¬ ((((items.size : Int) - 1) == 0 && (-1 : Int) == 1 && items.size == items.size) = true) := by simp
    show wpAny _ _ (if (((items.size : Int) - 1) == 0 && (-1 : Int) == 1 && items.size == items.size) = true then _ else _) _ _ s
    rw [if_neg hno, pick_rev]
    have h := h e
    first
      | exact wpAny_bind (m := Builtin.Tuple.tupleExact _) (wpAny_newObj_type (wpAny_pure ⟨_, rfl, wpAny_pure h⟩) htake)
      | exact wpAny_bind (m := Builtin.Tuple.tupleExact _) (wpAny_newObj_type (wpAny_bind (wpAny_pure (wpAny_pure ⟨_, rfl, wpAny_pure h⟩))) htake)
      | exact wpAny_bind (wpAny_bind (m := Builtin.Tuple.tupleExact _) (wpAny_newObj_type (wpAny_pure (wpAny_pure ⟨_, rfl, wpAny_pure h⟩)) htake))
      | exact wpAny_bind (wpAny_bind (m := Builtin.Tuple.tupleExact _) (wpAny_newObj_type (wpAny_pure ⟨_, rfl, wpAny_pure h⟩) htake))
end
section
variable [TabL] [XCx]
variable {X : Cx} {a b : Expr} {da db : DE} {pos p2 : Pos}
def tSlS (K : PySem.W.Frag) (te ts : TE) : TE := fun σ H Q => te σ H fun x H1 => ts σ H1 fun y H2 => ∃ t xs c, x = .ref t ∧ y = .int c ∧ SqT K H2 t xs ∧ (c = 1 ∨ c = -1) ∧ (c = 1 → Q (.ref t) H2) ∧ (c = -1 → ∀ p, H2 p = none → Q (.ref p) (upd H2 p (.tup xs.reverse)))
theorem pe_sliceS {te ts : TE} (he : PE X a te) (hs : PE X b ts) (hsub : ∀ v u : Value, subscripted (.Slice none none (some b) p2) false v u = operate [v, u] (getItem v u) := by intro _ _; with_unfolding_all rfl) : PE X (.Subscript a (.Slice none none (some b) p2) pos) (tSlS X.K te ts) := by
  refine ⟨fun pins s σ H Q I h => ?_⟩
  refine Subscript_ (thn (he.run pins s σ H _ I h) fun v s1 ⟨x, H1, I1, r1, q1⟩ => ?_)
  refine wpAny_Slice ?_
  rw [evalPart_none]
  refine wpAny_pure (wpAny_pure ?_)
  rw [evalPart_some]
  refine thn (hs.run pins s1 σ H1 _ I1 q1) fun vc s3 ⟨y, H3, I3, pc, q3⟩ => ?_
  obtain ⟨t, xs, c, rfl, rfl, hq, hc, h1, h2⟩ := q3
  obtain ⟨tk, rfl⟩ := pc
  cases r1
  have I4 : Inv X pins σ H3 { s3 with heap := s3.heap.push { cls := .type "slice", data := .fields #[.none, .none, .int c tk] } } := I3.kept (t' := s3.toks) fun b ob q => Heap.get?_push_of_some _ q
  obtain ⟨its, r, ht, hz⟩ := I4.tuple hq
  have hsl : (s3.heap.push { cls := .type "slice", data := .fields #[.none, .none, .int c tk] }).IsSliceOf s3.heap.objs.size .none .none (.int c tk) := Heap.IsSliceOf.new ..
  show wpAny (model X.prog X.w) X.A (subscriptTail a (.Slice none none (some b) p2) (.ref t) (.ref s3.heap.objs.size)) (EP X pins σ Q) X.xe { s3 with heap := s3.heap.push { cls := .type "slice", data := .fields #[.none, .none, .int c tk] } }
  refine tail_any (ops := [.ref t, .ref s3.heap.objs.size]) ht.typeIs PyProof.Rows.slot_tuple_getitem.lookup ?_ (hsub _ _)
  have hlen : its.toArray.size = xs.length := by rw [List.size_toArray]; exact r.length.symm
  refine getItem_tuple_step (s := { s3 with heap := s3.heap.push { cls := .type "slice", data := .fields #[.none, .none, .int c tk] } }) ht hsl hc (fun e => ⟨.ref t, H3, I4, rfl, h1 e⟩) (fun e => ?_) (by rw [hlen]; exact hz)
  refine ⟨.ref _, _, I4.laid (t' := s3.toks) (o := .tup xs.reverse) (fun b ob q => Heap.get?_push_of_some _ q) (Nat.le_refl _) ?_, rfl, h2 e _ (I4.hok.fresh (Nat.le_refl _))⟩
  exact ⟨by simpa using hz, _, r.reverse, IsTup.new _ _⟩
/-- t[::s] -/
def dSlS (t u : DE) : DE := fun e O k => t e O fun d O1 => u e O1 fun d2 O2 => match d, d2 with
  | .tup xs, .int c => (c = 1 ∨ c = -1) ∧ k (.tup (bif c == 1 then xs else xs.reverse)) O2
  | _, _ => False
theorem Reps.reverse {K : PySem.W.Frag} {F : Hp} : ∀ {vs : List V} {ds : List D}, Reps K F vs ds → Reps K F vs.reverse ds.reverse
  | _, _, .nil => .nil
  | _, _, .cons h r => by
    rw [List.reverse_cons, List.reverse_cons]
    exact (Reps.reverse r).append (.cons h .nil)
theorem pd_sliceS (ha : PD X a da) (hb : PD X b db) (hsub : ∀ v u : Value, subscripted (.Slice none none (some b) p2) false v u = operate [v, u] (getItem v u) := by intro _ _; with_unfolding_all rfl) : PD X (.Subscript a (.Slice none none (some b) p2) pos) (dSlS da db) := by
  refine ⟨PE.weak (pe_sliceS ha.pe hb.pe hsub) fun σ H Q h => ?_⟩
  obtain ⟨F, e, O, k, st, er, h, o⟩ := h
  refine ⟨F, e, O, _, st, er, h, fun d O1 F1 H1 v h1 g1 r1 => ⟨F1, e, O1, _, g1.stt, er.mono g1.same, h1, fun d2 O2 F2 H2 v2 h2 g2 r2 => ?_⟩⟩
  have g := g1.trans g2
  have r3 := r1.mono g2.same
  try dsimp only at h2
  split at h2
  · rename_i xs c
    obtain ⟨hc, h2⟩ := h2
    cases r2
    cases r3 with
    | tup q rr =>
      refine ⟨_, _, c, rfl, rfl, Same.seqT g.stt.same q, hc, fun e => ?_, fun e p n => ?_⟩
      · subst e
        exact o _ _ _ _ _ h2 g (.tup q rr)
      · subst e
        exact o _ _ _ _ _ h2 (g.trans (g.stt.made n)) (.tup (.of upd_same) (rr.reverse.mono (same_upd (free_F g.stt n))))
  · exact h2.elim
end
end SC
/-! Some more expressions. -/
namespace SC
open PySem PySem.Spec PyProof.Rows L2
section
variable [TabL] [XCx]
variable {X : Cx} {a b : Expr} {da db : DE} {pos : Pos}
theorem pd_dct : PD X (.Dict [] [] pos) (dC .dct) := ⟨PE.weak pe_dnewK fun σ H Q ⟨F, e, O, k, st, er, h, o⟩ => fun p n => o _ _ _ _ _ h (st.made n) (.dct upd_same)⟩
/-- list(x) -/
def rListD : RCD := fun ds O k => match ds with
  | [.lst xs] => k (.lst xs) O
  | [.tup xs] => k (.lst xs) O
  | [.fz xs] => k (.lst xs) O
  | _ => False
theorem cd_list {K : PySem.W.Frag} : CallD K (fun xs H Q => ∃ p ys, xs = [.ref p] ∧ (SqL K H p ys ∨ SqT K H p ys) ∧ ∀ l, H l = none → Q (.ref l) (upd H l (.lst ys))) rListD := by
  intro xs ds F O H k Q st r h o
  unfold rListD at h
  split at h
  · cases r with
    | cons r1 r2 =>
      cases r2
      cases r1 with
      | lst q rr => exact ⟨_, _, rfl, .inl (.of (st.same _ _ q)), fun l n => o _ _ _ _ _ h (st.made n) (.lst upd_same (rr.mono (same_upd (free_F st n))))⟩
  · cases r with
    | cons r1 r2 =>
      cases r2
      cases r1 with
      | tup q rr => exact ⟨_, _, rfl, .inr (Same.seqT st.same q), fun l n => o _ _ _ _ _ h (st.made n) (.lst upd_same (rr.mono (same_upd (free_F st n))))⟩
  · cases r with
    | cons r1 r2 =>
      cases r2
      cases r1 with
      | fz q rr => exact ⟨_, _, rfl, .inl (st.same.seq q), fun l n => o _ _ _ _ _ h (st.made n) (.lst upd_same (rr.mono (same_upd (free_F st n))))⟩
  · exact h.elim
/-- t * k, k two or more, t not empty -/
def dMulT : R2D := fun x y O k => match x, y with
  | .tup xs, .int c => (xs ≠ [] ∧ xs.length ≤ 1000 ∧ 2 ≤ c ∧ c ≤ 1000) ∧ k (.tup (List.replicate c.toNat xs).flatten) O
  | _, _ => False
theorem Reps.reps {K : PySem.W.Frag} {F : Hp} {vs : List V} {ds : List D} (r : Reps K F vs ds) : ∀ n : Nat, Reps K F (List.replicate n vs).flatten (List.replicate n ds).flatten
  | 0 => .nil
  | n + 1 => by
    rw [List.replicate_succ, List.replicate_succ, List.flatten_cons, List.flatten_cons]
    exact r.append (Reps.reps r n)
theorem od_mulT {K : PySem.W.Frag} : OpD K (fun x y H Q => ∃ l k xs, x = .ref l ∧ y = .int k ∧ SqT K H l xs ∧ xs ≠ [] ∧ 2 ≤ k ∧ k ≤ 1000 ∧ xs.length ≤ 1000 ∧ ∀ p, H p = none → Q (.ref p) (upd H p (.tup (List.replicate k.toNat xs).flatten))) dMulT := by
  intro x y a b F O H k Q st ra rb h o
  unfold dMulT at h
  split at h
  · obtain ⟨⟨h1, h2, h3, h4⟩, h⟩ := h
    cases rb
    cases ra with
    | @tup l xs ds q rr =>
      have n0 : xs ≠ [] := fun z => h1 (List.eq_nil_of_length_eq_zero (by rw [← rr.length, z]; rfl))
      exact ⟨_, _, _, rfl, rfl, Same.seqT st.same q, n0, h3, h4, by rw [rr.length]; exact h2, fun p n => o _ _ _ _ _ h (st.made n) (.tup (.of upd_same) ((rr.reps _).mono (same_upd (free_F st n))))⟩
  · exact h.elim
theorem pd_mulT (ha : PD X a da) (hb : PD X b db) : PD X (.BinOp a .Mult b pos) (dOp dMulT da db) := pd_op op_repT od_mulT ha hb
/-- lists of three flags compared -/
def dEq3 : R2D := fun x y O k => match x, y with
  | .lst [.bl a, .bl b, .bl c], .lst [.bl a', .bl b', .bl c'] => k (.bl (a == a' && (b == b' && c == c'))) O
  | _, _ => False
theorem dp3 {K : PySem.W.Frag} {F H : Hp} {v : V} {a b c : Bool} (s : Same F H) (r : Rep K F v (.lst [.bl a, .bl b, .bl c])) : Dp K H v (.list [.bool a, .bool b, .bool c]) := by
  cases r with
  | lst q rr =>
    cases rr with
    | cons r1 rr => cases rr with
      | cons r2 rr => cases rr with
        | cons r3 rr =>
          cases rr; cases r1; cases r2; cases r3
          exact .lst (.of (s _ _ q)) (.cons (.bl a) (.cons (.bl b) (.cons (.bl c) .nil)))
theorem od_eq3 {K : PySem.W.Frag} : OpD K (rEqD K) dEq3 := by
  intro x y a b F O H k Q st ra rb h o
  unfold dEq3 at h
  split at h
  · rename_i a b c a' b' c'
    refine ⟨_, _, dp3 st.same ra, dp3 st.same rb, ?_, ?_, o _ _ F H _ h st.go ?_⟩
    · cases a <;> cases b <;> cases c <;> decide +kernel
    · cases a' <;> cases b' <;> cases c' <;> decide +kernel
    · have e : PyData.eqv (.list [.bool a, .bool b, .bool c]) (.list [.bool a', .bool b', .bool c']) = (a == a' && (b == b' && c == c')) := by
        cases a <;> cases b <;> cases c <;> cases a' <;> cases b' <;> cases c' <;> decide +kernel
      rw [e]
      exact .bl _
  · exact h.elim
theorem pd_eq3 (hu : X.A.units + 64 < cLine) (ha : PD X a da) (hb : PD X b db) : PD X (.Compare a [.Eq] [b] pos) (dOp dEq3 da db) := pd_cmp (op_eqD hu) od_eq3 ha hb
/-- an own list + a list -/
def dAddL : R2D := fun a b O k => match a, b with
  | .own p, .lst ys => match O p with
    | some xs => xs.length + ys.length ≤ sizeLine ∧ k (.lst (xs ++ ys)) O
    | none => False
  | _, _ => False
/-- the sum may still be changed -/
def dAddLO : R2D := fun a b O k => match a, b with
  | .own p, .lst ys => match O p with
    | some xs => xs.length + ys.length ≤ sizeLine ∧ ∀ q, O q = none → k (.own q) (oset O q (xs ++ ys))
    | none => False
  | _, _ => False
theorem od_addL {K : PySem.W.Frag} : OpD K rCat dAddL := by
  intro x y a b F O H k Q st ra rb h o
  unfold dAddL at h
  split at h
  · rename_i p ys
    split at h
    · rename_i ds e
      obtain ⟨xs, q, rr⟩ := st.rel e
      cases ra
      cases rb with
      | lst q2 rr2 => exact ⟨_, _, _, _, rfl, rfl, q, st.same _ _ q2, by rw [rr.length, rr2.length]; exact h.1, fun p n => o _ _ _ _ _ h.2 (st.made n) (.lst upd_same ((rr.append rr2).mono (same_upd (free_F st n))))⟩
    · exact h.elim
  · exact h.elim
theorem od_addLO {K : PySem.W.Frag} : OpD K rCat dAddLO := by
  intro x y a b F O H k Q st ra rb h o
  unfold dAddLO at h
  split at h
  · rename_i p ys
    split at h
    · rename_i ds e
      obtain ⟨xs, q, rr⟩ := st.rel e
      cases ra
      cases rb with
      | lst q2 rr2 => exact ⟨_, _, _, _, rfl, rfl, q, st.same _ _ q2, by rw [rr.length, rr2.length]; exact h.1, fun p n => o _ _ _ _ _ (h.2 p (free_O st n)) (st.fresh n (rr.append rr2)) (.own p)⟩
    · exact h.elim
  · exact h.elim
theorem pd_addL (ha : PD X a da) (hb : PD X b db) : PD X (.BinOp a .Add b pos) (dOp dAddL da db) := pd_op op_cat od_addL ha hb
theorem pd_addLO (ha : PD X a da) (hb : PD X b db) : PD X (.BinOp a .Add b pos) (dOp dAddLO da db) := pd_op op_cat od_addLO ha hb
end
end SC
namespace SC
open PySem PySem.Spec PyProof.Rows L2
section
variable [TabL] [XCx]
/-- what is never come to -/
def dDead : DS := fun _ _ _ => False
theorem psd_dead {X : Cx} {st : Stmt} : PSD X st dDead := ⟨⟨fun _ _ _ _ _ _ h => h.elim fun _ h => h.elim fun _ h => h.elim fun _ h => h.elim fun _ h => h.2.2.1.elim⟩⟩
end
end SC
namespace SC
open PySem PySem.Spec PyProof.Rows L2
section
variable [TabL] [XCx]
/-- lists of its own may be left behind -/
def jk (kk : D → OH → Prop) : D → OH → Prop := fun d O => ∃ qs : List Addr, kk d (qs.foldl odel O)
theorem odel_some {O : OH} {q a : Addr} {ds : List D} (h : odel O q a = some ds) : O a = some ds := by
  unfold odel at h
  split at h
  · cases h
  · exact h
theorem odel_none {O : OH} {q a : Addr} (h : O a = none) : odel O q a = none := by
  unfold odel
  split
  · rfl
  · exact h
theorem Go.drop {K : PySem.W.Frag} {F F1 H H1 : Hp} {O O1 : OH} (s : Stt K F O H) (g : Go K F O H F1 O1 H1) (q : Addr) : Go K F O H F1 (odel O1 q) H1 :=
  Go.of s g.same g.stt.same (fun a ds e => g.stt.own a ds (odel_some e)) (fun t ht => let ⟨a, b, c⟩ := g.stt.tabs t ht; ⟨a, b, odel_none c⟩) (fun a o h f u n => let ⟨x, y, z⟩ := g.frame a o h f u n; ⟨x, y, odel_none z⟩) g.stt.nt
theorem Go.drops {K : PySem.W.Frag} {F F1 H H1 : Hp} {O : OH} (s : Stt K F O H) : ∀ (qs : List Addr) {O1 : OH}, Go K F O H F1 O1 H1 → Go K F O H F1 (qs.foldl odel O1) H1
  | [], _, g => g
  | q :: qs, _, g => Go.drops s qs (g.drop s q)
theorem Outs.jk {K : PySem.W.Frag} {F H : Hp} {O : OH} {kk : D → OH → Prop} {Q : VK} (s : Stt K F O H) (o : Outs K F O H kk Q) : Outs K F O H (jk kk) Q := fun d O' F' H' v ⟨qs, h⟩ g r => o d _ F' H' v h (Go.drops s qs g) r
end
section
variable [TabL] [XCx] {P : Program} {w : World} {K : PySem.W.Frag} {mg : Str → Option Value} {base : Heap}
theorem okDj {x qual : Str} {st : Stmt} {f : Addr} {fd : FuncData} {N ps : List Str} {k : Nat} {sp : DSp} (F : Fun K x qual st f fd) (S : FnScope N ps (defScope st)) (len : ∀ ds O k, sp ds O k → ds.length = ps.length)
    (hbody : ∀ (cdv : Value) (A : Around) (outer : List Env) (s : Shared) (H : Hp) (E : XK), Room k (A.deeper (envOfC qual (defScope st) s.heap.objs.size f cdv)) →
      ∃ t : DS, PBD (cxOf CX0 P w K mg base N qual (defScope st) f cdv A outer s H E).nox (defBody st) t ∧ ∀ ds O (kk : D → OH → Prop), sp ds O kk → t { nx := fun _ O' => kk .non O', rt := jk kk } (startD N ds) O) :
    FnOk P w K mg base CX0 (k + 1) f fd ps (upSp K sp) := by
  refine F.ok S (fun vs H Q E h => ?_) fun cdv A outer s H vs Q E hr h => ?_
  · obtain ⟨F, ds, O, k, st, r, h, o⟩ := h
    rw [r.length]
    exact len _ _ _ h
  · obtain ⟨t, p, q⟩ := hbody cdv A outer s H E hr
    obtain ⟨F, ds, O, kk, st, r, h, o⟩ := h
    exact ⟨_, p.pb, F, _, O, _, st, erep_start r N, q ds O kk h, fun e' O' F' H' σ' h' g' _ => o _ _ _ _ _ h' g' .non, o.jk st, fun _ _ _ _ _ z => z.elim, fun _ _ _ _ _ z => z.elim⟩
end
end SC
/-! What is done under a condition; a def whose code object is known; classes of errors. -/
namespace SC
open PySem PySem.Spec PyProof.Rows L2
section
variable [TabL] [XCx]
/-- done where c is known to hold -/
def dWhen (c : Prop) (t : DS) : DS := fun k e O => c ∧ t k e O
theorem pbd_when {X : Cx} {b : List Stmt} {c : Prop} {t : DS} (h : c → PBD X b t) : PBD X b (dWhen c t) :=
  ⟨⟨fun pins s σ H D I ⟨F, e, O, k, st, er, ⟨hc, ht⟩, o⟩ => ((h hc).pb).run pins s σ H D I ⟨F, e, O, k, st, er, ht, o⟩⟩⟩
theorem pbd_dead {X : Cx} {b : List Stmt} : PBD X b dDead := ⟨⟨fun _ _ _ _ _ _ h => h.elim fun _ h => h.elim fun _ h => h.elim fun _ h => h.elim fun _ h => h.2.2.1.elim⟩⟩
end
section
variable [TabL] [XCx] {P : Program} {w : World} {K : PySem.W.Frag} {mg : Str → Option Value} {base : Heap}
/-- a def whose code object is at c -/
theorem okDc {x qual : Str} {st : Stmt} {f c : Addr} {fd : FuncData} {N ps : List Str} {k : Nat} {sp : DSp} (F : Fun K x qual st f fd) (hc : fd.code = .ref c) (S : FnScope N ps (defScope st)) (len : ∀ ds O k, sp ds O k → ds.length = ps.length)
    (hbody : ∀ (A : Around) (outer : List Env) (s : Shared) (H : Hp) (E : XK), Room k (A.deeper (envOfC qual (defScope st) s.heap.objs.size f (.ref c))) →
      ∃ t : DS, PBD (cxOf CX0 P w K mg base N qual (defScope st) f (.ref c) A outer s H E).nox (defBody st) t ∧ ∀ ds O (kk : D → OH → Prop), sp ds O kk → t { nx := fun _ O' => kk .non O', rt := kk } (startD N ds) O) :
    FnOk P w K mg base CX0 (k + 1) f fd ps (upSp K sp) := by
  obtain ⟨oc, od, kV, doc, pm, an, cdv, ct, osl, rfl, lk, hcd⟩ := F.ex
  have hc' : cdv = .ref c := hc
  subst hc'
  refine fn_of lk hcd S (fun vs H Q E h => ?_) fun A outer s H vs Q E hr h => ?_
  · obtain ⟨F, ds, O, k, st, r, h, o⟩ := h
    rw [r.length]
    exact len _ _ _ h
  · obtain ⟨t, p, q⟩ := hbody A outer s H E hr
    obtain ⟨F, ds, O, kk, st, r, h, o⟩ := h
    exact ⟨_, p.pb.nox, F, _, O, _, st, erep_start r N, q ds O kk h, fun e' O' F' H' σ' h' g' _ => o _ _ _ _ _ h' g' .non, o, fun _ _ _ _ _ z => z.elim, fun _ _ _ _ _ z => z.elim⟩
end
end SC
/-! Objects of own classes: made by an own __init__ that keeps its arguments, their fields read, isinstance of their class. -/
namespace SC
open PySem PySem.Spec PyProof.Rows L2
section
variable [TabL] [XCx]
theorem look_zip {K : PySem.W.Frag} {F : Hp} {f : Str} {x : D} : ∀ {ns : List Str} {vs : List V} {ds : List D}, Reps K F vs ds → (ns.zip ds).lookup f = some x → ∃ v, (ns.zip vs).lookup f = some v ∧ Rep K F v x
  | [], _, _, _, h => by cases h
  | n :: ns, _, _, .nil, h => by cases h
  | n :: ns, _, _, .cons (v := v) (vs := vs) (d := d) (ds := ds) r rr, h => by
    have h' : List.lookup f ((n, d) :: ns.zip ds) = some x := h
    show ∃ u, List.lookup f ((n, v) :: ns.zip vs) = some u ∧ _
    rw [List.lookup_cons] at h' ⊢
    cases e : f == n with
    | true => rw [e] at h'; cases h'; exact ⟨v, rfl, r⟩
    | false => rw [e] at h'; exact look_zip rr h'
/-- o.f -/
def dFld (K : PySem.W.Frag) (f : Str) (t : DE) : DE := fun e O k => t e O fun d O1 => match d with
  | .obj C ns ds => (Cls K C ∧ NoAttr K C f) ∧ ∃ x, (ns.zip ds).lookup f = some x ∧ k x O1
  | _ => False
theorem pd_fld {X : Cx} {o : Expr} {f : Str} {pos : Pos} {t : DE} (ha : PD X o t) (hb : attributeBase o f X.env (eval o X.env) = eval o X.env := by rfl) : PD X (.Attribute o f pos) (dFld X.K f t) :=
  ⟨PE.weak (pe_fld ha.pe hb) fun σ H Q ⟨F, e, O, k, st, er, h, ok⟩ => ⟨F, e, O, _, st, er, h, fun d O1 F1 H1 v h1 g1 r1 => by
    try dsimp only at h1
    split at h1
    · obtain ⟨⟨c, n⟩, x, l, h1⟩ := h1
      cases r1 with
      | obj q rr =>
        obtain ⟨u, lu, ru⟩ := look_zip rr l
        exact ⟨_, _, _, _, u, rfl, g1.stt.same _ _ q, c, n, lu, ok _ _ _ _ _ h1 g1 ru⟩
    · exact h1.elim⟩⟩
/-- isinstance(o, C), o an object of C -/
def rIsC (C : Addr) : RCD := fun ds O k => ∃ ns fs, ds = [.obj C ns fs, .own C] ∧ k (.bl true) O
theorem cd_isC {K : PySem.W.Frag} {C : Addr} : CallD K (fun xs H Q => ∃ a dx fs, xs = [.ref a, .ref C] ∧ H a = some (.ins C dx fs) ∧ Q (.bl true) H) (rIsC C) := by
  intro xs ds F O H k Q st r h o
  obtain ⟨ns, fs, rfl, h⟩ := h
  cases r with
  | cons r1 r2 => cases r2 with
    | cons r2 r3 =>
      cases r3
      cases r2
      cases r1 with
      | obj q rr => exact ⟨_, _, _, rfl, st.same _ _ q, o _ _ _ _ _ h st.go (.bl _)⟩
/-! ### the making -/
omit [TabL] [XCx] in
theorem tabS_ins {H : Hp} {p P C dx : Addr} {q : Str} {o : HO} {fs : List (Str × V)} (t : LamX.TabS H P q) (n : H p = some (.ins C dx fs)) : LamX.TabS (upd H p o) P q := by
  obtain ⟨ps, h1, h2, h3⟩ := t
  refine ⟨ps, ?_, h2, fun pos cv hc => ?_⟩
  · rw [upd_ne (fun z => by rw [z, n] at h1; cases h1)]; exact h1
  · obtain ⟨c, e1, e2⟩ := h3 pos cv hc
    refine ⟨c, e1, ?_⟩
    rw [upd_ne (fun z => by rw [z, n] at e2; unfold LamX.CodeO at e2; cases e2)]; exact e2
/-- the object at x, its fields written since, is known from now on -/
theorem Go.madeObj {K : PySem.W.Frag} {F F1 H0 H1 : Hp} {O : OH} {x dx C : Addr} {fs : List (Str × V)} (s : Stt K F O H0) (nx : H0 x = none) (nd : H0 dx = none) (ne : dx ≠ x)
    (g : Go K F O (upd (upd H0 dx (.own x)) x (.ins C dx [])) F1 O H1) : Go K F O H0 (upd F1 x (.ins C dx fs)) O (upd H1 x (.ins C dx fs)) := by
  have g0 : Go K F O H0 F O (upd H0 dx (.own x)) := s.junk nd
  have nx' : upd H0 dx (.own x) x = none := by rw [upd_ne ne.symm]; exact nx
  have g1 := (g0.trans (g0.stt.junk (o := .ins C dx []) nx')).trans g
  obtain ⟨hx, fx, ox⟩ := g.frame x (.ins C dx []) upd_same (free_F s nx) (free_O s nx) (fun ps z => by cases z)
  refine Go.of s (g1.same.trans (same_upd fx)) (fun b o q => ?_) (fun a ds q => ?_) (fun t ht => ?_) (fun a o h f q n => ?_) (nt_upd g1.stt.nt fun _ z => by cases z)
  · by_cases z : b = x
    · subst z; rw [upd_same] at q ⊢; exact q
    · rw [upd_ne z] at q ⊢; exact g1.stt.same _ _ q
  · obtain ⟨f, xs, h, r⟩ := g1.stt.own a ds q
    have z : a ≠ x := fun z => by rw [z, ox] at q; cases q
    exact ⟨by rw [upd_ne z]; exact f, xs, by rw [upd_ne z]; exact h, r.mono (same_upd fx)⟩
  · obtain ⟨a, b, c⟩ := g1.stt.tabs t ht
    obtain ⟨ps, h⟩ := tabS_at a
    have z : t.1 ≠ x := fun z => by rw [z, hx] at h; cases h
    exact ⟨tabS_ins a hx, by rw [upd_ne z]; exact b, c⟩
  · have z := ne_of_none h nx
    obtain ⟨q1, q2, q3⟩ := g1.frame a o h f q n
    exact ⟨by rw [upd_ne z]; exact q1, by rw [upd_ne z]; exact q2, q3⟩
/-- what an __init__ promises that keeps its arguments under ns -/
def spInitR (K : PySem.W.Frag) (C : Addr) (ns : List Str) (P : List D → Prop) : Sp := fun vs H Q _ => ∃ x dx H0 F O us ds, vs = .ref x :: us ∧ H = upd (upd H0 dx (.own x)) x (.ins C dx []) ∧ H0 x = none ∧ H0 dx = none ∧ dx ≠ x ∧
  Stt K F O H0 ∧ Reps K F us ds ∧ P ds ∧ ∀ F' H', Go K F O H0 F' O H' → Rep K F' (.ref x) (.obj C ns ds) → Q .non H'
/-- C(..) -/
def dMake (C : Addr) (ns : List Str) (P : List D → Prop) (t : DA) : DE := fun e O k => t e O fun ds O1 => P ds ∧ k (.obj C ns ds) O1
theorem pd_make {X : Cx} {C f : Addr} {fd : FuncData} {ps ns : List Str} {P : List D → Prop} {k : Nat} {x : Str} {a : Expr} {es : List Expr} {t : DA} {p pos : Pos} (M : Mk X.K C f) (Fn : FnOk X.prog X.w X.K X.mg X.base CX0 k f fd ps (spInitR X.K C ns P)) (hr : Room (k + 1) X.A) (hg : Gl X x) (hm : X.mg x = some (.ref C)) (hb : Binds X.K fd ps [])
    (ha : PAD X (a :: es) t) (hdb : (x == ("__debug__" : Str)) = false := by decide) (he : starEach (a :: es) X.env = (false, eval a X.env) :: starEach es X.env := by rfl) (hpl : (backTo pos (starEach es X.env)).any (·.1) = false := by rfl) :
    PD X (.Call (.Name x p) (a :: es) [] pos) (dMake C ns P t) :=
  ⟨PE.weak (pe_make M Fn hr hg hm hb .nil L2.pass0 ha.pa hdb he hpl) fun σ H Q ⟨F, e, O, k, st, er, h, o⟩ => ⟨F, e, O, _, st, er, h, fun ds O1 F1 H1 vs h1 g1 r1 x dx nx nd ne =>
    ⟨x, dx, H1, F1, O1, vs, ds, by rw [List.append_nil], rfl, nx, nd, ne, g1.stt, r1, h1.1, fun F' H' g r => ⟨rfl, o _ _ _ _ _ h1.2 (g1.trans g) r⟩⟩⟩⟩
/-! ### the body of an __init__: tests, then stores -/
theorem pss_test {X : Cx} {st : Stmt} {rest : List Stmt} {t : DS} {u : TS} (h1 : PSD X st t) (h2 : PSs X rest u) : PSs X (st :: rest) (fun D σ H => ∃ F e O, Stt X.K F O H ∧ ERep X.K F σ e ∧ t { nx := fun e' O' => e' = e ∧ O' = O, rt := fun _ _ => False } e O ∧
    ∀ F' H' σ', Go X.K F O H F' O H' → ERep X.K F' σ' e → u D σ' H') :=
  PSs.weak (pss_cons h1.ps h2) fun D σ H ⟨F, e, O, st, er, ht, hu⟩ => ⟨F, e, O, _, st, er, ht, ⟨fun e' O' F' H' σ' ⟨q1, q2⟩ g r => by subst q1 q2; exact hu _ _ _ g r, fun _ _ _ _ _ z => z.elim, fun _ _ _ _ _ z => z.elim, fun _ _ _ _ _ z => z.elim⟩⟩
theorem sFld_go {K : PySem.W.Frag} {D : Ends} {σ : L2.St} {H : Hp} {i : Nat} {f : Str} {x C dx : Addr} {v : V} {fs : List (Str × V)} (h0 : σ[0]? = some (some (.ref x))) (hi : σ[i]? = some (some v)) (hx : H x = some (.ins C dx fs)) (c : Cls K C) (n : NoAttr K C f) (l : fs.length < 1000)
    (h : D.nx σ (upd H x (.ins C dx (putF f v fs)))) : sFld K (tVar 0) (tVar i) f D σ H := by
  exact ⟨v, hi, .ref x, h0, x, C, dx, fs, rfl, hx, c, n, l, h⟩
end
end SC
/-! zip of a text and a tuple. -/
namespace SC
open PySem PySem.Spec PyProof.Rows L2
variable [TabL] [XCx]
def sg (c : Nat) : Str := ⟨#[c]⟩
def ItzS (K : PySem.W.Frag) (x : Str) (b : Addr) : It :=
  ⟨fun i H => ∃ (ys : List V) (y : V), SqT K H b ys ∧ i < x.cps.size ∧ ys[i]? = some y,
    fun i H v H' => ∃ T c y, v = .ref T ∧ H T = none ∧ H' = upd H T (.tup [.str (sg c), y]) ∧ x.cps[i]? = some c ∧ ∀ ys, SqT K H b ys → ys[i]? = some y,
    fun i H => ∃ ys : List V, SqT K H b ys ∧ x.cps.size = ys.length ∧ i = ys.length⟩
structure Sep2 (z TI TO i1 i2 b : Addr) : Prop where
  s : ZipSep2 z TI TO i1 i2 [i1] [i2, b]
  b2 : b ≠ i2
  i1z : i1 ≠ z
  i2z : i2 ≠ z
omit [TabL] [XCx] in
theorem turn_zipS {P : Program} {w : World} {K : PySem.W.Frag} {elts : List Expr} {kk : Nat} {tpos : Pos} {x : Str} {t : Tok} {b z TI TO i1 i2 : Addr} (D : Sep2 z TI TO i1 i2 b) :
    Turn P w K (.Tuple elts kk tpos) (ItzS K x b) [z, TI, TO, i1, i2] z (fun i h => IsZip h z TI TO .none ∧ IsTupOf2 h TI (.ref i1) (.ref i2) ∧ (∃ x y, IsTupOf2 h TO x y) ∧ h.IsStrIter i1 (strIterType x) x t i ∧ h.IsTupleIter i2 b i) where
  mem := by simp
  obj := fun i h st e he => by
    obtain ⟨hz, hTI, ⟨x, y, hTO⟩, ⟨o1, e1, _, d1⟩, ⟨o2, e2, _, d2⟩⟩ := st
    have e' : e = z ∨ e = TI ∨ e = TO ∨ e = i1 ∨ e = i2 := by simpa using he
    rcases e' with q | q | q | q | q
    · rw [q]; exact ⟨_, hz, fun v q => nomatch q⟩
    · rw [q]; exact ⟨_, hTI, fun v q => nomatch q⟩
    · rw [q]; exact ⟨_, hTO, fun v q => nomatch q⟩
    · rw [q]; exact ⟨o1, e1, fun v q => by rw [d1] at q; cases q⟩
    · rw [q]; exact ⟨o2, e2, fun v q => by rw [d2] at q; cases q⟩
  keep := fun i h h' st k => by
    obtain ⟨hz, hTI, ⟨x, y, hTO⟩, h1, h2⟩ := st
    exact ⟨k z (by simp) _ hz, k TI (by simp) _ hTI, ⟨x, y, k TO (by simp) _ hTO⟩, (let ⟨o, a, b, c⟩ := h1; ⟨o, k i1 (by simp) o a, b, c⟩), h2.at fun o q => k i2 (by simp) o q⟩
  item := by
    intro X hP hw hK hc i pins s σ H E I hf st hg
    subst hP hw hK
    obtain ⟨hz, hTI, ⟨x0, y0, hTO⟩, h1, h2⟩ := st
    obtain ⟨ys, y, hqy, hlx, hy⟩ := hg
    obtain ⟨its2, rv2, p2, _⟩ := I.tuple hqy
    obtain ⟨v2, hv2, r2⟩ := rv2.get hy
    have hzl : z < s.heap.objs.size := Heap.lt_size hz
    have lt {its : List Value} {v : Value} (e : its[i]? = some v) : i < its.toArray.size := by rw [List.size_toArray]; exact (List.getElem?_eq_some_iff.mp e).1
    refine wpAny_pyNext_zipD2_item D.s (Draws.text (prog := X.prog) (w := X.w) (A := X.A.in1) (show X.A.in1.handled = none from I.ok.hd hc) i1 x t) (Draws.tuple (prog := X.prog) (w := X.w) (A := X.A.in1) (show X.A.in1.handled = none from I.ok.hd hc) i2 b D.b2 its2.toArray) hz hTI hTO
      h1 ⟨h2, p2⟩ hlx (lt hv2) fun w1 w2 h' tk q1 q2 z' TO' t1 t2 hT hsz hk => ?_
    obtain ⟨c, u, hcx, ew⟩ := q1
    have e2 : w2 = v2 := Option.some.inj (q2.symm.trans (by simpa using hv2))
    subst ew e2
    refine ⟨_, rfl, wpAny_letOwnedTupleGo_zip (s := { s with heap := h', toks := tk }) z' fun h'' z'' sb => ?_⟩
    have hT2 : h''.get? s.heap.objs.size = some { cls := .type "tuple", data := .seq #[.str ⟨#[c]⟩ u, w2] } := (sb.2 _ (Nat.ne_of_gt hzl)).trans hT
    have new : ObjOk X.prog X.w (upd H s.heap.objs.size (.tup [.str (sg c), y])) h'' s.heap.objs.size (.tup [.str (sg c), y]) :=
      ⟨by show 2 ≤ sizeLine; decide, [.str ⟨#[c]⟩ u, w2], .cons ⟨u, rfl⟩ (.cons r2 .nil), ⟨_, hT2, rfl, _, rfl⟩⟩
    have I1 : Inv X pins σ (upd H s.heap.objs.size (.tup [.str (sg c), y])) { s with heap := h'', toks := tk } :=
      I.turnedNew (t' := tk) (ch := [z, TI, TO, i1, i2]) (fun c o hb q => (sb.2 c (fun q' => hb (by simp [q']))).trans (hk c o (fun q' => hb (by simp [q'])) (fun q' => hb (by simp [q'])) (fun q' => hb (by simp [q'])) (fun q' => hb (by simp [q'])) q)) hf (Nat.le_refl _) new
    refine ⟨.ref s.heap.objs.size, _, I1, rfl, ⟨_, c, y, rfl, I.hok.fresh (Nat.le_refl _), rfl, hcx, fun l hl => by rw [I.tuple_inj hl hqy]; exact hy⟩, ⟨z'', ?_, ⟨.str ⟨#[c]⟩ u, w2, ?_⟩, ?_, ?_⟩, fun e hem => ?_⟩
    · exact (sb.2 _ D.s.TIz).trans (hk _ _ D.s.TIz D.s.TITO D.s.TIi1 D.s.TIi2 hTI)
    · exact (sb.2 _ D.s.TOz).trans TO'
    · exact let ⟨o, a, b, c⟩ := t1; ⟨o, (sb.2 _ D.i1z).trans a, b, c⟩
    · exact t2.1.at fun o q => (sb.2 _ D.i2z).trans q
    · have hlt : e < s.heap.objs.size := by
        have e' : e = z ∨ e = TI ∨ e = TO ∨ e = i1 ∨ e = i2 := by simpa using hem
        rcases e' with q | q | q | q | q
        · rw [q]; exact hzl
        · rw [q]; exact Heap.lt_size hTI
        · rw [q]; exact Heap.lt_size hTO
        · rw [q]; obtain ⟨_, e1, _⟩ := h1; exact Heap.lt_size e1
        · rw [q]; obtain ⟨_, e1, _⟩ := h2; exact Heap.lt_size e1
      rw [upd_ne (Nat.ne_of_lt hlt)]
      exact (hf e hem).1
  done := by
    intro X hP hw hK hc i pins s σ H E I hf st hg
    subst hP hw hK
    obtain ⟨hz, hTI, ⟨x0, y0, hTO⟩, h1, h2⟩ := st
    obtain ⟨ys, hqy, l1, rfl⟩ := hg
    obtain ⟨its2, rv2, p2, _⟩ := I.tuple hqy
    have m2 := rv2.length
    refine wpAny_pyNext_zipD2_end D.s (Draws.text (prog := X.prog) (w := X.w) (A := X.A.in1) (show X.A.in1.handled = none from I.ok.hd hc) i1 x t) (Draws.tuple (prog := X.prog) (w := X.w) (A := X.A.in1) (show X.A.in1.handled = none from I.ok.hd hc) i2 b D.b2 its2.toArray) hz hTI hTO
      h1 ⟨h2, p2⟩ (by omega) (by rw [List.size_toArray]; omega) (.inl (by omega)) fun h' tk hk => ?_
    exact ⟨rfl, I.turnedL (t' := tk) (ch := [z, TI, TO, i1, i2]) (fun c o hb q =>
      hk c o (fun q' => hb (by simp [q'])) (fun q' => hb (by simp [q'])) (fun q' => hb (by simp [q'])) (fun q' => hb (by simp [q'])) q) hf⟩
  self := fun A i s Q E st h => wpAny_pyIter_zip st.1 h
def iZipS (K : PySem.W.Frag) (ta : TA) : TI := fun σ H R => ta σ H fun vs H1 => ∃ x b ys, vs = [.str x, .ref b] ∧ SqT K H1 b ys ∧ R (ItzS K x b) H1
omit [TabL] [XCx] in
theorem pi_zipS {X : Cx} {e e2 : Expr} {ta : TA} {p pos tpos : Pos} {elts : List Expr} {kk : Nat} (hg : Gl X "zip") (hm : X.mg "zip" = none) (ha : PA X [e, e2] ta)
    (hs : starEach [e, e2] X.env = (false, eval e X.env) :: starEach [e2] X.env := by rfl) (hpl : (backTo pos (starEach [e2] X.env)).any (·.1) = false := by rfl) :
    PI X (.Tuple elts kk tpos) (.Call (.Name "zip" p) [e, e2] [] pos) (iZipS X.K ta) := by
  refine ⟨fun pins s σ H R I h => ?_⟩
  refine Call_ (ld_blt I hg hm PyProof.Rows.boot_zip (PyProof.Rows.callWith_type1 (thn (ha.run pos pins s σ H _ I h) fun us s1 ⟨vs, H1, I1, r1, q1⟩ => ?_) hs hpl))
  obtain ⟨x, b, ys, ex, hqy, q⟩ := q1
  subst ex
  cases r1 with
  | cons r rr => cases rr with
    | cons r' rr =>
        cases rr; cases r'
        obtain ⟨t, rfl⟩ := r
        obtain ⟨its2, rv2, p2, _⟩ := I1.tuple hqy
        have hb : b < s1.heap.objs.size := p2.lt
        refine zip_begins2 (begins_text x t) (begins_tuple b its2.toArray) trivial p2 fun h' hz hTI hTO h1 h2 hsz hk => wpAny_pyIter_zip hz ?_
        have I2 : Inv X pins σ H1 { s1 with heap := h' } := I1.kept (t' := s1.toks) hk
        have fresh5 : ∀ c, c ∈ [s1.heap.objs.size + 4, s1.heap.objs.size + 2, s1.heap.objs.size + 3, s1.heap.objs.size, s1.heap.objs.size + 1] → FpOk X pins H1 c := fun c hcm => by
          have e' : c = s1.heap.objs.size + 4 ∨ c = s1.heap.objs.size + 2 ∨ c = s1.heap.objs.size + 3 ∨ c = s1.heap.objs.size ∨ c = s1.heap.objs.size + 1 := by simpa using hcm
          have hle : s1.heap.objs.size ≤ c := by
            rcases e' with z | z | z | z | z <;> rw [z] <;> first | exact Nat.le_refl _ | exact Nat.le_add_right _ _
          exact I1.fpOk hle (I1.hok.fresh hle)
        have sep := zip_sep2 (N := s1.heap.objs.size) (fp1 := []) (fp2 := [b]) (fun e he => by cases he) (fun e he => by rw [List.mem_singleton.mp he]; exact hb)
        exact ⟨s1.heap.objs.size + 4, [s1.heap.objs.size + 4, s1.heap.objs.size + 2, s1.heap.objs.size + 3, s1.heap.objs.size, s1.heap.objs.size + 1], _, _, H1, rfl, I2,
          turn_zipS (x := x) (t := t) ⟨sep, Nat.ne_of_lt (Nat.lt_succ_of_lt hb), show (s1.heap.objs.size : Nat) ≠ s1.heap.objs.size + 4 by omega, show (s1.heap.objs.size + 1 : Nat) ≠ s1.heap.objs.size + 4 by omega⟩,
          ⟨hz, hTI, ⟨_, _, hTO⟩, ⟨_, h1, rfl, rfl⟩, ⟨_, h2, rfl, rfl⟩⟩, fresh5, q⟩
end SC
/-! enumerate of a tuple; zip of a text and a tuple, on trees. -/
namespace SC
open PySem PySem.Spec PyProof.Rows L2
set_option maxHeartbeats 1000000 in
theorem meets_enum1 {v : Value} {o : Obj} {H : Heap → Prop} (B : Begins v o H) :
    Meets (Builtin.«enumerate.__new__» ⟨[.type "enumerate", v], []⟩) (fun _ R s => H s.heap ∧
      R (.ok (.ret (.ref (s.heap.push o).objs.size))) { s with heap := (s.heap.push o).push { cls := .type "enumerate", data := .fields #[.none, .bool false, .ref s.heap.objs.size, rawInt 0, .none, .none] } }) :=
  .of_wp fun prog w A R s h => by
    obtain ⟨hp, g, d, tk, os⟩ := s; obtain ⟨h1, h⟩ := h
    have hsub := sub_enumerate
    have q1 : ∀ {A' : Around} {E : Value → Shared → Prop} {Q : Value → Shared → Prop}, Q (.ref hp.objs.size) ⟨hp.push o, g, d, tk, os⟩ → wpAny (model prog w) A' (pyIter v) Q E ⟨hp, g, d, tk, os⟩ :=
      fun q => B.iter prog w _ _ ⟨hp, g, d, tk, os⟩ _ h1 q
    wp_walk using q1
    refine wpAny_stack_any fun st => wpAny_pure ?_
    split
    · rename_i c _ _ _ _ _
      cases (c == Value.type "enumerate")
      · wp_walk using q1
        exact ⟨_, rfl, h⟩
      · wp_walk using q1
        exact ⟨_, rfl, h⟩
    · wp_walk using q1
      exact ⟨_, rfl, h⟩
theorem enum_begins1 {prog : Program} {w : World} {A : Around} {E : Value → Shared → Prop} {s : Shared} {v : Value} {o : Obj} {H : Heap → Prop} {Q : Value → Shared → Prop} (B : Begins v o H) (h1 : H s.heap)
    (h : ∀ h', IsEnum h' (s.heap.objs.size + 1) s.heap.objs.size 0 .none → h'.get? s.heap.objs.size = some o → h'.objs.size = s.heap.objs.size + 2 →
      (∀ b o, s.heap.get? b = some o → h'.get? b = some o) → Q (.ref (s.heap.objs.size + 1)) { s with heap := h' }) :
    wpAny (model prog w) A (call (.type "enumerate") [v]) Q E s := by
  refine callType_new F.called_enumerate (by decide) (F.typeCall_enumerate_1 _) (F.newCall_enumerate_1 _) (fun obj => F.args_object_init_2 obj _) F.entry_enumerate_new
    (meets_enum1 B) ⟨h1, ?_⟩
  have hz : (s.heap.push o).objs.size = s.heap.objs.size + 1 := Heap.size_push ..
  show _ ∧ _
  rw [hz]
  have he : IsEnum ((s.heap.push o).push { cls := .type "enumerate", data := .fields #[.none, .bool false, .ref s.heap.objs.size, rawInt 0, .none, .none] }) (s.heap.objs.size + 1) s.heap.objs.size 0 .none := by
    have := Heap.get?_push_size (s.heap.push o) (o := { cls := .type "enumerate", data := .fields #[.none, .bool false, .ref s.heap.objs.size, rawInt 0, .none, .none] }) rfl
    rw [hz] at this; exact this
  refine ⟨⟨_, he, rfl⟩, h _ he (Heap.get?_push_of_some _ (Heap.get?_push_size _ B.free)) (by rw [Heap.size_push, hz]) fun b o x => Heap.get?_push_of_some _ (Heap.get?_push_of_some _ x)⟩
def IteT (K : PySem.W.Frag) (a : Addr) : It :=
  ⟨fun i H => ∃ (xs : List V) (x : V), SqT K H a xs ∧ xs[i]? = some x,
    fun i H v H' => ∃ T x, v = .ref T ∧ H T = none ∧ H' = upd H T (.tup [.int (i : Nat), x]) ∧ ∀ xs, SqT K H a xs → xs[i]? = some x,
    fun i H => ∃ xs : List V, SqT K H a xs ∧ i = xs.length⟩
theorem turn_enumT {P : Program} {w : World} {K : PySem.W.Frag} {elts : List Expr} {kk : Nat} {tpos : Pos} {a e it : Addr} (hne : e ≠ it) (hea : e ≠ a) (hai : a ≠ it) :
    Turn P w K (.Tuple elts kk tpos) (IteT K a) [e, it] e (fun i h => (∃ old, IsEnum h e it ((i : Nat) : Int) old) ∧ h.IsTupleIter it a i) where
  mem := by simp
  obj := fun i h st b hb => by
    obtain ⟨⟨old, he⟩, ⟨o, ho, hc, hd⟩⟩ := st
    have e' : b = e ∨ b = it := by simpa using hb
    rcases e' with z | z
    · rw [z]; exact ⟨_, he, fun v q => nomatch q⟩
    · rw [z]; exact ⟨o, ho, fun v q => by rw [hd] at q; cases q⟩
  keep := fun i h h' st k => let ⟨⟨old, he⟩, hi⟩ := st; ⟨⟨old, k e (by simp) _ he⟩, hi.at fun o q => k it (by simp) o q⟩
  item := by
    intro X hP hw hK hc i pins s σ H E I hf st hg
    subst hP hw hK
    obtain ⟨⟨old, he⟩, hit⟩ := st
    obtain ⟨xs, x, hq, hx⟩ := hg
    obtain ⟨its, rv, p, hz⟩ := I.tuple hq
    obtain ⟨u, hu, ru⟩ := rv.get hx
    have hel : e < s.heap.objs.size := Heap.lt_size he
    have hil : it < s.heap.objs.size := by obtain ⟨_, q, _⟩ := hit; exact Heap.lt_size q
    have hlt : i < its.toArray.size := by rw [List.size_toArray]; exact (List.getElem?_eq_some_iff.mp hu).1
    refine wpAny_pyNext_enum_itemD (Draws.tuple (prog := X.prog) (w := X.w) (A := X.A.in1) (show X.A.in1.handled = none from I.ok.hd hc) it a hai its.toArray) he ⟨hit, p⟩ hlt hne (by simp [hne, hea]) fun x1 h' tk q1 ho t1 hT hsz hk => ?_
    have e1 : x1 = u := Option.some.inj (q1.symm.trans (by simpa using hu))
    subst e1
    refine ⟨_, rfl, wpAny_letOwnedTupleGo_enum (s := { s with heap := h', toks := tk + 1 }) ho fun h'' he' sb => ?_⟩
    have hT2 : h''.get? s.heap.objs.size = some { cls := .type "tuple", data := .seq #[.int i tk, x1] } := (sb.2 _ (Nat.ne_of_gt hel)).trans hT
    have new : ObjOk X.prog X.w (upd H s.heap.objs.size (.tup [.int (i : Nat), x])) h'' s.heap.objs.size (.tup [.int (i : Nat), x]) :=
      ⟨by show 2 ≤ sizeLine; decide, [.int i tk, x1], .cons ⟨_, rfl⟩ (.cons ru .nil), ⟨_, hT2, rfl, _, rfl⟩⟩
    have I1 : Inv X pins σ (upd H s.heap.objs.size (.tup [.int (i : Nat), x])) { s with heap := h'', toks := tk + 1 } :=
      I.turnedNew (t' := tk + 1) (ch := [e, it]) (fun b ob hb q => (sb.2 b (fun z => hb (by simp [z]))).trans (hk b ob (fun z => hb (by simp [z])) (fun z => hb (by simp [z])) q)) hf (Nat.le_refl _) new
    refine ⟨.ref s.heap.objs.size, _, I1, rfl, ⟨_, x, rfl, I.hok.fresh (Nat.le_refl _), rfl, fun ys hy => by rw [I.tuple_inj hy hq]; exact hx⟩, ⟨⟨x1, ?_⟩, t1.1.at fun o q => (sb.2 it (Ne.symm hne)).trans q⟩, fun b hb => ?_⟩
    · have e1 : ((i + 1 : Nat) : Int) = (i : Int) + 1 := by omega
      rw [e1]; exact he'
    · have hb' : b < s.heap.objs.size := by
        have e' : b = e ∨ b = it := by simpa using hb
        rcases e' with z | z
        · rw [z]; exact hel
        · rw [z]; exact hil
      rw [upd_ne (Nat.ne_of_lt hb')]
      exact (hf b hb).1
  done := by
    intro X hP hw hK hc i pins s σ H E I hf st hg
    subst hP hw hK
    obtain ⟨⟨old, he⟩, hit⟩ := st
    obtain ⟨xs, hq, rfl⟩ := hg
    obtain ⟨its, rv, p, hz⟩ := I.tuple hq
    obtain ⟨f0, f1, f2, f3, f4, f5⟩ := hf it (by simp)
    have hl := rv.length
    have hs : its.toArray.size = xs.length := by rw [List.size_toArray]; omega
    refine wpAny_pyNext_enum_endD (n := its.toArray.size) (Draws.tuple (prog := X.prog) (w := X.w) (A := X.A.in1) (show X.A.in1.handled = none from I.ok.hd hc) it a hai its.toArray) he ⟨by rw [hs]; exact hit, p⟩ fun h' eb => ⟨rfl, I.turned (t' := s.toks) (fun b o hb q => eb b o hb q) f0 f1 f3 f4 f5⟩
  self := fun A i s Q E st h => let ⟨⟨_, he⟩, _⟩ := st; wpAny_pyIter_enum he h
def iEnumT (K : PySem.W.Frag) (ta : TA) : TI := fun σ H R => ta σ H fun vs H1 => ∃ a xs, vs = [.ref a] ∧ ((SqL K H1 a xs ∧ R (Ite K a) H1) ∨ (SqT K H1 a xs ∧ R (IteT K a) H1))
theorem pi_enumT {X : Cx} {e : Expr} {ta : TA} {p pos tpos : Pos} {elts : List Expr} {kk : Nat} (hg : Gl X "enumerate") (hm : X.mg "enumerate" = none) (ha : PA X [e] ta) (hs : starEach [e] X.env = [(false, eval e X.env)] := by rfl) :
    PI X (.Tuple elts kk tpos) (.Call (.Name "enumerate" p) [e] [] pos) (iEnumT X.K ta) := by
  refine ⟨fun pins s σ H R I h => ?_⟩
  refine Call_ (ld_blt I hg hm boot_enumerate (PyProof.Rows.callWith_type1 (thn (ha.run pos pins s σ H _ I h) fun us s1 ⟨vs, H1, I1, r1, q1⟩ => ?_) hs rfl))
  obtain ⟨a, xs, ex, q⟩ := q1
  subst ex
  cases r1 with
  | cons r rr =>
    cases rr
    cases r
    have fr : ∀ b, b ∈ [s1.heap.objs.size + 1, s1.heap.objs.size] → FpOk X pins H1 b := fun b hb => by
      have e' : b = s1.heap.objs.size + 1 ∨ b = s1.heap.objs.size := by simpa using hb
      have hle : s1.heap.objs.size ≤ b := by
        rcases e' with z | z <;> rw [z] <;> first | exact Nat.le_refl _ | exact Nat.le_add_right _ _
      exact I1.fpOk hle (I1.hok.fresh hle)
    rcases q with ⟨hq, q⟩ | ⟨hq, q⟩
    · obtain ⟨its, rv, p', hz⟩ := I1.list hq
      refine call_enumerate_list p'.isList fun h' he hit hsz hk => wpAny_pyIter_enum he ?_
      have I2 : Inv X pins σ H1 { s1 with heap := h' } := I1.kept (t' := s1.toks) hk
      exact ⟨s1.heap.objs.size + 1, [s1.heap.objs.size + 1, s1.heap.objs.size], _, _, H1, rfl, I2, turn_enum a (s1.heap.objs.size + 1) s1.heap.objs.size, ⟨⟨.none, he⟩, hit, Nat.succ_ne_self _⟩, fr, q⟩
    · obtain ⟨its, rv, p', hz⟩ := I1.tuple hq
      have hlt : a < s1.heap.objs.size := p'.lt
      refine enum_begins1 (begins_tuple a its.toArray) p' fun h' he hit hsz hk => wpAny_pyIter_enum he ?_
      have I2 : Inv X pins σ H1 { s1 with heap := h' } := I1.kept (t' := s1.toks) hk
      exact ⟨s1.heap.objs.size + 1, [s1.heap.objs.size + 1, s1.heap.objs.size], _, _, H1, rfl, I2, turn_enumT (Nat.succ_ne_self _) (Nat.ne_of_gt (Nat.lt_succ_of_lt hlt)) (Nat.ne_of_lt hlt), ⟨⟨.none, he⟩, ⟨_, hit, rfl, rfl⟩⟩, fr, q⟩
theorem walk_enumT {K : PySem.W.Frag} {a : Addr} {xs : List V} : Walk (IteT K a) xs.length (fun H => SqT K H a xs) (YPair (fun i => some (.int (i : Nat))) (fun i => xs[i]?)) := by
  refine ⟨fun i _ hi q => ⟨xs, xs[i], q, by simp [hi]⟩, fun _ q => ⟨xs, q, rfl⟩, fun i H v H' _ q y => ?_⟩
  obtain ⟨T, x, h1, h2, h3, h4⟩ := y
  exact ⟨T, .int (i : Nat), x, h1, h2, h3, rfl, h4 xs q⟩
section
variable [TabL] [XCx]
theorem it_enumT {K : PySem.W.Frag} {F1 : Hp} {l : Addr} {xs : List V} {ds : List D} (q : SqT K F1 l xs) (r : Reps K F1 xs ds) : ItOk K F1 (IteT K l) (enumD 0 ds) := by
  refine ⟨_, _, by rw [enumD_length, ← r.length]; exact walk_enumT, fun H s => Same.seqT s q, fun i H x H' F' O' hi s st y => ?_⟩
  obtain ⟨T, u, w, e, n, e2, h1, h2⟩ := y
  subst e e2
  obtain ⟨d, d1, d2⟩ := r.getV h2
  have h1 : V.int (i : Nat) = u := Option.some.inj h1
  subst h1
  obtain ⟨g, rr⟩ := pair_made st n (.int (i : Nat)) (d2.mono s)
  refine ⟨_, _, ?_, g, rr⟩
  have z := enumD_get ds 0 i d d1
  rw [Nat.zero_add] at z
  exact z
/-- enumerate of a list or a tuple -/
def dEnumT (t : DE) : DI := fun e O k => t e O fun d O1 => match d with
  | .lst xs => k (enumD 0 xs) O1
  | .tup xs => k (enumD 0 xs) O1
  | _ => False
theorem pid_enumT {X : Cx} {a : Expr} {da : DE} {p pos : Pos} {elts : List Expr} {kk : Nat} {tpos : Pos} (hg : Gl X "enumerate") (hm : X.mg "enumerate" = none) (ha : PD X a da) (hs : starEach [a] X.env = [(false, eval a X.env)] := by rfl) : PID X (.Tuple elts kk tpos) (.Call (.Name "enumerate" p) [a] [] pos) (dEnumT da) := by
  refine ⟨_, pi_enumT hg hm (pa_cons ha.pe pa_nil (by rw [hs]; rfl)) hs, fun σ H R F e O k st er h o => ⟨F, e, O, _, st, er, h, fun d O1 F1 H1 v h1 g1 r1 => ?_⟩⟩
  try dsimp only at h1
  split at h1
  · cases r1 with
    | lst q rr => exact ⟨_, _, rfl, .inl ⟨.of (g1.stt.same _ _ q), o _ _ F1 H1 _ h1 g1 (it_enum (.of q) rr)⟩⟩
  · cases r1 with
    | tup q rr => exact ⟨_, _, rfl, .inr ⟨Same.seqT g1.stt.same q, o _ _ F1 H1 _ h1 g1 (it_enumT q rr)⟩⟩
  · exact h1.elim
/-- the signs of a text beside the items of a tuple -/
def signD (x : Str) (ds : List D) : List D := pairsD (x.cps.toList.map fun c => .str (sg c)) ds
theorem signD_get {x : Str} {ds : List D} {i c : Nat} {d : D} (h1 : x.cps[i]? = some c) (h2 : ds[i]? = some d) : (signD x ds)[i]? = some (.tup [.str (sg c), d]) :=
  pairsD_get _ _ _ _ _ (by rw [List.getElem?_map, Array.getElem?_toList, h1]; rfl) h2
def dZipS (t u : DE) : DI := fun e O k => t e O fun d O1 => u e O1 fun d2 O2 => match d, d2 with
  | .str x, .tup ys => x.cps.size = ys.length ∧ k (signD x ys) O2
  | _, _ => False
theorem pid_zipS {X : Cx} {a b : Expr} {da db : DE} {p pos : Pos} {elts : List Expr} {kk : Nat} {tpos : Pos} (hg : Gl X "zip") (hm : X.mg "zip" = none) (ha : PD X a da) (hb : PD X b db) (hs : starEach [a, b] X.env = (false, eval a X.env) :: starEach [b] X.env := by rfl) (hs2 : starEach [b] X.env = [(false, eval b X.env)] := by rfl)
    (hpl : (backTo pos (starEach [b] X.env)).any (·.1) = false := by rfl) : PID X (.Tuple elts kk tpos) (.Call (.Name "zip" p) [a, b] [] pos) (dZipS da db) := by
  refine ⟨_, pi_zipS hg hm (pa_cons ha.pe (pa_cons hb.pe pa_nil (by rw [hs2]; rfl)) hs) hs hpl, fun σ H R F e O k st er h o => ⟨F, e, O, _, st, er, h, fun d O1 F1 H1 v h1 g1 r1 => ⟨F1, e, O1, _, g1.stt, er.mono g1.same, h1, fun d2 O2 F2 H2 v2 h2 g2 r2 => ?_⟩⟩⟩
  try dsimp only at h2
  split at h2
  · rename_i x ys
    obtain ⟨l, h2⟩ := h2
    cases r1
    cases r2 with
    | @tup a2 us2 _ q2 rr2 =>
      have m := rr2.length
      refine ⟨_, _, _, rfl, Same.seqT g2.stt.same q2, o _ _ F2 H2 _ h2 (g1.trans g2) ⟨fun H => SqT X.K H a2 us2, fun i H v H' => ∃ T c y, v = .ref T ∧ H T = none ∧ H' = upd H T (.tup [.str (sg c), y]) ∧ x.cps[i]? = some c ∧ us2[i]? = some y, ?_, fun H s => Same.seqT s q2, ?_⟩⟩
      · rw [show (signD x ys).length = us2.length by unfold signD; rw [pairsD_length]; simp; omega]
        refine ⟨fun i H hi q => ⟨us2, us2[i]'(by omega), q, by omega, by simp [show i < us2.length by omega]⟩, fun H q => ⟨us2, q, by omega, rfl⟩, fun i H v H' hi q y => ?_⟩
        obtain ⟨T, c, y, h1, h2, h3, h4, h5⟩ := y
        exact ⟨T, c, y, h1, h2, h3, h4, h5 _ q⟩
      · intro i H v H' F' O' hi s st y
        obtain ⟨T, c, y, e1, n, e2, y1, y2⟩ := y
        subst e1 e2
        obtain ⟨d, d1, f1⟩ := rr2.getV y2
        obtain ⟨g, rr⟩ := pair_made st n (.str (sg c)) (f1.mono s)
        exact ⟨_, _, signD_get y1 d1, g, rr⟩
  · exact h2.elim
end
end SC
/-! repr, on trees. -/
namespace SC
open PySem PySem.Spec PyProof.Rows L2
mutual
def pyD : D → PyData
  | .non => .none | .bl b => .bool b | .int i => .int i | .str x => .str x
  | .tup xs => .tuple (pyDs xs) | .lst xs => .list (pyDs xs) | .dct => .dict []
  | .ty _ => .none | .own _ => .none | .fz _ => .none | .obj _ _ _ => .none
def pyDs : List D → List PyData
  | [] => []
  | x :: xs => pyD x :: pyDs xs
end
/-! no list within -/
mutual
def noL : D → Bool
  | .lst _ => false | .tup xs => noLs xs
  | .non => true | .bl _ => true | .int _ => true | .str _ => true | .dct => true | .ty _ => true | .own _ => true | .fz _ => true | .obj _ _ _ => true
def noLs : List D → Bool
  | [] => true
  | x :: xs => noL x && noLs xs
end
/-! no dict within -/
mutual
def noC : D → Bool
  | .dct => false | .tup xs => noCs xs | .lst xs => noCs xs
  | .non => true | .bl _ => true | .int _ => true | .str _ => true | .ty _ => true | .own _ => true | .fz _ => true | .obj _ _ _ => true
def noCs : List D → Bool
  | [] => true
  | x :: xs => noC x && noCs xs
end
/-! plain data, its ints and signs of a size that can be told -/
mutual
def okT : D → Bool
  | .int i => decide (i.natAbs.log2 < 100) | .str x => x.cps.toList.all fun c => decide (c < 16 ^ 8)
  | .tup xs => okTs xs | .lst xs => okTs xs
  | .non => true | .bl _ => true | .dct => true
  | .ty _ => false | .own _ => false | .fz _ => false | .obj _ _ _ => false
def okTs : List D → Bool
  | [] => true
  | x :: xs => okT x && okTs xs
end
mutual
def bulkD : D → Nat
  | .str x => x.cps.size
  | .tup xs => bulkDs xs | .lst xs => bulkDs xs
  | .non => 0 | .bl _ => 0 | .int _ => 0 | .dct => 0 | .ty _ => 0 | .own _ => 0 | .fz _ => 0 | .obj _ _ _ => 0
def bulkDs : List D → Nat
  | [] => 0
  | x :: xs => bulkD x + 1 + bulkDs xs
end
mutual
def depD : D → Nat
  | .tup xs => depDs xs + 1 | .lst xs => depDs xs + 1 | .dct => 1
  | .non => 0 | .bl _ => 0 | .int _ => 0 | .str _ => 0 | .ty _ => 0 | .own _ => 0 | .fz _ => 0 | .obj _ _ _ => 0
def depDs : List D → Nat
  | [] => 0
  | x :: xs => max (depD x) (depDs xs)
end
mutual
theorem py_bulk : ∀ d, (pyD d).bulk = bulkD d
  | .non => rfl | .bl _ => rfl | .int _ => rfl | .str _ => by simp only [pyD, PyData.bulk, bulkD]
  | .tup xs => by simp only [pyD, PyData.bulk, bulkD]; exact py_bulks xs
  | .lst xs => by simp only [pyD, PyData.bulk, bulkD]; exact py_bulks xs
  | .dct => by simp only [pyD, PyData.bulk, PyData.bulkKv, bulkD]
  | .ty _ => rfl | .own _ => rfl | .fz _ => rfl | .obj _ _ _ => rfl
theorem py_bulks : ∀ ds, PyData.bulkAll (pyDs ds) = bulkDs ds
  | [] => by simp only [pyDs, PyData.bulkAll, bulkDs]
  | d :: ds => by simp only [pyDs, PyData.bulkAll, bulkDs]; rw [py_bulk d, py_bulks ds]
end
mutual
theorem py_dep : ∀ d, (pyD d).depth = depD d
  | .non => by simp only [pyD, PyData.depth, depD] | .bl _ => by simp only [pyD, PyData.depth, depD] | .int _ => by simp only [pyD, PyData.depth, depD] | .str _ => by simp only [pyD, PyData.depth, depD]
  | .tup xs => by simp only [pyD, PyData.depth, depD]; rw [py_deps xs]
  | .lst xs => by simp only [pyD, PyData.depth, depD]; rw [py_deps xs]
  | .dct => by simp only [pyD, PyData.depth, PyData.depthKv, depD]
  | .ty _ => by simp only [pyD, PyData.depth, depD] | .own _ => by simp only [pyD, PyData.depth, depD] | .fz _ => by simp only [pyD, PyData.depth, depD] | .obj _ _ _ => by simp only [pyD, PyData.depth, depD]
theorem py_deps : ∀ ds, PyData.depthAll (pyDs ds) = depDs ds
  | [] => by simp only [pyDs, PyData.depthAll, depDs]
  | d :: ds => by simp only [pyDs, PyData.depthAll, depDs]; rw [py_dep d, py_deps ds]
end
mutual
theorem py_noC : ∀ d, (pyD d).hasDict = !noC d
  | .non => by simp [pyD, PyData.hasDict, noC] | .bl _ => by simp [pyD, PyData.hasDict, noC] | .int _ => by simp [pyD, PyData.hasDict, noC] | .str _ => by simp [pyD, PyData.hasDict, noC]
  | .tup xs => by simp only [pyD, PyData.hasDict, noC]; exact py_noCs xs
  | .lst xs => by simp only [pyD, PyData.hasDict, noC]; exact py_noCs xs
  | .dct => by simp [pyD, PyData.hasDict, noC]
  | .ty _ => by simp [pyD, PyData.hasDict, noC] | .own _ => by simp [pyD, PyData.hasDict, noC] | .fz _ => by simp [pyD, PyData.hasDict, noC] | .obj _ _ _ => by simp [pyD, PyData.hasDict, noC]
theorem py_noCs : ∀ ds, PyData.hasDictAll (pyDs ds) = !noCs ds
  | [] => by simp [pyDs, PyData.hasDictAll, noCs]
  | d :: ds => by simp only [pyDs, PyData.hasDictAll, noCs]; rw [py_noC d, py_noCs ds, Bool.not_and]
end
mutual
theorem py_show : ∀ d, okT d = true → (pyD d).showable = true ∧ (pyD d).leavesShort 110 = true
  | .non, _ => by simp [pyD, PyData.showable, PyData.leavesShort]
  | .bl _, _ => by simp [pyD, PyData.showable, PyData.leavesShort]
  | .int i, h => by
    have h : i.natAbs.log2 < 100 := by simpa [okT] using h
    refine ⟨?_, ?_⟩
    · simp only [pyD, PyData.showable, decide_eq_true_eq]; omega
    · have e : (PyData.shown (.int i)).length ≤ 110 := by
        have := int_text_length_le (k := 100) (by decide) h
        have e : (PyData.shown (.int i)).length = (toString i).length := by
          simp only [PyData.shown]; exact PySem.ofString_length _
        omega
      simp only [pyD, PyData.leavesShort]
      exact decide_eq_true e
  | .str x, h => by
    have h : (x.cps.toList.all fun c => decide (c < 16 ^ 8)) = true := by simpa only [okT] using h
    exact ⟨by simp [pyD, PyData.showable], by simpa only [pyD, PyData.leavesShort] using h⟩
  | .tup xs, h => by
    have := py_shows xs (by simpa only [okT] using h)
    simpa only [pyD, PyData.showable, PyData.leavesShort] using this
  | .lst xs, h => by
    have := py_shows xs (by simpa only [okT] using h)
    simpa only [pyD, PyData.showable, PyData.leavesShort] using this
  | .dct, _ => by simp [pyD, PyData.showable, PyData.showableKv, PyData.leavesShort, PyData.leavesShortKv]
  | .ty _, h => by simp [okT] at h
  | .own _, h => by simp [okT] at h
  | .fz _, h => by simp [okT] at h
  | .obj _ _ _, h => by simp [okT] at h
theorem py_shows : ∀ ds, okTs ds = true → PyData.showableAll (pyDs ds) = true ∧ PyData.leavesShortAll 110 (pyDs ds) = true
  | [], _ => by simp [pyDs, PyData.showableAll, PyData.leavesShortAll]
  | d :: ds, h => by
    have h : okT d = true ∧ okTs ds = true := by simpa only [okTs, Bool.and_eq_true] using h
    have h1 := py_show d h.1
    have h2 := py_shows ds h.2
    simp only [pyDs, PyData.showableAll, PyData.leavesShortAll, Bool.and_eq_true]
    exact ⟨⟨h1.1, h2.1⟩, h1.2, h2.2⟩
end
/-- what repr can tell: small enough, and no lists beside dicts -/
structure Shw (d : D) : Prop where
  ok : okT d = true
  bulk : bulkD d ≤ 100000
  dep : depD d ≤ 60
  lc : noC d = true ∨ noL d = true
theorem Shw.fits {d : D} (h : Shw d) : (pyD d).shown.length ≤ sizeLine := by
  have e := PyData.shown_le_bulk 110 (by decide) (pyD d) (py_show d h.ok).2
  rw [py_bulk] at e
  have hb := h.bulk
  have hs : sizeLine = 16777216 := by decide
  omega
mutual
theorem rep_reads {X : Cx} {pins : List (Addr × Obj)} {σ : L2.St} {F H : Hp} {s : Shared} (I : Inv X pins σ H s) (m : Same F H) : ∀ (d : D) (v : V) (u : Value), okT d = true → Rep X.K F v d → RelV v u → ∃ as, Reads s.heap u (pyD d) as ∧ (noL d = true → sysModules ∉ as)
  | .non, _, _, _, .non, r => by cases r; exact ⟨[], by simp only [pyD]; exact .none, fun _ => by simp⟩
  | .bl b, _, _, _, .bl _, r => by cases r; exact ⟨[], by simp only [pyD]; exact .bool b, fun _ => by simp⟩
  | .int i, _, _, _, .int _, r => by obtain ⟨t, rfl⟩ := r; exact ⟨[], by simp only [pyD]; exact .int i t, fun _ => by simp⟩
  | .str x, _, _, _, .str _, r => by obtain ⟨t, rfl⟩ := r; exact ⟨[], by simp only [pyD]; exact .str x t, fun _ => by simp⟩
  | .tup ds, _, _, ok, .tup (xs := xs) q rr, r => by
    cases r
    obtain ⟨its, rv, ⟨o, ho, hc, n, hd⟩, _⟩ := I.tuple (Same.seqT m q)
    obtain ⟨as, hr, hn⟩ := reps_reads I m ds xs its (by simpa only [okT] using ok) rr rv
    exact ⟨_, by simp only [pyD]; exact .tuple ho hc hd hr, fun z => hn (by simpa only [noL] using z)⟩
  | .lst ds, _, _, ok, .lst (xs := xs) q rr, r => by
    cases r
    obtain ⟨its, rv, ⟨o, n, ho, hc, _, hd⟩, _⟩ := I.list (.of (m _ _ q))
    obtain ⟨as, hr, hn⟩ := reps_reads I m ds xs its (by simpa only [okT] using ok) rr rv
    exact ⟨_, by simp only [pyD]; exact .list ho hc hd hr, fun z => by simp [noL] at z⟩
  | .dct, _, _, _, .dct (a := a) q, r => by
    cases r
    obtain ⟨_, hs, vs, kv, o, es, ep, ho, ⟨hc, _, _⟩, hd, _, hp, _⟩ := dk_of I.hok (m _ _ q)
    cases kv
    have he : es.toList = [] := by
      cases hp2 : es.toList with
      | nil => rfl
      | cons x l => rw [hp2] at hp; cases hp
    refine ⟨a :: [] ++ [], by simp only [pyD]; exact .dict ho hc hd (by rw [he]; exact .nil) (by rw [he]; exact .nil), fun _ z => ?_⟩
    have : sysModules = a := by simpa using z
    rw [this] at hs
    simp at hs
  | .ty _, _, _, ok, _, _ => by simp [okT] at ok
  | .own _, _, _, ok, _, _ => by simp [okT] at ok
  | .fz _, _, _, ok, _, _ => by simp [okT] at ok
  | .obj _ _ _, _, _, ok, _, _ => by simp [okT] at ok
theorem reps_reads {X : Cx} {pins : List (Addr × Obj)} {σ : L2.St} {F H : Hp} {s : Shared} (I : Inv X pins σ H s) (m : Same F H) : ∀ (ds : List D) (vs : List V) (us : List Value), okTs ds = true → Reps X.K F vs ds → Vals vs us → ∃ as, ReadsAll s.heap us (pyDs ds) as ∧ (noLs ds = true → sysModules ∉ as)
  | [], _, _, _, .nil, r => by cases r; exact ⟨[], by simp only [pyDs]; exact .nil, fun _ => by simp⟩
  | d :: ds, _, _, ok, .cons (v := v) (vs := vs) q qq, r => by
    have ok : okT d = true ∧ okTs ds = true := by simpa only [okTs, Bool.and_eq_true] using ok
    cases r with
    | cons r1 r2 =>
      obtain ⟨as, h1, n1⟩ := rep_reads I m d _ _ ok.1 q r1
      obtain ⟨bs, h2, n2⟩ := reps_reads I m ds _ _ ok.2 qq r2
      refine ⟨_, by simp only [pyDs]; exact .cons h1 h2, fun z => ?_⟩
      have z : noL d = true ∧ noLs ds = true := by simpa only [noLs, Bool.and_eq_true] using z
      intro hm
      rcases List.mem_append.mp hm with hm | hm
      · exact n1 z.1 hm
      · exact n2 z.2 hm
end
section
variable [TabL] [XCx]
/-- repr(x) -/
def rReprD : RCD := fun ds O k => ∃ d, ds = [d] ∧ Shw d ∧ k (.str (pyD d).shown) O
def rReprR (K : PySem.W.Frag) : List V → Hp → VK → Prop := fun xs H Q => ∃ (v : V) (d : D) (F : Hp), xs = [v] ∧ Same F H ∧ Rep K F v d ∧ Shw d ∧ Q (.str (pyD d).shown) H
theorem cd_repr {K : PySem.W.Frag} : CallD K (rReprR K) rReprD := by
  intro xs ds F O H k Q st r h o
  obtain ⟨d, rfl, hs, h⟩ := h
  cases r with
  | cons r1 r2 =>
    cases r2
    exact ⟨_, d, F, rfl, st.same, r1, hs, o _ _ _ _ _ h st.go (.str _)⟩
omit [TabL] [XCx] in
theorem call_reprD {X : Cx} (hg : X.A.guards = some []) (hu : X.A.units + 100 < cLine) : CallR X (.builtin "repr") (rReprR X.K) := by
  intro pins s σ H xs us Q I r h
  obtain ⟨v, d, F, rfl, m, rr, hs, q⟩ := h
  cases r with
  | cons r1 r2 =>
    cases r2
    rename_i u
    obtain ⟨as, hr, hn⟩ := rep_reads I m d v u hs.ok rr r1
    have fin : ∀ (h' : Heap) (t tk : Tok), (∀ b o, s.heap.get? b = some o → h'.get? b = some o) → EP X pins σ Q (.str (pyD d).shown t) { s with heap := h', toks := tk } := fun h' t tk hk => ⟨.str _, H, I.kept hk, ⟨t, rfl⟩, q⟩
    have hsm : (pyD d).hasDict = true → sysModules ∉ as := fun z => by
      rw [py_noC] at z
      rcases hs.lc with c | c
      · rw [c] at z; cases z
      · exact hn c
    cases d with
    | non =>
      cases rr; cases r1
      have e : (pyD .non).shown = ("None" : Str) := by simp only [pyD, PyData.shown]
      rw [e] at fin
      exact P.repr_of_none (fin s.heap _ _ fun _ _ e => e)
    | bl b =>
      cases rr; cases r1
      have e : (pyD (.bl b)).shown = ((if b then "True" else "False" : String) : Str) := by simp only [pyD, PyData.shown]; cases b <;> rfl
      rw [e] at fin
      exact P.repr_of_bool (by first | exact fin s.heap _ _ fun _ _ e => e | (cases b <;> exact fin s.heap _ _ fun _ _ e => e))
    | int i =>
      cases rr; obtain ⟨t, rfl⟩ := r1
      have e : (pyD (.int i)).shown = ((toString i : String) : Str) := by simp only [pyD, PyData.shown]
      rw [e] at fin
      exact P.repr_of_int (by have := hs.ok; simp only [okT, decide_eq_true_eq] at this; omega) (fin s.heap _ _ fun _ _ e => e)
    | str x =>
      cases rr; obtain ⟨t, rfl⟩ := r1
      have e : (pyD (.str x)).shown = reprText x := by simp only [pyD, PyData.shown]
      have hz := hs.fits
      rw [e] at fin hz
      exact P.repr_of_str (fin s.heap _ _ fun _ _ e => e) hz
    | tup ds =>
      cases rr with
      | tup h1 h2 =>
        cases r1
        exact repr_of_reads' hr (py_show _ hs.ok).1 hsm hg (by rw [py_dep]; have := hs.dep; omega) (fun _ _ e => e) (fun h' u tk hk => fin h' u tk hk) hs.fits
    | lst ds =>
      cases rr with
      | lst h1 h2 =>
        cases r1
        exact repr_of_reads' hr (py_show _ hs.ok).1 hsm hg (by rw [py_dep]; have := hs.dep; omega) (fun _ _ e => e) (fun h' u tk hk => fin h' u tk hk) hs.fits
    | dct =>
      cases rr with
      | dct h1 =>
        cases r1
        exact repr_of_reads' hr (py_show _ hs.ok).1 hsm hg (by rw [py_dep]; have := hs.dep; omega) (fun _ _ e => e) (fun h' u tk hk => fin h' u tk hk) hs.fits
    | ty n => have := hs.ok; simp [okT] at this
    | own a => have := hs.ok; simp [okT] at this
    | fz xs => have := hs.ok; simp [okT] at this
    | obj C ns fs => have := hs.ok; simp [okT] at this
end
end SC
/-! Some more: the length of a text, a display of texts asked at once, lists of rows that are alike, a tuple times a number. -/
namespace SC
open PySem PySem.Spec PyProof.Rows L2
section
variable [TabL] [XCx]
/-- len of a text -/
def rLenS : RCD := fun ds O k => ∃ x : Str, ds = [.str x] ∧ x.length ≤ sizeLine ∧ k (.int x.length) O
theorem cd_lenS {K : PySem.W.Frag} : CallD K (fun xs H Q => ∃ z : Str, xs = [.str z] ∧ z.length ≤ sizeLine ∧ Q (.int z.length) H) rLenS := by
  intro xs ds F O H k Q st r h o
  obtain ⟨x, rfl, hx, h⟩ := h
  cases r with
  | cons r1 r2 => cases r2; cases r1; exact ⟨_, rfl, hx, o _ _ _ _ _ h st.go (.int _)⟩
/-! ### {'a': 'b', ..}.get(x, None) -/
def tblK (tbl : List (Str × Str)) : List (Key × V) := tbl.map fun p => (.inr p.1, .str p.2)
def ccs (tbl : List (Str × Str)) : List (TE × TE) := tbl.map fun p => (tC (.str p.1), tC (.str p.2))
omit [TabL] [XCx] in
theorem pairs_ccs {σ : L2.St} {H : Hp} : ∀ (tbl : List (Str × Str)) {Q : List (V × V) → Hp → Prop}, Q (tbl.map fun p => (.str p.1, .str p.2)) H → tPairs (ccs tbl) σ H Q
  | [], _, h => h
  | p :: r, _, h => pairs_ccs r h
omit [TabL] [XCx] in
theorem val_tbl {s : Str} : ∀ tbl : List (Str × Str), valV (tblK tbl) (.inr s) = ((tbl.find? fun p => decide (p.1 = s)).map fun p => V.str p.2)
  | [] => rfl
  | p :: r => by
    by_cases e : p.1 = s
    · rw [show tblK (p :: r) = (.inr p.1, .str p.2) :: tblK r from rfl, valV_pos (by rw [e]), List.find?_cons, decide_eq_true e]
      rfl
    · rw [show tblK (p :: r) = (.inr p.1, .str p.2) :: tblK r from rfl, valV_neg (fun z => e (by cases z; rfl)), List.find?_cons, decide_eq_false e]
      exact val_tbl r
def dGetT (tbl : List (Str × Str)) (t : DE) : DE := fun e O k => t e O fun d O1 => match d with
  | .str s => k (match tbl.find? fun p => decide (p.1 = s) with | some p => .str p.2 | none => .non) O1
  | _ => False
theorem pd_getT {X : Cx} {pos apos cpos : Pos} {keys : List (Option Expr)} {values : List Expr} {e f : Expr} {tbl : List (Str × Str)} {t : DE} (hu : X.A.units + 1 < cLine) (hp : PPs X pos keys values (ccs tbl)) (ha : PD X e t) (hf : PE X f (tC .non))
    (m : M2 X (.Dict keys values pos) "get" apos e f cpos) (hm : mergeK [] (tblK tbl) = tblK tbl) (hall : keys.all (·.isSome) = true) (hl : keys.length = values.length) (h0 : keys ≠ []) (h15 : keys.length ≤ 15) (ht : tbl.length ≤ 15) :
    PD X (.Call (.Attribute (.Dict keys values pos) "get" apos) [e, f] [] cpos) (dGetT tbl t) := by
  refine ⟨PE.weak (pe_dget2 hu (pe_disp hp hall hl h0 h15) ha.pe hf m) fun σ H Q ⟨F, e, O, k, st, er, h, o⟩ p n => pairs_ccs tbl ⟨upd_same, tblK tbl, by unfold tblK; rw [List.map_map]; rfl, by unfold tblK; rw [List.length_map]; exact ht, ?_⟩⟩
  rw [hm, upd_upd]
  refine ⟨p, rfl, .inl ⟨_, .inl upd_same⟩, F, e, O, _, (st.junk n).stt, er, h, fun d O1 F1 H1 v h1 g1 r1 => ?_⟩
  try dsimp only at h1
  split at h1
  · rename_i s
    cases r1
    have hp := (g1.frame p _ upd_same (free_F st n) (free_O st n) (fun ps z => by cases z)).1
    refine ⟨_, DGet.k (k := .inr s) hp, o _ _ _ _ _ h1 ((st.junk n).trans g1) ?_⟩
    rw [val_tbl]
    cases tbl.find? fun p => decide (p.1 = s) with
    | none => exact .non
    | some p => exact .str _
  · exact h1.elim
/-! ### x != y of lists of rows that are alike -/
def rowsP (ps : List (List Int)) : D := .lst (ps.map fun p => .tup (p.map .int))
omit [TabL] [XCx] in
theorem dp_ints {K : PySem.W.Frag} {F H : Hp} (m : Same F H) : ∀ {vs : List V} {is : List Int}, Reps K F vs (is.map D.int) → DpAll K H vs (is.map PyData.int)
  | _, [], .nil => .nil
  | _, i :: is, .cons r rr => by cases r; exact .cons (.int i) (dp_ints m rr)
omit [TabL] [XCx] in
theorem dp_rows {K : PySem.W.Frag} {F H : Hp} (m : Same F H) : ∀ {vs : List V} {ps : List (List Int)}, Reps K F vs (ps.map fun p => .tup (p.map .int)) → DpAll K H vs (ps.map fun p => .tuple (p.map .int))
  | _, [], .nil => .nil
  | _, p :: ps, .cons r rr => by
    cases r with
    | tup q r => exact .cons (.tup (Same.seqT m q) (dp_ints m r)) (dp_rows m rr)
omit [TabL] [XCx] in
theorem ints_lay : ∀ is : List Int, PyData.canLayAll0 (is.map PyData.int) = true ∧ PyData.depthAll (is.map PyData.int) = 0
  | [] => by simp [PyData.canLayAll0, PyData.depthAll]
  | i :: is => by simp [PyData.canLayAll0, PyData.depthAll, PyData.canLay0, PyData.depth, ints_lay is]
omit [TabL] [XCx] in
theorem rows_lay : ∀ ps : List (List Int), PyData.canLayAll0 (ps.map fun p => PyData.tuple (p.map .int)) = true ∧ PyData.depthAll (ps.map fun p => PyData.tuple (p.map .int)) ≤ 1
  | [] => by simp [PyData.canLayAll0, PyData.depthAll]
  | p :: ps => by
    have h1 := ints_lay p
    have h2 := rows_lay ps
    simp only [List.map_cons, PyData.canLayAll0, PyData.depthAll, PyData.canLay0, PyData.depth, h1.1, h1.2, h2.1, Bool.and_self, true_and]
    omega
def rNeSame : R2D := fun x y O k => ∃ ps, x = rowsP ps ∧ y = rowsP ps ∧ k (.bl false) O
theorem od_neSame {K : PySem.W.Frag} : OpD K (rNeD K) rNeSame := by
  intro x y a b F O H k Q st ra rb h o
  obtain ⟨ps, rfl, rfl, h⟩ := h
  have lay : PyData.canLay0 (.list (ps.map fun p => .tuple (p.map .int))) = true := by simp only [PyData.canLay0]; exact (rows_lay ps).1
  have sh : SeqAt.shaped (.list (ps.map fun p => .tuple (p.map .int))) = true := by
    unfold SeqAt.shaped
    rw [lay, Bool.true_and]
    refine decide_eq_true ?_
    simp only [PyData.depth]
    have := (rows_lay ps).2
    omega
  cases ra with
  | lst q r => cases rb with
    | lst q2 r2 =>
      refine ⟨_, _, .lst (.of (st.same _ _ q)) (dp_rows st.same r), .lst (.of (st.same _ _ q2)) (dp_rows st.same r2), sh, sh, ?_⟩
      rw [SeqAt.eqv_refl _ lay]
      exact o _ _ F H _ h st.go (.bl false)
theorem ptd_neSame {X : Cx} {a b : Expr} {pos : Pos} {da db : DE} (hu : X.A.units + 64 < cLine) (ha : PD X a da) (hb : PD X b db) : PTD X (.Compare a [.NotEq] [b] pos) (dB (dOp rNeSame da db)) := ptd_cmp (op_neD hu) od_neSame ha hb
/-! ### a tuple times a number -/
omit [TabL] [XCx] in
theorem tuple_mul0 (l : Addr) (items : Array Value) (dd : Option Addr) (n : Nat) (sl : Array (Option Value)) (x : Int) (u : Tok) (c0 : (decide (x < -(2 ^ 63)) || decide (x ≥ 2 ^ 63)) = false) (c1 : (items.isEmpty || x == 1) = true) :
    Meets (Builtin.«tuple.__mul__» ⟨[.ref l, .int x u], []⟩) (fun _ R s => s.heap.get? l = some { cls := .type "tuple", dict := dd, data := .seq items n, slots := sl } ∧ R (.ok (.ret (Value.ref l))) s) :=
  .of_wp fun prog w A R s h => by
    obtain ⟨hp, g, d, tk, os⟩ := s
    obtain ⟨hl, h⟩ := h
    have f1 := AutoSeq1.idx_int
    wp_walk using wpAny_loadPart' hl
    repeat (first
      | (refine wpAny_ite_false (decide_eq_false (by rw [c0]; exact Bool.false_ne_true)) ?_; wp_walk using wpAny_loadPart' hl)
      | (refine wpAny_ite_true (decide_eq_true c1) ?_; wp_walk using wpAny_loadPart' hl))
    exact ⟨_, rfl, h⟩
def rRep0 (K : PySem.W.Frag) : R2 := fun x y H Q => ∃ l k xs, x = .ref l ∧ y = .int k ∧ SqT K H l xs ∧ (xs = [] ∨ k = 1) ∧ 1 ≤ k ∧ k ≤ 1000 ∧ Q (.ref l) H
omit [TabL] [XCx] in
theorem op_rep0 {X : Cx} : OpR X (binaryOp .Mult) (rRep0 X.K) := by
  intro pins s σ H x y v u Q I rx ry h
  obtain ⟨l, k, xs, rfl, rfl, hT, hx, h1, h2, q⟩ := h
  cases rx
  obtain ⟨t, rfl⟩ := ry
  obtain ⟨its, r, ⟨⟨cls, dd, data, sl⟩, ho, hc, n, hd⟩, hs⟩ := I.tuple hT
  simp only at hc hd
  subst hc hd
  have c0 : (decide (k < -(2 ^ 63)) || decide (k ≥ 2 ^ 63)) = false := by
    rw [decide_eq_false (by omega), decide_eq_false (by omega)] <;> rfl
  have c1 : (its.toArray.isEmpty || k == 1) = true := by
    rcases hx with rfl | rfl
    · cases r; rfl
    · simp
  exact wpAny_binaryOp_repeat_ref (T := "tuple") (U := "int") (by decide) ⟨_, ho, rfl⟩ (fun s' => typeIs_int s' k t) noFill_tuple_mul F.fills_int_mul F.slot_int_rmul repeat_tuple F.slot_int_index.lookup
    (call_meets F.slot_int_rmul (typeIs_int s k t) F.entry_int_rmul (F.args_int_rmul_2 _ _) (int_rmul_tuple k t l _ n dd sl)
      ⟨ho, rfl, ⟨_, ho, rfl⟩, call_meets F.slot_tuple_mul ⟨_, ho, rfl⟩ F.entry_tuple_mul (F.args_tuple_mul_2 _ _) (tuple_mul0 l _ dd n sl k t c0 c1) ⟨ho, .ref l, _, I, rfl, q⟩⟩)
/-- t * k, k one or more -/
def dMulA : R2D := fun x y O k => match x, y with
  | .tup xs, .int c => (xs.length ≤ 1000 ∧ 1 ≤ c ∧ c ≤ 1000) ∧ k (.tup (List.replicate c.toNat xs).flatten) O
  | _, _ => False
theorem od_mulA {K : PySem.W.Frag} : OpD K (fun x y H Q => rRepT K x y H Q ∨ rRep0 K x y H Q) dMulA := by
  intro x y a b F O H k Q st ra rb h o
  unfold dMulA at h
  split at h
  · rename_i xs c
    obtain ⟨⟨h2, h3, h4⟩, h⟩ := h
    cases rb
    cases ra with
    | @tup l us ds q rr =>
      by_cases e : us = [] ∨ c = 1
      · refine .inr ⟨_, _, _, rfl, rfl, Same.seqT st.same q, e, h3, h4, o _ _ _ _ _ h st.go (.tup q ?_)⟩
        rcases e with rfl | rfl
        · cases rr
          rw [show (List.replicate c.toNat ([] : List D)).flatten = [] by simp]
          exact .nil
        · rw [show (List.replicate (1 : Int).toNat xs).flatten = xs by simp]
          exact rr
      · refine .inl (od_mulT (K := K) _ _ (.tup xs) (.int c) F O H k Q st (.tup q rr) (.int c) ⟨⟨fun z => e (.inl ?_), h2, ?_, h4⟩, h⟩ o)
        · subst z; cases rr; rfl
        · have : c ≠ 1 := fun z => e (.inr z)
          omega
  · exact h.elim
theorem pd_mulA {X : Cx} {a b : Expr} {pos : Pos} {da db : DE} (ha : PD X a da) (hb : PD X b db) : PD X (.BinOp a .Mult b pos) (dOp dMulA da db) := pd_op (OpR.or op_repT op_rep0) od_mulA ha hb
end
end SC
/-! The law's own def run where the law is called: what holds there of the guards is known. -/
namespace SC
open PySem PySem.Spec PyProof.Rows L2
/-- a def run at A -/
theorem runAt {CX : CXT} {P : Program} {w : World} {K : PySem.W.Frag} {mg : Str → Option Value} {base : Heap} {k : Nat} {g : Addr} {nm q : Str} {pr : Arguments} {bd : List Stmt} {sc : Scope} {d1 d2 d3 d4 cv c2 oc : Value} {an od : Option Addr} {osl : Array (Option Value)} {N ps : List Str}
    (lk : K.lookup g = some ⟨oc, od, .func (PySem.W.fnOf nm q pr bd sc d1 d2 d3 d4 an cv c2), osl⟩) (hc : PySem.W.codeIn K cv q = true) (S : FnScope N ps sc)
    {A : Around} {outer : List Env} {s : Shared} {H : Hp} {args : Args} {us : List Value} {vs : List V} {Q : VK} {E : XK} (hr : Room (k + 1) A) (e0 : Env0 P w K mg base A outer s H) (hb : BindsTo s (PySem.W.fnOf nm q pr bd sc d1 d2 d3 d4 an cv c2) args (ps.zip us)) (rv : Vals vs us) (hl : vs.length = ps.length)
    (go : ∃ t, PSs (cxOf CX P w K mg base N q sc g cv A outer s H E) bd t ∧ t { nx := fun _ H' => Q .non H', rt := Q } (L2.start N vs) H) :
    codeAny (model P w) A (.call (.ref g) args) (CR CX outer P w H s Q E) s := by
  have kin := e0.mod.kin.keeps fun b o z => (e0.bs b o z).1
  have nol := e0.mod.nolimit.keeps fun b o z => (e0.bs b o z).1
  have kinds : ∀ y ∈ ps.zip us, sc.names.lookup y.1 = some .local ∨ (sc.names.lookup y.1 = some .cell ∧ ((cellsFrom (s.heap.objs.size + 1) sc.names []).lookup y.1).isSome = true) := by
    rintro ⟨m, v⟩ hy
    cases S.par m (List.of_mem_zip hy).1 with
    | inl z => exact .inl z
    | inr z => exact .inr ⟨z, PySem.W.cellsFrom_some _ _ _ (.inl z)⟩
  refine codeAny_call_function hr.depth (kin _ _ lk) rfl S.co S.gen rfl
    (PySem.W.codeRec_of kin hc) (hb _ _ _ _ ?_)
  refine wpAny_newFunctionEnv_cells S.kind kinds
    fun env he s1 x => ?_
  cases he
  obtain ⟨t, ht, hq⟩ := go
  refine ⟨nol.keeps x.toInCall.keep, codeAny_func (wpAny_mono (ht.run [] s1 (L2.start N vs) H _ (inv_start S hr.hd e0 hl rv x) hq) (fun fl s' z => ?_) fun e s' z => z)⟩
  cases fl with
  | ret u =>
    obtain ⟨v, σ', H', J, r, z⟩ := z
    exact ⟨v, H', J.os, J.bare, J.base, J.hok, r, z⟩
  | next =>
    obtain ⟨σ', H', J, z⟩ := z
    exact ⟨V.non, H', J.os, J.bare, J.base, J.hok, rfl, z⟩
  | brk => exact z.elim fun _ z => z.elim fun _ z => z.2.elim
  | cont => exact z.elim fun _ z => z.elim fun _ z => z.2.elim
/-- the script alone is known -/
def lone (K : PySem.W.Frag) (a : Addr) (u : HO) : Hp := match K.lookup a with
  | some _ => fun _ => none
  | none => fun b => if b = a then some u else none
theorem top_call {P : Program} {w : World} {K : PySem.W.Frag} {mg mb : Str → Option Value} {fa a : Addr} {s : Shared} {vs : List Value} {ns : List Int}
    (kin : K.In s.heap) (nsG : s.heap.Ns mainGlobals mg) (nsB : s.heap.Ns builtinsNs mb) (bts : ∀ x : Str, x ≠ "__name__" → mb x = bootBuiltins x) (nol : s.heap.NoLimit) (gen : s.gens = #[])
    (ob : s.heap.get? a = some { cls := .type "list", data := .seq vs.toArray }) (iz : IntsAre vs ns) (ln : ns.length ≤ sizeLine)
    (run : ∀ (base : Heap) (H : Hp), Env0 P w K mg base callerA [] s H → SqL K H a (ns.map V.int) → (∀ b ps, H b ≠ some (.tbl ps)) →
      codeAny (model P w) callerA (.call (.ref fa) ⟨[.ref a], []⟩) (CR CX0 [] P w H s (fun v _ => v = .bl true) fun _ _ _ => False) s) :
    codeAny (model P w) callerA (.call (.ref fa) ⟨[.ref a], []⟩) (fun r s' => r = .ok (.ret (.bool true)) ∧ OldK s.heap s'.heap ∧ s'.os = s.os ∧ AllBare s'.gens) s := by
  have hz : vs.length = ns.length := iz.length
  let u : HO := .frz { cls := .type "list", data := .seq vs.toArray } (.lst (ns.map V.int))
  have hH : ∀ b o, lone K a u b = some o → b = a ∧ o = u ∧ K.lookup a = none := by
    intro b o e
    cases q : K.lookup a with
    | some x => simp [lone, q] at e
    | none =>
      by_cases z : b = a
      · have e' : some u = some o := by rw [← e]; simp [lone, q, z]
        exact ⟨z, (Option.some.inj e').symm, rfl⟩
      · have e' : (none : Option HO) = some o := by rw [← e]; simp [lone, q, z]
        cases e'
  have old : ∀ {b : Addr} {o : Obj}, s.heap.get? b = some o → (∀ v n, o.data ≠ .seq v n) → lone K a u b = none := by
    intro b o e n
    cases q : lone K a u b with
    | none => rfl
    | some x =>
      obtain ⟨z, _, _⟩ := hH b x q
      rw [z, ob] at e
      cases e
      exact (n _ _ rfl).elim
  have mv : ∀ {b : Addr} {m : Str → Option Value}, s.heap.Ns b m → (hidT s.heap (lone K a u)).Ns b m := by
    rintro b m ⟨o, es, ep, e, d, r⟩
    exact ⟨o, es, ep, hidT_get e (old e fun v n z => by rw [d] at z; cases z), d, r⟩
  have kb : K.In (hidT s.heap (lone K a u)) := by
    intro b o e
    refine hidT_get (kin b o e) ?_
    cases q : lone K a u b with
    | none => rfl
    | some x =>
      obtain ⟨z, _, n⟩ := hH b x q
      rw [z, n] at e
      cases e
  have okH : HOk P w (lone K a u) s.heap := by
    intro b o e
    obtain ⟨rfl, rfl, _⟩ := hH b o e
    exact ⟨ob, by rw [List.length_map]; exact ln, vs, _, vals_ints iz, ob⟩
  have sq : SqL K (lone K a u) a (ns.map V.int) := by
    cases q : K.lookup a with
    | none =>
      refine .inl (.inr ⟨{ cls := .type "list", data := .seq vs.toArray }, ?_⟩)
      unfold lone
      rw [q]
      exact if_pos rfl
    | some o =>
      have e := kin a o q
      rw [ob] at e
      cases e
      exact .inr ⟨_, vs.toArray, _, q, rfl, rfl, rfl, by rw [List.size_toArray, hz]; exact ln, by simpa using vals_ints iz⟩
  have env0 : Env0 P w K mg (hidT s.heap (lone K a u)) callerA [] s (lone K a u) :=
    ⟨rfl, ⟨kb, mv nsG, ⟨mb, mv nsB, bts⟩, nol.elim fun mc z => ⟨mc, mv z.1, z.2⟩⟩, fun b o e => of_hidT e, Nat.le_of_eq (hidT_size _ _), trivial, fun b z => absurd (show b ∈ ([] : List Addr) from z) (by simp), okH, .of_eq gen⟩
  refine codeAny_mono (run _ _ env0 sq fun b ps z => HO.noConfusion (hH b _ z).2.1) fun r s' h => ?_
  cases r with
  | error e => exact False.elim h
  | ok fl =>
    cases fl with
    | ret x =>
      obtain ⟨v, H', os, bare, un, ok', rv, rfl⟩ := h
      obtain rfl : x = Value.bool true := rv
      refine ⟨rfl, .of_keep fun b o e => ?_, os, bare⟩
      cases q : lone K a u b with
      | none => exact un.keep b o e q (fun z => absurd (show b ∈ ([] : List Addr) from z) (by simp)) (by simp)
      | some y =>
        obtain ⟨rfl, rfl, _⟩ := hH b y q
        have e1 := (okH _ _ q).1
        have e2 := (ok' _ _ (un.frzs _ _ _ q)).1
        rw [e] at e1
        cases e1
        exact e2
    | next => exact False.elim h
    | brk => exact False.elim h
    | cont => exact False.elim h
theorem walk_at {l : PySem.W.OpenLaw} {n : Nat} {q : Program} {loose : List Str} {XP : (Str → Option Value) → Heap → Prop} {YP : World → Heap → Prop} {d : DefRec} {K : Params → PySem.W.Frag}
    (hn : l.most = some n) (hn2 : n ≤ sizeLine) (hdf : d.params.defaults = []) (hY : ∀ (w : World) (h : Heap), YP w h → (K w.params).In h)
    (F : ∀ (w : World) (mg : Str → Option Value) (fa : Addr) (h : Heap), (K w.params).In h → h.Ns mainGlobals mg → mg d.name = some (.ref fa) → ∀ (s : Shared) (base : Heap) (H : Hp) (a : Addr) (ns : List Int), ns.length ≤ n →
      Env0 l.prog w (K w.params) mg base callerA [] s H → SqL (K w.params) H a (ns.map V.int) → (∀ b ps, H b ≠ some (.tbl ps)) →
      codeAny (model l.prog w) callerA (.call (.ref fa) ⟨[.ref a], []⟩) (CR CX0 [] l.prog w H s (fun v _ => v = .bl true) fun _ _ _ => False) s) :
    PySem.W.WalkO q loose XP YP l.row.toRowW d [] (fun f vs => PySem.call f vs) := by
  refine Att.attach_callB hn hdf fun w s₀ s₁ mg mb fa o pm cd doc a vs ns G Y ho hd hcd hmg hobj hints hlen hbits hg => ?_
  have kin := hY w _ Y
  exact top_call kin G.T.g G.T.b G.T.builtins G.T.nolimit hg hobj hints (Nat.le_trans hlen hn2) fun base H e z z2 => F w mg fa _ kin G.T.g hmg s₁ base H a ns hlen e z z2
end SC
namespace SC
open PySem PySem.Spec PyProof.Rows L2
variable [TabL] [XCx]
/-! a test (x if c else y) -/
omit [TabL] [XCx] in
theorem pt_ifExp {X : Cx} {a b c : Expr} {pos : Pos} {tc ta tb : TT} (hc : PT X c tc) (ha : PT X a ta) (hb : PT X b tb) : PT X (.IfExp c a b pos) (fun σ H Q => tc σ H fun d H1 => if d = true then ta σ H1 Q else tb σ H1 Q) := by
  refine ⟨fun pins s σ H Q I h => isTrue_IfExp (thn (hc.run pins s σ H _ I h) fun d s1 ⟨H1, I1, q1⟩ => ?_)⟩
  cases d with
  | true => exact ha.run pins s1 σ H1 Q I1 q1
  | false => exact hb.run pins s1 σ H1 Q I1 q1
theorem ptd_ifEB {X : Cx} {a b c : Expr} {pos : Pos} {tc : DT} {da db : DE} (hc : PTD X c tc) (ha : PTD X a (dB da)) (hb : PTD X b (dB db)) : PTD X (.IfExp c a b pos) (dB (dIfE tc da db)) := by
  refine ⟨PT.weak (pt_ifExp hc.pt ha.pt hb.pt) fun σ H Q h => ?_⟩
  obtain ⟨F, e, O, k, st, er, h, o⟩ := h
  unfold dB dIfE at h
  refine ⟨F, e, O, _, st, er, h, fun d O1 F1 H1 h1 g1 => ?_⟩
  cases d with
  | true => rw [if_pos rfl]; exact ⟨F1, e, O1, k, g1.stt, er.mono g1.same, h1, o.after g1⟩
  | false => rw [if_neg (by decide)]; exact ⟨F1, e, O1, k, g1.stt, er.mono g1.same, h1, o.after g1⟩
end SC
namespace SC
open PySem PySem.Spec PyProof.Rows L2
/-- what isinstance asks of an own class -/
structure IsC (K : PySem.W.Frag) (C : Addr) : Prop where
  cl : Cls K C
  f : PySem.W.findIn K (.ref C) "__class__" = some (some (.builtin "object.__class__"))
  s : PySem.W.specialIn K (.builtin "object.__class__") "__get__" = some (some (.builtin "getset_descriptor.__get__"))
  t : PySem.W.takesIn K (.builtin "object.__class__") = some true
  m : PySem.W.mroIn K C (.type "object") = some true
/-- isinstance(o, C), o an object of C -/
theorem call_isC {X : Cx} {C : Addr} (M : IsC X.K C) : CallR X (.builtin "isinstance") (fun xs H Q => ∃ a dx fs, xs = [.ref a, .ref C] ∧ H a = some (.ins C dx fs) ∧ Q (.bl true) H) := by
  intro pins s σ H xs us Q I r h
  obtain ⟨a, dx, fs, rfl, hx, q⟩ := h
  exact call_isi pins s σ H _ us Q I r ⟨_, _, .ref C, .ref C, true, rfl, .own C, .base (.ins hx M.cl M.f M.s M.t M.m), by unfold PySem.W.kitOne; rw [if_pos (by simp)], q⟩
end SC
/-! Great whole numbers: shifts, products, quotients, bits, gcd, divmod; x -= e; flags counted and sought; small things compared. -/
namespace SC
open PySem PySem.Spec PyProof.Rows L2
section
variable [TabL] [XCx]
/-- of a size that is reckoned with -/
def Sz (i : Int) : Prop := i.natAbs < 2 ^ 4000
def CShW (i j : Int) : Prop := 0 ≤ j ∧ j ≤ 4000 ∧ Sz i
def CMuW (i j : Int) : Prop := Sz i ∧ Sz j
def CDiW (i j : Int) : Prop := 0 < j ∧ Sz j
section
variable {X : Cx} {a b : Expr} {pos : Pos} {da db : DE}
omit [TabL] [XCx] in
theorem op_shlS : OpR X (binaryOp .LShift) (rI CShW fun i j => .int (i * 2 ^ j.toNat)) := by
  intro pins s σ H x y v u Q I rx ry h
  refine op_shlW pins s σ H x y v u Q I rx ry ?_
  obtain ⟨i, j, rfl, rfl, ⟨h0, h1, h2⟩, q⟩ := h
  obtain ⟨n, rfl⟩ := Int.eq_ofNat_of_zero_le h0
  exact ⟨i, _, rfl, rfl, shl_ok h2 (by omega), q⟩
omit [TabL] [XCx] in
theorem op_mulS : OpR X (binaryOp .Mult) (rI CMuW fun i j => .int (i * j)) := by
  intro pins s σ H x y v u Q I rx ry h
  refine op_mulX pins s σ H x y v u Q I rx ry ?_
  obtain ⟨i, j, rfl, rfl, ⟨h1, h2⟩, q⟩ := h
  exact ⟨i, j, rfl, rfl, mulx_ok h1 h2 (by decide), q⟩
omit [TabL] [XCx] in
theorem op_fdivS : OpR X (binaryOp .FloorDiv) (rI CDiW fun i j => .int (i / j)) := by
  intro pins s σ H x y v u Q I rx ry h
  refine op_fdivW pins s σ H x y v u Q I rx ry ?_
  obtain ⟨i, j, rfl, rfl, ⟨h1, h2⟩, q⟩ := h
  exact ⟨i, j, rfl, rfl, wide_div h1 h2 (by decide) (by decide), q⟩
theorem pd_shlS (ha : PD X a da) (hb : PD X b db) : PD X (.BinOp a .LShift b pos) (dOp (dI CShW fun i j => .int (i * 2 ^ j.toNat)) da db) := pd_op op_shlS od_i ha hb
theorem pd_mulS (ha : PD X a da) (hb : PD X b db) : PD X (.BinOp a .Mult b pos) (dOp (dI CMuW fun i j => .int (i * j)) da db) := pd_op op_mulS od_i ha hb
theorem pd_fdivS (ha : PD X a da) (hb : PD X b db) : PD X (.BinOp a .FloorDiv b pos) (dOp (dI CDiW fun i j => .int (i / j)) da db) := pd_op op_fdivS od_i ha hb
theorem pd_shr (ha : PD X a da) (hb : PD X b db) : PD X (.BinOp a .RShift b pos) (dOp (dI (fun _ j => 0 ≤ j) fun i j => .int (i / 2 ^ j.toNat)) da db) := pd_op op_shr od_i ha hb
theorem pd_band (ha : PD X a da) (hb : PD X b db) : PD X (.BinOp a .BitAnd b pos) (dOp (dI0 fun i j => .int (Builtin.bitAnd i j)) da db) := pd_op op_and od_i0 ha hb
/-- x.bit_length() -/
def dBits (t : DE) : DE := fun e O k => t e O fun d O1 => match d with
  | .int i => k (.int (Builtin.Int.intBits i : Nat)) O1
  | _ => False
theorem pd_bits {o : Expr} {apos : Pos} {t : DE} (ho : PD X o t) (hbase : attributeBase o "bit_length" X.env (eval o X.env) = eval o X.env := by rfl) (hline : (apos.endLine == pos.line) = true := by rfl) : PD X (.Call (.Attribute o "bit_length" apos) [] [] pos) (dBits t) := by
  refine ⟨PE.weak (pe_bits ho.pe hbase hline) fun σ H Q ⟨F, e, O, k, st, er, h, ok⟩ => ⟨F, e, O, _, st, er, h, fun d O1 F1 H1 v h1 g1 r1 => ?_⟩⟩
  try dsimp only at h1
  split at h1
  · cases r1; exact ⟨_, rfl, ok _ _ _ _ _ h1 g1 (.int _)⟩
  · exact h1.elim
/-- divmod(x, y) -/
def rDivmodD : RCD := fun ds O k => ∃ i j, ds = [.int i, .int j] ∧ (0 < j ∧ Builtin.Int.intBits i ≤ Builtin.Int.intBits j + 4000) ∧ k (.tup [.int (i / j), .int (i % j)]) O
theorem cd_divmod {K : PySem.W.Frag} : CallD K (fun xs H Q => ∃ i j, xs = [.int i, .int j] ∧ CDivP i j ∧ ∀ p, H p = none → Q (.ref p) (upd H p (.tup [.int (i / j), .int (i % j)]))) rDivmodD := by
  intro xs ds F O H k Q st r h o
  obtain ⟨i, j, rfl, ⟨h1, h2⟩, h⟩ := h
  cases r with
  | cons r1 r2 => cases r2 with
    | cons r2 r3 =>
      cases r3
      cases r1
      cases r2
      exact ⟨i, j, rfl, divp_ok h1 h2, fun p n => o _ _ _ _ _ h (st.made n) (.tup (.of upd_same) (.cons (.int _) (.cons (.int _) .nil)))⟩
/-- gcd(x, y) -/
def rGcdD : RCD := fun ds O k => ∃ i j : Int, ds = [.int i, .int j] ∧ k (.int (Nat.gcd i.natAbs j.natAbs : Nat)) O
theorem cd_gcd {K : PySem.W.Frag} : CallD K rGcd rGcdD := by
  intro xs ds F O H k Q st r h o
  obtain ⟨i, j, rfl, h⟩ := h
  cases r with
  | cons r1 r2 => cases r2 with
    | cons r2 r3 =>
      cases r3
      cases r1
      cases r2
      exact ⟨i, j, rfl, o _ _ _ _ _ h st.go (.int _)⟩
/-- f(..), f a module's name for a built-in -/
theorem pd_callM {r : List V → Hp → VK → Prop} {rd : RCD} {id : String} {x : Str} {p : Pos} {e : Expr} {es : List Expr} {t : DA} (hc : CallR X (.builtin id) r) (hd : CallD X.K r rd) (hg : Gl X x) (hm : X.mg x = some (.builtin id)) (ha : PAD X (e :: es) t) (hdb : (x == ("__debug__" : Str)) = false := by decide)
    (he : starEach (e :: es) X.env = (false, eval e X.env) :: starEach es X.env := by rfl) (hpl : (backTo pos (starEach es X.env)).any (·.1) = false := by rfl) : PD X (.Call (.Name x p) (e :: es) [] pos) (dCB rd t) :=
  ⟨PE.weak (pe_callBfun hc hg hm ha.pa hdb he hpl) fun σ H Q h => up_cb hd h⟩
/-- x not in .. -/
theorem pd_notin (ha : PD X a da) (hb : PD X b db) (hm : behindInMarks .NotIn b = false := by rfl) : PD X (.Compare a [.NotIn] [b] pos) (dOp (dIn true) da db) := pd_cmp op_notIn_seq od_in ha hb hm
theorem ptd_notin (ha : PD X a da) (hb : PD X b db) (hm : behindInMarks .NotIn b = false := by rfl) : PTD X (.Compare a [.NotIn] [b] pos) (dB (dOp (dIn true) da db)) := ptd_cmp op_notIn_seq od_in ha hb hm
/-- name -= e -/
theorem psd_augsub {i : Nat} {x : Str} {pos' : Pos} (hN : X.N.Nodup) (hi : X.N[i]? = some x) (hx : Loc X.env.scope x) (he : PD X a da) (hf : X.fn x = true ∨ X.env.scope.names.lookup x = some .local := by first | exact .inl rfl | exact .inr rfl | assumption) :
    PSD X (.AugAssign (.Name x pos') .Sub a pos) (dSet i (dOp (dI0 fun i j => .int (i - j)) (dVar i) da)) := by
  refine ⟨PS.weak (ps_aug hN hi hx he.pe ip_sub hf) fun D σ H ⟨F, e, O, k, st, er, h, o⟩ => ?_⟩
  unfold dSet dOp dVar at h
  split at h
  · rename_i d q
    obtain ⟨v, hv, r⟩ := er.get q
    refine ⟨v, hv, F, e, O, _, st, er, h, fun d2 O2 F2 H2 v2 h2 g2 r2 => ?_⟩
    unfold dI0 at h2
    split at h2
    · cases r; cases r2
      exact ⟨_, _, rfl, rfl, o.nx _ _ _ _ _ h2 g2 ((er.mono g2.same).set (.int _) i)⟩
    · exact h2.elim
  · exact h.elim
end
end
end SC
/-! Small things compared; flags counted and sought; isinstance of own objects; a list times a number. -/
namespace SC
open PySem PySem.Spec PyProof.Rows L2
section
variable [TabL] [XCx]
/-! ### == of texts and pairs of ints -/
noncomputable def eqQ : D → D → Option Bool
  | .tup [.int a, .int b], .tup [.int c, .int d] => some (decide (a = c) && decide (b = d))
  | .str x, .str y => some (strEq x y)
  | .str _, .tup [.int _, .int _] => some false
  | .tup [.int _, .int _], .str _ => some false
  | _, _ => none
def okQ : D → Prop
  | .str x => PyData.strOk x = true
  | _ => True
noncomputable def dEqQ (f : Bool → Bool) : R2D := fun a b O k => match eqQ a b with
  | some r => (okQ a ∧ okQ b) ∧ k (.bl (f r)) O
  | none => False
theorem eqQ_dp {K : PySem.W.Frag} {F H : Hp} (m : Same F H) {x y : V} {a b : D} {r : Bool} (ra : Rep K F x a) (rb : Rep K F y b) (h : eqQ a b = some r) (oa : okQ a) (ob : okQ b) : ∃ d e, Dp K H x d ∧ Dp K H y e ∧ SeqAt.shaped d = true ∧ SeqAt.shaped e = true ∧ PyData.eqv d e = r := by
  have sp : ∀ i j : Int, SeqAt.shaped (.tuple [.int i, .int j]) = true := fun i j => by simp [SeqAt.shaped, PyData.canLay0, PyData.canLayAll0, PyData.depth, PyData.depthAll]
  have ss : ∀ s : Str, okQ (.str s) → SeqAt.shaped (.str s) = true := fun s hs => by
    have hs : PyData.strOk s = true := hs
    simp [SeqAt.shaped, PyData.canLay0, PyData.depth, hs]
  have tp : ∀ {v : V} {i j : Int}, Rep K F v (.tup [.int i, .int j]) → Dp K H v (.tuple [.int i, .int j]) := fun {v i j} r => by
    cases r with
    | tup q r => cases r with
      | cons r1 r => cases r with
        | cons r2 r => cases r; cases r1; cases r2; exact .tup (Same.seqT m q) (.cons (.int i) (.cons (.int j) .nil))
  unfold eqQ at h
  split at h
  · cases h
    refine ⟨_, _, tp ra, tp rb, sp _ _, sp _ _, ?_⟩
    simp only [PyData.eqv, PyData.eqvAll, Bool.and_true]; rfl
  · cases h
    cases ra; cases rb
    refine ⟨_, _, .str _, .str _, ss _ oa, ss _ ob, ?_⟩
    rw [strEq_eq]; simp only [PyData.eqv]; rfl
  · cases h
    cases ra
    exact ⟨_, _, .str _, tp rb, ss _ oa, sp _ _, by simp [PyData.eqv]⟩
  · cases h
    cases rb
    exact ⟨_, _, tp ra, .str _, sp _ _, ss _ ob, by simp [PyData.eqv]⟩
  · cases h
theorem od_eqQ {K : PySem.W.Frag} : OpD K (rEqD K) (dEqQ fun r => r) := by
  intro x y a b F O H k Q st ra rb h o
  unfold dEqQ at h
  split at h
  · rename_i r e
    obtain ⟨⟨oa, ob⟩, h⟩ := h
    obtain ⟨d, e', h1, h2, h3, h4, h5⟩ := eqQ_dp st.same ra rb e oa ob
    exact ⟨d, e', h1, h2, h3, h4, by rw [h5]; exact o _ _ F H _ h st.go (.bl _)⟩
  · exact h.elim
theorem od_neQ {K : PySem.W.Frag} : OpD K (rNeD K) (dEqQ fun r => !r) := by
  intro x y a b F O H k Q st ra rb h o
  unfold dEqQ at h
  split at h
  · rename_i r e
    obtain ⟨⟨oa, ob⟩, h⟩ := h
    obtain ⟨d, e', h1, h2, h3, h4, h5⟩ := eqQ_dp st.same ra rb e oa ob
    exact ⟨d, e', h1, h2, h3, h4, by rw [h5]; exact o _ _ F H _ h st.go (.bl _)⟩
  · exact h.elim
section
variable {X : Cx} {a b : Expr} {pos : Pos} {da db : DE}
theorem pd_eqQ (hu : X.A.units + 64 < cLine) (ha : PD X a da) (hb : PD X b db) : PD X (.Compare a [.Eq] [b] pos) (dOp (dEqQ fun r => r) da db) := pd_cmp (op_eqD hu) od_eqQ ha hb
theorem ptd_eqQ (hu : X.A.units + 64 < cLine) (ha : PD X a da) (hb : PD X b db) : PTD X (.Compare a [.Eq] [b] pos) (dB (dOp (dEqQ fun r => r) da db)) := ptd_cmp (op_eqD hu) od_eqQ ha hb
theorem ptd_neQ (hu : X.A.units + 64 < cLine) (ha : PD X a da) (hb : PD X b db) : PTD X (.Compare a [.NotEq] [b] pos) (dB (dOp (dEqQ fun r => !r) da db)) := ptd_cmp (op_neD hu) od_neQ ha hb
/-! ### is True -/
omit [TabL] [XCx] in
theorem op_isnotB : OpR X (compareOp .IsNot) (fun x y H Q => ∃ c d : Bool, x = .bl c ∧ y = .bl d ∧ Q (.bl (c != d)) H) := by
  intro pins s σ H x y v u Q I rx ry h
  obtain ⟨c, d, rfl, rfl, q⟩ := h
  cases rx; cases ry
  exact isnot_bool (fin_bl I q rfl)
def dIsnotB : R2D := fun a b O k => match a, b with
  | .bl c, .bl d => k (.bl (c != d)) O
  | _, _ => False
theorem od_isnotB {K : PySem.W.Frag} : OpD K (fun x y H Q => ∃ c d : Bool, x = .bl c ∧ y = .bl d ∧ Q (.bl (c != d)) H) dIsnotB := by
  intro x y a b F O H k Q st ra rb h o
  unfold dIsnotB at h
  split at h
  · cases ra; cases rb
    exact ⟨_, _, rfl, rfl, o _ _ F H _ h st.go (.bl _)⟩
  · exact h.elim
theorem ptd_isnotB (ha : PD X a da) (hb : PD X b db) : PTD X (.Compare a [.IsNot] [b] pos) (dB (dOp dIsnotB da db)) := ptd_cmp op_isnotB od_isnotB ha hb
/-! ### a list times a number -/
def dMulL : R2D := fun x y O k => match x, y with
  | .lst xs, .int c => (xs.length ≤ 1000 ∧ 0 ≤ c ∧ c ≤ 1000) ∧ k (.lst (List.replicate c.toNat xs).flatten) O
  | _, _ => False
omit [TabL] [XCx] in
theorem reps_flat {K : PySem.W.Frag} {F : Hp} {vs : List V} {ds : List D} (r : Reps K F vs ds) : ∀ n : Nat, Reps K F (List.replicate n vs).flatten (List.replicate n ds).flatten
  | 0 => .nil
  | n + 1 => by
    rw [List.replicate_succ, List.replicate_succ, List.flatten_cons, List.flatten_cons]
    exact r.append (reps_flat r n)
theorem od_mulL {K : PySem.W.Frag} : OpD K rRep dMulL := by
  intro x y a b F O H k Q st ra rb h o
  unfold dMulL at h
  split at h
  · rename_i xs c
    obtain ⟨⟨h1, h2, h3⟩, h⟩ := h
    cases rb
    cases ra with
    | lst q rr =>
      refine ⟨_, _, _, rfl, rfl, st.same _ _ q, by omega, by omega, ?_, fun p n => o _ _ _ _ _ h (st.made n) (.lst upd_same ((reps_flat rr _).mono (same_upd (free_F st n))))⟩
      rw [rr.length]
      have e1 : xs.length * c.toNat ≤ 1000 * 1000 := Nat.mul_le_mul h1 (by omega)
      exact Nat.le_trans e1 (by decide)
  · exact h.elim
theorem pd_mulL (ha : PD X a da) (hb : PD X b db) : PD X (.BinOp a .Mult b pos) (dOp dMulL da db) := pd_op op_rep od_mulL ha hb
end
/-! ### isinstance, own objects too -/
def rIsiK (K : PySem.W.Frag) : RCD := fun ds O k => match ds with
  | [.obj C ns fs, .ty n] => (IsC K C ∧ PySem.W.kitOne K (.ref C) (.type n) = some false) ∧ k (.bl false) O
  | _ => rIsiD ds O k
theorem cd_isiK {K : PySem.W.Frag} : CallD K (rIsi K) (rIsiK K) := by
  intro xs ds F O H k Q st r h o
  unfold rIsiK at h
  split at h
  · obtain ⟨⟨M, kt⟩, h⟩ := h
    cases r with
    | cons r1 r2 => cases r2 with
      | cons r3 r4 =>
        cases r4; cases r3
        cases r1 with
        | obj q _ => exact ⟨_, _, _, _, _, rfl, .ty _, .base (.ins (st.same _ _ q) M.cl M.f M.s M.t M.m), kt, o _ _ _ _ _ h st.go (.bl _)⟩
  · exact cd_isi xs ds F O H k Q st r h o
/-! ### flags counted, sought -/
omit [TabL] [XCx] in
theorem dp_bools {K : PySem.W.Frag} {F H : Hp} (m : Same F H) : ∀ {vs : List V} {bs : List Bool}, Reps K F vs (bs.map D.bl) → DpAll K H vs (bs.map PyData.bool)
  | _, [], .nil => .nil
  | _, b :: bs, .cons r rr => by cases r; exact .cons (.bl b) (dp_bools m rr)
omit [TabL] [XCx] in
theorem bools_shaped (bs : List Bool) : SeqAt.shaped (.list (bs.map PyData.bool)) = true := by
  have h : ∀ bs : List Bool, PyData.canLayAll0 (bs.map PyData.bool) = true ∧ PyData.depthAll (bs.map PyData.bool) = 0 := by
    intro bs
    induction bs with
    | nil => simp [PyData.canLayAll0, PyData.depthAll]
    | cons b bs ih => simp [PyData.canLayAll0, PyData.depthAll, PyData.canLay0, PyData.depth, ih]
  simp [SeqAt.shaped, PyData.canLay0, PyData.depth, h bs]
def rCountD (K : PySem.W.Frag) : V → List V → Hp → VK → Prop := fun x xs H Q => ∃ (a : Addr) (y : V) (d : PyData) (ds : List PyData), x = V.ref a ∧ xs = [y] ∧ Dp K H (V.ref a) (.list ds) ∧ Dp K H y d ∧
  SeqAt.shaped (.list ds) = true ∧ SeqAt.shaped d = true ∧ Q (.int (ds.countP fun z => PyData.eqv z d : Nat)) H
omit [TabL] [XCx] in
theorem mt_countD {X : Cx} (hu : X.A.units + 65 < cLine) : MtR X "list.count" (rCountD X.K) := by
  intro pins s σ H x xs v us Q I rx rxs h
  obtain ⟨a, y, d, ds, rfl, rfl, hl, hy, sl, sd, q⟩ := h
  cases rx
  cases rxs with
  | cons ry rt =>
    rename_i uy ut
    cases rt
    obtain ⟨bs, r1⟩ := Dp.reads I d y uy hy ry
    have hxs : PyData.canLayAll0 ds = true := SeqAt.canLay_of_shaped sl
    have hroom : X.A.units + 1 + min (PyData.depthAll ds) d.depth < cLine := room_in_shaped sd hu
    cases hl with
    | lst hs ha =>
      obtain ⟨its, rv, ⟨⟨cls, dd, data, sls⟩, n, ho, hc, hdn, hdt⟩, hlen⟩ := I.list hs
      simp only at hc hdt
      subst hc hdt
      obtain ⟨as, h4⟩ := Dp.readsAll I ds _ its ha rv
      have hmap : its.map (SeqAt.readOf s.heap) = ds := SeqAt.readsAll_map ds its as hxs h4
      refine call_meets PySem.F.slot_list_count ⟨_, ho, rfl⟩ PySem.F.entry_list_count (PySem.F.args_list_count_2 _ _)
        (SeqAt.list_countAt a its.toArray n dd sls uy (fun u => PyData.eqv (SeqAt.readOf s.heap u) d)) ⟨ho, SeqAt.items_eqAt (vs := its.toArray) (show ReadsAll s.heap its.toArray.toList ds as from h4) r1 hxs (SeqAt.canLay_of_shaped sd) hroom, ?_⟩
      have e : its.toArray.toList.countP (fun u => PyData.eqv (SeqAt.readOf s.heap u) d) = ds.countP fun z => PyData.eqv z d := by
        rw [← hmap, List.countP_map]; rfl
      rw [e]
      exact ⟨.int _, H, I.tok _, ⟨_, rfl⟩, q⟩
/-- xs.count(b), xs.index(b): flags -/
def dMtF (f : List Bool → Bool → Option Nat) (t : DE) (u : DA) : DE := fun e O k => t e O fun d O1 => match d with
  | .lst xs => u e O1 fun ds O2 => match ds with
    | [.bl b] => ∃ (bs : List Bool) (n : Nat), xs = bs.map D.bl ∧ f bs b = some n ∧ k (.int (n : Nat)) O2
    | _ => False
  | _ => False
theorem bool_eqv (a b : Bool) : PyData.eqv (.bool a) (.bool b) = (a == b) := by simp [PyData.eqv]
theorem count_bools (b : Bool) : ∀ bs : List Bool, (bs.map PyData.bool).countP (fun z => PyData.eqv z (.bool b)) = bs.count b
  | [] => rfl
  | a :: bs => by
    rw [List.map_cons, List.countP_cons, List.count_cons, count_bools b bs, bool_eqv]
theorem dp_listB {K : PySem.W.Frag} {F H : Hp} (m : Same F H) {a : Addr} {ys : List V} {bs : List Bool} (q : F a = some (.lst ys)) (r : Reps K F ys (bs.map D.bl)) : Dp K H (V.ref a) (.list (bs.map PyData.bool)) :=
  .lst (.of (m _ _ q)) (dp_bools m r)
theorem b_shaped (b : Bool) : SeqAt.shaped (.bool b) = true := by simp [SeqAt.shaped, PyData.canLay0, PyData.depth]
theorem up_mtF {K : PySem.W.Frag} {t : DE} {u : DA} {f : List Bool → Bool → Option Nat} {r : V → List V → Hp → VK → Prop}
    (hr : ∀ (a : Addr) (bs : List Bool) (b : Bool) (n : Nat) (H : Hp) (Q : VK), Dp K H (V.ref a) (.list (bs.map PyData.bool)) → f bs b = some n → Q (.int (n : Nat)) H → r (.ref a) [.bl b] H Q)
    {σ : L2.St} {H : Hp} {Q : VK} (h : upE K (dMtF f t u) σ H Q) : tBM K "list" r (upE K t) (upA K u) σ H Q := by
  obtain ⟨F, en, O, k, st, er, h, ok⟩ := h
  refine ⟨F, en, O, _, st, er, h, fun d O1 F1 H1 v h1 g1 r1 => ?_⟩
  try dsimp only at h1
  split at h1
  · rename_i xs
    cases r1 with
    | lst q rr =>
      refine ⟨.inl ⟨rfl, _, .of (g1.stt.same _ _ q)⟩, F1, en, O1, _, g1.stt, er.mono g1.same, h1, fun ds O2 F2 H2 vs h2 g2 r2 => ?_⟩
      try dsimp only at h2
      split at h2
      · obtain ⟨bs, n, rfl, hf, h2⟩ := h2
        cases r2 with
        | cons r3 r4 =>
          cases r4
          cases r3
          exact hr _ bs _ n _ _ (dp_listB g2.stt.same (g2.same _ _ q) (rr.mono g2.same)) hf (ok _ _ _ _ _ h2 (g1.trans g2) (.int _))
      · exact h2.elim
  · exact h1.elim
theorem first_at (b : Bool) : ∀ (bs : List Bool) (n : Nat), bs.findIdx? (· == b) = some n → (bs.map PyData.bool)[n]? = some (.bool b) ∧ ∀ (m : Nat) (z' : PyData), m < n → (bs.map PyData.bool)[m]? = some z' → PyData.eqv z' (.bool b) = false := by
  intro bs n h
  rw [List.findIdx?_eq_some_iff_getElem] at h
  obtain ⟨hn, h1, h2⟩ := h
  refine ⟨?_, fun m z' hm hz => ?_⟩
  · rw [List.getElem?_map, List.getElem?_eq_getElem hn]
    have : bs[n] = b := by simpa using h1
    rw [this]; rfl
  · have hm2 : m < bs.length := by omega
    rw [List.getElem?_map, List.getElem?_eq_getElem hm2] at hz
    have e : z' = .bool bs[m] := (Option.some.inj hz).symm
    rw [e, bool_eqv]
    simpa using h2 m hm
section
variable {X : Cx} {o e : Expr} {es : List Expr} {apos cpos : Pos} {t : DE} {u : DA}
theorem pd_countF (hu : X.A.units + 65 < cLine) (ho : PD X o t) (he : PAD X (e :: es) u)
    (hbase : attributeBase o "count" X.env (eval o X.env) = eval o X.env := by rfl)
    (hfew : ((backTo cpos (starEach (e :: es) X.env)).all (fun x => !x.1) && (backToKw cpos (keywordEach [] X.env)).all (fun x => x.1.isSome)
      && decide ((e :: es).length + ([] : List Keyword).length + (if ([] : List Keyword).isEmpty then 0 else 1) < 30)) = true := by rfl)
    (hline : (apos.endLine == cpos.line) = true := by rfl) (hs : starEach (e :: es) X.env = (false, eval e X.env) :: starEach es X.env := by rfl) (hplain : (backTo cpos (starEach es X.env)).any (·.1) = false := by rfl) :
    PD X (.Call (.Attribute o "count" apos) (e :: es) [] cpos) (dMtF (fun bs b => some (bs.count b)) t u) :=
  ⟨PE.weak (pe_bm (T := "list") PySem.F.plainAttrs_list PySem.F.slot_list_count PySem.F.type_list_count (mt_countD hu) ho.pe he.pa hbase hfew hline hs hplain) fun σ H Q h =>
    up_mtF (fun a bs b n H Q hd hf q => by cases hf; exact ⟨a, _, .bool b, _, rfl, rfl, hd, .bl b, bools_shaped bs, b_shaped b, by rw [count_bools]; exact q⟩) h⟩
theorem pd_indexF (hu : X.A.units + 65 < cLine) (ho : PD X o t) (he : PAD X (e :: es) u)
    (hbase : attributeBase o "index" X.env (eval o X.env) = eval o X.env := by rfl)
    (hfew : ((backTo cpos (starEach (e :: es) X.env)).all (fun x => !x.1) && (backToKw cpos (keywordEach [] X.env)).all (fun x => x.1.isSome)
      && decide ((e :: es).length + ([] : List Keyword).length + (if ([] : List Keyword).isEmpty then 0 else 1) < 30)) = true := by rfl)
    (hline : (apos.endLine == cpos.line) = true := by rfl) (hs : starEach (e :: es) X.env = (false, eval e X.env) :: starEach es X.env := by rfl) (hplain : (backTo cpos (starEach es X.env)).any (·.1) = false := by rfl) :
    PD X (.Call (.Attribute o "index" apos) (e :: es) [] cpos) (dMtF (fun bs b => bs.findIdx? (· == b)) t u) :=
  ⟨PE.weak (pe_bm (T := "list") PySem.F.plainAttrs_list PySem.F.slot_list_index PySem.F.type_list_index (mt_indexD hu) ho.pe he.pa hbase hfew hline hs hplain) fun σ H Q h =>
    up_mtF (fun a bs b n H Q hd hf q => by
      obtain ⟨f1, f2⟩ := first_at b bs n hf
      exact ⟨a, _, .bool b, _, n, _, rfl, rfl, hd, .bl b, bools_shaped bs, b_shaped b, f1, by rw [bool_eqv]; simp, f2, q⟩) h⟩
end
end
end SC
namespace SC
open PySem PySem.Spec PyProof.Rows L2
theorem pd_gint [TabL] [XCx] {X : Cx} {x : Str} {pos : Pos} {i : Int} (hg : Gl X x) (hm : ∃ t, X.mg x = some (.int i t)) (hd : (x == ("__debug__" : Str)) = false := by decide) : PD X (.Name x pos) (dC (.int i)) := by
  obtain ⟨t, hm⟩ := hm
  exact pd_c (pe_glob (v := .int i) hg hm ⟨t, rfl⟩ hd) fun _ => .int i
theorem hu65 {A : Around} {k : Nat} (hr : Room k A) : A.units + 65 < cLine := by have := hr.un; omega
end SC
namespace Lk19
open PySem PySem.Spec PyProof.Rows L2 SC
/-! ### data -/
abbrev Box := List (Int × Int)
abbrev Area := List Box
abbrev Row := List Int
def pairD (q : Int × Int) : D := .tup [.int q.1, .int q.2]
def boxD (b : Box) : D := .tup (b.map pairD)
def areaD (a : Area) : D := .tup (a.map boxD)
def rowD (p : Row) : D := .tup (p.map .int)
inductive W where
  | never (a : Area) | within (a : Area) (k : Int) | answered (a b : Area) (k : Int) | ahead (a b : Area) | again (a : Area) (k : Int)
def W.d : W → D
  | .never a => .tup [.str "never", areaD a]
  | .within a k => .tup [.str "within", areaD a, .int k]
  | .answered a b k => .tup [.str "answered", areaD a, areaD b, .int k]
  | .ahead a b => .tup [.str "ahead", areaD a, areaD b]
  | .again a k => .tup [.str "again", areaD a, .int k]
theorem d1 {a : Area} : (W.never a).d = .tup [.str "never", areaD a] := rfl
theorem d2 {a : Area} {k : Int} : (W.within a k).d = .tup [.str "within", areaD a, .int k] := rfl
theorem d3 {a b : Area} {k : Int} : (W.answered a b k).d = .tup [.str "answered", areaD a, areaD b, .int k] := rfl
theorem d4 {a b : Area} : (W.ahead a b).d = .tup [.str "ahead", areaD a, areaD b] := rfl
theorem d5 {a : Area} {k : Int} : (W.again a k).d = .tup [.str "again", areaD a, .int k] := rfl
def W.a : W → Area
  | .never a => a | .within a _ => a | .answered a _ _ => a | .ahead a _ => a | .again a _ => a
def W.b : W → Area
  | .answered _ b _ => b | .ahead _ b => b | _ => []
/-- wishes of ax axes, of spans within B -/
def okS (B : Int) (q : Int × Int) : Prop := -B ≤ q.1 ∧ q.1 ≤ q.2 ∧ q.2 ≤ B
def okB (B ax : Int) (b : Box) : Prop := (b.length : Int) = ax ∧ ∀ q ∈ b, okS B q
def okA (B ax : Int) (a : Area) : Prop := a.length ≤ 6 ∧ ∀ b ∈ a, okB B ax b
def okK (k : Int) : Prop := 1 ≤ k ∧ k ≤ 30
def W.ok (B ax : Int) : W → Prop
  | .never a => okA B ax a
  | .within a k => okA B ax a ∧ okK k
  | .answered a b k => okA B ax a ∧ okA B ax b ∧ okK k
  | .ahead a b => okA B ax a ∧ okA B ax b
  | .again a k => okA B ax a ∧ okK k
/-- axes and bounds that are looked at -/
def okN (B ax : Int) : Prop := 0 ≤ B ∧ B ≤ 1000 ∧ 1 ≤ ax ∧ ax ≤ 3
/-! ### things of which only the kind is asked -/
mutual
def pl : D → Bool
  | .tup xs => plL xs
  | .lst xs => plL xs
  | .non => true | .bl _ => true | .int _ => true | .str _ => true | .dct => true
  | .ty _ => false | .own _ => false | .fz _ => false | .obj _ _ _ => false
def plL : List D → Bool
  | [] => true
  | d :: ds => pl d && plL ds
end
theorem plL_mem : ∀ {ds : List D}, plL ds = true → ∀ d ∈ ds, pl d = true
  | d :: ds, h, x, hx => by
    simp only [plL, Bool.and_eq_true] at h
    rcases List.mem_cons.mp hx with rfl | hx
    · exact h.1
    · exact plL_mem h.2 x hx
theorem plL_of : ∀ {ds : List D}, (∀ d ∈ ds, pl d = true) → plL ds = true
  | [], _ => by simp [plL]
  | d :: ds, h => by
    simp only [plL, Bool.and_eq_true]
    exact ⟨h d (by simp), plL_of fun x hx => h x (by simp [hx])⟩
theorem pl_tyD {d : D} (h : pl d = true) : ∃ t, tyD d = some t := by
  cases d <;> first | exact ⟨_, rfl⟩ | simp [pl] at h
def items : D → List D
  | .tup xs => xs
  | _ => []
def betw (l m : Int) : D → Bool
  | .int i => decide (l ≤ i) && decide (i ≤ m)
  | _ => false
def tupB (l m : Int) : D → Bool
  | .tup xs => decide (l ≤ (xs.length : Int)) && decide ((xs.length : Int) ≤ m)
  | _ => false
def spanB (l m : Int) : D → Bool
  | .tup [.int i, d] => (decide (l ≤ i) && decide (i ≤ m)) && betw i m d
  | _ => false
def spansB (f n l m : Int) (d : D) : Bool := tupB f n d && (items d).all (spanB l m)
def boxB (ax : Int) (d : D) : Bool := spansB ax ax (-1000) 1000 d
def areaB (ax : Int) (d : D) : Bool := tupB 0 6 d && (items d).all (boxB ax)
noncomputable def oneB (ws : List Str) : D → Bool
  | .str x => (ws.map D.str).any fun y => eqF y (.str x)
  | _ => false
def wds : List Str := ["never", "within", "answered", "ahead", "again"]
def wdsO : List Str := ["answered", "ahead"]
def wdsK : List Str := ["within", "answered", "again"]
noncomputable def tailB (ax : Int) (x : D) (r : List D) : Bool :=
  bif oneB wds x then
    bif oneB wdsK x then (bif oneB wdsO x then (match r with
        | [a, b, k] => betw 1 30 k && (areaB ax a && areaB ax b)
        | _ => false)
      else match r with
        | [a, k] => betw 1 30 k && areaB ax a
        | _ => false)
    else (bif oneB wdsO x then (match r with
        | [a, b] => areaB ax a && areaB ax b
        | _ => false)
      else match r with
        | [a] => areaB ax a
        | _ => false)
  else false
noncomputable def wishB (ax : Int) : D → Bool
  | .tup (x :: r) => tailB ax x r
  | _ => false
noncomputable def wishI (d : D) : Bool := wishB 1 d || (wishB 2 d || wishB 3 d)
/-! ### what the program's defs tell of wishes -/
def bw (x y : Box) : Bool := decide (x.length = y.length) && (x.zip y).all fun p => decide (p.2.1 ≤ p.1.1) && decide (p.1.2 ≤ p.2.2)
def lw (a b : Area) : Bool := a.all fun x => b.any fun y => bw x y
def hard : W → W → Bool
  | .never a, .never b => lw b a
  | .within a k, .within b l => decide (k ≤ l) && lw a b
  | .answered a c k, .answered b d l => decide (k ≤ l) && (lw b a && lw c d)
  | .ahead a c, .ahead b d => lw a b && lw d c
  | .again a k, .again b l => decide (k ≤ l) && lw a b
  | _, _ => false
/-! ### what the law's own look tells -/
def inBox (b : Box) (p : Row) : Bool := (p.zip b).all fun q => decide (q.2.1 ≤ q.1) && decide (q.1 ≤ q.2.2)
def inArea (a : Area) (p : Row) : Bool := a.any fun b => inBox b p
def anyF (h : Nat → Bool) (j n : Nat) : Bool := (List.range (n + 1)).any fun i => decide (j ≤ i) && h i
def brkF (w : W) (h t : Nat → Bool) (n : Nat) : Bool := match w with
  | .never _ => h n
  | .within _ k => decide ((n : Int) = k) && !anyF h 0 n
  | .answered _ _ k => decide (k ≤ (n : Int)) && (h (n - k.toNat) && !anyF t (n - k.toNat) n)
  | .ahead _ _ => t n && !anyF h 0 n
  | .again _ k => decide (k ≤ (n : Int)) && !anyF h (n - k.toNat) n
def hA (a : Area) (ps : List Row) (i : Nat) : Bool := inArea a (ps.getD i [])
def brk (w : W) (ps : List Row) (n : Nat) : Bool := brkF w (hA w.a ps) (hA w.b ps) n
def brks (w : W) (ps : List Row) : Bool := (List.range ps.length).any (brk w ps)
def okR (ax : Int) (p : Row) : Prop := (p.length : Int) = ax
def okP (ax : Int) (ps : List Row) : Prop := ps ≠ [] ∧ ps.length ≤ 1000 ∧ ∀ r ∈ ps, okR ax r
/-! ### constants -/
def c_WORDS : D := .tup (wds.map D.str)
def c_WITH_OTHER : D := .tup (wdsO.map D.str)
def c_WITH_K : D := .tup (wdsK.map D.str)
/-! ### promises -/
variable [TabL] [XCx]
def sp_is_integer : DSp := fun ds O k => ∃ d, ds = [d] ∧ pl d = true ∧ k (.bl (match d with | .int _ => true | _ => false)) O
theorem ln_is_integer : ∀ ds O k, sp_is_integer ds O k → ds.length = 1 := by rintro ds O k ⟨d, rfl, _⟩; rfl
def sp_is_between : DSp := fun ds O k => ∃ l m d, ds = [.int l, .int m, d] ∧ pl d = true ∧ k (.bl (betw l m d)) O
theorem ln_is_between : ∀ ds O k, sp_is_between ds O k → ds.length = 3 := by rintro ds O k ⟨l, m, d, rfl, _⟩; rfl
def sp_is_tuple : DSp := fun ds O k => ∃ l m d, ds = [.int l, .int m, d] ∧ pl d = true ∧ k (.bl (tupB l m d)) O
theorem ln_is_tuple : ∀ ds O k, sp_is_tuple ds O k → ds.length = 3 := by rintro ds O k ⟨l, m, d, rfl, _⟩; rfl
def sp_is_pair : DSp := fun ds O k => ∃ d, ds = [d] ∧ pl d = true ∧ k (.bl (tupB 2 2 d)) O
theorem ln_is_pair : ∀ ds O k, sp_is_pair ds O k → ds.length = 1 := by rintro ds O k ⟨d, rfl, _⟩; rfl
def sp_is_one_of : DSp := fun ds O k => ∃ (ws : List Str) (d : D), ds = [.tup (ws.map D.str), d] ∧ pl d = true ∧ k (.bl (oneB ws d)) O
theorem ln_is_one_of : ∀ ds O k, sp_is_one_of ds O k → ds.length = 2 := by rintro ds O k ⟨l, d, rfl, _⟩; rfl
def sp_is_span : DSp := fun ds O k => ∃ l m d, ds = [.int l, .int m, d] ∧ pl d = true ∧ k (.bl (spanB l m d)) O
theorem ln_is_span : ∀ ds O k, sp_is_span ds O k → ds.length = 3 := by rintro ds O k ⟨l, m, d, rfl, _⟩; rfl
def sp_are_spans : DSp := fun ds O k => ∃ f n l m d, ds = [.int f, .int n, .int l, .int m, d] ∧ n ≤ 1000 ∧ pl d = true ∧ k (.bl (spansB f n l m d)) O
theorem ln_are_spans : ∀ ds O k, sp_are_spans ds O k → ds.length = 5 := by rintro ds O k ⟨f, n, l, m, d, rfl, _⟩; rfl
def sp_is_box : DSp := fun ds O k => ∃ ax d, ds = [.int ax, d] ∧ ax ≤ 1000 ∧ pl d = true ∧ k (.bl (boxB ax d)) O
theorem ln_is_box : ∀ ds O k, sp_is_box ds O k → ds.length = 2 := by rintro ds O k ⟨l, d, rfl, _⟩; rfl
def sp_is_area : DSp := fun ds O k => ∃ ax d, ds = [.int ax, d] ∧ ax ≤ 1000 ∧ pl d = true ∧ k (.bl (areaB ax d)) O
theorem ln_is_area : ∀ ds O k, sp_is_area ds O k → ds.length = 2 := by rintro ds O k ⟨l, d, rfl, _⟩; rfl
def sp_is_wish : DSp := fun ds O k => ∃ ax d, ds = [.int ax, d] ∧ ax ≤ 1000 ∧ pl d = true ∧ k (.bl (wishB ax d)) O
theorem ln_is_wish : ∀ ds O k, sp_is_wish ds O k → ds.length = 2 := by rintro ds O k ⟨l, d, rfl, _⟩; rfl
def sp_is_wish_itself : DSp := fun ds O k => ∃ d, ds = [d] ∧ pl d = true ∧ k (.bl (wishI d)) O
theorem ln_is_wish_itself : ∀ ds O k, sp_is_wish_itself ds O k → ds.length = 1 := by rintro ds O k ⟨d, rfl, _⟩; rfl
def sp_box_lies_within : DSp := fun ds O k => ∃ x y : Box, ds = [boxD x, boxD y] ∧ x.length ≤ 1000 ∧ y.length ≤ 1000 ∧ k (.bl (bw x y)) O
theorem ln_box_lies_within : ∀ ds O k, sp_box_lies_within ds O k → ds.length = 2 := by rintro ds O k ⟨l, d, rfl, _⟩; rfl
def sp_lies_within : DSp := fun ds O k => ∃ (B ax ax' : Int) (x y : Area), ds = [areaD x, areaD y] ∧ okN B ax ∧ okN B ax' ∧ okA B ax x ∧ okA B ax' y ∧ k (.bl (lw x y)) O
theorem ln_lies_within : ∀ ds O k, sp_lies_within ds O k → ds.length = 2 := by rintro ds O k ⟨B, l, d, x, y, rfl, _⟩; rfl
/-- of wishes -/
def sp_harder : DSp := fun ds O k => ∃ (B ax ax' : Int) (v w : W), ds = [v.d, w.d] ∧ okN B ax ∧ okN B ax' ∧ v.ok B ax ∧ w.ok B ax' ∧ k (.bl (hard v w)) O
theorem ln_harder : ∀ ds O k, sp_harder ds O k → ds.length = 2 := by rintro ds O k ⟨B, l, d, x, y, rfl, _⟩; rfl
/-- of things one of which is none: cN is raised -/
def spx_harder (cN : Addr) : DSpX := fun ds O _ kx => ∃ x y, ds = [x, y] ∧ pl x = true ∧ pl y = true ∧ (wishI x && wishI y) = false ∧ kx cN O
theorem lnx_harder (cN : Addr) : ∀ ds O k kx, spx_harder cN ds O k kx → ds.length = 2 := by rintro ds O k kx ⟨x, y, rfl, _⟩; rfl
/-! ### .. of the law's own defs -/
def sp__law_hand : DSp := spHand
theorem ln__law_hand : ∀ ds O k, sp__law_hand ds O k → ds.length = 1 := ln_spHand
def sp__law_draw : DSp := spDraw
theorem ln__law_draw : ∀ ds O k, sp__law_draw ds O k → ds.length = 2 := ln_spDraw
/-- things: a list, or one that may still be changed -/
def sp__law_some : DSp := fun ds O k => ∃ p h x xs, ds = [.own p, x] ∧ O p = some h ∧ HandOk h ∧ (x = .lst xs ∨ ∃ q, x = .own q ∧ q ≠ p ∧ O q = some xs) ∧ xs ≠ [] ∧ xs.length ≤ 1000 ∧ ∀ x ∈ xs, ∀ h', HandOk h' → k x (oset O p h')
theorem ln__law_some : ∀ ds O k, sp__law_some ds O k → ds.length = 2 := by rintro ds O k ⟨p, h, x, xs, rfl, _⟩; rfl
def sp__law_deep : DSp := fun ds O k => ∃ p h d, ds = [.own p, d] ∧ O p = some h ∧ HandOk h ∧ pl d = true ∧ ∀ d' h', pl d' = true → wishI d' = false → HandOk h' → k d' (oset O p h')
theorem ln__law_deep : ∀ ds O k, sp__law_deep ds O k → ds.length = 2 := by rintro ds O k ⟨p, h, d, rfl, _⟩; rfl
def sp__law_in : DSp := fun ds O k => ∃ (B ax : Int) (a : Area) (p : Row), ds = [areaD a, rowD p] ∧ okN B ax ∧ okA B ax a ∧ okR ax p ∧ k (.bl (inArea a p)) O
theorem ln__law_in : ∀ ds O k, sp__law_in ds O k → ds.length = 2 := by rintro ds O k ⟨B, ax, b, p, rfl, _⟩; rfl
def sp__law_breaks : DSp := fun ds O k => ∃ (B ax : Int) (w : W) (ps : List Row) (n : Nat), ds = [w.d, .lst (ps.map rowD), .int (n : Nat)] ∧ okN B ax ∧ w.ok B ax ∧ okP ax ps ∧ n < ps.length ∧ k (.bl (brk w ps n)) O
theorem ln__law_breaks : ∀ ds O k, sp__law_breaks ds O k → ds.length = 3 := by rintro ds O k ⟨B, ax, p, h, m, rfl, _⟩; rfl
def spGen (P : Int → D → Prop) : DSp := fun ds O k => ∃ p h ax, ds = [.own p, .int ax] ∧ O p = some h ∧ HandOk h ∧ 1 ≤ ax ∧ ax ≤ 3 ∧ ∀ d h', P ax d → HandOk h' → k d (oset O p h')
theorem ln_spGen {P : Int → D → Prop} : ∀ ds O k, spGen P ds O k → ds.length = 2 := by rintro ds O k ⟨p, h, ax, rfl, _⟩; rfl
def sp__law_box : DSp := spGen fun ax d => ∃ b, d = boxD b ∧ okB 6 ax b
theorem ln__law_box : ∀ ds O k, sp__law_box ds O k → ds.length = 2 := ln_spGen
def sp__law_area : DSp := spGen fun ax d => ∃ a, d = areaD a ∧ okA 6 ax a
theorem ln__law_area : ∀ ds O k, sp__law_area ds O k → ds.length = 2 := ln_spGen
def sp__law_wish : DSp := spGen fun ax d => ∃ w : W, d = w.d ∧ w.ok 6 ax
theorem ln__law_wish : ∀ ds O k, sp__law_wish ds O k → ds.length = 2 := ln_spGen
def sp__law_places : DSp := fun ds O k => ∃ p h ax m, ds = [.own p, .int ax, .int m] ∧ O p = some h ∧ HandOk h ∧ 1 ≤ ax ∧ ax ≤ 3 ∧ 0 ≤ m ∧ m ≤ 100 ∧ ∀ ps h', okP ax ps → HandOk h' → k (.lst (ps.map rowD)) (oset O p h')
theorem ln__law_places : ∀ ds O k, sp__law_places ds O k → ds.length = 3 := by rintro ds O k ⟨p, h, m, n, rfl, _⟩; rfl
def sp__law_lies : DSp := fun ds O k => ∃ (B ax : Int) (x y : Area), ds = [areaD x, areaD y] ∧ okN B ax ∧ okA B ax x ∧ okA B ax y ∧ k (.bl (lw x y)) O
theorem ln__law_lies : ∀ ds O k, sp__law_lies ds O k → ds.length = 2 := by rintro ds O k ⟨B, l, d, x, rfl, _⟩; rfl
def sp__law_is_harder : DSp := fun ds O k => ∃ (B ax : Int) (v w : W), ds = [v.d, w.d] ∧ okN B ax ∧ v.ok B ax ∧ w.ok B ax ∧ k (.bl (hard v w)) O
theorem ln__law_is_harder : ∀ ds O k, sp__law_is_harder ds O k → ds.length = 2 := by rintro ds O k ⟨B, l, d, x, rfl, _⟩; rfl
def sp__law_other_area : DSp := fun ds O k => ∃ p h B ax a, ds = [.own p, areaD a, .int ax] ∧ O p = some h ∧ HandOk h ∧ okN B ax ∧ 6 ≤ B ∧ okA B ax a ∧ ∀ a' h', okA (B + 1) ax a' → HandOk h' → k (areaD a') (oset O p h')
theorem ln__law_other_area : ∀ ds O k, sp__law_other_area ds O k → ds.length = 3 := by rintro ds O k ⟨p, h, B, ax, a, rfl, _⟩; rfl
def sp__law_near : DSp := fun ds O k => ∃ p h B ax, ∃ w : W, ds = [.own p, w.d, .int ax] ∧ O p = some h ∧ HandOk h ∧ okN B ax ∧ 6 ≤ B ∧ w.ok B ax ∧ ∀ (w' : W) h', w'.ok (B + 1) ax → HandOk h' → k w'.d (oset O p h')
theorem ln__law_near : ∀ ds O k, sp__law_near ds O k → ds.length = 3 := by rintro ds O k ⟨p, h, B, ax, a, rfl, _⟩; rfl
/-- the lambda handed in raises cN -/
def spl__law_word (cN : Addr) : DLm := fun rl O k => (∀ kx k', kx cN O → rl kx O k') ∧ k (.str "wish") O
def sp__law_none : DSp := fun ds O k => ∃ p h B ax, ∃ w : W, ds = [.own p, w.d] ∧ O p = some h ∧ HandOk h ∧ okN B ax ∧ w.ok B ax ∧ ∀ d h', pl d = true → wishI d = false → HandOk h' → k d (oset O p h')
theorem ln__law_none : ∀ ds O k, sp__law_none ds O k → ds.length = 2 := by rintro ds O k ⟨p, h, B, ax, a, rfl, _⟩; rfl
def sp_law : DSp := spLaw
theorem ln_law : ∀ ds O k, sp_law ds O k → ds.length = 1 := by rintro ds O k ⟨ns, rfl, _⟩; rfl
end Lk19
/-! k19: a harder wish is broken wherever the other one is. -/
namespace Lk19
open PySem PySem.Spec PyProof.Rows L2 SC
theorem bw_in : ∀ (x y : Box) (p : Row), bw x y = true → inBox x p = true → inBox y p = true := by
  intro x y p h
  unfold bw at h
  simp only [Bool.and_eq_true, decide_eq_true_eq] at h
  obtain ⟨hl, h⟩ := h
  induction x generalizing y p with
  | nil =>
    cases y with
    | nil => exact fun h => h
    | cons b y => simp at hl
  | cons a x ih =>
    cases y with
    | nil => simp at hl
    | cons b y =>
      cases p with
      | nil => intro _; rfl
      | cons q p =>
        simp only [List.zip_cons_cons, List.all_cons, Bool.and_eq_true, decide_eq_true_eq] at h
        intro hx
        unfold inBox at hx ⊢
        simp only [List.zip_cons_cons, List.all_cons, Bool.and_eq_true, decide_eq_true_eq] at hx ⊢
        exact ⟨⟨by omega, by omega⟩, ih y p (by simpa using hl) h.2 hx.2⟩
theorem lw_in {a b : Area} (h : lw a b = true) (p : Row) (hp : inArea a p = true) : inArea b p = true := by
  unfold lw at h
  unfold inArea at hp ⊢
  rw [List.all_eq_true] at h
  rw [List.any_eq_true] at hp ⊢
  obtain ⟨x, hx, h1⟩ := hp
  have z := h x hx
  rw [List.any_eq_true] at z
  obtain ⟨y, hy, h2⟩ := z
  exact ⟨y, hy, bw_in x y p h2 h1⟩
theorem lw_hA {a b : Area} (h : lw a b = true) (ps : List Row) (i : Nat) (hp : hA a ps i = true) : hA b ps i = true := lw_in h _ hp
theorem anyF_iff {h : Nat → Bool} {j n : Nat} : anyF h j n = true ↔ ∃ i, j ≤ i ∧ i ≤ n ∧ h i = true := by
  unfold anyF
  rw [List.any_eq_true]
  constructor
  · rintro ⟨i, hi, q⟩
    rw [List.mem_range] at hi
    simp only [Bool.and_eq_true, decide_eq_true_eq] at q
    exact ⟨i, q.1, by omega, q.2⟩
  · rintro ⟨i, h1, h2, h3⟩
    exact ⟨i, List.mem_range.mpr (by omega), by simp [h1, h3]⟩
theorem anyF_no {h t : Nat → Bool} {j n j' n' : Nat} (hn : anyF h j n = false) (s : ∀ i, t i = true → h i = true) (h1 : j ≤ j') (h2 : n' ≤ n) : anyF t j' n' = false := by
  cases e : anyF t j' n' with
  | false => rfl
  | true =>
    obtain ⟨i, a, b, c⟩ := anyF_iff.mp e
    rw [anyF_iff.mpr ⟨i, by omega, by omega, s i c⟩] at hn
    cases hn
theorem hard_brk {v w : W} {ps : List Row} (h : hard v w = true) (B ax B' ax' : Int) (hv : v.ok B ax) (hw : w.ok B' ax') {n : Nat} (hn : n < ps.length) (hb : brk w ps n = true) : ∃ m, m < ps.length ∧ brk v ps m = true := by
  unfold brk at hb ⊢
  cases v <;> cases w <;> first | (simp [hard] at h; done) | skip
  · rename_i a b
    exact ⟨n, hn, lw_hA h ps n hb⟩
  · rename_i a k b l
    simp only [hard, Bool.and_eq_true, decide_eq_true_eq] at h
    simp only [brkF, W.a, Bool.and_eq_true, decide_eq_true_eq, Bool.not_eq_true'] at hb ⊢
    obtain ⟨_, k1, k2⟩ := hv
    exact ⟨k.toNat, by omega, by omega, anyF_no hb.2 (fun i => lw_hA h.2 ps i) (Nat.le_refl _) (by omega)⟩
  · rename_i a c k b d l
    simp only [hard, Bool.and_eq_true, decide_eq_true_eq] at h
    simp only [brkF, W.a, W.b, Bool.and_eq_true, decide_eq_true_eq, Bool.not_eq_true'] at hb ⊢
    obtain ⟨_, _, k1, k2⟩ := hv
    obtain ⟨_, _, l1, l2⟩ := hw
    refine ⟨n - l.toNat + k.toNat, by omega, by omega, ?_, ?_⟩
    · rw [show n - l.toNat + k.toNat - k.toNat = n - l.toNat by omega]
      exact lw_hA h.2.1 ps _ hb.2.1
    · rw [show n - l.toNat + k.toNat - k.toNat = n - l.toNat by omega]
      exact anyF_no hb.2.2 (fun i => lw_hA h.2.2 ps i) (Nat.le_refl _) (by omega)
  · rename_i a c b d
    simp only [hard, Bool.and_eq_true] at h
    simp only [brkF, W.a, W.b, Bool.and_eq_true, Bool.not_eq_true'] at hb ⊢
    exact ⟨n, hn, lw_hA h.2 ps n hb.1, anyF_no hb.2 (fun i => lw_hA h.1 ps i) (Nat.le_refl _) (Nat.le_refl _)⟩
  · rename_i a k b l
    simp only [hard, Bool.and_eq_true, decide_eq_true_eq] at h
    simp only [brkF, W.a, Bool.and_eq_true, decide_eq_true_eq, Bool.not_eq_true'] at hb ⊢
    obtain ⟨_, k1, k2⟩ := hv
    obtain ⟨_, l1, l2⟩ := hw
    refine ⟨n - l.toNat + k.toNat, by omega, by omega, ?_⟩
    rw [show n - l.toNat + k.toNat - k.toNat = n - l.toNat by omega]
    exact anyF_no hb.2 (fun i => lw_hA h.2 ps i) (Nat.le_refl _) (by omega)
/-- THE FACT: told harder, broken where the other one is -/
theorem hard_brks {v w : W} {ps : List Row} (h : hard v w = true) (B ax B' ax' : Int) (hv : v.ok B ax) (hw : w.ok B' ax') (hb : brks w ps = true) : brks v ps = true := by
  unfold brks at hb ⊢
  rw [List.any_eq_true] at hb ⊢
  obtain ⟨n, hn, q⟩ := hb
  obtain ⟨m, hm, z⟩ := hard_brk h B ax B' ax' hv hw (List.mem_range.mp hn) q
  exact ⟨m, List.mem_range.mpr hm, z⟩
end Lk19
/-! k19: which things are wishes. -/
namespace Lk19
open PySem PySem.Spec PyProof.Rows L2 SC
theorem one_eq (ws : List Str) (x : Str) : oneB ws (.str x) = ws.any fun y => decide (y = x) := by
  show ((ws.map D.str).any fun y => eqF y (.str x)) = _
  rw [List.any_map]
  congr 1
  funext y
  show strEq y x = _
  exact strEq_eq y x
theorem o1 : oneB wds (.str "never") = true ∧ oneB wds (.str "within") = true ∧ oneB wds (.str "answered") = true ∧ oneB wds (.str "ahead") = true ∧ oneB wds (.str "again") = true ∧ oneB wds (.str "Never") = false := by
  simp only [one_eq]; decide +kernel
theorem o2 : oneB wdsK (.str "never") = false ∧ oneB wdsK (.str "within") = true ∧ oneB wdsK (.str "answered") = true ∧ oneB wdsK (.str "ahead") = false ∧ oneB wdsK (.str "again") = true := by
  simp only [one_eq]; decide +kernel
theorem o3 : oneB wdsO (.str "never") = false ∧ oneB wdsO (.str "within") = false ∧ oneB wdsO (.str "answered") = true ∧ oneB wdsO (.str "ahead") = true ∧ oneB wdsO (.str "again") = false := by
  simp only [one_eq]; decide +kernel
theorem t_never (ax : Int) (r : List D) : tailB ax (.str "never") r = match r with | [a] => areaB ax a | _ => false := by
  unfold tailB; rw [o1.1, o2.1, o3.1]; rfl
theorem t_within (ax : Int) (r : List D) : tailB ax (.str "within") r = match r with | [a, k] => betw 1 30 k && areaB ax a | _ => false := by
  unfold tailB; rw [o1.2.1, o2.2.1, o3.2.1]; rfl
theorem t_answered (ax : Int) (r : List D) : tailB ax (.str "answered") r = match r with | [a, b, k] => betw 1 30 k && (areaB ax a && areaB ax b) | _ => false := by
  unfold tailB; rw [o1.2.2.1, o2.2.2.1, o3.2.2.1]; rfl
theorem t_ahead (ax : Int) (r : List D) : tailB ax (.str "ahead") r = match r with | [a, b] => areaB ax a && areaB ax b | _ => false := by
  unfold tailB; rw [o1.2.2.2.1, o2.2.2.2.1, o3.2.2.2.1]; rfl
theorem t_again (ax : Int) (r : List D) : tailB ax (.str "again") r = match r with | [a, k] => betw 1 30 k && areaB ax a | _ => false := by
  unfold tailB; rw [o1.2.2.2.2.1, o2.2.2.2.2, o3.2.2.2.2]; rfl
theorem t_other {ax : Int} {x : D} {r : List D} (h : oneB wds x = false) : tailB ax x r = false := by
  unfold tailB; rw [h]; rfl
theorem spanB_ok {B : Int} {q : Int × Int} (hB : B ≤ 1000) (h : okS B q) : spanB (-1000) 1000 (pairD q) = true := by
  obtain ⟨h1, h2, h3⟩ := h
  simp only [pairD, spanB, betw, Bool.and_eq_true, decide_eq_true_eq]
  omega
theorem boxB_ok {B ax : Int} {b : Box} (hB : B ≤ 1000) (h : okB B ax b) : boxB ax (boxD b) = true := by
  obtain ⟨h1, h2⟩ := h
  simp only [boxB, spansB, boxD, tupB, items, List.length_map, Bool.and_eq_true, decide_eq_true_eq, List.all_eq_true, List.mem_map]
  exact ⟨⟨by omega, by omega⟩, by rintro _ ⟨q, hq, rfl⟩; exact spanB_ok hB (h2 q hq)⟩
theorem areaB_ok {B ax : Int} {a : Area} (hB : B ≤ 1000) (h : okA B ax a) : areaB ax (areaD a) = true := by
  obtain ⟨h1, h2⟩ := h
  simp only [areaB, areaD, tupB, items, List.length_map, Bool.and_eq_true, decide_eq_true_eq, List.all_eq_true, List.mem_map]
  exact ⟨⟨by omega, by omega⟩, by rintro _ ⟨q, hq, rfl⟩; exact boxB_ok hB (h2 q hq)⟩
theorem betw_ok {k : Int} (h : okK k) : betw 1 30 (.int k) = true := by
  simp only [betw, Bool.and_eq_true, decide_eq_true_eq]; exact h
theorem wishB_ok {B ax : Int} {w : W} (hB : B ≤ 1000) (h : w.ok B ax) : wishB ax w.d = true := by
  cases w with
  | never a => show tailB ax (.str "never") [areaD a] = true; rw [t_never]; exact areaB_ok hB h
  | within a k => show tailB ax (.str "within") [areaD a, .int k] = true; rw [t_within]; show (betw 1 30 (.int k) && areaB ax (areaD a)) = true; rw [betw_ok h.2, areaB_ok hB h.1]; rfl
  | answered a b k => show tailB ax (.str "answered") [areaD a, areaD b, .int k] = true; rw [t_answered]; show (betw 1 30 (.int k) && (areaB ax (areaD a) && areaB ax (areaD b))) = true; rw [betw_ok h.2.2, areaB_ok hB h.1, areaB_ok hB h.2.1]; rfl
  | ahead a b => show tailB ax (.str "ahead") [areaD a, areaD b] = true; rw [t_ahead]; show (areaB ax (areaD a) && areaB ax (areaD b)) = true; rw [areaB_ok hB h.1, areaB_ok hB h.2]; rfl
  | again a k => show tailB ax (.str "again") [areaD a, .int k] = true; rw [t_again]; show (betw 1 30 (.int k) && areaB ax (areaD a)) = true; rw [betw_ok h.2, areaB_ok hB h.1]; rfl
theorem wishI_ok {B ax : Int} {w : W} (hN : okN B ax) (h : w.ok B ax) : wishI w.d = true := by
  obtain ⟨_, h1, h2, h3⟩ := hN
  have z := wishB_ok h1 h
  have : ax = 1 ∨ ax = 2 ∨ ax = 3 := by omega
  unfold wishI
  rcases this with rfl | rfl | rfl <;> rw [z] <;> simp
theorem wishI_no {d : D} (h : ∀ ax, (ax = 1 ∨ ax = 2 ∨ ax = 3) → wishB ax d = false) : wishI d = false := by
  unfold wishI
  rw [h 1 (.inl rfl), h 2 (.inr (.inl rfl)), h 3 (.inr (.inr rfl))]; rfl
/-! ### of which only the kind is asked -/
theorem pl_pair (q : Int × Int) : pl (pairD q) = true := by simp [pairD, pl, plL]
theorem pl_box (b : Box) : pl (boxD b) = true := by
  simp only [boxD, pl]; exact plL_of fun d hd => by obtain ⟨q, _, rfl⟩ := List.mem_map.mp hd; exact pl_pair q
theorem pl_area (a : Area) : pl (areaD a) = true := by
  simp only [areaD, pl]; exact plL_of fun d hd => by obtain ⟨q, _, rfl⟩ := List.mem_map.mp hd; exact pl_box q
theorem pl_W (w : W) : pl w.d = true := by cases w <;> simp [W.d, pl, plL, pl_area]
theorem plL_append : ∀ {xs ys : List D}, plL xs = true → plL ys = true → plL (xs ++ ys) = true
  | [], _, _, h => h
  | x :: xs, ys, h, h2 => by
    simp only [plL, List.cons_append, Bool.and_eq_true] at h ⊢
    exact ⟨h.1, plL_append h.2 h2⟩
/-! ### things that are none -/
theorem nw_atom {d : D} (h : ∀ xs, d ≠ .tup xs) : wishI d = false := wishI_no fun ax _ => by
  cases d <;> first | rfl | exact absurd rfl (h _)
theorem nw_head {x : D} {r : List D} (h : oneB wds x = false) : wishI (.tup (x :: r)) = false := wishI_no fun ax _ => t_other h
theorem nw_nil : wishI (.tup []) = false := wishI_no fun ax _ => rfl
theorem one_no {ws : List Str} {d : D} (h : ∀ x, d ≠ .str x) : oneB ws d = false := by
  cases d <;> first | rfl | exact absurd rfl (h _)
theorem nw_more (w : W) : wishI (match w.d with | .tup xs => .tup (xs ++ [.int 1]) | d => d) = false := wishI_no fun ax _ => by
  cases w with
  | never a => exact t_never ax [areaD a, .int 1]
  | within a k => exact t_within ax [areaD a, .int k, .int 1]
  | answered a b k => exact t_answered ax [areaD a, areaD b, .int k, .int 1]
  | ahead a b => exact t_ahead ax [areaD a, areaD b, .int 1]
  | again a k => exact t_again ax [areaD a, .int k, .int 1]
theorem nw_first (w : W) : wishI (match w.d with | .tup xs => .tup (xs.take 1) | d => d) = false := wishI_no fun ax _ => by
  cases w with
  | never a => exact t_never ax []
  | within a k => exact t_within ax []
  | answered a b k => exact t_answered ax []
  | ahead a b => exact t_ahead ax []
  | again a k => exact t_again ax []
theorem nw_in2 (a : D) : wishI (.tup [.str "within", a]) = false := wishI_no fun ax _ => t_within ax [a]
theorem nw_inK {a k : D} (h : betw 1 30 k = false) : wishI (.tup [.str "within", a, k]) = false := wishI_no fun ax _ => by
  refine (t_within ax [a, k]).trans ?_
  show (betw 1 30 k && areaB ax a) = false
  rw [h]; rfl
theorem nw_never {a : D} (h : ∀ ax, (ax = 1 ∨ ax = 2 ∨ ax = 3) → areaB ax a = false) : wishI (.tup [.str "never", a]) = false := wishI_no fun ax hx => (t_never ax [a]).trans (h ax hx)
theorem nw_ahead (a : D) : wishI (.tup [.str "ahead", a]) = false := wishI_no fun ax _ => t_ahead ax [a]
end Lk19
set_option maxHeartbeats 8000000
namespace Lk19
open PySem PySem.Spec PyProof.Rows L2 SC
/-! ### bodies, on trees -/
noncomputable def bd_is_integer : DS := dRet (dAndV (dCB rIsiD (dCons (dVar 0) (dCons (dC (.ty "int")) (dNil)))) (dNotV (dCB rIsiD (dCons (dVar 0) (dCons (dC (.ty "bool")) (dNil))))))
noncomputable def bd_is_between : DS := dRet (dAndV (dCall sp_is_integer (dCons (dVar 2) (dNil))) (dChain (dI0 fun i j => .bl (decide (i ≤ j))) (dI0 fun i j => .bl (decide (i ≤ j))) (dVar 0) (dVar 2) (dVar 1)))
noncomputable def bd_is_tuple : DS := dRet (dAndV (dCB rIsiD (dCons (dVar 2) (dCons (dC (.ty "tuple")) (dNil)))) (dChain (dI0 fun i j => .bl (decide (i ≤ j))) (dI0 fun i j => .bl (decide (i ≤ j))) (dVar 0) (dCB rLenD (dCons (dVar 2) (dNil))) (dVar 1)))
noncomputable def bd_is_pair : DS := dRet (dCall sp_is_tuple (dCons (dC (.int 2)) (dCons (dC (.int 2)) (dCons (dVar 0) (dNil)))))
noncomputable def bd_is_one_of : DS := dRet (dAndV (dCB rIsiD (dCons (dVar 1) (dCons (dC (.ty "str")) (dNil)))) (dOp (dIn false) (dVar 1) (dVar 0)))
noncomputable def bd_is_span : DS := dRet (dAndV (dCall sp_is_pair (dCons (dVar 2) (dNil))) (dAndV (dCall sp_is_between (dCons (dVar 0) (dCons (dVar 1) (dCons (dOp SC.rIxD (dVar 2) (dC (.int 0))) (dNil))))) (dCall sp_is_between (dCons (dOp SC.rIxD (dVar 2) (dC (.int 0))) (dCons (dVar 1) (dCons (dOp SC.rIxD (dVar 2) (dC (.int 1))) (dNil)))))))
noncomputable def bd_are_spans : DS := dRet (dAndV (dCall sp_is_tuple (dCons (dVar 0) (dCons (dVar 1) (dCons (dVar 4) (dNil))))) (dCB (rBools fun l => l.all id) (dCons (dComp (dSeq (dVar 4)) (dNm 5) (dYes) (dCall sp_is_span (dCons (dVar 2) (dCons (dVar 3) (dCons (dVar 5) (dNil))))) [5]) (dNil))))
noncomputable def bd_is_box : DS := dRet (dCall sp_are_spans (dCons (dVar 0) (dCons (dVar 0) (dCons (dUn (dU fun i => .int (-i)) (dC (.int 1000))) (dCons (dC (.int 1000)) (dCons (dVar 1) (dNil)))))))
noncomputable def bd_is_area : DS := dRet (dAndV (dCall sp_is_tuple (dCons (dC (.int 0)) (dCons (dC (.int 6)) (dCons (dVar 1) (dNil))))) (dCB (rBools fun l => l.all id) (dCons (dComp (dSeq (dVar 1)) (dNm 2) (dYes) (dCall sp_is_box (dCons (dVar 0) (dCons (dVar 2) (dNil)))) [2]) (dNil))))
noncomputable def bd_is_wish : DS := dThen (dIf (dOr (dNot (dB (dCall sp_is_tuple (dCons (dC (.int 2)) (dCons (dC (.int 4)) (dCons (dVar 1) (dNil))))))) (dNot (dB (dCall sp_is_one_of (dCons (dC c_WORDS) (dCons (dOp SC.rIxD (dVar 1) (dC (.int 0))) (dNil))))))) (dRet (dC (.bl false))) (dSkip)) (dThen (dSet 2 (dIfE (dB (dOp (dIn false) (dOp SC.rIxD (dVar 1) (dC (.int 0))) (dC c_WITH_OTHER))) (dC (.int 3)) (dC (.int 2)))) (dThen (dIf (dB (dOp (dIn false) (dOp SC.rIxD (dVar 1) (dC (.int 0))) (dC c_WITH_K))) (dIf (dOr (dB (dOp (dEqS fun r => !r) (dCB rLenD (dCons (dVar 1) (dNil))) (dOp dAddA (dVar 2) (dC (.int 1))))) (dNot (dB (dCall sp_is_between (dCons (dC (.int 1)) (dCons (dC (.int 30)) (dCons (dOp SC.rIxD (dVar 1) (dVar 2)) (dNil)))))))) (dRet (dC (.bl false))) (dSkip)) (dIf (dB (dOp (dEqS fun r => !r) (dCB rLenD (dCons (dVar 1) (dNil))) (dVar 2))) (dRet (dC (.bl false))) (dSkip))) (dRet (dCB (rBools fun l => l.all id) (dCons (dComp (dSeq (dSl (dVar 1) (dPart (dC (.int 1))) (dPart (dVar 2)))) (dNm 3) (dYes) (dCall sp_is_area (dCons (dVar 0) (dCons (dVar 3) (dNil)))) [3]) (dNil))))))
noncomputable def bd_is_wish_itself : DS := dRet (dCB (rBools fun l => l.any id) (dCons (dComp (dSeq (dTup (dCons (dC (.int 1)) (dCons (dC (.int 2)) (dCons (dC (.int 3)) (dNil)))))) (dNm 1) (dYes) (dCall sp_is_wish (dCons (dVar 1) (dCons (dVar 0) (dNil)))) [1]) (dNil)))
noncomputable def bd_box_lies_within : DS := dThen (dIf (dB (dOp (dEqS fun r => !r) (dCB rLenD (dCons (dVar 0) (dNil))) (dCB rLenD (dCons (dVar 1) (dNil))))) (dRet (dC (.bl false))) (dSkip)) (dRet (dCB (rBools fun l => l.all id) (dCons (dComp (dZip (dVar 0) (dVar 1)) (dTg 2 (dGCons (dNm 2) (dGCons (dNm 3) (dGNil)))) (dYes) (dAndV (dOp (dI0 fun i j => .bl (decide (j ≤ i))) (dOp SC.rIxD (dVar 2) (dC (.int 0))) (dOp SC.rIxD (dVar 3) (dC (.int 0)))) (dOp (dI0 fun i j => .bl (decide (i ≤ j))) (dOp SC.rIxD (dVar 2) (dC (.int 1))) (dOp SC.rIxD (dVar 3) (dC (.int 1))))) [2, 3]) (dNil))))
noncomputable def bd_lies_within : DS := dRet (dCB (rBools fun l => l.all id) (dCons (dComp (dSeq (dVar 0)) (dNm 2) (dYes) (dCB (rBools fun l => l.any id) (dCons (dComp (dSeq (dVar 1)) (dNm 3) (dYes) (dCall sp_box_lies_within (dCons (dVar 2) (dCons (dVar 3) (dNil)))) [3]) (dNil))) [2]) (dNil)))
noncomputable def bd_harder : DS := dThen (dIf (dOr (dNot (dB (dCall sp_is_wish_itself (dCons (dVar 0) (dNil))))) (dNot (dB (dCall sp_is_wish_itself (dCons (dVar 1) (dNil)))))) (dDead) (dSkip)) (dThen (dSet 2 (dOp SC.rIxD (dVar 0) (dC (.int 0)))) (dThen (dIf (dOr (dB (dOp (dEqS fun r => !r) (dVar 2) (dOp SC.rIxD (dVar 1) (dC (.int 0))))) (dAnd (dB (dOp (dIn false) (dVar 2) (dC c_WITH_K))) (dB (dOp (dI0 fun i j => .bl (decide (j < i))) (dOp SC.rIxD (dVar 0) (dUn (dU fun i => .int (-i)) (dC (.int 1)))) (dOp SC.rIxD (dVar 1) (dUn (dU fun i => .int (-i)) (dC (.int 1)))))))) (dRet (dC (.bl false))) (dSkip)) (dThen (dIf (dB (dOp (dEqS fun r => r) (dVar 2) (dC (.str "never")))) (dRet (dCall sp_lies_within (dCons (dOp SC.rIxD (dVar 1) (dC (.int 1))) (dCons (dOp SC.rIxD (dVar 0) (dC (.int 1))) (dNil))))) (dSkip)) (dThen (dIf (dB (dOp (dEqS fun r => r) (dVar 2) (dC (.str "answered")))) (dRet (dAndV (dCall sp_lies_within (dCons (dOp SC.rIxD (dVar 1) (dC (.int 1))) (dCons (dOp SC.rIxD (dVar 0) (dC (.int 1))) (dNil)))) (dCall sp_lies_within (dCons (dOp SC.rIxD (dVar 0) (dC (.int 2))) (dCons (dOp SC.rIxD (dVar 1) (dC (.int 2))) (dNil)))))) (dSkip)) (dThen (dIf (dB (dOp (dEqS fun r => r) (dVar 2) (dC (.str "ahead")))) (dRet (dAndV (dCall sp_lies_within (dCons (dOp SC.rIxD (dVar 0) (dC (.int 1))) (dCons (dOp SC.rIxD (dVar 1) (dC (.int 1))) (dNil)))) (dCall sp_lies_within (dCons (dOp SC.rIxD (dVar 1) (dC (.int 2))) (dCons (dOp SC.rIxD (dVar 0) (dC (.int 2))) (dNil)))))) (dSkip)) (dRet (dCall sp_lies_within (dCons (dOp SC.rIxD (dVar 0) (dC (.int 1))) (dCons (dOp SC.rIxD (dVar 1) (dC (.int 1))) (dNil))))))))))
noncomputable def bd__law_hand : DS := dThen (dSet 1 (dComp (dSeq (dSl (dVar 0) (dPart0) (dPart (dC (.int 63))))) (dNm 2) (dYes) (dCB rAbsD (dCons (dCB rIntD (dCons (dVar 2) (dNil))) (dNil))) [2])) (dRet (dLstO (dCons (dVar 1) (dCons (dC (.int 0)) (dCons (dC (.int 0)) (dCons (dOp dAddA (dC (.int 181)) (dOp (dI CMul fun i j => .int (i * j)) (dC (.int 7)) (dCB rLenD (dCons (dVar 1) (dNil))))) (dCons (dC (.int 0)) (dNil))))))))
noncomputable def bd__law_draw : DS := dThen (dIf (dAnd (dB (dOp (dEqS fun r => r) (dOp SC.rIxD (dVar 0) (dC (.int 2))) (dC (.int 0)))) (dB (dOp (dI0 fun i j => .bl (decide (i < j))) (dOp SC.rIxD (dVar 0) (dC (.int 1))) (dCB rLenD (dCons (dOp SC.rIxD (dVar 0) (dC (.int 0))) (dNil)))))) (dThen (dSet 3 (dOp SC.rIxD (dOp SC.rIxD (dVar 0) (dC (.int 0))) (dOp SC.rIxD (dVar 0) (dC (.int 1))))) (dThen (dSetIx (dVar 0) (dC (.int 1)) (dOp dAddA (dOp SC.rIxD (dVar 0) (dC (.int 1))) (dC (.int 1)))) (dThen (dSetIx (dVar 0) (dC (.int 3)) (dOp (dI (fun _ j => 0 < j) fun i j => .int (i % j)) (dCB rIntD (dCons (dOp dAddA (dOp dAddA (dOp (dI CMul fun i j => .int (i * j)) (dOp SC.rIxD (dVar 0) (dC (.int 3))) (dC (.int 69621))) (dVar 3)) (dC (.int 97))) (dNil))) (dC (.int 2147483629)))) (dIf (dB (dOp (dI0 fun i j => .bl (decide (j ≤ i))) (dVar 3) (dOp (dI CPow fun i j => .int (i ^ j.toNat)) (dC (.int 10)) (dC (.int 18))))) (dSetIx (dVar 0) (dC (.int 2)) (dVar 3)) (dSkip))))) (dSkip)) (dThen (dIf (dB (dOp (dI0 fun i j => .bl (decide (j < i))) (dOp SC.rIxD (dVar 0) (dC (.int 2))) (dC (.int 0)))) (dThen (dSet 4 (dOp (dI (fun _ j => 0 < j) fun i j => .int (i % j)) (dCB rIntD (dCons (dOp SC.rIxD (dVar 0) (dC (.int 2))) (dNil))) (dVar 1))) (dThen (dSetIx (dVar 0) (dC (.int 2)) (dOp (dI CDiv fun i j => .int (i / j)) (dOp SC.rIxD (dVar 0) (dC (.int 2))) (dVar 1))) (dRet (dVar 4)))) (dSkip)) (dThen (dSetIx (dVar 0) (dC (.int 4)) (dOp dAddA (dOp SC.rIxD (dVar 0) (dC (.int 4))) (dC (.int 1)))) (dThen (dSet 2 (dOp (dI (fun _ j => 0 < j) fun i j => .int (i % j)) (dCB rIntD (dCons (dOp (dI CMul fun i j => .int (i * j)) (dCB rIntD (dCons (dOp dAddA (dOp SC.rIxD (dVar 0) (dC (.int 3))) (dOp (dI CMul fun i j => .int (i * j)) (dC (.int 7919)) (dOp SC.rIxD (dVar 0) (dC (.int 4))))) (dNil))) (dC (.int 48271))) (dNil))) (dC (.int 2147483647)))) (dThen (dSet 2 (dOp (dI (fun _ j => 0 < j) fun i j => .int (i % j)) (dCB rIntD (dCons (dOp (dI CMul fun i j => .int (i * j)) (dVar 2) (dOp dAddA (dOp (dI CDiv fun i j => .int (i / j)) (dVar 2) (dC (.int 1009))) (dC (.int 69621)))) (dNil))) (dC (.int 2147483647)))) (dThen (dSet 2 (dOp (dI (fun _ j => 0 < j) fun i j => .int (i % j)) (dCB rIntD (dCons (dOp (dI CMul fun i j => .int (i * j)) (dVar 2) (dOp dAddA (dOp (dI CDiv fun i j => .int (i / j)) (dVar 2) (dC (.int 2003))) (dC (.int 40692)))) (dNil))) (dC (.int 2147483399)))) (dRet (dOp (dI (fun _ j => 0 < j) fun i j => .int (i % j)) (dCB rIntD (dCons (dOp (dI CDiv fun i j => .int (i / j)) (dVar 2) (dC (.int 16))) (dNil))) (dVar 1))))))))
noncomputable def bd__law_some : DS := dRet (dOp SC.rIxD (dVar 1) (dCall sp__law_draw (dCons (dVar 0) (dCons (dCB rLenD (dCons (dVar 1) (dNil))) (dNil)))))
noncomputable def bd__law_deep : DS := dThen (dFor (dRng1 (dOp dAddA (dC (.int 20)) (dCall sp__law_draw (dCons (dVar 0) (dCons (dC (.int 15)) (dNil)))))) (dNm 2) (dSet 1 (dIfE (dB (dOp (dEqS fun r => r) (dCall sp__law_draw (dCons (dVar 0) (dCons (dC (.int 2)) (dNil)))) (dC (.int 0)))) (dTup (dCons (dVar 1) (dNil))) (dLst (dCons (dVar 1) (dNil)))))) (dRet (dVar 1))
noncomputable def bd__law_in : DS := dRet (dCB (rBools fun l => l.any id) (dCons (dComp (dSeq (dVar 0)) (dNm 2) (dYes) (dCB (rBools fun l => l.all id) (dCons (dComp (dZip (dVar 1) (dVar 2)) (dTg 2 (dGCons (dNm 3) (dGCons (dTg 2 (dGCons (dNm 4) (dGCons (dNm 5) (dGNil)))) (dGNil)))) (dYes) (dChain (dI0 fun i j => .bl (decide (i ≤ j))) (dI0 fun i j => .bl (decide (i ≤ j))) (dVar 4) (dVar 3) (dVar 5)) [3, 4, 5]) (dNil))) [2]) (dNil)))
noncomputable def bd__law_breaks : DS := dThen (dPar 4 5 (dCons (dOp SC.rIxD (dVar 0) (dC (.int 0))) (dCons (dComp (dSeq (dSl (dVar 1) (dPart0) (dPart (dOp dAddA (dVar 2) (dC (.int 1)))))) (dNm 6) (dYes) (dCall sp__law_in (dCons (dOp SC.rIxD (dVar 0) (dC (.int 1))) (dCons (dVar 6) (dNil)))) [6]) (dNil)))) (dThen (dIf (dB (dOp (dEqS fun r => r) (dVar 4) (dC (.str "never")))) (dRet (dOp SC.rIxD (dVar 5) (dVar 2))) (dSkip)) (dThen (dIf (dB (dOp (dEqS fun r => r) (dVar 4) (dC (.str "within")))) (dRet (dAndV (dOp (dEqS fun r => r) (dVar 2) (dOp SC.rIxD (dVar 0) (dC (.int 2)))) (dNotV (dCB (rBools fun l => l.any id) (dCons (dVar 5) (dNil)))))) (dSkip)) (dThen (dIf (dB (dOp (dEqS fun r => r) (dVar 4) (dC (.str "again")))) (dRet (dAndV (dOp (dI0 fun i j => .bl (decide (j ≤ i))) (dVar 2) (dOp SC.rIxD (dVar 0) (dC (.int 2)))) (dNotV (dCB (rBools fun l => l.any id) (dCons (dSl (dVar 5) (dPart (dOp (dI0 fun i j => .int (i - j)) (dVar 2) (dOp SC.rIxD (dVar 0) (dC (.int 2))))) (dPart0)) (dNil)))))) (dSkip)) (dThen (dSet 3 (dComp (dSeq (dSl (dVar 1) (dPart0) (dPart (dOp dAddA (dVar 2) (dC (.int 1)))))) (dNm 6) (dYes) (dCall sp__law_in (dCons (dOp SC.rIxD (dVar 0) (dC (.int 2))) (dCons (dVar 6) (dNil)))) [6])) (dThen (dIf (dB (dOp (dEqS fun r => r) (dVar 4) (dC (.str "ahead")))) (dRet (dAndV (dOp SC.rIxD (dVar 3) (dVar 2)) (dNotV (dCB (rBools fun l => l.any id) (dCons (dVar 5) (dNil)))))) (dSkip)) (dRet (dAndV (dOp (dI0 fun i j => .bl (decide (j ≤ i))) (dVar 2) (dOp SC.rIxD (dVar 0) (dC (.int 3)))) (dAndV (dOp SC.rIxD (dVar 5) (dOp (dI0 fun i j => .int (i - j)) (dVar 2) (dOp SC.rIxD (dVar 0) (dC (.int 3))))) (dNotV (dCB (rBools fun l => l.any id) (dCons (dSl (dVar 3) (dPart (dOp (dI0 fun i j => .int (i - j)) (dVar 2) (dOp SC.rIxD (dVar 0) (dC (.int 3))))) (dPart0)) (dNil))))))))))))
noncomputable def bd__law_box : DS := dThen (dSet 2 (dLstO (dNil))) (dThen (dFor (dRng1 (dVar 1)) (dNm 3) (dThen (dSet 4 (dCall sp__law_draw (dCons (dVar 0) (dCons (dC (.int 5)) (dNil))))) (dApp (dVar 2) (dTup (dCons (dVar 4) (dCons (dOp dAddA (dVar 4) (dCall sp__law_some (dCons (dVar 0) (dCons (dLst (dCons (dC (.int 0)) (dCons (dC (.int 0)) (dCons (dC (.int 0)) (dCons (dC (.int 1)) (dCons (dC (.int 2)) (dNil))))))) (dNil))))) (dNil))))))) (dRet (dUn rTupX (dVar 2))))
noncomputable def bd__law_area : DS := dRet (dUn rTupD (dComp (dRng1 (dCall sp__law_some (dCons (dVar 0) (dCons (dLst (dCons (dC (.int 1)) (dCons (dC (.int 1)) (dCons (dC (.int 1)) (dCons (dC (.int 2)) (dCons (dC (.int 3)) (dCons (dC (.int 6)) (dCons (dC (.int 0)) (dNil))))))))) (dNil))))) (dNm 2) (dYes) (dCall sp__law_box (dCons (dVar 0) (dCons (dVar 1) (dNil)))) [2]))
noncomputable def bd__law_wish : DS := dThen (dPar3 3 4 5 (dCons (dCall sp__law_area (dCons (dVar 0) (dCons (dVar 1) (dNil)))) (dCons (dCall sp__law_area (dCons (dVar 0) (dCons (dVar 1) (dNil)))) (dCons (dCall sp__law_some (dCons (dVar 0) (dCons (dLst (dCons (dC (.int 1)) (dCons (dC (.int 1)) (dCons (dC (.int 2)) (dCons (dC (.int 2)) (dCons (dC (.int 3)) (dCons (dC (.int 4)) (dCons (dC (.int 7)) (dCons (dC (.int 30)) (dNil)))))))))) (dNil)))) (dNil))))) (dThen (dSet 2 (dLst (dCons (dTup (dCons (dC (.str "never")) (dCons (dVar 3) (dNil)))) (dCons (dTup (dCons (dC (.str "within")) (dCons (dVar 3) (dCons (dVar 5) (dNil))))) (dCons (dTup (dCons (dC (.str "answered")) (dCons (dVar 3) (dCons (dVar 4) (dCons (dVar 5) (dNil)))))) (dCons (dTup (dCons (dC (.str "ahead")) (dCons (dVar 3) (dCons (dVar 4) (dNil))))) (dCons (dTup (dCons (dC (.str "again")) (dCons (dVar 3) (dCons (dVar 5) (dNil))))) (dNil)))))))) (dRet (dCall sp__law_some (dCons (dVar 0) (dCons (dVar 2) (dNil))))))
noncomputable def bd__law_places : DS := dThen (dSet 3 (dUn rTupD (dComp (dRng1 (dVar 1)) (dNm 6) (dYes) (dCall sp__law_draw (dCons (dVar 0) (dCons (dC (.int 6)) (dNil)))) [6]))) (dThen (dSet 4 (dLstO (dCons (dVar 3) (dNil)))) (dThen (dFor (dRng1 (dVar 2)) (dNm 5) (dThen (dIf (dB (dOp (dI0 fun i j => .bl (decide (j < i))) (dCall sp__law_draw (dCons (dVar 0) (dCons (dC (.int 3)) (dNil)))) (dC (.int 0)))) (dSet 3 (dUn rTupD (dComp (dSeq (dVar 3)) (dNm 7) (dYes) (dCB (rTwo fun i j => if j > i then j else i) (dCons (dC (.int 0)) (dCons (dCB (rTwo fun i j => if j < i then j else i) (dCons (dC (.int 6)) (dCons (dOp (dI0 fun i j => .int (i - j)) (dOp dAddA (dVar 7) (dCall sp__law_draw (dCons (dVar 0) (dCons (dC (.int 3)) (dNil))))) (dC (.int 1))) (dNil)))) (dNil)))) [7]))) (dSkip)) (dApp (dVar 4) (dVar 3)))) (dRet (dFrz (dVar 4)))))
noncomputable def bd__law_lies : DS := dThen (dFor (dSeq (dVar 0)) (dNm 2) (dIf (dNot (dB (dCB (rBools fun l => l.any id) (dCons (dComp (dSeq (dVar 1)) (dNm 3) (dYes) (dCB (rBools fun l => l.all id) (dCons (dComp (dZip (dVar 2) (dVar 3)) (dTg 2 (dGCons (dTg 2 (dGCons (dNm 4) (dGCons (dNm 5) (dGNil)))) (dGCons (dTg 2 (dGCons (dNm 6) (dGCons (dNm 7) (dGNil)))) (dGNil)))) (dYes) (dAndV (dOp (dI0 fun i j => .bl (decide (i ≤ j))) (dVar 6) (dVar 4)) (dOp (dI0 fun i j => .bl (decide (i ≤ j))) (dVar 5) (dVar 7))) [4, 5, 6, 7]) (dNil))) [3]) (dNil))))) (dRet (dC (.bl false))) (dSkip))) (dRet (dC (.bl true)))
noncomputable def bd__law_is_harder : DS := dThen (dIf (dB (dOp (dEqS fun r => !r) (dOp SC.rIxD (dVar 0) (dC (.int 0))) (dOp SC.rIxD (dVar 1) (dC (.int 0))))) (dRet (dC (.bl false))) (dSkip)) (dThen (dIf (dAnd (dB (dOp (dIn false) (dOp SC.rIxD (dVar 0) (dC (.int 0))) (dTup (dCons (dC (.str "within")) (dCons (dC (.str "answered")) (dCons (dC (.str "again")) (dNil))))))) (dB (dOp (dI0 fun i j => .bl (decide (j < i))) (dOp SC.rIxD (dVar 0) (dUn (dU fun i => .int (-i)) (dC (.int 1)))) (dOp SC.rIxD (dVar 1) (dUn (dU fun i => .int (-i)) (dC (.int 1))))))) (dRet (dC (.bl false))) (dSkip)) (dThen (dIf (dB (dOp (dEqS fun r => r) (dOp SC.rIxD (dVar 0) (dC (.int 0))) (dC (.str "never")))) (dRet (dCall sp__law_lies (dCons (dOp SC.rIxD (dVar 1) (dC (.int 1))) (dCons (dOp SC.rIxD (dVar 0) (dC (.int 1))) (dNil))))) (dSkip)) (dThen (dIf (dB (dOp (dIn false) (dOp SC.rIxD (dVar 0) (dC (.int 0))) (dTup (dCons (dC (.str "within")) (dCons (dC (.str "again")) (dNil)))))) (dRet (dCall sp__law_lies (dCons (dOp SC.rIxD (dVar 0) (dC (.int 1))) (dCons (dOp SC.rIxD (dVar 1) (dC (.int 1))) (dNil))))) (dSkip)) (dThen (dIf (dB (dOp (dEqS fun r => r) (dOp SC.rIxD (dVar 0) (dC (.int 0))) (dC (.str "answered")))) (dRet (dAndV (dCall sp__law_lies (dCons (dOp SC.rIxD (dVar 1) (dC (.int 1))) (dCons (dOp SC.rIxD (dVar 0) (dC (.int 1))) (dNil)))) (dCall sp__law_lies (dCons (dOp SC.rIxD (dVar 0) (dC (.int 2))) (dCons (dOp SC.rIxD (dVar 1) (dC (.int 2))) (dNil)))))) (dSkip)) (dRet (dAndV (dCall sp__law_lies (dCons (dOp SC.rIxD (dVar 0) (dC (.int 1))) (dCons (dOp SC.rIxD (dVar 1) (dC (.int 1))) (dNil)))) (dCall sp__law_lies (dCons (dOp SC.rIxD (dVar 1) (dC (.int 2))) (dCons (dOp SC.rIxD (dVar 0) (dC (.int 2))) (dNil))))))))))
noncomputable def bd__law_other_area : DS := dThen (dSet 3 (dCall sp__law_draw (dCons (dVar 0) (dCons (dC (.int 5)) (dNil))))) (dThen (dIf (dAnd (dB (dOp (dEqS fun r => r) (dVar 3) (dC (.int 0)))) (dB (dOp (dI0 fun i j => .bl (decide (j < i))) (dCB rLenD (dCons (dVar 1) (dNil))) (dC (.int 0))))) (dThen (dSet 6 (dCall sp__law_draw (dCons (dVar 0) (dCons (dCB rLenD (dCons (dVar 1) (dNil))) (dNil))))) (dRet (dOp dAddA (dSl (dVar 1) (dPart0) (dPart (dVar 6))) (dSl (dVar 1) (dPart (dOp dAddA (dVar 6) (dC (.int 1)))) (dPart0))))) (dSkip)) (dThen (dIf (dAnd (dB (dOp (dEqS fun r => r) (dVar 3) (dC (.int 1)))) (dB (dOp (dI0 fun i j => .bl (decide (i < j))) (dCB rLenD (dCons (dVar 1) (dNil))) (dC (.int 6))))) (dRet (dOp dAddA (dVar 1) (dTup (dCons (dCall sp__law_box (dCons (dVar 0) (dCons (dVar 2) (dNil)))) (dNil))))) (dSkip)) (dThen (dSet 4 (dLstO (dNil))) (dThen (dFor (dSeq (dVar 1)) (dNm 5) (dThen (dSet 7 (dCall sp__law_some (dCons (dVar 0) (dCons (dLst (dCons (dC (.int 0)) (dCons (dC (.int 0)) (dCons (dC (.int 1)) (dCons (dUn (dU fun i => .int (-i)) (dC (.int 1))) (dNil)))))) (dNil))))) (dThen (dSet 8 (dCB (rBools fun l => l.all id) (dCons (dComp (dSeq (dVar 5)) (dTg 2 (dGCons (dNm 9) (dGCons (dNm 10) (dGNil)))) (dYes) (dOp (dI0 fun i j => .bl (decide (i ≤ j))) (dOp (dI0 fun i j => .int (i - j)) (dVar 9) (dVar 7)) (dOp dAddA (dVar 10) (dVar 7))) [9, 10]) (dNil)))) (dApp (dVar 4) (dIfE (dB (dVar 8)) (dUn rTupD (dComp (dSeq (dVar 5)) (dTg 2 (dGCons (dNm 9) (dGCons (dNm 10) (dGNil)))) (dYes) (dTup (dCons (dOp (dI0 fun i j => .int (i - j)) (dVar 9) (dVar 7)) (dCons (dOp dAddA (dVar 10) (dVar 7)) (dNil)))) [9, 10])) (dVar 5)))))) (dRet (dIfE (dB (dOp (dI0 fun i j => .bl (decide (j < i))) (dVar 3) (dC (.int 2)))) (dSlS (dUn rTupX (dVar 4)) (dCall sp__law_some (dCons (dVar 0) (dCons (dLst (dCons (dC (.int 1)) (dCons (dUn (dU fun i => .int (-i)) (dC (.int 1))) (dNil)))) (dNil))))) (dVar 1)))))))
noncomputable def bd__law_near : DS := dThen (dSet 3 (dCompO (dSeq (dSl (dVar 1) (dPart (dC (.int 1))) (dPart0))) (dNm 4) (dYes) (dIfE (dB (dCB rIsiD (dCons (dVar 4) (dCons (dC (.ty "tuple")) (dNil))))) (dCall sp__law_other_area (dCons (dVar 0) (dCons (dVar 4) (dCons (dVar 2) (dNil))))) (dVar 4)) [4])) (dThen (dIf (dNot (dB (dCB rIsiD (dCons (dOp SC.rIxD (dVar 3) (dUn (dU fun i => .int (-i)) (dC (.int 1)))) (dCons (dC (.ty "tuple")) (dNil)))))) (dSetIx (dVar 3) (dUn (dU fun i => .int (-i)) (dC (.int 1))) (dCB (rTwo fun i j => if j > i then j else i) (dCons (dC (.int 1)) (dCons (dCB (rTwo fun i j => if j < i then j else i) (dCons (dC (.int 30)) (dCons (dOp dAddA (dOp SC.rIxD (dVar 3) (dUn (dU fun i => .int (-i)) (dC (.int 1)))) (dCall sp__law_some (dCons (dVar 0) (dCons (dLst (dCons (dC (.int 0)) (dCons (dC (.int 0)) (dCons (dC (.int 1)) (dCons (dUn (dU fun i => .int (-i)) (dC (.int 1))) (dNil)))))) (dNil))))) (dNil)))) (dNil))))) (dSkip)) (dRet (dOp dAddA (dTup (dCons (dOp SC.rIxD (dVar 1) (dC (.int 0))) (dNil))) (dUn rTupX (dVar 3)))))
noncomputable def bd__law_none : DS := dThen (dSet 2 (dLstO (dCons (dC .non) (dCons (dC (.int 0)) (dCons (dC (.bl true)) (dCons (dTup (dNil)) (dCons (dC (.str "never")) (dCons (dLst (dNil)) (dCons (dC .dct) (dCons (dCB rListD (dCons (dVar 1) (dNil))) (dCons (dOp dAddA (dVar 1) (dTup (dCons (dC (.int 1)) (dNil)))) (dCons (dSl (dVar 1) (dPart0) (dPart (dC (.int 1)))) (dCons (dTup (dCons (dVar 1) (dNil))) (dCons (dOp dAddA (dTup (dCons (dC (.str "Never")) (dNil))) (dSl (dVar 1) (dPart (dC (.int 1))) (dPart0))) (dNil))))))))))))))) (dThen (dSet 2 (dOp dAddLO (dVar 2) (dLst (dCons (dTup (dCons (dC (.str "within")) (dCons (dOp SC.rIxD (dVar 1) (dC (.int 1))) (dNil)))) (dCons (dTup (dCons (dC (.str "within")) (dCons (dOp SC.rIxD (dVar 1) (dC (.int 1))) (dCons (dC (.int 0)) (dNil))))) (dCons (dTup (dCons (dC (.str "within")) (dCons (dOp SC.rIxD (dVar 1) (dC (.int 1))) (dCons (dC (.int 31)) (dNil))))) (dCons (dTup (dCons (dC (.str "within")) (dCons (dOp SC.rIxD (dVar 1) (dC (.int 1))) (dCons (dC (.bl true)) (dNil))))) (dNil)))))))) (dThen (dSet 2 (dOp dAddLO (dVar 2) (dLst (dCons (dTup (dCons (dC (.str "never")) (dCons (dC .non) (dNil)))) (dCons (dTup (dCons (dC (.str "never")) (dCons (dTup (dCons (dTup (dCons (dTup (dCons (dC (.int 1)) (dCons (dC (.int 0)) (dNil)))) (dNil))) (dNil))) (dNil)))) (dCons (dTup (dCons (dC (.str "never")) (dCons (dTup (dCons (dTup (dCons (dTup (dCons (dC (.int 0)) (dCons (dC (.int 1001)) (dNil)))) (dNil))) (dNil))) (dNil)))) (dNil))))))) (dThen (dApp (dVar 2) (dTup (dCons (dC (.str "never")) (dCons (dTup (dCons (dTup (dCons (dTup (dCons (dC (.int 0)) (dCons (dC (.int 1)) (dNil)))) (dNil))) (dCons (dOp dMulT (dTup (dCons (dTup (dCons (dC (.int 0)) (dCons (dC (.int 1)) (dNil)))) (dNil))) (dC (.int 2))) (dNil)))) (dNil))))) (dThen (dSet 2 (dOp dAddLO (dVar 2) (dLst (dCons (dTup (dCons (dC (.str "never")) (dCons (dLst (dCons (dTup (dCons (dTup (dCons (dC (.int 0)) (dCons (dC (.int 1)) (dNil)))) (dNil))) (dNil))) (dNil)))) (dCons (dTup (dCons (dC (.str "never")) (dCons (dTup (dCons (dTup (dNil)) (dNil))) (dNil)))) (dCons (dTup (dCons (dC (.str "never")) (dCons (dTup (dCons (dOp dMulT (dTup (dCons (dTup (dCons (dC (.int 0)) (dCons (dC (.int 1)) (dNil)))) (dNil))) (dC (.int 4))) (dNil))) (dNil)))) (dCons (dTup (dCons (dC (.str "never")) (dCons (dOp dMulT (dTup (dCons (dTup (dCons (dTup (dCons (dC (.int 0)) (dCons (dC (.int 1)) (dNil)))) (dNil))) (dNil))) (dC (.int 7))) (dNil)))) (dNil)))))))) (dRet (dCall sp__law_some (dCons (dVar 0) (dCons (dOp dAddL (dVar 2) (dLst (dCons (dTup (dCons (dC (.str "never")) (dCons (dTup (dCons (dTup (dCons (dTup (dCons (dC (.bl false)) (dCons (dC (.int 1)) (dNil)))) (dNil))) (dNil))) (dNil)))) (dCons (dTup (dCons (dC (.str "ahead")) (dCons (dOp SC.rIxD (dVar 1) (dC (.int 1))) (dNil)))) (dCons (dCall sp__law_deep (dCons (dVar 0) (dCons (dVar 1) (dNil)))) (dNil)))))) (dNil)))))))))
noncomputable def bd_law (cN : Addr) : DS := dThen (dSet 1 (dCall sp__law_hand (dCons (dVar 0) (dNil)))) (dThen (dFor (dRng1 (dC (.int 3))) (dNm 2) (dThen (dSet 3 (dOp dAddA (dC (.int 1)) (dCall sp__law_draw (dCons (dVar 1) (dCons (dC (.int 3)) (dNil)))))) (dThen (dSet 4 (dCall sp__law_wish (dCons (dVar 1) (dCons (dVar 3) (dNil))))) (dThen (dSet 5 (dLstO (dCons (dVar 4) (dCons (dCall sp__law_near (dCons (dVar 1) (dCons (dVar 4) (dCons (dVar 3) (dNil))))) (dCons (dCall sp__law_wish (dCons (dVar 1) (dCons (dVar 3) (dNil)))) (dNil)))))) (dThen (dApp (dVar 5) (dCall sp__law_near (dCons (dVar 1) (dCons (dOp SC.rIxD (dVar 5) (dC (.int 1))) (dCons (dVar 3) (dNil)))))) (dThen (dSet 6 (dComp (dRng1 (dC (.int 2))) (dNm 7) (dYes) (dCall sp__law_places (dCons (dVar 1) (dCons (dVar 3) (dCons (dC (.int 18)) (dNil))))) [7])) (dThen (dFor (dRng1 (dC (.int 6))) (dNm 7) (dThen (dAsg (dTup (dCons (dCall sp__law_some (dCons (dVar 1) (dCons (dVar 5) (dNil)))) (dCons (dCall sp__law_some (dCons (dVar 1) (dCons (dVar 5) (dNil)))) (dNil)))) (dTg 2 (dGCons (dNm 13) (dGCons (dNm 14) (dGNil))))) (dThen (dSet 11 (dCall sp_harder (dCons (dVar 13) (dCons (dVar 14) (dNil))))) (dThen (dIf (dOr (dNot (dB (dCB rIsiD (dCons (dVar 11) (dCons (dC (.ty "bool")) (dNil)))))) (dB (dOp (dEqS fun r => !r) (dVar 11) (dCall sp__law_is_harder (dCons (dVar 13) (dCons (dVar 14) (dNil))))))) (dRet (dC (.bl false))) (dSkip)) (dFor (dSeq (dVar 6)) (dNm 12) (dThen (dSet 15 (dComp (dSeq (dTup (dCons (dVar 13) (dCons (dVar 14) (dNil))))) (dNm 16) (dYes) (dCB (rBools fun l => l.any id) (dCons (dComp (dRng1 (dCB rLenD (dCons (dVar 12) (dNil)))) (dNm 17) (dYes) (dCall sp__law_breaks (dCons (dVar 16) (dCons (dVar 12) (dCons (dVar 17) (dNil))))) [17]) (dNil))) [16])) (dIf (dAnd (dB (dVar 11)) (dAnd (dB (dOp SC.rIxD (dVar 15) (dC (.int 1)))) (dNot (dB (dOp SC.rIxD (dVar 15) (dC (.int 0))))))) (dRet (dC (.bl false))) (dSkip)))))))) (dThen (dSet 8 (dCall sp__law_none (dCons (dVar 1) (dCons (dVar 4) (dNil))))) (dThen (dAsg (dCall sp__law_some (dCons (dVar 1) (dCons (dLst (dCons (dTup (dCons (dVar 8) (dCons (dVar 4) (dNil)))) (dCons (dTup (dCons (dVar 4) (dCons (dVar 8) (dNil)))) (dCons (dTup (dCons (dVar 8) (dCons (dVar 8) (dNil)))) (dNil))))) (dNil)))) (dTg 2 (dGCons (dNm 13) (dGCons (dNm 14) (dGNil))))) (dIf (dB (dOp (dEqS fun r => !r) (dLam (fun ex => dCallX (spx_harder cN) ex (dCons (dVar 13) (dCons (dVar 14) (dNil)))) (spl__law_word cN)) (dC (.str "wish")))) (dRet (dC (.bl false))) (dSkip))))))))))) (dThen (dAsg (dTup (dCons (dTup (dCons (dC (.str "again")) (dCons (dTup (dCons (dTup (dCons (dTup (dCons (dC (.int 0)) (dCons (dC (.int 1)) (dNil)))) (dNil))) (dNil))) (dCons (dC (.int 3)) (dNil))))) (dCons (dTup (dCons (dC (.str "again")) (dCons (dTup (dCons (dTup (dCons (dTup (dCons (dC (.int 0)) (dCons (dC (.int 2)) (dNil)))) (dNil))) (dNil))) (dCons (dC (.int 3)) (dNil))))) (dNil)))) (dTg 2 (dGCons (dNm 9) (dGCons (dNm 10) (dGNil))))) (dRet (dOp dEq3 (dLst (dCons (dCall sp_harder (dCons (dVar 9) (dCons (dVar 10) (dNil)))) (dCons (dCall sp_harder (dCons (dVar 10) (dCons (dVar 9) (dNil)))) (dCons (dCall sp_harder (dCons (dVar 9) (dCons (dOp dAddA (dTup (dCons (dC (.str "within")) (dNil))) (dSl (dVar 9) (dPart (dC (.int 1))) (dPart0))) (dNil)))) (dNil))))) (dLst (dCons (dC (.bl true)) (dCons (dC (.bl false)) (dCons (dC (.bl false)) (dNil)))))))))
end Lk19
namespace Lk19
open PySem PySem.Spec PyProof.Rows L2 SC
variable [TabL] [XCx]
local macro_rules | `(tactic| walk_at "sc") => `(tactic| simp only [dThen, dSet, dRet, dCall, dCons, dNil, dVar, dC, dCB, dComp, dZip, dSeq, dOp, dIf, dB, dIfE, dNot, dAnd, dOr, dAndV, dOrV, dNotV, dSkip, dExpr, dFor, dApp, dTup, dLst, dLstO, dUn, dPar, dPar3, dAsg, dFrz, frzD, dSetIx, dSl, dPart, dPart0, dRng1, dRng2, dZip3, dEnum, dChain, dNm, dTg, dGCons, dGNil, dYes, dI0, dI, dU, dEqS, eqS, dIsN, SC.isNon, dAddA, dAddL, dAddLO, dMulT, dSlS, dCompO, dIn, SC.rIxD, rLenD, rBools, rAbsD, rIntD, rTwo, rTupD, rTupX, rIsiD, tyD,
  startD, List.map_cons, List.map_nil, List.length_cons, List.length_nil, Nat.reduceAdd, Nat.reduceSub, List.replicate_succ, List.replicate_zero, List.cons_append, List.nil_append, List.append_nil,
  List.getElem?_cons_zero, List.getElem?_cons_succ, List.set_cons_zero, List.set_cons_succ, wipeD, atI_0, atI_1, atI_2, atI_3, atI_4, oset_same, oset_oset, true_and, and_true, ix5])
theorem and_go {P : D → Prop} {a b : Bool} (h : P (.bl (a && b))) : match D.bl a with
    | .bl true => P (.bl b)
    | .bl false => P (.bl false)
    | _ => False := by cases a <;> exact h

theorem rd_is_integer : ∀ ds O (kk : D → OH → Prop), sp_is_integer ds O kk → bd_is_integer { nx := fun _ O' => kk .non O', rt := kk } (startD ["thing"] ds) O := by
  rintro ds O kk ⟨d, rfl, hp, h⟩
  unfold bd_is_integer
  walk_at "sc"
  cases d <;> first | (simp [pl] at hp; done) | skip
  all_goals refine ⟨by simp, ?_⟩
  all_goals first | exact h | (refine ⟨by simp, ?_⟩; exact h)
theorem rd_is_between : ∀ ds O (kk : D → OH → Prop), sp_is_between ds O kk → bd_is_between { nx := fun _ O' => kk .non O', rt := kk } (startD ["least", "most", "thing"] ds) O := by
  rintro ds O kk ⟨l, m, d, rfl, hp, h⟩
  unfold bd_is_between
  walk_at "sc"
  refine ⟨d, rfl, hp, ?_⟩
  cases d <;> first | exact h | skip
  exact and_go (P := fun d => kk d O) h
theorem rd_is_tuple : ∀ ds O (kk : D → OH → Prop), sp_is_tuple ds O kk → bd_is_tuple { nx := fun _ O' => kk .non O', rt := kk } (startD ["least", "most", "thing"] ds) O := by
  rintro ds O kk ⟨l, m, d, rfl, hp, h⟩
  unfold bd_is_tuple
  walk_at "sc"
  cases d <;> first | (simp [pl] at hp; done) | skip
  all_goals refine ⟨by simp, ?_⟩
  all_goals first | exact h | exact and_go (P := fun d => kk d O) h
theorem rd_is_pair : ∀ ds O (kk : D → OH → Prop), sp_is_pair ds O kk → bd_is_pair { nx := fun _ O' => kk .non O', rt := kk } (startD ["thing"] ds) O := by
  rintro ds O kk ⟨d, rfl, hp, h⟩
  unfold bd_is_pair
  walk_at "sc"
  exact ⟨2, 2, d, rfl, hp, h⟩
theorem all_flat (ws : List Str) : (ws.map D.str).all flatF = true := by
  rw [List.all_map, List.all_eq_true]; exact fun _ _ => rfl
theorem rd_is_one_of : ∀ ds O (kk : D → OH → Prop), sp_is_one_of ds O kk → bd_is_one_of { nx := fun _ O' => kk .non O', rt := kk } (startD ["words", "thing"] ds) O := by
  rintro ds O kk ⟨ws, d, rfl, hp, h⟩
  unfold bd_is_one_of
  walk_at "sc"
  cases d <;> first | (simp [pl] at hp; done) | skip
  all_goals refine ⟨by simp, ?_⟩
  all_goals first | exact h | exact ⟨⟨rfl, all_flat ws⟩, h⟩
theorem rd_is_span : ∀ ds O (kk : D → OH → Prop), sp_is_span ds O kk → bd_is_span { nx := fun _ O' => kk .non O', rt := kk } (startD ["least", "most", "thing"] ds) O := by
  rintro ds O kk ⟨l, m, d, rfl, hp, h⟩
  unfold bd_is_span
  walk_at "sc"
  refine ⟨d, rfl, hp, ?_⟩
  cases d <;> first | exact h | skip
  rename_i xs
  match xs, hp, h with
  | [], hp, h => exact h
  | [x], hp, h =>
    have e : tupB 2 2 (.tup [x]) = false := by simp [tupB]
    have e2 : spanB l m (.tup [x]) = false := by cases x <;> rfl
    rw [e]; rw [e2] at h; exact h
  | [x, y], hp, h =>
    have e : tupB 2 2 (.tup [x, y]) = true := by simp [tupB]
    rw [e]
    simp only [pl, plL, Bool.and_eq_true] at hp
    refine ⟨l, m, x, rfl, hp.1, ?_⟩
    cases x <;> first | exact h | skip
    rename_i i
    have h : kk (.bl ((decide (l ≤ i) && decide (i ≤ m)) && betw i m y)) O := h
    show (match D.bl (decide (l ≤ i) && decide (i ≤ m)) with | .bl true => sp_is_between [.int i, .int m, y] O kk | .bl false => kk (.bl false) O | _ => False)
    revert h
    cases (decide (l ≤ i) && decide (i ≤ m)) with
    | true => exact fun h => ⟨i, m, y, rfl, hp.2.1, h⟩
    | false => exact fun h => h
  | x :: y :: z :: r, hp, h =>
    have e : tupB 2 2 (.tup (x :: y :: z :: r)) = false := by
      simp only [tupB, List.length_cons, Bool.and_eq_false_iff, decide_eq_false_iff_not]; right; omega
    have e2 : spanB l m (.tup (x :: y :: z :: r)) = false := by cases x <;> rfl
    rw [e]; rw [e2] at h; exact h
end Lk19
namespace Lk19
open PySem PySem.Spec PyProof.Rows L2 SC
variable [TabL] [XCx]
local macro_rules | `(tactic| walk_at "sc") => `(tactic| simp only [dThen, dSet, dRet, dCall, dCons, dNil, dVar, dC, dCB, dComp, dZip, dSeq, dOp, dIf, dB, dIfE, dNot, dAnd, dOr, dAndV, dOrV, dNotV, dSkip, dExpr, dFor, dApp, dTup, dLst, dLstO, dUn, dPar, dPar3, dAsg, dFrz, frzD, dSetIx, dSl, dPart, dPart0, dRng1, dRng2, dZip3, dEnum, dChain, dNm, dTg, dGCons, dGNil, dYes, dI0, dI, dU, dEqS, eqS, dIsN, SC.isNon, dAddA, dAddL, dAddLO, dMulT, dSlS, dCompO, dIn, SC.rIxD, rLenD, rBools, rAbsD, rIntD, rTwo, rTupD, rTupX, rIsiD, tyD,
  startD, List.map_cons, List.map_nil, List.length_cons, List.length_nil, Nat.reduceAdd, Nat.reduceSub, List.replicate_succ, List.replicate_zero, List.cons_append, List.nil_append, List.append_nil,
  List.getElem?_cons_zero, List.getElem?_cons_succ, List.set_cons_zero, List.set_cons_succ, wipeD, atI_0, atI_1, atI_2, atI_3, atI_4, oset_same, oset_oset, true_and, and_true, ix5])
theorem rd_are_spans : ∀ ds O (kk : D → OH → Prop), sp_are_spans ds O kk → bd_are_spans { nx := fun _ O' => kk .non O', rt := kk } (startD ["fewest", "many", "least", "most", "thing", "span"] ds) O := by
  rintro ds O kk ⟨f, n, l, m, d, rfl, hn, hp, h⟩
  unfold bd_are_spans
  walk_at "sc"
  refine ⟨f, n, d, rfl, hp, ?_⟩
  cases d <;> first | exact h | skip
  rename_i xs
  have h : kk (.bl (tupB f n (.tup xs) && xs.all (spanB l m))) O := h
  cases e : tupB f n (.tup xs) with
  | false => rw [e] at h; exact h
  | true =>
    rw [e] at h
    simp only [tupB, Bool.and_eq_true, decide_eq_true_eq] at e
    simp only [pl] at hp
    show _ ∧ _
    refine ⟨small_len (by omega), ?_⟩
    rw [show xs = xs.map id from (List.map_id xs).symm]
    refine dAcc_map _ (fun x => .bl (spanB l m x)) _ _ _ (fun x hx O k' h' => ?_) ?_
    · walk_at "sc"
      exact ⟨l, m, x, rfl, plL_mem hp x hx, h'⟩
    · rw [List.nil_append, boolsD_map']
      show kk (.bl ((xs.map _).all id)) O
      rw [List.all_map]
      exact h
theorem rd_is_box : ∀ ds O (kk : D → OH → Prop), sp_is_box ds O kk → bd_is_box { nx := fun _ O' => kk .non O', rt := kk } (startD ["axes", "thing"] ds) O := by
  rintro ds O kk ⟨ax, d, rfl, hn, hp, h⟩
  unfold bd_is_box
  walk_at "sc"
  exact ⟨ax, ax, -1000, 1000, d, rfl, hn, hp, h⟩
theorem rd_is_area : ∀ ds O (kk : D → OH → Prop), sp_is_area ds O kk → bd_is_area { nx := fun _ O' => kk .non O', rt := kk } (startD ["axes", "thing", "box"] ds) O := by
  rintro ds O kk ⟨ax, d, rfl, hn, hp, h⟩
  unfold bd_is_area
  walk_at "sc"
  refine ⟨0, 6, d, rfl, hp, ?_⟩
  cases d <;> first | exact h | skip
  rename_i xs
  have h : kk (.bl (tupB 0 6 (.tup xs) && xs.all (boxB ax))) O := h
  cases e : tupB 0 6 (.tup xs) with
  | false => rw [e] at h; exact h
  | true =>
    rw [e] at h
    simp only [tupB, Bool.and_eq_true, decide_eq_true_eq] at e
    simp only [pl] at hp
    show _ ∧ _
    refine ⟨small_len (by omega), ?_⟩
    rw [show xs = xs.map id from (List.map_id xs).symm]
    refine dAcc_map _ (fun x => .bl (boxB ax x)) _ _ _ (fun x hx O k' h' => ?_) ?_
    · walk_at "sc"
      exact ⟨ax, x, rfl, hn, plL_mem hp x hx, h'⟩
    · rw [List.nil_append, boolsD_map']
      show kk (.bl ((xs.map _).all id)) O
      rw [List.all_map]
      exact h
theorem rd_is_wish_itself : ∀ ds O (kk : D → OH → Prop), sp_is_wish_itself ds O kk → bd_is_wish_itself { nx := fun _ O' => kk .non O', rt := kk } (startD ["thing", "axes"] ds) O := by
  rintro ds O kk ⟨d, rfl, hp, h⟩
  unfold bd_is_wish_itself
  walk_at "sc"
  refine ⟨small_len (by simp), small_len (by simp), ?_⟩
  unfold dAcc
  refine ⟨1, d, rfl, by omega, hp, ?_⟩
  unfold dAcc
  refine ⟨2, d, rfl, by omega, hp, ?_⟩
  unfold dAcc
  refine ⟨3, d, rfl, by omega, hp, ?_⟩
  unfold dAcc
  show kk (.bl ([wishB 1 d, wishB 2 d, wishB 3 d].any id)) O
  have e : [wishB 1 d, wishB 2 d, wishB 3 d].any id = wishI d := by
    unfold wishI
    simp [Bool.or_assoc]
  rw [e]; exact h
end Lk19
namespace Lk19
open PySem PySem.Spec PyProof.Rows L2 SC
variable [TabL] [XCx]
local macro_rules | `(tactic| walk_at "sc") => `(tactic| simp only [dThen, dSet, dRet, dCall, dCons, dNil, dVar, dC, dCB, dComp, dZip, dSeq, dOp, dIf, dB, dIfE, dNot, dAnd, dOr, dAndV, dOrV, dNotV, dSkip, dExpr, dFor, dApp, dTup, dLst, dLstO, dUn, dPar, dPar3, dAsg, dFrz, frzD, dSetIx, dSl, dPart, dPart0, dRng1, dRng2, dZip3, dEnum, dChain, dNm, dTg, dGCons, dGNil, dYes, dI0, dI, dU, dEqS, eqS, dIsN, SC.isNon, dAddA, dAddL, dAddLO, dMulT, dSlS, dCompO, dIn, SC.rIxD, rLenD, rBools, rAbsD, rIntD, rTwo, rTupD, rTupX, rIsiD, tyD,
  startD, List.map_cons, List.map_nil, List.length_cons, List.length_nil, Nat.reduceAdd, Nat.reduceSub, List.replicate_succ, List.replicate_zero, List.cons_append, List.nil_append, List.append_nil,
  List.getElem?_cons_zero, List.getElem?_cons_succ, List.set_cons_zero, List.set_cons_succ, wipeD, atI_0, atI_1, atI_2, atI_3, atI_4, oset_same, oset_oset, true_and, and_true, ix5])
theorem wds_flat (x : D) (h : oneB wds x = true) : ∃ w, x = .str w := by
  cases x <;> first | exact ⟨_, rfl⟩ | cases h
theorem tail_short (ax : Int) (x : D) : tailB ax x [] = false := by
  unfold tailB; cases oneB wds x <;> cases oneB wdsK x <;> cases oneB wdsO x <;> rfl
theorem tail_long (ax : Int) (x a b c d : D) (r : List D) : tailB ax x (a :: b :: c :: d :: r) = false := by
  unfold tailB; cases oneB wds x <;> cases oneB wdsK x <;> cases oneB wdsO x <;> rfl
theorem tail_mid (ax : Int) (x : D) (r : List D) (h : oneB wds x = true) : tailB ax x r = bif oneB wdsK x then (bif oneB wdsO x then (match r with
        | [a, b, k] => betw 1 30 k && (areaB ax a && areaB ax b)
        | _ => false)
      else match r with
        | [a, k] => betw 1 30 k && areaB ax a
        | _ => false)
    else (bif oneB wdsO x then (match r with
        | [a, b] => areaB ax a && areaB ax b
        | _ => false)
      else match r with
        | [a] => areaB ax a
        | _ => false) := by
  unfold tailB; rw [h]; rfl
theorem areas_go {kk : D → OH → Prop} {O : OH} (ax : Int) (hn : ax ≤ 1000) (t c : Option D) (xs : List D) (hp : ∀ x ∈ xs, pl x = true) (hl : xs.length ≤ 4) (h : kk (.bl (xs.all (areaB ax))) O) :
    xs.length ≤ sizeLine ∧ dAcc (dNm 3) dYes (dCall sp_is_area (dCons (dVar 0) (dCons (dVar 3) dNil))) [some (D.int ax), t, c, none] (fun acc O2 => match boolsD acc with
      | some l => kk (D.bl (l.all id)) O2
      | none => False) xs [] O := by
  refine ⟨small_len (by omega), ?_⟩
  rw [show xs = xs.map id from (List.map_id xs).symm]
  refine dAcc_map _ (fun x => .bl (areaB ax x)) _ _ _ (fun x hx O k' h' => ?_) ?_
  · walk_at "sc"
    exact ⟨ax, x, rfl, hn, hp x hx, h'⟩
  · rw [List.nil_append, boolsD_map']
    show kk (.bl ((xs.map _).all id)) O
    rw [List.all_map]
    exact h
theorem cut12 (x a : D) : cutA [x, a] (some 1) (some 2) = [a] := by rfl
theorem cut22 (x a b : D) : cutA [x, a, b] (some 1) (some 2) = [a] := by rfl
theorem cut23 (x a b : D) : cutA [x, a, b] (some 1) (some 3) = [a, b] := by rfl
theorem cut33 (x a b c : D) : cutA [x, a, b, c] (some 1) (some 3) = [a, b] := by rfl
theorem rd_is_wish : ∀ ds O (kk : D → OH → Prop), sp_is_wish ds O kk → bd_is_wish { nx := fun _ O' => kk .non O', rt := kk } (startD ["axes", "thing", "ahead_of_k", "area"] ds) O := by
  rintro ds O kk ⟨ax, d, rfl, hn, hp, h⟩
  unfold bd_is_wish c_WORDS c_WITH_OTHER c_WITH_K
  walk_at "sc"
  refine ⟨2, 4, d, rfl, hp, ?_⟩
  cases d <;> first | exact h | skip
  rename_i xs
  match xs, hp, h with
  | [], hp, h => exact h
  | [x], hp, h =>
    have h : kk (.bl (tailB ax x [])) O := h
    rw [tail_short] at h
    have e : tupB 2 4 (.tup [x]) = false := by simp [tupB]
    rw [e]; exact h
  | x :: a :: b :: c :: d :: r, hp, h =>
    have h : kk (.bl (tailB ax x (a :: b :: c :: d :: r))) O := h
    rw [tail_long] at h
    have e : tupB 2 4 (.tup (x :: a :: b :: c :: d :: r)) = false := by simp [tupB]; omega
    rw [e]; exact h
  | [x, a], hp, h =>
    have h : kk (.bl (tailB ax x [a])) O := h
    have e : tupB 2 4 (.tup [x, a]) = true := by simp [tupB]
    rw [e]
    simp only [pl, plL, Bool.and_eq_true] at hp
    refine ⟨wds, x, rfl, hp.1, ?_⟩
    cases ho : oneB wds x with
    | false => rw [t_other ho] at h; exact h
    | true =>
      rw [tail_mid _ _ _ ho] at h
      obtain ⟨w, rfl⟩ := wds_flat x ho
      refine ⟨⟨rfl, all_flat wdsO⟩, ?_⟩
      have z : (List.map D.str wdsO).any (fun y => eqF y (.str w)) = oneB wdsO (.str w) := rfl
      have z2 : (List.map D.str wdsK).any (fun y => eqF y (.str w)) = oneB wdsK (.str w) := rfl
      simp only [Bool.false_eq_true, if_false, z, atI_0, z2]
      cases e1 : oneB wdsO (.str w) <;> cases e2 : oneB wdsK (.str w) <;> simp only [e1, e2, cond_true, cond_false] at h <;> refine ⟨⟨rfl, all_flat wdsK⟩, ?_⟩ <;> try exact h
      show _ ∧ _
      rw [cut12]
      exact areas_go ax hn _ _ [a] (by simp [hp.2.1]) (by simp) (by simpa using h)
  | [x, a, b], hp, h =>
    have h : kk (.bl (tailB ax x [a, b])) O := h
    have e : tupB 2 4 (.tup [x, a, b]) = true := by simp [tupB]
    rw [e]
    simp only [pl, plL, Bool.and_eq_true] at hp
    refine ⟨wds, x, rfl, hp.1, ?_⟩
    cases ho : oneB wds x with
    | false => rw [t_other ho] at h; exact h
    | true =>
      rw [tail_mid _ _ _ ho] at h
      obtain ⟨w, rfl⟩ := wds_flat x ho
      refine ⟨⟨rfl, all_flat wdsO⟩, ?_⟩
      have z : (List.map D.str wdsO).any (fun y => eqF y (.str w)) = oneB wdsO (.str w) := rfl
      have z2 : (List.map D.str wdsK).any (fun y => eqF y (.str w)) = oneB wdsK (.str w) := rfl
      simp only [Bool.false_eq_true, if_false, z, atI_0, z2]
      cases e1 : oneB wdsO (.str w) <;> cases e2 : oneB wdsK (.str w) <;> simp only [e1, e2, cond_true, cond_false] at h <;> refine ⟨⟨rfl, all_flat wdsK⟩, ?_⟩ <;> try exact h
      · refine ⟨1, 30, b, rfl, hp.2.2.1, ?_⟩
        revert h
        cases betw 1 30 b with
        | false => exact fun h => h
        | true =>
          intro h
          show _ ∧ _
          rw [cut22]
          exact areas_go ax hn _ _ [a] (by simp [hp.2.1]) (by simp) (by simpa using h)
      · show _ ∧ _
        rw [cut23]
        exact areas_go ax hn _ _ [a, b] (by simp [hp.2.1, hp.2.2.1]) (by simp) (by simpa using h)
  | [x, a, b, c], hp, h =>
    have h : kk (.bl (tailB ax x [a, b, c])) O := h
    have e : tupB 2 4 (.tup [x, a, b, c]) = true := by simp [tupB]
    rw [e]
    simp only [pl, plL, Bool.and_eq_true] at hp
    refine ⟨wds, x, rfl, hp.1, ?_⟩
    cases ho : oneB wds x with
    | false => rw [t_other ho] at h; exact h
    | true =>
      rw [tail_mid _ _ _ ho] at h
      obtain ⟨w, rfl⟩ := wds_flat x ho
      refine ⟨⟨rfl, all_flat wdsO⟩, ?_⟩
      have z : (List.map D.str wdsO).any (fun y => eqF y (.str w)) = oneB wdsO (.str w) := rfl
      have z2 : (List.map D.str wdsK).any (fun y => eqF y (.str w)) = oneB wdsK (.str w) := rfl
      simp only [Bool.false_eq_true, if_false, z, atI_0, z2]
      cases e1 : oneB wdsO (.str w) <;> cases e2 : oneB wdsK (.str w) <;> simp only [e1, e2, cond_true, cond_false] at h <;> refine ⟨⟨rfl, all_flat wdsK⟩, ?_⟩ <;> try exact h
      refine ⟨1, 30, c, rfl, hp.2.2.2.1, ?_⟩
      revert h
      cases betw 1 30 c with
      | false => exact fun h => h
      | true =>
        intro h
        show _ ∧ _
        rw [cut33]
        exact areas_go ax hn _ _ [a, b] (by simp [hp.2.1, hp.2.2.1]) (by simp) (by simpa using h)
end Lk19
namespace Lk19
open PySem PySem.Spec PyProof.Rows L2 SC
variable [TabL] [XCx]
local macro_rules | `(tactic| walk_at "sc") => `(tactic| simp only [dThen, dSet, dRet, dCall, dCons, dNil, dVar, dC, dCB, dComp, dZip, dSeq, dOp, dIf, dB, dIfE, dNot, dAnd, dOr, dAndV, dOrV, dNotV, dSkip, dExpr, dFor, dApp, dTup, dLst, dLstO, dUn, dPar, dPar3, dAsg, dFrz, frzD, dSetIx, dSl, dPart, dPart0, dRng1, dRng2, dZip3, dEnum, dChain, dNm, dTg, dGCons, dGNil, dYes, dI0, dI, dU, dEqS, eqS, dIsN, SC.isNon, dAddA, dAddL, dAddLO, dMulT, dSlS, dCompO, dIn, SC.rIxD, rLenD, rBools, rAbsD, rIntD, rTwo, rTupD, rTupX, rIsiD, tyD,
  startD, List.map_cons, List.map_nil, List.length_cons, List.length_nil, Nat.reduceAdd, Nat.reduceSub, List.replicate_succ, List.replicate_zero, List.cons_append, List.nil_append, List.append_nil,
  List.getElem?_cons_zero, List.getElem?_cons_succ, List.set_cons_zero, List.set_cons_succ, wipeD, atI_0, atI_1, atI_2, atI_3, atI_4, oset_same, oset_oset, true_and, and_true, ix5])
theorem rd__law_draw : ∀ ds O (kk : D → OH → Prop), sp__law_draw ds O kk → bd__law_draw { nx := fun _ O' => kk .non O', rt := kk } (startD ["hand", "many", "number", "cell", "digit"] ds) O := by
  rintro ds O kk ⟨p, h, m, rfl, hO, ⟨cs, i, big, seed, c, rfl, hi⟩, hm, hm2, hk⟩
  rw [← oset_id hO]
  have hdiv : ∀ a b : Int, 0 < b → b < 1073741824 → CDiv a b := fun a b h1 h2 => ⟨h1, h2⟩
  unfold bd__law_draw
  refine dThen_by (fun e O' => ∃ h' x, HandOk h' ∧ e = [some (.own p), some (.int m), none, x, none] ∧ O' = oset O p h') (fun nx hn => ?_) ?_
  · walk_at "sc"
    by_cases z : big = 0
    · rw [decide_eq_true z]
      walk_at "sc"
      rw [List.length_map]
      by_cases z2 : i < (cs.length : Int)
      · rw [decide_eq_true z2]
        obtain ⟨x, _, hx⟩ := atI_map (f := D.int) hi z2
        walk_at "sc"
        simp only [hx]
        refine ⟨.inr ⟨by decide, by decide⟩, by decide, ⟨by decide, by decide, by decide⟩, ?_⟩
        by_cases z3 : (10 : Int) ^ (18 : Int).toNat ≤ x
        · rw [decide_eq_true z3]
          exact hn _ _ ⟨_, _, ⟨cs, i + 1, x, _, c, rfl, by omega⟩, rfl, rfl⟩
        · rw [decide_eq_false z3]
          exact hn _ _ ⟨_, _, ⟨cs, i + 1, big, _, c, rfl, by omega⟩, rfl, rfl⟩
      · rw [decide_eq_false z2]
        exact hn _ _ ⟨_, _, ⟨cs, i, big, seed, c, rfl, hi⟩, rfl, rfl⟩
    · rw [decide_eq_false z]
      exact hn _ _ ⟨_, _, ⟨cs, i, big, seed, c, rfl, hi⟩, rfl, rfl⟩
  · rintro e O' ⟨h', x, ⟨cs, i, big, seed, c, rfl, hi⟩, rfl, rfl⟩
    walk_at "sc"
    by_cases z : 0 < big
    · rw [decide_eq_true z]
      walk_at "sc"
      exact ⟨hm, hdiv _ _ hm hm2, hk _ _ (mod_lt' hm).1 (mod_lt' hm).2 ⟨cs, i, _, seed, c, rfl, hi⟩⟩
    · rw [decide_eq_false z]
      walk_at "sc"
      have ub : ∀ a : Int, -(2 ^ 64) < a % 2147483647 ∧ a % 2147483647 < 2 ^ 64 := fun a => by
        have := mod_lt' (a := a) (show (0 : Int) < 2147483647 by decide)
        constructor <;> omega
      exact ⟨.inl ⟨by decide, by decide⟩, .inr ⟨by decide, by decide⟩, by decide, hdiv _ _ (by decide) (by decide), .inl (ub _), by decide, hdiv _ _ (by decide) (by decide), .inl (ub _), by decide, hdiv _ _ (by decide) (by decide), hm, hk _ _ (mod_lt' hm).1 (mod_lt' hm).2 ⟨cs, i, big, seed, _, rfl, hi⟩⟩
theorem rd__law_hand : ∀ ds O (kk : D → OH → Prop), sp__law_hand ds O kk → bd__law_hand { nx := fun _ O' => kk .non O', rt := kk } (startD ["script", "cells", "cell"] ds) O := by
  rintro ds O kk ⟨ns, rfl, hl, h⟩
  unfold bd__law_hand
  walk_at "sc"
  rw [cut_take (n := 63) (i := 63) rfl, ← List.map_take]
  refine ⟨small_len (by rw [List.length_map, List.length_take]; omega), dAcc_map _ (fun n => .int (if n < 0 then -n else n)) _ _ _ (fun n _ O k' h' => ?_) ?_⟩
  · walk_at "sc"
    exact h'
  · rw [List.nil_append]
    have e : (ns.take 63).map (fun n => D.int (if n < 0 then -n else n)) = ((ns.take 63).map fun n => if n < 0 then -n else n).map D.int := by rw [List.map_map]; rfl
    rw [e]
    exact ⟨.inl ⟨by decide, by decide⟩, small_len (by simp), fun p hp => h p _ hp ⟨_, 0, 0, _, 0, rfl, by decide⟩⟩
theorem rd__law_some : ∀ ds O (kk : D → OH → Prop), sp__law_some ds O kk → bd__law_some { nx := fun _ O' => kk .non O', rt := kk } (startD ["hand", "things"] ds) O := by
  rintro ds O kk ⟨p, h, x, xs, rfl, hO, hh, hx, hne, hl, hk⟩
  unfold bd__law_some
  have pos : 0 < xs.length := List.length_pos_iff.mpr hne
  rcases hx with rfl | ⟨q, rfl, hq, hO2⟩
  · walk_at "sc"
    refine ⟨p, h, _, rfl, hO, hh, by omega, by omega, fun n h' h0 h1 hh' => ?_⟩
    walk_at "sc"
    have hn : n.toNat < xs.length := by omega
    rw [atI_in (n := n.toNat) (by omega) (List.getElem?_eq_getElem hn)]
    exact hk _ (List.getElem_mem hn) h' hh'
  · walk_at "sc"
    rw [hO2]
    refine ⟨p, h, _, rfl, hO, hh, by omega, by omega, fun n h' h0 h1 hh' => ?_⟩
    have hn : n.toNat < xs.length := by omega
    have e : oset O p h' q = some xs := by rw [oset_ne hq]; exact hO2
    show (match oset O p h' q with | some xs => _ | none => _)
    rw [e]
    show (match atI xs n with | some x => _ | none => _)
    rw [atI_in (n := n.toNat) (by omega) (List.getElem?_eq_getElem hn)]
    exact hk _ (List.getElem_mem hn) h' hh'
theorem rd__law_in : ∀ ds O (kk : D → OH → Prop), sp__law_in ds O kk → bd__law_in { nx := fun _ O' => kk .non O', rt := kk } (startD ["area", "place", "box", "one", "low", "high"] ds) O := by
  rintro ds O kk ⟨B, ax, a, p, rfl, hN, ⟨ha, hb⟩, hp, h⟩
  unfold bd__law_in areaD
  walk_at "sc"
  refine ⟨small_len (by rw [List.length_map]; omega), dAcc_map _ (fun b => .bl (inBox b p)) _ _ _ (fun b hm O k' h' => ?_) ?_⟩
  · have hb := hb b hm
    have hb := hb.1
    have hx := hN.2.2.2
    unfold boxD rowD
    walk_at "sc"
    rw [pairsD_map]
    refine ⟨small_len (by rw [List.length_map, List.length_zip]; omega), dAcc_map _ (fun q => .bl (decide (q.2.1 ≤ q.1) && decide (q.1 ≤ q.2.2))) _ _ _ (fun q _ O k' h' => ?_) ?_⟩
    · unfold pairD
      walk_at "sc"
      revert h'
      cases decide (q.2.1 ≤ q.1) with
      | true => exact fun h' => h'
      | false => exact fun h' => h'
    · rw [List.nil_append, boolsD_map']
      show k' (.bl (((p.zip b).map _).all id)) O
      rw [List.all_map]
      exact h'
  · rw [List.nil_append, boolsD_map']
    show kk (.bl ((a.map _).any id)) O
    rw [List.any_map]
    exact h
theorem rd__law_box : ∀ ds O (kk : D → OH → Prop), sp__law_box ds O kk → bd__law_box { nx := fun _ O' => kk .non O', rt := kk } (startD ["hand", "axes", "found", "axis", "low"] ds) O := by
  rintro ds O kk ⟨p, h, ax, rfl, hO, hh, a0, a3, hk⟩
  unfold bd__law_box
  walk_at "sc"
  refine ⟨Nat.zero_le _, fun q nq => ⟨⟨by omega, by omega⟩, ?_⟩⟩
  have qp : q ≠ p := own_ne hO nq
  have hO2 : oset O q [] p = some h := by rw [oset_ne qp.symm]; exact hO
  refine dLoop_ind (α := Nat) (fun i => .int (0 + (i : Int))) (fun rest e O' => ∃ (b : Box) (h' : List D) (x y : Option D), HandOk h' ∧ b.length + rest.length = ax.toNat ∧ (∀ q ∈ b, okS 6 q) ∧ e = [some (.own p), some (.int ax), some (.own q), x, y] ∧ O' = oset (oset O q (b.map pairD)) p h') ?_ ?_ (List.range ax.toNat) _ _ ⟨[], h, none, none, hh, by rw [List.length_range]; exact Nat.zero_add _, (fun q hq => nomatch hq), rfl, (oset_id hO2).symm⟩
  · rintro i rest e O' ⟨b, h', x, y, hh', hl, hb, rfl, rfl⟩ nx hn
    walk_at "sc"
    refine ⟨p, h', 5, rfl, oset_same, hh', by decide, by decide, fun n h2 n0 n1 hh2 => ?_⟩
    walk_at "sc"
    simp only [oset_ne qp, oset_same]
    refine ⟨small_len (by simp), p, h2, _, _, rfl, oset_same, hh2, .inl rfl, by simp, by simp, fun d hd h3 hh3 => ?_⟩
    have hd : ∃ v : Int, d = .int v ∧ 0 ≤ v ∧ v ≤ 2 := by
      simp only [List.mem_cons, List.not_mem_nil, or_false] at hd
      rcases hd with rfl | rfl | rfl | rfl | rfl <;> exact ⟨_, rfl, by decide, by decide⟩
    obtain ⟨v, rfl, v0, v2⟩ := hd
    walk_at "sc"
    simp only [oset_ne qp, oset_same]
    refine ⟨small_len (by simp), lt_len ?_, hn _ _ ⟨b ++ [(n, n + v)], h3, _, _, hh3, ?_, ?_, rfl, ?_⟩⟩
    · rw [List.length_map]; simp only [List.length_cons] at hl; omega
    · simp only [List.length_append, List.length_cons, List.length_nil] at hl ⊢; omega
    · intro q hq
      rcases List.mem_append.mp hq with hq | hq
      · exact hb q hq
      · rw [List.mem_singleton.mp hq]; exact ⟨by show -6 ≤ n; omega, by show n ≤ n + v; omega, by show n + v ≤ 6; omega⟩
    · rw [oset_comm qp.symm, oset_oset, List.map_append]; rfl
  · rintro e O' ⟨b, h', x, y, hh', hl, hb, rfl, rfl⟩
    walk_at "sc"
    simp only [oset_ne qp, oset_same]
    rw [oset_comm qp, odel_oset (by rw [oset_ne qp]; exact nq)]
    simp only [List.length_nil] at hl
    exact hk _ h' ⟨b, rfl, by omega, hb⟩ hh'
theorem rd__law_area : ∀ ds O (kk : D → OH → Prop), sp__law_area ds O kk → bd__law_area { nx := fun _ O' => kk .non O', rt := kk } (startD ["hand", "axes", "turn"] ds) O := by
  rintro ds O kk ⟨p, h, ax, rfl, hO, hh, a0, a3, hk⟩
  unfold bd__law_area
  walk_at "sc"
  refine ⟨small_len (by simp), p, h, _, _, rfl, hO, hh, .inl rfl, by simp, by simp, fun d hd h2 hh2 => ?_⟩
  have hd : ∃ v : Int, d = .int v ∧ 0 ≤ v ∧ v ≤ 6 := by
    simp only [List.mem_cons, List.not_mem_nil, or_false] at hd
    rcases hd with rfl | rfl | rfl | rfl | rfl | rfl | rfl <;> exact ⟨_, rfl, by decide, by decide⟩
  obtain ⟨v, rfl, v0, v6⟩ := hd
  walk_at "sc"
  refine ⟨⟨by omega, by omega⟩, by rw [rngD_length]; exact small_len (by omega), ?_⟩
  refine dAcc_inv (fun O' => ∃ h', HandOk h' ∧ O' = oset O p h') (fun y => ∃ b, y = boxD b ∧ okB 6 ax b) _ _ _ ?_ ⟨h2, hh2, rfl⟩ ?_
  · rintro d _ O' k' ⟨h', hh', rfl⟩ hk'
    walk_at "sc"
    exact ⟨p, h', ax, rfl, oset_same, hh', a0, a3, fun d h3 ⟨b, e, hb⟩ hh3 => hk' _ _ ⟨b, e, hb⟩ ⟨h3, hh3, by rw [oset_oset]⟩⟩
  · rintro ys O' hy hl ⟨h', hh', rfl⟩
    obtain ⟨bs, rfl, hl2, hb⟩ := all_map hy
    rw [List.nil_append]
    rw [rngD_length] at hl
    exact hk _ h' ⟨bs, rfl, by omega, hb⟩ hh'
theorem rd__law_wish : ∀ ds O (kk : D → OH → Prop), sp__law_wish ds O kk → bd__law_wish { nx := fun _ O' => kk .non O', rt := kk } (startD ["hand", "axes", "some", "one", "other", "k"] ds) O := by
  rintro ds O kk ⟨p, h, ax, rfl, hO, hh, a0, a3, hk⟩
  unfold bd__law_wish
  walk_at "sc"
  refine ⟨p, h, ax, rfl, hO, hh, a0, a3, fun da h1 ⟨a, ea, oa⟩ hh1 => ⟨p, h1, ax, rfl, oset_same, hh1, a0, a3, fun db h2 ⟨b, eb, ob⟩ hh2 => ⟨small_len (by simp), p, h2, _, _, rfl, by rw [oset_oset]; exact oset_same, hh2, .inl rfl, by simp, by simp, fun d hd h3 hh3 => ?_⟩⟩⟩
  subst ea eb
  have hd : ∃ v : Int, d = .int v ∧ 1 ≤ v ∧ v ≤ 30 := by
    simp only [List.mem_cons, List.not_mem_nil, or_false] at hd
    rcases hd with rfl | rfl | rfl | rfl | rfl | rfl | rfl | rfl <;> exact ⟨_, rfl, by decide, by decide⟩
  obtain ⟨v, rfl, v0, v6⟩ := hd
  walk_at "sc"
  refine ⟨small_len (by simp), small_len (by simp), small_len (by simp), small_len (by simp), small_len (by simp), small_len (by simp), p, h3, _, _, rfl, oset_same, hh3, .inl rfl, by simp, by simp, fun d hd h4 hh4 => ?_⟩
  rw [oset_oset]
  simp only [List.mem_cons, List.not_mem_nil, or_false] at hd
  rcases hd with rfl | rfl | rfl | rfl | rfl
  · exact hk _ h4 ⟨.never a, rfl, oa⟩ hh4
  · exact hk _ h4 ⟨.within a v, rfl, oa, v0, v6⟩ hh4
  · exact hk _ h4 ⟨.answered a b v, rfl, oa, ob, v0, v6⟩ hh4
  · exact hk _ h4 ⟨.ahead a b, rfl, oa, ob⟩ hh4
  · exact hk _ h4 ⟨.again a v, rfl, oa, v0, v6⟩ hh4
end Lk19
namespace Lk19
open PySem PySem.Spec PyProof.Rows L2 SC
variable [TabL] [XCx]
local macro_rules | `(tactic| walk_at "sc") => `(tactic| simp only [dThen, dSet, dRet, dCall, dCons, dNil, dVar, dC, dCB, dComp, dZip, dSeq, dOp, dIf, dB, dIfE, dNot, dAnd, dOr, dAndV, dOrV, dNotV, dSkip, dExpr, dFor, dApp, dTup, dLst, dLstO, dUn, dPar, dPar3, dAsg, dFrz, frzD, dSetIx, dSl, dPart, dPart0, dRng1, dRng2, dZip3, dEnum, dChain, dNm, dTg, dGCons, dGNil, dYes, dI0, dI, dU, dEqS, eqS, dIsN, SC.isNon, dAddA, dAddL, dAddLO, dMulT, dSlS, dCompO, dIn, SC.rIxD, rLenD, rBools, rAbsD, rIntD, rTwo, rTupD, rTupX, rIsiD, tyD,
  startD, List.map_cons, List.map_nil, List.length_cons, List.length_nil, Nat.reduceAdd, Nat.reduceSub, List.replicate_succ, List.replicate_zero, List.cons_append, List.nil_append, List.append_nil,
  List.getElem?_cons_zero, List.getElem?_cons_succ, List.set_cons_zero, List.set_cons_succ, wipeD, atI_0, atI_1, atI_2, atI_3, atI_4, oset_same, oset_oset, true_and, and_true, ix5])
theorem sne : strEq "never" "within" = false ∧ strEq "never" "answered" = false ∧ strEq "never" "ahead" = false ∧ strEq "never" "again" = false ∧ strEq "within" "never" = false ∧ strEq "within" "answered" = false ∧ strEq "within" "ahead" = false ∧ strEq "within" "again" = false ∧ strEq "answered" "never" = false ∧ strEq "answered" "within" = false ∧ strEq "answered" "ahead" = false ∧ strEq "answered" "again" = false ∧ strEq "ahead" "never" = false ∧ strEq "ahead" "within" = false ∧ strEq "ahead" "answered" = false ∧ strEq "ahead" "again" = false ∧ strEq "again" "never" = false ∧ strEq "again" "within" = false ∧ strEq "again" "answered" = false ∧ strEq "again" "ahead" = false := by
  simp only [strEq_eq]
  decide +kernel
theorem rd__law_places : ∀ ds O (kk : D → OH → Prop), sp__law_places ds O kk → bd__law_places { nx := fun _ O' => kk .non O', rt := kk } (startD ["hand", "axes", "many", "here", "found", "turn", "axis", "one"] ds) O := by
  rintro ds O kk ⟨p, h, ax, m, rfl, hO, hh, a0, a3, m0, m1, hk⟩
  unfold bd__law_places
  walk_at "sc"
  refine ⟨⟨by omega, by omega⟩, by rw [rngD_length]; exact small_len (by omega), ?_⟩
  refine dAcc_inv (fun O' => ∃ h', HandOk h' ∧ O' = oset O p h') (fun y => ∃ n : Int, y = .int n ∧ True) _ _ _ ?_ ⟨h, hh, (oset_id hO).symm⟩ ?_
  · rintro d _ O' k' ⟨h', hh', rfl⟩ hk'
    walk_at "sc"
    exact ⟨p, h', 6, rfl, oset_same, hh', by decide, by decide, fun n h3 _ _ hh3 => hk' _ _ ⟨n, rfl, trivial⟩ ⟨h3, hh3, by rw [oset_oset]⟩⟩
  rintro ys O' hy hl ⟨h', hh', rfl⟩
  obtain ⟨r0, rfl, hl2, _⟩ := all_map hy
  rw [List.nil_append, rngD_length] at *
  refine ⟨small_len (by simp), fun q nq => ⟨⟨by omega, by omega⟩, ?_⟩⟩
  have nq0 : O q = none := by
    by_cases z : q = p
    · subst z; rw [oset_same] at nq; cases nq
    · rw [oset_ne z] at nq; exact nq
  have qp : q ≠ p := own_ne hO nq0
  refine dLoop_ind (α := Nat) (fun i => .int (0 + (i : Int))) (fun rest e O' => ∃ (ps : List Row) (r : Row) (h' : List D) (x y z : Option D), HandOk h' ∧ okP ax ps ∧ okR ax r ∧ ps.length + rest.length ≤ 101 ∧ e = [some (.own p), some (.int ax), some (.int m), some (rowD r), some (.own q), x, y, z] ∧ O' = oset (oset O q (ps.map rowD)) p h') ?_ ?_ (List.range m.toNat) _ _ ⟨[r0], r0, h', none, none, none, hh', ⟨by simp, by simp, fun r hr => by rw [List.mem_singleton.mp hr]; unfold okR; omega⟩, by unfold okR; omega, by rw [List.length_range]; simp only [List.length_cons, List.length_nil]; omega, rfl, by rw [oset_comm qp.symm]; rfl⟩
  · rintro i rest e O' ⟨ps, r, h', x, y, z, hh', ⟨hne, hps, hok⟩, hr, hl, rfl, rfl⟩ nx hn
    walk_at "sc"
    refine ⟨p, h', 3, rfl, oset_same, hh', by decide, by decide, fun n h2 n0 n1 hh2 => ?_⟩
    walk_at "sc"
    have fin : ∀ (r' : Row) (h3 : List D) (y z : Option D), okR ax r' → HandOk h3 → nx [some (.own p), some (.int ax), some (.int m), some (rowD r'), some (.own q), some (.int (0 + (i : Int))), y, z] (oset (oset (oset O q (ps.map rowD)) p h3) q (ps.map rowD ++ [rowD r'])) := fun r' h3 y z o1 o2 => by
      refine hn _ _ ⟨ps ++ [r'], r', h3, _, _, _, o2, ⟨by simp, by simp only [List.length_append, List.length_cons, List.length_nil] at *; omega, fun t ht => ?_⟩, o1, by simp only [List.length_append, List.length_cons, List.length_nil] at *; omega, rfl, ?_⟩
      · rcases List.mem_append.mp ht with ht | ht
        · exact hok t ht
        · rw [List.mem_singleton.mp ht]; exact o1
      · rw [oset_comm qp.symm, oset_oset, List.map_append]; rfl
    have len : (ps.map rowD).length < sizeLine := lt_len (by rw [List.length_map]; omega)
    by_cases c : 0 < n
    · rw [decide_eq_true c]
      unfold rowD
      walk_at "sc"
      unfold okR at hr
      refine ⟨by rw [List.length_map]; exact small_len (by omega), ?_⟩
      refine dAcc_inv (fun O' => ∃ h', HandOk h' ∧ O' = oset (oset O q (ps.map rowD)) p h') (fun y => ∃ n : Int, y = .int n ∧ True) _ _ _ ?_ ⟨h2, hh2, rfl⟩ ?_
      · rintro d hd O' k' ⟨h', hh', rfl⟩ hk'
        obtain ⟨v, _, rfl⟩ := List.mem_map.mp hd
        walk_at "sc"
        refine ⟨p, h', 3, rfl, oset_same, hh', by decide, by decide, fun n h3 _ _ hh3 => ?_⟩
        walk_at "sc"
        exact hk' _ _ ⟨_, rfl, trivial⟩ ⟨h3, hh3, rfl⟩
      · rintro ys O' hy hl2 ⟨h3, hh3, rfl⟩
        obtain ⟨r', rfl, hl3, _⟩ := all_map hy
        rw [List.nil_append]
        simp only [oset_ne qp, oset_same]
        simp only [List.length_map] at hl2
        exact ⟨len, fin r' h3 _ _ (by unfold okR; omega) hh3⟩
    · rw [decide_eq_false c]
      simp only [oset_ne qp, oset_same]
      exact ⟨len, fin r h2 _ _ hr hh2⟩
  · rintro e O' ⟨ps, r, h', x, y, z, hh', hps, hr, hl, rfl, rfl⟩
    walk_at "sc"
    simp only [oset_ne qp, oset_same]
    rw [oset_comm qp, odel_oset (by rw [oset_ne qp]; exact nq0)]
    exact hk ps h' hps hh'
theorem here_list {a : Area} {ps : List Row} {n : Nat} (hn : n < ps.length) : (ps.take (n + 1)).map (inArea a) = (List.range (n + 1)).map (hA a ps) := by
  apply List.ext_getElem?
  intro i
  rw [List.getElem?_map, List.getElem?_map, List.getElem?_take]
  by_cases z : i < n + 1
  · rw [if_pos z, List.getElem?_range z, List.getElem?_eq_getElem (show i < ps.length by omega)]
    simp only [Option.map_some]
    unfold hA
    rw [List.getD_eq_getElem?_getD, List.getElem?_eq_getElem (show i < ps.length by omega)]
    rfl
  · rw [if_neg z, List.getElem?_eq_none (by rw [List.length_range]; omega)]; rfl
theorem here_at {h : Nat → Bool} {n j : Nat} {i : Int} (hi : i = (j : Int)) (hj : j ≤ n) : atI (((List.range (n + 1)).map h).map D.bl) i = some (.bl (h j)) :=
  atI_in hi (by rw [List.getElem?_map, List.getElem?_map, List.getElem?_range (by omega)]; rfl)
theorem here_drop {h : Nat → Bool} {n j : Nat} : (((List.range (n + 1)).map h).drop j).any id = anyF h j n := by
  rw [Bool.eq_iff_iff, anyF_iff, List.any_eq_true]
  constructor
  · rintro ⟨x, hx, e⟩
    obtain ⟨i, hi⟩ := List.mem_iff_getElem?.mp hx
    rw [List.getElem?_drop, List.getElem?_map] at hi
    by_cases z : j + i < n + 1
    · rw [List.getElem?_range z] at hi
      have hi : h (j + i) = x := Option.some.inj hi
      exact ⟨j + i, by omega, by omega, by rw [hi]; exact e⟩
    · rw [List.getElem?_eq_none (by rw [List.length_range]; omega)] at hi; cases hi
  · rintro ⟨i, h1, h2, h3⟩
    refine ⟨true, List.mem_iff_getElem?.mpr ⟨i - j, ?_⟩, rfl⟩
    rw [List.getElem?_drop, List.getElem?_map, show j + (i - j) = i by omega, List.getElem?_range (by omega)]
    simp [h3]
theorem here_any {h : Nat → Bool} {n : Nat} : ((List.range (n + 1)).map h).any id = anyF h 0 n := by
  have := here_drop (h := h) (n := n) (j := 0)
  rw [List.drop_zero] at this
  exact this
theorem len_here {h : Nat → Bool} {n : Nat} : (((List.range (n + 1)).map h).map D.bl).length = n + 1 := by simp
/-- [_law_in(area, place) for place in places[:at + 1]] -/
theorem here_comp {B ax : Int} (hN : okN B ax) {a : Area} {ps : List Row} {n : Nat} (oa : okA B ax a) (op : okP ax ps) (hn : n < ps.length) {te : DE} {i : Nat} {e : DV} {k : List D → OH → Prop} {O : OH}
    (hte : ∀ (r : Row) (O : OH) (k' : D → OH → Prop), sp__law_in [areaD a, rowD r] O k' → te (e.set i (some (rowD r))) O k') (h : k (((List.range (n + 1)).map (hA a ps)).map D.bl) O) :
    (cutA (ps.map rowD) none (some ((n : Int) + 1))).length ≤ sizeLine ∧ dAcc (dNm i) dYes te e k (cutA (ps.map rowD) none (some ((n : Int) + 1))) [] O := by
  rw [cut_take (n := n + 1) (i := (n : Int) + 1) (by omega), ← List.map_take]
  have hl := op.2.1
  refine ⟨by rw [List.length_map, List.length_take]; exact small_len (by omega), dAcc_map rowD (fun r => .bl (inArea a r)) _ _ _ (fun r hr O k' h' => ?_) ?_⟩
  · exact hte r O k' ⟨B, ax, a, r, rfl, hN, oa, op.2.2 r (List.mem_of_mem_take hr), h'⟩
  · rw [List.nil_append, ← here_list hn, List.map_map] at *
    exact h
theorem rd__law_breaks : ∀ ds O (kk : D → OH → Prop), sp__law_breaks ds O kk → bd__law_breaks { nx := fun _ O' => kk .non O', rt := kk } (startD ["wish", "places", "at", "there", "word", "here", "place"] ds) O := by
  rintro ds O kk ⟨B, ax, w, ps, n, rfl, hN, hw, op, hn, h⟩
  unfold bd__law_breaks
  unfold brk at h
  cases w with
  | never a =>
    simp only [d1]
    walk_at "sc"
    simp only [sne, strEq_self]
    refine here_comp hN hw op hn (fun r O k' h' => by walk_at "sc"; exact h') ?_
    rw [here_at (n := n) rfl (Nat.le_refl _)]
    exact h
  | within a k =>
    simp only [d2]
    walk_at "sc"
    simp only [sne, strEq_self]
    refine here_comp hN hw.1 op hn (fun r O k' h' => by walk_at "sc"; exact h') ?_
    simp only [boolsD_map, here_any]
    simp only [brkF] at h
    by_cases z : (n : Int) = k
    · rw [decide_eq_true z] at h ⊢; exact h
    · rw [decide_eq_false z] at h ⊢; exact h
  | ahead a b =>
    simp only [d4]
    walk_at "sc"
    simp only [sne, strEq_self]
    refine here_comp hN hw.1 op hn (fun r O k' h' => by walk_at "sc"; exact h') ?_
    refine here_comp hN hw.2 op hn (fun r O k' h' => by walk_at "sc"; exact h') ?_
    rw [here_at (n := n) rfl (Nat.le_refl _)]
    simp only [boolsD_map, here_any]
    simp only [brkF, W.a, W.b] at h
    cases z : hA b ps n with
    | true => rw [z] at h; exact h
    | false => rw [z] at h; exact h
  | again a k =>
    simp only [d5]
    walk_at "sc"
    simp only [sne, strEq_self]
    refine here_comp hN hw.1 op hn (fun r O k' h' => by walk_at "sc"; exact h') ?_
    obtain ⟨m, rfl⟩ : ∃ m : Nat, k = (m : Int) := ⟨k.toNat, by have := hw.2.1; omega⟩
    simp only [brkF, Int.toNat_natCast] at h
    by_cases z : (m : Int) ≤ n
    · rw [decide_eq_true z] at h ⊢
      walk_at "sc"
      rw [cut_drop (n := n - m) (i := (n : Int) - m) (by omega), ← List.map_drop]
      simp only [boolsD_map, here_drop]
      exact h
    · rw [decide_eq_false z] at h ⊢; exact h
  | answered a b k =>
    simp only [d3]
    walk_at "sc"
    simp only [sne, strEq_self]
    refine here_comp hN hw.1 op hn (fun r O k' h' => by walk_at "sc"; exact h') ?_
    refine here_comp hN hw.2.1 op hn (fun r O k' h' => by walk_at "sc"; exact h') ?_
    obtain ⟨m, rfl⟩ : ∃ m : Nat, k = (m : Int) := ⟨k.toNat, by have := hw.2.2.1; omega⟩
    simp only [brkF, Int.toNat_natCast, W.a, W.b] at h
    by_cases z : (m : Int) ≤ n
    · rw [decide_eq_true z] at h ⊢
      walk_at "sc"
      rw [here_at (n := n) (j := n - m) (by omega) (by omega)]
      walk_at "sc"
      cases z2 : hA a ps (n - m) with
      | true =>
        rw [z2] at h
        walk_at "sc"
        rw [cut_drop (n := n - m) (i := (n : Int) - m) (by omega), ← List.map_drop]
        simp only [boolsD_map, here_drop]
        exact h
      | false => rw [z2] at h; exact h
    · rw [decide_eq_false z] at h ⊢; exact h

theorem rd_box_lies_within : ∀ ds O (kk : D → OH → Prop), sp_box_lies_within ds O kk → bd_box_lies_within { nx := fun _ O' => kk .non O', rt := kk } (startD ["box", "other", "span", "wide"] ds) O := by
  rintro ds O kk ⟨x, y, rfl, hx, hy, h⟩
  unfold bd_box_lies_within boxD
  walk_at "sc"
  simp only [List.length_map]
  unfold bw at h
  by_cases z : x.length = y.length
  · rw [decide_eq_true z] at h
    rw [decide_eq_true (show ((x.length : Int) = (y.length : Int)) by omega)]
    show _ ∧ _
    rw [pairsD_map]
    refine ⟨small_len (by rw [List.length_map, List.length_zip]; omega), dAcc_map _ (fun p => .bl (decide (p.2.1 ≤ p.1.1) && decide (p.1.2 ≤ p.2.2))) _ _ _ (fun p _ O k' h' => ?_) ?_⟩
    · unfold pairD
      walk_at "sc"
      revert h'
      cases decide (p.2.1 ≤ p.1.1) with
      | true => exact fun h' => h'
      | false => exact fun h' => h'
    · rw [List.nil_append, boolsD_map']
      show kk (.bl (((x.zip y).map _).all id)) O
      rw [List.all_map]
      exact h
  · rw [decide_eq_false z] at h
    rw [decide_eq_false (show ¬ ((x.length : Int) = (y.length : Int)) by omega)]
    exact h
theorem rd_lies_within : ∀ ds O (kk : D → OH → Prop), sp_lies_within ds O kk → bd_lies_within { nx := fun _ O' => kk .non O', rt := kk } (startD ["area", "other", "box", "wide"] ds) O := by
  rintro ds O kk ⟨B, ax, ax', x, y, rfl, hN, hN', ⟨hx, hxb⟩, ⟨hy, hyb⟩, h⟩
  unfold bd_lies_within areaD
  walk_at "sc"
  refine ⟨small_len (by rw [List.length_map]; omega), dAcc_map _ (fun b => .bl (y.any fun w => bw b w)) _ _ _ (fun b hb O k' h' => ?_) ?_⟩
  · walk_at "sc"
    refine ⟨small_len (by rw [List.length_map]; omega), dAcc_map _ (fun w => .bl (bw b w)) _ _ _ (fun w hw O k2 h2 => ?_) ?_⟩
    · walk_at "sc"
      have q1 := (hxb b hb).1
      have q2 := (hyb w hw).1
      have n1 := hN.2.2.2
      have n2 := hN'.2.2.2
      exact ⟨b, w, rfl, by omega, by omega, h2⟩
    · rw [List.nil_append, boolsD_map']
      show k' (.bl ((y.map _).any id)) O
      rw [List.any_map]
      exact h'
  · rw [List.nil_append, boolsD_map']
    show kk (.bl ((x.map _).all id)) O
    rw [List.all_map]
    exact h
end Lk19
namespace Lk05
open PySem
/-! ### powers of two -/
def p2 (s : Int) : Rat := (2 : Rat) ^ s
theorem p2_pos (s : Int) : 0 < p2 s := Rat.zpow_pos (by decide)
theorem p2_ne (s : Int) : p2 s ≠ 0 := by have := p2_pos s; grind
theorem p2_add (s t : Int) : p2 (s + t) = p2 s * p2 t := Rat.zpow_add (by decide) s t
theorem p2_0 : p2 0 = 1 := Rat.zpow_zero 2
theorem p2_1 : p2 1 = 2 := Rat.zpow_one 2
theorem p2_neg (s : Int) : p2 (-s) * p2 s = 1 := by rw [← p2_add, Int.add_left_neg, p2_0]
theorem p2_neg' (s : Int) : p2 (-s) = 1 / p2 s := by have := p2_neg s; have := p2_ne s; grind
theorem p2_sub (s t : Int) : p2 (s - t) = p2 s / p2 t := by rw [Int.sub_eq_add_neg, p2_add, p2_neg']; grind
theorem p2_nat (n : Nat) : p2 (n : Int) = (((2 : Int) ^ n : Int) : Rat) := by
  show (2 : Rat) ^ (n : Int) = _
  rw [Rat.zpow_natCast]
  induction n with
  | zero => simp
  | succ n ih => rw [Rat.pow_succ, ih, Int.pow_succ, Rat.intCast_mul]; rfl
theorem p2_of (s : Int) (h : 0 ≤ s) : p2 s = (((2 : Int) ^ s.toNat : Int) : Rat) := by
  obtain ⟨n, rfl⟩ := Int.eq_ofNat_of_zero_le h
  exact p2_nat n
theorem p2_one_le {s : Int} (h : 0 ≤ s) : 1 ≤ p2 s := by
  rw [p2_of s h]
  have h2 : (0 : Int) < 2 ^ s.toNat := Int.pow_pos (by decide)
  have : (1 : Int) ≤ 2 ^ s.toNat := h2
  exact_mod_cast this
theorem p2_le {s t : Int} (h : s ≤ t) : p2 s ≤ p2 t := by
  have e : t = s + (t - s) := by omega
  rw [e, p2_add]
  have h1 := p2_one_le (s := t - s) (by omega)
  have h2 := p2_pos s
  have := Rat.mul_le_mul_of_nonneg_left h1 (Rat.le_of_lt h2)
  grind
theorem p2_lt {s t : Int} (h : s < t) : p2 s < p2 t := by
  have h1 := p2_le (s := s + 1) (t := t) (by omega)
  rw [p2_add, p2_1] at h1
  have h2 := p2_pos s
  grind
theorem p2_lt_iff {s t : Int} : p2 s < p2 t ↔ s < t := by
  constructor
  · intro h
    rcases Int.lt_or_le s t with z | z
    · exact z
    · have := p2_le z; grind
  · exact p2_lt
theorem p2_inj {s t : Int} (h : p2 s = p2 t) : s = t := by
  rcases Int.lt_trichotomy s t with z | z | z
  · have := p2_lt z; grind
  · exact z
  · have := p2_lt z; grind
/-! ### the program's shifts -/
def scl (m e : Int) : Int := if 0 < e then m * 2 ^ e.toNat else m
theorem scl_pos {m e : Int} (h : 0 < m) : 0 < scl m e := by
  unfold scl
  split
  · exact Int.mul_pos h (Int.pow_pos (by decide))
  · exact h
theorem scl_one (e : Int) : 0 < scl 1 e := scl_pos (by decide)
theorem scl_mul (m e : Int) : scl m e = m * scl 1 e := by
  unfold scl; split
  · rw [Int.one_mul]
  · rw [Int.mul_one]
theorem scl_val (e : Int) : ((scl 1 e : Int) : Rat) = p2 e * ((scl 1 (-e) : Int) : Rat) := by
  unfold scl
  by_cases h : 0 < e
  · rw [if_pos h, if_neg (by omega), Int.one_mul, p2_of e (by omega)]; simp
  · rw [if_neg h]
    by_cases h0 : 0 < -e
    · rw [if_pos h0, Int.one_mul, ← p2_of (-e) (by omega)]
      have := p2_neg e
      grind
    · have : e = 0 := by omega
      subst this
      rw [if_neg (by omega), p2_0]; simp
theorem cast_pos {i : Int} (h : 0 < i) : (0 : Rat) < (i : Rat) := by exact_mod_cast h
/-- P / Q over 2 ^ s -/
theorem scl_div {P Q : Int} (s : Int) (hQ : 0 < Q) : ((scl P (-s) : Int) : Rat) / ((scl Q s : Int) : Rat) = ((P : Rat) / (Q : Rat)) / p2 s := by
  have e1 : ((scl P (-s) : Int) : Rat) = (P : Rat) * ((scl 1 (-s) : Int) : Rat) := by rw [scl_mul]; exact Rat.intCast_mul ..
  have e2 : ((scl Q s : Int) : Rat) = (Q : Rat) * (p2 s * ((scl 1 (-s) : Int) : Rat)) := by rw [scl_mul, Rat.intCast_mul, scl_val s]
  have h1 := cast_pos (scl_one (-s))
  have h2 := cast_pos hQ
  have h3 := p2_pos s
  rw [e1, e2]
  grind
theorem scl_val' (m e : Int) : ((scl m e : Int) : Rat) / ((scl 1 (-e) : Int) : Rat) = (m : Rat) * p2 e := by
  have h1 := cast_pos (scl_one (-e))
  rw [scl_mul, Rat.intCast_mul, scl_val e]
  grind
/-! ### floors -/
theorem rle_div {x a b : Rat} (hb : 0 < b) : x ≤ a / b ↔ x * b ≤ a := by
  rw [← Rat.not_lt, ← Rat.not_lt, Rat.div_lt_iff hb]
theorem rdiv_le {x a b : Rat} (hb : 0 < b) : a / b ≤ x ↔ a ≤ x * b := by
  rw [← Rat.not_lt, ← Rat.not_lt, Rat.lt_div_iff hb]
theorem div_le {A B x : Int} (hB : 0 < B) : ((x : Rat) ≤ (A : Rat) / (B : Rat)) ↔ x * B ≤ A := by
  rw [rle_div (cast_pos hB)]
  exact_mod_cast Iff.rfl
theorem floor_div {A B : Int} (hB : 0 < B) : ((A : Rat) / (B : Rat)).floor = A / B := by
  refine Int.le_antisymm ?_ ?_
  · rw [Int.le_ediv_iff_mul_le hB, ← div_le hB]
    exact Rat.floor_le _
  · rw [Rat.le_floor_iff, div_le hB, ← Int.le_ediv_iff_mul_le hB]
    exact Int.le_refl _
theorem frac_div {A B : Int} (hB : 0 < B) : (A : Rat) / (B : Rat) - ((A / B : Int) : Rat) = ((A % B : Int) : Rat) / (B : Rat) := by
  have h := cast_pos hB
  have e : (A : Rat) = ((B : Int) : Rat) * ((A / B : Int) : Rat) + ((A % B : Int) : Rat) := by
    have : A = B * (A / B) + A % B := (Int.mul_ediv_add_emod A B).symm
    exact_mod_cast this
  grind
end Lk05
namespace Lk05
open PySem
/-! ### the place of the greatest bit -/
def bt (i : Int) : Int := (Builtin.Int.intBits i : Nat)
theorem bt_spec {P : Int} (h : 0 < P) : p2 (bt P - 1) ≤ (P : Rat) ∧ (P : Rat) < p2 (bt P) := by
  have hn : P.natAbs ≠ 0 := by omega
  have e : bt P = (P.natAbs.log2 + 1 : Nat) := by
    unfold bt Builtin.Int.intBits
    rw [if_neg (by simp; omega)]
  have h1 : 2 ^ P.natAbs.log2 ≤ P.natAbs := Nat.log2_self_le hn
  have h2 : P.natAbs < 2 ^ (P.natAbs.log2 + 1) := Nat.lt_log2_self
  have hP : P = (P.natAbs : Int) := by omega
  rw [e]
  generalize P.natAbs.log2 = g at *
  generalize P.natAbs = n at *
  subst hP
  constructor
  · rw [show (((g + 1 : Nat) : Int) - 1) = (g : Int) by omega, p2_nat]
    exact_mod_cast h1
  · rw [p2_nat]
    exact_mod_cast h2
structure IsLg (y : Rat) (g : Int) : Prop where
  le : p2 g ≤ y
  lt : y < p2 (g + 1)
theorem IsLg.uniq {y : Rat} {g g' : Int} (a : IsLg y g) (b : IsLg y g') : g = g' := by
  have h1 : p2 g < p2 (g' + 1) := by have := a.le; have := b.lt; grind
  have h2 : p2 g' < p2 (g + 1) := by have := b.le; have := a.lt; grind
  have := p2_lt_iff.mp h1
  have := p2_lt_iff.mp h2
  omega
/-- what the program reckons it by -/
def lgP (P Q : Int) : Int := if scl P (-(bt P - bt Q)) < scl Q (bt P - bt Q) then bt P - bt Q - 1 else bt P - bt Q
theorem less_scl {P Q : Int} (g : Int) (hP : 0 < P) (hQ : 0 < Q) : scl P (-g) < scl Q g ↔ (P : Rat) / (Q : Rat) < p2 g := by
  have h := scl_div (P := P) g hQ
  have hq := cast_pos (scl_pos (e := g) hQ)
  have hp := p2_pos g
  have a : ((scl P (-g) : Int) : Rat) / ((scl Q g : Int) : Rat) < 1 ↔ scl P (-g) < scl Q g := by
    rw [Rat.div_lt_iff hq, Rat.one_mul]
    exact_mod_cast Iff.rfl
  rw [← a, h, Rat.div_lt_iff hp, Rat.one_mul]
theorem lgP_spec {P Q : Int} (hP : 0 < P) (hQ : 0 < Q) : IsLg ((P : Rat) / (Q : Rat)) (lgP P Q) := by
  obtain ⟨p1, p3⟩ := bt_spec hP
  obtain ⟨q1, q3⟩ := bt_spec hQ
  have hq := cast_pos hQ
  have up : (P : Rat) / Q < p2 (bt P - bt Q + 1) := by
    rw [Rat.div_lt_iff hq]
    have e : p2 (bt P) = p2 (bt P - bt Q + 1) * p2 (bt Q - 1) := by rw [← p2_add]; congr 1; omega
    have := Rat.mul_le_mul_of_nonneg_left q1 (Rat.le_of_lt (p2_pos (bt P - bt Q + 1)))
    grind
  have down : p2 (bt P - bt Q - 1) ≤ (P : Rat) / Q := by
    rw [rle_div hq]
    have e : p2 (bt P - 1) = p2 (bt P - bt Q - 1) * p2 (bt Q) := by rw [← p2_add]; congr 1; omega
    have := Rat.mul_lt_mul_of_pos_left q3 (p2_pos (bt P - bt Q - 1))
    grind
  unfold lgP
  by_cases h : scl P (-(bt P - bt Q)) < scl Q (bt P - bt Q)
  · rw [if_pos h]
    rw [less_scl _ hP hQ] at h
    exact ⟨down, by rw [Int.sub_add_cancel]; exact h⟩
  · rw [if_neg h]
    rw [less_scl _ hP hQ] at h
    exact ⟨Rat.not_lt.mp h, up⟩
/-! ### formats, steps -/
structure Fm where
  b : Int
  l : Int
  h : Int
structure Fm.ok (F : Fm) : Prop where
  b1 : 2 ≤ F.b
  b2 : F.b ≤ 24
  l1 : -40 ≤ F.l
  lh : F.l ≤ F.h
  h1 : F.h ≤ 40
/-- the step at which a magnitude is told -/
structure IsS (F : Fm) (y : Rat) (s : Int) : Prop where
  l : F.l ≤ s
  lt : y < p2 (s + F.b)
  le : s = F.l ∨ p2 (s - 1 + F.b) ≤ y
theorem IsS.uniq {F : Fm} {y : Rat} {s t : Int} (a : IsS F y s) (b : IsS F y t) : s = t := by
  have key : ∀ {s t : Int}, IsS F y s → IsS F y t → s ≤ t := by
    intro s t a b
    rcases a.le with h | h
    · have := b.l; omega
    · have : p2 (s - 1 + F.b) < p2 (t + F.b) := by have := b.lt; grind
      have := p2_lt_iff.mp this
      omega
  exact Int.le_antisymm (key a b) (key b a)
def stP (F : Fm) (P Q : Int) : Int := if F.l < lgP P Q - F.b + 1 then lgP P Q - F.b + 1 else F.l
theorem stP_spec {F : Fm} {P Q : Int} (hP : 0 < P) (hQ : 0 < Q) : IsS F ((P : Rat) / (Q : Rat)) (stP F P Q) := by
  obtain ⟨g1, g2⟩ := lgP_spec hP hQ
  unfold stP
  split
  · refine ⟨by omega, ?_, .inr ?_⟩
    · rw [show lgP P Q - F.b + 1 + F.b = lgP P Q + 1 by omega]; exact g2
    · rw [show lgP P Q - F.b + 1 - 1 + F.b = lgP P Q by omega]; exact g1
  · refine ⟨Int.le_refl _, ?_, .inl rfl⟩
    have := p2_le (s := lgP P Q + 1) (t := F.l + F.b) (by omega)
    grind
/-- .. of the fraction itself -/
def st (F : Fm) (y : Rat) : Int := if y = 0 then F.l else stP F y.num y.den
theorem st_spec {F : Fm} (hF : F.ok) {y : Rat} (hy : 0 ≤ y) : IsS F y (st F y) := by
  unfold st
  split
  · rename_i h
    subst h
    exact ⟨Int.le_refl _, p2_pos _, .inl rfl⟩
  · rename_i h
    have hd : (0 : Int) < y.den := by have := y.den_pos; omega
    have hn : 0 < y.num := by
      have : 0 ≤ y.num := Rat.num_nonneg.mpr hy
      have : y.num ≠ 0 := fun z => h (Rat.num_eq_zero.mp z)
      omega
    have := stP_spec (F := F) hn hd
    have e : (y.num : Rat) / ((y.den : Int) : Rat) = y := by
      rw [← Rat.divInt_eq_div]; exact Rat.num_divInt_den y
    rwa [e] at this
theorem stP_eq {F : Fm} (hF : F.ok) {P Q : Int} (hP : 0 < P) (hQ : 0 < Q) : stP F P Q = st F ((P : Rat) / (Q : Rat)) := by
  refine (stP_spec hP hQ).uniq (st_spec hF ?_)
  rw [rle_div (cast_pos hQ)]
  have := cast_pos hP
  grind
end Lk05
namespace Lk05
open PySem
/-! ### rounding -/
inductive Way where
  | up | down | cut | near | far
def Way.s : Way → Str
  | .up => "up" | .down => "down" | .cut => "cut" | .near => "near" | .far => "far"
def nn (F : Fm) (y : Rat) : Int := (y / p2 (st F y)).floor
def rho (F : Fm) (y : Rat) : Rat := y / p2 (st F y) - (nn F y : Rat)
def top (F : Fm) : Int := 2 ^ F.b.toNat
theorem top_p2 {F : Fm} (hF : F.ok) : p2 F.b = (top F : Rat) := p2_of _ (by have := hF.b1; omega)
theorem top_ge {F : Fm} (hF : F.ok) : 4 ≤ top F := by
  have := hF.b1
  obtain ⟨n, hn⟩ : ∃ n, F.b.toNat = n + 2 := ⟨F.b.toNat - 2, by omega⟩
  unfold top
  rw [hn, Int.pow_add]
  have : (0 : Int) < 2 ^ n := Int.pow_pos (by decide)
  omega
theorem y_eq (F : Fm) (y : Rat) : y = ((nn F y : Rat) + rho F y) * p2 (st F y) := by
  unfold rho
  have := p2_ne (st F y)
  grind
theorem rho_ge (F : Fm) (y : Rat) : 0 ≤ rho F y := by
  unfold rho nn
  have := Rat.floor_le (y / p2 (st F y))
  grind
theorem rho_lt (F : Fm) (y : Rat) : rho F y < 1 := by
  unfold rho nn
  have := Rat.lt_floor_add_one (y / p2 (st F y))
  rw [Rat.intCast_add] at this
  grind
theorem nn_ge {F : Fm} {y : Rat} (hy : 0 ≤ y) : 0 ≤ nn F y := by
  unfold nn
  rw [Rat.le_floor_iff, rle_div (p2_pos _)]
  simpa using hy
theorem nn_lt {F : Fm} (hF : F.ok) {y : Rat} (hy : 0 ≤ y) : nn F y < top F := by
  unfold nn
  rw [Rat.floor_lt_iff, Rat.div_lt_iff (p2_pos _), ← top_p2 hF, ← p2_add, Int.add_comm]
  exact (st_spec hF hy).lt
def outw (w : Way) (neg : Bool) (N : Int) (past : Rat) : Bool := match w with
  | .up => !neg
  | .down => neg
  | .cut => false
  | .near => if past = 0 then decide (N % 2 = 1) else decide (0 < past)
  | .far => if past = 0 then true else decide (0 < past)
def rndA (F : Fm) (w : Way) (neg : Bool) (y : Rat) : Option (Int × Int) :=
  if F.h < st F y then none else if rho F y = 0 then some (nn F y, st F y) else if st F y = F.h ∧ nn F y + 1 = top F then none
  else some (if outw w neg (nn F y) (2 * rho F y - 1) = true then nn F y + 1 else nn F y, st F y)
/-! ### odd parts -/
def ctz (n : Nat) : Nat := if h : n % 2 = 1 ∨ n = 0 then 0 else ctz (n / 2) + 1
theorem ctz_odd {n : Nat} (h : n % 2 = 1) : ctz n = 0 := by unfold ctz; rw [dif_pos (.inl h)]
theorem ctz_even {n : Nat} (h : n % 2 = 0) (h0 : n ≠ 0) : ctz n = ctz (n / 2) + 1 := by
  conv => lhs; unfold ctz
  rw [dif_neg (by omega)]
theorem ctz_split : ∀ n : Nat, n ≠ 0 → ∃ o, n = o * 2 ^ ctz n ∧ o % 2 = 1 := by
  intro n
  induction n using Nat.strongRecOn with
  | _ n ih =>
    intro h0
    rcases Nat.mod_two_eq_zero_or_one n with z | z
    · obtain ⟨o, h1, h2⟩ := ih (n / 2) (by omega) (by omega)
      refine ⟨o, ?_, h2⟩
      rw [ctz_even z h0, Nat.pow_succ]
      have : n = n / 2 * 2 := by omega
      conv => lhs; rw [this, h1]
      rw [Nat.mul_assoc]
    · exact ⟨n, by rw [ctz_odd z]; simp, z⟩
/-- as the program shapes it -/
def shp (d : Int × Int) : Int × Int := if d.1 = 0 then (0, 0) else (d.1 / 2 ^ ctz d.1.toNat, d.2 + (ctz d.1.toNat : Nat))
def ng (d : Int × Int) : Int × Int := (-d.1, d.2)
def val (d : Int × Int) : Rat := (d.1 : Rat) * p2 d.2
def nrm (d : Int × Int) : Prop := d = (0, 0) ∨ d.1 % 2 = 1
theorem val_ng (d : Int × Int) : val (ng d) = -val d := by
  unfold val ng
  rw [Rat.intCast_neg]; grind
theorem shp_split {N : Int} (h : 0 < N) : ∃ o : Int, 0 < o ∧ o % 2 = 1 ∧ N = o * 2 ^ ctz N.toNat ∧ N / 2 ^ ctz N.toNat = o := by
  obtain ⟨o, h1, h2⟩ := ctz_split N.toNat (by omega)
  have hp : (0 : Int) < 2 ^ ctz N.toNat := Int.pow_pos (by decide)
  have e : N = (o : Int) * 2 ^ ctz N.toNat := by
    have : (N.toNat : Int) = N := by omega
    rw [← this]
    exact_mod_cast h1
  refine ⟨o, by omega, by omega, e, ?_⟩
  conv => lhs; rw [e]
  rw [show ctz (↑o * 2 ^ ctz N.toNat : Int).toNat = ctz N.toNat by rw [← e]]
  exact Int.mul_ediv_cancel _ (by omega)
theorem val_shp {N s : Int} (h : 0 ≤ N) : val (shp (N, s)) = (N : Rat) * p2 s := by
  unfold shp val
  by_cases z : N = 0
  · subst z; simp
  · rw [if_neg z]
    obtain ⟨o, h1, h2, h3, h4⟩ := shp_split (N := N) (by omega)
    dsimp only
    rw [h4, p2_add, p2_nat]
    have e : (N : Rat) = (o : Rat) * (((2 : Int) ^ ctz N.toNat : Int) : Rat) := by
      conv => lhs; rw [h3]
      exact Rat.intCast_mul ..
    rw [e]; grind
theorem nrm_shp {N s : Int} (h : 0 ≤ N) : nrm (shp (N, s)) := by
  unfold shp
  by_cases z : N = 0
  · exact .inl (if_pos z)
  · rw [if_neg z]
    obtain ⟨o, h1, h2, h3, h4⟩ := shp_split (N := N) (by omega)
    refine .inr ?_
    dsimp only
    rw [h4]; exact h2
theorem nrm_ng {d : Int × Int} (h : nrm d) : nrm (ng d) := by
  rcases h with rfl | h
  · exact .inl rfl
  · refine .inr ?_
    unfold ng
    dsimp only
    omega
def rnd (F : Fm) (w : Way) (x : Rat) : Option (Int × Int) :=
  if x = 0 then some (0, 0) else if 0 < x then (rndA F w false x).map shp else (rndA F w true (-x)).map fun d => ng (shp d)
/-! ### the law's: one below, one above -/
def bel (F : Fm) (y : Rat) : Option Rat := if F.h < st F y then some (((top F - 1 : Int) : Rat) * p2 F.h) else some ((nn F y : Rat) * p2 (st F y))
def abo (F : Fm) (y : Rat) : Option Rat := if F.h < st F y then none else if rho F y = 0 then some ((nn F y : Rat) * p2 (st F y)) else if st F y = F.h ∧ nn F y + 1 = top F then none else some (((nn F y + 1 : Int) : Rat) * p2 (st F y))
def bes (F : Fm) (x : Rat) (above : Bool) : Option Rat := if x < 0 then (bif above then bel F (-x) else abo F (-x)).map fun z => -z else bif above then abo F x else bel F x
def pick (w : Way) (x one other : Rat) : Rat := if one = other then one else match w with
  | .up => other
  | .down => one
  | .cut => if 0 < x then one else other
  | .near => if x - one = other - x then (if (one / (other - one)).floor % 2 = 0 then one else other) else if x - one < other - x then one else other
  | .far => if x - one = other - x then (if 0 < x then other else one) else if x - one < other - x then one else other
def rndL (F : Fm) (w : Way) (x : Rat) : Option Rat := match bes F x false, bes F x true with
  | some one, some other => some (pick w x one other)
  | _, _ => none
theorem pick_pos {w : Way} {N : Int} {r : Rat} {s : Int} (hN : 0 ≤ N) (h0 : 0 < r) (h1 : r < 1) :
    pick w (((N : Rat) + r) * p2 s) ((N : Rat) * p2 s) (((N + 1 : Int) : Rat) * p2 s) = ((if outw w false N (2 * r - 1) = true then N + 1 else N : Int) : Rat) * p2 s := by
  have hp := p2_pos s
  have hc : ((N + 1 : Int) : Rat) = (N : Rat) + 1 := Rat.intCast_add ..
  have hn : (0 : Rat) ≤ (N : Rat) := by exact_mod_cast hN
  have hne : ¬ (N : Rat) * p2 s = ((N + 1 : Int) : Rat) * p2 s := by rw [hc]; grind
  have hx : 0 < ((N : Rat) + r) * p2 s := Rat.mul_pos (by grind) hp
  have ht : (((N : Rat) + r) * p2 s - (N : Rat) * p2 s = ((N + 1 : Int) : Rat) * p2 s - ((N : Rat) + r) * p2 s) ↔ 2 * r - 1 = 0 := by
    rw [hc]
    constructor
    · intro z; have := p2_ne s; grind
    · intro z; grind
  have hl : (((N : Rat) + r) * p2 s - (N : Rat) * p2 s < ((N + 1 : Int) : Rat) * p2 s - ((N : Rat) + r) * p2 s) ↔ ¬ 0 ≤ 2 * r - 1 := by
    rw [hc, show ((N : Rat) + r) * p2 s - (N : Rat) * p2 s = r * p2 s by grind, show ((N : Rat) + 1) * p2 s - ((N : Rat) + r) * p2 s = (1 - r) * p2 s by grind, Rat.mul_lt_mul_right hp]
    grind
  have hf : ((N : Rat) * p2 s / (((N + 1 : Int) : Rat) * p2 s - (N : Rat) * p2 s)).floor = N := by
    have : (N : Rat) * p2 s / (((N + 1 : Int) : Rat) * p2 s - (N : Rat) * p2 s) = (N : Rat) := by
      rw [hc]; have := p2_ne s; grind
    rw [this, Rat.floor_intCast]
  unfold pick
  rw [if_neg hne]
  cases w with
  | up => simp [outw]
  | down => simp [outw]
  | cut => rw [if_pos hx]; simp [outw]
  | near =>
    dsimp only
    rw [hf]
    by_cases z : 2 * r - 1 = 0
    · rw [if_pos (ht.mpr z)]
      unfold outw
      dsimp only
      rw [if_pos z]
      by_cases e : N % 2 = 0
      · rw [if_pos e, if_neg (by simp; omega)]
      · rw [if_neg e, if_pos (by simp; omega)]
    · rw [if_neg (fun q => z (ht.mp q))]
      unfold outw
      dsimp only
      rw [if_neg z]
      by_cases e : 0 < 2 * r - 1
      · rw [if_neg (fun q => (hl.mp q) (Rat.le_of_lt e)), if_pos (by simpa using e)]
      · rw [if_pos (hl.mpr (by grind)), if_neg (by simpa using e)]
  | far =>
    dsimp only
    by_cases z : 2 * r - 1 = 0
    · rw [if_pos (ht.mpr z), if_pos hx]
      unfold outw
      dsimp only
      rw [if_pos z]; simp
    · rw [if_neg (fun q => z (ht.mp q))]
      unfold outw
      dsimp only
      rw [if_neg z]
      by_cases e : 0 < 2 * r - 1
      · rw [if_neg (fun q => (hl.mp q) (Rat.le_of_lt e)), if_pos (by simpa using e)]
      · rw [if_pos (hl.mpr (by grind)), if_neg (by simpa using e)]
theorem pick_neg {w : Way} {N : Int} {r : Rat} {s : Int} (hN : 0 ≤ N) (h0 : 0 < r) (h1 : r < 1) :
    pick w (-(((N : Rat) + r) * p2 s)) (-(((N + 1 : Int) : Rat) * p2 s)) (-((N : Rat) * p2 s)) = -(((if outw w true N (2 * r - 1) = true then N + 1 else N : Int) : Rat) * p2 s) := by
  have hp := p2_pos s
  have hc : ((N + 1 : Int) : Rat) = (N : Rat) + 1 := Rat.intCast_add ..
  have hn : (0 : Rat) ≤ (N : Rat) := by exact_mod_cast hN
  have hne : ¬ -(((N + 1 : Int) : Rat) * p2 s) = -((N : Rat) * p2 s) := by rw [hc]; grind
  have hx' : 0 < ((N : Rat) + r) * p2 s := Rat.mul_pos (by grind) hp
  have hx : ¬ 0 < -(((N : Rat) + r) * p2 s) := by grind
  have ht : (-(((N : Rat) + r) * p2 s) - -(((N + 1 : Int) : Rat) * p2 s) = -((N : Rat) * p2 s) - -(((N : Rat) + r) * p2 s)) ↔ 2 * r - 1 = 0 := by
    rw [hc]
    constructor
    · intro z; have := p2_ne s; grind
    · intro z; grind
  have hl : (-(((N : Rat) + r) * p2 s) - -(((N + 1 : Int) : Rat) * p2 s) < -((N : Rat) * p2 s) - -(((N : Rat) + r) * p2 s)) ↔ 0 < 2 * r - 1 := by
    rw [hc, show -(((N : Rat) + r) * p2 s) - -(((N : Rat) + 1) * p2 s) = (1 - r) * p2 s by grind, show -((N : Rat) * p2 s) - -(((N : Rat) + r) * p2 s) = r * p2 s by grind, Rat.mul_lt_mul_right hp]
    grind
  have hf : (-(((N + 1 : Int) : Rat) * p2 s) / (-((N : Rat) * p2 s) - -(((N + 1 : Int) : Rat) * p2 s))).floor = -(N + 1) := by
    have : -(((N + 1 : Int) : Rat) * p2 s) / (-((N : Rat) * p2 s) - -(((N + 1 : Int) : Rat) * p2 s)) = ((-(N + 1) : Int) : Rat) := by
      rw [Rat.intCast_neg, hc]; have := p2_ne s; grind
    rw [this, Rat.floor_intCast]
  unfold pick
  rw [if_neg hne]
  cases w with
  | up => simp [outw]
  | down => simp [outw]
  | cut => rw [if_neg hx]; simp [outw]
  | near =>
    dsimp only
    rw [hf]
    by_cases z : 2 * r - 1 = 0
    · rw [if_pos (ht.mpr z)]
      unfold outw
      dsimp only
      rw [if_pos z]
      by_cases e : N % 2 = 1
      · rw [if_pos (by omega), if_pos (by simpa using e)]
      · rw [if_neg (by omega), if_neg (by simpa using e)]
    · rw [if_neg (fun q => z (ht.mp q))]
      unfold outw
      dsimp only
      rw [if_neg z]
      by_cases e : 0 < 2 * r - 1
      · rw [if_pos (hl.mpr e), if_pos (by simpa using e)]
      · rw [if_neg (fun q => e (hl.mp q)), if_neg (by simpa using e)]
  | far =>
    dsimp only
    by_cases z : 2 * r - 1 = 0
    · rw [if_pos (ht.mpr z), if_neg hx]
      unfold outw
      dsimp only
      rw [if_pos z]; simp
    · rw [if_neg (fun q => z (ht.mp q))]
      unfold outw
      dsimp only
      rw [if_neg z]
      by_cases e : 0 < 2 * r - 1
      · rw [if_pos (hl.mpr e), if_pos (by simpa using e)]
      · rw [if_neg (fun q => e (hl.mp q)), if_neg (by simpa using e)]
theorem out_ge {w : Way} {b : Bool} {N : Int} {r : Rat} (h : 0 ≤ N) : 0 ≤ (if outw w b N r = true then N + 1 else N) := by split <;> omega
theorem rnd_law {F : Fm} (hF : F.ok) (w : Way) (x : Rat) : rndL F w x = (rnd F w x).map val := by
  have hlh := hF.lh
  by_cases h0 : x = 0
  · subst h0
    have s0 : st F 0 = F.l := if_pos rfl
    have n0 : nn F 0 = 0 := by unfold nn; rw [show (0 : Rat) / p2 (st F 0) = ((0 : Int) : Rat) by grind, Rat.floor_intCast]
    have r0 : rho F 0 = 0 := by unfold rho; rw [n0]; grind
    have e1 : bel F 0 = some 0 := by unfold bel; rw [s0, if_neg (by omega), n0]; simp
    have e2 : abo F 0 = some 0 := by unfold abo; rw [s0, if_neg (by omega), r0, if_pos rfl, n0]; simp
    unfold rndL bes rnd
    rw [if_neg (by decide), if_neg (by decide), if_pos rfl]
    simp only [cond_false, cond_true, e1, e2, pick, if_true]
    simp [val]
  · by_cases hx : 0 < x
    · have hy : 0 ≤ x := Rat.le_of_lt hx
      have hl : ¬ x < 0 := by grind
      unfold rndL bes rnd
      rw [if_neg hl, if_neg hl, if_neg h0, if_pos hx]
      simp only [cond_false, cond_true]
      unfold bel abo rndA
      have hn := nn_ge (F := F) hy
      by_cases c1 : F.h < st F x
      · rw [if_pos c1, if_pos c1, if_pos c1]; rfl
      · rw [if_neg c1, if_neg c1, if_neg c1]
        by_cases c2 : rho F x = 0
        · rw [if_pos c2, if_pos c2]
          simp only [Option.map_some, pick, if_true]
          rw [val_shp hn]
        · rw [if_neg c2, if_neg c2]
          by_cases c3 : st F x = F.h ∧ nn F x + 1 = top F
          · rw [if_pos c3, if_pos c3]; rfl
          · rw [if_neg c3, if_neg c3]
            simp only [Option.map_some]
            rw [val_shp (out_ge hn)]
            have := pick_pos (w := w) (s := st F x) hn (by have := rho_ge F x; grind) (rho_lt F x)
            rw [← y_eq] at this
            rw [this]
    · have hl : x < 0 := by grind
      have hy : 0 ≤ -x := by grind
      unfold rndL bes rnd
      rw [if_pos hl, if_pos hl, if_neg h0, if_neg hx]
      simp only [cond_false, cond_true]
      unfold bel abo rndA
      have hn := nn_ge (F := F) hy
      by_cases c1 : F.h < st F (-x)
      · rw [if_pos c1, if_pos c1, if_pos c1]; rfl
      · rw [if_neg c1, if_neg c1, if_neg c1]
        by_cases c2 : rho F (-x) = 0
        · rw [if_pos c2, if_pos c2]
          simp only [Option.map_some, pick, if_true]
          rw [val_ng, val_shp hn]
        · rw [if_neg c2, if_neg c2]
          by_cases c3 : st F (-x) = F.h ∧ nn F (-x) + 1 = top F
          · rw [if_pos c3, if_pos c3]; rfl
          · rw [if_neg c3, if_neg c3]
            simp only [Option.map_some]
            rw [val_ng, val_shp (out_ge hn)]
            have := pick_neg (w := w) (s := st F (-x)) hn (by have := rho_ge F (-x); grind) (rho_lt F (-x))
            rw [← y_eq, Rat.neg_neg] at this
            rw [this]
end Lk05
namespace Lk05
open PySem
/-! ### dyads that a format has -/
theorem val_zero : val (0, 0) = 0 := by simp [val]
theorem odd_ne {m : Int} (h : m % 2 = 1) : (m : Rat) ≠ 0 := by
  have : m ≠ 0 := by omega
  exact_mod_cast this
theorem nrm_inj {d d' : Int × Int} (h : nrm d) (h' : nrm d') (e : val d = val d') : d = d' := by
  have key : ∀ {m e m' e' : Int}, m % 2 = 1 → m' % 2 = 1 → (m : Rat) * p2 e = (m' : Rat) * p2 e' → e ≤ e' → e = e' ∧ m = m' := by
    intro m e m' e' o o' q le
    have hp := p2_ne e
    have e1 : p2 e' = p2 e * p2 (e' - e) := by rw [← p2_add]; congr 1; omega
    have q2 : (m : Rat) = (m' : Rat) * p2 (e' - e) := by rw [e1] at q; grind
    rw [p2_of (e' - e) (by omega)] at q2
    have q3 : m = m' * 2 ^ (e' - e).toNat := by exact_mod_cast q2
    by_cases z : e = e'
    · subst z
      rw [Int.sub_self] at q3
      exact ⟨rfl, by simpa using q3⟩
    · obtain ⟨n, hn⟩ : ∃ n, (e' - e).toNat = n + 1 := ⟨(e' - e).toNat - 1, by omega⟩
      rw [hn, Int.pow_succ, ← Int.mul_assoc] at q3
      generalize m' * 2 ^ n = t at q3
      omega
  obtain ⟨m, a⟩ := d
  obtain ⟨m', a'⟩ := d'
  have e : (m : Rat) * p2 a = (m' : Rat) * p2 a' := e
  have pa := p2_ne a
  have pa' := p2_ne a'
  rcases h with h | h <;> rcases h' with h' | h'
  · rw [h, h']
  · cases h
    have := odd_ne (m := m') h'
    exfalso
    rw [show ((0 : Int) : Rat) * p2 0 = 0 by simp] at e
    rcases Rat.mul_eq_zero.mp e.symm with z | z
    · exact this z
    · exact pa' z
  · cases h'
    have := odd_ne (m := m) h
    exfalso
    rw [show ((0 : Int) : Rat) * p2 0 = 0 by simp] at e
    rcases Rat.mul_eq_zero.mp e with z | z
    · exact this z
    · exact pa z
  · have h : m % 2 = 1 := h
    have h' : m' % 2 = 1 := h'
    rcases Int.le_total a a' with z | z
    · obtain ⟨rfl, rfl⟩ := key h h' e z; rfl
    · obtain ⟨rfl, rfl⟩ := key h' h e.symm z; rfl
structure inF (F : Fm) (d : Int × Int) : Prop where
  nrm : nrm d
  l : d.1 = 0 ∨ F.l ≤ d.2
  lt : -p2 (F.h + F.b) < val d ∧ val d < p2 (F.h + F.b)
  m : -top F < d.1 ∧ d.1 < top F
theorem inF.ng {F : Fm} {d : Int × Int} (h : inF F d) : inF F (ng d) := by
  refine ⟨nrm_ng h.nrm, ?_, ?_, ?_⟩
  · rcases h.l with z | z
    · left; show -d.1 = 0; omega
    · exact .inr z
  · rw [val_ng]; have := h.lt; grind
  · have := h.m; show -top F < -d.1 ∧ -d.1 < top F; omega
theorem inF_0 {F : Fm} (hF : F.ok) : inF F (0, 0) := ⟨.inl rfl, .inl rfl, by rw [val_zero]; have := p2_pos (F.h + F.b); grind, by have := top_ge hF; show -top F < 0 ∧ 0 < top F; omega⟩
theorem inF_shp {F : Fm} (hF : F.ok) {N s : Int} (h0 : 0 ≤ N) (hl : F.l ≤ s) (hs : s ≤ F.h) (hN : N < top F ∨ (N = top F ∧ s < F.h)) : inF F (shp (N, s)) := by
  have ht := top_ge hF
  have hv := val_shp (s := s) h0
  have hb := top_p2 hF
  have hp := p2_pos s
  have up : (N : Rat) * p2 s < p2 (F.h + F.b) := by
    rcases hN with z | ⟨rfl, z⟩
    · have e1 : (N : Rat) < (top F : Rat) := by exact_mod_cast z
      have e2 := Rat.mul_lt_mul_of_pos_right e1 hp
      rw [← hb, ← p2_add] at e2
      have := p2_le (s := F.b + s) (t := F.h + F.b) (by omega)
      grind
    · rw [← hb, ← p2_add]; exact p2_lt (by omega)
  have lo : 0 ≤ (N : Rat) * p2 s := by
    have : (0 : Rat) ≤ (N : Rat) := by exact_mod_cast h0
    have := Rat.mul_le_mul_of_nonneg_right this (Rat.le_of_lt hp)
    grind
  have hpp := p2_pos (F.h + F.b)
  refine ⟨nrm_shp h0, ?_, by rw [hv]; grind, ?_⟩
  · unfold shp
    split
    · exact .inl rfl
    · right; show F.l ≤ s + _; omega
  · unfold shp
    split
    · show -top F < 0 ∧ 0 < top F; omega
    · rename_i z
      have z : N ≠ 0 := z
      obtain ⟨o, o1, o2, o3, o4⟩ := shp_split (N := N) (by omega)
      show -top F < N / 2 ^ ctz N.toNat ∧ N / 2 ^ ctz N.toNat < top F
      rw [o4]
      rcases hN with q | ⟨rfl, q⟩
      · have : o ≤ N := by
          conv => rhs; rw [o3]
          have : (0 : Int) < 2 ^ ctz N.toNat := Int.pow_pos (by decide)
          have := Int.mul_le_mul_of_nonneg_left (show (1 : Int) ≤ 2 ^ ctz N.toNat by omega) (show 0 ≤ o by omega)
          omega
        omega
      · have : o ≤ top F := by
          conv => rhs; rw [o3]
          have : (0 : Int) < 2 ^ ctz (top F).toNat := Int.pow_pos (by decide)
          have := Int.mul_le_mul_of_nonneg_left (show (1 : Int) ≤ 2 ^ ctz (top F).toNat by omega) (show 0 ≤ o by omega)
          omega
        have ne : o ≠ top F := fun e => by
          have : top F % 2 = 0 := by
            unfold top
            have := hF.b1
            obtain ⟨n, hn⟩ : ∃ n, F.b.toNat = n + 1 := ⟨F.b.toNat - 1, by omega⟩
            rw [hn, Int.pow_succ]; omega
          rw [← e] at this; omega
        omega
theorem rndA_in {F : Fm} (hF : F.ok) {w : Way} {neg : Bool} {y : Rat} (hy : 0 ≤ y) {d : Int × Int} (h : rndA F w neg y = some d) : inF F (shp d) ∧ 0 ≤ d.1 := by
  have hs := st_spec hF hy
  have hn := nn_ge (F := F) hy
  have hlt := nn_lt hF hy
  have sl := hs.l
  unfold rndA at h
  by_cases c1 : F.h < st F y
  · rw [if_pos c1] at h; cases h
  · rw [if_neg c1] at h
    by_cases c2 : rho F y = 0
    · rw [if_pos c2] at h; cases h
      exact ⟨inF_shp hF hn sl (by omega) (.inl hlt), hn⟩
    · rw [if_neg c2] at h
      by_cases c3 : st F y = F.h ∧ nn F y + 1 = top F
      · rw [if_pos c3] at h; cases h
      · rw [if_neg c3] at h; cases h
        refine ⟨inF_shp hF (out_ge hn) sl (by omega) ?_, out_ge hn⟩
        split
        · rcases Classical.em (nn F y + 1 = top F) with z | z
          · right; refine ⟨z, ?_⟩
            have : st F y ≠ F.h := fun q => c3 ⟨q, z⟩
            omega
          · left; omega
        · left; omega
theorem rnd_in {F : Fm} (hF : F.ok) {w : Way} {x : Rat} {d : Int × Int} (h : rnd F w x = some d) : inF F d := by
  unfold rnd at h
  by_cases h0 : x = 0
  · rw [if_pos h0] at h; cases h; exact inF_0 hF
  · rw [if_neg h0] at h
    by_cases hx : 0 < x
    · rw [if_pos hx] at h
      obtain ⟨d', e, rfl⟩ := Option.map_eq_some_iff.mp h
      exact (rndA_in hF (Rat.le_of_lt hx) e).1
    · rw [if_neg hx] at h
      obtain ⟨d', e, rfl⟩ := Option.map_eq_some_iff.mp h
      exact (rndA_in hF (by grind) e).1.ng
/-- what a format has is told as it is -/
theorem rndA_self {F : Fm} (hF : F.ok) {w : Way} {neg : Bool} {m e : Int} (hm : 0 < m) (ho : m % 2 = 1) (h : inF F (m, e)) : (rndA F w neg (val (m, e))).map shp = some (m, e) := by
  have hp := p2_pos e
  have hmr : (0 : Rat) < (m : Rat) := cast_pos hm
  have hy : 0 < val (m, e) := Rat.mul_pos hmr hp
  have hS := st_spec hF (Rat.le_of_lt hy)
  have hl : F.l ≤ e := by
    rcases h.l with z | z
    · have : m = 0 := z; omega
    · exact z
  have lt1 : val (m, e) < p2 (F.b + e) := by
    rw [p2_add, top_p2 hF]
    have : (m : Rat) < (top F : Rat) := by exact_mod_cast h.m.2
    exact Rat.mul_lt_mul_of_pos_right this hp
  have se : st F (val (m, e)) ≤ e := by
    rcases hS.le with z | z
    · omega
    · have : p2 (st F (val (m, e)) - 1 + F.b) < p2 (F.b + e) := by grind
      have := p2_lt_iff.mp this
      omega
  have sh : ¬ F.h < st F (val (m, e)) := by
    rcases hS.le with z | z
    · have := hF.lh; omega
    · have h2 := h.lt.2
      have : p2 (st F (val (m, e)) - 1 + F.b) < p2 (F.h + F.b) := by grind
      have := p2_lt_iff.mp this
      omega
  have q : val (m, e) / p2 (st F (val (m, e))) = ((m * 2 ^ (e - st F (val (m, e))).toNat : Int) : Rat) := by
    rw [Rat.intCast_mul, ← p2_of _ (by omega), p2_sub]
    unfold val
    grind
  have hn : nn F (val (m, e)) = m * 2 ^ (e - st F (val (m, e))).toNat := by
    unfold nn
    rw [q, Rat.floor_intCast]
  have hr : rho F (val (m, e)) = 0 := by
    unfold rho
    rw [hn, q]; grind
  unfold rndA
  rw [if_neg sh, if_pos hr]
  simp only [Option.map_some]
  have n0 := nn_ge (F := F) (Rat.le_of_lt hy)
  refine congrArg some (nrm_inj (nrm_shp n0) (.inr ho) ?_)
  rw [val_shp n0]
  have := y_eq F (val (m, e))
  rw [hr] at this
  rw [this]
  grind
theorem rnd_self {F : Fm} (hF : F.ok) {w : Way} {d : Int × Int} (h : inF F d) : rnd F w (val d) = some d := by
  obtain ⟨m, e⟩ := d
  rcases h.nrm with z | z
  · cases z
    unfold rnd
    rw [val_zero, if_pos rfl]
  · have z : m % 2 = 1 := z
    have hp := p2_pos e
    unfold rnd
    rcases Int.lt_trichotomy m 0 with c | c | c
    · have hv : val (m, e) < 0 := by
        have : (0 : Rat) < ((-m : Int) : Rat) := cast_pos (by omega)
        have := Rat.mul_pos this hp
        rw [Rat.intCast_neg] at this
        show (m : Rat) * p2 e < 0
        grind
      rw [if_neg (by grind), if_neg (by grind)]
      have e1 : -val (m, e) = val (-m, e) := by rw [← val_ng]; rfl
      have := rndA_self hF (w := w) (neg := true) (m := -m) (e := e) (by omega) (by omega) h.ng
      rw [e1]
      obtain ⟨d', q1, q2⟩ := Option.map_eq_some_iff.mp this
      rw [q1]
      simp only [Option.map_some, q2]
      show some (- -m, e) = _
      rw [Int.neg_neg]
    · omega
    · have hv : 0 < val (m, e) := Rat.mul_pos (cast_pos c) hp
      rw [if_neg (by grind), if_pos hv]
      exact rndA_self hF c z h
theorem rnd_nrm {F : Fm} (hF : F.ok) {w : Way} {x : Rat} {d : Int × Int} (h : rnd F w x = some d) : nrm d := (rnd_in hF h).nrm
end Lk05
namespace Lk05
open PySem
/-! ### bits -/
theorem and_pred : ∀ n : Nat, n ≠ 0 → n &&& (n - 1) = n - 2 ^ ctz n := by
  intro n
  induction n using Nat.strongRecOn with
  | _ n ih =>
    intro h0
    have e1 : (n &&& (n - 1)) / 2 = n / 2 &&& (n - 1) / 2 := Nat.and_div_two
    have e2 : (n &&& (n - 1)) % 2 = 0 := by
      have := Nat.and_mod_two_pow (a := n) (b := n - 1) (n := 1)
      simp only [Nat.pow_one] at this
      rw [this]
      rcases Nat.mod_two_eq_zero_or_one n with z | z
      · rw [z]; simp
      · rw [show (n - 1) % 2 = 0 by omega]; simp
    rcases Nat.mod_two_eq_zero_or_one n with z | z
    · have hk : n / 2 ≠ 0 := by omega
      have h := ih (n / 2) (by omega) hk
      rw [show (n - 1) / 2 = n / 2 - 1 by omega, h] at e1
      rw [ctz_even z h0, Nat.pow_succ]
      have hle : 2 ^ ctz (n / 2) ≤ n / 2 := by
        obtain ⟨o, h1, h2⟩ := ctz_split (n / 2) hk
        conv => rhs; rw [h1]
        have := Nat.mul_le_mul_right (2 ^ ctz (n / 2)) (show 1 ≤ o by omega)
        omega
      omega
    · rw [show (n - 1) / 2 = n / 2 by omega, Nat.and_self] at e1
      rw [ctz_odd z, Nat.pow_zero]
      omega
theorem band_neg {N : Int} (h : 0 < N) : Builtin.bitAnd N (-N) = 2 ^ ctz N.toNat := by
  obtain ⟨n, rfl⟩ := Int.eq_ofNat_of_zero_le (Int.le_of_lt h)
  rw [PyProof.Rows.bitAnd_pn (by omega) (by omega)]
  have e : (Builtin.bitNot (-(n : Int))).toNat = n - 1 := by
    have : Builtin.bitNot (-(n : Int)) = (n : Int) - 1 := by unfold Builtin.bitNot; omega
    rw [this]; omega
  rw [e, Int.toNat_natCast, and_pred n (by omega)]
  have hle : 2 ^ ctz n ≤ n := by
    obtain ⟨o, h1, h2⟩ := ctz_split n (by omega)
    conv => rhs; rw [h1]
    have := Nat.mul_le_mul_right (2 ^ ctz n) (show 1 ≤ o by omega)
    omega
  rw [Int.natCast_sub hle, Int.natCast_pow]
  show (n : Int) - ((n : Int) - 2 ^ ctz n) = _
  omega
theorem bits_pow (k : Nat) : Builtin.Int.intBits (2 ^ k) = k + 1 := by
  unfold Builtin.Int.intBits
  have h : ((2 : Int) ^ k).natAbs = 2 ^ k := by rw [Int.natAbs_pow]; rfl
  have h0 : (0 : Int) < 2 ^ k := Int.pow_pos (by decide)
  rw [if_neg (by simp; omega), h, Nat.log2_two_pow]
theorem band_one (i : Int) : Builtin.bitAnd i 1 = i % 2 := by
  exact PyProof.Rows.bitAnd_m1 i
/-! ### outward, by whole numbers -/
def outI (w : Way) (neg : Bool) (N p : Int) : Bool := match w with
  | .up => !neg
  | .down => neg
  | .cut => false
  | .near => if p = 0 then decide (N % 2 = 1) else decide (0 < p)
  | .far => if p = 0 then true else decide (0 < p)
theorem out_eq {w : Way} {neg : Bool} {N R B : Int} {r : Rat} (hB : 0 < B) (h : r = (R : Rat) / (B : Rat)) : outw w neg N (2 * r - 1) = outI w neg N (2 * R - B) := by
  have hb := cast_pos hB
  have e : (2 * r - 1) * (B : Rat) = ((2 * R - B : Int) : Rat) := by
    rw [h, Rat.intCast_sub, Rat.intCast_mul]
    show _ = ((2 : Int) : Rat) * R - B
    have : ((2 : Int) : Rat) = 2 := rfl
    rw [this]; grind
  have z : (2 * r - 1 = 0) ↔ (2 * R - B = 0) := by
    constructor
    · intro q
      rw [q, Rat.zero_mul] at e
      exact_mod_cast e.symm
    · intro q
      rw [q] at e
      rcases Rat.mul_eq_zero.mp (show (2 * r - 1) * (B : Rat) = 0 by rw [e]; rfl) with z | z
      · exact z
      · rw [z] at hb; exact absurd hb (by decide)
  have p : (0 < 2 * r - 1) ↔ (0 < 2 * R - B) := by
    have : (0 < 2 * r - 1) ↔ 0 * (B : Rat) < (2 * r - 1) * (B : Rat) := (Rat.mul_lt_mul_right hb).symm
    rw [this, e, Rat.zero_mul]
    exact_mod_cast Iff.rfl
  cases w <;> simp only [outw, outI, z, p]
/-! ### the nearest whole one -/
def whl (v : Rat) : Int := if 1 / 2 < v - (v.floor : Rat) ∨ (v - (v.floor : Rat) = 1 / 2 ∧ v.floor % 2 = 1) then v.floor + 1 else v.floor
theorem whl_div {P Q : Int} (hQ : 0 < Q) : whl ((P : Rat) / (Q : Rat)) = if 2 * (P % Q) > Q ∨ (2 * (P % Q) = Q ∧ P / Q % 2 = 1) then P / Q + 1 else P / Q := by
  have hq := cast_pos hQ
  have hf := floor_div (A := P) hQ
  have hr := frac_div (A := P) hQ
  have a : (1 / 2 < (P : Rat) / (Q : Rat) - (((P : Rat) / (Q : Rat)).floor : Rat)) ↔ 2 * (P % Q) > Q := by
    rw [hf, hr, Rat.lt_div_iff hq]
    have : (1 / 2 * (Q : Rat) < ((P % Q : Int) : Rat)) ↔ ((Q : Rat) < ((2 * (P % Q) : Int) : Rat)) := by
      rw [Rat.intCast_mul]
      have : ((2 : Int) : Rat) = 2 := rfl
      rw [this]
      constructor <;> intro h <;> grind
    rw [this]
    exact_mod_cast Iff.rfl
  have b : ((P : Rat) / (Q : Rat) - (((P : Rat) / (Q : Rat)).floor : Rat) = 1 / 2) ↔ 2 * (P % Q) = Q := by
    rw [hf, hr]
    have : (((P % Q : Int) : Rat) / (Q : Rat) = 1 / 2) ↔ (((2 * (P % Q) : Int) : Rat) = (Q : Rat)) := by
      rw [Rat.intCast_mul]
      have : ((2 : Int) : Rat) = 2 := rfl
      rw [this]
      constructor <;> intro h <;> grind
    rw [this]
    exact_mod_cast Iff.rfl
  unfold whl
  rw [hf] at a b ⊢
  simp only [a, b]
/-! ### what the program's exact ones are -/
theorem less_val (m e m' e' : Int) : scl m (e - e') < scl m' (e' - e) ↔ val (m, e) < val (m', e') := by
  have key : ∀ m e e' : Int, (m : Rat) * p2 e = ((scl m (e - e') : Int) : Rat) * p2 (min e e') := by
    intro m e e'
    unfold scl
    by_cases h : 0 < e - e'
    · rw [if_pos h, Rat.intCast_mul, ← p2_of _ (by omega), show min e e' = e' by omega, Rat.mul_assoc, ← p2_add]
      congr 2; omega
    · rw [if_neg h, show min e e' = e by omega]
  unfold val
  dsimp only
  rw [key m e e', key m' e' e, show min e' e = min e e' by omega, Rat.mul_lt_mul_right (p2_pos _)]
  exact_mod_cast Iff.rfl
theorem sum_val (m e m' e' : Int) : ((scl m (e - e') + scl m' (e' - e) : Int) : Rat) * p2 (min e e') = val (m, e) + val (m', e') := by
  have key : ∀ m e e' : Int, (m : Rat) * p2 e = ((scl m (e - e') : Int) : Rat) * p2 (min e e') := by
    intro m e e'
    unfold scl
    by_cases h : 0 < e - e'
    · rw [if_pos h, Rat.intCast_mul, ← p2_of _ (by omega), show min e e' = e' by omega, Rat.mul_assoc, ← p2_add]
      congr 2; omega
    · rw [if_neg h, show min e e' = e by omega]
  unfold val
  dsimp only
  rw [key m e e', key m' e' e, show min e' e = min e e' by omega, Rat.intCast_add]
  grind
theorem parts_val (m e : Int) : ((scl m e : Int) : Rat) / ((scl 1 (-e) : Int) : Rat) = val (m, e) := scl_val' m e
theorem over_val {m e m' e' : Int} (h : m' ≠ 0) : ((scl (if 0 < m' then m else -m) (e - e') : Int) : Rat) / ((scl m'.natAbs (e' - e) : Int) : Rat) = val (m, e) / val (m', e') := by
  have ha : (0 : Int) < (m'.natAbs : Int) := by omega
  have := scl_div (P := (if 0 < m' then m else -m)) (Q := m'.natAbs) (e' - e) ha
  rw [show -(e' - e) = e - e' by omega] at this
  rw [this]
  unfold val
  dsimp only
  have p1 := p2_ne e
  have p3 := p2_ne e'
  have hm : (m' : Rat) ≠ 0 := by exact_mod_cast h
  rw [p2_sub]
  by_cases c : 0 < m'
  · rw [if_pos c, show ((m'.natAbs : Int)) = m' by omega]
    grind
  · rw [if_neg c, show ((m'.natAbs : Int)) = -m' by omega, Rat.intCast_neg, Rat.intCast_neg]
    grind
/-! ### sizes -/
def Bn (n : Nat) (i : Int) : Prop := i.natAbs < 2 ^ n
theorem Bn.up {n k : Nat} {i : Int} (h : Bn n i) (hk : n ≤ k) : Bn k i := Nat.lt_of_lt_of_le h (Nat.pow_le_pow_right (by decide) hk)
theorem Bn.mul {n k : Nat} {i j : Int} (h : Bn n i) (h' : Bn k j) : Bn (n + k) (i * j) := by
  unfold Bn at *
  rw [Int.natAbs_mul, Nat.pow_add]
  exact Nat.mul_lt_mul'' h h'
theorem Bn.pow (n : Nat) : Bn (n + 1) (2 ^ n) := by
  unfold Bn
  rw [Int.natAbs_pow]
  exact Nat.pow_lt_pow_right (by decide) (by omega)
theorem Bn.scl {n : Nat} {i e : Int} {k : Nat} (h : Bn n i) (he : e ≤ k) : Bn (n + k + 1) (scl i e) := by
  unfold Lk05.scl
  split
  · have := h.mul (Bn.pow e.toNat)
    exact this.up (by omega)
  · exact h.up (by omega)
theorem Bn.add {n : Nat} {i j : Int} (h : Bn n i) (h' : Bn n j) : Bn (n + 1) (i + j) := by
  unfold Bn at *
  rw [Nat.pow_succ]; omega
theorem Bn.neg {n : Nat} {i : Int} (h : Bn n i) : Bn n (-i) := by unfold Bn at *; omega
theorem Bn.abs {n : Nat} {i : Int} (h : Bn n i) : Bn n (i.natAbs : Int) := by unfold Bn at *; omega
theorem Bn.one : Bn 1 1 := by unfold Bn; decide
theorem bits_le {n : Nat} {i : Int} (h : Bn n i) : Builtin.Int.intBits i ≤ n := by
  exact PyProof.Rows.intBits_le h
/-- of a dyad that is told -/
structure Sm (d : Int × Int) : Prop where
  m : Bn 24 d.1
  e : -40 ≤ d.2 ∧ d.2 ≤ 64
theorem top_le {F : Fm} (hF : F.ok) : top F ≤ 2 ^ 24 := by
  have h : (2 : Nat) ^ F.b.toNat ≤ 2 ^ 24 := Nat.pow_le_pow_right (by decide) (by have := hF.b2; omega)
  unfold top
  exact_mod_cast h
theorem inF.sm {F : Fm} (hF : F.ok) {d : Int × Int} (h : inF F d) : Sm d := by
  have ht := top_le hF
  obtain ⟨m, e⟩ := d
  have hm := h.m
  have l1 := hF.l1
  have h1 := hF.h1
  have b2 := hF.b2
  refine ⟨?_, ?_⟩
  · show m.natAbs < 2 ^ 24
    have hm : -top F < m ∧ m < top F := hm
    have : (2 : Int) ^ 24 = 16777216 := by decide
    have : (2 : Nat) ^ 24 = 16777216 := by decide
    omega
  · show -40 ≤ e ∧ e ≤ 64
    rcases h.nrm with z | z
    · cases z; decide
    · have z : m % 2 = 1 := z
      have hl : F.l ≤ e := by
        rcases h.l with q | q
        · have : m = 0 := q; omega
        · exact q
      refine ⟨by omega, ?_⟩
      have hp := p2_pos e
      have up : p2 e < p2 (F.h + F.b) := by
        rcases Int.lt_or_le 0 m with c | c
        · have : (1 : Rat) ≤ (m : Rat) := by exact_mod_cast c
          have := Rat.mul_le_mul_of_nonneg_right this (Rat.le_of_lt hp)
          have h2 : (m : Rat) * p2 e < p2 (F.h + F.b) := h.lt.2
          grind
        · have : (m : Rat) ≤ ((-1 : Int) : Rat) := by exact_mod_cast (show m ≤ -1 by omega)
          have := Rat.mul_le_mul_of_nonneg_right this (Rat.le_of_lt hp)
          have h2 : -p2 (F.h + F.b) < (m : Rat) * p2 e := h.lt.1
          have h3 : ((-1 : Int) : Rat) = -1 := rfl
          rw [h3] at this
          grind
      have := p2_lt_iff.mp up
      omega
end Lk05
namespace Lk05
open PySem
/-! ### lowest terms -/
theorem num_div {P Q : Int} (hQ : 0 < Q) : ((P : Rat) / (Q : Rat)).num = P / (Int.gcd P Q : Nat) ∧ ((((P : Rat) / (Q : Rat)).den : Nat) : Int) = Q / (Int.gcd P Q : Nat) := by
  rw [← Rat.divInt_eq_div]
  constructor
  · rw [Rat.num_divInt, Int.sign_eq_one_of_pos hQ, Int.one_mul, Int.gcd_comm]
  · rw [Rat.den_divInt, if_neg (by omega), Int.gcd_comm Q P]
    rw [Int.natCast_ediv]
    congr 1
    omega
theorem self_div (v : Rat) : (v.num : Rat) / ((v.den : Int) : Rat) = v := by
  rw [← Rat.divInt_eq_div]; exact Rat.num_divInt_den v
theorem den_pos (v : Rat) : (0 : Int) < v.den := by have := v.den_pos; omega
theorem num_le {P Q : Int} (hQ : 0 < Q) {n : Nat} (h : Bn n P) : Bn n ((P : Rat) / (Q : Rat)).num := by
  rw [(num_div hQ).1]
  unfold Bn at *
  have : (P / (Int.gcd P Q : Nat)).natAbs ≤ P.natAbs := by
    rw [Int.natAbs_ediv_of_dvd (Int.gcd_dvd_left ..)]
    exact Nat.div_le_self _ _
  omega
theorem den_le {P Q : Int} (hQ : 0 < Q) {n : Nat} (h : Bn n Q) : Bn n ((((P : Rat) / (Q : Rat)).den : Nat) : Int) := by
  rw [(num_div hQ).2]
  unfold Bn at *
  have : (Q / (Int.gcd P Q : Nat)).natAbs ≤ Q.natAbs := by
    rw [Int.natAbs_ediv_of_dvd (Int.gcd_dvd_right ..)]
    exact Nat.div_le_self _ _
  omega
/-- a told dyad as a fraction -/
theorem val_frac {d : Int × Int} (h : nrm d) : (val d).num = scl d.1 d.2 ∧ (((val d).den : Nat) : Int) = scl 1 (-d.2) := by
  obtain ⟨m, e⟩ := d
  have hq := scl_one (-e)
  have g : Int.gcd (scl m e) (scl 1 (-e)) = 1 := by
    unfold scl
    by_cases c : 0 < e
    · rw [if_neg (show ¬ 0 < -e by omega)]; exact Int.gcd_one_right ..
    · rw [if_neg c]
      by_cases c2 : 0 < -e
      · rw [if_pos c2, Int.one_mul]
        rcases h with h | h
        · cases h; exact absurd c2 (by decide)
        · have h : m % 2 = 1 := h
          have hc : Nat.Coprime m.natAbs 2 := by
            have h3 : m.natAbs % 2 = 1 := by omega
            show Nat.gcd m.natAbs 2 = 1
            rw [Nat.gcd_comm, Nat.gcd_rec, h3]; rfl
          have := Nat.Coprime.pow_right (-e).toNat hc
          unfold Int.gcd
          rw [Int.natAbs_pow]
          exact this
      · rw [if_neg c2]; exact Int.gcd_one_right ..
  have := num_div (P := scl m e) hq
  rw [parts_val, g] at this
  simpa using this
/-! ### the law's search -/
theorem floor_is {z : Rat} {k : Int} (h1 : (k : Rat) ≤ z) (h2 : z < (k : Rat) + 1) : z.floor = k := by
  have a := Rat.le_floor_iff.mpr h1
  have b : z.floor < k + 1 := by
    rw [Rat.floor_lt_iff, Rat.intCast_add]
    exact h2
  omega
/-- how many steps of 2 ^ a, the next one if that is asked -/
def cl (y : Rat) (a : Int) (ab : Bool) : Int := (y / p2 a).floor + (if ab = true ∧ y / p2 a - ((y / p2 a).floor : Rat) ≠ 0 then 1 else 0)
def besL (F : Fm) (y : Rat) (ab : Bool) : List Int → Option Rat
  | [] => bif ab then none else some (((top F - 1 : Int) : Rat) * p2 F.h)
  | a :: r => if cl y a ab ≤ top F - 1 then some ((cl y a ab : Rat) * p2 a) else besL F y ab r
def ats (a : Int) (n : Nat) : List Int := (List.range n).map fun i => a + (i : Nat)
theorem ats_succ (a : Int) (n : Nat) : ats a (n + 1) = a :: ats (a + 1) n := by
  unfold ats
  rw [List.range_succ_eq_map, List.map_cons, List.map_map]
  congr 1
  · simp
  · refine List.map_congr_left fun i hi => ?_
    simp only [Function.comp]
    omega
theorem cl_big {F : Fm} (hF : F.ok) {y : Rat} {a : Int} {ab : Bool} (h : p2 (a + F.b) ≤ y) : ¬ cl y a ab ≤ top F - 1 := by
  have : top F ≤ (y / p2 a).floor := by
    rw [Rat.le_floor_iff, rle_div (p2_pos a), ← top_p2 hF, ← p2_add, Int.add_comm]
    exact h
  unfold cl
  split <;> omega
theorem besL_eq {F : Fm} (hF : F.ok) {y : Rat} (hy : 0 ≤ y) (ab : Bool) : ∀ (n : Nat) (a : Int), a + n = F.h + 1 → F.l ≤ a → a ≤ st F y → besL F y ab (ats a n) = bif ab then abo F y else bel F y := by
  have hS := st_spec hF hy
  have ht := top_ge hF
  have hlt := nn_lt hF hy
  have hn := nn_ge (F := F) hy
  have hle := hF.lh
  intro n
  induction n with
  | zero =>
    intro a h1 h2 h3
    have c : F.h < st F y := by omega
    unfold ats besL bel abo
    cases ab with
    | false => simp only [cond_false]; rw [if_pos c]; rfl
    | true => simp only [cond_true]; rw [if_pos c]; rfl
  | succ n ih =>
    intro a h1 h2 h3
    rw [ats_succ]
    unfold besL
    rcases Int.lt_or_le a (st F y) with c | c
    · have big : p2 (a + F.b) ≤ y := by
        rcases hS.le with z | z
        · omega
        · have := p2_le (s := a + F.b) (t := st F y - 1 + F.b) (by omega)
          grind
      rw [if_neg (cl_big hF big)]
      exact ih (a + 1) (by omega) (by omega) (by omega)
    · have e : a = st F y := by omega
      subst e
      have ch : ¬ F.h < st F y := by omega
      have cf : cl y (st F y) false = nn F y := by unfold cl nn; simp
      cases ab with
      | false =>
        simp only [cond_false]
        rw [cf, if_pos (by omega)]
        unfold bel
        rw [if_neg ch]
      | true =>
        simp only [cond_true]
        unfold abo
        rw [if_neg ch]
        by_cases r0 : rho F y = 0
        · have ct : cl y (st F y) true = nn F y := by
            unfold cl
            rw [if_neg]
            · unfold nn; simp
            · intro z
              exact z.2 r0
          rw [ct, if_pos (by omega), if_pos r0]
        · have ct : cl y (st F y) true = nn F y + 1 := by
            unfold cl
            rw [if_pos ⟨rfl, r0⟩]
            rfl
          rw [ct, if_neg r0]
          by_cases c3 : nn F y + 1 = top F
          · rw [if_neg (by omega)]
            cases n with
            | zero =>
              rw [if_pos ⟨by omega, c3⟩]
              rfl
            | succ n =>
              rw [if_neg (fun z => by omega), ats_succ]
              unfold besL
              have o : top F % 2 = 0 := by
                unfold top
                have := hF.b1
                obtain ⟨k, hk⟩ : ∃ k, F.b.toNat = k + 1 := ⟨F.b.toNat - 1, by omega⟩
                rw [hk, Int.pow_succ]; omega
              obtain ⟨t, ht2⟩ : ∃ t, top F = 2 * t := ⟨top F / 2, by omega⟩
              have yq : y / p2 (st F y + 1) = ((nn F y : Rat) + rho F y) / 2 := by
                rw [p2_add, p2_1]
                have := y_eq F y
                have hp := p2_ne (st F y)
                conv => lhs; rw [this]
                grind
              have nq : (nn F y : Rat) = 2 * (t : Rat) - 1 := by
                have : nn F y = 2 * t - 1 := by omega
                rw [this, Rat.intCast_sub, Rat.intCast_mul]; rfl
              have g0 := rho_ge F y
              have g1 := rho_lt F y
              have fl : (y / p2 (st F y + 1)).floor = t - 1 := by
                refine floor_is ?_ ?_
                · rw [yq, nq, Rat.intCast_sub]
                  show (t : Rat) - 1 ≤ _
                  grind
                · rw [yq, nq, Rat.intCast_sub]
                  show _ < (t : Rat) - 1 + 1
                  grind
              have cn : cl y (st F y + 1) true = t := by
                unfold cl
                rw [fl, if_pos]
                · omega
                · refine ⟨rfl, ?_⟩
                  rw [yq, nq, Rat.intCast_sub]
                  show ¬ (_ - ((t : Rat) - 1) = 0)
                  grind
              rw [cn, if_pos (by omega), c3, ht2, p2_add, p2_1, Rat.intCast_mul]
              show some _ = some (2 * (t : Rat) * _)
              congr 1
              grind
          · rw [if_pos (by omega), if_neg (fun z => c3 z.2)]
/-! ### the law's nearest whole one -/
theorem whlL {P Q : Int} (hQ : 0 < Q) : (if (2 * P + Q) % (2 * Q) = 0 ∧ (2 * P + Q) / (2 * Q) % 2 = 1 then (2 * P + Q) / (2 * Q) - 1 else (2 * P + Q) / (2 * Q)) = whl ((P : Rat) / (Q : Rat)) := by
  rw [whl_div hQ]
  have e := Int.mul_ediv_add_emod P Q
  have r0 := Int.emod_nonneg P (show Q ≠ 0 by omega)
  have r1 := Int.emod_lt_of_pos P hQ
  generalize P / Q = N at *
  generalize P % Q = R at *
  have e2 : 2 * P + Q = (2 * R + Q) + (2 * Q) * N := by
    rw [← e]
    have : 2 * (Q * N) = 2 * Q * N := by rw [Int.mul_assoc]
    omega
  have d1 : (2 * P + Q) / (2 * Q) = (2 * R + Q) / (2 * Q) + N := by rw [e2]; exact Int.add_mul_ediv_left _ _ (by omega)
  have d2 : (2 * P + Q) % (2 * Q) = (2 * R + Q) % (2 * Q) := by rw [e2]; exact Int.add_mul_emod_self_left ..
  rw [d1, d2]
  rcases Int.lt_or_le (2 * R) Q with c | c
  · have a1 : (2 * R + Q) / (2 * Q) = 0 := Int.ediv_eq_zero_of_lt (by omega) (by omega)
    have a2 : (2 * R + Q) % (2 * Q) = 2 * R + Q := Int.emod_eq_of_lt (by omega) (by omega)
    rw [a1, a2, if_neg (by omega), if_neg (by omega)]; omega
  · have a1 : (2 * R + Q) / (2 * Q) = 1 := by
      have := Int.add_mul_ediv_left (2 * R - Q) 1 (show (2 * Q) ≠ 0 by omega)
      rw [show 2 * R + Q = 2 * R - Q + 2 * Q * 1 by omega, this, Int.ediv_eq_zero_of_lt (by omega) (by omega)]; rfl
    have a2 : (2 * R + Q) % (2 * Q) = 2 * R - Q := by
      rw [show 2 * R + Q = 2 * R - Q + 2 * Q * 1 by omega, Int.add_mul_emod_self_left]
      exact Int.emod_eq_of_lt (by omega) (by omega)
    rw [a1, a2]
    by_cases z : 2 * R = Q
    · by_cases o : N % 2 = 1
      · rw [if_neg (by omega), if_pos (by omega)]; omega
      · rw [if_pos (by omega), if_neg (by omega)]; omega
    · rw [if_neg (by omega), if_pos (by omega)]; omega
end Lk05
namespace Lk05
open PySem PySem.Spec PyProof.Rows L2 SC
open Lk19 (betw tupB oneB)
/-- the classes of the program's text -/
class Cl5 where
  K : PySem.W.Frag
  cF : Addr
  cBeyond : Addr
  cNought : Addr
  clF : Cls K cF
  nF : ∀ f ∈ (["bits", "low", "high"] : List Str), NoAttr K cF f
  isF : IsC K cF
  kits : ∀ n ∈ (["int", "bool", "str", "tuple", "list", "dict"] : List String), PySem.W.kitOne K (.ref cF) (.type n) = some false
section
variable [Cl5]
def fmD (F : Fm) : D := .obj Cl5.cF ["bits", "low", "high"] [.int F.b, .int F.l, .int F.h]
def FmtP : List D → Prop := fun ds => ∃ F : Fm, F.ok ∧ ds = [.int F.b, .int F.l, .int F.h]
/-! plain things, formats among them -/
mutual
def pq : D → Bool
  | .tup xs => pqL xs
  | .lst xs => pqL xs
  | .non => true | .bl _ => true | .int _ => true | .str _ => true | .dct => true
  | .obj C _ _ => decide (C = Cl5.cF)
  | .ty _ => false | .own _ => false | .fz _ => false
def pqL : List D → Bool
  | [] => true
  | d :: ds => pq d && pqL ds
end
theorem pqL_mem : ∀ {ds : List D}, pqL ds = true → ∀ d ∈ ds, pq d = true
  | d :: ds, h, x, hx => by
    simp only [pqL, Bool.and_eq_true] at h
    rcases List.mem_cons.mp hx with rfl | hx
    · exact h.1
    · exact pqL_mem h.2 x hx
theorem pqL_of : ∀ {ds : List D}, (∀ d ∈ ds, pq d = true) → pqL ds = true
  | [], _ => by simp [pqL]
  | d :: ds, h => by
    simp only [pqL, Bool.and_eq_true]
    exact ⟨h d (by simp), pqL_of fun x hx => h x (by simp [hx])⟩
/-- isinstance of a built-in class -/
def isD (n : String) (d : D) : Bool := match tyD d with
  | some t => isTy t n
  | none => false
theorem isi_go {d : D} {n : String} {O : OH} {k : D → OH → Prop} (hp : pq d = true) (hn : n = "int" ∨ n = "bool" ∨ n = "str" ∨ n = "tuple" ∨ n = "list" ∨ n = "dict") (h : k (.bl (isD n d)) O) : rIsiK Cl5.K [d, .ty n] O k := by
  cases d with
  | obj C ns fs =>
    have e : C = Cl5.cF := by simpa [pq] using hp
    subst e
    exact ⟨⟨Cl5.isF, Cl5.kits n (by rcases hn with rfl | rfl | rfl | rfl | rfl | rfl <;> simp)⟩, h⟩
  | ty _ => simp [pq] at hp
  | own _ => simp [pq] at hp
  | fz _ => simp [pq] at hp
  | non => exact ⟨hn, h⟩
  | bl _ => exact ⟨hn, h⟩
  | int _ => exact ⟨hn, h⟩
  | str _ => exact ⟨hn, h⟩
  | tup _ => exact ⟨hn, h⟩
  | lst _ => exact ⟨hn, h⟩
  | dct => exact ⟨hn, h⟩
end
/-! ### formulas -/
inductive Wd where
  | plus | minus | times | over | least | greatest
deriving DecidableEq
def Wd.s : Wd → Str
  | .plus => "plus" | .minus => "minus" | .times => "times" | .over => "over" | .least => "least" | .greatest => "greatest"
inductive Fo where
  | inp (i : Nat) | num (p : Int) | frc (p q : Int) | op (w : Wd) (a b : Fo)
def Fo.d : Fo → D
  | .inp i => .tup [.str "in", .int (i : Nat)]
  | .num p => .tup [.str "number", .int p]
  | .frc p q => .tup [.str "number", .tup [.int p, .int q]]
  | .op w a b => .tup [.str w.s, a.d, b.d]
def Fo.ok (n : Nat) : Fo → Prop
  | .inp i => i < n
  | .num p => -1000 ≤ p ∧ p ≤ 1000
  | .frc p q => -1000 ≤ p ∧ p ≤ 1000 ∧ 1 ≤ q ∧ q ≤ 1000 ∧ Int.gcd p q = 1
  | .op _ a b => a.ok n ∧ b.ok n
def Fo.dep : Fo → Nat
  | .op _ a b => max a.dep b.dep + 1
  | _ => 0
def Fo.cnt : Fo → Nat
  | .op _ a b => 1 + a.cnt + b.cnt
  | _ => 0
abbrev Rw := List Int
def rwD (r : Rw) : D := .tup (r.map .int)
structure okRw (r : Rw) : Prop where
  n1 : 1 ≤ r.length
  n6 : r.length ≤ 6
  b : ∀ x ∈ r, -10000 ≤ x ∧ x ≤ 10000
/-! ### what a formula comes to -/
inductive Res where
  | ok (d : Int × Int) | nought | beyond
def ofR : Option (Int × Int) → Res
  | some d => .ok d
  | none => .beyond
def wrk (F : Fm) (w : Way) (o : Wd) (d e : Int × Int) : Res := match o with
  | .least => .ok (if val e < val d then e else d)
  | .greatest => .ok (if val d < val e then e else d)
  | .plus => ofR (rnd F w (val d + val e))
  | .minus => ofR (rnd F w (val d - val e))
  | .times => ofR (rnd F w (val d * val e))
  | .over => if e.1 = 0 then .nought else ofR (rnd F w (val d / val e))
def evF (F : Fm) (w : Way) (r : Rw) : Fo → Res
  | .inp i => ofR (rnd F w ((r.getD i 0 : Int) : Rat))
  | .num p => ofR (rnd F w (p : Rat))
  | .frc p q => ofR (rnd F w ((p : Rat) / (q : Rat)))
  | .op o a b => match evF F w r a with
    | .ok d => match evF F w r b with
      | .ok e => wrk F w o d e
      | x => x
    | x => x
theorem wrk_in {F : Fm} (hF : F.ok) {w : Way} {o : Wd} {d e x : Int × Int} (hd : inF F d) (he : inF F e) (h : wrk F w o d e = .ok x) : inF F x := by
  have key : ∀ {y : Rat}, ofR (rnd F w y) = .ok x → inF F x := by
    intro y q
    cases z : rnd F w y with
    | none => rw [z] at q; cases q
    | some t => rw [z] at q; cases q; exact rnd_in hF z
  cases o with
  | least => unfold wrk at h; cases h; split <;> assumption
  | greatest => unfold wrk at h; cases h; split <;> assumption
  | plus => exact key h
  | minus => exact key h
  | times => exact key h
  | over =>
    unfold wrk at h
    dsimp only at h
    by_cases c : e.1 = 0
    · rw [if_pos c] at h; cases h
    · rw [if_neg c] at h; exact key h
theorem evF_in {F : Fm} (hF : F.ok) {w : Way} {r : Rw} : ∀ {f : Fo} {x : Int × Int}, evF F w r f = .ok x → inF F x := by
  have key : ∀ {y : Rat} {x : Int × Int}, ofR (rnd F w y) = .ok x → inF F x := by
    intro y x q
    cases z : rnd F w y with
    | none => rw [z] at q; cases q
    | some t => rw [z] at q; cases q; exact rnd_in hF z
  intro f
  induction f with
  | inp i => exact key
  | num p => exact key
  | frc p q => exact key
  | op o a b ha hb =>
    intro x h
    unfold evF at h
    cases ea : evF F w r a with
    | nought => rw [ea] at h; cases h
    | beyond => rw [ea] at h; cases h
    | ok d =>
      rw [ea] at h
      cases eb : evF F w r b with
      | nought => rw [eb] at h; cases h
      | beyond => rw [eb] at h; cases h
      | ok e =>
        rw [eb] at h
        exact wrk_in hF (ha ea) (hb eb) h
/-! ### things that are formulas -/
noncomputable def numB : D → Bool
  | .tup [.int a, .int b] => (decide (0 < b) && decide (Int.gcd a b = 1)) && (betw (-1000) 1000 (.int a) && decide (b ≤ 1000))
  | d => betw (-1000) 1000 d
noncomputable def leafB (n : Int) : D → Bool
  | .tup [.str x, v] => bif decide (x = "in") then betw 0 (n - 1) v else decide (x = "number") && numB v
  | _ => false
def six : List Str := ["plus", "minus", "times", "over", "least", "greatest"]
noncomputable def opsB (n : Int) : Nat → D → Option Int
  | 0, d => bif leafB n d then some 0 else none
  | k + 1, d => bif leafB n d then some 0 else match d with
    | .tup [.str x, a, b] => bif decide (x ∈ six) then (match opsB n k a, opsB n k b with
        | some i, some j => some (i + j + 1)
        | _, _ => none) else none
    | _ => none
def opD : Option Int → D
  | some i => .int i
  | none => .non
noncomputable def fmlB (n : Int) (d : D) : Bool := match opsB n 6 d with
  | some i => decide (i ≤ 12)
  | none => false
/-- as the law counts -/
noncomputable def opsL (n : Int) : Nat → D → Int
  | 0, d => bif leafB n d then 0 else 100
  | k + 1, d => bif leafB n d then 0 else match d with
    | .tup [.str x, a, b] => bif decide (x ∈ six) then 1 + opsL n k a + opsL n k b else 100
    | _ => 100
theorem opsL_eq (n : Int) : ∀ (k : Nat) (d : D), 0 ≤ opsL n k d ∧ (match opsB n k d with | some i => opsL n k d = i | none => 100 ≤ opsL n k d)
  | 0, d => by
    unfold opsL opsB
    cases leafB n d <;> simp
  | k + 1, d => by
    unfold opsL opsB
    cases leafB n d with
    | true => simp
    | false =>
      simp only [cond_false]
      split
      · rename_i x a b
        cases decide (x ∈ six) with
        | false => simp
        | true =>
          simp only [cond_true]
          obtain ⟨a0, a1⟩ := opsL_eq n k a
          obtain ⟨b0, b1⟩ := opsL_eq n k b
          cases ea : opsB n k a with
          | none =>
            rw [ea] at a1
            refine ⟨by omega, ?_⟩
            dsimp only at a1 ⊢
            omega
          | some i =>
            rw [ea] at a1
            cases eb : opsB n k b with
            | none =>
              rw [eb] at b1
              refine ⟨by omega, ?_⟩
              dsimp only at b1 ⊢
              omega
            | some j =>
              rw [eb] at b1
              refine ⟨by omega, ?_⟩
              dsimp only at a1 b1 ⊢
              omega
      · simp
theorem fml_law (n : Int) (d : D) : decide (opsL n 6 d < 13) = fmlB n d := by
  obtain ⟨h0, h1⟩ := opsL_eq n 6 d
  unfold fmlB
  cases e : opsB n 6 d with
  | none => rw [e] at h1; dsimp only at h1 ⊢; simp; omega
  | some i =>
    rw [e] at h1
    dsimp only at h1 ⊢
    rw [h1]
    congr 1
    apply propext
    omega
/-! ### constants -/
def c_WAYS : D := .tup ((["up", "down", "cut", "near", "far"] : List Str).map D.str)
def c_WORDS : D := .tup (six.map D.str)
/-! ### promises -/
def dyD (d : Int × Int) : D := .tup [.int d.1, .int d.2]
def frQ (r : Rat) : D := .tup [.int r.num, .int (r.den : Nat)]
def opQ : Option Rat → D
  | none => .non
  | some r => frQ r
def spD (F : Fm) : D := .tup [.int F.b, .int F.l, .int F.h]
/-- fractions of a size that is reckoned with -/
structure Sq (z : Nat) (r : Rat) : Prop where
  n : Bn z r.num
  d : Bn z (r.den : Nat)
section
variable [Cl5] [TabL] [XCx]
def outX (R : Res) (g : Int × Int → D) (k : D → OH → Prop) (kx : Addr → OH → Prop) (O : OH) : Prop := match R with
  | .ok d => k (g d) O
  | .nought => kx Cl5.cNought O
  | .beyond => kx Cl5.cBeyond O
def resQ : Res → D
  | .ok d => frQ (val d)
  | .nought => .str "nought"
  | .beyond => .str "beyond"
def sp_is_integer : DSp := fun ds O k => ∃ d, ds = [d] ∧ pq d = true ∧ k (.bl (match d with | .int _ => true | _ => false)) O
theorem ln_is_integer : ∀ ds O k, sp_is_integer ds O k → ds.length = 1 := by rintro ds O k ⟨d, rfl, _⟩; rfl
def sp_is_between : DSp := fun ds O k => ∃ l m d, ds = [.int l, .int m, d] ∧ pq d = true ∧ k (.bl (betw l m d)) O
theorem ln_is_between : ∀ ds O k, sp_is_between ds O k → ds.length = 3 := by rintro ds O k ⟨l, m, d, rfl, _⟩; rfl
def sp_is_tuple : DSp := fun ds O k => ∃ l m d, ds = [.int l, .int m, d] ∧ pq d = true ∧ k (.bl (tupB l m d)) O
theorem ln_is_tuple : ∀ ds O k, sp_is_tuple ds O k → ds.length = 3 := by rintro ds O k ⟨l, m, d, rfl, _⟩; rfl
def sp_is_pair : DSp := fun ds O k => ∃ d, ds = [d] ∧ pq d = true ∧ k (.bl (tupB 2 2 d)) O
theorem ln_is_pair : ∀ ds O k, sp_is_pair ds O k → ds.length = 1 := by rintro ds O k ⟨d, rfl, _⟩; rfl
def sp_is_one_of : DSp := fun ds O k => ∃ (ws : List Str) (d : D), ds = [.tup (ws.map D.str), d] ∧ pq d = true ∧ k (.bl (oneB ws d)) O
theorem ln_is_one_of : ∀ ds O k, sp_is_one_of ds O k → ds.length = 2 := by rintro ds O k ⟨l, d, rfl, _⟩; rfl
def frB : D → Bool
  | .tup [.int a, .int b] => decide (0 < b) && decide (Int.gcd a b = 1)
  | _ => false
def sp_is_fraction : DSp := fun ds O k => ∃ d, ds = [d] ∧ pq d = true ∧ k (.bl (frB d)) O
theorem ln_is_fraction : ∀ ds O k, sp_is_fraction ds O k → ds.length = 1 := by rintro ds O k ⟨d, rfl, _⟩; rfl
def sp_is_row : DSp := fun ds O k => ∃ r, ds = [.int 1, .int 6, .int (-10000), .int 10000, rwD r] ∧ okRw r ∧ k (.bl true) O
theorem ln_is_row : ∀ ds O k, sp_is_row ds O k → ds.length = 5 := by rintro ds O k ⟨d, rfl, _⟩; rfl
def sp_is_way : DSp := fun ds O k => ∃ w : Way, ds = [.str w.s] ∧ k (.bl true) O
theorem ln_is_way : ∀ ds O k, sp_is_way ds O k → ds.length = 1 := by rintro ds O k ⟨d, rfl, _⟩; rfl
def sp_scaled : DSp := fun ds O k => ∃ m e : Int, ds = [.int m, .int e] ∧ (0 < e → e ≤ 4000 ∧ Sz m) ∧ k (.int (scl m e)) O
theorem ln_scaled : ∀ ds O k, sp_scaled ds O k → ds.length = 2 := by rintro ds O k ⟨m, e, rfl, _⟩; rfl
def sp_parts : DSp := fun ds O k => ∃ d : Int × Int, ds = [dyD d] ∧ Sz d.1 ∧ (-4000 ≤ d.2 ∧ d.2 ≤ 4000) ∧ k (.tup [.int (scl d.1 d.2), .int (scl 1 (-d.2))]) O
theorem ln_parts : ∀ ds O k, sp_parts ds O k → ds.length = 1 := by rintro ds O k ⟨d, rfl, _⟩; rfl
def sp_whole_near : DSp := fun ds O k => ∃ d : Int × Int, ds = [dyD d] ∧ Sm d ∧ k (.int (whl (val d))) O
theorem ln_whole_near : ∀ ds O k, sp_whole_near ds O k → ds.length = 1 := by rintro ds O k ⟨d, rfl, _⟩; rfl
def sp_under : DSp := fun ds O k => ∃ d e : Int × Int, ds = [dyD d, dyD e] ∧ Sm d ∧ Sm e ∧ k (.bl (decide (val d < val e))) O
theorem ln_under : ∀ ds O k, sp_under ds O k → ds.length = 2 := by rintro ds O k ⟨d, e, rfl, _⟩; rfl
def sp_shaped : DSp := fun ds O k => ∃ N s : Int, ds = [.int N, .int s] ∧ 0 ≤ N ∧ k (dyD (shp (N, s))) O
theorem ln_shaped : ∀ ds O k, sp_shaped ds O k → ds.length = 2 := by rintro ds O k ⟨d, e, rfl, _⟩; rfl
def sp_stepped : DSp := fun ds O k => ∃ (F : Fm) (P Q : Int), ds = [fmD F, .int P, .int Q] ∧ F.ok ∧ 0 < P ∧ 0 < Q ∧ Bn 1000 P ∧ Bn 1000 Q ∧
  k (.tup [.int (st F ((P : Rat) / (Q : Rat))), .int (nn F ((P : Rat) / (Q : Rat))), .int (scl P (-st F ((P : Rat) / (Q : Rat))) % scl Q (st F ((P : Rat) / (Q : Rat)))), .int (scl Q (st F ((P : Rat) / (Q : Rat))))]) O
theorem ln_stepped : ∀ ds O k, sp_stepped ds O k → ds.length = 3 := by rintro ds O k ⟨F, P, Q, rfl, _⟩; rfl
def spx_one_more : DSpX := fun ds O k kx => ∃ (F : Fm) (N s : Int), ds = [fmD F, .int N, .int s] ∧ F.ok ∧ (if s = F.h ∧ N + 1 = Lk05.top F then kx Cl5.cBeyond O else k (.int (N + 1)) O)
theorem lnx_one_more : ∀ ds O k kx, spx_one_more ds O k kx → ds.length = 3 := by rintro ds O k kx ⟨F, P, Q, rfl, _⟩; rfl
def sp_negated : DSp := fun ds O k => ∃ d : Int × Int, ds = [dyD d] ∧ k (dyD (ng d)) O
theorem ln_negated : ∀ ds O k, sp_negated ds O k → ds.length = 1 := by rintro ds O k ⟨d, rfl, _⟩; rfl
def sp_goes_outward : DSp := fun ds O k => ∃ (w : Way) (t N p : Int), ds = [.str w.s, .int t, .int N, .int p] ∧ t ≠ 0 ∧ k (.bl (outI w (decide (t < 0)) N p)) O
theorem ln_goes_outward : ∀ ds O k, sp_goes_outward ds O k → ds.length = 4 := by rintro ds O k ⟨w, t, N, p, rfl, _⟩; rfl
def spx_settled : DSpX := fun ds O k kx => ∃ (F : Fm) (w : Way) (P Q : Int), ds = [fmD F, .str w.s, .int P, .int Q] ∧ F.ok ∧ 0 < Q ∧ Bn 1000 P ∧ Bn 1000 Q ∧ outX (ofR (rnd F w ((P : Rat) / (Q : Rat)))) dyD k kx O
theorem lnx_settled : ∀ ds O k kx, spx_settled ds O k kx → ds.length = 4 := by rintro ds O k kx ⟨F, w, P, Q, rfl, _⟩; rfl
def exv (o : Wd) (a b : Rat) : Rat := match o with
  | .plus => a + b | .minus => a - b | .times => a * b | .over => a / b | .least => a | .greatest => a
def spx_exact : DSpX := fun ds O k kx => ∃ (o : Wd) (d e : Int × Int), ds = [.str o.s, dyD d, dyD e] ∧ o ≠ .least ∧ o ≠ .greatest ∧ Sm d ∧ Sm e ∧
  (if o = .over ∧ e.1 = 0 then kx Cl5.cNought O else ∀ P Q : Int, 0 < Q → Bn 1000 P → Bn 1000 Q → (P : Rat) / (Q : Rat) = exv o (val d) (val e) → k (.tup [.int P, .int Q]) O)
theorem lnx_exact : ∀ ds O k kx, spx_exact ds O k kx → ds.length = 3 := by rintro ds O k kx ⟨F, w, P, rfl, _⟩; rfl
def spx_worked : DSpX := fun ds O k kx => ∃ (F : Fm) (w : Way) (o : Wd) (d e : Int × Int), ds = [fmD F, .str w.s, .str o.s, dyD d, dyD e] ∧ F.ok ∧ o ≠ .least ∧ o ≠ .greatest ∧ Sm d ∧ Sm e ∧ outX (wrk F w o d e) dyD k kx O
theorem lnx_worked : ∀ ds O k kx, spx_worked ds O k kx → ds.length = 5 := by rintro ds O k kx ⟨F, w, o, d, e, rfl, _⟩; rfl
def sp_is_number_told : DSp := fun ds O k => ∃ d, ds = [d] ∧ pq d = true ∧ k (.bl (numB d)) O
theorem ln_is_number_told : ∀ ds O k, sp_is_number_told ds O k → ds.length = 1 := by rintro ds O k ⟨d, rfl, _⟩; rfl
def sp_is_leaf : DSp := fun ds O k => ∃ n d, ds = [.int n, d] ∧ pq d = true ∧ k (.bl (leafB n d)) O
theorem ln_is_leaf : ∀ ds O k, sp_is_leaf ds O k → ds.length = 2 := by rintro ds O k ⟨n, d, rfl, _⟩; rfl
def sp_operations : Nat → DSp
  | 0 => fun _ _ _ => False
  | n + 1 => fun ds O k => ∃ (i : Int) (d : D) (j : Nat), ds = [.int i, d, .int (j : Nat)] ∧ j ≤ n ∧ pq d = true ∧ k (opD (opsB i j d)) O
theorem ln_operations : ∀ n ds O k, sp_operations n ds O k → ds.length = 3
  | 0, _, _, _, h => h.elim
  | n + 1, _, _, _, h => by obtain ⟨i, d, j, rfl, _⟩ := h; rfl
def sp_is_formula : DSp := fun ds O k => ∃ (i : Int) (d : D), ds = [.int i, d] ∧ pq d = true ∧ k (.bl (fmlB i d)) O
theorem ln_is_formula : ∀ ds O k, sp_is_formula ds O k → ds.length = 2 := by rintro ds O k ⟨n, d, rfl, _⟩; rfl
def sp_fraction_of : DSp := fun ds O k => ∃ (v : D) (p q : Int), ds = [v] ∧ ((v = .int p ∧ q = 1) ∨ v = .tup [.int p, .int q]) ∧ k (.tup [.int p, .int q]) O
theorem ln_fraction_of : ∀ ds O k, sp_fraction_of ds O k → ds.length = 1 := by rintro ds O k ⟨v, p, q, rfl, _⟩; rfl
def spx_result : Nat → DSpX
  | 0 => fun _ _ _ _ => False
  | n + 1 => fun ds O k kx => ∃ (F : Fm) (w : Way) (f : Fo) (r : Rw), ds = [fmD F, .str w.s, f.d, rwD r] ∧ F.ok ∧ f.ok r.length ∧ okRw r ∧ f.dep ≤ n ∧ outX (evF F w r f) dyD k kx O
theorem lnx_result : ∀ n ds O k kx, spx_result n ds O k kx → ds.length = 4
  | 0, _, _, _, _, h => h.elim
  | n + 1, _, _, _, _, h => by obtain ⟨F, w, f, r, rfl, _⟩ := h; rfl
def intD (d : Int × Int) : D := .int (whl (val d))
def spx_whole_result : DSpX := fun ds O k kx => ∃ (F : Fm) (w : Way) (f : Fo) (r : Rw), ds = [fmD F, .str w.s, f.d, rwD r] ∧ F.ok ∧ f.ok r.length ∧ okRw r ∧ f.dep ≤ 8 ∧ outX (evF F w r f) intD k kx O
theorem lnx_whole_result : ∀ ds O k kx, spx_whole_result ds O k kx → ds.length = 4 := by rintro ds O k kx ⟨F, w, f, r, rfl, _⟩; rfl
def sp_check_run : DSp := fun ds O k => ∃ (w : Way) (f : Fo) (r : Rw), ds = [.str w.s, f.d, rwD r] ∧ okRw r ∧ fmlB (r.length : Nat) f.d = true ∧ k .non O
theorem ln_check_run : ∀ ds O k, sp_check_run ds O k → ds.length = 3 := by rintro ds O k ⟨w, f, r, rfl, _⟩; rfl
def spx_run : DSpX := fun ds O k kx => ∃ (F : Fm) (w : Way) (f : Fo) (r : Rw), ds = [fmD F, .str w.s, f.d, rwD r] ∧ F.ok ∧ f.ok r.length ∧ okRw r ∧ f.dep ≤ 6 ∧ f.cnt ≤ 12 ∧ outX (evF F w r f) dyD k kx O
theorem lnx_run : ∀ ds O k kx, spx_run ds O k kx → ds.length = 4 := by rintro ds O k kx ⟨F, w, f, r, rfl, _⟩; rfl
def spx_whole_of : DSpX := fun ds O k kx => ∃ (F : Fm) (w : Way) (f : Fo) (r : Rw), ds = [fmD F, .str w.s, f.d, rwD r] ∧ F.ok ∧ f.ok r.length ∧ okRw r ∧ f.dep ≤ 6 ∧ f.cnt ≤ 12 ∧ outX (evF F w r f) intD k kx O
theorem lnx_whole_of : ∀ ds O k kx, spx_whole_of ds O k kx → ds.length = 4 := by rintro ds O k kx ⟨F, w, f, r, rfl, _⟩; rfl
/-! ### .. of the law's own defs -/
abbrev sp__law_hand : DSp := Lk19.sp__law_hand
theorem ln__law_hand : ∀ ds O k, sp__law_hand ds O k → ds.length = 1 := Lk19.ln__law_hand
abbrev sp__law_draw : DSp := Lk19.sp__law_draw
theorem ln__law_draw : ∀ ds O k, sp__law_draw ds O k → ds.length = 2 := Lk19.ln__law_draw
abbrev sp__law_any : DSp := Lk19.sp__law_some
theorem ln__law_any : ∀ ds O k, sp__law_any ds O k → ds.length = 2 := Lk19.ln__law_some
def sp__law_is_int : DSp := fun ds O k => ∃ d l m, ds = [d, .int l, .int m] ∧ pq d = true ∧ k (.bl (betw l m d)) O
theorem ln__law_is_int : ∀ ds O k, sp__law_is_int ds O k → ds.length = 3 := by rintro ds O k ⟨l, m, d, rfl, _⟩; rfl
def sp__law_flag : DSp := fun ds O k => ∃ a b : Bool, ds = [.bl a, .bl b] ∧ k (.bl (decide (a = b))) O
theorem ln__law_flag : ∀ ds O k, sp__law_flag ds O k → ds.length = 2 := by rintro ds O k ⟨l, m, rfl, _⟩; rfl
def sp__law_deep : DSp := fun ds O k => ∃ p h d, ds = [.own p, d] ∧ O p = some h ∧ HandOk h ∧ pq d = true ∧ ∀ d' h', pq d' = true → HandOk h' → k d' (oset O p h')
theorem ln__law_deep : ∀ ds O k, sp__law_deep ds O k → ds.length = 2 := by rintro ds O k ⟨p, h, d, rfl, _⟩; rfl
def sp__law_low : DSp := fun ds O k => ∃ P Q : Int, ds = [.int P, .int Q] ∧ 0 < Q ∧ Sz P ∧ Sz Q ∧ k (frQ ((P : Rat) / (Q : Rat))) O
theorem ln__law_low : ∀ ds O k, sp__law_low ds O k → ds.length = 2 := by rintro ds O k ⟨P, Q, rfl, _⟩; rfl
def sp__law_two : DSp := fun ds O k => ∃ n : Nat, ds = [.int (n : Nat)] ∧ n ≤ 1000 ∧ k (.int (2 ^ n)) O
theorem ln__law_two : ∀ ds O k, sp__law_two ds O k → ds.length = 1 := by rintro ds O k ⟨n, rfl, _⟩; rfl
def sp__law_worth : DSp := fun ds O k => ∃ d : Int × Int, ds = [dyD d] ∧ Bn 100 d.1 ∧ (-100 ≤ d.2 ∧ d.2 ≤ 100) ∧ k (frQ (val d)) O
theorem ln__law_worth : ∀ ds O k, sp__law_worth ds O k → ds.length = 1 := by rintro ds O k ⟨d, rfl, _⟩; rfl
def sp__law_dyad : DSp := fun ds O k => ∃ d : Int × Int, ds = [frQ (val d)] ∧ nrm d ∧ Sm d ∧ k (dyD d) O
theorem ln__law_dyad : ∀ ds O k, sp__law_dyad ds O k → ds.length = 1 := by rintro ds O k ⟨d, rfl, _⟩; rfl
def sp__law_beside : Nat → DSp
  | 0 => fun _ _ _ => False
  | n + 1 => fun ds O k => ∃ (F : Fm) (x : Rat) (ab : Bool), ds = [spD F, frQ x, .bl ab] ∧ F.ok ∧ Sq 500 x ∧ (x < 0 → 1 ≤ n) ∧ k (opQ (bes F x ab)) O
theorem ln__law_beside : ∀ n ds O k, sp__law_beside n ds O k → ds.length = 3
  | 0, _, _, _, h => h.elim
  | n + 1, _, _, _, h => by obtain ⟨F, x, ab, rfl, _⟩ := h; rfl
def sp__law_minus : DSp := fun ds O k => ∃ a b : Rat, ds = [frQ a, frQ b] ∧ Sq 1000 a ∧ Sq 1000 b ∧ k (frQ (a - b)) O
theorem ln__law_minus : ∀ ds O k, sp__law_minus ds O k → ds.length = 2 := by rintro ds O k ⟨a, b, rfl, _⟩; rfl
def sp__law_rounded : DSp := fun ds O k => ∃ (F : Fm) (x : Rat) (w : Way), ds = [spD F, frQ x, .str w.s] ∧ F.ok ∧ Sq 500 x ∧ k (opQ ((rnd F w x).map val)) O
theorem ln__law_rounded : ∀ ds O k, sp__law_rounded ds O k → ds.length = 3 := by rintro ds O k ⟨F, x, w, rfl, _⟩; rfl
def exL (o : Wd) (a b : Rat) : Option Rat := match o with
  | .plus => some (a + b) | .minus => some (a - b) | .times => some (a * b)
  | .over => if b = 0 then none else some (a / b)
  | .least => some (if a < b then a else b)
  | .greatest => some (if a < b then b else a)
def sp__law_exact : DSp := fun ds O k => ∃ (o : Wd) (a b : Rat), ds = [.str o.s, frQ a, frQ b] ∧ Sq 200 a ∧ Sq 200 b ∧ k (opQ (exL o a b)) O
theorem ln__law_exact : ∀ ds O k, sp__law_exact ds O k → ds.length = 3 := by rintro ds O k ⟨F, x, w, rfl, _⟩; rfl
def sp__law_run : Nat → DSp
  | 0 => fun _ _ _ => False
  | n + 1 => fun ds O k => ∃ (F : Fm) (w : Way) (f : Fo) (r : Rw), ds = [spD F, .str w.s, f.d, rwD r] ∧ F.ok ∧ f.ok r.length ∧ okRw r ∧ f.dep ≤ n ∧ k (resQ (evF F w r f)) O
theorem ln__law_run : ∀ n ds O k, sp__law_run n ds O k → ds.length = 4
  | 0, _, _, _, h => h.elim
  | n + 1, _, _, _, h => by obtain ⟨F, w, f, r, rfl, _⟩ := h; rfl
def sp__law_whole : DSp := fun ds O k => ∃ v : Rat, ds = [frQ v] ∧ Sq 1000 v ∧ k (.int (whl v)) O
theorem ln__law_whole : ∀ ds O k, sp__law_whole ds O k → ds.length = 1 := by rintro ds O k ⟨v, rfl, _⟩; rfl
def sp__law_spec : DSp := fun ds O k => ∃ p h, ds = [.own p] ∧ O p = some h ∧ HandOk h ∧ ∀ (F : Fm) h', F.ok → HandOk h' → k (spD F) (oset O p h')
theorem ln__law_spec : ∀ ds O k, sp__law_spec ds O k → ds.length = 1 := by rintro ds O k ⟨p, h, rfl, _⟩; rfl
def sp__law_tree : Nat → DSp
  | 0 => fun _ _ _ => False
  | n + 1 => fun ds O k => ∃ (p : Addr) (h : List D) (i m r : Nat), ds = [.own p, .int (i : Nat), .int (m : Nat), .int (r : Nat)] ∧ O p = some h ∧ HandOk h ∧ i ≤ 6 ∧ r ≤ n ∧ r ≤ 6 ∧ m < 2 ^ r ∧ ∀ (f : Fo) h', f.ok i → f.cnt = m → f.dep ≤ r → HandOk h' → k f.d (oset O p h')
theorem ln__law_tree : ∀ n ds O k, sp__law_tree n ds O k → ds.length = 4
  | 0, _, _, _, h => h.elim
  | n + 1, _, _, _, h => by obtain ⟨p, h, i, m, r, rfl, _⟩ := h; rfl
def sp__law_row : DSp := fun ds O k => ∃ p h, ∃ n : Nat, ds = [.own p, .int (n : Nat)] ∧ O p = some h ∧ HandOk h ∧ 1 ≤ n ∧ n ≤ 6 ∧ ∀ (r : Rw) h', r.length = n → okRw r → HandOk h' → k (rwD r) (oset O p h')
theorem ln__law_row : ∀ ds O k, sp__law_row ds O k → ds.length = 2 := by rintro ds O k ⟨p, h, n, rfl, _⟩; rfl
def sp__law_is_value : DSp := fun ds O k => ∃ d, ds = [d] ∧ pq d = true ∧ k (.bl (numB d)) O
theorem ln__law_is_value : ∀ ds O k, sp__law_is_value ds O k → ds.length = 1 := by rintro ds O k ⟨d, rfl, _⟩; rfl
def sp__law_operations : Nat → DSp
  | 0 => fun _ _ _ => False
  | n + 1 => fun ds O k => ∃ (i : Int) (d : D) (j : Nat), ds = [.int i, d, .int (j : Nat)] ∧ j ≤ n ∧ pq d = true ∧ k (.int (opsL i j d)) O
theorem ln__law_operations : ∀ n ds O k, sp__law_operations n ds O k → ds.length = 3
  | 0, _, _, _, h => h.elim
  | n + 1, _, _, _, h => by obtain ⟨i, d, j, rfl, _⟩ := h; rfl
/-- what is told and due alike -/
inductive Al : Nat → D → Prop
  | int (n : Nat) (i : Int) : Al n (.int i)
  | str (n : Nat) (s : Str) : Al n (.str s)
  | pair (n : Nat) (i j : Int) : Al (n + 1) (.tup [.int i, .int j])
def sp__law_is : Nat → DSp
  | 0 => fun _ _ _ => False
  | n + 1 => fun ds O k => ∃ d, ds = [d, d] ∧ Al n d ∧ k (.bl true) O
theorem ln__law_is : ∀ n ds O k, sp__law_is n ds O k → ds.length = 2
  | 0, _, _, _, h => h.elim
  | n + 1, _, _, _, h => by obtain ⟨d, rfl, _⟩ := h; rfl
inductive Oc where
  | val (d : D) | beyond | nought
def Oc.d : Oc → D
  | .val d => d | .beyond => .str "beyond" | .nought => .str "nought"
/-- the lambda handed in tells d, or raises -/
def spl__law_told : DLm := fun rl O k => ∃ oc : Oc, (∀ kx k', (match oc with | .val d => k' d O | .beyond => kx Cl5.cBeyond O | .nought => kx Cl5.cNought O) → rl kx O k') ∧ k oc.d O
/-- a part of a formula, and the way there -/
inductive Pt : List Nat → Fo → Fo → Prop
  | here (f : Fo) : Pt [] f f
  | one {ps : List Nat} {o : Wd} {a b f : Fo} (h : Pt ps a f) : Pt (1 :: ps) (.op o a b) f
  | two {ps : List Nat} {o : Wd} {a b f : Fo} (h : Pt ps b f) : Pt (2 :: ps) (.op o a b) f
def psD (ps : List Nat) : List D := ps.map fun i => D.int (i : Nat)
def sp__law_with : Nat → DSp
  | 0 => fun _ _ _ => False
  | n + 1 => fun ds O k => ∃ (ps : List Nat) (f g : Fo) (m : D), ds = [f.d, .lst (psD ps), m] ∧ Pt ps f g ∧ ps.length ≤ n ∧ pq m = true ∧ ∀ d', pq d' = true → k d' O
theorem ln__law_with : ∀ n ds O k, sp__law_with n ds O k → ds.length = 3
  | 0, _, _, _, h => h.elim
  | n + 1, _, _, _, h => by obtain ⟨ps, f, g, m, rfl, _⟩ := h; rfl
def sp__law_path : DSp := fun ds O k => ∃ p h, ∃ f : Fo, ds = [.own p, f.d] ∧ O p = some h ∧ HandOk h ∧ f.dep ≤ 6 ∧ ∀ (ps : List Nat) (g : Fo) h' O', Pt ps f g → ps.length ≤ f.dep → HandOk h' → O' p = some h' → (∀ q x, q ≠ p → O q = some x → O' q = some x) → k (.tup [.lst (psD ps), g.d]) O'
theorem ln__law_path : ∀ ds O k, sp__law_path ds O k → ds.length = 2 := by rintro ds O k ⟨p, h, f, rfl, _⟩; rfl
def sp__law_deeper : DSp := fun ds O k => ∃ (d : D) (n : Nat), ds = [d, .int (n : Nat)] ∧ pq d = true ∧ n ≤ 1000 ∧ ∀ d', pq d' = true → k d' O
theorem ln__law_deeper : ∀ ds O k, sp__law_deeper ds O k → ds.length = 2 := by rintro ds O k ⟨d, n, rfl, _⟩; rfl
def sp__law_bent : DSp := fun ds O k => ∃ p h, ∃ (i : Nat) (f : Fo), ds = [.own p, .int (i : Nat), f.d] ∧ O p = some h ∧ HandOk h ∧ f.dep ≤ 6 ∧ ∀ d' h' O', pq d' = true → HandOk h' → O' p = some h' → (∀ q x, q ≠ p → O q = some x → O' q = some x) → k d' O'
theorem ln__law_bent : ∀ ds O k, sp__law_bent ds O k → ds.length = 3 := by rintro ds O k ⟨p, h, i, f, rfl, _⟩; rfl
def sp__law_judged_right : DSp := fun ds O k => ∃ p h, ds = [.own p] ∧ O p = some h ∧ HandOk h ∧ ∀ h' O', HandOk h' → O' p = some h' → (∀ q x, q ≠ p → O q = some x → O' q = some x) → k (.bl true) O'
theorem ln__law_judged_right : ∀ ds O k, sp__law_judged_right ds O k → ds.length = 1 := by rintro ds O k ⟨p, h, rfl, _⟩; rfl
def sp_law : DSp := spLaw
theorem ln_law : ∀ ds O k, sp_law ds O k → ds.length = 1 := by rintro ds O k ⟨ns, rfl, _⟩; rfl
end
end Lk05
namespace Lk05
open PySem PySem.Spec PyProof.Rows L2 SC
variable [Cl5] [TabL] [XCx]
/-! ### bodies, on trees -/
noncomputable def bd_is_integer : DS := dRet (dAndV (dCB (rIsiK Cl5.K) (dCons (dVar 0) (dCons (dC (.ty "int")) (dNil)))) (dNotV (dCB (rIsiK Cl5.K) (dCons (dVar 0) (dCons (dC (.ty "bool")) (dNil))))))
noncomputable def bd_is_between : DS := dRet (dAndV (dCall sp_is_integer (dCons (dVar 2) (dNil))) (dChain (dI0 fun i j => .bl (decide (i ≤ j))) (dI0 fun i j => .bl (decide (i ≤ j))) (dVar 0) (dVar 2) (dVar 1)))
noncomputable def bd_is_tuple : DS := dRet (dAndV (dCB (rIsiK Cl5.K) (dCons (dVar 2) (dCons (dC (.ty "tuple")) (dNil)))) (dChain (dI0 fun i j => .bl (decide (i ≤ j))) (dI0 fun i j => .bl (decide (i ≤ j))) (dVar 0) (dCB rLenD (dCons (dVar 2) (dNil))) (dVar 1)))
noncomputable def bd_is_pair : DS := dRet (dCall sp_is_tuple (dCons (dC (.int 2)) (dCons (dC (.int 2)) (dCons (dVar 0) (dNil)))))
noncomputable def bd_is_one_of : DS := dRet (dAndV (dCB (rIsiK Cl5.K) (dCons (dVar 1) (dCons (dC (.ty "str")) (dNil)))) (dOp (dIn false) (dVar 1) (dVar 0)))
noncomputable def bd_is_fraction : DS := dThen (dIf (dOr (dNot (dB (dCall sp_is_pair (dCons (dVar 0) (dNil))))) (dOr (dNot (dB (dCall sp_is_integer (dCons (dOp rIxD (dVar 0) (dC (.int 0))) (dNil))))) (dNot (dB (dCall sp_is_integer (dCons (dOp rIxD (dVar 0) (dC (.int 1))) (dNil))))))) (dRet (dC (.bl false))) (dSkip)) (dRet (dAndV (dOp (dI0 fun i j => .bl (decide (j < i))) (dOp rIxD (dVar 0) (dC (.int 1))) (dC (.int 0))) (dOp (dEqS fun r => r) (dCB rGcdD (dCons (dOp rIxD (dVar 0) (dC (.int 0))) (dCons (dOp rIxD (dVar 0) (dC (.int 1))) (dNil)))) (dC (.int 1)))))
noncomputable def bd_is_row : DS := dRet (dAndV (dCall sp_is_tuple (dCons (dVar 0) (dCons (dVar 1) (dCons (dVar 4) (dNil))))) (dCB (rBools fun l => l.all id) (dCons (dComp (dSeq (dVar 4)) (dNm 5) (dYes) (dCall sp_is_between (dCons (dVar 2) (dCons (dVar 3) (dCons (dVar 5) (dNil))))) [5]) (dNil))))
noncomputable def bd_is_way : DS := dRet (dCall sp_is_one_of (dCons (dC c_WAYS) (dCons (dVar 0) (dNil))))
noncomputable def bd_scaled : DS := dRet (dIfE (dB (dOp (dI0 fun i j => .bl (decide (j < i))) (dVar 1) (dC (.int 0)))) (dOp (dI CShW fun i j => .int (i * 2 ^ j.toNat)) (dVar 0) (dVar 1)) (dVar 0))
noncomputable def bd_parts : DS := dThen (dAsg (dVar 0) (dTg 2 (dGCons (dNm 1) (dGCons (dNm 2) (dGNil))))) (dRet (dTup (dCons (dCall sp_scaled (dCons (dVar 1) (dCons (dVar 2) (dNil)))) (dCons (dCall sp_scaled (dCons (dC (.int 1)) (dCons (dUn (dU fun i => .int (-i)) (dVar 2)) (dNil)))) (dNil)))))
noncomputable def bd_whole_near : DS := dThen (dAsg (dCall sp_parts (dCons (dVar 0) (dNil))) (dTg 2 (dGCons (dNm 1) (dGCons (dNm 2) (dGNil))))) (dThen (dAsg (dCB rDivmodD (dCons (dVar 1) (dCons (dVar 2) (dNil)))) (dTg 2 (dGCons (dNm 3) (dGCons (dNm 4) (dGNil))))) (dThen (dIf (dOr (dB (dOp (dI0 fun i j => .bl (decide (j < i))) (dOp (dI CMuW fun i j => .int (i * j)) (dC (.int 2)) (dVar 4)) (dVar 2))) (dAnd (dB (dOp (dEqS fun r => r) (dOp (dI CMuW fun i j => .int (i * j)) (dC (.int 2)) (dVar 4)) (dVar 2))) (dB (dOp (dEqS fun r => r) (dOp (dI0 fun i j => .int (Builtin.bitAnd i j)) (dVar 3) (dC (.int 1))) (dC (.int 1)))))) (dRet (dOp dAddA (dVar 3) (dC (.int 1)))) (dSkip)) (dRet (dVar 3))))
noncomputable def bd_under : DS := dThen (dAsg (dTup (dCons (dVar 0) (dCons (dVar 1) (dNil)))) (dTg 2 (dGCons (dTg 2 (dGCons (dNm 2) (dGCons (dNm 3) (dGNil)))) (dGCons (dTg 2 (dGCons (dNm 4) (dGCons (dNm 5) (dGNil)))) (dGNil))))) (dRet (dOp (dI0 fun i j => .bl (decide (i < j))) (dCall sp_scaled (dCons (dVar 2) (dCons (dOp (dI0 fun i j => .int (i - j)) (dVar 3) (dVar 5)) (dNil)))) (dCall sp_scaled (dCons (dVar 4) (dCons (dOp (dI0 fun i j => .int (i - j)) (dVar 5) (dVar 3)) (dNil))))))
noncomputable def bd_shaped : DS := dThen (dIf (dB (dOp (dEqS fun r => r) (dVar 0) (dC (.int 0)))) (dRet (dTup (dCons (dC (.int 0)) (dCons (dC (.int 0)) (dNil))))) (dSkip)) (dThen (dSet 2 (dOp (dI0 fun i j => .int (i - j)) (dBits (dOp (dI0 fun i j => .int (Builtin.bitAnd i j)) (dVar 0) (dUn (dU fun i => .int (-i)) (dVar 0)))) (dC (.int 1)))) (dRet (dTup (dCons (dOp (dI (fun _ j => 0 ≤ j) fun i j => .int (i / 2 ^ j.toNat)) (dVar 0) (dVar 2)) (dCons (dOp dAddA (dVar 1) (dVar 2)) (dNil))))))
noncomputable def bd_stepped : DS := dThen (dSet 3 (dOp (dI0 fun i j => .int (i - j)) (dBits (dVar 1)) (dBits (dVar 2)))) (dThen (dIf (dB (dOp (dI0 fun i j => .bl (decide (i < j))) (dCall sp_scaled (dCons (dVar 1) (dCons (dUn (dU fun i => .int (-i)) (dVar 3)) (dNil)))) (dCall sp_scaled (dCons (dVar 2) (dCons (dVar 3) (dNil)))))) (dSet 3 (dOp (dI0 fun i j => .int (i - j)) (dVar 3) (dC (.int 1)))) (dSkip)) (dThen (dSet 4 (dCB (rTwo fun i j => if j > i then j else i) (dCons (dFld Cl5.K "low" (dVar 0)) (dCons (dOp dAddA (dOp (dI0 fun i j => .int (i - j)) (dVar 3) (dFld Cl5.K "bits" (dVar 0))) (dC (.int 1))) (dNil))))) (dThen (dPar 1 2 (dCons (dCall sp_scaled (dCons (dVar 1) (dCons (dUn (dU fun i => .int (-i)) (dVar 4)) (dNil)))) (dCons (dCall sp_scaled (dCons (dVar 2) (dCons (dVar 4) (dNil)))) (dNil)))) (dThen (dAsg (dCB rDivmodD (dCons (dVar 1) (dCons (dVar 2) (dNil)))) (dTg 2 (dGCons (dNm 5) (dGCons (dNm 6) (dGNil))))) (dRet (dTup (dCons (dVar 4) (dCons (dVar 5) (dCons (dVar 6) (dCons (dVar 2) (dNil)))))))))))
noncomputable def bd_one_more (ex : DEx) : DS := dThen (dIf (dAnd (dB (dOp (dEqS fun r => r) (dVar 2) (dFld Cl5.K "high" (dVar 0)))) (dB (dOp (dEqS fun r => r) (dOp dAddA (dVar 1) (dC (.int 1))) (dOp (dI CShW fun i j => .int (i * 2 ^ j.toNat)) (dC (.int 1)) (dFld Cl5.K "bits" (dVar 0)))))) (dRaise Cl5.cBeyond ex) (dSkip)) (dRet (dOp dAddA (dVar 1) (dC (.int 1))))
noncomputable def bd_negated : DS := dRet (dTup (dCons (dUn (dU fun i => .int (-i)) (dOp rIxD (dVar 0) (dC (.int 0)))) (dCons (dOp rIxD (dVar 0) (dC (.int 1))) (dNil))))
noncomputable def bd_goes_outward : DS := dThen (dIf (dB (dOp (dEqS fun r => r) (dVar 0) (dC (.str "up")))) (dRet (dOp (dI0 fun i j => .bl (decide (j < i))) (dVar 1) (dC (.int 0)))) (dSkip)) (dThen (dIf (dB (dOp (dEqS fun r => r) (dVar 0) (dC (.str "down")))) (dRet (dOp (dI0 fun i j => .bl (decide (i < j))) (dVar 1) (dC (.int 0)))) (dSkip)) (dThen (dIf (dB (dOp (dEqS fun r => r) (dVar 0) (dC (.str "cut")))) (dRet (dC (.bl false))) (dSkip)) (dThen (dIf (dB (dOp (dEqS fun r => !r) (dVar 3) (dC (.int 0)))) (dRet (dOp (dI0 fun i j => .bl (decide (j < i))) (dVar 3) (dC (.int 0)))) (dSkip)) (dRet (dOrV (dOp (dEqS fun r => r) (dVar 0) (dC (.str "far"))) (dOp (dEqS fun r => r) (dOp (dI0 fun i j => .int (Builtin.bitAnd i j)) (dVar 2) (dC (.int 1))) (dC (.int 1))))))))
noncomputable def bd_settled (ex : DEx) : DS := dThen (dIf (dB (dOp (dEqS fun r => r) (dVar 2) (dC (.int 0)))) (dRet (dTup (dCons (dC (.int 0)) (dCons (dC (.int 0)) (dNil))))) (dSkip)) (dThen (dAsg (dCall sp_stepped (dCons (dVar 0) (dCons (dCB rAbsD (dCons (dVar 2) (dNil))) (dCons (dVar 3) (dNil))))) (dTg 4 (dGCons (dNm 5) (dGCons (dNm 6) (dGCons (dNm 7) (dGCons (dNm 3) (dGNil))))))) (dThen (dIf (dB (dOp (dI0 fun i j => .bl (decide (j < i))) (dVar 5) (dFld Cl5.K "high" (dVar 0)))) (dRaise Cl5.cBeyond ex) (dSkip)) (dThen (dIf (dB (dOp (dEqS fun r => !r) (dVar 7) (dC (.int 0)))) (dThen (dSet 8 (dCallX spx_one_more ex (dCons (dVar 0) (dCons (dVar 6) (dCons (dVar 5) (dNil)))))) (dIf (dB (dCall sp_goes_outward (dCons (dVar 1) (dCons (dVar 2) (dCons (dVar 6) (dCons (dOp (dI0 fun i j => .int (i - j)) (dOp (dI CMuW fun i j => .int (i * j)) (dC (.int 2)) (dVar 7)) (dVar 3)) (dNil))))))) (dSet 6 (dVar 8)) (dSkip))) (dSkip)) (dThen (dSet 4 (dCall sp_shaped (dCons (dVar 6) (dCons (dVar 5) (dNil))))) (dRet (dIfE (dB (dOp (dI0 fun i j => .bl (decide (j < i))) (dVar 2) (dC (.int 0)))) (dVar 4) (dCall sp_negated (dCons (dVar 4) (dNil)))))))))
noncomputable def bd_exact (ex : DEx) : DS := dThen (dAsg (dTup (dCons (dVar 1) (dCons (dVar 2) (dNil)))) (dTg 2 (dGCons (dTg 2 (dGCons (dNm 5) (dGCons (dNm 6) (dGNil)))) (dGCons (dTg 2 (dGCons (dNm 4) (dGCons (dNm 7) (dGNil)))) (dGNil))))) (dThen (dIf (dB (dOp (dEqS fun r => r) (dVar 0) (dC (.str "times")))) (dRet (dCall sp_parts (dCons (dTup (dCons (dOp (dI CMuW fun i j => .int (i * j)) (dVar 5) (dVar 4)) (dCons (dOp dAddA (dVar 6) (dVar 7)) (dNil)))) (dNil)))) (dSkip)) (dThen (dIf (dB (dOp (dEqS fun r => r) (dVar 0) (dC (.str "over")))) (dThen (dIf (dB (dOp (dEqS fun r => r) (dVar 4) (dC (.int 0)))) (dRaise Cl5.cNought ex) (dSkip)) (dThen (dSet 3 (dIfE (dB (dOp (dI0 fun i j => .bl (decide (j < i))) (dVar 4) (dC (.int 0)))) (dVar 5) (dUn (dU fun i => .int (-i)) (dVar 5)))) (dRet (dTup (dCons (dCall sp_scaled (dCons (dVar 3) (dCons (dOp (dI0 fun i j => .int (i - j)) (dVar 6) (dVar 7)) (dNil)))) (dCons (dCall sp_scaled (dCons (dCB rAbsD (dCons (dVar 4) (dNil))) (dCons (dOp (dI0 fun i j => .int (i - j)) (dVar 7) (dVar 6)) (dNil)))) (dNil))))))) (dSkip)) (dThen (dIf (dB (dOp (dEqS fun r => r) (dVar 0) (dC (.str "minus")))) (dSet 4 (dUn (dU fun i => .int (-i)) (dVar 4))) (dSkip)) (dRet (dCall sp_parts (dCons (dTup (dCons (dOp dAddA (dCall sp_scaled (dCons (dVar 5) (dCons (dOp (dI0 fun i j => .int (i - j)) (dVar 6) (dVar 7)) (dNil)))) (dCall sp_scaled (dCons (dVar 4) (dCons (dOp (dI0 fun i j => .int (i - j)) (dVar 7) (dVar 6)) (dNil))))) (dCons (dCB (rTwo fun i j => if j < i then j else i) (dCons (dVar 6) (dCons (dVar 7) (dNil)))) (dNil)))) (dNil)))))))
noncomputable def bd_worked (ex : DEx) : DS := dThen (dAsg (dCallX spx_exact ex (dCons (dVar 2) (dCons (dVar 3) (dCons (dVar 4) (dNil))))) (dTg 2 (dGCons (dNm 5) (dGCons (dNm 6) (dGNil))))) (dRet (dCallX spx_settled ex (dCons (dVar 0) (dCons (dVar 1) (dCons (dVar 5) (dCons (dVar 6) (dNil)))))))
noncomputable def bd_is_number_told : DS := dThen (dIf (dB (dCall sp_is_fraction (dCons (dVar 0) (dNil)))) (dRet (dAndV (dCall sp_is_between (dCons (dUn (dU fun i => .int (-i)) (dC (.int 1000))) (dCons (dC (.int 1000)) (dCons (dOp rIxD (dVar 0) (dC (.int 0))) (dNil))))) (dOp (dI0 fun i j => .bl (decide (i ≤ j))) (dOp rIxD (dVar 0) (dC (.int 1))) (dC (.int 1000))))) (dSkip)) (dRet (dCall sp_is_between (dCons (dUn (dU fun i => .int (-i)) (dC (.int 1000))) (dCons (dC (.int 1000)) (dCons (dVar 0) (dNil))))))
noncomputable def bd_is_leaf : DS := dThen (dIf (dNot (dB (dCall sp_is_tuple (dCons (dC (.int 2)) (dCons (dC (.int 2)) (dCons (dVar 1) (dNil))))))) (dRet (dC (.bl false))) (dSkip)) (dThen (dAsg (dVar 1) (dTg 2 (dGCons (dNm 2) (dGCons (dNm 3) (dGNil))))) (dThen (dIf (dB (dCall sp_is_one_of (dCons (dTup (dCons (dC (.str "in")) (dNil))) (dCons (dVar 2) (dNil))))) (dRet (dCall sp_is_between (dCons (dC (.int 0)) (dCons (dOp (dI0 fun i j => .int (i - j)) (dVar 0) (dC (.int 1))) (dCons (dVar 3) (dNil)))))) (dSkip)) (dRet (dAndV (dCall sp_is_one_of (dCons (dTup (dCons (dC (.str "number")) (dNil))) (dCons (dVar 2) (dNil)))) (dCall sp_is_number_told (dCons (dVar 3) (dNil)))))))
noncomputable def bd_operations (n : Nat) : DS := dThen (dIf (dB (dCall sp_is_leaf (dCons (dVar 0) (dCons (dVar 1) (dNil))))) (dRet (dC (.int 0))) (dSkip)) (dThen (dIf (dOr (dB (dOp (dEqS fun r => r) (dVar 2) (dC (.int 0)))) (dOr (dNot (dB (dCall sp_is_tuple (dCons (dC (.int 3)) (dCons (dC (.int 3)) (dCons (dVar 1) (dNil))))))) (dNot (dB (dCall sp_is_one_of (dCons (dC c_WORDS) (dCons (dOp rIxD (dVar 1) (dC (.int 0))) (dNil)))))))) (dRet (dC .non)) (dSkip)) (dThen (dSet 3 (dCall (sp_operations n) (dCons (dVar 0) (dCons (dOp rIxD (dVar 1) (dC (.int 1))) (dCons (dOp (dI0 fun i j => .int (i - j)) (dVar 2) (dC (.int 1))) (dNil)))))) (dThen (dSet 4 (dCall (sp_operations n) (dCons (dVar 0) (dCons (dOp rIxD (dVar 1) (dC (.int 2))) (dCons (dOp (dI0 fun i j => .int (i - j)) (dVar 2) (dC (.int 1))) (dNil)))))) (dThen (dIf (dOr (dB (dOp (dIsN fun r => r) (dVar 3) (dC .non))) (dB (dOp (dIsN fun r => r) (dVar 4) (dC .non)))) (dRet (dC .non)) (dSkip)) (dRet (dOp dAddA (dOp dAddA (dVar 3) (dVar 4)) (dC (.int 1))))))))
noncomputable def bd_is_formula : DS := dThen (dSet 2 (dCall (sp_operations 8) (dCons (dVar 0) (dCons (dVar 1) (dCons (dC (.int 6)) (dNil)))))) (dRet (dAndV (dOp (dIsN fun r => !r) (dVar 2) (dC .non)) (dOp (dI0 fun i j => .bl (decide (i ≤ j))) (dVar 2) (dC (.int 12)))))
noncomputable def bd_fraction_of : DS := dRet (dIfE (dB (dCB (rIsiK Cl5.K) (dCons (dVar 0) (dCons (dC (.ty "tuple")) (dNil))))) (dVar 0) (dTup (dCons (dVar 0) (dCons (dC (.int 1)) (dNil)))))
noncomputable def bd_result (n : Nat) (ex : DEx) : DS := dThen (dSet 4 (dOp rIxD (dVar 2) (dC (.int 0)))) (dThen (dIf (dB (dOp (dEqS fun r => r) (dVar 4) (dC (.str "in")))) (dRet (dCallX spx_settled ex (dCons (dVar 0) (dCons (dVar 1) (dCons (dOp rIxD (dVar 3) (dOp rIxD (dVar 2) (dC (.int 1)))) (dCons (dC (.int 1)) (dNil))))))) (dSkip)) (dThen (dIf (dB (dOp (dEqS fun r => r) (dVar 4) (dC (.str "number")))) (dThen (dAsg (dCall sp_fraction_of (dCons (dOp rIxD (dVar 2) (dC (.int 1))) (dNil))) (dTg 2 (dGCons (dNm 7) (dGCons (dNm 8) (dGNil))))) (dRet (dCallX spx_settled ex (dCons (dVar 0) (dCons (dVar 1) (dCons (dVar 7) (dCons (dVar 8) (dNil)))))))) (dSkip)) (dThen (dSet 5 (dCallX (spx_result n) ex (dCons (dVar 0) (dCons (dVar 1) (dCons (dOp rIxD (dVar 2) (dC (.int 1))) (dCons (dVar 3) (dNil))))))) (dThen (dSet 6 (dCallX (spx_result n) ex (dCons (dVar 0) (dCons (dVar 1) (dCons (dOp rIxD (dVar 2) (dC (.int 2))) (dCons (dVar 3) (dNil))))))) (dThen (dIf (dB (dOp (dEqS fun r => r) (dVar 4) (dC (.str "least")))) (dRet (dIfE (dB (dCall sp_under (dCons (dVar 6) (dCons (dVar 5) (dNil))))) (dVar 6) (dVar 5))) (dSkip)) (dThen (dIf (dB (dOp (dEqS fun r => r) (dVar 4) (dC (.str "greatest")))) (dRet (dIfE (dB (dCall sp_under (dCons (dVar 5) (dCons (dVar 6) (dNil))))) (dVar 6) (dVar 5))) (dSkip)) (dRet (dCallX spx_worked ex (dCons (dVar 0) (dCons (dVar 1) (dCons (dVar 4) (dCons (dVar 5) (dCons (dVar 6) (dNil))))))))))))))
noncomputable def bd_whole_result (ex : DEx) : DS := dRet (dCall sp_whole_near (dCons (dCallX (spx_result 9) ex (dCons (dVar 0) (dCons (dVar 1) (dCons (dVar 2) (dCons (dVar 3) (dNil)))))) (dNil)))
noncomputable def bd_check_run : DS := dThen (dIf (dNot (dB (dCall sp_is_way (dCons (dVar 0) (dNil))))) (dDead) (dSkip)) (dThen (dIf (dNot (dB (dCall sp_is_row (dCons (dC (.int 1)) (dCons (dC (.int 6)) (dCons (dUn (dU fun i => .int (-i)) (dC (.int 10000))) (dCons (dC (.int 10000)) (dCons (dVar 2) (dNil))))))))) (dDead) (dSkip)) (dIf (dNot (dB (dCall sp_is_formula (dCons (dCB rLenD (dCons (dVar 2) (dNil))) (dCons (dVar 1) (dNil)))))) (dDead) (dSkip)))
noncomputable def bd_run (ex : DEx) : DS := dThen (dExpr (dCall sp_check_run (dCons (dVar 1) (dCons (dVar 2) (dCons (dVar 3) (dNil)))))) (dRet (dCallX (spx_result 9) ex (dCons (dVar 0) (dCons (dVar 1) (dCons (dVar 2) (dCons (dVar 3) (dNil)))))))
noncomputable def bd_whole_of (ex : DEx) : DS := dThen (dExpr (dCall sp_check_run (dCons (dVar 1) (dCons (dVar 2) (dCons (dVar 3) (dNil)))))) (dRet (dCallX spx_whole_result ex (dCons (dVar 0) (dCons (dVar 1) (dCons (dVar 2) (dCons (dVar 3) (dNil)))))))
noncomputable def bd__law_hand : DS := dThen (dSet 1 (dComp (dSeq (dSl (dVar 0) (dPart0) (dPart (dC (.int 63))))) (dNm 2) (dYes) (dCB rAbsD (dCons (dCB rIntD (dCons (dVar 2) (dNil))) (dNil))) [2])) (dRet (dLstO (dCons (dVar 1) (dCons (dC (.int 0)) (dCons (dC (.int 0)) (dCons (dOp dAddA (dC (.int 5)) (dCB rLenD (dCons (dVar 1) (dNil)))) (dCons (dC (.int 0)) (dNil))))))))
noncomputable def bd__law_draw : DS := dThen (dIf (dAnd (dB (dOp (dEqS fun r => r) (dOp rIxD (dVar 0) (dC (.int 2))) (dC (.int 0)))) (dB (dOp (dI0 fun i j => .bl (decide (i < j))) (dOp rIxD (dVar 0) (dC (.int 1))) (dCB rLenD (dCons (dOp rIxD (dVar 0) (dC (.int 0))) (dNil)))))) (dThen (dSet 3 (dOp rIxD (dOp rIxD (dVar 0) (dC (.int 0))) (dOp rIxD (dVar 0) (dC (.int 1))))) (dThen (dSetIx (dVar 0) (dC (.int 1)) (dOp dAddA (dOp rIxD (dVar 0) (dC (.int 1))) (dC (.int 1)))) (dThen (dSetIx (dVar 0) (dC (.int 3)) (dOp (dI (fun _ j => 0 < j) fun i j => .int (i % j)) (dCB rIntD (dCons (dOp dAddA (dOp dAddA (dOp (dI CMul fun i j => .int (i * j)) (dOp rIxD (dVar 0) (dC (.int 3))) (dC (.int 69621))) (dVar 3)) (dC (.int 11))) (dNil))) (dC (.int 2147483629)))) (dIf (dB (dOp (dI0 fun i j => .bl (decide (j ≤ i))) (dVar 3) (dOp (dI CPow fun i j => .int (i ^ j.toNat)) (dC (.int 10)) (dC (.int 18))))) (dSetIx (dVar 0) (dC (.int 2)) (dVar 3)) (dSkip))))) (dSkip)) (dThen (dIf (dB (dOp (dI0 fun i j => .bl (decide (j < i))) (dOp rIxD (dVar 0) (dC (.int 2))) (dC (.int 0)))) (dThen (dSet 4 (dOp (dI (fun _ j => 0 < j) fun i j => .int (i % j)) (dCB rIntD (dCons (dOp rIxD (dVar 0) (dC (.int 2))) (dNil))) (dVar 1))) (dThen (dSetIx (dVar 0) (dC (.int 2)) (dOp (dI CDiv fun i j => .int (i / j)) (dOp rIxD (dVar 0) (dC (.int 2))) (dVar 1))) (dRet (dVar 4)))) (dSkip)) (dThen (dSetIx (dVar 0) (dC (.int 4)) (dOp dAddA (dOp rIxD (dVar 0) (dC (.int 4))) (dC (.int 1)))) (dThen (dSet 2 (dOp (dI (fun _ j => 0 < j) fun i j => .int (i % j)) (dCB rIntD (dCons (dOp (dI CMul fun i j => .int (i * j)) (dCB rIntD (dCons (dOp dAddA (dOp rIxD (dVar 0) (dC (.int 3))) (dOp (dI CMul fun i j => .int (i * j)) (dC (.int 7919)) (dOp rIxD (dVar 0) (dC (.int 4))))) (dNil))) (dC (.int 48271))) (dNil))) (dC (.int 2147483647)))) (dThen (dSet 2 (dOp (dI (fun _ j => 0 < j) fun i j => .int (i % j)) (dCB rIntD (dCons (dOp (dI CMul fun i j => .int (i * j)) (dVar 2) (dOp dAddA (dOp (dI CDiv fun i j => .int (i / j)) (dVar 2) (dC (.int 1009))) (dC (.int 69621)))) (dNil))) (dC (.int 2147483647)))) (dThen (dSet 2 (dOp (dI (fun _ j => 0 < j) fun i j => .int (i % j)) (dCB rIntD (dCons (dOp (dI CMul fun i j => .int (i * j)) (dVar 2) (dOp dAddA (dOp (dI CDiv fun i j => .int (i / j)) (dVar 2) (dC (.int 2003))) (dC (.int 40692)))) (dNil))) (dC (.int 2147483399)))) (dRet (dOp (dI (fun _ j => 0 < j) fun i j => .int (i % j)) (dCB rIntD (dCons (dOp (dI CDiv fun i j => .int (i / j)) (dVar 2) (dC (.int 16))) (dNil))) (dVar 1))))))))
noncomputable def bd__law_any : DS := dRet (dOp rIxD (dVar 1) (dCall sp__law_draw (dCons (dVar 0) (dCons (dCB rLenD (dCons (dVar 1) (dNil))) (dNil)))))
noncomputable def bd__law_is_int : DS := dRet (dAndV (dCB (rIsiK Cl5.K) (dCons (dVar 0) (dCons (dC (.ty "int")) (dNil)))) (dAndV (dNotV (dCB (rIsiK Cl5.K) (dCons (dVar 0) (dCons (dC (.ty "bool")) (dNil))))) (dChain (dI0 fun i j => .bl (decide (i ≤ j))) (dI0 fun i j => .bl (decide (i ≤ j))) (dVar 1) (dVar 0) (dVar 2))))
noncomputable def bd__law_flag : DS := dRet (dAndV (dCB (rIsiK Cl5.K) (dCons (dVar 0) (dCons (dC (.ty "bool")) (dNil)))) (dOp (dEqS fun r => r) (dVar 0) (dVar 1)))
noncomputable def bd__law_deep : DS := dThen (dFor (dRng1 (dOp dAddA (dC (.int 1)) (dCall sp__law_draw (dCons (dVar 0) (dCons (dC (.int 30)) (dNil)))))) (dNm 2) (dSet 1 (dIfE (dB (dOp (dEqS fun r => r) (dCall sp__law_draw (dCons (dVar 0) (dCons (dC (.int 2)) (dNil)))) (dC (.int 0)))) (dTup (dCons (dVar 1) (dNil))) (dLst (dCons (dVar 1) (dNil)))))) (dRet (dVar 1))
noncomputable def bd__law_low : DS := dThen (dPar 2 3 (dCons (dCB rAbsD (dCons (dVar 0) (dNil))) (dCons (dVar 1) (dNil)))) (dThen (dWhile (dB (dOp (dI0 fun i j => .bl (decide (j < i))) (dVar 3) (dC (.int 0)))) (dPar 2 3 (dCons (dVar 3) (dCons (dOp (dI (fun _ j => 0 < j) fun i j => .int (i % j)) (dCB rIntD (dCons (dVar 2) (dNil))) (dVar 3)) (dNil))))) (dRet (dTup (dCons (dOp (dI CDiW fun i j => .int (i / j)) (dVar 0) (dVar 2)) (dCons (dOp (dI CDiW fun i j => .int (i / j)) (dVar 1) (dVar 2)) (dNil))))))
noncomputable def bd__law_two : DS := dThen (dSet 1 (dC (.int 1))) (dThen (dFor (dRng1 (dVar 0)) (dNm 2) (dSet 1 (dOp (dI CMuW fun i j => .int (i * j)) (dVar 1) (dC (.int 2))))) (dRet (dVar 1)))
noncomputable def bd__law_worth : DS := dThen (dIf (dB (dOp (dI0 fun i j => .bl (decide (j ≤ i))) (dOp rIxD (dVar 0) (dC (.int 1))) (dC (.int 0)))) (dRet (dTup (dCons (dOp (dI CMuW fun i j => .int (i * j)) (dOp rIxD (dVar 0) (dC (.int 0))) (dCall sp__law_two (dCons (dOp rIxD (dVar 0) (dC (.int 1))) (dNil)))) (dCons (dC (.int 1)) (dNil))))) (dSkip)) (dRet (dCall sp__law_low (dCons (dOp rIxD (dVar 0) (dC (.int 0))) (dCons (dCall sp__law_two (dCons (dOp (dI0 fun i j => .int (i - j)) (dC (.int 0)) (dOp rIxD (dVar 0) (dC (.int 1)))) (dNil))) (dNil)))))
noncomputable def bd__law_dyad : DS := dThen (dPar3 1 2 3 (dCons (dOp rIxD (dVar 0) (dC (.int 0))) (dCons (dOp rIxD (dVar 0) (dC (.int 1))) (dCons (dC (.int 0)) (dNil))))) (dThen (dIf (dB (dOp (dEqS fun r => r) (dVar 1) (dC (.int 0)))) (dRet (dTup (dCons (dC (.int 0)) (dCons (dC (.int 0)) (dNil))))) (dSkip)) (dThen (dWhile (dB (dOp (dI0 fun i j => .bl (decide (j < i))) (dVar 2) (dC (.int 1)))) (dPar 2 3 (dCons (dOp (dI CDiW fun i j => .int (i / j)) (dVar 2) (dC (.int 2))) (dCons (dOp (dI0 fun i j => .int (i - j)) (dVar 3) (dC (.int 1))) (dNil))))) (dThen (dWhile (dB (dOp (dEqS fun r => r) (dOp (dI (fun _ j => 0 < j) fun i j => .int (i % j)) (dCB rIntD (dCons (dVar 1) (dNil))) (dC (.int 2))) (dC (.int 0)))) (dPar 1 3 (dCons (dOp (dI CDiW fun i j => .int (i / j)) (dVar 1) (dC (.int 2))) (dCons (dOp dAddA (dVar 3) (dC (.int 1))) (dNil))))) (dRet (dTup (dCons (dVar 1) (dCons (dVar 3) (dNil))))))))
noncomputable def bd__law_beside (n : Nat) : DS := dThen (dAsg (dVar 0) (dTg 3 (dGCons (dNm 5) (dGCons (dNm 6) (dGCons (dNm 7) (dGNil)))))) (dThen (dAsg (dVar 1) (dTg 2 (dGCons (dNm 8) (dGCons (dNm 9) (dGNil))))) (dThen (dIf (dB (dOp (dI0 fun i j => .bl (decide (i < j))) (dVar 8) (dC (.int 0)))) (dThen (dSet 10 (dCall (sp__law_beside n) (dCons (dVar 0) (dCons (dTup (dCons (dOp (dI0 fun i j => .int (i - j)) (dC (.int 0)) (dVar 8)) (dCons (dVar 9) (dNil)))) (dCons (dNotV (dVar 2)) (dNil)))))) (dRet (dIfE (dB (dOp (dIsN fun r => r) (dVar 10) (dC .non))) (dC .non) (dTup (dCons (dOp (dI0 fun i j => .int (i - j)) (dC (.int 0)) (dOp rIxD (dVar 10) (dC (.int 0)))) (dCons (dOp rIxD (dVar 10) (dC (.int 1))) (dNil))))))) (dSkip)) (dThen (dSet 3 (dOp (dI0 fun i j => .int (i - j)) (dCall sp__law_two (dCons (dVar 5) (dNil))) (dC (.int 1)))) (dThen (dFor (dRng2 (dVar 6) (dOp dAddA (dVar 7) (dC (.int 1)))) (dNm 4) (dThen (dAsg (dIfE (dB (dOp (dI0 fun i j => .bl (decide (j ≤ i))) (dVar 4) (dC (.int 0)))) (dTup (dCons (dVar 8) (dCons (dOp (dI CMuW fun i j => .int (i * j)) (dVar 9) (dCall sp__law_two (dCons (dVar 4) (dNil)))) (dNil)))) (dTup (dCons (dOp (dI CMuW fun i j => .int (i * j)) (dVar 8) (dCall sp__law_two (dCons (dOp (dI0 fun i j => .int (i - j)) (dC (.int 0)) (dVar 4)) (dNil)))) (dCons (dVar 9) (dNil))))) (dTg 2 (dGCons (dNm 12) (dGCons (dNm 13) (dGNil))))) (dThen (dSet 11 (dOp dAddA (dOp (dI CDiW fun i j => .int (i / j)) (dVar 12) (dVar 13)) (dCB rIntD (dCons (dAndV (dVar 2) (dOp (dEqS fun r => !r) (dOp (dI (fun _ j => 0 < j) fun i j => .int (i % j)) (dCB rIntD (dCons (dVar 12) (dNil))) (dVar 13)) (dC (.int 0)))) (dNil))))) (dIf (dB (dOp (dI0 fun i j => .bl (decide (i ≤ j))) (dVar 11) (dVar 3))) (dRet (dIfE (dB (dOp (dI0 fun i j => .bl (decide (j ≤ i))) (dVar 4) (dC (.int 0)))) (dTup (dCons (dOp (dI CMuW fun i j => .int (i * j)) (dVar 11) (dCall sp__law_two (dCons (dVar 4) (dNil)))) (dCons (dC (.int 1)) (dNil)))) (dCall sp__law_low (dCons (dVar 11) (dCons (dCall sp__law_two (dCons (dOp (dI0 fun i j => .int (i - j)) (dC (.int 0)) (dVar 4)) (dNil))) (dNil)))))) (dSkip))))) (dRet (dIfE (dB (dVar 2)) (dC .non) (dCall sp__law_worth (dCons (dTup (dCons (dVar 3) (dCons (dVar 7) (dNil)))) (dNil)))))))))
noncomputable def bd__law_minus : DS := dRet (dCall sp__law_low (dCons (dOp (dI0 fun i j => .int (i - j)) (dOp (dI CMuW fun i j => .int (i * j)) (dOp rIxD (dVar 0) (dC (.int 0))) (dOp rIxD (dVar 1) (dC (.int 1)))) (dOp (dI CMuW fun i j => .int (i * j)) (dOp rIxD (dVar 1) (dC (.int 0))) (dOp rIxD (dVar 0) (dC (.int 1))))) (dCons (dOp (dI CMuW fun i j => .int (i * j)) (dOp rIxD (dVar 0) (dC (.int 1))) (dOp rIxD (dVar 1) (dC (.int 1)))) (dNil))))
noncomputable def bd__law_rounded : DS := dThen (dPar 5 6 (dCons (dCall (sp__law_beside 2) (dCons (dVar 0) (dCons (dVar 1) (dCons (dC (.bl false)) (dNil))))) (dCons (dCall (sp__law_beside 2) (dCons (dVar 0) (dCons (dVar 1) (dCons (dC (.bl true)) (dNil))))) (dNil)))) (dThen (dIf (dOr (dB (dOp (dIsN fun r => r) (dVar 5) (dC .non))) (dOr (dB (dOp (dIsN fun r => r) (dVar 6) (dC .non))) (dB (dOp (dEqQ fun r => r) (dVar 5) (dVar 6))))) (dRet (dIfE (dOr (dB (dOp (dIsN fun r => r) (dVar 5) (dC .non))) (dB (dOp (dIsN fun r => r) (dVar 6) (dC .non)))) (dC .non) (dVar 5))) (dSkip)) (dThen (dIf (dB (dOp (dIn false) (dVar 2) (dTup (dCons (dC (.str "up")) (dCons (dC (.str "down")) (dNil)))))) (dRet (dIfE (dB (dOp (dEqS fun r => r) (dVar 2) (dC (.str "up")))) (dVar 6) (dVar 5))) (dSkip)) (dThen (dIf (dB (dOp (dEqS fun r => r) (dVar 2) (dC (.str "cut")))) (dRet (dIfE (dB (dOp (dI0 fun i j => .bl (decide (j < i))) (dOp rIxD (dVar 1) (dC (.int 0))) (dC (.int 0)))) (dVar 5) (dVar 6))) (dSkip)) (dThen (dPar 7 8 (dCons (dCall sp__law_minus (dCons (dVar 1) (dCons (dVar 5) (dNil)))) (dCons (dCall sp__law_minus (dCons (dVar 6) (dCons (dVar 1) (dNil)))) (dNil)))) (dThen (dIf (dB (dOp (dEqQ fun r => !r) (dVar 7) (dVar 8))) (dRet (dIfE (dB (dOp (dI0 fun i j => .bl (decide (i < j))) (dOp (dI CMuW fun i j => .int (i * j)) (dOp rIxD (dVar 7) (dC (.int 0))) (dOp rIxD (dVar 8) (dC (.int 1)))) (dOp (dI CMuW fun i j => .int (i * j)) (dOp rIxD (dVar 8) (dC (.int 0))) (dOp rIxD (dVar 7) (dC (.int 1)))))) (dVar 5) (dVar 6))) (dSkip)) (dThen (dIf (dB (dOp (dEqS fun r => r) (dVar 2) (dC (.str "far")))) (dRet (dIfE (dB (dOp (dI0 fun i j => .bl (decide (j < i))) (dOp rIxD (dVar 1) (dC (.int 0))) (dC (.int 0)))) (dVar 6) (dVar 5))) (dSkip)) (dThen (dSet 3 (dCall sp__law_minus (dCons (dVar 6) (dCons (dVar 5) (dNil))))) (dThen (dSet 4 (dOp (dI CDiW fun i j => .int (i / j)) (dOp (dI CMuW fun i j => .int (i * j)) (dOp rIxD (dVar 5) (dC (.int 0))) (dOp rIxD (dVar 3) (dC (.int 1)))) (dOp (dI CMuW fun i j => .int (i * j)) (dOp rIxD (dVar 5) (dC (.int 1))) (dOp rIxD (dVar 3) (dC (.int 0)))))) (dRet (dIfE (dB (dOp (dEqS fun r => r) (dOp (dI (fun _ j => 0 < j) fun i j => .int (i % j)) (dCB rIntD (dCons (dVar 4) (dNil))) (dC (.int 2))) (dC (.int 0)))) (dVar 5) (dVar 6)))))))))))
noncomputable def bd__law_exact : DS := dThen (dIf (dB (dOp (dEqS fun r => r) (dVar 0) (dC (.str "plus")))) (dRet (dCall sp__law_low (dCons (dOp dAddA (dOp (dI CMuW fun i j => .int (i * j)) (dOp rIxD (dVar 1) (dC (.int 0))) (dOp rIxD (dVar 2) (dC (.int 1)))) (dOp (dI CMuW fun i j => .int (i * j)) (dOp rIxD (dVar 2) (dC (.int 0))) (dOp rIxD (dVar 1) (dC (.int 1))))) (dCons (dOp (dI CMuW fun i j => .int (i * j)) (dOp rIxD (dVar 1) (dC (.int 1))) (dOp rIxD (dVar 2) (dC (.int 1)))) (dNil))))) (dSkip)) (dThen (dIf (dB (dOp (dEqS fun r => r) (dVar 0) (dC (.str "minus")))) (dRet (dCall sp__law_minus (dCons (dVar 1) (dCons (dVar 2) (dNil))))) (dSkip)) (dThen (dIf (dB (dOp (dEqS fun r => r) (dVar 0) (dC (.str "times")))) (dRet (dCall sp__law_low (dCons (dOp (dI CMuW fun i j => .int (i * j)) (dOp rIxD (dVar 1) (dC (.int 0))) (dOp rIxD (dVar 2) (dC (.int 0)))) (dCons (dOp (dI CMuW fun i j => .int (i * j)) (dOp rIxD (dVar 1) (dC (.int 1))) (dOp rIxD (dVar 2) (dC (.int 1)))) (dNil))))) (dSkip)) (dThen (dIf (dB (dOp (dEqS fun r => r) (dVar 0) (dC (.str "over")))) (dThen (dSet 4 (dIfE (dB (dOp (dI0 fun i j => .bl (decide (i < j))) (dOp rIxD (dVar 2) (dC (.int 0))) (dC (.int 0)))) (dUn (dU fun i => .int (-i)) (dC (.int 1))) (dC (.int 1)))) (dRet (dIfE (dB (dOp (dEqS fun r => r) (dOp rIxD (dVar 2) (dC (.int 0))) (dC (.int 0)))) (dC .non) (dCall sp__law_low (dCons (dOp (dI CMuW fun i j => .int (i * j)) (dOp (dI CMuW fun i j => .int (i * j)) (dOp rIxD (dVar 1) (dC (.int 0))) (dOp rIxD (dVar 2) (dC (.int 1)))) (dVar 4)) (dCons (dOp (dI CMuW fun i j => .int (i * j)) (dOp (dI CMuW fun i j => .int (i * j)) (dOp rIxD (dVar 1) (dC (.int 1))) (dOp rIxD (dVar 2) (dC (.int 0)))) (dVar 4)) (dNil))))))) (dSkip)) (dThen (dSet 3 (dOp (dI0 fun i j => .bl (decide (i < j))) (dOp (dI CMuW fun i j => .int (i * j)) (dOp rIxD (dVar 1) (dC (.int 0))) (dOp rIxD (dVar 2) (dC (.int 1)))) (dOp (dI CMuW fun i j => .int (i * j)) (dOp rIxD (dVar 2) (dC (.int 0))) (dOp rIxD (dVar 1) (dC (.int 1)))))) (dRet (dIfE (dB (dOp (dEqS fun r => r) (dVar 3) (dOp (dEqS fun r => r) (dVar 0) (dC (.str "least"))))) (dVar 1) (dVar 2)))))))
noncomputable def bd__law_run (n : Nat) : DS := dThen (dIf (dB (dOp (dIn false) (dOp rIxD (dVar 2) (dC (.int 0))) (dTup (dCons (dC (.str "in")) (dCons (dC (.str "number")) (dNil)))))) (dThen (dSet 8 (dIfE (dB (dOp (dEqS fun r => r) (dOp rIxD (dVar 2) (dC (.int 0))) (dC (.str "in")))) (dOp rIxD (dVar 3) (dOp rIxD (dVar 2) (dC (.int 1)))) (dOp rIxD (dVar 2) (dC (.int 1))))) (dThen (dSet 7 (dCall sp__law_rounded (dCons (dVar 0) (dCons (dIfE (dB (dCB (rIsiK Cl5.K) (dCons (dVar 8) (dCons (dC (.ty "tuple")) (dNil))))) (dVar 8) (dTup (dCons (dVar 8) (dCons (dC (.int 1)) (dNil))))) (dCons (dVar 1) (dNil)))))) (dRet (dIfE (dB (dOp (dIsN fun r => r) (dVar 7) (dC .non))) (dC (.str "beyond")) (dVar 7))))) (dSkip)) (dThen (dSet 4 (dCall (sp__law_run n) (dCons (dVar 0) (dCons (dVar 1) (dCons (dOp rIxD (dVar 2) (dC (.int 1))) (dCons (dVar 3) (dNil))))))) (dThen (dSet 5 (dIfE (dB (dCB (rIsiK Cl5.K) (dCons (dVar 4) (dCons (dC (.ty "str")) (dNil))))) (dVar 4) (dCall (sp__law_run n) (dCons (dVar 0) (dCons (dVar 1) (dCons (dOp rIxD (dVar 2) (dC (.int 2))) (dCons (dVar 3) (dNil)))))))) (dThen (dIf (dB (dCB (rIsiK Cl5.K) (dCons (dVar 5) (dCons (dC (.ty "str")) (dNil))))) (dRet (dVar 5)) (dSkip)) (dThen (dSet 6 (dCall sp__law_exact (dCons (dOp rIxD (dVar 2) (dC (.int 0))) (dCons (dVar 4) (dCons (dVar 5) (dNil)))))) (dThen (dIf (dB (dOp (dIsN fun r => r) (dVar 6) (dC .non))) (dRet (dC (.str "nought"))) (dSkip)) (dThen (dSet 7 (dCall sp__law_rounded (dCons (dVar 0) (dCons (dVar 6) (dCons (dVar 1) (dNil)))))) (dRet (dIfE (dB (dOp (dIsN fun r => r) (dVar 7) (dC .non))) (dC (.str "beyond")) (dVar 7)))))))))
noncomputable def bd__law_whole : DS := dThen (dSet 1 (dOp dAddA (dOp (dI CMuW fun i j => .int (i * j)) (dC (.int 2)) (dOp rIxD (dVar 0) (dC (.int 0)))) (dOp rIxD (dVar 0) (dC (.int 1))))) (dThen (dSet 2 (dOp (dI CDiW fun i j => .int (i / j)) (dVar 1) (dOp (dI CMuW fun i j => .int (i * j)) (dC (.int 2)) (dOp rIxD (dVar 0) (dC (.int 1)))))) (dRet (dIfE (dAnd (dB (dOp (dEqS fun r => r) (dOp (dI (fun _ j => 0 < j) fun i j => .int (i % j)) (dCB rIntD (dCons (dVar 1) (dNil))) (dOp (dI CMuW fun i j => .int (i * j)) (dC (.int 2)) (dOp rIxD (dVar 0) (dC (.int 1))))) (dC (.int 0)))) (dB (dOp (dEqS fun r => r) (dOp (dI (fun _ j => 0 < j) fun i j => .int (i % j)) (dCB rIntD (dCons (dVar 2) (dNil))) (dC (.int 2))) (dC (.int 1))))) (dOp (dI0 fun i j => .int (i - j)) (dVar 2) (dC (.int 1))) (dVar 2))))
noncomputable def bd__law_spec : DS := dThen (dSet 1 (dCall sp__law_draw (dCons (dVar 0) (dCons (dC (.int 8)) (dNil))))) (dThen (dIf (dB (dOp (dEqS fun r => r) (dVar 1) (dC (.int 0)))) (dThen (dSet 2 (dOp (dI0 fun i j => .int (i - j)) (dCall sp__law_draw (dCons (dVar 0) (dCons (dC (.int 81)) (dNil)))) (dC (.int 40)))) (dRet (dTup (dCons (dCall sp__law_any (dCons (dVar 0) (dCons (dLst (dCons (dC (.int 2)) (dCons (dC (.int 3)) (dCons (dC (.int 24)) (dNil))))) (dNil)))) (dCons (dVar 2) (dCons (dCB (rTwo fun i j => if j < i then j else i) (dCons (dC (.int 40)) (dCons (dOp dAddA (dVar 2) (dCall sp__law_draw (dCons (dVar 0) (dCons (dC (.int 30)) (dNil))))) (dNil)))) (dNil))))))) (dSkip)) (dThen (dSet 2 (dOp (dI0 fun i j => .int (i - j)) (dCall sp__law_draw (dCons (dVar 0) (dCons (dC (.int 7)) (dNil)))) (dC (.int 6)))) (dThen (dIf (dB (dOp (dI0 fun i j => .bl (decide (i < j))) (dVar 1) (dC (.int 3)))) (dRet (dTup (dCons (dOp dAddA (dC (.int 2)) (dCall sp__law_draw (dCons (dVar 0) (dCons (dC (.int 4)) (dNil))))) (dCons (dVar 2) (dCons (dOp dAddA (dVar 2) (dCall sp__law_draw (dCons (dVar 0) (dCons (dC (.int 9)) (dNil))))) (dNil)))))) (dSkip)) (dRet (dTup (dCons (dOp dAddA (dC (.int 3)) (dCall sp__law_draw (dCons (dVar 0) (dCons (dC (.int 9)) (dNil))))) (dCons (dVar 2) (dCons (dOp dAddA (dC (.int 4)) (dCall sp__law_draw (dCons (dVar 0) (dCons (dC (.int 12)) (dNil))))) (dNil)))))))))
noncomputable def bd__law_tree (n : Nat) : DS := dThen (dIf (dB (dOp (dEqS fun r => r) (dVar 2) (dC (.int 0)))) (dThen (dIf (dAnd (dB (dOp (dI0 fun i j => .bl (decide (j < i))) (dVar 1) (dC (.int 0)))) (dB (dOp (dI0 fun i j => .bl (decide (j < i))) (dCall sp__law_draw (dCons (dVar 0) (dCons (dC (.int 3)) (dNil)))) (dC (.int 0))))) (dRet (dTup (dCons (dC (.str "in")) (dCons (dCall sp__law_draw (dCons (dVar 0) (dCons (dVar 1) (dNil)))) (dNil))))) (dSkip)) (dThen (dSet 9 (dLst (dCons (dC (.int 0)) (dCons (dC (.int 1)) (dCons (dUn (dU fun i => .int (-i)) (dC (.int 1))) (dCons (dC (.int 2)) (dCons (dC (.int 3)) (dCons (dUn (dU fun i => .int (-i)) (dC (.int 5))) (dCons (dC (.int 1000)) (dCons (dTup (dCons (dC (.int 1)) (dCons (dC (.int 2)) (dNil)))) (dCons (dTup (dCons (dUn (dU fun i => .int (-i)) (dC (.int 3))) (dCons (dC (.int 4)) (dNil)))) (dCons (dTup (dCons (dC (.int 1)) (dCons (dC (.int 3)) (dNil)))) (dCons (dTup (dCons (dC (.int 1000)) (dCons (dC (.int 7)) (dNil)))) (dCons (dTup (dCons (dC (.int 0)) (dCons (dC (.int 1)) (dNil)))) (dCons (dTup (dCons (dC (.int 2)) (dCons (dC (.int 1)) (dNil)))) (dCons (dOp (dI0 fun i j => .int (i - j)) (dCall sp__law_draw (dCons (dVar 0) (dCons (dC (.int 40)) (dNil)))) (dC (.int 20))) (dNil))))))))))))))))) (dRet (dTup (dCons (dC (.str "number")) (dCons (dCall sp__law_any (dCons (dVar 0) (dCons (dVar 9) (dNil)))) (dNil))))))) (dSkip)) (dThen (dSet 4 (dOp (dI0 fun i j => .int (i - j)) (dCall sp__law_two (dCons (dOp (dI0 fun i j => .int (i - j)) (dVar 3) (dC (.int 1))) (dNil))) (dC (.int 1)))) (dThen (dSet 5 (dCB (rTwo fun i j => if j > i then j else i) (dCons (dC (.int 0)) (dCons (dOp (dI0 fun i j => .int (i - j)) (dOp (dI0 fun i j => .int (i - j)) (dVar 2) (dC (.int 1))) (dVar 4)) (dNil))))) (dThen (dSet 6 (dOp dAddA (dVar 5) (dCall sp__law_draw (dCons (dVar 0) (dCons (dOp dAddA (dOp (dI0 fun i j => .int (i - j)) (dCB (rTwo fun i j => if j < i then j else i) (dCons (dVar 4) (dCons (dOp (dI0 fun i j => .int (i - j)) (dVar 2) (dC (.int 1))) (dNil)))) (dVar 5)) (dC (.int 1))) (dNil)))))) (dThen (dSet 7 (dCall sp__law_any (dCons (dVar 0) (dCons (dLst (dCons (dC (.str "plus")) (dCons (dC (.str "minus")) (dCons (dC (.str "times")) (dCons (dC (.str "over")) (dCons (dC (.str "least")) (dCons (dC (.str "greatest")) (dCons (dC (.str "plus")) (dCons (dC (.str "minus")) (dNil)))))))))) (dNil))))) (dThen (dSet 8 (dCall (sp__law_tree n) (dCons (dVar 0) (dCons (dVar 1) (dCons (dVar 6) (dCons (dOp (dI0 fun i j => .int (i - j)) (dVar 3) (dC (.int 1))) (dNil))))))) (dRet (dTup (dCons (dVar 7) (dCons (dVar 8) (dCons (dCall (sp__law_tree n) (dCons (dVar 0) (dCons (dVar 1) (dCons (dOp (dI0 fun i j => .int (i - j)) (dOp (dI0 fun i j => .int (i - j)) (dVar 2) (dC (.int 1))) (dVar 6)) (dCons (dOp (dI0 fun i j => .int (i - j)) (dVar 3) (dC (.int 1))) (dNil)))))) (dNil)))))))))))
noncomputable def bd__law_row : DS := dThen (dSet 2 (dLst (dCons (dC (.int 0)) (dCons (dC (.int 1)) (dCons (dUn (dU fun i => .int (-i)) (dC (.int 1))) (dCons (dC (.int 2)) (dCons (dC (.int 3)) (dCons (dC (.int 7)) (dCons (dUn (dU fun i => .int (-i)) (dC (.int 8))) (dCons (dC (.int 15)) (dCons (dC (.int 100)) (dCons (dC (.int 10000)) (dCons (dUn (dU fun i => .int (-i)) (dC (.int 10000))) (dCons (dOp (dI0 fun i j => .int (i - j)) (dCall sp__law_draw (dCons (dVar 0) (dCons (dC (.int 60)) (dNil)))) (dC (.int 30))) (dCons (dOp (dI0 fun i j => .int (i - j)) (dCall sp__law_draw (dCons (dVar 0) (dCons (dC (.int 20001)) (dNil)))) (dC (.int 10000))) (dNil)))))))))))))))) (dRet (dUn rTupD (dComp (dRng1 (dVar 1)) (dNm 3) (dYes) (dCall sp__law_any (dCons (dVar 0) (dCons (dOp dAddA (dVar 2) (dOp dMulL (dLst (dCons (dOp (dI0 fun i j => .int (i - j)) (dCall sp__law_draw (dCons (dVar 0) (dCons (dC (.int 9)) (dNil)))) (dC (.int 4))) (dNil))) (dC (.int 6)))) (dNil)))) [3])))
noncomputable def bd__law_is_value : DS := dThen (dIf (dB (dCB (rIsiK Cl5.K) (dCons (dVar 0) (dCons (dC (.ty "tuple")) (dNil))))) (dThen (dIf (dOr (dB (dOp (dEqS fun r => !r) (dCB rLenD (dCons (dVar 0) (dNil))) (dC (.int 2)))) (dOr (dNot (dB (dCall sp__law_is_int (dCons (dOp rIxD (dVar 0) (dC (.int 0))) (dCons (dUn (dU fun i => .int (-i)) (dC (.int 1000))) (dCons (dC (.int 1000)) (dNil))))))) (dNot (dB (dCall sp__law_is_int (dCons (dOp rIxD (dVar 0) (dC (.int 1))) (dCons (dC (.int 1)) (dCons (dC (.int 1000)) (dNil))))))))) (dRet (dC (.bl false))) (dSkip)) (dRet (dOp (dEqQ fun r => r) (dCall sp__law_low (dCons (dOp rIxD (dVar 0) (dC (.int 0))) (dCons (dOp rIxD (dVar 0) (dC (.int 1))) (dNil)))) (dVar 0)))) (dSkip)) (dRet (dCall sp__law_is_int (dCons (dVar 0) (dCons (dUn (dU fun i => .int (-i)) (dC (.int 1000))) (dCons (dC (.int 1000)) (dNil))))))
noncomputable def bd__law_operations (n : Nat) : DS := dThen (dIf (dOr (dNot (dB (dCB (rIsiK Cl5.K) (dCons (dVar 1) (dCons (dC (.ty "tuple")) (dNil)))))) (dOr (dB (dOp (dI0 fun i j => .bl (decide (i < j))) (dCB rLenD (dCons (dVar 1) (dNil))) (dC (.int 2)))) (dNot (dB (dCB (rIsiK Cl5.K) (dCons (dOp rIxD (dVar 1) (dC (.int 0))) (dCons (dC (.ty "str")) (dNil)))))))) (dRet (dC (.int 100))) (dSkip)) (dThen (dIf (dB (dOp (dEqS fun r => r) (dCB rLenD (dCons (dVar 1) (dNil))) (dC (.int 2)))) (dThen (dIf (dB (dOp (dEqS fun r => r) (dOp rIxD (dVar 1) (dC (.int 0))) (dC (.str "in")))) (dRet (dIfE (dB (dCall sp__law_is_int (dCons (dOp rIxD (dVar 1) (dC (.int 1))) (dCons (dC (.int 0)) (dCons (dOp (dI0 fun i j => .int (i - j)) (dVar 0) (dC (.int 1))) (dNil)))))) (dC (.int 0)) (dC (.int 100)))) (dSkip)) (dRet (dIfE (dAnd (dB (dOp (dEqS fun r => r) (dOp rIxD (dVar 1) (dC (.int 0))) (dC (.str "number")))) (dB (dCall sp__law_is_value (dCons (dOp rIxD (dVar 1) (dC (.int 1))) (dNil))))) (dC (.int 0)) (dC (.int 100))))) (dSkip)) (dThen (dIf (dOr (dB (dOp (dEqS fun r => !r) (dCB rLenD (dCons (dVar 1) (dNil))) (dC (.int 3)))) (dOr (dB (dOp (dEqS fun r => r) (dVar 2) (dC (.int 0)))) (dB (dOp (dIn true) (dOp rIxD (dVar 1) (dC (.int 0))) (dLst (dCons (dC (.str "plus")) (dCons (dC (.str "minus")) (dCons (dC (.str "times")) (dCons (dC (.str "over")) (dCons (dC (.str "least")) (dCons (dC (.str "greatest")) (dNil)))))))))))) (dRet (dC (.int 100))) (dSkip)) (dRet (dOp dAddA (dOp dAddA (dC (.int 1)) (dCall (sp__law_operations n) (dCons (dVar 0) (dCons (dOp rIxD (dVar 1) (dC (.int 1))) (dCons (dOp (dI0 fun i j => .int (i - j)) (dVar 2) (dC (.int 1))) (dNil)))))) (dCall (sp__law_operations n) (dCons (dVar 0) (dCons (dOp rIxD (dVar 1) (dC (.int 2))) (dCons (dOp (dI0 fun i j => .int (i - j)) (dVar 2) (dC (.int 1))) (dNil)))))))))
noncomputable def bd__law_is (n : Nat) : DS := dThen (dIf (dB (dCB (rIsiK Cl5.K) (dCons (dVar 1) (dCons (dC (.ty "tuple")) (dNil))))) (dThen (dIf (dOr (dNot (dB (dCB (rIsiK Cl5.K) (dCons (dVar 0) (dCons (dC (.ty "tuple")) (dNil)))))) (dB (dOp (dEqS fun r => !r) (dCB rLenD (dCons (dVar 0) (dNil))) (dCB rLenD (dCons (dVar 1) (dNil)))))) (dRet (dC (.bl false))) (dSkip)) (dRet (dCB (rBools fun l => l.all id) (dCons (dComp (dRng1 (dCB rLenD (dCons (dVar 1) (dNil)))) (dNm 2) (dYes) (dCall (sp__law_is n) (dCons (dOp rIxD (dVar 0) (dVar 2)) (dCons (dOp rIxD (dVar 1) (dVar 2)) (dNil)))) [2]) (dNil))))) (dSkip)) (dThen (dIf (dOr (dB (dOp (dIsN fun r => r) (dVar 1) (dC .non))) (dB (dCB (rIsiK Cl5.K) (dCons (dVar 1) (dCons (dC (.ty "str")) (dNil)))))) (dRet (dIfE (dB (dOp (dIsN fun r => r) (dVar 1) (dC .non))) (dOp (dIsN fun r => r) (dVar 0) (dC .non)) (dAndV (dCB (rIsiK Cl5.K) (dCons (dVar 0) (dCons (dC (.ty "str")) (dNil)))) (dOp (dEqS fun r => r) (dVar 0) (dVar 1))))) (dSkip)) (dRet (dAndV (dCB (rIsiK Cl5.K) (dCons (dVar 0) (dCons (dC (.ty "int")) (dNil)))) (dAndV (dNotV (dCB (rIsiK Cl5.K) (dCons (dVar 0) (dCons (dC (.ty "bool")) (dNil))))) (dOp (dEqS fun r => r) (dVar 0) (dVar 1))))))
noncomputable def bd__law_with (n : Nat) : DS := dThen (dIf (dB (dOp (dEqS fun r => r) (dCB rLenD (dCons (dVar 1) (dNil))) (dC (.int 0)))) (dRet (dVar 2)) (dSkip)) (dThen (dSet 3 (dOp rIxD (dVar 1) (dC (.int 0)))) (dRet (dOp dAddA (dOp dAddA (dSl (dVar 0) (dPart0) (dPart (dVar 3))) (dTup (dCons (dCall (sp__law_with n) (dCons (dOp rIxD (dVar 0) (dVar 3)) (dCons (dSl (dVar 1) (dPart (dC (.int 1))) (dPart0)) (dCons (dVar 2) (dNil))))) (dNil)))) (dSl (dVar 0) (dPart (dOp dAddA (dVar 3) (dC (.int 1)))) (dPart0)))))
noncomputable def bd__law_path : DS := dThen (dPar 2 3 (dCons (dLstO (dNil)) (dCons (dVar 1) (dNil)))) (dThen (dWhile (dAnd (dB (dOp (dEqS fun r => r) (dCB rLenD (dCons (dVar 3) (dNil))) (dC (.int 3)))) (dB (dOp (dI0 fun i j => .bl (decide (j < i))) (dCall sp__law_draw (dCons (dVar 0) (dCons (dC (.int 4)) (dNil)))) (dC (.int 0))))) (dThen (dApp (dVar 2) (dOp dAddA (dC (.int 1)) (dCall sp__law_draw (dCons (dVar 0) (dCons (dC (.int 2)) (dNil)))))) (dSet 3 (dOp rIxD (dVar 3) (dOp rIxD (dVar 2) (dUn (dU fun i => .int (-i)) (dC (.int 1)))))))) (dRet (dTup (dCons (dFrz (dVar 2)) (dCons (dVar 3) (dNil))))))
noncomputable def bd__law_deeper : DS := dThen (dFor (dRng1 (dVar 1)) (dNm 2) (dSet 0 (dIfE (dB (dOp (dEqS fun r => r) (dOp (dI (fun _ j => 0 < j) fun i j => .int (i % j)) (dCB rIntD (dCons (dVar 2) (dNil))) (dC (.int 2))) (dC (.int 0)))) (dTup (dCons (dC (.str "plus")) (dCons (dVar 0) (dCons (dTup (dCons (dC (.str "number")) (dCons (dC (.int 0)) (dNil)))) (dNil))))) (dTup (dCons (dC (.str "least")) (dCons (dTup (dCons (dC (.str "number")) (dCons (dTup (dCons (dC (.int 1)) (dCons (dC (.int 2)) (dNil)))) (dNil)))) (dCons (dVar 0) (dNil)))))))) (dRet (dVar 0))
noncomputable def bd__law_bent : DS := dThen (dAsg (dCall sp__law_path (dCons (dVar 0) (dCons (dVar 2) (dNil)))) (dTg 2 (dGCons (dNm 5) (dGCons (dNm 6) (dGNil))))) (dThen (dSet 3 (dLst (dCons (dTup (dCons (dC (.str "in")) (dCons (dVar 1) (dNil)))) (dCons (dTup (dCons (dC (.str "in")) (dCons (dUn (dU fun i => .int (-i)) (dC (.int 1))) (dNil)))) (dCons (dTup (dCons (dC (.str "in")) (dCons (dC (.bl true)) (dNil)))) (dCons (dTup (dCons (dC (.str "in")) (dCons (dC .non) (dNil)))) (dCons (dTup (dCons (dC (.str "in")) (dNil))) (dCons (dTup (dCons (dC (.str "in")) (dCons (dC (.int 0)) (dCons (dC (.int 0)) (dNil))))) (dCons (dTup (dCons (dC (.str "number")) (dNil))) (dNil)))))))))) (dThen (dSet 4 (dLst (dCons (dC (.bl true)) (dCons (dTup (dCons (dC (.int 2)) (dCons (dC (.int 4)) (dNil)))) (dCons (dTup (dCons (dC (.int 1)) (dCons (dC (.int 0)) (dNil)))) (dCons (dTup (dCons (dC (.int 1)) (dCons (dUn (dU fun i => .int (-i)) (dC (.int 2))) (dNil)))) (dCons (dTup (dCons (dC (.int 0)) (dCons (dC (.int 2)) (dNil)))) (dCons (dTup (dCons (dC (.int 1001)) (dCons (dC (.int 2)) (dNil)))) (dCons (dTup (dCons (dC (.int 1)) (dCons (dC (.int 1001)) (dNil)))) (dCons (dLst (dCons (dC (.int 1)) (dCons (dC (.int 2)) (dNil)))) (dCons (dTup (dCons (dC (.int 1)) (dCons (dC (.int 2)) (dCons (dC (.int 3)) (dNil))))) (dCons (dTup (dCons (dC (.bl true)) (dCons (dC (.int 2)) (dNil)))) (dCons (dC (.str "1")) (dCons (dC .non) (dNil))))))))))))))) (dThen (dSet 4 (dOp dAddA (dVar 4) (dLst (dCons (dTup (dCons (dC (.int 3)) (dCons (dC (.int 7)) (dNil)))) (dCons (dTup (dCons (dUn (dU fun i => .int (-i)) (dC (.int 1000))) (dCons (dC (.int 1)) (dNil)))) (dCons (dC (.int 1000)) (dCons (dTup (dCons (dC (.int 999)) (dCons (dC (.int 1000)) (dNil)))) (dCons (dTup (dCons (dC (.int 1000)) (dCons (dC (.int 1)) (dNil)))) (dCons (dTup (dCons (dC (.int 2)) (dCons (dC (.int 1)) (dNil)))) (dCons (dUn (dU fun i => .int (-i)) (dC (.int 1000))) (dCons (dC (.int 1001)) (dCons (dUn (dU fun i => .int (-i)) (dC (.int 1001))) (dNil))))))))))))) (dThen (dSet 3 (dOp dAddA (dOp dAddA (dVar 3) (dComp (dSeq (dVar 4)) (dNm 7) (dYes) (dTup (dCons (dC (.str "number")) (dCons (dVar 7) (dNil)))) [7])) (dLst (dCons (dTup (dCons (dC (.str "value")) (dCons (dC (.int 1)) (dNil)))) (dCons (dTup (dCons (dC (.str "plus")) (dCons (dVar 6) (dNil)))) (dCons (dTup (dCons (dC (.str "mod")) (dCons (dVar 6) (dCons (dVar 6) (dNil))))) (dNil))))))) (dThen (dSet 3 (dOp dAddA (dVar 3) (dLst (dCons (dTup (dCons (dC (.str "plus")) (dCons (dVar 6) (dCons (dVar 6) (dCons (dVar 6) (dNil)))))) (dCons (dLst (dCons (dC (.str "plus")) (dCons (dVar 6) (dCons (dVar 6) (dNil))))) (dCons (dCB rListD (dCons (dVar 6) (dNil))) (dCons (dSl (dVar 6) (dPart0) (dPart (dUn (dU fun i => .int (-i)) (dC (.int 1))))) (dCons (dSl (dVar 6) (dPart (dC (.int 1))) (dPart0)) (dCons (dOp dAddA (dVar 6) (dTup (dCons (dC (.int 0)) (dNil)))) (dNil)))))))))) (dThen (dSet 3 (dOp dAddA (dVar 3) (dLst (dCons (dTup (dCons (dC (.str "Plus")) (dCons (dVar 6) (dCons (dVar 6) (dNil))))) (dCons (dTup (dCons (dC (.bl true)) (dCons (dVar 6) (dCons (dVar 6) (dNil))))) (dCons (dC .non) (dCons (dC (.int 0)) (dCons (dC (.str "in")) (dCons (dTup (dNil)) (dCons (dC .dct) (dCons (dCall sp__law_deep (dCons (dVar 0) (dCons (dVar 6) (dNil)))) (dNil)))))))))))) (dThen (dSet 3 (dOp dAddA (dVar 3) (dLst (dCons (dMake Cl5.cF (["bits", "low", "high"] : List Str) FmtP (dCons (dC (.int 3)) (dCons (dUn (dU fun i => .int (-i)) (dC (.int 1))) (dCons (dC (.int 1)) (dNil))))) (dCons (dCall sp__law_deeper (dCons (dVar 6) (dCons (dCall sp__law_draw (dCons (dVar 0) (dCons (dC (.int 9)) (dNil)))) (dNil)))) (dNil)))))) (dRet (dCall (sp__law_with 9) (dCons (dVar 2) (dCons (dVar 5) (dCons (dCall sp__law_any (dCons (dVar 0) (dCons (dVar 3) (dNil)))) (dNil)))))))))))))
noncomputable def bd__law_judged_right : DS := dThen (dAsg (dTup (dCons (dCall sp__law_draw (dCons (dVar 0) (dCons (dC (.int 7)) (dNil)))) (dCons (dCall sp__law_any (dCons (dVar 0) (dCons (dLst (dCons (dC (.int 1)) (dCons (dC (.int 2)) (dCons (dC (.int 3)) (dCons (dC (.int 4)) (dCons (dC (.int 5)) (dCons (dC (.int 6)) (dCons (dC (.int 6)) (dNil))))))))) (dNil)))) (dNil)))) (dTg 2 (dGCons (dNm 5) (dGCons (dNm 6) (dGNil))))) (dThen (dSet 1 (dCall sp__law_draw (dCons (dVar 0) (dCons (dOp dAddA (dCB (rTwo fun i j => if j < i then j else i) (dCons (dC (.int 12)) (dCons (dOp (dI0 fun i j => .int (i - j)) (dCall sp__law_two (dCons (dVar 6) (dNil))) (dC (.int 1))) (dNil)))) (dC (.int 1))) (dNil))))) (dThen (dSet 2 (dCall (sp__law_tree 8) (dCons (dVar 0) (dCons (dVar 5) (dCons (dVar 1) (dCons (dVar 6) (dNil))))))) (dThen (dIf (dB (dOp dIsnotB (dCall sp_is_formula (dCons (dVar 5) (dCons (dVar 2) (dNil)))) (dC (.bl true)))) (dRet (dC (.bl false))) (dSkip)) (dThen (dSet 3 (dCompO (dRng1 (dC (.int 4))) (dNm 7) (dYes) (dCall sp__law_bent (dCons (dVar 0) (dCons (dVar 5) (dCons (dVar 2) (dNil))))) [7])) (dThen (dApp (dVar 3) (dCall (sp__law_tree 8) (dCons (dVar 0) (dCons (dVar 5) (dCons (dCall sp__law_any (dCons (dVar 0) (dCons (dLst (dCons (dC (.int 12)) (dCons (dC (.int 13)) (dCons (dC (.int 13)) (dNil))))) (dNil)))) (dCons (dC (.int 5)) (dNil))))))) (dThen (dApp (dVar 3) (dCall sp__law_deeper (dCons (dCall (sp__law_tree 8) (dCons (dVar 0) (dCons (dVar 5) (dCons (dC (.int 0)) (dCons (dC (.int 0)) (dNil)))))) (dCons (dOp dAddA (dC (.int 5)) (dCall sp__law_draw (dCons (dVar 0) (dCons (dC (.int 3)) (dNil))))) (dNil))))) (dThen (dFor (dSeq (dFrz (dVar 3))) (dNm 4) (dIf (dNot (dB (dCall sp__law_flag (dCons (dCall sp_is_formula (dCons (dVar 5) (dCons (dVar 4) (dNil)))) (dCons (dOp (dI0 fun i j => .bl (decide (i < j))) (dCall (sp__law_operations 8) (dCons (dVar 5) (dCons (dVar 4) (dCons (dC (.int 6)) (dNil))))) (dC (.int 13))) (dNil)))))) (dRet (dC (.bl false))) (dSkip))) (dRet (dC (.bl true))))))))))
noncomputable def bd_law : DS := dThen (dSet 1 (dCall sp__law_hand (dCons (dVar 0) (dNil)))) (dThen (dFor (dRng1 (dC (.int 2))) (dNm 2) (dThen (dIf (dNot (dB (dCall sp__law_judged_right (dCons (dVar 1) (dNil))))) (dRet (dC (.bl false))) (dSkip)) (dThen (dPar 5 6 (dCons (dOp dAddA (dC (.int 1)) (dCall sp__law_draw (dCons (dVar 1) (dCons (dC (.int 6)) (dNil))))) (dCons (dCall sp__law_spec (dCons (dVar 1) (dNil))) (dNil)))) (dThen (dAsg (dTup (dCons (dMake Cl5.cF (["bits", "low", "high"] : List Str) FmtP (dCons (dOp rIxD (dVar 6) (dC (.int 0))) (dCons (dOp rIxD (dVar 6) (dC (.int 1))) (dCons (dOp rIxD (dVar 6) (dC (.int 2))) (dNil))))) (dCons (dCall sp__law_any (dCons (dVar 1) (dCons (dLst (dCons (dC (.int 0)) (dCons (dC (.int 1)) (dCons (dC (.int 2)) (dCons (dC (.int 2)) (dCons (dC (.int 3)) (dCons (dC (.int 4)) (dCons (dC (.int 6)) (dNil))))))))) (dNil)))) (dNil)))) (dTg 2 (dGCons (dNm 7) (dGCons (dNm 8) (dGNil))))) (dThen (dSet 3 (dCall (sp__law_tree 8) (dCons (dVar 1) (dCons (dVar 5) (dCons (dCall sp__law_draw (dCons (dVar 1) (dCons (dOp dAddA (dCB (rTwo fun i j => if j < i then j else i) (dCons (dC (.int 12)) (dCons (dOp (dI0 fun i j => .int (i - j)) (dCall sp__law_two (dCons (dVar 8) (dNil))) (dC (.int 1))) (dNil)))) (dC (.int 1))) (dNil)))) (dCons (dVar 8) (dNil))))))) (dFor (dRng1 (dC (.int 3))) (dNm 4) (dThen (dAsg (dTup (dCons (dCall sp__law_row (dCons (dVar 1) (dCons (dVar 5) (dNil)))) (dCons (dCall sp__law_any (dCons (dVar 1) (dCons (dLst (dCons (dC (.str "up")) (dCons (dC (.str "down")) (dCons (dC (.str "cut")) (dCons (dC (.str "near")) (dCons (dC (.str "far")) (dNil))))))) (dNil)))) (dNil)))) (dTg 2 (dGCons (dNm 11) (dGCons (dNm 12) (dGNil))))) (dThen (dSet 9 (dCall (sp__law_run 9) (dCons (dVar 6) (dCons (dVar 12) (dCons (dVar 3) (dCons (dVar 11) (dNil))))))) (dThen (dSet 10 (dLam (fun ex => dCallX spx_run ex (dCons (dVar 7) (dCons (dVar 12) (dCons (dVar 3) (dCons (dVar 11) (dNil)))))) spl__law_told)) (dThen (dIf (dNot (dB (dCall (sp__law_is 2) (dCons (dVar 10) (dCons (dIfE (dB (dCB (rIsiK Cl5.K) (dCons (dVar 9) (dCons (dC (.ty "str")) (dNil))))) (dVar 9) (dCall sp__law_dyad (dCons (dVar 9) (dNil)))) (dNil)))))) (dRet (dC (.bl false))) (dSkip)) (dThen (dSet 10 (dLam (fun ex => dCallX spx_whole_of ex (dCons (dVar 7) (dCons (dVar 12) (dCons (dVar 3) (dCons (dVar 11) (dNil)))))) spl__law_told)) (dThen (dIf (dNot (dB (dCall (sp__law_is 2) (dCons (dVar 10) (dCons (dIfE (dB (dCB (rIsiK Cl5.K) (dCons (dVar 9) (dCons (dC (.ty "str")) (dNil))))) (dVar 9) (dCall sp__law_whole (dCons (dVar 9) (dNil)))) (dNil)))))) (dRet (dC (.bl false))) (dSkip)) (dIf (dB (dOp (dEqQ fun r => !r) (dLam (fun ex => dCallX spx_run ex (dCons (dVar 7) (dCons (dVar 12) (dCons (dVar 3) (dCons (dVar 11) (dNil)))))) spl__law_told) (dIfE (dB (dCB (rIsiK Cl5.K) (dCons (dVar 9) (dCons (dC (.ty "str")) (dNil))))) (dVar 9) (dCall sp__law_dyad (dCons (dVar 9) (dNil)))))) (dRet (dC (.bl false))) (dSkip)))))))))))))) (dRet (dC (.bl true))))
end Lk05
namespace Lk05
open PySem PySem.Spec PyProof.Rows L2 SC
open Lk19 (betw tupB oneB)
variable [Cl5] [TabL] [XCx]
local macro_rules | `(tactic| walk_at "sc") => `(tactic| simp only [dThen, dSet, dRet, dCall, dCallX, dRaise, dDead, dCons, dNil, dVar, dC, dCB, dComp, dZip, dSeq, dOp, dIf, dB, dIfE, dNot, dAnd, dOr, dAndV, dOrV, dNotV, dSkip, dExpr, dFor, dApp, dTup, dLst, dLstO, dUn, dPar, dPar3, dAsg, dSetIx, dSl, dPart, dPart0, dRng1, dRng2, dZip3, dEnum, dEnumT, dFld, dMake, dMulA, dMulL, dChain, dNm, dTg, dGCons, dGNil, dYes, dI0, dI, dU, dEqS, eqS, dIsN, SC.isNon, dIsnotB, dAddA, dAddL, dAddLO, dMulT, dSlS, dCompO, dIn, SC.rIxD, rLenD, SC.rListD, rBools, rAbsD, rIntD, rTwo, rTupD, rTupX, rDivmodD, rGcdD, dBits, dMtF,
  startD, List.map_cons, List.map_nil, List.length_cons, List.length_nil, Nat.reduceAdd, Nat.reduceSub, List.replicate_succ, List.replicate_zero, List.cons_append, List.nil_append, List.append_nil,
  List.getElem?_cons_zero, List.getElem?_cons_succ, List.set_cons_zero, List.set_cons_succ, wipeD, atI_0, atI_1, atI_2, atI_3, atI_4, oset_same, oset_oset, true_and, and_true, ix5])
theorem all_true {α : Type} : ∀ l : List α, (l.map fun _ => true).all id = true
  | [] => rfl
  | a :: l => by simp [all_true l]
theorem s5 {n : Nat} (h : n ≤ 100000 := by decide) : n ≤ sizeLine := small_len h
theorem rd_is_integer : ∀ ds O (kk : D → OH → Prop), sp_is_integer ds O kk → bd_is_integer { nx := fun _ O' => kk .non O', rt := kk } (startD ["thing"] ds) O := by
  rintro ds O kk ⟨d, rfl, hp, h⟩
  unfold bd_is_integer
  walk_at "sc"
  refine isi_go hp (.inl rfl) ?_
  cases d <;> first | (simp [pq] at hp; done) | exact h | exact isi_go hp (.inr (.inl rfl)) h
theorem rd_is_between : ∀ ds O (kk : D → OH → Prop), sp_is_between ds O kk → bd_is_between { nx := fun _ O' => kk .non O', rt := kk } (startD ["least", "most", "thing"] ds) O := by
  rintro ds O kk ⟨l, m, d, rfl, hp, h⟩
  unfold bd_is_between
  walk_at "sc"
  refine ⟨d, rfl, hp, ?_⟩
  cases d <;> first | exact h | skip
  rename_i i
  have h : kk (.bl (decide (l ≤ i) && decide (i ≤ m))) O := h
  show (match D.bl (decide (l ≤ i)) with | .bl true => _ | .bl false => _ | _ => _)
  cases e : decide (l ≤ i) with
  | false => rw [e] at h; exact h
  | true => rw [e] at h; exact h
theorem rd_is_tuple : ∀ ds O (kk : D → OH → Prop), sp_is_tuple ds O kk → bd_is_tuple { nx := fun _ O' => kk .non O', rt := kk } (startD ["least", "most", "thing"] ds) O := by
  rintro ds O kk ⟨l, m, d, rfl, hp, h⟩
  unfold bd_is_tuple
  walk_at "sc"
  refine isi_go hp (.inr (.inr (.inr (.inl rfl)))) ?_
  cases d <;> first | exact h | skip
  rename_i xs
  have h : kk (.bl (decide (l ≤ (xs.length : Int)) && decide ((xs.length : Int) ≤ m))) O := h
  show (match D.bl (decide (l ≤ (xs.length : Int))) with | .bl true => _ | .bl false => _ | _ => _)
  cases e : decide (l ≤ (xs.length : Int)) with
  | false => rw [e] at h; exact h
  | true => rw [e] at h; exact h
theorem rd_is_pair : ∀ ds O (kk : D → OH → Prop), sp_is_pair ds O kk → bd_is_pair { nx := fun _ O' => kk .non O', rt := kk } (startD ["thing"] ds) O := by
  rintro ds O kk ⟨d, rfl, hp, h⟩
  unfold bd_is_pair
  walk_at "sc"
  exact ⟨2, 2, d, rfl, hp, h⟩
theorem rd_is_one_of : ∀ ds O (kk : D → OH → Prop), sp_is_one_of ds O kk → bd_is_one_of { nx := fun _ O' => kk .non O', rt := kk } (startD ["words", "thing"] ds) O := by
  rintro ds O kk ⟨ws, d, rfl, hp, h⟩
  unfold bd_is_one_of
  walk_at "sc"
  refine isi_go hp (.inr (.inr (.inl rfl))) ?_
  cases d <;> first | exact h | skip
  refine ⟨⟨rfl, ?_⟩, h⟩
  simp [flatF]
theorem rd_is_fraction : ∀ ds O (kk : D → OH → Prop), sp_is_fraction ds O kk → bd_is_fraction { nx := fun _ O' => kk .non O', rt := kk } (startD ["thing"] ds) O := by
  rintro ds O kk ⟨d, rfl, hp, h⟩
  unfold bd_is_fraction
  walk_at "sc"
  refine ⟨d, rfl, hp, ?_⟩
  cases d <;> first | exact h | skip
  rename_i xs
  by_cases hl : xs.length = 2
  · obtain ⟨a, b, rfl⟩ : ∃ a b, xs = [a, b] := by
      match xs, hl with
      | [a, b], _ => exact ⟨a, b, rfl⟩
    clear hl
    revert h
    intro h
    have hp2 : pq a = true ∧ pq b = true := by simpa [pq, pqL] using hp
    refine ⟨a, rfl, hp2.1, ?_⟩
    cases a <;> first | (cases b <;> exact h) | skip
    refine ⟨b, rfl, hp2.2, ?_⟩
    cases b <;> first | exact h | skip
    rename_i i j
    have h : kk (.bl (decide (0 < j) && decide (Int.gcd i j = 1))) O := h
    show (match D.bl (decide (0 < j)) with | .bl true => _ | .bl false => _ | _ => _)
    cases e : decide (0 < j) with
    | false => rw [e] at h; exact h
    | true =>
      rw [e] at h
      refine ⟨i, j, rfl, ?_⟩
      show kk (.bl (decide (((Nat.gcd i.natAbs j.natAbs : Nat) : Int) = 1))) O
      rw [show decide (((Nat.gcd i.natAbs j.natAbs : Nat) : Int) = 1) = decide (Int.gcd i j = 1) from by congr 1; apply propext; unfold Int.gcd; omega]
      exact h
  · have e : tupB 2 2 (.tup xs) = false := by simp only [tupB, Bool.and_eq_false_iff, decide_eq_false_iff_not]; omega
    rw [e]
    have e2 : frB (.tup xs) = false := by
      unfold frB
      split
      · rename_i q; cases q; simp at hl
      · rfl
    rw [e2] at h
    exact h
theorem rd_is_row : ∀ ds O (kk : D → OH → Prop), sp_is_row ds O kk → bd_is_row { nx := fun _ O' => kk .non O', rt := kk } (startD ["fewest", "many", "least", "most", "thing", "item"] ds) O := by
  rintro ds O kk ⟨r, rfl, hr, h⟩
  have hp : pq (rwD r) = true := by
    simp only [rwD, pq]; exact pqL_of fun d hd => by obtain ⟨i, _, rfl⟩ := List.mem_map.mp hd; simp [pq]
  have n1 := hr.n1
  have n6 := hr.n6
  unfold bd_is_row
  walk_at "sc"
  refine ⟨1, 6, _, rfl, hp, ?_⟩
  have e : tupB 1 6 (rwD r) = true := by simp only [rwD, tupB, List.length_map, Bool.and_eq_true, decide_eq_true_eq]; omega
  rw [e]
  unfold rwD
  walk_at "sc"
  refine ⟨small_len (by rw [List.length_map]; omega), dAcc_map _ (fun _ => .bl true) _ _ _ (fun x hx O k' h' => ?_) ?_⟩
  · walk_at "sc"
    have := hr.b x hx
    refine ⟨-10000, 10000, .int x, rfl, by simp [pq], ?_⟩
    rw [show betw (-10000) 10000 (.int x) = true by simp [betw, this.1, this.2]]
    exact h'
  · rw [List.nil_append, boolsD_map' (fun _ => true)]
    show kk (.bl ((List.map _ _).all id)) O
    rw [all_true]; exact h
theorem one_words {ws : List Str} {x : Str} (h : x ∈ ws) : oneB ws (.str x) = true := by
  rw [Lk19.one_eq]
  exact List.any_eq_true.mpr ⟨x, h, by simp⟩
theorem rd_is_way : ∀ ds O (kk : D → OH → Prop), sp_is_way ds O kk → bd_is_way { nx := fun _ O' => kk .non O', rt := kk } (startD ["thing"] ds) O := by
  rintro ds O kk ⟨w, rfl, h⟩
  unfold bd_is_way
  walk_at "sc"
  refine ⟨["up", "down", "cut", "near", "far"], _, rfl, by simp [pq], ?_⟩
  rw [one_words]
  · exact h
  · cases w <;> simp [Way.s]
theorem rd_scaled : ∀ ds O (kk : D → OH → Prop), sp_scaled ds O kk → bd_scaled { nx := fun _ O' => kk .non O', rt := kk } (startD ["many", "by"] ds) O := by
  rintro ds O kk ⟨m, e, rfl, hs, h⟩
  unfold bd_scaled
  walk_at "sc"
  unfold scl at h
  by_cases c : 0 < e
  · rw [if_pos c] at h
    simp only [decide_eq_true c]
    exact ⟨⟨by omega, (hs c).1, (hs c).2⟩, h⟩
  · rw [if_neg c] at h
    simp only [decide_eq_false c]
    exact h
theorem sz1 : Sz 1 := by unfold Sz; exact Nat.one_lt_two_pow (by decide)
theorem Bn.sz {n : Nat} {i : Int} (h : Bn n i) (hn : n ≤ 4000 := by decide) : Sz i := h.up hn
theorem rd_parts : ∀ ds O (kk : D → OH → Prop), sp_parts ds O kk → bd_parts { nx := fun _ O' => kk .non O', rt := kk } (startD ["dyad", "many", "step"] ds) O := by
  rintro ds O kk ⟨d, rfl, hs, he, h⟩
  unfold bd_parts dyD
  walk_at "sc"
  exact ⟨d.1, d.2, rfl, fun _ => ⟨he.2, hs⟩, 1, -d.2, rfl, fun _ => ⟨by omega, sz1⟩, s5, h⟩
end Lk05
namespace Lk05
open PySem PySem.Spec PyProof.Rows L2 SC
open Lk19 (betw tupB oneB)
variable [Cl5] [TabL] [XCx]
local macro_rules | `(tactic| walk_at "sc") => `(tactic| simp only [dThen, dSet, dRet, dCall, dCallX, dRaise, dDead, dCons, dNil, dVar, dC, dCB, dComp, dZip, dSeq, dOp, dIf, dB, dIfE, dNot, dAnd, dOr, dAndV, dOrV, dNotV, dSkip, dExpr, dFor, dApp, dTup, dLst, dLstO, dUn, dPar, dPar3, dAsg, dSetIx, dSl, dPart, dPart0, dRng1, dRng2, dZip3, dEnum, dEnumT, dFld, dMake, dMulA, dMulL, dChain, dNm, dTg, dGCons, dGNil, dYes, dI0, dI, dU, dEqS, eqS, dIsN, SC.isNon, dIsnotB, dAddA, dAddL, dAddLO, dMulT, dSlS, dCompO, dIn, SC.rIxD, rLenD, SC.rListD, rBools, rAbsD, rIntD, rTwo, rTupD, rTupX, rDivmodD, rGcdD, dBits, dMtF,
  startD, List.map_cons, List.map_nil, List.length_cons, List.length_nil, Nat.reduceAdd, Nat.reduceSub, List.replicate_succ, List.replicate_zero, List.cons_append, List.nil_append, List.append_nil,
  List.getElem?_cons_zero, List.getElem?_cons_succ, List.set_cons_zero, List.set_cons_succ, wipeD, atI_0, atI_1, atI_2, atI_3, atI_4, oset_same, oset_oset, true_and, and_true, ix5])
theorem Sm.up {d : Int × Int} (h : Sm d) : Sz d.1 ∧ (-4000 ≤ d.2 ∧ d.2 ≤ 4000) := ⟨h.m.sz, by have := h.e; omega⟩
theorem rd_whole_near : ∀ ds O (kk : D → OH → Prop), sp_whole_near ds O kk → bd_whole_near { nx := fun _ O' => kk .non O', rt := kk } (startD ["dyad", "top", "bottom", "many", "rest"] ds) O := by
  rintro ds O kk ⟨d, rfl, hs, h⟩
  unfold bd_whole_near
  walk_at "sc"
  have he := hs.e
  refine ⟨d, rfl, hs.up.1, hs.up.2, ?_⟩
  have hQ := scl_one (-d.2)
  have bP : Bn 89 (scl d.1 d.2) := by
    have := hs.m.scl (e := d.2) (k := 64) (by omega)
    exact this
  have bQ : Bn 42 (scl 1 (-d.2)) := Bn.one.scl (e := -d.2) (k := 40) (by omega)
  have hw := whl_div (P := scl d.1 d.2) hQ
  rw [parts_val] at hw
  have hw : whl (val d) = _ := hw
  rw [hw] at h
  generalize scl d.1 d.2 = P at *
  generalize scl 1 (-d.2) = Q at *
  have r0 := Int.emod_nonneg P (show Q ≠ 0 by omega)
  have r1 := Int.emod_lt_of_pos P hQ
  have bR : Bn 42 (P % Q) := by unfold Bn at *; omega
  refine ⟨by simp, P, Q, rfl, ⟨hQ, Nat.le_trans (bits_le bP) (by omega)⟩, ⟨Bn.sz (n := 2) (by unfold Bn; decide), bR.sz⟩, ?_⟩
  simp only [band_one]
  by_cases c : Q < 2 * (P % Q)
  · rw [if_pos (.inl c)] at h
    simp only [decide_eq_true c]
    exact h
  · simp only [decide_eq_false c]
    refine ⟨⟨Bn.sz (n := 2) (by unfold Bn; decide), bR.sz⟩, ?_⟩
    by_cases c2 : 2 * (P % Q) = Q
    · simp only [decide_eq_true c2]
      by_cases c3 : P / Q % 2 = 1
      · rw [if_pos (.inr ⟨c2, c3⟩)] at h
        simp only [decide_eq_true c3]
        exact h
      · rw [if_neg (by intro z; rcases z with z | z; exact c z; exact c3 z.2)] at h
        simp only [decide_eq_false c3]
        exact h
    · rw [if_neg (by intro z; rcases z with z | z; exact c z; exact c2 z.1)] at h
      simp only [decide_eq_false c2]
      exact h
theorem rd_under : ∀ ds O (kk : D → OH → Prop), sp_under ds O kk → bd_under { nx := fun _ O' => kk .non O', rt := kk } (startD ["one", "other", "many", "step", "others", "steps"] ds) O := by
  rintro ds O kk ⟨d, e, rfl, hd, he, h⟩
  have d2 := hd.e
  have e2 := he.e
  unfold bd_under dyD
  walk_at "sc"
  refine ⟨s5, d.1, d.2 - e.2, rfl, fun _ => ⟨by omega, hd.m.sz⟩, e.1, e.2 - d.2, rfl, fun _ => ⟨by omega, he.m.sz⟩, ?_⟩
  show kk (.bl (decide (scl d.1 (d.2 - e.2) < scl e.1 (e.2 - d.2)))) O
  rw [show decide (scl d.1 (d.2 - e.2) < scl e.1 (e.2 - d.2)) = decide (val d < val e) from by congr 1; apply propext; exact less_val d.1 d.2 e.1 e.2]
  exact h
theorem rd_shaped : ∀ ds O (kk : D → OH → Prop), sp_shaped ds O kk → bd_shaped { nx := fun _ O' => kk .non O', rt := kk } (startD ["many", "step", "spare"] ds) O := by
  rintro ds O kk ⟨N, s, rfl, hN, h⟩
  unfold bd_shaped
  walk_at "sc"
  unfold shp dyD at h
  by_cases c : N = 0
  · simp only [decide_eq_true c]
    rw [if_pos c] at h
    exact ⟨s5, h⟩
  · simp only [decide_eq_false c]
    rw [if_neg c] at h
    have e : ((Builtin.Int.intBits (Builtin.bitAnd N (-N)) : Nat) : Int) - 1 = (ctz N.toNat : Nat) := by
      rw [band_neg (by omega), bits_pow]; omega
    rw [e]
    exact ⟨by omega, s5, h⟩
theorem max_eq (a b : Int) : (if b > a then b else a) = if a < b then b else a := rfl
theorem rd_stepped : ∀ ds O (kk : D → OH → Prop), sp_stepped ds O kk → bd_stepped { nx := fun _ O' => kk .non O', rt := kk } (startD ["format", "top", "bottom", "log", "step", "many", "rest"] ds) O := by
  rintro ds O kk ⟨F, P, Q, rfl, hF, hP, hQ, bP, bQ, h⟩
  have iP := bits_le bP
  have iQ := bits_le bQ
  have l1 := hF.l1
  have lh := hF.lh
  have h1 := hF.h1
  have b1 := hF.b1
  have b2 := hF.b2
  have hg : lgP P Q = if scl P (-(bt P - bt Q)) < scl Q (bt P - bt Q) then bt P - bt Q - 1 else bt P - bt Q := rfl
  have gb : -1001 ≤ bt P - bt Q ∧ bt P - bt Q ≤ 1000 := by unfold bt; omega
  have gl : -1002 ≤ lgP P Q ∧ lgP P Q ≤ 1000 := by rw [hg]; split <;> omega
  have cs : -1042 ≤ stP F P Q ∧ stP F P Q ≤ 1001 := by unfold stP; split <;> omega
  have key : ∀ s : Int, s = st F ((P : Rat) / (Q : Rat)) → kk (.tup [.int s, .int (scl P (-s) / scl Q s), .int (scl P (-s) % scl Q s), .int (scl Q s)]) O := by
    rintro s rfl
    rw [← floor_div (scl_pos hQ), scl_div _ hQ]
    exact h
  have hs := stP_eq (F := F) hF hP hQ
  have hC : Cls Cl5.K Cl5.cF ∧ NoAttr Cl5.K Cl5.cF "low" := ⟨Cl5.clF, Cl5.nF _ (by simp)⟩
  have hB : Cls Cl5.K Cl5.cF ∧ NoAttr Cl5.K Cl5.cF "bits" := ⟨Cl5.clF, Cl5.nF _ (by simp)⟩
  clear h
  unfold bd_stepped
  refine dThen_by (fun e O' => O' = O ∧ e = [some (fmD F), some (.int P), some (.int Q), some (.int (bt P - bt Q)), none, none, none]) (fun nx hn => ?_) ?_
  · walk_at "sc"
    exact hn _ _ ⟨rfl, rfl⟩
  rintro e O' ⟨rfl, rfl⟩
  refine dThen_by (fun e O'' => O'' = O' ∧ e = [some (fmD F), some (.int P), some (.int Q), some (.int (lgP P Q)), none, none, none]) (fun nx hn => ?_) ?_
  · walk_at "sc"
    refine ⟨P, -(bt P - bt Q), rfl, fun _ => ⟨by omega, bP.sz⟩, Q, bt P - bt Q, rfl, fun _ => ⟨by omega, bQ.sz⟩, ?_⟩
    by_cases c : scl P (-(bt P - bt Q)) < scl Q (bt P - bt Q)
    · rw [if_pos c] at hg
      simp only [decide_eq_true c]
      exact hn _ _ ⟨rfl, by rw [hg]⟩
    · rw [if_neg c] at hg
      simp only [decide_eq_false c]
      exact hn _ _ ⟨rfl, by rw [hg]⟩
  rintro e O'' ⟨rfl, rfl⟩
  unfold fmD
  walk_at "sc"
  refine ⟨hC, .int F.l, rfl, hB, .int F.b, rfl, ?_⟩
  show sp_scaled [.int P, .int (-(stP F P Q))] O'' fun x O1 => _
  have bS : Bn 2043 (scl P (-(stP F P Q))) ∧ Bn 2002 (scl Q (stP F P Q)) := ⟨bP.scl (k := 1042) (by omega), bQ.scl (k := 1001) (by omega)⟩
  refine ⟨P, -(stP F P Q), rfl, fun _ => ⟨by omega, bP.sz⟩, ?_⟩
  show sp_scaled [.int Q, .int (stP F P Q)] O'' fun x O1 => _
  refine ⟨Q, stP F P Q, rfl, fun _ => ⟨by omega, bQ.sz⟩, ?_⟩
  walk_at "sc"
  refine ⟨_, _, rfl, ⟨scl_pos hQ, Nat.le_trans (bits_le bS.1) (by omega)⟩, s5, ?_⟩
  exact key _ hs
theorem out_wt {w : Way} : w.s = "up" ∨ w.s = "down" ∨ w.s = "cut" ∨ w.s = "near" ∨ w.s = "far" := by cases w <;> simp [Way.s]
end Lk05
namespace Lk05
open PySem PySem.Spec PyProof.Rows L2 SC
open Lk19 (betw tupB oneB)
variable [Cl5] [TabL] [XCx]
local macro_rules | `(tactic| walk_at "sc") => `(tactic| simp only [dThen, dSet, dRet, dCall, dCallX, dRaise, dDead, dCons, dNil, dVar, dC, dCB, dComp, dZip, dSeq, dOp, dIf, dB, dIfE, dNot, dAnd, dOr, dAndV, dOrV, dNotV, dSkip, dExpr, dFor, dApp, dTup, dLst, dLstO, dUn, dPar, dPar3, dAsg, dSetIx, dSl, dPart, dPart0, dRng1, dRng2, dZip3, dEnum, dEnumT, dFld, dMake, dMulA, dMulL, dChain, dNm, dTg, dGCons, dGNil, dYes, dI0, dI, dU, dEqS, eqS, dIsN, SC.isNon, dIsnotB, dAddA, dAddL, dAddLO, dMulT, dSlS, dCompO, dIn, SC.rIxD, rLenD, SC.rListD, rBools, rAbsD, rIntD, rTwo, rTupD, rTupX, rDivmodD, rGcdD, dBits, dMtF,
  startD, List.map_cons, List.map_nil, List.length_cons, List.length_nil, Nat.reduceAdd, Nat.reduceSub, List.replicate_succ, List.replicate_zero, List.cons_append, List.nil_append, List.append_nil,
  List.getElem?_cons_zero, List.getElem?_cons_succ, List.set_cons_zero, List.set_cons_succ, wipeD, atI_0, atI_1, atI_2, atI_3, atI_4, oset_same, oset_oset, true_and, and_true, ix5])
theorem w_eq (w : Way) : strEq w.s "up" = (match w with | .up => true | _ => false) ∧ strEq w.s "down" = (match w with | .down => true | _ => false) ∧ strEq w.s "cut" = (match w with | .cut => true | _ => false) ∧ strEq w.s "far" = (match w with | .far => true | _ => false) := by
  cases w <;> simp only [Way.s, strEq_eq] <;> decide +kernel
theorem o_eq (o : Wd) : strEq o.s "plus" = (match o with | .plus => true | _ => false) ∧ strEq o.s "minus" = (match o with | .minus => true | _ => false) ∧ strEq o.s "times" = (match o with | .times => true | _ => false) ∧ strEq o.s "over" = (match o with | .over => true | _ => false) ∧
    strEq o.s "least" = (match o with | .least => true | _ => false) ∧ strEq o.s "greatest" = (match o with | .greatest => true | _ => false) ∧ strEq o.s "in" = false ∧ strEq o.s "number" = false := by
  cases o <;> simp only [Wd.s, strEq_eq] <;> decide +kernel
theorem hH : Cls Cl5.K Cl5.cF ∧ NoAttr Cl5.K Cl5.cF "high" := ⟨Cl5.clF, Cl5.nF _ (by simp)⟩
theorem hB : Cls Cl5.K Cl5.cF ∧ NoAttr Cl5.K Cl5.cF "bits" := ⟨Cl5.clF, Cl5.nF _ (by simp)⟩
theorem rdx_one_more : ∀ ds O (kk : D → OH → Prop) kx, spx_one_more ds O kk kx → bd_one_more (fun C _ O' => kx C O') { nx := fun _ O' => kk .non O', rt := kk } (startD ["format", "many", "step"] ds) O := by
  rintro ds O kk kx ⟨F, N, s, rfl, hF, h⟩
  have b1 := hF.b1
  have b2 := hF.b2
  unfold bd_one_more fmD
  walk_at "sc"
  refine ⟨hH, .int F.h, rfl, ?_⟩
  have e : (1 : Int) * 2 ^ F.b.toNat = Lk05.top F := by unfold Lk05.top; rw [Int.one_mul]
  by_cases c : s = F.h
  · simp only [decide_eq_true c]
    refine ⟨hB, .int F.b, rfl, ⟨by omega, by omega, sz1⟩, ?_⟩
    rw [e]
    by_cases c2 : N + 1 = Lk05.top F
    · rw [if_pos ⟨c, c2⟩] at h
      show (match decide (N + 1 = Lk05.top F) with | true => _ | false => _)
      rw [decide_eq_true c2]
      exact h
    · rw [if_neg (fun z => c2 z.2)] at h
      show (match decide (N + 1 = Lk05.top F) with | true => _ | false => _)
      rw [decide_eq_false c2]
      exact h
  · rw [if_neg (fun z => c z.1)] at h
    simp only [decide_eq_false c]
    exact h
theorem rd_negated : ∀ ds O (kk : D → OH → Prop), sp_negated ds O kk → bd_negated { nx := fun _ O' => kk .non O', rt := kk } (startD ["dyad"] ds) O := by
  rintro ds O kk ⟨d, rfl, h⟩
  unfold bd_negated dyD
  walk_at "sc"
  exact ⟨s5, h⟩
theorem rd_goes_outward : ∀ ds O (kk : D → OH → Prop), sp_goes_outward ds O kk → bd_goes_outward { nx := fun _ O' => kk .non O', rt := kk } (startD ["way", "top", "many", "past_half"] ds) O := by
  rintro ds O kk ⟨w, t, N, p, rfl, ht, h⟩
  obtain ⟨q1, q2, q3, q4⟩ := w_eq w
  unfold bd_goes_outward
  walk_at "sc"
  rw [q1, q2, q3, q4]
  have e1 : decide (0 < t) = !decide (t < 0) := by
    by_cases z : t < 0
    · simp only [decide_eq_true z, decide_eq_false (show ¬ 0 < t by omega)]; rfl
    · simp only [decide_eq_false z, decide_eq_true (show 0 < t by omega)]; rfl
  have e2 : Builtin.bitAnd N 1 = N % 2 := band_one N
  cases w with
  | up => dsimp only; rw [e1]; exact h
  | down => exact h
  | cut => exact h
  | near =>
    dsimp only
    unfold outI at h
    dsimp only at h
    by_cases c : p = 0
    · rw [if_pos c] at h
      simp only [decide_eq_true c, Bool.not_true]
      rw [e2]
      exact h
    · rw [if_neg c] at h
      simp only [decide_eq_false c, Bool.not_false]
      exact h
  | far =>
    dsimp only
    unfold outI at h
    dsimp only at h
    by_cases c : p = 0
    · rw [if_pos c] at h
      simp only [decide_eq_true c, Bool.not_true]
      exact h
    · rw [if_neg c] at h
      simp only [decide_eq_false c, Bool.not_false]
      exact h
theorem pos_div {P Q : Int} (hP : 0 < P) (hQ : 0 < Q) : (0 : Rat) < (P : Rat) / (Q : Rat) := by
  rw [Rat.lt_div_iff (cast_pos hQ), Rat.zero_mul]; exact cast_pos hP
/-- what is told of the magnitude A / Q -/
theorem settle_mag {F : Fm} {w : Way} {neg : Bool} {A Q : Int} {O : OH} {kk : D → OH → Prop} {kx : Addr → OH → Prop} {t : Int} (hF : F.ok) (hA : 0 < A) (hQ : 0 < Q) (bA : Bn 1000 A) (bQ : Bn 1000 Q) (ht : t ≠ 0) (hn : decide (t < 0) = neg)
    {x4 x8 : Option D} (h : outX (ofR ((rndA F w neg ((A : Rat) / (Q : Rat))).map fun d => if neg = true then ng (shp d) else shp d)) dyD kk kx O) :
    dThen (dIf (dB (dOp (dI0 fun i j => .bl (decide (j < i))) (dVar 5) (dFld Cl5.K "high" (dVar 0)))) (dRaise Cl5.cBeyond fun C _ O' => kx C O') dSkip) (dThen (dIf (dB (dOp (dEqS fun r => !r) (dVar 7) (dC (.int 0)))) (dThen (dSet 8 (dCallX spx_one_more (fun C _ O' => kx C O') (dCons (dVar 0) (dCons (dVar 6) (dCons (dVar 5) (dNil)))))) (dIf (dB (dCall sp_goes_outward (dCons (dVar 1) (dCons (dVar 2) (dCons (dVar 6) (dCons (dOp (dI0 fun i j => .int (i - j)) (dOp (dI CMuW fun i j => .int (i * j)) (dC (.int 2)) (dVar 7)) (dVar 3)) (dNil))))))) (dSet 6 (dVar 8)) (dSkip))) (dSkip)) (dThen (dSet 4 (dCall sp_shaped (dCons (dVar 6) (dCons (dVar 5) (dNil))))) (dRet (dIfE (dB (dOp (dI0 fun i j => .bl (decide (j < i))) (dVar 2) (dC (.int 0)))) (dVar 4) (dCall sp_negated (dCons (dVar 4) (dNil)))))))
      { nx := fun _ O' => kk .non O', rt := kk } [some (fmD F), some (.str w.s), some (.int t), some (.int (scl Q (st F ((A : Rat) / (Q : Rat))))), x4, some (.int (st F ((A : Rat) / (Q : Rat)))), some (.int (nn F ((A : Rat) / (Q : Rat)))), some (.int (scl A (-st F ((A : Rat) / (Q : Rat))) % scl Q (st F ((A : Rat) / (Q : Rat))))), x8] O := by
  have hy := pos_div hA hQ
  have hS := st_spec hF (Rat.le_of_lt hy)
  have hn0 := nn_ge (F := F) (Rat.le_of_lt hy)
  have hB := scl_pos (e := st F ((A : Rat) / (Q : Rat))) hQ
  have hr : rho F ((A : Rat) / (Q : Rat)) = ((scl A (-st F ((A : Rat) / (Q : Rat))) % scl Q (st F ((A : Rat) / (Q : Rat))) : Int) : Rat) / ((scl Q (st F ((A : Rat) / (Q : Rat))) : Int) : Rat) := by
    unfold rho nn
    rw [← scl_div _ hQ, floor_div hB, frac_div hB]
  have hl1 := hF.l1
  have hh1 := hF.h1
  have hls := hS.l
  unfold rndA at h
  generalize hs : st F ((A : Rat) / (Q : Rat)) = s at *
  generalize hN : nn F ((A : Rat) / (Q : Rat)) = N at *
  have bB : ∀ _ : s ≤ 41, Bn 1042 (scl Q s) := fun _ => bQ.scl (k := 41) (by omega)
  generalize scl Q s = B at *
  generalize hRR : scl A (-s) % B = R at *
  have r0 : 0 ≤ R := by rw [← hRR]; exact Int.emod_nonneg _ (by omega)
  have r1 : R < B := by rw [← hRR]; exact Int.emod_lt_of_pos _ hB
  unfold fmD
  walk_at "sc"
  refine ⟨hH, .int F.h, rfl, ?_⟩
  by_cases c1 : F.h < s
  · rw [if_pos c1] at h
    simp only [decide_eq_true c1]
    exact h
  · rw [if_neg c1] at h
    simp only [decide_eq_false c1]
    have fin : ∀ (N' : Int) (e : DV), 0 ≤ N' → (outX (ofR (some (if neg = true then ng (shp (N', s)) else shp (N', s)))) dyD kk kx O) →
        sp_shaped [.int N', .int s] O fun d O1 => (match decide (0 < t) with | true => kk d O1 | false => sp_negated [d] O1 kk) := by
      intro N' e hN' hk
      refine ⟨N', s, rfl, hN', ?_⟩
      by_cases c : t < 0
      · have e2 : neg = true := by rw [← hn]; exact decide_eq_true c
        rw [e2, if_pos rfl] at hk
        rw [decide_eq_false (show ¬ 0 < t by omega)]
        exact ⟨_, rfl, hk⟩
      · have e2 : neg = false := by rw [← hn]; exact decide_eq_false c
        rw [e2, if_neg (by decide)] at hk
        rw [decide_eq_true (show 0 < t by omega)]
        exact hk
    have rz : rho F ((A : Rat) / (Q : Rat)) = 0 ↔ R = 0 := by
      rw [hr]
      have hb := cast_pos hB
      constructor
      · intro z
        have : (R : Rat) = 0 := by grind
        exact_mod_cast this
      · intro z
        rw [z]; show (0 : Rat) / _ = 0; grind
    by_cases c2 : R = 0
    · rw [if_pos (rz.mpr c2)] at h
      simp only [decide_eq_true c2, Bool.not_true]
      exact fin N [] hn0 h
    · rw [if_neg (fun z => c2 (rz.mp z))] at h
      simp only [decide_eq_false c2, Bool.not_false]
      refine ⟨F, N, s, rfl, hF, ?_⟩
      by_cases c3 : s = F.h ∧ N + 1 = Lk05.top F
      · rw [if_pos c3] at h
        rw [if_pos c3]
        exact h
      · rw [if_neg c3] at h
        rw [if_neg c3]
        have b2 := bB (by omega)
        have bR : Bn 1042 R := by unfold Bn at *; omega
        refine ⟨⟨Bn.sz (n := 2) (by unfold Bn; decide), bR.sz⟩, w, t, N, 2 * R - B, rfl, ht, ?_⟩
        have eo := out_eq (w := w) (neg := neg) (N := N) hB hr
        rw [hn, ← eo]
        cases ho : outw w neg N (2 * rho F ((A : Rat) / (Q : Rat)) - 1) with
        | true => rw [ho, if_pos rfl] at h; exact fin (N + 1) [] (by omega) h
        | false => rw [ho, if_neg (by decide)] at h; exact fin N [] hn0 h
theorem rdx_settled : ∀ ds O (kk : D → OH → Prop) kx, spx_settled ds O kk kx → bd_settled (fun C _ O' => kx C O') { nx := fun _ O' => kk .non O', rt := kk } (startD ["format", "way", "top", "bottom", "dyad", "step", "many", "rest", "more"] ds) O := by
  rintro ds O kk kx ⟨F, w, P, Q, rfl, hF, hQ, bP, bQ, h⟩
  have hq := cast_pos hQ
  unfold bd_settled
  by_cases c : P = 0
  · subst c
    have e : ((0 : Int) : Rat) / (Q : Rat) = 0 := by show (0 : Rat) / _ = 0; grind
    rw [e] at h
    unfold rnd at h
    rw [if_pos rfl] at h
    walk_at "sc"
    rw [decide_true]
    exact ⟨s5, h⟩
  · refine dThen_by (fun e O' => O' = O ∧ e = startD ["format", "way", "top", "bottom", "dyad", "step", "many", "rest", "more"] [fmD F, .str w.s, .int P, .int Q]) (fun nx hn => ?_) ?_
    · have hn := hn _ _ ⟨rfl, rfl⟩
      revert hn
      walk_at "sc"
      simp only [decide_eq_false c]
      exact id
    rintro e O' ⟨rfl, rfl⟩
    have ha : (0 : Int) < (P.natAbs : Int) := by omega
    have eA : (if P < 0 then -P else P) = (P.natAbs : Int) := by split <;> omega
    refine dThen_by (fun e O'' => O'' = O' ∧ e = [some (fmD F), some (.str w.s), some (.int P), some (.int (scl Q (st F ((P.natAbs : Int) / (Q : Rat))))), none, some (.int (st F (((P.natAbs : Int) : Rat) / (Q : Rat)))), some (.int (nn F (((P.natAbs : Int) : Rat) / (Q : Rat)))), some (.int (scl P.natAbs (-st F (((P.natAbs : Int) : Rat) / (Q : Rat))) % scl Q (st F (((P.natAbs : Int) : Rat) / (Q : Rat))))), none]) (fun nx hn => ?_) ?_
    · walk_at "sc"
      rw [eA]
      refine ⟨F, _, Q, rfl, hF, ha, hQ, bP.abs, bQ, ?_⟩
      walk_at "sc"
      exact hn _ _ ⟨rfl, rfl⟩
    rintro e O'' ⟨rfl, rfl⟩
    refine settle_mag (neg := decide (P < 0)) hF ha hQ bP.abs bQ c rfl ?_
    have ne : ¬ (P : Rat) / (Q : Rat) = 0 := by
      intro z
      have : (P : Rat) = 0 := by grind
      exact c (by exact_mod_cast this)
    unfold rnd at h
    rw [if_neg ne] at h
    by_cases c2 : P < 0
    · have np : ¬ 0 < (P : Rat) / (Q : Rat) := by
        rw [Rat.lt_div_iff hq, Rat.zero_mul]
        have : (P : Rat) < 0 := by exact_mod_cast c2
        grind
      rw [if_neg np] at h
      have e1 : -((P : Rat) / (Q : Rat)) = ((P.natAbs : Int) : Rat) / (Q : Rat) := by
        rw [show ((P.natAbs : Int)) = -P by omega, Rat.intCast_neg]; grind
      rw [e1] at h
      rw [decide_eq_true c2]
      exact h
    · have np : 0 < (P : Rat) / (Q : Rat) := pos_div (by omega) hQ
      rw [if_pos np] at h
      rw [decide_eq_false c2, show ((P.natAbs : Int)) = P by omega]
      exact h
end Lk05
namespace Lk05
open PySem PySem.Spec PyProof.Rows L2 SC
open Lk19 (betw tupB oneB)
variable [Cl5] [TabL] [XCx]
local macro_rules | `(tactic| walk_at "sc") => `(tactic| simp only [dThen, dSet, dRet, dCall, dCallX, dRaise, dDead, dCons, dNil, dVar, dC, dCB, dComp, dZip, dSeq, dOp, dIf, dB, dIfE, dNot, dAnd, dOr, dAndV, dOrV, dNotV, dSkip, dExpr, dFor, dApp, dTup, dLst, dLstO, dUn, dPar, dPar3, dAsg, dSetIx, dSl, dPart, dPart0, dRng1, dRng2, dZip3, dEnum, dEnumT, dFld, dMake, dMulA, dMulL, dChain, dNm, dTg, dGCons, dGNil, dYes, dI0, dI, dU, dEqS, eqS, dIsN, SC.isNon, dIsnotB, dAddA, dAddL, dAddLO, dMulT, dSlS, dCompO, dIn, SC.rIxD, rLenD, SC.rListD, rBools, rAbsD, rIntD, rTwo, rTupD, rTupX, rDivmodD, rGcdD, dBits, dMtF,
  startD, List.map_cons, List.map_nil, List.length_cons, List.length_nil, Nat.reduceAdd, Nat.reduceSub, List.replicate_succ, List.replicate_zero, List.cons_append, List.nil_append, List.append_nil,
  List.getElem?_cons_zero, List.getElem?_cons_succ, List.set_cons_zero, List.set_cons_succ, wipeD, atI_0, atI_1, atI_2, atI_3, atI_4, oset_same, oset_oset, true_and, and_true, ix5])
theorem bmul {d e : Int × Int} (hd : Sm d) (he : Sm e) : Bn 48 (d.1 * e.1) := hd.m.mul he.m
theorem rdx_exact : ∀ ds O (kk : D → OH → Prop) kx, spx_exact ds O kk kx → bd_exact (fun C _ O' => kx C O') { nx := fun _ O' => kk .non O', rt := kk } (startD ["word", "one", "other", "top", "others", "many", "step", "steps"] ds) O := by
  rintro ds O kk kx ⟨o, d, e, rfl, n1, n2, hd, he, h⟩
  obtain ⟨q1, q2, q3, q4, _⟩ := o_eq o
  have d2 := hd.e
  have e2 := he.e
  have d3 := hd.m
  have e3 := he.m
  obtain ⟨m, a⟩ := d
  obtain ⟨m', a'⟩ := e
  dsimp only at d2 e2 d3 e3 h
  unfold bd_exact dyD
  walk_at "sc"
  rw [q3, q4, q2]
  refine ⟨s5, ?_⟩
  cases o with
  | least => exact absurd rfl n1
  | greatest => exact absurd rfl n2
  | times =>
    rw [if_neg (by simp)] at h
    dsimp only
    have b := bmul hd he
    refine ⟨⟨d3.sz, e3.sz⟩, s5, (m * m', a + a'), rfl, b.sz, by show -4000 ≤ a + a' ∧ a + a' ≤ 4000; omega, ?_⟩
    have hq := scl_one (-(a + a'))
    refine h _ _ hq ?_ ?_ ?_
    · exact (Bn.scl (k := 128) b (by omega)).up (by decide)
    · exact (Bn.one.scl (k := 80) (by omega)).up (by decide)
    · rw [parts_val]
      unfold val exv
      dsimp only
      rw [p2_add, Rat.intCast_mul]
      grind
  | over =>
    dsimp only
    by_cases c : m' = 0
    · rw [if_pos ⟨rfl, c⟩] at h
      simp only [decide_eq_true c]
      exact h
    · rw [if_neg (fun z => c z.2)] at h
      simp only [decide_eq_false c]
      have fin : ∀ t : Int, t = (if 0 < m' then m else -m) → Bn 24 t → sp_scaled [.int t, .int (a - a')] O fun x O1 => sp_scaled [.int (if m' < 0 then -m' else m'), .int (a' - a)] O1 fun y O2 => 2 ≤ sizeLine ∧ kk (.tup [x, y]) O2 := by
        intro t e bt
        have ha : (if m' < 0 then -m' else m') = (m'.natAbs : Int) := by split <;> omega
        rw [ha]
        have b2 : Bn 24 (m'.natAbs : Int) := Bn.abs e3
        refine ⟨t, a - a', rfl, fun _ => ⟨by omega, bt.sz⟩, _, a' - a, rfl, fun _ => ⟨by omega, b2.sz⟩, s5, ?_⟩
        have hq : 0 < scl (m'.natAbs : Int) (a' - a) := scl_pos (by omega)
        refine h _ _ hq ?_ ?_ ?_
        · exact (bt.scl (k := 104) (by omega)).up (by decide)
        · exact (b2.scl (k := 104) (by omega)).up (by decide)
        · subst e
          exact over_val c
      by_cases c2 : 0 < m'
      · simp only [decide_eq_true c2]
        exact fin m (by rw [if_pos c2]) d3
      · simp only [decide_eq_false c2]
        exact fin (-m) (by rw [if_neg c2]) d3.neg
  | minus =>
    rw [if_neg (by simp)] at h
    dsimp only
    refine ⟨m, a - a', rfl, fun _ => ⟨by omega, d3.sz⟩, -m', a' - a, rfl, fun _ => ⟨by omega, e3.neg.sz⟩, ?_⟩
    have bs : Bn 130 (scl m (a - a') + scl (-m') (a' - a)) := ((d3.scl (k := 104) (by omega)).add (e3.neg.scl (k := 104) (by omega))).up (by decide)
    have em : (if a' < a then a' else a) = min a a' := by split <;> omega
    rw [em]
    refine ⟨s5, (_, min a a'), rfl, bs.sz, by show -4000 ≤ min a a' ∧ min a a' ≤ 4000; omega, ?_⟩
    have hq := scl_one (-(min a a'))
    refine h _ _ hq ?_ ?_ ?_
    · exact (bs.scl (k := 64) (by omega)).up (by decide)
    · exact (Bn.one.scl (k := 40) (by omega)).up (by decide)
    · rw [parts_val]
      have := sum_val m a (-m') a'
      unfold exv
      dsimp only
      show ((scl m (a - a') + scl (-m') (a' - a) : Int) : Rat) * p2 (min a a') = _
      rw [this]
      have : val (-m', a') = -val (m', a') := val_ng (m', a')
      rw [this]; grind
  | plus =>
    rw [if_neg (by simp)] at h
    dsimp only
    refine ⟨m, a - a', rfl, fun _ => ⟨by omega, d3.sz⟩, m', a' - a, rfl, fun _ => ⟨by omega, e3.sz⟩, ?_⟩
    have bs : Bn 130 (scl m (a - a') + scl m' (a' - a)) := ((d3.scl (k := 104) (by omega)).add (e3.scl (k := 104) (by omega))).up (by decide)
    have em : (if a' < a then a' else a) = min a a' := by split <;> omega
    rw [em]
    refine ⟨s5, (_, min a a'), rfl, bs.sz, by show -4000 ≤ min a a' ∧ min a a' ≤ 4000; omega, ?_⟩
    have hq := scl_one (-(min a a'))
    refine h _ _ hq ?_ ?_ ?_
    · exact (bs.scl (k := 64) (by omega)).up (by decide)
    · exact (Bn.one.scl (k := 40) (by omega)).up (by decide)
    · rw [parts_val]
      exact sum_val m a m' a'
theorem rdx_worked : ∀ ds O (kk : D → OH → Prop) kx, spx_worked ds O kk kx → bd_worked (fun C _ O' => kx C O') { nx := fun _ O' => kk .non O', rt := kk } (startD ["format", "way", "word", "one", "other", "top", "bottom"] ds) O := by
  rintro ds O kk kx ⟨F, w, o, d, e, rfl, hF, n1, n2, hd, he, h⟩
  unfold bd_worked
  walk_at "sc"
  refine ⟨o, d, e, rfl, n1, n2, hd, he, ?_⟩
  by_cases c : o = .over ∧ e.1 = 0
  · rw [if_pos c]
    obtain ⟨rfl, c⟩ := c
    unfold wrk at h
    dsimp only at h
    rw [if_pos c] at h
    exact h
  · rw [if_neg c]
    intro P Q hQ bP bQ hv
    walk_at "sc"
    refine ⟨F, w, P, Q, rfl, hF, hQ, bP, bQ, ?_⟩
    rw [hv]
    cases o with
    | least => exact absurd rfl n1
    | greatest => exact absurd rfl n2
    | plus => exact h
    | minus => exact h
    | times => exact h
    | over =>
      unfold wrk at h
      dsimp only at h
      rw [if_neg (fun z => c ⟨rfl, z⟩)] at h
      exact h
theorem rd_is_number_told : ∀ ds O (kk : D → OH → Prop), sp_is_number_told ds O kk → bd_is_number_told { nx := fun _ O' => kk .non O', rt := kk } (startD ["value"] ds) O := by
  rintro ds O kk ⟨d, rfl, hp, h⟩
  unfold bd_is_number_told
  walk_at "sc"
  refine ⟨d, rfl, hp, ?_⟩
  have other : (frB d = false) → numB d = betw (-1000) 1000 d := by
    intro e
    unfold numB
    split
    · rename_i a b
      have e : (decide (0 < b) && decide (Int.gcd a b = 1)) = false := e
      rw [e, Bool.false_and]; rfl
    · rfl
  cases e : frB d with
  | false =>
    rw [other e] at h
    exact ⟨-1000, 1000, d, rfl, hp, h⟩
  | true =>
    unfold frB at e
    split at e
    · rename_i a b
      unfold numB at h
      dsimp only at h
      rw [e, Bool.true_and] at h
      dsimp only
      refine ⟨-1000, 1000, .int a, rfl, by simp [pq], ?_⟩
      cases z : betw (-1000) 1000 (.int a) with
      | false => rw [z] at h; exact h
      | true => rw [z] at h; exact h
    · cases e
theorem rd_is_leaf : ∀ ds O (kk : D → OH → Prop), sp_is_leaf ds O kk → bd_is_leaf { nx := fun _ O' => kk .non O', rt := kk } (startD ["inputs", "thing", "word", "value"] ds) O := by
  rintro ds O kk ⟨n, d, rfl, hp, h⟩
  unfold bd_is_leaf
  walk_at "sc"
  refine ⟨2, 2, d, rfl, hp, ?_⟩
  have e0 : ∀ xs : List D, xs.length ≠ 2 → leafB n (.tup xs) = false := by
    intro xs hx
    unfold leafB
    split
    · rename_i q; cases q; simp at hx
    · rfl
  cases d <;> first | exact h | skip
  rename_i xs
  by_cases hl : xs.length = 2
  · obtain ⟨a, b, rfl⟩ : ∃ a b, xs = [a, b] := by
      match xs, hl with
      | [a, b], _ => exact ⟨a, b, rfl⟩
    clear hl
    have hp2 : pq a = true ∧ pq b = true := by simpa [pq, pqL] using hp
    refine ⟨rfl, s5, ["in"], a, rfl, hp2.1, ?_⟩
    cases a <;> first | exact ⟨s5, ["number"], _, rfl, hp2.1, h⟩ | skip
    rename_i x
    have h : kk (.bl (bif decide (x = "in") then betw 0 (n - 1) b else decide (x = "number") && numB b)) O := h
    rw [show oneB ["in"] (.str x) = decide (x = "in") from by rw [Lk19.one_eq]; simp [eq_comm]]
    cases e : decide (x = "in") with
    | true => rw [e] at h; exact ⟨0, n - 1, b, rfl, hp2.2, h⟩
    | false =>
      rw [e] at h
      refine ⟨s5, ["number"], _, rfl, hp2.1, ?_⟩
      rw [show oneB ["number"] (.str x) = decide (x = "number") from by rw [Lk19.one_eq]; simp [eq_comm]]
      cases e2 : decide (x = "number") with
      | false => rw [e2] at h; exact h
      | true => rw [e2] at h; exact ⟨b, rfl, hp2.2, h⟩
  · have e : tupB 2 2 (.tup xs) = false := by simp only [tupB, Bool.and_eq_false_iff, decide_eq_false_iff_not]; omega
    rw [e]
    rw [e0 xs hl] at h
    exact h
theorem rd_operations (n : Nat) : ∀ ds O (kk : D → OH → Prop), sp_operations (n + 1) ds O kk → bd_operations n { nx := fun _ O' => kk .non O', rt := kk } (startD ["inputs", "thing", "deep", "one", "other"] ds) O := by
  rintro ds O kk ⟨i, d, j, rfl, hj, hp, h⟩
  unfold bd_operations
  walk_at "sc"
  refine ⟨i, d, rfl, hp, ?_⟩
  cases e : leafB i d with
  | true =>
    have : opsB i j d = some 0 := by cases j <;> (unfold opsB; rw [e]; rfl)
    rw [this] at h
    exact h
  | false =>
    dsimp only
    cases j with
    | zero =>
      have : opsB i 0 d = none := by unfold opsB; rw [e]; rfl
      rw [this] at h
      exact h
    | succ j =>
      rw [show decide (((j + 1 : Nat) : Int) = 0) = false from decide_eq_false (by omega)]
      refine ⟨3, 3, d, rfl, hp, ?_⟩
      unfold opsB at h
      rw [e] at h
      simp only [cond_false] at h
      cases d <;> first | exact h | skip
      rename_i xs
      by_cases hl : xs.length = 3
      · obtain ⟨a, b, c, rfl⟩ : ∃ a b c, xs = [a, b, c] := by
          match xs, hl with
          | [a, b, c], _ => exact ⟨a, b, c, rfl⟩
        clear hl
        have hp2 : pq a = true ∧ pq b = true ∧ pq c = true := by simpa [pq, pqL] using hp
        refine ⟨six, a, rfl, hp2.1, ?_⟩
        cases a <;> first | exact h | skip
        rename_i x
        have h : kk (opD (bif decide (x ∈ six) then (match opsB i j b, opsB i j c with
          | some i, some j => some (i + j + 1)
          | _, _ => none) else none)) O := h
        rw [show oneB six (.str x) = decide (x ∈ six) from by rw [Lk19.one_eq, Bool.eq_iff_iff]; simp]
        cases e2 : decide (x ∈ six) with
        | false => rw [e2] at h; exact h
        | true =>
          rw [e2] at h
          simp only [cond_true] at h
          rw [show ((j + 1 : Nat) : Int) - 1 = (j : Nat) by omega]
          cases n with
          | zero => omega
          | succ n =>
            refine ⟨i, b, j, rfl, by omega, hp2.2.1, i, c, j, rfl, by omega, hp2.2.2, ?_⟩
            revert h
            cases opsB i j b with
            | none => cases opsB i j c <;> exact id
            | some u => cases opsB i j c <;> exact id
      · have e3 : tupB 3 3 (.tup xs) = false := by simp only [tupB, Bool.and_eq_false_iff, decide_eq_false_iff_not]; omega
        rw [e3]
        have h : kk (opD (match D.tup xs with
          | .tup [.str x, a, b] => bif decide (x ∈ six) then (match opsB i j a, opsB i j b with
            | some i, some j => some (i + j + 1)
            | _, _ => none) else none
          | _ => none)) O := h
        split at h
        · rename_i q; cases q; simp at hl
        · exact h
theorem rd_is_formula : ∀ ds O (kk : D → OH → Prop), sp_is_formula ds O kk → bd_is_formula { nx := fun _ O' => kk .non O', rt := kk } (startD ["inputs", "thing", "many"] ds) O := by
  rintro ds O kk ⟨i, d, rfl, hp, h⟩
  unfold bd_is_formula
  walk_at "sc"
  refine ⟨i, d, 6, rfl, by decide, hp, ?_⟩
  unfold fmlB at h
  revert h
  cases opsB i 6 d with
  | none => exact id
  | some u => exact id
theorem rd_fraction_of : ∀ ds O (kk : D → OH → Prop), sp_fraction_of ds O kk → bd_fraction_of { nx := fun _ O' => kk .non O', rt := kk } (startD ["value"] ds) O := by
  rintro ds O kk ⟨v, p, q, rfl, hv, h⟩
  unfold bd_fraction_of
  walk_at "sc"
  rcases hv with ⟨rfl, rfl⟩ | rfl
  · exact isi_go (by simp [pq]) (.inr (.inr (.inr (.inl rfl)))) ⟨s5, h⟩
  · exact isi_go (by simp [pq, pqL]) (.inr (.inr (.inr (.inl rfl)))) h
end Lk05
namespace Lk05
open PySem PySem.Spec PyProof.Rows L2 SC
open Lk19 (betw tupB oneB)
variable [Cl5] [TabL] [XCx]
local macro_rules | `(tactic| walk_at "sc") => `(tactic| simp only [dThen, dSet, dRet, dCall, dCallX, dRaise, dDead, dCons, dNil, dVar, dC, dCB, dComp, dZip, dSeq, dOp, dIf, dB, dIfE, dNot, dAnd, dOr, dAndV, dOrV, dNotV, dSkip, dExpr, dFor, dApp, dTup, dLst, dLstO, dUn, dPar, dPar3, dAsg, dSetIx, dSl, dPart, dPart0, dRng1, dRng2, dZip3, dEnum, dEnumT, dFld, dMake, dMulA, dMulL, dChain, dNm, dTg, dGCons, dGNil, dYes, dI0, dI, dU, dEqS, eqS, dIsN, SC.isNon, dIsnotB, dAddA, dAddL, dAddLO, dMulT, dSlS, dCompO, dIn, SC.rIxD, rLenD, SC.rListD, rBools, rAbsD, rIntD, rTwo, rTupD, rTupX, rDivmodD, rGcdD, dBits, dMtF,
  startD, List.map_cons, List.map_nil, List.length_cons, List.length_nil, Nat.reduceAdd, Nat.reduceSub, List.replicate_succ, List.replicate_zero, List.cons_append, List.nil_append, List.append_nil,
  List.getElem?_cons_zero, List.getElem?_cons_succ, List.set_cons_zero, List.set_cons_succ, wipeD, atI_0, atI_1, atI_2, atI_3, atI_4, oset_same, oset_oset, true_and, and_true, ix5])
theorem wd_six (o : Wd) : o.s ∈ six := by cases o <;> simp [Wd.s, six]
theorem wd_ne (o : Wd) : o.s ≠ "in" ∧ o.s ≠ "number" := by cases o <;> (constructor <;> (simp only [Wd.s]; decide +kernel))
theorem bn_of {i : Int} (h : -10000 ≤ i ∧ i ≤ 10000) : Bn 1000 i := by
  have : Bn 20 i := by unfold Bn; omega
  exact this.up (by decide)
theorem se_in : strEq "in" "in" = true ∧ strEq "in" "number" = false ∧ strEq "number" "in" = false ∧ strEq "number" "number" = true := by
  simp only [strEq_eq]; decide +kernel
theorem row_at {r : Rw} {i : Nat} (hr : okRw r) (hi : i < r.length) : atI (r.map D.int) (i : Nat) = some (.int (r.getD i 0)) ∧ -10000 ≤ r.getD i 0 ∧ r.getD i 0 ≤ 10000 := by
  have e : r[i]? = some r[i] := List.getElem?_eq_getElem hi
  refine ⟨by rw [atI_nat]; simp [List.getD, e], ?_⟩
  have := hr.b r[i] (List.getElem_mem hi)
  simp only [List.getD, e, Option.getD_some]
  exact this
theorem rdx_result (n : Nat) : ∀ ds O (kk : D → OH → Prop) kx, spx_result (n + 1) ds O kk kx → bd_result n (fun C _ O' => kx C O') { nx := fun _ O' => kk .non O', rt := kk } (startD ["format", "way", "formula", "row", "word", "one", "other", "top", "bottom"] ds) O := by
  rintro ds O kk kx ⟨F, w, f, r, rfl, hF, hf, hr, hd, h⟩
  obtain ⟨e1, e2, e3, e4⟩ := se_in
  unfold bd_result
  cases f with
  | inp i =>
    unfold Fo.d rwD
    walk_at "sc"
    simp only [e1]
    obtain ⟨r1, r2⟩ := row_at hr hf
    simp only [r1]
    refine ⟨F, w, _, 1, rfl, hF, by decide, bn_of r2, bn_of (by decide), ?_⟩
    unfold evF at h
    rw [show (((r.getD i 0 : Int) : Rat) / ((1 : Int) : Rat)) = ((r.getD i 0 : Int) : Rat) by show _ / (1 : Rat) = _; grind]
    exact h
  | num p =>
    unfold Fo.d rwD
    walk_at "sc"
    simp only [e3, e4]
    refine ⟨_, p, 1, rfl, .inl ⟨rfl, rfl⟩, ?_⟩
    walk_at "sc"
    have hf : -1000 ≤ p ∧ p ≤ 1000 := hf
    refine ⟨F, w, _, 1, rfl, hF, by decide, bn_of (by omega), bn_of (by decide), ?_⟩
    unfold evF at h
    rw [show ((p : Rat) / ((1 : Int) : Rat)) = (p : Rat) by show _ / (1 : Rat) = _; grind]
    exact h
  | frc p q =>
    unfold Fo.d rwD
    walk_at "sc"
    simp only [e3, e4]
    refine ⟨_, p, q, rfl, .inr rfl, ?_⟩
    walk_at "sc"
    have hf : -1000 ≤ p ∧ p ≤ 1000 ∧ 1 ≤ q ∧ q ≤ 1000 ∧ Int.gcd p q = 1 := hf
    refine ⟨F, w, _, q, rfl, hF, by omega, bn_of (by omega), bn_of (by omega), ?_⟩
    unfold evF at h
    exact h
  | op o a b =>
    obtain ⟨q1, q2, q3, q4, q5, q6, q7, q8⟩ := o_eq o
    obtain ⟨fa, fb⟩ : a.ok r.length ∧ b.ok r.length := hf
    have hd : max a.dep b.dep + 1 ≤ n := hd
    unfold evF at h
    unfold Fo.d
    walk_at "sc"
    simp only [q7, q8]
    cases n with
    | zero => omega
    | succ n =>
    refine ⟨F, w, a, r, rfl, hF, fa, hr, by omega, ?_⟩
    cases ea : evF F w r a with
    | nought => rw [ea] at h; exact h
    | beyond => rw [ea] at h; exact h
    | ok d =>
      rw [ea] at h
      refine ⟨F, w, b, r, rfl, hF, fb, hr, by omega, ?_⟩
      cases eb : evF F w r b with
      | nought => rw [eb] at h; exact h
      | beyond => rw [eb] at h; exact h
      | ok e =>
        rw [eb] at h
        have hi := (evF_in hF ea).sm hF
        have hj := (evF_in hF eb).sm hF
        dsimp only at h ⊢
        rw [q5, q6]
        have oth : o ≠ .least → o ≠ .greatest → spx_worked [fmD F, .str w.s, .str o.s, dyD d, dyD e] O kk kx := fun n1 n2 => ⟨F, w, o, d, e, rfl, hF, n1, n2, hi, hj, h⟩
        cases o with
        | least =>
          refine ⟨e, d, rfl, hj, hi, ?_⟩
          unfold wrk at h
          by_cases c : val e < val d
          · simp only [decide_eq_true c]; simp only [if_pos c] at h; exact h
          · simp only [decide_eq_false c]; simp only [if_neg c] at h; exact h
        | greatest =>
          refine ⟨d, e, rfl, hi, hj, ?_⟩
          unfold wrk at h
          by_cases c : val d < val e
          · simp only [decide_eq_true c]; simp only [if_pos c] at h; exact h
          · simp only [decide_eq_false c]; simp only [if_neg c] at h; exact h
        | plus => exact oth (by simp) (by simp)
        | minus => exact oth (by simp) (by simp)
        | times => exact oth (by simp) (by simp)
        | over => exact oth (by simp) (by simp)
theorem pq_fo : ∀ f : Fo, pq f.d = true
  | .inp i => by simp [Fo.d, pq, pqL]
  | .num p => by simp [Fo.d, pq, pqL]
  | .frc p q => by simp [Fo.d, pq, pqL]
  | .op o a b => by simp [Fo.d, pq, pqL, pq_fo a, pq_fo b]
theorem numB_num {p : Int} (h : -1000 ≤ p ∧ p ≤ 1000) : numB (.int p) = true := by
  unfold numB betw; simp [h]
theorem numB_frc {p q : Int} (h : -1000 ≤ p ∧ p ≤ 1000 ∧ 1 ≤ q ∧ q ≤ 1000 ∧ Int.gcd p q = 1) : numB (.tup [.int p, .int q]) = true := by
  unfold numB betw
  obtain ⟨h1, h2, h3, h4, h5⟩ := h
  simp [h1, h2, h4, h5]; omega
theorem str_in : ((("number" : Str) = "in") = False) := by apply propext; constructor; · decide +kernel
                                                           · exact False.elim
theorem leaf_inp {n : Nat} {i : Nat} (h : i < n) : leafB n (Fo.d (.inp i)) = true := by
  unfold Fo.d leafB betw
  simp; omega
theorem leaf_number {n : Nat} {v : D} (h : numB v = true) : leafB n (.tup [.str "number", v]) = true := by
  unfold leafB
  simp [str_in, h]
theorem leaf_op (n : Int) (o : Wd) (a b : D) : leafB n (.tup [.str o.s, a, b]) = false := by
  unfold leafB; rfl
theorem ops_fo {n : Nat} : ∀ (f : Fo) (k : Nat), f.ok n → f.dep ≤ k → opsB n k f.d = some (f.cnt : Int)
  | .inp i, k, h, _ => by
    have := leaf_inp (n := n) (i := i) h
    cases k <;> (unfold opsB; rw [this]; rfl)
  | .num p, k, h, _ => by
    have : leafB n (Fo.d (.num p)) = true := leaf_number (numB_num h)
    cases k <;> (unfold opsB; rw [this]; rfl)
  | .frc p q, k, h, _ => by
    have : leafB n (Fo.d (.frc p q)) = true := leaf_number (numB_frc h)
    cases k <;> (unfold opsB; rw [this]; rfl)
  | .op o a b, 0, _, hd => by simp [Fo.dep] at hd
  | .op o a b, k + 1, h, hd => by
    have hd : max a.dep b.dep + 1 ≤ k + 1 := hd
    have ia := ops_fo a k h.1 (by omega)
    have ib := ops_fo b k h.2 (by omega)
    unfold opsB Fo.d
    rw [leaf_op]
    simp only [cond_false, decide_eq_true (wd_six o), cond_true, ia, ib, Fo.cnt]
    congr 1
    omega
theorem fml_ok {n : Nat} {f : Fo} (h : f.ok n) (hd : f.dep ≤ 6) (hc : f.cnt ≤ 12) : fmlB n f.d = true := by
  unfold fmlB
  rw [ops_fo f 6 h hd]
  simp; omega
theorem rdx_whole_result : ∀ ds O (kk : D → OH → Prop) kx, spx_whole_result ds O kk kx → bd_whole_result (fun C _ O' => kx C O') { nx := fun _ O' => kk .non O', rt := kk } (startD ["format", "way", "formula", "row"] ds) O := by
  rintro ds O kk kx ⟨F, w, f, r, rfl, hF, hf, hr, hd, h⟩
  unfold bd_whole_result
  walk_at "sc"
  refine ⟨F, w, f, r, rfl, hF, hf, hr, hd, ?_⟩
  cases ea : evF F w r f with
  | nought => rw [ea] at h; exact h
  | beyond => rw [ea] at h; exact h
  | ok d =>
    rw [ea] at h
    exact ⟨d, rfl, (evF_in hF ea).sm hF, h⟩
theorem rd_check_run : ∀ ds O (kk : D → OH → Prop), sp_check_run ds O kk → bd_check_run { nx := fun _ O' => kk .non O', rt := kk } (startD ["way", "formula", "row"] ds) O := by
  rintro ds O kk ⟨w, f, r, rfl, hr, hf, h⟩
  unfold bd_check_run
  walk_at "sc"
  have := hr.n6
  refine ⟨w, rfl, r, rfl, hr, (r.length : Nat), f.d, ?_, ?_, ?_⟩
  · simp
  · exact pq_fo f
  · rw [hf]; exact h
theorem rdx_run : ∀ ds O (kk : D → OH → Prop) kx, spx_run ds O kk kx → bd_run (fun C _ O' => kx C O') { nx := fun _ O' => kk .non O', rt := kk } (startD ["format", "way", "formula", "row"] ds) O := by
  rintro ds O kk kx ⟨F, w, f, r, rfl, hF, hf, hr, hd, hc, h⟩
  unfold bd_run
  walk_at "sc"
  exact ⟨w, f, r, rfl, hr, fml_ok hf hd hc, F, w, f, r, rfl, hF, hf, hr, Nat.le_trans hd (by decide), h⟩
theorem rdx_whole_of : ∀ ds O (kk : D → OH → Prop) kx, spx_whole_of ds O kk kx → bd_whole_of (fun C _ O' => kx C O') { nx := fun _ O' => kk .non O', rt := kk } (startD ["format", "way", "formula", "row"] ds) O := by
  rintro ds O kk kx ⟨F, w, f, r, rfl, hF, hf, hr, hd, hc, h⟩
  unfold bd_whole_of
  walk_at "sc"
  exact ⟨w, f, r, rfl, hr, fml_ok hf hd hc, F, w, f, r, rfl, hF, hf, hr, Nat.le_trans hd (by decide), h⟩
end Lk05
namespace Lk05
open PySem PySem.Spec PyProof.Rows L2 SC
open Lk19 (betw tupB oneB)
variable [Cl5] [TabL] [XCx]
local macro_rules | `(tactic| walk_at "sc") => `(tactic| simp only [dThen, dSet, dRet, dCall, dCallX, dRaise, dDead, dCons, dNil, dVar, dC, dCB, dComp, dZip, dSeq, dOp, dIf, dB, dIfE, dNot, dAnd, dOr, dAndV, dOrV, dNotV, dSkip, dExpr, dFor, dApp, dTup, dLst, dLstO, dUn, dPar, dPar3, dAsg, dSetIx, dSl, dPart, dPart0, dRng1, dRng2, dZip3, dEnum, dEnumT, dFld, dMake, dMulA, dMulL, dChain, dNm, dTg, dGCons, dGNil, dYes, dI0, dI, dU, dEqS, eqS, dIsN, SC.isNon, dIsnotB, dAddA, dAddL, dAddLO, dMulT, dSlS, dCompO, dIn, SC.rIxD, rLenD, SC.rListD, rBools, rAbsD, rIntD, rTwo, rTupD, rTupX, rDivmodD, rGcdD, dBits, dMtF,
  startD, List.map_cons, List.map_nil, List.length_cons, List.length_nil, Nat.reduceAdd, Nat.reduceSub, List.replicate_succ, List.replicate_zero, List.cons_append, List.nil_append, List.append_nil,
  List.getElem?_cons_zero, List.getElem?_cons_succ, List.set_cons_zero, List.set_cons_succ, wipeD, atI_0, atI_1, atI_2, atI_3, atI_4, oset_same, oset_oset, true_and, and_true, ix5])
theorem rd__law_hand : ∀ ds O (kk : D → OH → Prop), sp__law_hand ds O kk → bd__law_hand { nx := fun _ O' => kk .non O', rt := kk } (startD ["script", "cells", "cell"] ds) O := by
  rintro ds O kk ⟨ns, rfl, hl, h⟩
  unfold bd__law_hand
  walk_at "sc"
  rw [cut_take (n := 63) (i := 63) rfl, ← List.map_take]
  refine ⟨small_len (by rw [List.length_map, List.length_take]; omega), dAcc_map _ (fun n => .int (if n < 0 then -n else n)) _ _ _ (fun n _ O k' h' => ?_) ?_⟩
  · walk_at "sc"
    exact h'
  · rw [List.nil_append]
    have e : (ns.take 63).map (fun n => D.int (if n < 0 then -n else n)) = ((ns.take 63).map fun n => if n < 0 then -n else n).map D.int := by rw [List.map_map]; rfl
    rw [e]
    exact ⟨small_len (by simp), fun p hp => h p _ hp ⟨_, 0, 0, _, 0, rfl, by decide⟩⟩
theorem rd__law_draw : ∀ ds O (kk : D → OH → Prop), sp__law_draw ds O kk → bd__law_draw { nx := fun _ O' => kk .non O', rt := kk } (startD ["hand", "many", "number", "cell", "digit"] ds) O := by
  rintro ds O kk ⟨p, h, m, rfl, hO, ⟨cs, i, big, seed, c, rfl, hi⟩, hm, hm2, hk⟩
  rw [← oset_id hO]
  have hdiv : ∀ a b : Int, 0 < b → b < 1073741824 → CDiv a b := fun a b h1 h2 => ⟨h1, h2⟩
  unfold bd__law_draw
  refine dThen_by (fun e O' => ∃ h' x, HandOk h' ∧ e = [some (.own p), some (.int m), none, x, none] ∧ O' = oset O p h') (fun nx hn => ?_) ?_
  · walk_at "sc"
    by_cases z : big = 0
    · rw [decide_eq_true z]
      walk_at "sc"
      rw [List.length_map]
      by_cases z2 : i < (cs.length : Int)
      · rw [decide_eq_true z2]
        obtain ⟨x, _, hx⟩ := atI_map (f := D.int) hi z2
        walk_at "sc"
        simp only [hx]
        refine ⟨.inr ⟨by decide, by decide⟩, by decide, ⟨by decide, by decide, by decide⟩, ?_⟩
        by_cases z3 : (10 : Int) ^ (18 : Int).toNat ≤ x
        · rw [decide_eq_true z3]
          exact hn _ _ ⟨_, _, ⟨cs, i + 1, x, _, c, rfl, by omega⟩, rfl, rfl⟩
        · rw [decide_eq_false z3]
          exact hn _ _ ⟨_, _, ⟨cs, i + 1, big, _, c, rfl, by omega⟩, rfl, rfl⟩
      · rw [decide_eq_false z2]
        exact hn _ _ ⟨_, _, ⟨cs, i, big, seed, c, rfl, hi⟩, rfl, rfl⟩
    · rw [decide_eq_false z]
      exact hn _ _ ⟨_, _, ⟨cs, i, big, seed, c, rfl, hi⟩, rfl, rfl⟩
  · rintro e O' ⟨h', x, ⟨cs, i, big, seed, c, rfl, hi⟩, rfl, rfl⟩
    walk_at "sc"
    by_cases z : 0 < big
    · rw [decide_eq_true z]
      walk_at "sc"
      exact ⟨hm, hdiv _ _ hm hm2, hk _ _ (mod_lt' hm).1 (mod_lt' hm).2 ⟨cs, i, _, seed, c, rfl, hi⟩⟩
    · rw [decide_eq_false z]
      walk_at "sc"
      have ub : ∀ a : Int, -(2 ^ 64) < a % 2147483647 ∧ a % 2147483647 < 2 ^ 64 := fun a => by
        have := mod_lt' (a := a) (show (0 : Int) < 2147483647 by decide)
        constructor <;> omega
      exact ⟨.inl ⟨by decide, by decide⟩, .inr ⟨by decide, by decide⟩, by decide, hdiv _ _ (by decide) (by decide), .inl (ub _), by decide, hdiv _ _ (by decide) (by decide), .inl (ub _), by decide, hdiv _ _ (by decide) (by decide), hm, hk _ _ (mod_lt' hm).1 (mod_lt' hm).2 ⟨cs, i, big, seed, _, rfl, hi⟩⟩
theorem rd__law_any : ∀ ds O (kk : D → OH → Prop), sp__law_any ds O kk → bd__law_any { nx := fun _ O' => kk .non O', rt := kk } (startD ["hand", "some"] ds) O := Lk19.rd__law_some
theorem rd__law_is_int : ∀ ds O (kk : D → OH → Prop), sp__law_is_int ds O kk → bd__law_is_int { nx := fun _ O' => kk .non O', rt := kk } (startD ["thing", "least", "most"] ds) O := by
  rintro ds O kk ⟨d, l, m, rfl, hp, h⟩
  unfold bd__law_is_int
  walk_at "sc"
  refine isi_go hp (.inl rfl) ?_
  cases d <;> first | (simp [pq] at hp; done) | exact h | exact isi_go hp (.inr (.inl rfl)) h | skip
  rename_i i
  refine isi_go hp (.inr (.inl rfl)) ?_
  have h : kk (.bl (decide (l ≤ i) && decide (i ≤ m))) O := h
  show (match D.bl (decide (l ≤ i)) with | .bl true => _ | .bl false => _ | _ => _)
  cases e : decide (l ≤ i) with
  | false => rw [e] at h; exact h
  | true => rw [e] at h; exact h
theorem rd__law_flag : ∀ ds O (kk : D → OH → Prop), sp__law_flag ds O kk → bd__law_flag { nx := fun _ O' => kk .non O', rt := kk } (startD ["told", "due"] ds) O := by
  rintro ds O kk ⟨a, b, rfl, h⟩
  unfold bd__law_flag
  walk_at "sc"
  refine isi_go rfl (.inr (.inl rfl)) ?_
  show kk (.bl _) O
  have : (a == b) = decide (a = b) := by cases a <;> cases b <;> rfl
  first | exact h | (rw [this]; exact h) | (simpa using h)
theorem rd__law_deep : ∀ ds O (kk : D → OH → Prop), sp__law_deep ds O kk → bd__law_deep { nx := fun _ O' => kk .non O', rt := kk } (startD ["hand", "thing", "turn"] ds) O := by
  rintro ds O kk ⟨p, h, d, rfl, hO, hh, hp, hk⟩
  unfold bd__law_deep
  walk_at "sc"
  refine ⟨p, h, 30, rfl, hO, hh, by decide, by decide, fun n h1 n0 n1 hh1 => ?_⟩
  walk_at "sc"
  refine ⟨⟨by omega, by omega⟩, ?_⟩
  refine dLoop_ind (α := Nat) (fun i => .int (0 + (i : Int))) (fun rest e O' => ∃ (d : D) (h' : List D) (x : Option D), HandOk h' ∧ pq d = true ∧ e = [some (.own p), some d, x] ∧ O' = oset O p h') ?_ ?_ (List.range (1 + n).toNat) _ _ ⟨d, h1, none, hh1, hp, rfl, rfl⟩
  · rintro i rest e O' ⟨d, h', x, hh', hp, rfl, rfl⟩ nx hn
    walk_at "sc"
    refine ⟨p, h', 2, rfl, oset_same, hh', by decide, by decide, fun n h2 n0 n1 hh2 => ?_⟩
    walk_at "sc"
    cases decide (n = 0) with
    | true => exact ⟨s5, hn _ _ ⟨.tup [d], h2, _, hh2, by simp [pq, pqL, hp], rfl, rfl⟩⟩
    | false => exact ⟨s5, hn _ _ ⟨.lst [d], h2, _, hh2, by simp [pq, pqL, hp], rfl, rfl⟩⟩
  · rintro e O' ⟨d, h', x, hh', hp, rfl, rfl⟩
    walk_at "sc"
    exact hk d h' hp hh'
theorem sz_le {i j : Int} (h : Sz j) (h1 : i.natAbs ≤ j.natAbs) : Sz i := Nat.lt_of_le_of_lt h1 h
theorem rd__law_low : ∀ ds O (kk : D → OH → Prop), sp__law_low ds O kk → bd__law_low { nx := fun _ O' => kk .non O', rt := kk } (startD ["top", "bottom", "one", "other"] ds) O := by
  rintro ds O kk ⟨P, Q, rfl, hQ, sP, sQ, h⟩
  unfold bd__law_low
  walk_at "sc"
  unfold dWhile
  refine ⟨fun m e O' => O' = O ∧ ∃ a b : Nat, e = [some (.int P), some (.int Q), some (.int (a : Nat)), some (.int (b : Nat))] ∧ Nat.gcd a b = Int.gcd P Q ∧ m = b, ⟨Q.toNat, rfl, P.natAbs, Q.toNat, ?_, ?_, rfl⟩, ?_⟩
  · rw [show (if P < 0 then -P else P) = (P.natAbs : Int) by split <;> omega, show ((Q.toNat : Nat) : Int) = Q by omega]
  · rw [Int.gcd, show Q.toNat = Q.natAbs by omega]
  rintro m e O' ⟨rfl, a, b, rfl, hg, rfl⟩
  walk_at "sc"
  by_cases c : (0 : Int) < (m : Nat)
  · rw [decide_eq_true c]
    refine ⟨c, a % m, Nat.mod_lt _ (by omega), m, a % m, ?_, ?_, rfl⟩
    · rw [Int.natCast_emod]
    · rw [Nat.gcd_comm, ← Nat.gcd_rec, Nat.gcd_comm]; exact hg
  · rw [decide_eq_false c]
    obtain rfl : m = 0 := by omega
    have hg : a = Int.gcd P Q := by rw [← hg, Nat.gcd_zero_right]
    have h0 : 0 < a := by rw [hg]; exact Int.gcd_pos_of_ne_zero_right _ (by omega)
    have h1 : (a : Int) ≤ Q := by rw [hg]; exact Int.le_of_dvd hQ (Int.gcd_dvd_right ..)
    have sa : Sz (a : Nat) := sz_le sQ (by omega)
    refine ⟨⟨by omega, sa⟩, ⟨by omega, sa⟩, s5, ?_⟩
    unfold frQ at h
    obtain ⟨e1, e2⟩ := num_div (P := P) hQ
    rw [e1, e2, ← hg] at h
    exact h
theorem sz_pow {n : Nat} (h : n ≤ 3000) : Sz (2 ^ n) := (Bn.pow n).up (by omega)
theorem rd__law_two : ∀ ds O (kk : D → OH → Prop), sp__law_two ds O kk → bd__law_two { nx := fun _ O' => kk .non O', rt := kk } (startD ["many", "found", "turn"] ds) O := by
  rintro ds O kk ⟨n, rfl, hn, h⟩
  unfold bd__law_two
  walk_at "sc"
  refine ⟨⟨by omega, by omega⟩, ?_⟩
  refine dLoop_ind (α := Nat) (fun i => .int (0 + (i : Int))) (fun rest e O' => O' = O ∧ rest.length ≤ n ∧ ∃ t : Option D, e = [some (.int (n : Nat)), some (.int (2 ^ (n - rest.length))), t]) ?_ ?_ (List.range (n : Int).toNat) _ _ ⟨rfl, by simp, none, by simp⟩
  · rintro i rest e O' ⟨rfl, hl, t, rfl⟩ nx hx
    walk_at "sc"
    have hl : rest.length + 1 ≤ n := hl
    refine ⟨⟨sz_pow (by omega), by unfold Sz; exact Nat.lt_of_lt_of_le (by decide : (2 : Nat) < 2 ^ 2) (Nat.pow_le_pow_right (by decide) (by decide))⟩, hx _ _ ⟨rfl, by omega, some (.int (0 + (i : Int))), ?_⟩⟩
    rw [show n - rest.length = (n - (rest.length + 1)) + 1 by omega, Int.pow_succ]
  · rintro e O' ⟨rfl, hl, t, rfl⟩
    walk_at "sc"
    exact h
theorem scl_nat (m e : Int) : scl m e = m * 2 ^ e.toNat := by
  unfold scl
  split
  · rfl
  · rw [show e.toNat = 0 by omega]; simp
theorem frQ_int (i : Int) : frQ (i : Rat) = .tup [.int i, .int 1] := by unfold frQ; simp
theorem rd__law_worth : ∀ ds O (kk : D → OH → Prop), sp__law_worth ds O kk → bd__law_worth { nx := fun _ O' => kk .non O', rt := kk } (startD ["dyad"] ds) O := by
  rintro ds O kk ⟨d, rfl, hb, he, h⟩
  obtain ⟨m, e⟩ := d
  dsimp only at hb he
  unfold bd__law_worth dyD
  walk_at "sc"
  by_cases c : 0 ≤ e
  · rw [decide_eq_true c]
    refine ⟨e.toNat, by rw [show ((e.toNat : Nat) : Int) = e by omega], by omega, ?_⟩
    walk_at "sc"
    refine ⟨⟨hb.sz, sz_pow (by omega)⟩, s5, ?_⟩
    have : val (m, e) = ((m * 2 ^ e.toNat : Int) : Rat) := by unfold val; dsimp only; rw [p2_of e c, Rat.intCast_mul]
    rw [this, frQ_int] at h
    exact h
  · rw [decide_eq_false c]
    refine ⟨(-e).toNat, by rw [show (((-e).toNat : Nat) : Int) = 0 - e by omega], by omega, ?_⟩
    have hq : (0 : Int) < 2 ^ (-e).toNat := Int.pow_pos (by decide)
    refine ⟨m, _, rfl, hq, hb.sz, sz_pow (by omega), ?_⟩
    have : val (m, e) = (m : Rat) / ((2 ^ (-e).toNat : Int) : Rat) := by
      unfold val; dsimp only
      rw [← p2_of (-e) (by omega), p2_neg']
      have := p2_ne e
      grind
    rw [this] at h
    exact h
theorem rd__law_dyad : ∀ ds O (kk : D → OH → Prop), sp__law_dyad ds O kk → bd__law_dyad { nx := fun _ O' => kk .non O', rt := kk } (startD ["value", "top", "bottom", "many"] ds) O := by
  rintro ds O kk ⟨d, rfl, hn, hs, h⟩
  obtain ⟨e1, e2⟩ := val_frac hn
  unfold bd__law_dyad frQ
  rw [e1, e2]
  have he := hs.e
  obtain ⟨m, e⟩ := d
  dsimp only at he ⊢
  rw [scl_nat, scl_nat, Int.one_mul]
  walk_at "sc"
  rcases hn with hn | ho
  · obtain ⟨rfl, rfl⟩ : m = 0 ∧ e = 0 := by injection hn with a b; exact ⟨a, b⟩
    simp only [Int.zero_mul, decide_true]
    exact ⟨s5, h⟩
  have ho : m % 2 = 1 := ho
  have m0 : m * 2 ^ e.toNat ≠ 0 := Int.mul_ne_zero (by omega) (by have : (0 : Int) < 2 ^ e.toNat := Int.pow_pos (by decide); omega)
  rw [decide_eq_false m0]
  have s2 : Sz 2 := by unfold Sz; exact Nat.lt_of_lt_of_le (by decide : (2 : Nat) < 2 ^ 2) (Nat.pow_le_pow_right (by decide) (by decide))
  unfold dWhile
  refine ⟨fun j x O' => O' = O ∧ j ≤ (-e).toNat ∧ x = [some (.tup [.int (m * 2 ^ e.toNat), .int (2 ^ (-e).toNat)]), some (.int (m * 2 ^ e.toNat)), some (.int (2 ^ j)), some (.int ((j : Int) - (-e).toNat))], ⟨(-e).toNat, rfl, Nat.le_refl _, by simp⟩, ?_⟩
  rintro j x O' ⟨rfl, hj, rfl⟩
  walk_at "sc"
  cases j with
  | succ j =>
    have c : (1 : Int) < 2 ^ (j + 1) := by
      have : (0 : Int) < 2 ^ j := Int.pow_pos (by decide)
      rw [Int.pow_succ]; omega
    rw [decide_eq_true c]
    refine ⟨⟨by decide, s2⟩, j, by omega, by omega, ?_⟩
    rw [show (2 : Int) ^ (j + 1) / 2 = 2 ^ j by rw [Int.pow_succ]; exact Int.mul_ediv_cancel _ (by decide), show ((j + 1 : Nat) : Int) - ((-e).toNat : Nat) - 1 = (j : Int) - (-e).toNat by omega]
  | zero =>
    simp only [Int.pow_zero, show decide ((1 : Int) < 1) = false from rfl]
    refine ⟨fun i x O'' => O'' = O' ∧ i ≤ e.toNat ∧ ∃ y, x = [y, some (.int (m * 2 ^ i)), some (.int 1), some (.int (e - (i : Nat)))], ⟨e.toNat, rfl, Nat.le_refl _, some (.tup [.int (m * 2 ^ e.toNat), .int (2 ^ (-e).toNat)]), ?_⟩, ?_⟩
    · rw [show ((0 : Nat) : Int) - (-e).toNat = e - (e.toNat : Nat) by omega]
    rintro i x O'' ⟨rfl, hi, y, rfl⟩
    walk_at "sc"
    refine ⟨by decide, ?_⟩
    cases i with
    | succ i =>
      have c : m * 2 ^ (i + 1) % 2 = 0 := by rw [Int.pow_succ, ← Int.mul_assoc]; exact Int.mul_emod_left ..
      rw [decide_eq_true c]
      refine ⟨⟨by decide, s2⟩, i, by omega, by omega, y, ?_⟩
      rw [show m * (2 : Int) ^ (i + 1) / 2 = m * 2 ^ i by rw [Int.pow_succ, ← Int.mul_assoc]; exact Int.mul_ediv_cancel _ (by decide), show e - ((i + 1 : Nat) : Int) + 1 = e - (i : Nat) by omega]
    | zero =>
      have c : ¬ m * 2 ^ 0 % 2 = 0 := by simp; omega
      rw [decide_eq_false c]
      refine ⟨s5, ?_⟩
      simpa [dyD] using h
end Lk05
namespace Lk05
open PySem PySem.Spec PyProof.Rows L2 SC
theorem Sq.up {n k : Nat} {r : Rat} (h : Sq n r) (hk : n ≤ k) : Sq k r := ⟨h.n.up hk, h.d.up hk⟩
theorem sq_div {P Q : Int} {n : Nat} (hQ : 0 < Q) (hp : Bn n P) (hq : Bn n Q) : Sq n ((P : Rat) / (Q : Rat)) := ⟨num_le hQ hp, den_le hQ hq⟩
theorem Sq.neg {n : Nat} {r : Rat} (h : Sq n r) : Sq n (-r) := ⟨by rw [Rat.neg_num]; exact h.n.neg, by rw [Rat.neg_den]; exact h.d⟩
theorem num_neg_iff {x : Rat} : x.num < 0 ↔ x < 0 := by
  have := @Rat.num_nonneg x
  constructor
  · intro h
    by_cases c : 0 ≤ x
    · have := this.mpr c; omega
    · grind
  · intro h
    rcases Int.lt_or_le x.num 0 with c | c
    · exact c
    · have := this.mp c; grind
theorem num_pos_iff {x : Rat} : 0 < x.num ↔ 0 < x := by
  have := @num_neg_iff (-x)
  rw [Rat.neg_num] at this
  constructor
  · intro h; have := this.mp (by omega); grind
  · intro h; have := this.mpr (by grind); omega
theorem val_sq {m e : Int} (hm : Bn 30 m) (he : -40 ≤ e ∧ e ≤ 64) : Sq 200 ((m : Rat) * p2 e) := by
  rw [← scl_val' m e]
  refine sq_div (scl_one _) ?_ ?_
  · exact (hm.scl (k := 64) (by omega)).up (by decide)
  · exact (Bn.one.scl (k := 40) (by omega)).up (by decide)
theorem Sm.sq {d : Int × Int} (h : Sm d) : Sq 200 (val d) := val_sq (h.m.up (by decide)) h.e
theorem bn_top {F : Fm} (hF : F.ok) {i : Int} (h : 0 ≤ i ∧ i ≤ top F) : Bn 30 i := by
  have := top_le hF
  unfold Bn
  omega
theorem bel_sq {F : Fm} (hF : F.ok) {y r : Rat} (hy : 0 ≤ y) (h : bel F y = some r) : Sq 200 r := by
  have ht := top_ge hF
  have hlt := nn_lt hF hy
  have hn := nn_ge (F := F) hy
  have hl := (st_spec hF hy).l
  have h1 := hF.l1
  have h2 := hF.h1
  have h3 := hF.lh
  unfold bel at h
  split at h
  · cases h; exact val_sq (bn_top hF (by omega)) (by omega)
  · cases h; exact val_sq (bn_top hF (by omega)) (by omega)
theorem abo_sq {F : Fm} (hF : F.ok) {y r : Rat} (hy : 0 ≤ y) (h : abo F y = some r) : Sq 200 r := by
  have ht := top_ge hF
  have hlt := nn_lt hF hy
  have hn := nn_ge (F := F) hy
  have hl := (st_spec hF hy).l
  have h1 := hF.l1
  have h2 := hF.h1
  have h3 := hF.lh
  unfold abo at h
  split at h
  · cases h
  · split at h
    · cases h; exact val_sq (bn_top hF (by omega)) (by omega)
    · split at h
      · cases h
      · cases h; exact val_sq (bn_top hF (by omega)) (by omega)
theorem bes_sq {F : Fm} (hF : F.ok) {x r : Rat} {ab : Bool} (h : bes F x ab = some r) : Sq 200 r := by
  unfold bes at h
  split at h
  · rename_i c
    have hy : 0 ≤ -x := by grind
    cases ab with
    | true =>
      simp only [cond_true] at h
      cases e : bel F (-x) with
      | none => rw [e] at h; cases h
      | some z => rw [e] at h; cases h; exact (bel_sq hF hy e).neg
    | false =>
      simp only [cond_false] at h
      cases e : abo F (-x) with
      | none => rw [e] at h; cases h
      | some z => rw [e] at h; cases h; exact (abo_sq hF hy e).neg
  · rename_i c
    have hy : 0 ≤ x := by grind
    cases ab with
    | true => exact abo_sq hF hy h
    | false => exact bel_sq hF hy h
theorem bel_le {F : Fm} (hF : F.ok) {y r : Rat} (hy : 0 ≤ y) (h : bel F y = some r) : r ≤ y := by
  have hS := st_spec hF hy
  unfold bel at h
  split at h
  · rename_i c
    cases h
    have h3 := hF.lh
    rcases hS.le with z | z
    · omega
    · have h4 := p2_le (s := F.h + F.b) (t := st F y - 1 + F.b) (by omega)
      have h5 : ((top F : Int) : Rat) * p2 F.h = p2 (F.h + F.b) := by rw [p2_add, top_p2 hF]; grind
      have h6 := p2_pos F.h
      rw [Rat.intCast_sub]
      show (((top F : Int) : Rat) - 1) * p2 F.h ≤ y
      grind
  · cases h
    have := y_eq F y
    have g0 := rho_ge F y
    have hp := p2_pos (st F y)
    have := Rat.mul_nonneg g0 (by grind : (0 : Rat) ≤ p2 (st F y))
    grind
theorem abo_ge {F : Fm} (hF : F.ok) {y r : Rat} (hy : 0 ≤ y) (h : abo F y = some r) : y ≤ r := by
  unfold abo at h
  have e := y_eq F y
  split at h
  · cases h
  · split at h
    · rename_i c; cases h; rw [c] at e; grind
    · split at h
      · cases h
      · cases h
        have g1 := rho_lt F y
        have hp := p2_pos (st F y)
        have := Rat.mul_nonneg (by grind : (0 : Rat) ≤ 1 - rho F y) (by grind : (0 : Rat) ≤ p2 (st F y))
        rw [Rat.intCast_add]
        show y ≤ ((nn F y : Rat) + 1) * p2 (st F y)
        grind
theorem bes_le {F : Fm} (hF : F.ok) {x r : Rat} (h : bes F x false = some r) : r ≤ x := by
  unfold bes at h
  split at h
  · rename_i c
    simp only [cond_false] at h
    cases e : abo F (-x) with
    | none => rw [e] at h; cases h
    | some z => rw [e] at h; cases h; have := abo_ge hF (by grind) e; grind
  · exact bel_le hF (by grind) h
theorem lt_num {a b : Rat} : a.num * (b.den : Int) < b.num * (a.den : Int) ↔ a < b := (Rat.lt_iff a b).symm
theorem sub_frac (a b : Rat) : ((a.num * (b.den : Int) - b.num * (a.den : Int) : Int) : Rat) / ((a.den * b.den : Int) : Rat) = a - b := by
  have ha := self_div a
  have hb := self_div b
  have na := cast_pos (den_pos a)
  have nb := cast_pos (den_pos b)
  rw [Rat.intCast_sub, Rat.intCast_mul, Rat.intCast_mul, Rat.intCast_mul]
  generalize ((a.num : Int) : Rat) = p at *
  generalize ((b.num : Int) : Rat) = q at *
  generalize (((a.den : Nat) : Int) : Rat) = s at *
  generalize (((b.den : Nat) : Int) : Rat) = t at *
  rw [← ha, ← hb]
  grind
theorem add_frac (a b : Rat) : ((a.num * (b.den : Int) + b.num * (a.den : Int) : Int) : Rat) / ((a.den * b.den : Int) : Rat) = a + b := by
  have ha := self_div a
  have hb := self_div b
  have na := cast_pos (den_pos a)
  have nb := cast_pos (den_pos b)
  rw [Rat.intCast_add, Rat.intCast_mul, Rat.intCast_mul, Rat.intCast_mul]
  generalize ((a.num : Int) : Rat) = p at *
  generalize ((b.num : Int) : Rat) = q at *
  generalize (((a.den : Nat) : Int) : Rat) = s at *
  generalize (((b.den : Nat) : Int) : Rat) = t at *
  rw [← ha, ← hb]
  grind
theorem mul_frac (a b : Rat) : ((a.num * b.num : Int) : Rat) / ((a.den * b.den : Int) : Rat) = a * b := by
  have ha := self_div a
  have hb := self_div b
  have na := cast_pos (den_pos a)
  have nb := cast_pos (den_pos b)
  rw [Rat.intCast_mul, Rat.intCast_mul]
  generalize ((a.num : Int) : Rat) = p at *
  generalize ((b.num : Int) : Rat) = q at *
  generalize (((a.den : Nat) : Int) : Rat) = s at *
  generalize (((b.den : Nat) : Int) : Rat) = t at *
  rw [← ha, ← hb]
  grind
theorem div_frac (a b : Rat) (hb0 : b ≠ 0) (i : Int) (hi : i = 1 ∨ i = -1) : ((a.num * (b.den : Int) * i : Int) : Rat) / ((a.den * b.num * i : Int) : Rat) = a / b := by
  have ha := self_div a
  have hb := self_div b
  have na := cast_pos (den_pos a)
  have nb := cast_pos (den_pos b)
  have ni : (i : Rat) ≠ 0 := by rcases hi with rfl | rfl <;> decide
  rw [Rat.intCast_mul, Rat.intCast_mul, Rat.intCast_mul, Rat.intCast_mul]
  have nq : ((b.num : Int) : Rat) ≠ 0 := by
    intro z; rw [z] at hb; apply hb0; rw [← hb]; grind
  generalize ((a.num : Int) : Rat) = p at *
  generalize ((b.num : Int) : Rat) = q at *
  generalize (((a.den : Nat) : Int) : Rat) = s at *
  generalize (((b.den : Nat) : Int) : Rat) = t at *
  rw [← ha, ← hb]
  grind
theorem ratio_frac (a b : Rat) (hb0 : 0 < b) : ((a.num * (b.den : Int) : Int) : Rat) / ((a.den * b.num : Int) : Rat) = a / b := by
  have := div_frac a b (by grind) 1 (.inl rfl)
  rwa [Int.mul_one, Int.mul_one] at this
theorem val_0 {d : Int × Int} : val d = 0 ↔ d.1 = 0 := by
  unfold val
  have := p2_ne d.2
  constructor
  · intro h
    have : (d.1 : Rat) = 0 := by grind
    exact_mod_cast this
  · intro h; rw [h]; show (0 : Rat) * _ = 0; grind
end Lk05
namespace Lk05
open PySem PySem.Spec PyProof.Rows L2 SC
open Lk19 (betw tupB oneB)
variable [Cl5] [TabL] [XCx]
local macro_rules | `(tactic| walk_at "sc") => `(tactic| simp only [dThen, dSet, dRet, dCall, dCallX, dRaise, dDead, dCons, dNil, dVar, dC, dCB, dComp, dZip, dSeq, dOp, dIf, dB, dIfE, dNot, dAnd, dOr, dAndV, dOrV, dNotV, dSkip, dExpr, dFor, dApp, dTup, dLst, dLstO, dUn, dPar, dPar3, dAsg, dSetIx, dSl, dPart, dPart0, dRng1, dRng2, dZip3, dEnum, dEnumT, dFld, dMake, dMulA, dMulL, dChain, dNm, dTg, dGCons, dGNil, dYes, dI0, dI, dU, dEqS, eqS, dIsN, SC.isNon, dIsnotB, dAddA, dAddL, dAddLO, dMulT, dSlS, dCompO, dIn, SC.rIxD, rLenD, SC.rListD, rBools, rAbsD, rIntD, rTwo, rTupD, rTupX, rDivmodD, rGcdD, dBits, dMtF,
  startD, List.map_cons, List.map_nil, List.length_cons, List.length_nil, Nat.reduceAdd, Nat.reduceSub, List.replicate_succ, List.replicate_zero, List.cons_append, List.nil_append, List.append_nil,
  List.getElem?_cons_zero, List.getElem?_cons_succ, List.set_cons_zero, List.set_cons_succ, wipeD, atI_0, atI_1, atI_2, atI_3, atI_4, oset_same, oset_oset, true_and, and_true, ix5])
theorem Bn.sub {n : Nat} {i j : Int} (h : Bn n i) (h' : Bn n j) : Bn (n + 1) (i - j) := by rw [Int.sub_eq_add_neg]; exact h.add h'.neg
theorem rd__law_minus : ∀ ds O (kk : D → OH → Prop), sp__law_minus ds O kk → bd__law_minus { nx := fun _ O' => kk .non O', rt := kk } (startD ["one", "other"] ds) O := by
  rintro ds O kk ⟨a, b, rfl, ha, hb, h⟩
  unfold bd__law_minus frQ
  walk_at "sc"
  refine ⟨⟨ha.n.sz, hb.d.sz⟩, ⟨hb.n.sz, ha.d.sz⟩, ⟨ha.d.sz, hb.d.sz⟩, _, _, rfl, Int.mul_pos (den_pos a) (den_pos b), ((ha.n.mul hb.d).sub (hb.n.mul ha.d)).sz, (ha.d.mul hb.d).sz, ?_⟩
  rw [sub_frac]; exact h
theorem cl_eq {x : Rat} {a : Int} {ab : Bool} : scl x.num (-a) / scl x.den a + (if ab = true ∧ scl x.num (-a) % scl x.den a ≠ 0 then 1 else 0) = cl x a ab := by
  have hB : 0 < scl (x.den : Int) a := scl_pos (den_pos x)
  have e := scl_div (P := x.num) a (den_pos x)
  rw [self_div] at e
  have f := frac_div (A := scl x.num (-a)) hB
  have g := floor_div (A := scl x.num (-a)) hB
  rw [e] at f g
  unfold cl
  rw [g, f]
  congr 2
  apply propext
  have hb := cast_pos hB
  constructor
  · rintro ⟨h1, h2⟩
    refine ⟨h1, fun z => h2 ?_⟩
    have : ((scl x.num (-a) % scl x.den a : Int) : Rat) = 0 := by grind
    exact_mod_cast this
  · rintro ⟨h1, h2⟩
    refine ⟨h1, fun z => h2 ?_⟩
    rw [z]; show (0 : Rat) / _ = 0; grind
theorem two_0 {a : Int} (h : 0 ≤ a ∧ a ≤ 40) {O : OH} {k : D → OH → Prop} (hk : k (.int (2 ^ a.toNat)) O) : sp__law_two [.int a] O k := ⟨a.toNat, by rw [show ((a.toNat : Nat) : Int) = a by omega], by omega, hk⟩
theorem s_two : Sz 2 := by unfold Sz; exact Nat.lt_of_lt_of_le (by decide : (2 : Nat) < 2 ^ 2) (Nat.pow_le_pow_right (by decide) (by decide))
theorem cl_ge {x : Rat} {a : Int} {ab : Bool} (hx : 0 ≤ x) : 0 ≤ cl x a ab := by
  have : 0 ≤ (x / p2 a).floor := by
    rw [Rat.le_floor_iff, rle_div (p2_pos a)]
    show (0 : Rat) * _ ≤ x
    grind
  unfold cl
  split <;> omega
theorem beside_turn {F : Fm} {x : Rat} {ab : Bool} {a : Int} {O : OH} {kk : D → OH → Prop} {nx : DV → OH → Prop} {x10 x11 : Option D} (hF : F.ok) (hx : 0 ≤ x) (hs : Sq 500 x) (h1 : -40 ≤ a ∧ a ≤ 40)
    (hy : cl x a ab ≤ top F - 1 → kk (frQ ((cl x a ab : Rat) * p2 a)) O)
    (hn : ¬ cl x a ab ≤ top F - 1 → ∀ x11 x12 x13, nx [some (spD F), some (frQ x), some (.bl ab), some (.int (top F - 1)), some (.int a), some (.int F.b), some (.int F.l), some (.int F.h), some (.int x.num), some (.int (x.den : Nat)), x10, x11, x12, x13] O)
    {A B : Int} (eA : A = scl x.num (-a)) (eB : B = scl x.den a) {body : DS}
    (hb : body = dThen (dSet 11 (dOp dAddA (dOp (dI CDiW fun i j => .int (i / j)) (dVar 12) (dVar 13)) (dCB rIntD (dCons (dAndV (dVar 2) (dOp (dEqS fun r => !r) (dOp (dI (fun _ j => 0 < j) fun i j => .int (i % j)) (dCB rIntD (dCons (dVar 12) (dNil))) (dVar 13)) (dC (.int 0)))) (dNil))))) (dIf (dB (dOp (dI0 fun i j => .bl (decide (i ≤ j))) (dVar 11) (dVar 3))) (dRet (dIfE (dB (dOp (dI0 fun i j => .bl (decide (j ≤ i))) (dVar 4) (dC (.int 0)))) (dTup (dCons (dOp (dI CMuW fun i j => .int (i * j)) (dVar 11) (dCall sp__law_two (dCons (dVar 4) (dNil)))) (dCons (dC (.int 1)) (dNil)))) (dCall sp__law_low (dCons (dVar 11) (dCons (dCall sp__law_two (dCons (dOp (dI0 fun i j => .int (i - j)) (dC (.int 0)) (dVar 4)) (dNil))) (dNil)))))) (dSkip))) {bk ct : DV → OH → Prop} :
    body { nx := nx, rt := kk, bk := bk, ct := ct } [some (spD F), some (frQ x), some (.bl ab), some (.int (top F - 1)), some (.int a), some (.int F.b), some (.int F.l), some (.int F.h), some (.int x.num), some (.int (x.den : Nat)), x10, x11, some (.int A), some (.int B)] O := by
  subst hb
  have hB : 0 < B := by rw [eB]; exact scl_pos (den_pos x)
  have sB : Sz B := by rw [eB]; exact (hs.d.scl (k := 40) (by omega)).sz
  have ht := top_le hF
  refine dThen_by (fun e O' => O' = O ∧ e = [some (spD F), some (frQ x), some (.bl ab), some (.int (top F - 1)), some (.int a), some (.int F.b), some (.int F.l), some (.int F.h), some (.int x.num), some (.int (x.den : Nat)), x10, some (.int (cl x a ab)), some (.int A), some (.int B)]) (fun nx hn => ?_) ?_
  · have ec := cl_eq (x := x) (a := a) (ab := ab)
    rw [← eA, ← eB] at ec
    walk_at "sc"
    refine ⟨⟨hB, sB⟩, ?_⟩
    cases ab with
    | false =>
      refine hn _ _ ⟨rfl, ?_⟩
      rw [← ec]; simp
    | true =>
      refine ⟨hB, ?_⟩
      by_cases c : A % B = 0
      · rw [decide_eq_true c]
        refine hn _ _ ⟨rfl, ?_⟩
        rw [← ec]; simp [c]
      · rw [decide_eq_false c]
        refine hn _ _ ⟨rfl, ?_⟩
        rw [← ec]; simp [c]
  · rintro e O' ⟨rfl, rfl⟩
    have h0 := cl_ge (a := a) (ab := ab) hx
    walk_at "sc"
    by_cases c : cl x a ab ≤ top F - 1
    · rw [decide_eq_true c]
      have hy := hy c
      have bc : Bn 30 (cl x a ab) := by unfold Bn; omega
      generalize cl x a ab = N at *
      by_cases c2 : 0 ≤ a
      · rw [decide_eq_true c2]
        refine two_0 ⟨c2, h1.2⟩ ?_
        walk_at "sc"
        refine ⟨⟨bc.sz, sz_pow (by omega)⟩, s5, ?_⟩
        have : (N : Rat) * p2 a = ((N * 2 ^ a.toNat : Int) : Rat) := by rw [p2_of a c2, Rat.intCast_mul]
        rw [this, frQ_int] at hy
        exact hy
      · rw [decide_eq_false c2]
        refine two_0 ⟨by omega, by omega⟩ ?_
        have hq : (0 : Int) < 2 ^ (0 - a).toNat := Int.pow_pos (by decide)
        refine ⟨N, _, rfl, hq, bc.sz, sz_pow (by omega), ?_⟩
        have : (N : Rat) * p2 a = (N : Rat) / ((2 ^ (0 - a).toNat : Int) : Rat) := by
          rw [← p2_of (0 - a) (by omega), show 0 - a = -a by omega, p2_neg']
          have := p2_ne a
          grind
        rw [this] at hy
        exact hy
    · rw [decide_eq_false c]
      exact hn c _ _ _
theorem rd__law_beside (n : Nat) : ∀ ds O (kk : D → OH → Prop), sp__law_beside (n + 1) ds O kk → bd__law_beside n { nx := fun _ O' => kk .non O', rt := kk } (startD ["spec", "value", "is_above", "most", "at", "bits", "low", "high", "top", "bottom", "found", "many", "beyond_it", "under_v"] ds) O := by
  rintro ds O kk ⟨F, x, ab, rfl, hF, hs, hn, h⟩
  have h1 := hF.b1
  have h2 := hF.b2
  have h3 := hF.l1
  have h4 := hF.h1
  have h5 := hF.lh
  unfold bd__law_beside spD frQ
  walk_at "sc"
  by_cases c : x.num < 0
  · rw [decide_eq_true c]
    have c' := num_neg_iff.mp c
    cases n with
    | zero => have := hn c'; omega
    | succ n =>
    refine ⟨s5, F, -x, !ab, ?_, hF, hs.neg, fun z => by grind, ?_⟩
    · unfold spD frQ
      rw [Rat.neg_num, Rat.neg_den, show 0 - x.num = -x.num by omega]
    · have e : bes F x ab = (bes F (-x) (!ab)).map fun z => -z := by
        unfold bes
        rw [if_pos c', if_neg (by grind)]
        cases ab <;> rfl
      rw [e] at h
      cases e2 : bes F (-x) (!ab) with
      | none => rw [e2] at h; exact h
      | some r =>
        rw [e2] at h
        unfold opQ frQ
        walk_at "sc"
        refine ⟨s5, ?_⟩
        have h : kk (frQ (-r)) O := h
        unfold frQ at h
        rw [Rat.neg_num, Rat.neg_den] at h
        rw [show 0 - r.num = -r.num by omega]
        exact h
  · rw [decide_eq_false c]
    have c' : 0 ≤ x := by have := @num_neg_iff x; grind
    refine two_0 ⟨by omega, by omega⟩ ?_
    walk_at "sc"
    have et : (2 : Int) ^ F.b.toNat - 1 = top F - 1 := rfl
    rw [et]
    refine ⟨⟨by omega, by omega, by omega, by omega⟩, ?_⟩
    have er : rngD F.l (F.h + 1 - F.l).toNat = (ats F.l (F.h + 1 - F.l).toNat).map D.int := by
      unfold rngD ats; rw [List.map_map]; rfl
    rw [er]
    have hx : bes F x ab = besL F x ab (ats F.l (F.h + 1 - F.l).toNat) := by
      rw [besL_eq hF c' ab _ _ (by omega) (by omega) (st_spec hF c').l]
      unfold bes
      rw [if_neg (by grind)]
    have hm : ∀ a ∈ ats F.l (F.h + 1 - F.l).toNat, -40 ≤ a ∧ a ≤ 40 := by
      intro a ha
      unfold ats at ha
      obtain ⟨i, hi, rfl⟩ := List.mem_map.mp ha
      have := List.mem_range.mp hi
      omega
    refine dLoop_ind (α := Int) D.int (fun rest e O' => O' = O ∧ bes F x ab = besL F x ab rest ∧ (∀ a ∈ rest, -40 ≤ a ∧ a ≤ 40) ∧ ∃ x4 x11 x12 x13, e = [some (spD F), some (frQ x), some (.bl ab), some (.int (top F - 1)), x4, some (.int F.b), some (.int F.l), some (.int F.h), some (.int x.num), some (.int (x.den : Nat)), none, x11, x12, x13]) ?_ ?_ _ _ _ ⟨rfl, hx, hm, _, _, _, _, rfl⟩
    · rintro a rest e O' ⟨rfl, hx, hm, x4, x11, x12, x13, rfl⟩ nx hnx
      have ha := hm a (by simp)
      unfold besL at hx
      refine dThen_by (fun e O1 => O1 = O' ∧ e = [some (spD F), some (frQ x), some (.bl ab), some (.int (top F - 1)), some (.int a), some (.int F.b), some (.int F.l), some (.int F.h), some (.int x.num), some (.int (x.den : Nat)), none, x11, some (.int (scl x.num (-a))), some (.int (scl x.den a))]) (fun nx hn => ?_) ?_
      · walk_at "sc"
        by_cases c2 : 0 ≤ a
        · rw [decide_eq_true c2]
          refine two_0 ⟨c2, ha.2⟩ ?_
          walk_at "sc"
          refine ⟨⟨hs.d.sz, sz_pow (by omega)⟩, s5, hn _ _ ⟨rfl, ?_⟩⟩
          rw [scl_nat x.num, scl_nat, show (-a).toNat = 0 by omega]; simp
        · rw [decide_eq_false c2]
          refine two_0 ⟨by omega, by omega⟩ ?_
          walk_at "sc"
          refine ⟨⟨hs.n.sz, sz_pow (by omega)⟩, s5, hn _ _ ⟨rfl, ?_⟩⟩
          rw [scl_nat x.num, scl_nat, show a.toNat = 0 by omega, show 0 - a = -a by omega]; simp
      · rintro e O1 ⟨rfl, rfl⟩
        refine beside_turn hF c' hs ha (fun z => ?_) (fun z x11 x12 x13 => ?_) rfl rfl rfl
        · rw [if_pos z] at hx
          rw [hx] at h
          exact h
        · rw [if_neg z] at hx
          exact hnx _ _ ⟨rfl, hx, fun b hb => hm b (by simp [hb]), some (.int a), x11, x12, x13, rfl⟩
    · rintro e O' ⟨rfl, hx, hm, x4, x11, x12, x13, rfl⟩
      rw [hx] at h
      unfold besL at h
      walk_at "sc"
      cases ab with
      | true => exact h
      | false =>
        have ht := top_ge hF
        refine ⟨s5, (top F - 1, F.h), rfl, (bn_top hF (by dsimp only; omega)).up (by decide), by dsimp only; omega, ?_⟩
        exact h
end Lk05
namespace Lk05
open PySem PySem.Spec PyProof.Rows L2 SC
open Lk19 (betw tupB oneB)
variable [Cl5] [TabL] [XCx]
local macro_rules | `(tactic| walk_at "sc") => `(tactic| simp only [dThen, dSet, dRet, dCall, dCallX, dRaise, dDead, dCons, dNil, dVar, dC, dCB, dComp, dZip, dSeq, dOp, dIf, dB, dIfE, dNot, dAnd, dOr, dAndV, dOrV, dNotV, dSkip, dExpr, dFor, dApp, dTup, dLst, dLstO, dUn, dPar, dPar3, dAsg, dSetIx, dSl, dPart, dPart0, dRng1, dRng2, dZip3, dEnum, dEnumT, dFld, dMake, dMulA, dMulL, dChain, dNm, dTg, dGCons, dGNil, dYes, dI0, dI, dU, dEqS, eqS, dIsN, SC.isNon, dIsnotB, dAddA, dAddL, dAddLO, dMulT, dSlS, dCompO, dIn, SC.rIxD, rLenD, SC.rListD, rBools, rAbsD, rIntD, rTwo, rTupD, rTupX, rDivmodD, rGcdD, dBits, dMtF,
  startD, List.map_cons, List.map_nil, List.length_cons, List.length_nil, Nat.reduceAdd, Nat.reduceSub, List.replicate_succ, List.replicate_zero, List.cons_append, List.nil_append, List.append_nil,
  List.getElem?_cons_zero, List.getElem?_cons_succ, List.set_cons_zero, List.set_cons_succ, wipeD, atI_0, atI_1, atI_2, atI_3, atI_4, oset_same, oset_oset, true_and, and_true, ix5])
theorem frQ_eq {a b : Rat} : (decide (a.num = b.num) && decide ((a.den : Int) = (b.den : Int))) = decide (a = b) := by
  rw [Bool.eq_iff_iff]
  simp only [Bool.and_eq_true, decide_eq_true_eq]
  constructor
  · rintro ⟨h1, h2⟩; exact Rat.ext h1 (by omega)
  · rintro rfl; exact ⟨rfl, rfl⟩
theorem eq_go {a b : Rat} {f : Bool → Bool} {O : OH} {k : D → OH → Prop} (h : k (.bl (f (decide (a = b)))) O) : dEqQ f (frQ a) (frQ b) O k := by
  rw [← frQ_eq] at h
  exact ⟨⟨trivial, trivial⟩, h⟩
theorem ix_num (a : Rat) (O : OH) (k : D → OH → Prop) : SC.rIxD (frQ a) (.int 0) O k = k (.int a.num) O := rfl
theorem ix_den (a : Rat) (O : OH) (k : D → OH → Prop) : SC.rIxD (frQ a) (.int 1) O k = k (.int (a.den : Nat)) O := rfl
theorem eq_frQ (a b : Rat) (f : Bool → Bool) (O : OH) (k : D → OH → Prop) : dEqQ f (frQ a) (frQ b) O k = k (.bl (f (decide (a = b)))) O := by
  apply propext
  constructor
  · intro h
    have h : (okQ (frQ a) ∧ okQ (frQ b)) ∧ k (.bl (f (decide (a.num = b.num) && decide ((a.den : Int) = (b.den : Int))))) O := h
    rw [frQ_eq] at h
    exact h.2
  · exact eq_go
theorem w_in2 (w : Way) (O : OH) (k : D → OH → Prop) : dIn false (.str w.s) (.tup [.str "up", .str "down"]) O k = k (.bl (match w with | .up => true | .down => true | _ => false)) O := by
  apply propext
  have e : (([D.str "up", D.str "down"] : List D).any fun y => eqF y (.str w.s)) = (match w with | .up => true | .down => true | _ => false) := by
    cases w <;> (simp only [Way.s, List.any_cons, List.any_nil, eqF, Bool.or_false]; first | rfl | (simp only [strEq_eq]; decide +kernel) | decide +kernel)
  show ((flatF (.str w.s) = true ∧ ([D.str "up", D.str "down"] : List D).all flatF = true) ∧ k (.bl (([D.str "up", D.str "down"] : List D).any fun y => eqF y (.str w.s))) O) ↔ _
  rw [e]
  exact ⟨fun h => h.2, fun h => ⟨⟨rfl, by simp [flatF]⟩, h⟩⟩
local macro_rules | `(tactic| walk_at "q") => `(tactic| simp only [dThen, dSet, dRet, dCall, dCallX, dRaise, dDead, dCons, dNil, dVar, dC, dCB, dComp, dZip, dSeq, dOp, dIf, dB, dIfE, dNot, dAnd, dOr, dAndV, dOrV, dNotV, dSkip, dExpr, dFor, dApp, dTup, dLst, dLstO, dUn, dPar, dPar3, dAsg, dSetIx, dSl, dPart, dPart0, dRng1, dRng2, dZip3, dEnum, dEnumT, dFld, dMake, dMulA, dMulL, dChain, dNm, dTg, dGCons, dGNil, dYes, dI0, dI, dU, dEqS, eqS, dIsN, SC.isNon, dIsnotB, dAddA, dAddL, dAddLO, dMulT, dSlS, dCompO, rLenD, SC.rListD, rBools, rAbsD, rIntD, rTwo, rTupD, rTupX, rDivmodD, rGcdD, dBits, dMtF,
  startD, List.map_cons, List.map_nil, List.length_cons, List.length_nil, Nat.reduceAdd, Nat.reduceSub, List.replicate_succ, List.replicate_zero, List.cons_append, List.nil_append, List.append_nil,
  List.getElem?_cons_zero, List.getElem?_cons_succ, List.set_cons_zero, List.set_cons_succ, wipeD, atI_0, atI_1, atI_2, atI_3, atI_4, oset_same, oset_oset, true_and, and_true, ix5, ix_num, ix_den, eq_frQ, w_in2])
theorem tie_pos {x one other : Rat} (h1 : one ≤ x) (h2 : ¬ one = other) (h3 : x - one = other - x) : 0 < other - one := by grind
theorem sub_sq {n k : Nat} {a b : Rat} (ha : Sq n a) (hb : Sq n b) (hk : 2 * n + 1 ≤ k := by decide) : Sq k (a - b) := by
  rw [← sub_frac]
  refine (sq_div (n := 2 * n + 1) (Int.mul_pos (den_pos _) (den_pos _)) ?_ ?_).up hk
  · exact ((ha.n.mul hb.d).sub (hb.n.mul ha.d)).up (by omega)
  · exact (ha.d.mul hb.d).up (by omega)
theorem tie {x one other : Rat} {O : OH} {kk : D → OH → Prop} {N : Prop} (m1 : Sq 1000 x) (m2 : Sq 1000 one) (m3 : Sq 1000 other) (c : ¬ one = other)
    (h1 : x - one ≠ other - x → kk (frQ (if x - one < other - x then one else other)) O) (h2 : x - one = other - x → N) :
    dEqQ (fun r => !r) (frQ (x - one)) (frQ (other - x)) O fun d O1 => match d with
      | D.bl b => match b with
        | true => SC.rIxD (frQ (x - one)) (D.int 0) O1 fun x_1 O1 => SC.rIxD (frQ (other - x)) (D.int 1) O1 fun y O2 => match x_1, y with
          | D.int i, D.int j => CMuW i j ∧ SC.rIxD (frQ (other - x)) (D.int 0) O2 fun x_2 O1 => SC.rIxD (frQ (x - one)) (D.int 1) O1 fun y O2 => match x_2, y with
            | D.int i_1, D.int j_1 => CMuW i_1 j_1 ∧ match decide (i * j < i_1 * j_1) with
              | true => kk (frQ one) O2
              | false => kk (frQ other) O2
            | x, x_3 => False
          | x, x_3 => False
        | false => N
      | x => False := by
  rw [eq_frQ]
  by_cases z : x - one = other - x
  · rw [decide_eq_true z]; exact h2 z
  · rw [decide_eq_false z]
    have h1 := h1 z
    have s1 := sub_sq (k := 2001) m1 m2
    have s2 := sub_sq (k := 2001) m3 m1
    refine ⟨⟨s1.n.sz, s2.d.sz⟩, ⟨s2.n.sz, s1.d.sz⟩, ?_⟩
    by_cases c2 : x - one < other - x
    · rw [decide_eq_true (lt_num.mpr c2)]; rw [if_pos c2] at h1; exact h1
    · rw [decide_eq_false (fun q => c2 (lt_num.mp q))]; rw [if_neg c2] at h1; exact h1
theorem rd__law_rounded : ∀ ds O (kk : D → OH → Prop), sp__law_rounded ds O kk → bd__law_rounded { nx := fun _ O' => kk .non O', rt := kk } (startD ["spec", "value", "way", "step", "by_times", "one", "other", "here", "there"] ds) O := by
  rintro ds O kk ⟨F, x, w, rfl, hF, hs, h⟩
  rw [← rnd_law hF] at h
  obtain ⟨w1, w2, w3, w4⟩ := w_eq w
  unfold bd__law_rounded
  walk_at "q"
  refine ⟨F, x, false, rfl, hF, hs, fun _ => Nat.le_refl _, F, x, true, rfl, hF, hs, fun _ => Nat.le_refl _, ?_⟩
  unfold rndL at h
  have b1 := @bes_sq F hF x
  have b2 := @bes_le F hF x
  cases e1 : bes F x false with
  | none => rw [e1] at h; exact h
  | some one =>
    cases e2 : bes F x true with
    | none => rw [e1, e2] at h; exact h
    | some other =>
      rw [e1, e2] at h
      have s1 := b1 e1
      have s2 := b1 e2
      have hle := b2 e1
      have h : kk (frQ (pick w x one other)) O := h
      unfold pick at h
      clear e1 e2 b1 b2
      unfold opQ
      walk_at "q"
      have t1 : ∀ z : Rat, frQ z = .tup [.int z.num, .int (z.den : Nat)] := fun z => rfl
      by_cases c : one = other
      · rw [decide_eq_true c]
        rw [if_pos c] at h
        exact h
      rw [decide_eq_false c]
      rw [if_neg c] at h
      have hx : decide (0 < x.num) = decide (0 < x) := by congr 1; exact propext num_pos_iff
      rw [hx]
      have m1 := hs.up (show 500 ≤ 1000 by decide)
      have m2 := s1.up (show 200 ≤ 1000 by decide)
      have m3 := s2.up (show 200 ≤ 1000 by decide)
      cases w with
      | up => refine ⟨s5, ?_⟩; simp only [w1]; exact h
      | down => refine ⟨s5, ?_⟩; simp only [w1]; exact h
      | cut =>
        refine ⟨s5, ?_⟩
        simp only [w3]
        by_cases c2 : 0 < x
        · rw [decide_eq_true c2]; rw [if_pos c2] at h; exact h
        · rw [decide_eq_false c2]; rw [if_neg c2] at h; exact h
      | near =>
        refine ⟨s5, ?_⟩
        simp only [w3]
        refine ⟨x, one, rfl, m1, m2, other, x, rfl, m3, m1, ?_⟩
        refine tie m1 m2 m3 c (fun z => ?_) (fun z => ?_)
        · simp only [if_neg z] at h; exact h
        · simp only [if_pos z] at h
          simp only [w4]
          have h0 := tie_pos hle c z
          refine ⟨other, one, rfl, m3, m2, ?_⟩
          walk_at "q"
          have ds : Sq 401 (other - one) := sub_sq s2 s1
          refine ⟨⟨s1.n.sz, ds.d.sz⟩, ⟨s1.d.sz, ds.n.sz⟩, ⟨Int.mul_pos (den_pos _) (num_pos_iff.mpr h0), (s1.d.mul ds.n).sz⟩, by decide, ?_⟩
          have e : one.num * ((other - one).den : Int) / ((one.den : Int) * (other - one).num) = (one / (other - one)).floor := by
            rw [← ratio_frac one (other - one) h0, floor_div (Int.mul_pos (den_pos _) (num_pos_iff.mpr h0))]
          rw [e]
          by_cases c3 : (one / (other - one)).floor % 2 = 0
          · rw [decide_eq_true c3]; rw [if_pos c3] at h; exact h
          · rw [decide_eq_false c3]; rw [if_neg c3] at h; exact h
      | far =>
        refine ⟨s5, ?_⟩
        simp only [w3]
        refine ⟨x, one, rfl, m1, m2, other, x, rfl, m3, m1, ?_⟩
        refine tie m1 m2 m3 c (fun z => ?_) (fun z => ?_)
        · simp only [if_neg z] at h; exact h
        · simp only [if_pos z] at h
          simp only [w4]
          by_cases c2 : 0 < x
          · rw [decide_eq_true c2]; rw [if_pos c2] at h; exact h
          · rw [decide_eq_false c2]; rw [if_neg c2] at h; exact h
end Lk05
namespace Lk05
open PySem PySem.Spec PyProof.Rows L2 SC
open Lk19 (betw tupB oneB)
variable [Cl5] [TabL] [XCx]
local macro_rules | `(tactic| walk_at "sc") => `(tactic| simp only [dThen, dSet, dRet, dCall, dCallX, dRaise, dDead, dCons, dNil, dVar, dC, dCB, dComp, dZip, dSeq, dOp, dIf, dB, dIfE, dNot, dAnd, dOr, dAndV, dOrV, dNotV, dSkip, dExpr, dFor, dApp, dTup, dLst, dLstO, dUn, dPar, dPar3, dAsg, dSetIx, dSl, dPart, dPart0, dRng1, dRng2, dZip3, dEnum, dEnumT, dFld, dMake, dMulA, dMulL, dChain, dNm, dTg, dGCons, dGNil, dYes, dI0, dI, dU, dEqS, eqS, dIsN, SC.isNon, dIsnotB, dAddA, dAddL, dAddLO, dMulT, dSlS, dCompO, dIn, SC.rIxD, rLenD, SC.rListD, rBools, rAbsD, rIntD, rTwo, rTupD, rTupX, rDivmodD, rGcdD, dBits, dMtF,
  startD, List.map_cons, List.map_nil, List.length_cons, List.length_nil, Nat.reduceAdd, Nat.reduceSub, List.replicate_succ, List.replicate_zero, List.cons_append, List.nil_append, List.append_nil,
  List.getElem?_cons_zero, List.getElem?_cons_succ, List.set_cons_zero, List.set_cons_succ, wipeD, atI_0, atI_1, atI_2, atI_3, atI_4, oset_same, oset_oset, true_and, and_true, ix5])
local macro_rules | `(tactic| walk_at "q") => `(tactic| simp only [dThen, dSet, dRet, dCall, dCallX, dRaise, dDead, dCons, dNil, dVar, dC, dCB, dComp, dZip, dSeq, dOp, dIf, dB, dIfE, dNot, dAnd, dOr, dAndV, dOrV, dNotV, dSkip, dExpr, dFor, dApp, dTup, dLst, dLstO, dUn, dPar, dPar3, dAsg, dSetIx, dSl, dPart, dPart0, dRng1, dRng2, dZip3, dEnum, dEnumT, dFld, dMake, dMulA, dMulL, dChain, dNm, dTg, dGCons, dGNil, dYes, dI0, dI, dU, dEqS, eqS, dIsN, SC.isNon, dIsnotB, dAddA, dAddL, dAddLO, dMulT, dSlS, dCompO, rLenD, SC.rListD, rBools, rAbsD, rIntD, rTwo, rTupD, rTupX, rDivmodD, rGcdD, dBits, dMtF,
  startD, List.map_cons, List.map_nil, List.length_cons, List.length_nil, Nat.reduceAdd, Nat.reduceSub, List.replicate_succ, List.replicate_zero, List.cons_append, List.nil_append, List.append_nil,
  List.getElem?_cons_zero, List.getElem?_cons_succ, List.set_cons_zero, List.set_cons_succ, wipeD, atI_0, atI_1, atI_2, atI_3, atI_4, oset_same, oset_oset, true_and, and_true, ix5, ix_num, ix_den, eq_frQ, w_in2])
theorem sz_le' {n : Nat} {r : Rat} (h : Sq n r) (hn : n ≤ 2000 := by decide) : Sq n r := h
theorem Sq.mm {n : Nat} {a b : Rat} (ha : Sq n a) (hb : Sq n b) (hn : n ≤ 2000 := by decide) : CMuW a.num b.num ∧ CMuW a.num (b.den : Nat) ∧ CMuW b.num (a.den : Nat) ∧ CMuW (a.den : Nat) (b.den : Nat) ∧ CMuW (a.den : Nat) b.num :=
  ⟨⟨ha.n.up (by omega), hb.n.up (by omega)⟩, ⟨ha.n.up (by omega), hb.d.up (by omega)⟩, ⟨hb.n.up (by omega), ha.d.up (by omega)⟩, ⟨ha.d.up (by omega), hb.d.up (by omega)⟩, ⟨ha.d.up (by omega), hb.n.up (by omega)⟩⟩
theorem rd__law_exact : ∀ ds O (kk : D → OH → Prop), sp__law_exact ds O kk → bd__law_exact { nx := fun _ O' => kk .non O', rt := kk } (startD ["word", "one", "other", "is_less", "sign"] ds) O := by
  rintro ds O kk ⟨o, a, b, rfl, ha, hb, h⟩
  obtain ⟨q1, q2, q3, q4, q5, _⟩ := o_eq o
  obtain ⟨c1, c2, c3, c4, c5⟩ := ha.mm hb
  have pd := Int.mul_pos (den_pos a) (den_pos b)
  have sd : Sz ((a.den : Int) * (b.den : Int)) := (ha.d.mul hb.d).sz
  have lt := @lt_num a b
  unfold bd__law_exact
  walk_at "q"
  rw [q1, q2, q3, q4, q5]
  cases o with
  | plus => exact ⟨c2, c3, c4, _, _, rfl, pd, ((ha.n.mul hb.d).add (hb.n.mul ha.d)).sz, sd, by rw [add_frac]; exact h⟩
  | minus => exact ⟨a, b, rfl, ha.up (by decide), hb.up (by decide), h⟩
  | times => exact ⟨c1, c4, _, _, rfl, pd, (ha.n.mul hb.n).sz, sd, by rw [mul_frac]; exact h⟩
  | over =>
    have h : kk (opQ (if b = 0 then none else some (a / b))) O := h
    dsimp only
    have key : ∀ i : Int, (i = 1 ∨ i = -1) → (b ≠ 0 → 0 < b.num * i) → (match decide (b.num = 0) with | true => kk .non O | false => CMuW a.num (b.den : Nat) ∧ CMuW (a.num * (b.den : Nat)) i ∧ CMuW (a.den : Nat) b.num ∧ CMuW ((a.den : Nat) * b.num) i ∧ sp__law_low [.int (a.num * (b.den : Nat) * i), .int ((a.den : Nat) * b.num * i)] O kk) := by
      intro i hi hp
      by_cases z : b = 0
      · rw [decide_eq_true (Rat.num_eq_zero.mpr z)]
        rw [if_pos z] at h; exact h
      · rw [decide_eq_false (fun q => z (Rat.num_eq_zero.mp q))]
        rw [if_neg z] at h
        have bi : Bn 1 i := by rcases hi with rfl | rfl <;> (unfold Bn; decide)
        refine ⟨c2, ⟨(ha.n.mul hb.d).sz, bi.sz⟩, c5, ⟨(ha.d.mul hb.n).sz, bi.sz⟩, _, _, rfl, ?_, ((ha.n.mul hb.d).mul bi).sz, ((ha.d.mul hb.n).mul bi).sz, ?_⟩
        · rw [Int.mul_assoc]; exact Int.mul_pos (den_pos a) (hp z)
        · rw [div_frac a b z i hi]; exact h
    by_cases z : b.num < 0
    · rw [decide_eq_true z]
      exact key (-1) (.inr rfl) (fun _ => by omega)
    · rw [decide_eq_false z]
      refine key 1 (.inl rfl) (fun q => ?_)
      have : b.num ≠ 0 := fun e => q (Rat.num_eq_zero.mp e)
      omega
  | least =>
    refine ⟨c2, c3, ?_⟩
    have h : kk (frQ (if a < b then a else b)) O := h
    by_cases z : a < b
    · rw [decide_eq_true (lt.mpr z)]; rw [if_pos z] at h; exact h
    · rw [decide_eq_false (fun q => z (lt.mp q))]; rw [if_neg z] at h; exact h
  | greatest =>
    refine ⟨c2, c3, ?_⟩
    have h : kk (frQ (if a < b then b else a)) O := h
    by_cases z : a < b
    · rw [decide_eq_true (lt.mpr z)]; rw [if_pos z] at h; exact h
    · rw [decide_eq_false (fun q => z (lt.mp q))]; rw [if_neg z] at h; exact h
theorem rd__law_whole : ∀ ds O (kk : D → OH → Prop), sp__law_whole ds O kk → bd__law_whole { nx := fun _ O' => kk .non O', rt := kk } (startD ["value", "twice", "found"] ds) O := by
  rintro ds O kk ⟨v, rfl, hv, h⟩
  have hq := den_pos v
  have e := whlL (P := v.num) hq
  rw [self_div] at e
  have s2 : Sz 2 := s_two
  have b2 : Bn 2 2 := by unfold Bn; decide
  unfold bd__law_whole
  walk_at "q"
  have c2 : CMuW 2 (v.den : Nat) := ⟨s2, hv.d.sz⟩
  have p2' : (0 : Int) < 2 * (v.den : Nat) := by omega
  refine ⟨⟨s2, hv.n.sz⟩, c2, ⟨p2', (b2.mul hv.d).sz⟩, c2, p2', ?_⟩
  by_cases z : (2 * v.num + (v.den : Int)) % (2 * (v.den : Int)) = 0
  · rw [decide_eq_true z]
    refine ⟨by decide, ?_⟩
    by_cases z2 : (2 * v.num + (v.den : Int)) / (2 * (v.den : Int)) % 2 = 1
    · rw [decide_eq_true z2]
      rw [if_pos ⟨z, z2⟩] at e
      rw [← e] at h; exact h
    · rw [decide_eq_false z2]
      rw [if_neg (fun q => z2 q.2)] at e
      rw [← e] at h; exact h
  · rw [decide_eq_false z]
    rw [if_neg (fun q => z q.1)] at e
    rw [← e] at h; exact h
theorem add_sq {a b : Rat} (ha : Sq 200 a) (hb : Sq 200 b) : Sq 500 (a + b) := by
  rw [← add_frac]
  refine (sq_div (n := 401) (Int.mul_pos (den_pos _) (den_pos _)) ?_ ?_).up (by decide)
  · exact ((ha.n.mul hb.d).add (hb.n.mul ha.d)).up (by omega)
  · exact (ha.d.mul hb.d).up (by omega)
theorem mul_sq {a b : Rat} (ha : Sq 200 a) (hb : Sq 200 b) : Sq 500 (a * b) := by
  rw [← mul_frac]
  refine (sq_div (n := 400) (Int.mul_pos (den_pos _) (den_pos _)) (ha.n.mul hb.n) (ha.d.mul hb.d)).up (by decide)
theorem div_sq {a b : Rat} (ha : Sq 200 a) (hb : Sq 200 b) (h0 : b ≠ 0) : Sq 500 (a / b) := by
  have nz : b.num ≠ 0 := fun q => h0 (Rat.num_eq_zero.mp q)
  obtain ⟨i, hi, hp⟩ : ∃ i : Int, (i = 1 ∨ i = -1) ∧ 0 < b.num * i := by
    by_cases c : 0 < b.num
    · exact ⟨1, .inl rfl, by omega⟩
    · exact ⟨-1, .inr rfl, by omega⟩
  have bi : Bn 1 i := by rcases hi with rfl | rfl <;> (unfold Bn; decide)
  rw [← div_frac a b h0 i hi]
  refine (sq_div (n := 401) ?_ ((ha.n.mul hb.d).mul bi) ((ha.d.mul hb.n).mul bi)).up (by decide)
  rw [Int.mul_assoc]; exact Int.mul_pos (den_pos a) hp
theorem res_go {F : Fm} {w : Way} {x : Rat} {O : OH} {kk : D → OH → Prop} (h : kk (resQ (ofR (rnd F w x))) O) : match (match opQ ((rnd F w x).map val) with | .non => true | _ => false) with
    | true => kk (.str "beyond") O
    | false => kk (opQ ((rnd F w x).map val)) O := by
  revert h
  cases rnd F w x with
  | none => exact id
  | some d => exact id
theorem rd__law_run (n : Nat) : ∀ ds O (kk : D → OH → Prop), sp__law_run (n + 1) ds O kk → bd__law_run n { nx := fun _ O' => kk .non O', rt := kk } (startD ["spec", "way", "formula", "row", "one", "other", "exact_v", "found", "value"] ds) O := by
  rintro ds O kk ⟨F, w, f, r, rfl, hF, hf, hr, hd, h⟩
  obtain ⟨e1, e2, e3, e4⟩ := se_in
  unfold bd__law_run
  have small : ∀ i : Int, -10000 ≤ i ∧ i ≤ 10000 → Sq 500 (i : Rat) := fun i hi => by
    have : Bn 20 i := by unfold Bn; omega
    have q := sq_div (P := i) (Q := 1) (n := 20) (by decide) this (by unfold Bn; decide)
    rw [show (i : Rat) / ((1 : Int) : Rat) = (i : Rat) by show _ / (1 : Rat) = _; grind] at q
    exact q.up (by decide)
  have wi : ∀ x : Str, (([D.str "in", D.str "number"] : List D).any fun y => eqF y (.str x)) = (strEq "in" x || strEq "number" x) := fun x => by simp [eqF]
  have base : ∀ x : Rat, Sq 500 x → kk (resQ (ofR (rnd F w x))) O → sp__law_rounded [spD F, frQ x, .str w.s] O fun d O1 => match (match d with | .non => true | _ => false) with
    | true => kk (.str "beyond") O1
    | false => kk d O1 := fun x hx h => ⟨F, x, w, rfl, hF, hx, res_go h⟩
  cases f with
  | inp i =>
    obtain ⟨r1, r2⟩ := row_at hr hf
    unfold evF at h
    have b := base _ (small _ r2) h
    rw [frQ_int] at b
    unfold Fo.d rwD
    walk_at "sc"
    rw [wi, e1]
    refine ⟨s5, ⟨rfl, by simp [flatF]⟩, ?_⟩
    simp only [Bool.false_eq_true, if_false, Bool.true_or, r1]
    exact isi_go rfl (.inr (.inr (.inr (.inl rfl)))) ⟨s5, b⟩
  | num p =>
    have hp : -1000 ≤ p ∧ p ≤ 1000 := hf
    unfold evF at h
    have b := base _ (small p (by omega)) h
    rw [frQ_int] at b
    unfold Fo.d rwD
    walk_at "sc"
    rw [wi, e4]
    refine ⟨s5, ⟨rfl, by simp [flatF]⟩, ?_⟩
    simp only [Bool.false_eq_true, if_false, Bool.or_true, e3]
    exact isi_go rfl (.inr (.inr (.inr (.inl rfl)))) ⟨s5, b⟩
  | frc p q =>
    obtain ⟨hp1, hp2, hq1, hq2, hg⟩ : -1000 ≤ p ∧ p ≤ 1000 ∧ 1 ≤ q ∧ q ≤ 1000 ∧ Int.gcd p q = 1 := hf
    unfold evF at h
    have bp : Bn 20 p := by unfold Bn; omega
    have bq : Bn 20 q := by unfold Bn; omega
    have b := base _ ((sq_div (by omega) bp bq).up (by decide)) h
    have eq1 : frQ ((p : Rat) / (q : Rat)) = .tup [.int p, .int q] := by
      unfold frQ
      obtain ⟨n1, n2⟩ := num_div (P := p) (Q := q) (by omega)
      rw [n1, n2, hg]
      simp
    rw [eq1] at b
    unfold Fo.d rwD
    walk_at "sc"
    rw [wi, e4]
    refine ⟨s5, ⟨rfl, by simp [flatF]⟩, ?_⟩
    simp only [Bool.false_eq_true, if_false, Bool.or_true, e3]
    exact isi_go (by simp [pq, pqL]) (.inr (.inr (.inr (.inl rfl)))) b
  | op o a b =>
    obtain ⟨fa, fb⟩ : a.ok r.length ∧ b.ok r.length := hf
    have hd : max a.dep b.dep + 1 ≤ n := hd
    obtain ⟨n1, n2⟩ := wd_ne o
    have n1' : strEq "in" o.s = false := by rw [strEq_eq]; exact decide_eq_false (fun q => n1 q.symm)
    have n2' : strEq "number" o.s = false := by rw [strEq_eq]; exact decide_eq_false (fun q => n2 q.symm)
    unfold evF at h
    unfold Fo.d
    walk_at "sc"
    rw [wi, n1', n2']
    refine ⟨s5, ⟨rfl, by simp [flatF]⟩, ?_⟩
    simp only [Bool.false_eq_true, if_false, Bool.or_false]
    cases n with
    | zero => omega
    | succ n =>
    have hstr : ("str" : String) = "int" ∨ ("str" : String) = "bool" ∨ ("str" : String) = "str" ∨ ("str" : String) = "tuple" ∨ ("str" : String) = "list" ∨ ("str" : String) = "dict" := .inr (.inr (.inl rfl))
    have pf : ∀ x : Rat, pq (frQ x) = true := fun x => by simp [frQ, pq, pqL]
    refine ⟨F, w, a, r, rfl, hF, fa, hr, by omega, ?_⟩
    cases ea : evF F w r a with
    | nought => rw [ea] at h; exact isi_go rfl hstr (isi_go rfl hstr h)
    | beyond => rw [ea] at h; exact isi_go rfl hstr (isi_go rfl hstr h)
    | ok d =>
      rw [ea] at h
      refine isi_go (pf _) hstr ?_
      refine ⟨F, w, b, r, rfl, hF, fb, hr, by omega, ?_⟩
      cases eb : evF F w r b with
      | nought => rw [eb] at h; exact isi_go rfl hstr h
      | beyond => rw [eb] at h; exact isi_go rfl hstr h
      | ok e =>
        rw [eb] at h
        have ii := evF_in hF ea
        have jj := evF_in hF eb
        have sd := (ii.sm hF).sq
        have se := (jj.sm hF).sq
        refine isi_go (pf _) hstr ?_
        refine ⟨o, val d, val e, rfl, sd, se, ?_⟩
        have h : kk (resQ (wrk F w o d e)) O := h
        have self : ∀ x : Int × Int, inF F x → kk (resQ (.ok x)) O → kk (resQ (ofR (rnd F w (val x)))) O := fun x hx hk => by rw [rnd_self hF hx]; exact hk
        cases o with
        | plus => exact base _ (add_sq sd se) h
        | minus => exact base _ (sub_sq sd se) h
        | times => exact base _ (mul_sq sd se) h
        | over =>
          unfold wrk at h
          dsimp only at h
          unfold exL
          by_cases c : e.1 = 0
          · rw [if_pos c] at h
            simp only [if_pos (val_0.mpr c)]
            exact h
          · rw [if_neg c] at h
            simp only [if_neg (fun q => c (val_0.mp q))]
            exact base _ (div_sq sd se (fun q => c (val_0.mp q))) h
        | least =>
          have h : kk (resQ (.ok (if val e < val d then e else d))) O := h
          by_cases c : val e < val d
          · rw [if_pos c] at h
            have x1 : exL .least (val d) (val e) = some (val e) := by unfold exL; simp only [if_neg (show ¬ val d < val e by grind)]
            rw [x1]
            exact base _ (se.up (by decide)) (self e jj h)
          · rw [if_neg c] at h
            have x1 : exL .least (val d) (val e) = some (val d) := by
              have : (if val d < val e then val d else val e) = val d := by split <;> grind
              unfold exL; simp only [this]
            rw [x1]
            exact base _ (sd.up (by decide)) (self d ii h)
        | greatest =>
          have h : kk (resQ (.ok (if val d < val e then e else d))) O := h
          by_cases c : val d < val e
          · rw [if_pos c] at h
            have x1 : exL .greatest (val d) (val e) = some (val e) := by unfold exL; simp only [if_pos c]
            rw [x1]
            exact base _ (se.up (by decide)) (self e jj h)
          · rw [if_neg c] at h
            have x1 : exL .greatest (val d) (val e) = some (val d) := by unfold exL; simp only [if_neg c]
            rw [x1]
            exact base _ (sd.up (by decide)) (self d ii h)
end Lk05
namespace Lk05
open PySem PySem.Spec PyProof.Rows L2 SC
open Lk19 (betw tupB oneB)
variable [Cl5] [TabL] [XCx]
local macro_rules | `(tactic| walk_at "sc") => `(tactic| simp only [dThen, dSet, dRet, dCall, dCallX, dRaise, dDead, dCons, dNil, dVar, dC, dCB, dComp, dZip, dSeq, dOp, dIf, dB, dIfE, dNot, dAnd, dOr, dAndV, dOrV, dNotV, dSkip, dExpr, dFor, dApp, dTup, dLst, dLstO, dUn, dPar, dPar3, dAsg, dSetIx, dSl, dPart, dPart0, dRng1, dRng2, dZip3, dEnum, dEnumT, dFld, dMake, dMulA, dMulL, dChain, dNm, dTg, dGCons, dGNil, dYes, dI0, dI, dU, dEqS, eqS, dIsN, SC.isNon, dIsnotB, dAddA, dAddL, dAddLO, dMulT, dSlS, dCompO, dIn, SC.rIxD, rLenD, SC.rListD, rBools, rAbsD, rIntD, rTwo, rTupD, rTupX, rDivmodD, rGcdD, dBits, dMtF,
  startD, List.map_cons, List.map_nil, List.length_cons, List.length_nil, Nat.reduceAdd, Nat.reduceSub, List.replicate_succ, List.replicate_zero, List.cons_append, List.nil_append, List.append_nil,
  List.getElem?_cons_zero, List.getElem?_cons_succ, List.set_cons_zero, List.set_cons_succ, wipeD, atI_0, atI_1, atI_2, atI_3, atI_4, oset_same, oset_oset, true_and, and_true, ix5])
theorem draw_go {p : Addr} {O : OH} {h : List D} {m : Int} {k : D → OH → Prop} (hO : O p = some h) (hh : HandOk h) (h0 : 0 < m) (h1 : m < 1073741824) (hk : ∀ n h', 0 ≤ n → n < m → HandOk h' → k (.int n) (oset O p h')) : sp__law_draw [.own p, .int m] O k := ⟨p, h, m, rfl, hO, hh, h0, h1, hk⟩
theorem any_go {p : Addr} {O : OH} {h xs : List D} {k : D → OH → Prop} (hO : O p = some h) (hh : HandOk h) (h0 : xs ≠ []) (h1 : xs.length ≤ 1000) (hk : ∀ x ∈ xs, ∀ h', HandOk h' → k x (oset O p h')) : sp__law_any [.own p, .lst xs] O k := ⟨p, h, _, xs, rfl, hO, hh, .inl rfl, h0, h1, hk⟩
theorem rd__law_spec : ∀ ds O (kk : D → OH → Prop), sp__law_spec ds O kk → bd__law_spec { nx := fun _ O' => kk .non O', rt := kk } (startD ["hand", "way", "low"] ds) O := by
  rintro ds O kk ⟨p, h, rfl, hO, hh, hk⟩
  unfold bd__law_spec
  have key : ∀ (b l t : Int) h', (2 ≤ b ∧ b ≤ 24) → -40 ≤ l → l ≤ t → t ≤ 40 → HandOk h' → kk (.tup [.int b, .int l, .int t]) (oset O p h') := fun b l t h' hb h1 h2 h3 h4 => hk ⟨b, l, t⟩ h' ⟨hb.1, hb.2, h1, h2, h3⟩ h4
  walk_at "sc"
  refine draw_go hO hh (by decide) (by decide) fun n h1 n0 n1 hh1 => ?_
  walk_at "sc"
  by_cases c : n = 0
  · rw [decide_eq_true c]
    refine draw_go oset_same hh1 (by decide) (by decide) fun l h2 l0 l1 hh2 => ?_
    walk_at "sc"
    refine ⟨s5, any_go oset_same hh2 (by simp) (by simp) fun x hx h3 hh3 => ?_⟩
    walk_at "sc"
    refine draw_go oset_same hh3 (by decide) (by decide) fun t h4 t0 t1 hh4 => ?_
    walk_at "sc"
    refine ⟨s5, ?_⟩
    obtain ⟨b, rfl, hb⟩ : ∃ b : Int, x = .int b ∧ (2 ≤ b ∧ b ≤ 24) := by
      simp only [List.mem_cons, List.mem_nil_iff, or_false] at hx
      rcases hx with rfl | rfl | rfl <;> exact ⟨_, rfl, by decide, by decide⟩
    exact key b _ _ _ hb (by omega) (by split <;> omega) (by split <;> omega) hh4
  · rw [decide_eq_false c]
    refine draw_go oset_same hh1 (by decide) (by decide) fun l h2 l0 l1 hh2 => ?_
    walk_at "sc"
    by_cases c2 : n < 3
    · rw [decide_eq_true c2]
      refine draw_go oset_same hh2 (by decide) (by decide) fun b h3 b0 b1 hh3 => ?_
      walk_at "sc"
      refine draw_go oset_same hh3 (by decide) (by decide) fun t h4 t0 t1 hh4 => ?_
      walk_at "sc"
      exact ⟨s5, key _ _ _ _ (by omega) (by omega) (by omega) (by omega) hh4⟩
    · rw [decide_eq_false c2]
      refine draw_go oset_same hh2 (by decide) (by decide) fun b h3 b0 b1 hh3 => ?_
      walk_at "sc"
      refine draw_go oset_same hh3 (by decide) (by decide) fun t h4 t0 t1 hh4 => ?_
      walk_at "sc"
      exact ⟨s5, key _ _ _ _ (by omega) (by omega) (by omega) (by omega) hh4⟩
theorem tree_leaf {i : Nat} {x : D} (hx : (∃ p : Int, x = .int p ∧ -1000 ≤ p ∧ p ≤ 1000) ∨ ∃ p q : Int, x = .tup [.int p, .int q] ∧ (-1000 ≤ p ∧ p ≤ 1000 ∧ 1 ≤ q ∧ q ≤ 1000 ∧ Int.gcd p q = 1)) :
    ∃ f : Fo, D.tup [.str "number", x] = f.d ∧ f.ok i ∧ f.cnt = 0 ∧ f.dep = 0 := by
  rcases hx with ⟨p, rfl, h⟩ | ⟨p, q, rfl, h⟩
  · exact ⟨.num p, rfl, h, rfl, rfl⟩
  · exact ⟨.frc p q, rfl, h, rfl, rfl⟩
theorem rd__law_tree (n : Nat) : ∀ ds O (kk : D → OH → Prop), sp__law_tree (n + 1) ds O kk → bd__law_tree n { nx := fun _ O' => kk .non O', rt := kk } (startD ["hand", "inputs", "many", "room", "most", "least", "left", "word", "one", "some"] ds) O := by
  rintro ds O kk ⟨p, h, i, m, r, rfl, hO, hh, hi, hr, hr6, hm, hk⟩
  unfold bd__law_tree
  by_cases c : m = 0
  · subst c
    have leaf : ∀ x h', ((∃ p : Int, x = D.int p ∧ -1000 ≤ p ∧ p ≤ 1000) ∨ ∃ p q : Int, x = .tup [.int p, .int q] ∧ (-1000 ≤ p ∧ p ≤ 1000 ∧ 1 ≤ q ∧ q ≤ 1000 ∧ Int.gcd p q = 1)) → HandOk h' → kk (.tup [.str "number", x]) (oset O p h') := by
      intro x h' hx hh'
      obtain ⟨f, e, h1, h2, h3⟩ := tree_leaf (i := i) hx
      rw [e]
      exact hk f h' h1 h2 (by omega) hh'
    have rest : ∀ (nx : DV → OH → Prop) h1, HandOk h1 → dThen (dSet 9 (dLst (dCons (dC (.int 0)) (dCons (dC (.int 1)) (dCons (dUn (dU fun i => .int (-i)) (dC (.int 1))) (dCons (dC (.int 2)) (dCons (dC (.int 3)) (dCons (dUn (dU fun i => .int (-i)) (dC (.int 5))) (dCons (dC (.int 1000)) (dCons (dTup (dCons (dC (.int 1)) (dCons (dC (.int 2)) (dNil)))) (dCons (dTup (dCons (dUn (dU fun i => .int (-i)) (dC (.int 3))) (dCons (dC (.int 4)) (dNil)))) (dCons (dTup (dCons (dC (.int 1)) (dCons (dC (.int 3)) (dNil)))) (dCons (dTup (dCons (dC (.int 1000)) (dCons (dC (.int 7)) (dNil)))) (dCons (dTup (dCons (dC (.int 0)) (dCons (dC (.int 1)) (dNil)))) (dCons (dTup (dCons (dC (.int 2)) (dCons (dC (.int 1)) (dNil)))) (dCons (dOp (dI0 fun i j => .int (i - j)) (dCall sp__law_draw (dCons (dVar 0) (dCons (dC (.int 40)) (dNil)))) (dC (.int 20))) (dNil))))))))))))))))) (dRet (dTup (dCons (dC (.str "number")) (dCons (dCall sp__law_any (dCons (dVar 0) (dCons (dVar 9) (dNil)))) (dNil))))) { nx := nx, rt := kk } [some (.own p), some (.int (i : Nat)), some (.int 0), some (.int (r : Nat)), none, none, none, none, none, none] (oset O p h1) := by
      intro nx h1 hh1
      walk_at "sc"
      refine ⟨s5, s5, s5, s5, s5, s5, draw_go oset_same hh1 (by decide) (by decide) fun n h2 n0 n1 hh2 => ?_⟩
      walk_at "sc"
      refine ⟨s5, any_go oset_same hh2 (by simp) (by simp) fun x hx h3 hh3 => ?_⟩
      walk_at "sc"
      refine ⟨s5, leaf x _ ?_ hh3⟩
      simp only [List.mem_cons, List.mem_nil_iff, or_false] at hx
      rcases hx with rfl | rfl | rfl | rfl | rfl | rfl | rfl | rfl | rfl | rfl | rfl | rfl | rfl | rfl <;>
        first | exact .inl ⟨_, rfl, by omega, by omega⟩ | exact .inr ⟨_, _, rfl, by decide, by decide, by decide, by decide, by decide⟩
    rw [← oset_id hO]
    by_cases c : (0 : Int) < (i : Nat)
    · have go : ∀ nx : DV → OH → Prop, (∀ h1, HandOk h1 → nx [some (.own p), some (.int (i : Nat)), some (.int 0), some (.int (r : Nat)), none, none, none, none, none, none] (oset O p h1)) → dIf (dAnd (dB (dOp (dI0 fun i j => .bl (decide (j < i))) (dVar 1) (dC (.int 0)))) (dB (dOp (dI0 fun i j => .bl (decide (j < i))) (dCall sp__law_draw (dCons (dVar 0) (dCons (dC (.int 3)) (dNil)))) (dC (.int 0))))) (dRet (dTup (dCons (dC (.str "in")) (dCons (dCall sp__law_draw (dCons (dVar 0) (dCons (dVar 1) (dNil)))) (dNil))))) (dSkip) { nx := nx, rt := kk } [some (.own p), some (.int (i : Nat)), some (.int 0), some (.int (r : Nat)), none, none, none, none, none, none] (oset O p h) := by
        intro nx hx
        walk_at "sc"
        rw [decide_eq_true c]
        refine draw_go oset_same hh (by decide) (by decide) fun a h1 a0 a1 hh1 => ?_
        walk_at "sc"
        by_cases c2 : 0 < a
        · rw [decide_eq_true c2]
          refine draw_go oset_same hh1 c (by omega) fun b h2 b0 b1 hh2 => ?_
          walk_at "sc"
          refine ⟨s5, ?_⟩
          have e : D.tup [.str "in", .int b] = (Fo.inp b.toNat).d := by unfold Fo.d; rw [show ((b.toNat : Nat) : Int) = b by omega]
          rw [e]
          exact hk _ h2 (show b.toNat < i by omega) rfl (Nat.zero_le _) hh2
        · rw [decide_eq_false c2]
          exact hx h1 hh1
      exact go _ fun h1 hh1 => rest _ h1 hh1
    · have go : ∀ nx : DV → OH → Prop, nx [some (.own p), some (.int (i : Nat)), some (.int 0), some (.int (r : Nat)), none, none, none, none, none, none] (oset O p h) → dIf (dAnd (dB (dOp (dI0 fun i j => .bl (decide (j < i))) (dVar 1) (dC (.int 0)))) (dB (dOp (dI0 fun i j => .bl (decide (j < i))) (dCall sp__law_draw (dCons (dVar 0) (dCons (dC (.int 3)) (dNil)))) (dC (.int 0))))) (dRet (dTup (dCons (dC (.str "in")) (dCons (dCall sp__law_draw (dCons (dVar 0) (dCons (dVar 1) (dNil)))) (dNil))))) (dSkip) { nx := nx, rt := kk } [some (.own p), some (.int (i : Nat)), some (.int 0), some (.int (r : Nat)), none, none, none, none, none, none] (oset O p h) := by
        intro nx hx
        walk_at "sc"
        rw [decide_eq_false c]
        exact hx
      exact go _ (rest _ h hh)
  · have r1 : 1 ≤ r := by
      rcases Nat.eq_zero_or_pos r with z | z
      · subst z; simp at hm; omega
      · exact z
    obtain ⟨q, rfl⟩ : ∃ q, r = q + 1 := ⟨r - 1, by omega⟩
    cases n with
    | zero => omega
    | succ n =>
    have hq : 2 ^ (q + 1) = 2 ^ q * 2 := Nat.pow_succ ..
    have q64 : 2 ^ q ≤ 2 ^ 6 := Nat.pow_le_pow_right (by decide) (by omega)
    have q1 : 1 ≤ 2 ^ q := Nat.one_le_two_pow
    have cast : ((2 ^ q : Nat) : Int) = (2 : Int) ^ q := by simp
    walk_at "sc"
    rw [decide_eq_false (show ¬ ((m : Nat) : Int) = 0 by omega)]
    refine two_0 ⟨by omega, by omega⟩ ?_
    rw [show (((q + 1 : Nat) : Int) - 1).toNat = q by omega, ← cast]
    generalize 2 ^ q = t at *
    walk_at "sc"
    have et : t = 2 ^ q := by exact_mod_cast cast
    generalize hle : (if (m : Int) - 1 - ((t : Int) - 1) > 0 then (m : Int) - 1 - ((t : Int) - 1) else 0) = least
    generalize hmo : (if (m : Int) - 1 < (t : Int) - 1 then (m : Int) - 1 else (t : Int) - 1) = mo
    have le1 : 0 ≤ least ∧ least ≤ mo ∧ mo ≤ m - 1 ∧ mo ≤ t - 1 ∧ m - 1 - (t - 1) ≤ least := by
      rw [← hle, ← hmo]
      split <;> split <;> omega
    refine draw_go hO hh (by omega) (by omega) fun a h1 a0 a1 hh1 => ?_
    walk_at "sc"
    obtain ⟨left, hl⟩ : ∃ left : Nat, (left : Int) = least + a := ⟨_, Int.toNat_of_nonneg (by omega)⟩
    rw [← hl]
    have l1 : left < t := by omega
    have l2 : left + 1 ≤ m := by omega
    have l3 : m - 1 - left < t := by omega
    refine ⟨s5, any_go oset_same hh1 (by simp) (by simp) fun x hx h2 hh2 => ?_⟩
    obtain ⟨o, rfl⟩ : ∃ o : Wd, x = .str o.s := by
      simp only [List.mem_cons, List.mem_nil_iff, or_false] at hx
      rcases hx with h | h | h | h | h | h | h | h
      · exact ⟨.plus, h⟩
      · exact ⟨.minus, h⟩
      · exact ⟨.times, h⟩
      · exact ⟨.over, h⟩
      · exact ⟨.least, h⟩
      · exact ⟨.greatest, h⟩
      · exact ⟨.plus, h⟩
      · exact ⟨.minus, h⟩
    walk_at "sc"
    have er : ((q + 1 : Nat) : Int) - 1 = (q : Nat) := by omega
    rw [er]
    refine ⟨p, h2, i, left, q, rfl, oset_same, hh2, hi, by omega, by omega, by rw [← et]; omega, fun f h3 f1 f2 f3 hh3 => ?_⟩
    walk_at "sc"
    refine ⟨p, h3, i, m - 1 - left, q, by rw [show ((m - 1 - left : Nat) : Int) = (m : Int) - 1 - left by omega], oset_same, hh3, hi, by omega, by omega, by rw [← et]; omega, fun g h4 g1 g2 g3 hh4 => ?_⟩
    walk_at "sc"
    refine ⟨s5, ?_⟩
    exact hk (.op o f g) h4 ⟨f1, g1⟩ (by show 1 + f.cnt + g.cnt = m; omega) (by show max f.dep g.dep + 1 ≤ q + 1; omega) hh4
theorem rd__law_row : ∀ ds O (kk : D → OH → Prop), sp__law_row ds O kk → bd__law_row { nx := fun _ O' => kk .non O', rt := kk } (startD ["hand", "inputs", "some", "axis"] ds) O := by
  rintro ds O kk ⟨p, h, n, rfl, hO, hh, n1, n6, hk⟩
  unfold bd__law_row
  walk_at "sc"
  refine draw_go hO hh (by decide) (by decide) fun a h1 a0 a1 hh1 => ?_
  walk_at "sc"
  refine draw_go oset_same hh1 (by decide) (by decide) fun b h2 b0 b1 hh2 => ?_
  walk_at "sc"
  refine ⟨s5, ⟨by omega, by omega⟩, s5 (by rw [rngD_length]; omega), ?_⟩
  refine dAcc_inv (fun O' => ∃ h', HandOk h' ∧ O' = oset O p h') (fun y => ∃ v : Int, y = .int v ∧ (-10000 ≤ v ∧ v ≤ 10000)) _ _ _ ?_ ⟨h2, hh2, rfl⟩ ?_
  · rintro d hd O' k' ⟨h3, hh3, rfl⟩ hk'
    walk_at "sc"
    refine draw_go oset_same hh3 (by decide) (by decide) fun c h4 c0 c1 hh4 => ?_
    walk_at "sc"
    refine ⟨s5, ⟨by simp, by decide, by decide⟩, s5 (by simp), any_go oset_same hh4 (by simp) (by simp) fun x hx h5 hh5 => ?_⟩
    walk_at "sc"
    refine hk' _ _ ?_ ⟨h5, hh5, rfl⟩
    simp only [List.mem_cons] at hx
    rcases hx with rfl | rfl | rfl | rfl | rfl | rfl | rfl | rfl | rfl | rfl | rfl | rfl | rfl | hx
    iterate 13 exact ⟨_, rfl, by omega, by omega⟩
    simp at hx
    subst hx
    exact ⟨_, rfl, by omega, by omega⟩
  · rintro ys O' hy hl ⟨h3, hh3, rfl⟩
    rw [List.nil_append]
    have := hy
    obtain ⟨r, rfl, hr⟩ : ∃ r : Rw, ys = r.map .int ∧ ∀ x ∈ r, -10000 ≤ x ∧ x ≤ 10000 := by
      clear hl hk this
      induction ys with
      | nil => exact ⟨[], rfl, by simp⟩
      | cons y ys ih =>
        obtain ⟨v, rfl, hv⟩ := hy y (by simp)
        obtain ⟨r, rfl, hr⟩ := ih (fun z hz => hy z (by simp [hz]))
        exact ⟨v :: r, rfl, fun x hx => by rcases List.mem_cons.mp hx with rfl | hx; exact hv; exact hr x hx⟩
    rw [List.length_map, rngD_length] at hl
    refine hk r h3 (by omega) ⟨by omega, by omega, hr⟩ hh3
end Lk05
namespace Lk05
open PySem PySem.Spec PyProof.Rows L2 SC
open Lk19 (betw tupB oneB)
variable [Cl5] [TabL] [XCx]
local macro_rules | `(tactic| walk_at "sc") => `(tactic| simp only [dThen, dSet, dRet, dCall, dCallX, dRaise, dDead, dCons, dNil, dVar, dC, dCB, dComp, dZip, dSeq, dOp, dIf, dB, dIfE, dNot, dAnd, dOr, dAndV, dOrV, dNotV, dSkip, dExpr, dFor, dApp, dTup, dLst, dLstO, dUn, dPar, dPar3, dAsg, dSetIx, dSl, dPart, dPart0, dRng1, dRng2, dZip3, dEnum, dEnumT, dFld, dMake, dMulA, dMulL, dChain, dNm, dTg, dGCons, dGNil, dYes, dI0, dI, dU, dEqS, eqS, dIsN, SC.isNon, dIsnotB, dAddA, dAddL, dAddLO, dMulT, dSlS, dCompO, dIn, SC.rIxD, rLenD, SC.rListD, rBools, rAbsD, rIntD, rTwo, rTupD, rTupX, rDivmodD, rGcdD, dBits, dMtF,
  startD, List.map_cons, List.map_nil, List.length_cons, List.length_nil, Nat.reduceAdd, Nat.reduceSub, List.replicate_succ, List.replicate_zero, List.cons_append, List.nil_append, List.append_nil,
  List.getElem?_cons_zero, List.getElem?_cons_succ, List.set_cons_zero, List.set_cons_succ, wipeD, atI_0, atI_1, atI_2, atI_3, atI_4, oset_same, oset_oset, true_and, and_true, ix5])
theorem hint : ("int" : String) = "int" ∨ ("int" : String) = "bool" ∨ ("int" : String) = "str" ∨ ("int" : String) = "tuple" ∨ ("int" : String) = "list" ∨ ("int" : String) = "dict" := .inl rfl
theorem hstr : ("str" : String) = "int" ∨ ("str" : String) = "bool" ∨ ("str" : String) = "str" ∨ ("str" : String) = "tuple" ∨ ("str" : String) = "list" ∨ ("str" : String) = "dict" := .inr (.inr (.inl rfl))
theorem htup : ("tuple" : String) = "int" ∨ ("tuple" : String) = "bool" ∨ ("tuple" : String) = "str" ∨ ("tuple" : String) = "tuple" ∨ ("tuple" : String) = "list" ∨ ("tuple" : String) = "dict" := .inr (.inr (.inr (.inl rfl)))
theorem hbool : ("bool" : String) = "int" ∨ ("bool" : String) = "bool" ∨ ("bool" : String) = "str" ∨ ("bool" : String) = "tuple" ∨ ("bool" : String) = "list" ∨ ("bool" : String) = "dict" := .inr (.inl rfl)
theorem low_self {a b : Int} (hb : 0 < b) : (decide ((a / (Int.gcd a b : Nat)) = a) && decide (b / (Int.gcd a b : Nat) = b)) = decide (Int.gcd a b = 1) := by
  have h0 : 0 < Int.gcd a b := Int.gcd_pos_of_ne_zero_right _ (by omega)
  generalize Int.gcd a b = g at *
  rw [Bool.eq_iff_iff]
  simp only [Bool.and_eq_true, decide_eq_true_eq]
  constructor
  · rintro ⟨_, h2⟩
    rcases Nat.lt_or_ge 1 g with c | c
    · exfalso
      have h3 := Int.mul_le_mul_of_nonneg_left (show (2 : Int) ≤ (g : Int) by omega) (show 0 ≤ b by omega)
      have : b / (g : Int) < b := Int.ediv_lt_of_lt_mul (by omega) (by omega)
      omega
    · omega
  · rintro rfl
    simp
theorem rd__law_is_value : ∀ ds O (kk : D → OH → Prop), sp__law_is_value ds O kk → bd__law_is_value { nx := fun _ O' => kk .non O', rt := kk } (startD ["thing"] ds) O := by
  rintro ds O kk ⟨d, rfl, hp, h⟩
  unfold bd__law_is_value
  have other : (∀ xs, d ≠ .tup xs) → sp__law_is_int [d, .int (-1000), .int 1000] O kk := by
    intro hd
    refine ⟨d, -1000, 1000, rfl, hp, ?_⟩
    have : numB d = betw (-1000) 1000 d := by
      unfold numB
      split
      · rename_i q; exact absurd rfl (hd _)
      · rfl
    rw [this] at h; exact h
  walk_at "sc"
  refine isi_go hp htup ?_
  cases d <;> first | exact other (fun xs q => by cases q) | skip
  rename_i xs
  clear other
  by_cases hl : xs.length = 2
  · obtain ⟨a, b, rfl⟩ : ∃ a b, xs = [a, b] := by
      match xs, hl with
      | [a, b], _ => exact ⟨a, b, rfl⟩
    clear hl
    have hp2 : pq a = true ∧ pq b = true := by simpa [pq, pqL] using hp
    have no : (∀ i j : Int, a = .int i → b = .int j → False) → numB (.tup [a, b]) = false := by
      intro hn
      unfold numB
      split
      · rename_i i j q
        injection q with q; injection q with q1 q2; injection q2 with q2
        exact (hn _ _ q1 q2).elim
      · rfl
    refine (?_ : sp__law_is_int [a, .int (-1000), .int 1000] O _)
    refine ⟨a, -1000, 1000, rfl, hp2.1, ?_⟩
    cases a <;> first | (rw [no (fun i j q => by cases q)] at h; exact h) | skip
    rename_i i
    have nb : numB (.tup [.int i, b]) = (betw (-1000) 1000 (.int i) && (betw 1 1000 b && numB (.tup [.int i, b]))) := by
      cases b with
      | int j =>
        unfold numB betw
        simp only []
        rw [Bool.eq_iff_iff]
        simp only [Bool.and_eq_true, decide_eq_true_eq]
        constructor
        · rintro ⟨⟨h1, h2⟩, ⟨h3, h4⟩, h5⟩
          exact ⟨⟨h3, h4⟩, ⟨by omega, h5⟩, ⟨h1, h2⟩, ⟨h3, h4⟩, h5⟩
        · rintro ⟨_, _, h⟩; exact h
      | _ => rw [no (fun i j q r => nomatch r)]; simp
    rw [nb] at h
    cases e1 : betw (-1000) 1000 (.int i) with
    | false => rw [e1] at h; exact h
    | true =>
      rw [e1, Bool.true_and] at h
      refine (?_ : sp__law_is_int [b, .int 1, .int 1000] O _)
      refine ⟨b, 1, 1000, rfl, hp2.2, ?_⟩
      cases e2 : betw 1 1000 b with
      | false => rw [e2] at h; exact h
      | true =>
        rw [e2, Bool.true_and] at h
        cases b <;> first | cases e2 | skip
        rename_i j
        have g1 : -1000 ≤ i ∧ i ≤ 1000 := by simpa [betw] using e1
        have g2 : 1 ≤ j ∧ j ≤ 1000 := by simpa [betw] using e2
        have bi : Bn 20 i := by unfold Bn; omega
        have bj : Bn 20 j := by unfold Bn; omega
        refine (?_ : sp__law_low [.int i, .int j] O _)
        refine ⟨i, j, rfl, by omega, bi.sz, bj.sz, ?_⟩
        obtain ⟨n1, n2⟩ := num_div (P := i) (Q := j) (by omega)
        have eq1 : frQ ((i : Rat) / (j : Rat)) = .tup [.int (i / (Int.gcd i j : Nat)), .int (j / (Int.gcd i j : Nat))] := by unfold frQ; rw [n1, n2]
        rw [eq1]
        refine ⟨⟨trivial, trivial⟩, ?_⟩
        show kk (.bl (decide (i / (Int.gcd i j : Nat) = i) && decide (j / (Int.gcd i j : Nat) = j))) O
        rw [low_self (by omega)]
        have : numB (.tup [.int i, .int j]) = decide (Int.gcd i j = 1) := by
          unfold numB
          simp only []
          rw [e1, decide_eq_true (show 0 < j by omega), decide_eq_true g2.2]
          simp
        rw [this] at h
        exact h
  · have : numB (.tup xs) = false := by
      unfold numB
      split
      · rename_i q; injection q with q; subst q; exact absurd rfl hl
      · rfl
    rw [this] at h
    refine (?_ : match !decide (((xs.length : Nat) : Int) = 2) with | true => kk (.bl false) O | false => _)
    rw [decide_eq_false (show ¬ ((xs.length : Nat) : Int) = 2 by omega)]
    exact h
theorem rd__law_operations (n : Nat) : ∀ ds O (kk : D → OH → Prop), sp__law_operations (n + 1) ds O kk → bd__law_operations n { nx := fun _ O' => kk .non O', rt := kk } (startD ["inputs", "thing", "room"] ds) O := by
  rintro ds O kk ⟨i, d, j, rfl, hj, hp, h⟩
  unfold bd__law_operations
  walk_at "sc"
  refine isi_go hp htup ?_
  have e0 : ∀ d : D, (∀ xs, d ≠ .tup xs) → opsL i j d = 100 := by
    intro d hd
    have lf : leafB i d = false := by
      unfold leafB
      split
      · exact absurd rfl (hd _)
      · rfl
    cases j with
    | zero => unfold opsL; rw [lf]; rfl
    | succ j =>
      unfold opsL; rw [lf, cond_false]
      split
      · exact absurd rfl (hd _)
      · rfl
  cases d <;> first | (rw [e0 _ (fun xs q => by cases q)] at h; exact h) | skip
  rename_i xs
  clear e0
  match xs, hp, h with
  | [], hp, h =>
    have : opsL i j (.tup []) = 100 := by cases j <;> (unfold opsL leafB; rfl)
    rw [this] at h; exact h
  | [a], hp, h =>
    have : opsL i j (.tup [a]) = 100 := by cases j <;> (unfold opsL leafB; simp)
    rw [this] at h; exact h
  | [a, b], hp, h =>
    have hp2 : pq a = true ∧ pq b = true := by simpa [pq, pqL] using hp
    refine (?_ : SC.rIsiK Cl5.K [a, .ty "str"] O _)
    refine isi_go hp2.1 hstr ?_
    have e0 : (∀ x, a ≠ .str x) → opsL i j (.tup [a, b]) = 100 := by
      intro hd
      have lf : leafB i (.tup [a, b]) = false := by
        unfold leafB
        split
        · rename_i x v q; injection q with q; injection q with q; exact absurd q (hd _)
        · rfl
      cases j with
      | zero => unfold opsL; rw [lf]; rfl
      | succ j =>
        unfold opsL; rw [lf, cond_false]
        split
        · rename_i q; injection q with q; injection q with q1 q2; injection q2 with q2 q3; injection q3
        · rfl
    cases a <;> first | (rw [e0 (fun xs q => by cases q)] at h; exact h) | skip
    rename_i x
    have eo : opsL i j (.tup [.str x, b]) = bif leafB i (.tup [.str x, b]) then 0 else 100 := by
      cases j with
      | zero => unfold opsL; rfl
      | succ j => unfold opsL; rfl
    rw [eo] at h
    have eb : leafB i (.tup [.str x, b]) = bif decide (x = "in") then betw 0 (i - 1) b else decide (x = "number") && numB b := rfl
    rw [eb, ← strEq_eq, ← strEq_eq] at h
    refine (?_ : match strEq x "in" with | true => sp__law_is_int [b, .int 0, .int (i - 1)] O _ | false => match strEq x "number" with | true => sp__law_is_value [b] O _ | false => kk (.int 100) O)
    cases e1 : strEq x "in" with
    | true =>
      rw [e1, cond_true] at h
      refine ⟨b, 0, i - 1, rfl, hp2.2, ?_⟩
      revert h
      cases betw 0 (i - 1) b <;> exact id
    | false =>
      rw [e1, cond_false] at h
      cases e2 : strEq x "number" with
      | false => rw [e2] at h; exact h
      | true =>
        rw [e2, Bool.true_and] at h
        refine ⟨b, rfl, hp2.2, ?_⟩
        revert h
        cases numB b <;> exact id
  | [a, b, c], hp, h =>
    have hp2 : pq a = true ∧ pq b = true ∧ pq c = true := by simpa [pq, pqL] using hp
    refine (?_ : SC.rIsiK Cl5.K [a, .ty "str"] O _)
    refine isi_go hp2.1 hstr ?_
    have lf : leafB i (.tup [a, b, c]) = false := by
      unfold leafB
      split
      · rename_i q; injection q with q; injection q with q1 q2; injection q2 with q2 q3; injection q3
      · rfl
    have e0 : (∀ x, a ≠ .str x) → opsL i j (.tup [a, b, c]) = 100 := by
      intro hd
      cases j with
      | zero => unfold opsL; rw [lf]; rfl
      | succ j =>
        unfold opsL; rw [lf, cond_false]
        split
        · rename_i q; injection q with q; injection q with q1 q2; exact absurd q1 (hd _)
        · rfl
    cases a <;> first | (rw [e0 (fun xs q => by cases q)] at h; exact h) | skip
    rename_i x
    cases j with
    | zero =>
      have : opsL i 0 (.tup [.str x, b, c]) = 100 := by unfold opsL; rw [lf]; rfl
      rw [this] at h; exact h
    | succ j =>
      have eo : opsL i (j + 1) (.tup [.str x, b, c]) = bif decide (x ∈ six) then 1 + opsL i j b + opsL i j c else 100 := by
        rw [opsL]; rw [lf]; rfl
      rw [eo] at h
      refine (?_ : match decide (((j + 1 : Nat) : Int) = 0) with | true => kk (.int 100) O | false => 6 ≤ sizeLine ∧ (flatF (.str x) = true ∧ (six.map D.str).all flatF = true) ∧ match !((six.map D.str).any fun y => eqF y (.str x)) with | true => kk (.int 100) O | false => _)
      rw [decide_eq_false (show ¬ ((j + 1 : Nat) : Int) = 0 by omega)]
      refine ⟨s5, ⟨rfl, by simp [flatF, six]⟩, ?_⟩
      have ei : ((six.map D.str).any fun y => eqF y (.str x)) = decide (x ∈ six) := by
        rw [Bool.eq_iff_iff]
        simp [eqF, strEq_eq]
      rw [ei]
      cases e2 : decide (x ∈ six) with
      | false => rw [e2] at h; exact h
      | true =>
        rw [e2, cond_true] at h
        cases n with
        | zero => omega
        | succ n =>
        refine (?_ : sp__law_operations (n + 1) [.int i, b, .int (((j + 1 : Nat) : Int) - 1)] O _)
        have er : ((j + 1 : Nat) : Int) - 1 = (j : Nat) := by omega
        rw [er]
        refine ⟨i, b, j, rfl, by omega, hp2.2.1, ?_⟩
        refine (?_ : sp__law_operations (n + 1) [.int i, c, .int (j : Nat)] O _)
        exact ⟨i, c, j, rfl, by omega, hp2.2.2, h⟩
  | a :: b :: c :: e :: r, hp, h =>
    have hp2 : pq a = true := by simp only [pq, pqL, Bool.and_eq_true] at hp; exact hp.1
    have lf : leafB i (.tup (a :: b :: c :: e :: r)) = false := by
      unfold leafB
      split
      · rename_i q; injection q with q; injection q with q1 q2; injection q2 with q2 q3; injection q3
      · rfl
    have e0 : opsL i j (.tup (a :: b :: c :: e :: r)) = 100 := by
      cases j with
      | zero => unfold opsL; rw [lf]; rfl
      | succ j =>
        unfold opsL; rw [lf, cond_false]
        split
        · rename_i q; injection q with q; injection q with q1 q2; injection q2 with q2 q3; injection q3 with q3 q4; injection q4
        · rfl
    rw [e0] at h
    simp only [atI_0]
    have l2 : ¬ (((a :: b :: c :: e :: r : List D).length : Nat) : Int) < 2 := by simp; omega
    have l3 : ¬ (((a :: b :: c :: e :: r : List D).length : Nat) : Int) = 2 := by simp; omega
    have l4 : ¬ (((a :: b :: c :: e :: r : List D).length : Nat) : Int) = 3 := by simp; omega
    rw [decide_eq_false l2, decide_eq_false l3, decide_eq_false l4]
    refine isi_go hp2 hstr ?_
    cases isD "str" a with
    | false => exact h
    | true => exact h
end Lk05
namespace Lk05
open PySem PySem.Spec PyProof.Rows L2 SC
open Lk19 (betw tupB oneB)
variable [Cl5] [TabL] [XCx]
local macro_rules | `(tactic| walk_at "sc") => `(tactic| simp only [dThen, dSet, dRet, dCall, dCallX, dRaise, dDead, dCons, dNil, dVar, dC, dCB, dComp, dZip, dSeq, dOp, dIf, dB, dIfE, dNot, dAnd, dOr, dAndV, dOrV, dNotV, dSkip, dExpr, dFor, dApp, dTup, dLst, dLstO, dUn, dPar, dPar3, dAsg, dSetIx, dSl, dPart, dPart0, dRng1, dRng2, dZip3, dEnum, dEnumT, dFld, dMake, dMulA, dMulL, dChain, dNm, dTg, dGCons, dGNil, dYes, dI0, dI, dU, dEqS, eqS, dIsN, SC.isNon, dIsnotB, dAddA, dAddL, dAddLO, dMulT, dSlS, dCompO, dIn, SC.rIxD, rLenD, SC.rListD, rBools, rAbsD, rIntD, rTwo, rTupD, rTupX, rDivmodD, rGcdD, dBits, dMtF,
  startD, List.map_cons, List.map_nil, List.length_cons, List.length_nil, Nat.reduceAdd, Nat.reduceSub, List.replicate_succ, List.replicate_zero, List.cons_append, List.nil_append, List.append_nil,
  List.getElem?_cons_zero, List.getElem?_cons_succ, List.set_cons_zero, List.set_cons_succ, wipeD, atI_0, atI_1, atI_2, atI_3, atI_4, oset_same, oset_oset, true_and, and_true, ix5])
theorem rd__law_is (n : Nat) : ∀ ds O (kk : D → OH → Prop), sp__law_is (n + 1) ds O kk → bd__law_is n { nx := fun _ O' => kk .non O', rt := kk } (startD ["told", "due", "at"] ds) O := by
  rintro ds O kk ⟨d, rfl, hd, h⟩
  unfold bd__law_is
  walk_at "sc"
  cases hd with
  | int n i =>
    refine isi_go rfl htup (isi_go rfl hstr (isi_go rfl hint (isi_go rfl hbool ?_)))
    show kk (.bl (decide (i = i))) O
    rw [decide_eq_true rfl]; exact h
  | str n s =>
    refine isi_go rfl htup (isi_go rfl hstr (isi_go rfl hstr ?_))
    show kk (.bl (strEq s s)) O
    rw [strEq_eq, decide_eq_true rfl]; exact h
  | pair n i j =>
    refine isi_go rfl htup (isi_go rfl htup ?_)
    refine (?_ : (-(2 ^ 62) ≤ (2 : Int) ∧ (2 : Int) < 2 ^ 62) ∧ _)
    refine ⟨by decide, s5 (by simp [rngD]), ?_⟩
    refine dAcc_map (α := Nat) (fun i => D.int (0 + (i : Nat))) (fun _ => D.bl true) (List.range 2) [] O (fun x hx O' k' hk' => ?_) ?_
    · have hx := List.mem_range.mp hx
      rcases (by omega : x = 0 ∨ x = 1) with rfl | rfl
      · exact ⟨.int i, rfl, .int n i, hk'⟩
      · exact ⟨.int j, rfl, .int n j, hk'⟩
    · exact h
theorem Pt.nil {f g : Fo} (h : Pt [] f g) : f = g := by cases h; rfl
theorem pq_tup3 {a b c : D} (ha : pq a = true) (hb : pq b = true) (hc : pq c = true) : pq (.tup [a, b, c]) = true := by simp [pq, pqL, ha, hb, hc]
theorem cut_one {x : D} {r : List D} : cutA (x :: r) (some 1) none = r := by rw [cut_drop (n := 1) (i := 1) rfl]; rfl
theorem cut_1a {a b c : D} : cutA [a, b, c] none (some 1) = [a] := by rw [cut_take (n := 1) (i := 1) rfl]; rfl
theorem cut_1b {a b c : D} : cutA [a, b, c] (some (1 + 1)) none = [c] := by rw [cut_drop (n := 2) (i := 1 + 1) rfl]; rfl
theorem cut_2a {a b c : D} : cutA [a, b, c] none (some 2) = [a, b] := by rw [cut_take (n := 2) (i := 2) rfl]; rfl
theorem cut_2b {a b c : D} : cutA [a, b, c] (some (2 + 1)) none = [] := by rw [cut_drop (n := 3) (i := 2 + 1) rfl]; rfl
theorem nat1 : ((1 : Nat) : Int) = 1 := rfl
theorem nat2 : ((2 : Nat) : Int) = 2 := rfl
theorem rd__law_with (n : Nat) : ∀ ds O (kk : D → OH → Prop), sp__law_with (n + 1) ds O kk → bd__law_with n { nx := fun _ O' => kk .non O', rt := kk } (startD ["formula", "path", "made", "at"] ds) O := by
  rintro ds O kk ⟨ps, f, g, m, rfl, hP, hl, hm, hk⟩
  unfold bd__law_with psD
  cases hP with
  | here f =>
    walk_at "sc"
    exact hk m hm
  | @one ps o a b f hP =>
    have hl : ps.length + 1 ≤ n := hl
    cases n with
    | zero => omega
    | succ n =>
    unfold Fo.d
    walk_at "sc"
    have c : ¬ (((List.map (fun i : Nat => D.int (i : Nat)) ps).length + 1 : Nat) : Int) = 0 := by omega
    rw [decide_eq_false c]
    simp only [nat1, atI_0, atI_1, cut_one, cut_1a, cut_1b]
    refine ⟨ps, a, g, m, rfl, hP, by omega, hm, fun d' hd' => ?_⟩
    refine ⟨s5, s5 (by simp), s5 (by simp), hk _ ?_⟩
    simp [pq, pqL, hd', pq_fo]
  | @two ps o a b f hP =>
    have hl : ps.length + 1 ≤ n := hl
    cases n with
    | zero => omega
    | succ n =>
    unfold Fo.d
    walk_at "sc"
    have c : ¬ (((List.map (fun i : Nat => D.int (i : Nat)) ps).length + 1 : Nat) : Int) = 0 := by omega
    rw [decide_eq_false c]
    simp only [nat2, atI_0, atI_2, cut_one, cut_2a, cut_2b]
    refine ⟨ps, b, g, m, rfl, hP, by omega, hm, fun d' hd' => ?_⟩
    refine ⟨s5, s5 (by simp), s5 (by simp), hk _ ?_⟩
    simp [pq, pqL, hd', pq_fo]
theorem rd__law_deeper : ∀ ds O (kk : D → OH → Prop), sp__law_deeper ds O kk → bd__law_deeper { nx := fun _ O' => kk .non O', rt := kk } (startD ["formula", "many", "turn"] ds) O := by
  rintro ds O kk ⟨d, n, rfl, hp, hn, hk⟩
  unfold bd__law_deeper
  walk_at "sc"
  refine ⟨⟨by omega, by omega⟩, ?_⟩
  refine dLoop_ind (α := Nat) (fun i => .int (0 + (i : Int))) (fun rest e O' => O' = O ∧ ∃ (d : D) (t : Option D), pq d = true ∧ e = [some d, some (.int (n : Nat)), t]) ?_ ?_ (List.range (n : Int).toNat) _ _ ⟨rfl, d, none, hp, rfl⟩
  · rintro i rest e O' ⟨rfl, d, t, hd, rfl⟩ nx hx
    walk_at "sc"
    refine ⟨by decide, ?_⟩
    cases decide ((0 + (i : Int)) % 2 = 0) with
    | true => exact ⟨s5, s5, hx _ _ ⟨rfl, _, _, by simp [pq, pqL, hd], rfl⟩⟩
    | false => exact ⟨s5, s5, s5, hx _ _ ⟨rfl, _, _, by simp [pq, pqL, hd], rfl⟩⟩
  · rintro e O' ⟨rfl, d, t, hd, rfl⟩
    walk_at "sc"
    exact hk d hd
theorem Pt.snoc1 {ps : List Nat} {o : Wd} {a b : Fo} : ∀ {f : Fo}, Pt ps f (.op o a b) → Pt (ps ++ [1]) f a := by
  intro f h
  generalize hg : Fo.op o a b = g at h
  induction h with
  | here f => subst hg; exact .one (.here a)
  | one h ih => exact .one (ih hg)
  | two h ih => exact .two (ih hg)
theorem Pt.snoc2 {ps : List Nat} {o : Wd} {a b : Fo} : ∀ {f : Fo}, Pt ps f (.op o a b) → Pt (ps ++ [2]) f b := by
  intro f h
  generalize hg : Fo.op o a b = g at h
  induction h with
  | here f => subst hg; exact .two (.here b)
  | one h ih => exact .one (ih hg)
  | two h ih => exact .two (ih hg)
theorem atI_last {xs : List D} {x : D} : atI (xs ++ [x]) (-1) = some x := by
  unfold atI ixN
  simp
  rw [if_pos (by omega)]
  simp [show (-1 + ((xs.length : Int) + 1)).toNat = xs.length by omega]
theorem rd__law_path : ∀ ds O (kk : D → OH → Prop), sp__law_path ds O kk → bd__law_path { nx := fun _ O' => kk .non O', rt := kk } (startD ["hand", "formula", "path", "here"] ds) O := by
  rintro ds O kk ⟨p, h, f, rfl, hO, hh, h6, hk⟩
  unfold bd__law_path
  refine dThen_by (fun e O' => ∃ q, O q = none ∧ O' = oset O q [] ∧ e = [some (.own p), some f.d, some (.own q), some f.d]) (fun nx hn => ?_) ?_
  · walk_at "sc"
    exact ⟨s5, fun q hq => hn _ _ ⟨q, hq, rfl, rfl⟩⟩
  rintro e O' ⟨q, hq, rfl, rfl⟩
  have hpq : p ≠ q := fun z => by rw [z, hq] at hO; cases hO
  have hO1 : oset O q [] p = some h := by rw [oset_ne hpq]; exact hO
  have hfr : ∀ r x, r ≠ p → O r = some x → oset O q [] r = some x := fun r x hr hx => by
    rw [oset_ne (fun z => by rw [z, hq] at hx; cases hx)]; exact hx
  refine dThen_by (fun e O' => ∃ (ps : List Nat) (g : Fo) (h' : List D), Pt ps f g ∧ ps.length ≤ f.dep ∧ HandOk h' ∧ O' p = some h' ∧ O' q = some (psD ps) ∧ (∀ r x, r ≠ p → O r = some x → O' r = some x) ∧ e = [some (.own p), some f.d, some (.own q), some g.d]) (fun nx hn => ?_) ?_
  · unfold dWhile
    refine ⟨fun m e O' => ∃ (ps : List Nat) (g : Fo) (h' : List D), Pt ps f g ∧ ps.length + g.dep ≤ f.dep ∧ HandOk h' ∧ O' p = some h' ∧ O' q = some (psD ps) ∧ (∀ r x, r ≠ p → O r = some x → O' r = some x) ∧ e = [some (.own p), some f.d, some (.own q), some g.d] ∧ m = g.dep, ⟨f.dep, [], f, h, .here f, by simp, hh, hO1, oset_same, hfr, rfl, rfl⟩, ?_⟩
    rintro m e O' ⟨ps, g, h', hP, hl, hh', hO', hq', hfr', rfl, rfl⟩
    have out : nx [some (.own p), some f.d, some (.own q), some g.d] O' := hn _ _ ⟨ps, g, h', hP, by omega, hh', hO', hq', hfr', rfl⟩
    have bounds : f.dep < sizeLine → ps.length < sizeLine := fun z => by omega
    cases g with
    | inp i =>
      rw [show (Fo.inp i).d = .tup [.str "in", .int (i : Nat)] from rfl] at out ⊢
      walk_at "sc"
      exact out
    | num i =>
      rw [show (Fo.num i).d = .tup [.str "number", .int i] from rfl] at out ⊢
      walk_at "sc"
      exact out
    | frc i j =>
      rw [show (Fo.frc i j).d = .tup [.str "number", .tup [.int i, .int j]] from rfl] at out ⊢
      walk_at "sc"
      exact out
    | op o a b =>
      have hd : (Fo.op o a b).dep = max a.dep b.dep + 1 := rfl
      have ha : ps.length + 1 ≤ f.dep := by omega
      rw [show (Fo.op o a b).d = .tup [.str o.s, a.d, b.d] from rfl]
      walk_at "sc"
      refine draw_go hO' hh' (by decide) (by decide) fun t h1 t0 t1 hh1 => ?_
      walk_at "sc"
      have out : nx [some (.own p), some f.d, some (.own q), some (Fo.op o a b).d] (oset O' p h1) := hn _ _ ⟨ps, _, h1, hP, by omega, hh1, oset_same, by rw [oset_ne hpq.symm]; exact hq', fun r x hr hx => by rw [oset_ne hr]; exact hfr' r x hr hx, rfl⟩
      by_cases c : 0 < t
      · rw [decide_eq_true c]
        walk_at "sc"
        rw [oset_ne hpq.symm, hq']
        refine draw_go oset_same hh1 (by decide) (by decide) fun u h2 u0 u1 hh2 => ?_
        walk_at "sc"
        rw [oset_ne hpq.symm, hq']
        have lp : (psD ps).length = ps.length := by simp [psD]
        simp only [atI_last]
        refine ⟨lt_len (by omega), ?_⟩
        have fr : ∀ (xs : List D) (r : Addr) (x : List D), r ≠ p → O r = some x → oset (oset O' p h2) q xs r = some x := fun xs r x hr hx => by
          rw [oset_ne (fun z => by rw [z, hq] at hx; cases hx), oset_ne hr]; exact hfr' r x hr hx
        rcases (by omega : u = 0 ∨ u = 1) with rfl | rfl
        · refine (?_ : ∃ m', m' < (Fo.op o a b).dep ∧ _)
          refine ⟨a.dep, by omega, ps ++ [1], a, h2, hP.snoc1, by simp; omega, hh2, by rw [oset_ne hpq]; exact oset_same, ?_, fr _, rfl, rfl⟩
          simp [psD]
        · refine (?_ : ∃ m', m' < (Fo.op o a b).dep ∧ _)
          refine ⟨b.dep, by omega, ps ++ [2], b, h2, hP.snoc2, by simp; omega, hh2, by rw [oset_ne hpq]; exact oset_same, ?_, fr _, rfl, rfl⟩
          simp [psD]
      · rw [decide_eq_false c]
        exact out
  · rintro e O' ⟨ps, g, h', hP, hl, hh', hO', hq', hfr', rfl⟩
    walk_at "sc"
    unfold dFrz frzD
    walk_at "sc"
    rw [hq']
    refine ⟨s5, hk ps g h' _ hP hl hh' ?_ ?_⟩
    · show (if p = q then none else O' p) = _
      rw [if_neg hpq]; exact hO'
    · intro r x hr hx
      show (if r = q then none else O' r) = _
      rw [if_neg (fun z => by rw [z, hq] at hx; cases hx)]; exact hfr' r x hr hx
end Lk05
namespace Lk05
open PySem PySem.Spec PyProof.Rows L2 SC
open Lk19 (betw tupB oneB)
variable [Cl5] [TabL] [XCx]
local macro_rules | `(tactic| walk_at "sc") => `(tactic| simp only [dThen, dSet, dRet, dCall, dCallX, dRaise, dDead, dCons, dNil, dVar, dC, dCB, dComp, dZip, dSeq, dOp, dIf, dB, dIfE, dNot, dAnd, dOr, dAndV, dOrV, dNotV, dSkip, dExpr, dFor, dApp, dTup, dLst, dLstO, dUn, dPar, dPar3, dAsg, dSetIx, dSl, dPart, dPart0, dRng1, dRng2, dZip3, dEnum, dEnumT, dFld, dMake, dMulA, dMulL, dChain, dNm, dTg, dGCons, dGNil, dYes, dI0, dI, dU, dEqS, eqS, dIsN, SC.isNon, dIsnotB, dAddA, dAddL, dAddLO, dMulT, dSlS, dCompO, dIn, SC.rIxD, rLenD, SC.rListD, rBools, rAbsD, rIntD, rTwo, rTupD, rTupX, rDivmodD, rGcdD, dBits, dMtF,
  startD, List.map_cons, List.map_nil, List.length_cons, List.length_nil, Nat.reduceAdd, Nat.reduceSub, List.replicate_succ, List.replicate_zero, List.cons_append, List.nil_append, List.append_nil,
  List.getElem?_cons_zero, List.getElem?_cons_succ, List.set_cons_zero, List.set_cons_succ, wipeD, atI_0, atI_1, atI_2, atI_3, atI_4, oset_same, oset_oset, true_and, and_true, ix5])
theorem pq_cut {xs : List D} (h : pqL xs = true) (lo hi : Option Int) : pqL (cutA xs lo hi) = true := by
  refine pqL_of fun d hd => pqL_mem h d ?_
  unfold cutA at hd
  exact List.drop_subset _ _ (List.take_subset _ _ hd)
theorem pq_app {xs ys : List D} (h : pqL xs = true) (h2 : pqL ys = true) : pqL (xs ++ ys) = true := by
  refine pqL_of fun d hd => ?_
  rcases List.mem_append.mp hd with hd | hd
  · exact pqL_mem h d hd
  · exact pqL_mem h2 d hd
theorem fo_tup (f : Fo) : ∃ xs, f.d = .tup xs ∧ pqL xs = true ∧ xs.length ≤ 3 := by
  have := pq_fo f
  cases f with
  | inp i => exact ⟨_, rfl, this, by simp⟩
  | num i => exact ⟨_, rfl, this, by simp⟩
  | frc i j => exact ⟨_, rfl, this, by simp⟩
  | op o a b => exact ⟨_, rfl, this, by simp⟩
theorem rd__law_bent : ∀ ds O (kk : D → OH → Prop), sp__law_bent ds O kk → bd__law_bent { nx := fun _ O' => kk .non O', rt := kk } (startD ["hand", "inputs", "formula", "some", "values", "path", "here", "value"] ds) O := by
  rintro ds O kk ⟨p, h, i, f, rfl, hO, hh, hd, hk⟩
  unfold bd__law_bent
  refine dThen_by (fun e O' => ∃ (ps : List Nat) (g : Fo) (h' : List D), Pt ps f g ∧ ps.length ≤ f.dep ∧ HandOk h' ∧ O' p = some h' ∧ (∀ q x, q ≠ p → O q = some x → O' q = some x) ∧ e = [some (.own p), some (.int (i : Nat)), some f.d, none, none, some (.lst (psD ps)), some g.d, none]) (fun nx hn => ?_) ?_
  · walk_at "sc"
    refine ⟨p, h, f, rfl, hO, hh, hd, fun ps g h' O' hP hl hh' hO' hfr => ?_⟩
    walk_at "sc"
    exact hn _ _ ⟨ps, g, h', hP, hl, hh', hO', hfr, rfl⟩
  rintro e O1 ⟨ps, g, h1, hP, hl, hh1, hO1, hfr, rfl⟩
  obtain ⟨xs, eg, px, lx⟩ := fo_tup g
  have pg := pq_fo g
  rw [eg] at pg
  rw [eg]
  refine dThen_by (fun e O' => O' = O1 ∧ ∃ L, pqL L = true ∧ L.length = 7 ∧ e = [some (.own p), some (.int (i : Nat)), some f.d, some (.lst L), none, some (.lst (psD ps)), some (.tup xs), none]) (fun nx hn => ?_) ?_
  · walk_at "sc"
    refine ⟨s5, s5, s5, s5, s5, s5, s5, s5, hn _ _ ⟨rfl, _, ?_, ?_, rfl⟩⟩
    · simp [pq, pqL]
    · rfl
  rintro e O' ⟨rfl, L, pL, lL, rfl⟩
  refine dThen_by (fun e O1 => O1 = O' ∧ ∃ V, pqL V = true ∧ V.length = 12 ∧ e = [some (.own p), some (.int (i : Nat)), some f.d, some (.lst L), some (.lst V), some (.lst (psD ps)), some (.tup xs), none]) (fun nx hn => ?_) ?_
  · walk_at "sc"
    refine ⟨s5, s5, s5, s5, s5, s5, s5, s5, s5, s5, hn _ _ ⟨rfl, _, ?_, ?_, rfl⟩⟩
    · simp [pq, pqL]
    · rfl
  rintro e O1 ⟨rfl, V, pV, lV, rfl⟩
  refine dThen_by (fun e O2 => O2 = O1 ∧ ∃ V, pqL V = true ∧ V.length = 21 ∧ e = [some (.own p), some (.int (i : Nat)), some f.d, some (.lst L), some (.lst V), some (.lst (psD ps)), some (.tup xs), none]) (fun nx hn => ?_) ?_
  · walk_at "sc"
    refine ⟨s5, s5, s5, s5, s5, s5, s5 (by simp [lV]), hn _ _ ⟨rfl, _, ?_, ?_, rfl⟩⟩
    · exact pq_app pV (by simp [pq, pqL])
    · simp [lV]
  clear pV lV V
  rintro e O2 ⟨rfl, V, pV, lV, rfl⟩
  refine dThen_by (fun e O1 => O1 = O2 ∧ ∃ L, pqL L = true ∧ L.length = 31 ∧ ∃ x, e = [some (.own p), some (.int (i : Nat)), some f.d, some (.lst L), some (.lst V), some (.lst (psD ps)), some (.tup xs), x]) (fun nx hn => ?_) ?_
  · walk_at "sc"
    refine ⟨s5 (by omega), dAcc_inv (fun O' => O' = O2) (fun y => pq y = true) V [] O2 (fun d hd O' k' hJ hk' => ?_) rfl (fun ys O' hy hl hJ => ?_)⟩
    · subst hJ
      walk_at "sc"
      exact ⟨s5, hk' _ _ (by simp [pq, pqL, pqL_mem pV d hd]) rfl⟩
    · subst hJ
      rw [List.nil_append]
      refine ⟨s5 (by omega), s5, s5, s5, s5, s5 (by simp; omega), hn _ _ ⟨rfl, _, ?_, ?_, none, rfl⟩⟩
      · refine pq_app (pq_app pL (pqL_of hy)) ?_
        have : pqL xs = true := px
        simp [pq, pqL, this]
      · simp; omega
  clear pL lL L
  rintro e O1 ⟨rfl, L, pL, lL, x, rfl⟩
  refine dThen_by (fun e O2 => O2 = O1 ∧ ∃ L, pqL L = true ∧ L.length = 37 ∧ e = [some (.own p), some (.int (i : Nat)), some f.d, some (.lst L), some (.lst V), some (.lst (psD ps)), some (.tup xs), x]) (fun nx hn => ?_) ?_
  · walk_at "sc"
    refine ⟨s5, s5, s5, s5 (by simp; omega), s5, s5 (by simp; omega), hn _ _ ⟨rfl, _, ?_, ?_, rfl⟩⟩
    · refine pq_app pL ?_
      simp [pq, pqL, px, pq_cut px, pq_app px (show pqL [D.int 0] = true by simp [pq, pqL])]
    · simp; omega
  clear pL lL L
  rintro e O2 ⟨rfl, L, pL, lL, rfl⟩
  refine dThen_by (fun e O1 => ∃ L h2, HandOk h2 ∧ O1 = oset O2 p h2 ∧ pqL L = true ∧ L.length = 45 ∧ e = [some (.own p), some (.int (i : Nat)), some f.d, some (.lst L), some (.lst V), some (.lst (psD ps)), some (.tup xs), x]) (fun nx hn => ?_) ?_
  · walk_at "sc"
    refine ⟨s5, s5, s5, p, h1, .tup xs, rfl, hO1, hh1, pg, fun d' h2 hd' hh2 => ?_⟩
    walk_at "sc"
    refine ⟨s5, s5 (by simp; omega), hn _ _ ⟨_, h2, hh2, rfl, ?_, ?_, rfl⟩⟩
    · refine pq_app pL ?_
      simp [pq, pqL, px, hd']
    · simp; omega
  clear pL lL L
  rintro e O1 ⟨L, h2, hh2, rfl, pL, lL, rfl⟩
  refine dThen_by (fun e O1 => ∃ L h2, HandOk h2 ∧ O1 = oset O2 p h2 ∧ pqL L = true ∧ L.length = 47 ∧ e = [some (.own p), some (.int (i : Nat)), some f.d, some (.lst L), some (.lst V), some (.lst (psD ps)), some (.tup xs), x]) (fun nx hn => ?_) ?_
  · walk_at "sc"
    refine ⟨⟨⟨3, -1, 1⟩, ⟨by decide, by decide, by decide, by decide, by decide⟩, rfl⟩, draw_go oset_same hh2 (by decide) (by decide) fun t h3 t0 t1 hh3 => ?_⟩
    walk_at "sc"
    refine ⟨.tup xs, t.toNat, by rw [show ((t.toNat : Nat) : Int) = t by omega], pg, by omega, fun d' hd' => ?_⟩
    walk_at "sc"
    refine ⟨s5, s5 (by simp; omega), hn _ _ ⟨_, h3, hh3, rfl, ?_, ?_, rfl⟩⟩
    · refine pq_app pL ?_
      simp [pq, pqL, hd']
    · simp; omega
  clear pL lL L
  rintro e O1 ⟨L, h3, hh3, rfl, pL, lL, rfl⟩
  walk_at "sc"
  refine any_go oset_same hh3 (by intro z; rw [z] at lL; simp at lL) (by omega) fun m hm h4 hh4 => ?_
  walk_at "sc"
  refine ⟨ps, f, g, m, rfl, hP, by show ps.length ≤ 8; omega, pqL_mem pL m hm, fun d' hd' => ?_⟩
  refine hk d' h4 _ hd' hh4 oset_same fun q x hq hx => ?_
  rw [oset_ne hq]
  exact hfr q x hq hx
end Lk05
namespace Lk05
open PySem PySem.Spec PyProof.Rows L2 SC
open Lk19 (betw tupB oneB)
variable [Cl5] [TabL] [XCx]
local macro_rules | `(tactic| walk_at "sc") => `(tactic| simp only [dThen, dSet, dRet, dCall, dCallX, dRaise, dDead, dCons, dNil, dVar, dC, dCB, dComp, dZip, dSeq, dOp, dIf, dB, dIfE, dNot, dAnd, dOr, dAndV, dOrV, dNotV, dSkip, dExpr, dFor, dApp, dTup, dLst, dLstO, dUn, dPar, dPar3, dAsg, dSetIx, dSl, dPart, dPart0, dRng1, dRng2, dZip3, dEnum, dEnumT, dFld, dMake, dMulA, dMulL, dChain, dNm, dTg, dGCons, dGNil, dYes, dI0, dI, dU, dEqS, eqS, dIsN, SC.isNon, dIsnotB, dAddA, dAddL, dAddLO, dMulT, dSlS, dCompO, dIn, SC.rIxD, rLenD, SC.rListD, rBools, rAbsD, rIntD, rTwo, rTupD, rTupX, rDivmodD, rGcdD, dBits, dMtF,
  startD, List.map_cons, List.map_nil, List.length_cons, List.length_nil, Nat.reduceAdd, Nat.reduceSub, List.replicate_succ, List.replicate_zero, List.cons_append, List.nil_append, List.append_nil,
  List.getElem?_cons_zero, List.getElem?_cons_succ, List.set_cons_zero, List.set_cons_succ, wipeD, atI_0, atI_1, atI_2, atI_3, atI_4, oset_same, oset_oset, true_and, and_true, ix5])
/-- the hand at p goes on, all else stays -/
def Jd (O : OH) (p : Addr) (O' : OH) : Prop := ∃ h', HandOk h' ∧ O' p = some h' ∧ ∀ q x, q ≠ p → O q = some x → O' q = some x
theorem Jd.set {O O' : OH} {p : Addr} {h2 : List D} (j : Jd O p O') (hh : HandOk h2) : Jd O p (oset O' p h2) := by
  obtain ⟨h', _, _, fr⟩ := j
  exact ⟨h2, hh, oset_same, fun q x hq hx => by rw [oset_ne hq]; exact fr q x hq hx⟩
theorem Jd.to {O O' O'' : OH} {p : Addr} {h2 : List D} (j : Jd O p O') (hh : HandOk h2) (h : O'' p = some h2) (f : ∀ q x, q ≠ p → O' q = some x → O'' q = some x) : Jd O p O'' := by
  obtain ⟨h', _, _, fr⟩ := j
  exact ⟨h2, hh, h, fun q x hq hx => f q x hq (fr q x hq hx)⟩
theorem Jd.free {O O' : OH} {p q : Addr} (j : Jd O p O') (n : O' q = none) : q ≠ p ∧ O q = none := by
  obtain ⟨h', _, hp, fr⟩ := j
  have c : q ≠ p := fun z => by rw [z, hp] at n; cases n
  refine ⟨c, ?_⟩
  cases e : O q with
  | none => rfl
  | some x => rw [fr q x c e] at n; cases n
theorem Jd.own {O O' : OH} {p q : Addr} {xs : List D} (j : Jd O p O') (c : q ≠ p) (n : O q = none) : Jd O p (oset O' q xs) := by
  obtain ⟨h', hh, hp, fr⟩ := j
  exact ⟨h', hh, by rw [oset_ne c.symm]; exact hp, fun r x hr hx => by rw [oset_ne (fun z => by rw [z, n] at hx; cases hx)]; exact fr r x hr hx⟩
theorem Jd.del {O O' : OH} {p q : Addr} (j : Jd O p O') (c : q ≠ p) (n : O q = none) : Jd O p (odel O' q) := by
  obtain ⟨h', hh, hp, fr⟩ := j
  refine ⟨h', hh, ?_, fun r x hr hx => ?_⟩
  · show (if p = q then none else O' p) = _
    rw [if_neg c.symm]; exact hp
  · show (if r = q then none else O' r) = _
    rw [if_neg (fun z => by rw [z, n] at hx; cases hx)]; exact fr r x hr hx
theorem tree_go {p : Addr} {O O' : OH} {i m r n : Nat} {k : D → OH → Prop} (j : Jd O p O') (hi : i ≤ 6) (hr : r ≤ n) (h6 : r ≤ 6) (hm : m < 2 ^ r) (hk : ∀ (f : Fo) h', f.ok i → f.cnt = m → f.dep ≤ r → HandOk h' → k f.d (oset O' p h')) : sp__law_tree (n + 1) [.own p, .int (i : Nat), .int (m : Nat), .int (r : Nat)] O' k := by
  obtain ⟨h', hh, hp, fr⟩ := j
  exact ⟨p, h', i, m, r, rfl, hp, hh, hi, hr, h6, hm, hk⟩
/-- the things that are judged -/
structure Lsd (O : OH) (p q : Addr) (xs : List D) (k : Nat) (O' : OH) : Prop where
  c : q ≠ p
  n : O q = none
  j : Jd O p O'
  o : O' q = some xs
  pq : pqL xs = true
  l : xs.length = k
theorem Lsd.set {O O' : OH} {p q : Addr} {xs h2 : List D} {n : Nat} (s : Lsd O p q xs n O') (hh : HandOk h2) : Lsd O p q xs n (oset O' p h2) :=
  ⟨s.c, s.n, s.j.set hh, by rw [oset_ne s.c]; exact s.o, s.pq, s.l⟩
theorem Lsd.app {O O' : OH} {p q : Addr} {xs : List D} {n : Nat} {d : D} (s : Lsd O p q xs n O') (hd : Lk05.pq d = true) : Lsd O p q (xs ++ [d]) (n + 1) (oset O' q (xs ++ [d])) :=
  ⟨s.c, s.n, s.j.own s.c s.n, oset_same, pq_app s.pq (by simp [pqL, hd]), by simp [s.l]⟩
theorem rd__law_judged_right : ∀ ds O (kk : D → OH → Prop), sp__law_judged_right ds O kk → bd__law_judged_right { nx := fun _ O' => kk .non O', rt := kk } (startD ["hand", "many", "formula", "some", "thing", "inputs", "room", "turn"] ds) O := by
  rintro ds O kk ⟨p, h, rfl, hO, hh, hk⟩
  have j0 : Jd O p O := ⟨h, hh, hO, fun _ _ _ hx => hx⟩
  unfold bd__law_judged_right
  refine dThen_by (fun e O' => ∃ i r : Nat, i ≤ 6 ∧ 1 ≤ r ∧ r ≤ 6 ∧ Jd O p O' ∧ e = [some (.own p), none, none, none, none, some (.int (i : Nat)), some (.int (r : Nat)), none]) (fun nx hn => ?_) ?_
  · walk_at "sc"
    refine draw_go hO hh (by decide) (by decide) fun a h1 a0 a1 hh1 => ?_
    refine ⟨s5, any_go oset_same hh1 (by simp) (by simp) fun x hx h2 hh2 => ?_⟩
    walk_at "sc"
    obtain ⟨r, rfl, r1, r2⟩ : ∃ r : Nat, x = .int (r : Nat) ∧ 1 ≤ r ∧ r ≤ 6 := by
      simp only [List.mem_cons, List.mem_nil_iff, or_false] at hx
      rcases hx with rfl | rfl | rfl | rfl | rfl | rfl | rfl
      · exact ⟨1, rfl, by decide, by decide⟩
      · exact ⟨2, rfl, by decide, by decide⟩
      · exact ⟨3, rfl, by decide, by decide⟩
      · exact ⟨4, rfl, by decide, by decide⟩
      · exact ⟨5, rfl, by decide, by decide⟩
      · exact ⟨6, rfl, by decide, by decide⟩
      · exact ⟨6, rfl, by decide, by decide⟩
    refine ⟨s5, hn _ _ ⟨a.toNat, r, by omega, r1, r2, j0.set hh2, ?_⟩⟩
    rw [show ((a.toNat : Nat) : Int) = a by omega]
  rintro e O' ⟨i, r, hi, r1, r6, j, rfl⟩
  refine dThen_by (fun e O' => ∃ m : Nat, m ≤ 12 ∧ m < 2 ^ r ∧ Jd O p O' ∧ e = [some (.own p), some (.int (m : Nat)), none, none, none, some (.int (i : Nat)), some (.int (r : Nat)), none]) (fun nx hn => ?_) ?_
  · obtain ⟨h', hh', hp, fr⟩ := id j
    walk_at "sc"
    have q1 : 1 ≤ 2 ^ r := Nat.one_le_two_pow
    have q2 : 2 ^ r ≤ 2 ^ 6 := Nat.pow_le_pow_right (by decide) (by omega)
    have cast : ((2 ^ r : Nat) : Int) = (2 : Int) ^ r := by simp
    refine two_0 ⟨by omega, by omega⟩ ?_
    rw [show ((r : Nat) : Int).toNat = r by omega, ← cast]
    generalize ht : 2 ^ r = t at *
    walk_at "sc"
    refine draw_go hp hh' (by split <;> omega) (by split <;> omega) fun a h1 a0 a1 hh1 => ?_
    refine hn _ _ ⟨a.toNat, ?_, ?_, j.set hh1, ?_⟩
    · split at a1 <;> omega
    · split at a1 <;> omega
    · rw [show ((a.toNat : Nat) : Int) = a by omega]
  clear j O'
  rintro e O' ⟨m, m12, mr, j, rfl⟩
  refine dThen_by (fun e O' => ∃ f : Fo, f.ok i ∧ f.cnt = m ∧ f.dep ≤ 6 ∧ Jd O p O' ∧ e = [some (.own p), some (.int (m : Nat)), some f.d, none, none, some (.int (i : Nat)), some (.int (r : Nat)), none]) (fun nx hn => ?_) ?_
  · walk_at "sc"
    refine tree_go j hi (by omega) r6 mr fun f h' f1 f2 f3 hh' => ?_
    exact hn _ _ ⟨f, f1, f2, by omega, j.set hh', rfl⟩
  clear j O'
  rintro e O' ⟨f, f1, f2, f3, j, rfl⟩
  refine dThen_by (fun e O'' => O'' = O' ∧ e = [some (.own p), some (.int (m : Nat)), some f.d, none, none, some (.int (i : Nat)), some (.int (r : Nat)), none]) (fun nx hn => ?_) ?_
  · walk_at "sc"
    refine ⟨i, f.d, rfl, pq_fo f, ?_⟩
    rw [fml_ok f1 f3 (by omega)]
    exact hn _ _ ⟨rfl, rfl⟩
  rintro e O'' ⟨rfl, rfl⟩
  refine dThen_by (fun e O' => ∃ q xs, Lsd O p q xs 4 O' ∧ e = [some (.own p), some (.int (m : Nat)), some f.d, some (.own q), none, some (.int (i : Nat)), some (.int (r : Nat)), none]) (fun nx hn => ?_) ?_
  · walk_at "sc"
    refine ⟨by decide, s5 (by simp [rngD]), dAcc_inv (Jd O p) (fun y => pq y = true) _ _ _ (fun d hd O' k' hJ hk' => ?_) j (fun ys O' hy hl hJ => ?_)⟩
    · obtain ⟨h', hh', hp, fr⟩ := id hJ
      walk_at "sc"
      exact ⟨p, h', i, f, rfl, hp, hh', f3, fun d' h2 O2 hd' hh2 hp2 fr2 => hk' _ _ hd' (hJ.to hh2 hp2 fr2)⟩
    · intro q hq
      rw [List.nil_append]
      obtain ⟨c, n⟩ := hJ.free hq
      exact hn _ _ ⟨q, ys, ⟨c, n, hJ.own c n, oset_same, pqL_of hy, by rw [hl, rngD_length]; rfl⟩, rfl⟩
  clear j O''
  rintro e O' ⟨q, xs, s, rfl⟩
  refine dThen_by (fun e O' => ∃ xs, Lsd O p q xs 5 O' ∧ e = [some (.own p), some (.int (m : Nat)), some f.d, some (.own q), none, some (.int (i : Nat)), some (.int (r : Nat)), none]) (fun nx hn => ?_) ?_
  · obtain ⟨h', hh', hp, fr⟩ := id s.j
    walk_at "sc"
    rw [s.o]
    refine ⟨s5, any_go hp hh' (by simp) (by simp) fun x hx h2 hh2 => ?_⟩
    obtain ⟨m', rfl, m13⟩ : ∃ m' : Nat, x = .int (m' : Nat) ∧ m' ≤ 13 := by
      simp only [List.mem_cons, List.mem_nil_iff, or_false] at hx
      rcases hx with rfl | rfl | rfl
      · exact ⟨12, rfl, by decide⟩
      · exact ⟨13, rfl, by decide⟩
      · exact ⟨13, rfl, by decide⟩
    refine tree_go (r := 5) (s.j.set hh2) hi (by decide) (by decide) (by have : (2 : Nat) ^ 5 = 32 := by decide
                                                                         omega) fun g h3 g1 g2 g3 hh3 => ?_
    have s3 := (s.set hh2).set hh3
    rw [s3.o]
    exact ⟨lt_len (by rw [s.l]; decide), hn _ _ ⟨_, s3.app (pq_fo g), rfl⟩⟩
  clear s xs O'
  rintro e O' ⟨xs, s, rfl⟩
  refine dThen_by (fun e O' => ∃ xs, Lsd O p q xs 6 O' ∧ e = [some (.own p), some (.int (m : Nat)), some f.d, some (.own q), none, some (.int (i : Nat)), some (.int (r : Nat)), none]) (fun nx hn => ?_) ?_
  · obtain ⟨h', hh', hp, fr⟩ := id s.j
    walk_at "sc"
    rw [s.o]
    refine tree_go (m := 0) (r := 0) s.j hi (by decide) (by decide) (by decide) fun g h3 g1 g2 g3 hh3 => ?_
    refine draw_go oset_same hh3 (by decide) (by decide) fun a h4 a0 a1 hh4 => ?_
    walk_at "sc"
    refine ⟨g.d, (5 + a).toNat, by rw [show (((5 + a).toNat : Nat) : Int) = 5 + a by omega], pq_fo g, by omega, fun d' hd' => ?_⟩
    have s3 := s.set hh4
    dsimp only
    rw [s3.o]
    exact ⟨lt_len (by rw [s.l]; decide), hn _ _ ⟨_, s3.app hd', rfl⟩⟩
  clear s xs O'
  rintro e O' ⟨xs, s, rfl⟩
  refine dThen_by (fun e O' => Jd O p O' ∧ ∃ x, e = [some (.own p), some (.int (m : Nat)), some f.d, some (.own q), x, some (.int (i : Nat)), some (.int (r : Nat)), none]) (fun nx hn => ?_) ?_
  · unfold dFor dSeq dFrz frzD
    walk_at "sc"
    rw [s.o]
    have jd := s.j.del s.c s.n
    have := dLoop_ind (α := D) (g := dNm 4) (body := dIf (dNot (dB (dCall sp__law_flag (dCons (dCall sp_is_formula (dCons (dVar 5) (dCons (dVar 4) (dNil)))) (dCons (dOp (dI0 fun i j => .bl (decide (i < j))) (dCall (sp__law_operations 8) (dCons (dVar 5) (dCons (dVar 4) (dCons (dC (.int 6)) (dNil))))) (dC (.int 13))) (dNil)))))) (dRet (dC (.bl false))) (dSkip)) (k := { nx := nx, rt := kk }) id (fun rest e O1 => O1 = odel O' q ∧ pqL rest = true ∧ ∃ x, e = [some (.own p), some (.int (m : Nat)), some f.d, some (.own q), x, some (.int (i : Nat)), some (.int (r : Nat)), none]) ?_ ?_ xs [some (.own p), some (.int (m : Nat)), some f.d, some (.own q), none, some (.int (i : Nat)), some (.int (r : Nat)), none] (odel O' q) ⟨rfl, s.pq, none, rfl⟩
    · rw [List.map_id] at this
      exact this
    · rintro d rest e O1 ⟨rfl, pr, x, rfl⟩ nx hx
      simp only [pqL, Bool.and_eq_true] at pr
      walk_at "sc"
      refine ⟨i, d, rfl, pr.1, i, d, 6, rfl, by decide, pr.1, ?_⟩
      walk_at "sc"
      rw [fml_law]
      refine ⟨_, _, rfl, ?_⟩
      rw [decide_eq_true rfl]
      exact hx _ _ ⟨rfl, pr.2, _, rfl⟩
    · rintro e O1 ⟨rfl, pr, x, rfl⟩
      exact hn _ _ ⟨jd, x, rfl⟩
  rintro e O1 ⟨⟨h', hh', hp, fr⟩, x, rfl⟩
  walk_at "sc"
  exact hk h' O1 hh' hp fr
end Lk05
namespace Lk05
open PySem PySem.Spec PyProof.Rows L2 SC
open Lk19 (betw tupB oneB)
variable [Cl5] [TabL] [XCx]
local macro_rules | `(tactic| walk_at "sc") => `(tactic| simp only [dThen, dSet, dRet, dCall, dCallX, dRaise, dDead, dCons, dNil, dVar, dC, dCB, dComp, dZip, dSeq, dOp, dIf, dB, dIfE, dNot, dAnd, dOr, dAndV, dOrV, dNotV, dSkip, dExpr, dFor, dApp, dTup, dLst, dLstO, dUn, dPar, dPar3, dAsg, dSetIx, dSl, dPart, dPart0, dRng1, dRng2, dZip3, dEnum, dEnumT, dFld, dMake, dMulA, dMulL, dChain, dNm, dTg, dGCons, dGNil, dYes, dI0, dI, dU, dEqS, eqS, dIsN, SC.isNon, dIsnotB, dAddA, dAddL, dAddLO, dMulT, dSlS, dCompO, dIn, SC.rIxD, rLenD, SC.rListD, rBools, rAbsD, rIntD, rTwo, rTupD, rTupX, rDivmodD, rGcdD, dBits, dMtF,
  startD, List.map_cons, List.map_nil, List.length_cons, List.length_nil, Nat.reduceAdd, Nat.reduceSub, List.replicate_succ, List.replicate_zero, List.cons_append, List.nil_append, List.append_nil,
  List.getElem?_cons_zero, List.getElem?_cons_succ, List.set_cons_zero, List.set_cons_succ, wipeD, atI_0, atI_1, atI_2, atI_3, atI_4, oset_same, oset_oset, true_and, and_true, ix5])
def resD (R : Res) (g : Int × Int → D) : D := match R with
  | .ok d => g d
  | .nought => .str "nought"
  | .beyond => .str "beyond"
theorem lam_go {R : Res} {g : Int × Int → D} {rl : (Addr → OH → Prop) → OH → (D → OH → Prop) → Prop} {O : OH} {k : D → OH → Prop} (h : ∀ kx k', outX R g k' kx O → rl kx O k') (hk : k (resD R g) O) : spl__law_told rl O k := by
  cases R with
  | ok d => exact ⟨.val (g d), fun kx k' q => h kx k' q, hk⟩
  | nought => exact ⟨.nought, fun kx k' q => h kx k' q, hk⟩
  | beyond => exact ⟨.beyond, fun kx k' q => h kx k' q, hk⟩
def PO (S : D) (e : DV) (O : OH) : Prop := ∃ (p : Addr) (h : List D) (x2 x3 x4 x5 x6 x7 x8 x9 x10 x11 x12 : Option D), HandOk h ∧ O p = some h ∧ e = [some S, some (.own p), x2, x3, x4, x5, x6, x7, x8, x9, x10, x11, x12]
/-- what a turn has drawn -/
structure Dr (i r : Nat) (F : Fm) (f : Fo) : Prop where
  i1 : 1 ≤ i
  i6 : i ≤ 6
  F : F.ok
  ok : f.ok i
  dep : f.dep ≤ 6
  cnt : f.cnt ≤ 12
def eR (S : D) (p : Addr) (x2 x4 x9 x10 x11 x12 : Option D) (i r : Nat) (F : Fm) (f : Fo) : DV := [some S, some (.own p), x2, some f.d, x4, some (.int (i : Nat)), some (spD F), some (fmD F), some (.int (r : Nat)), x9, x10, x11, x12]
theorem due_go {F : Fm} (hF : F.ok) {w : Way} {r : Rw} {f : Fo} {O : OH} {k : D → OH → Prop} {g : Int × Int → D} {sp : DSp} (hg : ∀ d, inF F d → k (g d) O → sp [frQ (val d)] O k) (h : k (resD (evF F w r f) g) O) :
    SC.rIsiK Cl5.K [resQ (evF F w r f), .ty "str"] O fun d O1 => match d with
      | .bl true => k (resQ (evF F w r f)) O1
      | .bl false => sp [resQ (evF F w r f)] O1 k
      | _ => False := by
  cases e : evF F w r f with
  | ok d =>
    rw [e] at h
    exact isi_go (by simp [resQ, frQ, pq, pqL]) hstr (hg d (evF_in hF e) h)
  | nought => rw [e] at h; exact isi_go rfl hstr h
  | beyond => rw [e] at h; exact isi_go rfl hstr h
theorem again_go {S : D} {p : Addr} {h : List D} {O : OH} {i r : Nat} {F : Fm} {f : Fo} {x2 x4 x9 x10 x11 x12 : Option D} {kk : D → OH → Prop} {nx : DV → OH → Prop} (hO : O p = some h) (hh : HandOk h) (D0 : Dr i r F f)
    (hn : ∀ h' O' x9 x10 x11 x12, HandOk h' → O' p = some h' → nx (eR S p x2 x4 x9 x10 x11 x12 i r F f) O') {bk ct : DV → OH → Prop} {body : DS}
    (hb : body = dThen (dAsg (dTup (dCons (dCall sp__law_row (dCons (dVar 1) (dCons (dVar 5) (dNil)))) (dCons (dCall sp__law_any (dCons (dVar 1) (dCons (dLst (dCons (dC (.str "up")) (dCons (dC (.str "down")) (dCons (dC (.str "cut")) (dCons (dC (.str "near")) (dCons (dC (.str "far")) (dNil))))))) (dNil)))) (dNil)))) (dTg 2 (dGCons (dNm 11) (dGCons (dNm 12) (dGNil))))) (dThen (dSet 9 (dCall (sp__law_run 9) (dCons (dVar 6) (dCons (dVar 12) (dCons (dVar 3) (dCons (dVar 11) (dNil))))))) (dThen (dSet 10 (dLam (fun ex => dCallX spx_run ex (dCons (dVar 7) (dCons (dVar 12) (dCons (dVar 3) (dCons (dVar 11) (dNil)))))) spl__law_told)) (dThen (dIf (dNot (dB (dCall (sp__law_is 2) (dCons (dVar 10) (dCons (dIfE (dB (dCB (rIsiK Cl5.K) (dCons (dVar 9) (dCons (dC (.ty "str")) (dNil))))) (dVar 9) (dCall sp__law_dyad (dCons (dVar 9) (dNil)))) (dNil)))))) (dRet (dC (.bl false))) (dSkip)) (dThen (dSet 10 (dLam (fun ex => dCallX spx_whole_of ex (dCons (dVar 7) (dCons (dVar 12) (dCons (dVar 3) (dCons (dVar 11) (dNil)))))) spl__law_told)) (dThen (dIf (dNot (dB (dCall (sp__law_is 2) (dCons (dVar 10) (dCons (dIfE (dB (dCB (rIsiK Cl5.K) (dCons (dVar 9) (dCons (dC (.ty "str")) (dNil))))) (dVar 9) (dCall sp__law_whole (dCons (dVar 9) (dNil)))) (dNil)))))) (dRet (dC (.bl false))) (dSkip)) (dIf (dB (dOp (dEqQ fun r => !r) (dLam (fun ex => dCallX spx_run ex (dCons (dVar 7) (dCons (dVar 12) (dCons (dVar 3) (dCons (dVar 11) (dNil)))))) spl__law_told) (dIfE (dB (dCB (rIsiK Cl5.K) (dCons (dVar 9) (dCons (dC (.ty "str")) (dNil))))) (dVar 9) (dCall sp__law_dyad (dCons (dVar 9) (dNil)))))) (dRet (dC (.bl false))) (dSkip)))))))) :
    body { nx := nx, rt := kk, bk := bk, ct := ct } (eR S p x2 x4 x9 x10 x11 x12 i r F f) O := by
  subst hb
  obtain ⟨i1, i6, hF, hok, hdep, hcnt⟩ := D0
  unfold eR at *
  refine dThen_by (fun e O' => ∃ (h' : List D) (R : Rw) (w : Way), HandOk h' ∧ O' p = some h' ∧ R.length = i ∧ okRw R ∧ e = [some S, some (.own p), x2, some f.d, x4, some (.int (i : Nat)), some (spD F), some (fmD F), some (.int (r : Nat)), x9, x10, some (rwD R), some (.str w.s)]) (fun nx hn => ?_) ?_
  · walk_at "sc"
    refine ⟨p, h, i, rfl, hO, hh, i1, i6, fun R h1 hl hR hh1 => ?_⟩
    walk_at "sc"
    refine ⟨s5, any_go oset_same hh1 (by simp) (by simp) fun x hx h2 hh2 => ?_⟩
    walk_at "sc"
    obtain ⟨w, rfl⟩ : ∃ w : Way, x = .str w.s := by
      simp only [List.mem_cons, List.mem_nil_iff, or_false] at hx
      rcases hx with h | h | h | h | h
      · exact ⟨.up, h⟩
      · exact ⟨.down, h⟩
      · exact ⟨.cut, h⟩
      · exact ⟨.near, h⟩
      · exact ⟨.far, h⟩
    exact ⟨s5, hn _ _ ⟨h2, R, w, hh2, oset_same, hl, hR, rfl⟩⟩
  clear hO hh
  rintro e O' ⟨h', R, w, hh', hO', hl, hR, rfl⟩
  have ho : f.ok R.length := by rw [hl]; exact hok
  have run : ∀ kx k', outX (evF F w R f) dyD k' kx O' → spx_run [fmD F, .str w.s, f.d, rwD R] O' k' kx := fun kx k' q => ⟨F, w, f, R, rfl, hF, ho, hR, hdep, hcnt, q⟩
  have whole : ∀ kx k', outX (evF F w R f) intD k' kx O' → spx_whole_of [fmD F, .str w.s, f.d, rwD R] O' k' kx := fun kx k' q => ⟨F, w, f, R, rfl, hF, ho, hR, hdep, hcnt, q⟩
  walk_at "sc"
  refine ⟨F, w, f, R, rfl, hF, ho, hR, by show f.dep ≤ 8; omega, ?_⟩
  unfold dLam
  walk_at "sc"
  have fin : ∀ x9 x10 x11 x12, nx [some S, some (.own p), x2, some f.d, x4, some (.int (i : Nat)), some (spD F), some (fmD F), some (.int (r : Nat)), x9, x10, x11, x12] O' := fun x9 x10 x11 x12 => hn h' O' x9 x10 x11 x12 hh' hO'
  have word : ∀ s : Str, PyData.strOk s = true → ∀ k : D → OH → Prop, k (.bl false) O' → dEqQ (fun r => !r) (.str s) (.str s) O' k := fun s hs k hk => by
    refine ⟨⟨hs, hs⟩, ?_⟩
    show k (.bl (!strEq s s)) O'
    rw [strEq_eq, decide_eq_true rfl]
    exact hk
  cases hE : evF F w R f with
  | ok d =>
    rw [hE] at run whole
    have hi := evF_in hF hE
    have pz : pq (resQ (.ok d)) = true := by simp [resQ, frQ, pq, pqL]
    refine lam_go run (isi_go pz hstr ⟨d, rfl, hi.nrm, hi.sm hF, dyD d, rfl, .pair 0 _ _, ?_⟩)
    refine lam_go whole (isi_go pz hstr ⟨val d, rfl, (hi.sm hF).sq.up (by decide), intD d, rfl, .int 1 _, ?_⟩)
    refine lam_go run (isi_go pz hstr ⟨d, rfl, hi.nrm, hi.sm hF, ?_⟩)
    refine ⟨⟨trivial, trivial⟩, ?_⟩
    dsimp only [resD]
    rw [decide_eq_true (rfl : d.1 = d.1), decide_eq_true (rfl : d.2 = d.2)]
    exact fin _ _ _ _
  | nought =>
    rw [hE] at run whole
    refine lam_go run (isi_go rfl hstr ⟨.str "nought", rfl, .str 1 _, ?_⟩)
    refine lam_go whole (isi_go rfl hstr ⟨.str "nought", rfl, .str 1 _, ?_⟩)
    refine lam_go run (isi_go rfl hstr (word "nought" (by decide +kernel) _ (fin _ _ _ _)))
  | beyond =>
    rw [hE] at run whole
    refine lam_go run (isi_go rfl hstr ⟨.str "beyond", rfl, .str 1 _, ?_⟩)
    refine lam_go whole (isi_go rfl hstr ⟨.str "beyond", rfl, .str 1 _, ?_⟩)
    refine lam_go run (isi_go rfl hstr (word "beyond" (by decide +kernel) _ (fin _ _ _ _)))
theorem turn_go {S : D} {kk : D → OH → Prop} {nx : DV → OH → Prop} (hn : ∀ e O, PO S e O → nx e O) {bk ct : DV → OH → Prop} {body : DS}
    (hb : body = dThen (dIf (dNot (dB (dCall sp__law_judged_right (dCons (dVar 1) (dNil))))) (dRet (dC (.bl false))) (dSkip)) (dThen (dPar 5 6 (dCons (dOp dAddA (dC (.int 1)) (dCall sp__law_draw (dCons (dVar 1) (dCons (dC (.int 6)) (dNil))))) (dCons (dCall sp__law_spec (dCons (dVar 1) (dNil))) (dNil)))) (dThen (dAsg (dTup (dCons (dMake Cl5.cF (["bits", "low", "high"] : List Str) FmtP (dCons (dOp rIxD (dVar 6) (dC (.int 0))) (dCons (dOp rIxD (dVar 6) (dC (.int 1))) (dCons (dOp rIxD (dVar 6) (dC (.int 2))) (dNil))))) (dCons (dCall sp__law_any (dCons (dVar 1) (dCons (dLst (dCons (dC (.int 0)) (dCons (dC (.int 1)) (dCons (dC (.int 2)) (dCons (dC (.int 2)) (dCons (dC (.int 3)) (dCons (dC (.int 4)) (dCons (dC (.int 6)) (dNil))))))))) (dNil)))) (dNil)))) (dTg 2 (dGCons (dNm 7) (dGCons (dNm 8) (dGNil))))) (dThen (dSet 3 (dCall (sp__law_tree 8) (dCons (dVar 1) (dCons (dVar 5) (dCons (dCall sp__law_draw (dCons (dVar 1) (dCons (dOp dAddA (dCB (rTwo fun i j => if j < i then j else i) (dCons (dC (.int 12)) (dCons (dOp (dI0 fun i j => .int (i - j)) (dCall sp__law_two (dCons (dVar 8) (dNil))) (dC (.int 1))) (dNil)))) (dC (.int 1))) (dNil)))) (dCons (dVar 8) (dNil))))))) (dFor (dRng1 (dC (.int 3))) (dNm 4) (dThen (dAsg (dTup (dCons (dCall sp__law_row (dCons (dVar 1) (dCons (dVar 5) (dNil)))) (dCons (dCall sp__law_any (dCons (dVar 1) (dCons (dLst (dCons (dC (.str "up")) (dCons (dC (.str "down")) (dCons (dC (.str "cut")) (dCons (dC (.str "near")) (dCons (dC (.str "far")) (dNil))))))) (dNil)))) (dNil)))) (dTg 2 (dGCons (dNm 11) (dGCons (dNm 12) (dGNil))))) (dThen (dSet 9 (dCall (sp__law_run 9) (dCons (dVar 6) (dCons (dVar 12) (dCons (dVar 3) (dCons (dVar 11) (dNil))))))) (dThen (dSet 10 (dLam (fun ex => dCallX spx_run ex (dCons (dVar 7) (dCons (dVar 12) (dCons (dVar 3) (dCons (dVar 11) (dNil)))))) spl__law_told)) (dThen (dIf (dNot (dB (dCall (sp__law_is 2) (dCons (dVar 10) (dCons (dIfE (dB (dCB (rIsiK Cl5.K) (dCons (dVar 9) (dCons (dC (.ty "str")) (dNil))))) (dVar 9) (dCall sp__law_dyad (dCons (dVar 9) (dNil)))) (dNil)))))) (dRet (dC (.bl false))) (dSkip)) (dThen (dSet 10 (dLam (fun ex => dCallX spx_whole_of ex (dCons (dVar 7) (dCons (dVar 12) (dCons (dVar 3) (dCons (dVar 11) (dNil)))))) spl__law_told)) (dThen (dIf (dNot (dB (dCall (sp__law_is 2) (dCons (dVar 10) (dCons (dIfE (dB (dCB (rIsiK Cl5.K) (dCons (dVar 9) (dCons (dC (.ty "str")) (dNil))))) (dVar 9) (dCall sp__law_whole (dCons (dVar 9) (dNil)))) (dNil)))))) (dRet (dC (.bl false))) (dSkip)) (dIf (dB (dOp (dEqQ fun r => !r) (dLam (fun ex => dCallX spx_run ex (dCons (dVar 7) (dCons (dVar 12) (dCons (dVar 3) (dCons (dVar 11) (dNil)))))) spl__law_told) (dIfE (dB (dCB (rIsiK Cl5.K) (dCons (dVar 9) (dCons (dC (.ty "str")) (dNil))))) (dVar 9) (dCall sp__law_dyad (dCons (dVar 9) (dNil)))))) (dRet (dC (.bl false))) (dSkip))))))))))))) :
    ∀ e O, PO S e O → body { nx := nx, rt := kk, bk := bk, ct := ct } e O := by
  rintro e O ⟨p, h, x2, x3, x4, x5, x6, x7, x8, x9, x10, x11, x12, hh, hO, rfl⟩
  subst hb
  refine dThen_by (fun e O => ∃ h, HandOk h ∧ O p = some h ∧ e = [some S, some (.own p), x2, x3, x4, x5, x6, x7, x8, x9, x10, x11, x12]) (fun nx hn => ?_) ?_
  · walk_at "sc"
    exact ⟨p, h, rfl, hO, hh, fun h' O' hh' hp fr => hn _ _ ⟨h', hh', hp, rfl⟩⟩
  clear hh hO h
  rintro e O ⟨h, hh, hO, rfl⟩
  refine dThen_by (fun e O => ∃ (i : Nat) (F : Fm) (h : List D), 1 ≤ i ∧ i ≤ 6 ∧ F.ok ∧ HandOk h ∧ O p = some h ∧ e = [some S, some (.own p), x2, x3, x4, some (.int (i : Nat)), some (spD F), x7, x8, x9, x10, x11, x12]) (fun nx hn => ?_) ?_
  · walk_at "sc"
    refine draw_go hO hh (by decide) (by decide) fun a h1 a0 a1 hh1 => ?_
    walk_at "sc"
    refine ⟨p, h1, rfl, oset_same, hh1, fun F h2 hF hh2 => ?_⟩
    walk_at "sc"
    refine hn _ _ ⟨(1 + a).toNat, F, h2, by omega, by omega, hF, hh2, oset_same, ?_⟩
    rw [show (((1 + a).toNat : Nat) : Int) = 1 + a by omega]
  clear hh hO h
  rintro e O ⟨i, F, h, i1, i6, hF, hh, hO, rfl⟩
  refine dThen_by (fun e O => ∃ (r : Nat) (h : List D), r ≤ 6 ∧ HandOk h ∧ O p = some h ∧ e = [some S, some (.own p), x2, x3, x4, some (.int (i : Nat)), some (spD F), some (fmD F), some (.int (r : Nat)), x9, x10, x11, x12]) (fun nx hn => ?_) ?_
  · unfold spD
    walk_at "sc"
    refine ⟨⟨F, hF, rfl⟩, s5, ?_⟩
    refine any_go (xs := [.int 0, .int 1, .int 2, .int 2, .int 3, .int 4, .int 6]) hO hh (by simp) (by simp) ?_
    intro x hx h2 hh2
    obtain ⟨r, rfl, r6⟩ : ∃ r : Nat, x = .int (r : Nat) ∧ r ≤ 6 := by
      simp only [List.mem_cons, List.mem_nil_iff, or_false] at hx
      rcases hx with rfl | rfl | rfl | rfl | rfl | rfl | rfl
      · exact ⟨0, rfl, by decide⟩
      · exact ⟨1, rfl, by decide⟩
      · exact ⟨2, rfl, by decide⟩
      · exact ⟨2, rfl, by decide⟩
      · exact ⟨3, rfl, by decide⟩
      · exact ⟨4, rfl, by decide⟩
      · exact ⟨6, rfl, by decide⟩
    exact ⟨s5, hn _ _ ⟨r, h2, r6, hh2, oset_same, rfl⟩⟩
  clear hh hO h
  rintro e O ⟨r, h, r6, hh, hO, rfl⟩
  refine dThen_by (fun e O => ∃ (f : Fo) (h : List D), Dr i r F f ∧ HandOk h ∧ O p = some h ∧ e = eR S p x2 x4 x9 x10 x11 x12 i r F f) (fun nx hn => ?_) ?_
  · walk_at "sc"
    have q1 : 1 ≤ 2 ^ r := Nat.one_le_two_pow
    have q2 : 2 ^ r ≤ 2 ^ 6 := Nat.pow_le_pow_right (by decide) (by omega)
    have cast : ((2 ^ r : Nat) : Int) = (2 : Int) ^ r := by simp
    refine two_0 ⟨by omega, by omega⟩ ?_
    rw [show ((r : Nat) : Int).toNat = r by omega, ← cast]
    have j : Jd O p O := ⟨h, hh, hO, fun _ _ _ hx => hx⟩
    obtain ⟨t, ht⟩ : ∃ t, t = 2 ^ r := ⟨_, rfl⟩
    rw [← ht] at q1 q2 ⊢
    walk_at "sc"
    refine draw_go hO hh (by split <;> omega) (by split <;> omega) fun a h1 a0 a1 hh1 => ?_
    have a2 : a.toNat ≤ 12 ∧ a.toNat < t := by split at a1 <;> omega
    have g := tree_go (n := 7) (k := fun d O => nx [some S, some (.own p), x2, some d, x4, some (.int (i : Nat)), some (spD F), some (fmD F), some (.int (r : Nat)), x9, x10, x11, x12] O) (j.set hh1) i6 (by omega) r6 (by rw [← ht]; exact a2.2) fun f h' f1 f2 f3 hh' => hn _ _ ⟨f, h', ⟨i1, i6, hF, f1, by omega, by omega⟩, hh', oset_same, rfl⟩
    rw [show ((a.toNat : Nat) : Int) = a by omega] at g
    exact g
  clear hh hO h
  rintro e O ⟨f, h, D0, hh, hO, rfl⟩
  unfold dFor dRng1
  refine (?_ : (-(2 ^ 62) ≤ (3 : Int) ∧ (3 : Int) < 2 ^ 62) ∧ _)
  refine ⟨by decide, ?_⟩
  refine dLoop_ind (α := Nat) (fun i => .int (0 + (i : Int))) (fun rest e O' => ∃ (h : List D) (x4 x9 x10 x11 x12 : Option D), HandOk h ∧ O' p = some h ∧ e = eR S p x2 x4 x9 x10 x11 x12 i r F f) ?_ ?_ (List.range 3) _ O ⟨h, x4, x9, x10, x11, x12, hh, hO, rfl⟩
  · rintro j rest e O' ⟨h, x4, x9, x10, x11, x12, hh, hO, rfl⟩ nx hx
    exact again_go hO hh D0 (fun h' O' x9 x10 x11 x12 hh' hO' => hx _ _ ⟨h', some (.int (0 + (j : Int))), x9, x10, x11, x12, hh', hO', rfl⟩) rfl
  · rintro e O' ⟨h, x4, x9, x10, x11, x12, hh, hO, rfl⟩
    exact hn _ _ ⟨p, h, x2, some f.d, x4, _, _, _, _, x9, x10, x11, x12, hh, hO, rfl⟩
theorem rd_law : ∀ ds O (kk : D → OH → Prop), sp_law ds O kk → bd_law { nx := fun _ O' => kk .non O', rt := kk } (startD ["script", "hand", "turn", "formula", "again", "inputs", "spec", "form", "room", "due", "told", "row", "way"] ds) O := by
  rintro ds O kk ⟨ns, rfl, hl, hk⟩
  unfold bd_law
  refine dThen_by (PO (.fz (ns.map .int))) (fun nx hn => ?_) fun e O' hP => dThen_by (PO (.fz (ns.map .int))) (fun nx hn => ?_) (fun e O' hP => ?_) (e := e) (O := O')
  · walk_at "sc"
    exact ⟨ns, rfl, hl, fun p h np hh => hn _ _ ⟨p, h, none, none, none, none, none, none, none, none, none, none, none, hh, oset_same, rfl⟩⟩
  · unfold dFor dRng1
    refine (?_ : (-(2 ^ 62) ≤ (2 : Int) ∧ (2 : Int) < 2 ^ 62) ∧ _)
    refine ⟨by decide, ?_⟩
    refine dLoop_ind (α := Nat) (fun i => .int (0 + (i : Int))) (fun rest e O' => PO (.fz (ns.map .int)) e O') ?_ (fun e O' hP => hn e O' hP) (List.range 2) e O' hP
    rintro i rest e O' ⟨p, h, x2, x3, x4, x5, x6, x7, x8, x9, x10, x11, x12, hh, hO, rfl⟩ nx hn
    exact turn_go hn rfl _ _ ⟨p, h, some (.int (0 + (i : Int))), x3, x4, x5, x6, x7, x8, x9, x10, x11, x12, hh, hO, rfl⟩
  · walk_at "sc"
    exact hk _
end Lk05
namespace Lk05
open PySem PySem.Spec PyProof.Rows L2 SC
/-! ### the text -/
def topS (i : Nat) : Stmt := PySem.Challenge.pw_steadycraft_k05_whole_formulas_judged_an.main.body.getD i (.Pass ⟨0, 0, 0, 0⟩)
abbrev s_is_integer : Stmt := topS 10
abbrev s_is_between : Stmt := topS 11
abbrev s_is_tuple : Stmt := topS 12
abbrev s_is_pair : Stmt := topS 13
abbrev s_is_one_of : Stmt := topS 14
abbrev s_is_fraction : Stmt := topS 15
abbrev s_is_row : Stmt := topS 16
abbrev s_is_way : Stmt := topS 20
abbrev s_scaled : Stmt := topS 21
abbrev s_parts : Stmt := topS 22
abbrev s_whole_near : Stmt := topS 23
abbrev s_under : Stmt := topS 24
abbrev s_shaped : Stmt := topS 25
abbrev s_stepped : Stmt := topS 26
abbrev s_one_more : Stmt := topS 27
abbrev s_negated : Stmt := topS 28
abbrev s_goes_outward : Stmt := topS 29
abbrev s_settled : Stmt := topS 30
abbrev s_exact : Stmt := topS 31
abbrev s_worked : Stmt := topS 32
abbrev s_is_formula : Stmt := topS 37
abbrev s_operations : Stmt := topS 38
abbrev s_is_leaf : Stmt := topS 39
abbrev s_is_number_told : Stmt := topS 40
abbrev s_fraction_of : Stmt := topS 41
abbrev s_result : Stmt := topS 42
abbrev s_whole_result : Stmt := topS 43
abbrev s_check_run : Stmt := topS 44
abbrev s_run : Stmt := topS 45
abbrev s_whole_of : Stmt := topS 46
abbrev s__law_hand : Stmt := topS 48
abbrev s__law_draw : Stmt := topS 49
abbrev s__law_any : Stmt := topS 50
abbrev s__law_is_int : Stmt := topS 51
abbrev s__law_flag : Stmt := topS 52
abbrev s__law_deep : Stmt := topS 53
abbrev s__law_low : Stmt := topS 54
abbrev s__law_two : Stmt := topS 55
abbrev s__law_worth : Stmt := topS 56
abbrev s__law_dyad : Stmt := topS 57
abbrev s__law_beside : Stmt := topS 58
abbrev s__law_minus : Stmt := topS 59
abbrev s__law_rounded : Stmt := topS 60
abbrev s__law_exact : Stmt := topS 61
abbrev s__law_run : Stmt := topS 62
abbrev s__law_whole : Stmt := topS 63
abbrev s__law_spec : Stmt := topS 64
abbrev s__law_tree : Stmt := topS 65
abbrev s__law_row : Stmt := topS 66
abbrev s__law_is_value : Stmt := topS 67
abbrev s__law_operations : Stmt := topS 68
abbrev s__law_is : Stmt := topS 69
abbrev s__law_told : Stmt := topS 70
abbrev s__law_with : Stmt := topS 71
abbrev s__law_path : Stmt := topS 72
abbrev s__law_deeper : Stmt := topS 73
abbrev s__law_bent : Stmt := topS 74
abbrev s__law_judged_right : Stmt := topS 75
abbrev s_law : Stmt := topS 76
theorem sc_is_integer : FnScope ["thing"] ["thing"] (defScope s_is_integer) := ⟨rfl, rfl, rfl, by decide +kernel, rfl, by decide +kernel, by decide +kernel⟩
theorem sc_is_between : FnScope ["least", "most", "thing"] ["least", "most", "thing"] (defScope s_is_between) := ⟨rfl, rfl, rfl, by decide +kernel, rfl, by decide +kernel, by decide +kernel⟩
theorem sc_is_tuple : FnScope ["least", "most", "thing"] ["least", "most", "thing"] (defScope s_is_tuple) := ⟨rfl, rfl, rfl, by decide +kernel, rfl, by decide +kernel, by decide +kernel⟩
theorem sc_is_pair : FnScope ["thing"] ["thing"] (defScope s_is_pair) := ⟨rfl, rfl, rfl, by decide +kernel, rfl, by decide +kernel, by decide +kernel⟩
theorem sc_is_one_of : FnScope ["words", "thing"] ["words", "thing"] (defScope s_is_one_of) := ⟨rfl, rfl, rfl, by decide +kernel, rfl, by decide +kernel, by decide +kernel⟩
theorem sc_is_fraction : FnScope ["thing"] ["thing"] (defScope s_is_fraction) := ⟨rfl, rfl, rfl, by decide +kernel, rfl, by decide +kernel, by decide +kernel⟩
theorem sc_is_row : FnScope ["fewest", "many", "least", "most", "thing", "item"] ["fewest", "many", "least", "most", "thing"] (defScope s_is_row) := ⟨rfl, rfl, rfl, by decide +kernel, rfl, by decide +kernel, by decide +kernel⟩
theorem sc_is_way : FnScope ["thing"] ["thing"] (defScope s_is_way) := ⟨rfl, rfl, rfl, by decide +kernel, rfl, by decide +kernel, by decide +kernel⟩
theorem sc_scaled : FnScope ["many", "by"] ["many", "by"] (defScope s_scaled) := ⟨rfl, rfl, rfl, by decide +kernel, rfl, by decide +kernel, by decide +kernel⟩
theorem sc_parts : FnScope ["dyad", "many", "step"] ["dyad"] (defScope s_parts) := ⟨rfl, rfl, rfl, by decide +kernel, rfl, by decide +kernel, by decide +kernel⟩
theorem sc_whole_near : FnScope ["dyad", "top", "bottom", "many", "rest"] ["dyad"] (defScope s_whole_near) := ⟨rfl, rfl, rfl, by decide +kernel, rfl, by decide +kernel, by decide +kernel⟩
theorem sc_under : FnScope ["one", "other", "many", "step", "others", "steps"] ["one", "other"] (defScope s_under) := ⟨rfl, rfl, rfl, by decide +kernel, rfl, by decide +kernel, by decide +kernel⟩
theorem sc_shaped : FnScope ["many", "step", "spare"] ["many", "step"] (defScope s_shaped) := ⟨rfl, rfl, rfl, by decide +kernel, rfl, by decide +kernel, by decide +kernel⟩
theorem sc_stepped : FnScope ["format", "top", "bottom", "log", "step", "many", "rest"] ["format", "top", "bottom"] (defScope s_stepped) := ⟨rfl, rfl, rfl, by decide +kernel, rfl, by decide +kernel, by decide +kernel⟩
theorem sc_one_more : FnScope ["format", "many", "step"] ["format", "many", "step"] (defScope s_one_more) := ⟨rfl, rfl, rfl, by decide +kernel, rfl, by decide +kernel, by decide +kernel⟩
theorem sc_negated : FnScope ["dyad"] ["dyad"] (defScope s_negated) := ⟨rfl, rfl, rfl, by decide +kernel, rfl, by decide +kernel, by decide +kernel⟩
theorem sc_goes_outward : FnScope ["way", "top", "many", "past_half"] ["way", "top", "many", "past_half"] (defScope s_goes_outward) := ⟨rfl, rfl, rfl, by decide +kernel, rfl, by decide +kernel, by decide +kernel⟩
theorem sc_settled : FnScope ["format", "way", "top", "bottom", "dyad", "step", "many", "rest", "more"] ["format", "way", "top", "bottom"] (defScope s_settled) := ⟨rfl, rfl, rfl, by decide +kernel, rfl, by decide +kernel, by decide +kernel⟩
theorem sc_exact : FnScope ["word", "one", "other", "top", "others", "many", "step", "steps"] ["word", "one", "other"] (defScope s_exact) := ⟨rfl, rfl, rfl, by decide +kernel, rfl, by decide +kernel, by decide +kernel⟩
theorem sc_worked : FnScope ["format", "way", "word", "one", "other", "top", "bottom"] ["format", "way", "word", "one", "other"] (defScope s_worked) := ⟨rfl, rfl, rfl, by decide +kernel, rfl, by decide +kernel, by decide +kernel⟩
theorem sc_is_formula : FnScope ["inputs", "thing", "many"] ["inputs", "thing"] (defScope s_is_formula) := ⟨rfl, rfl, rfl, by decide +kernel, rfl, by decide +kernel, by decide +kernel⟩
theorem sc_operations : FnScope ["inputs", "thing", "deep", "one", "other"] ["inputs", "thing", "deep"] (defScope s_operations) := ⟨rfl, rfl, rfl, by decide +kernel, rfl, by decide +kernel, by decide +kernel⟩
theorem sc_is_leaf : FnScope ["inputs", "thing", "word", "value"] ["inputs", "thing"] (defScope s_is_leaf) := ⟨rfl, rfl, rfl, by decide +kernel, rfl, by decide +kernel, by decide +kernel⟩
theorem sc_is_number_told : FnScope ["value"] ["value"] (defScope s_is_number_told) := ⟨rfl, rfl, rfl, by decide +kernel, rfl, by decide +kernel, by decide +kernel⟩
theorem sc_fraction_of : FnScope ["value"] ["value"] (defScope s_fraction_of) := ⟨rfl, rfl, rfl, by decide +kernel, rfl, by decide +kernel, by decide +kernel⟩
theorem sc_result : FnScope ["format", "way", "formula", "row", "word", "one", "other", "top", "bottom"] ["format", "way", "formula", "row"] (defScope s_result) := ⟨rfl, rfl, rfl, by decide +kernel, rfl, by decide +kernel, by decide +kernel⟩
theorem sc_whole_result : FnScope ["format", "way", "formula", "row"] ["format", "way", "formula", "row"] (defScope s_whole_result) := ⟨rfl, rfl, rfl, by decide +kernel, rfl, by decide +kernel, by decide +kernel⟩
theorem sc_check_run : FnScope ["way", "formula", "row"] ["way", "formula", "row"] (defScope s_check_run) := ⟨rfl, rfl, rfl, by decide +kernel, rfl, by decide +kernel, by decide +kernel⟩
theorem sc_run : FnScope ["format", "way", "formula", "row"] ["format", "way", "formula", "row"] (defScope s_run) := ⟨rfl, rfl, rfl, by decide +kernel, rfl, by decide +kernel, by decide +kernel⟩
theorem sc_whole_of : FnScope ["format", "way", "formula", "row"] ["format", "way", "formula", "row"] (defScope s_whole_of) := ⟨rfl, rfl, rfl, by decide +kernel, rfl, by decide +kernel, by decide +kernel⟩
theorem sc__law_hand : FnScope ["script", "cells", "cell"] ["script"] (defScope s__law_hand) := ⟨rfl, rfl, rfl, by decide +kernel, rfl, by decide +kernel, by decide +kernel⟩
theorem sc__law_draw : FnScope ["hand", "many", "number", "cell", "digit"] ["hand", "many"] (defScope s__law_draw) := ⟨rfl, rfl, rfl, by decide +kernel, rfl, by decide +kernel, by decide +kernel⟩
theorem sc__law_any : FnScope ["hand", "some"] ["hand", "some"] (defScope s__law_any) := ⟨rfl, rfl, rfl, by decide +kernel, rfl, by decide +kernel, by decide +kernel⟩
theorem sc__law_is_int : FnScope ["thing", "least", "most"] ["thing", "least", "most"] (defScope s__law_is_int) := ⟨rfl, rfl, rfl, by decide +kernel, rfl, by decide +kernel, by decide +kernel⟩
theorem sc__law_flag : FnScope ["told", "due"] ["told", "due"] (defScope s__law_flag) := ⟨rfl, rfl, rfl, by decide +kernel, rfl, by decide +kernel, by decide +kernel⟩
theorem sc__law_deep : FnScope ["hand", "thing", "turn"] ["hand", "thing"] (defScope s__law_deep) := ⟨rfl, rfl, rfl, by decide +kernel, rfl, by decide +kernel, by decide +kernel⟩
theorem sc__law_low : FnScope ["top", "bottom", "one", "other"] ["top", "bottom"] (defScope s__law_low) := ⟨rfl, rfl, rfl, by decide +kernel, rfl, by decide +kernel, by decide +kernel⟩
theorem sc__law_two : FnScope ["many", "found", "turn"] ["many"] (defScope s__law_two) := ⟨rfl, rfl, rfl, by decide +kernel, rfl, by decide +kernel, by decide +kernel⟩
theorem sc__law_worth : FnScope ["dyad"] ["dyad"] (defScope s__law_worth) := ⟨rfl, rfl, rfl, by decide +kernel, rfl, by decide +kernel, by decide +kernel⟩
theorem sc__law_dyad : FnScope ["value", "top", "bottom", "many"] ["value"] (defScope s__law_dyad) := ⟨rfl, rfl, rfl, by decide +kernel, rfl, by decide +kernel, by decide +kernel⟩
theorem sc__law_beside : FnScope ["spec", "value", "is_above", "most", "at", "bits", "low", "high", "top", "bottom", "found", "many", "beyond_it", "under_v"] ["spec", "value", "is_above"] (defScope s__law_beside) := ⟨rfl, rfl, rfl, by decide +kernel, rfl, by decide +kernel, by decide +kernel⟩
theorem sc__law_minus : FnScope ["one", "other"] ["one", "other"] (defScope s__law_minus) := ⟨rfl, rfl, rfl, by decide +kernel, rfl, by decide +kernel, by decide +kernel⟩
theorem sc__law_rounded : FnScope ["spec", "value", "way", "step", "by_times", "one", "other", "here", "there"] ["spec", "value", "way"] (defScope s__law_rounded) := ⟨rfl, rfl, rfl, by decide +kernel, rfl, by decide +kernel, by decide +kernel⟩
theorem sc__law_exact : FnScope ["word", "one", "other", "is_less", "sign"] ["word", "one", "other"] (defScope s__law_exact) := ⟨rfl, rfl, rfl, by decide +kernel, rfl, by decide +kernel, by decide +kernel⟩
theorem sc__law_run : FnScope ["spec", "way", "formula", "row", "one", "other", "exact_v", "found", "value"] ["spec", "way", "formula", "row"] (defScope s__law_run) := ⟨rfl, rfl, rfl, by decide +kernel, rfl, by decide +kernel, by decide +kernel⟩
theorem sc__law_whole : FnScope ["value", "twice", "found"] ["value"] (defScope s__law_whole) := ⟨rfl, rfl, rfl, by decide +kernel, rfl, by decide +kernel, by decide +kernel⟩
theorem sc__law_spec : FnScope ["hand", "way", "low"] ["hand"] (defScope s__law_spec) := ⟨rfl, rfl, rfl, by decide +kernel, rfl, by decide +kernel, by decide +kernel⟩
theorem sc__law_tree : FnScope ["hand", "inputs", "many", "room", "most", "least", "left", "word", "one", "some"] ["hand", "inputs", "many", "room"] (defScope s__law_tree) := ⟨rfl, rfl, rfl, by decide +kernel, rfl, by decide +kernel, by decide +kernel⟩
theorem sc__law_row : FnScope ["hand", "inputs", "some", "axis"] ["hand", "inputs"] (defScope s__law_row) := ⟨rfl, rfl, rfl, by decide +kernel, rfl, by decide +kernel, by decide +kernel⟩
theorem sc__law_is_value : FnScope ["thing"] ["thing"] (defScope s__law_is_value) := ⟨rfl, rfl, rfl, by decide +kernel, rfl, by decide +kernel, by decide +kernel⟩
theorem sc__law_operations : FnScope ["inputs", "thing", "room"] ["inputs", "thing", "room"] (defScope s__law_operations) := ⟨rfl, rfl, rfl, by decide +kernel, rfl, by decide +kernel, by decide +kernel⟩
theorem sc__law_is : FnScope ["told", "due", "at"] ["told", "due"] (defScope s__law_is) := ⟨rfl, rfl, rfl, by decide +kernel, rfl, by decide +kernel, by decide +kernel⟩
theorem sc__law_told : FnScope ["call", "word", "flags", "is_one"] ["call"] (defScope s__law_told) := ⟨rfl, rfl, rfl, by decide +kernel, rfl, by decide +kernel, by decide +kernel⟩
theorem sc__law_with : FnScope ["formula", "path", "made", "at"] ["formula", "path", "made"] (defScope s__law_with) := ⟨rfl, rfl, rfl, by decide +kernel, rfl, by decide +kernel, by decide +kernel⟩
theorem sc__law_path : FnScope ["hand", "formula", "path", "here"] ["hand", "formula"] (defScope s__law_path) := ⟨rfl, rfl, rfl, by decide +kernel, rfl, by decide +kernel, by decide +kernel⟩
theorem sc__law_deeper : FnScope ["formula", "many", "turn"] ["formula", "many"] (defScope s__law_deeper) := ⟨rfl, rfl, rfl, by decide +kernel, rfl, by decide +kernel, by decide +kernel⟩
theorem sc__law_bent : FnScope ["hand", "inputs", "formula", "some", "values", "path", "here", "value"] ["hand", "inputs", "formula"] (defScope s__law_bent) := ⟨rfl, rfl, rfl, by decide +kernel, rfl, by decide +kernel, by decide +kernel⟩
theorem sc__law_judged_right : FnScope ["hand", "many", "formula", "some", "thing", "inputs", "room", "turn"] ["hand"] (defScope s__law_judged_right) := ⟨rfl, rfl, rfl, by decide +kernel, rfl, by decide +kernel, by decide +kernel⟩
theorem sc_law : FnScope ["script", "hand", "turn", "formula", "again", "inputs", "spec", "form", "room", "due", "told", "row", "way"] ["script"] (defScope s_law) := ⟨rfl, rfl, rfl, by decide +kernel, rfl, by decide +kernel, by decide +kernel⟩
/-- what the top has left -/
structure Tx (K : PySem.W.Frag) (mg : Str → Option Value) where
  a_is_integer : Addr
  d_is_integer : FuncData
  f_is_integer : Fun K "is_integer" "is_integer" s_is_integer a_is_integer d_is_integer
  b_is_integer : Binds K d_is_integer ["thing"] []
  m_is_integer : mg "is_integer" = some (.ref a_is_integer)
  a_is_between : Addr
  d_is_between : FuncData
  f_is_between : Fun K "is_between" "is_between" s_is_between a_is_between d_is_between
  b_is_between : Binds K d_is_between ["least", "most", "thing"] []
  m_is_between : mg "is_between" = some (.ref a_is_between)
  a_is_tuple : Addr
  d_is_tuple : FuncData
  f_is_tuple : Fun K "is_tuple" "is_tuple" s_is_tuple a_is_tuple d_is_tuple
  b_is_tuple : Binds K d_is_tuple ["least", "most", "thing"] []
  m_is_tuple : mg "is_tuple" = some (.ref a_is_tuple)
  a_is_pair : Addr
  d_is_pair : FuncData
  f_is_pair : Fun K "is_pair" "is_pair" s_is_pair a_is_pair d_is_pair
  b_is_pair : Binds K d_is_pair ["thing"] []
  m_is_pair : mg "is_pair" = some (.ref a_is_pair)
  a_is_one_of : Addr
  d_is_one_of : FuncData
  f_is_one_of : Fun K "is_one_of" "is_one_of" s_is_one_of a_is_one_of d_is_one_of
  b_is_one_of : Binds K d_is_one_of ["words", "thing"] []
  m_is_one_of : mg "is_one_of" = some (.ref a_is_one_of)
  a_is_fraction : Addr
  d_is_fraction : FuncData
  f_is_fraction : Fun K "is_fraction" "is_fraction" s_is_fraction a_is_fraction d_is_fraction
  b_is_fraction : Binds K d_is_fraction ["thing"] []
  m_is_fraction : mg "is_fraction" = some (.ref a_is_fraction)
  a_is_row : Addr
  d_is_row : FuncData
  f_is_row : Fun K "is_row" "is_row" s_is_row a_is_row d_is_row
  b_is_row : Binds K d_is_row ["fewest", "many", "least", "most", "thing"] []
  m_is_row : mg "is_row" = some (.ref a_is_row)
  a_is_way : Addr
  d_is_way : FuncData
  f_is_way : Fun K "is_way" "is_way" s_is_way a_is_way d_is_way
  b_is_way : Binds K d_is_way ["thing"] []
  m_is_way : mg "is_way" = some (.ref a_is_way)
  a_scaled : Addr
  d_scaled : FuncData
  f_scaled : Fun K "scaled" "scaled" s_scaled a_scaled d_scaled
  b_scaled : Binds K d_scaled ["many", "by"] []
  m_scaled : mg "scaled" = some (.ref a_scaled)
  a_parts : Addr
  d_parts : FuncData
  f_parts : Fun K "parts" "parts" s_parts a_parts d_parts
  b_parts : Binds K d_parts ["dyad"] []
  m_parts : mg "parts" = some (.ref a_parts)
  a_whole_near : Addr
  d_whole_near : FuncData
  f_whole_near : Fun K "whole_near" "whole_near" s_whole_near a_whole_near d_whole_near
  b_whole_near : Binds K d_whole_near ["dyad"] []
  m_whole_near : mg "whole_near" = some (.ref a_whole_near)
  a_under : Addr
  d_under : FuncData
  f_under : Fun K "under" "under" s_under a_under d_under
  b_under : Binds K d_under ["one", "other"] []
  m_under : mg "under" = some (.ref a_under)
  a_shaped : Addr
  d_shaped : FuncData
  f_shaped : Fun K "shaped" "shaped" s_shaped a_shaped d_shaped
  b_shaped : Binds K d_shaped ["many", "step"] []
  m_shaped : mg "shaped" = some (.ref a_shaped)
  a_stepped : Addr
  d_stepped : FuncData
  f_stepped : Fun K "stepped" "stepped" s_stepped a_stepped d_stepped
  b_stepped : Binds K d_stepped ["format", "top", "bottom"] []
  m_stepped : mg "stepped" = some (.ref a_stepped)
  a_one_more : Addr
  d_one_more : FuncData
  f_one_more : Fun K "one_more" "one_more" s_one_more a_one_more d_one_more
  b_one_more : Binds K d_one_more ["format", "many", "step"] []
  m_one_more : mg "one_more" = some (.ref a_one_more)
  a_negated : Addr
  d_negated : FuncData
  f_negated : Fun K "negated" "negated" s_negated a_negated d_negated
  b_negated : Binds K d_negated ["dyad"] []
  m_negated : mg "negated" = some (.ref a_negated)
  a_goes_outward : Addr
  d_goes_outward : FuncData
  f_goes_outward : Fun K "goes_outward" "goes_outward" s_goes_outward a_goes_outward d_goes_outward
  b_goes_outward : Binds K d_goes_outward ["way", "top", "many", "past_half"] []
  m_goes_outward : mg "goes_outward" = some (.ref a_goes_outward)
  a_settled : Addr
  d_settled : FuncData
  f_settled : Fun K "settled" "settled" s_settled a_settled d_settled
  b_settled : Binds K d_settled ["format", "way", "top", "bottom"] []
  m_settled : mg "settled" = some (.ref a_settled)
  a_exact : Addr
  d_exact : FuncData
  f_exact : Fun K "exact" "exact" s_exact a_exact d_exact
  b_exact : Binds K d_exact ["word", "one", "other"] []
  m_exact : mg "exact" = some (.ref a_exact)
  a_worked : Addr
  d_worked : FuncData
  f_worked : Fun K "worked" "worked" s_worked a_worked d_worked
  b_worked : Binds K d_worked ["format", "way", "word", "one", "other"] []
  m_worked : mg "worked" = some (.ref a_worked)
  a_is_number_told : Addr
  d_is_number_told : FuncData
  f_is_number_told : Fun K "is_number_told" "is_number_told" s_is_number_told a_is_number_told d_is_number_told
  b_is_number_told : Binds K d_is_number_told ["value"] []
  m_is_number_told : mg "is_number_told" = some (.ref a_is_number_told)
  a_is_leaf : Addr
  d_is_leaf : FuncData
  f_is_leaf : Fun K "is_leaf" "is_leaf" s_is_leaf a_is_leaf d_is_leaf
  b_is_leaf : Binds K d_is_leaf ["inputs", "thing"] []
  m_is_leaf : mg "is_leaf" = some (.ref a_is_leaf)
  a_operations : Addr
  d_operations : FuncData
  f_operations : Fun K "operations" "operations" s_operations a_operations d_operations
  b_operations : Binds K d_operations ["inputs", "thing", "deep"] []
  m_operations : mg "operations" = some (.ref a_operations)
  a_is_formula : Addr
  d_is_formula : FuncData
  f_is_formula : Fun K "is_formula" "is_formula" s_is_formula a_is_formula d_is_formula
  b_is_formula : Binds K d_is_formula ["inputs", "thing"] []
  m_is_formula : mg "is_formula" = some (.ref a_is_formula)
  a_fraction_of : Addr
  d_fraction_of : FuncData
  f_fraction_of : Fun K "fraction_of" "fraction_of" s_fraction_of a_fraction_of d_fraction_of
  b_fraction_of : Binds K d_fraction_of ["value"] []
  m_fraction_of : mg "fraction_of" = some (.ref a_fraction_of)
  a_result : Addr
  d_result : FuncData
  f_result : Fun K "result" "result" s_result a_result d_result
  b_result : Binds K d_result ["format", "way", "formula", "row"] []
  m_result : mg "result" = some (.ref a_result)
  a_whole_result : Addr
  d_whole_result : FuncData
  f_whole_result : Fun K "whole_result" "whole_result" s_whole_result a_whole_result d_whole_result
  b_whole_result : Binds K d_whole_result ["format", "way", "formula", "row"] []
  m_whole_result : mg "whole_result" = some (.ref a_whole_result)
  a_check_run : Addr
  d_check_run : FuncData
  f_check_run : Fun K "check_run" "check_run" s_check_run a_check_run d_check_run
  b_check_run : Binds K d_check_run ["way", "formula", "row"] []
  m_check_run : mg "check_run" = some (.ref a_check_run)
  a_run : Addr
  d_run : FuncData
  f_run : Fun K "run" "run" s_run a_run d_run
  b_run : Binds K d_run ["format", "way", "formula", "row"] []
  m_run : mg "run" = some (.ref a_run)
  a_whole_of : Addr
  d_whole_of : FuncData
  f_whole_of : Fun K "whole_of" "whole_of" s_whole_of a_whole_of d_whole_of
  b_whole_of : Binds K d_whole_of ["format", "way", "formula", "row"] []
  m_whole_of : mg "whole_of" = some (.ref a_whole_of)
  a__law_hand : Addr
  d__law_hand : FuncData
  f__law_hand : Fun K "_law_hand" "_law_hand" s__law_hand a__law_hand d__law_hand
  b__law_hand : Binds K d__law_hand ["script"] []
  m__law_hand : mg "_law_hand" = some (.ref a__law_hand)
  a__law_draw : Addr
  d__law_draw : FuncData
  f__law_draw : Fun K "_law_draw" "_law_draw" s__law_draw a__law_draw d__law_draw
  b__law_draw : Binds K d__law_draw ["hand", "many"] []
  m__law_draw : mg "_law_draw" = some (.ref a__law_draw)
  a__law_any : Addr
  d__law_any : FuncData
  f__law_any : Fun K "_law_any" "_law_any" s__law_any a__law_any d__law_any
  b__law_any : Binds K d__law_any ["hand", "some"] []
  m__law_any : mg "_law_any" = some (.ref a__law_any)
  a__law_is_int : Addr
  d__law_is_int : FuncData
  f__law_is_int : Fun K "_law_is_int" "_law_is_int" s__law_is_int a__law_is_int d__law_is_int
  b__law_is_int : Binds K d__law_is_int ["thing", "least", "most"] []
  m__law_is_int : mg "_law_is_int" = some (.ref a__law_is_int)
  a__law_flag : Addr
  d__law_flag : FuncData
  f__law_flag : Fun K "_law_flag" "_law_flag" s__law_flag a__law_flag d__law_flag
  b__law_flag : Binds K d__law_flag ["told", "due"] []
  m__law_flag : mg "_law_flag" = some (.ref a__law_flag)
  a__law_deep : Addr
  d__law_deep : FuncData
  f__law_deep : Fun K "_law_deep" "_law_deep" s__law_deep a__law_deep d__law_deep
  b__law_deep : Binds K d__law_deep ["hand", "thing"] []
  m__law_deep : mg "_law_deep" = some (.ref a__law_deep)
  a__law_low : Addr
  d__law_low : FuncData
  f__law_low : Fun K "_law_low" "_law_low" s__law_low a__law_low d__law_low
  b__law_low : Binds K d__law_low ["top", "bottom"] []
  m__law_low : mg "_law_low" = some (.ref a__law_low)
  a__law_two : Addr
  d__law_two : FuncData
  f__law_two : Fun K "_law_two" "_law_two" s__law_two a__law_two d__law_two
  b__law_two : Binds K d__law_two ["many"] []
  m__law_two : mg "_law_two" = some (.ref a__law_two)
  a__law_worth : Addr
  d__law_worth : FuncData
  f__law_worth : Fun K "_law_worth" "_law_worth" s__law_worth a__law_worth d__law_worth
  b__law_worth : Binds K d__law_worth ["dyad"] []
  m__law_worth : mg "_law_worth" = some (.ref a__law_worth)
  a__law_dyad : Addr
  d__law_dyad : FuncData
  f__law_dyad : Fun K "_law_dyad" "_law_dyad" s__law_dyad a__law_dyad d__law_dyad
  b__law_dyad : Binds K d__law_dyad ["value"] []
  m__law_dyad : mg "_law_dyad" = some (.ref a__law_dyad)
  a__law_beside : Addr
  d__law_beside : FuncData
  f__law_beside : Fun K "_law_beside" "_law_beside" s__law_beside a__law_beside d__law_beside
  b__law_beside : Binds K d__law_beside ["spec", "value", "is_above"] []
  m__law_beside : mg "_law_beside" = some (.ref a__law_beside)
  a__law_minus : Addr
  d__law_minus : FuncData
  f__law_minus : Fun K "_law_minus" "_law_minus" s__law_minus a__law_minus d__law_minus
  b__law_minus : Binds K d__law_minus ["one", "other"] []
  m__law_minus : mg "_law_minus" = some (.ref a__law_minus)
  a__law_rounded : Addr
  d__law_rounded : FuncData
  f__law_rounded : Fun K "_law_rounded" "_law_rounded" s__law_rounded a__law_rounded d__law_rounded
  b__law_rounded : Binds K d__law_rounded ["spec", "value", "way"] []
  m__law_rounded : mg "_law_rounded" = some (.ref a__law_rounded)
  a__law_exact : Addr
  d__law_exact : FuncData
  f__law_exact : Fun K "_law_exact" "_law_exact" s__law_exact a__law_exact d__law_exact
  b__law_exact : Binds K d__law_exact ["word", "one", "other"] []
  m__law_exact : mg "_law_exact" = some (.ref a__law_exact)
  a__law_run : Addr
  d__law_run : FuncData
  f__law_run : Fun K "_law_run" "_law_run" s__law_run a__law_run d__law_run
  b__law_run : Binds K d__law_run ["spec", "way", "formula", "row"] []
  m__law_run : mg "_law_run" = some (.ref a__law_run)
  a__law_whole : Addr
  d__law_whole : FuncData
  f__law_whole : Fun K "_law_whole" "_law_whole" s__law_whole a__law_whole d__law_whole
  b__law_whole : Binds K d__law_whole ["value"] []
  m__law_whole : mg "_law_whole" = some (.ref a__law_whole)
  a__law_spec : Addr
  d__law_spec : FuncData
  f__law_spec : Fun K "_law_spec" "_law_spec" s__law_spec a__law_spec d__law_spec
  b__law_spec : Binds K d__law_spec ["hand"] []
  m__law_spec : mg "_law_spec" = some (.ref a__law_spec)
  a__law_tree : Addr
  d__law_tree : FuncData
  f__law_tree : Fun K "_law_tree" "_law_tree" s__law_tree a__law_tree d__law_tree
  b__law_tree : Binds K d__law_tree ["hand", "inputs", "many", "room"] []
  m__law_tree : mg "_law_tree" = some (.ref a__law_tree)
  a__law_row : Addr
  d__law_row : FuncData
  f__law_row : Fun K "_law_row" "_law_row" s__law_row a__law_row d__law_row
  b__law_row : Binds K d__law_row ["hand", "inputs"] []
  m__law_row : mg "_law_row" = some (.ref a__law_row)
  a__law_is_value : Addr
  d__law_is_value : FuncData
  f__law_is_value : Fun K "_law_is_value" "_law_is_value" s__law_is_value a__law_is_value d__law_is_value
  b__law_is_value : Binds K d__law_is_value ["thing"] []
  m__law_is_value : mg "_law_is_value" = some (.ref a__law_is_value)
  a__law_operations : Addr
  d__law_operations : FuncData
  f__law_operations : Fun K "_law_operations" "_law_operations" s__law_operations a__law_operations d__law_operations
  b__law_operations : Binds K d__law_operations ["inputs", "thing", "room"] []
  m__law_operations : mg "_law_operations" = some (.ref a__law_operations)
  a__law_is : Addr
  d__law_is : FuncData
  f__law_is : Fun K "_law_is" "_law_is" s__law_is a__law_is d__law_is
  b__law_is : Binds K d__law_is ["told", "due"] []
  m__law_is : mg "_law_is" = some (.ref a__law_is)
  a__law_told : Addr
  d__law_told : FuncData
  f__law_told : Fun K "_law_told" "_law_told" s__law_told a__law_told d__law_told
  b__law_told : Binds K d__law_told ["call"] []
  m__law_told : mg "_law_told" = some (.ref a__law_told)
  a__law_with : Addr
  d__law_with : FuncData
  f__law_with : Fun K "_law_with" "_law_with" s__law_with a__law_with d__law_with
  b__law_with : Binds K d__law_with ["formula", "path", "made"] []
  m__law_with : mg "_law_with" = some (.ref a__law_with)
  a__law_path : Addr
  d__law_path : FuncData
  f__law_path : Fun K "_law_path" "_law_path" s__law_path a__law_path d__law_path
  b__law_path : Binds K d__law_path ["hand", "formula"] []
  m__law_path : mg "_law_path" = some (.ref a__law_path)
  a__law_deeper : Addr
  d__law_deeper : FuncData
  f__law_deeper : Fun K "_law_deeper" "_law_deeper" s__law_deeper a__law_deeper d__law_deeper
  b__law_deeper : Binds K d__law_deeper ["formula", "many"] []
  m__law_deeper : mg "_law_deeper" = some (.ref a__law_deeper)
  a__law_bent : Addr
  d__law_bent : FuncData
  f__law_bent : Fun K "_law_bent" "_law_bent" s__law_bent a__law_bent d__law_bent
  b__law_bent : Binds K d__law_bent ["hand", "inputs", "formula"] []
  m__law_bent : mg "_law_bent" = some (.ref a__law_bent)
  a__law_judged_right : Addr
  d__law_judged_right : FuncData
  f__law_judged_right : Fun K "_law_judged_right" "_law_judged_right" s__law_judged_right a__law_judged_right d__law_judged_right
  b__law_judged_right : Binds K d__law_judged_right ["hand"] []
  m__law_judged_right : mg "_law_judged_right" = some (.ref a__law_judged_right)
  a_law : Addr
  d_law : FuncData
  f_law : Fun K "law" "law" s_law a_law d_law
  b_law : Binds K d_law ["script"] []
  m_law : mg "law" = some (.ref a_law)
  a_WAYS : Addr
  m_WAYS : mg "WAYS" = some (.ref a_WAYS)
  r_WAYS : ∀ F, Rep K F (.ref a_WAYS) c_WAYS
  a_WORDS : Addr
  m_WORDS : mg "WORDS" = some (.ref a_WORDS)
  r_WORDS : ∀ F, Rep K F (.ref a_WORDS) c_WORDS
  z_abs : mg "abs" = none
  z_all : mg "all" = none
  z_bool : mg "bool" = none
  z_divmod : mg "divmod" = none
  z_int : mg "int" = none
  z_isinstance : mg "isinstance" = none
  z_len : mg "len" = none
  z_list : mg "list" = none
  z_max : mg "max" = none
  z_min : mg "min" = none
  z_range : mg "range" = none
  z_str : mg "str" = none
  z_tuple : mg "tuple" = none
  m_FARTHEST : ∃ t, mg "FARTHEST" = some (.int 10000 t)
  m_MOST_INPUTS : ∃ t, mg "MOST_INPUTS" = some (.int 6 t)
  g_gcd : mg "gcd" = some (.builtin "math.gcd")
end Lk05
namespace Lk05
open PySem PySem.Spec PyProof.Rows L2 SC
variable [TabL] [XCx] [Cl5] {P : Program} {w : World} {mg : Str → Option Value} {base : Heap}
theorem hu64 {A : Around} {k : Nat} (hr : Room k A) : A.units + 64 < cLine := by have := hr.un; omega
theorem ok_is_integer (T : Tx Cl5.K mg) : FnOk P w Cl5.K mg base CX0 1 T.a_is_integer T.d_is_integer ["thing"] (upSp Cl5.K sp_is_integer) :=
  okD T.f_is_integer sc_is_integer ln_is_integer fun cdv A outer s H E hr => ⟨bd_is_integer, pbd_one (psd_ret (pd_and (pd_callB call_isi cd_isiK (by rfl) T.z_isinstance boot_isinstance (pad_cons (pd_v 0) (pad_cons (pd_tyc (by rfl) T.z_int boot_int) (pad_nil)))) (pd_one (pd_not (pd_callB call_isi cd_isiK (by rfl) T.z_isinstance boot_isinstance (pad_cons (pd_v 0) (pad_cons (pd_tyc (by rfl) T.z_bool boot_bool) (pad_nil)))))))), rd_is_integer⟩
theorem ok_is_between (T : Tx Cl5.K mg) : FnOk P w Cl5.K mg base CX0 2 T.a_is_between T.d_is_between ["least", "most", "thing"] (upSp Cl5.K sp_is_between) :=
  okD T.f_is_between sc_is_between ln_is_between fun cdv A outer s H E hr => ⟨bd_is_between, pbd_one (psd_ret (pd_and (pd_callF (ok_is_integer T) (hr.mono (by decide)) (by rfl) T.m_is_integer T.f_is_integer.kp T.b_is_integer (pad_cons (pd_v 2) (pad_nil))) (pd_one (pd_lele (pd_v 0) (pd_v 2) (pd_v 1))))), rd_is_between⟩
theorem ok_is_tuple (T : Tx Cl5.K mg) : FnOk P w Cl5.K mg base CX0 1 T.a_is_tuple T.d_is_tuple ["least", "most", "thing"] (upSp Cl5.K sp_is_tuple) :=
  okD T.f_is_tuple sc_is_tuple ln_is_tuple fun cdv A outer s H E hr => ⟨bd_is_tuple, pbd_one (psd_ret (pd_and (pd_callB call_isi cd_isiK (by rfl) T.z_isinstance boot_isinstance (pad_cons (pd_v 2) (pad_cons (pd_tyc (by rfl) T.z_tuple boot_tuple) (pad_nil)))) (pd_one (pd_lele (pd_v 0) (pd_callB call_len_seq cd_len (by rfl) T.z_len boot_len (pad_cons (pd_v 2) (pad_nil))) (pd_v 1))))), rd_is_tuple⟩
theorem ok_is_pair (T : Tx Cl5.K mg) : FnOk P w Cl5.K mg base CX0 2 T.a_is_pair T.d_is_pair ["thing"] (upSp Cl5.K sp_is_pair) :=
  okD T.f_is_pair sc_is_pair ln_is_pair fun cdv A outer s H E hr => ⟨bd_is_pair, pbd_one (psd_ret (pd_callF (ok_is_tuple T) (hr.mono (by decide)) (by rfl) T.m_is_tuple T.f_is_tuple.kp T.b_is_tuple (pad_cons (pd_int) (pad_cons (pd_int) (pad_cons (pd_v 0) (pad_nil)))))), rd_is_pair⟩
theorem ok_is_one_of (T : Tx Cl5.K mg) : FnOk P w Cl5.K mg base CX0 1 T.a_is_one_of T.d_is_one_of ["words", "thing"] (upSp Cl5.K sp_is_one_of) :=
  okD T.f_is_one_of sc_is_one_of ln_is_one_of fun cdv A outer s H E hr => ⟨bd_is_one_of, pbd_one (psd_ret (pd_and (pd_callB call_isi cd_isiK (by rfl) T.z_isinstance boot_isinstance (pad_cons (pd_v 1) (pad_cons (pd_tyc (by rfl) T.z_str boot_str) (pad_nil)))) (pd_one (pd_in (pd_v 1) (pd_v 0))))), rd_is_one_of⟩
theorem ok_is_fraction (T : Tx Cl5.K mg) : FnOk P w Cl5.K mg base CX0 3 T.a_is_fraction T.d_is_fraction ["thing"] (upSp Cl5.K sp_is_fraction) :=
  okD T.f_is_fraction sc_is_fraction ln_is_fraction fun cdv A outer s H E hr => ⟨bd_is_fraction, pbd_cons (psd_if (ptd_w (pwd_or (ptd_not (ptd_val (pd_callF (ok_is_pair T) (hr.mono (by decide)) (by rfl) T.m_is_pair T.f_is_pair.kp T.b_is_pair (pad_cons (pd_v 0) (pad_nil))))) (pwd_or (ptd_not (ptd_val (pd_callF (ok_is_integer T) (hr.mono (by decide)) (by rfl) T.m_is_integer T.f_is_integer.kp T.b_is_integer (pad_cons (pd_ix ix_seq od_ix (pd_v 0) (pd_int)) (pad_nil))))) (pwd_or1 (ptd_not (ptd_val (pd_callF (ok_is_integer T) (hr.mono (by decide)) (by rfl) T.m_is_integer T.f_is_integer.kp T.b_is_integer (pad_cons (pd_ix ix_seq od_ix (pd_v 0) (pd_int)) (pad_nil))))))))) (pbd_one (psd_ret (pd_bl))) (pbd_nil)) (pbd_one (psd_ret (pd_and (pd_gt (pd_ix ix_seq od_ix (pd_v 0) (pd_int)) (pd_int)) (pd_one (pd_eq (pd_callM cr_gcd cd_gcd (by rfl) T.g_gcd (pad_cons (pd_ix ix_seq od_ix (pd_v 0) (pd_int)) (pad_cons (pd_ix ix_seq od_ix (pd_v 0) (pd_int)) (pad_nil)))) (pd_int)))))), rd_is_fraction⟩
theorem ok_is_row (T : Tx Cl5.K mg) : FnOk P w Cl5.K mg base CX0 3 T.a_is_row T.d_is_row ["fewest", "many", "least", "most", "thing"] (upSp Cl5.K sp_is_row) :=
  okD T.f_is_row sc_is_row ln_is_row fun cdv A outer s H E hr => ⟨bd_is_row, pbd_one (psd_ret (pd_and (pd_callF (ok_is_tuple T) (hr.mono (by decide)) (by rfl) T.m_is_tuple T.f_is_tuple.kp T.b_is_tuple (pad_cons (pd_v 0) (pad_cons (pd_v 1) (pad_cons (pd_v 4) (pad_nil))))) (pd_one (pd_callB (cr_all rfl) cd_bools (by rfl) T.z_all boot_all (pad_cons (pd_lc (own := [("item", 5)]) rfl sc_is_row.nd (pid_seq (pd_v 4)) (blkOk_by (by dsimp only [cxOf, Cx.nox, Cx.wish, Cx.blk, compEnvC, envOfC, relabel_S]; decide +kernel)) (by decide) (fun _ _ _ _ _ => pgd_name (i := 5) sc_is_row.nd rfl (by first | exact .inl rfl | exact .inr rfl)) (fun _ _ _ _ _ => ptsd_nil) (fun _ _ _ _ _ => pd_callF (ok_is_between T) (hr.mono (by decide)) (by rfl) T.m_is_between T.f_is_between.kp T.b_is_between (pad_cons (pd_v 2) (pad_cons (pd_v 3) (pad_cons (pd_v 5) (pad_nil)))))) (pad_nil)))))), rd_is_row⟩
theorem ok_is_way (T : Tx Cl5.K mg) : FnOk P w Cl5.K mg base CX0 2 T.a_is_way T.d_is_way ["thing"] (upSp Cl5.K sp_is_way) :=
  okD T.f_is_way sc_is_way ln_is_way fun cdv A outer s H E hr => ⟨bd_is_way, pbd_one (psd_ret (pd_callF (ok_is_one_of T) (hr.mono (by decide)) (by rfl) T.m_is_one_of T.f_is_one_of.kp T.b_is_one_of (pad_cons (pd_c (pe_glob (v := .ref T.a_WAYS) (by rfl) T.m_WAYS rfl) T.r_WAYS) (pad_cons (pd_v 0) (pad_nil))))), rd_is_way⟩
theorem ok_scaled (T : Tx Cl5.K mg) : FnOk P w Cl5.K mg base CX0 1 T.a_scaled T.d_scaled ["many", "by"] (upSp Cl5.K sp_scaled) :=
  okD T.f_scaled sc_scaled ln_scaled fun cdv A outer s H E hr => ⟨bd_scaled, pbd_one (psd_ret (pd_ifE (ptd_gt (pd_v 1) (pd_int)) (pd_shlS (pd_v 0) (pd_v 1)) (pd_v 0))), rd_scaled⟩
theorem ok_parts (T : Tx Cl5.K mg) : FnOk P w Cl5.K mg base CX0 2 T.a_parts T.d_parts ["dyad"] (upSp Cl5.K sp_parts) :=
  okD T.f_parts sc_parts ln_parts fun cdv A outer s H E hr => ⟨bd_parts, pbd_cons (psd_asg (pd_v 0) (pgd_tup (K := Cl5.K) rfl (pgds_cons (pgd_name (i := 1) sc_parts.nd rfl (by first | exact .inl rfl | exact .inr rfl)) (pgds_cons (pgd_name (i := 2) sc_parts.nd rfl (by first | exact .inl rfl | exact .inr rfl)) (pgds_nil))))) (pbd_one (psd_ret (pd_tup (pad_cons (pd_callF (ok_scaled T) (hr.mono (by decide)) (by rfl) T.m_scaled T.f_scaled.kp T.b_scaled (pad_cons (pd_v 1) (pad_cons (pd_v 2) (pad_nil)))) (pad_cons (pd_callF (ok_scaled T) (hr.mono (by decide)) (by rfl) T.m_scaled T.f_scaled.kp T.b_scaled (pad_cons (pd_int) (pad_cons (pd_neg (pd_v 2)) (pad_nil)))) (pad_nil)))))), rd_parts⟩
theorem ok_whole_near (T : Tx Cl5.K mg) : FnOk P w Cl5.K mg base CX0 3 T.a_whole_near T.d_whole_near ["dyad"] (upSp Cl5.K sp_whole_near) :=
  okD T.f_whole_near sc_whole_near ln_whole_near fun cdv A outer s H E hr => ⟨bd_whole_near, pbd_cons (psd_asg (pd_callF (ok_parts T) (hr.mono (by decide)) (by rfl) T.m_parts T.f_parts.kp T.b_parts (pad_cons (pd_v 0) (pad_nil))) (pgd_tup (K := Cl5.K) rfl (pgds_cons (pgd_name (i := 1) sc_whole_near.nd rfl (by first | exact .inl rfl | exact .inr rfl)) (pgds_cons (pgd_name (i := 2) sc_whole_near.nd rfl (by first | exact .inl rfl | exact .inr rfl)) (pgds_nil))))) (pbd_cons (psd_asg (pd_callB call_divmodW cd_divmod (by rfl) T.z_divmod boot_divmod (pad_cons (pd_v 1) (pad_cons (pd_v 2) (pad_nil)))) (pgd_tup (K := Cl5.K) rfl (pgds_cons (pgd_name (i := 3) sc_whole_near.nd rfl (by first | exact .inl rfl | exact .inr rfl)) (pgds_cons (pgd_name (i := 4) sc_whole_near.nd rfl (by first | exact .inl rfl | exact .inr rfl)) (pgds_nil))))) (pbd_cons (psd_if (ptd_w (pwd_or (ptd_gt (pd_mulS (pd_int) (pd_v 4)) (pd_v 2)) (pwd_or1 (ptd_w (pwd_and (ptd_eq (pd_mulS (pd_int) (pd_v 4)) (pd_v 2)) (pwd_and1 (ptd_eq (pd_band (pd_v 3) (pd_int)) (pd_int)))))))) (pbd_one (psd_ret (pd_addA (pd_v 3) (pd_int)))) (pbd_nil)) (pbd_one (psd_ret (pd_v 3))))), rd_whole_near⟩
theorem ok_under (T : Tx Cl5.K mg) : FnOk P w Cl5.K mg base CX0 2 T.a_under T.d_under ["one", "other"] (upSp Cl5.K sp_under) :=
  okD T.f_under sc_under ln_under fun cdv A outer s H E hr => ⟨bd_under, pbd_cons (psd_asg (pd_tup (pad_cons (pd_v 0) (pad_cons (pd_v 1) (pad_nil)))) (pgd_tup (K := Cl5.K) rfl (pgds_cons (pgd_tup (K := Cl5.K) rfl (pgds_cons (pgd_name (i := 2) sc_under.nd rfl (by first | exact .inl rfl | exact .inr rfl)) (pgds_cons (pgd_name (i := 3) sc_under.nd rfl (by first | exact .inl rfl | exact .inr rfl)) (pgds_nil)))) (pgds_cons (pgd_tup (K := Cl5.K) rfl (pgds_cons (pgd_name (i := 4) sc_under.nd rfl (by first | exact .inl rfl | exact .inr rfl)) (pgds_cons (pgd_name (i := 5) sc_under.nd rfl (by first | exact .inl rfl | exact .inr rfl)) (pgds_nil)))) (pgds_nil))))) (pbd_one (psd_ret (pd_lt (pd_callF (ok_scaled T) (hr.mono (by decide)) (by rfl) T.m_scaled T.f_scaled.kp T.b_scaled (pad_cons (pd_v 2) (pad_cons (pd_sub (pd_v 3) (pd_v 5)) (pad_nil)))) (pd_callF (ok_scaled T) (hr.mono (by decide)) (by rfl) T.m_scaled T.f_scaled.kp T.b_scaled (pad_cons (pd_v 4) (pad_cons (pd_sub (pd_v 5) (pd_v 3)) (pad_nil))))))), rd_under⟩
theorem ok_shaped (T : Tx Cl5.K mg) : FnOk P w Cl5.K mg base CX0 1 T.a_shaped T.d_shaped ["many", "step"] (upSp Cl5.K sp_shaped) :=
  okD T.f_shaped sc_shaped ln_shaped fun cdv A outer s H E hr => ⟨bd_shaped, pbd_cons (psd_if (ptd_eq (pd_v 0) (pd_int)) (pbd_one (psd_ret (pd_tup (pad_cons (pd_int) (pad_cons (pd_int) (pad_nil)))))) (pbd_nil)) (pbd_cons (psd_set (i := 2) sc_shaped.nd rfl (by first | exact .inl rfl | exact .inr rfl) (pd_sub (pd_bits (pd_band (pd_v 0) (pd_neg (pd_v 0)))) (pd_int))) (pbd_one (psd_ret (pd_tup (pad_cons (pd_shr (pd_v 0) (pd_v 2)) (pad_cons (pd_addA (pd_v 1) (pd_v 2)) (pad_nil))))))), rd_shaped⟩
theorem ok_stepped (T : Tx Cl5.K mg) : FnOk P w Cl5.K mg base CX0 2 T.a_stepped T.d_stepped ["format", "top", "bottom"] (upSp Cl5.K sp_stepped) :=
  okD T.f_stepped sc_stepped ln_stepped fun cdv A outer s H E hr => ⟨bd_stepped, pbd_cons (psd_set (i := 3) sc_stepped.nd rfl (by first | exact .inl rfl | exact .inr rfl) (pd_sub (pd_bits (pd_v 1)) (pd_bits (pd_v 2)))) (pbd_cons (psd_if (ptd_lt (pd_callF (ok_scaled T) (hr.mono (by decide)) (by rfl) T.m_scaled T.f_scaled.kp T.b_scaled (pad_cons (pd_v 1) (pad_cons (pd_neg (pd_v 3)) (pad_nil)))) (pd_callF (ok_scaled T) (hr.mono (by decide)) (by rfl) T.m_scaled T.f_scaled.kp T.b_scaled (pad_cons (pd_v 2) (pad_cons (pd_v 3) (pad_nil))))) (pbd_one (psd_augsub (i := 3) sc_stepped.nd rfl (by first | exact .inl rfl | exact .inr rfl) (pd_int))) (pbd_nil)) (pbd_cons (psd_set (i := 4) sc_stepped.nd rfl (by first | exact .inl rfl | exact .inr rfl) (pd_callB (call_max2 rfl) cd_two (by rfl) T.z_max boot_max (pad_cons (pd_fld (pd_v 0)) (pad_cons (pd_addA (pd_sub (pd_v 3) (pd_fld (pd_v 0))) (pd_int)) (pad_nil))))) (pbd_cons (psd_par (i := 1) (j := 2) rfl sc_stepped.nd rfl rfl (by decide) rfl rfl (pad_cons (pd_callF (ok_scaled T) (hr.mono (by decide)) (by rfl) T.m_scaled T.f_scaled.kp T.b_scaled (pad_cons (pd_v 1) (pad_cons (pd_neg (pd_v 4)) (pad_nil)))) (pad_cons (pd_callF (ok_scaled T) (hr.mono (by decide)) (by rfl) T.m_scaled T.f_scaled.kp T.b_scaled (pad_cons (pd_v 2) (pad_cons (pd_v 4) (pad_nil)))) (pad_nil))) (by rfl)) (pbd_cons (psd_asg (pd_callB call_divmodW cd_divmod (by rfl) T.z_divmod boot_divmod (pad_cons (pd_v 1) (pad_cons (pd_v 2) (pad_nil)))) (pgd_tup (K := Cl5.K) rfl (pgds_cons (pgd_name (i := 5) sc_stepped.nd rfl (by first | exact .inl rfl | exact .inr rfl)) (pgds_cons (pgd_name (i := 6) sc_stepped.nd rfl (by first | exact .inl rfl | exact .inr rfl)) (pgds_nil))))) (pbd_one (psd_ret (pd_tup (pad_cons (pd_v 4) (pad_cons (pd_v 5) (pad_cons (pd_v 6) (pad_cons (pd_v 2) (pad_nil)))))))))))), rd_stepped⟩
theorem ok_negated (T : Tx Cl5.K mg) : FnOk P w Cl5.K mg base CX0 1 T.a_negated T.d_negated ["dyad"] (upSp Cl5.K sp_negated) :=
  okD T.f_negated sc_negated ln_negated fun cdv A outer s H E hr => ⟨bd_negated, pbd_one (psd_ret (pd_tup (pad_cons (pd_neg (pd_ix ix_seq od_ix (pd_v 0) (pd_int))) (pad_cons (pd_ix ix_seq od_ix (pd_v 0) (pd_int)) (pad_nil))))), rd_negated⟩
theorem ok_goes_outward (T : Tx Cl5.K mg) : FnOk P w Cl5.K mg base CX0 1 T.a_goes_outward T.d_goes_outward ["way", "top", "many", "past_half"] (upSp Cl5.K sp_goes_outward) :=
  okD T.f_goes_outward sc_goes_outward ln_goes_outward fun cdv A outer s H E hr => ⟨bd_goes_outward, pbd_cons (psd_if (ptd_eq (pd_v 0) (pd_str)) (pbd_one (psd_ret (pd_gt (pd_v 1) (pd_int)))) (pbd_nil)) (pbd_cons (psd_if (ptd_eq (pd_v 0) (pd_str)) (pbd_one (psd_ret (pd_lt (pd_v 1) (pd_int)))) (pbd_nil)) (pbd_cons (psd_if (ptd_eq (pd_v 0) (pd_str)) (pbd_one (psd_ret (pd_bl))) (pbd_nil)) (pbd_cons (psd_if (ptd_ne (pd_v 3) (pd_int)) (pbd_one (psd_ret (pd_gt (pd_v 3) (pd_int)))) (pbd_nil)) (pbd_one (psd_ret (pd_or (pd_eq (pd_v 0) (pd_str)) (pd_one (pd_eq (pd_band (pd_v 2) (pd_int)) (pd_int))))))))), rd_goes_outward⟩
theorem ok_is_number_told (T : Tx Cl5.K mg) : FnOk P w Cl5.K mg base CX0 4 T.a_is_number_told T.d_is_number_told ["value"] (upSp Cl5.K sp_is_number_told) :=
  okD T.f_is_number_told sc_is_number_told ln_is_number_told fun cdv A outer s H E hr => ⟨bd_is_number_told, pbd_cons (psd_if (ptd_val (pd_callF (ok_is_fraction T) (hr.mono (by decide)) (by rfl) T.m_is_fraction T.f_is_fraction.kp T.b_is_fraction (pad_cons (pd_v 0) (pad_nil)))) (pbd_one (psd_ret (pd_and (pd_callF (ok_is_between T) (hr.mono (by decide)) (by rfl) T.m_is_between T.f_is_between.kp T.b_is_between (pad_cons (pd_neg (pd_int)) (pad_cons (pd_int) (pad_cons (pd_ix ix_seq od_ix (pd_v 0) (pd_int)) (pad_nil))))) (pd_one (pd_le (pd_ix ix_seq od_ix (pd_v 0) (pd_int)) (pd_int)))))) (pbd_nil)) (pbd_one (psd_ret (pd_callF (ok_is_between T) (hr.mono (by decide)) (by rfl) T.m_is_between T.f_is_between.kp T.b_is_between (pad_cons (pd_neg (pd_int)) (pad_cons (pd_int) (pad_cons (pd_v 0) (pad_nil))))))), rd_is_number_told⟩
theorem ok_is_leaf (T : Tx Cl5.K mg) : FnOk P w Cl5.K mg base CX0 5 T.a_is_leaf T.d_is_leaf ["inputs", "thing"] (upSp Cl5.K sp_is_leaf) :=
  okD T.f_is_leaf sc_is_leaf ln_is_leaf fun cdv A outer s H E hr => ⟨bd_is_leaf, pbd_cons (psd_if (ptd_not (ptd_val (pd_callF (ok_is_tuple T) (hr.mono (by decide)) (by rfl) T.m_is_tuple T.f_is_tuple.kp T.b_is_tuple (pad_cons (pd_int) (pad_cons (pd_int) (pad_cons (pd_v 1) (pad_nil))))))) (pbd_one (psd_ret (pd_bl))) (pbd_nil)) (pbd_cons (psd_asg (pd_v 1) (pgd_tup (K := Cl5.K) rfl (pgds_cons (pgd_name (i := 2) sc_is_leaf.nd rfl (by first | exact .inl rfl | exact .inr rfl)) (pgds_cons (pgd_name (i := 3) sc_is_leaf.nd rfl (by first | exact .inl rfl | exact .inr rfl)) (pgds_nil))))) (pbd_cons (psd_if (ptd_val (pd_callF (ok_is_one_of T) (hr.mono (by decide)) (by rfl) T.m_is_one_of T.f_is_one_of.kp T.b_is_one_of (pad_cons (pd_tup (pad_cons (pd_str) (pad_nil))) (pad_cons (pd_v 2) (pad_nil))))) (pbd_one (psd_ret (pd_callF (ok_is_between T) (hr.mono (by decide)) (by rfl) T.m_is_between T.f_is_between.kp T.b_is_between (pad_cons (pd_int) (pad_cons (pd_sub (pd_v 0) (pd_int)) (pad_cons (pd_v 3) (pad_nil))))))) (pbd_nil)) (pbd_one (psd_ret (pd_and (pd_callF (ok_is_one_of T) (hr.mono (by decide)) (by rfl) T.m_is_one_of T.f_is_one_of.kp T.b_is_one_of (pad_cons (pd_tup (pad_cons (pd_str) (pad_nil))) (pad_cons (pd_v 2) (pad_nil)))) (pd_one (pd_callF (ok_is_number_told T) (hr.mono (by decide)) (by rfl) T.m_is_number_told T.f_is_number_told.kp T.b_is_number_told (pad_cons (pd_v 3) (pad_nil))))))))), rd_is_leaf⟩
theorem ok_operations (T : Tx Cl5.K mg) : ∀ n : Nat, FnOk P w Cl5.K mg base CX0 (n + 6) T.a_operations T.d_operations ["inputs", "thing", "deep"] (upSp Cl5.K (sp_operations n)) 
  | 0 => okD T.f_operations sc_operations (ln_operations 0) fun cdv A outer s H E hr => ⟨dDead, pbd_dead, fun ds O kk h => h.elim⟩
  | n + 1 => okD T.f_operations sc_operations (ln_operations (n + 1)) fun cdv A outer s H E hr => ⟨bd_operations n, pbd_cons (psd_if (ptd_val (pd_callF (ok_is_leaf T) (hr.mono (by omega)) (by rfl) T.m_is_leaf T.f_is_leaf.kp T.b_is_leaf (pad_cons (pd_v 0) (pad_cons (pd_v 1) (pad_nil))))) (pbd_one (psd_ret (pd_int))) (pbd_nil)) (pbd_cons (psd_if (ptd_w (pwd_or (ptd_eq (pd_v 2) (pd_int)) (pwd_or (ptd_not (ptd_val (pd_callF (ok_is_tuple T) (hr.mono (by omega)) (by rfl) T.m_is_tuple T.f_is_tuple.kp T.b_is_tuple (pad_cons (pd_int) (pad_cons (pd_int) (pad_cons (pd_v 1) (pad_nil))))))) (pwd_or1 (ptd_not (ptd_val (pd_callF (ok_is_one_of T) (hr.mono (by omega)) (by rfl) T.m_is_one_of T.f_is_one_of.kp T.b_is_one_of (pad_cons (pd_c (pe_glob (v := .ref T.a_WORDS) (by rfl) T.m_WORDS rfl) T.r_WORDS) (pad_cons (pd_ix ix_seq od_ix (pd_v 1) (pd_int)) (pad_nil)))))))))) (pbd_one (psd_ret (pd_non))) (pbd_nil)) (pbd_cons (psd_set (i := 3) sc_operations.nd rfl (by first | exact .inl rfl | exact .inr rfl) (pd_callF (ok_operations T n) (hr.mono (by omega)) (by rfl) T.m_operations T.f_operations.kp T.b_operations (pad_cons (pd_v 0) (pad_cons (pd_ix ix_seq od_ix (pd_v 1) (pd_int)) (pad_cons (pd_sub (pd_v 2) (pd_int)) (pad_nil)))))) (pbd_cons (psd_set (i := 4) sc_operations.nd rfl (by first | exact .inl rfl | exact .inr rfl) (pd_callF (ok_operations T n) (hr.mono (by omega)) (by rfl) T.m_operations T.f_operations.kp T.b_operations (pad_cons (pd_v 0) (pad_cons (pd_ix ix_seq od_ix (pd_v 1) (pd_int)) (pad_cons (pd_sub (pd_v 2) (pd_int)) (pad_nil)))))) (pbd_cons (psd_if (ptd_w (pwd_or (ptd_is (pd_v 3) (pd_non)) (pwd_or1 (ptd_is (pd_v 4) (pd_non))))) (pbd_one (psd_ret (pd_non))) (pbd_nil)) (pbd_one (psd_ret (pd_addA (pd_addA (pd_v 3) (pd_v 4)) (pd_int)))))))), rd_operations n⟩
theorem ok_is_formula (T : Tx Cl5.K mg) : FnOk P w Cl5.K mg base CX0 15 T.a_is_formula T.d_is_formula ["inputs", "thing"] (upSp Cl5.K sp_is_formula) :=
  okD T.f_is_formula sc_is_formula ln_is_formula fun cdv A outer s H E hr => ⟨bd_is_formula, pbd_cons (psd_set (i := 2) sc_is_formula.nd rfl (by first | exact .inl rfl | exact .inr rfl) (pd_callF (ok_operations T 8) (hr.mono (by decide)) (by rfl) T.m_operations T.f_operations.kp T.b_operations (pad_cons (pd_v 0) (pad_cons (pd_v 1) (pad_cons (pd_int) (pad_nil)))))) (pbd_one (psd_ret (pd_and (pd_isnot (pd_v 2) (pd_non)) (pd_one (pd_le (pd_v 2) (pd_int)))))), rd_is_formula⟩
theorem ok_fraction_of (T : Tx Cl5.K mg) : FnOk P w Cl5.K mg base CX0 1 T.a_fraction_of T.d_fraction_of ["value"] (upSp Cl5.K sp_fraction_of) :=
  okD T.f_fraction_of sc_fraction_of ln_fraction_of fun cdv A outer s H E hr => ⟨bd_fraction_of, pbd_one (psd_ret (pd_ifE (ptd_val (pd_callB call_isi cd_isiK (by rfl) T.z_isinstance boot_isinstance (pad_cons (pd_v 0) (pad_cons (pd_tyc (by rfl) T.z_tuple boot_tuple) (pad_nil))))) (pd_v 0) (pd_tup (pad_cons (pd_v 0) (pad_cons (pd_int) (pad_nil)))))), rd_fraction_of⟩
theorem ok_check_run (T : Tx Cl5.K mg) : FnOk P w Cl5.K mg base CX0 16 T.a_check_run T.d_check_run ["way", "formula", "row"] (upSp Cl5.K sp_check_run) :=
  okD T.f_check_run sc_check_run ln_check_run fun cdv A outer s H E hr => ⟨bd_check_run, pbd_cons (psd_if (ptd_not (ptd_val (pd_callF (ok_is_way T) (hr.mono (by decide)) (by rfl) T.m_is_way T.f_is_way.kp T.b_is_way (pad_cons (pd_v 0) (pad_nil))))) (pbd_one (psd_dead)) (pbd_nil)) (pbd_cons (psd_if (ptd_not (ptd_val (pd_callF (ok_is_row T) (hr.mono (by decide)) (by rfl) T.m_is_row T.f_is_row.kp T.b_is_row (pad_cons (pd_int) (pad_cons (pd_gint (by rfl) T.m_MOST_INPUTS) (pad_cons (pd_neg (pd_gint (by rfl) T.m_FARTHEST)) (pad_cons (pd_gint (by rfl) T.m_FARTHEST) (pad_cons (pd_v 2) (pad_nil))))))))) (pbd_one (psd_dead)) (pbd_nil)) (pbd_one (psd_if (ptd_not (ptd_val (pd_callF (ok_is_formula T) (hr.mono (by decide)) (by rfl) T.m_is_formula T.f_is_formula.kp T.b_is_formula (pad_cons (pd_callB call_len_seq cd_len (by rfl) T.z_len boot_len (pad_cons (pd_v 2) (pad_nil))) (pad_cons (pd_v 1) (pad_nil)))))) (pbd_one (psd_dead)) (pbd_nil)))), rd_check_run⟩
theorem ok__law_hand (T : Tx Cl5.K mg) : FnOk P w Cl5.K mg base CX0 1 T.a__law_hand T.d__law_hand ["script"] (upSp Cl5.K sp__law_hand) :=
  okD T.f__law_hand sc__law_hand ln__law_hand fun cdv A outer s H E hr => ⟨bd__law_hand, pbd_cons (psd_setLc (own := [("cell", 2)]) (i := 1) rfl sc__law_hand.nd rfl rfl (sw_true rfl rfl rfl (by decide +kernel)) (pid_seq (pd_slice (pd_v 0) (pod_none) (pod_some (pd_int)))) (blkOk_by (by dsimp only [cxOf, Cx.nox, Cx.wish, Cx.blk, compEnvC, envOfC, relabel_S]; decide +kernel)) (by decide) (fun _ _ _ _ _ => pgd_name (i := 2) sc__law_hand.nd rfl (by first | exact .inl rfl | exact .inr rfl)) (fun _ _ _ _ _ => ptsd_nil) (fun _ _ _ _ _ => pd_callB call_abs cd_abs (by rfl) T.z_abs boot_abs (pad_cons (pd_callTy call_int1 cd_int (by rfl) T.z_int boot_int (pad_cons (pd_v 2) (pad_nil))) (pad_nil)))) (pbd_one (psd_ret (pd_lstO (pad_cons (pd_v 1) (pad_cons (pd_int) (pad_cons (pd_int) (pad_cons (pd_addA (pd_int) (pd_callB call_len_seq cd_len (by rfl) T.z_len boot_len (pad_cons (pd_v 1) (pad_nil)))) (pad_cons (pd_int) (pad_nil))))))))), rd__law_hand⟩
theorem ok__law_draw (T : Tx Cl5.K mg) : FnOk P w Cl5.K mg base CX0 1 T.a__law_draw T.d__law_draw ["hand", "many"] (upSp Cl5.K sp__law_draw) :=
  okD T.f__law_draw sc__law_draw ln__law_draw fun cdv A outer s H E hr => ⟨bd__law_draw, pbd_cons (psd_if (ptd_w (pwd_and (ptd_eq (pd_ix ix_seq od_ix (pd_v 0) (pd_int)) (pd_int)) (pwd_and1 (ptd_lt (pd_ix ix_seq od_ix (pd_v 0) (pd_int)) (pd_callB call_len_seq cd_len (by rfl) T.z_len boot_len (pad_cons (pd_ix ix_seq od_ix (pd_v 0) (pd_int)) (pad_nil))))))) (pbd_cons (psd_set (i := 3) sc__law_draw.nd rfl (by first | exact .inl rfl | exact .inr rfl) (pd_ix ix_seq od_ix (pd_ix ix_seq od_ix (pd_v 0) (pd_int)) (pd_ix ix_seq od_ix (pd_v 0) (pd_int)))) (pbd_cons (psd_setix (pd_v 0) (pd_int) (pd_addA (pd_ix ix_seq od_ix (pd_v 0) (pd_int)) (pd_int))) (pbd_cons (psd_setix (pd_v 0) (pd_int) (pd_mod (pd_callTy call_int1 cd_int (by rfl) T.z_int boot_int (pad_cons (pd_addA (pd_addA (pd_mul (pd_ix ix_seq od_ix (pd_v 0) (pd_int)) (pd_int)) (pd_v 3)) (pd_int)) (pad_nil))) (pd_int))) (pbd_one (psd_if (ptd_ge (pd_v 3) (pd_pow (pd_int) (pd_int))) (pbd_one (psd_setix (pd_v 0) (pd_int) (pd_v 3))) (pbd_nil)))))) (pbd_nil)) (pbd_cons (psd_if (ptd_gt (pd_ix ix_seq od_ix (pd_v 0) (pd_int)) (pd_int)) (pbd_cons (psd_set (i := 4) sc__law_draw.nd rfl (by first | exact .inl rfl | exact .inr rfl) (pd_mod (pd_callTy call_int1 cd_int (by rfl) T.z_int boot_int (pad_cons (pd_ix ix_seq od_ix (pd_v 0) (pd_int)) (pad_nil))) (pd_v 1))) (pbd_cons (psd_setix (pd_v 0) (pd_int) (pd_fdiv (pd_ix ix_seq od_ix (pd_v 0) (pd_int)) (pd_v 1))) (pbd_one (psd_ret (pd_v 4))))) (pbd_nil)) (pbd_cons (psd_setix (pd_v 0) (pd_int) (pd_addA (pd_ix ix_seq od_ix (pd_v 0) (pd_int)) (pd_int))) (pbd_cons (psd_set (i := 2) sc__law_draw.nd rfl (by first | exact .inl rfl | exact .inr rfl) (pd_mod (pd_callTy call_int1 cd_int (by rfl) T.z_int boot_int (pad_cons (pd_mul (pd_callTy call_int1 cd_int (by rfl) T.z_int boot_int (pad_cons (pd_addA (pd_ix ix_seq od_ix (pd_v 0) (pd_int)) (pd_mul (pd_int) (pd_ix ix_seq od_ix (pd_v 0) (pd_int)))) (pad_nil))) (pd_int)) (pad_nil))) (pd_int))) (pbd_cons (psd_set (i := 2) sc__law_draw.nd rfl (by first | exact .inl rfl | exact .inr rfl) (pd_mod (pd_callTy call_int1 cd_int (by rfl) T.z_int boot_int (pad_cons (pd_mul (pd_v 2) (pd_addA (pd_fdiv (pd_v 2) (pd_int)) (pd_int))) (pad_nil))) (pd_int))) (pbd_cons (psd_set (i := 2) sc__law_draw.nd rfl (by first | exact .inl rfl | exact .inr rfl) (pd_mod (pd_callTy call_int1 cd_int (by rfl) T.z_int boot_int (pad_cons (pd_mul (pd_v 2) (pd_addA (pd_fdiv (pd_v 2) (pd_int)) (pd_int))) (pad_nil))) (pd_int))) (pbd_one (psd_ret (pd_mod (pd_callTy call_int1 cd_int (by rfl) T.z_int boot_int (pad_cons (pd_fdiv (pd_v 2) (pd_int)) (pad_nil))) (pd_v 1))))))))), rd__law_draw⟩
theorem ok__law_any (T : Tx Cl5.K mg) : FnOk P w Cl5.K mg base CX0 2 T.a__law_any T.d__law_any ["hand", "some"] (upSp Cl5.K sp__law_any) :=
  okD T.f__law_any sc__law_any ln__law_any fun cdv A outer s H E hr => ⟨bd__law_any, pbd_one (psd_ret (pd_ix ix_seq od_ix (pd_v 1) (pd_callF (ok__law_draw T) (hr.mono (by decide)) (by rfl) T.m__law_draw T.f__law_draw.kp T.b__law_draw (pad_cons (pd_v 0) (pad_cons (pd_callB call_len_seq cd_len (by rfl) T.z_len boot_len (pad_cons (pd_v 1) (pad_nil))) (pad_nil)))))), rd__law_any⟩
theorem ok__law_is_int (T : Tx Cl5.K mg) : FnOk P w Cl5.K mg base CX0 1 T.a__law_is_int T.d__law_is_int ["thing", "least", "most"] (upSp Cl5.K sp__law_is_int) :=
  okD T.f__law_is_int sc__law_is_int ln__law_is_int fun cdv A outer s H E hr => ⟨bd__law_is_int, pbd_one (psd_ret (pd_and (pd_callB call_isi cd_isiK (by rfl) T.z_isinstance boot_isinstance (pad_cons (pd_v 0) (pad_cons (pd_tyc (by rfl) T.z_int boot_int) (pad_nil)))) (pd_and (pd_not (pd_callB call_isi cd_isiK (by rfl) T.z_isinstance boot_isinstance (pad_cons (pd_v 0) (pad_cons (pd_tyc (by rfl) T.z_bool boot_bool) (pad_nil))))) (pd_one (pd_lele (pd_v 1) (pd_v 0) (pd_v 2)))))), rd__law_is_int⟩
theorem ok__law_flag (T : Tx Cl5.K mg) : FnOk P w Cl5.K mg base CX0 1 T.a__law_flag T.d__law_flag ["told", "due"] (upSp Cl5.K sp__law_flag) :=
  okD T.f__law_flag sc__law_flag ln__law_flag fun cdv A outer s H E hr => ⟨bd__law_flag, pbd_one (psd_ret (pd_and (pd_callB call_isi cd_isiK (by rfl) T.z_isinstance boot_isinstance (pad_cons (pd_v 0) (pad_cons (pd_tyc (by rfl) T.z_bool boot_bool) (pad_nil)))) (pd_one (pd_eq (pd_v 0) (pd_v 1))))), rd__law_flag⟩
theorem ok__law_deep (T : Tx Cl5.K mg) : FnOk P w Cl5.K mg base CX0 2 T.a__law_deep T.d__law_deep ["hand", "thing"] (upSp Cl5.K sp__law_deep) :=
  okD T.f__law_deep sc__law_deep ln__law_deep fun cdv A outer s H E hr => ⟨bd__law_deep, pbd_cons (psd_for PassesOwn.never rfl (pid_range1 (by rfl) T.z_range (pd_addA (pd_int) (pd_callF (ok__law_draw T) (hr.mono (by decide)) (by rfl) T.m__law_draw T.f__law_draw.kp T.b__law_draw (pad_cons (pd_v 0) (pad_cons (pd_int) (pad_nil)))))) (pgd_name (i := 2) sc__law_deep.nd rfl (by first | exact .inl rfl | exact .inr rfl)) (pbd_one (psd_set (i := 1) sc__law_deep.nd rfl (by first | exact .inl rfl | exact .inr rfl) (pd_ifE (ptd_eq (pd_callF (ok__law_draw T) (hr.mono (by decide)) (by rfl) T.m__law_draw T.f__law_draw.kp T.b__law_draw (pad_cons (pd_v 0) (pad_cons (pd_int) (pad_nil)))) (pd_int)) (pd_tup (pad_cons (pd_v 1) (pad_nil))) (pd_lst (pad_cons (pd_v 1) (pad_nil))))))) (pbd_one (psd_ret (pd_v 1))), rd__law_deep⟩
theorem ok__law_low (T : Tx Cl5.K mg) : FnOk P w Cl5.K mg base CX0 1 T.a__law_low T.d__law_low ["top", "bottom"] (upSp Cl5.K sp__law_low) :=
  okD T.f__law_low sc__law_low ln__law_low fun cdv A outer s H E hr => ⟨bd__law_low, pbd_cons (psd_par (i := 2) (j := 3) rfl sc__law_low.nd rfl rfl (by decide) rfl rfl (pad_cons (pd_callB call_abs cd_abs (by rfl) T.z_abs boot_abs (pad_cons (pd_v 0) (pad_nil))) (pad_cons (pd_v 1) (pad_nil))) (by rfl)) (pbd_cons (psd_while PassesOwn.never (ptd_gt (pd_v 3) (pd_int)) (pbd_one (psd_par (i := 2) (j := 3) rfl sc__law_low.nd rfl rfl (by decide) rfl rfl (pad_cons (pd_v 3) (pad_cons (pd_mod (pd_callTy call_int1 cd_int (by rfl) T.z_int boot_int (pad_cons (pd_v 2) (pad_nil))) (pd_v 3)) (pad_nil))) (by rfl)))) (pbd_one (psd_ret (pd_tup (pad_cons (pd_fdivS (pd_v 0) (pd_v 2)) (pad_cons (pd_fdivS (pd_v 1) (pd_v 2)) (pad_nil))))))), rd__law_low⟩
theorem ok__law_two (T : Tx Cl5.K mg) : FnOk P w Cl5.K mg base CX0 1 T.a__law_two T.d__law_two ["many"] (upSp Cl5.K sp__law_two) :=
  okD T.f__law_two sc__law_two ln__law_two fun cdv A outer s H E hr => ⟨bd__law_two, pbd_cons (psd_set (i := 1) sc__law_two.nd rfl (by first | exact .inl rfl | exact .inr rfl) (pd_int)) (pbd_cons (psd_for PassesOwn.never rfl (pid_range1 (by rfl) T.z_range (pd_v 0)) (pgd_name (i := 2) sc__law_two.nd rfl (by first | exact .inl rfl | exact .inr rfl)) (pbd_one (psd_set (i := 1) sc__law_two.nd rfl (by first | exact .inl rfl | exact .inr rfl) (pd_mulS (pd_v 1) (pd_int))))) (pbd_one (psd_ret (pd_v 1)))), rd__law_two⟩
theorem ok__law_worth (T : Tx Cl5.K mg) : FnOk P w Cl5.K mg base CX0 2 T.a__law_worth T.d__law_worth ["dyad"] (upSp Cl5.K sp__law_worth) :=
  okD T.f__law_worth sc__law_worth ln__law_worth fun cdv A outer s H E hr => ⟨bd__law_worth, pbd_cons (psd_if (ptd_ge (pd_ix ix_seq od_ix (pd_v 0) (pd_int)) (pd_int)) (pbd_one (psd_ret (pd_tup (pad_cons (pd_mulS (pd_ix ix_seq od_ix (pd_v 0) (pd_int)) (pd_callF (ok__law_two T) (hr.mono (by decide)) (by rfl) T.m__law_two T.f__law_two.kp T.b__law_two (pad_cons (pd_ix ix_seq od_ix (pd_v 0) (pd_int)) (pad_nil)))) (pad_cons (pd_int) (pad_nil)))))) (pbd_nil)) (pbd_one (psd_ret (pd_callF (ok__law_low T) (hr.mono (by decide)) (by rfl) T.m__law_low T.f__law_low.kp T.b__law_low (pad_cons (pd_ix ix_seq od_ix (pd_v 0) (pd_int)) (pad_cons (pd_callF (ok__law_two T) (hr.mono (by decide)) (by rfl) T.m__law_two T.f__law_two.kp T.b__law_two (pad_cons (pd_sub (pd_int) (pd_ix ix_seq od_ix (pd_v 0) (pd_int))) (pad_nil))) (pad_nil)))))), rd__law_worth⟩
theorem ok__law_dyad (T : Tx Cl5.K mg) : FnOk P w Cl5.K mg base CX0 1 T.a__law_dyad T.d__law_dyad ["value"] (upSp Cl5.K sp__law_dyad) :=
  okD T.f__law_dyad sc__law_dyad ln__law_dyad fun cdv A outer s H E hr => ⟨bd__law_dyad, pbd_cons (psd_par3 (i := 1) (j := 2) (l := 3) rfl sc__law_dyad.nd rfl rfl rfl (by decide) (by decide) (by decide) rfl rfl rfl (pad_cons (pd_ix ix_seq od_ix (pd_v 0) (pd_int)) (pad_cons (pd_ix ix_seq od_ix (pd_v 0) (pd_int)) (pad_cons (pd_int) (pad_nil)))) (by rfl)) (pbd_cons (psd_if (ptd_eq (pd_v 1) (pd_int)) (pbd_one (psd_ret (pd_tup (pad_cons (pd_int) (pad_cons (pd_int) (pad_nil)))))) (pbd_nil)) (pbd_cons (psd_while PassesOwn.never (ptd_gt (pd_v 2) (pd_int)) (pbd_one (psd_par (i := 2) (j := 3) rfl sc__law_dyad.nd rfl rfl (by decide) rfl rfl (pad_cons (pd_fdivS (pd_v 2) (pd_int)) (pad_cons (pd_sub (pd_v 3) (pd_int)) (pad_nil))) (by rfl)))) (pbd_cons (psd_while PassesOwn.never (ptd_eq (pd_mod (pd_callTy call_int1 cd_int (by rfl) T.z_int boot_int (pad_cons (pd_v 1) (pad_nil))) (pd_int)) (pd_int)) (pbd_one (psd_par (i := 1) (j := 3) rfl sc__law_dyad.nd rfl rfl (by decide) rfl rfl (pad_cons (pd_fdivS (pd_v 1) (pd_int)) (pad_cons (pd_addA (pd_v 3) (pd_int)) (pad_nil))) (by rfl)))) (pbd_one (psd_ret (pd_tup (pad_cons (pd_v 1) (pad_cons (pd_v 3) (pad_nil))))))))), rd__law_dyad⟩
theorem ok__law_beside (T : Tx Cl5.K mg) : ∀ n : Nat, FnOk P w Cl5.K mg base CX0 (n + 3) T.a__law_beside T.d__law_beside ["spec", "value", "is_above"] (upSp Cl5.K (sp__law_beside n)) 
  | 0 => okD T.f__law_beside sc__law_beside (ln__law_beside 0) fun cdv A outer s H E hr => ⟨dDead, pbd_dead, fun ds O kk h => h.elim⟩
  | n + 1 => okD T.f__law_beside sc__law_beside (ln__law_beside (n + 1)) fun cdv A outer s H E hr => ⟨bd__law_beside n, pbd_cons (psd_asg (pd_v 0) (pgd_tup (K := Cl5.K) rfl (pgds_cons (pgd_name (i := 5) sc__law_beside.nd rfl (by first | exact .inl rfl | exact .inr rfl)) (pgds_cons (pgd_name (i := 6) sc__law_beside.nd rfl (by first | exact .inl rfl | exact .inr rfl)) (pgds_cons (pgd_name (i := 7) sc__law_beside.nd rfl (by first | exact .inl rfl | exact .inr rfl)) (pgds_nil)))))) (pbd_cons (psd_asg (pd_v 1) (pgd_tup (K := Cl5.K) rfl (pgds_cons (pgd_name (i := 8) sc__law_beside.nd rfl (by first | exact .inl rfl | exact .inr rfl)) (pgds_cons (pgd_name (i := 9) sc__law_beside.nd rfl (by first | exact .inl rfl | exact .inr rfl)) (pgds_nil))))) (pbd_cons (psd_if (ptd_lt (pd_v 8) (pd_int)) (pbd_cons (psd_set (i := 10) sc__law_beside.nd rfl (by first | exact .inl rfl | exact .inr rfl) (pd_callF (ok__law_beside T n) (hr.mono (by omega)) (by rfl) T.m__law_beside T.f__law_beside.kp T.b__law_beside (pad_cons (pd_v 0) (pad_cons (pd_tup (pad_cons (pd_sub (pd_int) (pd_v 8)) (pad_cons (pd_v 9) (pad_nil)))) (pad_cons (pd_not (pd_v 2)) (pad_nil)))))) (pbd_one (psd_ret (pd_ifE (ptd_is (pd_v 10) (pd_non)) (pd_non) (pd_tup (pad_cons (pd_sub (pd_int) (pd_ix ix_seq od_ix (pd_v 10) (pd_int))) (pad_cons (pd_ix ix_seq od_ix (pd_v 10) (pd_int)) (pad_nil)))))))) (pbd_nil)) (pbd_cons (psd_set (i := 3) sc__law_beside.nd rfl (by first | exact .inl rfl | exact .inr rfl) (pd_sub (pd_callF (ok__law_two T) (hr.mono (by omega)) (by rfl) T.m__law_two T.f__law_two.kp T.b__law_two (pad_cons (pd_v 5) (pad_nil))) (pd_int))) (pbd_cons (psd_for PassesOwn.never rfl (pid_range2 (by rfl) T.z_range (pd_v 6) (pd_addA (pd_v 7) (pd_int))) (pgd_name (i := 4) sc__law_beside.nd rfl (by first | exact .inl rfl | exact .inr rfl)) (pbd_cons (psd_asg (pd_ifE (ptd_ge (pd_v 4) (pd_int)) (pd_tup (pad_cons (pd_v 8) (pad_cons (pd_mulS (pd_v 9) (pd_callF (ok__law_two T) (hr.mono (by omega)) (by rfl) T.m__law_two T.f__law_two.kp T.b__law_two (pad_cons (pd_v 4) (pad_nil)))) (pad_nil)))) (pd_tup (pad_cons (pd_mulS (pd_v 8) (pd_callF (ok__law_two T) (hr.mono (by omega)) (by rfl) T.m__law_two T.f__law_two.kp T.b__law_two (pad_cons (pd_sub (pd_int) (pd_v 4)) (pad_nil)))) (pad_cons (pd_v 9) (pad_nil))))) (pgd_tup (K := Cl5.K) rfl (pgds_cons (pgd_name (i := 12) sc__law_beside.nd rfl (by first | exact .inl rfl | exact .inr rfl)) (pgds_cons (pgd_name (i := 13) sc__law_beside.nd rfl (by first | exact .inl rfl | exact .inr rfl)) (pgds_nil))))) (pbd_cons (psd_set (i := 11) sc__law_beside.nd rfl (by first | exact .inl rfl | exact .inr rfl) (pd_addA (pd_fdivS (pd_v 12) (pd_v 13)) (pd_callTy call_int1 cd_int (by rfl) T.z_int boot_int (pad_cons (pd_and (pd_v 2) (pd_one (pd_ne (pd_mod (pd_callTy call_int1 cd_int (by rfl) T.z_int boot_int (pad_cons (pd_v 12) (pad_nil))) (pd_v 13)) (pd_int)))) (pad_nil))))) (pbd_one (psd_if (ptd_le (pd_v 11) (pd_v 3)) (pbd_one (psd_ret (pd_ifE (ptd_ge (pd_v 4) (pd_int)) (pd_tup (pad_cons (pd_mulS (pd_v 11) (pd_callF (ok__law_two T) (hr.mono (by omega)) (by rfl) T.m__law_two T.f__law_two.kp T.b__law_two (pad_cons (pd_v 4) (pad_nil)))) (pad_cons (pd_int) (pad_nil)))) (pd_callF (ok__law_low T) (hr.mono (by omega)) (by rfl) T.m__law_low T.f__law_low.kp T.b__law_low (pad_cons (pd_v 11) (pad_cons (pd_callF (ok__law_two T) (hr.mono (by omega)) (by rfl) T.m__law_two T.f__law_two.kp T.b__law_two (pad_cons (pd_sub (pd_int) (pd_v 4)) (pad_nil))) (pad_nil))))))) (pbd_nil)))))) (pbd_one (psd_ret (pd_ifE (ptd_val (pd_v 2)) (pd_non) (pd_callF (ok__law_worth T) (hr.mono (by omega)) (by rfl) T.m__law_worth T.f__law_worth.kp T.b__law_worth (pad_cons (pd_tup (pad_cons (pd_v 3) (pad_cons (pd_v 7) (pad_nil)))) (pad_nil)))))))))), rd__law_beside n⟩
theorem ok__law_minus (T : Tx Cl5.K mg) : FnOk P w Cl5.K mg base CX0 2 T.a__law_minus T.d__law_minus ["one", "other"] (upSp Cl5.K sp__law_minus) :=
  okD T.f__law_minus sc__law_minus ln__law_minus fun cdv A outer s H E hr => ⟨bd__law_minus, pbd_one (psd_ret (pd_callF (ok__law_low T) (hr.mono (by decide)) (by rfl) T.m__law_low T.f__law_low.kp T.b__law_low (pad_cons (pd_sub (pd_mulS (pd_ix ix_seq od_ix (pd_v 0) (pd_int)) (pd_ix ix_seq od_ix (pd_v 1) (pd_int))) (pd_mulS (pd_ix ix_seq od_ix (pd_v 1) (pd_int)) (pd_ix ix_seq od_ix (pd_v 0) (pd_int)))) (pad_cons (pd_mulS (pd_ix ix_seq od_ix (pd_v 0) (pd_int)) (pd_ix ix_seq od_ix (pd_v 1) (pd_int))) (pad_nil))))), rd__law_minus⟩
theorem ok__law_rounded (T : Tx Cl5.K mg) : FnOk P w Cl5.K mg base CX0 6 T.a__law_rounded T.d__law_rounded ["spec", "value", "way"] (upSp Cl5.K sp__law_rounded) :=
  okD T.f__law_rounded sc__law_rounded ln__law_rounded fun cdv A outer s H E hr => ⟨bd__law_rounded, pbd_cons (psd_par (i := 5) (j := 6) rfl sc__law_rounded.nd rfl rfl (by decide) rfl rfl (pad_cons (pd_callF (ok__law_beside T 2) (hr.mono (by decide)) (by rfl) T.m__law_beside T.f__law_beside.kp T.b__law_beside (pad_cons (pd_v 0) (pad_cons (pd_v 1) (pad_cons (pd_bl) (pad_nil))))) (pad_cons (pd_callF (ok__law_beside T 2) (hr.mono (by decide)) (by rfl) T.m__law_beside T.f__law_beside.kp T.b__law_beside (pad_cons (pd_v 0) (pad_cons (pd_v 1) (pad_cons (pd_bl) (pad_nil))))) (pad_nil))) (by rfl)) (pbd_cons (psd_if (ptd_w (pwd_or (ptd_is (pd_v 5) (pd_non)) (pwd_or (ptd_is (pd_v 6) (pd_non)) (pwd_or1 (ptd_eqQ (hu64 hr) (pd_v 5) (pd_v 6)))))) (pbd_one (psd_ret (pd_ifE (ptd_w (pwd_or (ptd_is (pd_v 5) (pd_non)) (pwd_or1 (ptd_is (pd_v 6) (pd_non))))) (pd_non) (pd_v 5)))) (pbd_nil)) (pbd_cons (psd_if (ptd_in (pd_v 2) (pd_tup (pad_cons (pd_str) (pad_cons (pd_str) (pad_nil))))) (pbd_one (psd_ret (pd_ifE (ptd_eq (pd_v 2) (pd_str)) (pd_v 6) (pd_v 5)))) (pbd_nil)) (pbd_cons (psd_if (ptd_eq (pd_v 2) (pd_str)) (pbd_one (psd_ret (pd_ifE (ptd_gt (pd_ix ix_seq od_ix (pd_v 1) (pd_int)) (pd_int)) (pd_v 5) (pd_v 6)))) (pbd_nil)) (pbd_cons (psd_par (i := 7) (j := 8) rfl sc__law_rounded.nd rfl rfl (by decide) rfl rfl (pad_cons (pd_callF (ok__law_minus T) (hr.mono (by decide)) (by rfl) T.m__law_minus T.f__law_minus.kp T.b__law_minus (pad_cons (pd_v 1) (pad_cons (pd_v 5) (pad_nil)))) (pad_cons (pd_callF (ok__law_minus T) (hr.mono (by decide)) (by rfl) T.m__law_minus T.f__law_minus.kp T.b__law_minus (pad_cons (pd_v 6) (pad_cons (pd_v 1) (pad_nil)))) (pad_nil))) (by rfl)) (pbd_cons (psd_if (ptd_neQ (hu64 hr) (pd_v 7) (pd_v 8)) (pbd_one (psd_ret (pd_ifE (ptd_lt (pd_mulS (pd_ix ix_seq od_ix (pd_v 7) (pd_int)) (pd_ix ix_seq od_ix (pd_v 8) (pd_int))) (pd_mulS (pd_ix ix_seq od_ix (pd_v 8) (pd_int)) (pd_ix ix_seq od_ix (pd_v 7) (pd_int)))) (pd_v 5) (pd_v 6)))) (pbd_nil)) (pbd_cons (psd_if (ptd_eq (pd_v 2) (pd_str)) (pbd_one (psd_ret (pd_ifE (ptd_gt (pd_ix ix_seq od_ix (pd_v 1) (pd_int)) (pd_int)) (pd_v 6) (pd_v 5)))) (pbd_nil)) (pbd_cons (psd_set (i := 3) sc__law_rounded.nd rfl (by first | exact .inl rfl | exact .inr rfl) (pd_callF (ok__law_minus T) (hr.mono (by decide)) (by rfl) T.m__law_minus T.f__law_minus.kp T.b__law_minus (pad_cons (pd_v 6) (pad_cons (pd_v 5) (pad_nil))))) (pbd_cons (psd_set (i := 4) sc__law_rounded.nd rfl (by first | exact .inl rfl | exact .inr rfl) (pd_fdivS (pd_mulS (pd_ix ix_seq od_ix (pd_v 5) (pd_int)) (pd_ix ix_seq od_ix (pd_v 3) (pd_int))) (pd_mulS (pd_ix ix_seq od_ix (pd_v 5) (pd_int)) (pd_ix ix_seq od_ix (pd_v 3) (pd_int))))) (pbd_one (psd_ret (pd_ifE (ptd_eq (pd_mod (pd_callTy call_int1 cd_int (by rfl) T.z_int boot_int (pad_cons (pd_v 4) (pad_nil))) (pd_int)) (pd_int)) (pd_v 5) (pd_v 6)))))))))))), rd__law_rounded⟩
theorem ok__law_exact (T : Tx Cl5.K mg) : FnOk P w Cl5.K mg base CX0 3 T.a__law_exact T.d__law_exact ["word", "one", "other"] (upSp Cl5.K sp__law_exact) :=
  okD T.f__law_exact sc__law_exact ln__law_exact fun cdv A outer s H E hr => ⟨bd__law_exact, pbd_cons (psd_if (ptd_eq (pd_v 0) (pd_str)) (pbd_one (psd_ret (pd_callF (ok__law_low T) (hr.mono (by decide)) (by rfl) T.m__law_low T.f__law_low.kp T.b__law_low (pad_cons (pd_addA (pd_mulS (pd_ix ix_seq od_ix (pd_v 1) (pd_int)) (pd_ix ix_seq od_ix (pd_v 2) (pd_int))) (pd_mulS (pd_ix ix_seq od_ix (pd_v 2) (pd_int)) (pd_ix ix_seq od_ix (pd_v 1) (pd_int)))) (pad_cons (pd_mulS (pd_ix ix_seq od_ix (pd_v 1) (pd_int)) (pd_ix ix_seq od_ix (pd_v 2) (pd_int))) (pad_nil)))))) (pbd_nil)) (pbd_cons (psd_if (ptd_eq (pd_v 0) (pd_str)) (pbd_one (psd_ret (pd_callF (ok__law_minus T) (hr.mono (by decide)) (by rfl) T.m__law_minus T.f__law_minus.kp T.b__law_minus (pad_cons (pd_v 1) (pad_cons (pd_v 2) (pad_nil)))))) (pbd_nil)) (pbd_cons (psd_if (ptd_eq (pd_v 0) (pd_str)) (pbd_one (psd_ret (pd_callF (ok__law_low T) (hr.mono (by decide)) (by rfl) T.m__law_low T.f__law_low.kp T.b__law_low (pad_cons (pd_mulS (pd_ix ix_seq od_ix (pd_v 1) (pd_int)) (pd_ix ix_seq od_ix (pd_v 2) (pd_int))) (pad_cons (pd_mulS (pd_ix ix_seq od_ix (pd_v 1) (pd_int)) (pd_ix ix_seq od_ix (pd_v 2) (pd_int))) (pad_nil)))))) (pbd_nil)) (pbd_cons (psd_if (ptd_eq (pd_v 0) (pd_str)) (pbd_cons (psd_set (i := 4) sc__law_exact.nd rfl (by first | exact .inl rfl | exact .inr rfl) (pd_ifE (ptd_lt (pd_ix ix_seq od_ix (pd_v 2) (pd_int)) (pd_int)) (pd_neg (pd_int)) (pd_int))) (pbd_one (psd_ret (pd_ifE (ptd_eq (pd_ix ix_seq od_ix (pd_v 2) (pd_int)) (pd_int)) (pd_non) (pd_callF (ok__law_low T) (hr.mono (by decide)) (by rfl) T.m__law_low T.f__law_low.kp T.b__law_low (pad_cons (pd_mulS (pd_mulS (pd_ix ix_seq od_ix (pd_v 1) (pd_int)) (pd_ix ix_seq od_ix (pd_v 2) (pd_int))) (pd_v 4)) (pad_cons (pd_mulS (pd_mulS (pd_ix ix_seq od_ix (pd_v 1) (pd_int)) (pd_ix ix_seq od_ix (pd_v 2) (pd_int))) (pd_v 4)) (pad_nil)))))))) (pbd_nil)) (pbd_cons (psd_set (i := 3) sc__law_exact.nd rfl (by first | exact .inl rfl | exact .inr rfl) (pd_lt (pd_mulS (pd_ix ix_seq od_ix (pd_v 1) (pd_int)) (pd_ix ix_seq od_ix (pd_v 2) (pd_int))) (pd_mulS (pd_ix ix_seq od_ix (pd_v 2) (pd_int)) (pd_ix ix_seq od_ix (pd_v 1) (pd_int))))) (pbd_one (psd_ret (pd_ifE (ptd_eq (pd_v 3) (pd_eq (pd_v 0) (pd_str))) (pd_v 1) (pd_v 2)))))))), rd__law_exact⟩
theorem ok__law_run (T : Tx Cl5.K mg) : ∀ n : Nat, FnOk P w Cl5.K mg base CX0 (n + 7) T.a__law_run T.d__law_run ["spec", "way", "formula", "row"] (upSp Cl5.K (sp__law_run n)) 
  | 0 => okD T.f__law_run sc__law_run (ln__law_run 0) fun cdv A outer s H E hr => ⟨dDead, pbd_dead, fun ds O kk h => h.elim⟩
  | n + 1 => okD T.f__law_run sc__law_run (ln__law_run (n + 1)) fun cdv A outer s H E hr => ⟨bd__law_run n, pbd_cons (psd_if (ptd_in (pd_ix ix_seq od_ix (pd_v 2) (pd_int)) (pd_tup (pad_cons (pd_str) (pad_cons (pd_str) (pad_nil))))) (pbd_cons (psd_set (i := 8) sc__law_run.nd rfl (by first | exact .inl rfl | exact .inr rfl) (pd_ifE (ptd_eq (pd_ix ix_seq od_ix (pd_v 2) (pd_int)) (pd_str)) (pd_ix ix_seq od_ix (pd_v 3) (pd_ix ix_seq od_ix (pd_v 2) (pd_int))) (pd_ix ix_seq od_ix (pd_v 2) (pd_int)))) (pbd_cons (psd_set (i := 7) sc__law_run.nd rfl (by first | exact .inl rfl | exact .inr rfl) (pd_callF (ok__law_rounded T) (hr.mono (by omega)) (by rfl) T.m__law_rounded T.f__law_rounded.kp T.b__law_rounded (pad_cons (pd_v 0) (pad_cons (pd_ifE (ptd_val (pd_callB call_isi cd_isiK (by rfl) T.z_isinstance boot_isinstance (pad_cons (pd_v 8) (pad_cons (pd_tyc (by rfl) T.z_tuple boot_tuple) (pad_nil))))) (pd_v 8) (pd_tup (pad_cons (pd_v 8) (pad_cons (pd_int) (pad_nil))))) (pad_cons (pd_v 1) (pad_nil)))))) (pbd_one (psd_ret (pd_ifE (ptd_is (pd_v 7) (pd_non)) (pd_str) (pd_v 7)))))) (pbd_nil)) (pbd_cons (psd_set (i := 4) sc__law_run.nd rfl (by first | exact .inl rfl | exact .inr rfl) (pd_callF (ok__law_run T n) (hr.mono (by omega)) (by rfl) T.m__law_run T.f__law_run.kp T.b__law_run (pad_cons (pd_v 0) (pad_cons (pd_v 1) (pad_cons (pd_ix ix_seq od_ix (pd_v 2) (pd_int)) (pad_cons (pd_v 3) (pad_nil))))))) (pbd_cons (psd_set (i := 5) sc__law_run.nd rfl (by first | exact .inl rfl | exact .inr rfl) (pd_ifE (ptd_val (pd_callB call_isi cd_isiK (by rfl) T.z_isinstance boot_isinstance (pad_cons (pd_v 4) (pad_cons (pd_tyc (by rfl) T.z_str boot_str) (pad_nil))))) (pd_v 4) (pd_callF (ok__law_run T n) (hr.mono (by omega)) (by rfl) T.m__law_run T.f__law_run.kp T.b__law_run (pad_cons (pd_v 0) (pad_cons (pd_v 1) (pad_cons (pd_ix ix_seq od_ix (pd_v 2) (pd_int)) (pad_cons (pd_v 3) (pad_nil)))))))) (pbd_cons (psd_if (ptd_val (pd_callB call_isi cd_isiK (by rfl) T.z_isinstance boot_isinstance (pad_cons (pd_v 5) (pad_cons (pd_tyc (by rfl) T.z_str boot_str) (pad_nil))))) (pbd_one (psd_ret (pd_v 5))) (pbd_nil)) (pbd_cons (psd_set (i := 6) sc__law_run.nd rfl (by first | exact .inl rfl | exact .inr rfl) (pd_callF (ok__law_exact T) (hr.mono (by omega)) (by rfl) T.m__law_exact T.f__law_exact.kp T.b__law_exact (pad_cons (pd_ix ix_seq od_ix (pd_v 2) (pd_int)) (pad_cons (pd_v 4) (pad_cons (pd_v 5) (pad_nil)))))) (pbd_cons (psd_if (ptd_is (pd_v 6) (pd_non)) (pbd_one (psd_ret (pd_str))) (pbd_nil)) (pbd_cons (psd_set (i := 7) sc__law_run.nd rfl (by first | exact .inl rfl | exact .inr rfl) (pd_callF (ok__law_rounded T) (hr.mono (by omega)) (by rfl) T.m__law_rounded T.f__law_rounded.kp T.b__law_rounded (pad_cons (pd_v 0) (pad_cons (pd_v 6) (pad_cons (pd_v 1) (pad_nil)))))) (pbd_one (psd_ret (pd_ifE (ptd_is (pd_v 7) (pd_non)) (pd_str) (pd_v 7)))))))))), rd__law_run n⟩
theorem ok__law_whole (T : Tx Cl5.K mg) : FnOk P w Cl5.K mg base CX0 1 T.a__law_whole T.d__law_whole ["value"] (upSp Cl5.K sp__law_whole) :=
  okD T.f__law_whole sc__law_whole ln__law_whole fun cdv A outer s H E hr => ⟨bd__law_whole, pbd_cons (psd_set (i := 1) sc__law_whole.nd rfl (by first | exact .inl rfl | exact .inr rfl) (pd_addA (pd_mulS (pd_int) (pd_ix ix_seq od_ix (pd_v 0) (pd_int))) (pd_ix ix_seq od_ix (pd_v 0) (pd_int)))) (pbd_cons (psd_set (i := 2) sc__law_whole.nd rfl (by first | exact .inl rfl | exact .inr rfl) (pd_fdivS (pd_v 1) (pd_mulS (pd_int) (pd_ix ix_seq od_ix (pd_v 0) (pd_int))))) (pbd_one (psd_ret (pd_ifE (ptd_w (pwd_and (ptd_eq (pd_mod (pd_callTy call_int1 cd_int (by rfl) T.z_int boot_int (pad_cons (pd_v 1) (pad_nil))) (pd_mulS (pd_int) (pd_ix ix_seq od_ix (pd_v 0) (pd_int)))) (pd_int)) (pwd_and1 (ptd_eq (pd_mod (pd_callTy call_int1 cd_int (by rfl) T.z_int boot_int (pad_cons (pd_v 2) (pad_nil))) (pd_int)) (pd_int))))) (pd_sub (pd_v 2) (pd_int)) (pd_v 2))))), rd__law_whole⟩
theorem ok__law_spec (T : Tx Cl5.K mg) : FnOk P w Cl5.K mg base CX0 3 T.a__law_spec T.d__law_spec ["hand"] (upSp Cl5.K sp__law_spec) :=
  okD T.f__law_spec sc__law_spec ln__law_spec fun cdv A outer s H E hr => ⟨bd__law_spec, pbd_cons (psd_set (i := 1) sc__law_spec.nd rfl (by first | exact .inl rfl | exact .inr rfl) (pd_callF (ok__law_draw T) (hr.mono (by decide)) (by rfl) T.m__law_draw T.f__law_draw.kp T.b__law_draw (pad_cons (pd_v 0) (pad_cons (pd_int) (pad_nil))))) (pbd_cons (psd_if (ptd_eq (pd_v 1) (pd_int)) (pbd_cons (psd_set (i := 2) sc__law_spec.nd rfl (by first | exact .inl rfl | exact .inr rfl) (pd_sub (pd_callF (ok__law_draw T) (hr.mono (by decide)) (by rfl) T.m__law_draw T.f__law_draw.kp T.b__law_draw (pad_cons (pd_v 0) (pad_cons (pd_int) (pad_nil)))) (pd_int))) (pbd_one (psd_ret (pd_tup (pad_cons (pd_callF (ok__law_any T) (hr.mono (by decide)) (by rfl) T.m__law_any T.f__law_any.kp T.b__law_any (pad_cons (pd_v 0) (pad_cons (pd_lst (pad_cons (pd_int) (pad_cons (pd_int) (pad_cons (pd_int) (pad_nil))))) (pad_nil)))) (pad_cons (pd_v 2) (pad_cons (pd_callB (call_min2 rfl) cd_two (by rfl) T.z_min boot_min (pad_cons (pd_int) (pad_cons (pd_addA (pd_v 2) (pd_callF (ok__law_draw T) (hr.mono (by decide)) (by rfl) T.m__law_draw T.f__law_draw.kp T.b__law_draw (pad_cons (pd_v 0) (pad_cons (pd_int) (pad_nil))))) (pad_nil)))) (pad_nil)))))))) (pbd_nil)) (pbd_cons (psd_set (i := 2) sc__law_spec.nd rfl (by first | exact .inl rfl | exact .inr rfl) (pd_sub (pd_callF (ok__law_draw T) (hr.mono (by decide)) (by rfl) T.m__law_draw T.f__law_draw.kp T.b__law_draw (pad_cons (pd_v 0) (pad_cons (pd_int) (pad_nil)))) (pd_int))) (pbd_cons (psd_if (ptd_lt (pd_v 1) (pd_int)) (pbd_one (psd_ret (pd_tup (pad_cons (pd_addA (pd_int) (pd_callF (ok__law_draw T) (hr.mono (by decide)) (by rfl) T.m__law_draw T.f__law_draw.kp T.b__law_draw (pad_cons (pd_v 0) (pad_cons (pd_int) (pad_nil))))) (pad_cons (pd_v 2) (pad_cons (pd_addA (pd_v 2) (pd_callF (ok__law_draw T) (hr.mono (by decide)) (by rfl) T.m__law_draw T.f__law_draw.kp T.b__law_draw (pad_cons (pd_v 0) (pad_cons (pd_int) (pad_nil))))) (pad_nil))))))) (pbd_nil)) (pbd_one (psd_ret (pd_tup (pad_cons (pd_addA (pd_int) (pd_callF (ok__law_draw T) (hr.mono (by decide)) (by rfl) T.m__law_draw T.f__law_draw.kp T.b__law_draw (pad_cons (pd_v 0) (pad_cons (pd_int) (pad_nil))))) (pad_cons (pd_v 2) (pad_cons (pd_addA (pd_int) (pd_callF (ok__law_draw T) (hr.mono (by decide)) (by rfl) T.m__law_draw T.f__law_draw.kp T.b__law_draw (pad_cons (pd_v 0) (pad_cons (pd_int) (pad_nil))))) (pad_nil)))))))))), rd__law_spec⟩
theorem ok__law_tree (T : Tx Cl5.K mg) : ∀ n : Nat, FnOk P w Cl5.K mg base CX0 (n + 3) T.a__law_tree T.d__law_tree ["hand", "inputs", "many", "room"] (upSp Cl5.K (sp__law_tree n)) 
  | 0 => okD T.f__law_tree sc__law_tree (ln__law_tree 0) fun cdv A outer s H E hr => ⟨dDead, pbd_dead, fun ds O kk h => h.elim⟩
  | n + 1 => okD T.f__law_tree sc__law_tree (ln__law_tree (n + 1)) fun cdv A outer s H E hr => ⟨bd__law_tree n, pbd_cons (psd_if (ptd_eq (pd_v 2) (pd_int)) (pbd_cons (psd_if (ptd_w (pwd_and (ptd_gt (pd_v 1) (pd_int)) (pwd_and1 (ptd_gt (pd_callF (ok__law_draw T) (hr.mono (by omega)) (by rfl) T.m__law_draw T.f__law_draw.kp T.b__law_draw (pad_cons (pd_v 0) (pad_cons (pd_int) (pad_nil)))) (pd_int))))) (pbd_one (psd_ret (pd_tup (pad_cons (pd_str) (pad_cons (pd_callF (ok__law_draw T) (hr.mono (by omega)) (by rfl) T.m__law_draw T.f__law_draw.kp T.b__law_draw (pad_cons (pd_v 0) (pad_cons (pd_v 1) (pad_nil)))) (pad_nil)))))) (pbd_nil)) (pbd_cons (psd_set (i := 9) sc__law_tree.nd rfl (by first | exact .inl rfl | exact .inr rfl) (pd_lst (pad_cons (pd_int) (pad_cons (pd_int) (pad_cons (pd_neg (pd_int)) (pad_cons (pd_int) (pad_cons (pd_int) (pad_cons (pd_neg (pd_int)) (pad_cons (pd_int) (pad_cons (pd_tup (pad_cons (pd_int) (pad_cons (pd_int) (pad_nil)))) (pad_cons (pd_tup (pad_cons (pd_neg (pd_int)) (pad_cons (pd_int) (pad_nil)))) (pad_cons (pd_tup (pad_cons (pd_int) (pad_cons (pd_int) (pad_nil)))) (pad_cons (pd_tup (pad_cons (pd_int) (pad_cons (pd_int) (pad_nil)))) (pad_cons (pd_tup (pad_cons (pd_int) (pad_cons (pd_int) (pad_nil)))) (pad_cons (pd_tup (pad_cons (pd_int) (pad_cons (pd_int) (pad_nil)))) (pad_cons (pd_sub (pd_callF (ok__law_draw T) (hr.mono (by omega)) (by rfl) T.m__law_draw T.f__law_draw.kp T.b__law_draw (pad_cons (pd_v 0) (pad_cons (pd_int) (pad_nil)))) (pd_int)) (pad_nil))))))))))))))))) (pbd_one (psd_ret (pd_tup (pad_cons (pd_str) (pad_cons (pd_callF (ok__law_any T) (hr.mono (by omega)) (by rfl) T.m__law_any T.f__law_any.kp T.b__law_any (pad_cons (pd_v 0) (pad_cons (pd_v 9) (pad_nil)))) (pad_nil)))))))) (pbd_nil)) (pbd_cons (psd_set (i := 4) sc__law_tree.nd rfl (by first | exact .inl rfl | exact .inr rfl) (pd_sub (pd_callF (ok__law_two T) (hr.mono (by omega)) (by rfl) T.m__law_two T.f__law_two.kp T.b__law_two (pad_cons (pd_sub (pd_v 3) (pd_int)) (pad_nil))) (pd_int))) (pbd_cons (psd_set (i := 5) sc__law_tree.nd rfl (by first | exact .inl rfl | exact .inr rfl) (pd_callB (call_max2 rfl) cd_two (by rfl) T.z_max boot_max (pad_cons (pd_int) (pad_cons (pd_sub (pd_sub (pd_v 2) (pd_int)) (pd_v 4)) (pad_nil))))) (pbd_cons (psd_set (i := 6) sc__law_tree.nd rfl (by first | exact .inl rfl | exact .inr rfl) (pd_addA (pd_v 5) (pd_callF (ok__law_draw T) (hr.mono (by omega)) (by rfl) T.m__law_draw T.f__law_draw.kp T.b__law_draw (pad_cons (pd_v 0) (pad_cons (pd_addA (pd_sub (pd_callB (call_min2 rfl) cd_two (by rfl) T.z_min boot_min (pad_cons (pd_v 4) (pad_cons (pd_sub (pd_v 2) (pd_int)) (pad_nil)))) (pd_v 5)) (pd_int)) (pad_nil)))))) (pbd_cons (psd_set (i := 7) sc__law_tree.nd rfl (by first | exact .inl rfl | exact .inr rfl) (pd_callF (ok__law_any T) (hr.mono (by omega)) (by rfl) T.m__law_any T.f__law_any.kp T.b__law_any (pad_cons (pd_v 0) (pad_cons (pd_lst (pad_cons (pd_str) (pad_cons (pd_str) (pad_cons (pd_str) (pad_cons (pd_str) (pad_cons (pd_str) (pad_cons (pd_str) (pad_cons (pd_str) (pad_cons (pd_str) (pad_nil)))))))))) (pad_nil))))) (pbd_cons (psd_set (i := 8) sc__law_tree.nd rfl (by first | exact .inl rfl | exact .inr rfl) (pd_callF (ok__law_tree T n) (hr.mono (by omega)) (by rfl) T.m__law_tree T.f__law_tree.kp T.b__law_tree (pad_cons (pd_v 0) (pad_cons (pd_v 1) (pad_cons (pd_v 6) (pad_cons (pd_sub (pd_v 3) (pd_int)) (pad_nil))))))) (pbd_one (psd_ret (pd_tup (pad_cons (pd_v 7) (pad_cons (pd_v 8) (pad_cons (pd_callF (ok__law_tree T n) (hr.mono (by omega)) (by rfl) T.m__law_tree T.f__law_tree.kp T.b__law_tree (pad_cons (pd_v 0) (pad_cons (pd_v 1) (pad_cons (pd_sub (pd_sub (pd_v 2) (pd_int)) (pd_v 6)) (pad_cons (pd_sub (pd_v 3) (pd_int)) (pad_nil)))))) (pad_nil)))))))))))), rd__law_tree n⟩
theorem ok__law_row (T : Tx Cl5.K mg) : FnOk P w Cl5.K mg base CX0 3 T.a__law_row T.d__law_row ["hand", "inputs"] (upSp Cl5.K sp__law_row) :=
  okD T.f__law_row sc__law_row ln__law_row fun cdv A outer s H E hr => ⟨bd__law_row, pbd_cons (psd_set (i := 2) sc__law_row.nd rfl (by first | exact .inl rfl | exact .inr rfl) (pd_lst (pad_cons (pd_int) (pad_cons (pd_int) (pad_cons (pd_neg (pd_int)) (pad_cons (pd_int) (pad_cons (pd_int) (pad_cons (pd_int) (pad_cons (pd_neg (pd_int)) (pad_cons (pd_int) (pad_cons (pd_int) (pad_cons (pd_int) (pad_cons (pd_neg (pd_int)) (pad_cons (pd_sub (pd_callF (ok__law_draw T) (hr.mono (by decide)) (by rfl) T.m__law_draw T.f__law_draw.kp T.b__law_draw (pad_cons (pd_v 0) (pad_cons (pd_int) (pad_nil)))) (pd_int)) (pad_cons (pd_sub (pd_callF (ok__law_draw T) (hr.mono (by decide)) (by rfl) T.m__law_draw T.f__law_draw.kp T.b__law_draw (pad_cons (pd_v 0) (pad_cons (pd_int) (pad_nil)))) (pd_int)) (pad_nil)))))))))))))))) (pbd_one (psd_ret (pd_tuple (by rfl) T.z_tuple (pd_lc (own := [("axis", 3)]) rfl sc__law_row.nd (pid_range1 (by rfl) T.z_range (pd_v 1)) (blkOk_by (by dsimp only [cxOf, Cx.nox, Cx.wish, Cx.blk, compEnvC, envOfC, relabel_S]; decide +kernel)) (by decide) (fun _ _ _ _ _ => pgd_name (i := 3) sc__law_row.nd rfl (by first | exact .inl rfl | exact .inr rfl)) (fun _ _ _ _ _ => ptsd_nil) (fun _ _ _ _ _ => pd_callF (ok__law_any T) (hr.mono (by decide)) (by rfl) T.m__law_any T.f__law_any.kp T.b__law_any (pad_cons (pd_v 0) (pad_cons (pd_addA (pd_v 2) (pd_mulL (pd_lst (pad_cons (pd_sub (pd_callF (ok__law_draw T) (hr.mono (by decide)) (by rfl) T.m__law_draw T.f__law_draw.kp T.b__law_draw (pad_cons (pd_v 0) (pad_cons (pd_int) (pad_nil)))) (pd_int)) (pad_nil))) (pd_int))) (pad_nil)))))))), rd__law_row⟩
theorem ok__law_is_value (T : Tx Cl5.K mg) : FnOk P w Cl5.K mg base CX0 2 T.a__law_is_value T.d__law_is_value ["thing"] (upSp Cl5.K sp__law_is_value) :=
  okD T.f__law_is_value sc__law_is_value ln__law_is_value fun cdv A outer s H E hr => ⟨bd__law_is_value, pbd_cons (psd_if (ptd_val (pd_callB call_isi cd_isiK (by rfl) T.z_isinstance boot_isinstance (pad_cons (pd_v 0) (pad_cons (pd_tyc (by rfl) T.z_tuple boot_tuple) (pad_nil))))) (pbd_cons (psd_if (ptd_w (pwd_or (ptd_ne (pd_callB call_len_seq cd_len (by rfl) T.z_len boot_len (pad_cons (pd_v 0) (pad_nil))) (pd_int)) (pwd_or (ptd_not (ptd_val (pd_callF (ok__law_is_int T) (hr.mono (by decide)) (by rfl) T.m__law_is_int T.f__law_is_int.kp T.b__law_is_int (pad_cons (pd_ix ix_seq od_ix (pd_v 0) (pd_int)) (pad_cons (pd_neg (pd_int)) (pad_cons (pd_int) (pad_nil))))))) (pwd_or1 (ptd_not (ptd_val (pd_callF (ok__law_is_int T) (hr.mono (by decide)) (by rfl) T.m__law_is_int T.f__law_is_int.kp T.b__law_is_int (pad_cons (pd_ix ix_seq od_ix (pd_v 0) (pd_int)) (pad_cons (pd_int) (pad_cons (pd_int) (pad_nil))))))))))) (pbd_one (psd_ret (pd_bl))) (pbd_nil)) (pbd_one (psd_ret (pd_eqQ (hu64 hr) (pd_callF (ok__law_low T) (hr.mono (by decide)) (by rfl) T.m__law_low T.f__law_low.kp T.b__law_low (pad_cons (pd_ix ix_seq od_ix (pd_v 0) (pd_int)) (pad_cons (pd_ix ix_seq od_ix (pd_v 0) (pd_int)) (pad_nil)))) (pd_v 0))))) (pbd_nil)) (pbd_one (psd_ret (pd_callF (ok__law_is_int T) (hr.mono (by decide)) (by rfl) T.m__law_is_int T.f__law_is_int.kp T.b__law_is_int (pad_cons (pd_v 0) (pad_cons (pd_neg (pd_int)) (pad_cons (pd_int) (pad_nil))))))), rd__law_is_value⟩
theorem ok__law_operations (T : Tx Cl5.K mg) : ∀ n : Nat, FnOk P w Cl5.K mg base CX0 (n + 3) T.a__law_operations T.d__law_operations ["inputs", "thing", "room"] (upSp Cl5.K (sp__law_operations n)) 
  | 0 => okD T.f__law_operations sc__law_operations (ln__law_operations 0) fun cdv A outer s H E hr => ⟨dDead, pbd_dead, fun ds O kk h => h.elim⟩
  | n + 1 => okD T.f__law_operations sc__law_operations (ln__law_operations (n + 1)) fun cdv A outer s H E hr => ⟨bd__law_operations n, pbd_cons (psd_if (ptd_w (pwd_or (ptd_not (ptd_val (pd_callB call_isi cd_isiK (by rfl) T.z_isinstance boot_isinstance (pad_cons (pd_v 1) (pad_cons (pd_tyc (by rfl) T.z_tuple boot_tuple) (pad_nil)))))) (pwd_or (ptd_lt (pd_callB call_len_seq cd_len (by rfl) T.z_len boot_len (pad_cons (pd_v 1) (pad_nil))) (pd_int)) (pwd_or1 (ptd_not (ptd_val (pd_callB call_isi cd_isiK (by rfl) T.z_isinstance boot_isinstance (pad_cons (pd_ix ix_seq od_ix (pd_v 1) (pd_int)) (pad_cons (pd_tyc (by rfl) T.z_str boot_str) (pad_nil)))))))))) (pbd_one (psd_ret (pd_int))) (pbd_nil)) (pbd_cons (psd_if (ptd_eq (pd_callB call_len_seq cd_len (by rfl) T.z_len boot_len (pad_cons (pd_v 1) (pad_nil))) (pd_int)) (pbd_cons (psd_if (ptd_eq (pd_ix ix_seq od_ix (pd_v 1) (pd_int)) (pd_str)) (pbd_one (psd_ret (pd_ifE (ptd_val (pd_callF (ok__law_is_int T) (hr.mono (by omega)) (by rfl) T.m__law_is_int T.f__law_is_int.kp T.b__law_is_int (pad_cons (pd_ix ix_seq od_ix (pd_v 1) (pd_int)) (pad_cons (pd_int) (pad_cons (pd_sub (pd_v 0) (pd_int)) (pad_nil)))))) (pd_int) (pd_int)))) (pbd_nil)) (pbd_one (psd_ret (pd_ifE (ptd_w (pwd_and (ptd_eq (pd_ix ix_seq od_ix (pd_v 1) (pd_int)) (pd_str)) (pwd_and1 (ptd_val (pd_callF (ok__law_is_value T) (hr.mono (by omega)) (by rfl) T.m__law_is_value T.f__law_is_value.kp T.b__law_is_value (pad_cons (pd_ix ix_seq od_ix (pd_v 1) (pd_int)) (pad_nil))))))) (pd_int) (pd_int))))) (pbd_nil)) (pbd_cons (psd_if (ptd_w (pwd_or (ptd_ne (pd_callB call_len_seq cd_len (by rfl) T.z_len boot_len (pad_cons (pd_v 1) (pad_nil))) (pd_int)) (pwd_or (ptd_eq (pd_v 2) (pd_int)) (pwd_or1 (ptd_notin (pd_ix ix_seq od_ix (pd_v 1) (pd_int)) (pd_lst (pad_cons (pd_str) (pad_cons (pd_str) (pad_cons (pd_str) (pad_cons (pd_str) (pad_cons (pd_str) (pad_cons (pd_str) (pad_nil))))))))))))) (pbd_one (psd_ret (pd_int))) (pbd_nil)) (pbd_one (psd_ret (pd_addA (pd_addA (pd_int) (pd_callF (ok__law_operations T n) (hr.mono (by omega)) (by rfl) T.m__law_operations T.f__law_operations.kp T.b__law_operations (pad_cons (pd_v 0) (pad_cons (pd_ix ix_seq od_ix (pd_v 1) (pd_int)) (pad_cons (pd_sub (pd_v 2) (pd_int)) (pad_nil)))))) (pd_callF (ok__law_operations T n) (hr.mono (by omega)) (by rfl) T.m__law_operations T.f__law_operations.kp T.b__law_operations (pad_cons (pd_v 0) (pad_cons (pd_ix ix_seq od_ix (pd_v 1) (pd_int)) (pad_cons (pd_sub (pd_v 2) (pd_int)) (pad_nil)))))))))), rd__law_operations n⟩
theorem ok__law_is (T : Tx Cl5.K mg) : ∀ n : Nat, FnOk P w Cl5.K mg base CX0 (n + 1) T.a__law_is T.d__law_is ["told", "due"] (upSp Cl5.K (sp__law_is n)) 
  | 0 => okD T.f__law_is sc__law_is (ln__law_is 0) fun cdv A outer s H E hr => ⟨dDead, pbd_dead, fun ds O kk h => h.elim⟩
  | n + 1 => okD T.f__law_is sc__law_is (ln__law_is (n + 1)) fun cdv A outer s H E hr => ⟨bd__law_is n, pbd_cons (psd_if (ptd_val (pd_callB call_isi cd_isiK (by rfl) T.z_isinstance boot_isinstance (pad_cons (pd_v 1) (pad_cons (pd_tyc (by rfl) T.z_tuple boot_tuple) (pad_nil))))) (pbd_cons (psd_if (ptd_w (pwd_or (ptd_not (ptd_val (pd_callB call_isi cd_isiK (by rfl) T.z_isinstance boot_isinstance (pad_cons (pd_v 0) (pad_cons (pd_tyc (by rfl) T.z_tuple boot_tuple) (pad_nil)))))) (pwd_or1 (ptd_ne (pd_callB call_len_seq cd_len (by rfl) T.z_len boot_len (pad_cons (pd_v 0) (pad_nil))) (pd_callB call_len_seq cd_len (by rfl) T.z_len boot_len (pad_cons (pd_v 1) (pad_nil))))))) (pbd_one (psd_ret (pd_bl))) (pbd_nil)) (pbd_one (psd_ret (pd_callB (cr_all rfl) cd_bools (by rfl) T.z_all boot_all (pad_cons (pd_lc (own := [("at", 2)]) rfl sc__law_is.nd (pid_range1 (by rfl) T.z_range (pd_callB call_len_seq cd_len (by rfl) T.z_len boot_len (pad_cons (pd_v 1) (pad_nil)))) (blkOk_by (by dsimp only [cxOf, Cx.nox, Cx.wish, Cx.blk, compEnvC, envOfC, relabel_S]; decide +kernel)) (by decide) (fun _ _ _ _ _ => pgd_name (i := 2) sc__law_is.nd rfl (by first | exact .inl rfl | exact .inr rfl)) (fun _ _ _ _ _ => ptsd_nil) (fun _ _ _ _ _ => pd_callF (ok__law_is T n) (hr.mono (by omega)) (by rfl) T.m__law_is T.f__law_is.kp T.b__law_is (pad_cons (pd_ix ix_seq od_ix (pd_v 0) (pd_v 2)) (pad_cons (pd_ix ix_seq od_ix (pd_v 1) (pd_v 2)) (pad_nil))))) (pad_nil)))))) (pbd_nil)) (pbd_cons (psd_if (ptd_w (pwd_or (ptd_is (pd_v 1) (pd_non)) (pwd_or1 (ptd_val (pd_callB call_isi cd_isiK (by rfl) T.z_isinstance boot_isinstance (pad_cons (pd_v 1) (pad_cons (pd_tyc (by rfl) T.z_str boot_str) (pad_nil)))))))) (pbd_one (psd_ret (pd_ifE (ptd_is (pd_v 1) (pd_non)) (pd_is (pd_v 0) (pd_non)) (pd_and (pd_callB call_isi cd_isiK (by rfl) T.z_isinstance boot_isinstance (pad_cons (pd_v 0) (pad_cons (pd_tyc (by rfl) T.z_str boot_str) (pad_nil)))) (pd_one (pd_eq (pd_v 0) (pd_v 1))))))) (pbd_nil)) (pbd_one (psd_ret (pd_and (pd_callB call_isi cd_isiK (by rfl) T.z_isinstance boot_isinstance (pad_cons (pd_v 0) (pad_cons (pd_tyc (by rfl) T.z_int boot_int) (pad_nil)))) (pd_and (pd_not (pd_callB call_isi cd_isiK (by rfl) T.z_isinstance boot_isinstance (pad_cons (pd_v 0) (pad_cons (pd_tyc (by rfl) T.z_bool boot_bool) (pad_nil))))) (pd_one (pd_eq (pd_v 0) (pd_v 1)))))))), rd__law_is n⟩
theorem ok__law_with (T : Tx Cl5.K mg) : ∀ n : Nat, FnOk P w Cl5.K mg base CX0 (n + 1) T.a__law_with T.d__law_with ["formula", "path", "made"] (upSp Cl5.K (sp__law_with n)) 
  | 0 => okD T.f__law_with sc__law_with (ln__law_with 0) fun cdv A outer s H E hr => ⟨dDead, pbd_dead, fun ds O kk h => h.elim⟩
  | n + 1 => okD T.f__law_with sc__law_with (ln__law_with (n + 1)) fun cdv A outer s H E hr => ⟨bd__law_with n, pbd_cons (psd_if (ptd_eq (pd_callB call_len_seq cd_len (by rfl) T.z_len boot_len (pad_cons (pd_v 1) (pad_nil))) (pd_int)) (pbd_one (psd_ret (pd_v 2))) (pbd_nil)) (pbd_cons (psd_set (i := 3) sc__law_with.nd rfl (by first | exact .inl rfl | exact .inr rfl) (pd_ix ix_seq od_ix (pd_v 1) (pd_int))) (pbd_one (psd_ret (pd_addA (pd_addA (pd_slice (pd_v 0) (pod_none) (pod_some (pd_v 3))) (pd_tup (pad_cons (pd_callF (ok__law_with T n) (hr.mono (by omega)) (by rfl) T.m__law_with T.f__law_with.kp T.b__law_with (pad_cons (pd_ix ix_seq od_ix (pd_v 0) (pd_v 3)) (pad_cons (pd_slice (pd_v 1) (pod_some (pd_int)) (pod_none)) (pad_cons (pd_v 2) (pad_nil))))) (pad_nil)))) (pd_slice (pd_v 0) (pod_some (pd_addA (pd_v 3) (pd_int))) (pod_none)))))), rd__law_with n⟩
theorem ok__law_path (T : Tx Cl5.K mg) : FnOk P w Cl5.K mg base CX0 2 T.a__law_path T.d__law_path ["hand", "formula"] (upSp Cl5.K sp__law_path) :=
  okD T.f__law_path sc__law_path ln__law_path fun cdv A outer s H E hr => ⟨bd__law_path, pbd_cons (psd_par (i := 2) (j := 3) rfl sc__law_path.nd rfl rfl (by decide) rfl rfl (pad_cons (pd_lstO (pad_nil)) (pad_cons (pd_v 1) (pad_nil))) (by rfl)) (pbd_cons (psd_while PassesOwn.never (ptd_w (pwd_and (ptd_eq (pd_callB call_len_seq cd_len (by rfl) T.z_len boot_len (pad_cons (pd_v 3) (pad_nil))) (pd_int)) (pwd_and1 (ptd_gt (pd_callF (ok__law_draw T) (hr.mono (by decide)) (by rfl) T.m__law_draw T.f__law_draw.kp T.b__law_draw (pad_cons (pd_v 0) (pad_cons (pd_int) (pad_nil)))) (pd_int))))) (pbd_cons (psd_app (pd_v 2) (pd_addA (pd_int) (pd_callF (ok__law_draw T) (hr.mono (by decide)) (by rfl) T.m__law_draw T.f__law_draw.kp T.b__law_draw (pad_cons (pd_v 0) (pad_cons (pd_int) (pad_nil)))))) (pbd_one (psd_set (i := 3) sc__law_path.nd rfl (by first | exact .inl rfl | exact .inr rfl) (pd_ix ix_seq od_ix (pd_v 3) (pd_ix ix_seq od_ix (pd_v 2) (pd_neg (pd_int)))))))) (pbd_one (psd_ret (pd_tup (pad_cons (pd_frz (pd_v 2)) (pad_cons (pd_v 3) (pad_nil))))))), rd__law_path⟩
theorem ok__law_deeper (T : Tx Cl5.K mg) : FnOk P w Cl5.K mg base CX0 1 T.a__law_deeper T.d__law_deeper ["formula", "many"] (upSp Cl5.K sp__law_deeper) :=
  okD T.f__law_deeper sc__law_deeper ln__law_deeper fun cdv A outer s H E hr => ⟨bd__law_deeper, pbd_cons (psd_for PassesOwn.never rfl (pid_range1 (by rfl) T.z_range (pd_v 1)) (pgd_name (i := 2) sc__law_deeper.nd rfl (by first | exact .inl rfl | exact .inr rfl)) (pbd_one (psd_set (i := 0) sc__law_deeper.nd rfl (by first | exact .inl rfl | exact .inr rfl) (pd_ifE (ptd_eq (pd_mod (pd_callTy call_int1 cd_int (by rfl) T.z_int boot_int (pad_cons (pd_v 2) (pad_nil))) (pd_int)) (pd_int)) (pd_tup (pad_cons (pd_str) (pad_cons (pd_v 0) (pad_cons (pd_tup (pad_cons (pd_str) (pad_cons (pd_int) (pad_nil)))) (pad_nil))))) (pd_tup (pad_cons (pd_str) (pad_cons (pd_tup (pad_cons (pd_str) (pad_cons (pd_tup (pad_cons (pd_int) (pad_cons (pd_int) (pad_nil)))) (pad_nil)))) (pad_cons (pd_v 0) (pad_nil))))))))) (pbd_one (psd_ret (pd_v 0))), rd__law_deeper⟩
end Lk05
namespace Lk05
open PySem PySem.Spec PyProof.Rows L2 SC
/-! ### the classes -/
def s_initF : Stmt := match topS 19 with
  | .ClassDef (body := b) .. => b.getD 0 (.Pass ⟨0, 0, 0, 0⟩)
  | st => st
def s_init : Stmt := match topS 2 with
  | .ClassDef (body := b) .. => b.getD 0 (.Pass ⟨0, 0, 0, 0⟩)
  | st => st
theorem sc_initF : FnScope ["self", "bits", "low", "high"] ["self", "bits", "low", "high"] (defScope s_initF) := ⟨rfl, rfl, rfl, by decide +kernel, rfl, by decide +kernel, by decide +kernel⟩
theorem sc_init : FnScope ["self"] ["self"] (defScope s_init) := ⟨rfl, rfl, rfl, by decide +kernel, rfl, by decide +kernel, by decide +kernel⟩
theorem sc_told : FnScope ["call", "word", "flags", "is_one", "e"] ["call"] (defScope s__law_told) := ⟨rfl, rfl, rfl, by decide +kernel, rfl, by decide +kernel, by decide +kernel⟩
theorem put_len (f : Str) (v : V) : ∀ fs : List (Str × V), (putF f v fs).length ≤ fs.length + 1
  | [] => by simp [putF]
  | (g, x) :: r => by
    have := put_len f v r
    unfold putF
    split
    · simp
    · simp only [List.length_cons]; omega
inductive Few : List (Str × V) → Nat → Prop
  | nil : Few [] 0
  | put {f : Str} {v : V} {fs : List (Str × V)} {n : Nat} (h : Few fs n) : Few (putF f v fs) (n + 1)
theorem Few.le {fs : List (Str × V)} {n : Nat} (h : Few fs n) : fs.length ≤ n := by
  induction h with
  | nil => exact Nat.le_refl _
  | put h ih => exact Nat.le_trans (put_len _ _ _) (Nat.succ_le_succ ih)
theorem few {fs : List (Str × V)} {n : Nat} (h : Few fs n) (l : n < 1000 := by decide) : fs.length < 1000 := Nat.lt_of_le_of_lt h.le l
theorem pe_n {X : Cx} (i : Nat) {x : Str} {pos : Pos} (hN : X.N[i]? = some x := by rfl) (hv : Vis X.env.scope x := by first | exact Or.inl rfl | exact Or.inr (Or.inl rfl) | exact Or.inr (Or.inr rfl)) (hd : (x == ("__debug__" : Str)) = false := by decide)
    (hcd : (x == ("__classdict__" : Str)) = false := by decide) : PE X (.Name x pos) (tVar i) := pe_var hN hv hd hcd
structure Ey [Cl5] {mg : Str → Option Value} (T : Tx Cl5.K mg) where
  m_Beyond : mg "Beyond" = some (.ref Cl5.cBeyond)
  o_Beyond : OexC Cl5.K Cl5.cBeyond
  x_Beyond : ExcC Cl5.K Cl5.cBeyond
  m_Nought : mg "Nought" = some (.ref Cl5.cNought)
  o_Nought : OexC Cl5.K Cl5.cNought
  x_Nought : ExcC Cl5.K Cl5.cNought
  cC : Addr
  mC : mg "CraftError" = some (.ref cC)
  fI : Addr
  dI : FuncData
  i_Beyond : PySem.W.findIn Cl5.K (.ref Cl5.cBeyond) "__init__" = some (some (.ref fI))
  i_Nought : PySem.W.findIn Cl5.K (.ref Cl5.cNought) "__init__" = some (some (.ref fI))
  ti : PySem.W.typeIn Cl5.K (.ref fI) = some (.type "function")
  f_I : Fun Cl5.K "__init__" "CraftError.__init__" s_init fI dI
  b_err : Binds Cl5.K dI ["self"] []
  e_B : PySem.W.exmOne Cl5.K (.ref Cl5.cBeyond) (.ref cC) = some true
  e_N : PySem.W.exmOne Cl5.K (.ref Cl5.cNought) (.ref cC) = some true
  kBB : PySem.W.kitOne Cl5.K (.ref Cl5.cBeyond) (.ref Cl5.cBeyond) = some true
  kBN : PySem.W.kitOne Cl5.K (.ref Cl5.cBeyond) (.ref Cl5.cNought) = some false
  kNB : PySem.W.kitOne Cl5.K (.ref Cl5.cNought) (.ref Cl5.cBeyond) = some false
  kNN : PySem.W.kitOne Cl5.K (.ref Cl5.cNought) (.ref Cl5.cNought) = some true
  kBV : PySem.W.kitOne Cl5.K (.ref Cl5.cBeyond) (.type "ValueError") = some true
  kNV : PySem.W.kitOne Cl5.K (.ref Cl5.cNought) (.type "ValueError") = some true
  zV : mg "ValueError" = none
  c : Addr
  hc : T.d_law.code = .ref c
  m_Format : mg "Format" = some (.ref Cl5.cF)
  aF : Addr
  dF : FuncData
  mk_Format : Mk Cl5.K Cl5.cF aF
  f_F : Fun Cl5.K "__init__" "Format.__init__" s_initF aF dF
  b_Format : Binds Cl5.K dF ["self", "bits", "low", "high"] []
section
variable [TabL] [XCx] [Cl5] {P : Program} {w : World} {mg : Str → Option Value} {base : Heap}
theorem ok_init_err {T : Tx Cl5.K mg} (E : Ey T) : FnOk P w Cl5.K mg base CX0 1 E.fI E.dI ["self"] spPass :=
  E.f_I.ok sc_init (fun vs H Q E h => by obtain ⟨v, rfl, _⟩ := h; rfl) fun cdv A outer s H vs Q E hr h => ⟨_, pss_one ps_pass, by obtain ⟨v, rfl, h⟩ := h; exact h⟩
theorem ok_init_Format (T : Tx Cl5.K mg) (E : Ey T) : FnOk P w Cl5.K mg base CX0 3 E.aF E.dF ["self", "bits", "low", "high"] (spInitR Cl5.K Cl5.cF ["bits", "low", "high"] FmtP) := by
  refine E.f_F.ok sc_initF (fun vs H Q Ek h => ?_) fun cdv A outer s H vs Q Ek hr h => ?_
  · obtain ⟨x, dx, H0, F, O, us, ds, rfl, _, _, _, _, _, r, ⟨f, _, hp⟩, _⟩ := h
    have l := r.length
    rw [hp] at l
    simpa using l
  · obtain ⟨x, dx, H0, F, O, us, ds, rfl, rfl, nx, nd, ne, st, r, ⟨f, hf, hp⟩, hq⟩ := h
    refine ⟨_, pss_test (psd_if (ptd_not (ptd_val (pd_callF (ok_is_between T) (hr.mono (by decide)) (by rfl) T.m_is_between T.f_is_between.kp T.b_is_between (pad_cons pd_int (pad_cons pd_int (pad_cons (pd_v 1) pad_nil)))))) pbd_dead pbd_nil)
      (pss_test (psd_if (ptd_not (ptd_val (pd_callF (ok_is_between T) (hr.mono (by decide)) (by rfl) T.m_is_between T.f_is_between.kp T.b_is_between (pad_cons (pd_neg pd_int) (pad_cons pd_int (pad_cons (pd_v 2) pad_nil)))))) pbd_dead pbd_nil)
      (pss_test (psd_if (ptd_not (ptd_val (pd_callF (ok_is_between T) (hr.mono (by decide)) (by rfl) T.m_is_between T.f_is_between.kp T.b_is_between (pad_cons (pd_v 2) (pad_cons pd_int (pad_cons (pd_v 3) pad_nil)))))) pbd_dead pbd_nil)
      (pss_cons (ps_fld (pe_n 0) (pe_n 1) (by rfl)) (pss_cons (ps_fld (pe_n 0) (pe_n 2) (by rfl)) (pss_one (ps_fld (pe_n 0) (pe_n 3) (by rfl))))))), ?_⟩
    rw [hp] at r hq
    clear hp
    have nx' : upd H0 dx (.own x) x = none := by rw [upd_ne ne.symm]; exact nx
    have g1 := (st.junk (o := .own x) nd).trans ((st.junk (o := .own x) nd).stt.junk (o := .ins Cl5.cF dx []) nx')
    have e0 := erep_start (F := F) (.cons (.own x) r) ["self", "bits", "low", "high"]
    refine ⟨F, _, O, g1.stt, e0, ?_, fun F1 H1 σ1 g2 er1 => ⟨F1, _, O, g2.stt, er1, ?_, fun F2 H2 σ2 g3 er2 => ⟨F2, _, O, g3.stt, er2, ?_, fun F3 H3 σ3 g4 er3 => ?_⟩⟩⟩
    · simp only [dIf, dNot, dB, dCall, dCons, dNil, dVar, dC, startD, List.map_cons, List.map_nil, List.length_cons, List.length_nil, Nat.reduceAdd, Nat.reduceSub, List.replicate_zero, List.cons_append, List.nil_append, List.append_nil, List.getElem?_cons_zero, List.getElem?_cons_succ]
      exact ⟨2, 24, .int f.b, rfl, rfl, by rw [show Lk19.betw 2 24 (.int f.b) = true from by have := hf.b1; have := hf.b2; simp [Lk19.betw]; omega]; exact ⟨rfl, rfl⟩⟩
    · simp only [dIf, dNot, dB, dCall, dCons, dNil, dVar, dC, dUn, dU, startD, List.map_cons, List.map_nil, List.length_cons, List.length_nil, Nat.reduceAdd, Nat.reduceSub, List.replicate_zero, List.cons_append, List.nil_append, List.append_nil, List.getElem?_cons_zero, List.getElem?_cons_succ]
      exact ⟨(-40), 40, .int f.l, rfl, rfl, by rw [show Lk19.betw (-40) 40 (.int f.l) = true from by have := hf.l1; have := hf.lh; have := hf.h1; simp [Lk19.betw]; omega]; exact ⟨rfl, rfl⟩⟩
    · simp only [dIf, dNot, dB, dCall, dCons, dNil, dVar, dC, startD, List.map_cons, List.map_nil, List.length_cons, List.length_nil, Nat.reduceAdd, Nat.reduceSub, List.replicate_zero, List.cons_append, List.nil_append, List.append_nil, List.getElem?_cons_zero, List.getElem?_cons_succ]
      exact ⟨f.l, 40, .int f.h, rfl, rfl, by rw [show Lk19.betw f.l 40 (.int f.h) = true from by have := hf.l1; have := hf.lh; have := hf.h1; simp [Lk19.betw]; omega]; exact ⟨rfl, rfl⟩⟩
    · have gg := (g2.trans g3).trans g4
      obtain ⟨v0, h0, r0⟩ := er3.get (i := 0) rfl
      obtain ⟨v1, h1, r1⟩ := er3.get (i := 1) rfl
      obtain ⟨v2, h2, r2⟩ := er3.get (i := 2) rfl
      obtain ⟨v3, h3, r3⟩ := er3.get (i := 3) rfl
      cases r0
      have hx : H3 x = some (.ins Cl5.cF dx []) := (gg.frame x _ upd_same (free_F st nx) (free_O st nx) (fun ps z => by cases z)).1
      have fx : F3 x = none := (gg.frame x _ upd_same (free_F st nx) (free_O st nx) (fun ps z => by cases z)).2.1
      refine sFld_go h0 h1 hx Cl5.clF (Cl5.nF _ (by simp)) (by simp) ?_
      refine sFld_go h0 h2 upd_same Cl5.clF (Cl5.nF _ (by simp)) (few (.put .nil)) ?_
      refine sFld_go h0 h3 upd_same Cl5.clF (Cl5.nF _ (by simp)) (few (.put (.put .nil))) ?_
      have gm := Go.madeObj (fs := (["bits", "low", "high"] : List Str).zip [v1, v2, v3]) st nx nd ne gg
      rw [upd_upd, upd_upd]
      have sm : Same F3 (upd F3 x (.ins Cl5.cF dx ((["bits", "low", "high"] : List Str).zip [v1, v2, v3]))) := same_upd fx
      exact hq _ _ gm (.obj upd_same (.cons (r1.mono sm) (.cons (r2.mono sm) (.cons (r3.mono sm) .nil))))
theorem okx_one_more (T : Tx Cl5.K mg) (E : Ey T) : FnOk P w Cl5.K mg base (L2.CX P w) 3 T.a_one_more T.d_one_more ["format", "many", "step"] (upSpX Cl5.K spx_one_more) :=
  okXD T.f_one_more sc_one_more lnx_one_more fun I cdv A outer s H Ek hr xo tk => ⟨bd_one_more, pbd_cons (psd_if (ptd_w (pwd_and (ptd_eq (pd_v 2) (pd_fld (pd_v 0))) (pwd_and1 (ptd_eq (pd_addA (pd_v 1) (pd_int)) (pd_shlS (pd_int) (pd_fld (pd_v 0))))))) (pbd_one (psd_raise rfl tk xo (pmk_n E.o_Beyond E.i_Beyond E.ti (ok_init_err E) (hr.mono (by decide)) E.b_err L2.pass0 (by rfl) E.m_Beyond))) (pbd_nil)) (pbd_one (psd_ret (pd_addA (pd_v 1) (pd_int)))), rdx_one_more⟩
theorem okx_settled (T : Tx Cl5.K mg) (E : Ey T) : FnOk P w Cl5.K mg base (L2.CX P w) 4 T.a_settled T.d_settled ["format", "way", "top", "bottom"] (upSpX Cl5.K spx_settled) :=
  okXD T.f_settled sc_settled lnx_settled fun I cdv A outer s H Ek hr xo tk => ⟨bd_settled, pbd_cons (psd_if (ptd_eq (pd_v 2) (pd_int)) (pbd_one (psd_ret (pd_tup (pad_cons (pd_int) (pad_cons (pd_int) (pad_nil)))))) (pbd_nil)) (pbd_cons (psd_asg (pd_callF (ok_stepped T) (hr.mono (by decide)) (by rfl) T.m_stepped T.f_stepped.kp T.b_stepped (pad_cons (pd_v 0) (pad_cons (pd_callB call_abs cd_abs (by rfl) T.z_abs boot_abs (pad_cons (pd_v 2) (pad_nil))) (pad_cons (pd_v 3) (pad_nil))))) (pgd_tup (K := Cl5.K) rfl (pgds_cons (pgd_name (i := 5) sc_settled.nd rfl (by first | exact .inl rfl | exact .inr rfl)) (pgds_cons (pgd_name (i := 6) sc_settled.nd rfl (by first | exact .inl rfl | exact .inr rfl)) (pgds_cons (pgd_name (i := 7) sc_settled.nd rfl (by first | exact .inl rfl | exact .inr rfl)) (pgds_cons (pgd_name (i := 3) sc_settled.nd rfl (by first | exact .inl rfl | exact .inr rfl)) (pgds_nil))))))) (pbd_cons (psd_if (ptd_gt (pd_v 5) (pd_fld (pd_v 0))) (pbd_one (psd_raise rfl tk xo (pmk_n E.o_Beyond E.i_Beyond E.ti (ok_init_err E) (hr.mono (by decide)) E.b_err L2.pass0 (by rfl) E.m_Beyond))) (pbd_nil)) (pbd_cons (psd_if (ptd_ne (pd_v 7) (pd_int)) (pbd_cons (psd_set (i := 8) sc_settled.nd rfl (by first | exact .inl rfl | exact .inr rfl) (pd_callX (okx_one_more T E) tk xo (hr.mono (by decide)) (by rfl) T.m_one_more T.f_one_more.kp T.b_one_more (pad_cons (pd_v 0) (pad_cons (pd_v 6) (pad_cons (pd_v 5) (pad_nil)))))) (pbd_one (psd_if (ptd_val (pd_callF (ok_goes_outward T) (hr.mono (by decide)) (by rfl) T.m_goes_outward T.f_goes_outward.kp T.b_goes_outward (pad_cons (pd_v 1) (pad_cons (pd_v 2) (pad_cons (pd_v 6) (pad_cons (pd_sub (pd_mulS (pd_int) (pd_v 7)) (pd_v 3)) (pad_nil))))))) (pbd_one (psd_set (i := 6) sc_settled.nd rfl (by first | exact .inl rfl | exact .inr rfl) (pd_v 8))) (pbd_nil)))) (pbd_nil)) (pbd_cons (psd_set (i := 4) sc_settled.nd rfl (by first | exact .inl rfl | exact .inr rfl) (pd_callF (ok_shaped T) (hr.mono (by decide)) (by rfl) T.m_shaped T.f_shaped.kp T.b_shaped (pad_cons (pd_v 6) (pad_cons (pd_v 5) (pad_nil))))) (pbd_one (psd_ret (pd_ifE (ptd_gt (pd_v 2) (pd_int)) (pd_v 4) (pd_callF (ok_negated T) (hr.mono (by decide)) (by rfl) T.m_negated T.f_negated.kp T.b_negated (pad_cons (pd_v 4) (pad_nil)))))))))), rdx_settled⟩
theorem okx_exact (T : Tx Cl5.K mg) (E : Ey T) : FnOk P w Cl5.K mg base (L2.CX P w) 3 T.a_exact T.d_exact ["word", "one", "other"] (upSpX Cl5.K spx_exact) :=
  okXD T.f_exact sc_exact lnx_exact fun I cdv A outer s H Ek hr xo tk => ⟨bd_exact, pbd_cons (psd_asg (pd_tup (pad_cons (pd_v 1) (pad_cons (pd_v 2) (pad_nil)))) (pgd_tup (K := Cl5.K) rfl (pgds_cons (pgd_tup (K := Cl5.K) rfl (pgds_cons (pgd_name (i := 5) sc_exact.nd rfl (by first | exact .inl rfl | exact .inr rfl)) (pgds_cons (pgd_name (i := 6) sc_exact.nd rfl (by first | exact .inl rfl | exact .inr rfl)) (pgds_nil)))) (pgds_cons (pgd_tup (K := Cl5.K) rfl (pgds_cons (pgd_name (i := 4) sc_exact.nd rfl (by first | exact .inl rfl | exact .inr rfl)) (pgds_cons (pgd_name (i := 7) sc_exact.nd rfl (by first | exact .inl rfl | exact .inr rfl)) (pgds_nil)))) (pgds_nil))))) (pbd_cons (psd_if (ptd_eq (pd_v 0) (pd_str)) (pbd_one (psd_ret (pd_callF (ok_parts T) (hr.mono (by decide)) (by rfl) T.m_parts T.f_parts.kp T.b_parts (pad_cons (pd_tup (pad_cons (pd_mulS (pd_v 5) (pd_v 4)) (pad_cons (pd_addA (pd_v 6) (pd_v 7)) (pad_nil)))) (pad_nil))))) (pbd_nil)) (pbd_cons (psd_if (ptd_eq (pd_v 0) (pd_str)) (pbd_cons (psd_if (ptd_eq (pd_v 4) (pd_int)) (pbd_one (psd_raise rfl tk xo (pmk_n E.o_Nought E.i_Nought E.ti (ok_init_err E) (hr.mono (by decide)) E.b_err L2.pass0 (by rfl) E.m_Nought))) (pbd_nil)) (pbd_cons (psd_set (i := 3) sc_exact.nd rfl (by first | exact .inl rfl | exact .inr rfl) (pd_ifE (ptd_gt (pd_v 4) (pd_int)) (pd_v 5) (pd_neg (pd_v 5)))) (pbd_one (psd_ret (pd_tup (pad_cons (pd_callF (ok_scaled T) (hr.mono (by decide)) (by rfl) T.m_scaled T.f_scaled.kp T.b_scaled (pad_cons (pd_v 3) (pad_cons (pd_sub (pd_v 6) (pd_v 7)) (pad_nil)))) (pad_cons (pd_callF (ok_scaled T) (hr.mono (by decide)) (by rfl) T.m_scaled T.f_scaled.kp T.b_scaled (pad_cons (pd_callB call_abs cd_abs (by rfl) T.z_abs boot_abs (pad_cons (pd_v 4) (pad_nil))) (pad_cons (pd_sub (pd_v 7) (pd_v 6)) (pad_nil)))) (pad_nil)))))))) (pbd_nil)) (pbd_cons (psd_if (ptd_eq (pd_v 0) (pd_str)) (pbd_one (psd_set (i := 4) sc_exact.nd rfl (by first | exact .inl rfl | exact .inr rfl) (pd_neg (pd_v 4)))) (pbd_nil)) (pbd_one (psd_ret (pd_callF (ok_parts T) (hr.mono (by decide)) (by rfl) T.m_parts T.f_parts.kp T.b_parts (pad_cons (pd_tup (pad_cons (pd_addA (pd_callF (ok_scaled T) (hr.mono (by decide)) (by rfl) T.m_scaled T.f_scaled.kp T.b_scaled (pad_cons (pd_v 5) (pad_cons (pd_sub (pd_v 6) (pd_v 7)) (pad_nil)))) (pd_callF (ok_scaled T) (hr.mono (by decide)) (by rfl) T.m_scaled T.f_scaled.kp T.b_scaled (pad_cons (pd_v 4) (pad_cons (pd_sub (pd_v 7) (pd_v 6)) (pad_nil))))) (pad_cons (pd_callB (call_min2 rfl) cd_two (by rfl) T.z_min boot_min (pad_cons (pd_v 6) (pad_cons (pd_v 7) (pad_nil)))) (pad_nil)))) (pad_nil)))))))), rdx_exact⟩
theorem okx_worked (T : Tx Cl5.K mg) (E : Ey T) : FnOk P w Cl5.K mg base (L2.CX P w) 5 T.a_worked T.d_worked ["format", "way", "word", "one", "other"] (upSpX Cl5.K spx_worked) :=
  okXD T.f_worked sc_worked lnx_worked fun I cdv A outer s H Ek hr xo tk => ⟨bd_worked, pbd_cons (psd_asg (pd_callX (okx_exact T E) tk xo (hr.mono (by decide)) (by rfl) T.m_exact T.f_exact.kp T.b_exact (pad_cons (pd_v 2) (pad_cons (pd_v 3) (pad_cons (pd_v 4) (pad_nil))))) (pgd_tup (K := Cl5.K) rfl (pgds_cons (pgd_name (i := 5) sc_worked.nd rfl (by first | exact .inl rfl | exact .inr rfl)) (pgds_cons (pgd_name (i := 6) sc_worked.nd rfl (by first | exact .inl rfl | exact .inr rfl)) (pgds_nil))))) (pbd_one (psd_ret (pd_callX (okx_settled T E) tk xo (hr.mono (by decide)) (by rfl) T.m_settled T.f_settled.kp T.b_settled (pad_cons (pd_v 0) (pad_cons (pd_v 1) (pad_cons (pd_v 5) (pad_cons (pd_v 6) (pad_nil)))))))), rdx_worked⟩
omit [XCx] in
theorem okx_result (T : Tx Cl5.K mg) (E : Ey T) : ∀ (n : Nat) [XCx], FnOk P w Cl5.K mg base (L2.CX P w) (n + 6) T.a_result T.d_result ["format", "way", "formula", "row"] (upSpX Cl5.K (spx_result n)) 
  | 0, _ => okXD T.f_result sc_result (lnx_result 0) fun I cdv A outer s H Ek hr xo tk => ⟨fun _ => dDead, pbd_dead, fun ds O kk kx h => h.elim⟩
  | n + 1, _ => okXD T.f_result sc_result (lnx_result (n + 1)) fun I cdv A outer s H Ek hr xo tk => ⟨bd_result n, pbd_cons (psd_set (i := 4) sc_result.nd rfl (by first | exact .inl rfl | exact .inr rfl) (pd_ix ix_seq od_ix (pd_v 2) (pd_int))) (pbd_cons (psd_if (ptd_eq (pd_v 4) (pd_str)) (pbd_one (psd_ret (pd_callX (okx_settled T E) tk xo (hr.mono (by omega)) (by rfl) T.m_settled T.f_settled.kp T.b_settled (pad_cons (pd_v 0) (pad_cons (pd_v 1) (pad_cons (pd_ix ix_seq od_ix (pd_v 3) (pd_ix ix_seq od_ix (pd_v 2) (pd_int))) (pad_cons (pd_int) (pad_nil)))))))) (pbd_nil)) (pbd_cons (psd_if (ptd_eq (pd_v 4) (pd_str)) (pbd_cons (psd_asg (pd_callF (ok_fraction_of T) (hr.mono (by omega)) (by rfl) T.m_fraction_of T.f_fraction_of.kp T.b_fraction_of (pad_cons (pd_ix ix_seq od_ix (pd_v 2) (pd_int)) (pad_nil))) (pgd_tup (K := Cl5.K) rfl (pgds_cons (pgd_name (i := 7) sc_result.nd rfl (by first | exact .inl rfl | exact .inr rfl)) (pgds_cons (pgd_name (i := 8) sc_result.nd rfl (by first | exact .inl rfl | exact .inr rfl)) (pgds_nil))))) (pbd_one (psd_ret (pd_callX (okx_settled T E) tk xo (hr.mono (by omega)) (by rfl) T.m_settled T.f_settled.kp T.b_settled (pad_cons (pd_v 0) (pad_cons (pd_v 1) (pad_cons (pd_v 7) (pad_cons (pd_v 8) (pad_nil))))))))) (pbd_nil)) (pbd_cons (psd_set (i := 5) sc_result.nd rfl (by first | exact .inl rfl | exact .inr rfl) (pd_callX (okx_result T E n) tk xo (hr.mono (by omega)) (by rfl) T.m_result T.f_result.kp T.b_result (pad_cons (pd_v 0) (pad_cons (pd_v 1) (pad_cons (pd_ix ix_seq od_ix (pd_v 2) (pd_int)) (pad_cons (pd_v 3) (pad_nil))))))) (pbd_cons (psd_set (i := 6) sc_result.nd rfl (by first | exact .inl rfl | exact .inr rfl) (pd_callX (okx_result T E n) tk xo (hr.mono (by omega)) (by rfl) T.m_result T.f_result.kp T.b_result (pad_cons (pd_v 0) (pad_cons (pd_v 1) (pad_cons (pd_ix ix_seq od_ix (pd_v 2) (pd_int)) (pad_cons (pd_v 3) (pad_nil))))))) (pbd_cons (psd_if (ptd_eq (pd_v 4) (pd_str)) (pbd_one (psd_ret (pd_ifE (ptd_val (pd_callF (ok_under T) (hr.mono (by omega)) (by rfl) T.m_under T.f_under.kp T.b_under (pad_cons (pd_v 6) (pad_cons (pd_v 5) (pad_nil))))) (pd_v 6) (pd_v 5)))) (pbd_nil)) (pbd_cons (psd_if (ptd_eq (pd_v 4) (pd_str)) (pbd_one (psd_ret (pd_ifE (ptd_val (pd_callF (ok_under T) (hr.mono (by omega)) (by rfl) T.m_under T.f_under.kp T.b_under (pad_cons (pd_v 5) (pad_cons (pd_v 6) (pad_nil))))) (pd_v 6) (pd_v 5)))) (pbd_nil)) (pbd_one (psd_ret (pd_callX (okx_worked T E) tk xo (hr.mono (by omega)) (by rfl) T.m_worked T.f_worked.kp T.b_worked (pad_cons (pd_v 0) (pad_cons (pd_v 1) (pad_cons (pd_v 4) (pad_cons (pd_v 5) (pad_cons (pd_v 6) (pad_nil))))))))))))))), rdx_result n⟩
theorem okx_whole_result (T : Tx Cl5.K mg) (E : Ey T) : FnOk P w Cl5.K mg base (L2.CX P w) 16 T.a_whole_result T.d_whole_result ["format", "way", "formula", "row"] (upSpX Cl5.K spx_whole_result) :=
  okXD T.f_whole_result sc_whole_result lnx_whole_result fun I cdv A outer s H Ek hr xo tk => ⟨bd_whole_result, pbd_one (psd_ret (pd_callF (ok_whole_near T) (hr.mono (by decide)) (by rfl) T.m_whole_near T.f_whole_near.kp T.b_whole_near (pad_cons (pd_callX (okx_result T E 9) tk xo (hr.mono (by decide)) (by rfl) T.m_result T.f_result.kp T.b_result (pad_cons (pd_v 0) (pad_cons (pd_v 1) (pad_cons (pd_v 2) (pad_cons (pd_v 3) (pad_nil)))))) (pad_nil)))), rdx_whole_result⟩
theorem okx_run (T : Tx Cl5.K mg) (E : Ey T) : FnOk P w Cl5.K mg base (L2.CX P w) 17 T.a_run T.d_run ["format", "way", "formula", "row"] (upSpX Cl5.K spx_run) :=
  okXD T.f_run sc_run lnx_run fun I cdv A outer s H Ek hr xo tk => ⟨bd_run, pbd_cons (psd_expr (pd_callF (ok_check_run T) (hr.mono (by decide)) (by rfl) T.m_check_run T.f_check_run.kp T.b_check_run (pad_cons (pd_v 1) (pad_cons (pd_v 2) (pad_cons (pd_v 3) (pad_nil)))))) (pbd_one (psd_ret (pd_callX (okx_result T E 9) tk xo (hr.mono (by decide)) (by rfl) T.m_result T.f_result.kp T.b_result (pad_cons (pd_v 0) (pad_cons (pd_v 1) (pad_cons (pd_v 2) (pad_cons (pd_v 3) (pad_nil)))))))), rdx_run⟩
theorem okx_whole_of (T : Tx Cl5.K mg) (E : Ey T) : FnOk P w Cl5.K mg base (L2.CX P w) 17 T.a_whole_of T.d_whole_of ["format", "way", "formula", "row"] (upSpX Cl5.K spx_whole_of) :=
  okXD T.f_whole_of sc_whole_of lnx_whole_of fun I cdv A outer s H Ek hr xo tk => ⟨bd_whole_of, pbd_cons (psd_expr (pd_callF (ok_check_run T) (hr.mono (by decide)) (by rfl) T.m_check_run T.f_check_run.kp T.b_check_run (pad_cons (pd_v 1) (pad_cons (pd_v 2) (pad_cons (pd_v 3) (pad_nil)))))) (pbd_one (psd_ret (pd_callX (okx_whole_result T E) tk xo (hr.mono (by decide)) (by rfl) T.m_whole_result T.f_whole_result.kp T.b_whole_result (pad_cons (pd_v 0) (pad_cons (pd_v 1) (pad_cons (pd_v 2) (pad_cons (pd_v 3) (pad_nil)))))))), rdx_whole_of⟩
theorem ok__law_bent (T : Tx Cl5.K mg) (E : Ey T) : FnOk P w Cl5.K mg base CX0 11 T.a__law_bent T.d__law_bent ["hand", "inputs", "formula"] (upSp Cl5.K sp__law_bent) :=
  okD T.f__law_bent sc__law_bent ln__law_bent fun cdv A outer s H Ek hr => ⟨bd__law_bent, pbd_cons (psd_asg (pd_callF (ok__law_path T) (hr.mono (by decide)) (by rfl) T.m__law_path T.f__law_path.kp T.b__law_path (pad_cons (pd_v 0) (pad_cons (pd_v 2) (pad_nil)))) (pgd_tup (K := Cl5.K) rfl (pgds_cons (pgd_name (i := 5) sc__law_bent.nd rfl (by first | exact .inl rfl | exact .inr rfl)) (pgds_cons (pgd_name (i := 6) sc__law_bent.nd rfl (by first | exact .inl rfl | exact .inr rfl)) (pgds_nil))))) (pbd_cons (psd_set (i := 3) sc__law_bent.nd rfl (by first | exact .inl rfl | exact .inr rfl) (pd_lst (pad_cons (pd_tup (pad_cons (pd_str) (pad_cons (pd_v 1) (pad_nil)))) (pad_cons (pd_tup (pad_cons (pd_str) (pad_cons (pd_neg (pd_int)) (pad_nil)))) (pad_cons (pd_tup (pad_cons (pd_str) (pad_cons (pd_bl) (pad_nil)))) (pad_cons (pd_tup (pad_cons (pd_str) (pad_cons (pd_non) (pad_nil)))) (pad_cons (pd_tup (pad_cons (pd_str) (pad_nil))) (pad_cons (pd_tup (pad_cons (pd_str) (pad_cons (pd_int) (pad_cons (pd_int) (pad_nil))))) (pad_cons (pd_tup (pad_cons (pd_str) (pad_nil))) (pad_nil)))))))))) (pbd_cons (psd_set (i := 4) sc__law_bent.nd rfl (by first | exact .inl rfl | exact .inr rfl) (pd_lst (pad_cons (pd_bl) (pad_cons (pd_tup (pad_cons (pd_int) (pad_cons (pd_int) (pad_nil)))) (pad_cons (pd_tup (pad_cons (pd_int) (pad_cons (pd_int) (pad_nil)))) (pad_cons (pd_tup (pad_cons (pd_int) (pad_cons (pd_neg (pd_int)) (pad_nil)))) (pad_cons (pd_tup (pad_cons (pd_int) (pad_cons (pd_int) (pad_nil)))) (pad_cons (pd_tup (pad_cons (pd_int) (pad_cons (pd_int) (pad_nil)))) (pad_cons (pd_tup (pad_cons (pd_int) (pad_cons (pd_int) (pad_nil)))) (pad_cons (pd_lst (pad_cons (pd_int) (pad_cons (pd_int) (pad_nil)))) (pad_cons (pd_tup (pad_cons (pd_int) (pad_cons (pd_int) (pad_cons (pd_int) (pad_nil))))) (pad_cons (pd_tup (pad_cons (pd_bl) (pad_cons (pd_int) (pad_nil)))) (pad_cons (pd_str) (pad_cons (pd_non) (pad_nil))))))))))))))) (pbd_cons (psd_set (i := 4) sc__law_bent.nd rfl (by first | exact .inl rfl | exact .inr rfl) (pd_addA (pd_v 4) (pd_lst (pad_cons (pd_tup (pad_cons (pd_int) (pad_cons (pd_int) (pad_nil)))) (pad_cons (pd_tup (pad_cons (pd_neg (pd_int)) (pad_cons (pd_int) (pad_nil)))) (pad_cons (pd_int) (pad_cons (pd_tup (pad_cons (pd_int) (pad_cons (pd_int) (pad_nil)))) (pad_cons (pd_tup (pad_cons (pd_int) (pad_cons (pd_int) (pad_nil)))) (pad_cons (pd_tup (pad_cons (pd_int) (pad_cons (pd_int) (pad_nil)))) (pad_cons (pd_neg (pd_int)) (pad_cons (pd_int) (pad_cons (pd_neg (pd_int)) (pad_nil))))))))))))) (pbd_cons (psd_set (i := 3) sc__law_bent.nd rfl (by first | exact .inl rfl | exact .inr rfl) (pd_addA (pd_addA (pd_v 3) (pd_lc (own := [("value", 7)]) rfl sc__law_bent.nd (pid_seq (pd_v 4)) (blkOk_by (by dsimp only [cxOf, Cx.nox, Cx.wish, Cx.blk, compEnvC, envOfC, relabel_S]; decide +kernel)) (by decide) (fun _ _ _ _ _ => pgd_name (i := 7) sc__law_bent.nd rfl (by first | exact .inl rfl | exact .inr rfl)) (fun _ _ _ _ _ => ptsd_nil) (fun _ _ _ _ _ => pd_tup (pad_cons (pd_str) (pad_cons (pd_v 7) (pad_nil)))))) (pd_lst (pad_cons (pd_tup (pad_cons (pd_str) (pad_cons (pd_int) (pad_nil)))) (pad_cons (pd_tup (pad_cons (pd_str) (pad_cons (pd_v 6) (pad_nil)))) (pad_cons (pd_tup (pad_cons (pd_str) (pad_cons (pd_v 6) (pad_cons (pd_v 6) (pad_nil))))) (pad_nil))))))) (pbd_cons (psd_set (i := 3) sc__law_bent.nd rfl (by first | exact .inl rfl | exact .inr rfl) (pd_addA (pd_v 3) (pd_lst (pad_cons (pd_tup (pad_cons (pd_str) (pad_cons (pd_v 6) (pad_cons (pd_v 6) (pad_cons (pd_v 6) (pad_nil)))))) (pad_cons (pd_lst (pad_cons (pd_str) (pad_cons (pd_v 6) (pad_cons (pd_v 6) (pad_nil))))) (pad_cons (pd_callTy call_list_of cd_list (by rfl) T.z_list boot_list (pad_cons (pd_v 6) (pad_nil))) (pad_cons (pd_slice (pd_v 6) (pod_none) (pod_some (pd_neg (pd_int)))) (pad_cons (pd_slice (pd_v 6) (pod_some (pd_int)) (pod_none)) (pad_cons (pd_addA (pd_v 6) (pd_tup (pad_cons (pd_int) (pad_nil)))) (pad_nil)))))))))) (pbd_cons (psd_set (i := 3) sc__law_bent.nd rfl (by first | exact .inl rfl | exact .inr rfl) (pd_addA (pd_v 3) (pd_lst (pad_cons (pd_tup (pad_cons (pd_str) (pad_cons (pd_v 6) (pad_cons (pd_v 6) (pad_nil))))) (pad_cons (pd_tup (pad_cons (pd_bl) (pad_cons (pd_v 6) (pad_cons (pd_v 6) (pad_nil))))) (pad_cons (pd_non) (pad_cons (pd_int) (pad_cons (pd_str) (pad_cons (pd_tup (pad_nil)) (pad_cons (pd_dct) (pad_cons (pd_callF (ok__law_deep T) (hr.mono (by decide)) (by rfl) T.m__law_deep T.f__law_deep.kp T.b__law_deep (pad_cons (pd_v 0) (pad_cons (pd_v 6) (pad_nil)))) (pad_nil)))))))))))) (pbd_cons (psd_set (i := 3) sc__law_bent.nd rfl (by first | exact .inl rfl | exact .inr rfl) (pd_addA (pd_v 3) (pd_lst (pad_cons (pd_make E.mk_Format (ok_init_Format T E) (hr.mono (by decide)) (by rfl) E.m_Format E.b_Format (pad_cons (pd_int) (pad_cons (pd_neg (pd_int)) (pad_cons (pd_int) (pad_nil))))) (pad_cons (pd_callF (ok__law_deeper T) (hr.mono (by decide)) (by rfl) T.m__law_deeper T.f__law_deeper.kp T.b__law_deeper (pad_cons (pd_v 6) (pad_cons (pd_callF (ok__law_draw T) (hr.mono (by decide)) (by rfl) T.m__law_draw T.f__law_draw.kp T.b__law_draw (pad_cons (pd_v 0) (pad_cons (pd_int) (pad_nil)))) (pad_nil)))) (pad_nil)))))) (pbd_one (psd_ret (pd_callF (ok__law_with T 9) (hr.mono (by decide)) (by rfl) T.m__law_with T.f__law_with.kp T.b__law_with (pad_cons (pd_v 2) (pad_cons (pd_v 5) (pad_cons (pd_callF (ok__law_any T) (hr.mono (by decide)) (by rfl) T.m__law_any T.f__law_any.kp T.b__law_any (pad_cons (pd_v 0) (pad_cons (pd_v 3) (pad_nil)))) (pad_nil)))))))))))))), rd__law_bent⟩
theorem ok__law_judged_right (T : Tx Cl5.K mg) (E : Ey T) : FnOk P w Cl5.K mg base CX0 16 T.a__law_judged_right T.d__law_judged_right ["hand"] (upSp Cl5.K sp__law_judged_right) :=
  okD T.f__law_judged_right sc__law_judged_right ln__law_judged_right fun cdv A outer s H Ek hr => ⟨bd__law_judged_right, pbd_cons (psd_asg (pd_tup (pad_cons (pd_callF (ok__law_draw T) (hr.mono (by decide)) (by rfl) T.m__law_draw T.f__law_draw.kp T.b__law_draw (pad_cons (pd_v 0) (pad_cons (pd_int) (pad_nil)))) (pad_cons (pd_callF (ok__law_any T) (hr.mono (by decide)) (by rfl) T.m__law_any T.f__law_any.kp T.b__law_any (pad_cons (pd_v 0) (pad_cons (pd_lst (pad_cons (pd_int) (pad_cons (pd_int) (pad_cons (pd_int) (pad_cons (pd_int) (pad_cons (pd_int) (pad_cons (pd_int) (pad_cons (pd_int) (pad_nil))))))))) (pad_nil)))) (pad_nil)))) (pgd_tup (K := Cl5.K) rfl (pgds_cons (pgd_name (i := 5) sc__law_judged_right.nd rfl (by first | exact .inl rfl | exact .inr rfl)) (pgds_cons (pgd_name (i := 6) sc__law_judged_right.nd rfl (by first | exact .inl rfl | exact .inr rfl)) (pgds_nil))))) (pbd_cons (psd_set (i := 1) sc__law_judged_right.nd rfl (by first | exact .inl rfl | exact .inr rfl) (pd_callF (ok__law_draw T) (hr.mono (by decide)) (by rfl) T.m__law_draw T.f__law_draw.kp T.b__law_draw (pad_cons (pd_v 0) (pad_cons (pd_addA (pd_callB (call_min2 rfl) cd_two (by rfl) T.z_min boot_min (pad_cons (pd_int) (pad_cons (pd_sub (pd_callF (ok__law_two T) (hr.mono (by decide)) (by rfl) T.m__law_two T.f__law_two.kp T.b__law_two (pad_cons (pd_v 6) (pad_nil))) (pd_int)) (pad_nil)))) (pd_int)) (pad_nil))))) (pbd_cons (psd_set (i := 2) sc__law_judged_right.nd rfl (by first | exact .inl rfl | exact .inr rfl) (pd_callF (ok__law_tree T 8) (hr.mono (by decide)) (by rfl) T.m__law_tree T.f__law_tree.kp T.b__law_tree (pad_cons (pd_v 0) (pad_cons (pd_v 5) (pad_cons (pd_v 1) (pad_cons (pd_v 6) (pad_nil))))))) (pbd_cons (psd_if (ptd_isnotB (pd_callF (ok_is_formula T) (hr.mono (by decide)) (by rfl) T.m_is_formula T.f_is_formula.kp T.b_is_formula (pad_cons (pd_v 5) (pad_cons (pd_v 2) (pad_nil)))) (pd_bl)) (pbd_one (psd_ret (pd_bl))) (pbd_nil)) (pbd_cons (psd_setLcO (own := [("turn", 7)]) (i := 3) rfl sc__law_judged_right.nd rfl rfl (sw_true rfl rfl rfl (by decide +kernel)) (pid_range1 (by rfl) T.z_range (pd_int)) (blkOk_by (by dsimp only [cxOf, Cx.nox, Cx.wish, Cx.blk, compEnvC, envOfC, relabel_S]; decide +kernel)) (by decide) (fun _ _ _ _ _ => pgd_name (i := 7) sc__law_judged_right.nd rfl (by first | exact .inl rfl | exact .inr rfl)) (fun _ _ _ _ _ => ptsd_nil) (fun _ _ _ _ _ => pd_callF (ok__law_bent T E) (hr.mono (by decide)) (by rfl) T.m__law_bent T.f__law_bent.kp T.b__law_bent (pad_cons (pd_v 0) (pad_cons (pd_v 5) (pad_cons (pd_v 2) (pad_nil)))))) (pbd_cons (psd_app (pd_v 3) (pd_callF (ok__law_tree T 8) (hr.mono (by decide)) (by rfl) T.m__law_tree T.f__law_tree.kp T.b__law_tree (pad_cons (pd_v 0) (pad_cons (pd_v 5) (pad_cons (pd_callF (ok__law_any T) (hr.mono (by decide)) (by rfl) T.m__law_any T.f__law_any.kp T.b__law_any (pad_cons (pd_v 0) (pad_cons (pd_lst (pad_cons (pd_int) (pad_cons (pd_int) (pad_cons (pd_int) (pad_nil))))) (pad_nil)))) (pad_cons (pd_int) (pad_nil))))))) (pbd_cons (psd_app (pd_v 3) (pd_callF (ok__law_deeper T) (hr.mono (by decide)) (by rfl) T.m__law_deeper T.f__law_deeper.kp T.b__law_deeper (pad_cons (pd_callF (ok__law_tree T 8) (hr.mono (by decide)) (by rfl) T.m__law_tree T.f__law_tree.kp T.b__law_tree (pad_cons (pd_v 0) (pad_cons (pd_v 5) (pad_cons (pd_int) (pad_cons (pd_int) (pad_nil)))))) (pad_cons (pd_addA (pd_int) (pd_callF (ok__law_draw T) (hr.mono (by decide)) (by rfl) T.m__law_draw T.f__law_draw.kp T.b__law_draw (pad_cons (pd_v 0) (pad_cons (pd_int) (pad_nil))))) (pad_nil))))) (pbd_cons (psd_for PassesOwn.never rfl (pid_seq (pd_frz (pd_v 3))) (pgd_name (i := 4) sc__law_judged_right.nd rfl (by first | exact .inl rfl | exact .inr rfl)) (pbd_one (psd_if (ptd_not (ptd_val (pd_callF (ok__law_flag T) (hr.mono (by decide)) (by rfl) T.m__law_flag T.f__law_flag.kp T.b__law_flag (pad_cons (pd_callF (ok_is_formula T) (hr.mono (by decide)) (by rfl) T.m_is_formula T.f_is_formula.kp T.b_is_formula (pad_cons (pd_v 5) (pad_cons (pd_v 4) (pad_nil)))) (pad_cons (pd_lt (pd_callF (ok__law_operations T 8) (hr.mono (by decide)) (by rfl) T.m__law_operations T.f__law_operations.kp T.b__law_operations (pad_cons (pd_v 5) (pad_cons (pd_v 4) (pad_cons (pd_int) (pad_nil))))) (pd_int)) (pad_nil)))))) (pbd_one (psd_ret (pd_bl))) (pbd_nil)))) (pbd_one (psd_ret (pd_bl)))))))))), rd__law_judged_right⟩
end
end Lk05
namespace Lk05
open PySem PySem.Spec PyProof.Rows L2 SC
section
variable [TabL] [XCx] [Cl5] {P : Program} {w : World} {mg : Str → Option Value} {base : Heap}
noncomputable def bd_told (cC : Addr) (rl : RL) (f : Addr) (ex : DEx) : DS := dThen (dSet 1 (dC .non)) (dThen (dTryAs (fun C => PySem.W.exmOne Cl5.K (.ref C) (.ref cC)) 4 (fun ex => dSet 1 (dAct f 5 rl ex)) (fun a C => dWhen (C = Cl5.cBeyond ∨ C = Cl5.cNought) (
   dThen (dSet 2 (dLst (dCons (dCB (rIsED Cl5.K C a) (dCons (dVar 4) (dCons (dC (.own Cl5.cBeyond)) dNil))) (dCons (dCB (rIsED Cl5.K C a) (dCons (dVar 4) (dCons (dC (.own Cl5.cNought)) dNil))) dNil))))
  (dThen (dSet 3 (dAndV (dOp (dEqS fun r => r) (dMtF (fun bs b => some (bs.count b)) (dVar 2) (dCons (dC (.bl true)) dNil)) (dC (.int 1))) (dCB (rIsED Cl5.K C a) (dCons (dVar 4) (dCons (dC (.ty "ValueError")) dNil)))))
  (dSet 1 (dIfE (dB (dVar 3)) (dOp SC.rIxD (dLst (dCons (dC (.str "beyond")) (dCons (dC (.str "nought")) dNil))) (dMtF (fun bs b => bs.findIdx? (· == b)) (dVar 2) (dCons (dC (.bl true)) dNil))) (dC (.str "other"))))))) ex) (dRet (dVar 1)))
theorem gives_told (T : Tx Cl5.K mg) (E : Ey T) {N : List Str} {qn : Str} {sc : Scope} {fa : Addr} {cv : Value} {A : Around} {outer : List Env} {s : Shared} {H : Hp} {Ek : XK} (hu : A.units + 100 < cLine) {g : Addr} {cdv : Value} :
    LamX.GivesTo (cxOf CX0 P w Cl5.K mg base N qn sc fa cv A outer s H Ek).nox ["call", "word", "flags", "is_one", "e"] "_law_told" (defScope s__law_told) g cdv (defBody s__law_told) "call" ((cxOf CX0 P w Cl5.K mg base N qn sc fa cv A outer s H Ek).nox.env.qual ++ "<lambda>") (TTD Cl5.K spl__law_told) :=
  gives_D fun I0 f s H rl xo tk act => ⟨bd_told E.cC rl f XCx.ex, pbd_cons (psd_set (i := 1) sc_told.nd rfl (by first | exact .inl rfl | exact .inr rfl) pd_non) (pbd_cons (psd_try_as (i := 4) rfl rfl sc_told.nd rfl rfl ⟨by rfl, by decide, .inl E.mC⟩ tk xo
    (fun I pn xe an xo tk => pbd_one (psd_set (i := 1) sc_told.nd rfl (by first | exact .inl rfl | exact .inr rfl) (act I pn xe _ _ an xo tk)))
    (fun a oe C pn hz hd => pbd_when fun hC => by
      have hx : ExcC Cl5.K C := by
        rcases hC with rfl | rfl
        · exact E.x_Beyond
        · exact E.x_Nought
      exact pbd_cons (psd_set (i := 2) sc_told.nd rfl (by first | exact .inl rfl | exact .inr rfl) (pd_lst (pad_cons (pd_callB (call_isE hx hz hd) cd_isE (by rfl) T.z_isinstance boot_isinstance (pad_cons (pd_v 4) (pad_cons (pd_c (pe_glob (v := .ref Cl5.cBeyond) (by rfl) E.m_Beyond rfl) fun _ => .own _) pad_nil))) (pad_cons (pd_callB (call_isE hx hz hd) cd_isE (by rfl) T.z_isinstance boot_isinstance (pad_cons (pd_v 4) (pad_cons (pd_c (pe_glob (v := .ref Cl5.cNought) (by rfl) E.m_Nought rfl) fun _ => .own _) pad_nil))) pad_nil))))
        (pbd_cons (psd_set (i := 3) sc_told.nd rfl (by first | exact .inl rfl | exact .inr rfl) (pd_and (pd_eq (pd_countF (show A.units + 3 + 3 + 65 < cLine by omega) (pd_v 2) (pad_cons pd_bl pad_nil)) pd_int) (pd_one (pd_callB (call_isE hx hz hd) cd_isE (by rfl) T.z_isinstance boot_isinstance (pad_cons (pd_v 4) (pad_cons (pd_tyc (by rfl) E.zV (by decide +kernel)) pad_nil))))))
        (pbd_one (psd_set (i := 1) sc_told.nd rfl (by first | exact .inl rfl | exact .inr rfl) (pd_ifE (ptd_val (pd_v 3)) (pd_ix ix_seq od_ix (pd_lst (pad_cons pd_str (pad_cons pd_str pad_nil))) (pd_indexF (show A.units + 3 + 3 + 65 < cLine by omega) (pd_v 2) (pad_cons pd_bl pad_nil))) pd_str))))))
    (pbd_one (psd_ret (pd_v 1)))), by
    rintro O k ⟨oc, hrl, hk⟩
    unfold bd_told
    simp only [dThen, dSet, dTryAs, exTry, dAct, dWhen, dIfE, dAnd, dAndV, dB, dCB, dRet, dCall, dCons, dNil, dVar, dC, dLst, dOp, dEqS, eqS, dMtF, SC.rIxD, startD, List.map_cons, List.map_nil, List.length_cons, List.length_nil, Nat.reduceAdd, Nat.reduceSub, List.replicate_succ, List.replicate_zero, List.cons_append, List.nil_append, List.getElem?_cons_zero, List.getElem?_cons_succ, List.set_cons_zero, List.set_cons_succ]
    cases oc with
    | val d => exact ⟨trivial, hrl _ _ hk⟩
    | beyond =>
      refine ⟨trivial, hrl _ _ ⟨true, E.e_B, fun _ a na => ⟨.inl rfl, ?_⟩, fun z => by cases z⟩⟩
      simp only [blank, List.replicate_succ, List.replicate_zero, List.set_cons_zero, List.set_cons_succ, List.getElem?_cons_zero, List.getElem?_cons_succ]
      refine ⟨_, _, true, rfl, .inr ⟨_, rfl, rfl⟩, E.kBB, _, _, false, rfl, .inr ⟨_, rfl, rfl⟩, E.kBN, small_len (by decide), [true, false], 1, rfl, rfl, ?_⟩
      refine ⟨_, _, true, rfl, .inl ⟨_, rfl, rfl⟩, E.kBV, small_len (by decide), [true, false], 0, rfl, rfl, ?_⟩
      exact hk
    | nought =>
      refine ⟨trivial, hrl _ _ ⟨true, E.e_N, fun _ a na => ⟨.inr rfl, ?_⟩, fun z => by cases z⟩⟩
      simp only [blank, List.replicate_succ, List.replicate_zero, List.set_cons_zero, List.set_cons_succ, List.getElem?_cons_zero, List.getElem?_cons_succ]
      refine ⟨_, _, false, rfl, .inr ⟨_, rfl, rfl⟩, E.kNB, _, _, true, rfl, .inr ⟨_, rfl, rfl⟩, E.kNN, small_len (by decide), [false, true], 1, rfl, rfl, ?_⟩
      refine ⟨_, _, true, rfl, .inl ⟨_, rfl, rfl⟩, E.kNV, small_len (by decide), [false, true], 1, rfl, rfl, ?_⟩
      exact hk⟩
end
end Lk05
namespace Lk05
open PySem PySem.Spec PyProof.Rows L2 SC
section
variable [TabL] [XCx] [Cl5] {P : Program} {w : World} {mg : Str → Option Value} {base : Heap}
abbrev lamQ : Str := ("law" : Str) ++ ".<locals>." ++ "<lambda>"
theorem hu' {A : Around} {e : Env} (hr : Room 21 (A.deeper e)) : A.units + 100 < cLine := by
  have h : A.units + 3 + 16 * 21 + 200 < cLine := hr.un
  omega
theorem ok_law (T : Tx Cl5.K mg) (E : Ey T) {Pt : Addr} (TB : LamX.TabB base mg E.c Pt) (hmT : (Pt, lamQ) ∈ TabL.tabs) (hu : ∀ p ∈ TabL.tabs, p.1 = Pt → p.2 = lamQ) : FnOk P w Cl5.K mg base CX0 22 T.a_law T.d_law ["script"] (upSp Cl5.K sp_law) := by
  obtain ⟨oc, od, kV, doc, pm, an, cdv, ct, osl, efd, lk, hcd⟩ := T.f__law_told.ex
  rw [efd] at lk
  refine okDc T.f_law E.hc sc_law ln_law fun A outer s H Ek hr => ⟨bd_law, ?_, rd_law⟩
  exact pbd_cons (psd_set (i := 1) sc_law.nd rfl (by first | exact .inl rfl | exact .inr rfl) (pd_callF (ok__law_hand T) (hr.mono (by decide)) (by rfl) T.m__law_hand T.f__law_hand.kp T.b__law_hand (pad_cons (pd_v 0) (pad_nil)))) (pbd_cons (psd_for PassesOwn.never rfl (pid_range1 (by rfl) T.z_range (pd_int)) (pgd_name (i := 2) sc_law.nd rfl (by first | exact .inl rfl | exact .inr rfl)) (pbd_cons (psd_if (ptd_not (ptd_val (pd_callF (ok__law_judged_right T E) (hr.mono (by decide)) (by rfl) T.m__law_judged_right T.f__law_judged_right.kp T.b__law_judged_right (pad_cons (pd_v 1) (pad_nil))))) (pbd_one (psd_ret (pd_bl))) (pbd_nil)) (pbd_cons (psd_par (i := 5) (j := 6) rfl sc_law.nd rfl rfl (by decide) rfl rfl (pad_cons (pd_addA (pd_int) (pd_callF (ok__law_draw T) (hr.mono (by decide)) (by rfl) T.m__law_draw T.f__law_draw.kp T.b__law_draw (pad_cons (pd_v 1) (pad_cons (pd_int) (pad_nil))))) (pad_cons (pd_callF (ok__law_spec T) (hr.mono (by decide)) (by rfl) T.m__law_spec T.f__law_spec.kp T.b__law_spec (pad_cons (pd_v 1) (pad_nil))) (pad_nil))) (by rfl)) (pbd_cons (psd_asg (pd_tup (pad_cons (pd_make E.mk_Format (ok_init_Format T E) (hr.mono (by decide)) (by rfl) E.m_Format E.b_Format (pad_cons (pd_ix ix_seq od_ix (pd_v 6) (pd_int)) (pad_cons (pd_ix ix_seq od_ix (pd_v 6) (pd_int)) (pad_cons (pd_ix ix_seq od_ix (pd_v 6) (pd_int)) (pad_nil))))) (pad_cons (pd_callF (ok__law_any T) (hr.mono (by decide)) (by rfl) T.m__law_any T.f__law_any.kp T.b__law_any (pad_cons (pd_v 1) (pad_cons (pd_lst (pad_cons (pd_int) (pad_cons (pd_int) (pad_cons (pd_int) (pad_cons (pd_int) (pad_cons (pd_int) (pad_cons (pd_int) (pad_cons (pd_int) (pad_nil))))))))) (pad_nil)))) (pad_nil)))) (pgd_tup (K := Cl5.K) rfl (pgds_cons (pgd_name (i := 7) sc_law.nd rfl (by first | exact .inl rfl | exact .inr rfl)) (pgds_cons (pgd_name (i := 8) sc_law.nd rfl (by first | exact .inl rfl | exact .inr rfl)) (pgds_nil))))) (pbd_cons (psd_set (i := 3) sc_law.nd rfl (by first | exact .inl rfl | exact .inr rfl) (pd_callF (ok__law_tree T 8) (hr.mono (by decide)) (by rfl) T.m__law_tree T.f__law_tree.kp T.b__law_tree (pad_cons (pd_v 1) (pad_cons (pd_v 5) (pad_cons (pd_callF (ok__law_draw T) (hr.mono (by decide)) (by rfl) T.m__law_draw T.f__law_draw.kp T.b__law_draw (pad_cons (pd_v 1) (pad_cons (pd_addA (pd_callB (call_min2 rfl) cd_two (by rfl) T.z_min boot_min (pad_cons (pd_int) (pad_cons (pd_sub (pd_callF (ok__law_two T) (hr.mono (by decide)) (by rfl) T.m__law_two T.f__law_two.kp T.b__law_two (pad_cons (pd_v 8) (pad_nil))) (pd_int)) (pad_nil)))) (pd_int)) (pad_nil)))) (pad_cons (pd_v 8) (pad_nil))))))) (pbd_one (psd_for PassesOwn.never rfl (pid_range1 (by rfl) T.z_range (pd_int)) (pgd_name (i := 4) sc_law.nd rfl (by first | exact .inl rfl | exact .inr rfl)) (pbd_cons (psd_asg (pd_tup (pad_cons (pd_callF (ok__law_row T) (hr.mono (by decide)) (by rfl) T.m__law_row T.f__law_row.kp T.b__law_row (pad_cons (pd_v 1) (pad_cons (pd_v 5) (pad_nil)))) (pad_cons (pd_callF (ok__law_any T) (hr.mono (by decide)) (by rfl) T.m__law_any T.f__law_any.kp T.b__law_any (pad_cons (pd_v 1) (pad_cons (pd_lst (pad_cons (pd_str) (pad_cons (pd_str) (pad_cons (pd_str) (pad_cons (pd_str) (pad_cons (pd_str) (pad_nil))))))) (pad_nil)))) (pad_nil)))) (pgd_tup (K := Cl5.K) rfl (pgds_cons (pgd_name (i := 11) sc_law.nd rfl (by first | exact .inl rfl | exact .inr rfl)) (pgds_cons (pgd_name (i := 12) sc_law.nd rfl (by first | exact .inl rfl | exact .inr rfl)) (pgds_nil))))) (pbd_cons (psd_set (i := 9) sc_law.nd rfl (by first | exact .inl rfl | exact .inr rfl) (pd_callF (ok__law_run T 9) (hr.mono (by decide)) (by rfl) T.m__law_run T.f__law_run.kp T.b__law_run (pad_cons (pd_v 6) (pad_cons (pd_v 12) (pad_cons (pd_v 3) (pad_cons (pd_v 11) (pad_nil))))))) (pbd_cons (psd_set (i := 10) sc_law.nd rfl (by first | exact .inl rfl | exact .inr rfl) (pd_lamcall (k := 17) (by rfl) T.m__law_told T.f__law_told.kp lk hcd (efd ▸ T.b__law_told) sc_told rfl (by first | exact Or.inl rfl | exact Or.inr (Or.inl rfl) | exact Or.inr (Or.inr rfl)) (gives_told T E (hu' hr)) TB rfl hmT hu (hr.mono (by decide)) (LamX.lamS_by (sc := defScope s_law) (by decide +kernel)) rfl (fun _ _ _ _ _ => rfl) (fun I A outer s H Ek f c' hr xo tk => pd_callX (okx_run T E) tk xo (hr.mono (by decide)) (by rfl) T.m_run T.f_run.kp T.b_run (pad_cons (pd_v 7) (pad_cons (pd_v 12) (pad_cons (pd_v 3) (pad_cons (pd_v 11) (pad_nil)))))))) (pbd_cons (psd_if (ptd_not (ptd_val (pd_callF (ok__law_is T 2) (hr.mono (by decide)) (by rfl) T.m__law_is T.f__law_is.kp T.b__law_is (pad_cons (pd_v 10) (pad_cons (pd_ifE (ptd_val (pd_callB call_isi cd_isiK (by rfl) T.z_isinstance boot_isinstance (pad_cons (pd_v 9) (pad_cons (pd_tyc (by rfl) T.z_str boot_str) (pad_nil))))) (pd_v 9) (pd_callF (ok__law_dyad T) (hr.mono (by decide)) (by rfl) T.m__law_dyad T.f__law_dyad.kp T.b__law_dyad (pad_cons (pd_v 9) (pad_nil)))) (pad_nil)))))) (pbd_one (psd_ret (pd_bl))) (pbd_nil)) (pbd_cons (psd_set (i := 10) sc_law.nd rfl (by first | exact .inl rfl | exact .inr rfl) (pd_lamcall (k := 17) (by rfl) T.m__law_told T.f__law_told.kp lk hcd (efd ▸ T.b__law_told) sc_told rfl (by first | exact Or.inl rfl | exact Or.inr (Or.inl rfl) | exact Or.inr (Or.inr rfl)) (gives_told T E (hu' hr)) TB rfl hmT hu (hr.mono (by decide)) (LamX.lamS_by (sc := defScope s_law) (by decide +kernel)) rfl (fun _ _ _ _ _ => rfl) (fun I A outer s H Ek f c' hr xo tk => pd_callX (okx_whole_of T E) tk xo (hr.mono (by decide)) (by rfl) T.m_whole_of T.f_whole_of.kp T.b_whole_of (pad_cons (pd_v 7) (pad_cons (pd_v 12) (pad_cons (pd_v 3) (pad_cons (pd_v 11) (pad_nil)))))))) (pbd_cons (psd_if (ptd_not (ptd_val (pd_callF (ok__law_is T 2) (hr.mono (by decide)) (by rfl) T.m__law_is T.f__law_is.kp T.b__law_is (pad_cons (pd_v 10) (pad_cons (pd_ifE (ptd_val (pd_callB call_isi cd_isiK (by rfl) T.z_isinstance boot_isinstance (pad_cons (pd_v 9) (pad_cons (pd_tyc (by rfl) T.z_str boot_str) (pad_nil))))) (pd_v 9) (pd_callF (ok__law_whole T) (hr.mono (by decide)) (by rfl) T.m__law_whole T.f__law_whole.kp T.b__law_whole (pad_cons (pd_v 9) (pad_nil)))) (pad_nil)))))) (pbd_one (psd_ret (pd_bl))) (pbd_nil)) (pbd_one (psd_if (ptd_neQ (hu64 hr) (pd_lamcall (k := 17) (by rfl) T.m__law_told T.f__law_told.kp lk hcd (efd ▸ T.b__law_told) sc_told rfl (by first | exact Or.inl rfl | exact Or.inr (Or.inl rfl) | exact Or.inr (Or.inr rfl)) (gives_told T E (hu' hr)) TB rfl hmT hu (hr.mono (by decide)) (LamX.lamS_by (sc := defScope s_law) (by decide +kernel)) rfl (fun _ _ _ _ _ => rfl) (fun I A outer s H Ek f c' hr xo tk => pd_callX (okx_run T E) tk xo (hr.mono (by decide)) (by rfl) T.m_run T.f_run.kp T.b_run (pad_cons (pd_v 7) (pad_cons (pd_v 12) (pad_cons (pd_v 3) (pad_cons (pd_v 11) (pad_nil))))))) (pd_ifE (ptd_val (pd_callB call_isi cd_isiK (by rfl) T.z_isinstance boot_isinstance (pad_cons (pd_v 9) (pad_cons (pd_tyc (by rfl) T.z_str boot_str) (pad_nil))))) (pd_v 9) (pd_callF (ok__law_dyad T) (hr.mono (by decide)) (by rfl) T.m__law_dyad T.f__law_dyad.kp T.b__law_dyad (pad_cons (pd_v 9) (pad_nil))))) (pbd_one (psd_ret (pd_bl))) (pbd_nil)))))))))))))))) (pbd_one (psd_ret (pd_bl))))
end
end Lk05
namespace Lk05
open PySem PySem.Spec PyProof.Rows L2 SC
/-! ### the law at the top -/
section
variable {K : PySem.W.Frag} {h : Heap} {mg : Str → Option Value}
theorem lawE [Cl5] {l : PySem.W.OpenLaw} {w : World} {fa : Addr} (hfa : mg "law" = some (.ref fa)) (T : Tx Cl5.K mg) (E : Ey T) {Pt : Addr} (hP : h.get? Pt = some { cls := .none, data := .fields #[] }) (nP : (Cl5.K).lookup Pt = none) (C : PySem.W.CodeHd h E.c Pt) :
    LamX.LawAtS l w Cl5.K L2.CX0 22 63 "script" mg fa h := by
  have e := hfa.symm.trans T.m_law
  cases e
  letI : TabL := ⟨[(Pt, lamQ)]⟩
  refine ⟨T.d_law, [(E.c, Pt)], SC.spTop Cl5.K, fun p hp => ?_, fun p hp => ?_, fun p hp => ?_, fun s v => ?_, fun H a ns hl hb hT hS => ?_, fun base hK hN hTB => ?_⟩
  · rw [List.mem_singleton.mp hp]; exact hP
  · rw [List.mem_singleton.mp hp]; exact nP
  · rw [List.mem_singleton.mp hp]; exact C
  · obtain ⟨_, _, _, _, _, _, _, _, _, q, _, _⟩ := T.f_law.ex
    rw [q]
    exact .of_eq rfl
  · exact ⟨a, ns, rfl, hS, hl, fun t ht => by rw [List.mem_singleton.mp ht]; exact hT _ (List.mem_singleton.mpr rfl), fun _ => rfl⟩
  · exact (@ok_law ⟨[(Pt, lamQ)]⟩ XCx.nil _ _ _ _ _ T E _ (hTB _ (List.mem_singleton.mpr rfl)) (List.mem_singleton.mpr rfl) (fun p hp _ => by rw [List.mem_singleton.mp hp])).imp SC.top_imp
end
/-! ### what the top has left -/
section
variable {K : PySem.W.Frag} {h : Heap} {mg : Str → Option Value}
def mkT (X : K.In h) (G : h.Ns mainGlobals mg) {tFA tMI : Nat}
    (a_FARTHEST : PySem.W.nsIn K mainGlobals "FARTHEST" = some (some (.int 10000 tFA))) (a_MOST_INPUTS : PySem.W.nsIn K mainGlobals "MOST_INPUTS" = some (some (.int 6 tMI))) (a_gcd : PySem.W.nsIn K mainGlobals "gcd" = some (some (.builtin "math.gcd")))
    {f_is_integer : Addr} {od_is_integer an_is_integer : Option Addr} {sl_is_integer : Array (Option Value)} {oc_is_integer kV_is_integer dc_is_integer pm_is_integer cd_is_integer ct_is_integer : Value}
    (a_is_integer : PySem.W.nsIn K mainGlobals "is_integer" = some (some (.ref f_is_integer))) (l_is_integer : K.lookup f_is_integer = some ⟨oc_is_integer, od_is_integer, .func (PySem.W.fnOf "is_integer" "is_integer" (defArgs s_is_integer) (defBody s_is_integer) (defScope s_is_integer) .none kV_is_integer dc_is_integer pm_is_integer an_is_integer cd_is_integer ct_is_integer), sl_is_integer⟩) (c_is_integer : PySem.W.codeIn K cd_is_integer "is_integer" = true) (k_is_integer : PySem.W.keepIn K (.ref f_is_integer) = true)
    {f_is_between : Addr} {od_is_between an_is_between : Option Addr} {sl_is_between : Array (Option Value)} {oc_is_between kV_is_between dc_is_between pm_is_between cd_is_between ct_is_between : Value}
    (a_is_between : PySem.W.nsIn K mainGlobals "is_between" = some (some (.ref f_is_between))) (l_is_between : K.lookup f_is_between = some ⟨oc_is_between, od_is_between, .func (PySem.W.fnOf "is_between" "is_between" (defArgs s_is_between) (defBody s_is_between) (defScope s_is_between) .none kV_is_between dc_is_between pm_is_between an_is_between cd_is_between ct_is_between), sl_is_between⟩) (c_is_between : PySem.W.codeIn K cd_is_between "is_between" = true) (k_is_between : PySem.W.keepIn K (.ref f_is_between) = true)
    {f_is_tuple : Addr} {od_is_tuple an_is_tuple : Option Addr} {sl_is_tuple : Array (Option Value)} {oc_is_tuple kV_is_tuple dc_is_tuple pm_is_tuple cd_is_tuple ct_is_tuple : Value}
    (a_is_tuple : PySem.W.nsIn K mainGlobals "is_tuple" = some (some (.ref f_is_tuple))) (l_is_tuple : K.lookup f_is_tuple = some ⟨oc_is_tuple, od_is_tuple, .func (PySem.W.fnOf "is_tuple" "is_tuple" (defArgs s_is_tuple) (defBody s_is_tuple) (defScope s_is_tuple) .none kV_is_tuple dc_is_tuple pm_is_tuple an_is_tuple cd_is_tuple ct_is_tuple), sl_is_tuple⟩) (c_is_tuple : PySem.W.codeIn K cd_is_tuple "is_tuple" = true) (k_is_tuple : PySem.W.keepIn K (.ref f_is_tuple) = true)
    {f_is_pair : Addr} {od_is_pair an_is_pair : Option Addr} {sl_is_pair : Array (Option Value)} {oc_is_pair kV_is_pair dc_is_pair pm_is_pair cd_is_pair ct_is_pair : Value}
    (a_is_pair : PySem.W.nsIn K mainGlobals "is_pair" = some (some (.ref f_is_pair))) (l_is_pair : K.lookup f_is_pair = some ⟨oc_is_pair, od_is_pair, .func (PySem.W.fnOf "is_pair" "is_pair" (defArgs s_is_pair) (defBody s_is_pair) (defScope s_is_pair) .none kV_is_pair dc_is_pair pm_is_pair an_is_pair cd_is_pair ct_is_pair), sl_is_pair⟩) (c_is_pair : PySem.W.codeIn K cd_is_pair "is_pair" = true) (k_is_pair : PySem.W.keepIn K (.ref f_is_pair) = true)
    {f_is_one_of : Addr} {od_is_one_of an_is_one_of : Option Addr} {sl_is_one_of : Array (Option Value)} {oc_is_one_of kV_is_one_of dc_is_one_of pm_is_one_of cd_is_one_of ct_is_one_of : Value}
    (a_is_one_of : PySem.W.nsIn K mainGlobals "is_one_of" = some (some (.ref f_is_one_of))) (l_is_one_of : K.lookup f_is_one_of = some ⟨oc_is_one_of, od_is_one_of, .func (PySem.W.fnOf "is_one_of" "is_one_of" (defArgs s_is_one_of) (defBody s_is_one_of) (defScope s_is_one_of) .none kV_is_one_of dc_is_one_of pm_is_one_of an_is_one_of cd_is_one_of ct_is_one_of), sl_is_one_of⟩) (c_is_one_of : PySem.W.codeIn K cd_is_one_of "is_one_of" = true) (k_is_one_of : PySem.W.keepIn K (.ref f_is_one_of) = true)
    {f_is_fraction : Addr} {od_is_fraction an_is_fraction : Option Addr} {sl_is_fraction : Array (Option Value)} {oc_is_fraction kV_is_fraction dc_is_fraction pm_is_fraction cd_is_fraction ct_is_fraction : Value}
    (a_is_fraction : PySem.W.nsIn K mainGlobals "is_fraction" = some (some (.ref f_is_fraction))) (l_is_fraction : K.lookup f_is_fraction = some ⟨oc_is_fraction, od_is_fraction, .func (PySem.W.fnOf "is_fraction" "is_fraction" (defArgs s_is_fraction) (defBody s_is_fraction) (defScope s_is_fraction) .none kV_is_fraction dc_is_fraction pm_is_fraction an_is_fraction cd_is_fraction ct_is_fraction), sl_is_fraction⟩) (c_is_fraction : PySem.W.codeIn K cd_is_fraction "is_fraction" = true) (k_is_fraction : PySem.W.keepIn K (.ref f_is_fraction) = true)
    {f_is_row : Addr} {od_is_row an_is_row : Option Addr} {sl_is_row : Array (Option Value)} {oc_is_row kV_is_row dc_is_row pm_is_row cd_is_row ct_is_row : Value}
    (a_is_row : PySem.W.nsIn K mainGlobals "is_row" = some (some (.ref f_is_row))) (l_is_row : K.lookup f_is_row = some ⟨oc_is_row, od_is_row, .func (PySem.W.fnOf "is_row" "is_row" (defArgs s_is_row) (defBody s_is_row) (defScope s_is_row) .none kV_is_row dc_is_row pm_is_row an_is_row cd_is_row ct_is_row), sl_is_row⟩) (c_is_row : PySem.W.codeIn K cd_is_row "is_row" = true) (k_is_row : PySem.W.keepIn K (.ref f_is_row) = true)
    {f_is_way : Addr} {od_is_way an_is_way : Option Addr} {sl_is_way : Array (Option Value)} {oc_is_way kV_is_way dc_is_way pm_is_way cd_is_way ct_is_way : Value}
    (a_is_way : PySem.W.nsIn K mainGlobals "is_way" = some (some (.ref f_is_way))) (l_is_way : K.lookup f_is_way = some ⟨oc_is_way, od_is_way, .func (PySem.W.fnOf "is_way" "is_way" (defArgs s_is_way) (defBody s_is_way) (defScope s_is_way) .none kV_is_way dc_is_way pm_is_way an_is_way cd_is_way ct_is_way), sl_is_way⟩) (c_is_way : PySem.W.codeIn K cd_is_way "is_way" = true) (k_is_way : PySem.W.keepIn K (.ref f_is_way) = true)
    {f_scaled : Addr} {od_scaled an_scaled : Option Addr} {sl_scaled : Array (Option Value)} {oc_scaled kV_scaled dc_scaled pm_scaled cd_scaled ct_scaled : Value}
    (a_scaled : PySem.W.nsIn K mainGlobals "scaled" = some (some (.ref f_scaled))) (l_scaled : K.lookup f_scaled = some ⟨oc_scaled, od_scaled, .func (PySem.W.fnOf "scaled" "scaled" (defArgs s_scaled) (defBody s_scaled) (defScope s_scaled) .none kV_scaled dc_scaled pm_scaled an_scaled cd_scaled ct_scaled), sl_scaled⟩) (c_scaled : PySem.W.codeIn K cd_scaled "scaled" = true) (k_scaled : PySem.W.keepIn K (.ref f_scaled) = true)
    {f_parts : Addr} {od_parts an_parts : Option Addr} {sl_parts : Array (Option Value)} {oc_parts kV_parts dc_parts pm_parts cd_parts ct_parts : Value}
    (a_parts : PySem.W.nsIn K mainGlobals "parts" = some (some (.ref f_parts))) (l_parts : K.lookup f_parts = some ⟨oc_parts, od_parts, .func (PySem.W.fnOf "parts" "parts" (defArgs s_parts) (defBody s_parts) (defScope s_parts) .none kV_parts dc_parts pm_parts an_parts cd_parts ct_parts), sl_parts⟩) (c_parts : PySem.W.codeIn K cd_parts "parts" = true) (k_parts : PySem.W.keepIn K (.ref f_parts) = true)
    {f_whole_near : Addr} {od_whole_near an_whole_near : Option Addr} {sl_whole_near : Array (Option Value)} {oc_whole_near kV_whole_near dc_whole_near pm_whole_near cd_whole_near ct_whole_near : Value}
    (a_whole_near : PySem.W.nsIn K mainGlobals "whole_near" = some (some (.ref f_whole_near))) (l_whole_near : K.lookup f_whole_near = some ⟨oc_whole_near, od_whole_near, .func (PySem.W.fnOf "whole_near" "whole_near" (defArgs s_whole_near) (defBody s_whole_near) (defScope s_whole_near) .none kV_whole_near dc_whole_near pm_whole_near an_whole_near cd_whole_near ct_whole_near), sl_whole_near⟩) (c_whole_near : PySem.W.codeIn K cd_whole_near "whole_near" = true) (k_whole_near : PySem.W.keepIn K (.ref f_whole_near) = true)
    {f_under : Addr} {od_under an_under : Option Addr} {sl_under : Array (Option Value)} {oc_under kV_under dc_under pm_under cd_under ct_under : Value}
    (a_under : PySem.W.nsIn K mainGlobals "under" = some (some (.ref f_under))) (l_under : K.lookup f_under = some ⟨oc_under, od_under, .func (PySem.W.fnOf "under" "under" (defArgs s_under) (defBody s_under) (defScope s_under) .none kV_under dc_under pm_under an_under cd_under ct_under), sl_under⟩) (c_under : PySem.W.codeIn K cd_under "under" = true) (k_under : PySem.W.keepIn K (.ref f_under) = true)
    {f_shaped : Addr} {od_shaped an_shaped : Option Addr} {sl_shaped : Array (Option Value)} {oc_shaped kV_shaped dc_shaped pm_shaped cd_shaped ct_shaped : Value}
    (a_shaped : PySem.W.nsIn K mainGlobals "shaped" = some (some (.ref f_shaped))) (l_shaped : K.lookup f_shaped = some ⟨oc_shaped, od_shaped, .func (PySem.W.fnOf "shaped" "shaped" (defArgs s_shaped) (defBody s_shaped) (defScope s_shaped) .none kV_shaped dc_shaped pm_shaped an_shaped cd_shaped ct_shaped), sl_shaped⟩) (c_shaped : PySem.W.codeIn K cd_shaped "shaped" = true) (k_shaped : PySem.W.keepIn K (.ref f_shaped) = true)
    {f_stepped : Addr} {od_stepped an_stepped : Option Addr} {sl_stepped : Array (Option Value)} {oc_stepped kV_stepped dc_stepped pm_stepped cd_stepped ct_stepped : Value}
    (a_stepped : PySem.W.nsIn K mainGlobals "stepped" = some (some (.ref f_stepped))) (l_stepped : K.lookup f_stepped = some ⟨oc_stepped, od_stepped, .func (PySem.W.fnOf "stepped" "stepped" (defArgs s_stepped) (defBody s_stepped) (defScope s_stepped) .none kV_stepped dc_stepped pm_stepped an_stepped cd_stepped ct_stepped), sl_stepped⟩) (c_stepped : PySem.W.codeIn K cd_stepped "stepped" = true) (k_stepped : PySem.W.keepIn K (.ref f_stepped) = true)
    {f_one_more : Addr} {od_one_more an_one_more : Option Addr} {sl_one_more : Array (Option Value)} {oc_one_more kV_one_more dc_one_more pm_one_more cd_one_more ct_one_more : Value}
    (a_one_more : PySem.W.nsIn K mainGlobals "one_more" = some (some (.ref f_one_more))) (l_one_more : K.lookup f_one_more = some ⟨oc_one_more, od_one_more, .func (PySem.W.fnOf "one_more" "one_more" (defArgs s_one_more) (defBody s_one_more) (defScope s_one_more) .none kV_one_more dc_one_more pm_one_more an_one_more cd_one_more ct_one_more), sl_one_more⟩) (c_one_more : PySem.W.codeIn K cd_one_more "one_more" = true) (k_one_more : PySem.W.keepIn K (.ref f_one_more) = true)
    {f_negated : Addr} {od_negated an_negated : Option Addr} {sl_negated : Array (Option Value)} {oc_negated kV_negated dc_negated pm_negated cd_negated ct_negated : Value}
    (a_negated : PySem.W.nsIn K mainGlobals "negated" = some (some (.ref f_negated))) (l_negated : K.lookup f_negated = some ⟨oc_negated, od_negated, .func (PySem.W.fnOf "negated" "negated" (defArgs s_negated) (defBody s_negated) (defScope s_negated) .none kV_negated dc_negated pm_negated an_negated cd_negated ct_negated), sl_negated⟩) (c_negated : PySem.W.codeIn K cd_negated "negated" = true) (k_negated : PySem.W.keepIn K (.ref f_negated) = true)
    {f_goes_outward : Addr} {od_goes_outward an_goes_outward : Option Addr} {sl_goes_outward : Array (Option Value)} {oc_goes_outward kV_goes_outward dc_goes_outward pm_goes_outward cd_goes_outward ct_goes_outward : Value}
    (a_goes_outward : PySem.W.nsIn K mainGlobals "goes_outward" = some (some (.ref f_goes_outward))) (l_goes_outward : K.lookup f_goes_outward = some ⟨oc_goes_outward, od_goes_outward, .func (PySem.W.fnOf "goes_outward" "goes_outward" (defArgs s_goes_outward) (defBody s_goes_outward) (defScope s_goes_outward) .none kV_goes_outward dc_goes_outward pm_goes_outward an_goes_outward cd_goes_outward ct_goes_outward), sl_goes_outward⟩) (c_goes_outward : PySem.W.codeIn K cd_goes_outward "goes_outward" = true) (k_goes_outward : PySem.W.keepIn K (.ref f_goes_outward) = true)
    {f_settled : Addr} {od_settled an_settled : Option Addr} {sl_settled : Array (Option Value)} {oc_settled kV_settled dc_settled pm_settled cd_settled ct_settled : Value}
    (a_settled : PySem.W.nsIn K mainGlobals "settled" = some (some (.ref f_settled))) (l_settled : K.lookup f_settled = some ⟨oc_settled, od_settled, .func (PySem.W.fnOf "settled" "settled" (defArgs s_settled) (defBody s_settled) (defScope s_settled) .none kV_settled dc_settled pm_settled an_settled cd_settled ct_settled), sl_settled⟩) (c_settled : PySem.W.codeIn K cd_settled "settled" = true) (k_settled : PySem.W.keepIn K (.ref f_settled) = true)
    {f_exact : Addr} {od_exact an_exact : Option Addr} {sl_exact : Array (Option Value)} {oc_exact kV_exact dc_exact pm_exact cd_exact ct_exact : Value}
    (a_exact : PySem.W.nsIn K mainGlobals "exact" = some (some (.ref f_exact))) (l_exact : K.lookup f_exact = some ⟨oc_exact, od_exact, .func (PySem.W.fnOf "exact" "exact" (defArgs s_exact) (defBody s_exact) (defScope s_exact) .none kV_exact dc_exact pm_exact an_exact cd_exact ct_exact), sl_exact⟩) (c_exact : PySem.W.codeIn K cd_exact "exact" = true) (k_exact : PySem.W.keepIn K (.ref f_exact) = true)
    {f_worked : Addr} {od_worked an_worked : Option Addr} {sl_worked : Array (Option Value)} {oc_worked kV_worked dc_worked pm_worked cd_worked ct_worked : Value}
    (a_worked : PySem.W.nsIn K mainGlobals "worked" = some (some (.ref f_worked))) (l_worked : K.lookup f_worked = some ⟨oc_worked, od_worked, .func (PySem.W.fnOf "worked" "worked" (defArgs s_worked) (defBody s_worked) (defScope s_worked) .none kV_worked dc_worked pm_worked an_worked cd_worked ct_worked), sl_worked⟩) (c_worked : PySem.W.codeIn K cd_worked "worked" = true) (k_worked : PySem.W.keepIn K (.ref f_worked) = true)
    {f_is_number_told : Addr} {od_is_number_told an_is_number_told : Option Addr} {sl_is_number_told : Array (Option Value)} {oc_is_number_told kV_is_number_told dc_is_number_told pm_is_number_told cd_is_number_told ct_is_number_told : Value}
    (a_is_number_told : PySem.W.nsIn K mainGlobals "is_number_told" = some (some (.ref f_is_number_told))) (l_is_number_told : K.lookup f_is_number_told = some ⟨oc_is_number_told, od_is_number_told, .func (PySem.W.fnOf "is_number_told" "is_number_told" (defArgs s_is_number_told) (defBody s_is_number_told) (defScope s_is_number_told) .none kV_is_number_told dc_is_number_told pm_is_number_told an_is_number_told cd_is_number_told ct_is_number_told), sl_is_number_told⟩) (c_is_number_told : PySem.W.codeIn K cd_is_number_told "is_number_told" = true) (k_is_number_told : PySem.W.keepIn K (.ref f_is_number_told) = true)
    {f_is_leaf : Addr} {od_is_leaf an_is_leaf : Option Addr} {sl_is_leaf : Array (Option Value)} {oc_is_leaf kV_is_leaf dc_is_leaf pm_is_leaf cd_is_leaf ct_is_leaf : Value}
    (a_is_leaf : PySem.W.nsIn K mainGlobals "is_leaf" = some (some (.ref f_is_leaf))) (l_is_leaf : K.lookup f_is_leaf = some ⟨oc_is_leaf, od_is_leaf, .func (PySem.W.fnOf "is_leaf" "is_leaf" (defArgs s_is_leaf) (defBody s_is_leaf) (defScope s_is_leaf) .none kV_is_leaf dc_is_leaf pm_is_leaf an_is_leaf cd_is_leaf ct_is_leaf), sl_is_leaf⟩) (c_is_leaf : PySem.W.codeIn K cd_is_leaf "is_leaf" = true) (k_is_leaf : PySem.W.keepIn K (.ref f_is_leaf) = true)
    {f_operations : Addr} {od_operations an_operations : Option Addr} {sl_operations : Array (Option Value)} {oc_operations kV_operations dc_operations pm_operations cd_operations ct_operations : Value}
    (a_operations : PySem.W.nsIn K mainGlobals "operations" = some (some (.ref f_operations))) (l_operations : K.lookup f_operations = some ⟨oc_operations, od_operations, .func (PySem.W.fnOf "operations" "operations" (defArgs s_operations) (defBody s_operations) (defScope s_operations) .none kV_operations dc_operations pm_operations an_operations cd_operations ct_operations), sl_operations⟩) (c_operations : PySem.W.codeIn K cd_operations "operations" = true) (k_operations : PySem.W.keepIn K (.ref f_operations) = true)
    {f_is_formula : Addr} {od_is_formula an_is_formula : Option Addr} {sl_is_formula : Array (Option Value)} {oc_is_formula kV_is_formula dc_is_formula pm_is_formula cd_is_formula ct_is_formula : Value}
    (a_is_formula : PySem.W.nsIn K mainGlobals "is_formula" = some (some (.ref f_is_formula))) (l_is_formula : K.lookup f_is_formula = some ⟨oc_is_formula, od_is_formula, .func (PySem.W.fnOf "is_formula" "is_formula" (defArgs s_is_formula) (defBody s_is_formula) (defScope s_is_formula) .none kV_is_formula dc_is_formula pm_is_formula an_is_formula cd_is_formula ct_is_formula), sl_is_formula⟩) (c_is_formula : PySem.W.codeIn K cd_is_formula "is_formula" = true) (k_is_formula : PySem.W.keepIn K (.ref f_is_formula) = true)
    {f_fraction_of : Addr} {od_fraction_of an_fraction_of : Option Addr} {sl_fraction_of : Array (Option Value)} {oc_fraction_of kV_fraction_of dc_fraction_of pm_fraction_of cd_fraction_of ct_fraction_of : Value}
    (a_fraction_of : PySem.W.nsIn K mainGlobals "fraction_of" = some (some (.ref f_fraction_of))) (l_fraction_of : K.lookup f_fraction_of = some ⟨oc_fraction_of, od_fraction_of, .func (PySem.W.fnOf "fraction_of" "fraction_of" (defArgs s_fraction_of) (defBody s_fraction_of) (defScope s_fraction_of) .none kV_fraction_of dc_fraction_of pm_fraction_of an_fraction_of cd_fraction_of ct_fraction_of), sl_fraction_of⟩) (c_fraction_of : PySem.W.codeIn K cd_fraction_of "fraction_of" = true) (k_fraction_of : PySem.W.keepIn K (.ref f_fraction_of) = true)
    {f_result : Addr} {od_result an_result : Option Addr} {sl_result : Array (Option Value)} {oc_result kV_result dc_result pm_result cd_result ct_result : Value}
    (a_result : PySem.W.nsIn K mainGlobals "result" = some (some (.ref f_result))) (l_result : K.lookup f_result = some ⟨oc_result, od_result, .func (PySem.W.fnOf "result" "result" (defArgs s_result) (defBody s_result) (defScope s_result) .none kV_result dc_result pm_result an_result cd_result ct_result), sl_result⟩) (c_result : PySem.W.codeIn K cd_result "result" = true) (k_result : PySem.W.keepIn K (.ref f_result) = true)
    {f_whole_result : Addr} {od_whole_result an_whole_result : Option Addr} {sl_whole_result : Array (Option Value)} {oc_whole_result kV_whole_result dc_whole_result pm_whole_result cd_whole_result ct_whole_result : Value}
    (a_whole_result : PySem.W.nsIn K mainGlobals "whole_result" = some (some (.ref f_whole_result))) (l_whole_result : K.lookup f_whole_result = some ⟨oc_whole_result, od_whole_result, .func (PySem.W.fnOf "whole_result" "whole_result" (defArgs s_whole_result) (defBody s_whole_result) (defScope s_whole_result) .none kV_whole_result dc_whole_result pm_whole_result an_whole_result cd_whole_result ct_whole_result), sl_whole_result⟩) (c_whole_result : PySem.W.codeIn K cd_whole_result "whole_result" = true) (k_whole_result : PySem.W.keepIn K (.ref f_whole_result) = true)
    {f_check_run : Addr} {od_check_run an_check_run : Option Addr} {sl_check_run : Array (Option Value)} {oc_check_run kV_check_run dc_check_run pm_check_run cd_check_run ct_check_run : Value}
    (a_check_run : PySem.W.nsIn K mainGlobals "check_run" = some (some (.ref f_check_run))) (l_check_run : K.lookup f_check_run = some ⟨oc_check_run, od_check_run, .func (PySem.W.fnOf "check_run" "check_run" (defArgs s_check_run) (defBody s_check_run) (defScope s_check_run) .none kV_check_run dc_check_run pm_check_run an_check_run cd_check_run ct_check_run), sl_check_run⟩) (c_check_run : PySem.W.codeIn K cd_check_run "check_run" = true) (k_check_run : PySem.W.keepIn K (.ref f_check_run) = true)
    {f_run : Addr} {od_run an_run : Option Addr} {sl_run : Array (Option Value)} {oc_run kV_run dc_run pm_run cd_run ct_run : Value}
    (a_run : PySem.W.nsIn K mainGlobals "run" = some (some (.ref f_run))) (l_run : K.lookup f_run = some ⟨oc_run, od_run, .func (PySem.W.fnOf "run" "run" (defArgs s_run) (defBody s_run) (defScope s_run) .none kV_run dc_run pm_run an_run cd_run ct_run), sl_run⟩) (c_run : PySem.W.codeIn K cd_run "run" = true) (k_run : PySem.W.keepIn K (.ref f_run) = true)
    {f_whole_of : Addr} {od_whole_of an_whole_of : Option Addr} {sl_whole_of : Array (Option Value)} {oc_whole_of kV_whole_of dc_whole_of pm_whole_of cd_whole_of ct_whole_of : Value}
    (a_whole_of : PySem.W.nsIn K mainGlobals "whole_of" = some (some (.ref f_whole_of))) (l_whole_of : K.lookup f_whole_of = some ⟨oc_whole_of, od_whole_of, .func (PySem.W.fnOf "whole_of" "whole_of" (defArgs s_whole_of) (defBody s_whole_of) (defScope s_whole_of) .none kV_whole_of dc_whole_of pm_whole_of an_whole_of cd_whole_of ct_whole_of), sl_whole_of⟩) (c_whole_of : PySem.W.codeIn K cd_whole_of "whole_of" = true) (k_whole_of : PySem.W.keepIn K (.ref f_whole_of) = true)
    {f__law_hand : Addr} {od__law_hand an__law_hand : Option Addr} {sl__law_hand : Array (Option Value)} {oc__law_hand kV__law_hand dc__law_hand pm__law_hand cd__law_hand ct__law_hand : Value}
    (a__law_hand : PySem.W.nsIn K mainGlobals "_law_hand" = some (some (.ref f__law_hand))) (l__law_hand : K.lookup f__law_hand = some ⟨oc__law_hand, od__law_hand, .func (PySem.W.fnOf "_law_hand" "_law_hand" (defArgs s__law_hand) (defBody s__law_hand) (defScope s__law_hand) .none kV__law_hand dc__law_hand pm__law_hand an__law_hand cd__law_hand ct__law_hand), sl__law_hand⟩) (c__law_hand : PySem.W.codeIn K cd__law_hand "_law_hand" = true) (k__law_hand : PySem.W.keepIn K (.ref f__law_hand) = true)
    {f__law_draw : Addr} {od__law_draw an__law_draw : Option Addr} {sl__law_draw : Array (Option Value)} {oc__law_draw kV__law_draw dc__law_draw pm__law_draw cd__law_draw ct__law_draw : Value}
    (a__law_draw : PySem.W.nsIn K mainGlobals "_law_draw" = some (some (.ref f__law_draw))) (l__law_draw : K.lookup f__law_draw = some ⟨oc__law_draw, od__law_draw, .func (PySem.W.fnOf "_law_draw" "_law_draw" (defArgs s__law_draw) (defBody s__law_draw) (defScope s__law_draw) .none kV__law_draw dc__law_draw pm__law_draw an__law_draw cd__law_draw ct__law_draw), sl__law_draw⟩) (c__law_draw : PySem.W.codeIn K cd__law_draw "_law_draw" = true) (k__law_draw : PySem.W.keepIn K (.ref f__law_draw) = true)
    {f__law_any : Addr} {od__law_any an__law_any : Option Addr} {sl__law_any : Array (Option Value)} {oc__law_any kV__law_any dc__law_any pm__law_any cd__law_any ct__law_any : Value}
    (a__law_any : PySem.W.nsIn K mainGlobals "_law_any" = some (some (.ref f__law_any))) (l__law_any : K.lookup f__law_any = some ⟨oc__law_any, od__law_any, .func (PySem.W.fnOf "_law_any" "_law_any" (defArgs s__law_any) (defBody s__law_any) (defScope s__law_any) .none kV__law_any dc__law_any pm__law_any an__law_any cd__law_any ct__law_any), sl__law_any⟩) (c__law_any : PySem.W.codeIn K cd__law_any "_law_any" = true) (k__law_any : PySem.W.keepIn K (.ref f__law_any) = true)
    {f__law_is_int : Addr} {od__law_is_int an__law_is_int : Option Addr} {sl__law_is_int : Array (Option Value)} {oc__law_is_int kV__law_is_int dc__law_is_int pm__law_is_int cd__law_is_int ct__law_is_int : Value}
    (a__law_is_int : PySem.W.nsIn K mainGlobals "_law_is_int" = some (some (.ref f__law_is_int))) (l__law_is_int : K.lookup f__law_is_int = some ⟨oc__law_is_int, od__law_is_int, .func (PySem.W.fnOf "_law_is_int" "_law_is_int" (defArgs s__law_is_int) (defBody s__law_is_int) (defScope s__law_is_int) .none kV__law_is_int dc__law_is_int pm__law_is_int an__law_is_int cd__law_is_int ct__law_is_int), sl__law_is_int⟩) (c__law_is_int : PySem.W.codeIn K cd__law_is_int "_law_is_int" = true) (k__law_is_int : PySem.W.keepIn K (.ref f__law_is_int) = true)
    {f__law_flag : Addr} {od__law_flag an__law_flag : Option Addr} {sl__law_flag : Array (Option Value)} {oc__law_flag kV__law_flag dc__law_flag pm__law_flag cd__law_flag ct__law_flag : Value}
    (a__law_flag : PySem.W.nsIn K mainGlobals "_law_flag" = some (some (.ref f__law_flag))) (l__law_flag : K.lookup f__law_flag = some ⟨oc__law_flag, od__law_flag, .func (PySem.W.fnOf "_law_flag" "_law_flag" (defArgs s__law_flag) (defBody s__law_flag) (defScope s__law_flag) .none kV__law_flag dc__law_flag pm__law_flag an__law_flag cd__law_flag ct__law_flag), sl__law_flag⟩) (c__law_flag : PySem.W.codeIn K cd__law_flag "_law_flag" = true) (k__law_flag : PySem.W.keepIn K (.ref f__law_flag) = true)
    {f__law_deep : Addr} {od__law_deep an__law_deep : Option Addr} {sl__law_deep : Array (Option Value)} {oc__law_deep kV__law_deep dc__law_deep pm__law_deep cd__law_deep ct__law_deep : Value}
    (a__law_deep : PySem.W.nsIn K mainGlobals "_law_deep" = some (some (.ref f__law_deep))) (l__law_deep : K.lookup f__law_deep = some ⟨oc__law_deep, od__law_deep, .func (PySem.W.fnOf "_law_deep" "_law_deep" (defArgs s__law_deep) (defBody s__law_deep) (defScope s__law_deep) .none kV__law_deep dc__law_deep pm__law_deep an__law_deep cd__law_deep ct__law_deep), sl__law_deep⟩) (c__law_deep : PySem.W.codeIn K cd__law_deep "_law_deep" = true) (k__law_deep : PySem.W.keepIn K (.ref f__law_deep) = true)
    {f__law_low : Addr} {od__law_low an__law_low : Option Addr} {sl__law_low : Array (Option Value)} {oc__law_low kV__law_low dc__law_low pm__law_low cd__law_low ct__law_low : Value}
    (a__law_low : PySem.W.nsIn K mainGlobals "_law_low" = some (some (.ref f__law_low))) (l__law_low : K.lookup f__law_low = some ⟨oc__law_low, od__law_low, .func (PySem.W.fnOf "_law_low" "_law_low" (defArgs s__law_low) (defBody s__law_low) (defScope s__law_low) .none kV__law_low dc__law_low pm__law_low an__law_low cd__law_low ct__law_low), sl__law_low⟩) (c__law_low : PySem.W.codeIn K cd__law_low "_law_low" = true) (k__law_low : PySem.W.keepIn K (.ref f__law_low) = true)
    {f__law_two : Addr} {od__law_two an__law_two : Option Addr} {sl__law_two : Array (Option Value)} {oc__law_two kV__law_two dc__law_two pm__law_two cd__law_two ct__law_two : Value}
    (a__law_two : PySem.W.nsIn K mainGlobals "_law_two" = some (some (.ref f__law_two))) (l__law_two : K.lookup f__law_two = some ⟨oc__law_two, od__law_two, .func (PySem.W.fnOf "_law_two" "_law_two" (defArgs s__law_two) (defBody s__law_two) (defScope s__law_two) .none kV__law_two dc__law_two pm__law_two an__law_two cd__law_two ct__law_two), sl__law_two⟩) (c__law_two : PySem.W.codeIn K cd__law_two "_law_two" = true) (k__law_two : PySem.W.keepIn K (.ref f__law_two) = true)
    {f__law_worth : Addr} {od__law_worth an__law_worth : Option Addr} {sl__law_worth : Array (Option Value)} {oc__law_worth kV__law_worth dc__law_worth pm__law_worth cd__law_worth ct__law_worth : Value}
    (a__law_worth : PySem.W.nsIn K mainGlobals "_law_worth" = some (some (.ref f__law_worth))) (l__law_worth : K.lookup f__law_worth = some ⟨oc__law_worth, od__law_worth, .func (PySem.W.fnOf "_law_worth" "_law_worth" (defArgs s__law_worth) (defBody s__law_worth) (defScope s__law_worth) .none kV__law_worth dc__law_worth pm__law_worth an__law_worth cd__law_worth ct__law_worth), sl__law_worth⟩) (c__law_worth : PySem.W.codeIn K cd__law_worth "_law_worth" = true) (k__law_worth : PySem.W.keepIn K (.ref f__law_worth) = true)
    {f__law_dyad : Addr} {od__law_dyad an__law_dyad : Option Addr} {sl__law_dyad : Array (Option Value)} {oc__law_dyad kV__law_dyad dc__law_dyad pm__law_dyad cd__law_dyad ct__law_dyad : Value}
    (a__law_dyad : PySem.W.nsIn K mainGlobals "_law_dyad" = some (some (.ref f__law_dyad))) (l__law_dyad : K.lookup f__law_dyad = some ⟨oc__law_dyad, od__law_dyad, .func (PySem.W.fnOf "_law_dyad" "_law_dyad" (defArgs s__law_dyad) (defBody s__law_dyad) (defScope s__law_dyad) .none kV__law_dyad dc__law_dyad pm__law_dyad an__law_dyad cd__law_dyad ct__law_dyad), sl__law_dyad⟩) (c__law_dyad : PySem.W.codeIn K cd__law_dyad "_law_dyad" = true) (k__law_dyad : PySem.W.keepIn K (.ref f__law_dyad) = true)
    {f__law_beside : Addr} {od__law_beside an__law_beside : Option Addr} {sl__law_beside : Array (Option Value)} {oc__law_beside kV__law_beside dc__law_beside pm__law_beside cd__law_beside ct__law_beside : Value}
    (a__law_beside : PySem.W.nsIn K mainGlobals "_law_beside" = some (some (.ref f__law_beside))) (l__law_beside : K.lookup f__law_beside = some ⟨oc__law_beside, od__law_beside, .func (PySem.W.fnOf "_law_beside" "_law_beside" (defArgs s__law_beside) (defBody s__law_beside) (defScope s__law_beside) .none kV__law_beside dc__law_beside pm__law_beside an__law_beside cd__law_beside ct__law_beside), sl__law_beside⟩) (c__law_beside : PySem.W.codeIn K cd__law_beside "_law_beside" = true) (k__law_beside : PySem.W.keepIn K (.ref f__law_beside) = true)
    {f__law_minus : Addr} {od__law_minus an__law_minus : Option Addr} {sl__law_minus : Array (Option Value)} {oc__law_minus kV__law_minus dc__law_minus pm__law_minus cd__law_minus ct__law_minus : Value}
    (a__law_minus : PySem.W.nsIn K mainGlobals "_law_minus" = some (some (.ref f__law_minus))) (l__law_minus : K.lookup f__law_minus = some ⟨oc__law_minus, od__law_minus, .func (PySem.W.fnOf "_law_minus" "_law_minus" (defArgs s__law_minus) (defBody s__law_minus) (defScope s__law_minus) .none kV__law_minus dc__law_minus pm__law_minus an__law_minus cd__law_minus ct__law_minus), sl__law_minus⟩) (c__law_minus : PySem.W.codeIn K cd__law_minus "_law_minus" = true) (k__law_minus : PySem.W.keepIn K (.ref f__law_minus) = true)
    {f__law_rounded : Addr} {od__law_rounded an__law_rounded : Option Addr} {sl__law_rounded : Array (Option Value)} {oc__law_rounded kV__law_rounded dc__law_rounded pm__law_rounded cd__law_rounded ct__law_rounded : Value}
    (a__law_rounded : PySem.W.nsIn K mainGlobals "_law_rounded" = some (some (.ref f__law_rounded))) (l__law_rounded : K.lookup f__law_rounded = some ⟨oc__law_rounded, od__law_rounded, .func (PySem.W.fnOf "_law_rounded" "_law_rounded" (defArgs s__law_rounded) (defBody s__law_rounded) (defScope s__law_rounded) .none kV__law_rounded dc__law_rounded pm__law_rounded an__law_rounded cd__law_rounded ct__law_rounded), sl__law_rounded⟩) (c__law_rounded : PySem.W.codeIn K cd__law_rounded "_law_rounded" = true) (k__law_rounded : PySem.W.keepIn K (.ref f__law_rounded) = true)
    {f__law_exact : Addr} {od__law_exact an__law_exact : Option Addr} {sl__law_exact : Array (Option Value)} {oc__law_exact kV__law_exact dc__law_exact pm__law_exact cd__law_exact ct__law_exact : Value}
    (a__law_exact : PySem.W.nsIn K mainGlobals "_law_exact" = some (some (.ref f__law_exact))) (l__law_exact : K.lookup f__law_exact = some ⟨oc__law_exact, od__law_exact, .func (PySem.W.fnOf "_law_exact" "_law_exact" (defArgs s__law_exact) (defBody s__law_exact) (defScope s__law_exact) .none kV__law_exact dc__law_exact pm__law_exact an__law_exact cd__law_exact ct__law_exact), sl__law_exact⟩) (c__law_exact : PySem.W.codeIn K cd__law_exact "_law_exact" = true) (k__law_exact : PySem.W.keepIn K (.ref f__law_exact) = true)
    {f__law_run : Addr} {od__law_run an__law_run : Option Addr} {sl__law_run : Array (Option Value)} {oc__law_run kV__law_run dc__law_run pm__law_run cd__law_run ct__law_run : Value}
    (a__law_run : PySem.W.nsIn K mainGlobals "_law_run" = some (some (.ref f__law_run))) (l__law_run : K.lookup f__law_run = some ⟨oc__law_run, od__law_run, .func (PySem.W.fnOf "_law_run" "_law_run" (defArgs s__law_run) (defBody s__law_run) (defScope s__law_run) .none kV__law_run dc__law_run pm__law_run an__law_run cd__law_run ct__law_run), sl__law_run⟩) (c__law_run : PySem.W.codeIn K cd__law_run "_law_run" = true) (k__law_run : PySem.W.keepIn K (.ref f__law_run) = true)
    {f__law_whole : Addr} {od__law_whole an__law_whole : Option Addr} {sl__law_whole : Array (Option Value)} {oc__law_whole kV__law_whole dc__law_whole pm__law_whole cd__law_whole ct__law_whole : Value}
    (a__law_whole : PySem.W.nsIn K mainGlobals "_law_whole" = some (some (.ref f__law_whole))) (l__law_whole : K.lookup f__law_whole = some ⟨oc__law_whole, od__law_whole, .func (PySem.W.fnOf "_law_whole" "_law_whole" (defArgs s__law_whole) (defBody s__law_whole) (defScope s__law_whole) .none kV__law_whole dc__law_whole pm__law_whole an__law_whole cd__law_whole ct__law_whole), sl__law_whole⟩) (c__law_whole : PySem.W.codeIn K cd__law_whole "_law_whole" = true) (k__law_whole : PySem.W.keepIn K (.ref f__law_whole) = true)
    {f__law_spec : Addr} {od__law_spec an__law_spec : Option Addr} {sl__law_spec : Array (Option Value)} {oc__law_spec kV__law_spec dc__law_spec pm__law_spec cd__law_spec ct__law_spec : Value}
    (a__law_spec : PySem.W.nsIn K mainGlobals "_law_spec" = some (some (.ref f__law_spec))) (l__law_spec : K.lookup f__law_spec = some ⟨oc__law_spec, od__law_spec, .func (PySem.W.fnOf "_law_spec" "_law_spec" (defArgs s__law_spec) (defBody s__law_spec) (defScope s__law_spec) .none kV__law_spec dc__law_spec pm__law_spec an__law_spec cd__law_spec ct__law_spec), sl__law_spec⟩) (c__law_spec : PySem.W.codeIn K cd__law_spec "_law_spec" = true) (k__law_spec : PySem.W.keepIn K (.ref f__law_spec) = true)
    {f__law_tree : Addr} {od__law_tree an__law_tree : Option Addr} {sl__law_tree : Array (Option Value)} {oc__law_tree kV__law_tree dc__law_tree pm__law_tree cd__law_tree ct__law_tree : Value}
    (a__law_tree : PySem.W.nsIn K mainGlobals "_law_tree" = some (some (.ref f__law_tree))) (l__law_tree : K.lookup f__law_tree = some ⟨oc__law_tree, od__law_tree, .func (PySem.W.fnOf "_law_tree" "_law_tree" (defArgs s__law_tree) (defBody s__law_tree) (defScope s__law_tree) .none kV__law_tree dc__law_tree pm__law_tree an__law_tree cd__law_tree ct__law_tree), sl__law_tree⟩) (c__law_tree : PySem.W.codeIn K cd__law_tree "_law_tree" = true) (k__law_tree : PySem.W.keepIn K (.ref f__law_tree) = true)
    {f__law_row : Addr} {od__law_row an__law_row : Option Addr} {sl__law_row : Array (Option Value)} {oc__law_row kV__law_row dc__law_row pm__law_row cd__law_row ct__law_row : Value}
    (a__law_row : PySem.W.nsIn K mainGlobals "_law_row" = some (some (.ref f__law_row))) (l__law_row : K.lookup f__law_row = some ⟨oc__law_row, od__law_row, .func (PySem.W.fnOf "_law_row" "_law_row" (defArgs s__law_row) (defBody s__law_row) (defScope s__law_row) .none kV__law_row dc__law_row pm__law_row an__law_row cd__law_row ct__law_row), sl__law_row⟩) (c__law_row : PySem.W.codeIn K cd__law_row "_law_row" = true) (k__law_row : PySem.W.keepIn K (.ref f__law_row) = true)
    {f__law_is_value : Addr} {od__law_is_value an__law_is_value : Option Addr} {sl__law_is_value : Array (Option Value)} {oc__law_is_value kV__law_is_value dc__law_is_value pm__law_is_value cd__law_is_value ct__law_is_value : Value}
    (a__law_is_value : PySem.W.nsIn K mainGlobals "_law_is_value" = some (some (.ref f__law_is_value))) (l__law_is_value : K.lookup f__law_is_value = some ⟨oc__law_is_value, od__law_is_value, .func (PySem.W.fnOf "_law_is_value" "_law_is_value" (defArgs s__law_is_value) (defBody s__law_is_value) (defScope s__law_is_value) .none kV__law_is_value dc__law_is_value pm__law_is_value an__law_is_value cd__law_is_value ct__law_is_value), sl__law_is_value⟩) (c__law_is_value : PySem.W.codeIn K cd__law_is_value "_law_is_value" = true) (k__law_is_value : PySem.W.keepIn K (.ref f__law_is_value) = true)
    {f__law_operations : Addr} {od__law_operations an__law_operations : Option Addr} {sl__law_operations : Array (Option Value)} {oc__law_operations kV__law_operations dc__law_operations pm__law_operations cd__law_operations ct__law_operations : Value}
    (a__law_operations : PySem.W.nsIn K mainGlobals "_law_operations" = some (some (.ref f__law_operations))) (l__law_operations : K.lookup f__law_operations = some ⟨oc__law_operations, od__law_operations, .func (PySem.W.fnOf "_law_operations" "_law_operations" (defArgs s__law_operations) (defBody s__law_operations) (defScope s__law_operations) .none kV__law_operations dc__law_operations pm__law_operations an__law_operations cd__law_operations ct__law_operations), sl__law_operations⟩) (c__law_operations : PySem.W.codeIn K cd__law_operations "_law_operations" = true) (k__law_operations : PySem.W.keepIn K (.ref f__law_operations) = true)
    {f__law_is : Addr} {od__law_is an__law_is : Option Addr} {sl__law_is : Array (Option Value)} {oc__law_is kV__law_is dc__law_is pm__law_is cd__law_is ct__law_is : Value}
    (a__law_is : PySem.W.nsIn K mainGlobals "_law_is" = some (some (.ref f__law_is))) (l__law_is : K.lookup f__law_is = some ⟨oc__law_is, od__law_is, .func (PySem.W.fnOf "_law_is" "_law_is" (defArgs s__law_is) (defBody s__law_is) (defScope s__law_is) .none kV__law_is dc__law_is pm__law_is an__law_is cd__law_is ct__law_is), sl__law_is⟩) (c__law_is : PySem.W.codeIn K cd__law_is "_law_is" = true) (k__law_is : PySem.W.keepIn K (.ref f__law_is) = true)
    {f__law_told : Addr} {od__law_told an__law_told : Option Addr} {sl__law_told : Array (Option Value)} {oc__law_told kV__law_told dc__law_told pm__law_told cd__law_told ct__law_told : Value}
    (a__law_told : PySem.W.nsIn K mainGlobals "_law_told" = some (some (.ref f__law_told))) (l__law_told : K.lookup f__law_told = some ⟨oc__law_told, od__law_told, .func (PySem.W.fnOf "_law_told" "_law_told" (defArgs s__law_told) (defBody s__law_told) (defScope s__law_told) .none kV__law_told dc__law_told pm__law_told an__law_told cd__law_told ct__law_told), sl__law_told⟩) (c__law_told : PySem.W.codeIn K cd__law_told "_law_told" = true) (k__law_told : PySem.W.keepIn K (.ref f__law_told) = true)
    {f__law_with : Addr} {od__law_with an__law_with : Option Addr} {sl__law_with : Array (Option Value)} {oc__law_with kV__law_with dc__law_with pm__law_with cd__law_with ct__law_with : Value}
    (a__law_with : PySem.W.nsIn K mainGlobals "_law_with" = some (some (.ref f__law_with))) (l__law_with : K.lookup f__law_with = some ⟨oc__law_with, od__law_with, .func (PySem.W.fnOf "_law_with" "_law_with" (defArgs s__law_with) (defBody s__law_with) (defScope s__law_with) .none kV__law_with dc__law_with pm__law_with an__law_with cd__law_with ct__law_with), sl__law_with⟩) (c__law_with : PySem.W.codeIn K cd__law_with "_law_with" = true) (k__law_with : PySem.W.keepIn K (.ref f__law_with) = true)
    {f__law_path : Addr} {od__law_path an__law_path : Option Addr} {sl__law_path : Array (Option Value)} {oc__law_path kV__law_path dc__law_path pm__law_path cd__law_path ct__law_path : Value}
    (a__law_path : PySem.W.nsIn K mainGlobals "_law_path" = some (some (.ref f__law_path))) (l__law_path : K.lookup f__law_path = some ⟨oc__law_path, od__law_path, .func (PySem.W.fnOf "_law_path" "_law_path" (defArgs s__law_path) (defBody s__law_path) (defScope s__law_path) .none kV__law_path dc__law_path pm__law_path an__law_path cd__law_path ct__law_path), sl__law_path⟩) (c__law_path : PySem.W.codeIn K cd__law_path "_law_path" = true) (k__law_path : PySem.W.keepIn K (.ref f__law_path) = true)
    {f__law_deeper : Addr} {od__law_deeper an__law_deeper : Option Addr} {sl__law_deeper : Array (Option Value)} {oc__law_deeper kV__law_deeper dc__law_deeper pm__law_deeper cd__law_deeper ct__law_deeper : Value}
    (a__law_deeper : PySem.W.nsIn K mainGlobals "_law_deeper" = some (some (.ref f__law_deeper))) (l__law_deeper : K.lookup f__law_deeper = some ⟨oc__law_deeper, od__law_deeper, .func (PySem.W.fnOf "_law_deeper" "_law_deeper" (defArgs s__law_deeper) (defBody s__law_deeper) (defScope s__law_deeper) .none kV__law_deeper dc__law_deeper pm__law_deeper an__law_deeper cd__law_deeper ct__law_deeper), sl__law_deeper⟩) (c__law_deeper : PySem.W.codeIn K cd__law_deeper "_law_deeper" = true) (k__law_deeper : PySem.W.keepIn K (.ref f__law_deeper) = true)
    {f__law_bent : Addr} {od__law_bent an__law_bent : Option Addr} {sl__law_bent : Array (Option Value)} {oc__law_bent kV__law_bent dc__law_bent pm__law_bent cd__law_bent ct__law_bent : Value}
    (a__law_bent : PySem.W.nsIn K mainGlobals "_law_bent" = some (some (.ref f__law_bent))) (l__law_bent : K.lookup f__law_bent = some ⟨oc__law_bent, od__law_bent, .func (PySem.W.fnOf "_law_bent" "_law_bent" (defArgs s__law_bent) (defBody s__law_bent) (defScope s__law_bent) .none kV__law_bent dc__law_bent pm__law_bent an__law_bent cd__law_bent ct__law_bent), sl__law_bent⟩) (c__law_bent : PySem.W.codeIn K cd__law_bent "_law_bent" = true) (k__law_bent : PySem.W.keepIn K (.ref f__law_bent) = true)
    {f__law_judged_right : Addr} {od__law_judged_right an__law_judged_right : Option Addr} {sl__law_judged_right : Array (Option Value)} {oc__law_judged_right kV__law_judged_right dc__law_judged_right pm__law_judged_right cd__law_judged_right ct__law_judged_right : Value}
    (a__law_judged_right : PySem.W.nsIn K mainGlobals "_law_judged_right" = some (some (.ref f__law_judged_right))) (l__law_judged_right : K.lookup f__law_judged_right = some ⟨oc__law_judged_right, od__law_judged_right, .func (PySem.W.fnOf "_law_judged_right" "_law_judged_right" (defArgs s__law_judged_right) (defBody s__law_judged_right) (defScope s__law_judged_right) .none kV__law_judged_right dc__law_judged_right pm__law_judged_right an__law_judged_right cd__law_judged_right ct__law_judged_right), sl__law_judged_right⟩) (c__law_judged_right : PySem.W.codeIn K cd__law_judged_right "_law_judged_right" = true) (k__law_judged_right : PySem.W.keepIn K (.ref f__law_judged_right) = true)
    {f_law : Addr} {od_law an_law : Option Addr} {sl_law : Array (Option Value)} {oc_law kV_law dc_law pm_law cd_law ct_law : Value}
    (a_law : PySem.W.nsIn K mainGlobals "law" = some (some (.ref f_law))) (l_law : K.lookup f_law = some ⟨oc_law, od_law, .func (PySem.W.fnOf "law" "law" (defArgs s_law) (defBody s_law) (defScope s_law) .none kV_law dc_law pm_law an_law cd_law ct_law), sl_law⟩) (c_law : PySem.W.codeIn K cd_law "law" = true) (k_law : PySem.W.keepIn K (.ref f_law) = true)
    {f_WAYS : Addr} {od_WAYS : Option Addr} {n_WAYS : Nat} {sl_WAYS : Array (Option Value)} {t0_WAYS t1_WAYS t2_WAYS t3_WAYS t4_WAYS : Tok}
    (a_WAYS : PySem.W.nsIn K mainGlobals "WAYS" = some (some (.ref f_WAYS))) (l_WAYS : K.lookup f_WAYS = some ⟨.type "tuple", od_WAYS, .seq #[.str "up" t0_WAYS, .str "down" t1_WAYS, .str "cut" t2_WAYS, .str "near" t3_WAYS, .str "far" t4_WAYS] n_WAYS, sl_WAYS⟩)
    {f_WORDS : Addr} {od_WORDS : Option Addr} {n_WORDS : Nat} {sl_WORDS : Array (Option Value)} {t0_WORDS t1_WORDS t2_WORDS t3_WORDS t4_WORDS t5_WORDS : Tok}
    (a_WORDS : PySem.W.nsIn K mainGlobals "WORDS" = some (some (.ref f_WORDS))) (l_WORDS : K.lookup f_WORDS = some ⟨.type "tuple", od_WORDS, .seq #[.str "plus" t0_WORDS, .str "minus" t1_WORDS, .str "times" t2_WORDS, .str "over" t3_WORDS, .str "least" t4_WORDS, .str "greatest" t5_WORDS] n_WORDS, sl_WORDS⟩)
    (z_abs : PySem.W.nsIn K mainGlobals "abs" = some none)
    (z_all : PySem.W.nsIn K mainGlobals "all" = some none)
    (z_bool : PySem.W.nsIn K mainGlobals "bool" = some none)
    (z_divmod : PySem.W.nsIn K mainGlobals "divmod" = some none)
    (z_int : PySem.W.nsIn K mainGlobals "int" = some none)
    (z_isinstance : PySem.W.nsIn K mainGlobals "isinstance" = some none)
    (z_len : PySem.W.nsIn K mainGlobals "len" = some none)
    (z_list : PySem.W.nsIn K mainGlobals "list" = some none)
    (z_max : PySem.W.nsIn K mainGlobals "max" = some none)
    (z_min : PySem.W.nsIn K mainGlobals "min" = some none)
    (z_range : PySem.W.nsIn K mainGlobals "range" = some none)
    (z_str : PySem.W.nsIn K mainGlobals "str" = some none)
    (z_tuple : PySem.W.nsIn K mainGlobals "tuple" = some none) : Tx K mg where
  a_is_integer := f_is_integer
  d_is_integer := _
  f_is_integer := fun_mk (st := s_is_integer) l_is_integer c_is_integer k_is_integer
  b_is_integer := (fun_mk (st := s_is_integer) l_is_integer c_is_integer k_is_integer).binds (ps := ["thing"]) fun _ _ _ _ _ _ us hl => match us, hl with | [_], _ => rfl
  m_is_integer := PySem.W.mg_of X G a_is_integer
  a_is_between := f_is_between
  d_is_between := _
  f_is_between := fun_mk (st := s_is_between) l_is_between c_is_between k_is_between
  b_is_between := (fun_mk (st := s_is_between) l_is_between c_is_between k_is_between).binds (ps := ["least", "most", "thing"]) fun _ _ _ _ _ _ us hl => match us, hl with | [_, _, _], _ => rfl
  m_is_between := PySem.W.mg_of X G a_is_between
  a_is_tuple := f_is_tuple
  d_is_tuple := _
  f_is_tuple := fun_mk (st := s_is_tuple) l_is_tuple c_is_tuple k_is_tuple
  b_is_tuple := (fun_mk (st := s_is_tuple) l_is_tuple c_is_tuple k_is_tuple).binds (ps := ["least", "most", "thing"]) fun _ _ _ _ _ _ us hl => match us, hl with | [_, _, _], _ => rfl
  m_is_tuple := PySem.W.mg_of X G a_is_tuple
  a_is_pair := f_is_pair
  d_is_pair := _
  f_is_pair := fun_mk (st := s_is_pair) l_is_pair c_is_pair k_is_pair
  b_is_pair := (fun_mk (st := s_is_pair) l_is_pair c_is_pair k_is_pair).binds (ps := ["thing"]) fun _ _ _ _ _ _ us hl => match us, hl with | [_], _ => rfl
  m_is_pair := PySem.W.mg_of X G a_is_pair
  a_is_one_of := f_is_one_of
  d_is_one_of := _
  f_is_one_of := fun_mk (st := s_is_one_of) l_is_one_of c_is_one_of k_is_one_of
  b_is_one_of := (fun_mk (st := s_is_one_of) l_is_one_of c_is_one_of k_is_one_of).binds (ps := ["words", "thing"]) fun _ _ _ _ _ _ us hl => match us, hl with | [_, _], _ => rfl
  m_is_one_of := PySem.W.mg_of X G a_is_one_of
  a_is_fraction := f_is_fraction
  d_is_fraction := _
  f_is_fraction := fun_mk (st := s_is_fraction) l_is_fraction c_is_fraction k_is_fraction
  b_is_fraction := (fun_mk (st := s_is_fraction) l_is_fraction c_is_fraction k_is_fraction).binds (ps := ["thing"]) fun _ _ _ _ _ _ us hl => match us, hl with | [_], _ => rfl
  m_is_fraction := PySem.W.mg_of X G a_is_fraction
  a_is_row := f_is_row
  d_is_row := _
  f_is_row := fun_mk (st := s_is_row) l_is_row c_is_row k_is_row
  b_is_row := (fun_mk (st := s_is_row) l_is_row c_is_row k_is_row).binds (ps := ["fewest", "many", "least", "most", "thing"]) fun _ _ _ _ _ _ us hl => match us, hl with | [_, _, _, _, _], _ => rfl
  m_is_row := PySem.W.mg_of X G a_is_row
  a_is_way := f_is_way
  d_is_way := _
  f_is_way := fun_mk (st := s_is_way) l_is_way c_is_way k_is_way
  b_is_way := (fun_mk (st := s_is_way) l_is_way c_is_way k_is_way).binds (ps := ["thing"]) fun _ _ _ _ _ _ us hl => match us, hl with | [_], _ => rfl
  m_is_way := PySem.W.mg_of X G a_is_way
  a_scaled := f_scaled
  d_scaled := _
  f_scaled := fun_mk (st := s_scaled) l_scaled c_scaled k_scaled
  b_scaled := (fun_mk (st := s_scaled) l_scaled c_scaled k_scaled).binds (ps := ["many", "by"]) fun _ _ _ _ _ _ us hl => match us, hl with | [_, _], _ => rfl
  m_scaled := PySem.W.mg_of X G a_scaled
  a_parts := f_parts
  d_parts := _
  f_parts := fun_mk (st := s_parts) l_parts c_parts k_parts
  b_parts := (fun_mk (st := s_parts) l_parts c_parts k_parts).binds (ps := ["dyad"]) fun _ _ _ _ _ _ us hl => match us, hl with | [_], _ => rfl
  m_parts := PySem.W.mg_of X G a_parts
  a_whole_near := f_whole_near
  d_whole_near := _
  f_whole_near := fun_mk (st := s_whole_near) l_whole_near c_whole_near k_whole_near
  b_whole_near := (fun_mk (st := s_whole_near) l_whole_near c_whole_near k_whole_near).binds (ps := ["dyad"]) fun _ _ _ _ _ _ us hl => match us, hl with | [_], _ => rfl
  m_whole_near := PySem.W.mg_of X G a_whole_near
  a_under := f_under
  d_under := _
  f_under := fun_mk (st := s_under) l_under c_under k_under
  b_under := (fun_mk (st := s_under) l_under c_under k_under).binds (ps := ["one", "other"]) fun _ _ _ _ _ _ us hl => match us, hl with | [_, _], _ => rfl
  m_under := PySem.W.mg_of X G a_under
  a_shaped := f_shaped
  d_shaped := _
  f_shaped := fun_mk (st := s_shaped) l_shaped c_shaped k_shaped
  b_shaped := (fun_mk (st := s_shaped) l_shaped c_shaped k_shaped).binds (ps := ["many", "step"]) fun _ _ _ _ _ _ us hl => match us, hl with | [_, _], _ => rfl
  m_shaped := PySem.W.mg_of X G a_shaped
  a_stepped := f_stepped
  d_stepped := _
  f_stepped := fun_mk (st := s_stepped) l_stepped c_stepped k_stepped
  b_stepped := (fun_mk (st := s_stepped) l_stepped c_stepped k_stepped).binds (ps := ["format", "top", "bottom"]) fun _ _ _ _ _ _ us hl => match us, hl with | [_, _, _], _ => rfl
  m_stepped := PySem.W.mg_of X G a_stepped
  a_one_more := f_one_more
  d_one_more := _
  f_one_more := fun_mk (st := s_one_more) l_one_more c_one_more k_one_more
  b_one_more := (fun_mk (st := s_one_more) l_one_more c_one_more k_one_more).binds (ps := ["format", "many", "step"]) fun _ _ _ _ _ _ us hl => match us, hl with | [_, _, _], _ => rfl
  m_one_more := PySem.W.mg_of X G a_one_more
  a_negated := f_negated
  d_negated := _
  f_negated := fun_mk (st := s_negated) l_negated c_negated k_negated
  b_negated := (fun_mk (st := s_negated) l_negated c_negated k_negated).binds (ps := ["dyad"]) fun _ _ _ _ _ _ us hl => match us, hl with | [_], _ => rfl
  m_negated := PySem.W.mg_of X G a_negated
  a_goes_outward := f_goes_outward
  d_goes_outward := _
  f_goes_outward := fun_mk (st := s_goes_outward) l_goes_outward c_goes_outward k_goes_outward
  b_goes_outward := (fun_mk (st := s_goes_outward) l_goes_outward c_goes_outward k_goes_outward).binds (ps := ["way", "top", "many", "past_half"]) fun _ _ _ _ _ _ us hl => match us, hl with | [_, _, _, _], _ => rfl
  m_goes_outward := PySem.W.mg_of X G a_goes_outward
  a_settled := f_settled
  d_settled := _
  f_settled := fun_mk (st := s_settled) l_settled c_settled k_settled
  b_settled := (fun_mk (st := s_settled) l_settled c_settled k_settled).binds (ps := ["format", "way", "top", "bottom"]) fun _ _ _ _ _ _ us hl => match us, hl with | [_, _, _, _], _ => rfl
  m_settled := PySem.W.mg_of X G a_settled
  a_exact := f_exact
  d_exact := _
  f_exact := fun_mk (st := s_exact) l_exact c_exact k_exact
  b_exact := (fun_mk (st := s_exact) l_exact c_exact k_exact).binds (ps := ["word", "one", "other"]) fun _ _ _ _ _ _ us hl => match us, hl with | [_, _, _], _ => rfl
  m_exact := PySem.W.mg_of X G a_exact
  a_worked := f_worked
  d_worked := _
  f_worked := fun_mk (st := s_worked) l_worked c_worked k_worked
  b_worked := (fun_mk (st := s_worked) l_worked c_worked k_worked).binds (ps := ["format", "way", "word", "one", "other"]) fun _ _ _ _ _ _ us hl => match us, hl with | [_, _, _, _, _], _ => rfl
  m_worked := PySem.W.mg_of X G a_worked
  a_is_number_told := f_is_number_told
  d_is_number_told := _
  f_is_number_told := fun_mk (st := s_is_number_told) l_is_number_told c_is_number_told k_is_number_told
  b_is_number_told := (fun_mk (st := s_is_number_told) l_is_number_told c_is_number_told k_is_number_told).binds (ps := ["value"]) fun _ _ _ _ _ _ us hl => match us, hl with | [_], _ => rfl
  m_is_number_told := PySem.W.mg_of X G a_is_number_told
  a_is_leaf := f_is_leaf
  d_is_leaf := _
  f_is_leaf := fun_mk (st := s_is_leaf) l_is_leaf c_is_leaf k_is_leaf
  b_is_leaf := (fun_mk (st := s_is_leaf) l_is_leaf c_is_leaf k_is_leaf).binds (ps := ["inputs", "thing"]) fun _ _ _ _ _ _ us hl => match us, hl with | [_, _], _ => rfl
  m_is_leaf := PySem.W.mg_of X G a_is_leaf
  a_operations := f_operations
  d_operations := _
  f_operations := fun_mk (st := s_operations) l_operations c_operations k_operations
  b_operations := (fun_mk (st := s_operations) l_operations c_operations k_operations).binds (ps := ["inputs", "thing", "deep"]) fun _ _ _ _ _ _ us hl => match us, hl with | [_, _, _], _ => rfl
  m_operations := PySem.W.mg_of X G a_operations
  a_is_formula := f_is_formula
  d_is_formula := _
  f_is_formula := fun_mk (st := s_is_formula) l_is_formula c_is_formula k_is_formula
  b_is_formula := (fun_mk (st := s_is_formula) l_is_formula c_is_formula k_is_formula).binds (ps := ["inputs", "thing"]) fun _ _ _ _ _ _ us hl => match us, hl with | [_, _], _ => rfl
  m_is_formula := PySem.W.mg_of X G a_is_formula
  a_fraction_of := f_fraction_of
  d_fraction_of := _
  f_fraction_of := fun_mk (st := s_fraction_of) l_fraction_of c_fraction_of k_fraction_of
  b_fraction_of := (fun_mk (st := s_fraction_of) l_fraction_of c_fraction_of k_fraction_of).binds (ps := ["value"]) fun _ _ _ _ _ _ us hl => match us, hl with | [_], _ => rfl
  m_fraction_of := PySem.W.mg_of X G a_fraction_of
  a_result := f_result
  d_result := _
  f_result := fun_mk (st := s_result) l_result c_result k_result
  b_result := (fun_mk (st := s_result) l_result c_result k_result).binds (ps := ["format", "way", "formula", "row"]) fun _ _ _ _ _ _ us hl => match us, hl with | [_, _, _, _], _ => rfl
  m_result := PySem.W.mg_of X G a_result
  a_whole_result := f_whole_result
  d_whole_result := _
  f_whole_result := fun_mk (st := s_whole_result) l_whole_result c_whole_result k_whole_result
  b_whole_result := (fun_mk (st := s_whole_result) l_whole_result c_whole_result k_whole_result).binds (ps := ["format", "way", "formula", "row"]) fun _ _ _ _ _ _ us hl => match us, hl with | [_, _, _, _], _ => rfl
  m_whole_result := PySem.W.mg_of X G a_whole_result
  a_check_run := f_check_run
  d_check_run := _
  f_check_run := fun_mk (st := s_check_run) l_check_run c_check_run k_check_run
  b_check_run := (fun_mk (st := s_check_run) l_check_run c_check_run k_check_run).binds (ps := ["way", "formula", "row"]) fun _ _ _ _ _ _ us hl => match us, hl with | [_, _, _], _ => rfl
  m_check_run := PySem.W.mg_of X G a_check_run
  a_run := f_run
  d_run := _
  f_run := fun_mk (st := s_run) l_run c_run k_run
  b_run := (fun_mk (st := s_run) l_run c_run k_run).binds (ps := ["format", "way", "formula", "row"]) fun _ _ _ _ _ _ us hl => match us, hl with | [_, _, _, _], _ => rfl
  m_run := PySem.W.mg_of X G a_run
  a_whole_of := f_whole_of
  d_whole_of := _
  f_whole_of := fun_mk (st := s_whole_of) l_whole_of c_whole_of k_whole_of
  b_whole_of := (fun_mk (st := s_whole_of) l_whole_of c_whole_of k_whole_of).binds (ps := ["format", "way", "formula", "row"]) fun _ _ _ _ _ _ us hl => match us, hl with | [_, _, _, _], _ => rfl
  m_whole_of := PySem.W.mg_of X G a_whole_of
  a__law_hand := f__law_hand
  d__law_hand := _
  f__law_hand := fun_mk (st := s__law_hand) l__law_hand c__law_hand k__law_hand
  b__law_hand := (fun_mk (st := s__law_hand) l__law_hand c__law_hand k__law_hand).binds (ps := ["script"]) fun _ _ _ _ _ _ us hl => match us, hl with | [_], _ => rfl
  m__law_hand := PySem.W.mg_of X G a__law_hand
  a__law_draw := f__law_draw
  d__law_draw := _
  f__law_draw := fun_mk (st := s__law_draw) l__law_draw c__law_draw k__law_draw
  b__law_draw := (fun_mk (st := s__law_draw) l__law_draw c__law_draw k__law_draw).binds (ps := ["hand", "many"]) fun _ _ _ _ _ _ us hl => match us, hl with | [_, _], _ => rfl
  m__law_draw := PySem.W.mg_of X G a__law_draw
  a__law_any := f__law_any
  d__law_any := _
  f__law_any := fun_mk (st := s__law_any) l__law_any c__law_any k__law_any
  b__law_any := (fun_mk (st := s__law_any) l__law_any c__law_any k__law_any).binds (ps := ["hand", "some"]) fun _ _ _ _ _ _ us hl => match us, hl with | [_, _], _ => rfl
  m__law_any := PySem.W.mg_of X G a__law_any
  a__law_is_int := f__law_is_int
  d__law_is_int := _
  f__law_is_int := fun_mk (st := s__law_is_int) l__law_is_int c__law_is_int k__law_is_int
  b__law_is_int := (fun_mk (st := s__law_is_int) l__law_is_int c__law_is_int k__law_is_int).binds (ps := ["thing", "least", "most"]) fun _ _ _ _ _ _ us hl => match us, hl with | [_, _, _], _ => rfl
  m__law_is_int := PySem.W.mg_of X G a__law_is_int
  a__law_flag := f__law_flag
  d__law_flag := _
  f__law_flag := fun_mk (st := s__law_flag) l__law_flag c__law_flag k__law_flag
  b__law_flag := (fun_mk (st := s__law_flag) l__law_flag c__law_flag k__law_flag).binds (ps := ["told", "due"]) fun _ _ _ _ _ _ us hl => match us, hl with | [_, _], _ => rfl
  m__law_flag := PySem.W.mg_of X G a__law_flag
  a__law_deep := f__law_deep
  d__law_deep := _
  f__law_deep := fun_mk (st := s__law_deep) l__law_deep c__law_deep k__law_deep
  b__law_deep := (fun_mk (st := s__law_deep) l__law_deep c__law_deep k__law_deep).binds (ps := ["hand", "thing"]) fun _ _ _ _ _ _ us hl => match us, hl with | [_, _], _ => rfl
  m__law_deep := PySem.W.mg_of X G a__law_deep
  a__law_low := f__law_low
  d__law_low := _
  f__law_low := fun_mk (st := s__law_low) l__law_low c__law_low k__law_low
  b__law_low := (fun_mk (st := s__law_low) l__law_low c__law_low k__law_low).binds (ps := ["top", "bottom"]) fun _ _ _ _ _ _ us hl => match us, hl with | [_, _], _ => rfl
  m__law_low := PySem.W.mg_of X G a__law_low
  a__law_two := f__law_two
  d__law_two := _
  f__law_two := fun_mk (st := s__law_two) l__law_two c__law_two k__law_two
  b__law_two := (fun_mk (st := s__law_two) l__law_two c__law_two k__law_two).binds (ps := ["many"]) fun _ _ _ _ _ _ us hl => match us, hl with | [_], _ => rfl
  m__law_two := PySem.W.mg_of X G a__law_two
  a__law_worth := f__law_worth
  d__law_worth := _
  f__law_worth := fun_mk (st := s__law_worth) l__law_worth c__law_worth k__law_worth
  b__law_worth := (fun_mk (st := s__law_worth) l__law_worth c__law_worth k__law_worth).binds (ps := ["dyad"]) fun _ _ _ _ _ _ us hl => match us, hl with | [_], _ => rfl
  m__law_worth := PySem.W.mg_of X G a__law_worth
  a__law_dyad := f__law_dyad
  d__law_dyad := _
  f__law_dyad := fun_mk (st := s__law_dyad) l__law_dyad c__law_dyad k__law_dyad
  b__law_dyad := (fun_mk (st := s__law_dyad) l__law_dyad c__law_dyad k__law_dyad).binds (ps := ["value"]) fun _ _ _ _ _ _ us hl => match us, hl with | [_], _ => rfl
  m__law_dyad := PySem.W.mg_of X G a__law_dyad
  a__law_beside := f__law_beside
  d__law_beside := _
  f__law_beside := fun_mk (st := s__law_beside) l__law_beside c__law_beside k__law_beside
  b__law_beside := (fun_mk (st := s__law_beside) l__law_beside c__law_beside k__law_beside).binds (ps := ["spec", "value", "is_above"]) fun _ _ _ _ _ _ us hl => match us, hl with | [_, _, _], _ => rfl
  m__law_beside := PySem.W.mg_of X G a__law_beside
  a__law_minus := f__law_minus
  d__law_minus := _
  f__law_minus := fun_mk (st := s__law_minus) l__law_minus c__law_minus k__law_minus
  b__law_minus := (fun_mk (st := s__law_minus) l__law_minus c__law_minus k__law_minus).binds (ps := ["one", "other"]) fun _ _ _ _ _ _ us hl => match us, hl with | [_, _], _ => rfl
  m__law_minus := PySem.W.mg_of X G a__law_minus
  a__law_rounded := f__law_rounded
  d__law_rounded := _
  f__law_rounded := fun_mk (st := s__law_rounded) l__law_rounded c__law_rounded k__law_rounded
  b__law_rounded := (fun_mk (st := s__law_rounded) l__law_rounded c__law_rounded k__law_rounded).binds (ps := ["spec", "value", "way"]) fun _ _ _ _ _ _ us hl => match us, hl with | [_, _, _], _ => rfl
  m__law_rounded := PySem.W.mg_of X G a__law_rounded
  a__law_exact := f__law_exact
  d__law_exact := _
  f__law_exact := fun_mk (st := s__law_exact) l__law_exact c__law_exact k__law_exact
  b__law_exact := (fun_mk (st := s__law_exact) l__law_exact c__law_exact k__law_exact).binds (ps := ["word", "one", "other"]) fun _ _ _ _ _ _ us hl => match us, hl with | [_, _, _], _ => rfl
  m__law_exact := PySem.W.mg_of X G a__law_exact
  a__law_run := f__law_run
  d__law_run := _
  f__law_run := fun_mk (st := s__law_run) l__law_run c__law_run k__law_run
  b__law_run := (fun_mk (st := s__law_run) l__law_run c__law_run k__law_run).binds (ps := ["spec", "way", "formula", "row"]) fun _ _ _ _ _ _ us hl => match us, hl with | [_, _, _, _], _ => rfl
  m__law_run := PySem.W.mg_of X G a__law_run
  a__law_whole := f__law_whole
  d__law_whole := _
  f__law_whole := fun_mk (st := s__law_whole) l__law_whole c__law_whole k__law_whole
  b__law_whole := (fun_mk (st := s__law_whole) l__law_whole c__law_whole k__law_whole).binds (ps := ["value"]) fun _ _ _ _ _ _ us hl => match us, hl with | [_], _ => rfl
  m__law_whole := PySem.W.mg_of X G a__law_whole
  a__law_spec := f__law_spec
  d__law_spec := _
  f__law_spec := fun_mk (st := s__law_spec) l__law_spec c__law_spec k__law_spec
  b__law_spec := (fun_mk (st := s__law_spec) l__law_spec c__law_spec k__law_spec).binds (ps := ["hand"]) fun _ _ _ _ _ _ us hl => match us, hl with | [_], _ => rfl
  m__law_spec := PySem.W.mg_of X G a__law_spec
  a__law_tree := f__law_tree
  d__law_tree := _
  f__law_tree := fun_mk (st := s__law_tree) l__law_tree c__law_tree k__law_tree
  b__law_tree := (fun_mk (st := s__law_tree) l__law_tree c__law_tree k__law_tree).binds (ps := ["hand", "inputs", "many", "room"]) fun _ _ _ _ _ _ us hl => match us, hl with | [_, _, _, _], _ => rfl
  m__law_tree := PySem.W.mg_of X G a__law_tree
  a__law_row := f__law_row
  d__law_row := _
  f__law_row := fun_mk (st := s__law_row) l__law_row c__law_row k__law_row
  b__law_row := (fun_mk (st := s__law_row) l__law_row c__law_row k__law_row).binds (ps := ["hand", "inputs"]) fun _ _ _ _ _ _ us hl => match us, hl with | [_, _], _ => rfl
  m__law_row := PySem.W.mg_of X G a__law_row
  a__law_is_value := f__law_is_value
  d__law_is_value := _
  f__law_is_value := fun_mk (st := s__law_is_value) l__law_is_value c__law_is_value k__law_is_value
  b__law_is_value := (fun_mk (st := s__law_is_value) l__law_is_value c__law_is_value k__law_is_value).binds (ps := ["thing"]) fun _ _ _ _ _ _ us hl => match us, hl with | [_], _ => rfl
  m__law_is_value := PySem.W.mg_of X G a__law_is_value
  a__law_operations := f__law_operations
  d__law_operations := _
  f__law_operations := fun_mk (st := s__law_operations) l__law_operations c__law_operations k__law_operations
  b__law_operations := (fun_mk (st := s__law_operations) l__law_operations c__law_operations k__law_operations).binds (ps := ["inputs", "thing", "room"]) fun _ _ _ _ _ _ us hl => match us, hl with | [_, _, _], _ => rfl
  m__law_operations := PySem.W.mg_of X G a__law_operations
  a__law_is := f__law_is
  d__law_is := _
  f__law_is := fun_mk (st := s__law_is) l__law_is c__law_is k__law_is
  b__law_is := (fun_mk (st := s__law_is) l__law_is c__law_is k__law_is).binds (ps := ["told", "due"]) fun _ _ _ _ _ _ us hl => match us, hl with | [_, _], _ => rfl
  m__law_is := PySem.W.mg_of X G a__law_is
  a__law_told := f__law_told
  d__law_told := _
  f__law_told := fun_mk (st := s__law_told) l__law_told c__law_told k__law_told
  b__law_told := (fun_mk (st := s__law_told) l__law_told c__law_told k__law_told).binds (ps := ["call"]) fun _ _ _ _ _ _ us hl => match us, hl with | [_], _ => rfl
  m__law_told := PySem.W.mg_of X G a__law_told
  a__law_with := f__law_with
  d__law_with := _
  f__law_with := fun_mk (st := s__law_with) l__law_with c__law_with k__law_with
  b__law_with := (fun_mk (st := s__law_with) l__law_with c__law_with k__law_with).binds (ps := ["formula", "path", "made"]) fun _ _ _ _ _ _ us hl => match us, hl with | [_, _, _], _ => rfl
  m__law_with := PySem.W.mg_of X G a__law_with
  a__law_path := f__law_path
  d__law_path := _
  f__law_path := fun_mk (st := s__law_path) l__law_path c__law_path k__law_path
  b__law_path := (fun_mk (st := s__law_path) l__law_path c__law_path k__law_path).binds (ps := ["hand", "formula"]) fun _ _ _ _ _ _ us hl => match us, hl with | [_, _], _ => rfl
  m__law_path := PySem.W.mg_of X G a__law_path
  a__law_deeper := f__law_deeper
  d__law_deeper := _
  f__law_deeper := fun_mk (st := s__law_deeper) l__law_deeper c__law_deeper k__law_deeper
  b__law_deeper := (fun_mk (st := s__law_deeper) l__law_deeper c__law_deeper k__law_deeper).binds (ps := ["formula", "many"]) fun _ _ _ _ _ _ us hl => match us, hl with | [_, _], _ => rfl
  m__law_deeper := PySem.W.mg_of X G a__law_deeper
  a__law_bent := f__law_bent
  d__law_bent := _
  f__law_bent := fun_mk (st := s__law_bent) l__law_bent c__law_bent k__law_bent
  b__law_bent := (fun_mk (st := s__law_bent) l__law_bent c__law_bent k__law_bent).binds (ps := ["hand", "inputs", "formula"]) fun _ _ _ _ _ _ us hl => match us, hl with | [_, _, _], _ => rfl
  m__law_bent := PySem.W.mg_of X G a__law_bent
  a__law_judged_right := f__law_judged_right
  d__law_judged_right := _
  f__law_judged_right := fun_mk (st := s__law_judged_right) l__law_judged_right c__law_judged_right k__law_judged_right
  b__law_judged_right := (fun_mk (st := s__law_judged_right) l__law_judged_right c__law_judged_right k__law_judged_right).binds (ps := ["hand"]) fun _ _ _ _ _ _ us hl => match us, hl with | [_], _ => rfl
  m__law_judged_right := PySem.W.mg_of X G a__law_judged_right
  a_law := f_law
  d_law := _
  f_law := fun_mk (st := s_law) l_law c_law k_law
  b_law := (fun_mk (st := s_law) l_law c_law k_law).binds (ps := ["script"]) fun _ _ _ _ _ _ us hl => match us, hl with | [_], _ => rfl
  m_law := PySem.W.mg_of X G a_law
  a_WAYS := f_WAYS
  m_WAYS := PySem.W.mg_of X G a_WAYS
  r_WAYS := rep_txts (its := [.str "up" t0_WAYS, .str "down" t1_WAYS, .str "cut" t2_WAYS, .str "near" t3_WAYS, .str "far" t4_WAYS]) l_WAYS (.cons ⟨_, rfl⟩ (.cons ⟨_, rfl⟩ (.cons ⟨_, rfl⟩ (.cons ⟨_, rfl⟩ (.cons ⟨_, rfl⟩ .nil))))) (by simp)
  a_WORDS := f_WORDS
  m_WORDS := PySem.W.mg_of X G a_WORDS
  r_WORDS := rep_txts (its := [.str "plus" t0_WORDS, .str "minus" t1_WORDS, .str "times" t2_WORDS, .str "over" t3_WORDS, .str "least" t4_WORDS, .str "greatest" t5_WORDS]) l_WORDS (.cons ⟨_, rfl⟩ (.cons ⟨_, rfl⟩ (.cons ⟨_, rfl⟩ (.cons ⟨_, rfl⟩ (.cons ⟨_, rfl⟩ (.cons ⟨_, rfl⟩ .nil)))))) (by simp)
  m_FARTHEST := ⟨_, PySem.W.mg_of X G a_FARTHEST⟩
  m_MOST_INPUTS := ⟨_, PySem.W.mg_of X G a_MOST_INPUTS⟩
  g_gcd := PySem.W.mg_of X G a_gcd
  z_abs := PySem.W.mg_none_of X G z_abs
  z_all := PySem.W.mg_none_of X G z_all
  z_bool := PySem.W.mg_none_of X G z_bool
  z_divmod := PySem.W.mg_none_of X G z_divmod
  z_int := PySem.W.mg_none_of X G z_int
  z_isinstance := PySem.W.mg_none_of X G z_isinstance
  z_len := PySem.W.mg_none_of X G z_len
  z_list := PySem.W.mg_none_of X G z_list
  z_max := PySem.W.mg_none_of X G z_max
  z_min := PySem.W.mg_none_of X G z_min
  z_range := PySem.W.mg_none_of X G z_range
  z_str := PySem.W.mg_none_of X G z_str
  z_tuple := PySem.W.mg_none_of X G z_tuple
theorem lawAt {l : PySem.W.OpenLaw} {w : World} {fa : Addr} (X : K.In h) (G : h.Ns mainGlobals mg) (hfa : mg "law" = some (.ref fa)) (T : Tx K mg)
    {cF iF cB cN cC fI c : Addr} {odF anF od an : Option Addr} {slF sl : Array (Option Value)} {ocF kVF dcF pmF cdF ctF oc kV dc pm cd ct : Value}
    {nmB qB : Str} {NB : Addr} {bsB bmB : List Value} {snB : List Str} {subB : List Value} {abB : Bool} {colB : Option Bool} {ddB : Option Addr} {k0B k1B k2B k3B k5B : Option Value}
    {nmN qN : Str} {NN : Addr} {bsN bmN : List Value} {snN : List Str} {subN : List Value} {abN : Bool} {colN : Option Bool} {ddN : Option Addr} {k0N k1N k2N k3N k5N : Option Value}
    (e_mF : PySem.W.nsIn K mainGlobals "Format" = some (some (.ref cF)))
    (e_mmF : PySem.W.makesIn K cF = true)
    (e_miF : PySem.W.findIn K (.ref cF) "__init__" = some (some (.ref iF)))
    (e_mfF : PySem.W.isFn K (.ref iF) = true)
    (e_mkF : PySem.W.keepIn K (.ref cF) = true)
    (e_liF : K.lookup iF = some ⟨ocF, odF, .func (PySem.W.fnOf "__init__" "Format.__init__" (defArgs s_initF) (defBody s_initF) (defScope s_initF) .none kVF dcF pmF anF cdF ctF), slF⟩)
    (e_ciF : PySem.W.codeIn K cdF "Format.__init__" = true)
    (e_kiF : PySem.W.keepIn K (.ref iF) = true)
    (e_pgF : PySem.W.plainGet K cF Str.empty = true)
    (e_hdF : PySem.W.hasDictIn K cF = true)
    (e_poF : PySem.W.plainOver K cF = true)
    (e_saF : PySem.W.findIn K (.ref cF) "__setattr__" = some (some (.builtin "object.__setattr__")))
    (e_icF : PySem.W.findIn K (.ref cF) "__class__" = some (some (.builtin "object.__class__")))
    (e_mrF : PySem.W.mroIn K cF (.type "object") = some true)
    (e_nF_bits : PySem.W.findIn K (.ref cF) "bits" = some none)
    (e_nF_low : PySem.W.findIn K (.ref cF) "low" = some none)
    (e_nF_high : PySem.W.findIn K (.ref cF) "high" = some none)
    (e_kF_int : PySem.W.kitOne K (.ref cF) (.type "int") = some false)
    (e_kF_bool : PySem.W.kitOne K (.ref cF) (.type "bool") = some false)
    (e_kF_str : PySem.W.kitOne K (.ref cF) (.type "str") = some false)
    (e_kF_tuple : PySem.W.kitOne K (.ref cF) (.type "tuple") = some false)
    (e_kF_list : PySem.W.kitOne K (.ref cF) (.type "list") = some false)
    (e_kF_dict : PySem.W.kitOne K (.ref cF) (.type "dict") = some false)
    (e_sc : PySem.W.specialIn K (.builtin "object.__class__") "__get__" = some (some (.builtin "getset_descriptor.__get__")))
    (e_tk : PySem.W.takesIn K (.builtin "object.__class__") = some true)
    (e_aC : PySem.W.nsIn K mainGlobals "CraftError" = some (some (.ref cC)))
    (e_aB : PySem.W.nsIn K mainGlobals "Beyond" = some (some (.ref cB)))
    (e_xB : K.lookup cB = some (excClassObj nmB qB cB NB bsB bmB true snB subB abB colB ddB k0B k1B k2B k3B k5B "ValueError.__new__"))
    (e_rB : PySem.HandSPX.refsVE bmB = true)
    (e_saB : PySem.W.findIn K (.ref cB) "__setattr__" = some (some (.builtin "object.__setattr__")))
    (e_exB : PySem.W.subIn K (.ref cB) (.type "BaseException") = some true)
    (e_tyB : PySem.W.typeIn K (.ref cB) = some (.type "type"))
    (e_kCB : PySem.W.keepIn K (.ref cB) = true)
    (e_hgB : PySem.W.findIn K (.ref cB) "__getattribute__" = some (some (.builtin "BaseException.__getattribute__")))
    (e_hkB : PySem.W.findIn K (.ref cB) "__getattr__" = some none)
    (e_hdB : PySem.W.hasDictIn K cB = true)
    (e_haB : PySem.W.findIn K (.ref cB) "__class__" = some (some (.builtin "object.__class__")))
    (e_hmB : PySem.W.mroIn K cB (.type "object") = some true)
    (e_iB : PySem.W.findIn K (.ref cB) "__init__" = some (some (.ref fI)))
    (e_eB : PySem.W.exmOne K (.ref cB) (.ref cC) = some true)
    (e_kVB : PySem.W.kitOne K (.ref cB) (.type "ValueError") = some true)
    (e_aN : PySem.W.nsIn K mainGlobals "Nought" = some (some (.ref cN)))
    (e_xN : K.lookup cN = some (excClassObj nmN qN cN NN bsN bmN true snN subN abN colN ddN k0N k1N k2N k3N k5N "ValueError.__new__"))
    (e_rN : PySem.HandSPX.refsVE bmN = true)
    (e_saN : PySem.W.findIn K (.ref cN) "__setattr__" = some (some (.builtin "object.__setattr__")))
    (e_exN : PySem.W.subIn K (.ref cN) (.type "BaseException") = some true)
    (e_tyN : PySem.W.typeIn K (.ref cN) = some (.type "type"))
    (e_kCN : PySem.W.keepIn K (.ref cN) = true)
    (e_hgN : PySem.W.findIn K (.ref cN) "__getattribute__" = some (some (.builtin "BaseException.__getattribute__")))
    (e_hkN : PySem.W.findIn K (.ref cN) "__getattr__" = some none)
    (e_hdN : PySem.W.hasDictIn K cN = true)
    (e_haN : PySem.W.findIn K (.ref cN) "__class__" = some (some (.builtin "object.__class__")))
    (e_hmN : PySem.W.mroIn K cN (.type "object") = some true)
    (e_iN : PySem.W.findIn K (.ref cN) "__init__" = some (some (.ref fI)))
    (e_eN : PySem.W.exmOne K (.ref cN) (.ref cC) = some true)
    (e_kVN : PySem.W.kitOne K (.ref cN) (.type "ValueError") = some true)
    (e_kBB : PySem.W.kitOne K (.ref cB) (.ref cB) = some true)
    (e_kBN : PySem.W.kitOne K (.ref cB) (.ref cN) = some false)
    (e_kNB : PySem.W.kitOne K (.ref cN) (.ref cB) = some false)
    (e_kNN : PySem.W.kitOne K (.ref cN) (.ref cN) = some true)
    (e_tI : PySem.W.typeIn K (.ref fI) = some (.type "function"))
    (e_lI : K.lookup fI = some ⟨oc, od, .func (PySem.W.fnOf "__init__" "CraftError.__init__" (defArgs s_init) (defBody s_init) (defScope s_init) .none kV dc pm an cd ct), sl⟩)
    (e_cI : PySem.W.codeIn K cd "CraftError.__init__" = true)
    (e_kI : PySem.W.keepIn K (.ref fI) = true)
    (e_zV : PySem.W.nsIn K mainGlobals "ValueError" = some none)
    (e_hc : T.d_law.code = .ref c)
    {Pt : Addr} (hP : h.get? Pt = some { cls := .none, data := .fields #[] }) (nP : K.lookup Pt = none) (C : PySem.W.CodeHd h c Pt) :
    LamX.LawAtS l w K L2.CX0 22 63 "script" mg fa h := by
  have hF : ∀ f ∈ (["bits", "low", "high"] : List Str), NoAttr K cF f := fun f hf => by
    simp only [List.mem_cons, List.not_mem_nil, or_false] at hf
    rcases hf with rfl | rfl | rfl
    · exact e_nF_bits
    · exact e_nF_low
    · exact e_nF_high
  have hK : ∀ n ∈ (["int", "bool", "str", "tuple", "list", "dict"] : List String), PySem.W.kitOne K (.ref cF) (.type n) = some false := fun n hn => by
    simp only [List.mem_cons, List.not_mem_nil, or_false] at hn
    rcases hn with rfl | rfl | rfl | rfl | rfl | rfl
    · exact e_kF_int
    · exact e_kF_bool
    · exact e_kF_str
    · exact e_kF_tuple
    · exact e_kF_list
    · exact e_kF_dict
  letI : Cl5 := ⟨K, cF, cB, cN, ⟨e_pgF, e_hdF, e_poF, e_saF⟩, hF, ⟨⟨e_pgF, e_hdF, e_poF, e_saF⟩, e_icF, e_sc, e_tk, e_mrF⟩, hK⟩
  let E : Ey (T : Tx Cl5.K mg) := {
    m_Beyond := PySem.W.mg_of X G e_aB
    o_Beyond := ⟨⟨nmB, qB, NB, bsB, bmB, snB, subB, abB, colB, ddB, k0B, k1B, k2B, k3B, k5B, e_xB, e_rB⟩, e_saB, e_exB, e_tyB, e_kCB⟩
    x_Beyond := ⟨e_hgB, e_hkB, e_exB, e_hdB, e_haB, e_sc, e_tk, e_hmB⟩
    m_Nought := PySem.W.mg_of X G e_aN
    o_Nought := ⟨⟨nmN, qN, NN, bsN, bmN, snN, subN, abN, colN, ddN, k0N, k1N, k2N, k3N, k5N, e_xN, e_rN⟩, e_saN, e_exN, e_tyN, e_kCN⟩
    x_Nought := ⟨e_hgN, e_hkN, e_exN, e_hdN, e_haN, e_sc, e_tk, e_hmN⟩
    cC := cC
    mC := PySem.W.mg_of X G e_aC
    fI := fI
    dI := _
    i_Beyond := e_iB
    i_Nought := e_iN
    ti := e_tI
    f_I := fun_mk (st := s_init) e_lI e_cI e_kI
    b_err := (fun_mk (st := s_init) e_lI e_cI e_kI).binds (ps := ["self"]) fun _ _ _ _ _ _ us hl => match us, hl with | [_], _ => rfl
    e_B := e_eB
    e_N := e_eN
    kBB := e_kBB
    kBN := e_kBN
    kNB := e_kNB
    kNN := e_kNN
    kBV := e_kVB
    kNV := e_kVN
    zV := PySem.W.mg_none_of X G e_zV
    c := c
    hc := e_hc
    m_Format := PySem.W.mg_of X G e_mF
    aF := iF
    dF := _
    mk_Format := ⟨e_mmF, e_miF, e_mfF, e_mkF⟩
    f_F := fun_mk (st := s_initF) e_liF e_ciF e_kiF
    b_Format := (fun_mk (st := s_initF) e_liF e_ciF e_kiF).binds (ps := ["self", "bits", "low", "high"]) fun _ _ _ _ _ _ us hl => match us, hl with | [_, _, _, _], _ => rfl
  }
  exact lawE hfa T E hP nP C
end
end Lk05
open PySem PySem.W PyProof.Rows
set_option maxHeartbeats 0 in
theorem PySem.Challenge.cw_steadycraft_k05_whole_formulas_judged_an_holds : PySem.Challenge.rw_steadycraft_k05_whole_formulas_judged_an.Holds := by
  w_on; o_law; k_head; (case hw => w_witness2)
  k_fill
  refine LamX.walk_ofTs (l := PySem.Challenge.rw_steadycraft_k05_whole_formulas_judged_an) (n := 63) (k := 22) (x := "script") (CX := fun _ => L2.CX0) rfl (by decide) rfl ⟨rfl, by decide, by decide⟩ (fun w h Y => PySem.W.km_in_of Y) ?F (fun _ _ _ _ _ h => h)
  case F =>
    intro w mg fa h Y KX G hmg
    have hT8 := PySem.W.km_tabs_of Y
    refine' Lk05.lawAt KX G hmg (Lk05.mkT KX G ?a_FARTHEST ?a_MOST_INPUTS ?a_gcd ?a_is_integer ?l_is_integer ?c_is_integer ?k_is_integer ?a_is_between ?l_is_between ?c_is_between ?k_is_between ?a_is_tuple ?l_is_tuple ?c_is_tuple ?k_is_tuple ?a_is_pair ?l_is_pair ?c_is_pair ?k_is_pair ?a_is_one_of ?l_is_one_of ?c_is_one_of ?k_is_one_of ?a_is_fraction ?l_is_fraction ?c_is_fraction ?k_is_fraction ?a_is_row ?l_is_row ?c_is_row ?k_is_row ?a_is_way ?l_is_way ?c_is_way ?k_is_way ?a_scaled ?l_scaled ?c_scaled ?k_scaled ?a_parts ?l_parts ?c_parts ?k_parts ?a_whole_near ?l_whole_near ?c_whole_near ?k_whole_near ?a_under ?l_under ?c_under ?k_under ?a_shaped ?l_shaped ?c_shaped ?k_shaped ?a_stepped ?l_stepped ?c_stepped ?k_stepped ?a_one_more ?l_one_more ?c_one_more ?k_one_more ?a_negated ?l_negated ?c_negated ?k_negated ?a_goes_outward ?l_goes_outward ?c_goes_outward ?k_goes_outward ?a_settled ?l_settled ?c_settled ?k_settled ?a_exact ?l_exact ?c_exact ?k_exact ?a_worked ?l_worked ?c_worked ?k_worked ?a_is_number_told ?l_is_number_told ?c_is_number_told ?k_is_number_told ?a_is_leaf ?l_is_leaf ?c_is_leaf ?k_is_leaf ?a_operations ?l_operations ?c_operations ?k_operations ?a_is_formula ?l_is_formula ?c_is_formula ?k_is_formula ?a_fraction_of ?l_fraction_of ?c_fraction_of ?k_fraction_of ?a_result ?l_result ?c_result ?k_result ?a_whole_result ?l_whole_result ?c_whole_result ?k_whole_result ?a_check_run ?l_check_run ?c_check_run ?k_check_run ?a_run ?l_run ?c_run ?k_run ?a_whole_of ?l_whole_of ?c_whole_of ?k_whole_of ?a__law_hand ?l__law_hand ?c__law_hand ?k__law_hand ?a__law_draw ?l__law_draw ?c__law_draw ?k__law_draw ?a__law_any ?l__law_any ?c__law_any ?k__law_any ?a__law_is_int ?l__law_is_int ?c__law_is_int ?k__law_is_int ?a__law_flag ?l__law_flag ?c__law_flag ?k__law_flag ?a__law_deep ?l__law_deep ?c__law_deep ?k__law_deep ?a__law_low ?l__law_low ?c__law_low ?k__law_low ?a__law_two ?l__law_two ?c__law_two ?k__law_two ?a__law_worth ?l__law_worth ?c__law_worth ?k__law_worth ?a__law_dyad ?l__law_dyad ?c__law_dyad ?k__law_dyad ?a__law_beside ?l__law_beside ?c__law_beside ?k__law_beside ?a__law_minus ?l__law_minus ?c__law_minus ?k__law_minus ?a__law_rounded ?l__law_rounded ?c__law_rounded ?k__law_rounded ?a__law_exact ?l__law_exact ?c__law_exact ?k__law_exact ?a__law_run ?l__law_run ?c__law_run ?k__law_run ?a__law_whole ?l__law_whole ?c__law_whole ?k__law_whole ?a__law_spec ?l__law_spec ?c__law_spec ?k__law_spec ?a__law_tree ?l__law_tree ?c__law_tree ?k__law_tree ?a__law_row ?l__law_row ?c__law_row ?k__law_row ?a__law_is_value ?l__law_is_value ?c__law_is_value ?k__law_is_value ?a__law_operations ?l__law_operations ?c__law_operations ?k__law_operations ?a__law_is ?l__law_is ?c__law_is ?k__law_is ?a__law_told ?l__law_told ?c__law_told ?k__law_told ?a__law_with ?l__law_with ?c__law_with ?k__law_with ?a__law_path ?l__law_path ?c__law_path ?k__law_path ?a__law_deeper ?l__law_deeper ?c__law_deeper ?k__law_deeper ?a__law_bent ?l__law_bent ?c__law_bent ?k__law_bent ?a__law_judged_right ?l__law_judged_right ?c__law_judged_right ?k__law_judged_right ?a_law ?l_law ?c_law ?k_law ?a_WAYS ?l_WAYS ?a_WORDS ?l_WORDS ?z_abs ?z_all ?z_bool ?z_divmod ?z_int ?z_isinstance ?z_len ?z_list ?z_max ?z_min ?z_range ?z_str ?z_tuple) ?e_mF ?e_mmF ?e_miF ?e_mfF ?e_mkF ?e_liF ?e_ciF ?e_kiF ?e_pgF ?e_hdF ?e_poF ?e_saF ?e_icF ?e_mrF ?e_nF_bits ?e_nF_low ?e_nF_high ?e_kF_int ?e_kF_bool ?e_kF_str ?e_kF_tuple ?e_kF_list ?e_kF_dict ?e_sc ?e_tk ?e_aC ?e_aB ?e_xB ?e_rB ?e_saB ?e_exB ?e_tyB ?e_kCB ?e_hgB ?e_hkB ?e_hdB ?e_haB ?e_hmB ?e_iB ?e_eB ?e_kVB ?e_aN ?e_xN ?e_rN ?e_saN ?e_exN ?e_tyN ?e_kCN ?e_hgN ?e_hkN ?e_hdN ?e_haN ?e_hmN ?e_iN ?e_eN ?e_kVN ?e_kBB ?e_kBN ?e_kNB ?e_kNN ?e_tI ?e_lI ?e_cI ?e_kI ?e_zV ?e_hc (hT8 _ (.head _)) ?nP (PySem.W.codeHd_of_K KX ?hd)
    (case a_FARTHEST => k_is); (case a_MOST_INPUTS => k_is); (case a_gcd => k_is); (case a_is_integer => k_is); (case l_is_integer => k_is); (case c_is_integer => k_is); (case k_is_integer => k_is); (case a_is_between => k_is); (case l_is_between => k_is); (case c_is_between => k_is); (case k_is_between => k_is); (case a_is_tuple => k_is); (case l_is_tuple => k_is); (case c_is_tuple => k_is); (case k_is_tuple => k_is); (case a_is_pair => k_is); (case l_is_pair => k_is); (case c_is_pair => k_is); (case k_is_pair => k_is); (case a_is_one_of => k_is); (case l_is_one_of => k_is); (case c_is_one_of => k_is); (case k_is_one_of => k_is); (case a_is_fraction => k_is); (case l_is_fraction => k_is); (case c_is_fraction => k_is); (case k_is_fraction => k_is); (case a_is_row => k_is); (case l_is_row => k_is); (case c_is_row => k_is); (case k_is_row => k_is); (case a_is_way => k_is); (case l_is_way => k_is); (case c_is_way => k_is); (case k_is_way => k_is); (case a_scaled => k_is); (case l_scaled => k_is); (case c_scaled => k_is); (case k_scaled => k_is); (case a_parts => k_is); (case l_parts => k_is); (case c_parts => k_is); (case k_parts => k_is); (case a_whole_near => k_is); (case l_whole_near => k_is); (case c_whole_near => k_is); (case k_whole_near => k_is); (case a_under => k_is); (case l_under => k_is); (case c_under => k_is); (case k_under => k_is); (case a_shaped => k_is); (case l_shaped => k_is); (case c_shaped => k_is); (case k_shaped => k_is); (case a_stepped => k_is); (case l_stepped => k_is); (case c_stepped => k_is); (case k_stepped => k_is); (case a_one_more => k_is); (case l_one_more => k_is); (case c_one_more => k_is); (case k_one_more => k_is); (case a_negated => k_is); (case l_negated => k_is); (case c_negated => k_is); (case k_negated => k_is); (case a_goes_outward => k_is); (case l_goes_outward => k_is); (case c_goes_outward => k_is); (case k_goes_outward => k_is); (case a_settled => k_is); (case l_settled => k_is); (case c_settled => k_is); (case k_settled => k_is); (case a_exact => k_is); (case l_exact => k_is); (case c_exact => k_is); (case k_exact => k_is); (case a_worked => k_is); (case l_worked => k_is); (case c_worked => k_is); (case k_worked => k_is); (case a_is_number_told => k_is); (case l_is_number_told => k_is); (case c_is_number_told => k_is); (case k_is_number_told => k_is); (case a_is_leaf => k_is); (case l_is_leaf => k_is); (case c_is_leaf => k_is); (case k_is_leaf => k_is); (case a_operations => k_is); (case l_operations => k_is); (case c_operations => k_is); (case k_operations => k_is); (case a_is_formula => k_is); (case l_is_formula => k_is); (case c_is_formula => k_is); (case k_is_formula => k_is); (case a_fraction_of => k_is); (case l_fraction_of => k_is); (case c_fraction_of => k_is); (case k_fraction_of => k_is); (case a_result => k_is); (case l_result => k_is); (case c_result => k_is); (case k_result => k_is); (case a_whole_result => k_is); (case l_whole_result => k_is); (case c_whole_result => k_is); (case k_whole_result => k_is); (case a_check_run => k_is); (case l_check_run => k_is); (case c_check_run => k_is); (case k_check_run => k_is); (case a_run => k_is); (case l_run => k_is); (case c_run => k_is); (case k_run => k_is); (case a_whole_of => k_is); (case l_whole_of => k_is); (case c_whole_of => k_is); (case k_whole_of => k_is); (case a__law_hand => k_is); (case l__law_hand => k_is); (case c__law_hand => k_is); (case k__law_hand => k_is); (case a__law_draw => k_is); (case l__law_draw => k_is); (case c__law_draw => k_is); (case k__law_draw => k_is); (case a__law_any => k_is); (case l__law_any => k_is); (case c__law_any => k_is); (case k__law_any => k_is); (case a__law_is_int => k_is); (case l__law_is_int => k_is); (case c__law_is_int => k_is); (case k__law_is_int => k_is); (case a__law_flag => k_is); (case l__law_flag => k_is); (case c__law_flag => k_is); (case k__law_flag => k_is); (case a__law_deep => k_is); (case l__law_deep => k_is); (case c__law_deep => k_is); (case k__law_deep => k_is); (case a__law_low => k_is); (case l__law_low => k_is); (case c__law_low => k_is); (case k__law_low => k_is); (case a__law_two => k_is); (case l__law_two => k_is); (case c__law_two => k_is); (case k__law_two => k_is); (case a__law_worth => k_is); (case l__law_worth => k_is); (case c__law_worth => k_is); (case k__law_worth => k_is); (case a__law_dyad => k_is); (case l__law_dyad => k_is); (case c__law_dyad => k_is); (case k__law_dyad => k_is); (case a__law_beside => k_is); (case l__law_beside => k_is); (case c__law_beside => k_is); (case k__law_beside => k_is); (case a__law_minus => k_is); (case l__law_minus => k_is); (case c__law_minus => k_is); (case k__law_minus => k_is); (case a__law_rounded => k_is); (case l__law_rounded => k_is); (case c__law_rounded => k_is); (case k__law_rounded => k_is); (case a__law_exact => k_is); (case l__law_exact => k_is); (case c__law_exact => k_is); (case k__law_exact => k_is); (case a__law_run => k_is); (case l__law_run => k_is); (case c__law_run => k_is); (case k__law_run => k_is); (case a__law_whole => k_is); (case l__law_whole => k_is); (case c__law_whole => k_is); (case k__law_whole => k_is); (case a__law_spec => k_is); (case l__law_spec => k_is); (case c__law_spec => k_is); (case k__law_spec => k_is); (case a__law_tree => k_is); (case l__law_tree => k_is); (case c__law_tree => k_is); (case k__law_tree => k_is); (case a__law_row => k_is); (case l__law_row => k_is); (case c__law_row => k_is); (case k__law_row => k_is); (case a__law_is_value => k_is); (case l__law_is_value => k_is); (case c__law_is_value => k_is); (case k__law_is_value => k_is); (case a__law_operations => k_is); (case l__law_operations => k_is); (case c__law_operations => k_is); (case k__law_operations => k_is); (case a__law_is => k_is); (case l__law_is => k_is); (case c__law_is => k_is); (case k__law_is => k_is); (case a__law_told => k_is); (case l__law_told => k_is); (case c__law_told => k_is); (case k__law_told => k_is); (case a__law_with => k_is); (case l__law_with => k_is); (case c__law_with => k_is); (case k__law_with => k_is); (case a__law_path => k_is); (case l__law_path => k_is); (case c__law_path => k_is); (case k__law_path => k_is); (case a__law_deeper => k_is); (case l__law_deeper => k_is); (case c__law_deeper => k_is); (case k__law_deeper => k_is); (case a__law_bent => k_is); (case l__law_bent => k_is); (case c__law_bent => k_is); (case k__law_bent => k_is); (case a__law_judged_right => k_is); (case l__law_judged_right => k_is); (case c__law_judged_right => k_is); (case k__law_judged_right => k_is); (case a_law => k_is); (case l_law => k_is); (case c_law => k_is); (case k_law => k_is); (case a_WAYS => k_is); (case l_WAYS => k_is); (case a_WORDS => k_is); (case l_WORDS => k_is); (case z_abs => k_is); (case z_all => k_is); (case z_bool => k_is); (case z_divmod => k_is); (case z_int => k_is); (case z_isinstance => k_is); (case z_len => k_is); (case z_list => k_is); (case z_max => k_is); (case z_min => k_is); (case z_range => k_is); (case z_str => k_is); (case z_tuple => k_is)
    (case e_mF => first | k_is | rfl); (case e_mmF => first | k_is | rfl); (case e_miF => first | k_is | rfl); (case e_mfF => first | k_is | rfl); (case e_mkF => first | k_is | rfl); (case e_liF => first | k_is | rfl); (case e_ciF => first | k_is | rfl); (case e_kiF => first | k_is | rfl); (case e_pgF => first | k_is | rfl); (case e_hdF => first | k_is | rfl); (case e_poF => first | k_is | rfl); (case e_saF => first | k_is | rfl); (case e_icF => first | k_is | rfl); (case e_mrF => first | k_is | rfl); (case e_nF_bits => first | k_is | rfl); (case e_nF_low => first | k_is | rfl); (case e_nF_high => first | k_is | rfl); (case e_kF_int => first | k_is | rfl); (case e_kF_bool => first | k_is | rfl); (case e_kF_str => first | k_is | rfl); (case e_kF_tuple => first | k_is | rfl); (case e_kF_list => first | k_is | rfl); (case e_kF_dict => first | k_is | rfl); (case e_sc => first | k_is | rfl); (case e_tk => first | k_is | rfl); (case e_aC => first | k_is | rfl); (case e_aB => first | k_is | rfl); (case e_xB => first | k_is | rfl); (case e_rB => first | rfl | decide +kernel | k_is); (case e_saB => first | k_is | rfl); (case e_exB => first | k_is | rfl); (case e_tyB => first | k_is | rfl); (case e_kCB => first | k_is | rfl); (case e_hgB => first | k_is | rfl); (case e_hkB => first | k_is | rfl); (case e_hdB => first | k_is | rfl); (case e_haB => first | k_is | rfl); (case e_hmB => first | k_is | rfl); (case e_iB => first | k_is | rfl); (case e_eB => first | k_is | rfl); (case e_kVB => first | k_is | rfl); (case e_aN => first | k_is | rfl); (case e_xN => first | k_is | rfl); (case e_rN => first | rfl | decide +kernel | k_is); (case e_saN => first | k_is | rfl); (case e_exN => first | k_is | rfl); (case e_tyN => first | k_is | rfl); (case e_kCN => first | k_is | rfl); (case e_hgN => first | k_is | rfl); (case e_hkN => first | k_is | rfl); (case e_hdN => first | k_is | rfl); (case e_haN => first | k_is | rfl); (case e_hmN => first | k_is | rfl); (case e_iN => first | k_is | rfl); (case e_eN => first | k_is | rfl); (case e_kVN => first | k_is | rfl); (case e_kBB => first | k_is | rfl); (case e_kBN => first | k_is | rfl); (case e_kNB => first | k_is | rfl); (case e_kNN => first | k_is | rfl); (case e_tI => first | k_is | rfl); (case e_lI => first | k_is | rfl); (case e_cI => first | k_is | rfl); (case e_kI => first | k_is | rfl); (case e_zV => first | k_is | rfl); (case e_hc => rfl)
    (case nP => first | rfl | k_is); (case hd => first | kernel_rfl | k_is)
