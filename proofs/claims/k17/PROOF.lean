import PyProof.Rows.All
import Wide.All
import OpenK.AllK
import Wide.FinOn
import HandS.ForMost
import HandS.Zip
import HandS.TupAny
import HandS.IsInst
import HandS.Walk
import HandS.Conv
import HandS.Lambda
import HandS.WordsExc
import HandS.TupMul
import HandS.Style
import KE.GoesMore
import KE.GoesEnum
import HandS.ExcInit
import HandS.ExcIs
import HandS.ExcOwn
import KE.KRevSl
import HandS.Dict
import PyProof.ReprBulk
import PyProof.FitsInt
import HandS.WordsDict
import PyProof.P3Eq
import HandS.EndBits
import PySem.Challenge.RW_steadycraft_k17_whole_wishes_judged_and
set_option Elab.async false
set_option linter.all false
set_option maxRecDepth 100000
set_option maxHeartbeats 4000000
/-! A layer of plain data over the hand layer: values as trees (D), lists that one def may still change by their addresses (OH); the readings speak of no heap. -/
namespace SC
open PySem PySem.Spec PyProof.Rows L2

/-! ### data -/
inductive D where
  | non | bl (b : Bool) | int (i : Int) | str (x : Str) | ty (n : String)
  | tup (xs : List D) | lst (xs : List D) | own (a : Addr)
  /-- a list that is handed in -/
  | fz (xs : List D)
  /-- a dict without entries -/
  | dct
  /-- an object of the class at C: the names of its fields, what they hold -/
  | obj (C : Addr) (ns : List Str) (fs : List D)

abbrev OH := Addr → Option (List D)
abbrev DV := List (Option D)
def oset (O : OH) (p : Addr) (ds : List D) : OH := fun b => if b = p then some ds else O b
def odel (O : OH) (p : Addr) : OH := fun b => if b = p then none else O b
theorem oset_same {O : OH} {p : Addr} {ds : List D} : oset O p ds p = some ds := if_pos rfl
theorem oset_ne {O : OH} {p b : Addr} {ds : List D} (h : b ≠ p) : oset O p ds b = O b := if_neg h
theorem oset_oset {O : OH} {p : Addr} {ds es : List D} : oset (oset O p ds) p es = oset O p es := by
  funext b; unfold oset; split <;> rfl

mutual
inductive Rep (K : PySem.W.Frag) (F : Hp) : V → D → Prop
  | non : Rep K F .non .non
  | bl (b : Bool) : Rep K F (.bl b) (.bl b)
  | int (i : Int) : Rep K F (.int i) (.int i)
  | str (x : Str) : Rep K F (.str x) (.str x)
  | ty (n : String) : Rep K F (.ty n) (.ty n)
  | tup {a : Addr} {xs : List V} {ds : List D} (h : SqT K F a xs) (r : Reps K F xs ds) : Rep K F (.ref a) (.tup ds)
  | lst {a : Addr} {xs : List V} {ds : List D} (h : F a = some (.lst xs)) (r : Reps K F xs ds) : Rep K F (.ref a) (.lst ds)
  | fz {a : Addr} {xs : List V} {ds : List D} (h : SqL K F a xs) (r : Reps K F xs ds) : Rep K F (.ref a) (.fz ds)
  | own (a : Addr) : Rep K F (.ref a) (.own a)
  | dct {a : Addr} (h : F a = some (.dK [])) : Rep K F (.ref a) .dct
  | obj {a C dx : Addr} {ns : List Str} {xs : List V} {ds : List D} (h : F a = some (.ins C dx (ns.zip xs))) (r : Reps K F xs ds) : Rep K F (.ref a) (.obj C ns ds)
inductive Reps (K : PySem.W.Frag) (F : Hp) : List V → List D → Prop
  | nil : Reps K F [] []
  | cons {v : V} {vs : List V} {d : D} {ds : List D} (h : Rep K F v d) (r : Reps K F vs ds) : Reps K F (v :: vs) (d :: ds)
end
theorem Same.seqT {K : PySem.W.Frag} {H H' : Hp} {a : Addr} {xs : List V} (e : Same H H') (h : SqT K H a xs) : SqT K H' a xs := by
  rcases h with (h | ⟨o, h⟩) | h
  · exact .inl (.inl (e _ _ h))
  · exact .inl (.inr ⟨o, e _ _ h⟩)
  · exact .inr h
mutual
theorem Rep.mono {K : PySem.W.Frag} {F F' : Hp} (e : Same F F') : ∀ {v : V} {d : D}, Rep K F v d → Rep K F' v d
  | _, _, .non => .non
  | _, _, .bl b => .bl b
  | _, _, .int i => .int i
  | _, _, .str x => .str x
  | _, _, .ty n => .ty n
  | _, _, .tup h r => .tup (Same.seqT e h) (Reps.mono e r)
  | _, _, .lst h r => .lst (e _ _ h) (Reps.mono e r)
  | _, _, .fz h r => .fz (e.seq h) (Reps.mono e r)
  | _, _, .own a => .own a
  | _, _, .dct h => .dct (e _ _ h)
  | _, _, .obj h r => .obj (e _ _ h) (Reps.mono e r)
theorem Reps.mono {K : PySem.W.Frag} {F F' : Hp} (e : Same F F') : ∀ {vs : List V} {ds : List D}, Reps K F vs ds → Reps K F' vs ds
  | _, _, .nil => .nil
  | _, _, .cons h r => .cons (Rep.mono e h) (Reps.mono e r)
end
section
variable {K : PySem.W.Frag} {F F' : Hp}
theorem Reps.length : ∀ {vs : List V} {ds : List D}, Reps K F vs ds → vs.length = ds.length
  | _, _, .nil => rfl
  | _, _, .cons _ r => congrArg Nat.succ (Reps.length r)
theorem Reps.get : ∀ {vs : List V} {ds : List D} {i : Nat} {d : D}, Reps K F vs ds → ds[i]? = some d → ∃ v, vs[i]? = some v ∧ Rep K F v d
  | _, _, _, _, .nil, e => by simp at e
  | _, _, 0, _, .cons h _, e => by simp at e; subst e; exact ⟨_, rfl, h⟩
  | _, _, i + 1, d, .cons _ r, e => by
    obtain ⟨u, h1, h2⟩ := Reps.get (i := i) (d := d) r (by simpa using e)
    exact ⟨u, by simpa using h1, h2⟩
theorem Reps.getV : ∀ {vs : List V} {ds : List D} {i : Nat} {v : V}, Reps K F vs ds → vs[i]? = some v → ∃ d, ds[i]? = some d ∧ Rep K F v d
  | _, _, _, _, .nil, e => by simp at e
  | _, _, 0, _, .cons h _, e => by simp at e; subst e; exact ⟨_, rfl, h⟩
  | _, _, i + 1, d, .cons _ r, e => by
    obtain ⟨u, h1, h2⟩ := Reps.getV (i := i) (v := d) r (by simpa using e)
    exact ⟨u, by simpa using h1, h2⟩
theorem Reps.append : ∀ {vs ws : List V} {ds es : List D}, Reps K F vs ds → Reps K F ws es → Reps K F (vs ++ ws) (ds ++ es)
  | _, _, _, _, .nil, s => s
  | _, _, _, _, .cons h r, s => .cons h (Reps.append r s)
theorem Reps.drop : ∀ {vs : List V} {ds : List D} (n : Nat), Reps K F vs ds → Reps K F (vs.drop n) (ds.drop n)
  | _, _, 0, r => r
  | _, _, _ + 1, .nil => .nil
  | _, _, n + 1, .cons _ r => Reps.drop n r
theorem Reps.take : ∀ {vs : List V} {ds : List D} (n : Nat), Reps K F vs ds → Reps K F (vs.take n) (ds.take n)
  | _, _, 0, _ => .nil
  | _, _, _ + 1, .nil => .nil
  | _, _, n + 1, .cons h r => .cons h (Reps.take n r)
theorem Reps.set : ∀ {vs : List V} {ds : List D} {v : V} {d : D} (n : Nat), Rep K F v d → Reps K F vs ds → Reps K F (vs.set n v) (ds.set n d)
  | _, _, _, _, _, _, .nil => .nil
  | _, _, _, _, 0, q, .cons _ r => .cons q r
  | _, _, _, _, n + 1, q, .cons h r => .cons h (Reps.set n q r)
theorem Reps.atI {vs : List V} {ds : List D} {i : Int} {d : D} (r : Reps K F vs ds) (e : atI ds i = some d) : ∃ v, atI vs i = some v ∧ Rep K F v d := by
  unfold L2.atI at e ⊢
  rw [r.length]
  cases h : ixN ds.length i with
  | none => rw [h] at e; cases e
  | some j =>
    rw [h] at e
    exact r.get (i := j) e
def cutA {α : Type} (xs : List α) (lo hi : Option Int) : List α := (xs.drop (HT.sIx xs.length 0 lo)).take (HT.sIx xs.length xs.length hi - HT.sIx xs.length 0 lo)
theorem Reps.cut {vs : List V} {ds : List D} (lo hi : Option Int) (r : Reps K F vs ds) : Reps K F (cutV vs lo hi) (cutA ds lo hi) := by
  unfold cutV cutA
  rw [r.length]
  exact (r.drop _).take _

inductive ERep (K : PySem.W.Frag) (F : Hp) : L2.St → DV → Prop
  | nil : ERep K F [] []
  | none {s : Option V} {σ : L2.St} {e : DV} (r : ERep K F σ e) : ERep K F (s :: σ) (none :: e)
  | some {v : V} {d : D} {σ : L2.St} {e : DV} (h : Rep K F v d) (r : ERep K F σ e) : ERep K F (some v :: σ) (some d :: e)
theorem ERep.mono (m : Same F F') : ∀ {σ : L2.St} {e : DV}, ERep K F σ e → ERep K F' σ e
  | _, _, .nil => .nil
  | _, _, .none r => .none (ERep.mono m r)
  | _, _, .some h r => .some (h.mono m) (ERep.mono m r)
theorem ERep.length : ∀ {σ : L2.St} {e : DV}, ERep K F σ e → σ.length = e.length
  | _, _, .nil => rfl
  | _, _, .none r => congrArg Nat.succ (ERep.length r)
  | _, _, .some _ r => congrArg Nat.succ (ERep.length r)
theorem ERep.get : ∀ {σ : L2.St} {e : DV} {i : Nat} {d : D}, ERep K F σ e → e[i]? = Option.some (Option.some d) → ∃ v, σ[i]? = Option.some (Option.some v) ∧ Rep K F v d
  | _, _, _, _, .nil, q => by simp at q
  | _, _, 0, _, .none _, q => by simp at q
  | _, _, 0, _, .some h _, q => by simp at q; subst q; exact ⟨_, rfl, h⟩
  | _, _, i + 1, d, .none r, q => by
    obtain ⟨u, h1, h2⟩ := ERep.get (i := i) (d := d) r (by simpa using q)
    exact ⟨u, by simpa using h1, h2⟩
  | _, _, i + 1, d, .some _ r, q => by
    obtain ⟨u, h1, h2⟩ := ERep.get (i := i) (d := d) r (by simpa using q)
    exact ⟨u, by simpa using h1, h2⟩
theorem ERep.set {v : V} {d : D} (q : Rep K F v d) : ∀ {σ : L2.St} {e : DV} (i : Nat), ERep K F σ e → ERep K F (σ.set i (Option.some v)) (e.set i (Option.some d))
  | _, _, _, .nil => .nil
  | _, _, 0, .none r => .some q r
  | _, _, 0, .some _ r => .some q r
  | _, _, i + 1, .none r => .none (ERep.set q i r)
  | _, _, i + 1, .some h r => .some h (ERep.set q i r)
theorem ERep.clear : ∀ {σ : L2.St} {e : DV} (i : Nat), ERep K F σ e → ERep K F (σ.set i Option.none) (e.set i Option.none)
  | _, _, _, .nil => .nil
  | _, _, 0, .none r => .none r
  | _, _, 0, .some _ r => .none r
  | _, _, i + 1, .none r => .none (ERep.clear i r)
  | _, _, i + 1, .some h r => .some h (ERep.clear i r)
def wipeD (e : DV) : List Nat → DV
  | [] => e
  | v :: vs => (wipeD e vs).set v none
theorem ERep.wipe {σ : L2.St} {e : DV} (r : ERep K F σ e) : ∀ vs : List Nat, ERep K F (L2.wipe σ vs) (wipeD e vs)
  | [] => r
  | v :: vs => (ERep.wipe r vs).clear v
end

/-! ### states and steps -/
/-- the tables of code objects that a law's lambdas use: where they lie, the lambda's name -/
class TabL where
  tabs : List (Addr × Str)
variable [TabL]
theorem tabS_new {H : Hp} {p P : Addr} {q : Str} {o : HO} (t : LamX.TabS H P q) (n : H p = none) : LamX.TabS (upd H p o) P q := t.ext fun b u e => by rw [upd_ne (ne_of_none e n)]; exact e
theorem tabS_at {H : Hp} {P : Addr} {q : Str} (t : LamX.TabS H P q) : ∃ ps, H P = some (.tbl ps) := let ⟨ps, h, _⟩ := t; ⟨ps, h⟩
theorem tabS_lst {H : Hp} {p P : Addr} {q : Str} {o : HO} {xs : List V} (t : LamX.TabS H P q) (n : H p = some (.lst xs)) : LamX.TabS (upd H p o) P q := by
  obtain ⟨ps, h1, h2, h3⟩ := t
  refine ⟨ps, ?_, h2, fun pos cv hc => ?_⟩
  · rw [upd_ne (fun z => by rw [z, n] at h1; cases h1)]; exact h1
  · obtain ⟨c, e1, e2⟩ := h3 pos cv hc
    refine ⟨c, e1, ?_⟩
    rw [upd_ne (fun z => by rw [z, n] at e2; unfold LamX.CodeO at e2; cases e2)]; exact e2
/-- what stays, and what is not looked at stays as it is -/
structure Go0 (F : Hp) (O : OH) (H : Hp) (F' : Hp) (O' : OH) (H' : Hp) : Prop where
  same : Same F F'
  frame : ∀ a o, H a = some o → F a = none → O a = none → (∀ ps, o ≠ .tbl ps) → H' a = some o ∧ F' a = none ∧ O' a = none
theorem Go0.trans {F F1 F2 H H1 H2 : Hp} {O O1 O2 : OH} (a : Go0 F O H F1 O1 H1) (b : Go0 F1 O1 H1 F2 O2 H2) : Go0 F O H F2 O2 H2 :=
  ⟨a.same.trans b.same, fun p o h f q n => let ⟨x, y, z⟩ := a.frame p o h f q n; b.frame p o x y z n⟩
theorem Go0.refl {F H : Hp} {O : OH} : Go0 F O H F O H := ⟨Same.refl _, fun _ _ h f o _ => ⟨h, f, o⟩⟩
/-- where an error is taken: the state there, what is asked of the class, the values of the names and the lists, and what the frame takes -/
class XCx where
  F0 : Hp
  O0 : OH
  H0 : Hp
  ex : Addr → DV → OH → Prop
  W : WX
/-- nothing is taken -/
@[reducible] def XCx.nil : XCx := ⟨fun _ => none, fun _ => none, fun _ => none, fun _ _ _ => False, fun _ _ _ _ => False⟩
variable [XCx]
structure Stt (K : PySem.W.Frag) (F : Hp) (O : OH) (H : Hp) : Prop where
  same : Same F H
  own : ∀ a ds, O a = some ds → F a = none ∧ ∃ xs, H a = some (.lst xs) ∧ Reps K F xs ds
  tabs : ∀ t ∈ TabL.tabs, LamX.TabS H t.1 t.2 ∧ F t.1 = none ∧ O t.1 = none
  anch : Go0 XCx.F0 XCx.O0 XCx.H0 F O H
  nt : ∀ b ps, F b ≠ some (.tbl ps)
theorem nt_upd {F : Hp} {p : Addr} {o : HO} (h : ∀ b ps, F b ≠ some (.tbl ps)) (n : ∀ ps, o ≠ .tbl ps) (b : Addr) (ps : Array Value) : upd F p o b ≠ some (.tbl ps) := fun z => by
  by_cases e : b = p
  · subst e; rw [upd_same] at z; exact n ps (Option.some.inj z)
  · rw [upd_ne e] at z; exact h b ps z
structure Go (K : PySem.W.Frag) (F : Hp) (O : OH) (H : Hp) (F' : Hp) (O' : OH) (H' : Hp) : Prop where
  same : Same F F'
  stt : Stt K F' O' H'
  frame : ∀ a o, H a = some o → F a = none → O a = none → (∀ ps, o ≠ .tbl ps) → H' a = some o ∧ F' a = none ∧ O' a = none
section
variable {K : PySem.W.Frag} {F F1 F2 H H1 H2 : Hp} {O O1 O2 : OH}
theorem Go.of (s : Stt K F O H) (a : Same F F1) (b : Same F1 H1) (c : ∀ a ds, O1 a = some ds → F1 a = none ∧ ∃ xs, H1 a = some (.lst xs) ∧ Reps K F1 xs ds) (d : ∀ t ∈ TabL.tabs, LamX.TabS H1 t.1 t.2 ∧ F1 t.1 = none ∧ O1 t.1 = none)
    (e : ∀ a o, H a = some o → F a = none → O a = none → (∀ ps, o ≠ .tbl ps) → H1 a = some o ∧ F1 a = none ∧ O1 a = none) (f : ∀ b ps, F1 b ≠ some (.tbl ps)) : Go K F O H F1 O1 H1 := ⟨a, ⟨b, c, d, s.anch.trans ⟨a, e⟩, f⟩, e⟩
theorem Stt.go (s : Stt K F O H) : Go K F O H F O H := ⟨Same.refl _, s, fun _ _ h f o _ => ⟨h, f, o⟩⟩
theorem Go.go0 (g : Go K F O H F1 O1 H1) : Go0 F O H F1 O1 H1 := ⟨g.same, g.frame⟩
theorem Go.trans (a : Go K F O H F1 O1 H1) (b : Go K F1 O1 H1 F2 O2 H2) : Go K F O H F2 O2 H2 :=
  ⟨a.same.trans b.same, b.stt, fun p o h f q n => let ⟨x, y, z⟩ := a.frame p o h f q n; b.frame p o x y z n⟩
theorem free_F (s : Stt K F O H) {p : Addr} (n : H p = none) : F p = none := s.same.free n
theorem free_O (s : Stt K F O H) {p : Addr} (n : H p = none) : O p = none := by
  cases q : O p with
  | none => rfl
  | some ds =>
    obtain ⟨_, xs, h, _⟩ := s.own p ds q
    rw [n] at h; cases h
theorem same_upd {p : Addr} {o : HO} (n : H p = none) : Same H (upd H p o) := fun b x e => by rw [upd_ne (ne_of_none e n)]; exact e
theorem tab_ne (s : Stt K F O H) {t : Addr × Str} (ht : t ∈ TabL.tabs) {p : Addr} (n : H p = none) : t.1 ≠ p := by
  obtain ⟨ps, h⟩ := tabS_at (s.tabs t ht).1
  exact ne_of_none h n
/-- a new object, not looked at -/
theorem Stt.junk (s : Stt K F O H) {p : Addr} {o : HO} (n : H p = none) : Go K F O H F O (upd H p o) :=
  Go.of s (Same.refl _) (s.same.trans (same_upd n)) (fun a ds e => let ⟨f, xs, h, r⟩ := s.own a ds e; ⟨f, xs, same_upd n _ _ h, r⟩) (fun t ht => let ⟨a, b, c⟩ := s.tabs t ht; ⟨tabS_new a n, b, c⟩) (fun a o h f q _ => ⟨same_upd n _ _ h, f, q⟩) s.nt
/-- a new object, known -/
theorem Stt.made (s : Stt K F O H) {p : Addr} {o : HO} (n : H p = none) (no : ∀ ps, o ≠ .tbl ps := by intro _ z; cases z) : Go K F O H (upd F p o) O (upd H p o) := by
  have fp := free_F s n
  refine Go.of s (same_upd fp) (fun b x e => ?_) (fun a ds e => ?_) (fun t ht => ?_) (fun a u h f q _ => ?_) (nt_upd s.nt no)
  · by_cases z : b = p
    · subst z; rw [upd_same] at e ⊢; exact e
    · rw [upd_ne z] at e ⊢; exact s.same _ _ e
  · obtain ⟨f, xs, h, r⟩ := s.own a ds e
    have z := ne_of_none h n
    exact ⟨by rw [upd_ne z]; exact f, xs, by rw [upd_ne z]; exact h, r.mono (same_upd fp)⟩
  · obtain ⟨a, b, c⟩ := s.tabs t ht
    exact ⟨tabS_new a n, by rw [upd_ne (tab_ne s ht n)]; exact b, c⟩
  · have z := ne_of_none h n
    exact ⟨by rw [upd_ne z]; exact h, by rw [upd_ne z]; exact f, q⟩
/-- a new list, still to be changed -/
theorem Stt.fresh (s : Stt K F O H) {p : Addr} {xs : List V} {ds : List D} (n : H p = none) (r : Reps K F xs ds) : Go K F O H F (oset O p ds) (upd H p (.lst xs)) := by
  refine Go.of s (Same.refl _) (s.same.trans (same_upd n)) (fun a es e => ?_) (fun t ht => ?_) (fun a u h f q _ => ?_) s.nt
  · by_cases z : a = p
    · subst z; rw [oset_same] at e; cases e; exact ⟨free_F s n, xs, upd_same, r⟩
    · rw [oset_ne z] at e
      obtain ⟨f, ys, h, r'⟩ := s.own a es e
      exact ⟨f, ys, by rw [upd_ne z]; exact h, r'⟩
  · obtain ⟨a, b, c⟩ := s.tabs t ht
    exact ⟨tabS_new a n, b, by rw [oset_ne (tab_ne s ht n)]; exact c⟩
  · have z := ne_of_none h n
    exact ⟨by rw [upd_ne z]; exact h, f, by rw [oset_ne z]; exact q⟩
/-- an own list changed -/
theorem Stt.put (s : Stt K F O H) {p : Addr} {xs : List V} {ds es : List D} (e : O p = some es) (r : Reps K F xs ds) : Go K F O H F (oset O p ds) (upd H p (.lst xs)) := by
  obtain ⟨f0, ys0, h0, _⟩ := s.own p es e
  refine Go.of s (Same.refl _) (fun b x q => ?_) (fun a es' q => ?_) (fun t ht => ?_) (fun a u h f q _ => ?_) s.nt
  · have z : b ≠ p := fun z => by rw [z, f0] at q; cases q
    rw [upd_ne z]; exact s.same _ _ q
  · by_cases z : a = p
    · subst z; rw [oset_same] at q; cases q; exact ⟨f0, xs, upd_same, r⟩
    · rw [oset_ne z] at q
      obtain ⟨f, ys, h, r'⟩ := s.own a es' q
      exact ⟨f, ys, by rw [upd_ne z]; exact h, r'⟩
  · obtain ⟨a, b, c⟩ := s.tabs t ht
    have z : t.1 ≠ p := fun z => by rw [z, e] at c; cases c
    exact ⟨tabS_lst a h0, b, by rw [oset_ne z]; exact c⟩
  · have z : a ≠ p := fun z => by rw [z, e] at q; cases q
    exact ⟨by rw [upd_ne z]; exact h, f, by rw [oset_ne z]; exact q⟩
/-- an own list is changed no more -/
theorem Stt.freeze (s : Stt K F O H) {p : Addr} {xs : List V} {ds : List D} (e : O p = some ds) (hx : H p = some (.lst xs)) : Go K F O H (upd F p (.lst xs)) (odel O p) H := by
  obtain ⟨f0, _, _, _⟩ := s.own p ds e
  refine Go.of s (same_upd f0) (fun b x q => ?_) (fun a es q => ?_) (fun t ht => ?_) (fun a u h f q _ => ?_) (nt_upd s.nt fun _ z => by cases z)
  · by_cases z : b = p
    · subst z; rw [upd_same] at q; cases q; exact hx
    · rw [upd_ne z] at q; exact s.same _ _ q
  · by_cases z : a = p
    · subst z; simp [odel] at q
    · have q' : O a = some es := by simpa [odel, z] using q
      obtain ⟨f, ys, h, r⟩ := s.own a es q'
      exact ⟨by rw [upd_ne z]; exact f, ys, h, r.mono (same_upd f0)⟩
  · obtain ⟨a, b, c⟩ := s.tabs t ht
    have z : t.1 ≠ p := fun z => by rw [z, e] at c; cases c
    exact ⟨a, by rw [upd_ne z]; exact b, by simp [odel, z, c]⟩
  · have z : a ≠ p := fun z => by rw [z, e] at q; cases q
    exact ⟨h, by rw [upd_ne z]; exact f, by simp [odel, z, q]⟩
/-- what was made since and tracked by none is now known -/
theorem Go.known (s : Stt K F1 O1 H1) (g : Go K F1 O1 H1 F O H) {p : Addr} {o : HO} (n : H1 p = none) (f0 : F p = none) (o0 : O p = none) (hx : H p = some o) (nt : ∀ ps, o ≠ .tbl ps := by intro _ z; cases z) : Go K F1 O1 H1 (upd F p o) O H := by
  refine Go.of s (g.same.trans (same_upd f0)) (fun b x q => ?_) (fun a es q => ?_) (fun t ht => ?_) (fun a u h f q ht => ?_) (nt_upd g.stt.nt nt)
  · by_cases z : b = p
    · subst z; rw [upd_same] at q; cases q; exact hx
    · rw [upd_ne z] at q; exact g.stt.same _ _ q
  · obtain ⟨f, ys, h, r⟩ := g.stt.own a es q
    have z : a ≠ p := fun z => by rw [z, o0] at q; cases q
    exact ⟨by rw [upd_ne z]; exact f, ys, h, r.mono (same_upd f0)⟩
  · obtain ⟨a, b, c⟩ := g.stt.tabs t ht
    obtain ⟨ps, h⟩ := tabS_at a
    have z : t.1 ≠ p := fun z => by rw [z, hx] at h; exact nt ps (Option.some.inj h)
    exact ⟨a, by rw [upd_ne z]; exact b, c⟩
  · obtain ⟨q1, q2, q3⟩ := g.frame a u h f q ht
    exact ⟨q1, by rw [upd_ne (ne_of_none h n)]; exact q2, q3⟩
/-- what was made since and tracked by none is an own list now -/
theorem Go.adopt (s : Stt K F1 O1 H1) (g : Go K F1 O1 H1 F O H) {p : Addr} {xs : List V} {ds : List D} (n : H1 p = none) (f0 : F p = none) (o0 : O p = none) (hx : H p = some (.lst xs)) (r : Reps K F xs ds) : Go K F1 O1 H1 F (oset O p ds) H := by
  refine Go.of s g.same g.stt.same (fun a q z => ?_) (fun t ht => ?_) (fun a u h f q ht => ?_) g.stt.nt
  · by_cases w : a = p
    · subst w; rw [oset_same] at z; cases z; exact ⟨f0, xs, hx, r⟩
    · rw [oset_ne w] at z; exact g.stt.own a q z
  · obtain ⟨a, b, c⟩ := g.stt.tabs t ht
    obtain ⟨ps, h⟩ := tabS_at a
    have z : t.1 ≠ p := fun z => by rw [z, hx] at h; cases h
    exact ⟨a, b, by rw [oset_ne z]; exact c⟩
  · obtain ⟨q1, q2, q3⟩ := g.frame a u h f q ht
    exact ⟨q1, q2, by rw [oset_ne (ne_of_none h n)]; exact q3⟩
theorem Stt.rel {p : Addr} {ds : List D} (s : Stt K F O H) (e : O p = some ds) : ∃ xs, H p = some (.lst xs) ∧ Reps K F xs ds := (s.own p ds e).2
end

/-! ### readings -/
abbrev DE := DV → OH → (D → OH → Prop) → Prop
abbrev DA := DV → OH → (List D → OH → Prop) → Prop
abbrev DT := DV → OH → (Bool → OH → Prop) → Prop
structure DEnds where
  nx : DV → OH → Prop
  rt : D → OH → Prop
  bk : DV → OH → Prop := fun _ _ => False
  ct : DV → OH → Prop := fun _ _ => False
abbrev DS := DEnds → DV → OH → Prop
abbrev DSp := List D → OH → (D → OH → Prop) → Prop

def Outs (K : PySem.W.Frag) (F : Hp) (O : OH) (H : Hp) (k : D → OH → Prop) (Q : VK) : Prop := ∀ d O' F' H' v, k d O' → Go K F O H F' O' H' → Rep K F' v d → Q v H'
def OutsA (K : PySem.W.Frag) (F : Hp) (O : OH) (H : Hp) (k : List D → OH → Prop) (Q : List V → Hp → Prop) : Prop := ∀ ds O' F' H' vs, k ds O' → Go K F O H F' O' H' → Reps K F' vs ds → Q vs H'
def OutsT (K : PySem.W.Frag) (F : Hp) (O : OH) (H : Hp) (k : Bool → OH → Prop) (Q : Bool → Hp → Prop) : Prop := ∀ b O' F' H', k b O' → Go K F O H F' O' H' → Q b H'
def OutsS (K : PySem.W.Frag) (F : Hp) (O : OH) (H : Hp) (k : DV → OH → Prop) (Q : L2.St → Hp → Prop) : Prop := ∀ e O' F' H' σ, k e O' → Go K F O H F' O' H' → ERep K F' σ e → Q σ H'
def upE (K : PySem.W.Frag) (t : DE) : TE := fun σ H Q => ∃ F e O k, Stt K F O H ∧ ERep K F σ e ∧ t e O k ∧ Outs K F O H k Q
def upA (K : PySem.W.Frag) (t : DA) : TA := fun σ H Q => ∃ F e O k, Stt K F O H ∧ ERep K F σ e ∧ t e O k ∧ OutsA K F O H k Q
def upT (K : PySem.W.Frag) (t : DT) : TT := fun σ H Q => ∃ F e O k, Stt K F O H ∧ ERep K F σ e ∧ t e O k ∧ OutsT K F O H k Q
structure EndsOk (K : PySem.W.Frag) (F : Hp) (O : OH) (H : Hp) (k : DEnds) (D : Ends) : Prop where
  nx : OutsS K F O H k.nx D.nx
  rt : Outs K F O H k.rt D.rt
  bk : OutsS K F O H k.bk D.bk
  ct : OutsS K F O H k.ct D.ct
def upS (K : PySem.W.Frag) (t : DS) : TS := fun D σ H => ∃ F e O k, Stt K F O H ∧ ERep K F σ e ∧ t k e O ∧ EndsOk K F O H k D
def upSp (K : PySem.W.Frag) (sp : DSp) : Sp := fun vs H Q _ => ∃ F ds O k, Stt K F O H ∧ Reps K F vs ds ∧ sp ds O k ∧ Outs K F O H k Q
section
variable {K : PySem.W.Frag} {F F1 H H1 : Hp} {O O1 : OH}
theorem Outs.after {k : D → OH → Prop} {Q : VK} (o : Outs K F O H k Q) (g : Go K F O H F1 O1 H1) : Outs K F1 O1 H1 k Q := fun d O' F' H' v q s r => o d O' F' H' v q (g.trans s) r
theorem OutsA.after {k : List D → OH → Prop} {Q : List V → Hp → Prop} (o : OutsA K F O H k Q) (g : Go K F O H F1 O1 H1) : OutsA K F1 O1 H1 k Q := fun d O' F' H' v q s r => o d O' F' H' v q (g.trans s) r
theorem OutsT.after {k : Bool → OH → Prop} {Q : Bool → Hp → Prop} (o : OutsT K F O H k Q) (g : Go K F O H F1 O1 H1) : OutsT K F1 O1 H1 k Q := fun d O' F' H' q s => o d O' F' H' q (g.trans s)
theorem OutsS.after {k : DV → OH → Prop} {Q : L2.St → Hp → Prop} (o : OutsS K F O H k Q) (g : Go K F O H F1 O1 H1) : OutsS K F1 O1 H1 k Q := fun d O' F' H' v q s r => o d O' F' H' v q (g.trans s) r
theorem EndsOk.after {k : DEnds} {D : Ends} (o : EndsOk K F O H k D) (g : Go K F O H F1 O1 H1) : EndsOk K F1 O1 H1 k D := ⟨o.nx.after g, o.rt.after g, o.bk.after g, o.ct.after g⟩
theorem OutsS.no {Q : L2.St → Hp → Prop} : OutsS K F O H (fun _ _ => False) Q := fun _ _ _ _ _ h => h.elim
end
structure PD (X : Cx) (x : Expr) (t : DE) : Prop where
  pe : PE X x (upE X.K t)
structure PAD (X : Cx) (xs : List Expr) (t : DA) : Prop where
  pa : PA X xs (upA X.K t)
structure PTD (X : Cx) (x : Expr) (t : DT) : Prop where
  pt : PT X x (upT X.K t)
structure PWD (X : Cx) (x : Expr) (t : DT) : Prop where
  pw : PW X x (upT X.K t)
structure PSD (X : Cx) (st : Stmt) (t : DS) : Prop where
  ps : PS X st (upS X.K t)
structure PBD (X : Cx) (st : List Stmt) (t : DS) : Prop where
  pb : PSs X st (upS X.K t)
theorem PE.weak {X : Cx} {e : Expr} {t u : TE} (p : PE X e t) (h : ∀ σ H Q, u σ H Q → t σ H Q) : PE X e u := ⟨fun pins s σ H Q I q => p.run pins s σ H Q I (h _ _ _ q)⟩
theorem PA.weak {X : Cx} {e : List Expr} {t u : TA} (p : PA X e t) (h : ∀ σ H Q, u σ H Q → t σ H Q) : PA X e u := ⟨fun pos pins s σ H Q I q => p.run pos pins s σ H Q I (h _ _ _ q)⟩
theorem PT.weak {X : Cx} {e : Expr} {t u : TT} (p : PT X e t) (h : ∀ σ H Q, u σ H Q → t σ H Q) : PT X e u := ⟨fun pins s σ H Q I q => p.run pins s σ H Q I (h _ _ _ q)⟩
theorem PW.weak {X : Cx} {e : Expr} {t u : TT} (p : PW X e t) (h : ∀ σ H Q, u σ H Q → t σ H Q) : PW X e u := ⟨fun wh pins s σ H Q I q => p.run wh pins s σ H Q I (h _ _ _ q)⟩
theorem PS.weak {X : Cx} {e : Stmt} {t u : TS} (p : PS X e t) (h : ∀ D σ H, u D σ H → t D σ H) : PS X e u := ⟨fun pins s σ H Q I q => p.run pins s σ H Q I (h _ _ _ q)⟩
theorem PSs.weak {X : Cx} {e : List Stmt} {t u : TS} (p : PSs X e t) (h : ∀ D σ H, u D σ H → t D σ H) : PSs X e u := ⟨fun pins s σ H Q I q => p.run pins s σ H Q I (h _ _ _ q)⟩

/-! ### expressions -/
section
variable {X : Cx} {a b c : Expr} {pos : Pos} {da db dc : DE}
def dVar (i : Nat) : DE := fun e O k => match e[i]? with
  | some (some d) => k d O
  | _ => False
def dC (d : D) : DE := fun _ O k => k d O
theorem pd_v (i : Nat) {x : Str} {pos : Pos} (hN : X.N[i]? = some x := by rfl) (hv : Vis X.env.scope x := by first | exact Or.inl rfl | exact Or.inr (Or.inl rfl) | exact Or.inr (Or.inr rfl)) (hd : (x == ("__debug__" : Str)) = false := by decide)
    (hcd : (x == ("__classdict__" : Str)) = false := by decide) : PD X (.Name x pos) (dVar i) := by
  refine ⟨PE.weak (pe_var hN hv hd hcd) fun σ H Q h => ?_⟩
  obtain ⟨F, e, O, k, st, er, h, o⟩ := h
  unfold dVar at h
  split at h
  · rename_i d q
    obtain ⟨v, hv, r⟩ := er.get q
    exact ⟨v, hv, o d O F H v h st.go r⟩
  · exact h.elim
theorem pd_c {x : Expr} {v : V} {d : D} (h : PE X x (tC v)) (r : ∀ F, Rep X.K F v d) : PD X x (dC d) :=
  ⟨PE.weak h fun σ H Q ⟨F, e, O, k, st, er, h, o⟩ => o d O F H v h st.go (r F)⟩
theorem pd_int {i j pos} : PD X (.Constant (.int i) j pos) (dC (.int i)) := pd_c pe_int fun _ => .int i
theorem pd_bl {i j pos} : PD X (.Constant (.bool i) j pos) (dC (.bl i)) := pd_c pe_bl fun _ => .bl i
theorem pd_non {j pos} : PD X (.Constant .none j pos) (dC .non) := pd_c pe_non fun _ => .non
theorem pd_str {i j pos} : PD X (.Constant (.str i) j pos) (dC (.str i)) := pd_c pe_str fun _ => .str i

/-- by values, on trees -/
abbrev R2D := D → D → OH → (D → OH → Prop) → Prop
def OpD (K : PySem.W.Frag) (r : R2) (rd : R2D) : Prop := ∀ x y a b F O H k Q, Stt K F O H → Rep K F x a → Rep K F y b → rd a b O k → Outs K F O H k Q → r x y H Q
def dOp (rd : R2D) (da db : DE) : DE := fun e O k => da e O fun x O1 => db e O1 fun y O2 => rd x y O2 k
theorem up_op {r : R2} {rd : R2D} (hr : OpD X.K r rd) {σ : L2.St} {H : Hp} {Q : VK} (h : upE X.K (dOp rd da db) σ H Q) : tOp r (upE X.K da) (upE X.K db) σ H Q := by
  obtain ⟨F, e, O, k, st, er, h, o⟩ := h
  exact ⟨F, e, O, _, st, er, h, fun d O1 F1 H1 v h1 g1 r1 => ⟨F1, e, O1, _, g1.stt, er.mono g1.same, h1, fun d2 O2 F2 H2 v2 h2 g2 r2 => hr v v2 d d2 F2 O2 H2 k Q g2.stt (r1.mono g2.same) r2 h2 (o.after (g1.trans g2))⟩⟩
theorem pd_op {op : Operator} {r : R2} {rd : R2D} (ho : OpR X (binaryOp op) r) (hr : OpD X.K r rd) (ha : PD X a da) (hb : PD X b db) : PD X (.BinOp a op b pos) (dOp rd da db) :=
  ⟨PE.weak (pe_op ho ha.pe hb.pe) fun _ _ _ h => up_op hr h⟩
theorem pd_cmp {op : CmpOp} {r : R2} {rd : R2D} (ho : OpR X (compareOp op) r) (hr : OpD X.K r rd) (ha : PD X a da) (hb : PD X b db) (hm : behindInMarks op b = false := by first | exact nomark _ | rfl) : PD X (.Compare a [op] [b] pos) (dOp rd da db) :=
  ⟨PE.weak (pe_cmpR ho ha.pe hb.pe hm) fun _ _ _ h => up_op hr h⟩
theorem pd_ix {r : R2} {rd : R2D} (ho : IxR X r) (hr : OpD X.K r rd) (ha : PD X a da) (hb : PD X b db) (hs : PlainIx b := by exact fun _ _ => rfl) : PD X (.Subscript a b pos) (dOp rd da db) :=
  ⟨PE.weak (pe_ix ho ha.pe hb.pe hs) fun _ _ _ h => up_op hr h⟩
abbrev R1D := D → OH → (D → OH → Prop) → Prop
def UnD (K : PySem.W.Frag) (r : V → Hp → VK → Prop) (rd : R1D) : Prop := ∀ x a F O H k Q, Stt K F O H → Rep K F x a → rd a O k → Outs K F O H k Q → r x H Q
def dUn (rd : R1D) (da : DE) : DE := fun e O k => da e O fun x O1 => rd x O1 k
theorem up_un {r : V → Hp → VK → Prop} {rd : R1D} (hr : UnD X.K r rd) {σ : L2.St} {H : Hp} {Q : VK} (h : upE X.K (dUn rd da) σ H Q) : upE X.K da σ H fun x H1 => r x H1 Q := by
  obtain ⟨F, e, O, k, st, er, h, o⟩ := h
  exact ⟨F, e, O, _, st, er, h, fun d O1 F1 H1 v h1 g1 r1 => hr v d F1 O1 H1 k Q g1.stt r1 h1 (o.after g1)⟩
theorem pd_un {op : UnaryOp} {r : V → Hp → VK → Prop} {rd : R1D} (ho : UnR X (unaryOp op) r) (hr : UnD X.K r rd) (ha : PD X a da) : PD X (.UnaryOp op a pos) (dUn rd da) :=
  ⟨PE.weak (pe_un ho ha.pe) fun _ _ _ h => up_un hr h⟩

def dI (C : Int → Int → Prop) (g : Int → Int → D) : R2D := fun a b O k => match a, b with
  | .int i, .int j => C i j ∧ k (g i j) O
  | _, _ => False
def dI0 (g : Int → Int → D) : R2D := fun a b O k => match a, b with
  | .int i, .int j => k (g i j) O
  | _, _ => False
theorem od_I {K : PySem.W.Frag} {C : Int → Int → Prop} {g : Int → Int → V} {gd : Int → Int → D} (hg : ∀ F i j, Rep K F (g i j) (gd i j)) : OpD K (rI C g) (dI C gd) := by
  intro x y a b F O H k Q st ra rb h o
  unfold dI at h
  split at h
  · rename_i i j
    cases ra; cases rb
    exact ⟨i, j, rfl, rfl, h.1, o _ _ F H _ h.2 st.go (hg F i j)⟩
  · exact h.elim
theorem od_I0 {K : PySem.W.Frag} {g : Int → Int → V} {gd : Int → Int → D} (hg : ∀ F i j, Rep K F (g i j) (gd i j)) : OpD K (rI0 g) (dI0 gd) := by
  intro x y a b F O H k Q st ra rb h o
  unfold dI0 at h
  split at h
  · rename_i i j
    cases ra; cases rb
    exact ⟨i, j, rfl, rfl, o _ _ F H _ h st.go (hg F i j)⟩
  · exact h.elim
theorem od_i0 {K : PySem.W.Frag} {g : Int → Int → Int} : OpD K (rI0 fun i j => .int (g i j)) (dI0 fun i j => .int (g i j)) := od_I0 fun _ _ _ => .int _
theorem od_b0 {K : PySem.W.Frag} {g : Int → Int → Bool} : OpD K (rI0 fun i j => .bl (g i j)) (dI0 fun i j => .bl (g i j)) := od_I0 fun _ _ _ => .bl _
theorem od_i {K : PySem.W.Frag} {C : Int → Int → Prop} {g : Int → Int → Int} : OpD K (rI C fun i j => .int (g i j)) (dI C fun i j => .int (g i j)) := od_I fun _ _ _ => .int _
def dU (g : Int → D) : R1D := fun a O k => match a with
  | .int i => k (g i) O
  | _ => False
theorem ud_I {K : PySem.W.Frag} {g : Int → Int} : UnD K (rU fun i => .int (g i)) (dU fun i => .int (g i)) := by
  intro x a F O H k Q st ra h o
  unfold dU at h
  split at h
  · rename_i i
    cases ra
    exact ⟨i, rfl, o _ _ F H _ h st.go (.int _)⟩
  · exact h.elim
theorem pd_add (ha : PD X a da) (hb : PD X b db) : PD X (.BinOp a .Add b pos) (dOp (dI0 fun i j => .int (i + j)) da db) := pd_op op_add od_i0 ha hb
theorem pd_sub (ha : PD X a da) (hb : PD X b db) : PD X (.BinOp a .Sub b pos) (dOp (dI0 fun i j => .int (i - j)) da db) := pd_op op_sub od_i0 ha hb
theorem pd_mul (ha : PD X a da) (hb : PD X b db) : PD X (.BinOp a .Mult b pos) (dOp (dI CMul fun i j => .int (i * j)) da db) := pd_op op_mul od_i ha hb
theorem pd_mod (ha : PD X a da) (hb : PD X b db) : PD X (.BinOp a .Mod b pos) (dOp (dI (fun _ j => 0 < j) fun i j => .int (i % j)) da db) := pd_op op_mod od_i ha hb
theorem pd_fdiv (ha : PD X a da) (hb : PD X b db) : PD X (.BinOp a .FloorDiv b pos) (dOp (dI CDiv fun i j => .int (i / j)) da db) := pd_op op_fdiv od_i ha hb
theorem pd_pow (ha : PD X a da) (hb : PD X b db) : PD X (.BinOp a .Pow b pos) (dOp (dI CPow fun i j => .int (i ^ j.toNat)) da db) := pd_op op_pow od_i ha hb
theorem pd_neg (ha : PD X a da) : PD X (.UnaryOp .USub a pos) (dUn (dU fun i => .int (-i)) da) := pd_un un_neg ud_I ha
abbrev dLtE (da db : DE) : DE := dOp (dI0 fun i j => .bl (decide (i < j))) da db
theorem pd_lt (ha : PD X a da) (hb : PD X b db) : PD X (.Compare a [.Lt] [b] pos) (dOp (dI0 fun i j => .bl (decide (i < j))) da db) := pd_cmp op_lt od_b0 ha hb
theorem pd_le (ha : PD X a da) (hb : PD X b db) : PD X (.Compare a [.LtE] [b] pos) (dOp (dI0 fun i j => .bl (decide (i ≤ j))) da db) := pd_cmp op_le od_b0 ha hb
theorem pd_gt (ha : PD X a da) (hb : PD X b db) : PD X (.Compare a [.Gt] [b] pos) (dOp (dI0 fun i j => .bl (decide (j < i))) da db) := pd_cmp op_gt od_b0 ha hb
theorem pd_ge (ha : PD X a da) (hb : PD X b db) : PD X (.Compare a [.GtE] [b] pos) (dOp (dI0 fun i j => .bl (decide (j ≤ i))) da db) := pd_cmp op_ge od_b0 ha hb
omit [TabL] [XCx] in
theorem strEq_ex : ∃ f : Str → Str → Bool, ∀ a b, f a b = decide (a = b) := ⟨fun a b => decide (a = b), fun _ _ => rfl⟩
noncomputable def strEq : Str → Str → Bool := Classical.choose strEq_ex
omit [TabL] [XCx] in
theorem strEq_eq (a b : Str) : strEq a b = decide (a = b) := Classical.choose_spec strEq_ex a b
omit [TabL] [XCx] in
theorem strEq_self (a : Str) : strEq a a = true := by rw [strEq_eq]; exact decide_eq_true rfl
/-- == of what is not nested -/
noncomputable def eqS : D → D → Option Bool
  | .int i, .int j => some (decide (i = j))
  | .str i, .str j => some (strEq i j)
  | .bl i, .bl j => some (decide (i = j))
  | .non, .non => some true
  | .non, .int _ => some false
  | .int _, .non => some false
  | .non, .str _ => some false
  | .str _, .non => some false
  | _, _ => none
noncomputable def dEqS (f : Bool → Bool) : R2D := fun a b O k => match eqS a b with
  | some r => k (.bl (f r)) O
  | none => False
theorem eqS_scal {K : PySem.W.Frag} {F : Hp} {x y : V} {a b : D} {r : Bool} (ra : Rep K F x a) (rb : Rep K F y b) (h : eqS a b = some r) : scal x y = true ∧ decide (x = y) = r := by
  unfold eqS at h
  split at h <;> cases h <;> cases ra <;> cases rb <;> refine ⟨rfl, ?_⟩ <;> first | (rw [strEq_eq]; simp; done) | (simp; done)
theorem od_eq {K : PySem.W.Frag} : OpD K rEq (dEqS fun r => r) := by
  intro x y a b F O H k Q st ra rb h o
  unfold dEqS at h
  split at h
  · rename_i r e
    obtain ⟨h1, h2⟩ := eqS_scal ra rb e
    exact ⟨h1, o _ _ F H _ h st.go (by rw [h2]; exact .bl _)⟩
  · exact h.elim
theorem od_ne {K : PySem.W.Frag} : OpD K rNe (dEqS fun r => !r) := by
  intro x y a b F O H k Q st ra rb h o
  unfold dEqS at h
  split at h
  · rename_i r e
    obtain ⟨h1, h2⟩ := eqS_scal ra rb e
    exact ⟨h1, o _ _ F H _ h st.go (by rw [h2]; exact .bl _)⟩
  · exact h.elim
theorem pd_eq (ha : PD X a da) (hb : PD X b db) : PD X (.Compare a [.Eq] [b] pos) (dOp (dEqS fun r => r) da db) := pd_cmp op_eq od_eq ha hb
theorem pd_ne (ha : PD X a da) (hb : PD X b db) : PD X (.Compare a [.NotEq] [b] pos) (dOp (dEqS fun r => !r) da db) := pd_cmp op_ne od_ne ha hb
def isNon : D → Bool
  | .non => true
  | _ => false
theorem isNon_of {K : PySem.W.Frag} {F : Hp} {x : V} {a : D} (ra : Rep K F x a) : decide (x = .non) = isNon a := by
  cases ra <;> simp [isNon]
def dIsN (f : Bool → Bool) : R2D := fun a b O k => match b with
  | .non => k (.bl (f (isNon a))) O
  | _ => False
theorem od_isN {K : PySem.W.Frag} : OpD K (fun x y H Q => y = .non ∧ Q (.bl (decide (x = .non))) H) (dIsN fun r => r) := by
  intro x y a b F O H k Q st ra rb h o
  unfold dIsN at h
  split at h
  · cases rb
    exact ⟨rfl, o _ _ F H _ h st.go (by rw [isNon_of ra]; exact .bl _)⟩
  · exact h.elim
theorem od_notN {K : PySem.W.Frag} : OpD K (fun x y H Q => y = .non ∧ Q (.bl (!decide (x = .non))) H) (dIsN fun r => !r) := by
  intro x y a b F O H k Q st ra rb h o
  unfold dIsN at h
  split at h
  · cases rb
    exact ⟨rfl, o _ _ F H _ h st.go (by rw [isNon_of ra]; exact .bl _)⟩
  · exact h.elim
theorem pd_is (ha : PD X a da) (hb : PD X b db) : PD X (.Compare a [.Is] [b] pos) (dOp (dIsN fun r => r) da db) := pd_cmp op_isN od_isN ha hb
theorem pd_isnot (ha : PD X a da) (hb : PD X b db) : PD X (.Compare a [.IsNot] [b] pos) (dOp (dIsN fun r => !r) da db) := pd_cmp op_notN od_notN ha hb
end
end SC
namespace SC
open PySem PySem.Spec PyProof.Rows L2
variable [TabL] [XCx]
/-! ### tests, and, or, not -/
section
variable {X : Cx} {a b c : Expr} {pos : Pos} {da db dc : DE} {ta tb tc : DT} {rest : List Expr}
def dB (t : DE) : DT := fun e O k => t e O fun d O1 => match d with
  | .bl b => k b O1
  | _ => False
theorem up_tb {t : DE} {σ : L2.St} {H : Hp} {Q : Bool → Hp → Prop} (h : upT X.K (dB t) σ H Q) : upE X.K t σ H fun x H1 => ∃ c, x = .bl c ∧ Q c H1 := by
  obtain ⟨F, e, O, k, st, er, h, o⟩ := h
  refine ⟨F, e, O, _, st, er, h, fun d O1 F1 H1 v h1 g1 r1 => ?_⟩
  try dsimp only at h1
  split at h1
  · cases r1
    exact ⟨_, rfl, o _ O1 F1 H1 h1 g1⟩
  · exact h1.elim
/-- a test that is a value -/
theorem ptd_val (h : PD X a da) (he : ∀ whole, isTrue a X.env whole = (do let v ← whole; standAt a.pos; holding [v] (truthy v)) := by intro _; rfl) : PTD X a (dB da) :=
  ⟨PT.weak (pt_val h.pe he) fun _ _ _ h => up_tb h⟩
theorem ptd_cmp {op : CmpOp} {r : R2} {rd : R2D} (ho : OpR X (compareOp op) r) (hr : OpD X.K r rd) (ha : PD X a da) (hb : PD X b db) (hm : behindInMarks op b = false := by first | exact nomark _ | rfl) : PTD X (.Compare a [op] [b] pos) (dB (dOp rd da db)) :=
  ⟨PT.weak (pt_cmpR ho ha.pe hb.pe hm) fun σ H Q h => up_op hr (up_tb h)⟩
theorem ptd_lt (ha : PD X a da) (hb : PD X b db) : PTD X (.Compare a [.Lt] [b] pos) (dB (dOp (dI0 fun i j => .bl (decide (i < j))) da db)) := ptd_cmp op_lt od_b0 ha hb
theorem ptd_le (ha : PD X a da) (hb : PD X b db) : PTD X (.Compare a [.LtE] [b] pos) (dB (dOp (dI0 fun i j => .bl (decide (i ≤ j))) da db)) := ptd_cmp op_le od_b0 ha hb
theorem ptd_gt (ha : PD X a da) (hb : PD X b db) : PTD X (.Compare a [.Gt] [b] pos) (dB (dOp (dI0 fun i j => .bl (decide (j < i))) da db)) := ptd_cmp op_gt od_b0 ha hb
theorem ptd_ge (ha : PD X a da) (hb : PD X b db) : PTD X (.Compare a [.GtE] [b] pos) (dB (dOp (dI0 fun i j => .bl (decide (j ≤ i))) da db)) := ptd_cmp op_ge od_b0 ha hb
theorem ptd_eq (ha : PD X a da) (hb : PD X b db) : PTD X (.Compare a [.Eq] [b] pos) (dB (dOp (dEqS fun r => r) da db)) := ptd_cmp op_eq od_eq ha hb
theorem ptd_ne (ha : PD X a da) (hb : PD X b db) : PTD X (.Compare a [.NotEq] [b] pos) (dB (dOp (dEqS fun r => !r) da db)) := ptd_cmp op_ne od_ne ha hb
theorem ptd_is (ha : PD X a da) (hb : PD X b db) : PTD X (.Compare a [.Is] [b] pos) (dB (dOp (dIsN fun r => r) da db)) := ptd_cmp op_isN od_isN ha hb
theorem ptd_isnot (ha : PD X a da) (hb : PD X b db) : PTD X (.Compare a [.IsNot] [b] pos) (dB (dOp (dIsN fun r => !r) da db)) := ptd_cmp op_notN od_notN ha hb
def dAnd (t u : DT) : DT := fun e O k => t e O fun b O1 => match b with
  | true => u e O1 k
  | false => k false O1
def dOr (t u : DT) : DT := fun e O k => t e O fun b O1 => match b with
  | true => k true O1
  | false => u e O1 k
def dNot (t : DT) : DT := fun e O k => t e O fun b O1 => k (!b) O1
theorem up_and {σ : L2.St} {H : Hp} {Q : Bool → Hp → Prop} (h : upT X.K (dAnd ta tb) σ H Q) : tAnd (upT X.K ta) (upT X.K tb) σ H Q := by
  obtain ⟨F, e, O, k, st, er, h, o⟩ := h
  refine ⟨F, e, O, _, st, er, h, fun d O1 F1 H1 h1 g1 => ?_⟩
  cases d with
  | true => rw [if_pos rfl]; exact ⟨F1, e, O1, k, g1.stt, er.mono g1.same, h1, o.after g1⟩
  | false => rw [if_neg (by decide)]; exact o _ _ _ _ h1 g1
theorem up_or {σ : L2.St} {H : Hp} {Q : Bool → Hp → Prop} (h : upT X.K (dOr ta tb) σ H Q) : tOr (upT X.K ta) (upT X.K tb) σ H Q := by
  obtain ⟨F, e, O, k, st, er, h, o⟩ := h
  refine ⟨F, e, O, _, st, er, h, fun d O1 F1 H1 h1 g1 => ?_⟩
  cases d with
  | false => rw [if_neg (by decide)]; exact ⟨F1, e, O1, k, g1.stt, er.mono g1.same, h1, o.after g1⟩
  | true => rw [if_pos rfl]; exact o _ _ _ _ h1 g1
theorem pwd_and1 (ha : PTD X a ta) : PWD X (.BoolOp .And [a] pos) ta := ⟨pw_and1 ha.pt⟩
theorem pwd_or1 (ha : PTD X a ta) : PWD X (.BoolOp .Or [a] pos) ta := ⟨pw_or1 ha.pt⟩
theorem pwd_and (ha : PTD X a ta) (hb : PWD X (.BoolOp .And (b :: rest) pos) tb) : PWD X (.BoolOp .And (a :: b :: rest) pos) (dAnd ta tb) := ⟨PW.weak (pw_and ha.pt hb.pw) fun _ _ _ h => up_and h⟩
theorem pwd_or (ha : PTD X a ta) (hb : PWD X (.BoolOp .Or (b :: rest) pos) tb) : PWD X (.BoolOp .Or (a :: b :: rest) pos) (dOr ta tb) := ⟨PW.weak (pw_or ha.pt hb.pw) fun _ _ _ h => up_or h⟩
theorem ptd_w (h : PWD X a ta) : PTD X a ta := ⟨h.pw.pt⟩
theorem ptd_not (ha : PTD X a ta) : PTD X (.UnaryOp .Not a pos) (dNot ta) := by
  refine ⟨PT.weak (pt_not ha.pt) fun σ H Q h => ?_⟩
  obtain ⟨F, e, O, k, st, er, h, o⟩ := h
  exact ⟨F, e, O, _, st, er, h, fun d O1 F1 H1 h1 g1 => o _ _ _ _ h1 g1⟩
/-- and, or of flags, as values -/
def dAndV (t u : DE) : DE := fun e O k => t e O fun d O1 => match d with
  | .bl true => u e O1 k
  | .bl false => k (.bl false) O1
  | _ => False
def dOrV (t u : DE) : DE := fun e O k => t e O fun d O1 => match d with
  | .bl true => k (.bl true) O1
  | .bl false => u e O1 k
  | _ => False
theorem pd_one {op} (h : PD X a da) : PD X (.BoolOp op [a] pos) da := ⟨pe_one h.pe⟩
theorem pd_and (ha : PD X a da) (hb : PD X (.BoolOp .And (b :: rest) pos) db) : PD X (.BoolOp .And (a :: b :: rest) pos) (dAndV da db) := by
  refine ⟨PE.weak (pe_and ha.pe hb.pe) fun σ H Q h => ?_⟩
  obtain ⟨F, e, O, k, st, er, h, o⟩ := h
  refine ⟨F, e, O, _, st, er, h, fun d O1 F1 H1 v h1 g1 r1 => ?_⟩
  try dsimp only at h1
  split at h1
  · cases r1
    exact ⟨true, rfl, by rw [if_pos rfl]; exact ⟨F1, e, O1, k, g1.stt, er.mono g1.same, h1, o.after g1⟩⟩
  · cases r1
    exact ⟨false, rfl, by rw [if_neg (by decide)]; exact o _ _ _ _ _ h1 g1 (.bl _)⟩
  · exact h1.elim
theorem pd_or (ha : PD X a da) (hb : PD X (.BoolOp .Or (b :: rest) pos) db) : PD X (.BoolOp .Or (a :: b :: rest) pos) (dOrV da db) := by
  refine ⟨PE.weak (pe_or ha.pe hb.pe) fun σ H Q h => ?_⟩
  obtain ⟨F, e, O, k, st, er, h, o⟩ := h
  refine ⟨F, e, O, _, st, er, h, fun d O1 F1 H1 v h1 g1 r1 => ?_⟩
  try dsimp only at h1
  split at h1
  · cases r1
    exact ⟨true, rfl, by rw [if_pos rfl]; exact o _ _ _ _ _ h1 g1 (.bl _)⟩
  · cases r1
    exact ⟨false, rfl, by rw [if_neg (by decide)]; exact ⟨F1, e, O1, k, g1.stt, er.mono g1.same, h1, o.after g1⟩⟩
  · exact h1.elim
def dNotV (t : DE) : DE := fun e O k => t e O fun d O1 => match d with
  | .bl b => k (.bl (!b)) O1
  | _ => False
theorem pd_not (ha : PD X a da) : PD X (.UnaryOp .Not a pos) (dNotV da) := by
  refine ⟨PE.weak (pe_not ha.pe) fun σ H Q h => ?_⟩
  obtain ⟨F, e, O, k, st, er, h, o⟩ := h
  refine ⟨F, e, O, _, st, er, h, fun d O1 F1 H1 v h1 g1 r1 => ?_⟩
  try dsimp only at h1
  split at h1
  · cases r1
    exact ⟨_, rfl, o _ _ _ _ _ h1 g1 (.bl _)⟩
  · exact h1.elim
def dIfE (t : DT) (u v : DE) : DE := fun e O k => t e O fun b O1 => match b with
  | true => u e O1 k
  | false => v e O1 k
theorem pd_ifE (hc : PTD X c tc) (ha : PD X a da) (hb : PD X b db) : PD X (.IfExp c a b pos) (dIfE tc da db) := by
  refine ⟨PE.weak (pe_ifExp hc.pt ha.pe hb.pe) fun σ H Q h => ?_⟩
  obtain ⟨F, e, O, k, st, er, h, o⟩ := h
  refine ⟨F, e, O, _, st, er, h, fun d O1 F1 H1 h1 g1 => ?_⟩
  cases d with
  | true => rw [if_pos rfl]; exact ⟨F1, e, O1, k, g1.stt, er.mono g1.same, h1, o.after g1⟩
  | false => rw [if_neg (by decide)]; exact ⟨F1, e, O1, k, g1.stt, er.mono g1.same, h1, o.after g1⟩
/-- a op b op' c -/
def dChain (r r' : R2D) (ta tb tc : DE) : DE := fun e O k => ta e O fun x O1 => tb e O1 fun y O2 => r x y O2 fun z O3 => match z with
  | .bl true => tc e O3 fun w O4 => r' y w O4 k
  | .bl false => k (.bl false) O3
  | _ => False
theorem up_chain {r r' : R2} {rd rd' : R2D} (hr : OpD X.K r rd) (hr' : OpD X.K r' rd') {σ : L2.St} {H : Hp} {Q : VK} (h : upE X.K (dChain rd rd' da db dc) σ H Q) : tChain r r' (upE X.K da) (upE X.K db) (upE X.K dc) σ H Q := by
  obtain ⟨F, e, O, k, st, er, h, o⟩ := h
  refine ⟨F, e, O, _, st, er, h, fun d O1 F1 H1 v h1 g1 r1 => ⟨F1, e, O1, _, g1.stt, er.mono g1.same, h1, fun d2 O2 F2 H2 v2 h2 g2 r2 => hr v v2 d d2 F2 O2 H2 _ _ g2.stt (r1.mono g2.same) r2 h2 fun d3 O3 F3 H3 v3 h3 g3 r3 => ?_⟩⟩
  try dsimp only at h3
  split at h3
  · cases r3
    refine ⟨true, rfl, ?_⟩
    rw [if_pos rfl]
    exact ⟨F3, e, O3, _, g3.stt, er.mono (g1.same.trans (g2.same.trans g3.same)), h3, fun d4 O4 F4 H4 v4 h4 g4 r4 => hr' v2 v4 d2 d4 F4 O4 H4 k Q g4.stt (r2.mono (g3.same.trans g4.same)) r4 h4 (o.after (g1.trans (g2.trans (g3.trans g4))))⟩
  · cases r3
    refine ⟨false, rfl, ?_⟩
    rw [if_neg (by decide)]
    exact o _ _ _ _ _ h3 (g1.trans (g2.trans g3)) (.bl _)
  · exact h3.elim
theorem pd_chain {op op' : CmpOp} {r r' : R2} {rd rd' : R2D} (ho : OpR X (compareOp op) r) (ho' : OpR X (compareOp op') r') (hr : OpD X.K r rd) (hr' : OpD X.K r' rd') (ha : PD X a da) (hb : PD X b db) (hc : PD X c dc)
    (hm : lastMarks [op, op'] [b, c] = false := by with_unfolding_all rfl) : PD X (.Compare a [op, op'] [b, c] pos) (dChain rd rd' da db dc) :=
  ⟨PE.weak (pe_chain ho ho' ha.pe hb.pe hc.pe hm) fun _ _ _ h => up_chain hr hr' h⟩
theorem ptd_chain {op op' : CmpOp} {r r' : R2} {rd rd' : R2D} (ho : OpR X (compareOp op) r) (ho' : OpR X (compareOp op') r') (hr : OpD X.K r rd) (hr' : OpD X.K r' rd') (ha : PD X a da) (hb : PD X b db) (hc : PD X c dc)
    (hm : lastMarks [op, op'] [b, c] = false := by with_unfolding_all rfl) : PTD X (.Compare a [op, op'] [b, c] pos) (dB (dChain rd rd' da db dc)) :=
  ⟨PT.weak (pt_chain ho ho' ha.pe hb.pe hc.pe hm) fun _ _ _ h => up_chain hr hr' (up_tb h)⟩
theorem pd_lele (ha : PD X a da) (hb : PD X b db) (hc : PD X c dc) (hm : lastMarks [.LtE, .LtE] [b, c] = false := by with_unfolding_all rfl) : PD X (.Compare a [.LtE, .LtE] [b, c] pos) (dChain (dI0 fun i j => .bl (decide (i ≤ j))) (dI0 fun i j => .bl (decide (i ≤ j))) da db dc) := pd_chain op_le op_le od_b0 od_b0 ha hb hc hm
end

/-! ### arguments, displays -/
section
variable {X : Cx} {a b : Expr} {es : List Expr} {pos : Pos} {da db : DE} {ds : DA}
def dNil : DA := fun _ O k => k [] O
def dCons (t : DE) (u : DA) : DA := fun e O k => t e O fun x O1 => u e O1 fun xs O2 => k (x :: xs) O2
theorem pad_nil : PAD X [] dNil := by
  refine ⟨PA.weak pa_nil fun σ H Q h => ?_⟩
  obtain ⟨F, e, O, k, st, er, h, o⟩ := h
  exact o _ _ _ _ _ h st.go .nil
theorem pad_cons (ha : PD X a da) (hr : PAD X es ds) (hs : starEach (a :: es) X.env = (false, eval a X.env) :: starEach es X.env := by rfl) : PAD X (a :: es) (dCons da ds) := by
  refine ⟨PA.weak (pa_cons ha.pe hr.pa hs) fun σ H Q h => ?_⟩
  obtain ⟨F, e, O, k, st, er, h, o⟩ := h
  exact ⟨F, e, O, _, st, er, h, fun d O1 F1 H1 v h1 g1 r1 => ⟨F1, e, O1, _, g1.stt, er.mono g1.same, h1, fun d2 O2 F2 H2 v2 h2 g2 r2 => o _ _ _ _ _ h2 (g1.trans g2) (.cons (r1.mono g2.same) r2)⟩⟩
def dTup (t : DA) : DE := fun e O k => t e O fun xs O1 => xs.length ≤ sizeLine ∧ k (.tup xs) O1
def dLst (t : DA) : DE := fun e O k => t e O fun xs O1 => xs.length ≤ sizeLine ∧ k (.lst xs) O1
def dLstO (t : DA) : DE := fun e O k => t e O fun xs O1 => xs.length ≤ sizeLine ∧ ∀ p, O1 p = none → k (.own p) (oset O1 p xs)
theorem pd_tup {x1} (h : PAD X es ds) : PD X (.Tuple es x1 pos) (dTup ds) := by
  refine ⟨PE.weak (pe_tup h.pa) fun σ H Q h => ?_⟩
  obtain ⟨F, e, O, k, st, er, h, o⟩ := h
  exact ⟨F, e, O, _, st, er, h, fun d O1 F1 H1 v h1 g1 r1 => ⟨by rw [r1.length]; exact h1.1, fun p n =>
    o _ _ _ _ _ h1.2 (g1.trans (g1.stt.made n)) (.tup (.of upd_same) (r1.mono (same_upd (free_F g1.stt n))))⟩⟩
theorem pd_lst (h : PAD X es ds) : PD X (.List es pos) (dLst ds) := by
  refine ⟨PE.weak (pe_lst h.pa) fun σ H Q h => ?_⟩
  obtain ⟨F, e, O, k, st, er, h, o⟩ := h
  exact ⟨F, e, O, _, st, er, h, fun d O1 F1 H1 v h1 g1 r1 => ⟨by rw [r1.length]; exact h1.1, fun p n =>
    o _ _ _ _ _ h1.2 (g1.trans (g1.stt.made n)) (.lst upd_same (r1.mono (same_upd (free_F g1.stt n))))⟩⟩
theorem pd_lstO (h : PAD X es ds) : PD X (.List es pos) (dLstO ds) := by
  refine ⟨PE.weak (pe_lst h.pa) fun σ H Q h => ?_⟩
  obtain ⟨F, e, O, k, st, er, h, o⟩ := h
  exact ⟨F, e, O, _, st, er, h, fun d O1 F1 H1 v h1 g1 r1 => ⟨by rw [r1.length]; exact h1.1, fun p n =>
    o _ _ _ _ _ (h1.2 p (free_O g1.stt n)) (g1.trans (g1.stt.fresh n r1)) (.own p)⟩⟩
end

/-! ### calls of own defs -/
section
variable {X : Cx} {CX : CXT} {k : Nat} {f : Addr} {fd : FuncData} {ps : List Str} {sp : DSp} {x : Str} {p pos : Pos} {a : Expr} {es : List Expr} {da : DE} {t : DA}
def dCall (sp : DSp) (t : DA) : DE := fun e O k => t e O fun xs O1 => sp xs O1 k
theorem pd_call (Fn : FnOk X.prog X.w X.K X.mg X.base CX0 k f fd ps (upSp X.K sp)) (hr : Room k X.A) (hg : Gl X x) (hm : X.mg x = some (.ref f)) (hk : PySem.W.keepIn X.K (.ref f) = true) (hb : Binds X.K fd ps [])
    (ha : PAD X (a :: es) t) (h : PE X (.Call (.Name x p) (a :: es) [] pos) (tCall (upSp X.K sp) [] E0 (upA X.K t))) : PD X (.Call (.Name x p) (a :: es) [] pos) (dCall sp t) := by
  refine ⟨PE.weak h fun σ H Q h => ?_⟩
  obtain ⟨F, e, O, k, st, er, h, o⟩ := h
  exact ⟨F, e, O, _, st, er, h, fun ds O1 F1 H1 vs h1 g1 r1 => by show upSp _ sp (vs ++ []) H1 Q E0; rw [List.append_nil]; exact ⟨F1, ds, O1, k, g1.stt, r1, h1, o.after g1⟩⟩
end
/-- a call with its premises, where the context is known -/
theorem up_call {K : PySem.W.Frag} {sp : DSp} {t : DA} {σ : L2.St} {H : Hp} {Q : VK} (h : upE K (dCall sp t) σ H Q) : tCall (upSp K sp) [] E0 (upA K t) σ H Q := by
  obtain ⟨F, e, O, k, st, er, h, o⟩ := h
  exact ⟨F, e, O, _, st, er, h, fun ds O1 F1 H1 vs h1 g1 r1 => by show upSp _ sp (vs ++ []) H1 Q E0; rw [List.append_nil]; exact ⟨F1, ds, O1, k, g1.stt, r1, h1, o.after g1⟩⟩
theorem up_call0 {K : PySem.W.Frag} {sp : DSp} {σ : L2.St} {H : Hp} {Q : VK} (h : upE K (dCall sp dNil) σ H Q) : tCall (upSp K sp) [] E0 tNil σ H Q := by
  obtain ⟨F, e, O, k, st, er, h, o⟩ := h
  exact ⟨F, [], O, k, st, .nil, h, o⟩

/-! ### calls of built-ins by values -/
abbrev RCD := List D → OH → (D → OH → Prop) → Prop
def CallD (K : PySem.W.Frag) (r : List V → Hp → VK → Prop) (rd : RCD) : Prop := ∀ xs ds F O H k Q, Stt K F O H → Reps K F xs ds → rd ds O k → Outs K F O H k Q → r xs H Q
def dCB (rd : RCD) (t : DA) : DE := fun e O k => t e O fun xs O1 => rd xs O1 k
theorem up_cb {K : PySem.W.Frag} {r : List V → Hp → VK → Prop} {rd : RCD} {t : DA} (hr : CallD K r rd) {σ : L2.St} {H : Hp} {Q : VK} (h : upE K (dCB rd t) σ H Q) : tCB r (upA K t) σ H Q := by
  obtain ⟨F, e, O, k, st, er, h, o⟩ := h
  exact ⟨F, e, O, _, st, er, h, fun ds O1 F1 H1 vs h1 g1 r1 => hr vs ds F1 O1 H1 k Q g1.stt r1 h1 (o.after g1)⟩
def rLenD : RCD := fun ds O k => match ds with
  | [.tup xs] => k (.int xs.length) O
  | [.lst xs] => k (.int xs.length) O
  | [.fz xs] => k (.int xs.length) O
  | [.own p] => match O p with
    | some xs => k (.int xs.length) O
    | none => False
  | _ => False
theorem cd_len {K : PySem.W.Frag} : CallD K (fun xs H Q => ∃ p ys, xs = [.ref p] ∧ (SqL K H p ys ∨ SqT K H p ys) ∧ Q (.int ys.length) H) rLenD := by
  intro xs ds F O H k Q st r h o
  unfold rLenD at h
  split at h
  · cases r with
    | cons r1 r2 =>
      cases r2
      cases r1 with
      | tup q rr => exact ⟨_, _, rfl, .inr (Same.seqT st.same q), by rw [rr.length]; exact o _ _ _ _ _ h st.go (.int _)⟩
  · cases r with
    | cons r1 r2 =>
      cases r2
      cases r1 with
      | lst q rr => exact ⟨_, _, rfl, .inl (.of (st.same _ _ q)), by rw [rr.length]; exact o _ _ _ _ _ h st.go (.int _)⟩
  · cases r with
    | cons r1 r2 =>
      cases r2
      cases r1 with
      | fz q rr => exact ⟨_, _, rfl, .inl (st.same.seq q), by rw [rr.length]; exact o _ _ _ _ _ h st.go (.int _)⟩
  · cases r with
    | cons r1 r2 =>
      cases r2
      cases r1
      split at h
      · rename_i e
        obtain ⟨xs, q, rr⟩ := st.rel e
        exact ⟨_, _, rfl, .inl (.of q), by rw [rr.length]; exact o _ _ _ _ _ h st.go (.int _)⟩
      · exact h.elim
  · exact h.elim
def boolsD : List D → Option (List Bool)
  | [] => some []
  | .bl b :: r => (boolsD r).map (b :: ·)
  | _ :: _ => none
theorem boolsD_map : ∀ l : List Bool, boolsD (l.map D.bl) = some l
  | [] => rfl
  | b :: r => by show (boolsD (r.map D.bl)).map (b :: ·) = _; rw [boolsD_map r]; rfl
theorem boolsD_rep {K : PySem.W.Frag} {F : Hp} : ∀ {ds : List D} {vs : List V} {l : List Bool}, boolsD ds = some l → Reps K F vs ds → vs = l.map V.bl
  | [], _, _, h, .nil => by cases h; rfl
  | .bl b :: r, _, l, h, .cons q rr => by
    simp only [boolsD] at h
    cases e : boolsD r with
    | none => rw [e] at h; cases h
    | some l' =>
      rw [e] at h; cases h
      cases q
      rw [boolsD_rep e rr]; rfl
def rBools (f : List Bool → Bool) : RCD := fun ds O k => match ds with
  | [.lst xs] => match boolsD xs with
    | some l => k (.bl (f l)) O
    | none => False
  | _ => False
theorem cd_bools {K : PySem.W.Frag} {f : List Bool → Bool} : CallD K (fun vs H Q => ∃ (a : Addr) (bs : List Bool), vs = [V.ref a] ∧ SqL K H a (bs.map V.bl) ∧ Q (.bl (f bs)) H) (rBools f) := by
  intro xs ds F O H k Q st r h o
  unfold rBools at h
  split at h
  · cases r with
    | cons r1 r2 =>
      cases r2
      split at h
      · rename_i e
        cases r1 with
        | lst q rr =>
          have z := boolsD_rep e rr
          subst z
          exact ⟨_, _, rfl, .of (st.same _ _ q), o _ _ _ _ _ h st.go (.bl _)⟩
      · exact h.elim
  · exact h.elim
def rAbsD : RCD := fun ds O k => match ds with
  | [.int i] => k (.int (if i < 0 then -i else i)) O
  | _ => False
theorem cd_abs {K : PySem.W.Frag} : CallD K (fun xs H Q => ∃ i, xs = [.int i] ∧ Q (.int (if i < 0 then -i else i)) H) rAbsD := by
  intro xs ds F O H k Q st r h o
  unfold rAbsD at h
  split at h
  · cases r with
    | cons r1 r2 => cases r2; cases r1; exact ⟨_, rfl, o _ _ _ _ _ h st.go (.int _)⟩
  · exact h.elim
def rTwo (g : Int → Int → Int) : RCD := fun ds O k => match ds with
  | [.int i, .int j] => k (.int (g i j)) O
  | _ => False
theorem cd_two {K : PySem.W.Frag} {g : Int → Int → Int} : CallD K (fun xs H Q => ∃ i j, xs = [.int i, .int j] ∧ Q (.int (g i j)) H) (rTwo g) := by
  intro xs ds F O H k Q st r h o
  unfold rTwo at h
  split at h
  · cases r with
    | cons r1 r2 => cases r2 with
      | cons r3 r4 => cases r4; cases r1; cases r3; exact ⟨_, _, rfl, o _ _ _ _ _ h st.go (.int _)⟩
  · exact h.elim
def rIntD : RCD := fun ds O k => match ds with
  | [.int i] => k (.int i) O
  | [.bl b] => k (.int (if b then 1 else 0)) O
  | _ => False
theorem cd_int {K : PySem.W.Frag} : CallD K (fun xs H Q => (∃ i, xs = [.int i] ∧ Q (.int i) H) ∨ ∃ k, xs = [.bl k] ∧ Q (.int (if k then 1 else 0)) H) rIntD := by
  intro xs ds F O H k Q st r h o
  unfold rIntD at h
  split at h
  · cases r with
    | cons r1 r2 => cases r2; cases r1; exact .inl ⟨_, rfl, o _ _ _ _ _ h st.go (.int _)⟩
  · cases r with
    | cons r1 r2 => cases r2; cases r1; exact .inr ⟨_, rfl, o _ _ _ _ _ h st.go (.int _)⟩
  · exact h.elim
/-- isinstance of a built-in class -/
def tyD : D → Option String
  | .non => some "NoneType" | .bl _ => some "bool" | .int _ => some "int" | .str _ => some "str" | .tup _ => some "tuple" | .lst _ => some "list" | .dct => some "dict"
  | _ => none
def isTy (t n : String) : Bool := t == n || (t == "bool" && n == "int")
def rIsiD : RCD := fun ds O k => match ds with
  | [x, .ty n] => (n = "int" ∨ n = "bool" ∨ n = "str" ∨ n = "tuple" ∨ n = "list" ∨ n = "dict") ∧ match tyD x with
    | some t => k (.bl (isTy t n)) O
    | none => False
  | _ => False
theorem tyD_ty {K : PySem.W.Frag} {F O H} {x : V} {d : D} {t : String} (st : Stt K F O H) (r : Rep K F x d) (h : tyD d = some t) : TyX K H x (.type t) := by
  cases r with
  | non => cases h; exact .base .non
  | bl b => cases h; exact .base (.bl b)
  | int i => cases h; exact .base (.int i)
  | str x => cases h; exact .base (.str x)
  | ty n => cases h
  | own a => cases h
  | tup q _ =>
    cases h
    rcases q with (q | ⟨o, q⟩) | ⟨o, its, n, k, c, _⟩
    · exact .base (.tup (st.same _ _ q))
    · exact .fTuple (st.same _ _ q)
    · exact .kTuple k c
  | lst q _ =>
    cases h
    exact .base (.lst (st.same _ _ q))
  | fz q _ => cases h
  | dct q =>
    cases h
    exact .base (.dK (st.same _ _ q))
  | obj q _ => cases h
theorem kit_isTy : ∀ t ∈ ["NoneType", "bool", "int", "str", "tuple", "list", "dict"], ∀ n ∈ ["int", "bool", "str", "tuple", "list", "dict"], kitB t n = some (isTy t n) := by decide +kernel
theorem tyD_mem {d : D} {t : String} (h : tyD d = some t) : t ∈ ["NoneType", "bool", "int", "str", "tuple", "list", "dict"] := by
  cases d <;> cases h <;> simp
theorem cd_isi {K : PySem.W.Frag} : CallD K (rIsi K) rIsiD := by
  intro xs ds F O H k Q st r h o
  unfold rIsiD at h
  split at h
  · obtain ⟨hn, h⟩ := h
    cases r with
    | cons r1 r2 => cases r2 with
      | cons r3 r4 =>
        cases r4; cases r3
        split at h
        · rename_i t e
          exact ⟨_, _, _, _, _, rfl, .ty _, tyD_ty st r1 e, kit_ty (kit_isTy _ (tyD_mem e) _ (by simpa using hn)), o _ _ _ _ _ h st.go (.bl _)⟩
        · exact h.elim
  · exact h.elim
/-- tuple(x) -/
def rTupD : R1D := fun d O k => match d with
  | .lst xs => k (.tup xs) O
  | .tup xs => k (.tup xs) O
  | .own p => match O p with
    | some xs => k (.tup xs) O
    | none => False
  | _ => False
theorem ud_tup {K : PySem.W.Frag} : UnD K (kTup K) rTupD := by
  intro x a F O H k Q st r h o
  unfold rTupD at h
  split at h
  · cases r with
    | lst q rr => exact .inl ⟨_, _, rfl, .of (st.same _ _ q), fun p n => o _ _ _ _ _ h (st.made n) (.tup (.of upd_same) (rr.mono (same_upd (free_F st n))))⟩
  · cases r with
    | tup q rr => exact .inr ⟨_, _, rfl, Same.seqT st.same q, o _ _ _ _ _ h st.go (.tup q rr)⟩
  · cases r
    split at h
    · rename_i e
      obtain ⟨xs, q, rr⟩ := st.rel e
      exact .inl ⟨_, _, rfl, .of q, fun p n => o _ _ _ _ _ h (st.made n) (.tup (.of upd_same) (rr.mono (same_upd (free_F st n))))⟩
    · exact h.elim
  · exact h.elim
section
variable {X : Cx} {a b : Expr} {es : List Expr} {x : Str} {p pos : Pos} {da : DE} {t : DA}
theorem pd_tuple (hg : Gl X "tuple") (hm : X.mg "tuple" = none) (ha : PD X a da) (na : starEach [a] X.env = (false, eval a X.env) :: starEach [] X.env := by rfl) : PD X (.Call (.Name "tuple" p) [a] [] pos) (dUn rTupD da) :=
  ⟨PE.weak (pe_tupleOf hg hm ha.pe na) fun σ H Q h => up_un ud_tup h⟩
theorem pd_tyc {n : String} (hg : Gl X x) (hm : X.mg x = none) (hv : bootBuiltins x = some (.type n)) (hn : x ≠ "__name__" := by decide) (hd : (x == ("__debug__" : Str)) = false := by decide) : PD X (.Name x p) (dC (.ty n)) :=
  pd_c (v := .ty n) (pe_bltn hg hm hv (show RelV (.ty n) (.type n) from rfl) hn hd) fun _ => .ty n
end

/-! ### subscripts, slices -/
def rIxD : R2D := fun a b O k => match a, b with
  | .tup xs, .int i => match atI xs i with
    | some d => k d O
    | none => False
  | .lst xs, .int i => match atI xs i with
    | some d => k d O
    | none => False
  | .fz xs, .int i => match atI xs i with
    | some d => k d O
    | none => False
  | .own p, .int i => match O p with
    | some xs => match atI xs i with
      | some d => k d O
      | none => False
    | none => False
  | _, _ => False
theorem od_ix {K : PySem.W.Frag} : OpD K (rIx K) rIxD := by
  intro x y a b F O H k Q st ra rb h o
  unfold rIxD at h
  split at h
  · split at h
    · rename_i e
      cases rb
      cases ra with
      | tup q rr =>
        obtain ⟨v, e', r⟩ := rr.atI e
        exact .inr (.inl ⟨_, _, _, v, rfl, rfl, Same.seqT st.same q, e', o _ _ _ _ _ h st.go r⟩)
    · exact h.elim
  · split at h
    · rename_i e
      cases rb
      cases ra with
      | lst q rr =>
        obtain ⟨v, e', r⟩ := rr.atI e
        exact .inl ⟨_, _, _, v, rfl, rfl, .of (st.same _ _ q), e', o _ _ _ _ _ h st.go r⟩
    · exact h.elim
  · split at h
    · rename_i e
      cases rb
      cases ra with
      | fz q rr =>
        obtain ⟨v, e', r⟩ := rr.atI e
        exact .inl ⟨_, _, _, v, rfl, rfl, st.same.seq q, e', o _ _ _ _ _ h st.go r⟩
    · exact h.elim
  · split at h
    · rename_i e0
      split at h
      · rename_i e
        cases rb
        cases ra
        obtain ⟨xs, q, rr⟩ := st.rel e0
        obtain ⟨v, e', r⟩ := rr.atI e
        exact .inl ⟨_, _, _, v, rfl, rfl, .of q, e', o _ _ _ _ _ h st.go r⟩
      · exact h.elim
    · exact h.elim
  · exact h.elim
abbrev DO := DV → OH → (Option Int → OH → Prop) → Prop
def upO (K : PySem.W.Frag) (t : DO) : TO := fun σ H Q => ∃ F e O k, Stt K F O H ∧ ERep K F σ e ∧ t e O k ∧ ∀ i O' F' H', k i O' → Go K F O H F' O' H' → Q i H'
structure POD (X : Cx) (e : Option Expr) (t : DO) : Prop where
  po : PO X e (upO X.K t)
def dPart0 : DO := fun _ O k => k none O
def dPart (t : DE) : DO := fun e O k => t e O fun d O1 => match d with
  | .int i => k (some i) O1
  | _ => False
section
variable {X : Cx} {a : Expr} {da : DE} {lo hi : Option Expr} {dl dh : DO} {pos p2 : Pos}
theorem pod_none : POD X none dPart0 := ⟨⟨fun pins s σ H Q I ⟨F, e, O, k, st, er, h, o⟩ => po_none.run pins s σ H Q I (o _ _ _ _ h st.go)⟩⟩
theorem pod_some (h : PD X a da) : POD X (some a) (dPart da) := by
  refine ⟨⟨fun pins s σ H Q I h' => (po_some h.pe).run pins s σ H Q I ?_⟩⟩
  obtain ⟨F, e, O, k, st, er, h, o⟩ := h'
  refine ⟨F, e, O, _, st, er, h, fun d O1 F1 H1 v h1 g1 r1 => ?_⟩
  try dsimp only at h1
  split at h1
  · cases r1
    exact ⟨_, rfl, o _ _ _ _ h1 g1⟩
  · exact h1.elim
def dSl (ta : DE) (tl th : DO) : DE := fun e O k => ta e O fun x O1 => tl e O1 fun l O2 => th e O2 fun u O3 => match x with
  | .tup xs => k (.tup (cutA xs l u)) O3
  | .lst xs => k (.lst (cutA xs l u)) O3
  | .fz xs => k (.lst (cutA xs l u)) O3
  | .own p => match O3 p with
    | some xs => k (.lst (cutA xs l u)) O3
    | none => False
  | _ => False
theorem cutV_all {xs : List V} {l u : Option Int} (h : HT.sIx xs.length 0 l = 0 ∧ HT.sIx xs.length xs.length u = xs.length) : cutV xs l u = xs := by
  unfold cutV
  rw [h.1, h.2, List.drop_zero, Nat.sub_zero, List.take_length]
theorem pd_slice (ha : PD X a da) (hl : POD X lo dl) (hh : POD X hi dh) : PD X (.Subscript a (.Slice lo hi none p2) pos) (dSl da dl dh) := by
  refine ⟨PE.weak (pe_slice (SlR.or sl_list sl_tupA) ha.pe hl.po hh.po) fun σ H Q h => ?_⟩
  obtain ⟨F, e, O, k, st, er, h, o⟩ := h
  refine ⟨F, e, O, _, st, er, h, fun d O1 F1 H1 v h1 g1 r1 => ⟨F1, e, O1, _, g1.stt, er.mono g1.same, h1, fun l O2 F2 H2 h2 g2 => ⟨F2, e, O2, _, g2.stt, er.mono (g1.same.trans g2.same), h2, fun u O3 F3 H3 h3 g3 => ?_⟩⟩⟩
  have g := g1.trans (g2.trans g3)
  have r3 := r1.mono (g2.same.trans g3.same)
  try dsimp only at h3
  split at h3
  · cases r3 with
    | @tup a xs ds q rr =>
      refine .inr ⟨_, _, rfl, Same.seqT g.stt.same q, fun w => ?_, fun w p n => ?_⟩
      · exact o _ _ _ _ _ h3 g (.tup q (by rw [← cutV_all w]; exact rr.cut l u))
      · exact o _ _ _ _ _ h3 (g.trans (g.stt.made n)) (.tup (.of upd_same) ((rr.cut l u).mono (same_upd (free_F g.stt n))))
  · cases r3 with
    | lst q rr => exact .inl ⟨_, _, rfl, .of (g.stt.same _ _ q), fun p n => o _ _ _ _ _ h3 (g.trans (g.stt.made n)) (.lst upd_same ((rr.cut l u).mono (same_upd (free_F g.stt n))))⟩
  · cases r3 with
    | fz q rr => exact .inl ⟨_, _, rfl, g.stt.same.seq q, fun p n => o _ _ _ _ _ h3 (g.trans (g.stt.made n)) (.lst upd_same ((rr.cut l u).mono (same_upd (free_F g.stt n))))⟩
  · cases r3
    split at h3
    · rename_i e0
      obtain ⟨xs, q, rr⟩ := g.stt.rel e0
      exact .inl ⟨_, _, rfl, .of q, fun p n => o _ _ _ _ _ h3 (g.trans (g.stt.made n)) (.lst upd_same ((rr.cut l u).mono (same_upd (free_F g.stt n))))⟩
    · exact h3.elim
  · exact h3.elim
/-- a list of one's own is changed no more from here on -/
def frzD (d : D) (O : OH) (k : D → OH → Prop) : Prop := match d with
  | .own p => match O p with
    | some xs => k (.lst xs) (odel O p)
    | none => False
  | d => k d O
def dFrz (t : DE) : DE := fun e O k => t e O fun d O1 => frzD d O1 k
theorem pd_frz (ha : PD X a da) : PD X a (dFrz da) := by
  refine ⟨PE.weak ha.pe fun σ H Q h => ?_⟩
  obtain ⟨F, e, O, k, st, er, h, o⟩ := h
  refine ⟨F, e, O, _, st, er, h, fun d O1 F1 H1 v h1 g1 r1 => ?_⟩
  try dsimp only at h1
  unfold frzD at h1
  split at h1
  · cases r1
    split at h1
    · rename_i e0
      obtain ⟨xs, q, rr⟩ := g1.stt.rel e0
      have z := g1.stt.freeze e0 q
      exact o _ _ _ _ _ h1 (g1.trans z) (.lst upd_same (rr.mono z.same))
    · exact h1.elim
  · exact o _ _ _ _ _ h1 g1 r1
end
end SC
namespace SC
open PySem PySem.Spec PyProof.Rows L2
variable [TabL] [XCx]
/-! ### calls with their premises -/
section
variable {X : Cx} {CX : CXT} {k : Nat} {f : Addr} {fd : FuncData} {ps : List Str} {sp : DSp} {x : Str} {p pos : Pos} {a : Expr} {es : List Expr} {t : DA} {id T : String} {r : List V → Hp → VK → Prop} {rd : RCD}
theorem pd_callF (Fn : FnOk X.prog X.w X.K X.mg X.base CX0 k f fd ps (upSp X.K sp)) (hr : Room k X.A) (hg : Gl X x) (hm : X.mg x = some (.ref f)) (hk : PySem.W.keepIn X.K (.ref f) = true) (hb : Binds X.K fd ps [])
    (ha : PAD X (a :: es) t) (hdb : (x == ("__debug__" : Str)) = false := by decide) (he : starEach (a :: es) X.env = (false, eval a X.env) :: starEach es X.env := by rfl) (hpl : (backTo pos (starEach es X.env)).any (·.1) = false := by rfl) :
    PD X (.Call (.Name x p) (a :: es) [] pos) (dCall sp t) := ⟨PE.weak (pe_call Fn hr hg hm hk hb .nil pass0 ha.pa hdb he hpl) fun _ _ _ h => up_call h⟩
theorem pd_callF0 (Fn : FnOk X.prog X.w X.K X.mg X.base CX0 k f fd ps (upSp X.K sp)) (hr : Room k X.A) (hg : Gl X x) (hm : X.mg x = some (.ref f)) (hk : PySem.W.keepIn X.K (.ref f) = true) (hb : Binds X.K fd ps [])
    (hdb : (x == ("__debug__" : Str)) = false := by decide) : PD X (.Call (.Name x p) [] [] pos) (dCall sp dNil) := by
  refine ⟨PE.weak (pe_call0 Fn hr hg hm hk hb .nil pass0 hdb) fun σ H Q h => ?_⟩
  obtain ⟨F, e, O, k, st, er, h, o⟩ := h
  exact ⟨F, [], O, k, st, .nil, h, o⟩
theorem pd_callB (hc : CallR X (.builtin id) r) (hr : CallD X.K r rd) (hg : Gl X x) (hm : X.mg x = none) (hv : bootBuiltins x = some (.builtin id)) (ha : PAD X (a :: es) t) (hn : x ≠ "__name__" := by decide) (hdb : (x == ("__debug__" : Str)) = false := by decide)
    (he : starEach (a :: es) X.env = (false, eval a X.env) :: starEach es X.env := by rfl) (hpl : (backTo pos (starEach es X.env)).any (·.1) = false := by rfl) : PD X (.Call (.Name x p) (a :: es) [] pos) (dCB rd t) :=
  ⟨PE.weak (pe_callB hc hg hm hv ha.pa hn hdb he hpl) fun _ _ _ h => up_cb hr h⟩
theorem pd_callTy (hc : CallR X (.type T) r) (hr : CallD X.K r rd) (hg : Gl X x) (hm : X.mg x = none) (hv : bootBuiltins x = some (.type T)) (ha : PAD X (a :: es) t) (hn : x ≠ "__name__" := by decide) (hdb : (x == ("__debug__" : Str)) = false := by decide)
    (he : starEach (a :: es) X.env = (false, eval a X.env) :: starEach es X.env := by rfl) (hpl : (backTo pos (starEach es X.env)).any (·.1) = false := by rfl) : PD X (.Call (.Name x p) (a :: es) [] pos) (dCB rd t) :=
  ⟨PE.weak (pe_callTy hc hg hm hv ha.pa hn hdb he hpl) fun _ _ _ h => up_cb hr h⟩
end

/-! ### targets -/
theorem wipe_get : ∀ (ws : List Nat) (σ : L2.St) (j : Nat), (wipe σ ws)[j]? = if j ∈ ws then σ[j]?.map (fun _ => none) else σ[j]?
  | [], σ, j => by simp [wipe]
  | v :: vs, σ, j => by
    unfold wipe
    rw [List.getElem?_set, wipe_length]
    by_cases e : v = j
    · subst e
      by_cases l : v < σ.length
      · simp [l]
      · simp [l]
    · rw [if_neg e, wipe_get vs σ j]
      by_cases m : j ∈ vs
      · simp [m]
      · have : j ≠ v := fun z => e z.symm
        simp [m, this]
theorem wipe_set {σ : L2.St} {i : Nat} {x : Option V} {ws : List Nat} (h : i ∈ ws) : wipe (σ.set i x) ws = wipe σ ws := by
  apply List.ext_getElem?
  intro j
  rw [wipe_get, wipe_get, List.getElem?_set]
  by_cases e : i = j
  · subst e
    rw [if_pos h, if_pos h]
    by_cases l : i < σ.length
    · simp [l]
    · simp [l]
  · rw [if_neg e]
abbrev DG := D → DV → OH → (DV → Prop) → Prop
abbrev DGs := List D → DV → OH → (DV → Prop) → Prop
def GOut (K : PySem.W.Frag) (F : Hp) (is : List Nat) (σ : L2.St) (k : DV → Prop) (H : Hp) (Q : L2.St → Hp → Prop) : Prop := ∀ e' σ', k e' → ERep K F σ' e' → (∀ ws, (∀ i ∈ is, i ∈ ws) → wipe σ' ws = wipe σ ws) → Q σ' H
def GD (K : PySem.W.Frag) (t : TG) (g : DG) (is : List Nat) : Prop := ∀ v d F e O σ H k Q, Stt K F O H → ERep K F σ e → Rep K F v d → g d e O k → GOut K F is σ k H Q → t v σ H Q
def GDs (K : PySem.W.Frag) (t : TGs) (g : DGs) (is : List Nat) : Prop := ∀ v d F e O σ H k Q, Stt K F O H → ERep K F σ e → Reps K F v d → g d e O k → GOut K F is σ k H Q → t v σ H Q
structure PGD (X : Cx) (tg : Expr) (t : TG) (g : DG) (is : List Nat) : Prop where
  pg : PG X tg t
  ok : GD X.K t g is
structure PGDs (X : Cx) (tg : List Expr) (t : TGs) (g : DGs) (is : List Nat) : Prop where
  pg : PGs X tg t
  ok : GDs X.K t g is
def dNm (i : Nat) : DG := fun d e _ k => k (e.set i (some d))
def dGNil : DGs := fun ds e _ k => match ds with
  | [] => k e
  | _ => False
def dGCons (g : DG) (gs : DGs) : DGs := fun ds e O k => match ds with
  | d :: r => g d e O fun e' => gs r e' O k
  | [] => False
def dTg (n : Nat) (gs : DGs) : DG := fun d e O k => match d with
  | .tup ds => ds.length = n ∧ gs ds e O k
  | _ => False
section
variable {X : Cx} {pos : Pos}
theorem pgd_name {i : Nat} {x : Str} (hN : X.N.Nodup) (hi : X.N[i]? = some x) (hx : Loc X.env.scope x) (hf : X.fn x = true ∨ X.env.scope.names.lookup x = some .local := by first | exact .inl rfl | exact .inr rfl | assumption) : PGD X (.Name x pos) (gName i) (dNm i) [i] :=
  ⟨pg_name hN hi hx hf, fun v d F e O σ H k Q st er r h o => o _ _ h (er.set r i) fun ws hw => wipe_set (hw i (by simp))⟩
theorem pgds_nil : PGDs X [] gNil dGNil [] := by
  refine ⟨pgs_nil, fun v d F e O σ H k Q st er r h o => ?_⟩
  unfold dGNil at h
  split at h
  · cases r
    exact ⟨rfl, o _ _ h er fun _ _ => rfl⟩
  · exact h.elim
theorem pgds_cons {a : Expr} {es : List Expr} {t : TG} {u : TGs} {g : DG} {gs : DGs} {is js : List Nat} (h1 : PGD X a t g is) (h2 : PGDs X es u gs js) (hs : (assignEach (a :: es) X.env).map (·.2) = assign a X.env :: (assignEach es X.env).map (·.2) := by rfl) : PGDs X (a :: es) (gCons t u) (dGCons g gs) (is ++ js) := by
  obtain ⟨p, q⟩ := h1
  obtain ⟨p2, q2⟩ := h2
  refine ⟨pgs_cons p p2 hs, fun v d F e O σ H k Q st er r h o => ?_⟩
  unfold dGCons at h
  split at h
  · cases r with
    | cons r1 r2 =>
      exact ⟨_, _, rfl, q _ _ F e O σ H _ _ st er r1 h fun e1 σ1 h1 er1 w1 => q2 _ _ F e1 O σ1 H k _ st er1 r2 h1 fun e2 σ2 h2 er2 w2 => o e2 σ2 h2 er2 fun ws hw =>
        (w2 ws fun i m => hw i (List.mem_append_right _ m)).trans (w1 ws fun i m => hw i (List.mem_append_left _ m))⟩
  · exact h.elim
theorem pgd_tup {es : List Expr} {k : Nat} {t : TGs} {gs : DGs} {is : List Nat} {n : Nat} {K : PySem.W.Frag} (hc : X.calm = true) (h : PGDs X es t gs is) (hK : X.K = K := by rfl) (hn : (assignEach es X.env).length = n := by rfl) (hst : (assignEach es X.env).findIdx? (·.1) = none := by rfl) : PGD X (.Tuple es k pos) (gTup K n t) (dTg n gs) is := by
  subst hK
  obtain ⟨p, q⟩ := h
  refine ⟨pg_tup hc p hn hst, fun v d F e O σ H k Q st er r h o => ?_⟩
  unfold dTg at h
  split at h
  · cases r with
    | tup s rr => exact ⟨_, _, rfl, Same.seqT st.same s, rr.length.trans h.1, q _ _ F e O σ H k _ st er rr h.2 o⟩
  · exact h.elim
end

/-! ### what is walked -/
structure ItOk (K : PySem.W.Frag) (F1 : Hp) (J : It) (items : List D) : Prop where
  ok : ∃ (G : Hp → Prop) (Y : Nat → Hp → V → Hp → Prop), Walk J items.length G Y ∧ (∀ H, Same F1 H → G H) ∧
    ∀ i H x H' F' O', i < items.length → Same F1 F' → Stt K F' O' H → Y i H x H' → ∃ d F'', items[i]? = some d ∧ Go K F' O' H F'' O' H' ∧ Rep K F'' x d
abbrev DI := DV → OH → (List D → OH → Prop) → Prop
structure PID (X : Cx) (tg iter : Expr) (di : DI) : Prop where
  pi : ∃ wi, PI X tg iter wi ∧ ∀ σ H R F e O k, Stt X.K F O H → ERep X.K F σ e → di e O k → (∀ items O1 F1 H1 J, k items O1 → Go X.K F O H F1 O1 H1 → ItOk X.K F1 J items → R J H1) → wi σ H R
section
variable {X : Cx} {a b : Expr} {tg : Expr} {da db : DE} {p pos : Pos}
theorem it_list {K : PySem.W.Frag} {F1 : Hp} {l : Addr} {xs : List V} {ds : List D} (q : SqL K F1 l xs) (r : Reps K F1 xs ds) : ItOk K F1 (Itl K l) ds := by
  refine ⟨_, _, by rw [← r.length]; exact walk_list, fun H s => s.seq q, fun i H x H' F' O' hi s st y => ?_⟩
  obtain ⟨e, y⟩ := y
  subst e
  obtain ⟨d, h1, h2⟩ := r.getV y
  exact ⟨d, F', h1, st.go, h2.mono s⟩
theorem it_tup {K : PySem.W.Frag} {F1 : Hp} {l : Addr} {xs : List V} {ds : List D} (q : SqT K F1 l xs) (r : Reps K F1 xs ds) : ItOk K F1 (Itt K l) ds := by
  refine ⟨_, _, by rw [← r.length]; exact walk_tup, fun H s => Same.seqT s q, fun i H x H' F' O' hi s st y => ?_⟩
  obtain ⟨e, y⟩ := y
  subst e
  obtain ⟨d, h1, h2⟩ := r.getV y
  exact ⟨d, F', h1, st.go, h2.mono s⟩
/-- a list or a tuple is walked -/
def iSeq (K : PySem.W.Frag) (tl : TE) : TI := fun σ H R => tl σ H fun x H1 => ∃ a, x = .ref a ∧ (((∃ xs, SqL K H1 a xs) ∧ R (Itl K a) H1) ∨ ((∃ xs, SqT K H1 a xs) ∧ R (Itt K a) H1))
theorem pi_seq {l : Expr} {tl : TE} (hl : PE X l tl) : PI X tg l (iSeq X.K tl) := by
  refine ⟨fun pins s σ H R I h => ?_⟩
  refine thn (hl.run pins s σ H _ I h) fun v s1 ⟨x, H1, I1, r1, q1⟩ => ?_
  obtain ⟨a, e, q1⟩ := q1
  subst e
  cases r1
  rcases q1 with ⟨⟨xs, hq⟩, q⟩ | ⟨⟨xs, hq⟩, q⟩
  · obtain ⟨its, rv, p, hz⟩ := I1.list hq
    refine wpAny_pyIter_list p.isList ?_
    refine ⟨s1.heap.objs.size, [s1.heap.objs.size], _, _, H1, rfl, I1.kept (t' := s1.toks) fun b o e => Heap.get?_push_of_some _ e, turn_list a _, ⟨_, Heap.get?_push_size _ rfl, rfl, rfl⟩, fun b hb => ?_, q⟩
    have e : b = s1.heap.objs.size := by simpa using hb
    subst e
    exact I1.fpOk (Nat.le_refl _) (I1.hok.fresh (Nat.le_refl _))
  · obtain ⟨its, rv, p, hz⟩ := I1.tuple hq
    refine wpAny_pyIter_tuple (show s1.heap.IsTuple a its.toArray from p) ?_
    refine ⟨s1.heap.objs.size, [s1.heap.objs.size], _, _, H1, rfl, I1.kept (t' := s1.toks) fun b o e => Heap.get?_push_of_some _ e, turn_tuple a _, ⟨_, Heap.get?_push_size _ rfl, rfl, rfl⟩, fun b hb => ?_, q⟩
    have e : b = s1.heap.objs.size := by simpa using hb
    subst e
    exact I1.fpOk (Nat.le_refl _) (I1.hok.fresh (Nat.le_refl _))
def dSeq (t : DE) : DI := fun e O k => t e O fun d O1 => match d with
  | .lst xs => k xs O1
  | .fz xs => k xs O1
  | .tup xs => k xs O1
  | _ => False
theorem pid_seq (ha : PD X a da) : PID X tg a (dSeq da) := by
  refine ⟨_, pi_seq ha.pe, fun σ H R F e O k st er h o => ⟨F, e, O, _, st, er, h, fun d O1 F1 H1 v h1 g1 r1 => ?_⟩⟩
  try dsimp only at h1
  split at h1
  · cases r1 with
    | lst q rr => exact ⟨_, rfl, .inl ⟨⟨_, .of (g1.stt.same _ _ q)⟩, o _ _ F1 H1 _ h1 g1 (it_list (.of q) rr)⟩⟩
  · cases r1 with
    | fz q rr => exact ⟨_, rfl, .inl ⟨⟨_, g1.stt.same.seq q⟩, o _ _ F1 H1 _ h1 g1 (it_list q rr)⟩⟩
  · cases r1 with
    | tup q rr => exact ⟨_, rfl, .inr ⟨⟨_, Same.seqT g1.stt.same q⟩, o _ _ F1 H1 _ h1 g1 (it_tup q rr)⟩⟩
  · exact h1.elim
def rngD (lo : Int) (n : Nat) : List D := (List.range n).map fun i => .int (lo + (i : Nat))
theorem rngD_length (lo : Int) (n : Nat) : (rngD lo n).length = n := by simp [rngD]
theorem it_range {K : PySem.W.Frag} {F1 : Hp} {lo : Int} {n : Nat} : ItOk K F1 (Itr lo n) (rngD lo n) := by
  refine ⟨_, _, by rw [rngD_length]; exact walk_range, fun H s => trivial, fun i H x H' F' O' hi s st y => ?_⟩
  obtain ⟨e, y⟩ := y
  subst e y
  rw [rngD_length] at hi
  exact ⟨.int (lo + i), F', by simp [rngD, hi], st.go, .int _⟩
def dRng1 (t : DE) : DI := fun e O k => t e O fun d O1 => match d with
  | .int j => (-(2 ^ 62) ≤ j ∧ j < 2 ^ 62) ∧ k (rngD 0 j.toNat) O1
  | _ => False
def dRng2 (t u : DE) : DI := fun e O k => t e O fun d O1 => u e O1 fun d2 O2 => match d, d2 with
  | .int i, .int j => (-(2 ^ 62) ≤ i ∧ i < 2 ^ 62 ∧ -(2 ^ 62) ≤ j ∧ j < 2 ^ 62) ∧ k (rngD i (j - i).toNat) O2
  | _, _ => False
theorem pid_range1 (hg : Gl X "range") (hm : X.mg "range" = none) (ha : PD X a da) (hs : starEach [a] X.env = [(false, eval a X.env)] := by rfl) : PID X tg (.Call (.Name "range" p) [a] [] pos) (dRng1 da) := by
  refine ⟨_, pi_range1 hg hm (pa_cons ha.pe pa_nil (by rw [hs]; rfl)) hs, fun σ H R F e O k st er h o => ⟨F, e, O, _, st, er, h, fun d O1 F1 H1 v h1 g1 r1 => ?_⟩⟩
  try dsimp only at h1
  split at h1
  · cases r1
    exact ⟨_, rfl, h1.1.1, h1.1.2, o _ _ F1 H1 _ h1.2 g1 it_range⟩
  · exact h1.elim
theorem pid_range2 (hg : Gl X "range") (hm : X.mg "range" = none) (ha : PD X a da) (hb : PD X b db) (hs : starEach [a, b] X.env = [(false, eval a X.env), (false, eval b X.env)] := by rfl) (hs2 : starEach [b] X.env = [(false, eval b X.env)] := by rfl) :
    PID X tg (.Call (.Name "range" p) [a, b] [] pos) (dRng2 da db) := by
  refine ⟨_, pi_range2 hg hm (pa_cons ha.pe (pa_cons hb.pe pa_nil (by rw [hs2]; rfl)) (by rw [hs, hs2])) hs hs2, fun σ H R F e O k st er h o => ⟨F, e, O, _, st, er, h, fun d O1 F1 H1 v h1 g1 r1 => ⟨F1, e, O1, _, g1.stt, er.mono g1.same, h1, fun d2 O2 F2 H2 v2 h2 g2 r2 => ?_⟩⟩⟩
  try dsimp only at h2
  split at h2
  · cases r1; cases r2
    exact ⟨_, _, rfl, h2.1, o _ _ F2 H2 _ h2.2 (g1.trans g2) it_range⟩
  · exact h2.elim
/-- pairs -/
def pairsD : List D → List D → List D
  | x :: xs, y :: ys => .tup [x, y] :: pairsD xs ys
  | _, _ => []
theorem pairsD_length : ∀ xs ys : List D, (pairsD xs ys).length = min xs.length ys.length
  | [], _ => by simp [pairsD]
  | _ :: _, [] => by simp [pairsD]
  | x :: xs, y :: ys => by simp [pairsD, pairsD_length xs ys]
theorem pairsD_get : ∀ (xs ys : List D) (i : Nat) (x y : D), xs[i]? = some x → ys[i]? = some y → (pairsD xs ys)[i]? = some (.tup [x, y])
  | [], _, _, _, _, h, _ => by simp at h
  | _ :: _, [], _, _, _, _, h => by simp at h
  | a :: xs, b :: ys, 0, x, y, h, h2 => by simp at h h2; subst h h2; rfl
  | a :: xs, b :: ys, i + 1, x, y, h, h2 => pairsD_get xs ys i x y (by simpa using h) (by simpa using h2)
theorem pair_made {K : PySem.W.Frag} {F O H} {T : Addr} {x y : V} {c d : D} (st : Stt K F O H) (n : H T = none) (r1 : Rep K F x c) (r2 : Rep K F y d) : Go K F O H (upd F T (.tup [x, y])) O (upd H T (.tup [x, y])) ∧ Rep K (upd F T (.tup [x, y])) (.ref T) (.tup [c, d]) :=
  have s := same_upd (o := .tup [x, y]) (free_F st n)
  ⟨st.made n, .tup (.of upd_same) (.cons (r1.mono s) (.cons (r2.mono s) .nil))⟩
theorem it_zipL {K : PySem.W.Frag} {F1 : Hp} {l m : Addr} {xs ys : List V} {ds es : List D} (q : SqL K F1 l xs) (r : Reps K F1 xs ds) (q2 : SqL K F1 m ys) (r2 : Reps K F1 ys es) : ItOk K F1 (Itz K l m) (pairsD ds es) := by
  refine ⟨_, _, walk_zip (by rw [pairsD_length, r.length, r2.length]), fun H s => ⟨s.seq q, s.seq q2⟩, fun i H x H' F' O' hi s st y => ?_⟩
  obtain ⟨T, u, w, e, n, e2, h1, h2⟩ := y
  subst e e2
  obtain ⟨c, c1, c2⟩ := r.getV h1
  obtain ⟨d, d1, d2⟩ := r2.getV h2
  obtain ⟨g, rr⟩ := pair_made st n (c2.mono s) (d2.mono s)
  exact ⟨_, _, pairsD_get _ _ _ _ _ c1 d1, g, rr⟩
theorem walk_zipT {K : PySem.W.Frag} {a b : Addr} {xs ys : List V} {n : Nat} (hn : n = min xs.length ys.length) : Walk (RZ.ItzT K a b) n (fun H => SqT K H a xs ∧ SqT K H b ys) (YPair (fun i => xs[i]?) (fun i => ys[i]?)) := by
  subst hn
  refine ⟨fun i _ hi q => ?_, fun _ q => ⟨xs, ys, q.1, q.2, by omega⟩, fun i H v H' _ q y => ?_⟩
  · have h1 : i < xs.length := by omega
    have h2 : i < ys.length := by omega
    exact ⟨xs, ys, xs[i], ys[i], q.1, q.2, by simp [h1], by simp [h2]⟩
  · obtain ⟨T, x, z, h1, h2, h3, h4, h5⟩ := y
    exact ⟨T, x, z, h1, h2, h3, h4 xs q.1, h5 ys q.2⟩
theorem it_zipT {K : PySem.W.Frag} {F1 : Hp} {l m : Addr} {xs ys : List V} {ds es : List D} (q : SqT K F1 l xs) (r : Reps K F1 xs ds) (q2 : SqT K F1 m ys) (r2 : Reps K F1 ys es) : ItOk K F1 (RZ.ItzT K l m) (pairsD ds es) := by
  refine ⟨_, _, walk_zipT (by rw [pairsD_length, r.length, r2.length]), fun H s => ⟨Same.seqT s q, Same.seqT s q2⟩, fun i H x H' F' O' hi s st y => ?_⟩
  obtain ⟨T, u, w, e, n, e2, h1, h2⟩ := y
  subst e e2
  obtain ⟨c, c1, c2⟩ := r.getV h1
  obtain ⟨d, d1, d2⟩ := r2.getV h2
  obtain ⟨g, rr⟩ := pair_made st n (c2.mono s) (d2.mono s)
  exact ⟨_, _, pairsD_get _ _ _ _ _ c1 d1, g, rr⟩
def dZip (t u : DE) : DI := fun e O k => t e O fun d O1 => u e O1 fun d2 O2 => match d, d2 with
  | .lst xs, .lst ys => k (pairsD xs ys) O2
  | .tup xs, .tup ys => k (pairsD xs ys) O2
  | _, _ => False
theorem pid_zip {elts : List Expr} {kk : Nat} {tpos : Pos} (hg : Gl X "zip") (hm : X.mg "zip" = none) (ha : PD X a da) (hb : PD X b db) (hs : starEach [a, b] X.env = (false, eval a X.env) :: starEach [b] X.env := by rfl) (hs2 : starEach [b] X.env = [(false, eval b X.env)] := by rfl)
    (hpl : (backTo pos (starEach [b] X.env)).any (·.1) = false := by rfl) : PID X (.Tuple elts kk tpos) (.Call (.Name "zip" p) [a, b] [] pos) (dZip da db) := by
  refine ⟨_, RZ.pi_zipA hg hm (pa_cons ha.pe (pa_cons hb.pe pa_nil (by rw [hs2]; rfl)) hs) hs hpl, fun σ H R F e O k st er h o => ⟨F, e, O, _, st, er, h, fun d O1 F1 H1 v h1 g1 r1 => ⟨F1, e, O1, _, g1.stt, er.mono g1.same, h1, fun d2 O2 F2 H2 v2 h2 g2 r2 => ?_⟩⟩⟩
  try dsimp only at h2
  split at h2
  · cases r1 with
    | lst q rr => cases r2 with
      | lst q2 rr2 =>
        have q' := g2.same.seq (SqL.of (K := X.K) q)
        have q2 := SqL.of (K := X.K) q2
        exact ⟨_, _, _, _, rfl, .inl ⟨g2.stt.same.seq q', g2.stt.same.seq q2, o _ _ F2 H2 _ h2 (g1.trans g2) (it_zipL q' (rr.mono g2.same) q2 rr2)⟩⟩
  · cases r1 with
    | tup q rr => cases r2 with
      | tup q2 rr2 =>
        have q' := Same.seqT g2.same q
        exact ⟨_, _, _, _, rfl, .inr ⟨Same.seqT g2.stt.same q', Same.seqT g2.stt.same q2, o _ _ F2 H2 _ h2 (g1.trans g2) (it_zipT q' (rr.mono g2.same) q2 rr2)⟩⟩
  · exact h2.elim
def enumD (i : Nat) : List D → List D
  | [] => []
  | x :: xs => .tup [.int (i : Nat), x] :: enumD (i + 1) xs
theorem enumD_length : ∀ (i : Nat) (xs : List D), (enumD i xs).length = xs.length
  | _, [] => rfl
  | i, x :: xs => by simp [enumD, enumD_length (i + 1) xs]
theorem enumD_get : ∀ (xs : List D) (b i : Nat) (x : D), xs[i]? = some x → (enumD b xs)[i]? = some (.tup [.int ((b + i : Nat) : Int), x])
  | [], _, _, _, h => by simp at h
  | a :: xs, b, 0, x, h => by simp at h; subst h; rfl
  | a :: xs, b, i + 1, x, h => by
    have := enumD_get xs (b + 1) i x (by simpa using h)
    simp only [enumD, List.getElem?_cons_succ]
    rw [this, Nat.add_assoc, Nat.add_comm 1 i]
theorem it_enum {K : PySem.W.Frag} {F1 : Hp} {l : Addr} {xs : List V} {ds : List D} (q : SqL K F1 l xs) (r : Reps K F1 xs ds) : ItOk K F1 (Ite K l) (enumD 0 ds) := by
  refine ⟨_, _, by rw [enumD_length, ← r.length]; exact walk_enum, fun H s => s.seq q, fun i H x H' F' O' hi s st y => ?_⟩
  obtain ⟨T, u, w, e, n, e2, h1, h2⟩ := y
  subst e e2
  obtain ⟨d, d1, d2⟩ := r.getV h2
  have h1 : V.int (i : Nat) = u := Option.some.inj h1
  subst h1
  obtain ⟨g, rr⟩ := pair_made st n (.int (i : Nat)) (d2.mono s)
  refine ⟨_, _, ?_, g, rr⟩
  have z := enumD_get ds 0 i d d1
  rw [Nat.zero_add] at z
  exact z
def dEnum (t : DE) : DI := fun e O k => t e O fun d O1 => match d with
  | .lst xs => k (enumD 0 xs) O1
  | _ => False
theorem pid_enum {elts : List Expr} {kk : Nat} {tpos : Pos} (hg : Gl X "enumerate") (hm : X.mg "enumerate" = none) (ha : PD X a da) (hs : starEach [a] X.env = [(false, eval a X.env)] := by rfl) : PID X (.Tuple elts kk tpos) (.Call (.Name "enumerate" p) [a] [] pos) (dEnum da) := by
  refine ⟨_, pi_enum hg hm (pa_cons ha.pe pa_nil (by rw [hs]; rfl)) hs, fun σ H R F e O k st er h o => ⟨F, e, O, _, st, er, h, fun d O1 F1 H1 v h1 g1 r1 => ?_⟩⟩
  try dsimp only at h1
  split at h1
  · cases r1 with
    | lst q rr => exact ⟨_, _, rfl, .of (g1.stt.same _ _ q), o _ _ F1 H1 _ h1 g1 (it_enum (.of q) rr)⟩
  · exact h1.elim
end

/-! ### comprehensions -/
def relabelS (scope sc : Scope) : Scope :=
  { scope with names := scope.names.map fun (n, k) => if (k == .free && sc.kind == .function && sc.names.lookup n == some .cell) then (n, .cell) else (n, k) }
theorem relabel_S (scope : Scope) (env : Env) : relabel scope env = relabelS scope env.scope := rfl
def dAcc (g : DG) (tt : DT) (te : DE) (e : DV) (k : List D → OH → Prop) : List D → List D → OH → Prop
  | [], acc, O => k acc O
  | d :: ds, acc, O => g d e O fun e2 => tt e2 O fun b O2 => match b with
    | true => te e2 O2 fun y O3 => dAcc g tt te e k ds (acc ++ [y]) O3
    | false => dAcc g tt te e k ds acc O2
def dComp (di : DI) (g : DG) (tt : DT) (te : DE) (is : List Nat) : DE := fun e O k => di e O fun items O1 => items.length ≤ sizeLine ∧ dAcc g tt te (wipeD e is) (fun acc O2 => k (.lst acc) O2) items [] O1
structure PTsD (X : Cx) (ifs : List Expr) (t : DT) : Prop where
  pts : PTs X ifs (upT X.K t)
def dYes : DT := fun _ O k => k true O
theorem ptsd_nil {X : Cx} : PTsD X [] dYes := ⟨⟨fun pins s σ H Q I ⟨F, e, O, k, st, er, h, o⟩ => pts_nil.run pins s σ H Q I (o _ _ _ _ h st.go)⟩⟩
theorem ptsd_one {X : Cx} {c : Expr} {t : DT} (h : PTD X c t) : PTsD X [c] t := ⟨pts_one h.pt⟩
structure AccSt (K : PySem.W.Frag) (F1 : Hp) (O1 : OH) (H1 : Hp) (Dl : Addr) (n : Nat) (R : List D → OH → Prop) (H : Hp) : Prop where
  ok : ∃ F O acc xs, Go K F1 O1 H1 F O H ∧ H Dl = some (.lst xs) ∧ Reps K F xs acc ∧ F Dl = none ∧ O Dl = none ∧ acc.length ≤ n ∧ R acc O
theorem up_lc0 {K : PySem.W.Frag} {wi : TI} {gt : TG} {di : DI} {g : DG} {tt : DT} {te : DE} {is js : List Nat} (hjs : ∀ i ∈ js, i ∈ is)
    (hi : ∀ σ H R F e O k, Stt K F O H → ERep K F σ e → di e O k → (∀ items O1 F1 H1 J, k items O1 → Go K F O H F1 O1 H1 → ItOk K F1 J items → R J H1) → wi σ H R)
    (hg : ∀ v d F e O σ H k Q, Stt K F O H → ERep K F σ e → Rep K F v d → g d e O k → GOut K F js σ k H Q → gt v σ H Q)
    {σ : L2.St} {H : Hp} {Q : VK} {F : Hp} {e : DV} {O : OH} {k : List D → OH → Prop} (st : Stt K F O H) (er : ERep K F σ e) (h : di e O fun items O1 => items.length ≤ sizeLine ∧ dAcc g tt te (wipeD e is) k items [] O1)
    (o : ∀ acc O1 F1 H1 O2 F2 H2 Dl xs, k acc O2 → Go K F O H F1 O1 H1 → H1 Dl = none → Go K F1 O1 H1 F2 O2 H2 → H2 Dl = some (.lst xs) → F2 Dl = none → O2 Dl = none → Reps K F2 xs acc → Q (.ref Dl) H2) : tLc wi gt (upT K tt) (upE K te) is σ H Q := by
  refine hi σ H _ F e O _ st er h fun items O1 F1 H1 J h1 g1 it Dl nD => ?_
  obtain ⟨hz, h1⟩ := h1
  obtain ⟨G, Y, w, hG, hY⟩ := it.ok
  have erw : ERep K F1 (wipe σ is) (wipeD e is) := (er.mono g1.same).wipe is
  refine lc_it w (fun i H => AccSt K F1 O1 H1 Dl i (fun acc O => dAcc g tt te (wipeD e is) k (items.drop i) acc O) H) ?_ ?_ ?_ ?_
  · exact ⟨F1, O1, [], [], g1.stt.junk nD, upd_same, .nil, free_F g1.stt nD, free_O g1.stt nD, Nat.le_refl _, h1⟩
  · intro i H _ p
    obtain ⟨F2, O2, acc, xs, g2, _⟩ := p.ok
    exact hG H (g2.same.trans g2.stt.same)
  · intro i x H2 H3 hin p y
    obtain ⟨F2, O2, acc, xs, g2, hD, rr, fD, oD, hl, h2⟩ := p.ok
    obtain ⟨d, F3, hd, g3, rd⟩ := hY i H2 x H3 F2 O2 hin g2.same g2.stt y
    have hdr : items.drop i = d :: items.drop (i + 1) := by
      rw [List.drop_eq_getElem_cons hin]
      congr 1
      rw [List.getElem?_eq_getElem hin] at hd
      exact Option.some.inj hd
    rw [hdr] at h2
    unfold dAcc at h2
    obtain ⟨hD3, fD3, oD3⟩ := g3.frame Dl _ hD fD oD (fun _ z => by cases z)
    refine hg x d F3 _ O2 _ H3 _ _ g3.stt (erw.mono (g2.same.trans g3.same)) rd h2 fun e4 σ4 h4 er4 w4 => ⟨?_, ?_⟩
    · rw [w4 is hjs]
      apply List.ext_getElem?
      intro j
      rw [wipe_get, wipe_get]
      split
      · cases σ[j]? <;> rfl
      · rfl
    · refine ⟨F3, e4, O2, _, g3.stt, er4, h4, fun b O5 F5 H5 h5 g5 => ?_⟩
      obtain ⟨hD5, fD5, oD5⟩ := g5.frame Dl _ hD3 fD3 oD3 (fun _ z => by cases z)
      cases b with
      | true =>
        rw [if_pos rfl]
        refine ⟨F5, e4, O5, _, g5.stt, er4.mono g5.same, h5, fun y O6 F6 H6 v h6 g6 r6 => ?_⟩
        obtain ⟨hD6, fD6, oD6⟩ := g6.frame Dl _ hD5 fD5 oD5 (fun _ z => by cases z)
        refine ⟨xs, hD6, ?_, ?_⟩
        · rw [rr.length]; omega
        · have s6 : Same F2 F6 := g3.same.trans (g5.same.trans g6.same)
          have gg := g2.trans (g3.trans (g5.trans g6))
          refine ⟨F6, O6, acc ++ [y], xs ++ [v], ?_, upd_same, (rr.mono s6).append (.cons r6 .nil), fD6, oD6, by simp; omega, h6⟩
          refine Go.of g1.stt gg.same (fun b z q => ?_) (fun a ds q => ?_) (fun t ht => let ⟨t1, t2, t3⟩ := gg.stt.tabs t ht; ⟨tabS_lst t1 hD6, t2, t3⟩) (fun a z q f u nt => ?_) gg.stt.nt
          · have ne : b ≠ Dl := fun z' => by rw [z', fD6] at q; cases q
            rw [upd_ne ne]; exact gg.stt.same _ _ q
          · obtain ⟨f, ys, hh, r'⟩ := gg.stt.own a ds q
            have ne : a ≠ Dl := fun z' => by rw [z', oD6] at q; cases q
            exact ⟨f, ys, by rw [upd_ne ne]; exact hh, r'⟩
          · obtain ⟨q1, q2, q3⟩ := gg.frame a z q f u nt
            have ne : a ≠ Dl := ne_of_none q nD
            exact ⟨by rw [upd_ne ne]; exact q1, q2, q3⟩
      | false =>
        rw [if_neg (by decide)]
        exact ⟨F5, O5, acc, xs, g2.trans (g3.trans g5), hD5, rr.mono (g3.same.trans g5.same), fD5, oD5, Nat.le_succ_of_le hl, h5⟩
  · intro H2 p
    obtain ⟨F2, O2, acc, xs, g2, hD, rr, fD, oD, hl, h2⟩ := p.ok
    rw [List.drop_length] at h2
    exact o _ _ _ _ _ _ _ _ _ h2 g1 nD g2 hD fD oD rr
theorem up_lc {K : PySem.W.Frag} {wi : TI} {gt : TG} {di : DI} {g : DG} {tt : DT} {te : DE} {is js : List Nat} (hjs : ∀ i ∈ js, i ∈ is)
    (hi : ∀ σ H R F e O k, Stt K F O H → ERep K F σ e → di e O k → (∀ items O1 F1 H1 J, k items O1 → Go K F O H F1 O1 H1 → ItOk K F1 J items → R J H1) → wi σ H R)
    (hg : ∀ v d F e O σ H k Q, Stt K F O H → ERep K F σ e → Rep K F v d → g d e O k → GOut K F js σ k H Q → gt v σ H Q)
    {σ : L2.St} {H : Hp} {Q : VK} (h : upE K (dComp di g tt te is) σ H Q) : tLc wi gt (upT K tt) (upE K te) is σ H Q := by
  obtain ⟨F, e, O, k, st, er, h, o⟩ := h
  exact up_lc0 hjs hi hg st er h fun acc O1 F1 H1 O2 F2 H2 Dl xs h2 g1 nD g2 hD fD oD rr => o _ O2 (upd F2 Dl (.lst xs)) H2 _ h2 (g1.trans (Go.known g1.stt g2 nD fD oD hD)) (.lst upd_same (rr.mono (same_upd fD)))
/-- the list may still be changed -/
def dCompO (di : DI) (g : DG) (tt : DT) (te : DE) (is : List Nat) : DE := fun e O k => di e O fun items O1 => items.length ≤ sizeLine ∧ dAcc g tt te (wipeD e is) (fun acc O2 => ∀ p, O2 p = none → k (.own p) (oset O2 p acc)) items [] O1
theorem up_lcO {K : PySem.W.Frag} {wi : TI} {gt : TG} {di : DI} {g : DG} {tt : DT} {te : DE} {is js : List Nat} (hjs : ∀ i ∈ js, i ∈ is)
    (hi : ∀ σ H R F e O k, Stt K F O H → ERep K F σ e → di e O k → (∀ items O1 F1 H1 J, k items O1 → Go K F O H F1 O1 H1 → ItOk K F1 J items → R J H1) → wi σ H R)
    (hg : ∀ v d F e O σ H k Q, Stt K F O H → ERep K F σ e → Rep K F v d → g d e O k → GOut K F js σ k H Q → gt v σ H Q)
    {σ : L2.St} {H : Hp} {Q : VK} (h : upE K (dCompO di g tt te is) σ H Q) : tLc wi gt (upT K tt) (upE K te) is σ H Q := by
  obtain ⟨F, e, O, k, st, er, h, o⟩ := h
  exact up_lc0 hjs hi hg st er h fun acc O1 F1 H1 O2 F2 H2 Dl xs h2 g1 nD g2 hD fD oD rr => o _ _ F2 H2 _ (h2 Dl oD) (g1.trans (Go.adopt g1.stt g2 nD fD oD hD rr)) (.own Dl)
section
variable {X : Cx}
theorem pd_lc {elt tg iter : Expr} {ifs : List Expr} {scope : Scope} {own : List (Str × Nat)} {pos : Pos} {di : DI} {gt : TG} {g : DG} {tt : DT} {te : DE} {js : List Nat} (hc : X.calm = true) (hN : X.N.Nodup) (hi : PID X tg iter di) (ok : BlkOk X.N X.env.scope scope own)
    (hjs : ∀ i ∈ js, i ∈ own.map (·.2)) (hg : ∀ (s : Shared) (H : Hp) (C : Addr) (cl : List (Str × Addr)) (fp : List Addr), PGD (X.blk s H scope (compEnvC scope cl C X.env) fp) tg gt g js)
    (ht : ∀ (s : Shared) (H : Hp) (C : Addr) (cl : List (Str × Addr)) (fp : List Addr), PTsD (X.blk s H scope (compEnvC scope cl C X.env) fp) ifs tt)
    (he : ∀ (s : Shared) (H : Hp) (C : Addr) (cl : List (Str × Addr)) (fp : List Addr), PD (X.blk s H scope (compEnvC scope cl C X.env) fp) elt te) (hs : ∀ x, foldedSetIterable iter X.env x = pure x := by intro _; rfl) :
    PD X (.ListComp elt [⟨tg, iter, ifs, 0⟩] scope pos) (dComp di g tt te (own.map (·.2))) := by
  obtain ⟨wi, p, q⟩ := hi.pi
  exact ⟨⟨fun pins s σ H Q I h => (pe_lc hc hN p ok (fun s H C cl fp => (hg s H C cl fp).pg) (fun s H C cl fp => (ht s H C cl fp).pts) (fun s H C cl fp => (he s H C cl fp).pe) hs).run pins s σ H Q I (up_lc hjs q (hg s H 0 [] []).ok h)⟩⟩
theorem pd_lcO {elt tg iter : Expr} {ifs : List Expr} {scope : Scope} {own : List (Str × Nat)} {pos : Pos} {di : DI} {gt : TG} {g : DG} {tt : DT} {te : DE} {js : List Nat} (hc : X.calm = true) (hN : X.N.Nodup) (hi : PID X tg iter di) (ok : BlkOk X.N X.env.scope scope own)
    (hjs : ∀ i ∈ js, i ∈ own.map (·.2)) (hg : ∀ (s : Shared) (H : Hp) (C : Addr) (cl : List (Str × Addr)) (fp : List Addr), PGD (X.blk s H scope (compEnvC scope cl C X.env) fp) tg gt g js)
    (ht : ∀ (s : Shared) (H : Hp) (C : Addr) (cl : List (Str × Addr)) (fp : List Addr), PTsD (X.blk s H scope (compEnvC scope cl C X.env) fp) ifs tt)
    (he : ∀ (s : Shared) (H : Hp) (C : Addr) (cl : List (Str × Addr)) (fp : List Addr), PD (X.blk s H scope (compEnvC scope cl C X.env) fp) elt te) (hs : ∀ x, foldedSetIterable iter X.env x = pure x := by intro _; rfl) :
    PD X (.ListComp elt [⟨tg, iter, ifs, 0⟩] scope pos) (dCompO di g tt te (own.map (·.2))) := by
  obtain ⟨wi, p, q⟩ := hi.pi
  exact ⟨⟨fun pins s σ H Q I h => (pe_lc hc hN p ok (fun s H C cl fp => (hg s H C cl fp).pg) (fun s H C cl fp => (ht s H C cl fp).pts) (fun s H C cl fp => (he s H C cl fp).pe) hs).run pins s σ H Q I (up_lcO hjs q (hg s H 0 [] []).ok h)⟩⟩
end
end SC
namespace SC
open PySem PySem.Spec PyProof.Rows L2
variable [TabL] [XCx]
/-! ### statements -/
section
variable {X : Cx} {a b c : Expr} {st : Stmt} {sts rest : List Stmt} {pos : Pos} {da db dc : DE} {dt : DT} {t u : DS}
def dSkip : DS := fun k e O => k.nx e O
def dThen (t u : DS) : DS := fun k e O => t { k with nx := u k } e O
theorem pbd_nil : PBD X [] dSkip := ⟨PSs.weak pss_nil fun D σ H ⟨F, e, O, k, st, er, h, o⟩ => o.nx _ _ _ _ _ h st.go er⟩
theorem pbd_cons (h1 : PSD X st t) (h2 : PBD X rest u) : PBD X (st :: rest) (dThen t u) := by
  refine ⟨PSs.weak (pss_cons h1.ps h2.pb) fun D σ H h => ?_⟩
  obtain ⟨F, e, O, k, st, er, h, o⟩ := h
  exact ⟨F, e, O, _, st, er, h, ⟨fun e1 O1 F1 H1 σ1 h1 g1 r1 => ⟨F1, e1, O1, k, g1.stt, r1, h1, o.after g1⟩, o.rt, o.bk, o.ct⟩⟩
theorem pbd_one (h1 : PSD X st t) : PBD X [st] t := ⟨pss_one h1.ps⟩
theorem psd_pass : PSD X (.Pass pos) dSkip := ⟨PS.weak ps_pass fun D σ H ⟨F, e, O, k, st, er, h, o⟩ => o.nx _ _ _ _ _ h st.go er⟩
def dBrk : DS := fun k e O => k.bk e O
def dCont : DS := fun k e O => k.ct e O
theorem psd_break : PSD X (.Break pos) dBrk := ⟨PS.weak ps_break fun D σ H ⟨F, e, O, k, st, er, h, o⟩ => o.bk _ _ _ _ _ h st.go er⟩
theorem psd_continue : PSD X (.Continue pos) dCont := ⟨PS.weak ps_continue fun D σ H ⟨F, e, O, k, st, er, h, o⟩ => o.ct _ _ _ _ _ h st.go er⟩
def dExpr (t : DE) : DS := fun k e O => t e O fun _ O1 => k.nx e O1
theorem psd_expr (ha : PD X a da) (hs : swapsWith a none pos.line X.env = pure false := by rfl) : PSD X (.Expr a pos) (dExpr da) := by
  refine ⟨PS.weak (ps_expr ha.pe hs) fun D σ H h => ?_⟩
  obtain ⟨F, e, O, k, st, er, h, o⟩ := h
  exact ⟨F, e, O, _, st, er, h, fun d O1 F1 H1 v h1 g1 r1 => o.nx _ _ _ _ _ h1 g1 (er.mono g1.same)⟩
def dRet (t : DE) : DS := fun k e O => t e O k.rt
theorem psd_ret (ha : PD X a da) : PSD X (.Return (some a) pos) (dRet da) := by
  refine ⟨PS.weak (ps_ret ha.pe) fun D σ H h => ?_⟩
  obtain ⟨F, e, O, k, st, er, h, o⟩ := h
  exact ⟨F, e, O, _, st, er, h, o.rt⟩
def dRetN : DS := fun k _ O => k.rt .non O
theorem psd_retN : PSD X (.Return none pos) dRetN := ⟨PS.weak ps_retN fun D σ H ⟨F, e, O, k, st, er, h, o⟩ => o.rt _ _ _ _ _ h st.go .non⟩
def dIf (c : DT) (t u : DS) : DS := fun k e O => c e O fun b O1 => match b with
  | true => t k e O1
  | false => u k e O1
theorem psd_if {bt bu : List Stmt} (hc : PTD X c dt) (ha : PBD X bt t) (hb : PBD X bu u) : PSD X (.If c bt bu pos) (dIf dt t u) := by
  refine ⟨PS.weak (ps_if hc.pt ha.pb hb.pb) fun D σ H h => ?_⟩
  obtain ⟨F, e, O, k, st, er, h, o⟩ := h
  refine ⟨F, e, O, _, st, er, h, fun b O1 F1 H1 h1 g1 => ?_⟩
  cases b with
  | true => rw [if_pos rfl]; exact ⟨F1, e, O1, k, g1.stt, er.mono g1.same, h1, o.after g1⟩
  | false => rw [if_neg (by decide)]; exact ⟨F1, e, O1, k, g1.stt, er.mono g1.same, h1, o.after g1⟩
def dSet (i : Nat) (t : DE) : DS := fun k e O => t e O fun d O1 => k.nx (e.set i (some d)) O1
theorem psd_set {i : Nat} {x : Str} {pos' : Pos} (hN : X.N.Nodup) (hi : X.N[i]? = some x) (hx : Loc X.env.scope x) (ha : PD X a da) (hs : swapsWith a (some (.Name x pos')) pos.line X.env = pure false := by rfl) (hf : X.fn x = true ∨ X.env.scope.names.lookup x = some .local := by first | exact .inl rfl | exact .inr rfl | assumption) :
    PSD X (.Assign [.Name x pos'] a pos) (dSet i da) := by
  refine ⟨PS.weak (ps_set hN hi hx ha.pe hs hf) fun D σ H h => ?_⟩
  obtain ⟨F, e, O, k, st, er, h, o⟩ := h
  exact ⟨F, e, O, _, st, er, h, fun d O1 F1 H1 v h1 g1 r1 => o.nx _ _ _ _ _ h1 g1 ((er.mono g1.same).set r1 i)⟩
def dAsg (t : DE) (g : DG) : DS := fun k e O => t e O fun d O1 => g d e O1 fun e1 => k.nx e1 O1
theorem psd_asg {tg : Expr} {gt : TG} {g : DG} {is : List Nat} (ha : PD X a da) (hg : PGD X tg gt g is) (hs : swapsWithSole [tg] a pos.line X.env = pure false := by rfl) (hw : swappedStores [tg] a X.env = pure none := by rfl)
    (h1 : (assignEach [tg] X.env).map (·.2) = [assign tg X.env] := by rfl) : PSD X (.Assign [tg] a pos) (dAsg da g) := by
  refine ⟨PS.weak (ps_asg ha.pe hg.pg hs hw h1) fun D σ H h => ?_⟩
  obtain ⟨F, e, O, k, st, er, h, o⟩ := h
  exact ⟨F, e, O, _, st, er, h, fun d O1 F1 H1 v h1 g1 r1 => hg.ok v d F1 e O1 σ H1 _ _ g1.stt (er.mono g1.same) r1 h1 fun e2 σ2 h2 er2 _ => o.nx _ _ _ _ _ h2 g1 er2⟩
def dPar (i j : Nat) (t : DA) : DS := fun k e O => t e O fun xs O1 => match xs with
  | [v, w] => k.nx ((e.set i (some v)).set j (some w)) O1
  | _ => False
theorem psd_par {i j : Nat} {x y : Str} {ta : DA} {px py pt : Pos} {kt k2 pt2} (hc : X.calm = true) (hN : X.N.Nodup) (hi : X.N[i]? = some x) (hj : X.N[j]? = some y) (hij : i ≠ j)
    (hx : X.env.scope.names.lookup x = some .local) (hy : X.env.scope.names.lookup y = some .local) (ha : PAD X [a, b] ta)
    (hw : swappedStores [.Tuple [.Name x px, .Name y py] kt pt] (.Tuple [a, b] k2 pt2) X.env = pure (some [x, y]))
    (hs : swapsWithSole [.Tuple [.Name x px, .Name y py] kt pt] (.Tuple [a, b] k2 pt2) pos.line X.env = pure false := by rfl) :
    PSD X (.Assign [.Tuple [.Name x px, .Name y py] kt pt] (.Tuple [a, b] k2 pt2) pos) (dPar i j ta) := by
  refine ⟨PS.weak (ps_par hc hN hi hj hij hx hy ha.pa hw hs) fun D σ H h => ?_⟩
  obtain ⟨F, e, O, k, st, er, h, o⟩ := h
  refine ⟨F, e, O, _, st, er, h, fun ds O1 F1 H1 vs h1 g1 r1 => ?_⟩
  try dsimp only at h1
  split at h1
  · cases r1 with
    | cons r1 r2 => cases r2 with
      | cons r2 r3 =>
        cases r3
        exact ⟨_, _, rfl, o.nx _ _ _ _ _ h1 g1 (((er.mono g1.same).set r1 i).set r2 j)⟩
  · exact h1.elim
/-- o[i] = e of a list of one's own -/
def dSetIx (to ti te : DE) : DS := fun k e O => te e O fun d O1 => to e O1 fun o O2 => ti e O2 fun i O3 => match o, i with
  | .own p, .int n => match O3 p with
    | some xs => match ixN xs.length n with
      | some j => k.nx e (oset O3 p (xs.set j d))
      | none => False
    | none => False
  | _, _ => False
theorem psd_setix {tpos : Pos} (ho : PD X b db) (hi : PD X c dc) (ha : PD X a da)
    (haa : ∀ v, assign (.Subscript b c tpos) X.env v = (do
      let ov ← holding [v] (eval b X.env)
      let iv ← holding [v, ov] (eval c X.env)
      standAt tpos
      holding [v, ov, iv] (setItem ov iv v)
      release [v, ov, iv] []) := by intro _; rfl)
    (hs : swapsWithSole [.Subscript b c tpos] a pos.line X.env = pure false := by rfl) (hw : swappedStores [.Subscript b c tpos] a X.env = pure none := by rfl)
    (h1 : (assignEach [.Subscript b c tpos] X.env).map (·.2) = [assign (.Subscript b c tpos) X.env] := by rfl) : PSD X (.Assign [.Subscript b c tpos] a pos) (dSetIx db dc da) := by
  refine ⟨PS.weak (ps_asg ha.pe (pg_sub ho.pe hi.pe set_list haa) hs hw h1) fun D σ H h => ?_⟩
  obtain ⟨F, e, O, k, st, er, h, o⟩ := h
  refine ⟨F, e, O, _, st, er, h, fun d O1 F1 H1 v h1 g1 r1 => ⟨F1, e, O1, _, g1.stt, er.mono g1.same, h1, fun d2 O2 F2 H2 v2 h2 g2 r2 => ⟨F2, e, O2, _, g2.stt, er.mono (g1.same.trans g2.same), h2, fun d3 O3 F3 H3 v3 h3 g3 r3 => ?_⟩⟩⟩
  have g := g1.trans (g2.trans g3)
  try dsimp only at h3
  split at h3
  · split at h3
    · rename_i e0
      split at h3
      · rename_i j e1
        cases r2; cases r3
        obtain ⟨xs, q, rr⟩ := g.stt.rel e0
        have z := g.stt.put (xs := xs.set j v) e0 (rr.set j (r1.mono (g2.same.trans g3.same)))
        exact ⟨_, _, _, _, rfl, rfl, q, by rw [rr.length]; exact e1, o.nx _ _ _ _ _ h3 (g.trans z) (er.mono (g.trans z).same)⟩
      · exact h3.elim
    · exact h3.elim
  · exact h3.elim
/-- o.append(e) of a list of one's own -/
def dApp (to te : DE) : DS := fun k e O => to e O fun o O1 => match o with
  | .own p => match O1 p with
    | some _ => te e O1 fun d O2 => match O2 p with
      | some ys => ys.length < sizeLine ∧ k.nx e (oset O2 p (ys ++ [d]))
      | none => False
    | none => False
  | _ => False
theorem psd_app {apos cpos : Pos} (ho : PD X a da) (ha : PD X b db) (hbase : attributeBase a "append" X.env (eval a X.env) = eval a X.env := by rfl)
    (hfew : ((backTo cpos (starEach [b] X.env)).all (fun x => !x.1) && (backToKw cpos (keywordEach [] X.env)).all (fun x => x.1.isSome)
      && decide ([b].length + ([] : List Keyword).length + (if ([] : List Keyword).isEmpty then 0 else 1) < 30)) = true := by rfl)
    (hline : (apos.endLine == cpos.line) = true := by rfl) (hs : starEach [b] X.env = (false, eval b X.env) :: starEach [] X.env := by rfl) (hplain : (backTo cpos (starEach [] X.env)).any (·.1) = false := by rfl)
    (hsw : swapsWith (.Call (.Attribute a "append" apos) [b] [] cpos) none pos.line X.env = pure false := by rfl) : PSD X (.Expr (.Call (.Attribute a "append" apos) [b] [] cpos) pos) (dApp da db) := by
  refine ⟨PS.weak (ps_expr (pe_bm PySem.F.plainAttrs_list PySem.F.slot_list_append PySem.F.type_list_append mt_append ho.pe (pa_cons ha.pe pa_nil hs) hbase hfew hline hs hplain) hsw) fun D σ H h => ?_⟩
  obtain ⟨F, e, O, k, st, er, h, o⟩ := h
  refine ⟨F, e, O, _, st, er, h, fun d O1 F1 H1 v h1 g1 r1 => ?_⟩
  try dsimp only at h1
  split at h1
  · split at h1
    · rename_i e0
      cases r1
      obtain ⟨xs, q, rr⟩ := g1.stt.rel e0
      refine ⟨.inl ⟨rfl, _, .of q⟩, F1, e, O1, _, g1.stt, er.mono g1.same, h1, fun d2 O2 F2 H2 v2 h2 g2 r2 => ?_⟩
      try dsimp only at h2
      split at h2
      · rename_i e1
        obtain ⟨ys, q2, rr2⟩ := g2.stt.rel e1
        have z := g2.stt.put (xs := ys ++ [v2]) e1 (rr2.append (.cons r2 .nil))
        have g := g1.trans (g2.trans z)
        exact ⟨_, ys, v2, rfl, rfl, q2, by rw [rr2.length]; exact h2.1, o.nx _ _ _ _ _ h2.2 g (er.mono g.same)⟩
      · exact h2.elim
    · exact h1.elim
  · exact h1.elim
/-- x op= e -/
def dAug (i : Nat) (rd : R2D) (te : DE) : DS := fun k e O => match e[i]? with
  | some (some x) => te e O fun y O1 => rd x y O1 fun z O2 => k.nx (e.set i (some z)) O2
  | _ => False
theorem psd_aug {i : Nat} {x : Str} {op : Operator} {ti : TIp} {rd : R2D} {pos' : Pos} (hN : X.N.Nodup) (hi : X.N[i]? = some x) (hx : Loc X.env.scope x) (ha : PD X a da) (ho : PIp X op ti) (hr : OpD X.K ti rd)
    (hf : X.fn x = true ∨ X.env.scope.names.lookup x = some .local := by first | exact .inl rfl | exact .inr rfl | assumption) : PSD X (.AugAssign (.Name x pos') op a pos) (dAug i rd da) := by
  refine ⟨PS.weak (ps_aug hN hi hx ha.pe ho hf) fun D σ H h => ?_⟩
  obtain ⟨F, e, O, k, st, er, h, o⟩ := h
  unfold dAug at h
  split at h
  · rename_i q
    obtain ⟨v, hv, r⟩ := er.get q
    exact ⟨v, hv, F, e, O, _, st, er, h, fun d O1 F1 H1 w h1 g1 r1 => hr v w _ d F1 O1 H1 _ _ g1.stt (r.mono g1.same) r1 h1 fun d2 O2 F2 H2 w2 h2 g2 r2 => o.nx _ _ _ _ _ h2 (g1.trans g2) ((er.mono (g1.same.trans g2.same)).set r2 i)⟩
  · exact h.elim
/-- for -/
def dLoop (g : DG) (body : DS) (k : DEnds) : List D → DV → OH → Prop
  | [], e, O => k.nx e O
  | d :: ds, e, O => g d e O fun e1 => body { nx := dLoop g body k ds, rt := k.rt, bk := k.nx, ct := dLoop g body k ds } e1 O
def dFor (di : DI) (g : DG) (body : DS) : DS := fun k e O => di e O fun items O1 => dLoop g body k items e O1
theorem psd_for {iter tg : Expr} {body : List Stmt} {di : DI} {gt : TG} {g : DG} {is : List Nat} {tb : DS} (hp : PassesOwn (model X.prog X.w) X.A X.env X.xe) (hc : X.calm = true) (hi : PID X tg iter di) (hg : PGD X tg gt g is) (hb : PBD X body tb)
    (hs : ∀ x, foldedSetIterable iter X.env x = pure x := by intro _; rfl) : PSD X (.For tg iter body [] pos) (dFor di g tb) := by
  obtain ⟨wi, p, q⟩ := hi.pi
  refine ⟨PS.weak (ps_for hp hc p hg.pg hb.pb hs) fun D σ H h => ?_⟩
  obtain ⟨F, e, O, k, st, er, h, o⟩ := h
  refine q σ H _ F e O _ st er h fun items O1 F1 H1 J h1 g1 it => ?_
  obtain ⟨G, Y, w, hG, hY⟩ := it.ok
  refine for_it w (fun i σ2 H2 => ∃ F2 e2 O2, Go X.K F1 O1 H1 F2 O2 H2 ∧ ERep X.K F2 σ2 e2 ∧ dLoop g tb k (items.drop i) e2 O2) ⟨F1, e, O1, g1.stt.go, er.mono g1.same, h1⟩ ?_ ?_ ?_
  · rintro i σ2 H2 _ ⟨F2, e2, O2, g2, _⟩
    exact hG H2 (g2.same.trans g2.stt.same)
  · rintro i x σ2 H2 H3 hin ⟨F2, e2, O2, g2, er2, h2⟩ y
    obtain ⟨d, F3, hd, g3, rd⟩ := hY i H2 x H3 F2 O2 hin g2.same g2.stt y
    have hdr : items.drop i = d :: items.drop (i + 1) := by
      rw [List.drop_eq_getElem_cons hin]
      congr 1
      rw [List.getElem?_eq_getElem hin] at hd
      exact Option.some.inj hd
    rw [hdr] at h2
    unfold dLoop at h2
    refine hg.ok x d F3 e2 O2 σ2 H3 _ _ g3.stt (er2.mono g3.same) rd h2 fun e4 σ4 h4 er4 _ => ⟨F3, e4, O2, _, g3.stt, er4, h4, ?_⟩
    have gg := g1.trans (g2.trans g3)
    have nx : OutsS X.K F3 O2 H3 (dLoop g tb k (items.drop (i + 1))) (fun σ2 H2 => ∃ F2 e2 O2, Go X.K F1 O1 H1 F2 O2 H2 ∧ ERep X.K F2 σ2 e2 ∧ dLoop g tb k (items.drop (i + 1)) e2 O2) :=
      fun e5 O5 F5 H5 σ5 h5 g5 er5 => ⟨F5, e5, O5, g2.trans (g3.trans g5), er5, h5⟩
    exact ⟨nx, o.rt.after gg, o.nx.after gg, nx⟩
  · rintro σ2 H2 ⟨F2, e2, O2, g2, er2, h2⟩
    rw [List.drop_length] at h2
    exact o.nx _ _ _ _ _ h2 (g1.trans g2) er2
/-- while -/
def dWhile (c : DT) (body : DS) : DS := fun k e O => ∃ W : Nat → DV → OH → Prop, (∃ m, W m e O) ∧ ∀ m e O, W m e O → c e O fun b O1 => match b with
  | true => body { nx := fun e1 O1 => ∃ m', m' < m ∧ W m' e1 O1, rt := k.rt, bk := k.nx, ct := fun e1 O1 => ∃ m', m' < m ∧ W m' e1 O1 } e O1
  | false => k.nx e O1
theorem psd_while {body : List Stmt} {tb : DS} (hp : PassesOwn (model X.prog X.w) X.A X.env X.xe) (hc : PTD X c dt) (hb : PBD X body tb) : PSD X (.While c body [] pos) (dWhile dt tb) := by
  refine ⟨PS.weak (ps_while hp hc.pt hb.pb) fun D σ H h => ?_⟩
  obtain ⟨F, e, O, k, st, er, ⟨W, ⟨m0, w0⟩, turn⟩, o⟩ := h
  refine ⟨fun m σ2 H2 => ∃ F2 e2 O2, Go X.K F O H F2 O2 H2 ∧ ERep X.K F2 σ2 e2 ∧ W m e2 O2, ⟨m0, F, e, O, st.go, er, w0⟩, ?_⟩
  rintro m σ2 H2 ⟨F2, e2, O2, g2, er2, w2⟩
  refine ⟨F2, e2, O2, _, g2.stt, er2, turn m e2 O2 w2, fun b O3 F3 H3 h3 g3 => ?_⟩
  cases b with
  | true =>
    rw [if_pos rfl]
    refine ⟨fun σ' H' => ∃ m', m' < m ∧ ∃ F2 e2 O2, Go X.K F O H F2 O2 H' ∧ ERep X.K F2 σ' e2 ∧ W m' e2 O2, fun _ _ z => z, F3, e2, O3, _, g3.stt, er2.mono g3.same, h3, ?_⟩
    have nx : OutsS X.K F3 O3 H3 (fun e1 O1 => ∃ m', m' < m ∧ W m' e1 O1) (fun σ' H' => ∃ m', m' < m ∧ ∃ F2 e2 O2, Go X.K F O H F2 O2 H' ∧ ERep X.K F2 σ' e2 ∧ W m' e2 O2) :=
      fun e5 O5 F5 H5 σ5 ⟨m', hm, h5⟩ g5 er5 => ⟨m', hm, F5, e5, O5, g2.trans (g3.trans g5), er5, h5⟩
    exact ⟨nx, o.rt.after (g2.trans g3), o.nx.after (g2.trans g3), nx⟩
  | false =>
    rw [if_neg (by decide)]
    exact o.nx _ _ _ _ _ h3 (g2.trans g3) (er2.mono g3.same)
end
/-! ### name = [.. for ..], a name that is no cell -/
section
variable {X : Cx}
theorem psd_setLc {i : Nat} {y : Str} {py : Pos} {elt tg iter : Expr} {ifs : List Expr} {scope : Scope} {own : List (Str × Nat)} {pos spos : Pos} {di : DI} {gt : TG} {g : DG} {tt : DT} {te : DE} {js : List Nat} (hc : X.calm = true) (hN : X.N.Nodup) (hy : X.N[i]? = some y) (hyl : X.env.scope.names.lookup y = some .local)
    (hsw : swapsWith (.ListComp elt [⟨tg, iter, ifs, 0⟩] scope pos) (some (.Name y py)) spos.line X.env = pure true) (hi : PID X tg iter di) (ok : BlkOk X.N X.env.scope scope own)
    (hjs : ∀ i ∈ js, i ∈ own.map (·.2)) (hg : ∀ (s : Shared) (H : Hp) (C : Addr) (cl : List (Str × Addr)) (fp : List Addr), PGD (X.blk s H scope (compEnvC scope cl C X.env) fp) tg gt g js)
    (ht : ∀ (s : Shared) (H : Hp) (C : Addr) (cl : List (Str × Addr)) (fp : List Addr), PTsD (X.blk s H scope (compEnvC scope cl C X.env) fp) ifs tt)
    (he : ∀ (s : Shared) (H : Hp) (C : Addr) (cl : List (Str × Addr)) (fp : List Addr), PD (X.blk s H scope (compEnvC scope cl C X.env) fp) elt te) (hs : ∀ x, foldedSetIterable iter X.env x = pure x := by intro _; rfl) :
    PSD X (.Assign [.Name y py] (.ListComp elt [⟨tg, iter, ifs, 0⟩] scope pos) spos) (dSet i (dComp di g tt te (own.map (·.2)))) := by
  obtain ⟨wi, p, q⟩ := hi.pi
  refine ⟨⟨fun pins s σ H D I h => (ps_setLc (tt := upT X.K tt) (te := upE X.K te) hc hN hy hyl hsw p ok (fun s H C cl fp => (hg s H C cl fp).pg) (fun s H C cl fp => (ht s H C cl fp).pts) (fun s H C cl fp => (he s H C cl fp).pe) hs).run pins s σ H D I ?_⟩⟩
  obtain ⟨F, e, O, k, st, er, h, o⟩ := h
  exact up_lc hjs q (hg s H 0 [] []).ok ⟨F, e, O, _, st, er, h, fun d O1 F1 H1 v h1 g1 r1 => o.nx _ _ _ _ _ h1 g1 ((er.mono g1.same).set r1 i)⟩
theorem psd_setLcO {i : Nat} {y : Str} {py : Pos} {elt tg iter : Expr} {ifs : List Expr} {scope : Scope} {own : List (Str × Nat)} {pos spos : Pos} {di : DI} {gt : TG} {g : DG} {tt : DT} {te : DE} {js : List Nat} (hc : X.calm = true) (hN : X.N.Nodup) (hy : X.N[i]? = some y) (hyl : X.env.scope.names.lookup y = some .local)
    (hsw : swapsWith (.ListComp elt [⟨tg, iter, ifs, 0⟩] scope pos) (some (.Name y py)) spos.line X.env = pure true) (hi : PID X tg iter di) (ok : BlkOk X.N X.env.scope scope own)
    (hjs : ∀ i ∈ js, i ∈ own.map (·.2)) (hg : ∀ (s : Shared) (H : Hp) (C : Addr) (cl : List (Str × Addr)) (fp : List Addr), PGD (X.blk s H scope (compEnvC scope cl C X.env) fp) tg gt g js)
    (ht : ∀ (s : Shared) (H : Hp) (C : Addr) (cl : List (Str × Addr)) (fp : List Addr), PTsD (X.blk s H scope (compEnvC scope cl C X.env) fp) ifs tt)
    (he : ∀ (s : Shared) (H : Hp) (C : Addr) (cl : List (Str × Addr)) (fp : List Addr), PD (X.blk s H scope (compEnvC scope cl C X.env) fp) elt te) (hs : ∀ x, foldedSetIterable iter X.env x = pure x := by intro _; rfl) :
    PSD X (.Assign [.Name y py] (.ListComp elt [⟨tg, iter, ifs, 0⟩] scope pos) spos) (dSet i (dCompO di g tt te (own.map (·.2)))) := by
  obtain ⟨wi, p, q⟩ := hi.pi
  refine ⟨⟨fun pins s σ H D I h => (ps_setLc (tt := upT X.K tt) (te := upE X.K te) hc hN hy hyl hsw p ok (fun s H C cl fp => (hg s H C cl fp).pg) (fun s H C cl fp => (ht s H C cl fp).pts) (fun s H C cl fp => (he s H C cl fp).pe) hs).run pins s σ H D I ?_⟩⟩
  obtain ⟨F, e, O, k, st, er, h, o⟩ := h
  exact up_lcO hjs q (hg s H 0 [] []).ok ⟨F, e, O, _, st, er, h, fun d O1 F1 H1 v h1 g1 r1 => o.nx _ _ _ _ _ h1 g1 ((er.mono g1.same).set r1 i)⟩
end
/-! ### defs -/
section
variable {P : Program} {w : World} {K : PySem.W.Frag} {mg : Str → Option Value} {base : Heap}
def startD (N : List Str) (ds : List D) : DV := ds.map some ++ List.replicate (N.length - ds.length) none
theorem erep_nones {F : Hp} : ∀ n, ERep K F (List.replicate n none) (List.replicate n none)
  | 0 => .nil
  | n + 1 => .none (erep_nones n)
theorem erep_start {F : Hp} {vs : List V} {ds : List D} (r : Reps K F vs ds) (N : List Str) : ERep K F (L2.start N vs) (startD N ds) := by
  unfold L2.start startD
  rw [r.length]
  generalize N.length - ds.length = n
  induction vs generalizing ds with
  | nil => cases r; exact erep_nones n
  | cons v vs ih => cases r with
    | cons r1 r2 => exact .some r1 (ih r2)
/-- a def's body keeps its promise, on trees -/
theorem okD {x qual : Str} {st : Stmt} {f : Addr} {fd : FuncData} {N ps : List Str} {k : Nat} {sp : DSp} (F : Fun K x qual st f fd) (S : FnScope N ps (defScope st)) (len : ∀ ds O k, sp ds O k → ds.length = ps.length)
    (hbody : ∀ (cdv : Value) (A : Around) (outer : List Env) (s : Shared) (H : Hp) (E : XK), Room k (A.deeper (envOfC qual (defScope st) s.heap.objs.size f cdv)) →
      ∃ t : DS, PBD (cxOf CX0 P w K mg base N qual (defScope st) f cdv A outer s H E).nox (defBody st) t ∧ ∀ ds O (kk : D → OH → Prop), sp ds O kk → t { nx := fun _ O' => kk .non O', rt := kk } (startD N ds) O) :
    FnOk P w K mg base CX0 (k + 1) f fd ps (upSp K sp) := by
  refine F.ok S (fun vs H Q E h => ?_) fun cdv A outer s H vs Q E hr h => ?_
  · obtain ⟨F, ds, O, k, st, r, h, o⟩ := h
    rw [r.length]
    exact len _ _ _ h
  · obtain ⟨t, p, q⟩ := hbody cdv A outer s H E hr
    obtain ⟨F, ds, O, kk, st, r, h, o⟩ := h
    exact ⟨_, p.pb, F, _, O, _, st, erep_start r N, q ds O kk h, fun e' O' F' H' σ' h' g' _ => o _ _ _ _ _ h' g' .non, o, fun _ _ _ _ _ z => z.elim, fun _ _ _ _ _ z => z.elim⟩
end
end SC
namespace SC
open PySem PySem.Spec PyProof.Rows L2
variable [TabL] [XCx]
/-! ### more operations -/
section
variable {X : Cx} {a b c : Expr} {pos : Pos} {da db dc : DE}
/-- a + b: ints, texts, tuples, lists -/
def rAddA (K : PySem.W.Frag) : R2 := fun x y H Q => (∃ i j, x = .int i ∧ y = .int j ∧ Q (.int (i + j)) H) ∨ (rCatA K x y H Q ∨ rCat x y H Q)
def dAddA : R2D := fun a b O k => match a, b with
  | .int i, .int j => k (.int (i + j)) O
  | .tup xs, .tup ys => xs.length + ys.length ≤ sizeLine ∧ k (.tup (xs ++ ys)) O
  | .lst xs, .lst ys => xs.length + ys.length ≤ sizeLine ∧ k (.lst (xs ++ ys)) O
  | _, _ => False
theorem od_add {K : PySem.W.Frag} : OpD K (rAddA K) dAddA := by
  intro x y a b F O H k Q st ra rb h o
  unfold dAddA at h
  split at h
  · cases ra; cases rb
    exact .inl ⟨_, _, rfl, rfl, o _ _ _ _ _ h st.go (.int _)⟩
  · cases ra with
    | tup q rr => cases rb with
      | tup q2 rr2 =>
        refine .inr (.inl ⟨_, _, _, _, rfl, rfl, Same.seqT st.same q, Same.seqT st.same q2, by rw [rr.length, rr2.length]; exact h.1, fun z => ?_, fun _ z => ?_, fun _ _ p n => ?_⟩)
        · subst z
          cases rr
          exact o _ _ _ _ _ h.2 st.go (.tup q2 rr2)
        · subst z
          cases rr2
          exact o _ _ _ _ _ h.2 st.go (.tup q (by rw [List.append_nil]; exact rr))
        · exact o _ _ _ _ _ h.2 (st.made n) (.tup (.of upd_same) ((rr.append rr2).mono (same_upd (free_F st n))))
  · cases ra with
    | lst q rr => cases rb with
      | lst q2 rr2 => exact .inr (.inr ⟨_, _, _, _, rfl, rfl, st.same _ _ q, st.same _ _ q2, by rw [rr.length, rr2.length]; exact h.1, fun p n => o _ _ _ _ _ h.2 (st.made n) (.lst upd_same ((rr.append rr2).mono (same_upd (free_F st n))))⟩)
  · exact h.elim
theorem pd_addA (ha : PD X a da) (hb : PD X b db) : PD X (.BinOp a .Add b pos) (dOp dAddA da db) := pd_op (OpR.or op_add (OpR.or op_catA op_cat)) od_add ha hb
/-- in, of flat items -/
def flatF : D → Bool
  | .non => true | .bl _ => true | .int _ => true | .str _ => true
  | _ => false
noncomputable def eqF : D → D → Bool
  | .non, .non => true
  | .bl a, .bl b => a == b
  | .bl a, .int b => (if a then 1 else 0) == b
  | .int a, .bl b => a == (if b then 1 else 0)
  | .int a, .int b => a == b
  | .str a, .str b => strEq a b
  | _, _ => false
theorem flatF_V {K : PySem.W.Frag} {F : Hp} {x : V} {d : D} (r : Rep K F x d) (h : flatF d = true) : flatV x = true := by cases r <;> first | rfl | cases h
theorem eqF_V {K : PySem.W.Frag} {F : Hp} {x y : V} {c d : D} (r : Rep K F x c) (s : Rep K F y d) (hc : flatF c = true) (hd : flatF d = true) : eqV x y = eqF c d := by
  cases r <;> first | (cases hc; done) | (cases s <;> first | rfl | (cases hd; done) | (show (_ == _) = strEq _ _; rw [strEq_eq, Bool.beq_eq_decide_eq]))
theorem flatF_all {K : PySem.W.Frag} {F : Hp} : ∀ {vs : List V} {ds : List D}, Reps K F vs ds → ds.all flatF = true → vs.all flatV = true
  | _, _, .nil, _ => rfl
  | _, _, .cons r rr, h => by
    simp only [List.all_cons, Bool.and_eq_true] at h ⊢
    exact ⟨flatF_V r h.1, flatF_all rr h.2⟩
theorem inF_V {K : PySem.W.Frag} {F : Hp} {x : V} {d : D} (r : Rep K F x d) (hd : flatF d = true) : ∀ {vs : List V} {ds : List D}, Reps K F vs ds → ds.all flatF = true → inV x vs = ds.any fun y => eqF y d
  | _, _, .nil, _ => rfl
  | _, _, .cons s rr, h => by
    simp only [List.all_cons, Bool.and_eq_true] at h
    have z := inF_V r hd rr h.2
    unfold inV at z ⊢
    rw [List.any_cons, List.any_cons, z, eqF_V s r h.1 hd]
noncomputable def dIn (neg : Bool) : R2D := fun a b O k => match b with
  | .tup xs => (flatF a = true ∧ xs.all flatF = true) ∧ k (.bl (if neg then !(xs.any fun y => eqF y a) else xs.any fun y => eqF y a)) O
  | .lst xs => (flatF a = true ∧ xs.all flatF = true) ∧ k (.bl (if neg then !(xs.any fun y => eqF y a) else xs.any fun y => eqF y a)) O
  | _ => False
theorem od_in {K : PySem.W.Frag} {neg : Bool} : OpD K (rIn K neg) (dIn neg) := by
  intro x y a b F O H k Q st ra rb h o
  unfold dIn at h
  split at h
  · cases rb with
    | tup q rr => exact ⟨_, _, rfl, .inr (Same.seqT st.same q), flatF_V ra h.1.1, flatF_all rr h.1.2, by rw [inF_V ra h.1.1 rr h.1.2]; exact o _ _ _ _ _ h.2 st.go (.bl _)⟩
  · cases rb with
    | lst q rr => exact ⟨_, _, rfl, .inl (.of (st.same _ _ q)), flatF_V ra h.1.1, flatF_all rr h.1.2, by rw [inF_V ra h.1.1 rr h.1.2]; exact o _ _ _ _ _ h.2 st.go (.bl _)⟩
  · exact h.elim
theorem pd_in (ha : PD X a da) (hb : PD X b db) (hm : behindInMarks .In b = false := by rfl) : PD X (.Compare a [.In] [b] pos) (dOp (dIn false) da db) := pd_cmp op_in_seq od_in ha hb hm
theorem ptd_in (ha : PD X a da) (hb : PD X b db) (hm : behindInMarks .In b = false := by rfl) : PTD X (.Compare a [.In] [b] pos) (dB (dOp (dIn false) da db)) := ptd_cmp op_in_seq od_in ha hb hm
omit [TabL] [XCx] in
/-- a written tuple of texts at the top -/
theorem rep_txts {K : PySem.W.Frag} {a : Addr} {od : Option Addr} {xs : List Str} {its : List Value} {n : Nat} {sl : Array (Option Value)} (l : K.lookup a = some ⟨.type "tuple", od, .seq its.toArray n, sl⟩) (r : Vals (xs.map V.str) its) (hz : its.length ≤ 1000) (F : Hp) :
    Rep K F (.ref a) (.tup (xs.map D.str)) := by
  refine .tup (xs := xs.map V.str) (.inr ⟨_, _, _, l, rfl, rfl, ?_, ?_⟩) ?_
  · simpa using Nat.le_of_lt (small1000 hz)
  · simpa using r
  · clear r l
    induction xs with
    | nil => exact .nil
    | cons x xs ih => exact .cons (.str x) ih
end
def dPar3 (i j l : Nat) (t : DA) : DS := fun k e O => t e O fun xs O1 => match xs with
  | [u, v, w] => k.nx (((e.set i (some u)).set j (some v)).set l (some w)) O1
  | _ => False
theorem psd_par3 {X : Cx} {i j l : Nat} {x y z : Str} {a b c : Expr} {ta : DA} {px py pz pt pos : Pos} {kt k2 pt2} (hc : X.calm = true) (hN : X.N.Nodup) (hi : X.N[i]? = some x) (hj : X.N[j]? = some y) (hl : X.N[l]? = some z) (hij : i ≠ j) (hil : i ≠ l) (hjl : j ≠ l)
    (hx : X.env.scope.names.lookup x = some .local) (hy : X.env.scope.names.lookup y = some .local) (hz : X.env.scope.names.lookup z = some .local) (ha : PAD X [a, b, c] ta)
    (hw : swappedStores [.Tuple [.Name x px, .Name y py, .Name z pz] kt pt] (.Tuple [a, b, c] k2 pt2) X.env = pure (some [x, y, z]))
    (hs : swapsWithSole [.Tuple [.Name x px, .Name y py, .Name z pz] kt pt] (.Tuple [a, b, c] k2 pt2) pos.line X.env = pure false := by rfl) :
    PSD X (.Assign [.Tuple [.Name x px, .Name y py, .Name z pz] kt pt] (.Tuple [a, b, c] k2 pt2) pos) (dPar3 i j l ta) := by
  refine ⟨PS.weak (ps_par3 hc hN hi hj hl hij hil hjl hx hy hz ha.pa hw hs) fun D σ H h => ?_⟩
  obtain ⟨F, e, O, k, st, er, h, o⟩ := h
  refine ⟨F, e, O, _, st, er, h, fun ds O1 F1 H1 vs h1 g1 r1 => ?_⟩
  try dsimp only at h1
  split at h1
  · cases r1 with
    | cons r1 r2 => cases r2 with
      | cons r2 r3 => cases r3 with
        | cons r3 r4 =>
          cases r4
          exact ⟨_, _, _, rfl, o.nx _ _ _ _ _ h1 g1 ((((er.mono g1.same).set r1 i).set r2 j).set r3 l)⟩
  · exact h1.elim
/-! ### subscripts by small numbers, for simp -/
section
variable {α : Type} {x y z w v : α} {xs : List α}
theorem atI_0 : atI (x :: xs) 0 = some x := atI_nat (j := 0) rfl
theorem atI_1 : atI (x :: y :: xs) 1 = some y := atI_nat (j := 1) rfl
theorem atI_2 : atI (x :: y :: z :: xs) 2 = some z := atI_nat (j := 2) rfl
theorem atI_3 : atI (x :: y :: z :: w :: xs) 3 = some w := atI_nat (j := 3) rfl
theorem atI_4 : atI (x :: y :: z :: w :: v :: xs) 4 = some v := atI_nat (j := 4) rfl
end
end SC
namespace SC
open PySem PySem.Spec PyProof.Rows L2
variable [TabL] [XCx]
/-! ### zip of three tuples -/
def Itz3 (K : PySem.W.Frag) (a b c : Addr) : It :=
  ⟨fun i H => ∃ (xs ys zs : List V) (x y z : V), SqT K H a xs ∧ SqT K H b ys ∧ SqT K H c zs ∧ xs[i]? = some x ∧ ys[i]? = some y ∧ zs[i]? = some z,
    fun i H v H' => ∃ T x y z, v = .ref T ∧ H T = none ∧ H' = upd H T (.tup [x, y, z]) ∧ (∀ xs, SqT K H a xs → xs[i]? = some x) ∧ (∀ ys, SqT K H b ys → ys[i]? = some y) ∧ ∀ zs, SqT K H c zs → zs[i]? = some z,
    fun i H => ∃ xs ys zs : List V, SqT K H a xs ∧ SqT K H b ys ∧ SqT K H c zs ∧ xs.length = ys.length ∧ xs.length = zs.length ∧ i = xs.length⟩
structure Sep3 (z TI TO i1 i2 i3 a b c : Addr) : Prop where
  s : ZipSep3 z TI TO i1 i2 i3 [i1, a] [i2, b] [i3, c]
  a1 : a ≠ i1
  b2 : b ≠ i2
  c3 : c ≠ i3
  i1z : i1 ≠ z
  i2z : i2 ≠ z
  i3z : i3 ≠ z
theorem tupIter_at {h h' : Heap} {it l : Addr} {i : Nat} (x : h.IsTupleIter it l i) (k : ∀ o, h.get? it = some o → h'.get? it = some o) : h'.IsTupleIter it l i := x.at k
theorem turn_zip3 {P : Program} {w : World} {K : PySem.W.Frag} {elts : List Expr} {kk : Nat} {tpos : Pos} {a b c z TI TO i1 i2 i3 : Addr} (D : Sep3 z TI TO i1 i2 i3 a b c) :
    Turn P w K (.Tuple elts kk tpos) (Itz3 K a b c) [z, TI, TO, i1, i2, i3] z (fun i h => IsZip h z TI TO .none ∧ IsTupOf3 h TI (.ref i1) (.ref i2) (.ref i3) ∧ (∃ x y u, IsTupOf3 h TO x y u) ∧ h.IsTupleIter i1 a i ∧ h.IsTupleIter i2 b i ∧ h.IsTupleIter i3 c i) where
  mem := by simp
  obj := fun i h st e he => by
    obtain ⟨hz, hTI, ⟨x, y, u, hTO⟩, ⟨o1, e1, _, d1⟩, ⟨o2, e2, _, d2⟩, ⟨o3, e3, _, d3⟩⟩ := st
    have e' : e = z ∨ e = TI ∨ e = TO ∨ e = i1 ∨ e = i2 ∨ e = i3 := by simpa using he
    rcases e' with q | q | q | q | q | q
    · rw [q]; exact ⟨_, hz, fun v q => nomatch q⟩
    · rw [q]; exact ⟨_, hTI, fun v q => nomatch q⟩
    · rw [q]; exact ⟨_, hTO, fun v q => nomatch q⟩
    · rw [q]; exact ⟨o1, e1, fun v q => by rw [d1] at q; cases q⟩
    · rw [q]; exact ⟨o2, e2, fun v q => by rw [d2] at q; cases q⟩
    · rw [q]; exact ⟨o3, e3, fun v q => by rw [d3] at q; cases q⟩
  keep := fun i h h' st k => by
    obtain ⟨hz, hTI, ⟨x, y, u, hTO⟩, h1, h2, h3⟩ := st
    exact ⟨k z (by simp) _ hz, k TI (by simp) _ hTI, ⟨x, y, u, k TO (by simp) _ hTO⟩, h1.at fun o q => k i1 (by simp) o q, h2.at fun o q => k i2 (by simp) o q, h3.at fun o q => k i3 (by simp) o q⟩
  item := by
    intro X hP hw hK hc i pins s σ H E I hf st hg
    subst hP hw hK
    obtain ⟨hz, hTI, ⟨x0, y0, u0, hTO⟩, h1, h2, h3⟩ := st
    obtain ⟨xs, ys, zs, x, y, u, hqx, hqy, hqz, hx, hy, hu⟩ := hg
    obtain ⟨its1, rv1, p1, _⟩ := I.tuple hqx
    obtain ⟨its2, rv2, p2, _⟩ := I.tuple hqy
    obtain ⟨its3, rv3, p3, _⟩ := I.tuple hqz
    obtain ⟨v1, hv1, r1⟩ := rv1.get hx
    obtain ⟨v2, hv2, r2⟩ := rv2.get hy
    obtain ⟨v3, hv3, r3⟩ := rv3.get hu
    have hzl : z < s.heap.objs.size := Heap.lt_size hz
    have lt {its : List Value} {v : Value} (e : its[i]? = some v) : i < its.toArray.size := by rw [List.size_toArray]; exact (List.getElem?_eq_some_iff.mp e).1
    refine wpAny_pyNext_zipD3_item D.s (Draws.tuple (prog := X.prog) (w := X.w) (A := X.A.in1) (show X.A.in1.handled = none from I.ok.hd hc) i1 a D.a1 its1.toArray) (Draws.tuple (prog := X.prog) (w := X.w) (A := X.A.in1) (show X.A.in1.handled = none from I.ok.hd hc) i2 b D.b2 its2.toArray) (Draws.tuple (prog := X.prog) (w := X.w) (A := X.A.in1) (show X.A.in1.handled = none from I.ok.hd hc) i3 c D.c3 its3.toArray) hz hTI hTO
      ⟨h1, p1⟩ ⟨h2, p2⟩ ⟨h3, p3⟩ (lt hv1) (lt hv2) (lt hv3) fun w1 w2 w3 h' tk q1 q2 q3 z' TO' t1 t2 t3 hT hsz hk => ?_
    have e1 : w1 = v1 := Option.some.inj (q1.symm.trans (by simpa using hv1))
    have e2 : w2 = v2 := Option.some.inj (q2.symm.trans (by simpa using hv2))
    have e3 : w3 = v3 := Option.some.inj (q3.symm.trans (by simpa using hv3))
    subst e1 e2 e3
    refine ⟨_, rfl, wpAny_letOwnedTupleGo_zip (s := { s with heap := h', toks := tk }) z' fun h'' z'' sb => ?_⟩
    have hT2 : h''.get? s.heap.objs.size = some { cls := .type "tuple", data := .seq #[w1, w2, w3] } := (sb.2 _ (Nat.ne_of_gt hzl)).trans hT
    have new : ObjOk X.prog X.w (upd H s.heap.objs.size (.tup [x, y, u])) h'' s.heap.objs.size (.tup [x, y, u]) :=
      ⟨by show 3 ≤ sizeLine; decide, [w1, w2, w3], .cons r1 (.cons r2 (.cons r3 .nil)), ⟨_, hT2, rfl, _, rfl⟩⟩
    have I1 : Inv X pins σ (upd H s.heap.objs.size (.tup [x, y, u])) { s with heap := h'', toks := tk } :=
      I.turnedNew (t' := tk) (ch := [z, TI, TO, i1, i2, i3]) (fun c o hb q => (sb.2 c (fun q' => hb (by simp [q']))).trans (hk c o (fun q' => hb (by simp [q'])) (fun q' => hb (by simp [q'])) (fun q' => hb (by simp [q'])) (fun q' => hb (by simp [q'])) (fun q' => hb (by simp [q'])) q)) hf (Nat.le_refl _) new
    refine ⟨.ref s.heap.objs.size, _, I1, rfl, ⟨_, x, y, u, rfl, I.hok.fresh (Nat.le_refl _), rfl, fun l hl => by rw [I.tuple_inj hl hqx]; exact hx, fun l hl => by rw [I.tuple_inj hl hqy]; exact hy, fun l hl => by rw [I.tuple_inj hl hqz]; exact hu⟩, ⟨z'', ?_, ⟨w1, w2, w3, ?_⟩, ?_, ?_, ?_⟩, fun e hem => ?_⟩
    · exact (sb.2 _ D.s.TIz).trans (hk _ _ D.s.TIz D.s.TITO D.s.TIi1 D.s.TIi2 D.s.TIi3 hTI)
    · exact (sb.2 _ D.s.TOz).trans TO'
    · exact t1.1.at fun o q => (sb.2 _ D.i1z).trans q
    · exact t2.1.at fun o q => (sb.2 _ D.i2z).trans q
    · exact t3.1.at fun o q => (sb.2 _ D.i3z).trans q
    · have hlt : e < s.heap.objs.size := by
        have e' : e = z ∨ e = TI ∨ e = TO ∨ e = i1 ∨ e = i2 ∨ e = i3 := by simpa using hem
        rcases e' with q | q | q | q | q | q
        · rw [q]; exact hzl
        · rw [q]; exact Heap.lt_size hTI
        · rw [q]; exact Heap.lt_size hTO
        · rw [q]; obtain ⟨_, e1, _⟩ := h1; exact Heap.lt_size e1
        · rw [q]; obtain ⟨_, e1, _⟩ := h2; exact Heap.lt_size e1
        · rw [q]; obtain ⟨_, e1, _⟩ := h3; exact Heap.lt_size e1
      rw [upd_ne (Nat.ne_of_lt hlt)]
      exact (hf e hem).1
  done := by
    intro X hP hw hK hc i pins s σ H E I hf st hg
    subst hP hw hK
    obtain ⟨hz, hTI, ⟨x0, y0, u0, hTO⟩, h1, h2, h3⟩ := st
    obtain ⟨xs, ys, zs, hqx, hqy, hqz, l1, l2, rfl⟩ := hg
    obtain ⟨its1, rv1, p1, _⟩ := I.tuple hqx
    obtain ⟨its2, rv2, p2, _⟩ := I.tuple hqy
    obtain ⟨its3, rv3, p3, _⟩ := I.tuple hqz
    have m1 := rv1.length
    have m2 := rv2.length
    have m3 := rv3.length
    refine wpAny_pyNext_zipD3_end D.s (Draws.tuple (prog := X.prog) (w := X.w) (A := X.A.in1) (show X.A.in1.handled = none from I.ok.hd hc) i1 a D.a1 its1.toArray) (Draws.tuple (prog := X.prog) (w := X.w) (A := X.A.in1) (show X.A.in1.handled = none from I.ok.hd hc) i2 b D.b2 its2.toArray) (Draws.tuple (prog := X.prog) (w := X.w) (A := X.A.in1) (show X.A.in1.handled = none from I.ok.hd hc) i3 c D.c3 its3.toArray) hz hTI hTO
      ⟨h1, p1⟩ ⟨h2, p2⟩ ⟨h3, p3⟩ (by rw [List.size_toArray]; omega) (by rw [List.size_toArray]; omega) (by rw [List.size_toArray]; omega) (.inl (by rw [List.size_toArray]; omega)) fun h' tk hk => ?_
    exact ⟨rfl, I.turnedL (t' := tk) (ch := [z, TI, TO, i1, i2, i3]) (fun c o hb q =>
      hk c o (fun q' => hb (by simp [q'])) (fun q' => hb (by simp [q'])) (fun q' => hb (by simp [q'])) (fun q' => hb (by simp [q'])) (fun q' => hb (by simp [q'])) q) hf⟩
  self := fun A i s Q E st h => wpAny_pyIter_zip st.1 h
def iZip3 (K : PySem.W.Frag) (ta : TA) : TI := fun σ H R => ta σ H fun vs H1 => ∃ a b c xs ys zs, vs = [.ref a, .ref b, .ref c] ∧ SqT K H1 a xs ∧ SqT K H1 b ys ∧ SqT K H1 c zs ∧ R (Itz3 K a b c) H1
theorem pi_zip3 {X : Cx} {e e2 e3 : Expr} {ta : TA} {p pos tpos : Pos} {elts : List Expr} {kk : Nat} (hg : Gl X "zip") (hm : X.mg "zip" = none) (ha : PA X [e, e2, e3] ta)
    (hs : starEach [e, e2, e3] X.env = (false, eval e X.env) :: starEach [e2, e3] X.env := by rfl) (hpl : (backTo pos (starEach [e2, e3] X.env)).any (·.1) = false := by rfl) :
    PI X (.Tuple elts kk tpos) (.Call (.Name "zip" p) [e, e2, e3] [] pos) (iZip3 X.K ta) := by
  refine ⟨fun pins s σ H R I h => ?_⟩
  refine Call_ (ld_blt I hg hm PyProof.Rows.boot_zip (PyProof.Rows.callWith_type1 (thn (ha.run pos pins s σ H _ I h) fun us s1 ⟨vs, H1, I1, r1, q1⟩ => ?_) hs hpl))
  obtain ⟨a, b, c, xs, ys, zs, ex, hqx, hqy, hqz, q⟩ := q1
  subst ex
  cases r1 with
  | cons r rr => cases rr with
    | cons r' rr => cases rr with
      | cons r'' rr =>
        cases rr; cases r; cases r'; cases r''
        obtain ⟨its1, rv1, p1, _⟩ := I1.tuple hqx
        obtain ⟨its2, rv2, p2, _⟩ := I1.tuple hqy
        obtain ⟨its3, rv3, p3, _⟩ := I1.tuple hqz
        have ha : a < s1.heap.objs.size := p1.lt
        have hb : b < s1.heap.objs.size := p2.lt
        have hc : c < s1.heap.objs.size := p3.lt
        refine zip_begins3 (begins_tuple a its1.toArray) (begins_tuple b its2.toArray) (begins_tuple c its3.toArray) p1 p2 p3 fun h' hz hTI hTO h1 h2 h3 hsz hk => wpAny_pyIter_zip hz ?_
        have I2 : Inv X pins σ H1 { s1 with heap := h' } := I1.kept (t' := s1.toks) hk
        have fresh6 : ∀ c, c ∈ [s1.heap.objs.size + 5, s1.heap.objs.size + 3, s1.heap.objs.size + 4, s1.heap.objs.size, s1.heap.objs.size + 1, s1.heap.objs.size + 2] → FpOk X pins H1 c := fun c hcm => by
          have e' : c = s1.heap.objs.size + 5 ∨ c = s1.heap.objs.size + 3 ∨ c = s1.heap.objs.size + 4 ∨ c = s1.heap.objs.size ∨ c = s1.heap.objs.size + 1 ∨ c = s1.heap.objs.size + 2 := by simpa using hcm
          have hle : s1.heap.objs.size ≤ c := by
            rcases e' with z | z | z | z | z | z <;> rw [z] <;> first | exact Nat.le_refl _ | exact Nat.le_add_right _ _
          exact I1.fpOk hle (I1.hok.fresh hle)
        have sep := zip_sep3 (N := s1.heap.objs.size) (fp1 := [a]) (fp2 := [b]) (fp3 := [c]) (fun e he => by rw [List.mem_singleton.mp he]; exact ha) (fun e he => by rw [List.mem_singleton.mp he]; exact hb) (fun e he => by rw [List.mem_singleton.mp he]; exact hc)
        exact ⟨s1.heap.objs.size + 5, [s1.heap.objs.size + 5, s1.heap.objs.size + 3, s1.heap.objs.size + 4, s1.heap.objs.size, s1.heap.objs.size + 1, s1.heap.objs.size + 2], _, _, H1, rfl, I2,
          turn_zip3 ⟨sep, Nat.ne_of_lt ha, Nat.ne_of_lt (Nat.lt_succ_of_lt hb), Nat.ne_of_lt (Nat.lt_succ_of_lt (Nat.lt_succ_of_lt hc)), show (s1.heap.objs.size : Nat) ≠ s1.heap.objs.size + 5 by omega, show (s1.heap.objs.size + 1 : Nat) ≠ s1.heap.objs.size + 5 by omega, show (s1.heap.objs.size + 2 : Nat) ≠ s1.heap.objs.size + 5 by omega⟩,
          ⟨hz, hTI, ⟨_, _, _, hTO⟩, ⟨_, h1, rfl, rfl⟩, ⟨_, h2, rfl, rfl⟩, ⟨_, h3, rfl, rfl⟩⟩, fresh6, q⟩
def trip : List D → List D → List D → List D
  | x :: xs, y :: ys, z :: zs => .tup [x, y, z] :: trip xs ys zs
  | _, _, _ => []
theorem trip_length : ∀ xs ys zs : List D, xs.length = ys.length → xs.length = zs.length → (trip xs ys zs).length = xs.length
  | [], _, _, _, _ => by simp [trip]
  | x :: xs, [], _, h, _ => by simp at h
  | x :: xs, _ :: _, [], _, h => by simp at h
  | x :: xs, y :: ys, z :: zs, h1, h2 => by simp [trip, trip_length xs ys zs (by simpa using h1) (by simpa using h2)]
theorem trip_get : ∀ (xs ys zs : List D) (i : Nat) (x y z : D), xs[i]? = some x → ys[i]? = some y → zs[i]? = some z → (trip xs ys zs)[i]? = some (.tup [x, y, z])
  | [], _, _, _, _, _, _, h, _, _ => by simp at h
  | _ :: _, [], _, _, _, _, _, _, h, _ => by simp at h
  | _ :: _, _ :: _, [], _, _, _, _, _, _, h => by simp at h
  | a :: xs, b :: ys, c :: zs, 0, x, y, z, h, h2, h3 => by simp at h h2 h3; subst h h2 h3; rfl
  | a :: xs, b :: ys, c :: zs, i + 1, x, y, z, h, h2, h3 => trip_get xs ys zs i x y z (by simpa using h) (by simpa using h2) (by simpa using h3)
def dZip3 (t u v : DE) : DI := fun e O k => t e O fun d O1 => u e O1 fun d2 O2 => v e O2 fun d3 O3 => match d, d2, d3 with
  | .tup xs, .tup ys, .tup zs => (xs.length = ys.length ∧ xs.length = zs.length) ∧ k (trip xs ys zs) O3
  | _, _, _ => False
theorem pid_zip3 {X : Cx} {a b c : Expr} {da db dc : DE} {p pos : Pos} {elts : List Expr} {kk : Nat} {tpos : Pos} (hg : Gl X "zip") (hm : X.mg "zip" = none) (ha : PD X a da) (hb : PD X b db) (hc : PD X c dc)
    (hs : starEach [a, b, c] X.env = (false, eval a X.env) :: starEach [b, c] X.env := by rfl) (hs2 : starEach [b, c] X.env = (false, eval b X.env) :: starEach [c] X.env := by rfl) (hs3 : starEach [c] X.env = [(false, eval c X.env)] := by rfl)
    (hpl : (backTo pos (starEach [b, c] X.env)).any (·.1) = false := by rfl) : PID X (.Tuple elts kk tpos) (.Call (.Name "zip" p) [a, b, c] [] pos) (dZip3 da db dc) := by
  refine ⟨_, pi_zip3 hg hm (pa_cons ha.pe (pa_cons hb.pe (pa_cons hc.pe pa_nil (by rw [hs3] <;> rfl)) hs2) hs) hs hpl, fun σ H R F e O k st er h o => ⟨F, e, O, _, st, er, h, fun d O1 F1 H1 v h1 g1 r1 => ⟨F1, e, O1, _, g1.stt, er.mono g1.same, h1, fun d2 O2 F2 H2 v2 h2 g2 r2 => ⟨F2, e, O2, _, g2.stt, er.mono (g1.same.trans g2.same), h2, fun d3 O3 F3 H3 v3 h3 g3 r3 => ?_⟩⟩⟩⟩
  try dsimp only at h3
  split at h3
  · rename_i xs ys zs
    obtain ⟨⟨l1, l2⟩, h3⟩ := h3
    have r1 := r1.mono (g2.same.trans g3.same)
    have r2 := r2.mono g3.same
    cases r1 with
    | @tup a1 us1 _ q1 rr1 => cases r2 with
      | @tup a2 us2 _ q2 rr2 => cases r3 with
        | @tup a3 us3 _ q3 rr3 =>
          refine ⟨_, _, _, _, _, _, rfl, Same.seqT g3.stt.same q1, Same.seqT g3.stt.same q2, Same.seqT g3.stt.same q3, o _ _ F3 H3 _ h3 (g1.trans (g2.trans g3)) ?_⟩
          have m1 := rr1.length
          have m2 := rr2.length
          have m3 := rr3.length
          refine ⟨fun H => SqT X.K H a1 us1 ∧ SqT X.K H a2 us2 ∧ SqT X.K H a3 us3, fun i H v H' => ∃ T x y z, v = .ref T ∧ H T = none ∧ H' = upd H T (.tup [x, y, z]) ∧ us1[i]? = some x ∧ us2[i]? = some y ∧ us3[i]? = some z, ?_, fun H s => ⟨Same.seqT s q1, Same.seqT s q2, Same.seqT s q3⟩, ?_⟩
          · rw [trip_length _ _ _ l1 l2]
            refine ⟨fun i H hi q => ?_, fun H q => ⟨us1, us2, us3, q.1, q.2.1, q.2.2, by omega, by omega, by omega⟩, fun i H x H' hi q y => ?_⟩
            · exact ⟨us1, us2, us3, us1[i]'(by omega), us2[i]'(by omega), us3[i]'(by omega), q.1, q.2.1, q.2.2, by simp [show i < us1.length by omega], by simp [show i < us2.length by omega], by simp [show i < us3.length by omega]⟩
            · obtain ⟨T, x, y, z, h1, h2, h3, h4, h5, h6⟩ := y
              exact ⟨T, x, y, z, h1, h2, h3, h4 _ q.1, h5 _ q.2.1, h6 _ q.2.2⟩
          · intro i H x H' F' O' hi s st y
            obtain ⟨T, x, y, z, e1, n, e2, y1, y2, y3⟩ := y
            subst e1 e2
            obtain ⟨c1, d1, f1⟩ := rr1.getV y1
            obtain ⟨c2, d2, f2⟩ := rr2.getV y2
            obtain ⟨c3, d3, f3⟩ := rr3.getV y3
            have sm := same_upd (o := .tup [x, y, z]) (free_F st n)
            have s2 := s.trans sm
            exact ⟨_, _, trip_get _ _ _ _ _ _ _ d1 d2 d3, st.made n, .tup (.of upd_same) (.cons (f1.mono s2) (.cons (f2.mono s2) (.cons (f3.mono s2) .nil)))⟩
  · exact h3.elim
/-! ### the law's own def -/
/-- handed a list of ints, the tables empty, it tells True -/
def spTop (K : PySem.W.Frag) : Sp := fun vs H Q _ => ∃ (a : Addr) (ns : List Int), vs = [.ref a] ∧ SqL K H a (ns.map V.int) ∧ ns.length ≤ 63 ∧ (∀ t ∈ TabL.tabs, H t.1 = some (.tbl #[])) ∧ ∀ H', Q (.bl true) H'
def spLaw : DSp := fun ds O k => ∃ ns : List Int, ds = [.fz (ns.map D.int)] ∧ ns.length ≤ 63 ∧ ∀ O', k (.bl true) O'
theorem reps_ints {K : PySem.W.Frag} {F : Hp} : ∀ ns : List Int, Reps K F (ns.map V.int) (ns.map D.int)
  | [] => .nil
  | n :: ns => .cons (.int n) (reps_ints ns)
/-- what is known at the begin: all but the tables -/
def noTab (H : Hp) : Hp := fun b => match H b with
  | some (.tbl _) => none
  | x => x
theorem noTab_same (H : Hp) : Same (noTab H) H := fun b x e => by
  unfold noTab at e
  split at e
  · cases e
  · exact e
theorem noTab_of {H : Hp} {b : Addr} {o : HO} (h : H b = some o) (n : ∀ ps, o ≠ .tbl ps) : noTab H b = some o := by
  unfold noTab
  split
  · rename_i ps e
    rw [h] at e
    exact (n _ (Option.some.inj e)).elim
  · exact h
theorem noTab_tab {H : Hp} {b : Addr} {ps : Array Value} (h : H b = some (.tbl ps)) : noTab H b = none := by
  unfold noTab
  rw [h]
omit [XCx] in
theorem top_imp {K : PySem.W.Frag} : ∀ vs H Q E, spTop K vs H Q E → @upSp _ XCx.nil K spLaw vs H Q E := by
  letI : XCx := XCx.nil
  intro vs H Q E h
  obtain ⟨a, ns, rfl, hS, hl, hT, q⟩ := h
  have hS' : SqL K (noTab H) a (ns.map V.int) := by
    rcases hS with (h | ⟨o, h⟩) | h
    · exact .inl (.inl (noTab_of h fun _ z => by cases z))
    · exact .inl (.inr ⟨o, noTab_of h fun _ z => by cases z⟩)
    · exact .inr h
  refine ⟨noTab H, [.fz (ns.map D.int)], fun _ => none, fun d _ => d = .bl true, ⟨noTab_same H, (fun _ _ z => by cases z), fun t ht => ⟨LamX.TabS.nil (hT t ht), noTab_tab (hT t ht), rfl⟩, ⟨(fun _ _ z => by cases z), fun _ _ z => by cases z⟩, fun b ps z => by
    have z' := noTab_same H _ _ z
    rw [noTab_tab z'] at z
    cases z⟩, .cons (.fz hS' (reps_ints ns)) .nil, ⟨ns, rfl, hl, fun _ => rfl⟩, fun d O' F' H' v e g r => ?_⟩
  subst e
  cases r
  exact q _
end SC
namespace SC
open PySem PySem.Spec PyProof.Rows L2
variable [TabL] [XCx]
/-! ### readings, unfolded -/
theorem odel_oset {O : OH} {q : Addr} {ys : List D} (h : O q = none) : odel (oset O q ys) q = O := by
  funext b
  unfold odel oset
  by_cases e : b = q
  · rw [if_pos e, e, h]
  · rw [if_neg e, if_neg e]
theorem oset_comm {O : OH} {p q : Addr} {xs ys : List D} (h : p ≠ q) : oset (oset O p xs) q ys = oset (oset O q ys) p xs := by
  funext b
  unfold oset
  by_cases e : b = q
  · subst e; rw [if_pos rfl, if_neg h.symm, if_pos rfl]
  · by_cases e2 : b = p
    · subst e2; rw [if_neg e, if_pos rfl, if_pos rfl]
    · rw [if_neg e, if_neg e2, if_neg e2, if_neg e]
theorem own_ne {O : OH} {p q : Addr} {xs : List D} (h : O p = some xs) (n : O q = none) : q ≠ p := fun e => by rw [e, h] at n; cases n
theorem startD_eq {N : List Str} {ds : List D} {n : Nat} (h : N.length - ds.length = n) : startD N ds = ds.map some ++ List.replicate n none := by unfold startD; rw [h]
/-- tuple(x) of a list of one's own that is asked no more -/
def rTupX : R1D := fun d O k => match d with
  | .own p => match O p with
    | some xs => k (.tup xs) (odel O p)
    | none => False
  | _ => False
theorem ud_tupX {K : PySem.W.Frag} : UnD K (kTup K) rTupX := by
  intro x a F O H k Q st r h o
  unfold rTupX at h
  split at h
  · rename_i p
    cases r
    split at h
    · rename_i e
      obtain ⟨xs, q, rr⟩ := st.rel e
      refine .inl ⟨_, _, rfl, .of q, fun r n => ?_⟩
      have g := st.made (o := .tup xs) n
      have q' : (upd H r (.tup xs)) p = some (.lst xs) := by rw [upd_ne (ne_of_none q n)]; exact q
      have g2 : Go K F O H (upd F r (.tup xs)) (odel O p) (upd H r (.tup xs)) := by
        refine Go.of st g.same g.stt.same (fun a ds z => ?_) (fun t ht => ?_) (fun a u h1 f1 u1 nt => ?_) g.stt.nt
        · by_cases w : a = p
          · subst w; simp [odel] at z
          · exact g.stt.own a ds (by simpa [odel, w] using z)
        · obtain ⟨t1, t2, t3⟩ := g.stt.tabs t ht
          have w : t.1 ≠ p := fun w => by rw [w, e] at t3; cases t3
          exact ⟨t1, t2, by simp [odel, w, t3]⟩
        · obtain ⟨y1, y2, y3⟩ := g.frame a u h1 f1 u1 nt
          refine ⟨y1, y2, ?_⟩
          by_cases w : a = p
          · subst w; rw [e] at u1; cases u1
          · simp [odel, w, y3]
      exact o _ _ _ _ _ h g2 (.tup (.of upd_same) (rr.mono (same_upd (free_F st n))))
    · exact h.elim
  · exact h.elim
theorem pd_tupleX {X : Cx} {a : Expr} {p pos : Pos} {da : DE} (hg : Gl X "tuple") (hm : X.mg "tuple" = none) (ha : PD X a da) (na : starEach [a] X.env = (false, eval a X.env) :: starEach [] X.env := by rfl) : PD X (.Call (.Name "tuple" p) [a] [] pos) (dUn rTupX da) :=
  ⟨PE.weak (pe_tupleOf hg hm ha.pe na) fun σ H Q h => up_un ud_tupX h⟩
/-! ### comprehensions and loops over mapped lists -/
section
variable {α : Type}
theorem dAcc_map {g : DG} {te : DE} {e : DV} {k : List D → OH → Prop} (to f : α → D) : ∀ (xs : List α) (acc : List D) (O : OH),
    (∀ x ∈ xs, ∀ (O : OH) (k' : D → OH → Prop), k' (f x) O → g (to x) e O fun e2 => te e2 O k') → k (acc ++ xs.map f) O → dAcc g dYes te e k (xs.map to) acc O
  | [], acc, O, _, h => by simpa [dAcc] using h
  | x :: xs, acc, O, hs, h => by
    show g (to x) e O fun e2 => te e2 O fun y O3 => dAcc g dYes te e k (xs.map to) (acc ++ [y]) O3
    refine hs x (by simp) O _ ?_
    exact dAcc_map to f xs (acc ++ [f x]) O (fun y hy => hs y (by simp [hy])) (by simpa using h)
theorem dAcc_filter {g : DG} {tt : DT} {te : DE} {e : DV} {k : List D → OH → Prop} (to f : α → D) (c : α → Bool) : ∀ (xs : List α) (acc : List D) (O : OH),
    (∀ x ∈ xs, ∀ (O : OH) (A : D → OH → Prop) (B : OH → Prop), (if c x = true then A (f x) O else B O) → g (to x) e O fun e2 => tt e2 O fun b O2 => match b with
      | true => te e2 O2 A
      | false => B O2) → k (acc ++ (xs.filter c).map f) O → dAcc g tt te e k (xs.map to) acc O
  | [], acc, O, _, h => by simpa [dAcc] using h
  | x :: xs, acc, O, hs, h => by
    show g (to x) e O fun e2 => tt e2 O fun b O2 => match b with
      | true => te e2 O2 fun y O3 => dAcc g tt te e k (xs.map to) (acc ++ [y]) O3
      | false => dAcc g tt te e k (xs.map to) acc O2
    refine hs x (by simp) O _ (fun O2 => dAcc g tt te e k (xs.map to) acc O2) ?_
    cases hc : c x with
    | true =>
      rw [if_pos rfl]
      refine dAcc_filter to f c xs _ O (fun y hy => hs y (by simp [hy])) ?_
      simpa [hc] using h
    | false =>
      rw [if_neg (by decide)]
      refine dAcc_filter to f c xs _ O (fun y hy => hs y (by simp [hy])) ?_
      simpa [hc] using h
/-- the items satisfy what each turn gives; the state keeps J -/
theorem dAcc_inv {g : DG} {te : DE} {e : DV} {k : List D → OH → Prop} (J : OH → Prop) (Pd : D → Prop) : ∀ (items acc : List D) (O : OH),
    (∀ d ∈ items, ∀ (O : OH) (k' : D → OH → Prop), J O → (∀ y O', Pd y → J O' → k' y O') → g d e O fun e2 => te e2 O k') → J O → (∀ ys O', (∀ y ∈ ys, Pd y) → ys.length = items.length → J O' → k (acc ++ ys) O') → dAcc g dYes te e k items acc O
  | [], acc, O, _, hJ, h => by
    show k acc O
    have := h [] O (by simp) rfl hJ
    simpa using this
  | d :: ds, acc, O, hs, hJ, h => by
    show g d e O fun e2 => te e2 O fun y O3 => dAcc g dYes te e k ds (acc ++ [y]) O3
    refine hs d (by simp) O _ hJ fun y O' py hJ' => ?_
    refine dAcc_inv J Pd ds (acc ++ [y]) O' (fun d' hd => hs d' (by simp [hd])) hJ' fun ys O'' hy hl hJ'' => ?_
    have := h (y :: ys) O'' (by intro z hz; rcases List.mem_cons.mp hz with rfl | hz; exact py; exact hy z hz) (by simp [hl]) hJ''
    simpa using this
/-- a loop, by what is kept for the rest of the items -/
theorem dLoop_ind {g : DG} {body : DS} {k : DEnds} (to : α → D) (P : List α → DV → OH → Prop)
    (hs : ∀ x xs e O, P (x :: xs) e O → ∀ nx : DV → OH → Prop, (∀ e2 O2, P xs e2 O2 → nx e2 O2) → g (to x) e O fun e1 => body { nx := nx, rt := k.rt, bk := k.nx, ct := nx } e1 O)
    (hd : ∀ e O, P [] e O → k.nx e O) : ∀ (xs : List α) (e : DV) (O : OH), P xs e O → dLoop g body k (xs.map to) e O
  | [], e, O, h => hd e O h
  | x :: xs, e, O, h => hs x xs e O h _ fun e2 O2 h2 => dLoop_ind to P hs hd xs e2 O2 h2
theorem pairsD_map {β : Type} (f : α → D) (g : β → D) : ∀ (xs : List α) (ys : List β), pairsD (xs.map f) (ys.map g) = (xs.zip ys).map fun p => .tup [f p.1, g p.2]
  | [], _ => by simp [pairsD]
  | _ :: _, [] => by simp [pairsD]
  | x :: xs, y :: ys => by simp [pairsD, pairsD_map f g xs ys]
end
theorem small_len {n : Nat} (h : n ≤ 100000) : n ≤ sizeLine := Nat.le_trans h (by decide)
theorem lt_len {n : Nat} (h : n ≤ 100000) : n < sizeLine := Nat.lt_of_le_of_lt h (by decide)
theorem boolsD_map' {α : Type} (f : α → Bool) (l : List α) : boolsD (l.map fun x => D.bl (f x)) = some (l.map f) := by
  have := boolsD_map (l.map f)
  rw [List.map_map] at this
  exact this
end SC
namespace SC
open PySem PySem.Spec PyProof.Rows L2
variable [TabL] [XCx]
theorem oset_id {O : OH} {p : Addr} {h : List D} (e : O p = some h) : oset O p h = O := by
  funext b
  unfold oset
  by_cases z : b = p
  · rw [if_pos z, z, e]
  · rw [if_neg z]
theorem oset_at {O : OH} {p q : Addr} {h : List D} (n : q ≠ p) : oset O p h q = O q := oset_ne n
/-- the hand that a law draws from -/
def HandOk (h : List D) : Prop := ∃ (cs : List Int) (i big seed c : Int), h = [.lst (cs.map .int), .int i, .int big, .int seed, .int c] ∧ 0 ≤ i
def spHand : DSp := fun ds O k => ∃ ns : List Int, ds = [.fz (ns.map .int)] ∧ ns.length ≤ 63 ∧ ∀ p h, O p = none → HandOk h → k (.own p) (oset O p h)
def spDraw : DSp := fun ds O k => ∃ p h m, ds = [.own p, .int m] ∧ O p = some h ∧ HandOk h ∧ 0 < m ∧ m < 1073741824 ∧ ∀ n h', 0 ≤ n → n < m → HandOk h' → k (.int n) (oset O p h')
def spSome : DSp := fun ds O k => ∃ p h xs, ds = [.own p, .lst xs] ∧ O p = some h ∧ HandOk h ∧ xs ≠ [] ∧ xs.length ≤ 1000 ∧ ∀ x ∈ xs, ∀ h', HandOk h' → k x (oset O p h')
theorem ln_spHand : ∀ ds O k, spHand ds O k → ds.length = 1 := by rintro ds O k ⟨ns, rfl, _⟩; rfl
theorem ln_spDraw : ∀ ds O k, spDraw ds O k → ds.length = 2 := by rintro ds O k ⟨p, h, m, rfl, _⟩; rfl
theorem ln_spSome : ∀ ds O k, spSome ds O k → ds.length = 2 := by rintro ds O k ⟨p, h, m, rfl, _⟩; rfl
theorem ixN_lt {n : Nat} {i : Int} (h0 : 0 ≤ i) (h1 : i < n) : ixN n i = some i.toNat := by unfold ixN; rw [if_pos h0, if_pos h1]
theorem atI_map {α β : Type} {f : α → β} {xs : List α} {i : Int} (h0 : 0 ≤ i) (h1 : i < xs.length) : ∃ x, xs[i.toNat]? = some x ∧ atI (xs.map f) i = some (f x) := by
  have hl : i.toNat < xs.length := by omega
  refine ⟨xs[i.toNat], List.getElem?_eq_getElem hl, ?_⟩
  unfold atI
  rw [List.length_map, ixN_lt h0 h1]
  show (xs.map f)[i.toNat]? = _
  rw [List.getElem?_map, List.getElem?_eq_getElem hl]; rfl
theorem ix5 : ixN 5 0 = some 0 ∧ ixN 5 1 = some 1 ∧ ixN 5 2 = some 2 ∧ ixN 5 3 = some 3 ∧ ixN 5 4 = some 4 := by decide
theorem all_map {α : Type} {f : α → D} {P : α → Prop} : ∀ {ys : List D}, (∀ y ∈ ys, ∃ b, y = f b ∧ P b) → ∃ bs : List α, ys = bs.map f ∧ bs.length = ys.length ∧ ∀ b ∈ bs, P b
  | [], _ => ⟨[], rfl, rfl, fun _ h => nomatch h⟩
  | y :: ys, h => by
    obtain ⟨b, rfl, pb⟩ := h y (by simp)
    obtain ⟨bs, rfl, hl, pbs⟩ := all_map (ys := ys) fun z hz => h z (by simp [hz])
    refine ⟨b :: bs, rfl, by simp, fun c hc => ?_⟩
    rcases List.mem_cons.mp hc with rfl | hc
    · exact pb
    · exact pbs c hc
theorem cut_take {α : Type} {xs : List α} {n : Nat} {i : Int} (h : i = (n : Int)) : cutA xs none (some i) = xs.take n := by
  subst h
  unfold cutA
  rw [HT.sIx_none, HT.sIx_nat, List.drop_zero, Nat.sub_zero]
  rcases Nat.le_total n xs.length with z | z
  · rw [Nat.min_eq_left z]
  · rw [Nat.min_eq_right z, List.take_of_length_le (Nat.le_refl _), List.take_of_length_le z]
theorem cut_drop {α : Type} {xs : List α} {n : Nat} {i : Int} (h : i = (n : Int)) : cutA xs (some i) none = xs.drop n := by
  subst h
  unfold cutA
  rw [HT.sIx_none, HT.sIx_nat]
  rcases Nat.le_total n xs.length with z | z
  · rw [Nat.min_eq_left z, List.take_of_length_le]
    rw [List.length_drop]; exact Nat.le_refl _
  · rw [Nat.min_eq_right z, List.drop_of_length_le z, List.drop_of_length_le (Nat.le_refl _)]; simp
theorem atI_in {α : Type} {xs : List α} {n : Nat} {x : α} {i : Int} (hi : i = (n : Int)) (h : xs[n]? = some x) : atI xs i = some x := by subst hi; exact atI_nat h
theorem dThen_by {t u : DS} {k : DEnds} {e : DV} {O : OH} (P : DV → OH → Prop) (h1 : ∀ nx : DV → OH → Prop, (∀ e O, P e O → nx e O) → t { k with nx := nx } e O) (h2 : ∀ e O, P e O → u k e O) : dThen t u k e O := h1 _ h2
theorem mod_lt' {a m : Int} (h : 0 < m) : 0 ≤ a % m ∧ a % m < m := ⟨Int.emod_nonneg _ (by omega), Int.emod_lt_of_pos _ h⟩
end SC
/-! Errors of the program's own classes whose __init__ does nothing, made without arguments. -/
namespace SC
open PySem PySem.Spec PyProof.Rows L2
section
variable {X : Cx} {p pos : Pos}
theorem mk_end0n {pins : List (Addr × Obj)} {σ : L2.St} {H1 H2 : Hp} {hp hp2 h2 : Heap} {g1 g2 : Array GenState} {d1 d2 : Drawn} {t1 t2 : Nat} {os1 os2 : OsState} {a C : Addr} (I1 : Inv X pins σ H1 ⟨hp, g1, d1, t1, os1⟩)
    (ha : hp.objs.size ≤ a) (k : ∀ b o, hp.get? b = some o → hp2.get? b = some o) (un : Un (frs X.stack) [] (upd H1 a (exo a C none)) H2 hp2 h2) (hok : HOk X.prog X.w H2 h2) (ho : os2 = os1) (hb : AllBare g2)
    (ea : H2 a = some (exo a C none)) :
    ∃ (t0 : Addr) (G : Heap), Inv X pins σ (del H2 a) ⟨G, g2, d2, t2, os2⟩ ∧ (∀ b o, G.get? b = some o → h2.get? b = some o) ∧ G.get? a = none ∧
      h2.get? a = some ({ cls := .ref C, dict := none, data := .fields #[.ref t0, .none, .none, .none, .bool false, .none] } : Obj) ∧ (del H2 a) a = none := by
  obtain ⟨t0, hoe⟩ := exo_at hok ea
  have hn : H1 a = none := I1.hok.fresh ha
  obtain ⟨G, g1', g2'⟩ := restrict h2 fun b => decide (b ≠ a)
  have gk : ∀ b, b ≠ a → G.get? b = h2.get? b := fun b hb => g1' b (decide_eq_true hb)
  have ge : G.get? a = none := g2' a (by simp)
  have nha : ∀ {b : Addr} {o : Obj}, hp.get? b = some o → b ≠ a := fun {b o} z => Nat.ne_of_lt (Nat.lt_of_lt_of_le (Heap.lt_size z) ha)
  have up : ∀ {b : Addr}, b ≠ a → H1 b = none → upd H1 a (exo a C none) b = none := fun {b} hb n => by rw [upd_ne hb]; exact n
  have U : Un (frs X.stack) [] H1 (del H2 a) hp G := {
    keep := fun b o z n hf hx => by
      rw [gk b (nha z)]
      exact un.keep b o (k b o z) (up (nha z) n) hf hx
    slot := fun b o z n hf hx => by
      rw [gk b (nha z)]
      exact un.slot b o (k b o z) (up (nha z) n) hf hx
    free := fun b o z n hx => by
      rw [del_ne (nha z)]
      exact un.free b o (k b o z) (up (nha z) n) hx
    there := fun b o z hx => by
      rw [gk b (nha z)]
      exact un.there b o (k b o z) hx
    tups := fun b xs z => by
      rw [del_ne (ne_of_none z hn)]
      exact un.tups b xs (by rw [upd_ne (ne_of_none z hn)]; exact z)
    frzs := fun b o v z => by
      rw [del_ne (ne_of_none z hn)]
      exact un.frzs b o v (by rw [upd_ne (ne_of_none z hn)]; exact z)
    tbls := fun b ps z => by
      rw [del_ne (ne_of_none z hn)]
      exact un.tbls b ps (by rw [upd_ne (ne_of_none z hn)]; exact z) }
  have hok3 : HOk X.prog X.w (del H2 a) G := fun b o z => by
    have hba : b ≠ a := fun e => by
      rw [e, del_same] at z
      cases z
    rw [del_ne hba] at z
    have noa : ∀ {c : Addr}, H2 c = some (.own b) → c ≠ a := fun {c} hc => at_ne ea hc exo_own
    exact (hok b o z).stay (fun c v hc y => by
        have hca : c ≠ a := by
          rcases hc with hc | hc
          · rw [hc]
            exact hba
          · exact noa hc
        rw [gk c hca]
        exact y)
      (fun c hc => by rw [del_ne (noa hc)]; exact hc) (fun c xs hc => by rw [del_ne (at_ne ea hc exo_tup)]; exact hc)
  have J : Inv X pins σ (del H2 a) ⟨G, g2, d2, t2, os2⟩ := I1.call' (ch := []) ho U hok3 hb (fun b z => absurd z (by simp))
  refine ⟨t0, G, J, fun b o z => ?_, ge, hoe, del_same⟩
  by_cases hba : b = a
  · rw [hba, ge] at z
    cases z
  · exact (gk b hba).symm.trans z
/-- C(), C's own __init__ keeping sp: it sets no field -/
def tMkN (C : Addr) (sp : Sp) : L2.St → Hp → XK → Prop := fun _ H Q => ∀ a, H a = none → sp [.ref a] (upd H a (exo a C none))
  (fun v H2 => v = .non ∧ H2 a = some (exo a C none) ∧ Q (.ref C) none (del H2 a)) (fun _ _ _ => False)
theorem pmk_oex0 {CX : CXT} {x : Str} {C fI : Addr} {k : Nat} {fd : FuncData} {ps : List Str} {sp : Sp} (T : OexC X.K C) (iC : PySem.W.findIn X.K (.ref C) "__init__" = some (some (.ref fI))) (tI : PySem.W.typeIn X.K (.ref fI) = some (.type "function"))
    (F1 : FnOk X.prog X.w X.K X.mg X.base CX k fI fd ps sp) (hr : Room (k + 1) X.A) (hb : Binds X.K fd ps []) (hx : Passes CX X (fun _ _ _ => False)) (hg : Gl X x) (hm : X.mg x = some (.ref C))
    (hdb : (x == ("__debug__" : Str)) = false := by decide) :
    PMk X (.Call (.Name x p) [] [] pos) (tMkN C sp) := by
  intro pins s σ H Q I h
  obtain ⟨nm, q, N, bs, bm, sn, sub, ab, col, dd, k0, k1, k2, k3, k5, hC, hbm⟩ := T.cls
  refine wpAny_Call_Name_kw (ld_glob I hg hm ?_ hdb)
  refine PySem.W.callWith_K0 I.kIn T.kC ?_
  obtain ⟨hp, g, dr, tk, os⟩ := s
  have hsz : hp.objs.size ≤ hp.objs.size + 1 := Nat.le_succ _
  have hn : H (hp.objs.size + 1) = none := I.hok.fresh hsz
  have hq := h (hp.objs.size + 1) hn
  have kk : ∀ b o, hp.get? b = some o → ((hp.push (PySem.W.kdv_tup [])).push (PySem.HandSPX.excO C hp.objs.size)).get? b = some o := fun b o e => Heap.get?_push_of_some _ (Heap.get?_push_of_some _ e)
  have hget : ((hp.push (PySem.W.kdv_tup [])).push (PySem.HandSPX.excO C hp.objs.size)).get? (hp.objs.size + 1) = some (PySem.HandSPX.excO C hp.objs.size) := by heap_get
  have I2 : Inv X pins σ (upd H (hp.objs.size + 1) (exo (hp.objs.size + 1) C none)) ⟨(hp.push (PySem.W.kdv_tup [])).push (PySem.HandSPX.excO C hp.objs.size), g, dr, tk, os⟩ :=
    I.laid (t' := tk) (a := hp.objs.size + 1) (o := exo (hp.objs.size + 1) C none) (h' := (hp.push (PySem.W.kdv_tup [])).push (PySem.HandSPX.excO C hp.objs.size)) kk hsz (exo_ok hget)
  have r2 : Vals [V.ref (hp.objs.size + 1)] [Value.ref (hp.objs.size + 1)] := .cons rfl .nil
  have hl : [Value.ref (hp.objs.size + 1)].length = ps.length := by
    have e := r2.length
    rw [F1.len _ _ _ _ hq] at e
    exact e.symm
  refine wpAny_call (PySem.HandSPX.call_own F.excBase_ValueError (fun Y => PySem.HandSPX.refsVE_contains Y bm hbm) (I.kIn _ _ hC) (PySem.W.looks_findIn I.kIn iC) (fun self => PySem.W.bind_fn I.kIn self tI) (Nat.zero_le _)
    (codeAny_mono (F1.run _ X.stack _ _ ⟨[Value.ref (hp.objs.size + 1)], []⟩ [Value.ref (hp.objs.size + 1)] _ _ (fun _ _ _ => False) (hr.make C [] []) (I2.env0.make C [] []) (hb _ [Value.ref (hp.objs.size + 1)] I2.kIn hl) r2 hq) fun r s' hq' => ?_))
  cases r with
  | error er => exact hx pins σ _ _ er s' I2 hq'
  | ok fl =>
    cases fl with
    | ret u =>
      obtain ⟨v, H2, os2, bare2, un2, hok2, rv, ev, ea, q2⟩ := hq'
      subst ev
      obtain ⟨h2, g2, d2, t2, os'⟩ := s'
      obtain ⟨t0, G, J, kG, ge, hoe, na⟩ := mk_end0n (d2 := d2) (t2 := t2) I hsz kk un2 hok2 os2 bare2 ea
      exact ⟨rv, _, _, _, ⟨G, g2, d2, t2, os'⟩, _, .ref C, none, rfl, J, kG, ge, hoe, ⟨rfl, rfl⟩, rfl, rfl, na, rfl, bare2, raises_own T.exC T.tyC, q2⟩
    | next => exact False.elim hq'
    | brk => exact False.elim hq'
    | cont => exact False.elim hq'
end
end SC
/-! Errors: raise, calls of defs that may raise, try .. except C as n. -/
namespace SC
open PySem PySem.Spec PyProof.Rows L2
section
variable [TabL]
theorem Stt.conv {I0 I1 : XCx} {K : PySem.W.Frag} {F F' H H' : Hp} {O O' : OH} (s : @Stt _ I0 K F O H) (g : @Stt _ I1 K F' O' H') (a : Go0 F O H F' O' H') : @Stt _ I0 K F' O' H' := @Stt.mk _ I0 _ _ _ _ (@Stt.same _ I1 _ _ _ _ g) (@Stt.own _ I1 _ _ _ _ g) (@Stt.tabs _ I1 _ _ _ _ g) ((@Stt.anch _ I0 _ _ _ _ s).trans a) (@Stt.nt _ I1 _ _ _ _ g)
theorem Go.conv {I0 I1 : XCx} {K : PySem.W.Frag} {F F' H H' : Hp} {O O' : OH} (s : @Stt _ I0 K F O H) (g : @Go _ I1 K F O H F' O' H') : @Go _ I0 K F O H F' O' H' := @Go.mk _ I0 _ _ _ _ _ _ _ (@Go.same _ I1 _ _ _ _ _ _ _ g) (Stt.conv s (@Go.stt _ I1 _ _ _ _ _ _ _ g) (@Go.go0 _ I1 _ _ _ _ _ _ _ g)) (@Go.frame _ I1 _ _ _ _ _ _ _ g)
theorem Outs.conv {I0 I1 : XCx} {K : PySem.W.Frag} {F H : Hp} {O : OH} {k : D → OH → Prop} {Q : VK} (s : @Stt _ I0 K F O H) (o : @Outs _ I0 K F O H k Q) : @Outs _ I1 K F O H k Q := fun d O' F' H' v q g r => o d O' F' H' v q (Go.conv s g) r
theorem OutsS.conv {I0 I1 : XCx} {K : PySem.W.Frag} {F H : Hp} {O : OH} {k : DV → OH → Prop} {Q : L2.St → Hp → Prop} (s : @Stt _ I0 K F O H) (o : @OutsS _ I0 K F O H k Q) : @OutsS _ I1 K F O H k Q := fun d O' F' H' v q g r => o d O' F' H' v q (Go.conv s g) r
theorem EndsOk.conv {I0 I1 : XCx} {K : PySem.W.Frag} {F H : Hp} {O : OH} {k : DEnds} {D : Ends} (s : @Stt _ I0 K F O H) (o : @EndsOk _ I0 K F O H k D) : @EndsOk _ I1 K F O H k D :=
  @EndsOk.mk _ I1 _ _ _ _ _ _ (OutsS.conv s (@EndsOk.nx _ I0 _ _ _ _ _ _ o)) (Outs.conv s (@EndsOk.rt _ I0 _ _ _ _ _ _ o)) (OutsS.conv s (@EndsOk.bk _ I0 _ _ _ _ _ _ o)) (OutsS.conv s (@EndsOk.ct _ I0 _ _ _ _ _ _ o))
/-- the state seen from itself -/
theorem Stt.self {I0 : XCx} {K : PySem.W.Frag} {F H : Hp} {O : OH} {ex : Addr → DV → OH → Prop} {W : WX} (s : @Stt _ I0 K F O H) : @Stt _ ⟨F, O, H, ex, W⟩ K F O H := @Stt.mk _ ⟨F, O, H, ex, W⟩ _ _ _ _ (@Stt.same _ I0 _ _ _ _ s) (@Stt.own _ I0 _ _ _ _ s) (@Stt.tabs _ I0 _ _ _ _ s) Go0.refl (@Stt.nt _ I0 _ _ _ _ s)
end
section
variable [TabL] [XCx]
/-- an error whose class is asked for is taken -/
def XOk (K : PySem.W.Frag) : Prop := ∀ C e F O H σ, XCx.ex C e O → Stt K F O H → ERep K F σ e → XCx.W (.ref C) none σ H
abbrev DSpX := List D → OH → (D → OH → Prop) → (Addr → OH → Prop) → Prop
def upSpX (K : PySem.W.Frag) (sp : DSpX) : Sp := fun vs H Q E => ∃ F ds O k kx, Stt K F O H ∧ Reps K F vs ds ∧ sp ds O k kx ∧ Outs K F O H k Q ∧ ∀ C O' F' H', kx C O' → Go K F O H F' O' H' → E (.ref C) none H'
def dCallX (sp : DSpX) (ex : Addr → DV → OH → Prop) (t : DA) : DE := fun e O k => t e O fun xs O1 => sp xs O1 k fun C O' => ex C e O'
def dRaise (C : Addr) (ex : Addr → DV → OH → Prop) : DS := fun _ e O => ex C e O
section
variable {X : Cx} {k : Nat} {f : Addr} {fd : FuncData} {ps : List Str} {sp : DSpX} {x : Str} {p pos : Pos} {a : Expr} {es : List Expr} {t : DA}
theorem pd_callX (Fn : FnOk X.prog X.w X.K X.mg X.base (L2.CX X.prog X.w) k f fd ps (upSpX X.K sp)) (tk : Takes X XCx.W) (xo : XOk X.K) (hr : Room k X.A) (hg : Gl X x) (hm : X.mg x = some (.ref f)) (hk : PySem.W.keepIn X.K (.ref f) = true) (hb : Binds X.K fd ps [])
    (ha : PAD X (a :: es) t) (hdb : (x == ("__debug__" : Str)) = false := by decide) (he : starEach (a :: es) X.env = (false, eval a X.env) :: starEach es X.env := by rfl) (hpl : (backTo pos (starEach es X.env)).any (·.1) = false := by rfl) :
    PD X (.Call (.Name x p) (a :: es) [] pos) (dCallX sp XCx.ex t) := by
  refine ⟨PE.weak (pe_callS (E := WE XCx.W) Fn hr hg hm hk hb (fun σ => passAt tk σ) ha.pa hdb he hpl) fun σ H Q h => ?_⟩
  obtain ⟨F, e, O, k, st, er, h, o⟩ := h
  exact ⟨F, e, O, _, st, er, h, fun ds O1 F1 H1 vs h1 g1 r1 => ⟨F1, ds, O1, k, _, g1.stt, r1, h1, o.after g1, fun C O' F' H' hx g => xo C e F' O' H' σ hx g.stt (er.mono (g1.same.trans g.same))⟩⟩
theorem psd_raise {C : Addr} {ex : Expr} (hc : X.calm = true) (tk : Takes X XCx.W) (xo : XOk X.K) (he : PMk X ex (fun _ H Q => Q (.ref C) none H)) : PSD X (.Raise (some ex) none pos) (dRaise C XCx.ex) :=
  ⟨PS.weak (ps_raise hc tk he) fun D σ H ⟨F, e, O, k, st, er, h, o⟩ => xo _ _ _ _ _ _ h st er⟩
/-- an __init__ that does nothing -/
def spPass : Sp := fun vs H Q _ => ∃ v, vs = [v] ∧ Q .non H
theorem pmk_n {CX : CXT} {C fI : Addr} (T : OexC X.K C) (iC : PySem.W.findIn X.K (.ref C) "__init__" = some (some (.ref fI))) (tI : PySem.W.typeIn X.K (.ref fI) = some (.type "function"))
    (F1 : FnOk X.prog X.w X.K X.mg X.base CX k fI fd ps spPass) (hr : Room (k + 1) X.A) (hb : Binds X.K fd ps []) (hx : Passes CX X (fun _ _ _ => False)) (hg : Gl X x) (hm : X.mg x = some (.ref C))
    (hdb : (x == ("__debug__" : Str)) = false := by decide) : PMk X (.Call (.Name x p) [] [] pos) (fun _ H Q => Q (.ref C) none H) := fun pins s σ H Q I h =>
  pmk_oex0 T iC tI F1 hr hb hx hg hm hdb pins s σ H Q I fun a n => ⟨_, rfl, rfl, upd_same, by
    have e : del (upd H a (exo a C none)) a = H := by
      funext b
      by_cases hb : b = a
      · rw [hb, del_same, n]
      · rw [del_ne hb, upd_ne hb]
    rw [e]; exact h⟩
end
section
variable {P : Program} {w : World} {K : PySem.W.Frag} {mg : Str → Option Value} {base : Heap}
/-- a def's body keeps its promise, on trees; it may raise -/
theorem okXD {x qual : Str} {st : Stmt} {f : Addr} {fd : FuncData} {N ps : List Str} {k : Nat} {sp : DSpX} (F : Fun K x qual st f fd) (S : FnScope N ps (defScope st)) (len : ∀ ds O k kx, sp ds O k kx → ds.length = ps.length)
    (hbody : ∀ (I : XCx) (cdv : Value) (A : Around) (outer : List Env) (s : Shared) (H : Hp) (E : XK), Room k (A.deeper (envOfC qual (defScope st) s.heap.objs.size f cdv)) → XOk K → Takes (cxOf (L2.CX P w) P w K mg base N qual (defScope st) f cdv A outer s H E) XCx.W →
      ∃ t : (Addr → DV → OH → Prop) → DS, PBD (cxOf (L2.CX P w) P w K mg base N qual (defScope st) f cdv A outer s H E) (defBody st) (t XCx.ex) ∧ ∀ ds O (kk : D → OH → Prop) kx, sp ds O kk kx → t (fun C _ O' => kx C O') { nx := fun _ O' => kk .non O', rt := kk } (startD N ds) O) :
    FnOk P w K mg base (L2.CX P w) (k + 1) f fd ps (upSpX K sp) := by
  rename_i I0
  refine F.okX S (fun vs H Q E h => ?_) fun cdv A outer s H vs Q E hr h => ?_
  · obtain ⟨F, ds, O, k, kx, st, r, h, o⟩ := h
    rw [r.length]
    exact len _ _ _ _ h
  · obtain ⟨F, ds, O, kk, kx, st, r, h, o, hE⟩ := h
    let I : XCx := ⟨F, O, H, fun C _ O' => kx C O', fun cls d _ H' => E cls d H'⟩
    have st' : @Stt _ I K F O H := st.self
    have xo : @XOk _ I K := fun C e F' O' H' σ hx s2 _ => hE C O' F' H' hx (@Go.mk _ I0 _ _ _ _ _ _ _ (@Stt.anch _ I _ _ _ _ s2).same (Stt.conv st s2 (@Stt.anch _ I _ _ _ _ s2)) (@Stt.anch _ I _ _ _ _ s2).frame)
    obtain ⟨t, p, q⟩ := hbody I cdv A outer s H E hr xo (takes_of rfl rfl rfl rfl)
    have o' : @Outs _ I K F O H kk Q := Outs.conv st o
    exact ⟨_, p.pb, F, _, O, _, st', erep_start r N, q ds O kk kx h, fun e' O' F' H' σ' h' g' _ => o' _ _ _ _ _ h' g' .non, o', fun _ _ _ _ _ z => z.elim, fun _ _ _ _ _ z => z.elim⟩
end
end
end SC
/-! try .. except C as n, on trees. -/
namespace SC
open PySem PySem.Spec PyProof.Rows L2
section
variable [TabL] [XCx]
variable {X : Cx} {x n : Str} {c : Value} {i : Nat} {body suite : List Stmt} {b₀ : Stmt} {np pos pos' : Pos}
abbrev DEx := Addr → DV → OH → Prop
/-- the handler: the error's class C is asked, its address a -/
def exTry (mt : Addr → Option Bool) (i : Nat) (ts : Addr → Addr → DS) (ex : DEx) (k : DEnds) : DEx := fun C e O => ∃ b, mt C = some b ∧
  (b = true → ∀ a, O a = none → ts a C { nx := fun e' O' => k.nx (e'.set i none) O', rt := k.rt, bk := fun e' O' => k.bk (e'.set i none) O', ct := fun e' O' => k.ct (e'.set i none) O' } (e.set i (some (.own a))) O) ∧ (b = false → ex C e O)
def dTryAs (mt : Addr → Option Bool) (i : Nat) (tb : DEx → DS) (ts : Addr → Addr → DS) (ex : DEx) : DS := fun k e O => tb (exTry mt i ts ex k) k e O
theorem try_end {K : PySem.W.Frag} {F F' H H' : Hp} {O O' : OH} {k : DEnds} {D : Ends} {i : Nat} {a : Addr} {e' : DV} {σ' : L2.St} (o : EndsOk K F O H k D) (s0 : Stt K F' O' H') (an : Go0 F O H F' O' H') (er2 : ERep K F' σ' e') {t' : DS} (ht : t' { nx := fun e' O' => k.nx (e'.set i none) O', rt := k.rt, bk := fun e' O' => k.bk (e'.set i none) O', ct := fun e' O' => k.ct (e'.set i none) O' } (e'.set i (some (.own a))) O') :
    upS K t' { nx := fun σ' H' => D.nx (σ'.set i none) H', rt := D.rt, bk := fun σ' H' => D.bk (σ'.set i none) H', ct := fun σ' H' => D.ct (σ'.set i none) H' } (σ'.set i (some (.ref a))) H' := by
  have g0 : Go K F O H F' O' H' := ⟨an.same, s0, an.frame⟩
  have o0 := o.after g0
  exact ⟨F', _, O', _, s0, er2.set (.own a) i, ht, ⟨fun e4 O4 F4 H4 σ4 h4 g4 r4 => o0.nx _ _ _ _ _ h4 g4 (r4.clear i), o0.rt, fun e4 O4 F4 H4 σ4 h4 g4 r4 => o0.bk _ _ _ _ _ h4 g4 (r4.clear i), fun e4 O4 F4 H4 σ4 h4 g4 r4 => o0.ct _ _ _ _ _ h4 g4 (r4.clear i)⟩⟩
omit [XCx] in
theorem psd_try_as [I0 : XCx] {tb : DEx → DS} {ts : Addr → Addr → DS} (hs : X.stack = X.env :: X.outer) (hf : X.env.frame = some X.env.locals) (hN : X.N.Nodup) (hi : X.N[i]? = some n) (hln : X.env.kindOf n = some .local) (hc : Names X x c) (tk : Takes X XCx.W) (xo : XOk X.K)
    (hb : ∀ (I : XCx) (pn : List (Addr × Obj)) (xe : Value → Shared → Prop), Go0 (@XCx.F0 I0) (@XCx.O0 I0) (@XCx.H0 I0) XCx.F0 XCx.O0 XCx.H0 → XOk X.K → Takes (X.tr pn xe) XCx.W → PBD (X.tr pn xe) body (tb XCx.ex))
    (hsu : ∀ (a : Addr) (oe : Obj) (C : Addr) (pn : List (Addr × Obj)), Zc (.ref C) none oe → (∃ vs, oe.data = .fields vs) → PBD (X.suite a ((a, oe) :: pn)) (b₀ :: suite) (ts a C)) :
    PSD X (.Try body [.ExceptHandler (some (.Name x np)) (some n) (b₀ :: suite) pos'] [] [] pos) (dTryAs (fun C => PySem.W.exmOne X.K (.ref C) c) i tb ts XCx.ex) := by
  refine ⟨PS.weak (ps_try_as (i := i) (c := c) (Wout := XCx.W)
    (tb := fun W D σ H => ∃ F e O k ex, Go0 (@XCx.F0 I0) (@XCx.O0 I0) (@XCx.H0 I0) F O H ∧ @XOk _ ⟨F, O, H, ex, W⟩ X.K ∧ @Stt _ ⟨F, O, H, ex, W⟩ X.K F O H ∧ ERep X.K F σ e ∧ tb ex k e O ∧ @EndsOk _ ⟨F, O, H, ex, W⟩ X.K F O H k D)
    (ts := fun a cls d D σ H => ∃ C, cls = .ref C ∧ d = none ∧ upS X.K (ts a C) D σ H)
    hs hf hN hi hln hc tk (fun W pn xe tkW _ => ⟨fun pins s σ H D I h => ?_⟩) (fun a oe cls d pn hz hd => ⟨fun pins s σ H D I h => ?_⟩)) fun D σ H h => ?_⟩
  · obtain ⟨F, e, O, k, ex, an, xo', st, er, h, o⟩ := h
    exact (@PBD.pb _ ⟨F, O, H, ex, W⟩ _ _ _ (hb ⟨F, O, H, ex, W⟩ pn xe an xo' tkW)).run pins s σ H D I ⟨F, e, O, k, st, er, h, o⟩
  · obtain ⟨C, rfl, rfl, h⟩ := h
    exact ((hsu a oe C pn hz hd).pb).run pins s σ H D I h
  · obtain ⟨F, e, O, k, st, er, h, o⟩ := h
    let I1 : XCx := ⟨F, O, H, exTry (fun C => PySem.W.exmOne X.K (.ref C) c) i ts (@XCx.ex I0) k, wAs X.K c i (fun a cls d D σ H => ∃ C, cls = .ref C ∧ d = none ∧ @upS _ I0 X.K (ts a C) D σ H) (@XCx.W I0) D⟩
    refine ⟨F, e, O, k, _, @Stt.anch _ I0 _ _ _ _ st, fun C e' F' O' H' σ' hx s2 er2 => ?_, st.self, er, h, EndsOk.conv st o⟩
    obtain ⟨b, e1, e2, e3⟩ := hx
    have an : Go0 F O H F' O' H' := @Stt.anch _ I1 _ _ _ _ s2
    have s0 : @Stt _ I0 X.K F' O' H' := Stt.conv st s2 an
    exact ⟨b, e1, fun hb' a na => ⟨C, rfl, rfl, @try_end _ I0 _ _ _ _ _ _ _ _ _ _ _ _ _ o s0 an er2 _ (e2 hb' a (@free_O _ I0 _ _ _ _ s0 _ na))⟩, fun hb' => xo _ _ _ _ _ _ (e3 hb') s0 er2⟩
/-- isinstance of the error that the suite holds -/
def rIsED (K : PySem.W.Frag) (C a : Addr) : RCD := fun ds O k => ∃ cd cv b, ds = [.own a, cd] ∧ ((∃ n, cd = .ty n ∧ cv = .type n) ∨ ∃ D, cd = .own D ∧ cv = .ref D) ∧ PySem.W.kitOne K (.ref C) cv = some b ∧ k (.bl b) O
theorem cd_isE {K : PySem.W.Frag} {C a : Addr} : CallD K (rIsE K C a) (rIsED K C a) := by
  intro xs ds F O H k Q st r h o
  obtain ⟨cd, cv, b, rfl, hcd, hk, h⟩ := h
  cases r with
  | cons r1 r2 => cases r2 with
    | cons r2 r3 =>
      cases r3
      cases r1
      rename_i v
      refine ⟨v, cv, b, rfl, fun u ru => ?_, hk, o _ _ _ _ _ h st.go (.bl b)⟩
      rcases hcd with ⟨n, rfl, rfl⟩ | ⟨D, rfl, rfl⟩
      · cases r2; exact ru
      · cases r2; exact ru
end
end SC
/-! A lambda without parameters, handed to a def that calls it, on trees. -/
namespace SC
open PySem PySem.Spec PyProof.Rows L2 LamX
/-- the lambda, told by what is done at an error, the lists, what follows -/
abbrev RL := (Addr → OH → Prop) → OH → (D → OH → Prop) → Prop
/-- what the def that calls it promises -/
abbrev DLm := RL → OH → (D → OH → Prop) → Prop
def blank (n : Nat) : DV := List.replicate n none
theorem erep_blank {K : PySem.W.Frag} {F : Hp} : ∀ σ : L2.St, ERep K F σ (blank σ.length)
  | [] => .nil
  | s :: σ => .none (erep_blank σ)
section
variable [TabL] [XCx]
/-- of the store only its length need be known -/
theorem Takes.len {X : Cx} {W : WX} (t : Takes X W) : Takes X (fun c d σ H => σ.length = X.N.length → W c d σ H) := fun u s' ⟨a, B, sI, pins, σ, H, cls, d, e, I, nb, up, sky, na, os, ag, w⟩ =>
  t u s' ⟨a, B, sI, pins, σ, H, cls, d, e, I, nb, up, sky, na, os, ag, w I.len⟩
theorem Stt.ext {K : PySem.W.Frag} {F H H1 : Hp} {O : OH} (s : Stt K F O H) (e : ExtN H H1) (t : Tabs TabL.tabs H1) : Go K F O H F O H1 :=
  Go.of s (Same.refl _) (fun b o q => e _ _ (s.same _ _ q) fun ps z => s.nt b ps (by rw [q, z])) (fun a ds q => let ⟨f, xs, h, r⟩ := s.own a ds q; ⟨f, xs, e _ _ h (fun _ z => by cases z), r⟩) (fun p hp => ⟨t p hp, (s.tabs p hp).2⟩) (fun a o h f q n => ⟨e _ _ h n, f, q⟩) s.nt
/-- a code object stays -/
theorem Go0.code {K : PySem.W.Frag} {F F' H H' : Hp} {O O' : OH} {c : Addr} {q : Str} (s : Stt K F O H) (g : Go0 F O H F' O' H') (sm : Same F' H') (h : H c = some (CodeO c q)) : H' c = some (CodeO c q) := by
  cases f : F c with
  | some u =>
    have e := s.same _ _ f
    rw [h] at e
    cases e
    exact sm _ _ (g.same _ _ f)
  | none =>
    cases o : O c with
    | some ds =>
      obtain ⟨_, xs, e, _⟩ := s.own _ _ o
      rw [h] at e
      unfold CodeO at e
      cases e
    | none => exact (g.frame _ _ h f o (codeO_ne)).1
/-- the lambda's reading at the state where it is called -/
def tRL (K : PySem.W.Frag) (tb : DEx → DE) : XK → TE := fun E σ H Q => ∃ (F : Hp) (e : DV) (O : OH) (k : D → OH → Prop) (kx : Addr → OH → Prop), Stt K F O H ∧ ERep K F σ e ∧ tb (fun C _ O' => kx C O') e O k ∧ Outs K F O H k Q ∧ ∀ C O' F' H', kx C O' → Go K F O H F' O' H' → E (.ref C) none H'
/-- what the callee is to keep -/
def TTD (K : PySem.W.Frag) (spW : DLm) : (XK → Hp → VK → Prop) → Hp → VK → Prop := fun tl H Q => ∃ F O k rl, Stt K F O H ∧
  (∀ F' O' H' E Q' k' kx, Stt K F' O' H' → Go0 F O H F' O' H' → rl kx O' k' → Outs K F' O' H' k' Q' → (∀ C O2 F2 H2, kx C O2 → Go K F' O' H' F2 O2 H2 → E (.ref C) none H2) → tl E H' Q') ∧ spW rl O k ∧ Outs K F O H k Q
/-- a(), a the lambda handed in -/
def dAct (f : Addr) (n : Nat) (rl : RL) (ex : DEx) : DE := fun e O k => e[0]? = some (some (.own f)) ∧ rl (fun C O' => ex C (blank n) O') O k
/-- x(lambda: body) -/
def dLam (tb : DEx → DE) (spW : DLm) : DE := fun e O k => spW (fun kx O' k' => tb (fun C _ O2 => kx C O2) e O' k') O k
theorem start_up {K : PySem.W.Frag} {F H : Hp} {O : OH} {N : List Str} {vs : List V} {ds : List D} {t : DS} {kk : D → OH → Prop} {Q : VK} (st : Stt K F O H) (r : Reps K F vs ds) (o : Outs K F O H kk Q) (h : t { nx := fun _ O' => kk .non O', rt := kk } (startD N ds) O) :
    upS K t { nx := fun _ H' => Q .non H', rt := Q } (L2.start N vs) H := ⟨F, _, O, _, st, erep_start r N, h, ⟨fun e' O' F' H' σ' h' g' _ => o _ _ _ _ _ h' g' .non, o, fun _ _ _ _ _ z => z.elim, fun _ _ _ _ _ z => z.elim⟩⟩
theorem gives_D {X : Cx} {Ng : List Str} {x a q : Str} {sg : Scope} {g : Addr} {cdg : Value} {bg : List Stmt} {spW : DLm}
    (h : ∀ (I0 : XCx) (f : Addr) (s : Shared) (H : Hp) (rl : RL), @XOk _ I0 X.K → Takes (cxOf C8.CX0 X.prog X.w X.K X.mg X.base Ng x sg g cdg X.A X.stack s H C8.E0).nox (@XCx.W I0) → (∀ (I : XCx) (pn : List (Addr × Obj)) (xe : Value → Shared → Prop) (p1 p2 : Pos), Go0 (@XCx.F0 I0) (@XCx.O0 I0) (@XCx.H0 I0) XCx.F0 XCx.O0 XCx.H0 → XOk X.K → Takes ((cxOf C8.CX0 X.prog X.w X.K X.mg X.base Ng x sg g cdg X.A X.stack s H C8.E0).tr pn xe) XCx.W →
        PD ((cxOf C8.CX0 X.prog X.w X.K X.mg X.base Ng x sg g cdg X.A X.stack s H C8.E0).tr pn xe) (.Call (.Name a p1) [] [] p2) (dAct f Ng.length rl XCx.ex)) →
      ∃ t : DS, @PBD _ I0 (cxOf C8.CX0 X.prog X.w X.K X.mg X.base Ng x sg g cdg X.A X.stack s H C8.E0).nox bg t ∧ ∀ O (k : D → OH → Prop), spW rl O k → t { nx := fun _ O' => k .non O', rt := k } (startD Ng [.own f]) O) :
    GivesTo X Ng x sg g cdg bg a q (TTD X.K spW) := by
  rename_i I0
  intro f c' s H Q tl act hc ht
  obtain ⟨F, O, k, rl, st, hrl, hs, o⟩ := ht
  have hact : ∀ (I : XCx) (pn : List (Addr × Obj)) (xe : Value → Shared → Prop) (p1 p2 : Pos), Go0 F O H I.F0 I.O0 I.H0 → @XOk _ I X.K → Takes ((cxOf C8.CX0 X.prog X.w X.K X.mg X.base Ng x sg g cdg X.A X.stack s H C8.E0).tr pn xe) I.W →
      @PD _ I ((cxOf C8.CX0 X.prog X.w X.K X.mg X.base Ng x sg g cdg X.A X.stack s H C8.E0).tr pn xe) (.Call (.Name a p1) [] [] p2) (dAct f Ng.length rl I.ex) := by
    intro I pn xe p1 p2 an xo tk
    refine @PD.mk _ I _ _ _ (PE.weak (act _ pn xe (fun cls d H' => ∃ C F' O', cls = .ref C ∧ d = none ∧ @Stt _ I X.K F' O' H' ∧ @XCx.ex I C (blank Ng.length) O') p1 p2 (Takes.len tk) fun cls d σ' H' hE len => ?_) fun σ HZ Q' hh => ?_)
    · obtain ⟨C, F', O', rfl, rfl, s', hx⟩ := hE
      have len : σ'.length = Ng.length := len
      exact xo C _ F' O' H' σ' hx s' (len ▸ erep_blank σ')
    · obtain ⟨F', e', O', k', st', er', ⟨h0, hr⟩, ok'⟩ := hh
      obtain ⟨v, hv, rv⟩ := er'.get h0
      cases rv
      have g0 : Go0 F O H F' O' HZ := an.trans (@Stt.anch _ I _ _ _ _ st')
      exact ⟨hv, @Go0.code _ I0 _ _ _ _ _ _ _ _ _ st g0 (@Stt.same _ I _ _ _ _ st') hc, hrl F' O' HZ _ Q' k' _ (Stt.conv st st' g0) g0 hr (Outs.conv st' ok') fun C O2 F2 H2 hx g => ⟨C, F2, O2, rfl, rfl, Stt.conv st' (@Go.stt _ I0 _ _ _ _ _ _ _ g) (@Go.go0 _ I0 _ _ _ _ _ _ _ g), hx⟩⟩
  obtain ⟨t, p, hq⟩ := h ⟨F, O, H, fun _ _ _ => False, fun _ _ _ _ => False⟩ f s H rl (fun _ _ _ _ _ _ z => z.elim) L2.takes0 hact
  have o' : @Outs _ ⟨F, O, H, fun _ _ _ => False, fun _ _ _ _ => False⟩ X.K F O H k Q := Outs.conv st o
  exact ⟨_, @PBD.pb _ ⟨F, O, H, fun _ _ _ => False, fun _ _ _ _ => False⟩ _ _ _ p, @start_up _ ⟨F, O, H, fun _ _ _ => False, fun _ _ _ _ => False⟩ _ _ _ _ _ _ _ _ _ _ st.self (.cons (.own f) .nil) o' (hq O k hs)⟩
theorem rl_body {X : Cx} {A : Around} {outer : List Env} {s : Shared} {H : Hp} {E : XK} {scope : Scope} {f c' : Addr} {body : Expr} {tb : DEx → DE}
    (h : ∀ (I : XCx), XOk X.K → Takes (lamCx X A outer s H E scope f c') XCx.W → PD (lamCx X A outer s H E scope f c') body (tb XCx.ex)) : PE (lamCx X A outer s H E scope f c') body (tRL X.K tb E) := by
  rename_i I0
  refine ⟨fun pins s' σ HZ Q' I' hh => ?_⟩
  obtain ⟨F, e, O, k, kx, st, er, hh, o, hE⟩ := hh
  have xo : @XOk _ ⟨F, O, HZ, fun C _ O' => kx C O', fun cls d _ H' => E cls d H'⟩ X.K := fun C e' F' O' H' σ' hx s2 _ => hE C O' F' H' hx (@Go.mk _ I0 _ _ _ _ _ _ _ (@Stt.anch _ ⟨F, O, HZ, fun C _ O' => kx C O', fun cls d _ H' => E cls d H'⟩ _ _ _ _ s2).same (Stt.conv st s2 (@Stt.anch _ ⟨F, O, HZ, fun C _ O' => kx C O', fun cls d _ H' => E cls d H'⟩ _ _ _ _ s2)) (@Stt.anch _ ⟨F, O, HZ, fun C _ O' => kx C O', fun cls d _ H' => E cls d H'⟩ _ _ _ _ s2).frame)
  exact (@PD.pe _ ⟨F, O, HZ, fun C _ O' => kx C O', fun cls d _ H' => E cls d H'⟩ _ _ _ (h ⟨F, O, HZ, fun C _ O' => kx C O', fun cls d _ H' => E cls d H'⟩ xo (takes_of rfl rfl rfl rfl))).run pins s' σ HZ Q' I' ⟨F, e, O, k, st.self, er, hh, Outs.conv st o⟩
theorem pd_lamcall {X : Cx} {x a : Str} {g c P : Addr} {k : Nat} {pg : Arguments} {bg : List Stmt} {sg : Scope} {dV kV doc pm cdv ct oc : Value} {an od : Option Addr} {osl : Array (Option Value)} {Ng : List Str}
    {params : Arguments} {body : Expr} {scope : Scope} {tb : DEx → DE} {spW : DLm} {p lpos pos : Pos} (hg : Gl X x) (hm : X.mg x = some (.ref g)) (hk : PySem.W.keepIn X.K (.ref g) = true)
    (lk : X.K.lookup g = some ⟨oc, od, .func (PySem.W.fnOf x x pg bg sg dV kV doc pm an cdv ct), osl⟩) (hcg : PySem.W.codeIn X.K cdv x = true) (hb : L2.Binds X.K (PySem.W.fnOf x x pg bg sg dV kV doc pm an cdv ct) [a] []) (Sg : FnScope Ng [a] sg) (hNg : Ng[0]? = some a) (hva : Vis sg a)
    (hG : GivesTo X Ng x sg g cdv bg a (X.env.qual ++ "<lambda>") (TTD X.K spW))
    (TB : TabB X.base X.mg c P) (hcode : X.env.code = .ref c) (hmT : (P, X.env.qual ++ "<lambda>") ∈ TabL.tabs) (hu : ∀ p ∈ TabL.tabs, p.1 = P → p.2 = X.env.qual ++ "<lambda>") (hr : Room (k + 2) X.A) (L : LamS X.env.scope scope) (hdef : defaultsOf params X.env = ([], []))
    (hbind : ∀ (q : Str) (cl : List (Str × Addr)) (pm cv ctv : Value), bindArgs (PySem.W.kla_fn "<lambda>" q params body scope cl pm cv ctv) ⟨[], []⟩ = pure [])
    (hbody : ∀ (I : XCx) (A : Around) (outer : List Env) (s : Shared) (H : Hp) (E : XK) (f c' : Addr), Room k (A.deeper (lamEnv X scope s.heap.objs.size f c')) → XOk X.K → Takes (lamCx X A outer s H E scope f c') XCx.W → PD (lamCx X A outer s H E scope f c') body (tb XCx.ex))
    (hdb : (x == ("__debug__" : Str)) = false := by decide) (hd : (a == ("__debug__" : Str)) = false := by decide) (hcd : (a == ("__classdict__" : Str)) = false := by decide) :
    PD X (.Call (.Name x p) [.Lambda params body scope lpos] [] pos) (dLam tb spW) := by
  rename_i I0
  refine ⟨PE.weak (pe_lamcall (T := TabL.tabs) (t := tRL X.K tb) hg hm hk lk hcg hb Sg hNg hva hG TB hcode hmT hu hr L hdef hbind (fun A outer s H E f c' hr' => rl_body fun I xo tk => hbody I A outer s H E f c' hr' xo tk) hdb hd hcd) fun σ H Q h => ?_⟩
  obtain ⟨F, e, O, k, st, er, h, o⟩ := h
  refine ⟨fun t ht => (st.tabs t ht).1, fun H1 eN hT => ?_⟩
  have g := st.ext eN hT
  exact ⟨F, O, k, _, g.stt, fun F' O' H' E Q' k' kx s' g0 hr o' hx => ⟨F', e, O', k', kx, s', er.mono g0.same, hr, o', hx⟩, h, o.after g⟩
end
end SC
/-! t[::s] of a tuple, s one or minus one. -/
namespace SC
open PySem PySem.Spec PyProof.Rows L2 HT
section
variable {prog : Program} {w : World} {A : Around} {E : Value → Shared → Prop} {s : Shared}
theorem slice_step {sl : Addr} {c : Int} {t : Tok} {n : Nat} {Q : Int × Int × Nat → Shared → Prop} (hs : s.heap.IsSliceOf sl .none .none (.int c t)) (h1 : c = 1 → Q ((0 : Int), 1, n) s) (h2 : c = -1 → Q ((n : Int) - 1, -1, n) s) (hc : c = 1 ∨ c = -1) :
    wpAny (model prog w) A (Builtin.Slice.sliceApplied (.ref sl) (pure (n : Int))) Q E s := by
  obtain ⟨os, hos, hcs, hds⟩ := id hs
  unfold Builtin.Slice.sliceApplied Builtin.Slice.sliceFields
  refine wpAny_bind (wpAny_bind (wpAny_field hos hds (x := .none) rfl (wpAny_bind (wpAny_field hos hds (x := .none) rfl (wpAny_bind (wpAny_field hos hds (x := .int c t) rfl (wpAny_pure ?_)))))))
  refine wpAny_bind (slicePart_int ?_)
  rcases hc with rfl | rfl
  · show wpAny _ _ (if ((1 : Int) == 0) = true then _ else _) _ _ s
    rw [if_neg (by decide)]
    refine wpAny_bind (slicePart_none (wpAny_bind (slicePart_none (wpAny_bind (wpAny_pure ?_)))))
    show wpAny _ _ (match Builtin.Slice.sliceAdjust none none 1 (n : Int) with | (lo, hi) => pure (lo, (1 : Int), Builtin.Slice.slicePlaces lo hi 1)) _ _ s
    have e : Builtin.Slice.sliceAdjust none none 1 (n : Int) = (0, (n : Int)) := by simp [Builtin.Slice.sliceAdjust]
    have e2 : Builtin.Slice.slicePlaces 0 (n : Int) 1 = n := by
      unfold Builtin.Slice.slicePlaces
      simp only [show (1 : Int) > 0 by omega, if_true, Int.ediv_one]
      split <;> omega
    rw [e]
    show wpAny _ _ (pure ((0 : Int), (1 : Int), Builtin.Slice.slicePlaces 0 (n : Int) 1)) _ _ s
    rw [e2]
    exact wpAny_pure (h1 rfl)
  · show wpAny _ _ (if ((-1 : Int) == 0) = true then _ else _) _ _ s
    rw [if_neg (by decide)]
    refine wpAny_bind (slicePart_none (wpAny_bind (slicePart_none (wpAny_bind (wpAny_pure ?_)))))
    show wpAny _ _ (match Builtin.Slice.sliceAdjust none none (-1) (n : Int) with | (lo, hi) => pure (lo, (-1 : Int), Builtin.Slice.slicePlaces lo hi (-1))) _ _ s
    have e : Builtin.Slice.sliceAdjust none none (-1) (n : Int) = ((n : Int) - 1, -1) := by simp [Builtin.Slice.sliceAdjust]
    have e2 : Builtin.Slice.slicePlaces ((n : Int) - 1) (-1) (-1) = n := by
      unfold Builtin.Slice.slicePlaces
      simp only [show ¬ ((-1 : Int) > 0) by omega, if_false, show (- -1 : Int) = 1 by decide, Int.ediv_one]
      split <;> omega
    rw [e]
    show wpAny _ _ (pure ((n : Int) - 1, (-1 : Int), Builtin.Slice.slicePlaces ((n : Int) - 1) (-1) (-1))) _ _ s
    rw [e2]
    exact wpAny_pure (h2 rfl)
theorem fm_congr {α β : Type} {f g : α → Option β} : ∀ l : List α, (∀ m ∈ l, f m = g m) → l.filterMap f = l.filterMap g
  | [], _ => rfl
  | a :: l, h => by
    rw [List.filterMap_cons, List.filterMap_cons, h a (by simp), fm_congr l fun m hm => h m (by simp [hm])]
theorem pick_rev (xs : Array Value) : ((List.range xs.size).filterMap fun (m : Nat) => xs[(((xs.size : Int) - 1) + (m : Int) * -1).toNat]?).toArray = xs.toList.reverse.toArray := by
  have e : ∀ m ∈ List.range xs.size, xs[(((xs.size : Int) - 1) + (m : Int) * -1).toNat]? = xs[xs.size - 1 - m]? := fun m hm => by
    have hm := List.mem_range.mp hm
    have : (((xs.size : Int) - 1) + (m : Int) * -1).toNat = xs.size - 1 - m := by omega
    rw [this]
  have e2 : ((List.range xs.size).filterMap fun (m : Nat) => xs[(((xs.size : Int) - 1) + (m : Int) * -1).toNat]?) = (List.range xs.size).filterMap fun m => xs[xs.size - 1 - m]? := by
    exact fm_congr _ e
  rw [e2]
  have := PySem.W.krv_range xs.size
  have e3 : (List.range xs.size).filterMap (fun m => xs[xs.size - 1 - m]?) = ((List.range xs.size).map fun k => xs.size - 1 - k).filterMap (xs[·]?) := by
    rw [List.filterMap_map]
    rfl
  rw [e3, this, List.filterMap_reverse, PySem.W.krv_all]
theorem getItem_tuple_step {t sl : Addr} {items : Array Value} {c : Int} {tk : Tok} {Q : Value → Shared → Prop} (ht : IsTup s.heap t items) (hs : s.heap.IsSliceOf sl .none .none (.int c tk)) (hc : c = 1 ∨ c = -1)
    (h1 : c = 1 → Q (.ref t) s) (h : c = -1 → Q (.ref s.heap.objs.size) { s with heap := s.heap.push { cls := .type "tuple", data := .seq items.toList.reverse.toArray } })
    (hsz : items.size ≤ sizeLine) : wpAny (model prog w) A (getItem (.ref t) (.ref sl)) Q E s := by
  have htake : sizeOk (.seq items.toList.reverse.toArray) := by
    show items.toList.reverse.toArray.size ≤ sizeLine
    simpa using hsz
  obtain ⟨os, hos, hcs, hds⟩ := id hs
  have hTs : s.TypeIs (.ref sl) "slice" := ⟨os, hos, hcs⟩
  unfold getItem
  try with_reducible refine wpAny_holding ?_
  first | refine wpAny_bind (wpAny_pure ?_) | skip
  refine wpAny_bind (wpAny_sequenceKey ht.typeIs (by decide) ?_)
  refine wpAny_bind (wpAny_callSpecial?_slot (name := Str.ofString "__getitem__") ht.typeIs PyProof.Rows.slot_tuple_getitem
    (wpAny_call_entry PyProof.Rows.slot_tuple_getitem ht.typeIs entry_tuple_getitem ?_ (args_tuple_getitem _ _)))
  show wpAny _ _ (Builtin.Tuple.tupleItemsOf (.ref t) >>= _) _ _ s
  refine wpAny_bind (tupleItemsOf_ ht ?_)
  refine wpAny_bind (wpAny_typeOf hTs ?_)
  rw [if_pos (by decide)]
  refine wpAny_bind (slice_step hs (fun e => ?_) (fun e => ?_) hc)
  · have hyes : ((0 : Int) == 0 && (1 : Int) == 1 && items.size == items.size) = true := by simp
    show wpAny _ _ (if ((0 : Int) == 0 && (1 : Int) == 1 && items.size == items.size) = true then _ else _) _ _ s
    rw [if_pos hyes]
    refine wpAny_bind ?_
    show wpAny _ _ (typeOf (.ref t) >>= fun T => pure (T == .type "tuple")) _ _ s
    refine wpAny_bind (wpAny_typeOf ht.typeIs (wpAny_pure ?_))
    first
      | rw [if_pos (by decide)]
      | simp only [beq_self_eq_true, if_true]
    first
      | exact wpAny_bind (wpAny_rule (wpAny_pure ⟨_, rfl, wpAny_pure (h1 e)⟩))
      | exact wpAny_bind (wpAny_rule (wpAny_bind (wpAny_pure (wpAny_pure ⟨_, rfl, wpAny_pure (h1 e)⟩))))
  · have hno : ¬ ((((items.size : Int) - 1) == 0 && (-1 : Int) == 1 && items.size == items.size) = true) := by simp
    show wpAny _ _ (if (((items.size : Int) - 1) == 0 && (-1 : Int) == 1 && items.size == items.size) = true then _ else _) _ _ s
    rw [if_neg hno, pick_rev]
    have h := h e
    first
      | exact wpAny_bind (m := Builtin.Tuple.tupleExact _) (wpAny_newObj_type (wpAny_pure ⟨_, rfl, wpAny_pure h⟩) htake)
      | exact wpAny_bind (m := Builtin.Tuple.tupleExact _) (wpAny_newObj_type (wpAny_bind (wpAny_pure (wpAny_pure ⟨_, rfl, wpAny_pure h⟩))) htake)
      | exact wpAny_bind (wpAny_bind (m := Builtin.Tuple.tupleExact _) (wpAny_newObj_type (wpAny_pure (wpAny_pure ⟨_, rfl, wpAny_pure h⟩)) htake))
      | exact wpAny_bind (wpAny_bind (m := Builtin.Tuple.tupleExact _) (wpAny_newObj_type (wpAny_pure ⟨_, rfl, wpAny_pure h⟩) htake))
end
section
variable [TabL] [XCx]
variable {X : Cx} {a b : Expr} {da db : DE} {pos p2 : Pos}
def tSlS (K : PySem.W.Frag) (te ts : TE) : TE := fun σ H Q => te σ H fun x H1 => ts σ H1 fun y H2 => ∃ t xs c, x = .ref t ∧ y = .int c ∧ SqT K H2 t xs ∧ (c = 1 ∨ c = -1) ∧ (c = 1 → Q (.ref t) H2) ∧ (c = -1 → ∀ p, H2 p = none → Q (.ref p) (upd H2 p (.tup xs.reverse)))
theorem pe_sliceS {te ts : TE} (he : PE X a te) (hs : PE X b ts) (hsub : ∀ v u : Value, subscripted (.Slice none none (some b) p2) false v u = operate [v, u] (getItem v u) := by intro _ _; with_unfolding_all rfl) : PE X (.Subscript a (.Slice none none (some b) p2) pos) (tSlS X.K te ts) := by
  refine ⟨fun pins s σ H Q I h => ?_⟩
  refine Subscript_ (thn (he.run pins s σ H _ I h) fun v s1 ⟨x, H1, I1, r1, q1⟩ => ?_)
  refine wpAny_Slice ?_
  rw [evalPart_none]
  refine wpAny_pure (wpAny_pure ?_)
  rw [evalPart_some]
  refine thn (hs.run pins s1 σ H1 _ I1 q1) fun vc s3 ⟨y, H3, I3, pc, q3⟩ => ?_
  obtain ⟨t, xs, c, rfl, rfl, hq, hc, h1, h2⟩ := q3
  obtain ⟨tk, rfl⟩ := pc
  cases r1
  have I4 : Inv X pins σ H3 { s3 with heap := s3.heap.push { cls := .type "slice", data := .fields #[.none, .none, .int c tk] } } := I3.kept (t' := s3.toks) fun b ob q => Heap.get?_push_of_some _ q
  obtain ⟨its, r, ht, hz⟩ := I4.tuple hq
  have hsl : (s3.heap.push { cls := .type "slice", data := .fields #[.none, .none, .int c tk] }).IsSliceOf s3.heap.objs.size .none .none (.int c tk) := Heap.IsSliceOf.new ..
  show wpAny (model X.prog X.w) X.A (subscriptTail a (.Slice none none (some b) p2) (.ref t) (.ref s3.heap.objs.size)) (EP X pins σ Q) X.xe { s3 with heap := s3.heap.push { cls := .type "slice", data := .fields #[.none, .none, .int c tk] } }
  refine tail_any (ops := [.ref t, .ref s3.heap.objs.size]) ht.typeIs PyProof.Rows.slot_tuple_getitem.lookup ?_ (hsub _ _)
  have hlen : its.toArray.size = xs.length := by rw [List.size_toArray]; exact r.length.symm
  refine getItem_tuple_step (s := { s3 with heap := s3.heap.push { cls := .type "slice", data := .fields #[.none, .none, .int c tk] } }) ht hsl hc (fun e => ⟨.ref t, H3, I4, rfl, h1 e⟩) (fun e => ?_) (by rw [hlen]; exact hz)
  refine ⟨.ref _, _, I4.laid (t' := s3.toks) (o := .tup xs.reverse) (fun b ob q => Heap.get?_push_of_some _ q) (Nat.le_refl _) ?_, rfl, h2 e _ (I4.hok.fresh (Nat.le_refl _))⟩
  exact ⟨by simpa using hz, _, r.reverse, IsTup.new _ _⟩
/-- t[::s] -/
def dSlS (t u : DE) : DE := fun e O k => t e O fun d O1 => u e O1 fun d2 O2 => match d, d2 with
  | .tup xs, .int c => (c = 1 ∨ c = -1) ∧ k (.tup (bif c == 1 then xs else xs.reverse)) O2
  | _, _ => False
theorem Reps.reverse {K : PySem.W.Frag} {F : Hp} : ∀ {vs : List V} {ds : List D}, Reps K F vs ds → Reps K F vs.reverse ds.reverse
  | _, _, .nil => .nil
  | _, _, .cons h r => by
    rw [List.reverse_cons, List.reverse_cons]
    exact (Reps.reverse r).append (.cons h .nil)
theorem pd_sliceS (ha : PD X a da) (hb : PD X b db) (hsub : ∀ v u : Value, subscripted (.Slice none none (some b) p2) false v u = operate [v, u] (getItem v u) := by intro _ _; with_unfolding_all rfl) : PD X (.Subscript a (.Slice none none (some b) p2) pos) (dSlS da db) := by
  refine ⟨PE.weak (pe_sliceS ha.pe hb.pe hsub) fun σ H Q h => ?_⟩
  obtain ⟨F, e, O, k, st, er, h, o⟩ := h
  refine ⟨F, e, O, _, st, er, h, fun d O1 F1 H1 v h1 g1 r1 => ⟨F1, e, O1, _, g1.stt, er.mono g1.same, h1, fun d2 O2 F2 H2 v2 h2 g2 r2 => ?_⟩⟩
  have g := g1.trans g2
  have r3 := r1.mono g2.same
  try dsimp only at h2
  split at h2
  · rename_i xs c
    obtain ⟨hc, h2⟩ := h2
    cases r2
    cases r3 with
    | tup q rr =>
      refine ⟨_, _, c, rfl, rfl, Same.seqT g.stt.same q, hc, fun e => ?_, fun e p n => ?_⟩
      · subst e
        exact o _ _ _ _ _ h2 g (.tup q rr)
      · subst e
        exact o _ _ _ _ _ h2 (g.trans (g.stt.made n)) (.tup (.of upd_same) (rr.reverse.mono (same_upd (free_F g.stt n))))
  · exact h2.elim
end
end SC
/-! Some more expressions. -/
namespace SC
open PySem PySem.Spec PyProof.Rows L2
section
variable [TabL] [XCx]
variable {X : Cx} {a b : Expr} {da db : DE} {pos : Pos}
theorem pd_dct : PD X (.Dict [] [] pos) (dC .dct) := ⟨PE.weak pe_dnewK fun σ H Q ⟨F, e, O, k, st, er, h, o⟩ => fun p n => o _ _ _ _ _ h (st.made n) (.dct upd_same)⟩
/-- list(x) -/
def rListD : RCD := fun ds O k => match ds with
  | [.lst xs] => k (.lst xs) O
  | [.tup xs] => k (.lst xs) O
  | [.fz xs] => k (.lst xs) O
  | _ => False
theorem cd_list {K : PySem.W.Frag} : CallD K (fun xs H Q => ∃ p ys, xs = [.ref p] ∧ (SqL K H p ys ∨ SqT K H p ys) ∧ ∀ l, H l = none → Q (.ref l) (upd H l (.lst ys))) rListD := by
  intro xs ds F O H k Q st r h o
  unfold rListD at h
  split at h
  · cases r with
    | cons r1 r2 =>
      cases r2
      cases r1 with
      | lst q rr => exact ⟨_, _, rfl, .inl (.of (st.same _ _ q)), fun l n => o _ _ _ _ _ h (st.made n) (.lst upd_same (rr.mono (same_upd (free_F st n))))⟩
  · cases r with
    | cons r1 r2 =>
      cases r2
      cases r1 with
      | tup q rr => exact ⟨_, _, rfl, .inr (Same.seqT st.same q), fun l n => o _ _ _ _ _ h (st.made n) (.lst upd_same (rr.mono (same_upd (free_F st n))))⟩
  · cases r with
    | cons r1 r2 =>
      cases r2
      cases r1 with
      | fz q rr => exact ⟨_, _, rfl, .inl (st.same.seq q), fun l n => o _ _ _ _ _ h (st.made n) (.lst upd_same (rr.mono (same_upd (free_F st n))))⟩
  · exact h.elim
/-- t * k, k two or more, t not empty -/
def dMulT : R2D := fun x y O k => match x, y with
  | .tup xs, .int c => (xs ≠ [] ∧ xs.length ≤ 1000 ∧ 2 ≤ c ∧ c ≤ 1000) ∧ k (.tup (List.replicate c.toNat xs).flatten) O
  | _, _ => False
theorem Reps.reps {K : PySem.W.Frag} {F : Hp} {vs : List V} {ds : List D} (r : Reps K F vs ds) : ∀ n : Nat, Reps K F (List.replicate n vs).flatten (List.replicate n ds).flatten
  | 0 => .nil
  | n + 1 => by
    rw [List.replicate_succ, List.replicate_succ, List.flatten_cons, List.flatten_cons]
    exact r.append (Reps.reps r n)
theorem od_mulT {K : PySem.W.Frag} : OpD K (fun x y H Q => ∃ l k xs, x = .ref l ∧ y = .int k ∧ SqT K H l xs ∧ xs ≠ [] ∧ 2 ≤ k ∧ k ≤ 1000 ∧ xs.length ≤ 1000 ∧ ∀ p, H p = none → Q (.ref p) (upd H p (.tup (List.replicate k.toNat xs).flatten))) dMulT := by
  intro x y a b F O H k Q st ra rb h o
  unfold dMulT at h
  split at h
  · obtain ⟨⟨h1, h2, h3, h4⟩, h⟩ := h
    cases rb
    cases ra with
    | @tup l xs ds q rr =>
      have n0 : xs ≠ [] := fun z => h1 (List.eq_nil_of_length_eq_zero (by rw [← rr.length, z]; rfl))
      exact ⟨_, _, _, rfl, rfl, Same.seqT st.same q, n0, h3, h4, by rw [rr.length]; exact h2, fun p n => o _ _ _ _ _ h (st.made n) (.tup (.of upd_same) ((rr.reps _).mono (same_upd (free_F st n))))⟩
  · exact h.elim
theorem pd_mulT (ha : PD X a da) (hb : PD X b db) : PD X (.BinOp a .Mult b pos) (dOp dMulT da db) := pd_op op_repT od_mulT ha hb
/-- lists of three flags compared -/
def dEq3 : R2D := fun x y O k => match x, y with
  | .lst [.bl a, .bl b, .bl c], .lst [.bl a', .bl b', .bl c'] => k (.bl (a == a' && (b == b' && c == c'))) O
  | _, _ => False
theorem dp3 {K : PySem.W.Frag} {F H : Hp} {v : V} {a b c : Bool} (s : Same F H) (r : Rep K F v (.lst [.bl a, .bl b, .bl c])) : Dp K H v (.list [.bool a, .bool b, .bool c]) := by
  cases r with
  | lst q rr =>
    cases rr with
    | cons r1 rr => cases rr with
      | cons r2 rr => cases rr with
        | cons r3 rr =>
          cases rr; cases r1; cases r2; cases r3
          exact .lst (.of (s _ _ q)) (.cons (.bl a) (.cons (.bl b) (.cons (.bl c) .nil)))
theorem od_eq3 {K : PySem.W.Frag} : OpD K (rEqD K) dEq3 := by
  intro x y a b F O H k Q st ra rb h o
  unfold dEq3 at h
  split at h
  · rename_i a b c a' b' c'
    refine ⟨_, _, dp3 st.same ra, dp3 st.same rb, ?_, ?_, o _ _ F H _ h st.go ?_⟩
    · cases a <;> cases b <;> cases c <;> decide +kernel
    · cases a' <;> cases b' <;> cases c' <;> decide +kernel
    · have e : PyData.eqv (.list [.bool a, .bool b, .bool c]) (.list [.bool a', .bool b', .bool c']) = (a == a' && (b == b' && c == c')) := by
        cases a <;> cases b <;> cases c <;> cases a' <;> cases b' <;> cases c' <;> decide +kernel
      rw [e]
      exact .bl _
  · exact h.elim
theorem pd_eq3 (hu : X.A.units + 64 < cLine) (ha : PD X a da) (hb : PD X b db) : PD X (.Compare a [.Eq] [b] pos) (dOp dEq3 da db) := pd_cmp (op_eqD hu) od_eq3 ha hb
/-- an own list + a list -/
def dAddL : R2D := fun a b O k => match a, b with
  | .own p, .lst ys => match O p with
    | some xs => xs.length + ys.length ≤ sizeLine ∧ k (.lst (xs ++ ys)) O
    | none => False
  | _, _ => False
/-- the sum may still be changed -/
def dAddLO : R2D := fun a b O k => match a, b with
  | .own p, .lst ys => match O p with
    | some xs => xs.length + ys.length ≤ sizeLine ∧ ∀ q, O q = none → k (.own q) (oset O q (xs ++ ys))
    | none => False
  | _, _ => False
theorem od_addL {K : PySem.W.Frag} : OpD K rCat dAddL := by
  intro x y a b F O H k Q st ra rb h o
  unfold dAddL at h
  split at h
  · rename_i p ys
    split at h
    · rename_i ds e
      obtain ⟨xs, q, rr⟩ := st.rel e
      cases ra
      cases rb with
      | lst q2 rr2 => exact ⟨_, _, _, _, rfl, rfl, q, st.same _ _ q2, by rw [rr.length, rr2.length]; exact h.1, fun p n => o _ _ _ _ _ h.2 (st.made n) (.lst upd_same ((rr.append rr2).mono (same_upd (free_F st n))))⟩
    · exact h.elim
  · exact h.elim
theorem od_addLO {K : PySem.W.Frag} : OpD K rCat dAddLO := by
  intro x y a b F O H k Q st ra rb h o
  unfold dAddLO at h
  split at h
  · rename_i p ys
    split at h
    · rename_i ds e
      obtain ⟨xs, q, rr⟩ := st.rel e
      cases ra
      cases rb with
      | lst q2 rr2 => exact ⟨_, _, _, _, rfl, rfl, q, st.same _ _ q2, by rw [rr.length, rr2.length]; exact h.1, fun p n => o _ _ _ _ _ (h.2 p (free_O st n)) (st.fresh n (rr.append rr2)) (.own p)⟩
    · exact h.elim
  · exact h.elim
theorem pd_addL (ha : PD X a da) (hb : PD X b db) : PD X (.BinOp a .Add b pos) (dOp dAddL da db) := pd_op op_cat od_addL ha hb
theorem pd_addLO (ha : PD X a da) (hb : PD X b db) : PD X (.BinOp a .Add b pos) (dOp dAddLO da db) := pd_op op_cat od_addLO ha hb
end
end SC
namespace SC
open PySem PySem.Spec PyProof.Rows L2
section
variable [TabL] [XCx]
/-- what is never come to -/
def dDead : DS := fun _ _ _ => False
theorem psd_dead {X : Cx} {st : Stmt} : PSD X st dDead := ⟨⟨fun _ _ _ _ _ _ h => h.elim fun _ h => h.elim fun _ h => h.elim fun _ h => h.elim fun _ h => h.2.2.1.elim⟩⟩
end
end SC
namespace SC
open PySem PySem.Spec PyProof.Rows L2
section
variable [TabL] [XCx]
/-- lists of its own may be left behind -/
def jk (kk : D → OH → Prop) : D → OH → Prop := fun d O => ∃ qs : List Addr, kk d (qs.foldl odel O)
theorem odel_some {O : OH} {q a : Addr} {ds : List D} (h : odel O q a = some ds) : O a = some ds := by
  unfold odel at h
  split at h
  · cases h
  · exact h
theorem odel_none {O : OH} {q a : Addr} (h : O a = none) : odel O q a = none := by
  unfold odel
  split
  · rfl
  · exact h
theorem Go.drop {K : PySem.W.Frag} {F F1 H H1 : Hp} {O O1 : OH} (s : Stt K F O H) (g : Go K F O H F1 O1 H1) (q : Addr) : Go K F O H F1 (odel O1 q) H1 :=
  Go.of s g.same g.stt.same (fun a ds e => g.stt.own a ds (odel_some e)) (fun t ht => let ⟨a, b, c⟩ := g.stt.tabs t ht; ⟨a, b, odel_none c⟩) (fun a o h f u n => let ⟨x, y, z⟩ := g.frame a o h f u n; ⟨x, y, odel_none z⟩) g.stt.nt
theorem Go.drops {K : PySem.W.Frag} {F F1 H H1 : Hp} {O : OH} (s : Stt K F O H) : ∀ (qs : List Addr) {O1 : OH}, Go K F O H F1 O1 H1 → Go K F O H F1 (qs.foldl odel O1) H1
  | [], _, g => g
  | q :: qs, _, g => Go.drops s qs (g.drop s q)
theorem Outs.jk {K : PySem.W.Frag} {F H : Hp} {O : OH} {kk : D → OH → Prop} {Q : VK} (s : Stt K F O H) (o : Outs K F O H kk Q) : Outs K F O H (jk kk) Q := fun d O' F' H' v ⟨qs, h⟩ g r => o d _ F' H' v h (Go.drops s qs g) r
end
section
variable [TabL] [XCx] {P : Program} {w : World} {K : PySem.W.Frag} {mg : Str → Option Value} {base : Heap}
theorem okDj {x qual : Str} {st : Stmt} {f : Addr} {fd : FuncData} {N ps : List Str} {k : Nat} {sp : DSp} (F : Fun K x qual st f fd) (S : FnScope N ps (defScope st)) (len : ∀ ds O k, sp ds O k → ds.length = ps.length)
    (hbody : ∀ (cdv : Value) (A : Around) (outer : List Env) (s : Shared) (H : Hp) (E : XK), Room k (A.deeper (envOfC qual (defScope st) s.heap.objs.size f cdv)) →
      ∃ t : DS, PBD (cxOf CX0 P w K mg base N qual (defScope st) f cdv A outer s H E).nox (defBody st) t ∧ ∀ ds O (kk : D → OH → Prop), sp ds O kk → t { nx := fun _ O' => kk .non O', rt := jk kk } (startD N ds) O) :
    FnOk P w K mg base CX0 (k + 1) f fd ps (upSp K sp) := by
  refine F.ok S (fun vs H Q E h => ?_) fun cdv A outer s H vs Q E hr h => ?_
  · obtain ⟨F, ds, O, k, st, r, h, o⟩ := h
    rw [r.length]
    exact len _ _ _ h
  · obtain ⟨t, p, q⟩ := hbody cdv A outer s H E hr
    obtain ⟨F, ds, O, kk, st, r, h, o⟩ := h
    exact ⟨_, p.pb, F, _, O, _, st, erep_start r N, q ds O kk h, fun e' O' F' H' σ' h' g' _ => o _ _ _ _ _ h' g' .non, o.jk st, fun _ _ _ _ _ z => z.elim, fun _ _ _ _ _ z => z.elim⟩
end
end SC
/-! What is done under a condition; a def whose code object is known; classes of errors. -/
namespace SC
open PySem PySem.Spec PyProof.Rows L2
section
variable [TabL] [XCx]
/-- done where c is known to hold -/
def dWhen (c : Prop) (t : DS) : DS := fun k e O => c ∧ t k e O
theorem pbd_when {X : Cx} {b : List Stmt} {c : Prop} {t : DS} (h : c → PBD X b t) : PBD X b (dWhen c t) :=
  ⟨⟨fun pins s σ H D I ⟨F, e, O, k, st, er, ⟨hc, ht⟩, o⟩ => ((h hc).pb).run pins s σ H D I ⟨F, e, O, k, st, er, ht, o⟩⟩⟩
theorem pbd_dead {X : Cx} {b : List Stmt} : PBD X b dDead := ⟨⟨fun _ _ _ _ _ _ h => h.elim fun _ h => h.elim fun _ h => h.elim fun _ h => h.elim fun _ h => h.2.2.1.elim⟩⟩
end
section
variable [TabL] [XCx] {P : Program} {w : World} {K : PySem.W.Frag} {mg : Str → Option Value} {base : Heap}
/-- a def whose code object is at c -/
theorem okDc {x qual : Str} {st : Stmt} {f c : Addr} {fd : FuncData} {N ps : List Str} {k : Nat} {sp : DSp} (F : Fun K x qual st f fd) (hc : fd.code = .ref c) (S : FnScope N ps (defScope st)) (len : ∀ ds O k, sp ds O k → ds.length = ps.length)
    (hbody : ∀ (A : Around) (outer : List Env) (s : Shared) (H : Hp) (E : XK), Room k (A.deeper (envOfC qual (defScope st) s.heap.objs.size f (.ref c))) →
      ∃ t : DS, PBD (cxOf CX0 P w K mg base N qual (defScope st) f (.ref c) A outer s H E).nox (defBody st) t ∧ ∀ ds O (kk : D → OH → Prop), sp ds O kk → t { nx := fun _ O' => kk .non O', rt := kk } (startD N ds) O) :
    FnOk P w K mg base CX0 (k + 1) f fd ps (upSp K sp) := by
  obtain ⟨oc, od, kV, doc, pm, an, cdv, ct, osl, rfl, lk, hcd⟩ := F.ex
  have hc' : cdv = .ref c := hc
  subst hc'
  refine fn_of lk hcd S (fun vs H Q E h => ?_) fun A outer s H vs Q E hr h => ?_
  · obtain ⟨F, ds, O, k, st, r, h, o⟩ := h
    rw [r.length]
    exact len _ _ _ h
  · obtain ⟨t, p, q⟩ := hbody A outer s H E hr
    obtain ⟨F, ds, O, kk, st, r, h, o⟩ := h
    exact ⟨_, p.pb.nox, F, _, O, _, st, erep_start r N, q ds O kk h, fun e' O' F' H' σ' h' g' _ => o _ _ _ _ _ h' g' .non, o, fun _ _ _ _ _ z => z.elim, fun _ _ _ _ _ z => z.elim⟩
end
end SC
/-! Objects of own classes: made by an own __init__ that keeps its arguments, their fields read, isinstance of their class. -/
namespace SC
open PySem PySem.Spec PyProof.Rows L2
section
variable [TabL] [XCx]
theorem look_zip {K : PySem.W.Frag} {F : Hp} {f : Str} {x : D} : ∀ {ns : List Str} {vs : List V} {ds : List D}, Reps K F vs ds → (ns.zip ds).lookup f = some x → ∃ v, (ns.zip vs).lookup f = some v ∧ Rep K F v x
  | [], _, _, _, h => by cases h
  | n :: ns, _, _, .nil, h => by cases h
  | n :: ns, _, _, .cons (v := v) (vs := vs) (d := d) (ds := ds) r rr, h => by
    have h' : List.lookup f ((n, d) :: ns.zip ds) = some x := h
    show ∃ u, List.lookup f ((n, v) :: ns.zip vs) = some u ∧ _
    rw [List.lookup_cons] at h' ⊢
    cases e : f == n with
    | true => rw [e] at h'; cases h'; exact ⟨v, rfl, r⟩
    | false => rw [e] at h'; exact look_zip rr h'
/-- o.f -/
def dFld (K : PySem.W.Frag) (f : Str) (t : DE) : DE := fun e O k => t e O fun d O1 => match d with
  | .obj C ns ds => (Cls K C ∧ NoAttr K C f) ∧ ∃ x, (ns.zip ds).lookup f = some x ∧ k x O1
  | _ => False
theorem pd_fld {X : Cx} {o : Expr} {f : Str} {pos : Pos} {t : DE} (ha : PD X o t) (hb : attributeBase o f X.env (eval o X.env) = eval o X.env := by rfl) : PD X (.Attribute o f pos) (dFld X.K f t) :=
  ⟨PE.weak (pe_fld ha.pe hb) fun σ H Q ⟨F, e, O, k, st, er, h, ok⟩ => ⟨F, e, O, _, st, er, h, fun d O1 F1 H1 v h1 g1 r1 => by
    try dsimp only at h1
    split at h1
    · obtain ⟨⟨c, n⟩, x, l, h1⟩ := h1
      cases r1 with
      | obj q rr =>
        obtain ⟨u, lu, ru⟩ := look_zip rr l
        exact ⟨_, _, _, _, u, rfl, g1.stt.same _ _ q, c, n, lu, ok _ _ _ _ _ h1 g1 ru⟩
    · exact h1.elim⟩⟩
/-- isinstance(o, C), o an object of C -/
def rIsC (C : Addr) : RCD := fun ds O k => ∃ ns fs, ds = [.obj C ns fs, .own C] ∧ k (.bl true) O
theorem cd_isC {K : PySem.W.Frag} {C : Addr} : CallD K (fun xs H Q => ∃ a dx fs, xs = [.ref a, .ref C] ∧ H a = some (.ins C dx fs) ∧ Q (.bl true) H) (rIsC C) := by
  intro xs ds F O H k Q st r h o
  obtain ⟨ns, fs, rfl, h⟩ := h
  cases r with
  | cons r1 r2 => cases r2 with
    | cons r2 r3 =>
      cases r3
      cases r2
      cases r1 with
      | obj q rr => exact ⟨_, _, _, rfl, st.same _ _ q, o _ _ _ _ _ h st.go (.bl _)⟩
/-! ### the making -/
omit [TabL] [XCx] in
theorem tabS_ins {H : Hp} {p P C dx : Addr} {q : Str} {o : HO} {fs : List (Str × V)} (t : LamX.TabS H P q) (n : H p = some (.ins C dx fs)) : LamX.TabS (upd H p o) P q := by
  obtain ⟨ps, h1, h2, h3⟩ := t
  refine ⟨ps, ?_, h2, fun pos cv hc => ?_⟩
  · rw [upd_ne (fun z => by rw [z, n] at h1; cases h1)]; exact h1
  · obtain ⟨c, e1, e2⟩ := h3 pos cv hc
    refine ⟨c, e1, ?_⟩
    rw [upd_ne (fun z => by rw [z, n] at e2; unfold LamX.CodeO at e2; cases e2)]; exact e2
/-- the object at x, its fields written since, is known from now on -/
theorem Go.madeObj {K : PySem.W.Frag} {F F1 H0 H1 : Hp} {O : OH} {x dx C : Addr} {fs : List (Str × V)} (s : Stt K F O H0) (nx : H0 x = none) (nd : H0 dx = none) (ne : dx ≠ x)
    (g : Go K F O (upd (upd H0 dx (.own x)) x (.ins C dx [])) F1 O H1) : Go K F O H0 (upd F1 x (.ins C dx fs)) O (upd H1 x (.ins C dx fs)) := by
  have g0 : Go K F O H0 F O (upd H0 dx (.own x)) := s.junk nd
  have nx' : upd H0 dx (.own x) x = none := by rw [upd_ne ne.symm]; exact nx
  have g1 := (g0.trans (g0.stt.junk (o := .ins C dx []) nx')).trans g
  obtain ⟨hx, fx, ox⟩ := g.frame x (.ins C dx []) upd_same (free_F s nx) (free_O s nx) (fun ps z => by cases z)
  refine Go.of s (g1.same.trans (same_upd fx)) (fun b o q => ?_) (fun a ds q => ?_) (fun t ht => ?_) (fun a o h f q n => ?_) (nt_upd g1.stt.nt fun _ z => by cases z)
  · by_cases z : b = x
    · subst z; rw [upd_same] at q ⊢; exact q
    · rw [upd_ne z] at q ⊢; exact g1.stt.same _ _ q
  · obtain ⟨f, xs, h, r⟩ := g1.stt.own a ds q
    have z : a ≠ x := fun z => by rw [z, ox] at q; cases q
    exact ⟨by rw [upd_ne z]; exact f, xs, by rw [upd_ne z]; exact h, r.mono (same_upd fx)⟩
  · obtain ⟨a, b, c⟩ := g1.stt.tabs t ht
    obtain ⟨ps, h⟩ := tabS_at a
    have z : t.1 ≠ x := fun z => by rw [z, hx] at h; cases h
    exact ⟨tabS_ins a hx, by rw [upd_ne z]; exact b, c⟩
  · have z := ne_of_none h nx
    obtain ⟨q1, q2, q3⟩ := g1.frame a o h f q n
    exact ⟨by rw [upd_ne z]; exact q1, by rw [upd_ne z]; exact q2, q3⟩
/-- what an __init__ promises that keeps its arguments under ns -/
def spInitR (K : PySem.W.Frag) (C : Addr) (ns : List Str) (P : List D → Prop) : Sp := fun vs H Q _ => ∃ x dx H0 F O us ds, vs = .ref x :: us ∧ H = upd (upd H0 dx (.own x)) x (.ins C dx []) ∧ H0 x = none ∧ H0 dx = none ∧ dx ≠ x ∧
  Stt K F O H0 ∧ Reps K F us ds ∧ P ds ∧ ∀ F' H', Go K F O H0 F' O H' → Rep K F' (.ref x) (.obj C ns ds) → Q .non H'
/-- C(..) -/
def dMake (C : Addr) (ns : List Str) (P : List D → Prop) (t : DA) : DE := fun e O k => t e O fun ds O1 => P ds ∧ k (.obj C ns ds) O1
theorem pd_make {X : Cx} {C f : Addr} {fd : FuncData} {ps ns : List Str} {P : List D → Prop} {k : Nat} {x : Str} {a : Expr} {es : List Expr} {t : DA} {p pos : Pos} (M : Mk X.K C f) (Fn : FnOk X.prog X.w X.K X.mg X.base CX0 k f fd ps (spInitR X.K C ns P)) (hr : Room (k + 1) X.A) (hg : Gl X x) (hm : X.mg x = some (.ref C)) (hb : Binds X.K fd ps [])
    (ha : PAD X (a :: es) t) (hdb : (x == ("__debug__" : Str)) = false := by decide) (he : starEach (a :: es) X.env = (false, eval a X.env) :: starEach es X.env := by rfl) (hpl : (backTo pos (starEach es X.env)).any (·.1) = false := by rfl) :
    PD X (.Call (.Name x p) (a :: es) [] pos) (dMake C ns P t) :=
  ⟨PE.weak (pe_make M Fn hr hg hm hb .nil L2.pass0 ha.pa hdb he hpl) fun σ H Q ⟨F, e, O, k, st, er, h, o⟩ => ⟨F, e, O, _, st, er, h, fun ds O1 F1 H1 vs h1 g1 r1 x dx nx nd ne =>
    ⟨x, dx, H1, F1, O1, vs, ds, by rw [List.append_nil], rfl, nx, nd, ne, g1.stt, r1, h1.1, fun F' H' g r => ⟨rfl, o _ _ _ _ _ h1.2 (g1.trans g) r⟩⟩⟩⟩
/-! ### the body of an __init__: tests, then stores -/
theorem pss_test {X : Cx} {st : Stmt} {rest : List Stmt} {t : DS} {u : TS} (h1 : PSD X st t) (h2 : PSs X rest u) : PSs X (st :: rest) (fun D σ H => ∃ F e O, Stt X.K F O H ∧ ERep X.K F σ e ∧ t { nx := fun e' O' => e' = e ∧ O' = O, rt := fun _ _ => False } e O ∧
    ∀ F' H' σ', Go X.K F O H F' O H' → ERep X.K F' σ' e → u D σ' H') :=
  PSs.weak (pss_cons h1.ps h2) fun D σ H ⟨F, e, O, st, er, ht, hu⟩ => ⟨F, e, O, _, st, er, ht, ⟨fun e' O' F' H' σ' ⟨q1, q2⟩ g r => by subst q1 q2; exact hu _ _ _ g r, fun _ _ _ _ _ z => z.elim, fun _ _ _ _ _ z => z.elim, fun _ _ _ _ _ z => z.elim⟩⟩
theorem sFld_go {K : PySem.W.Frag} {D : Ends} {σ : L2.St} {H : Hp} {i : Nat} {f : Str} {x C dx : Addr} {v : V} {fs : List (Str × V)} (h0 : σ[0]? = some (some (.ref x))) (hi : σ[i]? = some (some v)) (hx : H x = some (.ins C dx fs)) (c : Cls K C) (n : NoAttr K C f) (l : fs.length < 1000)
    (h : D.nx σ (upd H x (.ins C dx (putF f v fs)))) : sFld K (tVar 0) (tVar i) f D σ H := by
  exact ⟨v, hi, .ref x, h0, x, C, dx, fs, rfl, hx, c, n, l, h⟩
end
end SC
/-! zip of a text and a tuple. -/
namespace SC
open PySem PySem.Spec PyProof.Rows L2
variable [TabL] [XCx]
def sg (c : Nat) : Str := ⟨#[c]⟩
def ItzS (K : PySem.W.Frag) (x : Str) (b : Addr) : It :=
  ⟨fun i H => ∃ (ys : List V) (y : V), SqT K H b ys ∧ i < x.cps.size ∧ ys[i]? = some y,
    fun i H v H' => ∃ T c y, v = .ref T ∧ H T = none ∧ H' = upd H T (.tup [.str (sg c), y]) ∧ x.cps[i]? = some c ∧ ∀ ys, SqT K H b ys → ys[i]? = some y,
    fun i H => ∃ ys : List V, SqT K H b ys ∧ x.cps.size = ys.length ∧ i = ys.length⟩
structure Sep2 (z TI TO i1 i2 b : Addr) : Prop where
  s : ZipSep2 z TI TO i1 i2 [i1] [i2, b]
  b2 : b ≠ i2
  i1z : i1 ≠ z
  i2z : i2 ≠ z
omit [TabL] [XCx] in
theorem turn_zipS {P : Program} {w : World} {K : PySem.W.Frag} {elts : List Expr} {kk : Nat} {tpos : Pos} {x : Str} {t : Tok} {b z TI TO i1 i2 : Addr} (D : Sep2 z TI TO i1 i2 b) :
    Turn P w K (.Tuple elts kk tpos) (ItzS K x b) [z, TI, TO, i1, i2] z (fun i h => IsZip h z TI TO .none ∧ IsTupOf2 h TI (.ref i1) (.ref i2) ∧ (∃ x y, IsTupOf2 h TO x y) ∧ h.IsStrIter i1 (strIterType x) x t i ∧ h.IsTupleIter i2 b i) where
  mem := by simp
  obj := fun i h st e he => by
    obtain ⟨hz, hTI, ⟨x, y, hTO⟩, ⟨o1, e1, _, d1⟩, ⟨o2, e2, _, d2⟩⟩ := st
    have e' : e = z ∨ e = TI ∨ e = TO ∨ e = i1 ∨ e = i2 := by simpa using he
    rcases e' with q | q | q | q | q
    · rw [q]; exact ⟨_, hz, fun v q => nomatch q⟩
    · rw [q]; exact ⟨_, hTI, fun v q => nomatch q⟩
    · rw [q]; exact ⟨_, hTO, fun v q => nomatch q⟩
    · rw [q]; exact ⟨o1, e1, fun v q => by rw [d1] at q; cases q⟩
    · rw [q]; exact ⟨o2, e2, fun v q => by rw [d2] at q; cases q⟩
  keep := fun i h h' st k => by
    obtain ⟨hz, hTI, ⟨x, y, hTO⟩, h1, h2⟩ := st
    exact ⟨k z (by simp) _ hz, k TI (by simp) _ hTI, ⟨x, y, k TO (by simp) _ hTO⟩, (let ⟨o, a, b, c⟩ := h1; ⟨o, k i1 (by simp) o a, b, c⟩), h2.at fun o q => k i2 (by simp) o q⟩
  item := by
    intro X hP hw hK hc i pins s σ H E I hf st hg
    subst hP hw hK
    obtain ⟨hz, hTI, ⟨x0, y0, hTO⟩, h1, h2⟩ := st
    obtain ⟨ys, y, hqy, hlx, hy⟩ := hg
    obtain ⟨its2, rv2, p2, _⟩ := I.tuple hqy
    obtain ⟨v2, hv2, r2⟩ := rv2.get hy
    have hzl : z < s.heap.objs.size := Heap.lt_size hz
    have lt {its : List Value} {v : Value} (e : its[i]? = some v) : i < its.toArray.size := by rw [List.size_toArray]; exact (List.getElem?_eq_some_iff.mp e).1
    refine wpAny_pyNext_zipD2_item D.s (Draws.text (prog := X.prog) (w := X.w) (A := X.A.in1) (show X.A.in1.handled = none from I.ok.hd hc) i1 x t) (Draws.tuple (prog := X.prog) (w := X.w) (A := X.A.in1) (show X.A.in1.handled = none from I.ok.hd hc) i2 b D.b2 its2.toArray) hz hTI hTO
      h1 ⟨h2, p2⟩ hlx (lt hv2) fun w1 w2 h' tk q1 q2 z' TO' t1 t2 hT hsz hk => ?_
    obtain ⟨c, u, hcx, ew⟩ := q1
    have e2 : w2 = v2 := Option.some.inj (q2.symm.trans (by simpa using hv2))
    subst ew e2
    refine ⟨_, rfl, wpAny_letOwnedTupleGo_zip (s := { s with heap := h', toks := tk }) z' fun h'' z'' sb => ?_⟩
    have hT2 : h''.get? s.heap.objs.size = some { cls := .type "tuple", data := .seq #[.str ⟨#[c]⟩ u, w2] } := (sb.2 _ (Nat.ne_of_gt hzl)).trans hT
    have new : ObjOk X.prog X.w (upd H s.heap.objs.size (.tup [.str (sg c), y])) h'' s.heap.objs.size (.tup [.str (sg c), y]) :=
      ⟨by show 2 ≤ sizeLine; decide, [.str ⟨#[c]⟩ u, w2], .cons ⟨u, rfl⟩ (.cons r2 .nil), ⟨_, hT2, rfl, _, rfl⟩⟩
    have I1 : Inv X pins σ (upd H s.heap.objs.size (.tup [.str (sg c), y])) { s with heap := h'', toks := tk } :=
      I.turnedNew (t' := tk) (ch := [z, TI, TO, i1, i2]) (fun c o hb q => (sb.2 c (fun q' => hb (by simp [q']))).trans (hk c o (fun q' => hb (by simp [q'])) (fun q' => hb (by simp [q'])) (fun q' => hb (by simp [q'])) (fun q' => hb (by simp [q'])) q)) hf (Nat.le_refl _) new
    refine ⟨.ref s.heap.objs.size, _, I1, rfl, ⟨_, c, y, rfl, I.hok.fresh (Nat.le_refl _), rfl, hcx, fun l hl => by rw [I.tuple_inj hl hqy]; exact hy⟩, ⟨z'', ?_, ⟨.str ⟨#[c]⟩ u, w2, ?_⟩, ?_, ?_⟩, fun e hem => ?_⟩
    · exact (sb.2 _ D.s.TIz).trans (hk _ _ D.s.TIz D.s.TITO D.s.TIi1 D.s.TIi2 hTI)
    · exact (sb.2 _ D.s.TOz).trans TO'
    · exact let ⟨o, a, b, c⟩ := t1; ⟨o, (sb.2 _ D.i1z).trans a, b, c⟩
    · exact t2.1.at fun o q => (sb.2 _ D.i2z).trans q
    · have hlt : e < s.heap.objs.size := by
        have e' : e = z ∨ e = TI ∨ e = TO ∨ e = i1 ∨ e = i2 := by simpa using hem
        rcases e' with q | q | q | q | q
        · rw [q]; exact hzl
        · rw [q]; exact Heap.lt_size hTI
        · rw [q]; exact Heap.lt_size hTO
        · rw [q]; obtain ⟨_, e1, _⟩ := h1; exact Heap.lt_size e1
        · rw [q]; obtain ⟨_, e1, _⟩ := h2; exact Heap.lt_size e1
      rw [upd_ne (Nat.ne_of_lt hlt)]
      exact (hf e hem).1
  done := by
    intro X hP hw hK hc i pins s σ H E I hf st hg
    subst hP hw hK
    obtain ⟨hz, hTI, ⟨x0, y0, hTO⟩, h1, h2⟩ := st
    obtain ⟨ys, hqy, l1, rfl⟩ := hg
    obtain ⟨its2, rv2, p2, _⟩ := I.tuple hqy
    have m2 := rv2.length
    refine wpAny_pyNext_zipD2_end D.s (Draws.text (prog := X.prog) (w := X.w) (A := X.A.in1) (show X.A.in1.handled = none from I.ok.hd hc) i1 x t) (Draws.tuple (prog := X.prog) (w := X.w) (A := X.A.in1) (show X.A.in1.handled = none from I.ok.hd hc) i2 b D.b2 its2.toArray) hz hTI hTO
      h1 ⟨h2, p2⟩ (by omega) (by rw [List.size_toArray]; omega) (.inl (by omega)) fun h' tk hk => ?_
    exact ⟨rfl, I.turnedL (t' := tk) (ch := [z, TI, TO, i1, i2]) (fun c o hb q =>
      hk c o (fun q' => hb (by simp [q'])) (fun q' => hb (by simp [q'])) (fun q' => hb (by simp [q'])) (fun q' => hb (by simp [q'])) q) hf⟩
  self := fun A i s Q E st h => wpAny_pyIter_zip st.1 h
def iZipS (K : PySem.W.Frag) (ta : TA) : TI := fun σ H R => ta σ H fun vs H1 => ∃ x b ys, vs = [.str x, .ref b] ∧ SqT K H1 b ys ∧ R (ItzS K x b) H1
omit [TabL] [XCx] in
theorem pi_zipS {X : Cx} {e e2 : Expr} {ta : TA} {p pos tpos : Pos} {elts : List Expr} {kk : Nat} (hg : Gl X "zip") (hm : X.mg "zip" = none) (ha : PA X [e, e2] ta)
    (hs : starEach [e, e2] X.env = (false, eval e X.env) :: starEach [e2] X.env := by rfl) (hpl : (backTo pos (starEach [e2] X.env)).any (·.1) = false := by rfl) :
    PI X (.Tuple elts kk tpos) (.Call (.Name "zip" p) [e, e2] [] pos) (iZipS X.K ta) := by
  refine ⟨fun pins s σ H R I h => ?_⟩
  refine Call_ (ld_blt I hg hm PyProof.Rows.boot_zip (PyProof.Rows.callWith_type1 (thn (ha.run pos pins s σ H _ I h) fun us s1 ⟨vs, H1, I1, r1, q1⟩ => ?_) hs hpl))
  obtain ⟨x, b, ys, ex, hqy, q⟩ := q1
  subst ex
  cases r1 with
  | cons r rr => cases rr with
    | cons r' rr =>
        cases rr; cases r'
        obtain ⟨t, rfl⟩ := r
        obtain ⟨its2, rv2, p2, _⟩ := I1.tuple hqy
        have hb : b < s1.heap.objs.size := p2.lt
        refine zip_begins2 (begins_text x t) (begins_tuple b its2.toArray) trivial p2 fun h' hz hTI hTO h1 h2 hsz hk => wpAny_pyIter_zip hz ?_
        have I2 : Inv X pins σ H1 { s1 with heap := h' } := I1.kept (t' := s1.toks) hk
        have fresh5 : ∀ c, c ∈ [s1.heap.objs.size + 4, s1.heap.objs.size + 2, s1.heap.objs.size + 3, s1.heap.objs.size, s1.heap.objs.size + 1] → FpOk X pins H1 c := fun c hcm => by
          have e' : c = s1.heap.objs.size + 4 ∨ c = s1.heap.objs.size + 2 ∨ c = s1.heap.objs.size + 3 ∨ c = s1.heap.objs.size ∨ c = s1.heap.objs.size + 1 := by simpa using hcm
          have hle : s1.heap.objs.size ≤ c := by
            rcases e' with z | z | z | z | z <;> rw [z] <;> first | exact Nat.le_refl _ | exact Nat.le_add_right _ _
          exact I1.fpOk hle (I1.hok.fresh hle)
        have sep := zip_sep2 (N := s1.heap.objs.size) (fp1 := []) (fp2 := [b]) (fun e he => by cases he) (fun e he => by rw [List.mem_singleton.mp he]; exact hb)
        exact ⟨s1.heap.objs.size + 4, [s1.heap.objs.size + 4, s1.heap.objs.size + 2, s1.heap.objs.size + 3, s1.heap.objs.size, s1.heap.objs.size + 1], _, _, H1, rfl, I2,
          turn_zipS (x := x) (t := t) ⟨sep, Nat.ne_of_lt (Nat.lt_succ_of_lt hb), show (s1.heap.objs.size : Nat) ≠ s1.heap.objs.size + 4 by omega, show (s1.heap.objs.size + 1 : Nat) ≠ s1.heap.objs.size + 4 by omega⟩,
          ⟨hz, hTI, ⟨_, _, hTO⟩, ⟨_, h1, rfl, rfl⟩, ⟨_, h2, rfl, rfl⟩⟩, fresh5, q⟩
end SC
/-! enumerate of a tuple; zip of a text and a tuple, on trees. -/
namespace SC
open PySem PySem.Spec PyProof.Rows L2
set_option maxHeartbeats 1000000 in
theorem meets_enum1 {v : Value} {o : Obj} {H : Heap → Prop} (B : Begins v o H) :
    Meets (Builtin.«enumerate.__new__» ⟨[.type "enumerate", v], []⟩) (fun _ R s => H s.heap ∧
      R (.ok (.ret (.ref (s.heap.push o).objs.size))) { s with heap := (s.heap.push o).push { cls := .type "enumerate", data := .fields #[.none, .bool false, .ref s.heap.objs.size, rawInt 0, .none, .none] } }) :=
  .of_wp fun prog w A R s h => by
    obtain ⟨hp, g, d, tk, os⟩ := s; obtain ⟨h1, h⟩ := h
    have hsub := sub_enumerate
    have q1 : ∀ {A' : Around} {E : Value → Shared → Prop} {Q : Value → Shared → Prop}, Q (.ref hp.objs.size) ⟨hp.push o, g, d, tk, os⟩ → wpAny (model prog w) A' (pyIter v) Q E ⟨hp, g, d, tk, os⟩ :=
      fun q => B.iter prog w _ _ ⟨hp, g, d, tk, os⟩ _ h1 q
    wp_walk using q1
    refine wpAny_stack_any fun st => wpAny_pure ?_
    split
    · rename_i c _ _ _ _ _
      cases (c == Value.type "enumerate")
      · wp_walk using q1
        exact ⟨_, rfl, h⟩
      · wp_walk using q1
        exact ⟨_, rfl, h⟩
    · wp_walk using q1
      exact ⟨_, rfl, h⟩
theorem enum_begins1 {prog : Program} {w : World} {A : Around} {E : Value → Shared → Prop} {s : Shared} {v : Value} {o : Obj} {H : Heap → Prop} {Q : Value → Shared → Prop} (B : Begins v o H) (h1 : H s.heap)
    (h : ∀ h', IsEnum h' (s.heap.objs.size + 1) s.heap.objs.size 0 .none → h'.get? s.heap.objs.size = some o → h'.objs.size = s.heap.objs.size + 2 →
      (∀ b o, s.heap.get? b = some o → h'.get? b = some o) → Q (.ref (s.heap.objs.size + 1)) { s with heap := h' }) :
    wpAny (model prog w) A (call (.type "enumerate") [v]) Q E s := by
  refine callType_new F.called_enumerate (by decide) (F.typeCall_enumerate_1 _) (F.newCall_enumerate_1 _) (fun obj => F.args_object_init_2 obj _) F.entry_enumerate_new
    (meets_enum1 B) ⟨h1, ?_⟩
  have hz : (s.heap.push o).objs.size = s.heap.objs.size + 1 := Heap.size_push ..
  show _ ∧ _
  rw [hz]
  have he : IsEnum ((s.heap.push o).push { cls := .type "enumerate", data := .fields #[.none, .bool false, .ref s.heap.objs.size, rawInt 0, .none, .none] }) (s.heap.objs.size + 1) s.heap.objs.size 0 .none := by
    have := Heap.get?_push_size (s.heap.push o) (o := { cls := .type "enumerate", data := .fields #[.none, .bool false, .ref s.heap.objs.size, rawInt 0, .none, .none] }) rfl
    rw [hz] at this; exact this
  refine ⟨⟨_, he, rfl⟩, h _ he (Heap.get?_push_of_some _ (Heap.get?_push_size _ B.free)) (by rw [Heap.size_push, hz]) fun b o x => Heap.get?_push_of_some _ (Heap.get?_push_of_some _ x)⟩
def IteT (K : PySem.W.Frag) (a : Addr) : It :=
  ⟨fun i H => ∃ (xs : List V) (x : V), SqT K H a xs ∧ xs[i]? = some x,
    fun i H v H' => ∃ T x, v = .ref T ∧ H T = none ∧ H' = upd H T (.tup [.int (i : Nat), x]) ∧ ∀ xs, SqT K H a xs → xs[i]? = some x,
    fun i H => ∃ xs : List V, SqT K H a xs ∧ i = xs.length⟩
theorem turn_enumT {P : Program} {w : World} {K : PySem.W.Frag} {elts : List Expr} {kk : Nat} {tpos : Pos} {a e it : Addr} (hne : e ≠ it) (hea : e ≠ a) (hai : a ≠ it) :
    Turn P w K (.Tuple elts kk tpos) (IteT K a) [e, it] e (fun i h => (∃ old, IsEnum h e it ((i : Nat) : Int) old) ∧ h.IsTupleIter it a i) where
  mem := by simp
  obj := fun i h st b hb => by
    obtain ⟨⟨old, he⟩, ⟨o, ho, hc, hd⟩⟩ := st
    have e' : b = e ∨ b = it := by simpa using hb
    rcases e' with z | z
    · rw [z]; exact ⟨_, he, fun v q => nomatch q⟩
    · rw [z]; exact ⟨o, ho, fun v q => by rw [hd] at q; cases q⟩
  keep := fun i h h' st k => let ⟨⟨old, he⟩, hi⟩ := st; ⟨⟨old, k e (by simp) _ he⟩, hi.at fun o q => k it (by simp) o q⟩
  item := by
    intro X hP hw hK hc i pins s σ H E I hf st hg
    subst hP hw hK
    obtain ⟨⟨old, he⟩, hit⟩ := st
    obtain ⟨xs, x, hq, hx⟩ := hg
    obtain ⟨its, rv, p, hz⟩ := I.tuple hq
    obtain ⟨u, hu, ru⟩ := rv.get hx
    have hel : e < s.heap.objs.size := Heap.lt_size he
    have hil : it < s.heap.objs.size := by obtain ⟨_, q, _⟩ := hit; exact Heap.lt_size q
    have hlt : i < its.toArray.size := by rw [List.size_toArray]; exact (List.getElem?_eq_some_iff.mp hu).1
    refine wpAny_pyNext_enum_itemD (Draws.tuple (prog := X.prog) (w := X.w) (A := X.A.in1) (show X.A.in1.handled = none from I.ok.hd hc) it a hai its.toArray) he ⟨hit, p⟩ hlt hne (by simp [hne, hea]) fun x1 h' tk q1 ho t1 hT hsz hk => ?_
    have e1 : x1 = u := Option.some.inj (q1.symm.trans (by simpa using hu))
    subst e1
    refine ⟨_, rfl, wpAny_letOwnedTupleGo_enum (s := { s with heap := h', toks := tk + 1 }) ho fun h'' he' sb => ?_⟩
    have hT2 : h''.get? s.heap.objs.size = some { cls := .type "tuple", data := .seq #[.int i tk, x1] } := (sb.2 _ (Nat.ne_of_gt hel)).trans hT
    have new : ObjOk X.prog X.w (upd H s.heap.objs.size (.tup [.int (i : Nat), x])) h'' s.heap.objs.size (.tup [.int (i : Nat), x]) :=
      ⟨by show 2 ≤ sizeLine; decide, [.int i tk, x1], .cons ⟨_, rfl⟩ (.cons ru .nil), ⟨_, hT2, rfl, _, rfl⟩⟩
    have I1 : Inv X pins σ (upd H s.heap.objs.size (.tup [.int (i : Nat), x])) { s with heap := h'', toks := tk + 1 } :=
      I.turnedNew (t' := tk + 1) (ch := [e, it]) (fun b ob hb q => (sb.2 b (fun z => hb (by simp [z]))).trans (hk b ob (fun z => hb (by simp [z])) (fun z => hb (by simp [z])) q)) hf (Nat.le_refl _) new
    refine ⟨.ref s.heap.objs.size, _, I1, rfl, ⟨_, x, rfl, I.hok.fresh (Nat.le_refl _), rfl, fun ys hy => by rw [I.tuple_inj hy hq]; exact hx⟩, ⟨⟨x1, ?_⟩, t1.1.at fun o q => (sb.2 it (Ne.symm hne)).trans q⟩, fun b hb => ?_⟩
    · have e1 : ((i + 1 : Nat) : Int) = (i : Int) + 1 := by omega
      rw [e1]; exact he'
    · have hb' : b < s.heap.objs.size := by
        have e' : b = e ∨ b = it := by simpa using hb
        rcases e' with z | z
        · rw [z]; exact hel
        · rw [z]; exact hil
      rw [upd_ne (Nat.ne_of_lt hb')]
      exact (hf b hb).1
  done := by
    intro X hP hw hK hc i pins s σ H E I hf st hg
    subst hP hw hK
    obtain ⟨⟨old, he⟩, hit⟩ := st
    obtain ⟨xs, hq, rfl⟩ := hg
    obtain ⟨its, rv, p, hz⟩ := I.tuple hq
    obtain ⟨f0, f1, f2, f3, f4, f5⟩ := hf it (by simp)
    have hl := rv.length
    have hs : its.toArray.size = xs.length := by rw [List.size_toArray]; omega
    refine wpAny_pyNext_enum_endD (n := its.toArray.size) (Draws.tuple (prog := X.prog) (w := X.w) (A := X.A.in1) (show X.A.in1.handled = none from I.ok.hd hc) it a hai its.toArray) he ⟨by rw [hs]; exact hit, p⟩ fun h' eb => ⟨rfl, I.turned (t' := s.toks) (fun b o hb q => eb b o hb q) f0 f1 f3 f4 f5⟩
  self := fun A i s Q E st h => let ⟨⟨_, he⟩, _⟩ := st; wpAny_pyIter_enum he h
def iEnumT (K : PySem.W.Frag) (ta : TA) : TI := fun σ H R => ta σ H fun vs H1 => ∃ a xs, vs = [.ref a] ∧ ((SqL K H1 a xs ∧ R (Ite K a) H1) ∨ (SqT K H1 a xs ∧ R (IteT K a) H1))
theorem pi_enumT {X : Cx} {e : Expr} {ta : TA} {p pos tpos : Pos} {elts : List Expr} {kk : Nat} (hg : Gl X "enumerate") (hm : X.mg "enumerate" = none) (ha : PA X [e] ta) (hs : starEach [e] X.env = [(false, eval e X.env)] := by rfl) :
    PI X (.Tuple elts kk tpos) (.Call (.Name "enumerate" p) [e] [] pos) (iEnumT X.K ta) := by
  refine ⟨fun pins s σ H R I h => ?_⟩
  refine Call_ (ld_blt I hg hm boot_enumerate (PyProof.Rows.callWith_type1 (thn (ha.run pos pins s σ H _ I h) fun us s1 ⟨vs, H1, I1, r1, q1⟩ => ?_) hs rfl))
  obtain ⟨a, xs, ex, q⟩ := q1
  subst ex
  cases r1 with
  | cons r rr =>
    cases rr
    cases r
    have fr : ∀ b, b ∈ [s1.heap.objs.size + 1, s1.heap.objs.size] → FpOk X pins H1 b := fun b hb => by
      have e' : b = s1.heap.objs.size + 1 ∨ b = s1.heap.objs.size := by simpa using hb
      have hle : s1.heap.objs.size ≤ b := by
        rcases e' with z | z <;> rw [z] <;> first | exact Nat.le_refl _ | exact Nat.le_add_right _ _
      exact I1.fpOk hle (I1.hok.fresh hle)
    rcases q with ⟨hq, q⟩ | ⟨hq, q⟩
    · obtain ⟨its, rv, p', hz⟩ := I1.list hq
      refine call_enumerate_list p'.isList fun h' he hit hsz hk => wpAny_pyIter_enum he ?_
      have I2 : Inv X pins σ H1 { s1 with heap := h' } := I1.kept (t' := s1.toks) hk
      exact ⟨s1.heap.objs.size + 1, [s1.heap.objs.size + 1, s1.heap.objs.size], _, _, H1, rfl, I2, turn_enum a (s1.heap.objs.size + 1) s1.heap.objs.size, ⟨⟨.none, he⟩, hit, Nat.succ_ne_self _⟩, fr, q⟩
    · obtain ⟨its, rv, p', hz⟩ := I1.tuple hq
      have hlt : a < s1.heap.objs.size := p'.lt
      refine enum_begins1 (begins_tuple a its.toArray) p' fun h' he hit hsz hk => wpAny_pyIter_enum he ?_
      have I2 : Inv X pins σ H1 { s1 with heap := h' } := I1.kept (t' := s1.toks) hk
      exact ⟨s1.heap.objs.size + 1, [s1.heap.objs.size + 1, s1.heap.objs.size], _, _, H1, rfl, I2, turn_enumT (Nat.succ_ne_self _) (Nat.ne_of_gt (Nat.lt_succ_of_lt hlt)) (Nat.ne_of_lt hlt), ⟨⟨.none, he⟩, ⟨_, hit, rfl, rfl⟩⟩, fr, q⟩
theorem walk_enumT {K : PySem.W.Frag} {a : Addr} {xs : List V} : Walk (IteT K a) xs.length (fun H => SqT K H a xs) (YPair (fun i => some (.int (i : Nat))) (fun i => xs[i]?)) := by
  refine ⟨fun i _ hi q => ⟨xs, xs[i], q, by simp [hi]⟩, fun _ q => ⟨xs, q, rfl⟩, fun i H v H' _ q y => ?_⟩
  obtain ⟨T, x, h1, h2, h3, h4⟩ := y
  exact ⟨T, .int (i : Nat), x, h1, h2, h3, rfl, h4 xs q⟩
section
variable [TabL] [XCx]
theorem it_enumT {K : PySem.W.Frag} {F1 : Hp} {l : Addr} {xs : List V} {ds : List D} (q : SqT K F1 l xs) (r : Reps K F1 xs ds) : ItOk K F1 (IteT K l) (enumD 0 ds) := by
  refine ⟨_, _, by rw [enumD_length, ← r.length]; exact walk_enumT, fun H s => Same.seqT s q, fun i H x H' F' O' hi s st y => ?_⟩
  obtain ⟨T, u, w, e, n, e2, h1, h2⟩ := y
  subst e e2
  obtain ⟨d, d1, d2⟩ := r.getV h2
  have h1 : V.int (i : Nat) = u := Option.some.inj h1
  subst h1
  obtain ⟨g, rr⟩ := pair_made st n (.int (i : Nat)) (d2.mono s)
  refine ⟨_, _, ?_, g, rr⟩
  have z := enumD_get ds 0 i d d1
  rw [Nat.zero_add] at z
  exact z
/-- enumerate of a list or a tuple -/
def dEnumT (t : DE) : DI := fun e O k => t e O fun d O1 => match d with
  | .lst xs => k (enumD 0 xs) O1
  | .tup xs => k (enumD 0 xs) O1
  | _ => False
theorem pid_enumT {X : Cx} {a : Expr} {da : DE} {p pos : Pos} {elts : List Expr} {kk : Nat} {tpos : Pos} (hg : Gl X "enumerate") (hm : X.mg "enumerate" = none) (ha : PD X a da) (hs : starEach [a] X.env = [(false, eval a X.env)] := by rfl) : PID X (.Tuple elts kk tpos) (.Call (.Name "enumerate" p) [a] [] pos) (dEnumT da) := by
  refine ⟨_, pi_enumT hg hm (pa_cons ha.pe pa_nil (by rw [hs]; rfl)) hs, fun σ H R F e O k st er h o => ⟨F, e, O, _, st, er, h, fun d O1 F1 H1 v h1 g1 r1 => ?_⟩⟩
  try dsimp only at h1
  split at h1
  · cases r1 with
    | lst q rr => exact ⟨_, _, rfl, .inl ⟨.of (g1.stt.same _ _ q), o _ _ F1 H1 _ h1 g1 (it_enum (.of q) rr)⟩⟩
  · cases r1 with
    | tup q rr => exact ⟨_, _, rfl, .inr ⟨Same.seqT g1.stt.same q, o _ _ F1 H1 _ h1 g1 (it_enumT q rr)⟩⟩
  · exact h1.elim
/-- the signs of a text beside the items of a tuple -/
def signD (x : Str) (ds : List D) : List D := pairsD (x.cps.toList.map fun c => .str (sg c)) ds
theorem signD_get {x : Str} {ds : List D} {i c : Nat} {d : D} (h1 : x.cps[i]? = some c) (h2 : ds[i]? = some d) : (signD x ds)[i]? = some (.tup [.str (sg c), d]) :=
  pairsD_get _ _ _ _ _ (by rw [List.getElem?_map, Array.getElem?_toList, h1]; rfl) h2
def dZipS (t u : DE) : DI := fun e O k => t e O fun d O1 => u e O1 fun d2 O2 => match d, d2 with
  | .str x, .tup ys => x.cps.size = ys.length ∧ k (signD x ys) O2
  | _, _ => False
theorem pid_zipS {X : Cx} {a b : Expr} {da db : DE} {p pos : Pos} {elts : List Expr} {kk : Nat} {tpos : Pos} (hg : Gl X "zip") (hm : X.mg "zip" = none) (ha : PD X a da) (hb : PD X b db) (hs : starEach [a, b] X.env = (false, eval a X.env) :: starEach [b] X.env := by rfl) (hs2 : starEach [b] X.env = [(false, eval b X.env)] := by rfl)
    (hpl : (backTo pos (starEach [b] X.env)).any (·.1) = false := by rfl) : PID X (.Tuple elts kk tpos) (.Call (.Name "zip" p) [a, b] [] pos) (dZipS da db) := by
  refine ⟨_, pi_zipS hg hm (pa_cons ha.pe (pa_cons hb.pe pa_nil (by rw [hs2]; rfl)) hs) hs hpl, fun σ H R F e O k st er h o => ⟨F, e, O, _, st, er, h, fun d O1 F1 H1 v h1 g1 r1 => ⟨F1, e, O1, _, g1.stt, er.mono g1.same, h1, fun d2 O2 F2 H2 v2 h2 g2 r2 => ?_⟩⟩⟩
  try dsimp only at h2
  split at h2
  · rename_i x ys
    obtain ⟨l, h2⟩ := h2
    cases r1
    cases r2 with
    | @tup a2 us2 _ q2 rr2 =>
      have m := rr2.length
      refine ⟨_, _, _, rfl, Same.seqT g2.stt.same q2, o _ _ F2 H2 _ h2 (g1.trans g2) ⟨fun H => SqT X.K H a2 us2, fun i H v H' => ∃ T c y, v = .ref T ∧ H T = none ∧ H' = upd H T (.tup [.str (sg c), y]) ∧ x.cps[i]? = some c ∧ us2[i]? = some y, ?_, fun H s => Same.seqT s q2, ?_⟩⟩
      · rw [show (signD x ys).length = us2.length by unfold signD; rw [pairsD_length]; simp; omega]
        refine ⟨fun i H hi q => ⟨us2, us2[i]'(by omega), q, by omega, by simp [show i < us2.length by omega]⟩, fun H q => ⟨us2, q, by omega, rfl⟩, fun i H v H' hi q y => ?_⟩
        obtain ⟨T, c, y, h1, h2, h3, h4, h5⟩ := y
        exact ⟨T, c, y, h1, h2, h3, h4, h5 _ q⟩
      · intro i H v H' F' O' hi s st y
        obtain ⟨T, c, y, e1, n, e2, y1, y2⟩ := y
        subst e1 e2
        obtain ⟨d, d1, f1⟩ := rr2.getV y2
        obtain ⟨g, rr⟩ := pair_made st n (.str (sg c)) (f1.mono s)
        exact ⟨_, _, signD_get y1 d1, g, rr⟩
  · exact h2.elim
end
end SC
/-! repr, on trees. -/
namespace SC
open PySem PySem.Spec PyProof.Rows L2
mutual
def pyD : D → PyData
  | .non => .none | .bl b => .bool b | .int i => .int i | .str x => .str x
  | .tup xs => .tuple (pyDs xs) | .lst xs => .list (pyDs xs) | .dct => .dict []
  | .ty _ => .none | .own _ => .none | .fz _ => .none | .obj _ _ _ => .none
def pyDs : List D → List PyData
  | [] => []
  | x :: xs => pyD x :: pyDs xs
end
/-! no list within -/
mutual
def noL : D → Bool
  | .lst _ => false | .tup xs => noLs xs
  | .non => true | .bl _ => true | .int _ => true | .str _ => true | .dct => true | .ty _ => true | .own _ => true | .fz _ => true | .obj _ _ _ => true
def noLs : List D → Bool
  | [] => true
  | x :: xs => noL x && noLs xs
end
/-! no dict within -/
mutual
def noC : D → Bool
  | .dct => false | .tup xs => noCs xs | .lst xs => noCs xs
  | .non => true | .bl _ => true | .int _ => true | .str _ => true | .ty _ => true | .own _ => true | .fz _ => true | .obj _ _ _ => true
def noCs : List D → Bool
  | [] => true
  | x :: xs => noC x && noCs xs
end
/-! plain data, its ints and signs of a size that can be told -/
mutual
def okT : D → Bool
  | .int i => decide (i.natAbs.log2 < 100) | .str x => x.cps.toList.all fun c => decide (c < 16 ^ 8)
  | .tup xs => okTs xs | .lst xs => okTs xs
  | .non => true | .bl _ => true | .dct => true
  | .ty _ => false | .own _ => false | .fz _ => false | .obj _ _ _ => false
def okTs : List D → Bool
  | [] => true
  | x :: xs => okT x && okTs xs
end
mutual
def bulkD : D → Nat
  | .str x => x.cps.size
  | .tup xs => bulkDs xs | .lst xs => bulkDs xs
  | .non => 0 | .bl _ => 0 | .int _ => 0 | .dct => 0 | .ty _ => 0 | .own _ => 0 | .fz _ => 0 | .obj _ _ _ => 0
def bulkDs : List D → Nat
  | [] => 0
  | x :: xs => bulkD x + 1 + bulkDs xs
end
mutual
def depD : D → Nat
  | .tup xs => depDs xs + 1 | .lst xs => depDs xs + 1 | .dct => 1
  | .non => 0 | .bl _ => 0 | .int _ => 0 | .str _ => 0 | .ty _ => 0 | .own _ => 0 | .fz _ => 0 | .obj _ _ _ => 0
def depDs : List D → Nat
  | [] => 0
  | x :: xs => max (depD x) (depDs xs)
end
mutual
theorem py_bulk : ∀ d, (pyD d).bulk = bulkD d
  | .non => rfl | .bl _ => rfl | .int _ => rfl | .str _ => by simp only [pyD, PyData.bulk, bulkD]
  | .tup xs => by simp only [pyD, PyData.bulk, bulkD]; exact py_bulks xs
  | .lst xs => by simp only [pyD, PyData.bulk, bulkD]; exact py_bulks xs
  | .dct => by simp only [pyD, PyData.bulk, PyData.bulkKv, bulkD]
  | .ty _ => rfl | .own _ => rfl | .fz _ => rfl | .obj _ _ _ => rfl
theorem py_bulks : ∀ ds, PyData.bulkAll (pyDs ds) = bulkDs ds
  | [] => by simp only [pyDs, PyData.bulkAll, bulkDs]
  | d :: ds => by simp only [pyDs, PyData.bulkAll, bulkDs]; rw [py_bulk d, py_bulks ds]
end
mutual
theorem py_dep : ∀ d, (pyD d).depth = depD d
  | .non => by simp only [pyD, PyData.depth, depD] | .bl _ => by simp only [pyD, PyData.depth, depD] | .int _ => by simp only [pyD, PyData.depth, depD] | .str _ => by simp only [pyD, PyData.depth, depD]
  | .tup xs => by simp only [pyD, PyData.depth, depD]; rw [py_deps xs]
  | .lst xs => by simp only [pyD, PyData.depth, depD]; rw [py_deps xs]
  | .dct => by simp only [pyD, PyData.depth, PyData.depthKv, depD]
  | .ty _ => by simp only [pyD, PyData.depth, depD] | .own _ => by simp only [pyD, PyData.depth, depD] | .fz _ => by simp only [pyD, PyData.depth, depD] | .obj _ _ _ => by simp only [pyD, PyData.depth, depD]
theorem py_deps : ∀ ds, PyData.depthAll (pyDs ds) = depDs ds
  | [] => by simp only [pyDs, PyData.depthAll, depDs]
  | d :: ds => by simp only [pyDs, PyData.depthAll, depDs]; rw [py_dep d, py_deps ds]
end
mutual
theorem py_noC : ∀ d, (pyD d).hasDict = !noC d
  | .non => by simp [pyD, PyData.hasDict, noC] | .bl _ => by simp [pyD, PyData.hasDict, noC] | .int _ => by simp [pyD, PyData.hasDict, noC] | .str _ => by simp [pyD, PyData.hasDict, noC]
  | .tup xs => by simp only [pyD, PyData.hasDict, noC]; exact py_noCs xs
  | .lst xs => by simp only [pyD, PyData.hasDict, noC]; exact py_noCs xs
  | .dct => by simp [pyD, PyData.hasDict, noC]
  | .ty _ => by simp [pyD, PyData.hasDict, noC] | .own _ => by simp [pyD, PyData.hasDict, noC] | .fz _ => by simp [pyD, PyData.hasDict, noC] | .obj _ _ _ => by simp [pyD, PyData.hasDict, noC]
theorem py_noCs : ∀ ds, PyData.hasDictAll (pyDs ds) = !noCs ds
  | [] => by simp [pyDs, PyData.hasDictAll, noCs]
  | d :: ds => by simp only [pyDs, PyData.hasDictAll, noCs]; rw [py_noC d, py_noCs ds, Bool.not_and]
end
mutual
theorem py_show : ∀ d, okT d = true → (pyD d).showable = true ∧ (pyD d).leavesShort 110 = true
  | .non, _ => by simp [pyD, PyData.showable, PyData.leavesShort]
  | .bl _, _ => by simp [pyD, PyData.showable, PyData.leavesShort]
  | .int i, h => by
    have h : i.natAbs.log2 < 100 := by simpa [okT] using h
    refine ⟨?_, ?_⟩
    · simp only [pyD, PyData.showable, decide_eq_true_eq]; omega
    · have e : (PyData.shown (.int i)).length ≤ 110 := by
        have := int_text_length_le (k := 100) (by decide) h
        have e : (PyData.shown (.int i)).length = (toString i).length := by
          simp only [PyData.shown]; exact PySem.ofString_length _
        omega
      simp only [pyD, PyData.leavesShort]
      exact decide_eq_true e
  | .str x, h => by
    have h : (x.cps.toList.all fun c => decide (c < 16 ^ 8)) = true := by simpa only [okT] using h
    exact ⟨by simp [pyD, PyData.showable], by simpa only [pyD, PyData.leavesShort] using h⟩
  | .tup xs, h => by
    have := py_shows xs (by simpa only [okT] using h)
    simpa only [pyD, PyData.showable, PyData.leavesShort] using this
  | .lst xs, h => by
    have := py_shows xs (by simpa only [okT] using h)
    simpa only [pyD, PyData.showable, PyData.leavesShort] using this
  | .dct, _ => by simp [pyD, PyData.showable, PyData.showableKv, PyData.leavesShort, PyData.leavesShortKv]
  | .ty _, h => by simp [okT] at h
  | .own _, h => by simp [okT] at h
  | .fz _, h => by simp [okT] at h
  | .obj _ _ _, h => by simp [okT] at h
theorem py_shows : ∀ ds, okTs ds = true → PyData.showableAll (pyDs ds) = true ∧ PyData.leavesShortAll 110 (pyDs ds) = true
  | [], _ => by simp [pyDs, PyData.showableAll, PyData.leavesShortAll]
  | d :: ds, h => by
    have h : okT d = true ∧ okTs ds = true := by simpa only [okTs, Bool.and_eq_true] using h
    have h1 := py_show d h.1
    have h2 := py_shows ds h.2
    simp only [pyDs, PyData.showableAll, PyData.leavesShortAll, Bool.and_eq_true]
    exact ⟨⟨h1.1, h2.1⟩, h1.2, h2.2⟩
end
/-- what repr can tell: small enough, and no lists beside dicts -/
structure Shw (d : D) : Prop where
  ok : okT d = true
  bulk : bulkD d ≤ 100000
  dep : depD d ≤ 60
  lc : noC d = true ∨ noL d = true
theorem Shw.fits {d : D} (h : Shw d) : (pyD d).shown.length ≤ sizeLine := by
  have e := PyData.shown_le_bulk 110 (by decide) (pyD d) (py_show d h.ok).2
  rw [py_bulk] at e
  have hb := h.bulk
  have hs : sizeLine = 16777216 := by decide
  omega
mutual
theorem rep_reads {X : Cx} {pins : List (Addr × Obj)} {σ : L2.St} {F H : Hp} {s : Shared} (I : Inv X pins σ H s) (m : Same F H) : ∀ (d : D) (v : V) (u : Value), okT d = true → Rep X.K F v d → RelV v u → ∃ as, Reads s.heap u (pyD d) as ∧ (noL d = true → sysModules ∉ as)
  | .non, _, _, _, .non, r => by cases r; exact ⟨[], by simp only [pyD]; exact .none, fun _ => by simp⟩
  | .bl b, _, _, _, .bl _, r => by cases r; exact ⟨[], by simp only [pyD]; exact .bool b, fun _ => by simp⟩
  | .int i, _, _, _, .int _, r => by obtain ⟨t, rfl⟩ := r; exact ⟨[], by simp only [pyD]; exact .int i t, fun _ => by simp⟩
  | .str x, _, _, _, .str _, r => by obtain ⟨t, rfl⟩ := r; exact ⟨[], by simp only [pyD]; exact .str x t, fun _ => by simp⟩
  | .tup ds, _, _, ok, .tup (xs := xs) q rr, r => by
    cases r
    obtain ⟨its, rv, ⟨o, ho, hc, n, hd⟩, _⟩ := I.tuple (Same.seqT m q)
    obtain ⟨as, hr, hn⟩ := reps_reads I m ds xs its (by simpa only [okT] using ok) rr rv
    exact ⟨_, by simp only [pyD]; exact .tuple ho hc hd hr, fun z => hn (by simpa only [noL] using z)⟩
  | .lst ds, _, _, ok, .lst (xs := xs) q rr, r => by
    cases r
    obtain ⟨its, rv, ⟨o, n, ho, hc, _, hd⟩, _⟩ := I.list (.of (m _ _ q))
    obtain ⟨as, hr, hn⟩ := reps_reads I m ds xs its (by simpa only [okT] using ok) rr rv
    exact ⟨_, by simp only [pyD]; exact .list ho hc hd hr, fun z => by simp [noL] at z⟩
  | .dct, _, _, _, .dct (a := a) q, r => by
    cases r
    obtain ⟨_, hs, vs, kv, o, es, ep, ho, ⟨hc, _, _⟩, hd, _, hp, _⟩ := dk_of I.hok (m _ _ q)
    cases kv
    have he : es.toList = [] := by
      cases hp2 : es.toList with
      | nil => rfl
      | cons x l => rw [hp2] at hp; cases hp
    refine ⟨a :: [] ++ [], by simp only [pyD]; exact .dict ho hc hd (by rw [he]; exact .nil) (by rw [he]; exact .nil), fun _ z => ?_⟩
    have : sysModules = a := by simpa using z
    rw [this] at hs
    simp at hs
  | .ty _, _, _, ok, _, _ => by simp [okT] at ok
  | .own _, _, _, ok, _, _ => by simp [okT] at ok
  | .fz _, _, _, ok, _, _ => by simp [okT] at ok
  | .obj _ _ _, _, _, ok, _, _ => by simp [okT] at ok
theorem reps_reads {X : Cx} {pins : List (Addr × Obj)} {σ : L2.St} {F H : Hp} {s : Shared} (I : Inv X pins σ H s) (m : Same F H) : ∀ (ds : List D) (vs : List V) (us : List Value), okTs ds = true → Reps X.K F vs ds → Vals vs us → ∃ as, ReadsAll s.heap us (pyDs ds) as ∧ (noLs ds = true → sysModules ∉ as)
  | [], _, _, _, .nil, r => by cases r; exact ⟨[], by simp only [pyDs]; exact .nil, fun _ => by simp⟩
  | d :: ds, _, _, ok, .cons (v := v) (vs := vs) q qq, r => by
    have ok : okT d = true ∧ okTs ds = true := by simpa only [okTs, Bool.and_eq_true] using ok
    cases r with
    | cons r1 r2 =>
      obtain ⟨as, h1, n1⟩ := rep_reads I m d _ _ ok.1 q r1
      obtain ⟨bs, h2, n2⟩ := reps_reads I m ds _ _ ok.2 qq r2
      refine ⟨_, by simp only [pyDs]; exact .cons h1 h2, fun z => ?_⟩
      have z : noL d = true ∧ noLs ds = true := by simpa only [noLs, Bool.and_eq_true] using z
      intro hm
      rcases List.mem_append.mp hm with hm | hm
      · exact n1 z.1 hm
      · exact n2 z.2 hm
end
section
variable [TabL] [XCx]
/-- repr(x) -/
def rReprD : RCD := fun ds O k => ∃ d, ds = [d] ∧ Shw d ∧ k (.str (pyD d).shown) O
def rReprR (K : PySem.W.Frag) : List V → Hp → VK → Prop := fun xs H Q => ∃ (v : V) (d : D) (F : Hp), xs = [v] ∧ Same F H ∧ Rep K F v d ∧ Shw d ∧ Q (.str (pyD d).shown) H
theorem cd_repr {K : PySem.W.Frag} : CallD K (rReprR K) rReprD := by
  intro xs ds F O H k Q st r h o
  obtain ⟨d, rfl, hs, h⟩ := h
  cases r with
  | cons r1 r2 =>
    cases r2
    exact ⟨_, d, F, rfl, st.same, r1, hs, o _ _ _ _ _ h st.go (.str _)⟩
omit [TabL] [XCx] in
theorem call_reprD {X : Cx} (hg : X.A.guards = some []) (hu : X.A.units + 100 < cLine) : CallR X (.builtin "repr") (rReprR X.K) := by
  intro pins s σ H xs us Q I r h
  obtain ⟨v, d, F, rfl, m, rr, hs, q⟩ := h
  cases r with
  | cons r1 r2 =>
    cases r2
    rename_i u
    obtain ⟨as, hr, hn⟩ := rep_reads I m d v u hs.ok rr r1
    have fin : ∀ (h' : Heap) (t tk : Tok), (∀ b o, s.heap.get? b = some o → h'.get? b = some o) → EP X pins σ Q (.str (pyD d).shown t) { s with heap := h', toks := tk } := fun h' t tk hk => ⟨.str _, H, I.kept hk, ⟨t, rfl⟩, q⟩
    have hsm : (pyD d).hasDict = true → sysModules ∉ as := fun z => by
      rw [py_noC] at z
      rcases hs.lc with c | c
      · rw [c] at z; cases z
      · exact hn c
    cases d with
    | non =>
      cases rr; cases r1
      have e : (pyD .non).shown = ("None" : Str) := by simp only [pyD, PyData.shown]
      rw [e] at fin
      exact P.repr_of_none (fin s.heap _ _ fun _ _ e => e)
    | bl b =>
      cases rr; cases r1
      have e : (pyD (.bl b)).shown = ((if b then "True" else "False" : String) : Str) := by simp only [pyD, PyData.shown]; cases b <;> rfl
      rw [e] at fin
      exact P.repr_of_bool (by first | exact fin s.heap _ _ fun _ _ e => e | (cases b <;> exact fin s.heap _ _ fun _ _ e => e))
    | int i =>
      cases rr; obtain ⟨t, rfl⟩ := r1
      have e : (pyD (.int i)).shown = ((toString i : String) : Str) := by simp only [pyD, PyData.shown]
      rw [e] at fin
      exact P.repr_of_int (by have := hs.ok; simp only [okT, decide_eq_true_eq] at this; omega) (fin s.heap _ _ fun _ _ e => e)
    | str x =>
      cases rr; obtain ⟨t, rfl⟩ := r1
      have e : (pyD (.str x)).shown = reprText x := by simp only [pyD, PyData.shown]
      have hz := hs.fits
      rw [e] at fin hz
      exact P.repr_of_str (fin s.heap _ _ fun _ _ e => e) hz
    | tup ds =>
      cases rr with
      | tup h1 h2 =>
        cases r1
        exact repr_of_reads' hr (py_show _ hs.ok).1 hsm hg (by rw [py_dep]; have := hs.dep; omega) (fun _ _ e => e) (fun h' u tk hk => fin h' u tk hk) hs.fits
    | lst ds =>
      cases rr with
      | lst h1 h2 =>
        cases r1
        exact repr_of_reads' hr (py_show _ hs.ok).1 hsm hg (by rw [py_dep]; have := hs.dep; omega) (fun _ _ e => e) (fun h' u tk hk => fin h' u tk hk) hs.fits
    | dct =>
      cases rr with
      | dct h1 =>
        cases r1
        exact repr_of_reads' hr (py_show _ hs.ok).1 hsm hg (by rw [py_dep]; have := hs.dep; omega) (fun _ _ e => e) (fun h' u tk hk => fin h' u tk hk) hs.fits
    | ty n => have := hs.ok; simp [okT] at this
    | own a => have := hs.ok; simp [okT] at this
    | fz xs => have := hs.ok; simp [okT] at this
    | obj C ns fs => have := hs.ok; simp [okT] at this
end
end SC
/-! Some more: the length of a text, a display of texts asked at once, lists of rows that are alike, a tuple times a number. -/
namespace SC
open PySem PySem.Spec PyProof.Rows L2
section
variable [TabL] [XCx]
/-- len of a text -/
def rLenS : RCD := fun ds O k => ∃ x : Str, ds = [.str x] ∧ x.length ≤ sizeLine ∧ k (.int x.length) O
theorem cd_lenS {K : PySem.W.Frag} : CallD K (fun xs H Q => ∃ z : Str, xs = [.str z] ∧ z.length ≤ sizeLine ∧ Q (.int z.length) H) rLenS := by
  intro xs ds F O H k Q st r h o
  obtain ⟨x, rfl, hx, h⟩ := h
  cases r with
  | cons r1 r2 => cases r2; cases r1; exact ⟨_, rfl, hx, o _ _ _ _ _ h st.go (.int _)⟩
/-! ### {'a': 'b', ..}.get(x, None) -/
def tblK (tbl : List (Str × Str)) : List (Key × V) := tbl.map fun p => (.inr p.1, .str p.2)
def ccs (tbl : List (Str × Str)) : List (TE × TE) := tbl.map fun p => (tC (.str p.1), tC (.str p.2))
omit [TabL] [XCx] in
theorem pairs_ccs {σ : L2.St} {H : Hp} : ∀ (tbl : List (Str × Str)) {Q : List (V × V) → Hp → Prop}, Q (tbl.map fun p => (.str p.1, .str p.2)) H → tPairs (ccs tbl) σ H Q
  | [], _, h => h
  | p :: r, _, h => pairs_ccs r h
omit [TabL] [XCx] in
theorem val_tbl {s : Str} : ∀ tbl : List (Str × Str), valV (tblK tbl) (.inr s) = ((tbl.find? fun p => decide (p.1 = s)).map fun p => V.str p.2)
  | [] => rfl
  | p :: r => by
    by_cases e : p.1 = s
    · rw [show tblK (p :: r) = (.inr p.1, .str p.2) :: tblK r from rfl, valV_pos (by rw [e]), List.find?_cons, decide_eq_true e]
      rfl
    · rw [show tblK (p :: r) = (.inr p.1, .str p.2) :: tblK r from rfl, valV_neg (fun z => e (by cases z; rfl)), List.find?_cons, decide_eq_false e]
      exact val_tbl r
def dGetT (tbl : List (Str × Str)) (t : DE) : DE := fun e O k => t e O fun d O1 => match d with
  | .str s => k (match tbl.find? fun p => decide (p.1 = s) with | some p => .str p.2 | none => .non) O1
  | _ => False
theorem pd_getT {X : Cx} {pos apos cpos : Pos} {keys : List (Option Expr)} {values : List Expr} {e f : Expr} {tbl : List (Str × Str)} {t : DE} (hu : X.A.units + 1 < cLine) (hp : PPs X pos keys values (ccs tbl)) (ha : PD X e t) (hf : PE X f (tC .non))
    (m : M2 X (.Dict keys values pos) "get" apos e f cpos) (hm : mergeK [] (tblK tbl) = tblK tbl) (hall : keys.all (·.isSome) = true) (hl : keys.length = values.length) (h0 : keys ≠ []) (h15 : keys.length ≤ 15) (ht : tbl.length ≤ 15) :
    PD X (.Call (.Attribute (.Dict keys values pos) "get" apos) [e, f] [] cpos) (dGetT tbl t) := by
  refine ⟨PE.weak (pe_dget2 hu (pe_disp hp hall hl h0 h15) ha.pe hf m) fun σ H Q ⟨F, e, O, k, st, er, h, o⟩ p n => pairs_ccs tbl ⟨upd_same, tblK tbl, by unfold tblK; rw [List.map_map]; rfl, by unfold tblK; rw [List.length_map]; exact ht, ?_⟩⟩
  rw [hm, upd_upd]
  refine ⟨p, rfl, .inl ⟨_, .inl upd_same⟩, F, e, O, _, (st.junk n).stt, er, h, fun d O1 F1 H1 v h1 g1 r1 => ?_⟩
  try dsimp only at h1
  split at h1
  · rename_i s
    cases r1
    have hp := (g1.frame p _ upd_same (free_F st n) (free_O st n) (fun ps z => by cases z)).1
    refine ⟨_, DGet.k (k := .inr s) hp, o _ _ _ _ _ h1 ((st.junk n).trans g1) ?_⟩
    rw [val_tbl]
    cases tbl.find? fun p => decide (p.1 = s) with
    | none => exact .non
    | some p => exact .str _
  · exact h1.elim
/-! ### x != y of lists of rows that are alike -/
def rowsP (ps : List (List Int)) : D := .lst (ps.map fun p => .tup (p.map .int))
omit [TabL] [XCx] in
theorem dp_ints {K : PySem.W.Frag} {F H : Hp} (m : Same F H) : ∀ {vs : List V} {is : List Int}, Reps K F vs (is.map D.int) → DpAll K H vs (is.map PyData.int)
  | _, [], .nil => .nil
  | _, i :: is, .cons r rr => by cases r; exact .cons (.int i) (dp_ints m rr)
omit [TabL] [XCx] in
theorem dp_rows {K : PySem.W.Frag} {F H : Hp} (m : Same F H) : ∀ {vs : List V} {ps : List (List Int)}, Reps K F vs (ps.map fun p => .tup (p.map .int)) → DpAll K H vs (ps.map fun p => .tuple (p.map .int))
  | _, [], .nil => .nil
  | _, p :: ps, .cons r rr => by
    cases r with
    | tup q r => exact .cons (.tup (Same.seqT m q) (dp_ints m r)) (dp_rows m rr)
omit [TabL] [XCx] in
theorem ints_lay : ∀ is : List Int, PyData.canLayAll0 (is.map PyData.int) = true ∧ PyData.depthAll (is.map PyData.int) = 0
  | [] => by simp [PyData.canLayAll0, PyData.depthAll]
  | i :: is => by simp [PyData.canLayAll0, PyData.depthAll, PyData.canLay0, PyData.depth, ints_lay is]
omit [TabL] [XCx] in
theorem rows_lay : ∀ ps : List (List Int), PyData.canLayAll0 (ps.map fun p => PyData.tuple (p.map .int)) = true ∧ PyData.depthAll (ps.map fun p => PyData.tuple (p.map .int)) ≤ 1
  | [] => by simp [PyData.canLayAll0, PyData.depthAll]
  | p :: ps => by
    have h1 := ints_lay p
    have h2 := rows_lay ps
    simp only [List.map_cons, PyData.canLayAll0, PyData.depthAll, PyData.canLay0, PyData.depth, h1.1, h1.2, h2.1, Bool.and_self, true_and]
    omega
def rNeSame : R2D := fun x y O k => ∃ ps, x = rowsP ps ∧ y = rowsP ps ∧ k (.bl false) O
theorem od_neSame {K : PySem.W.Frag} : OpD K (rNeD K) rNeSame := by
  intro x y a b F O H k Q st ra rb h o
  obtain ⟨ps, rfl, rfl, h⟩ := h
  have lay : PyData.canLay0 (.list (ps.map fun p => .tuple (p.map .int))) = true := by simp only [PyData.canLay0]; exact (rows_lay ps).1
  have sh : SeqAt.shaped (.list (ps.map fun p => .tuple (p.map .int))) = true := by
    unfold SeqAt.shaped
    rw [lay, Bool.true_and]
    refine decide_eq_true ?_
    simp only [PyData.depth]
    have := (rows_lay ps).2
    omega
  cases ra with
  | lst q r => cases rb with
    | lst q2 r2 =>
      refine ⟨_, _, .lst (.of (st.same _ _ q)) (dp_rows st.same r), .lst (.of (st.same _ _ q2)) (dp_rows st.same r2), sh, sh, ?_⟩
      rw [SeqAt.eqv_refl _ lay]
      exact o _ _ F H _ h st.go (.bl false)
theorem ptd_neSame {X : Cx} {a b : Expr} {pos : Pos} {da db : DE} (hu : X.A.units + 64 < cLine) (ha : PD X a da) (hb : PD X b db) : PTD X (.Compare a [.NotEq] [b] pos) (dB (dOp rNeSame da db)) := ptd_cmp (op_neD hu) od_neSame ha hb
/-! ### a tuple times a number -/
omit [TabL] [XCx] in
theorem tuple_mul0 (l : Addr) (items : Array Value) (dd : Option Addr) (n : Nat) (sl : Array (Option Value)) (x : Int) (u : Tok) (c0 : (decide (x < -(2 ^ 63)) || decide (x ≥ 2 ^ 63)) = false) (c1 : (items.isEmpty || x == 1) = true) :
    Meets (Builtin.«tuple.__mul__» ⟨[.ref l, .int x u], []⟩) (fun _ R s => s.heap.get? l = some { cls := .type "tuple", dict := dd, data := .seq items n, slots := sl } ∧ R (.ok (.ret (Value.ref l))) s) :=
  .of_wp fun prog w A R s h => by
    obtain ⟨hp, g, d, tk, os⟩ := s
    obtain ⟨hl, h⟩ := h
    have f1 := AutoSeq1.idx_int
    wp_walk using wpAny_loadPart' hl
    repeat (first
      | (refine wpAny_ite_false (decide_eq_false (by rw [c0]; exact Bool.false_ne_true)) ?_; wp_walk using wpAny_loadPart' hl)
      | (refine wpAny_ite_true (decide_eq_true c1) ?_; wp_walk using wpAny_loadPart' hl))
    exact ⟨_, rfl, h⟩
def rRep0 (K : PySem.W.Frag) : R2 := fun x y H Q => ∃ l k xs, x = .ref l ∧ y = .int k ∧ SqT K H l xs ∧ (xs = [] ∨ k = 1) ∧ 1 ≤ k ∧ k ≤ 1000 ∧ Q (.ref l) H
omit [TabL] [XCx] in
theorem op_rep0 {X : Cx} : OpR X (binaryOp .Mult) (rRep0 X.K) := by
  intro pins s σ H x y v u Q I rx ry h
  obtain ⟨l, k, xs, rfl, rfl, hT, hx, h1, h2, q⟩ := h
  cases rx
  obtain ⟨t, rfl⟩ := ry
  obtain ⟨its, r, ⟨⟨cls, dd, data, sl⟩, ho, hc, n, hd⟩, hs⟩ := I.tuple hT
  simp only at hc hd
  subst hc hd
  have c0 : (decide (k < -(2 ^ 63)) || decide (k ≥ 2 ^ 63)) = false := by
    rw [decide_eq_false (by omega), decide_eq_false (by omega)] <;> rfl
  have c1 : (its.toArray.isEmpty || k == 1) = true := by
    rcases hx with rfl | rfl
    · cases r; rfl
    · simp
  exact wpAny_binaryOp_repeat_ref (T := "tuple") (U := "int") (by decide) ⟨_, ho, rfl⟩ (fun s' => typeIs_int s' k t) noFill_tuple_mul F.fills_int_mul F.slot_int_rmul repeat_tuple F.slot_int_index.lookup
    (call_meets F.slot_int_rmul (typeIs_int s k t) F.entry_int_rmul (F.args_int_rmul_2 _ _) (int_rmul_tuple k t l _ n dd sl)
      ⟨ho, rfl, ⟨_, ho, rfl⟩, call_meets F.slot_tuple_mul ⟨_, ho, rfl⟩ F.entry_tuple_mul (F.args_tuple_mul_2 _ _) (tuple_mul0 l _ dd n sl k t c0 c1) ⟨ho, .ref l, _, I, rfl, q⟩⟩)
/-- t * k, k one or more -/
def dMulA : R2D := fun x y O k => match x, y with
  | .tup xs, .int c => (xs.length ≤ 1000 ∧ 1 ≤ c ∧ c ≤ 1000) ∧ k (.tup (List.replicate c.toNat xs).flatten) O
  | _, _ => False
theorem od_mulA {K : PySem.W.Frag} : OpD K (fun x y H Q => rRepT K x y H Q ∨ rRep0 K x y H Q) dMulA := by
  intro x y a b F O H k Q st ra rb h o
  unfold dMulA at h
  split at h
  · rename_i xs c
    obtain ⟨⟨h2, h3, h4⟩, h⟩ := h
    cases rb
    cases ra with
    | @tup l us ds q rr =>
      by_cases e : us = [] ∨ c = 1
      · refine .inr ⟨_, _, _, rfl, rfl, Same.seqT st.same q, e, h3, h4, o _ _ _ _ _ h st.go (.tup q ?_)⟩
        rcases e with rfl | rfl
        · cases rr
          rw [show (List.replicate c.toNat ([] : List D)).flatten = [] by simp]
          exact .nil
        · rw [show (List.replicate (1 : Int).toNat xs).flatten = xs by simp]
          exact rr
      · refine .inl (od_mulT (K := K) _ _ (.tup xs) (.int c) F O H k Q st (.tup q rr) (.int c) ⟨⟨fun z => e (.inl ?_), h2, ?_, h4⟩, h⟩ o)
        · subst z; cases rr; rfl
        · have : c ≠ 1 := fun z => e (.inr z)
          omega
  · exact h.elim
theorem pd_mulA {X : Cx} {a b : Expr} {pos : Pos} {da db : DE} (ha : PD X a da) (hb : PD X b db) : PD X (.BinOp a .Mult b pos) (dOp dMulA da db) := pd_op (OpR.or op_repT op_rep0) od_mulA ha hb
end
end SC
/-! The law's own def run where the law is called: what holds there of the guards is known. -/
namespace SC
open PySem PySem.Spec PyProof.Rows L2
/-- a def run at A -/
theorem runAt {CX : CXT} {P : Program} {w : World} {K : PySem.W.Frag} {mg : Str → Option Value} {base : Heap} {k : Nat} {g : Addr} {nm q : Str} {pr : Arguments} {bd : List Stmt} {sc : Scope} {d1 d2 d3 d4 cv c2 oc : Value} {an od : Option Addr} {osl : Array (Option Value)} {N ps : List Str}
    (lk : K.lookup g = some ⟨oc, od, .func (PySem.W.fnOf nm q pr bd sc d1 d2 d3 d4 an cv c2), osl⟩) (hc : PySem.W.codeIn K cv q = true) (S : FnScope N ps sc)
    {A : Around} {outer : List Env} {s : Shared} {H : Hp} {args : Args} {us : List Value} {vs : List V} {Q : VK} {E : XK} (hr : Room (k + 1) A) (e0 : Env0 P w K mg base A outer s H) (hb : BindsTo s (PySem.W.fnOf nm q pr bd sc d1 d2 d3 d4 an cv c2) args (ps.zip us)) (rv : Vals vs us) (hl : vs.length = ps.length)
    (go : ∃ t, PSs (cxOf CX P w K mg base N q sc g cv A outer s H E) bd t ∧ t { nx := fun _ H' => Q .non H', rt := Q } (L2.start N vs) H) :
    codeAny (model P w) A (.call (.ref g) args) (CR CX outer P w H s Q E) s := by
  have kin := e0.mod.kin.keeps fun b o z => (e0.bs b o z).1
  have nol := e0.mod.nolimit.keeps fun b o z => (e0.bs b o z).1
  have kinds : ∀ y ∈ ps.zip us, sc.names.lookup y.1 = some .local ∨ (sc.names.lookup y.1 = some .cell ∧ ((cellsFrom (s.heap.objs.size + 1) sc.names []).lookup y.1).isSome = true) := by
    rintro ⟨m, v⟩ hy
    cases S.par m (List.of_mem_zip hy).1 with
    | inl z => exact .inl z
    | inr z => exact .inr ⟨z, PySem.W.cellsFrom_some _ _ _ (.inl z)⟩
  refine codeAny_call_function hr.depth (kin _ _ lk) rfl S.co S.gen rfl
    (PySem.W.codeRec_of kin hc) (hb _ _ _ _ ?_)
  refine wpAny_newFunctionEnv_cells S.kind kinds
    fun env he s1 x => ?_
  cases he
  obtain ⟨t, ht, hq⟩ := go
  refine ⟨nol.keeps x.toInCall.keep, codeAny_func (wpAny_mono (ht.run [] s1 (L2.start N vs) H _ (inv_start S hr.hd e0 hl rv x) hq) (fun fl s' z => ?_) fun e s' z => z)⟩
  cases fl with
  | ret u =>
    obtain ⟨v, σ', H', J, r, z⟩ := z
    exact ⟨v, H', J.os, J.bare, J.base, J.hok, r, z⟩
  | next =>
    obtain ⟨σ', H', J, z⟩ := z
    exact ⟨V.non, H', J.os, J.bare, J.base, J.hok, rfl, z⟩
  | brk => exact z.elim fun _ z => z.elim fun _ z => z.2.elim
  | cont => exact z.elim fun _ z => z.elim fun _ z => z.2.elim
/-- the script alone is known -/
def lone (K : PySem.W.Frag) (a : Addr) (u : HO) : Hp := match K.lookup a with
  | some _ => fun _ => none
  | none => fun b => if b = a then some u else none
theorem top_call {P : Program} {w : World} {K : PySem.W.Frag} {mg mb : Str → Option Value} {fa a : Addr} {s : Shared} {vs : List Value} {ns : List Int}
    (kin : K.In s.heap) (nsG : s.heap.Ns mainGlobals mg) (nsB : s.heap.Ns builtinsNs mb) (bts : ∀ x : Str, x ≠ "__name__" → mb x = bootBuiltins x) (nol : s.heap.NoLimit) (gen : s.gens = #[])
    (ob : s.heap.get? a = some { cls := .type "list", data := .seq vs.toArray }) (iz : IntsAre vs ns) (ln : ns.length ≤ sizeLine)
    (run : ∀ (base : Heap) (H : Hp), Env0 P w K mg base callerA [] s H → SqL K H a (ns.map V.int) → (∀ b ps, H b ≠ some (.tbl ps)) →
      codeAny (model P w) callerA (.call (.ref fa) ⟨[.ref a], []⟩) (CR CX0 [] P w H s (fun v _ => v = .bl true) fun _ _ _ => False) s) :
    codeAny (model P w) callerA (.call (.ref fa) ⟨[.ref a], []⟩) (fun r s' => r = .ok (.ret (.bool true)) ∧ OldK s.heap s'.heap ∧ s'.os = s.os ∧ AllBare s'.gens) s := by
  have hz : vs.length = ns.length := iz.length
  let u : HO := .frz { cls := .type "list", data := .seq vs.toArray } (.lst (ns.map V.int))
  have hH : ∀ b o, lone K a u b = some o → b = a ∧ o = u ∧ K.lookup a = none := by
    intro b o e
    cases q : K.lookup a with
    | some x => simp [lone, q] at e
    | none =>
      by_cases z : b = a
      · have e' : some u = some o := by rw [← e]; simp [lone, q, z]
        exact ⟨z, (Option.some.inj e').symm, rfl⟩
      · have e' : (none : Option HO) = some o := by rw [← e]; simp [lone, q, z]
        cases e'
  have old : ∀ {b : Addr} {o : Obj}, s.heap.get? b = some o → (∀ v n, o.data ≠ .seq v n) → lone K a u b = none := by
    intro b o e n
    cases q : lone K a u b with
    | none => rfl
    | some x =>
      obtain ⟨z, _, _⟩ := hH b x q
      rw [z, ob] at e
      cases e
      exact (n _ _ rfl).elim
  have mv : ∀ {b : Addr} {m : Str → Option Value}, s.heap.Ns b m → (hidT s.heap (lone K a u)).Ns b m := by
    rintro b m ⟨o, es, ep, e, d, r⟩
    exact ⟨o, es, ep, hidT_get e (old e fun v n z => by rw [d] at z; cases z), d, r⟩
  have kb : K.In (hidT s.heap (lone K a u)) := by
    intro b o e
    refine hidT_get (kin b o e) ?_
    cases q : lone K a u b with
    | none => rfl
    | some x =>
      obtain ⟨z, _, n⟩ := hH b x q
      rw [z, n] at e
      cases e
  have okH : HOk P w (lone K a u) s.heap := by
    intro b o e
    obtain ⟨rfl, rfl, _⟩ := hH b o e
    exact ⟨ob, by rw [List.length_map]; exact ln, vs, _, vals_ints iz, ob⟩
  have sq : SqL K (lone K a u) a (ns.map V.int) := by
    cases q : K.lookup a with
    | none =>
      refine .inl (.inr ⟨{ cls := .type "list", data := .seq vs.toArray }, ?_⟩)
      unfold lone
      rw [q]
      exact if_pos rfl
    | some o =>
      have e := kin a o q
      rw [ob] at e
      cases e
      exact .inr ⟨_, vs.toArray, _, q, rfl, rfl, rfl, by rw [List.size_toArray, hz]; exact ln, by simpa using vals_ints iz⟩
  have env0 : Env0 P w K mg (hidT s.heap (lone K a u)) callerA [] s (lone K a u) :=
    ⟨rfl, ⟨kb, mv nsG, ⟨mb, mv nsB, bts⟩, nol.elim fun mc z => ⟨mc, mv z.1, z.2⟩⟩, fun b o e => of_hidT e, Nat.le_of_eq (hidT_size _ _), trivial, fun b z => absurd (show b ∈ ([] : List Addr) from z) (by simp), okH, .of_eq gen⟩
  refine codeAny_mono (run _ _ env0 sq fun b ps z => HO.noConfusion (hH b _ z).2.1) fun r s' h => ?_
  cases r with
  | error e => exact False.elim h
  | ok fl =>
    cases fl with
    | ret x =>
      obtain ⟨v, H', os, bare, un, ok', rv, rfl⟩ := h
      obtain rfl : x = Value.bool true := rv
      refine ⟨rfl, .of_keep fun b o e => ?_, os, bare⟩
      cases q : lone K a u b with
      | none => exact un.keep b o e q (fun z => absurd (show b ∈ ([] : List Addr) from z) (by simp)) (by simp)
      | some y =>
        obtain ⟨rfl, rfl, _⟩ := hH b y q
        have e1 := (okH _ _ q).1
        have e2 := (ok' _ _ (un.frzs _ _ _ q)).1
        rw [e] at e1
        cases e1
        exact e2
    | next => exact False.elim h
    | brk => exact False.elim h
    | cont => exact False.elim h
theorem walk_at {l : PySem.W.OpenLaw} {n : Nat} {q : Program} {loose : List Str} {XP : (Str → Option Value) → Heap → Prop} {YP : World → Heap → Prop} {d : DefRec} {K : Params → PySem.W.Frag}
    (hn : l.most = some n) (hn2 : n ≤ sizeLine) (hdf : d.params.defaults = []) (hY : ∀ (w : World) (h : Heap), YP w h → (K w.params).In h)
    (F : ∀ (w : World) (mg : Str → Option Value) (fa : Addr) (h : Heap), (K w.params).In h → h.Ns mainGlobals mg → mg d.name = some (.ref fa) → ∀ (s : Shared) (base : Heap) (H : Hp) (a : Addr) (ns : List Int), ns.length ≤ n →
      Env0 l.prog w (K w.params) mg base callerA [] s H → SqL (K w.params) H a (ns.map V.int) → (∀ b ps, H b ≠ some (.tbl ps)) →
      codeAny (model l.prog w) callerA (.call (.ref fa) ⟨[.ref a], []⟩) (CR CX0 [] l.prog w H s (fun v _ => v = .bl true) fun _ _ _ => False) s) :
    PySem.W.WalkO q loose XP YP l.row.toRowW d [] (fun f vs => PySem.call f vs) := by
  refine Att.attach_callB hn hdf fun w s₀ s₁ mg mb fa o pm cd doc a vs ns G Y ho hd hcd hmg hobj hints hlen hbits hg => ?_
  have kin := hY w _ Y
  exact top_call kin G.T.g G.T.b G.T.builtins G.T.nolimit hg hobj hints (Nat.le_trans hlen hn2) fun base H e z z2 => F w mg fa _ kin G.T.g hmg s₁ base H a ns hlen e z z2
end SC
namespace SC
open PySem PySem.Spec PyProof.Rows L2
variable [TabL] [XCx]
/-! a test (x if c else y) -/
omit [TabL] [XCx] in
theorem pt_ifExp {X : Cx} {a b c : Expr} {pos : Pos} {tc ta tb : TT} (hc : PT X c tc) (ha : PT X a ta) (hb : PT X b tb) : PT X (.IfExp c a b pos) (fun σ H Q => tc σ H fun d H1 => if d = true then ta σ H1 Q else tb σ H1 Q) := by
  refine ⟨fun pins s σ H Q I h => isTrue_IfExp (thn (hc.run pins s σ H _ I h) fun d s1 ⟨H1, I1, q1⟩ => ?_)⟩
  cases d with
  | true => exact ha.run pins s1 σ H1 Q I1 q1
  | false => exact hb.run pins s1 σ H1 Q I1 q1
theorem ptd_ifEB {X : Cx} {a b c : Expr} {pos : Pos} {tc : DT} {da db : DE} (hc : PTD X c tc) (ha : PTD X a (dB da)) (hb : PTD X b (dB db)) : PTD X (.IfExp c a b pos) (dB (dIfE tc da db)) := by
  refine ⟨PT.weak (pt_ifExp hc.pt ha.pt hb.pt) fun σ H Q h => ?_⟩
  obtain ⟨F, e, O, k, st, er, h, o⟩ := h
  unfold dB dIfE at h
  refine ⟨F, e, O, _, st, er, h, fun d O1 F1 H1 h1 g1 => ?_⟩
  cases d with
  | true => rw [if_pos rfl]; exact ⟨F1, e, O1, k, g1.stt, er.mono g1.same, h1, o.after g1⟩
  | false => rw [if_neg (by decide)]; exact ⟨F1, e, O1, k, g1.stt, er.mono g1.same, h1, o.after g1⟩
end SC
namespace SC
open PySem PySem.Spec PyProof.Rows L2
/-- what isinstance asks of an own class -/
structure IsC (K : PySem.W.Frag) (C : Addr) : Prop where
  cl : Cls K C
  f : PySem.W.findIn K (.ref C) "__class__" = some (some (.builtin "object.__class__"))
  s : PySem.W.specialIn K (.builtin "object.__class__") "__get__" = some (some (.builtin "getset_descriptor.__get__"))
  t : PySem.W.takesIn K (.builtin "object.__class__") = some true
  m : PySem.W.mroIn K C (.type "object") = some true
/-- isinstance(o, C), o an object of C -/
theorem call_isC {X : Cx} {C : Addr} (M : IsC X.K C) : CallR X (.builtin "isinstance") (fun xs H Q => ∃ a dx fs, xs = [.ref a, .ref C] ∧ H a = some (.ins C dx fs) ∧ Q (.bl true) H) := by
  intro pins s σ H xs us Q I r h
  obtain ⟨a, dx, fs, rfl, hx, q⟩ := h
  exact call_isi pins s σ H _ us Q I r ⟨_, _, .ref C, .ref C, true, rfl, .own C, .base (.ins hx M.cl M.f M.s M.t M.m), by unfold PySem.W.kitOne; rw [if_pos (by simp)], q⟩
end SC
namespace Lk18
open PySem PySem.Spec PyProof.Rows L2 SC
instance tabs0 : TabL := ⟨[]⟩
variable [XCx]
/-! ### data -/
abbrev Box := List (Int × Int)
abbrev Area := List Box
abbrev Row := List Int
def pairD (q : Int × Int) : D := .tup [.int q.1, .int q.2]
def boxD (b : Box) : D := .tup (b.map pairD)
def areaD (a : Area) : D := .tup (a.map boxD)
def rowD (p : Row) : D := .tup (p.map .int)
def cD : Option Int → D
  | none => .non
  | some i => .int i
inductive W where
  | never (a : Area) | within (a : Area) (k : Int) | answered (a b : Area) (k : Int) | ahead (a b : Area) | again (a : Area) (k : Int)
def W.d : W → D
  | .never a => .tup [.str "never", areaD a]
  | .within a k => .tup [.str "within", areaD a, .int k]
  | .answered a b k => .tup [.str "answered", areaD a, areaD b, .int k]
  | .ahead a b => .tup [.str "ahead", areaD a, areaD b]
  | .again a k => .tup [.str "again", areaD a, .int k]
theorem d1 {a : Area} : (W.never a).d = .tup [.str "never", areaD a] := rfl
theorem d2 {a : Area} {k : Int} : (W.within a k).d = .tup [.str "within", areaD a, .int k] := rfl
theorem d3 {a b : Area} {k : Int} : (W.answered a b k).d = .tup [.str "answered", areaD a, areaD b, .int k] := rfl
theorem d4 {a b : Area} : (W.ahead a b).d = .tup [.str "ahead", areaD a, areaD b] := rfl
theorem d5 {a : Area} {k : Int} : (W.again a k).d = .tup [.str "again", areaD a, .int k] := rfl
def W.a : W → Area
  | .never a => a | .within a _ => a | .answered a _ _ => a | .ahead a _ => a | .again a _ => a
/-- small enough -/
def okB (b : Box) : Prop := b.length ≤ 1000
def okA (a : Area) : Prop := a.length ≤ 1000 ∧ ∀ b ∈ a, okB b
def okR (p : Row) : Prop := p.length ≤ 1000
def W.ok : W → Prop
  | .never a => okA a
  | .within a k => okA a ∧ 1 ≤ k ∧ k ≤ 30
  | .answered a b k => okA a ∧ okA b ∧ 1 ≤ k ∧ k ≤ 30
  | .ahead a b => okA a ∧ okA b
  | .again a k => okA a ∧ 1 ≤ k ∧ k ≤ 30
/-! ### what the program's defs tell -/
def inBox (b : Box) (p : Row) : Bool := (p.zip b).all fun q => decide (q.2.1 ≤ q.1) && decide (q.1 ≤ q.2.2)
def inArea (a : Area) (p : Row) : Bool := a.any fun b => inBox b p
def W.oth (w : W) (p : Row) : Bool := match w with
  | .answered _ b _ => inArea b p
  | .ahead _ b => inArea b p
  | _ => false
def aheadC (i o : Bool) : Option Int := if i then some 1 else if o then none else some 0
def firstC (w : W) (i o : Bool) : Option Int := match w with
  | .never _ => if i then none else some 0
  | .within _ _ => if i then some (-1) else some 0
  | .answered _ _ _ => if i && !o then some 1 else some 0
  | .ahead _ _ => aheadC i o
  | .again _ _ => if i then some 0 else some 1
def unlessC (c m : Int) : Option Int := if m < c then none else some c
def nextC (w : W) (c : Option Int) (i o : Bool) : Option Int := match c with
  | none => none
  | some c => match w with
    | .never _ => if i then none else some 0
    | .ahead _ _ => if c = 1 then some 1 else aheadC i o
    | .within _ k => if i || decide (c = -1) then some (-1) else unlessC (c + 1) (k - 1)
    | .answered _ _ k => if o then some 0 else if 0 < c then unlessC (c + 1) k else if i then some 1 else some 0
    | .again _ k => if i then some 0 else unlessC (c + 1) k
def begunC (ws : List W) (p : Row) : List (Option Int) := ws.map fun w => firstC w (inArea w.a p) (w.oth p)
def countedC : List W → List (Option Int) → Row → List (Option Int)
  | w :: ws, c :: cs, p => nextC w c (inArea w.a p) (w.oth p) :: countedC ws cs p
  | _, _, _ => []
/-! ### what the law's own look tells -/
def anyF (h : Nat → Bool) (j n : Nat) : Bool := (List.range (n + 1)).any fun i => decide (j ≤ i) && h i
def brkF (w : W) (h t : Nat → Bool) (n : Nat) : Bool := match w with
  | .never _ => h n
  | .within _ k => decide ((n : Int) = k) && !anyF h 0 n
  | .answered _ _ k => decide (k ≤ (n : Int)) && (h (n - k.toNat) && !anyF t (n - k.toNat) n)
  | .ahead _ _ => t n && !anyF h 0 n
  | .again _ k => decide (k ≤ (n : Int)) && !anyF h (n - k.toNat) n
def eld (h t : Nat → Bool) (n : Nat) : Option Nat := (List.range (n + 1)).find? fun b => h b && !anyF t b n
def runF (h : Nat → Bool) : Nat → Nat
  | 0 => if h 0 then 0 else 1
  | n + 1 => if h (n + 1) then 0 else runF h n + 1
def cntF (w : W) (h t : Nat → Bool) (n : Nat) : Option Int := bif (List.range (n + 1)).any (brkF w h t) then none else match w with
  | .never _ => some 0
  | .within _ _ => some (bif anyF h 0 n then -1 else (n : Int))
  | .answered _ _ _ => some (match eld h t n with
    | some b => (n : Int) - b + 1
    | none => 0)
  | .ahead _ _ => some (bif anyF h 0 n then 1 else 0)
  | .again _ _ => some (runF h n : Nat)
def hA (a : Area) (ps : List Row) (i : Nat) : Bool := inArea a (ps.getD i [])
def W.b : W → Area
  | .answered _ b _ => b | .ahead _ b => b | _ => []
def brk (w : W) (ps : List Row) (n : Nat) : Bool := brkF w (hA w.a ps) (hA w.b ps) n
def cnt (w : W) (ps : List Row) (n : Nat) : Option Int := cntF w (hA w.a ps) (hA w.b ps) n
/-! ### promises -/
def c_WITH_OTHER : D := .tup ((["answered", "ahead"] : List Str).map D.str)
def sp_in_box : DSp := fun ds O k => ∃ b p, ds = [boxD b, rowD p] ∧ okB b ∧ okR p ∧ k (.bl (inBox b p)) O
theorem ln_in_box : ∀ ds O k, sp_in_box ds O k → ds.length = 2 := by rintro ds O k ⟨b, p, rfl, _⟩; rfl
def sp_in_area : DSp := fun ds O k => ∃ a p, ds = [areaD a, rowD p] ∧ okA a ∧ okR p ∧ k (.bl (inArea a p)) O
theorem ln_in_area : ∀ ds O k, sp_in_area ds O k → ds.length = 2 := by rintro ds O k ⟨b, p, rfl, _⟩; rfl
def markD (p : Row) (w : W) : D := .tup [.bl (inArea w.a p), .bl (w.oth p)]
def sp_marks : DSp := fun ds O k => ∃ (ws : List W) (p : Row), ds = [.tup (ws.map W.d), rowD p] ∧ ws.length ≤ 1000 ∧ (∀ w ∈ ws, w.ok) ∧ okR p ∧ k (.tup (ws.map (markD p))) O
theorem ln_marks : ∀ ds O k, sp_marks ds O k → ds.length = 2 := by rintro ds O k ⟨b, p, rfl, _⟩; rfl
def sp_count_at_first : DSp := fun ds O k => ∃ (w : W) (i o : Bool), ds = [w.d, .bl i, .bl o] ∧ k (cD (firstC w i o)) O
theorem ln_count_at_first : ∀ ds O k, sp_count_at_first ds O k → ds.length = 3 := by rintro ds O k ⟨w, i, o, rfl, _⟩; rfl
def sp_ahead_count : DSp := fun ds O k => ∃ (i o : Bool), ds = [.bl i, .bl o] ∧ k (cD (aheadC i o)) O
theorem ln_ahead_count : ∀ ds O k, sp_ahead_count ds O k → ds.length = 2 := by rintro ds O k ⟨i, o, rfl, _⟩; rfl
def sp_unless_above : DSp := fun ds O k => ∃ c m, ds = [.int c, .int m] ∧ k (cD (unlessC c m)) O
theorem ln_unless_above : ∀ ds O k, sp_unless_above ds O k → ds.length = 2 := by rintro ds O k ⟨i, o, rfl, _⟩; rfl
def sp_next_waiting : DSp := fun ds O k => ∃ a b kk c i o, ds = [(W.answered a b kk).d, .int c, .bl i, .bl o] ∧ k (cD (nextC (.answered a b kk) (some c) i o)) O
theorem ln_next_waiting : ∀ ds O k, sp_next_waiting ds O k → ds.length = 4 := by rintro ds O k ⟨a, b, kk, c, i, o, rfl, _⟩; rfl
def sp_next_count : DSp := fun ds O k => ∃ (w : W) (c : Option Int) (i o : Bool), ds = [w.d, cD c, .bl i, .bl o] ∧ k (cD (nextC w c i o)) O
theorem ln_next_count : ∀ ds O k, sp_next_count ds O k → ds.length = 4 := by rintro ds O k ⟨w, c, i, o, rfl, _⟩; rfl
def sp_begun_by : DSp := fun ds O k => ∃ (ws : List W) (p : Row), ds = [.tup (ws.map W.d), .tup (ws.map (markD p))] ∧ ws.length ≤ 1000 ∧ k (.tup ((begunC ws p).map cD)) O
theorem ln_begun_by : ∀ ds O k, sp_begun_by ds O k → ds.length = 2 := by rintro ds O k ⟨b, p, rfl, _⟩; rfl
def sp_counted_by : DSp := fun ds O k => ∃ (ws : List W) (cs : List (Option Int)) (p : Row), ds = [.tup (ws.map W.d), .tup (cs.map cD), .tup (ws.map (markD p))] ∧ ws.length ≤ 1000 ∧ cs.length = ws.length ∧ k (.tup ((countedC ws cs p).map cD)) O
theorem ln_counted_by : ∀ ds O k, sp_counted_by ds O k → ds.length = 3 := by rintro ds O k ⟨b, cs, p, rfl, _⟩; rfl
def sp_begun : DSp := fun ds O k => ∃ (ws : List W) (p : Row), ds = [.tup (ws.map W.d), rowD p] ∧ ws.length ≤ 1000 ∧ (∀ w ∈ ws, w.ok) ∧ okR p ∧ k (.tup ((begunC ws p).map cD)) O
theorem ln_begun : ∀ ds O k, sp_begun ds O k → ds.length = 2 := by rintro ds O k ⟨b, p, rfl, _⟩; rfl
def sp_counted : DSp := fun ds O k => ∃ (ws : List W) (cs : List (Option Int)) (p : Row), ds = [.tup (ws.map W.d), .tup (cs.map cD), rowD p] ∧ ws.length ≤ 1000 ∧ (∀ w ∈ ws, w.ok) ∧ okR p ∧ cs.length = ws.length ∧ k (.tup ((countedC ws cs p).map cD)) O
theorem ln_counted : ∀ ds O k, sp_counted ds O k → ds.length = 3 := by rintro ds O k ⟨b, cs, p, rfl, _⟩; rfl
/-! ### .. of the law's own defs -/
def sp__law_hand : DSp := spHand
theorem ln__law_hand : ∀ ds O k, sp__law_hand ds O k → ds.length = 1 := ln_spHand
def sp__law_draw : DSp := spDraw
theorem ln__law_draw : ∀ ds O k, sp__law_draw ds O k → ds.length = 2 := ln_spDraw
def sp__law_some : DSp := spSome
theorem ln__law_some : ∀ ds O k, sp__law_some ds O k → ds.length = 2 := ln_spSome
def sp__law_in : DSp := sp_in_area
theorem ln__law_in : ∀ ds O k, sp__law_in ds O k → ds.length = 2 := ln_in_area
def sp__law_box : DSp := fun ds O k => ∃ p h ax, ds = [.own p, .int ax] ∧ O p = some h ∧ HandOk h ∧ 0 ≤ ax ∧ ax ≤ 3 ∧ ∀ b h', okB b → HandOk h' → k (boxD b) (oset O p h')
theorem ln__law_box : ∀ ds O k, sp__law_box ds O k → ds.length = 2 := by rintro ds O k ⟨p, h, m, rfl, _⟩; rfl
def sp__law_area : DSp := fun ds O k => ∃ p h ax, ds = [.own p, .int ax] ∧ O p = some h ∧ HandOk h ∧ 0 ≤ ax ∧ ax ≤ 3 ∧ ∀ a h', okA a → HandOk h' → k (areaD a) (oset O p h')
theorem ln__law_area : ∀ ds O k, sp__law_area ds O k → ds.length = 2 := by rintro ds O k ⟨p, h, m, rfl, _⟩; rfl
def sp__law_wish : DSp := fun ds O k => ∃ p h ax, ds = [.own p, .int ax] ∧ O p = some h ∧ HandOk h ∧ 0 ≤ ax ∧ ax ≤ 3 ∧ ∀ (w : W) h', w.ok → HandOk h' → k w.d (oset O p h')
theorem ln__law_wish : ∀ ds O k, sp__law_wish ds O k → ds.length = 2 := by rintro ds O k ⟨p, h, m, rfl, _⟩; rfl
def okP (ps : List Row) : Prop := ps ≠ [] ∧ ps.length ≤ 1000 ∧ ∀ r ∈ ps, okR r
def sp__law_places : DSp := fun ds O k => ∃ p h ax m, ds = [.own p, .int ax, .int m] ∧ O p = some h ∧ HandOk h ∧ 0 ≤ ax ∧ ax ≤ 3 ∧ 0 ≤ m ∧ m ≤ 100 ∧ ∀ ps h', okP ps → HandOk h' → k (.lst (ps.map rowD)) (oset O p h')
theorem ln__law_places : ∀ ds O k, sp__law_places ds O k → ds.length = 3 := by rintro ds O k ⟨p, h, m, n, rfl, _⟩; rfl
def sp__law_breaks : DSp := fun ds O k => ∃ (w : W) (ps : List Row) (n : Nat), ds = [w.d, .lst (ps.map rowD), .int (n : Nat)] ∧ w.ok ∧ okP ps ∧ n < ps.length ∧ k (.bl (brk w ps n)) O
theorem ln__law_breaks : ∀ ds O k, sp__law_breaks ds O k → ds.length = 3 := by rintro ds O k ⟨p, h, m, rfl, _⟩; rfl
def sp__law_count : DSp := fun ds O k => ∃ (w : W) (ps : List Row) (n : Nat), ds = [w.d, .lst (ps.map rowD), .int (n : Nat)] ∧ w.ok ∧ okP ps ∧ n < ps.length ∧ k (cD (cnt w ps n)) O
theorem ln__law_count : ∀ ds O k, sp__law_count ds O k → ds.length = 3 := by rintro ds O k ⟨p, h, m, rfl, _⟩; rfl
def sp__law_is : DSp := fun ds O k => ∃ (cs es : List (Option Int)), ds = [.tup (cs.map cD), .tup (es.map cD)] ∧ cs = es ∧ k (.bl true) O
theorem ln__law_is : ∀ ds O k, sp__law_is ds O k → ds.length = 2 := by rintro ds O k ⟨p, h, rfl, _⟩; rfl
def sp__law_is_walk_right : DSp := fun ds O k => ∃ (ws : List W) (ps : List Row), ds = [.tup (ws.map W.d), .lst (ps.map rowD)] ∧ ws.length ≤ 1000 ∧ (∀ w ∈ ws, w.ok) ∧ okP ps ∧ k (.bl true) O
theorem ln__law_is_walk_right : ∀ ds O k, sp__law_is_walk_right ds O k → ds.length = 2 := by rintro ds O k ⟨p, h, rfl, _⟩; rfl
def sp__law_are_known_right : DSp := fun ds O k => ds = [] ∧ k (.bl true) O
theorem ln__law_are_known_right : ∀ ds O k, sp__law_are_known_right ds O k → ds.length = 0 := by rintro ds O k ⟨rfl, _⟩; rfl
def sp_law : DSp := spLaw
theorem ln_law : ∀ ds O k, sp_law ds O k → ds.length = 1 := by rintro ds O k ⟨ns, rfl, _⟩; rfl
end Lk18
namespace Lk18
theorem anyF_iff {h : Nat → Bool} {j n : Nat} : anyF h j n = true ↔ ∃ i, j ≤ i ∧ i ≤ n ∧ h i = true := by
  unfold anyF
  rw [List.any_eq_true]
  constructor
  · rintro ⟨i, hi, e⟩
    simp only [Bool.and_eq_true, decide_eq_true_eq] at e
    exact ⟨i, e.1, by have := List.mem_range.mp hi; omega, e.2⟩
  · rintro ⟨i, h1, h2, h3⟩
    exact ⟨i, List.mem_range.mpr (by omega), by simp [h1, h3]⟩
theorem anyF_false {h : Nat → Bool} {j n : Nat} : anyF h j n = false ↔ ∀ i, j ≤ i → i ≤ n → h i = false := by
  rw [← Bool.not_eq_true, anyF_iff]
  constructor
  · intro q i h1 h2
    cases e : h i with
    | false => rfl
    | true => exact (q ⟨i, h1, h2, e⟩).elim
  · rintro q ⟨i, h1, h2, h3⟩
    rw [q i h1 h2] at h3; cases h3
theorem any_range {b : Nat → Bool} {n : Nat} : (List.range (n + 1)).any b = true ↔ ∃ i, i ≤ n ∧ b i = true := by
  rw [List.any_eq_true]
  constructor
  · rintro ⟨i, hi, e⟩; exact ⟨i, by have := List.mem_range.mp hi; omega, e⟩
  · rintro ⟨i, hi, e⟩; exact ⟨i, List.mem_range.mpr (by omega), e⟩
theorem any_range_false {b : Nat → Bool} {n : Nat} : (List.range (n + 1)).any b = false ↔ ∀ i, i ≤ n → b i = false := by
  rw [← Bool.not_eq_true, any_range]
  constructor
  · intro q i h1
    cases e : b i with
    | false => rfl
    | true => exact (q ⟨i, h1, e⟩).elim
  · rintro q ⟨i, h1, h3⟩
    rw [q i h1] at h3; cases h3
theorem any_succ {b : Nat → Bool} {n : Nat} : (List.range (n + 1 + 1)).any b = ((List.range (n + 1)).any b || b (n + 1)) := by
  rw [List.range_succ, List.any_append]; simp
/-- the run of places out at the end -/
theorem runF_le : ∀ (h : Nat → Bool) (n : Nat), runF h n ≤ n + 1
  | h, 0 => by unfold runF; split <;> omega
  | h, n + 1 => by
    have := runF_le h n
    unfold runF; split <;> omega
theorem runF_spec : ∀ (h : Nat → Bool) (n m : Nat), m ≤ n + 1 → (m ≤ runF h n ↔ ∀ i, n + 1 - m ≤ i → i ≤ n → h i = false)
  | h, 0, m, hm => by
    unfold runF
    rcases (show m = 0 ∨ m = 1 by omega) with rfl | rfl
    · simp only [Nat.zero_le, true_iff]; intro i h1 h2; omega
    · by_cases e : h 0 = true
      · rw [if_pos e]
        constructor
        · intro q; omega
        · intro q; rw [q 0 (by omega) (by omega)] at e; cases e
      · rw [if_neg e]
        simp only [Nat.le_refl, true_iff]
        intro i h1 h2
        have : i = 0 := by omega
        subst this
        simpa using e
  | h, n + 1, m, hm => by
    unfold runF
    by_cases e : h (n + 1) = true
    · rw [if_pos e]
      constructor
      · intro q i h1 h2; omega
      · intro q
        rcases Nat.eq_zero_or_pos m with z | z
        · omega
        · rw [q (n + 1) (by omega) (by omega)] at e; cases e
    · rw [if_neg e]
      rcases Nat.eq_zero_or_pos m with z | z
      · subst z
        simp only [Nat.zero_le, true_iff]; intro i h1 h2; omega
      · have ih := runF_spec h n (m - 1) (by omega)
        rw [show (m ≤ runF h n + 1) ↔ (m - 1 ≤ runF h n) by omega, ih]
        constructor
        · intro q i h1 h2
          by_cases z2 : i = n + 1
          · subst z2; simpa using e
          · exact q i (by omega) (by omega)
        · intro q i h1 h2
          exact q i (by omega) (by omega)
theorem eld_some {h t : Nat → Bool} {n b : Nat} : eld h t n = some b ↔ b ≤ n ∧ h b = true ∧ anyF t b n = false ∧ ∀ c, c < b → ¬ (h c = true ∧ anyF t c n = false) := by
  unfold eld
  rw [List.find?_range_eq_some]
  simp only [Bool.and_eq_true, Bool.not_eq_true', List.mem_range, Nat.lt_succ_iff]
  constructor
  · rintro ⟨⟨h1, h2⟩, h3, h4⟩
    refine ⟨h3, h1, h2, fun c hc q => ?_⟩
    have := h4 c hc
    simp [q.1, q.2] at this
  · rintro ⟨h1, h2, h3, h4⟩
    refine ⟨⟨h2, h3⟩, h1, fun c hc => ?_⟩
    have := h4 c hc
    cases e : h c with
    | false => simp
    | true =>
      cases e2 : anyF t c n with
      | true => simp
      | false => exact (this ⟨e, e2⟩).elim
theorem eld_none {h t : Nat → Bool} {n : Nat} : eld h t n = none ↔ ∀ c, c ≤ n → ¬ (h c = true ∧ anyF t c n = false) := by
  unfold eld
  rw [List.find?_range_eq_none]
  constructor
  · intro q c hc e
    have := q c (by omega)
    simp [e.1, e.2] at this
  · intro q c hc
    have := q c (by omega)
    cases e : h c with
    | false => simp
    | true =>
      cases e2 : anyF t c n with
      | true => simp
      | false => exact (this ⟨e, e2⟩).elim
end Lk18
namespace Lk18
theorem cnt_first (w : W) (h t : Nat → Bool) (hw : w.ok) : cntF w h t 0 = firstC w (h 0) (t 0) := by
  have r1 : ∀ b : Nat → Bool, (List.range (0 + 1)).any b = b 0 := fun b => by simp
  have an : ∀ b : Nat → Bool, anyF b 0 0 = b 0 := fun b => by simp [anyF]
  unfold cntF
  rw [r1]
  cases w with
  | never a => simp only [brkF, firstC]; cases h 0 <;> simp
  | within a k =>
    obtain ⟨_, h1, _⟩ := hw
    have : decide (((0 : Nat) : Int) = k) = false := by rw [decide_eq_false_iff_not]; omega
    simp only [brkF, firstC, this, Bool.false_and, an, cond_false]
    cases h 0 <;> simp
  | answered a b k =>
    obtain ⟨_, _, h1, _⟩ := hw
    have : decide (k ≤ ((0 : Nat) : Int)) = false := by rw [decide_eq_false_iff_not]; omega
    simp only [brkF, firstC, this, Bool.false_and]
    have e1 : eld h t 0 = if (h 0 && !t 0) = true then some 0 else none := by
      unfold eld
      simp only [Nat.zero_add, List.range_one, List.find?_cons, List.find?_nil, an]
      cases h 0 <;> cases t 0 <;> rfl
    rw [e1]
    cases h 0 <;> cases t 0 <;> simp
  | ahead a b =>
    simp only [brkF, firstC, an, aheadC]
    cases h 0 <;> cases t 0 <;> simp
  | again a k =>
    obtain ⟨_, h1, _⟩ := hw
    have : decide (k ≤ ((0 : Nat) : Int)) = false := by rw [decide_eq_false_iff_not]; omega
    simp only [brkF, firstC, this, Bool.false_and, runF]
    cases h 0 <;> simp
theorem cnt_next (w : W) (h t : Nat → Bool) (n : Nat) (hw : w.ok) : cntF w h t (n + 1) = nextC w (cntF w h t n) (h (n + 1)) (t (n + 1)) := by
  unfold cntF
  rw [any_succ]
  cases e0 : (List.range (n + 1)).any (brkF w h t) with
  | true => simp [nextC]
  | false =>
    have nb := any_range_false.mp e0
    simp only [Bool.false_or, cond_false]
    cases w with
    | never a => simp only [brkF, nextC]; cases h (n + 1) <;> simp
    | ahead a b =>
      simp only [brkF, nextC, aheadC]
      have st : anyF h 0 (n + 1) = (anyF h 0 n || h (n + 1)) := by
        unfold anyF; rw [List.range_succ (n := n + 1), List.any_append]; simp
      rw [st]
      cases anyF h 0 n <;> cases h (n + 1) <;> cases t (n + 1) <;> simp
    | within a k =>
      obtain ⟨_, h1, _⟩ := hw
      simp only [brkF, nextC]
      have st : anyF h 0 (n + 1) = (anyF h 0 n || h (n + 1)) := by
        unfold anyF; rw [List.range_succ (n := n + 1), List.any_append]; simp
      rw [st]
      cases e1 : anyF h 0 n with
      | true => simp
      | false =>
        have hn : (n : Int) < k := by
          rcases Int.lt_or_le (n : Int) k with z | z
          · exact z
          · exfalso
            have := nb k.toNat (by omega)
            simp only [brkF] at this
            have e2 : anyF h 0 k.toNat = false := anyF_false.mpr fun i _ h2 => anyF_false.mp e1 i (by omega) (by omega)
            rw [e2] at this
            simp at this
            omega
        cases h (n + 1) with
        | true => simp
        | false =>
          simp only [Bool.or_false, Bool.not_false, Bool.and_true, Bool.false_or, unlessC]
          have c1 : decide (((n + 1 : Nat) : Int) = k) = decide (k - 1 < (n : Int) + 1) := by
            rw [Bool.eq_iff_iff]; simp only [decide_eq_true_eq]; omega
          have c2 : decide ((n : Int) = -1) = false := by rw [decide_eq_false_iff_not]; omega
          simp only [c1, c2, Bool.false_eq_true, if_false, cond_false]
          by_cases z : k - 1 < (n : Int) + 1
          · simp [z]
          · simp [z]
    | again a k =>
      obtain ⟨_, h1, _⟩ := hw
      obtain ⟨m, rfl⟩ : ∃ m : Nat, k = (m : Int) := ⟨k.toNat, by omega⟩
      have key : ∀ j, brkF (.again a (m : Int)) h t j = decide (m + 1 ≤ runF h j) := fun j => by
        simp only [brkF, Int.toNat_natCast]
        rw [Bool.eq_iff_iff]
        simp only [Bool.and_eq_true, decide_eq_true_eq, Bool.not_eq_true', anyF_false]
        by_cases z : m ≤ j
        · rw [runF_spec h j (m + 1) (by omega)]
          constructor
          · rintro ⟨_, q⟩ i h1 h2; exact q i (by omega) h2
          · intro q; exact ⟨by omega, fun i h1 h2 => q i (by omega) h2⟩
        · have := runF_le h j
          constructor
          · rintro ⟨q, _⟩; omega
          · intro q; omega
      have ev : runF h (n + 1) = if h (n + 1) = true then 0 else runF h n + 1 := rfl
      rw [key]
      simp only [nextC, ev, unlessC]
      cases h (n + 1) with
      | true => simp
      | false =>
        simp only [Bool.false_eq_true, if_false]
        by_cases z : m ≤ runF h n
        · rw [decide_eq_true (show m + 1 ≤ runF h n + 1 by omega), if_pos (by omega)]; rfl
        · rw [decide_eq_false (show ¬ m + 1 ≤ runF h n + 1 by omega), if_neg (by omega)]; simp
    | answered a b k =>
      obtain ⟨_, _, h1, _⟩ := hw
      obtain ⟨m, rfl⟩ : ∃ m : Nat, k = (m : Int) := ⟨k.toNat, by omega⟩
      have hm : 1 ≤ m := by omega
      have key : ∀ j, brkF (.answered a b (m : Int)) h t j = true ↔ m ≤ j ∧ h (j - m) = true ∧ anyF t (j - m) j = false := fun j => by
        simp only [brkF, Int.toNat_natCast, Bool.and_eq_true, decide_eq_true_eq, Bool.not_eq_true']
        constructor
        · rintro ⟨q1, q2, q3⟩; exact ⟨by omega, q2, q3⟩
        · rintro ⟨q1, q2, q3⟩; exact ⟨by omega, q2, q3⟩
      have wait : ∀ c, c ≤ n → h c = true → anyF t c n = false → n < c + m := fun c hc q1 q2 => by
        rcases Nat.lt_or_ge n (c + m) with z | z
        · exact z
        · exfalso
          have := nb (c + m) z
          have q : brkF (.answered a b (m : Int)) h t (c + m) = true := (key _).mpr ⟨by omega, by rw [Nat.add_sub_cancel]; exact q1, by
            rw [Nat.add_sub_cancel]; exact anyF_false.mpr fun i i1 i2 => anyF_false.mp q2 i i1 (by omega)⟩
          rw [this] at q; cases q
      have brk1 : brkF (.answered a b (m : Int)) h t (n + 1) = true ↔ t (n + 1) = false ∧ ∃ c, c + m = n + 1 ∧ h c = true ∧ anyF t c n = false := by
        rw [key]
        constructor
        · rintro ⟨q1, q2, q3⟩
          exact ⟨anyF_false.mp q3 (n + 1) (by omega) (Nat.le_refl _), n + 1 - m, by omega, q2, anyF_false.mpr fun i i1 i2 => anyF_false.mp q3 i i1 (by omega)⟩
        · rintro ⟨q0, c, q1, q2, q3⟩
          refine ⟨by omega, by rw [show n + 1 - m = c by omega]; exact q2, anyF_false.mpr fun i i1 i2 => ?_⟩
          by_cases z : i = n + 1
          · rw [z]; exact q0
          · exact anyF_false.mp q3 i (by omega) (by omega)
      simp only [nextC]
      cases et : t (n + 1) with
      | true =>
        have nb1 : brkF (.answered a b (m : Int)) h t (n + 1) = false := by
          rw [← Bool.not_eq_true, brk1]; rintro ⟨q, _⟩; rw [et] at q; cases q
        have en : eld h t (n + 1) = none := eld_none.mpr fun c hc q => by
          have := anyF_false.mp q.2 (n + 1) hc (Nat.le_refl _)
          rw [et] at this; cases this
        simp [nb1, en]
      | false =>
        have any1 : ∀ c, c ≤ n → (anyF t c (n + 1) = false ↔ anyF t c n = false) := fun c hc => by
          rw [anyF_false, anyF_false]
          constructor
          · intro q i i1 i2; exact q i i1 (by omega)
          · intro q i i1 i2
            by_cases z : i = n + 1
            · rw [z]; exact et
            · exact q i i1 (by omega)
        cases ee : eld h t n with
        | some c =>
          obtain ⟨c1, c2, c3, c4⟩ := eld_some.mp ee
          have e1 : eld h t (n + 1) = some c := eld_some.mpr ⟨by omega, c2, (any1 c c1).mpr c3, fun d hd q => c4 d hd ⟨q.1, (any1 d (by omega)).mp q.2⟩⟩
          have w1 := wait c c1 c2 c3
          have bb : brkF (.answered a b (m : Int)) h t (n + 1) = decide (c + m = n + 1) := by
            rw [Bool.eq_iff_iff, brk1, decide_eq_true_eq]
            constructor
            · rintro ⟨_, d, d1, d2, d3⟩
              by_cases z : d < c
              · exact (c4 d z ⟨d2, d3⟩).elim
              · omega
            · intro q; exact ⟨et, c, q, c2, c3⟩
          have p1 : (0 : Int) < (n : Int) - c + 1 := by omega
          simp only [bb, e1, p1, if_true, Bool.false_eq_true, if_false, unlessC]
          by_cases z : c + m = n + 1
          · rw [decide_eq_true z, if_pos (by omega)]; rfl
          · rw [decide_eq_false z, if_neg (by omega), cond_false]
            congr 1
            omega
        | none =>
          have q0 := eld_none.mp ee
          have nb1 : brkF (.answered a b (m : Int)) h t (n + 1) = false := by
            rw [← Bool.not_eq_true, brk1]; rintro ⟨_, c, d1, d2, d3⟩; exact q0 c (by omega) ⟨d2, d3⟩
          simp only [nb1, Bool.false_eq_true, if_false, Int.lt_irrefl, cond_false]
          cases eh : h (n + 1) with
          | true =>
            have e1 : eld h t (n + 1) = some (n + 1) := eld_some.mpr ⟨Nat.le_refl _, eh, anyF_false.mpr fun i i1 i2 => by rw [show i = n + 1 by omega]; exact et, fun d hd q => q0 d (by omega) ⟨q.1, (any1 d (by omega)).mp q.2⟩⟩
            simp [e1]
          | false =>
            have e1 : eld h t (n + 1) = none := eld_none.mpr fun c hc q => by
              by_cases z : c = n + 1
              · rw [z, eh] at q; exact absurd q.1 (by decide)
              · exact q0 c (by omega) ⟨q.1, (any1 c (by omega)).mp q.2⟩
            simp [e1]
end Lk18
set_option maxHeartbeats 8000000
namespace Lk18
open PySem PySem.Spec PyProof.Rows L2 SC
variable [XCx]
/-! ### bodies, on trees -/
noncomputable def bd_in_box : DS := dRet (dCB (rBools fun l => l.all id) (dCons (dComp (dZip (dVar 1) (dVar 0)) (dTg 2 (dGCons (dNm 2) (dGCons (dTg 2 (dGCons (dNm 3) (dGCons (dNm 4) (dGNil)))) (dGNil)))) (dYes) (dChain (dI0 fun i j => .bl (decide (i ≤ j))) (dI0 fun i j => .bl (decide (i ≤ j))) (dVar 3) (dVar 2) (dVar 4)) [2, 3, 4]) (dNil)))
noncomputable def bd_in_area : DS := dRet (dCB (rBools fun l => l.any id) (dCons (dComp (dSeq (dVar 0)) (dNm 2) (dYes) (dCall sp_in_box (dCons (dVar 2) (dCons (dVar 1) (dNil)))) [2]) (dNil)))
noncomputable def bd_marks : DS := dThen (dSet 2 (dLstO (dNil))) (dThen (dFor (dSeq (dVar 0)) (dNm 3) (dThen (dSet 4 (dAndV (dOp (dIn false) (dOp rIxD (dVar 3) (dC (.int 0))) (dC c_WITH_OTHER)) (dCall sp_in_area (dCons (dOp rIxD (dVar 3) (dC (.int 2))) (dCons (dVar 1) (dNil)))))) (dApp (dVar 2) (dTup (dCons (dCall sp_in_area (dCons (dOp rIxD (dVar 3) (dC (.int 1))) (dCons (dVar 1) (dNil)))) (dCons (dVar 4) (dNil))))))) (dRet (dUn rTupX (dVar 2))))
noncomputable def bd_ahead_count : DS := dThen (dIf (dB (dVar 0)) (dRet (dC (.int 1))) (dSkip)) (dRet (dIfE (dB (dVar 1)) (dC .non) (dC (.int 0))))
noncomputable def bd_count_at_first : DS := dThen (dSet 3 (dOp rIxD (dVar 0) (dC (.int 0)))) (dThen (dIf (dB (dOp (dEqS fun r => r) (dVar 3) (dC (.str "never")))) (dRet (dIfE (dB (dVar 1)) (dC .non) (dC (.int 0)))) (dSkip)) (dThen (dIf (dB (dOp (dEqS fun r => r) (dVar 3) (dC (.str "within")))) (dRet (dIfE (dB (dVar 1)) (dUn (dU fun i => .int (-i)) (dC (.int 1))) (dC (.int 0)))) (dSkip)) (dThen (dIf (dB (dOp (dEqS fun r => r) (dVar 3) (dC (.str "answered")))) (dRet (dIfE (dAnd (dB (dVar 1)) (dNot (dB (dVar 2)))) (dC (.int 1)) (dC (.int 0)))) (dSkip)) (dThen (dIf (dB (dOp (dEqS fun r => r) (dVar 3) (dC (.str "ahead")))) (dRet (dCall sp_ahead_count (dCons (dVar 1) (dCons (dVar 2) (dNil))))) (dSkip)) (dRet (dIfE (dB (dVar 1)) (dC (.int 0)) (dC (.int 1))))))))
noncomputable def bd_unless_above : DS := dRet (dIfE (dB (dOp (dI0 fun i j => .bl (decide (j < i))) (dVar 0) (dVar 1))) (dC .non) (dVar 0))
noncomputable def bd_next_waiting : DS := dThen (dIf (dB (dVar 3)) (dRet (dC (.int 0))) (dSkip)) (dThen (dIf (dB (dOp (dI0 fun i j => .bl (decide (j < i))) (dVar 1) (dC (.int 0)))) (dRet (dCall sp_unless_above (dCons (dOp dAddA (dVar 1) (dC (.int 1))) (dCons (dOp rIxD (dVar 0) (dC (.int 3))) (dNil))))) (dSkip)) (dRet (dIfE (dB (dVar 2)) (dC (.int 1)) (dC (.int 0)))))
noncomputable def bd_next_count : DS := dThen (dSet 4 (dOp rIxD (dVar 0) (dC (.int 0)))) (dThen (dIf (dB (dOp (dIsN fun r => r) (dVar 1) (dC .non))) (dRet (dC .non)) (dSkip)) (dThen (dIf (dB (dOp (dEqS fun r => r) (dVar 4) (dC (.str "never")))) (dRet (dIfE (dB (dVar 2)) (dC .non) (dC (.int 0)))) (dSkip)) (dThen (dIf (dB (dOp (dEqS fun r => r) (dVar 4) (dC (.str "ahead")))) (dRet (dIfE (dB (dOp (dEqS fun r => r) (dVar 1) (dC (.int 1)))) (dC (.int 1)) (dCall sp_ahead_count (dCons (dVar 2) (dCons (dVar 3) (dNil)))))) (dSkip)) (dThen (dIf (dB (dOp (dEqS fun r => r) (dVar 4) (dC (.str "within")))) (dThen (dIf (dOr (dB (dVar 2)) (dB (dOp (dEqS fun r => r) (dVar 1) (dUn (dU fun i => .int (-i)) (dC (.int 1)))))) (dRet (dUn (dU fun i => .int (-i)) (dC (.int 1)))) (dSkip)) (dRet (dCall sp_unless_above (dCons (dOp dAddA (dVar 1) (dC (.int 1))) (dCons (dOp (dI0 fun i j => .int (i - j)) (dOp rIxD (dVar 0) (dC (.int 2))) (dC (.int 1))) (dNil)))))) (dSkip)) (dThen (dIf (dB (dOp (dEqS fun r => r) (dVar 4) (dC (.str "answered")))) (dRet (dCall sp_next_waiting (dCons (dVar 0) (dCons (dVar 1) (dCons (dVar 2) (dCons (dVar 3) (dNil))))))) (dSkip)) (dRet (dIfE (dB (dVar 2)) (dC (.int 0)) (dCall sp_unless_above (dCons (dOp dAddA (dVar 1) (dC (.int 1))) (dCons (dOp rIxD (dVar 0) (dC (.int 2))) (dNil)))))))))))
noncomputable def bd_begun_by : DS := dRet (dUn rTupD (dComp (dZip (dVar 0) (dVar 1)) (dTg 2 (dGCons (dNm 2) (dGCons (dTg 2 (dGCons (dNm 3) (dGCons (dNm 4) (dGNil)))) (dGNil)))) (dYes) (dCall sp_count_at_first (dCons (dVar 2) (dCons (dVar 3) (dCons (dVar 4) (dNil))))) [2, 3, 4]))
noncomputable def bd_counted_by : DS := dThen (dSet 3 (dLstO (dNil))) (dThen (dFor (dZip3 (dVar 0) (dVar 1) (dVar 2)) (dTg 3 (dGCons (dNm 4) (dGCons (dNm 5) (dGCons (dTg 2 (dGCons (dNm 6) (dGCons (dNm 7) (dGNil)))) (dGNil))))) (dApp (dVar 3) (dCall sp_next_count (dCons (dVar 4) (dCons (dVar 5) (dCons (dVar 6) (dCons (dVar 7) (dNil)))))))) (dRet (dUn rTupX (dVar 3))))
noncomputable def bd_begun : DS := dRet (dCall sp_begun_by (dCons (dVar 0) (dCons (dCall sp_marks (dCons (dVar 0) (dCons (dVar 1) (dNil)))) (dNil))))
noncomputable def bd_counted : DS := dRet (dCall sp_counted_by (dCons (dVar 0) (dCons (dVar 1) (dCons (dCall sp_marks (dCons (dVar 0) (dCons (dVar 2) (dNil)))) (dNil)))))
noncomputable def bd__law_hand : DS := dThen (dSet 1 (dComp (dSeq (dSl (dVar 0) (dPart0) (dPart (dC (.int 63))))) (dNm 2) (dYes) (dCB rAbsD (dCons (dCB rIntD (dCons (dVar 2) (dNil))) (dNil))) [2])) (dRet (dLstO (dCons (dVar 1) (dCons (dC (.int 0)) (dCons (dC (.int 0)) (dCons (dOp dAddA (dC (.int 181)) (dOp (dI CMul fun i j => .int (i * j)) (dC (.int 7)) (dCB rLenD (dCons (dVar 1) (dNil))))) (dCons (dC (.int 0)) (dNil))))))))
noncomputable def bd__law_draw : DS := dThen (dIf (dAnd (dB (dOp (dEqS fun r => r) (dOp rIxD (dVar 0) (dC (.int 2))) (dC (.int 0)))) (dB (dOp (dI0 fun i j => .bl (decide (i < j))) (dOp rIxD (dVar 0) (dC (.int 1))) (dCB rLenD (dCons (dOp rIxD (dVar 0) (dC (.int 0))) (dNil)))))) (dThen (dSet 3 (dOp rIxD (dOp rIxD (dVar 0) (dC (.int 0))) (dOp rIxD (dVar 0) (dC (.int 1))))) (dThen (dSetIx (dVar 0) (dC (.int 1)) (dOp dAddA (dOp rIxD (dVar 0) (dC (.int 1))) (dC (.int 1)))) (dThen (dSetIx (dVar 0) (dC (.int 3)) (dOp (dI (fun _ j => 0 < j) fun i j => .int (i % j)) (dCB rIntD (dCons (dOp dAddA (dOp dAddA (dOp (dI CMul fun i j => .int (i * j)) (dOp rIxD (dVar 0) (dC (.int 3))) (dC (.int 69621))) (dVar 3)) (dC (.int 97))) (dNil))) (dC (.int 2147483629)))) (dIf (dB (dOp (dI0 fun i j => .bl (decide (j ≤ i))) (dVar 3) (dOp (dI CPow fun i j => .int (i ^ j.toNat)) (dC (.int 10)) (dC (.int 18))))) (dSetIx (dVar 0) (dC (.int 2)) (dVar 3)) (dSkip))))) (dSkip)) (dThen (dIf (dB (dOp (dI0 fun i j => .bl (decide (j < i))) (dOp rIxD (dVar 0) (dC (.int 2))) (dC (.int 0)))) (dThen (dSet 4 (dOp (dI (fun _ j => 0 < j) fun i j => .int (i % j)) (dCB rIntD (dCons (dOp rIxD (dVar 0) (dC (.int 2))) (dNil))) (dVar 1))) (dThen (dSetIx (dVar 0) (dC (.int 2)) (dOp (dI CDiv fun i j => .int (i / j)) (dOp rIxD (dVar 0) (dC (.int 2))) (dVar 1))) (dRet (dVar 4)))) (dSkip)) (dThen (dSetIx (dVar 0) (dC (.int 4)) (dOp dAddA (dOp rIxD (dVar 0) (dC (.int 4))) (dC (.int 1)))) (dThen (dSet 2 (dOp (dI (fun _ j => 0 < j) fun i j => .int (i % j)) (dCB rIntD (dCons (dOp (dI CMul fun i j => .int (i * j)) (dCB rIntD (dCons (dOp dAddA (dOp rIxD (dVar 0) (dC (.int 3))) (dOp (dI CMul fun i j => .int (i * j)) (dC (.int 7919)) (dOp rIxD (dVar 0) (dC (.int 4))))) (dNil))) (dC (.int 48271))) (dNil))) (dC (.int 2147483647)))) (dThen (dSet 2 (dOp (dI (fun _ j => 0 < j) fun i j => .int (i % j)) (dCB rIntD (dCons (dOp (dI CMul fun i j => .int (i * j)) (dVar 2) (dOp dAddA (dOp (dI CDiv fun i j => .int (i / j)) (dVar 2) (dC (.int 1009))) (dC (.int 69621)))) (dNil))) (dC (.int 2147483647)))) (dThen (dSet 2 (dOp (dI (fun _ j => 0 < j) fun i j => .int (i % j)) (dCB rIntD (dCons (dOp (dI CMul fun i j => .int (i * j)) (dVar 2) (dOp dAddA (dOp (dI CDiv fun i j => .int (i / j)) (dVar 2) (dC (.int 2003))) (dC (.int 40692)))) (dNil))) (dC (.int 2147483399)))) (dRet (dOp (dI (fun _ j => 0 < j) fun i j => .int (i % j)) (dCB rIntD (dCons (dOp (dI CDiv fun i j => .int (i / j)) (dVar 2) (dC (.int 16))) (dNil))) (dVar 1))))))))
noncomputable def bd__law_some : DS := dRet (dOp rIxD (dVar 1) (dCall sp__law_draw (dCons (dVar 0) (dCons (dCB rLenD (dCons (dVar 1) (dNil))) (dNil)))))
noncomputable def bd__law_in : DS := dRet (dCB (rBools fun l => l.any id) (dCons (dComp (dSeq (dVar 0)) (dNm 2) (dYes) (dCB (rBools fun l => l.all id) (dCons (dComp (dZip (dVar 1) (dVar 2)) (dTg 2 (dGCons (dNm 3) (dGCons (dTg 2 (dGCons (dNm 4) (dGCons (dNm 5) (dGNil)))) (dGNil)))) (dYes) (dChain (dI0 fun i j => .bl (decide (i ≤ j))) (dI0 fun i j => .bl (decide (i ≤ j))) (dVar 4) (dVar 3) (dVar 5)) [3, 4, 5]) (dNil))) [2]) (dNil)))
noncomputable def bd__law_breaks : DS := dThen (dPar 4 5 (dCons (dOp rIxD (dVar 0) (dC (.int 0))) (dCons (dComp (dSeq (dSl (dVar 1) (dPart0) (dPart (dOp dAddA (dVar 2) (dC (.int 1)))))) (dNm 6) (dYes) (dCall sp__law_in (dCons (dOp rIxD (dVar 0) (dC (.int 1))) (dCons (dVar 6) (dNil)))) [6]) (dNil)))) (dThen (dIf (dB (dOp (dEqS fun r => r) (dVar 4) (dC (.str "never")))) (dRet (dOp rIxD (dVar 5) (dVar 2))) (dSkip)) (dThen (dIf (dB (dOp (dEqS fun r => r) (dVar 4) (dC (.str "within")))) (dRet (dAndV (dOp (dEqS fun r => r) (dVar 2) (dOp rIxD (dVar 0) (dC (.int 2)))) (dNotV (dCB (rBools fun l => l.any id) (dCons (dVar 5) (dNil)))))) (dSkip)) (dThen (dIf (dB (dOp (dEqS fun r => r) (dVar 4) (dC (.str "again")))) (dRet (dAndV (dOp (dI0 fun i j => .bl (decide (j ≤ i))) (dVar 2) (dOp rIxD (dVar 0) (dC (.int 2)))) (dNotV (dCB (rBools fun l => l.any id) (dCons (dSl (dVar 5) (dPart (dOp (dI0 fun i j => .int (i - j)) (dVar 2) (dOp rIxD (dVar 0) (dC (.int 2))))) (dPart0)) (dNil)))))) (dSkip)) (dThen (dSet 3 (dComp (dSeq (dSl (dVar 1) (dPart0) (dPart (dOp dAddA (dVar 2) (dC (.int 1)))))) (dNm 6) (dYes) (dCall sp__law_in (dCons (dOp rIxD (dVar 0) (dC (.int 2))) (dCons (dVar 6) (dNil)))) [6])) (dThen (dIf (dB (dOp (dEqS fun r => r) (dVar 4) (dC (.str "ahead")))) (dRet (dAndV (dOp rIxD (dVar 3) (dVar 2)) (dNotV (dCB (rBools fun l => l.any id) (dCons (dVar 5) (dNil)))))) (dSkip)) (dRet (dAndV (dOp (dI0 fun i j => .bl (decide (j ≤ i))) (dVar 2) (dOp rIxD (dVar 0) (dC (.int 3)))) (dAndV (dOp rIxD (dVar 5) (dOp (dI0 fun i j => .int (i - j)) (dVar 2) (dOp rIxD (dVar 0) (dC (.int 3))))) (dNotV (dCB (rBools fun l => l.any id) (dCons (dSl (dVar 3) (dPart (dOp (dI0 fun i j => .int (i - j)) (dVar 2) (dOp rIxD (dVar 0) (dC (.int 3))))) (dPart0)) (dNil))))))))))))
noncomputable def bd__law_box : DS := dThen (dSet 2 (dLstO (dNil))) (dThen (dFor (dRng1 (dVar 1)) (dNm 3) (dThen (dSet 4 (dCall sp__law_draw (dCons (dVar 0) (dCons (dC (.int 5)) (dNil))))) (dApp (dVar 2) (dTup (dCons (dVar 4) (dCons (dOp dAddA (dVar 4) (dCall sp__law_some (dCons (dVar 0) (dCons (dLst (dCons (dC (.int 0)) (dCons (dC (.int 0)) (dCons (dC (.int 0)) (dCons (dC (.int 1)) (dCons (dC (.int 2)) (dNil))))))) (dNil))))) (dNil))))))) (dRet (dUn rTupX (dVar 2))))
noncomputable def bd__law_area : DS := dRet (dUn rTupD (dComp (dRng1 (dCall sp__law_some (dCons (dVar 0) (dCons (dLst (dCons (dC (.int 1)) (dCons (dC (.int 1)) (dCons (dC (.int 1)) (dCons (dC (.int 2)) (dCons (dC (.int 3)) (dCons (dC (.int 6)) (dCons (dC (.int 0)) (dNil))))))))) (dNil))))) (dNm 2) (dYes) (dCall sp__law_box (dCons (dVar 0) (dCons (dVar 1) (dNil)))) [2]))
noncomputable def bd__law_wish : DS := dThen (dPar3 3 4 5 (dCons (dCall sp__law_area (dCons (dVar 0) (dCons (dVar 1) (dNil)))) (dCons (dCall sp__law_area (dCons (dVar 0) (dCons (dVar 1) (dNil)))) (dCons (dCall sp__law_some (dCons (dVar 0) (dCons (dLst (dCons (dC (.int 1)) (dCons (dC (.int 1)) (dCons (dC (.int 2)) (dCons (dC (.int 2)) (dCons (dC (.int 3)) (dCons (dC (.int 4)) (dCons (dC (.int 7)) (dCons (dC (.int 30)) (dNil)))))))))) (dNil)))) (dNil))))) (dThen (dSet 2 (dLst (dCons (dTup (dCons (dC (.str "never")) (dCons (dVar 3) (dNil)))) (dCons (dTup (dCons (dC (.str "within")) (dCons (dVar 3) (dCons (dVar 5) (dNil))))) (dCons (dTup (dCons (dC (.str "answered")) (dCons (dVar 3) (dCons (dVar 4) (dCons (dVar 5) (dNil)))))) (dCons (dTup (dCons (dC (.str "ahead")) (dCons (dVar 3) (dCons (dVar 4) (dNil))))) (dCons (dTup (dCons (dC (.str "again")) (dCons (dVar 3) (dCons (dVar 5) (dNil))))) (dNil)))))))) (dRet (dCall sp__law_some (dCons (dVar 0) (dCons (dVar 2) (dNil))))))
noncomputable def bd__law_places : DS := dThen (dSet 3 (dUn rTupD (dComp (dRng1 (dVar 1)) (dNm 6) (dYes) (dCall sp__law_draw (dCons (dVar 0) (dCons (dC (.int 6)) (dNil)))) [6]))) (dThen (dSet 4 (dLstO (dCons (dVar 3) (dNil)))) (dThen (dFor (dRng1 (dVar 2)) (dNm 5) (dThen (dIf (dB (dOp (dI0 fun i j => .bl (decide (j < i))) (dCall sp__law_draw (dCons (dVar 0) (dCons (dC (.int 3)) (dNil)))) (dC (.int 0)))) (dSet 3 (dUn rTupD (dComp (dSeq (dVar 3)) (dNm 7) (dYes) (dCB (rTwo fun i j => if j > i then j else i) (dCons (dC (.int 0)) (dCons (dCB (rTwo fun i j => if j < i then j else i) (dCons (dC (.int 6)) (dCons (dOp (dI0 fun i j => .int (i - j)) (dOp dAddA (dVar 7) (dCall sp__law_draw (dCons (dVar 0) (dCons (dC (.int 3)) (dNil))))) (dC (.int 1))) (dNil)))) (dNil)))) [7]))) (dSkip)) (dApp (dVar 4) (dVar 3)))) (dRet (dFrz (dVar 4)))))
noncomputable def bd__law_count : DS := dThen (dIf (dB (dCB (rBools fun l => l.any id) (dCons (dComp (dRng1 (dOp dAddA (dVar 2) (dC (.int 1)))) (dNm 9) (dYes) (dCall sp__law_breaks (dCons (dVar 0) (dCons (dVar 1) (dCons (dVar 9) (dNil))))) [9]) (dNil)))) (dRet (dC .non)) (dSkip)) (dThen (dAsg (dTup (dCons (dOp rIxD (dVar 0) (dC (.int 0))) (dCons (dComp (dSeq (dSl (dVar 1) (dPart0) (dPart (dOp dAddA (dVar 2) (dC (.int 1)))))) (dNm 8) (dYes) (dCall sp__law_in (dCons (dOp rIxD (dVar 0) (dC (.int 1))) (dCons (dVar 8) (dNil)))) [8]) (dNil)))) (dTg 2 (dGCons (dNm 5) (dGCons (dNm 6) (dGNil))))) (dThen (dIf (dB (dOp (dEqS fun r => r) (dVar 5) (dC (.str "never")))) (dRet (dC (.int 0))) (dSkip)) (dThen (dIf (dB (dOp (dEqS fun r => r) (dVar 5) (dC (.str "within")))) (dRet (dIfE (dB (dCB (rBools fun l => l.any id) (dCons (dVar 6) (dNil)))) (dUn (dU fun i => .int (-i)) (dC (.int 1))) (dVar 2))) (dSkip)) (dThen (dIf (dB (dOp (dEqS fun r => r) (dVar 5) (dC (.str "ahead")))) (dRet (dCB rIntD (dCons (dCB (rBools fun l => l.any id) (dCons (dVar 6) (dNil))) (dNil)))) (dSkip)) (dThen (dIf (dB (dOp (dEqS fun r => r) (dVar 5) (dC (.str "again")))) (dThen (dSet 7 (dC (.int 0))) (dThen (dWhile (dAnd (dB (dOp (dI0 fun i j => .bl (decide (i ≤ j))) (dVar 7) (dVar 2))) (dNot (dB (dOp rIxD (dVar 6) (dOp (dI0 fun i j => .int (i - j)) (dVar 2) (dVar 7)))))) (dSet 7 (dOp dAddA (dVar 7) (dC (.int 1))))) (dRet (dVar 7)))) (dSkip)) (dThen (dSet 3 (dComp (dSeq (dSl (dVar 1) (dPart0) (dPart (dOp dAddA (dVar 2) (dC (.int 1)))))) (dNm 8) (dYes) (dCall sp__law_in (dCons (dOp rIxD (dVar 0) (dC (.int 2))) (dCons (dVar 8) (dNil)))) [8])) (dThen (dSet 4 (dComp (dRng1 (dOp dAddA (dVar 2) (dC (.int 1)))) (dNm 9) (dAnd (dB (dOp rIxD (dVar 6) (dVar 9))) (dNot (dB (dCB (rBools fun l => l.any id) (dCons (dSl (dVar 3) (dPart (dVar 9)) (dPart0)) (dNil)))))) (dVar 9) [9])) (dRet (dIfE (dB (dOp (dI0 fun i j => .bl (decide (j < i))) (dCB rLenD (dCons (dVar 4) (dNil))) (dC (.int 0)))) (dOp dAddA (dOp (dI0 fun i j => .int (i - j)) (dVar 2) (dOp rIxD (dVar 4) (dC (.int 0)))) (dC (.int 1))) (dC (.int 0)))))))))))
noncomputable def bd__law_is : DS := dThen (dIf (dOr (dNot (dB (dCB rIsiD (dCons (dVar 0) (dCons (dC (.ty "tuple")) (dNil)))))) (dB (dOp (dEqS fun r => !r) (dCB rLenD (dCons (dVar 0) (dNil))) (dCB rLenD (dCons (dVar 1) (dNil)))))) (dRet (dC (.bl false))) (dSkip)) (dThen (dFor (dZip (dVar 0) (dVar 1)) (dTg 2 (dGCons (dNm 2) (dGCons (dNm 3) (dGNil)))) (dIf (dOr (dB (dOp (dIsN fun r => r) (dVar 2) (dC .non))) (dB (dOp (dIsN fun r => r) (dVar 3) (dC .non)))) (dIf (dOr (dB (dOp (dIsN fun r => !r) (dVar 2) (dC .non))) (dB (dOp (dIsN fun r => !r) (dVar 3) (dC .non)))) (dRet (dC (.bl false))) (dSkip)) (dIf (dOr (dB (dCB rIsiD (dCons (dVar 2) (dCons (dC (.ty "bool")) (dNil))))) (dOr (dNot (dB (dCB rIsiD (dCons (dVar 2) (dCons (dC (.ty "int")) (dNil)))))) (dB (dOp (dEqS fun r => !r) (dVar 2) (dVar 3))))) (dRet (dC (.bl false))) (dSkip)))) (dRet (dC (.bl true))))
noncomputable def bd__law_is_walk_right : DS := dThen (dSet 2 (dComp (dRng1 (dCB rLenD (dCons (dVar 1) (dNil)))) (dNm 3) (dYes) (dUn rTupD (dComp (dSeq (dVar 0)) (dNm 4) (dYes) (dCall sp__law_count (dCons (dVar 4) (dCons (dVar 1) (dCons (dVar 3) (dNil))))) [4])) [3])) (dThen (dIf (dNot (dB (dCall sp__law_is (dCons (dCall sp_begun (dCons (dVar 0) (dCons (dOp rIxD (dVar 1) (dC (.int 0))) (dNil)))) (dCons (dOp rIxD (dVar 2) (dC (.int 0))) (dNil)))))) (dRet (dC (.bl false))) (dSkip)) (dThen (dFor (dRng2 (dC (.int 1)) (dCB rLenD (dCons (dVar 1) (dNil)))) (dNm 3) (dIf (dNot (dB (dCall sp__law_is (dCons (dCall sp_counted (dCons (dVar 0) (dCons (dOp rIxD (dVar 2) (dOp (dI0 fun i j => .int (i - j)) (dVar 3) (dC (.int 1)))) (dCons (dOp rIxD (dVar 1) (dVar 3)) (dNil))))) (dCons (dOp rIxD (dVar 2) (dVar 3)) (dNil)))))) (dRet (dC (.bl false))) (dSkip))) (dRet (dC (.bl true)))))
noncomputable def bd__law_are_known_right : DS := dThen (dSet 0 (dLst (dCons (dTup (dCons (dC (.int 0)) (dNil))) (dCons (dTup (dCons (dC (.int 1)) (dNil))) (dCons (dTup (dCons (dC (.int 1)) (dNil))) (dCons (dTup (dCons (dC (.int 2)) (dNil))) (dCons (dTup (dCons (dC (.int 0)) (dNil))) (dCons (dTup (dCons (dC (.int 1)) (dNil))) (dCons (dTup (dCons (dC (.int 1)) (dNil))) (dCons (dTup (dCons (dC (.int 1)) (dNil))) (dNil))))))))))) (dThen (dAsg (dTup (dCons (dTup (dCons (dTup (dCons (dTup (dCons (dC (.int 1)) (dCons (dC (.int 1)) (dNil)))) (dNil))) (dNil))) (dCons (dTup (dCons (dTup (dCons (dTup (dCons (dC (.int 2)) (dCons (dC (.int 2)) (dNil)))) (dNil))) (dNil))) (dNil)))) (dTg 2 (dGCons (dNm 3) (dGCons (dNm 4) (dGNil))))) (dThen (dSet 1 (dTup (dCons (dTup (dCons (dC (.str "answered")) (dCons (dVar 3) (dCons (dVar 4) (dCons (dC (.int 2)) (dNil)))))) (dCons (dTup (dCons (dC (.str "answered")) (dCons (dVar 3) (dCons (dVar 4) (dCons (dC (.int 3)) (dNil)))))) (dCons (dTup (dCons (dC (.str "within")) (dCons (dVar 4) (dCons (dC (.int 3)) (dNil))))) (dCons (dTup (dCons (dC (.str "again")) (dCons (dVar 4) (dCons (dC (.int 3)) (dNil))))) (dNil))))))) (dThen (dSet 2 (dTup (dCons (dTup (dCons (dC (.str "ahead")) (dCons (dVar 3) (dCons (dVar 4) (dNil))))) (dCons (dTup (dCons (dC (.str "ahead")) (dCons (dVar 4) (dCons (dVar 3) (dNil))))) (dCons (dTup (dCons (dC (.str "never")) (dCons (dTup (dCons (dTup (dCons (dTup (dCons (dC (.int 7)) (dCons (dC (.int 9)) (dNil)))) (dNil))) (dNil))) (dNil)))) (dCons (dTup (dCons (dC (.str "within")) (dCons (dTup (dCons (dTup (dCons (dTup (dCons (dC (.int 5)) (dCons (dC (.int 5)) (dNil)))) (dNil))) (dNil))) (dCons (dC (.int 30)) (dNil))))) (dNil))))))) (dThen (dIf (dOr (dNot (dB (dCall sp__law_is (dCons (dCall sp_begun (dCons (dVar 1) (dCons (dTup (dCons (dC (.int 2)) (dNil))) (dNil)))) (dCons (dTup (dCons (dC (.int 0)) (dCons (dC (.int 0)) (dCons (dUn (dU fun i => .int (-i)) (dC (.int 1))) (dCons (dC (.int 0)) (dNil)))))) (dNil)))))) (dNot (dB (dCall sp__law_is (dCons (dCall sp_begun (dCons (dVar 2) (dCons (dTup (dCons (dC (.int 2)) (dNil))) (dNil)))) (dCons (dTup (dCons (dC .non) (dCons (dC (.int 1)) (dCons (dC (.int 0)) (dCons (dC (.int 0)) (dNil)))))) (dNil))))))) (dRet (dC (.bl false))) (dSkip)) (dRet (dAndV (dCall sp__law_is_walk_right (dCons (dVar 1) (dCons (dVar 0) (dNil)))) (dAndV (dCall sp__law_is_walk_right (dCons (dVar 2) (dCons (dVar 0) (dNil)))) (dCall sp__law_is_walk_right (dCons (dTup (dNil)) (dCons (dVar 0) (dNil)))))))))))
noncomputable def bd_law : DS := dThen (dSet 1 (dCall sp__law_hand (dCons (dVar 0) (dNil)))) (dThen (dIf (dNot (dB (dCall sp__law_are_known_right dNil))) (dRet (dC (.bl false))) (dSkip)) (dThen (dFor (dRng1 (dC (.int 4))) (dNm 2) (dThen (dSet 3 (dOp dAddA (dC (.int 1)) (dCall sp__law_draw (dCons (dVar 1) (dCons (dC (.int 3)) (dNil)))))) (dThen (dSet 4 (dUn rTupD (dComp (dRng1 (dCall sp__law_some (dCons (dVar 1) (dCons (dLst (dCons (dC (.int 1)) (dCons (dC (.int 2)) (dCons (dC (.int 4)) (dNil))))) (dNil))))) (dNm 5) (dYes) (dCall sp__law_wish (dCons (dVar 1) (dCons (dVar 3) (dNil)))) [5]))) (dIf (dNot (dB (dCall sp__law_is_walk_right (dCons (dVar 4) (dCons (dCall sp__law_places (dCons (dVar 1) (dCons (dVar 3) (dCons (dCall sp__law_some (dCons (dVar 1) (dCons (dLst (dCons (dC (.int 0)) (dCons (dC (.int 3)) (dCons (dC (.int 9)) (dCons (dC (.int 18)) (dNil)))))) (dNil)))) (dNil))))) (dNil)))))) (dRet (dC (.bl false))) (dSkip))))) (dRet (dC (.bl true)))))
end Lk18
namespace Lk18
open PySem PySem.Spec PyProof.Rows L2 SC
variable [XCx]
local macro_rules | `(tactic| walk_at "sc") => `(tactic| simp only [dThen, dSet, dRet, dCall, dCons, dNil, dVar, dC, dCB, dComp, dZip, dSeq, dOp, dIf, dB, dIfE, dNot, dAnd, dOr, dAndV, dOrV, dNotV, dSkip, dExpr, dFor, dApp, dTup, dLst, dLstO, dUn, dPar, dPar3, dAsg, dFrz, frzD, dSetIx, dSl, dPart, dPart0, dRng1, dRng2, dZip3, dEnum, dChain, dNm, dTg, dGCons, dGNil, dYes, dI0, dI, dU, dEqS, eqS, dIsN, isNon, dAddA, dIn, rIxD, rLenD, rBools, rAbsD, rIntD, rTwo, rTupD, rTupX, rIsiD, tyD,
  startD, List.map_cons, List.map_nil, List.length_cons, List.length_nil, Nat.reduceAdd, Nat.reduceSub, List.replicate_succ, List.replicate_zero, List.cons_append, List.nil_append, List.append_nil,
  List.getElem?_cons_zero, List.getElem?_cons_succ, List.set_cons_zero, List.set_cons_succ, wipeD, atI_0, atI_1, atI_2, atI_3, atI_4, oset_same, true_and, and_true])
theorem rd_in_box : ∀ ds O (kk : D → OH → Prop), sp_in_box ds O kk → bd_in_box { nx := fun _ O' => kk .non O', rt := kk } (startD ["box", "place", "item", "low", "high"] ds) O := by
  rintro ds O kk ⟨b, p, rfl, hb, hp, h⟩
  unfold bd_in_box boxD rowD
  walk_at "sc"
  rw [pairsD_map]
  unfold okB at hb
  refine ⟨small_len (by rw [List.length_map, List.length_zip]; omega), dAcc_map _ (fun q => .bl (decide (q.2.1 ≤ q.1) && decide (q.1 ≤ q.2.2))) _ _ _ (fun q _ O k' h' => ?_) ?_⟩
  · unfold pairD
    walk_at "sc"
    revert h'
    cases decide (q.2.1 ≤ q.1) with
    | true => exact fun h' => h'
    | false => exact fun h' => h'
  · rw [List.nil_append, boolsD_map']
    show kk (.bl (((p.zip b).map _).all id)) O
    rw [List.all_map]
    exact h
theorem rd_in_area : ∀ ds O (kk : D → OH → Prop), sp_in_area ds O kk → bd_in_area { nx := fun _ O' => kk .non O', rt := kk } (startD ["area", "place", "box"] ds) O := by
  rintro ds O kk ⟨a, p, rfl, ⟨ha, hb⟩, hp, h⟩
  unfold bd_in_area areaD
  walk_at "sc"
  refine ⟨small_len (by rw [List.length_map]; omega), dAcc_map _ (fun b => .bl (inBox b p)) _ _ _ (fun b hm O k' h' => ?_) ?_⟩
  · walk_at "sc"
    exact ⟨b, p, rfl, hb b hm, hp, h'⟩
  · rw [List.nil_append, boolsD_map']
    show kk (.bl ((a.map _).any id)) O
    rw [List.any_map]
    exact h
theorem rd_ahead_count : ∀ ds O (kk : D → OH → Prop), sp_ahead_count ds O kk → bd_ahead_count { nx := fun _ O' => kk .non O', rt := kk } (startD ["inside", "other"] ds) O := by
  rintro ds O kk ⟨i, o, rfl, h⟩
  unfold bd_ahead_count
  walk_at "sc"
  cases i <;> cases o <;> exact h
theorem rd_unless_above : ∀ ds O (kk : D → OH → Prop), sp_unless_above ds O kk → bd_unless_above { nx := fun _ O' => kk .non O', rt := kk } (startD ["count", "most"] ds) O := by
  rintro ds O kk ⟨c, m, rfl, h⟩
  unfold bd_unless_above
  walk_at "sc"
  unfold unlessC at h
  by_cases z : m < c
  · rw [if_pos z] at h; rw [decide_eq_true z]; exact h
  · rw [if_neg z] at h; rw [decide_eq_false z]; exact h
theorem rd_next_waiting : ∀ ds O (kk : D → OH → Prop), sp_next_waiting ds O kk → bd_next_waiting { nx := fun _ O' => kk .non O', rt := kk } (startD ["wish", "count", "inside", "other"] ds) O := by
  rintro ds O kk ⟨a, b, k, c, i, o, rfl, h⟩
  unfold bd_next_waiting W.d
  walk_at "sc"
  simp only [nextC] at h
  cases o with
  | true => exact h
  | false =>
    simp only [Bool.false_eq_true, if_false] at h
    by_cases z : 0 < c
    · rw [if_pos z] at h; rw [decide_eq_true z]; exact ⟨_, _, rfl, h⟩
    · rw [if_neg z] at h; rw [decide_eq_false z]; cases i <;> exact h
theorem sne : strEq "never" "within" = false ∧ strEq "never" "answered" = false ∧ strEq "never" "ahead" = false ∧ strEq "never" "again" = false ∧ strEq "within" "never" = false ∧ strEq "within" "answered" = false ∧ strEq "within" "ahead" = false ∧ strEq "within" "again" = false ∧ strEq "answered" "never" = false ∧ strEq "answered" "within" = false ∧ strEq "answered" "ahead" = false ∧ strEq "answered" "again" = false ∧ strEq "ahead" "never" = false ∧ strEq "ahead" "within" = false ∧ strEq "ahead" "answered" = false ∧ strEq "ahead" "again" = false ∧ strEq "again" "never" = false ∧ strEq "again" "within" = false ∧ strEq "again" "answered" = false ∧ strEq "again" "ahead" = false := by
  simp only [strEq_eq]
  decide +kernel
theorem rd_count_at_first : ∀ ds O (kk : D → OH → Prop), sp_count_at_first ds O kk → bd_count_at_first { nx := fun _ O' => kk .non O', rt := kk } (startD ["wish", "inside", "other", "word"] ds) O := by
  rintro ds O kk ⟨w, i, o, rfl, h⟩
  unfold bd_count_at_first
  cases w <;> unfold W.d <;> walk_at "sc" <;> simp only [sne, strEq_self] <;> simp only [firstC] at h
  · cases i <;> exact h
  · cases i <;> exact h
  · cases i <;> cases o <;> exact h
  · exact ⟨i, o, rfl, h⟩
  · cases i <;> exact h
theorem rd_next_count : ∀ ds O (kk : D → OH → Prop), sp_next_count ds O kk → bd_next_count { nx := fun _ O' => kk .non O', rt := kk } (startD ["wish", "count", "inside", "other", "word"] ds) O := by
  rintro ds O kk ⟨w, c, i, o, rfl, h⟩
  unfold bd_next_count
  cases c with
  | none =>
    cases w <;> unfold W.d cD <;> walk_at "sc" <;> exact h
  | some c =>
    cases w with
    | never a =>
      unfold W.d cD
      walk_at "sc"
      simp only [sne, strEq_self]
      simp only [nextC] at h
      cases i <;> exact h
    | within a k =>
      unfold W.d cD
      walk_at "sc"
      simp only [sne, strEq_self]
      simp only [nextC] at h
      cases i with
      | true => exact h
      | false =>
        simp only [Bool.false_or] at h ⊢
        by_cases z : c = -1
        · rw [decide_eq_true z] at h ⊢; exact h
        · rw [decide_eq_false z] at h ⊢; exact ⟨_, _, rfl, h⟩
    | answered a b k =>
      unfold cD
      have hd : (W.answered a b k).d = .tup [.str "answered", areaD a, areaD b, .int k] := rfl
      rw [hd]
      walk_at "sc"
      simp only [sne, strEq_self]
      exact ⟨a, b, k, c, i, o, rfl, h⟩
    | ahead a b =>
      unfold W.d cD
      walk_at "sc"
      simp only [sne, strEq_self]
      simp only [nextC] at h
      by_cases z : c = 1
      · rw [if_pos z] at h; rw [decide_eq_true z]; exact h
      · rw [if_neg z] at h; rw [decide_eq_false z]; exact ⟨i, o, rfl, h⟩
    | again a k =>
      unfold W.d cD
      walk_at "sc"
      simp only [sne, strEq_self]
      simp only [nextC] at h
      cases i with
      | true => exact h
      | false => exact ⟨_, _, rfl, h⟩
end Lk18
namespace Lk18
open PySem PySem.Spec PyProof.Rows L2 SC
variable [XCx]
local macro_rules | `(tactic| walk_at "sc") => `(tactic| simp only [dThen, dSet, dRet, dCall, dCons, dNil, dVar, dC, dCB, dComp, dZip, dSeq, dOp, dIf, dB, dIfE, dNot, dAnd, dOr, dAndV, dOrV, dNotV, dSkip, dExpr, dFor, dApp, dTup, dLst, dLstO, dUn, dPar, dPar3, dAsg, dFrz, frzD, dSetIx, dSl, dPart, dPart0, dRng1, dRng2, dZip3, dEnum, dChain, dNm, dTg, dGCons, dGNil, dYes, dI0, dI, dU, dEqS, eqS, dIsN, isNon, dAddA, dIn, rIxD, rLenD, rBools, rAbsD, rIntD, rTwo, rTupD, rTupX, rIsiD, tyD,
  startD, List.map_cons, List.map_nil, List.length_cons, List.length_nil, Nat.reduceAdd, Nat.reduceSub, List.replicate_succ, List.replicate_zero, List.cons_append, List.nil_append, List.append_nil,
  List.getElem?_cons_zero, List.getElem?_cons_succ, List.set_cons_zero, List.set_cons_succ, wipeD, atI_0, atI_1, atI_2, atI_3, atI_4, oset_same, true_and, and_true])
local macro_rules | `(tactic| walk_at "in") => `(tactic| simp only [c_WITH_OTHER, List.map_cons, List.map_nil, flatF, eqF, sne, strEq_self, List.all_cons, List.all_nil, List.any_cons, List.any_nil, Bool.and_self, Bool.or_self, Bool.or_true, Bool.true_or, Bool.or_false, Bool.false_or, Bool.false_eq_true, if_false, true_and])
/-- an own list grows by what each turn gives -/
theorem rd_marks : ∀ ds O (kk : D → OH → Prop), sp_marks ds O kk → bd_marks { nx := fun _ O' => kk .non O', rt := kk } (startD ["wishes", "place", "found", "wish", "other"] ds) O := by
  rintro ds O kk ⟨ws, p, rfl, hl, hok, hp, h⟩
  unfold bd_marks
  walk_at "sc"
  refine ⟨Nat.zero_le _, fun q nq => ?_⟩
  refine dLoop_ind W.d (fun rest e O' => ∃ done x y, done ++ rest = ws ∧ e = [some (.tup (ws.map W.d)), some (rowD p), some (.own q), x, y] ∧ O' = oset O q (done.map (markD p))) ?_ ?_ ws _ _ ⟨[], none, none, rfl, rfl, rfl⟩
  · rintro w rest e O' ⟨done, x, y, e1, rfl, rfl⟩ nx hn
    have hw : w.ok := hok w (by rw [← e1]; simp)
    have len : (List.map (markD p) done).length < sizeLine := lt_len (by
      have := congrArg List.length e1
      simp only [List.length_append, List.length_cons] at this
      rw [List.length_map]; omega)
    have fin : ∀ d, some d = some w.d → ∀ b, b = w.oth p → nx [some (.tup (ws.map W.d)), some (rowD p), some (.own q), some d, some (.bl b)] (oset (oset O q (done.map (markD p))) q (done.map (markD p) ++ [.tup [.bl (inArea w.a p), .bl b]])) := by
      rintro d hd b rfl
      cases hd
      refine hn _ _ ⟨done ++ [w], _, _, by rw [← e1]; simp, rfl, ?_⟩
      rw [oset_oset, List.map_append]; rfl
    cases w with
    | never a =>
      simp only [d1] at fin ⊢
      walk_at "sc"
      walk_at "in"
      refine ⟨a, p, rfl, hw, hp, small_len (by simp), ?_⟩
      rw [oset_same]
      exact ⟨len, fin _ rfl _ rfl⟩
    | within a k =>
      simp only [d2] at fin ⊢
      walk_at "sc"
      walk_at "in"
      refine ⟨a, p, rfl, hw.1, hp, small_len (by simp), ?_⟩
      rw [oset_same]
      exact ⟨len, fin _ rfl _ rfl⟩
    | again a k =>
      simp only [d5] at fin ⊢
      walk_at "sc"
      walk_at "in"
      refine ⟨a, p, rfl, hw.1, hp, small_len (by simp), ?_⟩
      rw [oset_same]
      exact ⟨len, fin _ rfl _ rfl⟩
    | answered a b k =>
      simp only [d3] at fin ⊢
      walk_at "sc"
      walk_at "in"
      refine ⟨b, p, rfl, hw.2.1, hp, ?_⟩
      simp only [oset_same]
      refine ⟨a, p, rfl, hw.1, hp, small_len (by simp), ?_⟩
      simp only [oset_same]
      exact ⟨len, fin _ rfl _ rfl⟩
    | ahead a b =>
      simp only [d4] at fin ⊢
      walk_at "sc"
      walk_at "in"
      refine ⟨b, p, rfl, hw.2, hp, ?_⟩
      simp only [oset_same]
      refine ⟨a, p, rfl, hw.1, hp, small_len (by simp), ?_⟩
      simp only [oset_same]
      exact ⟨len, fin _ rfl _ rfl⟩
  · rintro e O' ⟨done, x, y, e1, rfl, rfl⟩
    rw [List.append_nil] at e1
    subst e1
    walk_at "sc"
    rw [odel_oset nq]
    exact h
theorem rd_begun_by : ∀ ds O (kk : D → OH → Prop), sp_begun_by ds O kk → bd_begun_by { nx := fun _ O' => kk .non O', rt := kk } (startD ["wishes", "marked", "wish", "inside", "other"] ds) O := by
  rintro ds O kk ⟨ws, p, rfl, hl, h⟩
  unfold bd_begun_by
  walk_at "sc"
  have z : pairsD (ws.map W.d) (ws.map (markD p)) = ws.map fun w => .tup [w.d, markD p w] := by
    clear h hl
    induction ws with
    | nil => rfl
    | cons w ws ih => show _ :: pairsD _ _ = _ :: _; rw [ih]
  rw [z]
  refine ⟨small_len (by rw [List.length_map]; omega), dAcc_map _ (fun w => cD (firstC w (inArea w.a p) (w.oth p))) _ _ _ (fun w _ O k' h' => ?_) ?_⟩
  · unfold markD
    walk_at "sc"
    exact ⟨w, _, _, rfl, h'⟩
  · rw [List.nil_append]
    unfold begunC at h
    rw [List.map_map] at h
    exact h
theorem md {p : Row} {w : W} : markD p w = .tup [.bl (inArea w.a p), .bl (w.oth p)] := rfl
theorem trip_ws (p : Row) : ∀ (ws : List W) (cs : List (Option Int)), trip (ws.map W.d) (cs.map cD) (ws.map (markD p)) = (ws.zip cs).map fun q => .tup [q.1.d, cD q.2, markD p q.1]
  | [], _ => by simp [trip]
  | w :: ws, [] => by simp [trip]
  | w :: ws, c :: cs => by simp [trip, trip_ws p ws cs]
theorem counted_zip (p : Row) : ∀ (ws : List W) (cs : List (Option Int)), countedC ws cs p = (ws.zip cs).map fun q => nextC q.1 q.2 (inArea q.1.a p) (q.1.oth p)
  | [], _ => by simp [countedC]
  | w :: ws, [] => by simp [countedC]
  | w :: ws, c :: cs => by simp [countedC, counted_zip p ws cs]
theorem rd_counted_by : ∀ ds O (kk : D → OH → Prop), sp_counted_by ds O kk → bd_counted_by { nx := fun _ O' => kk .non O', rt := kk } (startD ["wishes", "counts", "marked", "found", "wish", "count", "inside", "other"] ds) O := by
  rintro ds O kk ⟨ws, cs, p, rfl, hl, hc, h⟩
  unfold bd_counted_by
  walk_at "sc"
  refine ⟨Nat.zero_le _, fun q nq => ⟨⟨by simp [hc], by simp⟩, ?_⟩⟩
  rw [trip_ws]
  refine dLoop_ind _ (fun rest e O' => ∃ done x y z w, done ++ rest = ws.zip cs ∧ e = [some (.tup (ws.map W.d)), some (.tup (cs.map cD)), some (.tup (ws.map (markD p))), some (.own q), x, y, z, w] ∧ O' = oset O q (done.map fun q => cD (nextC q.1 q.2 (inArea q.1.a p) (q.1.oth p)))) ?_ ?_ (ws.zip cs) _ _ ⟨[], none, none, none, none, rfl, rfl, rfl⟩
  · rintro ⟨w, c⟩ rest e O' ⟨done, x, y, z, u, e1, rfl, rfl⟩ nx hn
    simp only [md]
    walk_at "sc"
    refine ⟨w, c, _, _, rfl, ?_⟩
    simp only [oset_same]
    refine ⟨lt_len ?_, hn _ _ ⟨done ++ [(w, c)], _, _, _, _, by rw [← e1]; simp, rfl, ?_⟩⟩
    · have := congrArg List.length e1
      simp only [List.length_append, List.length_cons, List.length_zip] at this
      rw [List.length_map]; omega
    · rw [oset_oset, List.map_append]; rfl
  · rintro e O' ⟨done, x, y, z, u, e1, rfl, rfl⟩
    rw [List.append_nil] at e1
    subst e1
    walk_at "sc"
    rw [odel_oset nq]
    rw [counted_zip, List.map_map] at h
    exact h
theorem rd_begun : ∀ ds O (kk : D → OH → Prop), sp_begun ds O kk → bd_begun { nx := fun _ O' => kk .non O', rt := kk } (startD ["wishes", "place"] ds) O := by
  rintro ds O kk ⟨ws, p, rfl, hl, hok, hp, h⟩
  unfold bd_begun
  walk_at "sc"
  exact ⟨ws, p, rfl, hl, hok, hp, ws, p, rfl, hl, h⟩
theorem rd_counted : ∀ ds O (kk : D → OH → Prop), sp_counted ds O kk → bd_counted { nx := fun _ O' => kk .non O', rt := kk } (startD ["wishes", "counts", "place"] ds) O := by
  rintro ds O kk ⟨ws, cs, p, rfl, hl, hok, hp, hc, h⟩
  unfold bd_counted
  walk_at "sc"
  exact ⟨ws, p, rfl, hl, hok, hp, ws, cs, p, rfl, hl, hc, h⟩
end Lk18
namespace Lk19
open PySem PySem.Spec PyProof.Rows L2 SC
/-! ### data -/
abbrev Box := List (Int × Int)
abbrev Area := List Box
abbrev Row := List Int
def pairD (q : Int × Int) : D := .tup [.int q.1, .int q.2]
def boxD (b : Box) : D := .tup (b.map pairD)
def areaD (a : Area) : D := .tup (a.map boxD)
def rowD (p : Row) : D := .tup (p.map .int)
inductive W where
  | never (a : Area) | within (a : Area) (k : Int) | answered (a b : Area) (k : Int) | ahead (a b : Area) | again (a : Area) (k : Int)
def W.d : W → D
  | .never a => .tup [.str "never", areaD a]
  | .within a k => .tup [.str "within", areaD a, .int k]
  | .answered a b k => .tup [.str "answered", areaD a, areaD b, .int k]
  | .ahead a b => .tup [.str "ahead", areaD a, areaD b]
  | .again a k => .tup [.str "again", areaD a, .int k]
theorem d1 {a : Area} : (W.never a).d = .tup [.str "never", areaD a] := rfl
theorem d2 {a : Area} {k : Int} : (W.within a k).d = .tup [.str "within", areaD a, .int k] := rfl
theorem d3 {a b : Area} {k : Int} : (W.answered a b k).d = .tup [.str "answered", areaD a, areaD b, .int k] := rfl
theorem d4 {a b : Area} : (W.ahead a b).d = .tup [.str "ahead", areaD a, areaD b] := rfl
theorem d5 {a : Area} {k : Int} : (W.again a k).d = .tup [.str "again", areaD a, .int k] := rfl
def W.a : W → Area
  | .never a => a | .within a _ => a | .answered a _ _ => a | .ahead a _ => a | .again a _ => a
def W.b : W → Area
  | .answered _ b _ => b | .ahead _ b => b | _ => []
/-- wishes of ax axes, of spans within B -/
def okS (B : Int) (q : Int × Int) : Prop := -B ≤ q.1 ∧ q.1 ≤ q.2 ∧ q.2 ≤ B
def okB (B ax : Int) (b : Box) : Prop := (b.length : Int) = ax ∧ ∀ q ∈ b, okS B q
def okA (B ax : Int) (a : Area) : Prop := a.length ≤ 6 ∧ ∀ b ∈ a, okB B ax b
def okK (k : Int) : Prop := 1 ≤ k ∧ k ≤ 30
def W.ok (B ax : Int) : W → Prop
  | .never a => okA B ax a
  | .within a k => okA B ax a ∧ okK k
  | .answered a b k => okA B ax a ∧ okA B ax b ∧ okK k
  | .ahead a b => okA B ax a ∧ okA B ax b
  | .again a k => okA B ax a ∧ okK k
/-- axes and bounds that are looked at -/
def okN (B ax : Int) : Prop := 0 ≤ B ∧ B ≤ 1000 ∧ 1 ≤ ax ∧ ax ≤ 3
/-! ### things of which only the kind is asked -/
mutual
def pl : D → Bool
  | .tup xs => plL xs
  | .lst xs => plL xs
  | .non => true | .bl _ => true | .int _ => true | .str _ => true | .dct => true
  | .ty _ => false | .own _ => false | .fz _ => false | .obj _ _ _ => false
def plL : List D → Bool
  | [] => true
  | d :: ds => pl d && plL ds
end
theorem plL_mem : ∀ {ds : List D}, plL ds = true → ∀ d ∈ ds, pl d = true
  | d :: ds, h, x, hx => by
    simp only [plL, Bool.and_eq_true] at h
    rcases List.mem_cons.mp hx with rfl | hx
    · exact h.1
    · exact plL_mem h.2 x hx
theorem plL_of : ∀ {ds : List D}, (∀ d ∈ ds, pl d = true) → plL ds = true
  | [], _ => by simp [plL]
  | d :: ds, h => by
    simp only [plL, Bool.and_eq_true]
    exact ⟨h d (by simp), plL_of fun x hx => h x (by simp [hx])⟩
theorem pl_tyD {d : D} (h : pl d = true) : ∃ t, tyD d = some t := by
  cases d <;> first | exact ⟨_, rfl⟩ | simp [pl] at h
def items : D → List D
  | .tup xs => xs
  | _ => []
def betw (l m : Int) : D → Bool
  | .int i => decide (l ≤ i) && decide (i ≤ m)
  | _ => false
def tupB (l m : Int) : D → Bool
  | .tup xs => decide (l ≤ (xs.length : Int)) && decide ((xs.length : Int) ≤ m)
  | _ => false
def spanB (l m : Int) : D → Bool
  | .tup [.int i, d] => (decide (l ≤ i) && decide (i ≤ m)) && betw i m d
  | _ => false
def spansB (f n l m : Int) (d : D) : Bool := tupB f n d && (items d).all (spanB l m)
def boxB (ax : Int) (d : D) : Bool := spansB ax ax (-1000) 1000 d
def areaB (ax : Int) (d : D) : Bool := tupB 0 6 d && (items d).all (boxB ax)
noncomputable def oneB (ws : List Str) : D → Bool
  | .str x => (ws.map D.str).any fun y => eqF y (.str x)
  | _ => false
def wds : List Str := ["never", "within", "answered", "ahead", "again"]
def wdsO : List Str := ["answered", "ahead"]
def wdsK : List Str := ["within", "answered", "again"]
noncomputable def tailB (ax : Int) (x : D) (r : List D) : Bool :=
  bif oneB wds x then
    bif oneB wdsK x then (bif oneB wdsO x then (match r with
        | [a, b, k] => betw 1 30 k && (areaB ax a && areaB ax b)
        | _ => false)
      else match r with
        | [a, k] => betw 1 30 k && areaB ax a
        | _ => false)
    else (bif oneB wdsO x then (match r with
        | [a, b] => areaB ax a && areaB ax b
        | _ => false)
      else match r with
        | [a] => areaB ax a
        | _ => false)
  else false
noncomputable def wishB (ax : Int) : D → Bool
  | .tup (x :: r) => tailB ax x r
  | _ => false
noncomputable def wishI (d : D) : Bool := wishB 1 d || (wishB 2 d || wishB 3 d)
/-! ### what the program's defs tell of wishes -/
def bw (x y : Box) : Bool := decide (x.length = y.length) && (x.zip y).all fun p => decide (p.2.1 ≤ p.1.1) && decide (p.1.2 ≤ p.2.2)
def lw (a b : Area) : Bool := a.all fun x => b.any fun y => bw x y
def hard : W → W → Bool
  | .never a, .never b => lw b a
  | .within a k, .within b l => decide (k ≤ l) && lw a b
  | .answered a c k, .answered b d l => decide (k ≤ l) && (lw b a && lw c d)
  | .ahead a c, .ahead b d => lw a b && lw d c
  | .again a k, .again b l => decide (k ≤ l) && lw a b
  | _, _ => false
/-! ### what the law's own look tells -/
def inBox (b : Box) (p : Row) : Bool := (p.zip b).all fun q => decide (q.2.1 ≤ q.1) && decide (q.1 ≤ q.2.2)
def inArea (a : Area) (p : Row) : Bool := a.any fun b => inBox b p
def anyF (h : Nat → Bool) (j n : Nat) : Bool := (List.range (n + 1)).any fun i => decide (j ≤ i) && h i
def brkF (w : W) (h t : Nat → Bool) (n : Nat) : Bool := match w with
  | .never _ => h n
  | .within _ k => decide ((n : Int) = k) && !anyF h 0 n
  | .answered _ _ k => decide (k ≤ (n : Int)) && (h (n - k.toNat) && !anyF t (n - k.toNat) n)
  | .ahead _ _ => t n && !anyF h 0 n
  | .again _ k => decide (k ≤ (n : Int)) && !anyF h (n - k.toNat) n
def hA (a : Area) (ps : List Row) (i : Nat) : Bool := inArea a (ps.getD i [])
def brk (w : W) (ps : List Row) (n : Nat) : Bool := brkF w (hA w.a ps) (hA w.b ps) n
def brks (w : W) (ps : List Row) : Bool := (List.range ps.length).any (brk w ps)
def okR (ax : Int) (p : Row) : Prop := (p.length : Int) = ax
def okP (ax : Int) (ps : List Row) : Prop := ps ≠ [] ∧ ps.length ≤ 1000 ∧ ∀ r ∈ ps, okR ax r
/-! ### constants -/
def c_WORDS : D := .tup (wds.map D.str)
def c_WITH_OTHER : D := .tup (wdsO.map D.str)
def c_WITH_K : D := .tup (wdsK.map D.str)
/-! ### promises -/
variable [TabL] [XCx]
def sp_is_integer : DSp := fun ds O k => ∃ d, ds = [d] ∧ pl d = true ∧ k (.bl (match d with | .int _ => true | _ => false)) O
theorem ln_is_integer : ∀ ds O k, sp_is_integer ds O k → ds.length = 1 := by rintro ds O k ⟨d, rfl, _⟩; rfl
def sp_is_between : DSp := fun ds O k => ∃ l m d, ds = [.int l, .int m, d] ∧ pl d = true ∧ k (.bl (betw l m d)) O
theorem ln_is_between : ∀ ds O k, sp_is_between ds O k → ds.length = 3 := by rintro ds O k ⟨l, m, d, rfl, _⟩; rfl
def sp_is_tuple : DSp := fun ds O k => ∃ l m d, ds = [.int l, .int m, d] ∧ pl d = true ∧ k (.bl (tupB l m d)) O
theorem ln_is_tuple : ∀ ds O k, sp_is_tuple ds O k → ds.length = 3 := by rintro ds O k ⟨l, m, d, rfl, _⟩; rfl
def sp_is_pair : DSp := fun ds O k => ∃ d, ds = [d] ∧ pl d = true ∧ k (.bl (tupB 2 2 d)) O
theorem ln_is_pair : ∀ ds O k, sp_is_pair ds O k → ds.length = 1 := by rintro ds O k ⟨d, rfl, _⟩; rfl
def sp_is_one_of : DSp := fun ds O k => ∃ (ws : List Str) (d : D), ds = [.tup (ws.map D.str), d] ∧ pl d = true ∧ k (.bl (oneB ws d)) O
theorem ln_is_one_of : ∀ ds O k, sp_is_one_of ds O k → ds.length = 2 := by rintro ds O k ⟨l, d, rfl, _⟩; rfl
def sp_is_span : DSp := fun ds O k => ∃ l m d, ds = [.int l, .int m, d] ∧ pl d = true ∧ k (.bl (spanB l m d)) O
theorem ln_is_span : ∀ ds O k, sp_is_span ds O k → ds.length = 3 := by rintro ds O k ⟨l, m, d, rfl, _⟩; rfl
def sp_are_spans : DSp := fun ds O k => ∃ f n l m d, ds = [.int f, .int n, .int l, .int m, d] ∧ n ≤ 1000 ∧ pl d = true ∧ k (.bl (spansB f n l m d)) O
theorem ln_are_spans : ∀ ds O k, sp_are_spans ds O k → ds.length = 5 := by rintro ds O k ⟨f, n, l, m, d, rfl, _⟩; rfl
def sp_is_box : DSp := fun ds O k => ∃ ax d, ds = [.int ax, d] ∧ ax ≤ 1000 ∧ pl d = true ∧ k (.bl (boxB ax d)) O
theorem ln_is_box : ∀ ds O k, sp_is_box ds O k → ds.length = 2 := by rintro ds O k ⟨l, d, rfl, _⟩; rfl
def sp_is_area : DSp := fun ds O k => ∃ ax d, ds = [.int ax, d] ∧ ax ≤ 1000 ∧ pl d = true ∧ k (.bl (areaB ax d)) O
theorem ln_is_area : ∀ ds O k, sp_is_area ds O k → ds.length = 2 := by rintro ds O k ⟨l, d, rfl, _⟩; rfl
def sp_is_wish : DSp := fun ds O k => ∃ ax d, ds = [.int ax, d] ∧ ax ≤ 1000 ∧ pl d = true ∧ k (.bl (wishB ax d)) O
theorem ln_is_wish : ∀ ds O k, sp_is_wish ds O k → ds.length = 2 := by rintro ds O k ⟨l, d, rfl, _⟩; rfl
def sp_is_wish_itself : DSp := fun ds O k => ∃ d, ds = [d] ∧ pl d = true ∧ k (.bl (wishI d)) O
theorem ln_is_wish_itself : ∀ ds O k, sp_is_wish_itself ds O k → ds.length = 1 := by rintro ds O k ⟨d, rfl, _⟩; rfl
def sp_box_lies_within : DSp := fun ds O k => ∃ x y : Box, ds = [boxD x, boxD y] ∧ x.length ≤ 1000 ∧ y.length ≤ 1000 ∧ k (.bl (bw x y)) O
theorem ln_box_lies_within : ∀ ds O k, sp_box_lies_within ds O k → ds.length = 2 := by rintro ds O k ⟨l, d, rfl, _⟩; rfl
def sp_lies_within : DSp := fun ds O k => ∃ (B ax ax' : Int) (x y : Area), ds = [areaD x, areaD y] ∧ okN B ax ∧ okN B ax' ∧ okA B ax x ∧ okA B ax' y ∧ k (.bl (lw x y)) O
theorem ln_lies_within : ∀ ds O k, sp_lies_within ds O k → ds.length = 2 := by rintro ds O k ⟨B, l, d, x, y, rfl, _⟩; rfl
/-- of wishes -/
def sp_harder : DSp := fun ds O k => ∃ (B ax ax' : Int) (v w : W), ds = [v.d, w.d] ∧ okN B ax ∧ okN B ax' ∧ v.ok B ax ∧ w.ok B ax' ∧ k (.bl (hard v w)) O
theorem ln_harder : ∀ ds O k, sp_harder ds O k → ds.length = 2 := by rintro ds O k ⟨B, l, d, x, y, rfl, _⟩; rfl
/-- of things one of which is none: cN is raised -/
def spx_harder (cN : Addr) : DSpX := fun ds O _ kx => ∃ x y, ds = [x, y] ∧ pl x = true ∧ pl y = true ∧ (wishI x && wishI y) = false ∧ kx cN O
theorem lnx_harder (cN : Addr) : ∀ ds O k kx, spx_harder cN ds O k kx → ds.length = 2 := by rintro ds O k kx ⟨x, y, rfl, _⟩; rfl
/-! ### .. of the law's own defs -/
def sp__law_hand : DSp := spHand
theorem ln__law_hand : ∀ ds O k, sp__law_hand ds O k → ds.length = 1 := ln_spHand
def sp__law_draw : DSp := spDraw
theorem ln__law_draw : ∀ ds O k, sp__law_draw ds O k → ds.length = 2 := ln_spDraw
/-- things: a list, or one that may still be changed -/
def sp__law_some : DSp := fun ds O k => ∃ p h x xs, ds = [.own p, x] ∧ O p = some h ∧ HandOk h ∧ (x = .lst xs ∨ ∃ q, x = .own q ∧ q ≠ p ∧ O q = some xs) ∧ xs ≠ [] ∧ xs.length ≤ 1000 ∧ ∀ x ∈ xs, ∀ h', HandOk h' → k x (oset O p h')
theorem ln__law_some : ∀ ds O k, sp__law_some ds O k → ds.length = 2 := by rintro ds O k ⟨p, h, x, xs, rfl, _⟩; rfl
def sp__law_deep : DSp := fun ds O k => ∃ p h d, ds = [.own p, d] ∧ O p = some h ∧ HandOk h ∧ pl d = true ∧ ∀ d' h', pl d' = true → wishI d' = false → HandOk h' → k d' (oset O p h')
theorem ln__law_deep : ∀ ds O k, sp__law_deep ds O k → ds.length = 2 := by rintro ds O k ⟨p, h, d, rfl, _⟩; rfl
def sp__law_in : DSp := fun ds O k => ∃ (B ax : Int) (a : Area) (p : Row), ds = [areaD a, rowD p] ∧ okN B ax ∧ okA B ax a ∧ okR ax p ∧ k (.bl (inArea a p)) O
theorem ln__law_in : ∀ ds O k, sp__law_in ds O k → ds.length = 2 := by rintro ds O k ⟨B, ax, b, p, rfl, _⟩; rfl
def sp__law_breaks : DSp := fun ds O k => ∃ (B ax : Int) (w : W) (ps : List Row) (n : Nat), ds = [w.d, .lst (ps.map rowD), .int (n : Nat)] ∧ okN B ax ∧ w.ok B ax ∧ okP ax ps ∧ n < ps.length ∧ k (.bl (brk w ps n)) O
theorem ln__law_breaks : ∀ ds O k, sp__law_breaks ds O k → ds.length = 3 := by rintro ds O k ⟨B, ax, p, h, m, rfl, _⟩; rfl
def spGen (P : Int → D → Prop) : DSp := fun ds O k => ∃ p h ax, ds = [.own p, .int ax] ∧ O p = some h ∧ HandOk h ∧ 1 ≤ ax ∧ ax ≤ 3 ∧ ∀ d h', P ax d → HandOk h' → k d (oset O p h')
theorem ln_spGen {P : Int → D → Prop} : ∀ ds O k, spGen P ds O k → ds.length = 2 := by rintro ds O k ⟨p, h, ax, rfl, _⟩; rfl
def sp__law_box : DSp := spGen fun ax d => ∃ b, d = boxD b ∧ okB 6 ax b
theorem ln__law_box : ∀ ds O k, sp__law_box ds O k → ds.length = 2 := ln_spGen
def sp__law_area : DSp := spGen fun ax d => ∃ a, d = areaD a ∧ okA 6 ax a
theorem ln__law_area : ∀ ds O k, sp__law_area ds O k → ds.length = 2 := ln_spGen
def sp__law_wish : DSp := spGen fun ax d => ∃ w : W, d = w.d ∧ w.ok 6 ax
theorem ln__law_wish : ∀ ds O k, sp__law_wish ds O k → ds.length = 2 := ln_spGen
def sp__law_places : DSp := fun ds O k => ∃ p h ax m, ds = [.own p, .int ax, .int m] ∧ O p = some h ∧ HandOk h ∧ 1 ≤ ax ∧ ax ≤ 3 ∧ 0 ≤ m ∧ m ≤ 100 ∧ ∀ ps h', okP ax ps → HandOk h' → k (.lst (ps.map rowD)) (oset O p h')
theorem ln__law_places : ∀ ds O k, sp__law_places ds O k → ds.length = 3 := by rintro ds O k ⟨p, h, m, n, rfl, _⟩; rfl
def sp__law_lies : DSp := fun ds O k => ∃ (B ax : Int) (x y : Area), ds = [areaD x, areaD y] ∧ okN B ax ∧ okA B ax x ∧ okA B ax y ∧ k (.bl (lw x y)) O
theorem ln__law_lies : ∀ ds O k, sp__law_lies ds O k → ds.length = 2 := by rintro ds O k ⟨B, l, d, x, rfl, _⟩; rfl
def sp__law_is_harder : DSp := fun ds O k => ∃ (B ax : Int) (v w : W), ds = [v.d, w.d] ∧ okN B ax ∧ v.ok B ax ∧ w.ok B ax ∧ k (.bl (hard v w)) O
theorem ln__law_is_harder : ∀ ds O k, sp__law_is_harder ds O k → ds.length = 2 := by rintro ds O k ⟨B, l, d, x, rfl, _⟩; rfl
def sp__law_other_area : DSp := fun ds O k => ∃ p h B ax a, ds = [.own p, areaD a, .int ax] ∧ O p = some h ∧ HandOk h ∧ okN B ax ∧ 6 ≤ B ∧ okA B ax a ∧ ∀ a' h', okA (B + 1) ax a' → HandOk h' → k (areaD a') (oset O p h')
theorem ln__law_other_area : ∀ ds O k, sp__law_other_area ds O k → ds.length = 3 := by rintro ds O k ⟨p, h, B, ax, a, rfl, _⟩; rfl
def sp__law_near : DSp := fun ds O k => ∃ p h B ax, ∃ w : W, ds = [.own p, w.d, .int ax] ∧ O p = some h ∧ HandOk h ∧ okN B ax ∧ 6 ≤ B ∧ w.ok B ax ∧ ∀ (w' : W) h', w'.ok (B + 1) ax → HandOk h' → k w'.d (oset O p h')
theorem ln__law_near : ∀ ds O k, sp__law_near ds O k → ds.length = 3 := by rintro ds O k ⟨p, h, B, ax, a, rfl, _⟩; rfl
/-- the lambda handed in raises cN -/
def spl__law_word (cN : Addr) : DLm := fun rl O k => (∀ kx k', kx cN O → rl kx O k') ∧ k (.str "wish") O
def sp__law_none : DSp := fun ds O k => ∃ p h B ax, ∃ w : W, ds = [.own p, w.d] ∧ O p = some h ∧ HandOk h ∧ okN B ax ∧ w.ok B ax ∧ ∀ d h', pl d = true → wishI d = false → HandOk h' → k d (oset O p h')
theorem ln__law_none : ∀ ds O k, sp__law_none ds O k → ds.length = 2 := by rintro ds O k ⟨p, h, B, ax, a, rfl, _⟩; rfl
def sp_law : DSp := spLaw
theorem ln_law : ∀ ds O k, sp_law ds O k → ds.length = 1 := by rintro ds O k ⟨ns, rfl, _⟩; rfl
end Lk19
/-! k19: a harder wish is broken wherever the other one is. -/
namespace Lk19
open PySem PySem.Spec PyProof.Rows L2 SC
theorem bw_in : ∀ (x y : Box) (p : Row), bw x y = true → inBox x p = true → inBox y p = true := by
  intro x y p h
  unfold bw at h
  simp only [Bool.and_eq_true, decide_eq_true_eq] at h
  obtain ⟨hl, h⟩ := h
  induction x generalizing y p with
  | nil =>
    cases y with
    | nil => exact fun h => h
    | cons b y => simp at hl
  | cons a x ih =>
    cases y with
    | nil => simp at hl
    | cons b y =>
      cases p with
      | nil => intro _; rfl
      | cons q p =>
        simp only [List.zip_cons_cons, List.all_cons, Bool.and_eq_true, decide_eq_true_eq] at h
        intro hx
        unfold inBox at hx ⊢
        simp only [List.zip_cons_cons, List.all_cons, Bool.and_eq_true, decide_eq_true_eq] at hx ⊢
        exact ⟨⟨by omega, by omega⟩, ih y p (by simpa using hl) h.2 hx.2⟩
theorem lw_in {a b : Area} (h : lw a b = true) (p : Row) (hp : inArea a p = true) : inArea b p = true := by
  unfold lw at h
  unfold inArea at hp ⊢
  rw [List.all_eq_true] at h
  rw [List.any_eq_true] at hp ⊢
  obtain ⟨x, hx, h1⟩ := hp
  have z := h x hx
  rw [List.any_eq_true] at z
  obtain ⟨y, hy, h2⟩ := z
  exact ⟨y, hy, bw_in x y p h2 h1⟩
theorem lw_hA {a b : Area} (h : lw a b = true) (ps : List Row) (i : Nat) (hp : hA a ps i = true) : hA b ps i = true := lw_in h _ hp
theorem anyF_iff {h : Nat → Bool} {j n : Nat} : anyF h j n = true ↔ ∃ i, j ≤ i ∧ i ≤ n ∧ h i = true := by
  unfold anyF
  rw [List.any_eq_true]
  constructor
  · rintro ⟨i, hi, q⟩
    rw [List.mem_range] at hi
    simp only [Bool.and_eq_true, decide_eq_true_eq] at q
    exact ⟨i, q.1, by omega, q.2⟩
  · rintro ⟨i, h1, h2, h3⟩
    exact ⟨i, List.mem_range.mpr (by omega), by simp [h1, h3]⟩
theorem anyF_no {h t : Nat → Bool} {j n j' n' : Nat} (hn : anyF h j n = false) (s : ∀ i, t i = true → h i = true) (h1 : j ≤ j') (h2 : n' ≤ n) : anyF t j' n' = false := by
  cases e : anyF t j' n' with
  | false => rfl
  | true =>
    obtain ⟨i, a, b, c⟩ := anyF_iff.mp e
    rw [anyF_iff.mpr ⟨i, by omega, by omega, s i c⟩] at hn
    cases hn
theorem hard_brk {v w : W} {ps : List Row} (h : hard v w = true) (B ax B' ax' : Int) (hv : v.ok B ax) (hw : w.ok B' ax') {n : Nat} (hn : n < ps.length) (hb : brk w ps n = true) : ∃ m, m < ps.length ∧ brk v ps m = true := by
  unfold brk at hb ⊢
  cases v <;> cases w <;> first | (simp [hard] at h; done) | skip
  · rename_i a b
    exact ⟨n, hn, lw_hA h ps n hb⟩
  · rename_i a k b l
    simp only [hard, Bool.and_eq_true, decide_eq_true_eq] at h
    simp only [brkF, W.a, Bool.and_eq_true, decide_eq_true_eq, Bool.not_eq_true'] at hb ⊢
    obtain ⟨_, k1, k2⟩ := hv
    exact ⟨k.toNat, by omega, by omega, anyF_no hb.2 (fun i => lw_hA h.2 ps i) (Nat.le_refl _) (by omega)⟩
  · rename_i a c k b d l
    simp only [hard, Bool.and_eq_true, decide_eq_true_eq] at h
    simp only [brkF, W.a, W.b, Bool.and_eq_true, decide_eq_true_eq, Bool.not_eq_true'] at hb ⊢
    obtain ⟨_, _, k1, k2⟩ := hv
    obtain ⟨_, _, l1, l2⟩ := hw
    refine ⟨n - l.toNat + k.toNat, by omega, by omega, ?_, ?_⟩
    · rw [show n - l.toNat + k.toNat - k.toNat = n - l.toNat by omega]
      exact lw_hA h.2.1 ps _ hb.2.1
    · rw [show n - l.toNat + k.toNat - k.toNat = n - l.toNat by omega]
      exact anyF_no hb.2.2 (fun i => lw_hA h.2.2 ps i) (Nat.le_refl _) (by omega)
  · rename_i a c b d
    simp only [hard, Bool.and_eq_true] at h
    simp only [brkF, W.a, W.b, Bool.and_eq_true, Bool.not_eq_true'] at hb ⊢
    exact ⟨n, hn, lw_hA h.2 ps n hb.1, anyF_no hb.2 (fun i => lw_hA h.1 ps i) (Nat.le_refl _) (Nat.le_refl _)⟩
  · rename_i a k b l
    simp only [hard, Bool.and_eq_true, decide_eq_true_eq] at h
    simp only [brkF, W.a, Bool.and_eq_true, decide_eq_true_eq, Bool.not_eq_true'] at hb ⊢
    obtain ⟨_, k1, k2⟩ := hv
    obtain ⟨_, l1, l2⟩ := hw
    refine ⟨n - l.toNat + k.toNat, by omega, by omega, ?_⟩
    rw [show n - l.toNat + k.toNat - k.toNat = n - l.toNat by omega]
    exact anyF_no hb.2 (fun i => lw_hA h.2 ps i) (Nat.le_refl _) (by omega)
/-- THE FACT: told harder, broken where the other one is -/
theorem hard_brks {v w : W} {ps : List Row} (h : hard v w = true) (B ax B' ax' : Int) (hv : v.ok B ax) (hw : w.ok B' ax') (hb : brks w ps = true) : brks v ps = true := by
  unfold brks at hb ⊢
  rw [List.any_eq_true] at hb ⊢
  obtain ⟨n, hn, q⟩ := hb
  obtain ⟨m, hm, z⟩ := hard_brk h B ax B' ax' hv hw (List.mem_range.mp hn) q
  exact ⟨m, List.mem_range.mpr hm, z⟩
end Lk19
/-! k19: which things are wishes. -/
namespace Lk19
open PySem PySem.Spec PyProof.Rows L2 SC
theorem one_eq (ws : List Str) (x : Str) : oneB ws (.str x) = ws.any fun y => decide (y = x) := by
  show ((ws.map D.str).any fun y => eqF y (.str x)) = _
  rw [List.any_map]
  congr 1
  funext y
  show strEq y x = _
  exact strEq_eq y x
theorem o1 : oneB wds (.str "never") = true ∧ oneB wds (.str "within") = true ∧ oneB wds (.str "answered") = true ∧ oneB wds (.str "ahead") = true ∧ oneB wds (.str "again") = true ∧ oneB wds (.str "Never") = false := by
  simp only [one_eq]; decide +kernel
theorem o2 : oneB wdsK (.str "never") = false ∧ oneB wdsK (.str "within") = true ∧ oneB wdsK (.str "answered") = true ∧ oneB wdsK (.str "ahead") = false ∧ oneB wdsK (.str "again") = true := by
  simp only [one_eq]; decide +kernel
theorem o3 : oneB wdsO (.str "never") = false ∧ oneB wdsO (.str "within") = false ∧ oneB wdsO (.str "answered") = true ∧ oneB wdsO (.str "ahead") = true ∧ oneB wdsO (.str "again") = false := by
  simp only [one_eq]; decide +kernel
theorem t_never (ax : Int) (r : List D) : tailB ax (.str "never") r = match r with | [a] => areaB ax a | _ => false := by
  unfold tailB; rw [o1.1, o2.1, o3.1]; rfl
theorem t_within (ax : Int) (r : List D) : tailB ax (.str "within") r = match r with | [a, k] => betw 1 30 k && areaB ax a | _ => false := by
  unfold tailB; rw [o1.2.1, o2.2.1, o3.2.1]; rfl
theorem t_answered (ax : Int) (r : List D) : tailB ax (.str "answered") r = match r with | [a, b, k] => betw 1 30 k && (areaB ax a && areaB ax b) | _ => false := by
  unfold tailB; rw [o1.2.2.1, o2.2.2.1, o3.2.2.1]; rfl
theorem t_ahead (ax : Int) (r : List D) : tailB ax (.str "ahead") r = match r with | [a, b] => areaB ax a && areaB ax b | _ => false := by
  unfold tailB; rw [o1.2.2.2.1, o2.2.2.2.1, o3.2.2.2.1]; rfl
theorem t_again (ax : Int) (r : List D) : tailB ax (.str "again") r = match r with | [a, k] => betw 1 30 k && areaB ax a | _ => false := by
  unfold tailB; rw [o1.2.2.2.2.1, o2.2.2.2.2, o3.2.2.2.2]; rfl
theorem t_other {ax : Int} {x : D} {r : List D} (h : oneB wds x = false) : tailB ax x r = false := by
  unfold tailB; rw [h]; rfl
theorem spanB_ok {B : Int} {q : Int × Int} (hB : B ≤ 1000) (h : okS B q) : spanB (-1000) 1000 (pairD q) = true := by
  obtain ⟨h1, h2, h3⟩ := h
  simp only [pairD, spanB, betw, Bool.and_eq_true, decide_eq_true_eq]
  omega
theorem boxB_ok {B ax : Int} {b : Box} (hB : B ≤ 1000) (h : okB B ax b) : boxB ax (boxD b) = true := by
  obtain ⟨h1, h2⟩ := h
  simp only [boxB, spansB, boxD, tupB, items, List.length_map, Bool.and_eq_true, decide_eq_true_eq, List.all_eq_true, List.mem_map]
  exact ⟨⟨by omega, by omega⟩, by rintro _ ⟨q, hq, rfl⟩; exact spanB_ok hB (h2 q hq)⟩
theorem areaB_ok {B ax : Int} {a : Area} (hB : B ≤ 1000) (h : okA B ax a) : areaB ax (areaD a) = true := by
  obtain ⟨h1, h2⟩ := h
  simp only [areaB, areaD, tupB, items, List.length_map, Bool.and_eq_true, decide_eq_true_eq, List.all_eq_true, List.mem_map]
  exact ⟨⟨by omega, by omega⟩, by rintro _ ⟨q, hq, rfl⟩; exact boxB_ok hB (h2 q hq)⟩
theorem betw_ok {k : Int} (h : okK k) : betw 1 30 (.int k) = true := by
  simp only [betw, Bool.and_eq_true, decide_eq_true_eq]; exact h
theorem wishB_ok {B ax : Int} {w : W} (hB : B ≤ 1000) (h : w.ok B ax) : wishB ax w.d = true := by
  cases w with
  | never a => show tailB ax (.str "never") [areaD a] = true; rw [t_never]; exact areaB_ok hB h
  | within a k => show tailB ax (.str "within") [areaD a, .int k] = true; rw [t_within]; show (betw 1 30 (.int k) && areaB ax (areaD a)) = true; rw [betw_ok h.2, areaB_ok hB h.1]; rfl
  | answered a b k => show tailB ax (.str "answered") [areaD a, areaD b, .int k] = true; rw [t_answered]; show (betw 1 30 (.int k) && (areaB ax (areaD a) && areaB ax (areaD b))) = true; rw [betw_ok h.2.2, areaB_ok hB h.1, areaB_ok hB h.2.1]; rfl
  | ahead a b => show tailB ax (.str "ahead") [areaD a, areaD b] = true; rw [t_ahead]; show (areaB ax (areaD a) && areaB ax (areaD b)) = true; rw [areaB_ok hB h.1, areaB_ok hB h.2]; rfl
  | again a k => show tailB ax (.str "again") [areaD a, .int k] = true; rw [t_again]; show (betw 1 30 (.int k) && areaB ax (areaD a)) = true; rw [betw_ok h.2, areaB_ok hB h.1]; rfl
theorem wishI_ok {B ax : Int} {w : W} (hN : okN B ax) (h : w.ok B ax) : wishI w.d = true := by
  obtain ⟨_, h1, h2, h3⟩ := hN
  have z := wishB_ok h1 h
  have : ax = 1 ∨ ax = 2 ∨ ax = 3 := by omega
  unfold wishI
  rcases this with rfl | rfl | rfl <;> rw [z] <;> simp
theorem wishI_no {d : D} (h : ∀ ax, (ax = 1 ∨ ax = 2 ∨ ax = 3) → wishB ax d = false) : wishI d = false := by
  unfold wishI
  rw [h 1 (.inl rfl), h 2 (.inr (.inl rfl)), h 3 (.inr (.inr rfl))]; rfl
/-! ### of which only the kind is asked -/
theorem pl_pair (q : Int × Int) : pl (pairD q) = true := by simp [pairD, pl, plL]
theorem pl_box (b : Box) : pl (boxD b) = true := by
  simp only [boxD, pl]; exact plL_of fun d hd => by obtain ⟨q, _, rfl⟩ := List.mem_map.mp hd; exact pl_pair q
theorem pl_area (a : Area) : pl (areaD a) = true := by
  simp only [areaD, pl]; exact plL_of fun d hd => by obtain ⟨q, _, rfl⟩ := List.mem_map.mp hd; exact pl_box q
theorem pl_W (w : W) : pl w.d = true := by cases w <;> simp [W.d, pl, plL, pl_area]
theorem plL_append : ∀ {xs ys : List D}, plL xs = true → plL ys = true → plL (xs ++ ys) = true
  | [], _, _, h => h
  | x :: xs, ys, h, h2 => by
    simp only [plL, List.cons_append, Bool.and_eq_true] at h ⊢
    exact ⟨h.1, plL_append h.2 h2⟩
/-! ### things that are none -/
theorem nw_atom {d : D} (h : ∀ xs, d ≠ .tup xs) : wishI d = false := wishI_no fun ax _ => by
  cases d <;> first | rfl | exact absurd rfl (h _)
theorem nw_head {x : D} {r : List D} (h : oneB wds x = false) : wishI (.tup (x :: r)) = false := wishI_no fun ax _ => t_other h
theorem nw_nil : wishI (.tup []) = false := wishI_no fun ax _ => rfl
theorem one_no {ws : List Str} {d : D} (h : ∀ x, d ≠ .str x) : oneB ws d = false := by
  cases d <;> first | rfl | exact absurd rfl (h _)
theorem nw_more (w : W) : wishI (match w.d with | .tup xs => .tup (xs ++ [.int 1]) | d => d) = false := wishI_no fun ax _ => by
  cases w with
  | never a => exact t_never ax [areaD a, .int 1]
  | within a k => exact t_within ax [areaD a, .int k, .int 1]
  | answered a b k => exact t_answered ax [areaD a, areaD b, .int k, .int 1]
  | ahead a b => exact t_ahead ax [areaD a, areaD b, .int 1]
  | again a k => exact t_again ax [areaD a, .int k, .int 1]
theorem nw_first (w : W) : wishI (match w.d with | .tup xs => .tup (xs.take 1) | d => d) = false := wishI_no fun ax _ => by
  cases w with
  | never a => exact t_never ax []
  | within a k => exact t_within ax []
  | answered a b k => exact t_answered ax []
  | ahead a b => exact t_ahead ax []
  | again a k => exact t_again ax []
theorem nw_in2 (a : D) : wishI (.tup [.str "within", a]) = false := wishI_no fun ax _ => t_within ax [a]
theorem nw_inK {a k : D} (h : betw 1 30 k = false) : wishI (.tup [.str "within", a, k]) = false := wishI_no fun ax _ => by
  refine (t_within ax [a, k]).trans ?_
  show (betw 1 30 k && areaB ax a) = false
  rw [h]; rfl
theorem nw_never {a : D} (h : ∀ ax, (ax = 1 ∨ ax = 2 ∨ ax = 3) → areaB ax a = false) : wishI (.tup [.str "never", a]) = false := wishI_no fun ax hx => (t_never ax [a]).trans (h ax hx)
theorem nw_ahead (a : D) : wishI (.tup [.str "ahead", a]) = false := wishI_no fun ax _ => t_ahead ax [a]
end Lk19
namespace Lk19
open PySem PySem.Spec PyProof.Rows L2 SC
/-! ### bodies, on trees -/
noncomputable def bd_is_integer : DS := dRet (dAndV (dCB rIsiD (dCons (dVar 0) (dCons (dC (.ty "int")) (dNil)))) (dNotV (dCB rIsiD (dCons (dVar 0) (dCons (dC (.ty "bool")) (dNil))))))
noncomputable def bd_is_between : DS := dRet (dAndV (dCall sp_is_integer (dCons (dVar 2) (dNil))) (dChain (dI0 fun i j => .bl (decide (i ≤ j))) (dI0 fun i j => .bl (decide (i ≤ j))) (dVar 0) (dVar 2) (dVar 1)))
noncomputable def bd_is_tuple : DS := dRet (dAndV (dCB rIsiD (dCons (dVar 2) (dCons (dC (.ty "tuple")) (dNil)))) (dChain (dI0 fun i j => .bl (decide (i ≤ j))) (dI0 fun i j => .bl (decide (i ≤ j))) (dVar 0) (dCB rLenD (dCons (dVar 2) (dNil))) (dVar 1)))
noncomputable def bd_is_pair : DS := dRet (dCall sp_is_tuple (dCons (dC (.int 2)) (dCons (dC (.int 2)) (dCons (dVar 0) (dNil)))))
noncomputable def bd_is_one_of : DS := dRet (dAndV (dCB rIsiD (dCons (dVar 1) (dCons (dC (.ty "str")) (dNil)))) (dOp (dIn false) (dVar 1) (dVar 0)))
noncomputable def bd_is_span : DS := dRet (dAndV (dCall sp_is_pair (dCons (dVar 2) (dNil))) (dAndV (dCall sp_is_between (dCons (dVar 0) (dCons (dVar 1) (dCons (dOp rIxD (dVar 2) (dC (.int 0))) (dNil))))) (dCall sp_is_between (dCons (dOp rIxD (dVar 2) (dC (.int 0))) (dCons (dVar 1) (dCons (dOp rIxD (dVar 2) (dC (.int 1))) (dNil)))))))
noncomputable def bd_are_spans : DS := dRet (dAndV (dCall sp_is_tuple (dCons (dVar 0) (dCons (dVar 1) (dCons (dVar 4) (dNil))))) (dCB (rBools fun l => l.all id) (dCons (dComp (dSeq (dVar 4)) (dNm 5) (dYes) (dCall sp_is_span (dCons (dVar 2) (dCons (dVar 3) (dCons (dVar 5) (dNil))))) [5]) (dNil))))
noncomputable def bd_is_box : DS := dRet (dCall sp_are_spans (dCons (dVar 0) (dCons (dVar 0) (dCons (dUn (dU fun i => .int (-i)) (dC (.int 1000))) (dCons (dC (.int 1000)) (dCons (dVar 1) (dNil)))))))
noncomputable def bd_is_area : DS := dRet (dAndV (dCall sp_is_tuple (dCons (dC (.int 0)) (dCons (dC (.int 6)) (dCons (dVar 1) (dNil))))) (dCB (rBools fun l => l.all id) (dCons (dComp (dSeq (dVar 1)) (dNm 2) (dYes) (dCall sp_is_box (dCons (dVar 0) (dCons (dVar 2) (dNil)))) [2]) (dNil))))
noncomputable def bd_is_wish : DS := dThen (dIf (dOr (dNot (dB (dCall sp_is_tuple (dCons (dC (.int 2)) (dCons (dC (.int 4)) (dCons (dVar 1) (dNil))))))) (dNot (dB (dCall sp_is_one_of (dCons (dC c_WORDS) (dCons (dOp rIxD (dVar 1) (dC (.int 0))) (dNil))))))) (dRet (dC (.bl false))) (dSkip)) (dThen (dSet 2 (dIfE (dB (dOp (dIn false) (dOp rIxD (dVar 1) (dC (.int 0))) (dC c_WITH_OTHER))) (dC (.int 3)) (dC (.int 2)))) (dThen (dIf (dB (dOp (dIn false) (dOp rIxD (dVar 1) (dC (.int 0))) (dC c_WITH_K))) (dIf (dOr (dB (dOp (dEqS fun r => !r) (dCB rLenD (dCons (dVar 1) (dNil))) (dOp dAddA (dVar 2) (dC (.int 1))))) (dNot (dB (dCall sp_is_between (dCons (dC (.int 1)) (dCons (dC (.int 30)) (dCons (dOp rIxD (dVar 1) (dVar 2)) (dNil)))))))) (dRet (dC (.bl false))) (dSkip)) (dIf (dB (dOp (dEqS fun r => !r) (dCB rLenD (dCons (dVar 1) (dNil))) (dVar 2))) (dRet (dC (.bl false))) (dSkip))) (dRet (dCB (rBools fun l => l.all id) (dCons (dComp (dSeq (dSl (dVar 1) (dPart (dC (.int 1))) (dPart (dVar 2)))) (dNm 3) (dYes) (dCall sp_is_area (dCons (dVar 0) (dCons (dVar 3) (dNil)))) [3]) (dNil))))))
noncomputable def bd_is_wish_itself : DS := dRet (dCB (rBools fun l => l.any id) (dCons (dComp (dSeq (dTup (dCons (dC (.int 1)) (dCons (dC (.int 2)) (dCons (dC (.int 3)) (dNil)))))) (dNm 1) (dYes) (dCall sp_is_wish (dCons (dVar 1) (dCons (dVar 0) (dNil)))) [1]) (dNil)))
noncomputable def bd_box_lies_within : DS := dThen (dIf (dB (dOp (dEqS fun r => !r) (dCB rLenD (dCons (dVar 0) (dNil))) (dCB rLenD (dCons (dVar 1) (dNil))))) (dRet (dC (.bl false))) (dSkip)) (dRet (dCB (rBools fun l => l.all id) (dCons (dComp (dZip (dVar 0) (dVar 1)) (dTg 2 (dGCons (dNm 2) (dGCons (dNm 3) (dGNil)))) (dYes) (dAndV (dOp (dI0 fun i j => .bl (decide (j ≤ i))) (dOp rIxD (dVar 2) (dC (.int 0))) (dOp rIxD (dVar 3) (dC (.int 0)))) (dOp (dI0 fun i j => .bl (decide (i ≤ j))) (dOp rIxD (dVar 2) (dC (.int 1))) (dOp rIxD (dVar 3) (dC (.int 1))))) [2, 3]) (dNil))))
noncomputable def bd_lies_within : DS := dRet (dCB (rBools fun l => l.all id) (dCons (dComp (dSeq (dVar 0)) (dNm 2) (dYes) (dCB (rBools fun l => l.any id) (dCons (dComp (dSeq (dVar 1)) (dNm 3) (dYes) (dCall sp_box_lies_within (dCons (dVar 2) (dCons (dVar 3) (dNil)))) [3]) (dNil))) [2]) (dNil)))
noncomputable def bd_harder : DS := dThen (dIf (dOr (dNot (dB (dCall sp_is_wish_itself (dCons (dVar 0) (dNil))))) (dNot (dB (dCall sp_is_wish_itself (dCons (dVar 1) (dNil)))))) (dDead) (dSkip)) (dThen (dSet 2 (dOp rIxD (dVar 0) (dC (.int 0)))) (dThen (dIf (dOr (dB (dOp (dEqS fun r => !r) (dVar 2) (dOp rIxD (dVar 1) (dC (.int 0))))) (dAnd (dB (dOp (dIn false) (dVar 2) (dC c_WITH_K))) (dB (dOp (dI0 fun i j => .bl (decide (j < i))) (dOp rIxD (dVar 0) (dUn (dU fun i => .int (-i)) (dC (.int 1)))) (dOp rIxD (dVar 1) (dUn (dU fun i => .int (-i)) (dC (.int 1)))))))) (dRet (dC (.bl false))) (dSkip)) (dThen (dIf (dB (dOp (dEqS fun r => r) (dVar 2) (dC (.str "never")))) (dRet (dCall sp_lies_within (dCons (dOp rIxD (dVar 1) (dC (.int 1))) (dCons (dOp rIxD (dVar 0) (dC (.int 1))) (dNil))))) (dSkip)) (dThen (dIf (dB (dOp (dEqS fun r => r) (dVar 2) (dC (.str "answered")))) (dRet (dAndV (dCall sp_lies_within (dCons (dOp rIxD (dVar 1) (dC (.int 1))) (dCons (dOp rIxD (dVar 0) (dC (.int 1))) (dNil)))) (dCall sp_lies_within (dCons (dOp rIxD (dVar 0) (dC (.int 2))) (dCons (dOp rIxD (dVar 1) (dC (.int 2))) (dNil)))))) (dSkip)) (dThen (dIf (dB (dOp (dEqS fun r => r) (dVar 2) (dC (.str "ahead")))) (dRet (dAndV (dCall sp_lies_within (dCons (dOp rIxD (dVar 0) (dC (.int 1))) (dCons (dOp rIxD (dVar 1) (dC (.int 1))) (dNil)))) (dCall sp_lies_within (dCons (dOp rIxD (dVar 1) (dC (.int 2))) (dCons (dOp rIxD (dVar 0) (dC (.int 2))) (dNil)))))) (dSkip)) (dRet (dCall sp_lies_within (dCons (dOp rIxD (dVar 0) (dC (.int 1))) (dCons (dOp rIxD (dVar 1) (dC (.int 1))) (dNil))))))))))
noncomputable def bd__law_hand : DS := dThen (dSet 1 (dComp (dSeq (dSl (dVar 0) (dPart0) (dPart (dC (.int 63))))) (dNm 2) (dYes) (dCB rAbsD (dCons (dCB rIntD (dCons (dVar 2) (dNil))) (dNil))) [2])) (dRet (dLstO (dCons (dVar 1) (dCons (dC (.int 0)) (dCons (dC (.int 0)) (dCons (dOp dAddA (dC (.int 181)) (dOp (dI CMul fun i j => .int (i * j)) (dC (.int 7)) (dCB rLenD (dCons (dVar 1) (dNil))))) (dCons (dC (.int 0)) (dNil))))))))
noncomputable def bd__law_draw : DS := dThen (dIf (dAnd (dB (dOp (dEqS fun r => r) (dOp rIxD (dVar 0) (dC (.int 2))) (dC (.int 0)))) (dB (dOp (dI0 fun i j => .bl (decide (i < j))) (dOp rIxD (dVar 0) (dC (.int 1))) (dCB rLenD (dCons (dOp rIxD (dVar 0) (dC (.int 0))) (dNil)))))) (dThen (dSet 3 (dOp rIxD (dOp rIxD (dVar 0) (dC (.int 0))) (dOp rIxD (dVar 0) (dC (.int 1))))) (dThen (dSetIx (dVar 0) (dC (.int 1)) (dOp dAddA (dOp rIxD (dVar 0) (dC (.int 1))) (dC (.int 1)))) (dThen (dSetIx (dVar 0) (dC (.int 3)) (dOp (dI (fun _ j => 0 < j) fun i j => .int (i % j)) (dCB rIntD (dCons (dOp dAddA (dOp dAddA (dOp (dI CMul fun i j => .int (i * j)) (dOp rIxD (dVar 0) (dC (.int 3))) (dC (.int 69621))) (dVar 3)) (dC (.int 97))) (dNil))) (dC (.int 2147483629)))) (dIf (dB (dOp (dI0 fun i j => .bl (decide (j ≤ i))) (dVar 3) (dOp (dI CPow fun i j => .int (i ^ j.toNat)) (dC (.int 10)) (dC (.int 18))))) (dSetIx (dVar 0) (dC (.int 2)) (dVar 3)) (dSkip))))) (dSkip)) (dThen (dIf (dB (dOp (dI0 fun i j => .bl (decide (j < i))) (dOp rIxD (dVar 0) (dC (.int 2))) (dC (.int 0)))) (dThen (dSet 4 (dOp (dI (fun _ j => 0 < j) fun i j => .int (i % j)) (dCB rIntD (dCons (dOp rIxD (dVar 0) (dC (.int 2))) (dNil))) (dVar 1))) (dThen (dSetIx (dVar 0) (dC (.int 2)) (dOp (dI CDiv fun i j => .int (i / j)) (dOp rIxD (dVar 0) (dC (.int 2))) (dVar 1))) (dRet (dVar 4)))) (dSkip)) (dThen (dSetIx (dVar 0) (dC (.int 4)) (dOp dAddA (dOp rIxD (dVar 0) (dC (.int 4))) (dC (.int 1)))) (dThen (dSet 2 (dOp (dI (fun _ j => 0 < j) fun i j => .int (i % j)) (dCB rIntD (dCons (dOp (dI CMul fun i j => .int (i * j)) (dCB rIntD (dCons (dOp dAddA (dOp rIxD (dVar 0) (dC (.int 3))) (dOp (dI CMul fun i j => .int (i * j)) (dC (.int 7919)) (dOp rIxD (dVar 0) (dC (.int 4))))) (dNil))) (dC (.int 48271))) (dNil))) (dC (.int 2147483647)))) (dThen (dSet 2 (dOp (dI (fun _ j => 0 < j) fun i j => .int (i % j)) (dCB rIntD (dCons (dOp (dI CMul fun i j => .int (i * j)) (dVar 2) (dOp dAddA (dOp (dI CDiv fun i j => .int (i / j)) (dVar 2) (dC (.int 1009))) (dC (.int 69621)))) (dNil))) (dC (.int 2147483647)))) (dThen (dSet 2 (dOp (dI (fun _ j => 0 < j) fun i j => .int (i % j)) (dCB rIntD (dCons (dOp (dI CMul fun i j => .int (i * j)) (dVar 2) (dOp dAddA (dOp (dI CDiv fun i j => .int (i / j)) (dVar 2) (dC (.int 2003))) (dC (.int 40692)))) (dNil))) (dC (.int 2147483399)))) (dRet (dOp (dI (fun _ j => 0 < j) fun i j => .int (i % j)) (dCB rIntD (dCons (dOp (dI CDiv fun i j => .int (i / j)) (dVar 2) (dC (.int 16))) (dNil))) (dVar 1))))))))
noncomputable def bd__law_some : DS := dRet (dOp rIxD (dVar 1) (dCall sp__law_draw (dCons (dVar 0) (dCons (dCB rLenD (dCons (dVar 1) (dNil))) (dNil)))))
noncomputable def bd__law_deep : DS := dThen (dFor (dRng1 (dOp dAddA (dC (.int 20)) (dCall sp__law_draw (dCons (dVar 0) (dCons (dC (.int 15)) (dNil)))))) (dNm 2) (dSet 1 (dIfE (dB (dOp (dEqS fun r => r) (dCall sp__law_draw (dCons (dVar 0) (dCons (dC (.int 2)) (dNil)))) (dC (.int 0)))) (dTup (dCons (dVar 1) (dNil))) (dLst (dCons (dVar 1) (dNil)))))) (dRet (dVar 1))
noncomputable def bd__law_in : DS := dRet (dCB (rBools fun l => l.any id) (dCons (dComp (dSeq (dVar 0)) (dNm 2) (dYes) (dCB (rBools fun l => l.all id) (dCons (dComp (dZip (dVar 1) (dVar 2)) (dTg 2 (dGCons (dNm 3) (dGCons (dTg 2 (dGCons (dNm 4) (dGCons (dNm 5) (dGNil)))) (dGNil)))) (dYes) (dChain (dI0 fun i j => .bl (decide (i ≤ j))) (dI0 fun i j => .bl (decide (i ≤ j))) (dVar 4) (dVar 3) (dVar 5)) [3, 4, 5]) (dNil))) [2]) (dNil)))
noncomputable def bd__law_breaks : DS := dThen (dPar 4 5 (dCons (dOp rIxD (dVar 0) (dC (.int 0))) (dCons (dComp (dSeq (dSl (dVar 1) (dPart0) (dPart (dOp dAddA (dVar 2) (dC (.int 1)))))) (dNm 6) (dYes) (dCall sp__law_in (dCons (dOp rIxD (dVar 0) (dC (.int 1))) (dCons (dVar 6) (dNil)))) [6]) (dNil)))) (dThen (dIf (dB (dOp (dEqS fun r => r) (dVar 4) (dC (.str "never")))) (dRet (dOp rIxD (dVar 5) (dVar 2))) (dSkip)) (dThen (dIf (dB (dOp (dEqS fun r => r) (dVar 4) (dC (.str "within")))) (dRet (dAndV (dOp (dEqS fun r => r) (dVar 2) (dOp rIxD (dVar 0) (dC (.int 2)))) (dNotV (dCB (rBools fun l => l.any id) (dCons (dVar 5) (dNil)))))) (dSkip)) (dThen (dIf (dB (dOp (dEqS fun r => r) (dVar 4) (dC (.str "again")))) (dRet (dAndV (dOp (dI0 fun i j => .bl (decide (j ≤ i))) (dVar 2) (dOp rIxD (dVar 0) (dC (.int 2)))) (dNotV (dCB (rBools fun l => l.any id) (dCons (dSl (dVar 5) (dPart (dOp (dI0 fun i j => .int (i - j)) (dVar 2) (dOp rIxD (dVar 0) (dC (.int 2))))) (dPart0)) (dNil)))))) (dSkip)) (dThen (dSet 3 (dComp (dSeq (dSl (dVar 1) (dPart0) (dPart (dOp dAddA (dVar 2) (dC (.int 1)))))) (dNm 6) (dYes) (dCall sp__law_in (dCons (dOp rIxD (dVar 0) (dC (.int 2))) (dCons (dVar 6) (dNil)))) [6])) (dThen (dIf (dB (dOp (dEqS fun r => r) (dVar 4) (dC (.str "ahead")))) (dRet (dAndV (dOp rIxD (dVar 3) (dVar 2)) (dNotV (dCB (rBools fun l => l.any id) (dCons (dVar 5) (dNil)))))) (dSkip)) (dRet (dAndV (dOp (dI0 fun i j => .bl (decide (j ≤ i))) (dVar 2) (dOp rIxD (dVar 0) (dC (.int 3)))) (dAndV (dOp rIxD (dVar 5) (dOp (dI0 fun i j => .int (i - j)) (dVar 2) (dOp rIxD (dVar 0) (dC (.int 3))))) (dNotV (dCB (rBools fun l => l.any id) (dCons (dSl (dVar 3) (dPart (dOp (dI0 fun i j => .int (i - j)) (dVar 2) (dOp rIxD (dVar 0) (dC (.int 3))))) (dPart0)) (dNil))))))))))))
noncomputable def bd__law_box : DS := dThen (dSet 2 (dLstO (dNil))) (dThen (dFor (dRng1 (dVar 1)) (dNm 3) (dThen (dSet 4 (dCall sp__law_draw (dCons (dVar 0) (dCons (dC (.int 5)) (dNil))))) (dApp (dVar 2) (dTup (dCons (dVar 4) (dCons (dOp dAddA (dVar 4) (dCall sp__law_some (dCons (dVar 0) (dCons (dLst (dCons (dC (.int 0)) (dCons (dC (.int 0)) (dCons (dC (.int 0)) (dCons (dC (.int 1)) (dCons (dC (.int 2)) (dNil))))))) (dNil))))) (dNil))))))) (dRet (dUn rTupX (dVar 2))))
noncomputable def bd__law_area : DS := dRet (dUn rTupD (dComp (dRng1 (dCall sp__law_some (dCons (dVar 0) (dCons (dLst (dCons (dC (.int 1)) (dCons (dC (.int 1)) (dCons (dC (.int 1)) (dCons (dC (.int 2)) (dCons (dC (.int 3)) (dCons (dC (.int 6)) (dCons (dC (.int 0)) (dNil))))))))) (dNil))))) (dNm 2) (dYes) (dCall sp__law_box (dCons (dVar 0) (dCons (dVar 1) (dNil)))) [2]))
noncomputable def bd__law_wish : DS := dThen (dPar3 3 4 5 (dCons (dCall sp__law_area (dCons (dVar 0) (dCons (dVar 1) (dNil)))) (dCons (dCall sp__law_area (dCons (dVar 0) (dCons (dVar 1) (dNil)))) (dCons (dCall sp__law_some (dCons (dVar 0) (dCons (dLst (dCons (dC (.int 1)) (dCons (dC (.int 1)) (dCons (dC (.int 2)) (dCons (dC (.int 2)) (dCons (dC (.int 3)) (dCons (dC (.int 4)) (dCons (dC (.int 7)) (dCons (dC (.int 30)) (dNil)))))))))) (dNil)))) (dNil))))) (dThen (dSet 2 (dLst (dCons (dTup (dCons (dC (.str "never")) (dCons (dVar 3) (dNil)))) (dCons (dTup (dCons (dC (.str "within")) (dCons (dVar 3) (dCons (dVar 5) (dNil))))) (dCons (dTup (dCons (dC (.str "answered")) (dCons (dVar 3) (dCons (dVar 4) (dCons (dVar 5) (dNil)))))) (dCons (dTup (dCons (dC (.str "ahead")) (dCons (dVar 3) (dCons (dVar 4) (dNil))))) (dCons (dTup (dCons (dC (.str "again")) (dCons (dVar 3) (dCons (dVar 5) (dNil))))) (dNil)))))))) (dRet (dCall sp__law_some (dCons (dVar 0) (dCons (dVar 2) (dNil))))))
noncomputable def bd__law_places : DS := dThen (dSet 3 (dUn rTupD (dComp (dRng1 (dVar 1)) (dNm 6) (dYes) (dCall sp__law_draw (dCons (dVar 0) (dCons (dC (.int 6)) (dNil)))) [6]))) (dThen (dSet 4 (dLstO (dCons (dVar 3) (dNil)))) (dThen (dFor (dRng1 (dVar 2)) (dNm 5) (dThen (dIf (dB (dOp (dI0 fun i j => .bl (decide (j < i))) (dCall sp__law_draw (dCons (dVar 0) (dCons (dC (.int 3)) (dNil)))) (dC (.int 0)))) (dSet 3 (dUn rTupD (dComp (dSeq (dVar 3)) (dNm 7) (dYes) (dCB (rTwo fun i j => if j > i then j else i) (dCons (dC (.int 0)) (dCons (dCB (rTwo fun i j => if j < i then j else i) (dCons (dC (.int 6)) (dCons (dOp (dI0 fun i j => .int (i - j)) (dOp dAddA (dVar 7) (dCall sp__law_draw (dCons (dVar 0) (dCons (dC (.int 3)) (dNil))))) (dC (.int 1))) (dNil)))) (dNil)))) [7]))) (dSkip)) (dApp (dVar 4) (dVar 3)))) (dRet (dFrz (dVar 4)))))
noncomputable def bd__law_lies : DS := dThen (dFor (dSeq (dVar 0)) (dNm 2) (dIf (dNot (dB (dCB (rBools fun l => l.any id) (dCons (dComp (dSeq (dVar 1)) (dNm 3) (dYes) (dCB (rBools fun l => l.all id) (dCons (dComp (dZip (dVar 2) (dVar 3)) (dTg 2 (dGCons (dTg 2 (dGCons (dNm 4) (dGCons (dNm 5) (dGNil)))) (dGCons (dTg 2 (dGCons (dNm 6) (dGCons (dNm 7) (dGNil)))) (dGNil)))) (dYes) (dAndV (dOp (dI0 fun i j => .bl (decide (i ≤ j))) (dVar 6) (dVar 4)) (dOp (dI0 fun i j => .bl (decide (i ≤ j))) (dVar 5) (dVar 7))) [4, 5, 6, 7]) (dNil))) [3]) (dNil))))) (dRet (dC (.bl false))) (dSkip))) (dRet (dC (.bl true)))
noncomputable def bd__law_is_harder : DS := dThen (dIf (dB (dOp (dEqS fun r => !r) (dOp rIxD (dVar 0) (dC (.int 0))) (dOp rIxD (dVar 1) (dC (.int 0))))) (dRet (dC (.bl false))) (dSkip)) (dThen (dIf (dAnd (dB (dOp (dIn false) (dOp rIxD (dVar 0) (dC (.int 0))) (dTup (dCons (dC (.str "within")) (dCons (dC (.str "answered")) (dCons (dC (.str "again")) (dNil))))))) (dB (dOp (dI0 fun i j => .bl (decide (j < i))) (dOp rIxD (dVar 0) (dUn (dU fun i => .int (-i)) (dC (.int 1)))) (dOp rIxD (dVar 1) (dUn (dU fun i => .int (-i)) (dC (.int 1))))))) (dRet (dC (.bl false))) (dSkip)) (dThen (dIf (dB (dOp (dEqS fun r => r) (dOp rIxD (dVar 0) (dC (.int 0))) (dC (.str "never")))) (dRet (dCall sp__law_lies (dCons (dOp rIxD (dVar 1) (dC (.int 1))) (dCons (dOp rIxD (dVar 0) (dC (.int 1))) (dNil))))) (dSkip)) (dThen (dIf (dB (dOp (dIn false) (dOp rIxD (dVar 0) (dC (.int 0))) (dTup (dCons (dC (.str "within")) (dCons (dC (.str "again")) (dNil)))))) (dRet (dCall sp__law_lies (dCons (dOp rIxD (dVar 0) (dC (.int 1))) (dCons (dOp rIxD (dVar 1) (dC (.int 1))) (dNil))))) (dSkip)) (dThen (dIf (dB (dOp (dEqS fun r => r) (dOp rIxD (dVar 0) (dC (.int 0))) (dC (.str "answered")))) (dRet (dAndV (dCall sp__law_lies (dCons (dOp rIxD (dVar 1) (dC (.int 1))) (dCons (dOp rIxD (dVar 0) (dC (.int 1))) (dNil)))) (dCall sp__law_lies (dCons (dOp rIxD (dVar 0) (dC (.int 2))) (dCons (dOp rIxD (dVar 1) (dC (.int 2))) (dNil)))))) (dSkip)) (dRet (dAndV (dCall sp__law_lies (dCons (dOp rIxD (dVar 0) (dC (.int 1))) (dCons (dOp rIxD (dVar 1) (dC (.int 1))) (dNil)))) (dCall sp__law_lies (dCons (dOp rIxD (dVar 1) (dC (.int 2))) (dCons (dOp rIxD (dVar 0) (dC (.int 2))) (dNil))))))))))
noncomputable def bd__law_other_area : DS := dThen (dSet 3 (dCall sp__law_draw (dCons (dVar 0) (dCons (dC (.int 5)) (dNil))))) (dThen (dIf (dAnd (dB (dOp (dEqS fun r => r) (dVar 3) (dC (.int 0)))) (dB (dOp (dI0 fun i j => .bl (decide (j < i))) (dCB rLenD (dCons (dVar 1) (dNil))) (dC (.int 0))))) (dThen (dSet 6 (dCall sp__law_draw (dCons (dVar 0) (dCons (dCB rLenD (dCons (dVar 1) (dNil))) (dNil))))) (dRet (dOp dAddA (dSl (dVar 1) (dPart0) (dPart (dVar 6))) (dSl (dVar 1) (dPart (dOp dAddA (dVar 6) (dC (.int 1)))) (dPart0))))) (dSkip)) (dThen (dIf (dAnd (dB (dOp (dEqS fun r => r) (dVar 3) (dC (.int 1)))) (dB (dOp (dI0 fun i j => .bl (decide (i < j))) (dCB rLenD (dCons (dVar 1) (dNil))) (dC (.int 6))))) (dRet (dOp dAddA (dVar 1) (dTup (dCons (dCall sp__law_box (dCons (dVar 0) (dCons (dVar 2) (dNil)))) (dNil))))) (dSkip)) (dThen (dSet 4 (dLstO (dNil))) (dThen (dFor (dSeq (dVar 1)) (dNm 5) (dThen (dSet 7 (dCall sp__law_some (dCons (dVar 0) (dCons (dLst (dCons (dC (.int 0)) (dCons (dC (.int 0)) (dCons (dC (.int 1)) (dCons (dUn (dU fun i => .int (-i)) (dC (.int 1))) (dNil)))))) (dNil))))) (dThen (dSet 8 (dCB (rBools fun l => l.all id) (dCons (dComp (dSeq (dVar 5)) (dTg 2 (dGCons (dNm 9) (dGCons (dNm 10) (dGNil)))) (dYes) (dOp (dI0 fun i j => .bl (decide (i ≤ j))) (dOp (dI0 fun i j => .int (i - j)) (dVar 9) (dVar 7)) (dOp dAddA (dVar 10) (dVar 7))) [9, 10]) (dNil)))) (dApp (dVar 4) (dIfE (dB (dVar 8)) (dUn rTupD (dComp (dSeq (dVar 5)) (dTg 2 (dGCons (dNm 9) (dGCons (dNm 10) (dGNil)))) (dYes) (dTup (dCons (dOp (dI0 fun i j => .int (i - j)) (dVar 9) (dVar 7)) (dCons (dOp dAddA (dVar 10) (dVar 7)) (dNil)))) [9, 10])) (dVar 5)))))) (dRet (dIfE (dB (dOp (dI0 fun i j => .bl (decide (j < i))) (dVar 3) (dC (.int 2)))) (dSlS (dUn rTupX (dVar 4)) (dCall sp__law_some (dCons (dVar 0) (dCons (dLst (dCons (dC (.int 1)) (dCons (dUn (dU fun i => .int (-i)) (dC (.int 1))) (dNil)))) (dNil))))) (dVar 1)))))))
noncomputable def bd__law_near : DS := dThen (dSet 3 (dCompO (dSeq (dSl (dVar 1) (dPart (dC (.int 1))) (dPart0))) (dNm 4) (dYes) (dIfE (dB (dCB rIsiD (dCons (dVar 4) (dCons (dC (.ty "tuple")) (dNil))))) (dCall sp__law_other_area (dCons (dVar 0) (dCons (dVar 4) (dCons (dVar 2) (dNil))))) (dVar 4)) [4])) (dThen (dIf (dNot (dB (dCB rIsiD (dCons (dOp rIxD (dVar 3) (dUn (dU fun i => .int (-i)) (dC (.int 1)))) (dCons (dC (.ty "tuple")) (dNil)))))) (dSetIx (dVar 3) (dUn (dU fun i => .int (-i)) (dC (.int 1))) (dCB (rTwo fun i j => if j > i then j else i) (dCons (dC (.int 1)) (dCons (dCB (rTwo fun i j => if j < i then j else i) (dCons (dC (.int 30)) (dCons (dOp dAddA (dOp rIxD (dVar 3) (dUn (dU fun i => .int (-i)) (dC (.int 1)))) (dCall sp__law_some (dCons (dVar 0) (dCons (dLst (dCons (dC (.int 0)) (dCons (dC (.int 0)) (dCons (dC (.int 1)) (dCons (dUn (dU fun i => .int (-i)) (dC (.int 1))) (dNil)))))) (dNil))))) (dNil)))) (dNil))))) (dSkip)) (dRet (dOp dAddA (dTup (dCons (dOp rIxD (dVar 1) (dC (.int 0))) (dNil))) (dUn rTupX (dVar 3)))))
noncomputable def bd__law_none : DS := dThen (dSet 2 (dLstO (dCons (dC .non) (dCons (dC (.int 0)) (dCons (dC (.bl true)) (dCons (dTup (dNil)) (dCons (dC (.str "never")) (dCons (dLst (dNil)) (dCons (dC .dct) (dCons (dCB rListD (dCons (dVar 1) (dNil))) (dCons (dOp dAddA (dVar 1) (dTup (dCons (dC (.int 1)) (dNil)))) (dCons (dSl (dVar 1) (dPart0) (dPart (dC (.int 1)))) (dCons (dTup (dCons (dVar 1) (dNil))) (dCons (dOp dAddA (dTup (dCons (dC (.str "Never")) (dNil))) (dSl (dVar 1) (dPart (dC (.int 1))) (dPart0))) (dNil))))))))))))))) (dThen (dSet 2 (dOp dAddLO (dVar 2) (dLst (dCons (dTup (dCons (dC (.str "within")) (dCons (dOp rIxD (dVar 1) (dC (.int 1))) (dNil)))) (dCons (dTup (dCons (dC (.str "within")) (dCons (dOp rIxD (dVar 1) (dC (.int 1))) (dCons (dC (.int 0)) (dNil))))) (dCons (dTup (dCons (dC (.str "within")) (dCons (dOp rIxD (dVar 1) (dC (.int 1))) (dCons (dC (.int 31)) (dNil))))) (dCons (dTup (dCons (dC (.str "within")) (dCons (dOp rIxD (dVar 1) (dC (.int 1))) (dCons (dC (.bl true)) (dNil))))) (dNil)))))))) (dThen (dSet 2 (dOp dAddLO (dVar 2) (dLst (dCons (dTup (dCons (dC (.str "never")) (dCons (dC .non) (dNil)))) (dCons (dTup (dCons (dC (.str "never")) (dCons (dTup (dCons (dTup (dCons (dTup (dCons (dC (.int 1)) (dCons (dC (.int 0)) (dNil)))) (dNil))) (dNil))) (dNil)))) (dCons (dTup (dCons (dC (.str "never")) (dCons (dTup (dCons (dTup (dCons (dTup (dCons (dC (.int 0)) (dCons (dC (.int 1001)) (dNil)))) (dNil))) (dNil))) (dNil)))) (dNil))))))) (dThen (dApp (dVar 2) (dTup (dCons (dC (.str "never")) (dCons (dTup (dCons (dTup (dCons (dTup (dCons (dC (.int 0)) (dCons (dC (.int 1)) (dNil)))) (dNil))) (dCons (dOp dMulT (dTup (dCons (dTup (dCons (dC (.int 0)) (dCons (dC (.int 1)) (dNil)))) (dNil))) (dC (.int 2))) (dNil)))) (dNil))))) (dThen (dSet 2 (dOp dAddLO (dVar 2) (dLst (dCons (dTup (dCons (dC (.str "never")) (dCons (dLst (dCons (dTup (dCons (dTup (dCons (dC (.int 0)) (dCons (dC (.int 1)) (dNil)))) (dNil))) (dNil))) (dNil)))) (dCons (dTup (dCons (dC (.str "never")) (dCons (dTup (dCons (dTup (dNil)) (dNil))) (dNil)))) (dCons (dTup (dCons (dC (.str "never")) (dCons (dTup (dCons (dOp dMulT (dTup (dCons (dTup (dCons (dC (.int 0)) (dCons (dC (.int 1)) (dNil)))) (dNil))) (dC (.int 4))) (dNil))) (dNil)))) (dCons (dTup (dCons (dC (.str "never")) (dCons (dOp dMulT (dTup (dCons (dTup (dCons (dTup (dCons (dC (.int 0)) (dCons (dC (.int 1)) (dNil)))) (dNil))) (dNil))) (dC (.int 7))) (dNil)))) (dNil)))))))) (dRet (dCall sp__law_some (dCons (dVar 0) (dCons (dOp dAddL (dVar 2) (dLst (dCons (dTup (dCons (dC (.str "never")) (dCons (dTup (dCons (dTup (dCons (dTup (dCons (dC (.bl false)) (dCons (dC (.int 1)) (dNil)))) (dNil))) (dNil))) (dNil)))) (dCons (dTup (dCons (dC (.str "ahead")) (dCons (dOp rIxD (dVar 1) (dC (.int 1))) (dNil)))) (dCons (dCall sp__law_deep (dCons (dVar 0) (dCons (dVar 1) (dNil)))) (dNil)))))) (dNil)))))))))
noncomputable def bd_law (cN : Addr) : DS := dThen (dSet 1 (dCall sp__law_hand (dCons (dVar 0) (dNil)))) (dThen (dFor (dRng1 (dC (.int 3))) (dNm 2) (dThen (dSet 3 (dOp dAddA (dC (.int 1)) (dCall sp__law_draw (dCons (dVar 1) (dCons (dC (.int 3)) (dNil)))))) (dThen (dSet 4 (dCall sp__law_wish (dCons (dVar 1) (dCons (dVar 3) (dNil))))) (dThen (dSet 5 (dLstO (dCons (dVar 4) (dCons (dCall sp__law_near (dCons (dVar 1) (dCons (dVar 4) (dCons (dVar 3) (dNil))))) (dCons (dCall sp__law_wish (dCons (dVar 1) (dCons (dVar 3) (dNil)))) (dNil)))))) (dThen (dApp (dVar 5) (dCall sp__law_near (dCons (dVar 1) (dCons (dOp rIxD (dVar 5) (dC (.int 1))) (dCons (dVar 3) (dNil)))))) (dThen (dSet 6 (dComp (dRng1 (dC (.int 2))) (dNm 7) (dYes) (dCall sp__law_places (dCons (dVar 1) (dCons (dVar 3) (dCons (dC (.int 18)) (dNil))))) [7])) (dThen (dFor (dRng1 (dC (.int 6))) (dNm 7) (dThen (dAsg (dTup (dCons (dCall sp__law_some (dCons (dVar 1) (dCons (dVar 5) (dNil)))) (dCons (dCall sp__law_some (dCons (dVar 1) (dCons (dVar 5) (dNil)))) (dNil)))) (dTg 2 (dGCons (dNm 13) (dGCons (dNm 14) (dGNil))))) (dThen (dSet 11 (dCall sp_harder (dCons (dVar 13) (dCons (dVar 14) (dNil))))) (dThen (dIf (dOr (dNot (dB (dCB rIsiD (dCons (dVar 11) (dCons (dC (.ty "bool")) (dNil)))))) (dB (dOp (dEqS fun r => !r) (dVar 11) (dCall sp__law_is_harder (dCons (dVar 13) (dCons (dVar 14) (dNil))))))) (dRet (dC (.bl false))) (dSkip)) (dFor (dSeq (dVar 6)) (dNm 12) (dThen (dSet 15 (dComp (dSeq (dTup (dCons (dVar 13) (dCons (dVar 14) (dNil))))) (dNm 16) (dYes) (dCB (rBools fun l => l.any id) (dCons (dComp (dRng1 (dCB rLenD (dCons (dVar 12) (dNil)))) (dNm 17) (dYes) (dCall sp__law_breaks (dCons (dVar 16) (dCons (dVar 12) (dCons (dVar 17) (dNil))))) [17]) (dNil))) [16])) (dIf (dAnd (dB (dVar 11)) (dAnd (dB (dOp rIxD (dVar 15) (dC (.int 1)))) (dNot (dB (dOp rIxD (dVar 15) (dC (.int 0))))))) (dRet (dC (.bl false))) (dSkip)))))))) (dThen (dSet 8 (dCall sp__law_none (dCons (dVar 1) (dCons (dVar 4) (dNil))))) (dThen (dAsg (dCall sp__law_some (dCons (dVar 1) (dCons (dLst (dCons (dTup (dCons (dVar 8) (dCons (dVar 4) (dNil)))) (dCons (dTup (dCons (dVar 4) (dCons (dVar 8) (dNil)))) (dCons (dTup (dCons (dVar 8) (dCons (dVar 8) (dNil)))) (dNil))))) (dNil)))) (dTg 2 (dGCons (dNm 13) (dGCons (dNm 14) (dGNil))))) (dIf (dB (dOp (dEqS fun r => !r) (dLam (fun ex => dCallX (spx_harder cN) ex (dCons (dVar 13) (dCons (dVar 14) (dNil)))) (spl__law_word cN)) (dC (.str "wish")))) (dRet (dC (.bl false))) (dSkip))))))))))) (dThen (dAsg (dTup (dCons (dTup (dCons (dC (.str "again")) (dCons (dTup (dCons (dTup (dCons (dTup (dCons (dC (.int 0)) (dCons (dC (.int 1)) (dNil)))) (dNil))) (dNil))) (dCons (dC (.int 3)) (dNil))))) (dCons (dTup (dCons (dC (.str "again")) (dCons (dTup (dCons (dTup (dCons (dTup (dCons (dC (.int 0)) (dCons (dC (.int 2)) (dNil)))) (dNil))) (dNil))) (dCons (dC (.int 3)) (dNil))))) (dNil)))) (dTg 2 (dGCons (dNm 9) (dGCons (dNm 10) (dGNil))))) (dRet (dOp dEq3 (dLst (dCons (dCall sp_harder (dCons (dVar 9) (dCons (dVar 10) (dNil)))) (dCons (dCall sp_harder (dCons (dVar 10) (dCons (dVar 9) (dNil)))) (dCons (dCall sp_harder (dCons (dVar 9) (dCons (dOp dAddA (dTup (dCons (dC (.str "within")) (dNil))) (dSl (dVar 9) (dPart (dC (.int 1))) (dPart0))) (dNil)))) (dNil))))) (dLst (dCons (dC (.bl true)) (dCons (dC (.bl false)) (dCons (dC (.bl false)) (dNil)))))))))
end Lk19
namespace Lk19
open PySem PySem.Spec PyProof.Rows L2 SC
variable [TabL] [XCx]
local macro_rules | `(tactic| walk_at "sc") => `(tactic| simp only [dThen, dSet, dRet, dCall, dCons, dNil, dVar, dC, dCB, dComp, dZip, dSeq, dOp, dIf, dB, dIfE, dNot, dAnd, dOr, dAndV, dOrV, dNotV, dSkip, dExpr, dFor, dApp, dTup, dLst, dLstO, dUn, dPar, dPar3, dAsg, dFrz, frzD, dSetIx, dSl, dPart, dPart0, dRng1, dRng2, dZip3, dEnum, dChain, dNm, dTg, dGCons, dGNil, dYes, dI0, dI, dU, dEqS, eqS, dIsN, isNon, dAddA, dAddL, dAddLO, dMulT, dSlS, dCompO, dIn, rIxD, rLenD, rBools, rAbsD, rIntD, rTwo, rTupD, rTupX, rIsiD, tyD,
  startD, List.map_cons, List.map_nil, List.length_cons, List.length_nil, Nat.reduceAdd, Nat.reduceSub, List.replicate_succ, List.replicate_zero, List.cons_append, List.nil_append, List.append_nil,
  List.getElem?_cons_zero, List.getElem?_cons_succ, List.set_cons_zero, List.set_cons_succ, wipeD, atI_0, atI_1, atI_2, atI_3, atI_4, oset_same, oset_oset, true_and, and_true, ix5])
theorem and_go {P : D → Prop} {a b : Bool} (h : P (.bl (a && b))) : match D.bl a with
    | .bl true => P (.bl b)
    | .bl false => P (.bl false)
    | _ => False := by cases a <;> exact h

theorem rd_is_integer : ∀ ds O (kk : D → OH → Prop), sp_is_integer ds O kk → bd_is_integer { nx := fun _ O' => kk .non O', rt := kk } (startD ["thing"] ds) O := by
  rintro ds O kk ⟨d, rfl, hp, h⟩
  unfold bd_is_integer
  walk_at "sc"
  cases d <;> first | (simp [pl] at hp; done) | skip
  all_goals refine ⟨by simp, ?_⟩
  all_goals first | exact h | (refine ⟨by simp, ?_⟩; exact h)
theorem rd_is_between : ∀ ds O (kk : D → OH → Prop), sp_is_between ds O kk → bd_is_between { nx := fun _ O' => kk .non O', rt := kk } (startD ["least", "most", "thing"] ds) O := by
  rintro ds O kk ⟨l, m, d, rfl, hp, h⟩
  unfold bd_is_between
  walk_at "sc"
  refine ⟨d, rfl, hp, ?_⟩
  cases d <;> first | exact h | skip
  exact and_go (P := fun d => kk d O) h
theorem rd_is_tuple : ∀ ds O (kk : D → OH → Prop), sp_is_tuple ds O kk → bd_is_tuple { nx := fun _ O' => kk .non O', rt := kk } (startD ["least", "most", "thing"] ds) O := by
  rintro ds O kk ⟨l, m, d, rfl, hp, h⟩
  unfold bd_is_tuple
  walk_at "sc"
  cases d <;> first | (simp [pl] at hp; done) | skip
  all_goals refine ⟨by simp, ?_⟩
  all_goals first | exact h | exact and_go (P := fun d => kk d O) h
theorem rd_is_pair : ∀ ds O (kk : D → OH → Prop), sp_is_pair ds O kk → bd_is_pair { nx := fun _ O' => kk .non O', rt := kk } (startD ["thing"] ds) O := by
  rintro ds O kk ⟨d, rfl, hp, h⟩
  unfold bd_is_pair
  walk_at "sc"
  exact ⟨2, 2, d, rfl, hp, h⟩
theorem all_flat (ws : List Str) : (ws.map D.str).all flatF = true := by
  rw [List.all_map, List.all_eq_true]; exact fun _ _ => rfl
theorem rd_is_one_of : ∀ ds O (kk : D → OH → Prop), sp_is_one_of ds O kk → bd_is_one_of { nx := fun _ O' => kk .non O', rt := kk } (startD ["words", "thing"] ds) O := by
  rintro ds O kk ⟨ws, d, rfl, hp, h⟩
  unfold bd_is_one_of
  walk_at "sc"
  cases d <;> first | (simp [pl] at hp; done) | skip
  all_goals refine ⟨by simp, ?_⟩
  all_goals first | exact h | exact ⟨⟨rfl, all_flat ws⟩, h⟩
theorem rd_is_span : ∀ ds O (kk : D → OH → Prop), sp_is_span ds O kk → bd_is_span { nx := fun _ O' => kk .non O', rt := kk } (startD ["least", "most", "thing"] ds) O := by
  rintro ds O kk ⟨l, m, d, rfl, hp, h⟩
  unfold bd_is_span
  walk_at "sc"
  refine ⟨d, rfl, hp, ?_⟩
  cases d <;> first | exact h | skip
  rename_i xs
  match xs, hp, h with
  | [], hp, h => exact h
  | [x], hp, h =>
    have e : tupB 2 2 (.tup [x]) = false := by simp [tupB]
    have e2 : spanB l m (.tup [x]) = false := by cases x <;> rfl
    rw [e]; rw [e2] at h; exact h
  | [x, y], hp, h =>
    have e : tupB 2 2 (.tup [x, y]) = true := by simp [tupB]
    rw [e]
    simp only [pl, plL, Bool.and_eq_true] at hp
    refine ⟨l, m, x, rfl, hp.1, ?_⟩
    cases x <;> first | exact h | skip
    rename_i i
    have h : kk (.bl ((decide (l ≤ i) && decide (i ≤ m)) && betw i m y)) O := h
    show (match D.bl (decide (l ≤ i) && decide (i ≤ m)) with | .bl true => sp_is_between [.int i, .int m, y] O kk | .bl false => kk (.bl false) O | _ => False)
    revert h
    cases (decide (l ≤ i) && decide (i ≤ m)) with
    | true => exact fun h => ⟨i, m, y, rfl, hp.2.1, h⟩
    | false => exact fun h => h
  | x :: y :: z :: r, hp, h =>
    have e : tupB 2 2 (.tup (x :: y :: z :: r)) = false := by
      simp only [tupB, List.length_cons, Bool.and_eq_false_iff, decide_eq_false_iff_not]; right; omega
    have e2 : spanB l m (.tup (x :: y :: z :: r)) = false := by cases x <;> rfl
    rw [e]; rw [e2] at h; exact h
end Lk19
namespace Lk19
open PySem PySem.Spec PyProof.Rows L2 SC
variable [TabL] [XCx]
local macro_rules | `(tactic| walk_at "sc") => `(tactic| simp only [dThen, dSet, dRet, dCall, dCons, dNil, dVar, dC, dCB, dComp, dZip, dSeq, dOp, dIf, dB, dIfE, dNot, dAnd, dOr, dAndV, dOrV, dNotV, dSkip, dExpr, dFor, dApp, dTup, dLst, dLstO, dUn, dPar, dPar3, dAsg, dFrz, frzD, dSetIx, dSl, dPart, dPart0, dRng1, dRng2, dZip3, dEnum, dChain, dNm, dTg, dGCons, dGNil, dYes, dI0, dI, dU, dEqS, eqS, dIsN, isNon, dAddA, dAddL, dAddLO, dMulT, dSlS, dCompO, dIn, rIxD, rLenD, rBools, rAbsD, rIntD, rTwo, rTupD, rTupX, rIsiD, tyD,
  startD, List.map_cons, List.map_nil, List.length_cons, List.length_nil, Nat.reduceAdd, Nat.reduceSub, List.replicate_succ, List.replicate_zero, List.cons_append, List.nil_append, List.append_nil,
  List.getElem?_cons_zero, List.getElem?_cons_succ, List.set_cons_zero, List.set_cons_succ, wipeD, atI_0, atI_1, atI_2, atI_3, atI_4, oset_same, oset_oset, true_and, and_true, ix5])
theorem rd_are_spans : ∀ ds O (kk : D → OH → Prop), sp_are_spans ds O kk → bd_are_spans { nx := fun _ O' => kk .non O', rt := kk } (startD ["fewest", "many", "least", "most", "thing", "span"] ds) O := by
  rintro ds O kk ⟨f, n, l, m, d, rfl, hn, hp, h⟩
  unfold bd_are_spans
  walk_at "sc"
  refine ⟨f, n, d, rfl, hp, ?_⟩
  cases d <;> first | exact h | skip
  rename_i xs
  have h : kk (.bl (tupB f n (.tup xs) && xs.all (spanB l m))) O := h
  cases e : tupB f n (.tup xs) with
  | false => rw [e] at h; exact h
  | true =>
    rw [e] at h
    simp only [tupB, Bool.and_eq_true, decide_eq_true_eq] at e
    simp only [pl] at hp
    show _ ∧ _
    refine ⟨small_len (by omega), ?_⟩
    rw [show xs = xs.map id from (List.map_id xs).symm]
    refine dAcc_map _ (fun x => .bl (spanB l m x)) _ _ _ (fun x hx O k' h' => ?_) ?_
    · walk_at "sc"
      exact ⟨l, m, x, rfl, plL_mem hp x hx, h'⟩
    · rw [List.nil_append, boolsD_map']
      show kk (.bl ((xs.map _).all id)) O
      rw [List.all_map]
      exact h
theorem rd_is_box : ∀ ds O (kk : D → OH → Prop), sp_is_box ds O kk → bd_is_box { nx := fun _ O' => kk .non O', rt := kk } (startD ["axes", "thing"] ds) O := by
  rintro ds O kk ⟨ax, d, rfl, hn, hp, h⟩
  unfold bd_is_box
  walk_at "sc"
  exact ⟨ax, ax, -1000, 1000, d, rfl, hn, hp, h⟩
theorem rd_is_area : ∀ ds O (kk : D → OH → Prop), sp_is_area ds O kk → bd_is_area { nx := fun _ O' => kk .non O', rt := kk } (startD ["axes", "thing", "box"] ds) O := by
  rintro ds O kk ⟨ax, d, rfl, hn, hp, h⟩
  unfold bd_is_area
  walk_at "sc"
  refine ⟨0, 6, d, rfl, hp, ?_⟩
  cases d <;> first | exact h | skip
  rename_i xs
  have h : kk (.bl (tupB 0 6 (.tup xs) && xs.all (boxB ax))) O := h
  cases e : tupB 0 6 (.tup xs) with
  | false => rw [e] at h; exact h
  | true =>
    rw [e] at h
    simp only [tupB, Bool.and_eq_true, decide_eq_true_eq] at e
    simp only [pl] at hp
    show _ ∧ _
    refine ⟨small_len (by omega), ?_⟩
    rw [show xs = xs.map id from (List.map_id xs).symm]
    refine dAcc_map _ (fun x => .bl (boxB ax x)) _ _ _ (fun x hx O k' h' => ?_) ?_
    · walk_at "sc"
      exact ⟨ax, x, rfl, hn, plL_mem hp x hx, h'⟩
    · rw [List.nil_append, boolsD_map']
      show kk (.bl ((xs.map _).all id)) O
      rw [List.all_map]
      exact h
theorem rd_is_wish_itself : ∀ ds O (kk : D → OH → Prop), sp_is_wish_itself ds O kk → bd_is_wish_itself { nx := fun _ O' => kk .non O', rt := kk } (startD ["thing", "axes"] ds) O := by
  rintro ds O kk ⟨d, rfl, hp, h⟩
  unfold bd_is_wish_itself
  walk_at "sc"
  refine ⟨small_len (by simp), small_len (by simp), ?_⟩
  unfold dAcc
  refine ⟨1, d, rfl, by omega, hp, ?_⟩
  unfold dAcc
  refine ⟨2, d, rfl, by omega, hp, ?_⟩
  unfold dAcc
  refine ⟨3, d, rfl, by omega, hp, ?_⟩
  unfold dAcc
  show kk (.bl ([wishB 1 d, wishB 2 d, wishB 3 d].any id)) O
  have e : [wishB 1 d, wishB 2 d, wishB 3 d].any id = wishI d := by
    unfold wishI
    simp [Bool.or_assoc]
  rw [e]; exact h
end Lk19
namespace Lk19
open PySem PySem.Spec PyProof.Rows L2 SC
variable [TabL] [XCx]
local macro_rules | `(tactic| walk_at "sc") => `(tactic| simp only [dThen, dSet, dRet, dCall, dCons, dNil, dVar, dC, dCB, dComp, dZip, dSeq, dOp, dIf, dB, dIfE, dNot, dAnd, dOr, dAndV, dOrV, dNotV, dSkip, dExpr, dFor, dApp, dTup, dLst, dLstO, dUn, dPar, dPar3, dAsg, dFrz, frzD, dSetIx, dSl, dPart, dPart0, dRng1, dRng2, dZip3, dEnum, dChain, dNm, dTg, dGCons, dGNil, dYes, dI0, dI, dU, dEqS, eqS, dIsN, isNon, dAddA, dAddL, dAddLO, dMulT, dSlS, dCompO, dIn, rIxD, rLenD, rBools, rAbsD, rIntD, rTwo, rTupD, rTupX, rIsiD, tyD,
  startD, List.map_cons, List.map_nil, List.length_cons, List.length_nil, Nat.reduceAdd, Nat.reduceSub, List.replicate_succ, List.replicate_zero, List.cons_append, List.nil_append, List.append_nil,
  List.getElem?_cons_zero, List.getElem?_cons_succ, List.set_cons_zero, List.set_cons_succ, wipeD, atI_0, atI_1, atI_2, atI_3, atI_4, oset_same, oset_oset, true_and, and_true, ix5])
theorem wds_flat (x : D) (h : oneB wds x = true) : ∃ w, x = .str w := by
  cases x <;> first | exact ⟨_, rfl⟩ | cases h
theorem tail_short (ax : Int) (x : D) : tailB ax x [] = false := by
  unfold tailB; cases oneB wds x <;> cases oneB wdsK x <;> cases oneB wdsO x <;> rfl
theorem tail_long (ax : Int) (x a b c d : D) (r : List D) : tailB ax x (a :: b :: c :: d :: r) = false := by
  unfold tailB; cases oneB wds x <;> cases oneB wdsK x <;> cases oneB wdsO x <;> rfl
theorem tail_mid (ax : Int) (x : D) (r : List D) (h : oneB wds x = true) : tailB ax x r = bif oneB wdsK x then (bif oneB wdsO x then (match r with
        | [a, b, k] => betw 1 30 k && (areaB ax a && areaB ax b)
        | _ => false)
      else match r with
        | [a, k] => betw 1 30 k && areaB ax a
        | _ => false)
    else (bif oneB wdsO x then (match r with
        | [a, b] => areaB ax a && areaB ax b
        | _ => false)
      else match r with
        | [a] => areaB ax a
        | _ => false) := by
  unfold tailB; rw [h]; rfl
theorem areas_go {kk : D → OH → Prop} {O : OH} (ax : Int) (hn : ax ≤ 1000) (t c : Option D) (xs : List D) (hp : ∀ x ∈ xs, pl x = true) (hl : xs.length ≤ 4) (h : kk (.bl (xs.all (areaB ax))) O) :
    xs.length ≤ sizeLine ∧ dAcc (dNm 3) dYes (dCall sp_is_area (dCons (dVar 0) (dCons (dVar 3) dNil))) [some (D.int ax), t, c, none] (fun acc O2 => match boolsD acc with
      | some l => kk (D.bl (l.all id)) O2
      | none => False) xs [] O := by
  refine ⟨small_len (by omega), ?_⟩
  rw [show xs = xs.map id from (List.map_id xs).symm]
  refine dAcc_map _ (fun x => .bl (areaB ax x)) _ _ _ (fun x hx O k' h' => ?_) ?_
  · walk_at "sc"
    exact ⟨ax, x, rfl, hn, hp x hx, h'⟩
  · rw [List.nil_append, boolsD_map']
    show kk (.bl ((xs.map _).all id)) O
    rw [List.all_map]
    exact h
theorem cut12 (x a : D) : cutA [x, a] (some 1) (some 2) = [a] := by rfl
theorem cut22 (x a b : D) : cutA [x, a, b] (some 1) (some 2) = [a] := by rfl
theorem cut23 (x a b : D) : cutA [x, a, b] (some 1) (some 3) = [a, b] := by rfl
theorem cut33 (x a b c : D) : cutA [x, a, b, c] (some 1) (some 3) = [a, b] := by rfl
theorem rd_is_wish : ∀ ds O (kk : D → OH → Prop), sp_is_wish ds O kk → bd_is_wish { nx := fun _ O' => kk .non O', rt := kk } (startD ["axes", "thing", "ahead_of_k", "area"] ds) O := by
  rintro ds O kk ⟨ax, d, rfl, hn, hp, h⟩
  unfold bd_is_wish c_WORDS c_WITH_OTHER c_WITH_K
  walk_at "sc"
  refine ⟨2, 4, d, rfl, hp, ?_⟩
  cases d <;> first | exact h | skip
  rename_i xs
  match xs, hp, h with
  | [], hp, h => exact h
  | [x], hp, h =>
    have h : kk (.bl (tailB ax x [])) O := h
    rw [tail_short] at h
    have e : tupB 2 4 (.tup [x]) = false := by simp [tupB]
    rw [e]; exact h
  | x :: a :: b :: c :: d :: r, hp, h =>
    have h : kk (.bl (tailB ax x (a :: b :: c :: d :: r))) O := h
    rw [tail_long] at h
    have e : tupB 2 4 (.tup (x :: a :: b :: c :: d :: r)) = false := by simp [tupB]; omega
    rw [e]; exact h
  | [x, a], hp, h =>
    have h : kk (.bl (tailB ax x [a])) O := h
    have e : tupB 2 4 (.tup [x, a]) = true := by simp [tupB]
    rw [e]
    simp only [pl, plL, Bool.and_eq_true] at hp
    refine ⟨wds, x, rfl, hp.1, ?_⟩
    cases ho : oneB wds x with
    | false => rw [t_other ho] at h; exact h
    | true =>
      rw [tail_mid _ _ _ ho] at h
      obtain ⟨w, rfl⟩ := wds_flat x ho
      refine ⟨⟨rfl, all_flat wdsO⟩, ?_⟩
      have z : (List.map D.str wdsO).any (fun y => eqF y (.str w)) = oneB wdsO (.str w) := rfl
      have z2 : (List.map D.str wdsK).any (fun y => eqF y (.str w)) = oneB wdsK (.str w) := rfl
      simp only [Bool.false_eq_true, if_false, z, atI_0, z2]
      cases e1 : oneB wdsO (.str w) <;> cases e2 : oneB wdsK (.str w) <;> simp only [e1, e2, cond_true, cond_false] at h <;> refine ⟨⟨rfl, all_flat wdsK⟩, ?_⟩ <;> try exact h
      show _ ∧ _
      rw [cut12]
      exact areas_go ax hn _ _ [a] (by simp [hp.2.1]) (by simp) (by simpa using h)
  | [x, a, b], hp, h =>
    have h : kk (.bl (tailB ax x [a, b])) O := h
    have e : tupB 2 4 (.tup [x, a, b]) = true := by simp [tupB]
    rw [e]
    simp only [pl, plL, Bool.and_eq_true] at hp
    refine ⟨wds, x, rfl, hp.1, ?_⟩
    cases ho : oneB wds x with
    | false => rw [t_other ho] at h; exact h
    | true =>
      rw [tail_mid _ _ _ ho] at h
      obtain ⟨w, rfl⟩ := wds_flat x ho
      refine ⟨⟨rfl, all_flat wdsO⟩, ?_⟩
      have z : (List.map D.str wdsO).any (fun y => eqF y (.str w)) = oneB wdsO (.str w) := rfl
      have z2 : (List.map D.str wdsK).any (fun y => eqF y (.str w)) = oneB wdsK (.str w) := rfl
      simp only [Bool.false_eq_true, if_false, z, atI_0, z2]
      cases e1 : oneB wdsO (.str w) <;> cases e2 : oneB wdsK (.str w) <;> simp only [e1, e2, cond_true, cond_false] at h <;> refine ⟨⟨rfl, all_flat wdsK⟩, ?_⟩ <;> try exact h
      · refine ⟨1, 30, b, rfl, hp.2.2.1, ?_⟩
        revert h
        cases betw 1 30 b with
        | false => exact fun h => h
        | true =>
          intro h
          show _ ∧ _
          rw [cut22]
          exact areas_go ax hn _ _ [a] (by simp [hp.2.1]) (by simp) (by simpa using h)
      · show _ ∧ _
        rw [cut23]
        exact areas_go ax hn _ _ [a, b] (by simp [hp.2.1, hp.2.2.1]) (by simp) (by simpa using h)
  | [x, a, b, c], hp, h =>
    have h : kk (.bl (tailB ax x [a, b, c])) O := h
    have e : tupB 2 4 (.tup [x, a, b, c]) = true := by simp [tupB]
    rw [e]
    simp only [pl, plL, Bool.and_eq_true] at hp
    refine ⟨wds, x, rfl, hp.1, ?_⟩
    cases ho : oneB wds x with
    | false => rw [t_other ho] at h; exact h
    | true =>
      rw [tail_mid _ _ _ ho] at h
      obtain ⟨w, rfl⟩ := wds_flat x ho
      refine ⟨⟨rfl, all_flat wdsO⟩, ?_⟩
      have z : (List.map D.str wdsO).any (fun y => eqF y (.str w)) = oneB wdsO (.str w) := rfl
      have z2 : (List.map D.str wdsK).any (fun y => eqF y (.str w)) = oneB wdsK (.str w) := rfl
      simp only [Bool.false_eq_true, if_false, z, atI_0, z2]
      cases e1 : oneB wdsO (.str w) <;> cases e2 : oneB wdsK (.str w) <;> simp only [e1, e2, cond_true, cond_false] at h <;> refine ⟨⟨rfl, all_flat wdsK⟩, ?_⟩ <;> try exact h
      refine ⟨1, 30, c, rfl, hp.2.2.2.1, ?_⟩
      revert h
      cases betw 1 30 c with
      | false => exact fun h => h
      | true =>
        intro h
        show _ ∧ _
        rw [cut33]
        exact areas_go ax hn _ _ [a, b] (by simp [hp.2.1, hp.2.2.1]) (by simp) (by simpa using h)
end Lk19
namespace Lk19
open PySem PySem.Spec PyProof.Rows L2 SC
variable [TabL] [XCx]
local macro_rules | `(tactic| walk_at "sc") => `(tactic| simp only [dThen, dSet, dRet, dCall, dCons, dNil, dVar, dC, dCB, dComp, dZip, dSeq, dOp, dIf, dB, dIfE, dNot, dAnd, dOr, dAndV, dOrV, dNotV, dSkip, dExpr, dFor, dApp, dTup, dLst, dLstO, dUn, dPar, dPar3, dAsg, dFrz, frzD, dSetIx, dSl, dPart, dPart0, dRng1, dRng2, dZip3, dEnum, dChain, dNm, dTg, dGCons, dGNil, dYes, dI0, dI, dU, dEqS, eqS, dIsN, isNon, dAddA, dAddL, dAddLO, dMulT, dSlS, dCompO, dIn, rIxD, rLenD, rBools, rAbsD, rIntD, rTwo, rTupD, rTupX, rIsiD, tyD,
  startD, List.map_cons, List.map_nil, List.length_cons, List.length_nil, Nat.reduceAdd, Nat.reduceSub, List.replicate_succ, List.replicate_zero, List.cons_append, List.nil_append, List.append_nil,
  List.getElem?_cons_zero, List.getElem?_cons_succ, List.set_cons_zero, List.set_cons_succ, wipeD, atI_0, atI_1, atI_2, atI_3, atI_4, oset_same, oset_oset, true_and, and_true, ix5])
theorem rd__law_draw : ∀ ds O (kk : D → OH → Prop), sp__law_draw ds O kk → bd__law_draw { nx := fun _ O' => kk .non O', rt := kk } (startD ["hand", "many", "number", "cell", "digit"] ds) O := by
  rintro ds O kk ⟨p, h, m, rfl, hO, ⟨cs, i, big, seed, c, rfl, hi⟩, hm, hm2, hk⟩
  rw [← oset_id hO]
  have hdiv : ∀ a b : Int, 0 < b → b < 1073741824 → CDiv a b := fun a b h1 h2 => ⟨h1, h2⟩
  unfold bd__law_draw
  refine dThen_by (fun e O' => ∃ h' x, HandOk h' ∧ e = [some (.own p), some (.int m), none, x, none] ∧ O' = oset O p h') (fun nx hn => ?_) ?_
  · walk_at "sc"
    by_cases z : big = 0
    · rw [decide_eq_true z]
      walk_at "sc"
      rw [List.length_map]
      by_cases z2 : i < (cs.length : Int)
      · rw [decide_eq_true z2]
        obtain ⟨x, _, hx⟩ := atI_map (f := D.int) hi z2
        walk_at "sc"
        simp only [hx]
        refine ⟨.inr ⟨by decide, by decide⟩, by decide, ⟨by decide, by decide, by decide⟩, ?_⟩
        by_cases z3 : (10 : Int) ^ (18 : Int).toNat ≤ x
        · rw [decide_eq_true z3]
          exact hn _ _ ⟨_, _, ⟨cs, i + 1, x, _, c, rfl, by omega⟩, rfl, rfl⟩
        · rw [decide_eq_false z3]
          exact hn _ _ ⟨_, _, ⟨cs, i + 1, big, _, c, rfl, by omega⟩, rfl, rfl⟩
      · rw [decide_eq_false z2]
        exact hn _ _ ⟨_, _, ⟨cs, i, big, seed, c, rfl, hi⟩, rfl, rfl⟩
    · rw [decide_eq_false z]
      exact hn _ _ ⟨_, _, ⟨cs, i, big, seed, c, rfl, hi⟩, rfl, rfl⟩
  · rintro e O' ⟨h', x, ⟨cs, i, big, seed, c, rfl, hi⟩, rfl, rfl⟩
    walk_at "sc"
    by_cases z : 0 < big
    · rw [decide_eq_true z]
      walk_at "sc"
      exact ⟨hm, hdiv _ _ hm hm2, hk _ _ (mod_lt' hm).1 (mod_lt' hm).2 ⟨cs, i, _, seed, c, rfl, hi⟩⟩
    · rw [decide_eq_false z]
      walk_at "sc"
      have ub : ∀ a : Int, -(2 ^ 64) < a % 2147483647 ∧ a % 2147483647 < 2 ^ 64 := fun a => by
        have := mod_lt' (a := a) (show (0 : Int) < 2147483647 by decide)
        constructor <;> omega
      exact ⟨.inl ⟨by decide, by decide⟩, .inr ⟨by decide, by decide⟩, by decide, hdiv _ _ (by decide) (by decide), .inl (ub _), by decide, hdiv _ _ (by decide) (by decide), .inl (ub _), by decide, hdiv _ _ (by decide) (by decide), hm, hk _ _ (mod_lt' hm).1 (mod_lt' hm).2 ⟨cs, i, big, seed, _, rfl, hi⟩⟩
theorem rd__law_hand : ∀ ds O (kk : D → OH → Prop), sp__law_hand ds O kk → bd__law_hand { nx := fun _ O' => kk .non O', rt := kk } (startD ["script", "cells", "cell"] ds) O := by
  rintro ds O kk ⟨ns, rfl, hl, h⟩
  unfold bd__law_hand
  walk_at "sc"
  rw [cut_take (n := 63) (i := 63) rfl, ← List.map_take]
  refine ⟨small_len (by rw [List.length_map, List.length_take]; omega), dAcc_map _ (fun n => .int (if n < 0 then -n else n)) _ _ _ (fun n _ O k' h' => ?_) ?_⟩
  · walk_at "sc"
    exact h'
  · rw [List.nil_append]
    have e : (ns.take 63).map (fun n => D.int (if n < 0 then -n else n)) = ((ns.take 63).map fun n => if n < 0 then -n else n).map D.int := by rw [List.map_map]; rfl
    rw [e]
    exact ⟨.inl ⟨by decide, by decide⟩, small_len (by simp), fun p hp => h p _ hp ⟨_, 0, 0, _, 0, rfl, by decide⟩⟩
theorem rd__law_some : ∀ ds O (kk : D → OH → Prop), sp__law_some ds O kk → bd__law_some { nx := fun _ O' => kk .non O', rt := kk } (startD ["hand", "things"] ds) O := by
  rintro ds O kk ⟨p, h, x, xs, rfl, hO, hh, hx, hne, hl, hk⟩
  unfold bd__law_some
  have pos : 0 < xs.length := List.length_pos_iff.mpr hne
  rcases hx with rfl | ⟨q, rfl, hq, hO2⟩
  · walk_at "sc"
    refine ⟨p, h, _, rfl, hO, hh, by omega, by omega, fun n h' h0 h1 hh' => ?_⟩
    walk_at "sc"
    have hn : n.toNat < xs.length := by omega
    rw [atI_in (n := n.toNat) (by omega) (List.getElem?_eq_getElem hn)]
    exact hk _ (List.getElem_mem hn) h' hh'
  · walk_at "sc"
    rw [hO2]
    refine ⟨p, h, _, rfl, hO, hh, by omega, by omega, fun n h' h0 h1 hh' => ?_⟩
    have hn : n.toNat < xs.length := by omega
    have e : oset O p h' q = some xs := by rw [oset_ne hq]; exact hO2
    show (match oset O p h' q with | some xs => _ | none => _)
    rw [e]
    show (match atI xs n with | some x => _ | none => _)
    rw [atI_in (n := n.toNat) (by omega) (List.getElem?_eq_getElem hn)]
    exact hk _ (List.getElem_mem hn) h' hh'
theorem rd__law_in : ∀ ds O (kk : D → OH → Prop), sp__law_in ds O kk → bd__law_in { nx := fun _ O' => kk .non O', rt := kk } (startD ["area", "place", "box", "one", "low", "high"] ds) O := by
  rintro ds O kk ⟨B, ax, a, p, rfl, hN, ⟨ha, hb⟩, hp, h⟩
  unfold bd__law_in areaD
  walk_at "sc"
  refine ⟨small_len (by rw [List.length_map]; omega), dAcc_map _ (fun b => .bl (inBox b p)) _ _ _ (fun b hm O k' h' => ?_) ?_⟩
  · have hb := hb b hm
    have hb := hb.1
    have hx := hN.2.2.2
    unfold boxD rowD
    walk_at "sc"
    rw [pairsD_map]
    refine ⟨small_len (by rw [List.length_map, List.length_zip]; omega), dAcc_map _ (fun q => .bl (decide (q.2.1 ≤ q.1) && decide (q.1 ≤ q.2.2))) _ _ _ (fun q _ O k' h' => ?_) ?_⟩
    · unfold pairD
      walk_at "sc"
      revert h'
      cases decide (q.2.1 ≤ q.1) with
      | true => exact fun h' => h'
      | false => exact fun h' => h'
    · rw [List.nil_append, boolsD_map']
      show k' (.bl (((p.zip b).map _).all id)) O
      rw [List.all_map]
      exact h'
  · rw [List.nil_append, boolsD_map']
    show kk (.bl ((a.map _).any id)) O
    rw [List.any_map]
    exact h
theorem rd__law_box : ∀ ds O (kk : D → OH → Prop), sp__law_box ds O kk → bd__law_box { nx := fun _ O' => kk .non O', rt := kk } (startD ["hand", "axes", "found", "axis", "low"] ds) O := by
  rintro ds O kk ⟨p, h, ax, rfl, hO, hh, a0, a3, hk⟩
  unfold bd__law_box
  walk_at "sc"
  refine ⟨Nat.zero_le _, fun q nq => ⟨⟨by omega, by omega⟩, ?_⟩⟩
  have qp : q ≠ p := own_ne hO nq
  have hO2 : oset O q [] p = some h := by rw [oset_ne qp.symm]; exact hO
  refine dLoop_ind (α := Nat) (fun i => .int (0 + (i : Int))) (fun rest e O' => ∃ (b : Box) (h' : List D) (x y : Option D), HandOk h' ∧ b.length + rest.length = ax.toNat ∧ (∀ q ∈ b, okS 6 q) ∧ e = [some (.own p), some (.int ax), some (.own q), x, y] ∧ O' = oset (oset O q (b.map pairD)) p h') ?_ ?_ (List.range ax.toNat) _ _ ⟨[], h, none, none, hh, by rw [List.length_range]; exact Nat.zero_add _, (fun q hq => nomatch hq), rfl, (oset_id hO2).symm⟩
  · rintro i rest e O' ⟨b, h', x, y, hh', hl, hb, rfl, rfl⟩ nx hn
    walk_at "sc"
    refine ⟨p, h', 5, rfl, oset_same, hh', by decide, by decide, fun n h2 n0 n1 hh2 => ?_⟩
    walk_at "sc"
    simp only [oset_ne qp, oset_same]
    refine ⟨small_len (by simp), p, h2, _, _, rfl, oset_same, hh2, .inl rfl, by simp, by simp, fun d hd h3 hh3 => ?_⟩
    have hd : ∃ v : Int, d = .int v ∧ 0 ≤ v ∧ v ≤ 2 := by
      simp only [List.mem_cons, List.not_mem_nil, or_false] at hd
      rcases hd with rfl | rfl | rfl | rfl | rfl <;> exact ⟨_, rfl, by decide, by decide⟩
    obtain ⟨v, rfl, v0, v2⟩ := hd
    walk_at "sc"
    simp only [oset_ne qp, oset_same]
    refine ⟨small_len (by simp), lt_len ?_, hn _ _ ⟨b ++ [(n, n + v)], h3, _, _, hh3, ?_, ?_, rfl, ?_⟩⟩
    · rw [List.length_map]; simp only [List.length_cons] at hl; omega
    · simp only [List.length_append, List.length_cons, List.length_nil] at hl ⊢; omega
    · intro q hq
      rcases List.mem_append.mp hq with hq | hq
      · exact hb q hq
      · rw [List.mem_singleton.mp hq]; exact ⟨by show -6 ≤ n; omega, by show n ≤ n + v; omega, by show n + v ≤ 6; omega⟩
    · rw [oset_comm qp.symm, oset_oset, List.map_append]; rfl
  · rintro e O' ⟨b, h', x, y, hh', hl, hb, rfl, rfl⟩
    walk_at "sc"
    simp only [oset_ne qp, oset_same]
    rw [oset_comm qp, odel_oset (by rw [oset_ne qp]; exact nq)]
    simp only [List.length_nil] at hl
    exact hk _ h' ⟨b, rfl, by omega, hb⟩ hh'
theorem rd__law_area : ∀ ds O (kk : D → OH → Prop), sp__law_area ds O kk → bd__law_area { nx := fun _ O' => kk .non O', rt := kk } (startD ["hand", "axes", "turn"] ds) O := by
  rintro ds O kk ⟨p, h, ax, rfl, hO, hh, a0, a3, hk⟩
  unfold bd__law_area
  walk_at "sc"
  refine ⟨small_len (by simp), p, h, _, _, rfl, hO, hh, .inl rfl, by simp, by simp, fun d hd h2 hh2 => ?_⟩
  have hd : ∃ v : Int, d = .int v ∧ 0 ≤ v ∧ v ≤ 6 := by
    simp only [List.mem_cons, List.not_mem_nil, or_false] at hd
    rcases hd with rfl | rfl | rfl | rfl | rfl | rfl | rfl <;> exact ⟨_, rfl, by decide, by decide⟩
  obtain ⟨v, rfl, v0, v6⟩ := hd
  walk_at "sc"
  refine ⟨⟨by omega, by omega⟩, by rw [rngD_length]; exact small_len (by omega), ?_⟩
  refine dAcc_inv (fun O' => ∃ h', HandOk h' ∧ O' = oset O p h') (fun y => ∃ b, y = boxD b ∧ okB 6 ax b) _ _ _ ?_ ⟨h2, hh2, rfl⟩ ?_
  · rintro d _ O' k' ⟨h', hh', rfl⟩ hk'
    walk_at "sc"
    exact ⟨p, h', ax, rfl, oset_same, hh', a0, a3, fun d h3 ⟨b, e, hb⟩ hh3 => hk' _ _ ⟨b, e, hb⟩ ⟨h3, hh3, by rw [oset_oset]⟩⟩
  · rintro ys O' hy hl ⟨h', hh', rfl⟩
    obtain ⟨bs, rfl, hl2, hb⟩ := all_map hy
    rw [List.nil_append]
    rw [rngD_length] at hl
    exact hk _ h' ⟨bs, rfl, by omega, hb⟩ hh'
theorem rd__law_wish : ∀ ds O (kk : D → OH → Prop), sp__law_wish ds O kk → bd__law_wish { nx := fun _ O' => kk .non O', rt := kk } (startD ["hand", "axes", "some", "one", "other", "k"] ds) O := by
  rintro ds O kk ⟨p, h, ax, rfl, hO, hh, a0, a3, hk⟩
  unfold bd__law_wish
  walk_at "sc"
  refine ⟨p, h, ax, rfl, hO, hh, a0, a3, fun da h1 ⟨a, ea, oa⟩ hh1 => ⟨p, h1, ax, rfl, oset_same, hh1, a0, a3, fun db h2 ⟨b, eb, ob⟩ hh2 => ⟨small_len (by simp), p, h2, _, _, rfl, by rw [oset_oset]; exact oset_same, hh2, .inl rfl, by simp, by simp, fun d hd h3 hh3 => ?_⟩⟩⟩
  subst ea eb
  have hd : ∃ v : Int, d = .int v ∧ 1 ≤ v ∧ v ≤ 30 := by
    simp only [List.mem_cons, List.not_mem_nil, or_false] at hd
    rcases hd with rfl | rfl | rfl | rfl | rfl | rfl | rfl | rfl <;> exact ⟨_, rfl, by decide, by decide⟩
  obtain ⟨v, rfl, v0, v6⟩ := hd
  walk_at "sc"
  refine ⟨small_len (by simp), small_len (by simp), small_len (by simp), small_len (by simp), small_len (by simp), small_len (by simp), p, h3, _, _, rfl, oset_same, hh3, .inl rfl, by simp, by simp, fun d hd h4 hh4 => ?_⟩
  rw [oset_oset]
  simp only [List.mem_cons, List.not_mem_nil, or_false] at hd
  rcases hd with rfl | rfl | rfl | rfl | rfl
  · exact hk _ h4 ⟨.never a, rfl, oa⟩ hh4
  · exact hk _ h4 ⟨.within a v, rfl, oa, v0, v6⟩ hh4
  · exact hk _ h4 ⟨.answered a b v, rfl, oa, ob, v0, v6⟩ hh4
  · exact hk _ h4 ⟨.ahead a b, rfl, oa, ob⟩ hh4
  · exact hk _ h4 ⟨.again a v, rfl, oa, v0, v6⟩ hh4
end Lk19
namespace Lk19
open PySem PySem.Spec PyProof.Rows L2 SC
variable [TabL] [XCx]
local macro_rules | `(tactic| walk_at "sc") => `(tactic| simp only [dThen, dSet, dRet, dCall, dCons, dNil, dVar, dC, dCB, dComp, dZip, dSeq, dOp, dIf, dB, dIfE, dNot, dAnd, dOr, dAndV, dOrV, dNotV, dSkip, dExpr, dFor, dApp, dTup, dLst, dLstO, dUn, dPar, dPar3, dAsg, dFrz, frzD, dSetIx, dSl, dPart, dPart0, dRng1, dRng2, dZip3, dEnum, dChain, dNm, dTg, dGCons, dGNil, dYes, dI0, dI, dU, dEqS, eqS, dIsN, isNon, dAddA, dAddL, dAddLO, dMulT, dSlS, dCompO, dIn, rIxD, rLenD, rBools, rAbsD, rIntD, rTwo, rTupD, rTupX, rIsiD, tyD,
  startD, List.map_cons, List.map_nil, List.length_cons, List.length_nil, Nat.reduceAdd, Nat.reduceSub, List.replicate_succ, List.replicate_zero, List.cons_append, List.nil_append, List.append_nil,
  List.getElem?_cons_zero, List.getElem?_cons_succ, List.set_cons_zero, List.set_cons_succ, wipeD, atI_0, atI_1, atI_2, atI_3, atI_4, oset_same, oset_oset, true_and, and_true, ix5])
theorem sne : strEq "never" "within" = false ∧ strEq "never" "answered" = false ∧ strEq "never" "ahead" = false ∧ strEq "never" "again" = false ∧ strEq "within" "never" = false ∧ strEq "within" "answered" = false ∧ strEq "within" "ahead" = false ∧ strEq "within" "again" = false ∧ strEq "answered" "never" = false ∧ strEq "answered" "within" = false ∧ strEq "answered" "ahead" = false ∧ strEq "answered" "again" = false ∧ strEq "ahead" "never" = false ∧ strEq "ahead" "within" = false ∧ strEq "ahead" "answered" = false ∧ strEq "ahead" "again" = false ∧ strEq "again" "never" = false ∧ strEq "again" "within" = false ∧ strEq "again" "answered" = false ∧ strEq "again" "ahead" = false := by
  simp only [strEq_eq]
  decide +kernel
theorem rd__law_places : ∀ ds O (kk : D → OH → Prop), sp__law_places ds O kk → bd__law_places { nx := fun _ O' => kk .non O', rt := kk } (startD ["hand", "axes", "many", "here", "found", "turn", "axis", "one"] ds) O := by
  rintro ds O kk ⟨p, h, ax, m, rfl, hO, hh, a0, a3, m0, m1, hk⟩
  unfold bd__law_places
  walk_at "sc"
  refine ⟨⟨by omega, by omega⟩, by rw [rngD_length]; exact small_len (by omega), ?_⟩
  refine dAcc_inv (fun O' => ∃ h', HandOk h' ∧ O' = oset O p h') (fun y => ∃ n : Int, y = .int n ∧ True) _ _ _ ?_ ⟨h, hh, (oset_id hO).symm⟩ ?_
  · rintro d _ O' k' ⟨h', hh', rfl⟩ hk'
    walk_at "sc"
    exact ⟨p, h', 6, rfl, oset_same, hh', by decide, by decide, fun n h3 _ _ hh3 => hk' _ _ ⟨n, rfl, trivial⟩ ⟨h3, hh3, by rw [oset_oset]⟩⟩
  rintro ys O' hy hl ⟨h', hh', rfl⟩
  obtain ⟨r0, rfl, hl2, _⟩ := all_map hy
  rw [List.nil_append, rngD_length] at *
  refine ⟨small_len (by simp), fun q nq => ⟨⟨by omega, by omega⟩, ?_⟩⟩
  have nq0 : O q = none := by
    by_cases z : q = p
    · subst z; rw [oset_same] at nq; cases nq
    · rw [oset_ne z] at nq; exact nq
  have qp : q ≠ p := own_ne hO nq0
  refine dLoop_ind (α := Nat) (fun i => .int (0 + (i : Int))) (fun rest e O' => ∃ (ps : List Row) (r : Row) (h' : List D) (x y z : Option D), HandOk h' ∧ okP ax ps ∧ okR ax r ∧ ps.length + rest.length ≤ 101 ∧ e = [some (.own p), some (.int ax), some (.int m), some (rowD r), some (.own q), x, y, z] ∧ O' = oset (oset O q (ps.map rowD)) p h') ?_ ?_ (List.range m.toNat) _ _ ⟨[r0], r0, h', none, none, none, hh', ⟨by simp, by simp, fun r hr => by rw [List.mem_singleton.mp hr]; unfold okR; omega⟩, by unfold okR; omega, by rw [List.length_range]; simp only [List.length_cons, List.length_nil]; omega, rfl, by rw [oset_comm qp.symm]; rfl⟩
  · rintro i rest e O' ⟨ps, r, h', x, y, z, hh', ⟨hne, hps, hok⟩, hr, hl, rfl, rfl⟩ nx hn
    walk_at "sc"
    refine ⟨p, h', 3, rfl, oset_same, hh', by decide, by decide, fun n h2 n0 n1 hh2 => ?_⟩
    walk_at "sc"
    have fin : ∀ (r' : Row) (h3 : List D) (y z : Option D), okR ax r' → HandOk h3 → nx [some (.own p), some (.int ax), some (.int m), some (rowD r'), some (.own q), some (.int (0 + (i : Int))), y, z] (oset (oset (oset O q (ps.map rowD)) p h3) q (ps.map rowD ++ [rowD r'])) := fun r' h3 y z o1 o2 => by
      refine hn _ _ ⟨ps ++ [r'], r', h3, _, _, _, o2, ⟨by simp, by simp only [List.length_append, List.length_cons, List.length_nil] at *; omega, fun t ht => ?_⟩, o1, by simp only [List.length_append, List.length_cons, List.length_nil] at *; omega, rfl, ?_⟩
      · rcases List.mem_append.mp ht with ht | ht
        · exact hok t ht
        · rw [List.mem_singleton.mp ht]; exact o1
      · rw [oset_comm qp.symm, oset_oset, List.map_append]; rfl
    have len : (ps.map rowD).length < sizeLine := lt_len (by rw [List.length_map]; omega)
    by_cases c : 0 < n
    · rw [decide_eq_true c]
      unfold rowD
      walk_at "sc"
      unfold okR at hr
      refine ⟨by rw [List.length_map]; exact small_len (by omega), ?_⟩
      refine dAcc_inv (fun O' => ∃ h', HandOk h' ∧ O' = oset (oset O q (ps.map rowD)) p h') (fun y => ∃ n : Int, y = .int n ∧ True) _ _ _ ?_ ⟨h2, hh2, rfl⟩ ?_
      · rintro d hd O' k' ⟨h', hh', rfl⟩ hk'
        obtain ⟨v, _, rfl⟩ := List.mem_map.mp hd
        walk_at "sc"
        refine ⟨p, h', 3, rfl, oset_same, hh', by decide, by decide, fun n h3 _ _ hh3 => ?_⟩
        walk_at "sc"
        exact hk' _ _ ⟨_, rfl, trivial⟩ ⟨h3, hh3, rfl⟩
      · rintro ys O' hy hl2 ⟨h3, hh3, rfl⟩
        obtain ⟨r', rfl, hl3, _⟩ := all_map hy
        rw [List.nil_append]
        simp only [oset_ne qp, oset_same]
        simp only [List.length_map] at hl2
        exact ⟨len, fin r' h3 _ _ (by unfold okR; omega) hh3⟩
    · rw [decide_eq_false c]
      simp only [oset_ne qp, oset_same]
      exact ⟨len, fin r h2 _ _ hr hh2⟩
  · rintro e O' ⟨ps, r, h', x, y, z, hh', hps, hr, hl, rfl, rfl⟩
    walk_at "sc"
    simp only [oset_ne qp, oset_same]
    rw [oset_comm qp, odel_oset (by rw [oset_ne qp]; exact nq0)]
    exact hk ps h' hps hh'
theorem here_list {a : Area} {ps : List Row} {n : Nat} (hn : n < ps.length) : (ps.take (n + 1)).map (inArea a) = (List.range (n + 1)).map (hA a ps) := by
  apply List.ext_getElem?
  intro i
  rw [List.getElem?_map, List.getElem?_map, List.getElem?_take]
  by_cases z : i < n + 1
  · rw [if_pos z, List.getElem?_range z, List.getElem?_eq_getElem (show i < ps.length by omega)]
    simp only [Option.map_some]
    unfold hA
    rw [List.getD_eq_getElem?_getD, List.getElem?_eq_getElem (show i < ps.length by omega)]
    rfl
  · rw [if_neg z, List.getElem?_eq_none (by rw [List.length_range]; omega)]; rfl
theorem here_at {h : Nat → Bool} {n j : Nat} {i : Int} (hi : i = (j : Int)) (hj : j ≤ n) : atI (((List.range (n + 1)).map h).map D.bl) i = some (.bl (h j)) :=
  atI_in hi (by rw [List.getElem?_map, List.getElem?_map, List.getElem?_range (by omega)]; rfl)
theorem here_drop {h : Nat → Bool} {n j : Nat} : (((List.range (n + 1)).map h).drop j).any id = anyF h j n := by
  rw [Bool.eq_iff_iff, anyF_iff, List.any_eq_true]
  constructor
  · rintro ⟨x, hx, e⟩
    obtain ⟨i, hi⟩ := List.mem_iff_getElem?.mp hx
    rw [List.getElem?_drop, List.getElem?_map] at hi
    by_cases z : j + i < n + 1
    · rw [List.getElem?_range z] at hi
      have hi : h (j + i) = x := Option.some.inj hi
      exact ⟨j + i, by omega, by omega, by rw [hi]; exact e⟩
    · rw [List.getElem?_eq_none (by rw [List.length_range]; omega)] at hi; cases hi
  · rintro ⟨i, h1, h2, h3⟩
    refine ⟨true, List.mem_iff_getElem?.mpr ⟨i - j, ?_⟩, rfl⟩
    rw [List.getElem?_drop, List.getElem?_map, show j + (i - j) = i by omega, List.getElem?_range (by omega)]
    simp [h3]
theorem here_any {h : Nat → Bool} {n : Nat} : ((List.range (n + 1)).map h).any id = anyF h 0 n := by
  have := here_drop (h := h) (n := n) (j := 0)
  rw [List.drop_zero] at this
  exact this
theorem len_here {h : Nat → Bool} {n : Nat} : (((List.range (n + 1)).map h).map D.bl).length = n + 1 := by simp
/-- [_law_in(area, place) for place in places[:at + 1]] -/
theorem here_comp {B ax : Int} (hN : okN B ax) {a : Area} {ps : List Row} {n : Nat} (oa : okA B ax a) (op : okP ax ps) (hn : n < ps.length) {te : DE} {i : Nat} {e : DV} {k : List D → OH → Prop} {O : OH}
    (hte : ∀ (r : Row) (O : OH) (k' : D → OH → Prop), sp__law_in [areaD a, rowD r] O k' → te (e.set i (some (rowD r))) O k') (h : k (((List.range (n + 1)).map (hA a ps)).map D.bl) O) :
    (cutA (ps.map rowD) none (some ((n : Int) + 1))).length ≤ sizeLine ∧ dAcc (dNm i) dYes te e k (cutA (ps.map rowD) none (some ((n : Int) + 1))) [] O := by
  rw [cut_take (n := n + 1) (i := (n : Int) + 1) (by omega), ← List.map_take]
  have hl := op.2.1
  refine ⟨by rw [List.length_map, List.length_take]; exact small_len (by omega), dAcc_map rowD (fun r => .bl (inArea a r)) _ _ _ (fun r hr O k' h' => ?_) ?_⟩
  · exact hte r O k' ⟨B, ax, a, r, rfl, hN, oa, op.2.2 r (List.mem_of_mem_take hr), h'⟩
  · rw [List.nil_append, ← here_list hn, List.map_map] at *
    exact h
theorem rd__law_breaks : ∀ ds O (kk : D → OH → Prop), sp__law_breaks ds O kk → bd__law_breaks { nx := fun _ O' => kk .non O', rt := kk } (startD ["wish", "places", "at", "there", "word", "here", "place"] ds) O := by
  rintro ds O kk ⟨B, ax, w, ps, n, rfl, hN, hw, op, hn, h⟩
  unfold bd__law_breaks
  unfold brk at h
  cases w with
  | never a =>
    simp only [d1]
    walk_at "sc"
    simp only [sne, strEq_self]
    refine here_comp hN hw op hn (fun r O k' h' => by walk_at "sc"; exact h') ?_
    rw [here_at (n := n) rfl (Nat.le_refl _)]
    exact h
  | within a k =>
    simp only [d2]
    walk_at "sc"
    simp only [sne, strEq_self]
    refine here_comp hN hw.1 op hn (fun r O k' h' => by walk_at "sc"; exact h') ?_
    simp only [boolsD_map, here_any]
    simp only [brkF] at h
    by_cases z : (n : Int) = k
    · rw [decide_eq_true z] at h ⊢; exact h
    · rw [decide_eq_false z] at h ⊢; exact h
  | ahead a b =>
    simp only [d4]
    walk_at "sc"
    simp only [sne, strEq_self]
    refine here_comp hN hw.1 op hn (fun r O k' h' => by walk_at "sc"; exact h') ?_
    refine here_comp hN hw.2 op hn (fun r O k' h' => by walk_at "sc"; exact h') ?_
    rw [here_at (n := n) rfl (Nat.le_refl _)]
    simp only [boolsD_map, here_any]
    simp only [brkF, W.a, W.b] at h
    cases z : hA b ps n with
    | true => rw [z] at h; exact h
    | false => rw [z] at h; exact h
  | again a k =>
    simp only [d5]
    walk_at "sc"
    simp only [sne, strEq_self]
    refine here_comp hN hw.1 op hn (fun r O k' h' => by walk_at "sc"; exact h') ?_
    obtain ⟨m, rfl⟩ : ∃ m : Nat, k = (m : Int) := ⟨k.toNat, by have := hw.2.1; omega⟩
    simp only [brkF, Int.toNat_natCast] at h
    by_cases z : (m : Int) ≤ n
    · rw [decide_eq_true z] at h ⊢
      walk_at "sc"
      rw [cut_drop (n := n - m) (i := (n : Int) - m) (by omega), ← List.map_drop]
      simp only [boolsD_map, here_drop]
      exact h
    · rw [decide_eq_false z] at h ⊢; exact h
  | answered a b k =>
    simp only [d3]
    walk_at "sc"
    simp only [sne, strEq_self]
    refine here_comp hN hw.1 op hn (fun r O k' h' => by walk_at "sc"; exact h') ?_
    refine here_comp hN hw.2.1 op hn (fun r O k' h' => by walk_at "sc"; exact h') ?_
    obtain ⟨m, rfl⟩ : ∃ m : Nat, k = (m : Int) := ⟨k.toNat, by have := hw.2.2.1; omega⟩
    simp only [brkF, Int.toNat_natCast, W.a, W.b] at h
    by_cases z : (m : Int) ≤ n
    · rw [decide_eq_true z] at h ⊢
      walk_at "sc"
      rw [here_at (n := n) (j := n - m) (by omega) (by omega)]
      walk_at "sc"
      cases z2 : hA a ps (n - m) with
      | true =>
        rw [z2] at h
        walk_at "sc"
        rw [cut_drop (n := n - m) (i := (n : Int) - m) (by omega), ← List.map_drop]
        simp only [boolsD_map, here_drop]
        exact h
      | false => rw [z2] at h; exact h
    · rw [decide_eq_false z] at h ⊢; exact h

theorem rd_box_lies_within : ∀ ds O (kk : D → OH → Prop), sp_box_lies_within ds O kk → bd_box_lies_within { nx := fun _ O' => kk .non O', rt := kk } (startD ["box", "other", "span", "wide"] ds) O := by
  rintro ds O kk ⟨x, y, rfl, hx, hy, h⟩
  unfold bd_box_lies_within boxD
  walk_at "sc"
  simp only [List.length_map]
  unfold bw at h
  by_cases z : x.length = y.length
  · rw [decide_eq_true z] at h
    rw [decide_eq_true (show ((x.length : Int) = (y.length : Int)) by omega)]
    show _ ∧ _
    rw [pairsD_map]
    refine ⟨small_len (by rw [List.length_map, List.length_zip]; omega), dAcc_map _ (fun p => .bl (decide (p.2.1 ≤ p.1.1) && decide (p.1.2 ≤ p.2.2))) _ _ _ (fun p _ O k' h' => ?_) ?_⟩
    · unfold pairD
      walk_at "sc"
      revert h'
      cases decide (p.2.1 ≤ p.1.1) with
      | true => exact fun h' => h'
      | false => exact fun h' => h'
    · rw [List.nil_append, boolsD_map']
      show kk (.bl (((x.zip y).map _).all id)) O
      rw [List.all_map]
      exact h
  · rw [decide_eq_false z] at h
    rw [decide_eq_false (show ¬ ((x.length : Int) = (y.length : Int)) by omega)]
    exact h
theorem rd_lies_within : ∀ ds O (kk : D → OH → Prop), sp_lies_within ds O kk → bd_lies_within { nx := fun _ O' => kk .non O', rt := kk } (startD ["area", "other", "box", "wide"] ds) O := by
  rintro ds O kk ⟨B, ax, ax', x, y, rfl, hN, hN', ⟨hx, hxb⟩, ⟨hy, hyb⟩, h⟩
  unfold bd_lies_within areaD
  walk_at "sc"
  refine ⟨small_len (by rw [List.length_map]; omega), dAcc_map _ (fun b => .bl (y.any fun w => bw b w)) _ _ _ (fun b hb O k' h' => ?_) ?_⟩
  · walk_at "sc"
    refine ⟨small_len (by rw [List.length_map]; omega), dAcc_map _ (fun w => .bl (bw b w)) _ _ _ (fun w hw O k2 h2 => ?_) ?_⟩
    · walk_at "sc"
      have q1 := (hxb b hb).1
      have q2 := (hyb w hw).1
      have n1 := hN.2.2.2
      have n2 := hN'.2.2.2
      exact ⟨b, w, rfl, by omega, by omega, h2⟩
    · rw [List.nil_append, boolsD_map']
      show k' (.bl ((y.map _).any id)) O
      rw [List.any_map]
      exact h'
  · rw [List.nil_append, boolsD_map']
    show kk (.bl ((x.map _).all id)) O
    rw [List.all_map]
    exact h
end Lk19
namespace Lk17
open PySem PySem.Spec PyProof.Rows L2 SC
open Lk19 (Box Area W pairD boxD areaD rowD okS okB okA okK okN betw tupB spanB spansB boxB areaB oneB wishB items brk okR okP inArea pl plL wds wdsO wdsK)
/-- the classes of the program's text -/
class PlC where
  K : PySem.W.Frag
  cF : Addr
  cP : Addr
  clF : Cls K cF
  clP : Cls K cP
  nF : ∀ f ∈ (["bits", "low", "high"] : List Str), NoAttr K cF f
  nP : ∀ f ∈ (["form", "way", "box", "modes", "pushes"] : List Str), NoAttr K cP f
section
variable [PlC]
def fmtD : D := .obj PlC.cF ["bits", "low", "high"] [.int 8, .int 0, .int 4]
def FmtP : List D → Prop := fun ds => ds = [.int 8, .int 0, .int 4]
def inD (i : Nat) : D := .tup [.str "in", .int (i : Nat)]
def formsD (n : Nat) : D := .tup ((List.range n).map inD)
def modesD (n : Nat) : D := .tup [.tup [.non, formsD n]]
def rep (n : Nat) (q : Int × Int) : D := .tup (List.replicate n (pairD q))
def partsD (n : Nat) : List D := [fmtD, .str "near", rep n (0, 6), modesD n, rep n (0, 0)]
def PltP : List D → Prop := fun ds => ∃ n : Nat, 1 ≤ n ∧ n ≤ 3 ∧ ds = partsD n
def plantD (n : Nat) : D := .obj PlC.cP ["form", "way", "box", "modes", "pushes"] (partsD n)
end
/-! ### what is told -/
noncomputable def areB (ax : Int) (d : D) : Bool := tupB 0 4 d && (items d).all (wishB ax)
/-- the first wish from j on that breaks at n -/
def fstB (ps : List Lk19.Row) (n : Nat) : Nat → List W → Option Nat
  | _, [] => none
  | j, w :: r => bif brk w ps n then some j else fstB ps n (j + 1) r
def dueL (ws : List W) (ps : List Lk19.Row) : List Nat → Option (Nat × Nat)
  | [] => none
  | n :: r => match fstB ps n 0 ws with
    | some j => some (n, j)
    | none => dueL ws ps r
def due (ws : List W) (ps : List Lk19.Row) : Option (Nat × Nat) := dueL ws ps (List.range ps.length)
def dueD : Option (Nat × Nat) → D
  | none => .non
  | some (n, j) => .tup [.int (n : Nat), .int (j : Nat)]
def oN : Option Nat → D
  | none => .non
  | some j => .int (j : Nat)
/-! plain data without lists and dicts, small ints -/
mutual
def smT : D → Bool
  | .int i => decide (-1000000 ≤ i) && decide (i ≤ 1000000)
  | .str x => x.cps.toList.all fun c => decide (c < 16 ^ 8)
  | .tup xs => smTs xs
  | .non => false | .bl _ => false | .lst _ => false | .dct => false | .ty _ => false | .own _ => false | .fz _ => false | .obj _ _ _ => false
def smTs : List D → Bool
  | [] => true
  | x :: xs => smT x && smTs xs
end
/-- what comes of small data that is bent -/
structure Bt (m n : Nat) (d : D) : Prop where
  ok : okT d = true
  bulk : bulkD d ≤ 7 * m + 3000
  dep : depD d ≤ n + 45
  lc : noC d = true ∨ noL d = true
/-! ### constants -/
def c_WAYS : D := .tup ((["up", "down", "cut", "near", "far"] : List Str).map D.str)
def c_WORDS_wishes : D := Lk19.c_WORDS
def c_WITH_OTHER : D := Lk19.c_WITH_OTHER
def c_WITH_K : D := Lk19.c_WITH_K
/-! ### promises -/
variable [XCx]
abbrev sp_is_integer : DSp := Lk19.sp_is_integer
abbrev sp_is_between : DSp := Lk19.sp_is_between
abbrev sp_is_tuple : DSp := Lk19.sp_is_tuple
abbrev sp_is_pair : DSp := Lk19.sp_is_pair
abbrev sp_is_one_of : DSp := Lk19.sp_is_one_of
abbrev sp_is_span : DSp := Lk19.sp_is_span
abbrev sp_are_spans : DSp := Lk19.sp_are_spans
abbrev sp_is_box : DSp := Lk19.sp_is_box
abbrev sp_is_area : DSp := Lk19.sp_is_area
abbrev sp_is_wish : DSp := Lk19.sp_is_wish
abbrev sp_in_box : DSp := Lk18.sp_in_box
abbrev sp_in_area : DSp := Lk18.sp_in_area
abbrev sp_marks : DSp := Lk18.sp_marks
abbrev sp_count_at_first : DSp := Lk18.sp_count_at_first
abbrev sp_ahead_count : DSp := Lk18.sp_ahead_count
abbrev sp_unless_above : DSp := Lk18.sp_unless_above
abbrev sp_next_waiting : DSp := Lk18.sp_next_waiting
abbrev sp_next_count : DSp := Lk18.sp_next_count
abbrev sp_begun_by : DSp := Lk18.sp_begun_by
abbrev sp_counted_by : DSp := Lk18.sp_counted_by
abbrev sp_begun : DSp := Lk18.sp_begun
abbrev sp_counted : DSp := Lk18.sp_counted
abbrev sp__law_hand : DSp := Lk19.sp__law_hand
abbrev sp__law_draw : DSp := Lk19.sp__law_draw
abbrev sp__law_some : DSp := Lk19.sp__law_some
abbrev sp__law_in : DSp := Lk19.sp__law_in
abbrev sp__law_breaks : DSp := Lk19.sp__law_breaks
abbrev sp__law_box : DSp := Lk19.sp__law_box
abbrev sp__law_area : DSp := Lk19.sp__law_area
abbrev sp__law_wish : DSp := Lk19.sp__law_wish
abbrev sp__law_places : DSp := Lk19.sp__law_places
theorem ln_is_integer : ∀ ds O k, sp_is_integer ds O k → ds.length = 1 := Lk19.ln_is_integer
theorem ln_is_between : ∀ ds O k, sp_is_between ds O k → ds.length = 3 := Lk19.ln_is_between
theorem ln_is_tuple : ∀ ds O k, sp_is_tuple ds O k → ds.length = 3 := Lk19.ln_is_tuple
theorem ln_is_pair : ∀ ds O k, sp_is_pair ds O k → ds.length = 1 := Lk19.ln_is_pair
theorem ln_is_one_of : ∀ ds O k, sp_is_one_of ds O k → ds.length = 2 := Lk19.ln_is_one_of
theorem ln_is_span : ∀ ds O k, sp_is_span ds O k → ds.length = 3 := Lk19.ln_is_span
theorem ln_are_spans : ∀ ds O k, sp_are_spans ds O k → ds.length = 5 := Lk19.ln_are_spans
theorem ln_is_box : ∀ ds O k, sp_is_box ds O k → ds.length = 2 := Lk19.ln_is_box
theorem ln_is_area : ∀ ds O k, sp_is_area ds O k → ds.length = 2 := Lk19.ln_is_area
theorem ln_is_wish : ∀ ds O k, sp_is_wish ds O k → ds.length = 2 := Lk19.ln_is_wish
theorem ln_in_box : ∀ ds O k, sp_in_box ds O k → ds.length = 2 := Lk18.ln_in_box
theorem ln_in_area : ∀ ds O k, sp_in_area ds O k → ds.length = 2 := Lk18.ln_in_area
theorem ln_marks : ∀ ds O k, sp_marks ds O k → ds.length = 2 := Lk18.ln_marks
theorem ln_count_at_first : ∀ ds O k, sp_count_at_first ds O k → ds.length = 3 := Lk18.ln_count_at_first
theorem ln_ahead_count : ∀ ds O k, sp_ahead_count ds O k → ds.length = 2 := Lk18.ln_ahead_count
theorem ln_unless_above : ∀ ds O k, sp_unless_above ds O k → ds.length = 2 := Lk18.ln_unless_above
theorem ln_next_waiting : ∀ ds O k, sp_next_waiting ds O k → ds.length = 4 := Lk18.ln_next_waiting
theorem ln_next_count : ∀ ds O k, sp_next_count ds O k → ds.length = 4 := Lk18.ln_next_count
theorem ln_begun_by : ∀ ds O k, sp_begun_by ds O k → ds.length = 2 := Lk18.ln_begun_by
theorem ln_counted_by : ∀ ds O k, sp_counted_by ds O k → ds.length = 3 := Lk18.ln_counted_by
theorem ln_begun : ∀ ds O k, sp_begun ds O k → ds.length = 2 := Lk18.ln_begun
theorem ln_counted : ∀ ds O k, sp_counted ds O k → ds.length = 3 := Lk18.ln_counted
theorem ln__law_hand : ∀ ds O k, sp__law_hand ds O k → ds.length = 1 := Lk19.ln__law_hand
theorem ln__law_draw : ∀ ds O k, sp__law_draw ds O k → ds.length = 2 := Lk19.ln__law_draw
theorem ln__law_some : ∀ ds O k, sp__law_some ds O k → ds.length = 2 := Lk19.ln__law_some
theorem ln__law_in : ∀ ds O k, sp__law_in ds O k → ds.length = 2 := Lk19.ln__law_in
theorem ln__law_breaks : ∀ ds O k, sp__law_breaks ds O k → ds.length = 3 := Lk19.ln__law_breaks
theorem ln__law_box : ∀ ds O k, sp__law_box ds O k → ds.length = 2 := Lk19.ln__law_box
theorem ln__law_area : ∀ ds O k, sp__law_area ds O k → ds.length = 2 := Lk19.ln__law_area
theorem ln__law_wish : ∀ ds O k, sp__law_wish ds O k → ds.length = 2 := Lk19.ln__law_wish
theorem ln__law_places : ∀ ds O k, sp__law_places ds O k → ds.length = 3 := Lk19.ln__law_places
/-! the new ones -/
def sp_many_rows : DSp := fun ds O k => ∃ (n : Nat) (l m : Int), ds = [rep n (l, m)] ∧ 1 ≤ n ∧ n ≤ 3 ∧ 0 ≤ m - l + 1 ∧ m - l + 1 ≤ 1000 ∧ k (.int ((m - l + 1) ^ n)) O
theorem ln_many_rows : ∀ ds O k, sp_many_rows ds O k → ds.length = 1 := by rintro ds O k ⟨n, l, m, rfl, _⟩; rfl
def sp_is_way : DSp := fun ds O k => ds = [.str "near"] ∧ k (.bl true) O
theorem ln_is_way : ∀ ds O k, sp_is_way ds O k → ds.length = 1 := by rintro ds O k ⟨rfl, _⟩; rfl
def sp_is_leaf : DSp := fun ds O k => ∃ (m : Int) (i : Nat), ds = [.int m, inD i] ∧ (i : Int) < m ∧ k (.bl true) O
theorem ln_is_leaf : ∀ ds O k, sp_is_leaf ds O k → ds.length = 2 := by rintro ds O k ⟨m, i, rfl, _⟩; rfl
def sp_operations : DSp := fun ds O k => ∃ (m n : Int) (i : Nat), ds = [.int m, inD i, .int n] ∧ (i : Int) < m ∧ k (.int 0) O
theorem ln_operations : ∀ ds O k, sp_operations ds O k → ds.length = 3 := by rintro ds O k ⟨m, n, i, rfl, _⟩; rfl
def sp_is_formula : DSp := fun ds O k => ∃ (m : Int) (i : Nat), ds = [.int m, inD i] ∧ (i : Int) < m ∧ k (.bl true) O
theorem ln_is_formula : ∀ ds O k, sp_is_formula ds O k → ds.length = 2 := by rintro ds O k ⟨m, i, rfl, _⟩; rfl
def sp_is_mode : DSp := fun ds O k => ∃ (n : Nat), ds = [.int (n : Nat), .bl true, .tup [.non, formsD n]] ∧ n ≤ 3 ∧ k (.bl true) O
theorem ln_is_mode : ∀ ds O k, sp_is_mode ds O k → ds.length = 3 := by rintro ds O k ⟨n, rfl, _⟩; rfl
def sp_are_modes : DSp := fun ds O k => ∃ (n : Nat), ds = [.int (n : Nat), modesD n] ∧ n ≤ 3 ∧ k (.bl true) O
theorem ln_are_modes : ∀ ds O k, sp_are_modes ds O k → ds.length = 2 := by rintro ds O k ⟨n, rfl, _⟩; rfl
def sp_are_wishes [PlC] : DSp := fun ds O k => ∃ (n : Nat) (d : D), ds = [plantD n, d] ∧ 1 ≤ n ∧ n ≤ 3 ∧ pl d = true ∧ k (.bl (areB (n : Nat) d)) O
theorem ln_are_wishes [PlC] : ∀ ds O k, sp_are_wishes ds O k → ds.length = 2 := by rintro ds O k ⟨n, d, rfl, _⟩; rfl
def fstN : Nat → List (Option Int) → Option Nat
  | _, [] => none
  | j, none :: _ => some j
  | j, some _ :: r => fstN (j + 1) r
def sp_first_broken : DSp := fun ds O k => ∃ cs : List (Option Int), ds = [.tup (cs.map Lk18.cD)] ∧ k (oN (fstN 0 cs)) O
theorem ln_first_broken : ∀ ds O k, sp_first_broken ds O k → ds.length = 1 := by rintro ds O k ⟨cs, rfl, _⟩; rfl
def okWs (B ax : Int) (ws : List W) : Prop := ws.length ≤ 10 ∧ ∀ w ∈ ws, w.ok B ax
def sp_broken : DSp := fun ds O k => ∃ (B ax : Int) (ws : List W) (ps : List Lk19.Row) (x : D), ds = [.tup (ws.map W.d), x] ∧ (x = .tup (ps.map rowD) ∨ x = .lst (ps.map rowD)) ∧ okN B ax ∧ okWs B ax ws ∧ okP ax ps ∧ k (dueD (due ws ps)) O
theorem ln_broken : ∀ ds O k, sp_broken ds O k → ds.length = 2 := by rintro ds O k ⟨B, ax, ws, ps, x, rfl, _⟩; rfl
def sp__law_deep : DSp := fun ds O k => ∃ p h d m n, ds = [.own p, d] ∧ O p = some h ∧ HandOk h ∧ okT d = true ∧ noC d = true ∧ bulkD d ≤ m ∧ depD d ≤ n ∧ ∀ d' h', okT d' = true → noC d' = true → bulkD d' ≤ m + 35 → depD d' ≤ n + 35 → HandOk h' → k d' (oset O p h')
theorem ln__law_deep : ∀ ds O k, sp__law_deep ds O k → ds.length = 2 := by rintro ds O k ⟨p, h, d, m, n, rfl, _⟩; rfl
def sp__law_is_int : DSp := fun ds O k => ∃ d l m, ds = [d, .int l, .int m] ∧ pl d = true ∧ k (.bl (betw l m d)) O
theorem ln__law_is_int : ∀ ds O k, sp__law_is_int ds O k → ds.length = 3 := by rintro ds O k ⟨d, l, m, rfl, _⟩; rfl
def sp__law_is_area : DSp := fun ds O k => ∃ d ax, ds = [d, .int ax] ∧ pl d = true ∧ k (.bl (areaB ax d)) O
theorem ln__law_is_area : ∀ ds O k, sp__law_is_area ds O k → ds.length = 2 := by rintro ds O k ⟨d, ax, rfl, _⟩; rfl
def sp__law_is_wish : DSp := fun ds O k => ∃ d ax, ds = [d, .int ax] ∧ pl d = true ∧ k (.bl (wishB ax d)) O
theorem ln__law_is_wish : ∀ ds O k, sp__law_is_wish ds O k → ds.length = 2 := by rintro ds O k ⟨d, ax, rfl, _⟩; rfl
def sp__law_are_wishes : DSp := fun ds O k => ∃ d ax, ds = [d, .int ax] ∧ pl d = true ∧ k (.bl (areB ax d)) O
theorem ln__law_are_wishes : ∀ ds O k, sp__law_are_wishes ds O k → ds.length = 2 := by rintro ds O k ⟨d, ax, rfl, _⟩; rfl
def sp__law_bent : Nat → DSp
  | 0 => fun _ _ _ => False
  | n + 1 => fun ds O k => ∃ p h d m, ds = [.own p, d] ∧ O p = some h ∧ HandOk h ∧ smT d = true ∧ bulkD d ≤ m ∧ m ≤ 1000 ∧ depD d ≤ n ∧ ∀ d' h', Bt m n d' → HandOk h' → k d' (oset O p h')
theorem ln__law_bent : ∀ n ds O k, sp__law_bent n ds O k → ds.length = 2 := by
  rintro (_ | n) ds O k h
  · exact h.elim
  · obtain ⟨p, h, d, m, rfl, _⟩ := h; rfl
def sp__law_due : DSp := fun ds O k => ∃ (B ax : Int) (ws : List W) (ps : List Lk19.Row), ds = [.tup (ws.map W.d), .lst (ps.map rowD)] ∧ okN B ax ∧ okWs B ax ws ∧ okP ax ps ∧ k (dueD (due ws ps)) O
theorem ln__law_due : ∀ ds O k, sp__law_due ds O k → ds.length = 2 := by rintro ds O k ⟨B, ax, ws, ps, rfl, _⟩; rfl
def okDue : Option (Nat × Nat) → Prop
  | none => True
  | some (n, j) => n ≤ 1000 ∧ j ≤ 1000
def sp__law_is : DSp := fun ds O k => ∃ u, ds = [dueD u, dueD u] ∧ okDue u ∧ k (.bl true) O
theorem ln__law_is : ∀ ds O k, sp__law_is ds O k → ds.length = 2 := by rintro ds O k ⟨u, rfl, _⟩; rfl
def sp__law_plant [PlC] : DSp := fun ds O k => ∃ n : Nat, ds = [.int (n : Nat)] ∧ 1 ≤ n ∧ n ≤ 3 ∧ k (plantD n) O
theorem ln__law_plant [PlC] : ∀ ds O k, sp__law_plant ds O k → ds.length = 1 := by rintro ds O k ⟨n, rfl, _⟩; rfl
def sp__law_are_known_right : DSp := fun ds O k => ds = [] ∧ ∀ O', (∀ p h, O p = some h → O' p = some h) → k (.bl true) O'
theorem ln__law_are_known_right : ∀ ds O k, sp__law_are_known_right ds O k → ds.length = 0 := by rintro ds O k ⟨rfl, _⟩; rfl
def sp_law : DSp := spLaw
theorem ln_law : ∀ ds O k, sp_law ds O k → ds.length = 1 := by rintro ds O k ⟨ns, rfl, _⟩; rfl
end Lk17
namespace Lk17
open PySem PySem.Spec PyProof.Rows L2 SC
variable [PlC] [XCx]
/-! ### bodies, on trees -/
noncomputable def bd_is_integer : DS := dRet (dAndV (dCB rIsiD (dCons (dVar 0) (dCons (dC (.ty "int")) (dNil)))) (dNotV (dCB rIsiD (dCons (dVar 0) (dCons (dC (.ty "bool")) (dNil))))))
noncomputable def bd_is_between : DS := dRet (dAndV (dCall sp_is_integer (dCons (dVar 2) (dNil))) (dChain (dI0 fun i j => .bl (decide (i ≤ j))) (dI0 fun i j => .bl (decide (i ≤ j))) (dVar 0) (dVar 2) (dVar 1)))
noncomputable def bd_is_tuple : DS := dRet (dAndV (dCB rIsiD (dCons (dVar 2) (dCons (dC (.ty "tuple")) (dNil)))) (dChain (dI0 fun i j => .bl (decide (i ≤ j))) (dI0 fun i j => .bl (decide (i ≤ j))) (dVar 0) (dCB rLenD (dCons (dVar 2) (dNil))) (dVar 1)))
noncomputable def bd_is_pair : DS := dRet (dCall sp_is_tuple (dCons (dC (.int 2)) (dCons (dC (.int 2)) (dCons (dVar 0) (dNil)))))
noncomputable def bd_is_one_of : DS := dRet (dAndV (dCB rIsiD (dCons (dVar 1) (dCons (dC (.ty "str")) (dNil)))) (dOp (dIn false) (dVar 1) (dVar 0)))
noncomputable def bd_is_span : DS := dRet (dAndV (dCall sp_is_pair (dCons (dVar 2) (dNil))) (dAndV (dCall sp_is_between (dCons (dVar 0) (dCons (dVar 1) (dCons (dOp rIxD (dVar 2) (dC (.int 0))) (dNil))))) (dCall sp_is_between (dCons (dOp rIxD (dVar 2) (dC (.int 0))) (dCons (dVar 1) (dCons (dOp rIxD (dVar 2) (dC (.int 1))) (dNil)))))))
noncomputable def bd_are_spans : DS := dRet (dAndV (dCall sp_is_tuple (dCons (dVar 0) (dCons (dVar 1) (dCons (dVar 4) (dNil))))) (dCB (rBools fun l => l.all id) (dCons (dComp (dSeq (dVar 4)) (dNm 5) (dYes) (dCall sp_is_span (dCons (dVar 2) (dCons (dVar 3) (dCons (dVar 5) (dNil))))) [5]) (dNil))))
noncomputable def bd_many_rows : DS := dThen (dSet 1 (dC (.int 1))) (dThen (dFor (dSeq (dVar 0)) (dTg 2 (dGCons (dNm 2) (dGCons (dNm 3) (dGNil)))) (dSet 1 (dOp (dI CMul fun i j => .int (i * j)) (dVar 1) (dOp dAddA (dOp (dI0 fun i j => .int (i - j)) (dVar 3) (dVar 2)) (dC (.int 1)))))) (dRet (dVar 1)))
noncomputable def bd_is_way : DS := dRet (dCall sp_is_one_of (dCons (dC c_WAYS) (dCons (dVar 0) (dNil))))
noncomputable def bd_is_leaf : DS := dThen (dIf (dNot (dB (dCall sp_is_tuple (dCons (dC (.int 2)) (dCons (dC (.int 2)) (dCons (dVar 1) (dNil))))))) (dRet (dC (.bl false))) (dSkip)) (dThen (dAsg (dVar 1) (dTg 2 (dGCons (dNm 2) (dGCons (dNm 3) (dGNil))))) (dThen (dIf (dB (dCall sp_is_one_of (dCons (dTup (dCons (dC (.str "in")) (dNil))) (dCons (dVar 2) (dNil))))) (dRet (dCall sp_is_between (dCons (dC (.int 0)) (dCons (dOp (dI0 fun i j => .int (i - j)) (dVar 0) (dC (.int 1))) (dCons (dVar 3) (dNil)))))) (dSkip)) (dDead)))
noncomputable def bd_operations : DS := dThen (dIf (dB (dCall sp_is_leaf (dCons (dVar 0) (dCons (dVar 1) (dNil))))) (dRet (dC (.int 0))) (dSkip)) (dThen (dDead) (dThen (dDead) (dThen (dDead) (dThen (dDead) (dDead)))))
noncomputable def bd_is_formula : DS := dThen (dSet 2 (dCall sp_operations (dCons (dVar 0) (dCons (dVar 1) (dCons (dC (.int 6)) (dNil)))))) (dRet (dAndV (dOp (dIsN fun r => !r) (dVar 2) (dC .non)) (dOp (dI0 fun i j => .bl (decide (i ≤ j))) (dVar 2) (dC (.int 12)))))
noncomputable def bd_is_box : DS := dRet (dCall sp_are_spans (dCons (dVar 0) (dCons (dVar 0) (dCons (dUn (dU fun i => .int (-i)) (dC (.int 1000))) (dCons (dC (.int 1000)) (dCons (dVar 1) (dNil)))))))
noncomputable def bd_is_area : DS := dRet (dAndV (dCall sp_is_tuple (dCons (dC (.int 0)) (dCons (dC (.int 6)) (dCons (dVar 1) (dNil))))) (dCB (rBools fun l => l.all id) (dCons (dComp (dSeq (dVar 1)) (dNm 2) (dYes) (dCall sp_is_box (dCons (dVar 0) (dCons (dVar 2) (dNil)))) [2]) (dNil))))
noncomputable def bd_in_box : DS := dRet (dCB (rBools fun l => l.all id) (dCons (dComp (dZip (dVar 1) (dVar 0)) (dTg 2 (dGCons (dNm 2) (dGCons (dTg 2 (dGCons (dNm 3) (dGCons (dNm 4) (dGNil)))) (dGNil)))) (dYes) (dChain (dI0 fun i j => .bl (decide (i ≤ j))) (dI0 fun i j => .bl (decide (i ≤ j))) (dVar 3) (dVar 2) (dVar 4)) [2, 3, 4]) (dNil)))
noncomputable def bd_in_area : DS := dRet (dCB (rBools fun l => l.any id) (dCons (dComp (dSeq (dVar 0)) (dNm 2) (dYes) (dCall sp_in_box (dCons (dVar 2) (dCons (dVar 1) (dNil)))) [2]) (dNil)))
noncomputable def bd_is_mode : DS := dThen (dIf (dNot (dB (dCall sp_is_pair (dCons (dVar 2) (dNil))))) (dRet (dC (.bl false))) (dSkip)) (dThen (dAsg (dVar 2) (dTg 2 (dGCons (dNm 3) (dGCons (dNm 4) (dGNil))))) (dThen (dIf (dOr (dAnd (dB (dVar 1)) (dB (dOp (dIsN fun r => !r) (dVar 3) (dC .non)))) (dAnd (dNot (dB (dVar 1))) (dNot (dB (dCall sp_is_area (dCons (dVar 0) (dCons (dVar 3) (dNil)))))))) (dRet (dC (.bl false))) (dSkip)) (dRet (dAndV (dCall sp_is_tuple (dCons (dVar 0) (dCons (dVar 0) (dCons (dVar 4) (dNil))))) (dCB (rBools fun l => l.all id) (dCons (dComp (dSeq (dVar 4)) (dNm 5) (dYes) (dCall sp_is_formula (dCons (dOp dAddA (dVar 0) (dC (.int 2))) (dCons (dVar 5) (dNil)))) [5]) (dNil)))))))
noncomputable def bd_are_modes : DS := dThen (dIf (dNot (dB (dCall sp_is_tuple (dCons (dC (.int 1)) (dCons (dC (.int 4)) (dCons (dVar 1) (dNil))))))) (dRet (dC (.bl false))) (dSkip)) (dRet (dCB (rBools fun l => l.all id) (dCons (dComp (dEnumT (dVar 1)) (dTg 2 (dGCons (dNm 2) (dGCons (dNm 3) (dGNil)))) (dYes) (dCall sp_is_mode (dCons (dVar 0) (dCons (dOp (dEqS fun r => r) (dVar 2) (dOp (dI0 fun i j => .int (i - j)) (dCB rLenD (dCons (dVar 1) (dNil))) (dC (.int 1)))) (dCons (dVar 3) (dNil))))) [2, 3]) (dNil))))
noncomputable def bd_is_wish : DS := dThen (dIf (dOr (dNot (dB (dCall sp_is_tuple (dCons (dC (.int 2)) (dCons (dC (.int 4)) (dCons (dVar 1) (dNil))))))) (dNot (dB (dCall sp_is_one_of (dCons (dC c_WORDS_wishes) (dCons (dOp rIxD (dVar 1) (dC (.int 0))) (dNil))))))) (dRet (dC (.bl false))) (dSkip)) (dThen (dSet 2 (dIfE (dB (dOp (dIn false) (dOp rIxD (dVar 1) (dC (.int 0))) (dC c_WITH_OTHER))) (dC (.int 3)) (dC (.int 2)))) (dThen (dIf (dB (dOp (dIn false) (dOp rIxD (dVar 1) (dC (.int 0))) (dC c_WITH_K))) (dIf (dOr (dB (dOp (dEqS fun r => !r) (dCB rLenD (dCons (dVar 1) (dNil))) (dOp dAddA (dVar 2) (dC (.int 1))))) (dNot (dB (dCall sp_is_between (dCons (dC (.int 1)) (dCons (dC (.int 30)) (dCons (dOp rIxD (dVar 1) (dVar 2)) (dNil)))))))) (dRet (dC (.bl false))) (dSkip)) (dIf (dB (dOp (dEqS fun r => !r) (dCB rLenD (dCons (dVar 1) (dNil))) (dVar 2))) (dRet (dC (.bl false))) (dSkip))) (dRet (dCB (rBools fun l => l.all id) (dCons (dComp (dSeq (dSl (dVar 1) (dPart (dC (.int 1))) (dPart (dVar 2)))) (dNm 3) (dYes) (dCall sp_is_area (dCons (dVar 0) (dCons (dVar 3) (dNil)))) [3]) (dNil))))))
noncomputable def bd_are_wishes : DS := dRet (dAndV (dCall sp_is_tuple (dCons (dC (.int 0)) (dCons (dC (.int 4)) (dCons (dVar 1) (dNil))))) (dCB (rBools fun l => l.all id) (dCons (dComp (dSeq (dVar 1)) (dNm 2) (dYes) (dCall sp_is_wish (dCons (dCB rLenD (dCons (dFld PlC.K "box" (dVar 0)) (dNil))) (dCons (dVar 2) (dNil)))) [2]) (dNil))))
noncomputable def bd_marks : DS := dThen (dSet 2 (dLstO (dNil))) (dThen (dFor (dSeq (dVar 0)) (dNm 3) (dThen (dSet 4 (dAndV (dOp (dIn false) (dOp rIxD (dVar 3) (dC (.int 0))) (dC c_WITH_OTHER)) (dCall sp_in_area (dCons (dOp rIxD (dVar 3) (dC (.int 2))) (dCons (dVar 1) (dNil)))))) (dApp (dVar 2) (dTup (dCons (dCall sp_in_area (dCons (dOp rIxD (dVar 3) (dC (.int 1))) (dCons (dVar 1) (dNil)))) (dCons (dVar 4) (dNil))))))) (dRet (dUn rTupX (dVar 2))))
noncomputable def bd_ahead_count : DS := dThen (dIf (dB (dVar 0)) (dRet (dC (.int 1))) (dSkip)) (dRet (dIfE (dB (dVar 1)) (dC .non) (dC (.int 0))))
noncomputable def bd_count_at_first : DS := dThen (dSet 3 (dOp rIxD (dVar 0) (dC (.int 0)))) (dThen (dIf (dB (dOp (dEqS fun r => r) (dVar 3) (dC (.str "never")))) (dRet (dIfE (dB (dVar 1)) (dC .non) (dC (.int 0)))) (dSkip)) (dThen (dIf (dB (dOp (dEqS fun r => r) (dVar 3) (dC (.str "within")))) (dRet (dIfE (dB (dVar 1)) (dUn (dU fun i => .int (-i)) (dC (.int 1))) (dC (.int 0)))) (dSkip)) (dThen (dIf (dB (dOp (dEqS fun r => r) (dVar 3) (dC (.str "answered")))) (dRet (dIfE (dAnd (dB (dVar 1)) (dNot (dB (dVar 2)))) (dC (.int 1)) (dC (.int 0)))) (dSkip)) (dThen (dIf (dB (dOp (dEqS fun r => r) (dVar 3) (dC (.str "ahead")))) (dRet (dCall sp_ahead_count (dCons (dVar 1) (dCons (dVar 2) (dNil))))) (dSkip)) (dRet (dIfE (dB (dVar 1)) (dC (.int 0)) (dC (.int 1))))))))
noncomputable def bd_unless_above : DS := dRet (dIfE (dB (dOp (dI0 fun i j => .bl (decide (j < i))) (dVar 0) (dVar 1))) (dC .non) (dVar 0))
noncomputable def bd_next_waiting : DS := dThen (dIf (dB (dVar 3)) (dRet (dC (.int 0))) (dSkip)) (dThen (dIf (dB (dOp (dI0 fun i j => .bl (decide (j < i))) (dVar 1) (dC (.int 0)))) (dRet (dCall sp_unless_above (dCons (dOp dAddA (dVar 1) (dC (.int 1))) (dCons (dOp rIxD (dVar 0) (dC (.int 3))) (dNil))))) (dSkip)) (dRet (dIfE (dB (dVar 2)) (dC (.int 1)) (dC (.int 0)))))
noncomputable def bd_next_count : DS := dThen (dSet 4 (dOp rIxD (dVar 0) (dC (.int 0)))) (dThen (dIf (dB (dOp (dIsN fun r => r) (dVar 1) (dC .non))) (dRet (dC .non)) (dSkip)) (dThen (dIf (dB (dOp (dEqS fun r => r) (dVar 4) (dC (.str "never")))) (dRet (dIfE (dB (dVar 2)) (dC .non) (dC (.int 0)))) (dSkip)) (dThen (dIf (dB (dOp (dEqS fun r => r) (dVar 4) (dC (.str "ahead")))) (dRet (dIfE (dB (dOp (dEqS fun r => r) (dVar 1) (dC (.int 1)))) (dC (.int 1)) (dCall sp_ahead_count (dCons (dVar 2) (dCons (dVar 3) (dNil)))))) (dSkip)) (dThen (dIf (dB (dOp (dEqS fun r => r) (dVar 4) (dC (.str "within")))) (dThen (dIf (dOr (dB (dVar 2)) (dB (dOp (dEqS fun r => r) (dVar 1) (dUn (dU fun i => .int (-i)) (dC (.int 1)))))) (dRet (dUn (dU fun i => .int (-i)) (dC (.int 1)))) (dSkip)) (dRet (dCall sp_unless_above (dCons (dOp dAddA (dVar 1) (dC (.int 1))) (dCons (dOp (dI0 fun i j => .int (i - j)) (dOp rIxD (dVar 0) (dC (.int 2))) (dC (.int 1))) (dNil)))))) (dSkip)) (dThen (dIf (dB (dOp (dEqS fun r => r) (dVar 4) (dC (.str "answered")))) (dRet (dCall sp_next_waiting (dCons (dVar 0) (dCons (dVar 1) (dCons (dVar 2) (dCons (dVar 3) (dNil))))))) (dSkip)) (dRet (dIfE (dB (dVar 2)) (dC (.int 0)) (dCall sp_unless_above (dCons (dOp dAddA (dVar 1) (dC (.int 1))) (dCons (dOp rIxD (dVar 0) (dC (.int 2))) (dNil)))))))))))
noncomputable def bd_begun_by : DS := dRet (dUn rTupD (dComp (dZip (dVar 0) (dVar 1)) (dTg 2 (dGCons (dNm 2) (dGCons (dTg 2 (dGCons (dNm 3) (dGCons (dNm 4) (dGNil)))) (dGNil)))) (dYes) (dCall sp_count_at_first (dCons (dVar 2) (dCons (dVar 3) (dCons (dVar 4) (dNil))))) [2, 3, 4]))
noncomputable def bd_counted_by : DS := dThen (dSet 3 (dLstO (dNil))) (dThen (dFor (dZip3 (dVar 0) (dVar 1) (dVar 2)) (dTg 3 (dGCons (dNm 4) (dGCons (dNm 5) (dGCons (dTg 2 (dGCons (dNm 6) (dGCons (dNm 7) (dGNil)))) (dGNil))))) (dApp (dVar 3) (dCall sp_next_count (dCons (dVar 4) (dCons (dVar 5) (dCons (dVar 6) (dCons (dVar 7) (dNil)))))))) (dRet (dUn rTupX (dVar 3))))
noncomputable def bd_begun : DS := dRet (dCall sp_begun_by (dCons (dVar 0) (dCons (dCall sp_marks (dCons (dVar 0) (dCons (dVar 1) (dNil)))) (dNil))))
noncomputable def bd_counted : DS := dRet (dCall sp_counted_by (dCons (dVar 0) (dCons (dVar 1) (dCons (dCall sp_marks (dCons (dVar 0) (dCons (dVar 2) (dNil)))) (dNil)))))
noncomputable def bd_first_broken : DS := dThen (dFor (dEnumT (dVar 0)) (dTg 2 (dGCons (dNm 1) (dGCons (dNm 2) (dGNil)))) (dIf (dB (dOp (dIsN fun r => r) (dVar 2) (dC .non))) (dRet (dVar 1)) (dSkip))) (dRet (dC .non))
noncomputable def bd_broken : DS := dThen (dSet 2 (dCall sp_begun (dCons (dVar 0) (dCons (dOp rIxD (dVar 1) (dC (.int 0))) (dNil))))) (dThen (dFor (dEnumT (dVar 1)) (dTg 2 (dGCons (dNm 3) (dGCons (dNm 4) (dGNil)))) (dThen (dIf (dB (dOp (dI0 fun i j => .bl (decide (j < i))) (dVar 3) (dC (.int 0)))) (dSet 2 (dCall sp_counted (dCons (dVar 0) (dCons (dVar 2) (dCons (dVar 4) (dNil)))))) (dSkip)) (dThen (dSet 5 (dCall sp_first_broken (dCons (dVar 2) (dNil)))) (dIf (dB (dOp (dIsN fun r => !r) (dVar 5) (dC .non))) (dRet (dTup (dCons (dVar 3) (dCons (dVar 5) (dNil))))) (dSkip))))) (dRet (dC .non)))
noncomputable def bd__law_hand : DS := dThen (dSet 1 (dComp (dSeq (dSl (dVar 0) (dPart0) (dPart (dC (.int 63))))) (dNm 2) (dYes) (dCB rAbsD (dCons (dCB rIntD (dCons (dVar 2) (dNil))) (dNil))) [2])) (dRet (dLstO (dCons (dVar 1) (dCons (dC (.int 0)) (dCons (dC (.int 0)) (dCons (dOp dAddA (dC (.int 181)) (dOp (dI CMul fun i j => .int (i * j)) (dC (.int 7)) (dCB rLenD (dCons (dVar 1) (dNil))))) (dCons (dC (.int 0)) (dNil))))))))
noncomputable def bd__law_draw : DS := dThen (dIf (dAnd (dB (dOp (dEqS fun r => r) (dOp rIxD (dVar 0) (dC (.int 2))) (dC (.int 0)))) (dB (dOp (dI0 fun i j => .bl (decide (i < j))) (dOp rIxD (dVar 0) (dC (.int 1))) (dCB rLenD (dCons (dOp rIxD (dVar 0) (dC (.int 0))) (dNil)))))) (dThen (dSet 3 (dOp rIxD (dOp rIxD (dVar 0) (dC (.int 0))) (dOp rIxD (dVar 0) (dC (.int 1))))) (dThen (dSetIx (dVar 0) (dC (.int 1)) (dOp dAddA (dOp rIxD (dVar 0) (dC (.int 1))) (dC (.int 1)))) (dThen (dSetIx (dVar 0) (dC (.int 3)) (dOp (dI (fun _ j => 0 < j) fun i j => .int (i % j)) (dCB rIntD (dCons (dOp dAddA (dOp dAddA (dOp (dI CMul fun i j => .int (i * j)) (dOp rIxD (dVar 0) (dC (.int 3))) (dC (.int 69621))) (dVar 3)) (dC (.int 97))) (dNil))) (dC (.int 2147483629)))) (dIf (dB (dOp (dI0 fun i j => .bl (decide (j ≤ i))) (dVar 3) (dOp (dI CPow fun i j => .int (i ^ j.toNat)) (dC (.int 10)) (dC (.int 18))))) (dSetIx (dVar 0) (dC (.int 2)) (dVar 3)) (dSkip))))) (dSkip)) (dThen (dIf (dB (dOp (dI0 fun i j => .bl (decide (j < i))) (dOp rIxD (dVar 0) (dC (.int 2))) (dC (.int 0)))) (dThen (dSet 4 (dOp (dI (fun _ j => 0 < j) fun i j => .int (i % j)) (dCB rIntD (dCons (dOp rIxD (dVar 0) (dC (.int 2))) (dNil))) (dVar 1))) (dThen (dSetIx (dVar 0) (dC (.int 2)) (dOp (dI CDiv fun i j => .int (i / j)) (dOp rIxD (dVar 0) (dC (.int 2))) (dVar 1))) (dRet (dVar 4)))) (dSkip)) (dThen (dSetIx (dVar 0) (dC (.int 4)) (dOp dAddA (dOp rIxD (dVar 0) (dC (.int 4))) (dC (.int 1)))) (dThen (dSet 2 (dOp (dI (fun _ j => 0 < j) fun i j => .int (i % j)) (dCB rIntD (dCons (dOp (dI CMul fun i j => .int (i * j)) (dCB rIntD (dCons (dOp dAddA (dOp rIxD (dVar 0) (dC (.int 3))) (dOp (dI CMul fun i j => .int (i * j)) (dC (.int 7919)) (dOp rIxD (dVar 0) (dC (.int 4))))) (dNil))) (dC (.int 48271))) (dNil))) (dC (.int 2147483647)))) (dThen (dSet 2 (dOp (dI (fun _ j => 0 < j) fun i j => .int (i % j)) (dCB rIntD (dCons (dOp (dI CMul fun i j => .int (i * j)) (dVar 2) (dOp dAddA (dOp (dI CDiv fun i j => .int (i / j)) (dVar 2) (dC (.int 1009))) (dC (.int 69621)))) (dNil))) (dC (.int 2147483647)))) (dThen (dSet 2 (dOp (dI (fun _ j => 0 < j) fun i j => .int (i % j)) (dCB rIntD (dCons (dOp (dI CMul fun i j => .int (i * j)) (dVar 2) (dOp dAddA (dOp (dI CDiv fun i j => .int (i / j)) (dVar 2) (dC (.int 2003))) (dC (.int 40692)))) (dNil))) (dC (.int 2147483399)))) (dRet (dOp (dI (fun _ j => 0 < j) fun i j => .int (i % j)) (dCB rIntD (dCons (dOp (dI CDiv fun i j => .int (i / j)) (dVar 2) (dC (.int 16))) (dNil))) (dVar 1))))))))
noncomputable def bd__law_some : DS := dRet (dOp rIxD (dVar 1) (dCall sp__law_draw (dCons (dVar 0) (dCons (dCB rLenD (dCons (dVar 1) (dNil))) (dNil)))))
noncomputable def bd__law_deep : DS := dThen (dFor (dRng1 (dOp dAddA (dC (.int 20)) (dCall sp__law_draw (dCons (dVar 0) (dCons (dC (.int 15)) (dNil)))))) (dNm 2) (dSet 1 (dIfE (dB (dOp (dEqS fun r => r) (dCall sp__law_draw (dCons (dVar 0) (dCons (dC (.int 2)) (dNil)))) (dC (.int 0)))) (dTup (dCons (dVar 1) (dNil))) (dLst (dCons (dVar 1) (dNil)))))) (dRet (dVar 1))
noncomputable def bd__law_in : DS := dRet (dCB (rBools fun l => l.any id) (dCons (dComp (dSeq (dVar 0)) (dNm 2) (dYes) (dCB (rBools fun l => l.all id) (dCons (dComp (dZip (dVar 1) (dVar 2)) (dTg 2 (dGCons (dNm 3) (dGCons (dTg 2 (dGCons (dNm 4) (dGCons (dNm 5) (dGNil)))) (dGNil)))) (dYes) (dChain (dI0 fun i j => .bl (decide (i ≤ j))) (dI0 fun i j => .bl (decide (i ≤ j))) (dVar 4) (dVar 3) (dVar 5)) [3, 4, 5]) (dNil))) [2]) (dNil)))
noncomputable def bd__law_breaks : DS := dThen (dPar 4 5 (dCons (dOp rIxD (dVar 0) (dC (.int 0))) (dCons (dComp (dSeq (dSl (dVar 1) (dPart0) (dPart (dOp dAddA (dVar 2) (dC (.int 1)))))) (dNm 6) (dYes) (dCall sp__law_in (dCons (dOp rIxD (dVar 0) (dC (.int 1))) (dCons (dVar 6) (dNil)))) [6]) (dNil)))) (dThen (dIf (dB (dOp (dEqS fun r => r) (dVar 4) (dC (.str "never")))) (dRet (dOp rIxD (dVar 5) (dVar 2))) (dSkip)) (dThen (dIf (dB (dOp (dEqS fun r => r) (dVar 4) (dC (.str "within")))) (dRet (dAndV (dOp (dEqS fun r => r) (dVar 2) (dOp rIxD (dVar 0) (dC (.int 2)))) (dNotV (dCB (rBools fun l => l.any id) (dCons (dVar 5) (dNil)))))) (dSkip)) (dThen (dIf (dB (dOp (dEqS fun r => r) (dVar 4) (dC (.str "again")))) (dRet (dAndV (dOp (dI0 fun i j => .bl (decide (j ≤ i))) (dVar 2) (dOp rIxD (dVar 0) (dC (.int 2)))) (dNotV (dCB (rBools fun l => l.any id) (dCons (dSl (dVar 5) (dPart (dOp (dI0 fun i j => .int (i - j)) (dVar 2) (dOp rIxD (dVar 0) (dC (.int 2))))) (dPart0)) (dNil)))))) (dSkip)) (dThen (dSet 3 (dComp (dSeq (dSl (dVar 1) (dPart0) (dPart (dOp dAddA (dVar 2) (dC (.int 1)))))) (dNm 6) (dYes) (dCall sp__law_in (dCons (dOp rIxD (dVar 0) (dC (.int 2))) (dCons (dVar 6) (dNil)))) [6])) (dThen (dIf (dB (dOp (dEqS fun r => r) (dVar 4) (dC (.str "ahead")))) (dRet (dAndV (dOp rIxD (dVar 3) (dVar 2)) (dNotV (dCB (rBools fun l => l.any id) (dCons (dVar 5) (dNil)))))) (dSkip)) (dRet (dAndV (dOp (dI0 fun i j => .bl (decide (j ≤ i))) (dVar 2) (dOp rIxD (dVar 0) (dC (.int 3)))) (dAndV (dOp rIxD (dVar 5) (dOp (dI0 fun i j => .int (i - j)) (dVar 2) (dOp rIxD (dVar 0) (dC (.int 3))))) (dNotV (dCB (rBools fun l => l.any id) (dCons (dSl (dVar 3) (dPart (dOp (dI0 fun i j => .int (i - j)) (dVar 2) (dOp rIxD (dVar 0) (dC (.int 3))))) (dPart0)) (dNil))))))))))))
noncomputable def bd__law_box : DS := dThen (dSet 2 (dLstO (dNil))) (dThen (dFor (dRng1 (dVar 1)) (dNm 3) (dThen (dSet 4 (dCall sp__law_draw (dCons (dVar 0) (dCons (dC (.int 5)) (dNil))))) (dApp (dVar 2) (dTup (dCons (dVar 4) (dCons (dOp dAddA (dVar 4) (dCall sp__law_some (dCons (dVar 0) (dCons (dLst (dCons (dC (.int 0)) (dCons (dC (.int 0)) (dCons (dC (.int 0)) (dCons (dC (.int 1)) (dCons (dC (.int 2)) (dNil))))))) (dNil))))) (dNil))))))) (dRet (dUn rTupX (dVar 2))))
noncomputable def bd__law_area : DS := dRet (dUn rTupD (dComp (dRng1 (dCall sp__law_some (dCons (dVar 0) (dCons (dLst (dCons (dC (.int 1)) (dCons (dC (.int 1)) (dCons (dC (.int 1)) (dCons (dC (.int 2)) (dCons (dC (.int 3)) (dCons (dC (.int 6)) (dCons (dC (.int 0)) (dNil))))))))) (dNil))))) (dNm 2) (dYes) (dCall sp__law_box (dCons (dVar 0) (dCons (dVar 1) (dNil)))) [2]))
noncomputable def bd__law_wish : DS := dThen (dPar3 3 4 5 (dCons (dCall sp__law_area (dCons (dVar 0) (dCons (dVar 1) (dNil)))) (dCons (dCall sp__law_area (dCons (dVar 0) (dCons (dVar 1) (dNil)))) (dCons (dCall sp__law_some (dCons (dVar 0) (dCons (dLst (dCons (dC (.int 1)) (dCons (dC (.int 1)) (dCons (dC (.int 2)) (dCons (dC (.int 2)) (dCons (dC (.int 3)) (dCons (dC (.int 4)) (dCons (dC (.int 7)) (dCons (dC (.int 30)) (dNil)))))))))) (dNil)))) (dNil))))) (dThen (dSet 2 (dLst (dCons (dTup (dCons (dC (.str "never")) (dCons (dVar 3) (dNil)))) (dCons (dTup (dCons (dC (.str "within")) (dCons (dVar 3) (dCons (dVar 5) (dNil))))) (dCons (dTup (dCons (dC (.str "answered")) (dCons (dVar 3) (dCons (dVar 4) (dCons (dVar 5) (dNil)))))) (dCons (dTup (dCons (dC (.str "ahead")) (dCons (dVar 3) (dCons (dVar 4) (dNil))))) (dCons (dTup (dCons (dC (.str "again")) (dCons (dVar 3) (dCons (dVar 5) (dNil))))) (dNil)))))))) (dRet (dCall sp__law_some (dCons (dVar 0) (dCons (dVar 2) (dNil))))))
noncomputable def bd__law_places : DS := dThen (dSet 3 (dUn rTupD (dComp (dRng1 (dVar 1)) (dNm 6) (dYes) (dCall sp__law_draw (dCons (dVar 0) (dCons (dC (.int 6)) (dNil)))) [6]))) (dThen (dSet 4 (dLstO (dCons (dVar 3) (dNil)))) (dThen (dFor (dRng1 (dVar 2)) (dNm 5) (dThen (dIf (dB (dOp (dI0 fun i j => .bl (decide (j < i))) (dCall sp__law_draw (dCons (dVar 0) (dCons (dC (.int 3)) (dNil)))) (dC (.int 0)))) (dSet 3 (dUn rTupD (dComp (dSeq (dVar 3)) (dNm 7) (dYes) (dCB (rTwo fun i j => if j > i then j else i) (dCons (dC (.int 0)) (dCons (dCB (rTwo fun i j => if j < i then j else i) (dCons (dC (.int 6)) (dCons (dOp (dI0 fun i j => .int (i - j)) (dOp dAddA (dVar 7) (dCall sp__law_draw (dCons (dVar 0) (dCons (dC (.int 3)) (dNil))))) (dC (.int 1))) (dNil)))) (dNil)))) [7]))) (dSkip)) (dApp (dVar 4) (dVar 3)))) (dRet (dFrz (dVar 4)))))
noncomputable def bd__law_is_int : DS := dRet (dAndV (dCB rIsiD (dCons (dVar 0) (dCons (dC (.ty "int")) (dNil)))) (dAndV (dNotV (dCB rIsiD (dCons (dVar 0) (dCons (dC (.ty "bool")) (dNil))))) (dChain (dI0 fun i j => .bl (decide (i ≤ j))) (dI0 fun i j => .bl (decide (i ≤ j))) (dVar 1) (dVar 0) (dVar 2))))
noncomputable def bd__law_is_area : DS := dThen (dIf (dOr (dNot (dB (dCB rIsiD (dCons (dVar 0) (dCons (dC (.ty "tuple")) (dNil)))))) (dB (dOp (dI0 fun i j => .bl (decide (j < i))) (dCB rLenD (dCons (dVar 0) (dNil))) (dC (.int 6))))) (dRet (dC (.bl false))) (dSkip)) (dThen (dFor (dSeq (dVar 0)) (dNm 2) (dThen (dIf (dOr (dNot (dB (dCB rIsiD (dCons (dVar 2) (dCons (dC (.ty "tuple")) (dNil)))))) (dB (dOp (dEqS fun r => !r) (dCB rLenD (dCons (dVar 2) (dNil))) (dVar 1)))) (dRet (dC (.bl false))) (dSkip)) (dFor (dSeq (dVar 2)) (dNm 3) (dThen (dIf (dOr (dNot (dB (dCB rIsiD (dCons (dVar 3) (dCons (dC (.ty "tuple")) (dNil)))))) (dB (dOp (dEqS fun r => !r) (dCB rLenD (dCons (dVar 3) (dNil))) (dC (.int 2))))) (dRet (dC (.bl false))) (dSkip)) (dIf (dOr (dNot (dB (dCB (rBools fun l => l.all id) (dCons (dComp (dSeq (dVar 3)) (dNm 4) (dYes) (dCall sp__law_is_int (dCons (dVar 4) (dCons (dUn (dU fun i => .int (-i)) (dC (.int 1000))) (dCons (dC (.int 1000)) (dNil))))) [4]) (dNil))))) (dB (dOp (dI0 fun i j => .bl (decide (j < i))) (dOp rIxD (dVar 3) (dC (.int 0))) (dOp rIxD (dVar 3) (dC (.int 1)))))) (dRet (dC (.bl false))) (dSkip)))))) (dRet (dC (.bl true))))
noncomputable def bd__law_is_wish : DS := dThen (dIf (dOr (dNot (dB (dCB rIsiD (dCons (dVar 0) (dCons (dC (.ty "tuple")) (dNil)))))) (dOr (dB (dOp (dEqS fun r => r) (dCB rLenD (dCons (dVar 0) (dNil))) (dC (.int 0)))) (dNot (dB (dCB rIsiD (dCons (dOp rIxD (dVar 0) (dC (.int 0))) (dCons (dC (.ty "str")) (dNil)))))))) (dRet (dC (.bl false))) (dSkip)) (dThen (dSet 2 (dGetT ([("never", "a"), ("within", "ak"), ("answered", "aak"), ("ahead", "aa"), ("again", "ak")] : List (Str × Str)) (dOp rIxD (dVar 0) (dC (.int 0))))) (dThen (dIf (dOr (dB (dOp (dIsN fun r => r) (dVar 2) (dC .non))) (dB (dOp (dEqS fun r => !r) (dCB rLenD (dCons (dVar 0) (dNil))) (dOp dAddA (dC (.int 1)) (dCB rLenS (dCons (dVar 2) (dNil))))))) (dRet (dC (.bl false))) (dSkip)) (dThen (dFor (dZipS (dVar 2) (dSl (dVar 0) (dPart (dC (.int 1))) (dPart0))) (dTg 2 (dGCons (dNm 3) (dGCons (dNm 4) (dGNil)))) (dIf (dNot (dB (dIfE (dB (dOp (dEqS fun r => r) (dVar 3) (dC (.str "a")))) (dCall sp__law_is_area (dCons (dVar 4) (dCons (dVar 1) (dNil)))) (dCall sp__law_is_int (dCons (dVar 4) (dCons (dC (.int 1)) (dCons (dC (.int 30)) (dNil)))))))) (dRet (dC (.bl false))) (dSkip))) (dRet (dC (.bl true))))))
noncomputable def bd__law_are_wishes : DS := dRet (dAndV (dCB rIsiD (dCons (dVar 0) (dCons (dC (.ty "tuple")) (dNil)))) (dAndV (dOp (dI0 fun i j => .bl (decide (i ≤ j))) (dCB rLenD (dCons (dVar 0) (dNil))) (dC (.int 4))) (dCB (rBools fun l => l.all id) (dCons (dComp (dSeq (dVar 0)) (dNm 2) (dYes) (dCall sp__law_is_wish (dCons (dVar 2) (dCons (dVar 1) (dNil)))) [2]) (dNil)))))
noncomputable def bd__law_bent (n : Nat) : DS := dThen (dIf (dAnd (dB (dCB rIsiD (dCons (dVar 1) (dCons (dC (.ty "tuple")) (dNil))))) (dAnd (dB (dOp (dI0 fun i j => .bl (decide (j < i))) (dCB rLenD (dCons (dVar 1) (dNil))) (dC (.int 0)))) (dB (dOp (dI0 fun i j => .bl (decide (j < i))) (dCall sp__law_draw (dCons (dVar 0) (dCons (dC (.int 5)) (dNil)))) (dC (.int 0)))))) (dThen (dSet 3 (dCall sp__law_draw (dCons (dVar 0) (dCons (dCB rLenD (dCons (dVar 1) (dNil))) (dNil))))) (dRet (dOp dAddA (dOp dAddA (dSl (dVar 1) (dPart0) (dPart (dVar 3))) (dTup (dCons (dCall (sp__law_bent n) (dCons (dVar 0) (dCons (dOp rIxD (dVar 1) (dVar 3)) (dNil)))) (dNil)))) (dSl (dVar 1) (dPart (dOp dAddA (dVar 3) (dC (.int 1)))) (dPart0))))) (dSkip)) (dThen (dIf (dAnd (dB (dCB rIsiD (dCons (dVar 1) (dCons (dC (.ty "tuple")) (dNil))))) (dB (dOp (dI0 fun i j => .bl (decide (j < i))) (dCall sp__law_draw (dCons (dVar 0) (dCons (dC (.int 4)) (dNil)))) (dC (.int 0))))) (dThen (dSet 2 (dLst (dCons (dCB rListD (dCons (dVar 1) (dNil))) (dCons (dOp dAddA (dVar 1) (dSl (dVar 1) (dPart0) (dPart (dC (.int 1))))) (dCons (dSl (dVar 1) (dPart (dC (.int 1))) (dPart0)) (dCons (dSlS (dVar 1) (dUn (dU fun i => .int (-i)) (dC (.int 1)))) (dCons (dOp dMulA (dVar 1) (dC (.int 7))) (dCons (dOp dAddA (dVar 1) (dTup (dCons (dC (.int 1)) (dNil)))) (dCons (dTup (dCons (dVar 1) (dNil))) (dNil)))))))))) (dRet (dCall sp__law_some (dCons (dVar 0) (dCons (dVar 2) (dNil)))))) (dSkip)) (dThen (dIf (dAnd (dB (dCB rIsiD (dCons (dVar 1) (dCons (dC (.ty "int")) (dNil))))) (dB (dOp (dI0 fun i j => .bl (decide (j < i))) (dCall sp__law_draw (dCons (dVar 0) (dCons (dC (.int 4)) (dNil)))) (dC (.int 0))))) (dRet (dCall sp__law_some (dCons (dVar 0) (dCons (dLst (dCons (dOp dAddA (dVar 1) (dC (.int 1))) (dCons (dOp (dI0 fun i j => .int (i - j)) (dVar 1) (dC (.int 1))) (dCons (dC (.int 0)) (dCons (dC (.int 31)) (dCons (dC (.int 1000)) (dCons (dC (.int 1001)) (dCons (dUn (dU fun i => .int (-i)) (dC (.int 1001))) (dCons (dC (.bl true)) (dCons (dC (.bl false)) (dCons (dOp (dI0 fun i j => .int (i - j)) (dC (.int 0)) (dVar 1)) (dCons (dC (.int 30)) (dNil))))))))))))) (dNil))))) (dSkip)) (dThen (dSet 2 (dLst (dCons (dC (.str "never")) (dCons (dC (.str "within")) (dCons (dC (.str "answered")) (dCons (dC (.str "ahead")) (dCons (dC (.str "again")) (dCons (dC (.str "Never")) (dCons (dC (.str "")) (dCons (dC .non) (dCons (dC (.bl true)) (dCons (dC (.int 0)) (dCons (dTup (dNil)) (dCons (dLst (dNil)) (dCons (dC .dct) (dCons (dC (.str "1")) (dCons (dOp (dI CPow fun i j => .int (i ^ j.toNat)) (dC (.int 10)) (dC (.int 19))) (dNil)))))))))))))))))) (dRet (dCall sp__law_some (dCons (dVar 0) (dCons (dOp dAddA (dVar 2) (dLst (dCons (dCall sp__law_deep (dCons (dVar 0) (dCons (dC (.int 0)) (dNil)))) (dCons (dTup (dCons (dTup (dCons (dC (.int 0)) (dCons (dC (.int 1)) (dNil)))) (dNil))) (dCons (dTup (dCons (dTup (dCons (dTup (dCons (dC (.int 0)) (dCons (dC (.int 1)) (dNil)))) (dNil))) (dNil))) (dNil)))))) (dNil))))))))
noncomputable def bd__law_due : DS := dThen (dFor (dRng1 (dCB rLenD (dCons (dVar 1) (dNil)))) (dNm 2) (dFor (dEnumT (dVar 0)) (dTg 2 (dGCons (dNm 3) (dGCons (dNm 4) (dGNil)))) (dIf (dB (dCall sp__law_breaks (dCons (dVar 4) (dCons (dVar 1) (dCons (dVar 2) (dNil)))))) (dRet (dTup (dCons (dVar 2) (dCons (dVar 3) (dNil))))) (dSkip)))) (dRet (dC .non))
noncomputable def bd__law_is : DS := dThen (dIf (dOr (dB (dOp (dIsN fun r => r) (dVar 1) (dC .non))) (dB (dOp (dIsN fun r => r) (dVar 0) (dC .non)))) (dRet (dAndV (dOp (dIsN fun r => r) (dVar 0) (dC .non)) (dOp (dIsN fun r => r) (dVar 1) (dC .non)))) (dSkip)) (dThen (dIf (dOr (dNot (dB (dCB rIsiD (dCons (dVar 0) (dCons (dC (.ty "tuple")) (dNil)))))) (dOr (dB (dOp (dEqS fun r => !r) (dCB rLenD (dCons (dVar 0) (dNil))) (dC (.int 2)))) (dNot (dB (dCB (rBools fun l => l.all id) (dCons (dComp (dSeq (dVar 0)) (dNm 2) (dYes) (dCall sp__law_is_int (dCons (dVar 2) (dCons (dC (.int 0)) (dCons (dOp (dI CPow fun i j => .int (i ^ j.toNat)) (dC (.int 10)) (dC (.int 9))) (dNil))))) [2]) (dNil))))))) (dRet (dC (.bl false))) (dSkip)) (dRet (dAndV (dOp (dEqS fun r => r) (dOp rIxD (dVar 0) (dC (.int 0))) (dOp rIxD (dVar 1) (dC (.int 0)))) (dOp (dEqS fun r => r) (dOp rIxD (dVar 0) (dC (.int 1))) (dOp rIxD (dVar 1) (dC (.int 1)))))))
noncomputable def bd__law_plant : DS := dThen (dSet 1 (dUn rTupD (dComp (dRng1 (dVar 0)) (dNm 2) (dYes) (dTup (dCons (dC (.str "in")) (dCons (dVar 2) (dNil)))) [2]))) (dRet (dMake PlC.cP (["form", "way", "box", "modes", "pushes"] : List Str) PltP (dCons (dMake PlC.cF (["bits", "low", "high"] : List Str) FmtP (dCons (dC (.int 8)) (dCons (dC (.int 0)) (dCons (dC (.int 4)) (dNil))))) (dCons (dC (.str "near")) (dCons (dOp dMulA (dTup (dCons (dTup (dCons (dC (.int 0)) (dCons (dC (.int 6)) (dNil)))) (dNil))) (dVar 0)) (dCons (dTup (dCons (dTup (dCons (dC .non) (dCons (dVar 1) (dNil)))) (dNil))) (dCons (dOp dMulA (dTup (dCons (dTup (dCons (dC (.int 0)) (dCons (dC (.int 0)) (dNil)))) (dNil))) (dVar 0)) (dNil))))))))
noncomputable def bd__law_are_known_right : DS := dThen (dAsg (dTup (dCons (dLst (dCons (dTup (dCons (dC (.int 0)) (dNil))) (dCons (dTup (dCons (dC (.int 1)) (dNil))) (dCons (dTup (dCons (dC (.int 2)) (dNil))) (dCons (dTup (dCons (dC (.int 1)) (dNil))) (dCons (dTup (dCons (dC (.int 1)) (dNil))) (dCons (dTup (dCons (dC (.int 1)) (dNil))) (dNil)))))))) (dCons (dTup (dCons (dTup (dCons (dC (.int 9)) (dCons (dC (.int 9)) (dNil)))) (dNil))) (dNil)))) (dTg 2 (dGCons (dNm 3) (dGCons (dNm 4) (dGNil))))) (dThen (dSet 0 (dLstO (dCons (dTup (dCons (dC (.str "never")) (dCons (dTup (dCons (dTup (dCons (dTup (dCons (dC (.int 2)) (dCons (dC (.int 2)) (dNil)))) (dNil))) (dNil))) (dNil)))) (dCons (dTup (dCons (dC (.str "within")) (dCons (dTup (dCons (dVar 4) (dNil))) (dCons (dC (.int 5)) (dNil))))) (dCons (dTup (dCons (dC (.str "within")) (dCons (dTup (dCons (dTup (dCons (dTup (dCons (dC (.int 2)) (dCons (dC (.int 2)) (dNil)))) (dNil))) (dNil))) (dCons (dC (.int 1)) (dNil))))) (dCons (dTup (dCons (dC (.str "again")) (dCons (dTup (dCons (dTup (dCons (dTup (dCons (dC (.int 2)) (dCons (dC (.int 2)) (dNil)))) (dNil))) (dNil))) (dCons (dC (.int 2)) (dNil))))) (dNil))))))) (dThen (dSet 0 (dOp dAddLO (dVar 0) (dLst (dCons (dTup (dCons (dC (.str "again")) (dCons (dTup (dCons (dTup (dCons (dTup (dCons (dC (.int 0)) (dCons (dC (.int 0)) (dNil)))) (dNil))) (dCons (dTup (dCons (dTup (dCons (dC (.int 2)) (dCons (dC (.int 2)) (dNil)))) (dNil))) (dNil)))) (dCons (dC (.int 1)) (dNil))))) (dCons (dTup (dCons (dC (.str "answered")) (dCons (dTup (dCons (dTup (dCons (dTup (dCons (dC (.int 0)) (dCons (dC (.int 0)) (dNil)))) (dNil))) (dNil))) (dCons (dTup (dCons (dTup (dCons (dTup (dCons (dC (.int 2)) (dCons (dC (.int 2)) (dNil)))) (dNil))) (dNil))) (dCons (dC (.int 2)) (dNil)))))) (dNil)))))) (dThen (dSet 0 (dOp dAddLO (dVar 0) (dLst (dCons (dTup (dCons (dC (.str "answered")) (dCons (dTup (dCons (dTup (dCons (dTup (dCons (dC (.int 0)) (dCons (dC (.int 0)) (dNil)))) (dNil))) (dNil))) (dCons (dTup (dCons (dTup (dCons (dTup (dCons (dC (.int 2)) (dCons (dC (.int 2)) (dNil)))) (dNil))) (dNil))) (dCons (dC (.int 1)) (dNil)))))) (dCons (dTup (dCons (dC (.str "ahead")) (dCons (dTup (dCons (dTup (dCons (dTup (dCons (dC (.int 1)) (dCons (dC (.int 1)) (dNil)))) (dNil))) (dNil))) (dCons (dTup (dCons (dTup (dCons (dTup (dCons (dC (.int 2)) (dCons (dC (.int 2)) (dNil)))) (dNil))) (dNil))) (dNil))))) (dNil)))))) (dThen (dApp (dVar 0) (dTup (dCons (dC (.str "ahead")) (dCons (dTup (dNil)) (dCons (dTup (dCons (dTup (dCons (dTup (dCons (dC (.int 2)) (dCons (dC (.int 2)) (dNil)))) (dNil))) (dNil))) (dNil)))))) (dThen (dSet 0 (dOp dAddLO (dVar 0) (dLst (dCons (dTup (dCons (dC (.str "answered")) (dCons (dTup (dCons (dTup (dCons (dTup (dCons (dC (.int 2)) (dCons (dC (.int 2)) (dNil)))) (dNil))) (dNil))) (dCons (dTup (dCons (dVar 4) (dNil))) (dCons (dC (.int 3)) (dNil)))))) (dCons (dTup (dCons (dC (.str "answered")) (dCons (dTup (dCons (dTup (dCons (dTup (dCons (dC (.int 0)) (dCons (dC (.int 1)) (dNil)))) (dNil))) (dNil))) (dCons (dTup (dCons (dTup (dCons (dTup (dCons (dC (.int 0)) (dCons (dC (.int 0)) (dNil)))) (dNil))) (dNil))) (dCons (dC (.int 2)) (dNil)))))) (dNil)))))) (dThen (dSet 1 (dComp (dSeq (dFrz (dVar 0))) (dNm 5) (dYes) (dCall sp_broken (dCons (dTup (dCons (dVar 5) (dNil))) (dCons (dVar 3) (dNil)))) [5])) (dThen (dSet 2 (dLst (dCons (dTup (dCons (dC (.int 2)) (dCons (dC (.int 0)) (dNil)))) (dCons (dTup (dCons (dC (.int 5)) (dCons (dC (.int 0)) (dNil)))) (dCons (dTup (dCons (dC (.int 1)) (dCons (dC (.int 0)) (dNil)))) (dCons (dTup (dCons (dC (.int 5)) (dCons (dC (.int 0)) (dNil)))) (dCons (dTup (dCons (dC (.int 4)) (dCons (dC (.int 0)) (dNil)))) (dCons (dC .non) (dCons (dTup (dCons (dC (.int 1)) (dCons (dC (.int 0)) (dNil)))) (dCons (dC .non) (dCons (dTup (dCons (dC (.int 2)) (dCons (dC (.int 0)) (dNil)))) (dCons (dTup (dCons (dC (.int 5)) (dCons (dC (.int 0)) (dNil)))) (dCons (dTup (dCons (dC (.int 3)) (dCons (dC (.int 0)) (dNil)))) (dNil)))))))))))))) (dRet (dCB (rBools fun l => l.all id) (dCons (dComp (dZip (dVar 1) (dVar 2)) (dTg 2 (dGCons (dNm 5) (dGCons (dNm 6) (dGNil)))) (dYes) (dCall sp__law_is (dCons (dVar 5) (dCons (dVar 6) (dNil)))) [5, 6]) (dNil)))))))))))
noncomputable def bd_law : DS := dThen (dSet 1 (dCall sp__law_hand (dCons (dVar 0) (dNil)))) (dThen (dIf (dNot (dB (dCall sp__law_are_known_right dNil))) (dRet (dC (.bl false))) (dSkip)) (dThen (dFor (dRng1 (dC (.int 3))) (dNm 2) (dThen (dSet 3 (dOp dAddA (dC (.int 1)) (dCall sp__law_draw (dCons (dVar 1) (dCons (dC (.int 3)) (dNil)))))) (dThen (dSet 4 (dCall sp__law_plant (dCons (dVar 3) (dNil)))) (dThen (dSet 5 (dUn rTupD (dComp (dRng1 (dCall sp__law_draw (dCons (dVar 1) (dCons (dC (.int 5)) (dNil))))) (dNm 8) (dYes) (dCall sp__law_wish (dCons (dVar 1) (dCons (dVar 3) (dNil)))) [8]))) (dThen (dSet 6 (dLst (dCons (dVar 5) (dCons (dOp dAddA (dVar 5) (dOp dMulA (dTup (dCons (dCall sp__law_wish (dCons (dVar 1) (dCons (dVar 3) (dNil)))) (dNil))) (dC (.int 2)))) (dCons (dCall sp__law_wish (dCons (dVar 1) (dCons (dVar 3) (dNil)))) (dCons (dCB rListD (dCons (dVar 5) (dNil))) (dNil))))))) (dThen (dSet 6 (dOp dAddA (dOp dAddA (dVar 6) (dComp (dRng1 (dC (.int 8))) (dNm 8) (dYes) (dCall (sp__law_bent 7) (dCons (dVar 1) (dCons (dVar 5) (dNil)))) [8])) (dLst (dCons (dTup (dCons (dCall sp__law_wish (dCons (dVar 1) (dCons (dOp dAddA (dC (.int 1)) (dCall sp__law_draw (dCons (dVar 1) (dCons (dC (.int 3)) (dNil))))) (dNil)))) (dNil))) (dNil))))) (dThen (dFor (dSeq (dVar 6)) (dNm 7) (dThen (dPar 10 11 (dCons (dCall sp_are_wishes (dCons (dVar 4) (dCons (dVar 7) (dNil)))) (dCons (dCB rReprD (dCons (dVar 7) (dNil))) (dNil)))) (dIf (dOr (dNot (dB (dCB rIsiD (dCons (dVar 10) (dCons (dC (.ty "bool")) (dNil)))))) (dOr (dB (dOp (dEqS fun r => !r) (dVar 10) (dCall sp__law_are_wishes (dCons (dVar 7) (dCons (dVar 3) (dNil)))))) (dB (dOp (dEqS fun r => !r) (dCB rReprD (dCons (dVar 7) (dNil))) (dVar 11))))) (dRet (dC (.bl false))) (dSkip)))) (dFor (dRng1 (dC (.int 3))) (dNm 8) (dThen (dSet 9 (dCall sp__law_places (dCons (dVar 1) (dCons (dVar 3) (dCons (dCall sp__law_some (dCons (dVar 1) (dCons (dLst (dCons (dC (.int 0)) (dCons (dC (.int 1)) (dCons (dC (.int 5)) (dCons (dC (.int 12)) (dCons (dC (.int 40)) (dNil))))))) (dNil)))) (dNil)))))) (dThen (dPar 12 11 (dCons (dCall sp__law_due (dCons (dVar 5) (dCons (dVar 9) (dNil)))) (dCons (dCB rListD (dCons (dVar 9) (dNil))) (dNil)))) (dThen (dIf (dOr (dNot (dB (dCall sp__law_is (dCons (dCall sp_broken (dCons (dVar 5) (dCons (dUn rTupD (dVar 9)) (dNil)))) (dCons (dVar 12) (dNil)))))) (dNot (dB (dCall sp__law_is (dCons (dCall sp_broken (dCons (dVar 5) (dCons (dVar 9) (dNil)))) (dCons (dVar 12) (dNil))))))) (dRet (dC (.bl false))) (dSkip)) (dIf (dB (dOp rNeSame (dVar 9) (dVar 11))) (dRet (dC (.bl false))) (dSkip))))))))))))) (dRet (dC (.bl true)))))
end Lk17
namespace Lk17
open PySem PySem.Spec PyProof.Rows L2 SC
/-! ### the text -/
def topS (i : Nat) : Stmt := PySem.Challenge.pw_steadycraft_k17_whole_wishes_judged_and.main.body.getD i (.Pass ⟨0, 0, 0, 0⟩)
abbrev s_is_integer : Stmt := topS 6
abbrev s_is_between : Stmt := topS 7
abbrev s_is_tuple : Stmt := topS 8
abbrev s_is_pair : Stmt := topS 9
abbrev s_is_one_of : Stmt := topS 10
abbrev s_is_span : Stmt := topS 12
abbrev s_are_spans : Stmt := topS 13
abbrev s_many_rows : Stmt := topS 14
abbrev s_is_way : Stmt := topS 18
abbrev s_is_formula : Stmt := topS 21
abbrev s_operations : Stmt := topS 22
abbrev s_is_leaf : Stmt := topS 23
abbrev s_is_box : Stmt := topS 26
abbrev s_is_area : Stmt := topS 27
abbrev s_in_box : Stmt := topS 28
abbrev s_in_area : Stmt := topS 29
abbrev s_is_mode : Stmt := topS 30
abbrev s_are_modes : Stmt := topS 31
abbrev s_is_wish : Stmt := topS 37
abbrev s_are_wishes : Stmt := topS 38
abbrev s_marks : Stmt := topS 39
abbrev s_count_at_first : Stmt := topS 40
abbrev s_ahead_count : Stmt := topS 41
abbrev s_next_count : Stmt := topS 42
abbrev s_next_waiting : Stmt := topS 43
abbrev s_unless_above : Stmt := topS 44
abbrev s_begun_by : Stmt := topS 45
abbrev s_counted_by : Stmt := topS 46
abbrev s_begun : Stmt := topS 47
abbrev s_counted : Stmt := topS 48
abbrev s_first_broken : Stmt := topS 49
abbrev s_broken : Stmt := topS 50
abbrev s__law_hand : Stmt := topS 52
abbrev s__law_draw : Stmt := topS 53
abbrev s__law_some : Stmt := topS 54
abbrev s__law_deep : Stmt := topS 55
abbrev s__law_in : Stmt := topS 56
abbrev s__law_breaks : Stmt := topS 57
abbrev s__law_box : Stmt := topS 58
abbrev s__law_area : Stmt := topS 59
abbrev s__law_wish : Stmt := topS 60
abbrev s__law_places : Stmt := topS 61
abbrev s__law_is_int : Stmt := topS 62
abbrev s__law_is_area : Stmt := topS 63
abbrev s__law_is_wish : Stmt := topS 64
abbrev s__law_are_wishes : Stmt := topS 65
abbrev s__law_bent : Stmt := topS 66
abbrev s__law_due : Stmt := topS 67
abbrev s__law_is : Stmt := topS 68
abbrev s__law_plant : Stmt := topS 69
abbrev s__law_are_known_right : Stmt := topS 70
abbrev s_law : Stmt := topS 71
theorem sc_is_integer : FnScope ["thing"] ["thing"] (defScope s_is_integer) := ⟨rfl, rfl, rfl, by decide +kernel, rfl, by decide +kernel, by decide +kernel⟩
theorem sc_is_between : FnScope ["least", "most", "thing"] ["least", "most", "thing"] (defScope s_is_between) := ⟨rfl, rfl, rfl, by decide +kernel, rfl, by decide +kernel, by decide +kernel⟩
theorem sc_is_tuple : FnScope ["least", "most", "thing"] ["least", "most", "thing"] (defScope s_is_tuple) := ⟨rfl, rfl, rfl, by decide +kernel, rfl, by decide +kernel, by decide +kernel⟩
theorem sc_is_pair : FnScope ["thing"] ["thing"] (defScope s_is_pair) := ⟨rfl, rfl, rfl, by decide +kernel, rfl, by decide +kernel, by decide +kernel⟩
theorem sc_is_one_of : FnScope ["words", "thing"] ["words", "thing"] (defScope s_is_one_of) := ⟨rfl, rfl, rfl, by decide +kernel, rfl, by decide +kernel, by decide +kernel⟩
theorem sc_is_span : FnScope ["least", "most", "thing"] ["least", "most", "thing"] (defScope s_is_span) := ⟨rfl, rfl, rfl, by decide +kernel, rfl, by decide +kernel, by decide +kernel⟩
theorem sc_are_spans : FnScope ["fewest", "many", "least", "most", "thing", "span"] ["fewest", "many", "least", "most", "thing"] (defScope s_are_spans) := ⟨rfl, rfl, rfl, by decide +kernel, rfl, by decide +kernel, by decide +kernel⟩
theorem sc_many_rows : FnScope ["spans", "many", "low", "high"] ["spans"] (defScope s_many_rows) := ⟨rfl, rfl, rfl, by decide +kernel, rfl, by decide +kernel, by decide +kernel⟩
theorem sc_is_way : FnScope ["thing"] ["thing"] (defScope s_is_way) := ⟨rfl, rfl, rfl, by decide +kernel, rfl, by decide +kernel, by decide +kernel⟩
theorem sc_is_formula : FnScope ["inputs", "thing", "many"] ["inputs", "thing"] (defScope s_is_formula) := ⟨rfl, rfl, rfl, by decide +kernel, rfl, by decide +kernel, by decide +kernel⟩
theorem sc_operations : FnScope ["inputs", "thing", "deep", "one", "other"] ["inputs", "thing", "deep"] (defScope s_operations) := ⟨rfl, rfl, rfl, by decide +kernel, rfl, by decide +kernel, by decide +kernel⟩
theorem sc_is_leaf : FnScope ["inputs", "thing", "word", "value"] ["inputs", "thing"] (defScope s_is_leaf) := ⟨rfl, rfl, rfl, by decide +kernel, rfl, by decide +kernel, by decide +kernel⟩
theorem sc_is_box : FnScope ["axes", "thing"] ["axes", "thing"] (defScope s_is_box) := ⟨rfl, rfl, rfl, by decide +kernel, rfl, by decide +kernel, by decide +kernel⟩
theorem sc_is_area : FnScope ["axes", "thing", "box"] ["axes", "thing"] (defScope s_is_area) := ⟨rfl, rfl, rfl, by decide +kernel, rfl, by decide +kernel, by decide +kernel⟩
theorem sc_in_box : FnScope ["box", "place", "item", "low", "high"] ["box", "place"] (defScope s_in_box) := ⟨rfl, rfl, rfl, by decide +kernel, rfl, by decide +kernel, by decide +kernel⟩
theorem sc_in_area : FnScope ["area", "place", "box"] ["area", "place"] (defScope s_in_area) := ⟨rfl, rfl, rfl, by decide +kernel, rfl, by decide +kernel, by decide +kernel⟩
theorem sc_is_mode : FnScope ["axes", "last", "thing", "area", "formulas", "formula"] ["axes", "last", "thing"] (defScope s_is_mode) := ⟨rfl, rfl, rfl, by decide +kernel, rfl, by decide +kernel, by decide +kernel⟩
theorem sc_are_modes : FnScope ["axes", "thing", "at", "mode"] ["axes", "thing"] (defScope s_are_modes) := ⟨rfl, rfl, rfl, by decide +kernel, rfl, by decide +kernel, by decide +kernel⟩
theorem sc_is_wish : FnScope ["axes", "thing", "ahead_of_k", "area"] ["axes", "thing"] (defScope s_is_wish) := ⟨rfl, rfl, rfl, by decide +kernel, rfl, by decide +kernel, by decide +kernel⟩
theorem sc_are_wishes : FnScope ["plant", "thing", "wish"] ["plant", "thing"] (defScope s_are_wishes) := ⟨rfl, rfl, rfl, by decide +kernel, rfl, by decide +kernel, by decide +kernel⟩
theorem sc_marks : FnScope ["wishes", "place", "found", "wish", "other"] ["wishes", "place"] (defScope s_marks) := ⟨rfl, rfl, rfl, by decide +kernel, rfl, by decide +kernel, by decide +kernel⟩
theorem sc_count_at_first : FnScope ["wish", "inside", "other", "word"] ["wish", "inside", "other"] (defScope s_count_at_first) := ⟨rfl, rfl, rfl, by decide +kernel, rfl, by decide +kernel, by decide +kernel⟩
theorem sc_ahead_count : FnScope ["inside", "other"] ["inside", "other"] (defScope s_ahead_count) := ⟨rfl, rfl, rfl, by decide +kernel, rfl, by decide +kernel, by decide +kernel⟩
theorem sc_next_count : FnScope ["wish", "count", "inside", "other", "word"] ["wish", "count", "inside", "other"] (defScope s_next_count) := ⟨rfl, rfl, rfl, by decide +kernel, rfl, by decide +kernel, by decide +kernel⟩
theorem sc_next_waiting : FnScope ["wish", "count", "inside", "other"] ["wish", "count", "inside", "other"] (defScope s_next_waiting) := ⟨rfl, rfl, rfl, by decide +kernel, rfl, by decide +kernel, by decide +kernel⟩
theorem sc_unless_above : FnScope ["count", "most"] ["count", "most"] (defScope s_unless_above) := ⟨rfl, rfl, rfl, by decide +kernel, rfl, by decide +kernel, by decide +kernel⟩
theorem sc_begun_by : FnScope ["wishes", "marked", "wish", "inside", "other"] ["wishes", "marked"] (defScope s_begun_by) := ⟨rfl, rfl, rfl, by decide +kernel, rfl, by decide +kernel, by decide +kernel⟩
theorem sc_counted_by : FnScope ["wishes", "counts", "marked", "found", "wish", "count", "inside", "other"] ["wishes", "counts", "marked"] (defScope s_counted_by) := ⟨rfl, rfl, rfl, by decide +kernel, rfl, by decide +kernel, by decide +kernel⟩
theorem sc_begun : FnScope ["wishes", "place"] ["wishes", "place"] (defScope s_begun) := ⟨rfl, rfl, rfl, by decide +kernel, rfl, by decide +kernel, by decide +kernel⟩
theorem sc_counted : FnScope ["wishes", "counts", "place"] ["wishes", "counts", "place"] (defScope s_counted) := ⟨rfl, rfl, rfl, by decide +kernel, rfl, by decide +kernel, by decide +kernel⟩
theorem sc_first_broken : FnScope ["counts", "number", "count"] ["counts"] (defScope s_first_broken) := ⟨rfl, rfl, rfl, by decide +kernel, rfl, by decide +kernel, by decide +kernel⟩
theorem sc_broken : FnScope ["wishes", "places", "counts", "at", "place", "number"] ["wishes", "places"] (defScope s_broken) := ⟨rfl, rfl, rfl, by decide +kernel, rfl, by decide +kernel, by decide +kernel⟩
theorem sc__law_hand : FnScope ["script", "cells", "cell"] ["script"] (defScope s__law_hand) := ⟨rfl, rfl, rfl, by decide +kernel, rfl, by decide +kernel, by decide +kernel⟩
theorem sc__law_draw : FnScope ["hand", "many", "number", "cell", "digit"] ["hand", "many"] (defScope s__law_draw) := ⟨rfl, rfl, rfl, by decide +kernel, rfl, by decide +kernel, by decide +kernel⟩
theorem sc__law_some : FnScope ["hand", "things"] ["hand", "things"] (defScope s__law_some) := ⟨rfl, rfl, rfl, by decide +kernel, rfl, by decide +kernel, by decide +kernel⟩
theorem sc__law_deep : FnScope ["hand", "thing", "turn"] ["hand", "thing"] (defScope s__law_deep) := ⟨rfl, rfl, rfl, by decide +kernel, rfl, by decide +kernel, by decide +kernel⟩
theorem sc__law_in : FnScope ["area", "place", "box", "one", "low", "high"] ["area", "place"] (defScope s__law_in) := ⟨rfl, rfl, rfl, by decide +kernel, rfl, by decide +kernel, by decide +kernel⟩
theorem sc__law_breaks : FnScope ["wish", "places", "at", "there", "word", "here", "place"] ["wish", "places", "at"] (defScope s__law_breaks) := ⟨rfl, rfl, rfl, by decide +kernel, rfl, by decide +kernel, by decide +kernel⟩
theorem sc__law_box : FnScope ["hand", "axes", "found", "axis", "low"] ["hand", "axes"] (defScope s__law_box) := ⟨rfl, rfl, rfl, by decide +kernel, rfl, by decide +kernel, by decide +kernel⟩
theorem sc__law_area : FnScope ["hand", "axes", "turn"] ["hand", "axes"] (defScope s__law_area) := ⟨rfl, rfl, rfl, by decide +kernel, rfl, by decide +kernel, by decide +kernel⟩
theorem sc__law_wish : FnScope ["hand", "axes", "some", "one", "other", "k"] ["hand", "axes"] (defScope s__law_wish) := ⟨rfl, rfl, rfl, by decide +kernel, rfl, by decide +kernel, by decide +kernel⟩
theorem sc__law_places : FnScope ["hand", "axes", "many", "here", "found", "turn", "axis", "one"] ["hand", "axes", "many"] (defScope s__law_places) := ⟨rfl, rfl, rfl, by decide +kernel, rfl, by decide +kernel, by decide +kernel⟩
theorem sc__law_is_int : FnScope ["thing", "low", "high"] ["thing", "low", "high"] (defScope s__law_is_int) := ⟨rfl, rfl, rfl, by decide +kernel, rfl, by decide +kernel, by decide +kernel⟩
theorem sc__law_is_area : FnScope ["thing", "axes", "box", "pair", "one"] ["thing", "axes"] (defScope s__law_is_area) := ⟨rfl, rfl, rfl, by decide +kernel, rfl, by decide +kernel, by decide +kernel⟩
theorem sc__law_is_wish : FnScope ["thing", "axes", "kinds", "kind", "part"] ["thing", "axes"] (defScope s__law_is_wish) := ⟨rfl, rfl, rfl, by decide +kernel, rfl, by decide +kernel, by decide +kernel⟩
theorem sc__law_are_wishes : FnScope ["thing", "axes", "one"] ["thing", "axes"] (defScope s__law_are_wishes) := ⟨rfl, rfl, rfl, by decide +kernel, rfl, by decide +kernel, by decide +kernel⟩
theorem sc__law_bent : FnScope ["hand", "thing", "some", "at"] ["hand", "thing"] (defScope s__law_bent) := ⟨rfl, rfl, rfl, by decide +kernel, rfl, by decide +kernel, by decide +kernel⟩
theorem sc__law_due : FnScope ["wishes", "places", "at", "number", "wish"] ["wishes", "places"] (defScope s__law_due) := ⟨rfl, rfl, rfl, by decide +kernel, rfl, by decide +kernel, by decide +kernel⟩
theorem sc__law_is : FnScope ["told", "due", "one"] ["told", "due"] (defScope s__law_is) := ⟨rfl, rfl, rfl, by decide +kernel, rfl, by decide +kernel, by decide +kernel⟩
theorem sc__law_plant : FnScope ["axes", "forms", "axis"] ["axes"] (defScope s__law_plant) := ⟨rfl, rfl, rfl, by decide +kernel, rfl, by decide +kernel, by decide +kernel⟩
theorem sc__law_are_known_right : FnScope ["some", "told", "dues", "line", "far", "one", "due"] [] (defScope s__law_are_known_right) := ⟨rfl, rfl, rfl, by decide +kernel, rfl, by decide +kernel, by decide +kernel⟩
theorem sc_law : FnScope ["script", "hand", "turn", "axes", "plant", "wishes", "things", "thing", "again", "places", "told", "kept", "due"] ["script"] (defScope s_law) := ⟨rfl, rfl, rfl, by decide +kernel, rfl, by decide +kernel, by decide +kernel⟩
/-- what the top has left -/
structure Tx (K : PySem.W.Frag) (mg : Str → Option Value) where
  a_is_integer : Addr
  d_is_integer : FuncData
  f_is_integer : Fun K "is_integer" "is_integer" s_is_integer a_is_integer d_is_integer
  b_is_integer : Binds K d_is_integer ["thing"] []
  m_is_integer : mg "is_integer" = some (.ref a_is_integer)
  a_is_between : Addr
  d_is_between : FuncData
  f_is_between : Fun K "is_between" "is_between" s_is_between a_is_between d_is_between
  b_is_between : Binds K d_is_between ["least", "most", "thing"] []
  m_is_between : mg "is_between" = some (.ref a_is_between)
  a_is_tuple : Addr
  d_is_tuple : FuncData
  f_is_tuple : Fun K "is_tuple" "is_tuple" s_is_tuple a_is_tuple d_is_tuple
  b_is_tuple : Binds K d_is_tuple ["least", "most", "thing"] []
  m_is_tuple : mg "is_tuple" = some (.ref a_is_tuple)
  a_is_pair : Addr
  d_is_pair : FuncData
  f_is_pair : Fun K "is_pair" "is_pair" s_is_pair a_is_pair d_is_pair
  b_is_pair : Binds K d_is_pair ["thing"] []
  m_is_pair : mg "is_pair" = some (.ref a_is_pair)
  a_is_one_of : Addr
  d_is_one_of : FuncData
  f_is_one_of : Fun K "is_one_of" "is_one_of" s_is_one_of a_is_one_of d_is_one_of
  b_is_one_of : Binds K d_is_one_of ["words", "thing"] []
  m_is_one_of : mg "is_one_of" = some (.ref a_is_one_of)
  a_is_span : Addr
  d_is_span : FuncData
  f_is_span : Fun K "is_span" "is_span" s_is_span a_is_span d_is_span
  b_is_span : Binds K d_is_span ["least", "most", "thing"] []
  m_is_span : mg "is_span" = some (.ref a_is_span)
  a_are_spans : Addr
  d_are_spans : FuncData
  f_are_spans : Fun K "are_spans" "are_spans" s_are_spans a_are_spans d_are_spans
  b_are_spans : Binds K d_are_spans ["fewest", "many", "least", "most", "thing"] []
  m_are_spans : mg "are_spans" = some (.ref a_are_spans)
  a_many_rows : Addr
  d_many_rows : FuncData
  f_many_rows : Fun K "many_rows" "many_rows" s_many_rows a_many_rows d_many_rows
  b_many_rows : Binds K d_many_rows ["spans"] []
  m_many_rows : mg "many_rows" = some (.ref a_many_rows)
  a_is_way : Addr
  d_is_way : FuncData
  f_is_way : Fun K "is_way" "is_way" s_is_way a_is_way d_is_way
  b_is_way : Binds K d_is_way ["thing"] []
  m_is_way : mg "is_way" = some (.ref a_is_way)
  a_is_leaf : Addr
  d_is_leaf : FuncData
  f_is_leaf : Fun K "is_leaf" "is_leaf" s_is_leaf a_is_leaf d_is_leaf
  b_is_leaf : Binds K d_is_leaf ["inputs", "thing"] []
  m_is_leaf : mg "is_leaf" = some (.ref a_is_leaf)
  a_operations : Addr
  d_operations : FuncData
  f_operations : Fun K "operations" "operations" s_operations a_operations d_operations
  b_operations : Binds K d_operations ["inputs", "thing", "deep"] []
  m_operations : mg "operations" = some (.ref a_operations)
  a_is_formula : Addr
  d_is_formula : FuncData
  f_is_formula : Fun K "is_formula" "is_formula" s_is_formula a_is_formula d_is_formula
  b_is_formula : Binds K d_is_formula ["inputs", "thing"] []
  m_is_formula : mg "is_formula" = some (.ref a_is_formula)
  a_is_box : Addr
  d_is_box : FuncData
  f_is_box : Fun K "is_box" "is_box" s_is_box a_is_box d_is_box
  b_is_box : Binds K d_is_box ["axes", "thing"] []
  m_is_box : mg "is_box" = some (.ref a_is_box)
  a_is_area : Addr
  d_is_area : FuncData
  f_is_area : Fun K "is_area" "is_area" s_is_area a_is_area d_is_area
  b_is_area : Binds K d_is_area ["axes", "thing"] []
  m_is_area : mg "is_area" = some (.ref a_is_area)
  a_in_box : Addr
  d_in_box : FuncData
  f_in_box : Fun K "in_box" "in_box" s_in_box a_in_box d_in_box
  b_in_box : Binds K d_in_box ["box", "place"] []
  m_in_box : mg "in_box" = some (.ref a_in_box)
  a_in_area : Addr
  d_in_area : FuncData
  f_in_area : Fun K "in_area" "in_area" s_in_area a_in_area d_in_area
  b_in_area : Binds K d_in_area ["area", "place"] []
  m_in_area : mg "in_area" = some (.ref a_in_area)
  a_is_mode : Addr
  d_is_mode : FuncData
  f_is_mode : Fun K "is_mode" "is_mode" s_is_mode a_is_mode d_is_mode
  b_is_mode : Binds K d_is_mode ["axes", "last", "thing"] []
  m_is_mode : mg "is_mode" = some (.ref a_is_mode)
  a_are_modes : Addr
  d_are_modes : FuncData
  f_are_modes : Fun K "are_modes" "are_modes" s_are_modes a_are_modes d_are_modes
  b_are_modes : Binds K d_are_modes ["axes", "thing"] []
  m_are_modes : mg "are_modes" = some (.ref a_are_modes)
  a_is_wish : Addr
  d_is_wish : FuncData
  f_is_wish : Fun K "is_wish" "is_wish" s_is_wish a_is_wish d_is_wish
  b_is_wish : Binds K d_is_wish ["axes", "thing"] []
  m_is_wish : mg "is_wish" = some (.ref a_is_wish)
  a_are_wishes : Addr
  d_are_wishes : FuncData
  f_are_wishes : Fun K "are_wishes" "are_wishes" s_are_wishes a_are_wishes d_are_wishes
  b_are_wishes : Binds K d_are_wishes ["plant", "thing"] []
  m_are_wishes : mg "are_wishes" = some (.ref a_are_wishes)
  a_marks : Addr
  d_marks : FuncData
  f_marks : Fun K "marks" "marks" s_marks a_marks d_marks
  b_marks : Binds K d_marks ["wishes", "place"] []
  m_marks : mg "marks" = some (.ref a_marks)
  a_ahead_count : Addr
  d_ahead_count : FuncData
  f_ahead_count : Fun K "ahead_count" "ahead_count" s_ahead_count a_ahead_count d_ahead_count
  b_ahead_count : Binds K d_ahead_count ["inside", "other"] []
  m_ahead_count : mg "ahead_count" = some (.ref a_ahead_count)
  a_count_at_first : Addr
  d_count_at_first : FuncData
  f_count_at_first : Fun K "count_at_first" "count_at_first" s_count_at_first a_count_at_first d_count_at_first
  b_count_at_first : Binds K d_count_at_first ["wish", "inside", "other"] []
  m_count_at_first : mg "count_at_first" = some (.ref a_count_at_first)
  a_unless_above : Addr
  d_unless_above : FuncData
  f_unless_above : Fun K "unless_above" "unless_above" s_unless_above a_unless_above d_unless_above
  b_unless_above : Binds K d_unless_above ["count", "most"] []
  m_unless_above : mg "unless_above" = some (.ref a_unless_above)
  a_next_waiting : Addr
  d_next_waiting : FuncData
  f_next_waiting : Fun K "next_waiting" "next_waiting" s_next_waiting a_next_waiting d_next_waiting
  b_next_waiting : Binds K d_next_waiting ["wish", "count", "inside", "other"] []
  m_next_waiting : mg "next_waiting" = some (.ref a_next_waiting)
  a_next_count : Addr
  d_next_count : FuncData
  f_next_count : Fun K "next_count" "next_count" s_next_count a_next_count d_next_count
  b_next_count : Binds K d_next_count ["wish", "count", "inside", "other"] []
  m_next_count : mg "next_count" = some (.ref a_next_count)
  a_begun_by : Addr
  d_begun_by : FuncData
  f_begun_by : Fun K "begun_by" "begun_by" s_begun_by a_begun_by d_begun_by
  b_begun_by : Binds K d_begun_by ["wishes", "marked"] []
  m_begun_by : mg "begun_by" = some (.ref a_begun_by)
  a_counted_by : Addr
  d_counted_by : FuncData
  f_counted_by : Fun K "counted_by" "counted_by" s_counted_by a_counted_by d_counted_by
  b_counted_by : Binds K d_counted_by ["wishes", "counts", "marked"] []
  m_counted_by : mg "counted_by" = some (.ref a_counted_by)
  a_begun : Addr
  d_begun : FuncData
  f_begun : Fun K "begun" "begun" s_begun a_begun d_begun
  b_begun : Binds K d_begun ["wishes", "place"] []
  m_begun : mg "begun" = some (.ref a_begun)
  a_counted : Addr
  d_counted : FuncData
  f_counted : Fun K "counted" "counted" s_counted a_counted d_counted
  b_counted : Binds K d_counted ["wishes", "counts", "place"] []
  m_counted : mg "counted" = some (.ref a_counted)
  a_first_broken : Addr
  d_first_broken : FuncData
  f_first_broken : Fun K "first_broken" "first_broken" s_first_broken a_first_broken d_first_broken
  b_first_broken : Binds K d_first_broken ["counts"] []
  m_first_broken : mg "first_broken" = some (.ref a_first_broken)
  a_broken : Addr
  d_broken : FuncData
  f_broken : Fun K "broken" "broken" s_broken a_broken d_broken
  b_broken : Binds K d_broken ["wishes", "places"] []
  m_broken : mg "broken" = some (.ref a_broken)
  a__law_hand : Addr
  d__law_hand : FuncData
  f__law_hand : Fun K "_law_hand" "_law_hand" s__law_hand a__law_hand d__law_hand
  b__law_hand : Binds K d__law_hand ["script"] []
  m__law_hand : mg "_law_hand" = some (.ref a__law_hand)
  a__law_draw : Addr
  d__law_draw : FuncData
  f__law_draw : Fun K "_law_draw" "_law_draw" s__law_draw a__law_draw d__law_draw
  b__law_draw : Binds K d__law_draw ["hand", "many"] []
  m__law_draw : mg "_law_draw" = some (.ref a__law_draw)
  a__law_some : Addr
  d__law_some : FuncData
  f__law_some : Fun K "_law_some" "_law_some" s__law_some a__law_some d__law_some
  b__law_some : Binds K d__law_some ["hand", "things"] []
  m__law_some : mg "_law_some" = some (.ref a__law_some)
  a__law_deep : Addr
  d__law_deep : FuncData
  f__law_deep : Fun K "_law_deep" "_law_deep" s__law_deep a__law_deep d__law_deep
  b__law_deep : Binds K d__law_deep ["hand", "thing"] []
  m__law_deep : mg "_law_deep" = some (.ref a__law_deep)
  a__law_in : Addr
  d__law_in : FuncData
  f__law_in : Fun K "_law_in" "_law_in" s__law_in a__law_in d__law_in
  b__law_in : Binds K d__law_in ["area", "place"] []
  m__law_in : mg "_law_in" = some (.ref a__law_in)
  a__law_breaks : Addr
  d__law_breaks : FuncData
  f__law_breaks : Fun K "_law_breaks" "_law_breaks" s__law_breaks a__law_breaks d__law_breaks
  b__law_breaks : Binds K d__law_breaks ["wish", "places", "at"] []
  m__law_breaks : mg "_law_breaks" = some (.ref a__law_breaks)
  a__law_box : Addr
  d__law_box : FuncData
  f__law_box : Fun K "_law_box" "_law_box" s__law_box a__law_box d__law_box
  b__law_box : Binds K d__law_box ["hand", "axes"] []
  m__law_box : mg "_law_box" = some (.ref a__law_box)
  a__law_area : Addr
  d__law_area : FuncData
  f__law_area : Fun K "_law_area" "_law_area" s__law_area a__law_area d__law_area
  b__law_area : Binds K d__law_area ["hand", "axes"] []
  m__law_area : mg "_law_area" = some (.ref a__law_area)
  a__law_wish : Addr
  d__law_wish : FuncData
  f__law_wish : Fun K "_law_wish" "_law_wish" s__law_wish a__law_wish d__law_wish
  b__law_wish : Binds K d__law_wish ["hand", "axes"] []
  m__law_wish : mg "_law_wish" = some (.ref a__law_wish)
  a__law_places : Addr
  d__law_places : FuncData
  f__law_places : Fun K "_law_places" "_law_places" s__law_places a__law_places d__law_places
  b__law_places : Binds K d__law_places ["hand", "axes", "many"] []
  m__law_places : mg "_law_places" = some (.ref a__law_places)
  a__law_is_int : Addr
  d__law_is_int : FuncData
  f__law_is_int : Fun K "_law_is_int" "_law_is_int" s__law_is_int a__law_is_int d__law_is_int
  b__law_is_int : Binds K d__law_is_int ["thing", "low", "high"] []
  m__law_is_int : mg "_law_is_int" = some (.ref a__law_is_int)
  a__law_is_area : Addr
  d__law_is_area : FuncData
  f__law_is_area : Fun K "_law_is_area" "_law_is_area" s__law_is_area a__law_is_area d__law_is_area
  b__law_is_area : Binds K d__law_is_area ["thing", "axes"] []
  m__law_is_area : mg "_law_is_area" = some (.ref a__law_is_area)
  a__law_is_wish : Addr
  d__law_is_wish : FuncData
  f__law_is_wish : Fun K "_law_is_wish" "_law_is_wish" s__law_is_wish a__law_is_wish d__law_is_wish
  b__law_is_wish : Binds K d__law_is_wish ["thing", "axes"] []
  m__law_is_wish : mg "_law_is_wish" = some (.ref a__law_is_wish)
  a__law_are_wishes : Addr
  d__law_are_wishes : FuncData
  f__law_are_wishes : Fun K "_law_are_wishes" "_law_are_wishes" s__law_are_wishes a__law_are_wishes d__law_are_wishes
  b__law_are_wishes : Binds K d__law_are_wishes ["thing", "axes"] []
  m__law_are_wishes : mg "_law_are_wishes" = some (.ref a__law_are_wishes)
  a__law_bent : Addr
  d__law_bent : FuncData
  f__law_bent : Fun K "_law_bent" "_law_bent" s__law_bent a__law_bent d__law_bent
  b__law_bent : Binds K d__law_bent ["hand", "thing"] []
  m__law_bent : mg "_law_bent" = some (.ref a__law_bent)
  a__law_due : Addr
  d__law_due : FuncData
  f__law_due : Fun K "_law_due" "_law_due" s__law_due a__law_due d__law_due
  b__law_due : Binds K d__law_due ["wishes", "places"] []
  m__law_due : mg "_law_due" = some (.ref a__law_due)
  a__law_is : Addr
  d__law_is : FuncData
  f__law_is : Fun K "_law_is" "_law_is" s__law_is a__law_is d__law_is
  b__law_is : Binds K d__law_is ["told", "due"] []
  m__law_is : mg "_law_is" = some (.ref a__law_is)
  a__law_plant : Addr
  d__law_plant : FuncData
  f__law_plant : Fun K "_law_plant" "_law_plant" s__law_plant a__law_plant d__law_plant
  b__law_plant : Binds K d__law_plant ["axes"] []
  m__law_plant : mg "_law_plant" = some (.ref a__law_plant)
  a__law_are_known_right : Addr
  d__law_are_known_right : FuncData
  f__law_are_known_right : Fun K "_law_are_known_right" "_law_are_known_right" s__law_are_known_right a__law_are_known_right d__law_are_known_right
  b__law_are_known_right : Binds K d__law_are_known_right [] []
  m__law_are_known_right : mg "_law_are_known_right" = some (.ref a__law_are_known_right)
  a_law : Addr
  d_law : FuncData
  f_law : Fun K "law" "law" s_law a_law d_law
  b_law : Binds K d_law ["script"] []
  m_law : mg "law" = some (.ref a_law)
  a_WAYS : Addr
  m_WAYS : mg "WAYS" = some (.ref a_WAYS)
  r_WAYS : ∀ F, Rep K F (.ref a_WAYS) c_WAYS
  a_WITH_K : Addr
  m_WITH_K : mg "WITH_K" = some (.ref a_WITH_K)
  r_WITH_K : ∀ F, Rep K F (.ref a_WITH_K) c_WITH_K
  a_WITH_OTHER : Addr
  m_WITH_OTHER : mg "WITH_OTHER" = some (.ref a_WITH_OTHER)
  r_WITH_OTHER : ∀ F, Rep K F (.ref a_WITH_OTHER) c_WITH_OTHER
  a_WORDS_wishes : Addr
  m_WORDS_wishes : mg "WORDS_wishes" = some (.ref a_WORDS_wishes)
  r_WORDS_wishes : ∀ F, Rep K F (.ref a_WORDS_wishes) c_WORDS_wishes
  z_abs : mg "abs" = none
  z_all : mg "all" = none
  z_any : mg "any" = none
  z_bool : mg "bool" = none
  z_enumerate : mg "enumerate" = none
  z_int : mg "int" = none
  z_isinstance : mg "isinstance" = none
  z_len : mg "len" = none
  z_list : mg "list" = none
  z_max : mg "max" = none
  z_min : mg "min" = none
  z_range : mg "range" = none
  z_repr : mg "repr" = none
  z_str : mg "str" = none
  z_tuple : mg "tuple" = none
  z_zip : mg "zip" = none
end Lk17
namespace Lk17
open PySem PySem.Spec PyProof.Rows L2 SC
open Lk19 (Box Area W pairD boxD areaD rowD okS okB okA okK okN betw tupB spanB spansB boxB areaB oneB wishB items brk okR okP inArea pl plL wds wdsO wdsK plL_mem plL_of)
variable [PlC] [XCx]
local macro_rules | `(tactic| walk_at "sc") => `(tactic| simp only [dThen, dSet, dRet, dCall, dCons, dNil, dVar, dC, dCB, dComp, dZip, dSeq, dOp, dIf, dB, dIfE, dNot, dAnd, dOr, dAndV, dOrV, dNotV, dSkip, dExpr, dFor, dApp, dTup, dLst, dLstO, dUn, dPar, dPar3, dAsg, dSetIx, dSl, dPart, dPart0, dRng1, dRng2, dZip3, dEnum, dEnumT, dZipS, dGetT, dFld, dMake, dMulA, dChain, dNm, dTg, dGCons, dGNil, dYes, dI0, dI, dU, dEqS, eqS, dIsN, isNon, dAddA, dAddL, dAddLO, dMulT, dSlS, dCompO, dIn, rIxD, rLenD, rLenS, SC.rListD, rReprD, rNeSame, rBools, rAbsD, rIntD, rTwo, rTupD, rTupX, rIsiD, tyD,
  startD, List.map_cons, List.map_nil, List.length_cons, List.length_nil, Nat.reduceAdd, Nat.reduceSub, List.replicate_succ, List.replicate_zero, List.cons_append, List.nil_append, List.append_nil,
  List.getElem?_cons_zero, List.getElem?_cons_succ, List.set_cons_zero, List.set_cons_succ, wipeD, atI_0, atI_1, atI_2, atI_3, atI_4, oset_same, oset_oset, true_and, and_true, ix5])
theorem rd_is_integer : ∀ ds O (kk : D → OH → Prop), sp_is_integer ds O kk → bd_is_integer { nx := fun _ O' => kk .non O', rt := kk } (startD ["thing"] ds) O := Lk19.rd_is_integer
theorem rd_is_between : ∀ ds O (kk : D → OH → Prop), sp_is_between ds O kk → bd_is_between { nx := fun _ O' => kk .non O', rt := kk } (startD ["least", "most", "thing"] ds) O := Lk19.rd_is_between
theorem rd_is_tuple : ∀ ds O (kk : D → OH → Prop), sp_is_tuple ds O kk → bd_is_tuple { nx := fun _ O' => kk .non O', rt := kk } (startD ["least", "most", "thing"] ds) O := Lk19.rd_is_tuple
theorem rd_is_pair : ∀ ds O (kk : D → OH → Prop), sp_is_pair ds O kk → bd_is_pair { nx := fun _ O' => kk .non O', rt := kk } (startD ["thing"] ds) O := Lk19.rd_is_pair
theorem rd_is_one_of : ∀ ds O (kk : D → OH → Prop), sp_is_one_of ds O kk → bd_is_one_of { nx := fun _ O' => kk .non O', rt := kk } (startD ["words", "thing"] ds) O := Lk19.rd_is_one_of
theorem rd_is_span : ∀ ds O (kk : D → OH → Prop), sp_is_span ds O kk → bd_is_span { nx := fun _ O' => kk .non O', rt := kk } (startD ["least", "most", "thing"] ds) O := Lk19.rd_is_span
theorem rd_are_spans : ∀ ds O (kk : D → OH → Prop), sp_are_spans ds O kk → bd_are_spans { nx := fun _ O' => kk .non O', rt := kk } (startD ["fewest", "many", "least", "most", "thing", "span"] ds) O := Lk19.rd_are_spans
theorem rd_is_box : ∀ ds O (kk : D → OH → Prop), sp_is_box ds O kk → bd_is_box { nx := fun _ O' => kk .non O', rt := kk } (startD ["axes", "thing"] ds) O := Lk19.rd_is_box
theorem rd_is_area : ∀ ds O (kk : D → OH → Prop), sp_is_area ds O kk → bd_is_area { nx := fun _ O' => kk .non O', rt := kk } (startD ["axes", "thing", "box"] ds) O := Lk19.rd_is_area
theorem rd_is_wish : ∀ ds O (kk : D → OH → Prop), sp_is_wish ds O kk → bd_is_wish { nx := fun _ O' => kk .non O', rt := kk } (startD ["axes", "thing", "ahead_of_k", "area"] ds) O := Lk19.rd_is_wish
theorem rd__law_hand : ∀ ds O (kk : D → OH → Prop), sp__law_hand ds O kk → bd__law_hand { nx := fun _ O' => kk .non O', rt := kk } (startD ["script", "cells", "cell"] ds) O := Lk19.rd__law_hand
theorem rd__law_draw : ∀ ds O (kk : D → OH → Prop), sp__law_draw ds O kk → bd__law_draw { nx := fun _ O' => kk .non O', rt := kk } (startD ["hand", "many", "number", "cell", "digit"] ds) O := Lk19.rd__law_draw
theorem rd__law_some : ∀ ds O (kk : D → OH → Prop), sp__law_some ds O kk → bd__law_some { nx := fun _ O' => kk .non O', rt := kk } (startD ["hand", "things"] ds) O := Lk19.rd__law_some
theorem rd__law_in : ∀ ds O (kk : D → OH → Prop), sp__law_in ds O kk → bd__law_in { nx := fun _ O' => kk .non O', rt := kk } (startD ["area", "place", "box", "one", "low", "high"] ds) O := Lk19.rd__law_in
theorem rd__law_breaks : ∀ ds O (kk : D → OH → Prop), sp__law_breaks ds O kk → bd__law_breaks { nx := fun _ O' => kk .non O', rt := kk } (startD ["wish", "places", "at", "there", "word", "here", "place"] ds) O := Lk19.rd__law_breaks
theorem rd__law_box : ∀ ds O (kk : D → OH → Prop), sp__law_box ds O kk → bd__law_box { nx := fun _ O' => kk .non O', rt := kk } (startD ["hand", "axes", "found", "axis", "low"] ds) O := Lk19.rd__law_box
theorem rd__law_area : ∀ ds O (kk : D → OH → Prop), sp__law_area ds O kk → bd__law_area { nx := fun _ O' => kk .non O', rt := kk } (startD ["hand", "axes", "turn"] ds) O := Lk19.rd__law_area
theorem rd__law_wish : ∀ ds O (kk : D → OH → Prop), sp__law_wish ds O kk → bd__law_wish { nx := fun _ O' => kk .non O', rt := kk } (startD ["hand", "axes", "some", "one", "other", "k"] ds) O := Lk19.rd__law_wish
theorem rd__law_places : ∀ ds O (kk : D → OH → Prop), sp__law_places ds O kk → bd__law_places { nx := fun _ O' => kk .non O', rt := kk } (startD ["hand", "axes", "many", "here", "found", "turn", "axis", "one"] ds) O := Lk19.rd__law_places
theorem rd_in_box : ∀ ds O (kk : D → OH → Prop), sp_in_box ds O kk → bd_in_box { nx := fun _ O' => kk .non O', rt := kk } (startD ["box", "place", "item", "low", "high"] ds) O := Lk18.rd_in_box
theorem rd_in_area : ∀ ds O (kk : D → OH → Prop), sp_in_area ds O kk → bd_in_area { nx := fun _ O' => kk .non O', rt := kk } (startD ["area", "place", "box"] ds) O := Lk18.rd_in_area
theorem rd_marks : ∀ ds O (kk : D → OH → Prop), sp_marks ds O kk → bd_marks { nx := fun _ O' => kk .non O', rt := kk } (startD ["wishes", "place", "found", "wish", "other"] ds) O := Lk18.rd_marks
theorem rd_count_at_first : ∀ ds O (kk : D → OH → Prop), sp_count_at_first ds O kk → bd_count_at_first { nx := fun _ O' => kk .non O', rt := kk } (startD ["wish", "inside", "other", "word"] ds) O := Lk18.rd_count_at_first
theorem rd_ahead_count : ∀ ds O (kk : D → OH → Prop), sp_ahead_count ds O kk → bd_ahead_count { nx := fun _ O' => kk .non O', rt := kk } (startD ["inside", "other"] ds) O := Lk18.rd_ahead_count
theorem rd_unless_above : ∀ ds O (kk : D → OH → Prop), sp_unless_above ds O kk → bd_unless_above { nx := fun _ O' => kk .non O', rt := kk } (startD ["count", "most"] ds) O := Lk18.rd_unless_above
theorem rd_next_waiting : ∀ ds O (kk : D → OH → Prop), sp_next_waiting ds O kk → bd_next_waiting { nx := fun _ O' => kk .non O', rt := kk } (startD ["wish", "count", "inside", "other"] ds) O := Lk18.rd_next_waiting
theorem rd_next_count : ∀ ds O (kk : D → OH → Prop), sp_next_count ds O kk → bd_next_count { nx := fun _ O' => kk .non O', rt := kk } (startD ["wish", "count", "inside", "other", "word"] ds) O := Lk18.rd_next_count
theorem rd_begun_by : ∀ ds O (kk : D → OH → Prop), sp_begun_by ds O kk → bd_begun_by { nx := fun _ O' => kk .non O', rt := kk } (startD ["wishes", "marked", "wish", "inside", "other"] ds) O := Lk18.rd_begun_by
theorem rd_counted_by : ∀ ds O (kk : D → OH → Prop), sp_counted_by ds O kk → bd_counted_by { nx := fun _ O' => kk .non O', rt := kk } (startD ["wishes", "counts", "marked", "found", "wish", "count", "inside", "other"] ds) O := Lk18.rd_counted_by
theorem rd_begun : ∀ ds O (kk : D → OH → Prop), sp_begun ds O kk → bd_begun { nx := fun _ O' => kk .non O', rt := kk } (startD ["wishes", "place"] ds) O := Lk18.rd_begun
theorem rd_counted : ∀ ds O (kk : D → OH → Prop), sp_counted ds O kk → bd_counted { nx := fun _ O' => kk .non O', rt := kk } (startD ["wishes", "counts", "place"] ds) O := Lk18.rd_counted
theorem rd_many_rows : ∀ ds O (kk : D → OH → Prop), sp_many_rows ds O kk → bd_many_rows { nx := fun _ O' => kk .non O', rt := kk } (startD ["spans", "many", "low", "high"] ds) O := by
  rintro ds O kk ⟨n, l, m, rfl, n1, n3, h0, h1, h⟩
  have e : List.replicate n (pairD (l, m)) = (List.range n).map fun _ => pairD (l, m) := by simp [List.map_const']
  unfold bd_many_rows
  walk_at "sc"
  unfold rep
  rw [e]
  show dLoop _ _ _ _ _ _
  refine dLoop_ind (α := Nat) (fun _ => pairD (l, m)) (fun rest e O' => ∃ (i : Nat) (a c d : Option D), i + rest.length = n ∧ O' = O ∧ e = [a, some (.int ((m - l + 1) ^ i)), c, d]) ?_ ?_ _ _ _ ⟨0, _, _, _, by rw [List.length_range]; omega, rfl, by rw [Int.pow_zero]⟩
  · rintro x rest e O' ⟨i, a, c, d, hi, rfl, rfl⟩ nx hn
    unfold Lk19.pairD
    walk_at "sc"
    refine ⟨.inr ⟨by omega, by omega⟩, hn _ _ ⟨i + 1, a, some (.int l), some (.int m), by simp only [List.length_cons] at hi; omega, rfl, ?_⟩⟩
    rw [Int.pow_succ]
  · rintro e O' ⟨i, a, c, d, hi, rfl, rfl⟩
    walk_at "sc"
    simp only [List.length_nil, Nat.add_zero] at hi
    rw [hi]; exact h
theorem rd_is_way : ∀ ds O (kk : D → OH → Prop), sp_is_way ds O kk → bd_is_way { nx := fun _ O' => kk .non O', rt := kk } (startD ["thing"] ds) O := by
  rintro ds O kk ⟨rfl, h⟩
  unfold bd_is_way c_WAYS
  walk_at "sc"
  refine ⟨["up", "down", "cut", "near", "far"], _, rfl, rfl, ?_⟩
  have e : oneB ["up", "down", "cut", "near", "far"] (.str "near") = true := by rw [Lk19.one_eq]; decide +kernel
  rw [e]; exact h
theorem pl_in (i : Nat) : pl (inD i) = true := by simp [inD, pl, plL]
theorem rd_is_leaf : ∀ ds O (kk : D → OH → Prop), sp_is_leaf ds O kk → bd_is_leaf { nx := fun _ O' => kk .non O', rt := kk } (startD ["inputs", "thing", "word", "value"] ds) O := by
  rintro ds O kk ⟨m, i, rfl, hi, h⟩
  unfold bd_is_leaf
  walk_at "sc"
  refine ⟨2, 2, _, rfl, pl_in i, ?_⟩
  have e : tupB 2 2 (inD i) = true := by simp [tupB, inD]
  rw [e]
  unfold inD
  walk_at "sc"
  refine ⟨small_len (by simp), ["in"], _, rfl, by simp [pl], ?_⟩
  have e : oneB ["in"] (.str "in") = true := by rw [Lk19.one_eq]; decide +kernel
  rw [e]
  refine ⟨0, m - 1, _, rfl, by simp [pl], ?_⟩
  have e : betw 0 (m - 1) (.int (i : Nat)) = true := by simp [betw]; omega
  rw [e]; exact h
theorem rd_operations : ∀ ds O (kk : D → OH → Prop), sp_operations ds O kk → bd_operations { nx := fun _ O' => kk .non O', rt := kk } (startD ["inputs", "thing", "deep", "one", "other"] ds) O := by
  rintro ds O kk ⟨m, n, i, rfl, hi, h⟩
  unfold bd_operations
  walk_at "sc"
  exact ⟨m, i, rfl, hi, h⟩
theorem rd_is_formula : ∀ ds O (kk : D → OH → Prop), sp_is_formula ds O kk → bd_is_formula { nx := fun _ O' => kk .non O', rt := kk } (startD ["inputs", "thing", "many"] ds) O := by
  rintro ds O kk ⟨m, i, rfl, hi, h⟩
  unfold bd_is_formula
  walk_at "sc"
  exact ⟨m, 6, i, rfl, hi, h⟩
theorem pl_forms (n : Nat) : pl (formsD n) = true := by
  simp only [formsD, pl]; exact plL_of fun d hd => by obtain ⟨i, _, rfl⟩ := List.mem_map.mp hd; exact pl_in i
theorem all_true {α : Type} (l : List α) : (l.map fun _ => true).all id = true := by simp
theorem rd_is_mode : ∀ ds O (kk : D → OH → Prop), sp_is_mode ds O kk → bd_is_mode { nx := fun _ O' => kk .non O', rt := kk } (startD ["axes", "last", "thing", "area", "formulas", "formula"] ds) O := by
  rintro ds O kk ⟨n, rfl, hn, h⟩
  unfold bd_is_mode
  walk_at "sc"
  refine ⟨_, rfl, by simp [pl, plL, pl_forms], ?_⟩
  have e : tupB 2 2 (.tup [.non, formsD n]) = true := by simp [tupB]
  rw [e]
  refine ⟨n, n, _, rfl, pl_forms n, ?_⟩
  have e : tupB (n : Nat) (n : Nat) (formsD n) = true := by simp [tupB, formsD]
  rw [e]
  show _ ∧ _
  refine ⟨small_len (by simp; omega), dAcc_map _ (fun _ => .bl true) _ _ _ (fun i hi O k' h' => ?_) ?_⟩
  · walk_at "sc"
    rw [List.mem_range] at hi
    exact ⟨_, i, rfl, by omega, h'⟩
  · rw [List.nil_append, boolsD_map' (fun _ => true)]
    show kk (.bl ((List.map _ _).all id)) O
    rw [all_true]; exact h
theorem rd_are_modes : ∀ ds O (kk : D → OH → Prop), sp_are_modes ds O kk → bd_are_modes { nx := fun _ O' => kk .non O', rt := kk } (startD ["axes", "thing", "at", "mode"] ds) O := by
  rintro ds O kk ⟨n, rfl, hn, h⟩
  unfold bd_are_modes
  walk_at "sc"
  refine ⟨1, 4, _, rfl, by simp [modesD, pl, plL, pl_forms], ?_⟩
  have e : tupB 1 4 (modesD n) = true := by simp [tupB, modesD]
  rw [e]
  unfold modesD
  simp only [enumD]
  walk_at "sc"
  refine ⟨small_len (by simp), ?_⟩
  unfold dAcc
  walk_at "sc"
  refine ⟨n, ?_, hn, ?_⟩
  · rfl
  · show kk (.bl ([true].all id)) O
    exact h
end Lk17
namespace Lk17
open PySem PySem.Spec PyProof.Rows L2 SC
open Lk19 (Box Area W pairD boxD areaD rowD okS okB okA okK okN betw tupB spanB spansB boxB areaB oneB wishB items brk okR okP inArea pl plL wds wdsO wdsK plL_mem plL_of)
variable [PlC] [XCx]
local macro_rules | `(tactic| walk_at "sc") => `(tactic| simp only [dThen, dSet, dRet, dCall, dCons, dNil, dVar, dC, dCB, dComp, dZip, dSeq, dOp, dIf, dB, dIfE, dNot, dAnd, dOr, dAndV, dOrV, dNotV, dSkip, dExpr, dFor, dApp, dTup, dLst, dLstO, dUn, dPar, dPar3, dAsg, dSetIx, dSl, dPart, dPart0, dRng1, dRng2, dZip3, dEnum, dEnumT, dZipS, dGetT, dFld, dMake, dMulA, dChain, dNm, dTg, dGCons, dGNil, dYes, dI0, dI, dU, dEqS, eqS, dIsN, isNon, dAddA, dAddL, dAddLO, dMulT, dSlS, dCompO, dIn, rIxD, rLenD, rLenS, SC.rListD, rReprD, rNeSame, rBools, rAbsD, rIntD, rTwo, rTupD, rTupX, rIsiD, tyD,
  startD, List.map_cons, List.map_nil, List.length_cons, List.length_nil, Nat.reduceAdd, Nat.reduceSub, List.replicate_succ, List.replicate_zero, List.cons_append, List.nil_append, List.append_nil,
  List.getElem?_cons_zero, List.getElem?_cons_succ, List.set_cons_zero, List.set_cons_succ, wipeD, atI_0, atI_1, atI_2, atI_3, atI_4, oset_same, oset_oset, true_and, and_true, ix5])
theorem rd_are_wishes : ∀ ds O (kk : D → OH → Prop), sp_are_wishes ds O kk → bd_are_wishes { nx := fun _ O' => kk .non O', rt := kk } (startD ["plant", "thing", "wish"] ds) O := by
  rintro ds O kk ⟨n, d, rfl, n1, n3, hp, h⟩
  unfold bd_are_wishes
  walk_at "sc"
  refine ⟨0, 4, d, rfl, hp, ?_⟩
  cases d <;> first | exact h | skip
  rename_i xs
  have h : kk (.bl (tupB 0 4 (.tup xs) && xs.all (wishB (n : Nat)))) O := h
  cases e : tupB 0 4 (.tup xs) with
  | false => rw [e] at h; exact h
  | true =>
    rw [e] at h
    simp only [tupB, Bool.and_eq_true, decide_eq_true_eq] at e
    simp only [pl] at hp
    show _ ∧ _
    refine ⟨small_len (by omega), ?_⟩
    rw [show xs = xs.map id from (List.map_id xs).symm]
    refine dAcc_map _ (fun x => .bl (wishB (n : Nat) x)) _ _ _ (fun x hx O k' h' => ?_) ?_
    · unfold plantD
      walk_at "sc"
      refine ⟨⟨PlC.clP, PlC.nP _ (by simp)⟩, rep n (0, 6), by rfl, ?_⟩
      unfold rep
      walk_at "sc"
      refine ⟨(n : Nat), x, by rw [List.length_replicate]; rfl, by omega, plL_mem hp x hx, h'⟩
    · rw [List.nil_append, boolsD_map']
      show kk (.bl ((xs.map _).all id)) O
      rw [List.all_map]
      exact h
theorem fb_loop {kk : D → OH → Prop} {O : OH} : ∀ (cs : List (Option Int)) (j : Nat) (a x y : Option D), kk (oN (fstN j cs)) O →
    dLoop (dTg 2 (dGCons (dNm 1) (dGCons (dNm 2) dGNil))) (dIf (dB (dOp (dIsN fun r => r) (dVar 2) (dC .non))) (dRet (dVar 1)) dSkip) { nx := dRet (dC .non) { nx := fun _ O' => kk .non O', rt := kk }, rt := kk } (enumD j (cs.map Lk18.cD)) [a, x, y] O
  | [], j, a, x, y, h => by
    simp only [List.map_nil, enumD]
    unfold dLoop
    walk_at "sc"; exact h
  | none :: cs, j, a, x, y, h => by
    show dLoop _ _ _ (.tup [.int (j : Nat), .non] :: enumD (j + 1) (cs.map Lk18.cD)) _ O
    unfold dLoop
    walk_at "sc"; exact h
  | some c :: cs, j, a, x, y, h => by
    show dLoop _ _ _ (.tup [.int (j : Nat), .int c] :: enumD (j + 1) (cs.map Lk18.cD)) _ O
    unfold dLoop
    walk_at "sc"
    exact fb_loop cs (j + 1) _ _ _ h
theorem rd_first_broken : ∀ ds O (kk : D → OH → Prop), sp_first_broken ds O kk → bd_first_broken { nx := fun _ O' => kk .non O', rt := kk } (startD ["counts", "number", "count"] ds) O := by
  rintro ds O kk ⟨cs, rfl, h⟩
  unfold bd_first_broken dThen dFor
  show dEnumT _ _ _ _
  walk_at "sc"
  exact fb_loop cs 0 _ _ _ h
/-! ### broken -/
def to18 : W → Lk18.W
  | .never a => .never a | .within a k => .within a k | .answered a b k => .answered a b k | .ahead a b => .ahead a b | .again a k => .again a k
theorem to18_d (w : W) : (to18 w).d = w.d := by cases w <;> rfl
theorem to18_brk (w : W) (ps : List Lk19.Row) (n : Nat) : Lk18.brk (to18 w) ps n = brk w ps n := by cases w <;> rfl
theorem to18_A {B ax : Int} {a : Area} (hx : ax ≤ 1000) (h : okA B ax a) : Lk18.okA a := ⟨Nat.le_trans h.1 (by decide), fun b hb => by
  have := (h.2 b hb).1
  show b.length ≤ 1000
  omega⟩
theorem to18_ok {B ax : Int} {w : W} (hx : ax ≤ 1000) (h : w.ok B ax) : (to18 w).ok := by
  cases w with
  | never a => exact to18_A hx h
  | within a k => exact ⟨to18_A hx h.1, h.2.1, h.2.2⟩
  | answered a b k => exact ⟨to18_A hx h.1, to18_A hx h.2.1, h.2.2.1, h.2.2.2⟩
  | ahead a b => exact ⟨to18_A hx h.1, to18_A hx h.2⟩
  | again a k => exact ⟨to18_A hx h.1, h.2.1, h.2.2⟩
theorem oth_b (w : Lk18.W) (p : Lk18.Row) : w.oth p = Lk18.inArea w.b p := by cases w <;> rfl
theorem hA_get {a : Lk18.Area} {ps : List Lk18.Row} {n : Nat} {p : Lk18.Row} (h : ps[n]? = some p) : Lk18.hA a ps n = Lk18.inArea a p := by
  unfold Lk18.hA
  rw [List.getD_eq_getElem?_getD, h]; rfl
def dueC (ws : List Lk18.W) (ps : List Lk18.Row) (n : Nat) : List (Option Int) := ws.map fun w => Lk18.cnt w ps n
theorem begun_due {ws : List Lk18.W} {ps : List Lk18.Row} {p : Lk18.Row} (h : ps[0]? = some p) (hw : ∀ w ∈ ws, w.ok) : Lk18.begunC ws p = dueC ws ps 0 := by
  unfold Lk18.begunC dueC
  apply List.map_congr_left
  intro w hm
  unfold Lk18.cnt
  rw [Lk18.cnt_first w _ _ (hw w hm), hA_get h, hA_get h, oth_b]
theorem counted_due {ps : List Lk18.Row} {n : Nat} {p : Lk18.Row} (h : ps[n + 1]? = some p) : ∀ {ws : List Lk18.W}, (∀ w ∈ ws, w.ok) → Lk18.countedC ws (dueC ws ps n) p = dueC ws ps (n + 1)
  | [], _ => rfl
  | w :: ws, hw => by
    show Lk18.nextC w (Lk18.cnt w ps n) _ _ :: Lk18.countedC ws (dueC ws ps n) p = Lk18.cnt w ps (n + 1) :: dueC ws ps (n + 1)
    rw [counted_due h fun v hv => hw v (by simp [hv])]
    unfold Lk18.cnt
    rw [Lk18.cnt_next w _ _ n (hw w (by simp)), hA_get h, hA_get h, oth_b]
/-- none broken before n: the first that breaks there -/
theorem fst_due {ps : List Lk19.Row} {n : Nat} : ∀ (ws : List W) (j : Nat), (∀ w ∈ ws, ∀ m, m < n → brk w ps m = false) → fstN j (dueC (ws.map to18) ps n) = fstB ps n j ws
  | [], _, _ => rfl
  | w :: ws, j, h => by
    have ih := fst_due ws (j + 1) fun v hv => h v (by simp [hv])
    have e : (List.range (n + 1)).any (Lk18.brkF (to18 w) (Lk18.hA (to18 w).a ps) (Lk18.hA (to18 w).b ps)) = brk w ps n := by
      rw [Bool.eq_iff_iff, Lk18.any_range]
      constructor
      · rintro ⟨i, hi, q⟩
        have q : Lk18.brk (to18 w) ps i = true := q
        rw [to18_brk] at q
        by_cases z : i = n
        · rw [← z]; exact q
        · rw [h w (by simp) i (by omega)] at q; cases q
      · intro q
        exact ⟨n, Nat.le_refl _, (to18_brk w ps n).trans q⟩
    show fstN j (Lk18.cnt (to18 w) ps n :: dueC (ws.map to18) ps n) = bif brk w ps n then some j else fstB ps n (j + 1) ws
    unfold Lk18.cnt Lk18.cntF
    rw [e]
    cases brk w ps n with
    | true => rfl
    | false =>
      rw [cond_false, cond_false, ← ih]
      cases to18 w <;> rfl
theorem fstB_none {ps : List Lk19.Row} {n : Nat} : ∀ (ws : List W) (j : Nat), fstB ps n j ws = none → ∀ w ∈ ws, brk w ps n = false
  | [], _, _, _, hw => by cases hw
  | w :: ws, j, h, v, hv => by
    have h : (bif brk w ps n then some j else fstB ps n (j + 1) ws) = none := h
    cases e : brk w ps n with
    | true => rw [e] at h; cases h
    | false =>
      rw [e] at h
      rcases List.mem_cons.mp hv with rfl | hv
      · exact e
      · exact fstB_none ws (j + 1) h v hv
noncomputable def brkTail : DS := dThen (dSet 5 (dCall sp_first_broken (dCons (dVar 2) (dNil)))) (dIf (dB (dOp (dIsN fun r => !r) (dVar 5) (dC .non))) (dRet (dTup (dCons (dVar 3) (dCons (dVar 5) (dNil))))) (dSkip))
noncomputable def brkBody : DS := dThen (dIf (dB (dOp (dI0 fun i j => .bl (decide (j < i))) (dVar 3) (dC (.int 0)))) (dSet 2 (dCall sp_counted (dCons (dVar 0) (dCons (dVar 2) (dCons (dVar 4) (dNil)))))) (dSkip)) brkTail
theorem broken_loop {B ax : Int} {ws : List W} {ps : List Lk19.Row} {x : D} {kk : D → OH → Prop} {O : OH} (hN : okN B ax) (hw : okWs B ax ws) (hp : okP ax ps) : ∀ (qs : List Lk19.Row) (n : Nat) (c3 c4 c5 : Option D),
    ps.drop n = qs → (∀ w ∈ ws, ∀ m, m < n → brk w ps m = false) → kk (dueD (dueL ws ps (List.range' n qs.length))) O →
    dLoop (dTg 2 (dGCons (dNm 3) (dGCons (dNm 4) (dGNil)))) brkBody { nx := dRet (dC .non) { nx := fun _ O' => kk .non O', rt := kk }, rt := kk } (enumD n (qs.map rowD)) [some (.tup (ws.map W.d)), some x, some (.tup ((dueC (ws.map to18) ps (n - 1)).map Lk18.cD)), c3, c4, c5] O
  | [], n, _, _, _, _, _, h => by
    simp only [List.map_nil, enumD]
    unfold dLoop
    walk_at "sc"; exact h
  | q :: qs, n, c3, c4, c5, hd, hb, h => by
    have hq : ps[n]? = some q := by
      have := congrArg (·[0]?) hd
      simpa using this
    have hd' : ps.drop (n + 1) = qs := by
      have := congrArg (List.drop 1) hd
      simpa [List.drop_drop, Nat.add_comm] using this
    have hx : ax ≤ 1000 := by have := hN.2.2.2; omega
    have hw18 : ∀ w ∈ ws.map to18, w.ok := by
      intro w hm
      obtain ⟨v, hv, rfl⟩ := List.mem_map.mp hm
      exact to18_ok hx (hw.2 v hv)
    have eds : ws.map W.d = (ws.map to18).map Lk18.W.d := by
      rw [List.map_map]; exact (List.map_congr_left fun w _ => (to18_d w).symm)
    have e : List.range' n (q :: qs).length = n :: List.range' (n + 1) qs.length := by simp [List.range'_succ]
    rw [e] at h
    unfold dueL at h
    show dLoop _ _ _ (.tup [.int (n : Nat), rowD q] :: enumD (n + 1) (qs.map rowD)) _ O
    unfold dLoop
    have fin : brkTail { nx := dLoop (dTg 2 (dGCons (dNm 3) (dGCons (dNm 4) (dGNil)))) brkBody { nx := dRet (dC .non) { nx := fun _ O' => kk .non O', rt := kk }, rt := kk } (enumD (n + 1) (qs.map rowD)), rt := kk } [some (.tup (ws.map W.d)), some x, some (.tup ((dueC (ws.map to18) ps n).map Lk18.cD)), some (.int (n : Nat)), some (rowD q), c5] O := by
      unfold brkTail
      walk_at "sc"
      refine ⟨_, rfl, ?_⟩
      rw [fst_due ws 0 hb]
      cases ef : fstB ps n 0 ws with
      | some j =>
        rw [ef] at h
        show _ ∧ _
        exact ⟨small_len (by simp), h⟩
      | none =>
        rw [ef] at h
        refine broken_loop hN hw hp qs (n + 1) _ _ _ hd' (fun w hm m hl => ?_) h
        by_cases z : m = n
        · rw [z]; exact fstB_none ws 0 ef w hm
        · exact hb w hm m (by omega)
    unfold brkBody
    cases n with
    | zero =>
      walk_at "sc"
      exact fin
    | succ n =>
      have z : decide ((0 : Int) < ((n + 1 : Nat) : Int)) = true := decide_eq_true (by omega)
      walk_at "sc"
      rw [z]
      refine ⟨ws.map to18, dueC (ws.map to18) ps n, q, by rw [← eds]; rfl, by have := hw.1; simp; omega, hw18, ?_, by simp [dueC], ?_⟩
      · have := hp.2.2 q (List.mem_of_getElem? hq)
        unfold Lk19.okR at this
        show q.length ≤ 1000
        omega
      · rw [counted_due hq hw18]
        exact fin
theorem rd_broken : ∀ ds O (kk : D → OH → Prop), sp_broken ds O kk → bd_broken { nx := fun _ O' => kk .non O', rt := kk } (startD ["wishes", "places", "counts", "at", "place", "number"] ds) O := by
  rintro ds O kk ⟨B, ax, ws, ps, x, rfl, hx, hN, hw, hp, h⟩
  have h3 := hN.2.2.2
  have hax : ax ≤ 1000 := by omega
  have hw18 : ∀ w ∈ ws.map to18, w.ok := by
    intro w hm
    obtain ⟨v, hv, rfl⟩ := List.mem_map.mp hm
    exact to18_ok hax (hw.2 v hv)
  have eds : ws.map W.d = (ws.map to18).map Lk18.W.d := by
    rw [List.map_map]; exact (List.map_congr_left fun w _ => (to18_d w).symm)
  obtain ⟨p0, ps', eps⟩ : ∃ p0 ps', ps = p0 :: ps' := by
    cases ps with
    | nil => exact (hp.1 rfl).elim
    | cons a b => exact ⟨a, b, rfl⟩
  have hq : ps[0]? = some p0 := by rw [eps]; rfl
  have hr : p0.length ≤ 1000 := by
    have := hp.2.2 p0 (List.mem_of_getElem? hq)
    unfold Lk19.okR at this
    omega
  have at0 : atI (ps.map rowD) 0 = some (rowD p0) := by rw [eps]; exact atI_0
  have start : dLoop (dTg 2 (dGCons (dNm 3) (dGCons (dNm 4) (dGNil)))) brkBody { nx := dRet (dC .non) { nx := fun _ O' => kk .non O', rt := kk }, rt := kk } (enumD 0 (ps.map rowD)) [some (.tup (ws.map W.d)), some x, some (.tup ((dueC (ws.map to18) ps 0).map Lk18.cD)), none, none, none] O :=
    broken_loop hN hw hp ps 0 none none none rfl (fun _ _ m hm => by omega) (by rw [← List.range_eq_range']; exact h)
  have bg : ∀ k : D → OH → Prop, k (.tup ((dueC (ws.map to18) ps 0).map Lk18.cD)) O → sp_begun [.tup (ws.map W.d), rowD p0] O k := fun k hk =>
    ⟨ws.map to18, p0, by rw [← eds]; rfl, by have := hw.1; simp; omega, hw18, hr, by rw [begun_due hq hw18]; exact hk⟩
  unfold bd_broken
  rcases hx with rfl | rfl
  · walk_at "sc"
    rw [at0]
    exact bg _ start
  · walk_at "sc"
    rw [at0]
    exact bg _ start
end Lk17
namespace Lk17
open PySem PySem.Spec PyProof.Rows L2 SC
open Lk19 (Box Area W pairD boxD areaD rowD okS okB okA okK okN betw tupB spanB spansB boxB areaB oneB wishB items brk okR okP inArea pl plL wds wdsO wdsK plL_mem plL_of)
variable [PlC] [XCx]
local macro_rules | `(tactic| walk_at "sc") => `(tactic| simp only [dThen, dSet, dRet, dCall, dCons, dNil, dVar, dC, dCB, dComp, dZip, dSeq, dOp, dIf, dB, dIfE, dNot, dAnd, dOr, dAndV, dOrV, dNotV, dSkip, dExpr, dFor, dApp, dTup, dLst, dLstO, dUn, dPar, dPar3, dAsg, dSetIx, dSl, dPart, dPart0, dRng1, dRng2, dZip3, dEnum, dEnumT, dZipS, dGetT, dFld, dMake, dMulA, dChain, dNm, dTg, dGCons, dGNil, dYes, dI0, dI, dU, dEqS, eqS, dIsN, isNon, dAddA, dAddL, dAddLO, dMulT, dSlS, dCompO, dIn, rIxD, rLenD, rLenS, SC.rListD, rReprD, rNeSame, rBools, rAbsD, rIntD, rTwo, rTupD, rTupX, rIsiD, tyD,
  startD, List.map_cons, List.map_nil, List.length_cons, List.length_nil, Nat.reduceAdd, Nat.reduceSub, List.replicate_succ, List.replicate_zero, List.cons_append, List.nil_append, List.append_nil,
  List.getElem?_cons_zero, List.getElem?_cons_succ, List.set_cons_zero, List.set_cons_succ, wipeD, atI_0, atI_1, atI_2, atI_3, atI_4, oset_same, oset_oset, true_and, and_true, ix5])
theorem rd__law_deep : ∀ ds O (kk : D → OH → Prop), sp__law_deep ds O kk → bd__law_deep { nx := fun _ O' => kk .non O', rt := kk } (startD ["hand", "thing", "turn"] ds) O := by
  rintro ds O kk ⟨p, h, d, m, n, rfl, hO, hh, ho, hc, hb, hd, hk⟩
  unfold bd__law_deep
  walk_at "sc"
  refine ⟨p, h, 15, rfl, hO, hh, by decide, by decide, fun z h1 n0 n1 hh1 => ?_⟩
  walk_at "sc"
  refine ⟨⟨by omega, by omega⟩, ?_⟩
  refine dLoop_ind (α := Nat) (fun i => .int (0 + (i : Int))) (fun rest e O' => ∃ (d : D) (h' : List D) (x : Option D), HandOk h' ∧ okT d = true ∧ noC d = true ∧ bulkD d + rest.length ≤ m + 35 ∧ depD d + rest.length ≤ n + 35 ∧ e = [some (.own p), some d, x] ∧ O' = oset O p h') ?_ ?_ (List.range (20 + z).toNat) _ _ ⟨d, h1, none, hh1, ho, hc, by rw [List.length_range]; omega, by rw [List.length_range]; omega, rfl, rfl⟩
  · rintro i rest e O' ⟨d, h', x, hh', ho, hc, hb, hd, rfl, rfl⟩ nx hn
    simp only [List.length_cons] at hb hd
    walk_at "sc"
    refine ⟨p, h', 2, rfl, oset_same, hh', by decide, by decide, fun n h2 n0 n1 hh2 => ?_⟩
    walk_at "sc"
    cases decide (n = 0) with
    | true =>
      refine ⟨small_len (by simp), hn _ _ ⟨.tup [d], h2, _, hh2, by simp [okT, okTs, ho], by simp [noC, noCs, hc], by simp only [bulkD, bulkDs]; omega, by simp only [depD, depDs]; omega, rfl, rfl⟩⟩
    | false =>
      refine ⟨small_len (by simp), hn _ _ ⟨.lst [d], h2, _, hh2, by simp [okT, okTs, ho], by simp [noC, noCs, hc], by simp only [bulkD, bulkDs]; omega, by simp only [depD, depDs]; omega, rfl, rfl⟩⟩
  · rintro e O' ⟨d, h', x, hh', ho, hc, hb, hd, rfl, rfl⟩
    walk_at "sc"
    exact hk d h' ho hc (by omega) (by omega) hh'
theorem rd__law_is_int : ∀ ds O (kk : D → OH → Prop), sp__law_is_int ds O kk → bd__law_is_int { nx := fun _ O' => kk .non O', rt := kk } (startD ["thing", "low", "high"] ds) O := by
  rintro ds O kk ⟨d, l, m, rfl, hp, h⟩
  unfold bd__law_is_int
  walk_at "sc"
  cases d <;> first | (simp [pl] at hp; done) | skip
  all_goals refine ⟨by simp, ?_⟩
  all_goals first | exact h | (refine ⟨by simp, ?_⟩; exact h) | (refine ⟨by simp, ?_⟩; exact Lk19.and_go (P := fun d => kk d O) h)
/-! ### areas -/
noncomputable def prB : DS := dThen (dIf (dOr (dNot (dB (dCB rIsiD (dCons (dVar 3) (dCons (dC (.ty "tuple")) (dNil)))))) (dB (dOp (dEqS fun r => !r) (dCB rLenD (dCons (dVar 3) (dNil))) (dC (.int 2))))) (dRet (dC (.bl false))) (dSkip)) (dIf (dOr (dNot (dB (dCB (rBools fun l => l.all id) (dCons (dComp (dSeq (dVar 3)) (dNm 4) (dYes) (dCall sp__law_is_int (dCons (dVar 4) (dCons (dUn (dU fun i => .int (-i)) (dC (.int 1000))) (dCons (dC (.int 1000)) (dNil))))) [4]) (dNil))))) (dB (dOp (dI0 fun i j => .bl (decide (j < i))) (dOp rIxD (dVar 3) (dC (.int 0))) (dOp rIxD (dVar 3) (dC (.int 1)))))) (dRet (dC (.bl false))) (dSkip))
theorem pr_end {R N : Prop} (u v : D) (hy : spanB (-1000) 1000 (.tup [u, v]) = true → N) (hn : spanB (-1000) 1000 (.tup [u, v]) = false → R) : match !([betw (-1000) 1000 u, betw (-1000) 1000 v].all id) with
    | true => R
    | false =>
      match (generalizing := false) u, v with
      | D.int i, D.int j =>
        match decide (j < i) with
        | true => R
        | false => N
      | _, _ => False := by
  cases u with
  | int i =>
    by_cases h1 : (decide (-1000 ≤ i) && decide (i ≤ 1000)) = true
    · have es : spanB (-1000) 1000 (.tup [.int i, v]) = betw i 1000 v := by
        show ((decide (-1000 ≤ i) && decide (i ≤ 1000)) && betw i 1000 v) = _
        rw [h1]; rfl
      rw [es] at hn hy
      have b1 : betw (-1000) 1000 (.int i) = true := h1
      simp only [List.all_cons, List.all_nil, id, b1, Bool.true_and, Bool.and_true]
      simp only [Bool.and_eq_true, decide_eq_true_eq] at h1
      cases v with
      | int j =>
        by_cases h2 : (decide (-1000 ≤ j) && decide (j ≤ 1000)) = true
        · have b2 : betw (-1000) 1000 (.int j) = true := h2
          simp only [b2, Bool.not_true]
          simp only [Bool.and_eq_true, decide_eq_true_eq] at h2
          by_cases z : j < i
          · rw [decide_eq_true z]
            refine hn ?_
            simp only [betw, Bool.and_eq_false_iff, decide_eq_false_iff_not]
            omega
          · rw [decide_eq_false z]
            refine hy ?_
            simp only [betw, Bool.and_eq_true, decide_eq_true_eq]
            omega
        · have b2 : betw (-1000) 1000 (.int j) = false := by
            rw [Bool.not_eq_true] at h2; exact h2
          simp only [b2, Bool.not_false]
          refine hn ?_
          simp only [betw, Bool.and_eq_true, Bool.and_eq_false_iff, decide_eq_false_iff_not, decide_eq_true_eq] at h2 ⊢
          omega
      | _ => exact hn rfl
    · rw [Bool.not_eq_true] at h1
      have b1 : betw (-1000) 1000 (.int i) = false := h1
      simp only [List.all_cons, List.all_nil, id, b1, Bool.false_and, Bool.not_false]
      refine hn ?_
      show ((decide (-1000 ≤ i) && decide (i ≤ 1000)) && betw i 1000 v) = false
      rw [h1]; rfl
  | _ => exact hn rfl
theorem pr_go {k : DEnds} {O : OH} {d : D} {t x b c : Option D} (hp : pl d = true) (hy : spanB (-1000) 1000 d = true → ∀ c, k.nx [t, x, b, some d, c] O) (hn : spanB (-1000) 1000 d = false → k.rt (.bl false) O) : prB k [t, x, b, some d, c] O := by
  unfold prB
  walk_at "sc"
  cases d <;> first | (simp [pl] at hp; done) | skip
  all_goals refine ⟨by simp, ?_⟩
  all_goals first | exact hn rfl | skip
  rename_i xs
  match xs, hp, hy, hn with
  | [], hp, hy, hn => exact hn rfl
  | [x], hp, hy, hn => exact hn (by cases x <;> rfl)
  | u :: v :: w :: r, hp, hy, hn =>
    have z : decide ((((u :: v :: w :: r : List D).length : Nat) : Int) = 2) = false := decide_eq_false (by simp only [List.length_cons]; omega)
    have e2 : spanB (-1000) 1000 (.tup (u :: v :: w :: r)) = false := by cases u <;> rfl
    simp only [eqS]
    rw [z]
    exact hn e2
  | [u, v], hp, hy, hn =>
    simp only [pl, plL, Bool.and_eq_true] at hp
    have z : decide (((([u, v] : List D).length : Nat) : Int) = 2) = true := by simp
    walk_at "sc"
    refine ⟨small_len (by decide), ?_⟩
    unfold dAcc
    walk_at "sc"
    refine ⟨u, _, _, rfl, hp.1, ?_⟩
    unfold dAcc
    walk_at "sc"
    refine ⟨v, _, _, rfl, hp.2.1, ?_⟩
    unfold dAcc
    exact pr_end u v (fun q => hy q _) hn
theorem prs_go {k : DEnds} {O : OH} {t x b : Option D} : ∀ (ds : List D) (c d : Option D), plL ds = true → (ds.all (spanB (-1000) 1000) = true → ∀ c d, k.nx [t, x, b, c, d] O) → (ds.all (spanB (-1000) 1000) = false → k.rt (.bl false) O) → dLoop (dNm 3) prB k ds [t, x, b, c, d] O
  | [], c, d, _, hy, _ => by
    unfold dLoop; exact hy rfl c d
  | d :: ds, c, e, hp, hy, hn => by
    simp only [plL, Bool.and_eq_true] at hp
    unfold dLoop
    show prB _ [t, x, b, some d, e] O
    cases z : spanB (-1000) 1000 d with
    | false =>
      refine pr_go hp.1 (fun q => by rw [z] at q; cases q) fun _ => hn (by rw [List.all_cons, z]; rfl)
    | true =>
      refine pr_go hp.1 (fun _ c => prs_go ds _ _ hp.2 (fun q => hy (by rw [List.all_cons, z]; exact q)) fun q => hn (by rw [List.all_cons, z]; exact q)) fun q => by rw [z] at q; cases q
noncomputable def bxB : DS := dThen (dIf (dOr (dNot (dB (dCB rIsiD (dCons (dVar 2) (dCons (dC (.ty "tuple")) (dNil)))))) (dB (dOp (dEqS fun r => !r) (dCB rLenD (dCons (dVar 2) (dNil))) (dVar 1)))) (dRet (dC (.bl false))) (dSkip)) (dFor (dSeq (dVar 2)) (dNm 3) prB)
theorem bx_go {k : DEnds} {O : OH} {d : D} {ax : Int} {t b c : Option D} (hp : pl d = true) (hy : boxB ax d = true → ∀ b c, k.nx [t, some (.int ax), some d, b, c] O) (hn : boxB ax d = false → k.rt (.bl false) O) : bxB k [t, some (.int ax), some d, b, c] O := by
  unfold bxB
  walk_at "sc"
  cases d <;> first | (simp [pl] at hp; done) | skip
  all_goals refine ⟨by simp, ?_⟩
  all_goals first | exact hn rfl | skip
  rename_i xs
  simp only [pl] at hp
  have t1 : isTy "tuple" "tuple" = true := by decide
  dsimp only
  rw [t1]
  have e : boxB ax (.tup xs) = (decide ((xs.length : Int) = ax) && xs.all (spanB (-1000) 1000)) := by
    unfold boxB spansB tupB items
    congr 1
    rw [Bool.eq_iff_iff]
    simp only [Bool.and_eq_true, decide_eq_true_eq]
    omega
  rw [e] at hy hn
  by_cases z : (xs.length : Int) = ax
  · rw [decide_eq_true z] at hy hn ⊢
    exact prs_go xs _ _ hp (fun q c d => hy q c d) fun q => hn q
  · rw [decide_eq_false z] at hy hn ⊢
    exact hn rfl
theorem bxs_go {k : DEnds} {O : OH} {t : Option D} {ax : Int} : ∀ (ds : List D) (b c d : Option D), plL ds = true → (ds.all (boxB ax) = true → ∀ b c d, k.nx [t, some (.int ax), b, c, d] O) → (ds.all (boxB ax) = false → k.rt (.bl false) O) → dLoop (dNm 2) bxB k ds [t, some (.int ax), b, c, d] O
  | [], b, c, d, _, hy, _ => by
    unfold dLoop; exact hy rfl b c d
  | d :: ds, b, c, e, hp, hy, hn => by
    simp only [plL, Bool.and_eq_true] at hp
    unfold dLoop
    show bxB _ [t, some (.int ax), some d, c, e] O
    cases z : boxB ax d with
    | false =>
      refine bx_go hp.1 (fun q => by rw [z] at q; cases q) fun _ => hn (by rw [List.all_cons, z]; rfl)
    | true =>
      refine bx_go hp.1 (fun _ b c => bxs_go ds _ _ _ hp.2 (fun q => hy (by rw [List.all_cons, z]; exact q)) fun q => hn (by rw [List.all_cons, z]; exact q)) fun q => by rw [z] at q; cases q
theorem rd__law_is_area : ∀ ds O (kk : D → OH → Prop), sp__law_is_area ds O kk → bd__law_is_area { nx := fun _ O' => kk .non O', rt := kk } (startD ["thing", "axes", "box", "pair", "one"] ds) O := by
  rintro ds O kk ⟨d, ax, rfl, hp, h⟩
  unfold bd__law_is_area
  show dThen _ (dThen (dFor (dSeq (dVar 0)) (dNm 2) bxB) _) _ _ _
  walk_at "sc"
  cases d <;> first | (simp [pl] at hp; done) | skip
  all_goals refine ⟨by simp, ?_⟩
  all_goals first | exact h | skip
  rename_i xs
  simp only [pl] at hp
  have t1 : isTy "tuple" "tuple" = true := by decide
  dsimp only
  rw [t1]
  have e : areaB ax (.tup xs) = (!decide ((6 : Int) < xs.length) && xs.all (boxB ax)) := by
    unfold areaB tupB items
    congr 1
    rw [Bool.eq_iff_iff]
    simp only [Bool.and_eq_true, decide_eq_true_eq, Bool.not_eq_true', decide_eq_false_iff_not]
    omega
  rw [e] at h
  by_cases z : (6 : Int) < xs.length
  · rw [decide_eq_true z] at h ⊢
    exact h
  · rw [decide_eq_false z] at h ⊢
    exact bxs_go xs _ _ _ hp (fun q _ _ _ => by rw [q] at h; exact h) fun q => by rw [q] at h; exact h
end Lk17
namespace Lk17
open PySem PySem.Spec PyProof.Rows L2 SC
open Lk19 (Box Area W pairD boxD areaD rowD okS okB okA okK okN betw tupB spanB spansB boxB areaB oneB wishB items brk okR okP inArea pl plL wds wdsO wdsK plL_mem plL_of)
variable [PlC] [XCx]
local macro_rules | `(tactic| walk_at "sc") => `(tactic| simp only [dThen, dSet, dRet, dCall, dCons, dNil, dVar, dC, dCB, dComp, dZip, dSeq, dOp, dIf, dB, dIfE, dNot, dAnd, dOr, dAndV, dOrV, dNotV, dSkip, dExpr, dFor, dApp, dTup, dLst, dLstO, dUn, dPar, dPar3, dAsg, dSetIx, dSl, dPart, dPart0, dRng1, dRng2, dZip3, dEnum, dEnumT, dZipS, dGetT, dFld, dMake, dMulA, dChain, dNm, dTg, dGCons, dGNil, dYes, dI0, dI, dU, dEqS, eqS, dIsN, isNon, dAddA, dAddL, dAddLO, dMulT, dSlS, dCompO, dIn, rIxD, rLenD, rLenS, SC.rListD, rReprD, rNeSame, rBools, rAbsD, rIntD, rTwo, rTupD, rTupX, rIsiD, tyD,
  startD, List.map_cons, List.map_nil, List.length_cons, List.length_nil, Nat.reduceAdd, Nat.reduceSub, List.replicate_succ, List.replicate_zero, List.cons_append, List.nil_append, List.append_nil,
  List.getElem?_cons_zero, List.getElem?_cons_succ, List.set_cons_zero, List.set_cons_succ, wipeD, atI_0, atI_1, atI_2, atI_3, atI_4, oset_same, oset_oset, true_and, and_true, ix5])
/-! ### wishes -/
def kB (ax : Int) : List Nat → List D → Bool
  | c :: cs, d :: ds => (if c = 97 then areaB ax d else betw 1 30 d) && kB ax cs ds
  | _, _ => true
theorem sg_a (c : Nat) : strEq (sg c) "a" = decide (c = 97) := by
  rw [strEq_eq, Bool.eq_iff_iff, decide_eq_true_eq, decide_eq_true_eq]
  constructor
  · intro h
    have h := congrArg Str.cps h
    have e : (("a" : Str).cps) = #[97] := by rfl
    rw [e] at h
    simpa [sg] using h
  · rintro rfl; rfl
noncomputable def wpB : DS := dIf (dNot (dB (dIfE (dB (dOp (dEqS fun r => r) (dVar 3) (dC (.str "a")))) (dCall sp__law_is_area (dCons (dVar 4) (dCons (dVar 1) (dNil)))) (dCall sp__law_is_int (dCons (dVar 4) (dCons (dC (.int 1)) (dCons (dC (.int 30)) (dNil)))))))) (dRet (dC (.bl false))) (dSkip)
theorem wp_go {k : DEnds} {O : OH} {ax : Int} {t x : Option D} : ∀ (cs : List Nat) (ds : List D) (c d : Option D), plL ds = true → (kB ax cs ds = true → ∀ c d, k.nx [t, some (.int ax), x, c, d] O) → (kB ax cs ds = false → k.rt (.bl false) O) →
    dLoop (dTg 2 (dGCons (dNm 3) (dGCons (dNm 4) (dGNil)))) wpB k (pairsD (cs.map fun c => .str (sg c)) ds) [t, some (.int ax), x, c, d] O
  | [], ds, c, d, _, hy, _ => by
    simp only [List.map_nil, pairsD]
    unfold dLoop; exact hy rfl c d
  | e :: cs, [], c, d, _, hy, _ => by
    simp only [List.map_cons, pairsD]
    unfold dLoop; exact hy rfl c d
  | e :: cs, d :: ds, u, v, hp, hy, hn => by
    simp only [plL, Bool.and_eq_true] at hp
    simp only [List.map_cons, pairsD]
    unfold dLoop
    have rest : ∀ (b : Bool), (if e = 97 then areaB ax d else betw 1 30 d) = b → (match !b with
        | true => k.rt (.bl false) O
        | false => dLoop (dTg 2 (dGCons (dNm 3) (dGCons (dNm 4) (dGNil)))) wpB k (pairsD (cs.map fun c => .str (sg c)) ds) [t, some (.int ax), x, some (.str (sg e)), some d] O) := by
      intro b hb
      unfold kB at hy hn
      rw [hb] at hy hn
      cases b with
      | false => exact hn rfl
      | true => exact wp_go cs ds _ _ hp.2 (fun q => hy (by rw [q]; rfl)) fun q => hn (by rw [q]; rfl)
    have w : wpB = dIf (dNot (dB (dIfE (dB (dOp (dEqS fun r => r) (dVar 3) (dC (.str "a")))) (dCall sp__law_is_area (dCons (dVar 4) (dCons (dVar 1) (dNil)))) (dCall sp__law_is_int (dCons (dVar 4) (dCons (dC (.int 1)) (dCons (dC (.int 30)) (dNil)))))))) (dRet (dC (.bl false))) (dSkip) := rfl
    rw [w]
    walk_at "sc"
    simp only [sg_a]
    by_cases z : e = 97
    · rw [decide_eq_true z]
      rw [if_pos z] at rest
      exact ⟨d, ax, rfl, hp.1, rest _ rfl⟩
    · rw [decide_eq_false z]
      rw [if_neg z] at rest
      exact ⟨d, 1, 30, rfl, hp.1, rest _ rfl⟩
theorem cut_one {x : D} {r : List D} : cutA (x :: r) (some 1) none = r := by
  rw [cut_drop (n := 1) (i := 1) rfl]; rfl
def knds : List (Str × Str) := [("never", "a"), ("within", "ak"), ("answered", "aak"), ("ahead", "aa"), ("again", "ak")]
theorem kn_never (ax : Int) (r : List D) : Lk19.tailB ax (.str "never") r = (decide (r.length = 1) && kB ax [97] r) := by
  rw [Lk19.t_never]
  match r with
  | [] => rfl
  | [a] => simp [kB]
  | a :: b :: c => simp
theorem kn_ak (ax : Int) (r : List D) : (match r with | [a, k] => betw 1 30 k && areaB ax a | _ => false) = (decide (r.length = 2) && kB ax [97, 107] r) := by
  match r with
  | [] => rfl
  | [a] => simp
  | [a, b] => simp [kB, Bool.and_comm]
  | a :: b :: c :: d => simp
theorem kn_aa (ax : Int) (r : List D) : (match r with | [a, b] => areaB ax a && areaB ax b | _ => false) = (decide (r.length = 2) && kB ax [97, 97] r) := by
  match r with
  | [] => rfl
  | [a] => simp
  | [a, b] => simp [kB]
  | a :: b :: c :: d => simp
theorem kn_aak (ax : Int) (r : List D) : (match r with | [a, b, k] => betw 1 30 k && (areaB ax a && areaB ax b) | _ => false) = (decide (r.length = 3) && kB ax [97, 97, 107] r) := by
  match r with
  | [] => rfl
  | [a] => simp
  | [a, b] => simp
  | [a, b, c] =>
    show (betw 1 30 c && (areaB ax a && areaB ax b)) = (areaB ax a && (areaB ax b && (betw 1 30 c && true)))
    rw [Bool.and_true, ← Bool.and_assoc, Bool.and_comm]
    cases areaB ax a <;> cases areaB ax b <;> cases betw 1 30 c <;> rfl
  | a :: b :: c :: d :: e => simp
theorem find_kn (ax : Int) (r : List D) (w : Str) : (∃ (p : Str × Str) (cs : List Nat), knds.find? (fun p => decide (p.1 = w)) = some p ∧ p.2.cps.toList = cs ∧ p.2.length ≤ 3 ∧ Lk19.tailB ax (.str w) r = (decide (r.length = cs.length) && kB ax cs r)) ∨
    (knds.find? (fun p => decide (p.1 = w)) = none ∧ Lk19.tailB ax (.str w) r = false) := by
  by_cases h1 : w = "never"
  · subst h1; exact .inl ⟨("never", "a"), [97], by decide +kernel, by decide +kernel, by decide +kernel, kn_never ax r⟩
  by_cases h2 : w = "within"
  · subst h2; exact .inl ⟨("within", "ak"), [97, 107], by decide +kernel, by decide +kernel, by decide +kernel, (Lk19.t_within ax r).trans (kn_ak ax r)⟩
  by_cases h3 : w = "answered"
  · subst h3; exact .inl ⟨("answered", "aak"), [97, 97, 107], by decide +kernel, by decide +kernel, by decide +kernel, (Lk19.t_answered ax r).trans (kn_aak ax r)⟩
  by_cases h4 : w = "ahead"
  · subst h4; exact .inl ⟨("ahead", "aa"), [97, 97], by decide +kernel, by decide +kernel, by decide +kernel, (Lk19.t_ahead ax r).trans (kn_aa ax r)⟩
  by_cases h5 : w = "again"
  · subst h5; exact .inl ⟨("again", "ak"), [97, 107], by decide +kernel, by decide +kernel, by decide +kernel, (Lk19.t_again ax r).trans (kn_ak ax r)⟩
  refine .inr ⟨?_, Lk19.t_other ?_⟩
  · rw [List.find?_eq_none]
    intro p hp
    simp only [knds, List.mem_cons, List.not_mem_nil, or_false] at hp
    rcases hp with rfl | rfl | rfl | rfl | rfl <;> simp only [decide_eq_true_eq] <;> exact fun z => absurd z.symm (by assumption)
  · rw [Lk19.one_eq]
    unfold wds
    simp only [List.any_cons, List.any_nil, Bool.or_false, Bool.or_eq_false_iff, decide_eq_false_iff_not]
    exact ⟨fun z => h1 z.symm, fun z => h2 z.symm, fun z => h3 z.symm, fun z => h4 z.symm, fun z => h5 z.symm⟩
theorem rd__law_is_wish : ∀ ds O (kk : D → OH → Prop), sp__law_is_wish ds O kk → bd__law_is_wish { nx := fun _ O' => kk .non O', rt := kk } (startD ["thing", "axes", "kinds", "kind", "part"] ds) O := by
  rintro ds O kk ⟨d, ax, rfl, hp, h⟩
  unfold bd__law_is_wish
  show dThen _ (dThen _ (dThen _ (dThen (dFor _ (dTg 2 (dGCons (dNm 3) (dGCons (dNm 4) (dGNil)))) wpB) _))) _ _ _
  walk_at "sc"
  cases d <;> first | (simp [pl] at hp; done) | skip
  all_goals refine ⟨by simp, ?_⟩
  all_goals first | exact h | skip
  rename_i xs
  simp only [pl] at hp
  match xs, hp, h with
  | [], hp, h => exact h
  | x :: r, hp, h =>
    have z : decide (((x :: r : List D).length : Int) = 0) = false := decide_eq_false (by simp only [List.length_cons]; omega)
    have t1 : isTy "tuple" "tuple" = true := by decide
    simp only [t1, z, atI_0, Bool.not_true]
    refine ⟨by simp, ?_⟩
    simp only [plL, Bool.and_eq_true] at hp
    have no : (∀ w, x ≠ .str w) → kk (.bl false) O := by
      intro hx
      have e : wishB ax (.tup (x :: r)) = false := Lk19.t_other (Lk19.one_no hx)
      rw [e] at h; exact h
    cases x with
    | str w =>
      have t2 : isTy "str" "str" = true := by decide
      have h : kk (.bl (Lk19.tailB ax (.str w) r)) O := h
      simp only [t2, Bool.not_true, cut_one]
      rcases find_kn ax r w with ⟨p, cs, e, ec, el, et⟩ | ⟨e, et⟩
      · unfold knds at e
        simp only [e]
        refine ⟨p.2, rfl, small_len (by omega), ?_⟩
        have es : p.2.length = cs.length := by rw [← ec]; rfl
        rw [et] at h
        by_cases z : r.length = cs.length
        · have z2 : decide (((D.str w :: r).length : Int) = 1 + (p.2.length : Int)) = true := decide_eq_true (by simp only [List.length_cons]; omega)
          rw [decide_eq_true z] at h
          simp only [z2, Bool.not_true]
          refine ⟨es.trans z.symm, ?_⟩
          unfold signD
          rw [ec]
          refine wp_go cs r _ _ hp.2 (fun q _ _ => ?_) fun q => ?_
          · walk_at "sc"
            rw [q] at h; exact h
          · rw [q] at h; exact h
        · have z2 : decide (((D.str w :: r).length : Int) = 1 + (p.2.length : Int)) = false := decide_eq_false (by simp only [List.length_cons]; omega)
          rw [decide_eq_false z] at h
          simp only [z2, Bool.not_false]
          exact h
      · unfold knds at e
        simp only [e]
        rw [et] at h; exact h
    | _ => first | exact no (by intro w; exact D.noConfusion) | (simp [pl] at hp; done)
theorem rd__law_are_wishes : ∀ ds O (kk : D → OH → Prop), sp__law_are_wishes ds O kk → bd__law_are_wishes { nx := fun _ O' => kk .non O', rt := kk } (startD ["thing", "axes", "one"] ds) O := by
  rintro ds O kk ⟨d, ax, rfl, hp, h⟩
  unfold bd__law_are_wishes
  walk_at "sc"
  cases d <;> first | (simp [pl] at hp; done) | skip
  all_goals refine ⟨by simp, ?_⟩
  all_goals first | exact h | skip
  rename_i xs
  simp only [pl] at hp
  have h : kk (.bl (tupB 0 4 (.tup xs) && xs.all (wishB ax))) O := h
  have e : tupB 0 4 (.tup xs) = decide ((xs.length : Int) ≤ 4) := by
    unfold tupB
    rw [Bool.eq_iff_iff]
    simp only [Bool.and_eq_true, decide_eq_true_eq]
    omega
  rw [e] at h
  have t1 : isTy "tuple" "tuple" = true := by decide
  dsimp only
  rw [t1]
  dsimp only
  by_cases z : (xs.length : Int) ≤ 4
  · rw [decide_eq_true z] at h ⊢
    dsimp only
    refine ⟨small_len (by omega), ?_⟩
    rw [show xs = xs.map id from (List.map_id xs).symm]
    refine dAcc_map _ (fun x => .bl (wishB ax x)) _ _ _ (fun x hx O k' h' => ?_) ?_
    · walk_at "sc"
      exact ⟨x, ax, rfl, plL_mem hp x hx, h'⟩
    · rw [List.nil_append, boolsD_map']
      show kk (.bl ((xs.map _).all id)) O
      rw [List.all_map]
      exact h
  · rw [decide_eq_false z] at h ⊢
    exact h
end Lk17
namespace Lk17
open PySem PySem.Spec PyProof.Rows L2 SC
open Lk19 (Box Area W pairD boxD areaD rowD okS okB okA okK okN betw tupB spanB spansB boxB areaB oneB wishB items brk okR okP inArea pl plL wds wdsO wdsK plL_mem plL_of)
variable [PlC] [XCx]
local macro_rules | `(tactic| walk_at "sc") => `(tactic| simp only [dThen, dSet, dRet, dCall, dCons, dNil, dVar, dC, dCB, dComp, dZip, dSeq, dOp, dIf, dB, dIfE, dNot, dAnd, dOr, dAndV, dOrV, dNotV, dSkip, dExpr, dFor, dApp, dTup, dLst, dLstO, dUn, dPar, dPar3, dAsg, dSetIx, dSl, dPart, dPart0, dRng1, dRng2, dZip3, dEnum, dEnumT, dZipS, dGetT, dFld, dMake, dMulA, dChain, dNm, dTg, dGCons, dGNil, dYes, dI0, dI, dU, dEqS, eqS, dIsN, isNon, dAddA, dAddL, dAddLO, dMulT, dSlS, dCompO, dIn, rIxD, rLenD, rLenS, SC.rListD, rReprD, rNeSame, rBools, rAbsD, rIntD, rTwo, rTupD, rTupX, rIsiD, tyD,
  startD, List.map_cons, List.map_nil, List.length_cons, List.length_nil, Nat.reduceAdd, Nat.reduceSub, List.replicate_succ, List.replicate_zero, List.cons_append, List.nil_append, List.append_nil,
  List.getElem?_cons_zero, List.getElem?_cons_succ, List.set_cons_zero, List.set_cons_succ, wipeD, atI_0, atI_1, atI_2, atI_3, atI_4, oset_same, oset_oset, true_and, and_true, ix5])
theorem fst_loop {B ax : Int} {ps : List Lk19.Row} {k : DEnds} {n : Nat} {O : OH} {t : Option D} (hN : okN B ax) (hp : okP ax ps) (hn : n < ps.length) : ∀ (ws : List W) (j : Nat) (c d : Option D), (∀ w ∈ ws, w.ok B ax) → (fstB ps n j ws = none → ∀ c d, k.nx [t, some (.lst (ps.map rowD)), some (.int (n : Nat)), c, d] O) → (∀ i, fstB ps n j ws = some i → k.rt (.tup [.int (n : Nat), .int (i : Nat)]) O) →
    dLoop (dTg 2 (dGCons (dNm 3) (dGCons (dNm 4) (dGNil)))) (dIf (dB (dCall sp__law_breaks (dCons (dVar 4) (dCons (dVar 1) (dCons (dVar 2) (dNil)))))) (dRet (dTup (dCons (dVar 2) (dCons (dVar 3) (dNil))))) (dSkip)) k (enumD j (ws.map W.d)) [t, some (.lst (ps.map rowD)), some (.int (n : Nat)), c, d] O
  | [], j, c, d, _, hy, _ => by
    simp only [List.map_nil, enumD]
    unfold dLoop
    exact hy rfl c d
  | w :: ws, j, c, d, hw, hy, hr => by
    simp only [List.map_cons, enumD]
    unfold dLoop
    walk_at "sc"
    refine ⟨B, ax, w, ps, n, rfl, hN, hw w (by simp), hp, hn, ?_⟩
    cases e : brk w ps n with
    | true =>
      have : fstB ps n j (w :: ws) = some j := by
        show (bif brk w ps n then some j else _) = _
        rw [e]; rfl
      exact ⟨small_len (by simp), hr j this⟩
    | false =>
      have : fstB ps n j (w :: ws) = fstB ps n (j + 1) ws := by
        show (bif brk w ps n then some j else _) = _
        rw [e]; rfl
      rw [this] at hy hr
      exact fst_loop hN hp hn ws (j + 1) _ _ (fun v hv => hw v (by simp [hv])) hy hr
noncomputable def dueB : DS := dFor (dEnumT (dVar 0)) (dTg 2 (dGCons (dNm 3) (dGCons (dNm 4) (dGNil)))) (dIf (dB (dCall sp__law_breaks (dCons (dVar 4) (dCons (dVar 1) (dCons (dVar 2) (dNil)))))) (dRet (dTup (dCons (dVar 2) (dCons (dVar 3) (dNil))))) (dSkip))
theorem due_loop {B ax : Int} {ws : List W} {ps : List Lk19.Row} {kk : D → OH → Prop} {O : OH} (hN : okN B ax) (hp : okP ax ps) (hw : okWs B ax ws) : ∀ (ns : List Nat) (b c d : Option D), (∀ n ∈ ns, n < ps.length) → kk (dueD (dueL ws ps ns)) O →
    dLoop (dNm 2) dueB { nx := dRet (dC .non) { nx := fun _ O' => kk .non O', rt := kk }, rt := kk } (ns.map fun i => .int (0 + (i : Nat))) [some (.tup (ws.map W.d)), some (.lst (ps.map rowD)), b, c, d] O
  | [], b, c, d, _, h => by
    simp only [List.map_nil]
    unfold dLoop
    walk_at "sc"
    exact h
  | n :: ns, b, c, d, hn, h => by
    simp only [List.map_cons, Int.zero_add]
    unfold dLoop
    show dueB _ [some (.tup (ws.map W.d)), some (.lst (ps.map rowD)), some (.int (n : Nat)), c, d] O
    unfold dueL at h
    refine fst_loop hN hp (hn n (by simp)) ws 0 _ _ hw.2 (fun e u v => ?_) fun i e => ?_
    · rw [e] at h
      have z := due_loop hN hp hw ns (some (.int (n : Nat))) u v (fun m hm => hn m (by simp [hm])) h
      simpa only [Int.zero_add] using z
    · rw [e] at h; exact h
theorem rd__law_due : ∀ ds O (kk : D → OH → Prop), sp__law_due ds O kk → bd__law_due { nx := fun _ O' => kk .non O', rt := kk } (startD ["wishes", "places", "at", "number", "wish"] ds) O := by
  rintro ds O kk ⟨B, ax, ws, ps, rfl, hN, hw, hp, h⟩
  unfold bd__law_due
  show dThen (dFor _ _ dueB) _ _ _ _
  walk_at "sc"
  have := hp.2.1
  refine ⟨by simp; omega, ?_⟩
  have e : ((List.map rowD ps).length : Int).toNat = ps.length := by rw [List.length_map]; rfl
  rw [e]
  exact due_loop hN hp hw (List.range ps.length) none none none (fun n hn => List.mem_range.mp hn) h
theorem rd__law_is : ∀ ds O (kk : D → OH → Prop), sp__law_is ds O kk → bd__law_is { nx := fun _ O' => kk .non O', rt := kk } (startD ["told", "due", "one"] ds) O := by
  rintro ds O kk ⟨u, rfl, hu, h⟩
  unfold bd__law_is
  rcases u with _ | ⟨n, j⟩
  · unfold dueD
    walk_at "sc"
    exact h
  · unfold dueD
    unfold okDue at hu
    walk_at "sc"
    refine ⟨by simp, small_len (by decide), ?_⟩
    have b : ∀ m : Nat, m ≤ 1000 → betw 0 ((10 : Int) ^ (9 : Int).toNat) (.int (m : Nat)) = true := by
      intro m hm
      have z : (10 : Int) ^ (9 : Int).toNat = 1000000000 := by decide
      rw [z]
      simp only [betw, Bool.and_eq_true, decide_eq_true_eq]
      omega
    unfold dAcc
    walk_at "sc"
    refine ⟨⟨by decide, by decide, by decide⟩, _, _, _, rfl, by simp [pl], ?_⟩
    rw [b n hu.1]
    unfold dAcc
    walk_at "sc"
    refine ⟨⟨by decide, by decide, by decide⟩, _, _, _, rfl, by simp [pl], ?_⟩
    rw [b j hu.2]
    unfold dAcc
    show (match D.bl (decide True) with
                  | D.bl true => kk (D.bl (decide True)) O
                  | D.bl false => kk (D.bl false) O
                  | x => False)
    rw [decide_true]
    exact h
theorem rep_flat {α : Type} (x : α) : ∀ n : Nat, (List.replicate n [x]).flatten = List.replicate n x
  | 0 => rfl
  | n + 1 => by rw [List.replicate_succ, List.flatten_cons, rep_flat x n, List.replicate_succ]; rfl
theorem rd__law_plant : ∀ ds O (kk : D → OH → Prop), sp__law_plant ds O kk → bd__law_plant { nx := fun _ O' => kk .non O', rt := kk } (startD ["axes", "forms", "axis"] ds) O := by
  rintro ds O kk ⟨n, rfl, n1, n3, h⟩
  unfold bd__law_plant
  walk_at "sc"
  rw [Int.toNat_natCast]
  have e : rngD 0 n = (List.range n).map fun i => .int (0 + (i : Nat)) := rfl
  rw [e]
  refine ⟨⟨by omega, by omega⟩, small_len (by simp; omega), dAcc_map _ inD _ _ _ (fun i hi O k' h' => ?_) ?_⟩
  · walk_at "sc"
    rw [Int.zero_add]
    exact ⟨small_len (by decide), h'⟩
  · rw [List.nil_append]
    have s : ∀ i : Nat, i ≤ 1000 → i ≤ sizeLine := fun i hi => small_len (by omega)
    refine ⟨rfl, s _ (by decide), s _ (by decide), ⟨by decide, by omega, by omega⟩, s _ (by decide), s _ (by decide), s _ (by decide), s _ (by decide), ⟨by decide, by omega, by omega⟩, ⟨n, n1, n3, ?_⟩, ?_⟩
    · rw [rep_flat, rep_flat]; rfl
    · rw [rep_flat, rep_flat]; exact h
end Lk17
namespace Lk17
open PySem PySem.Spec PyProof.Rows L2 SC
open Lk19 (Box Area W pairD boxD areaD rowD okS okB okA okK okN betw tupB spanB spansB boxB areaB oneB wishB items brk okR okP inArea pl plL wds wdsO wdsK plL_mem plL_of)
variable [PlC] [XCx]
local macro_rules | `(tactic| walk_at "sc") => `(tactic| simp only [dThen, dSet, dRet, dCall, dCons, dNil, dVar, dC, dCB, dComp, dZip, dSeq, dOp, dIf, dB, dIfE, dNot, dAnd, dOr, dAndV, dOrV, dNotV, dSkip, dExpr, dFor, dApp, dTup, dLst, dLstO, dUn, dPar, dPar3, dAsg, dSetIx, dSl, dPart, dPart0, dRng1, dRng2, dZip3, dEnum, dEnumT, dZipS, dGetT, dFld, dMake, dMulA, dChain, dNm, dTg, dGCons, dGNil, dYes, dI0, dI, dU, dEqS, eqS, dIsN, isNon, dAddA, dAddL, dAddLO, dMulT, dSlS, dCompO, dIn, rIxD, rLenD, rLenS, SC.rListD, rReprD, rNeSame, rBools, rAbsD, rIntD, rTwo, rTupD, rTupX, rIsiD, tyD,
  startD, List.map_cons, List.map_nil, List.length_cons, List.length_nil, Nat.reduceAdd, Nat.reduceSub, List.replicate_succ, List.replicate_zero, List.cons_append, List.nil_append, List.append_nil,
  List.getElem?_cons_zero, List.getElem?_cons_succ, List.set_cons_zero, List.set_cons_succ, wipeD, atI_0, atI_1, atI_2, atI_3, atI_4, oset_same, oset_oset, true_and, and_true, ix5])
def lineP : List Lk19.Row := [[0], [1], [2], [1], [1], [1]]
def a22 : Area := [[(2, 2)]]
def a00 : Area := [[(0, 0)]]
def a11 : Area := [[(1, 1)]]
def a99 : Area := [[(9, 9)]]
def a01 : Area := [[(0, 1)]]
def a02 : Area := [[(0, 0)], [(2, 2)]]
def wsA : List W := [.never a22, .within a99 5, .within a22 1, .again a22 2]
def wsB : List W := [.again a02 1, .answered a00 a22 2]
def wsC : List W := [.answered a00 a22 1, .ahead a11 a22]
def wsE : List W := [.answered a22 a99 3, .answered a01 a00 2]
def wsF : List W := [.never a22, .within a99 5, .within a22 1, .again a22 2, .again a02 1, .answered a00 a22 2, .answered a00 a22 1, .ahead a11 a22, .ahead [] a22, .answered a22 a99 3, .answered a01 a00 2]
def duesF : List (Option (Nat × Nat)) := [some (2, 0), some (5, 0), some (1, 0), some (5, 0), some (4, 0), none, some (1, 0), none, some (2, 0), some (5, 0), some (3, 0)]
theorem dues_F : wsF.map (fun w => due [w] lineP) = duesF := by decide +kernel
theorem okA1 {q : Int × Int} (h : okS 9 q) : okA 9 1 [[q]] := ⟨by show 1 ≤ 6; decide, fun b hb => by rw [List.mem_singleton.mp hb]; exact ⟨rfl, fun r hr => by rw [List.mem_singleton.mp hr]; exact h⟩⟩
theorem k22 : okA 9 1 a22 := okA1 (by unfold okS; decide)
theorem k00 : okA 9 1 a00 := okA1 (by unfold okS; decide)
theorem k11 : okA 9 1 a11 := okA1 (by unfold okS; decide)
theorem k99 : okA 9 1 a99 := okA1 (by unfold okS; decide)
theorem k01 : okA 9 1 a01 := okA1 (by unfold okS; decide)
theorem k02 : okA 9 1 a02 := ⟨by decide, fun b hb => by
  simp only [a02, List.mem_cons, List.not_mem_nil, or_false] at hb
  rcases hb with rfl | rfl
  · exact k00.2 _ (by simp [a00])
  · exact k22.2 _ (by simp [a22])⟩
theorem kN : okA 9 1 [] := ⟨by decide, fun b hb => nomatch hb⟩
theorem okF : ∀ w ∈ wsF, w.ok 9 1 := by
  intro w hw
  simp only [wsF, List.mem_cons, List.not_mem_nil, or_false] at hw
  have kk : ∀ k : Int, 1 ≤ k ∧ k ≤ 30 → okK k := fun k h => h
  rcases hw with rfl | rfl | rfl | rfl | rfl | rfl | rfl | rfl | rfl | rfl | rfl
  · exact k22
  · exact ⟨k99, kk _ (by decide)⟩
  · exact ⟨k22, kk _ (by decide)⟩
  · exact ⟨k22, kk _ (by decide)⟩
  · exact ⟨k02, kk _ (by decide)⟩
  · exact ⟨k00, k22, kk _ (by decide)⟩
  · exact ⟨k00, k22, kk _ (by decide)⟩
  · exact ⟨k11, k22⟩
  · exact ⟨kN, k22⟩
  · exact ⟨k22, k99, kk _ (by decide)⟩
  · exact ⟨k01, k00, kk _ (by decide)⟩
theorem okN91 : okN 9 1 := ⟨by decide, by decide, by decide, by decide⟩
theorem okL : okP 1 lineP := ⟨by decide, by decide, by unfold Lk19.okR; decide⟩
def Sup (O O' : OH) : Prop := ∀ p h, O p = some h → O' p = some h
theorem Sup.new {O O' : OH} {p : Addr} {xs : List D} (s : Sup O O') (n : O' p = none) : Sup O (oset O' p xs) := fun a h e => by
  rw [oset_ne fun z => by rw [z] at e; rw [s p h e] at n; cases n]; exact s a h e
theorem Sup.free {O O' : OH} {p : Addr} (s : Sup O O') (n : O' p = none) : O p = none := by
  cases e : O p with
  | none => rfl
  | some h => rw [s p h e] at n; cases n
theorem Sup.set {O O' : OH} {p : Addr} {xs : List D} (s : Sup O O') (n : O p = none) : Sup O (oset O' p xs) := fun a h e => by
  rw [oset_ne fun z => by rw [z] at e; rw [e] at n; cases n]; exact s a h e
theorem Sup.del {O O' : OH} {p : Addr} (s : Sup O O') (n : O p = none) : Sup O (odel O' p) := fun a h e => by
  have z : a ≠ p := fun z => by rw [z] at e; rw [e] at n; cases n
  rw [← s a h e]
  exact if_neg z
theorem s3 {n : Nat} (h : n ≤ 100000 := by decide) : n ≤ sizeLine := small_len h
/-- the wishes so far -/
def KR (O : OH) (L fa : D) (ws : List W) : DV → OH → Prop := fun e O' => ∃ p, Sup O O' ∧ O p = none ∧ O' p = some (ws.map W.d) ∧ e = [some (.own p), none, none, some L, some fa, none, none]
noncomputable def st1 : DS := dSet 0 (dLstO (dCons (dTup (dCons (dC (.str "never")) (dCons (dTup (dCons (dTup (dCons (dTup (dCons (dC (.int 2)) (dCons (dC (.int 2)) (dNil)))) (dNil))) (dNil))) (dNil)))) (dCons (dTup (dCons (dC (.str "within")) (dCons (dTup (dCons (dVar 4) (dNil))) (dCons (dC (.int 5)) (dNil))))) (dCons (dTup (dCons (dC (.str "within")) (dCons (dTup (dCons (dTup (dCons (dTup (dCons (dC (.int 2)) (dCons (dC (.int 2)) (dNil)))) (dNil))) (dNil))) (dCons (dC (.int 1)) (dNil))))) (dCons (dTup (dCons (dC (.str "again")) (dCons (dTup (dCons (dTup (dCons (dTup (dCons (dC (.int 2)) (dCons (dC (.int 2)) (dNil)))) (dNil))) (dNil))) (dCons (dC (.int 2)) (dNil))))) (dNil))))))
noncomputable def st2 : DS := dSet 0 (dOp dAddLO (dVar 0) (dLst (dCons (dTup (dCons (dC (.str "again")) (dCons (dTup (dCons (dTup (dCons (dTup (dCons (dC (.int 0)) (dCons (dC (.int 0)) (dNil)))) (dNil))) (dCons (dTup (dCons (dTup (dCons (dC (.int 2)) (dCons (dC (.int 2)) (dNil)))) (dNil))) (dNil)))) (dCons (dC (.int 1)) (dNil))))) (dCons (dTup (dCons (dC (.str "answered")) (dCons (dTup (dCons (dTup (dCons (dTup (dCons (dC (.int 0)) (dCons (dC (.int 0)) (dNil)))) (dNil))) (dNil))) (dCons (dTup (dCons (dTup (dCons (dTup (dCons (dC (.int 2)) (dCons (dC (.int 2)) (dNil)))) (dNil))) (dNil))) (dCons (dC (.int 2)) (dNil)))))) (dNil)))))
noncomputable def st3 : DS := dSet 0 (dOp dAddLO (dVar 0) (dLst (dCons (dTup (dCons (dC (.str "answered")) (dCons (dTup (dCons (dTup (dCons (dTup (dCons (dC (.int 0)) (dCons (dC (.int 0)) (dNil)))) (dNil))) (dNil))) (dCons (dTup (dCons (dTup (dCons (dTup (dCons (dC (.int 2)) (dCons (dC (.int 2)) (dNil)))) (dNil))) (dNil))) (dCons (dC (.int 1)) (dNil)))))) (dCons (dTup (dCons (dC (.str "ahead")) (dCons (dTup (dCons (dTup (dCons (dTup (dCons (dC (.int 1)) (dCons (dC (.int 1)) (dNil)))) (dNil))) (dNil))) (dCons (dTup (dCons (dTup (dCons (dTup (dCons (dC (.int 2)) (dCons (dC (.int 2)) (dNil)))) (dNil))) (dNil))) (dNil))))) (dNil)))))
noncomputable def st4 : DS := dApp (dVar 0) (dTup (dCons (dC (.str "ahead")) (dCons (dTup (dNil)) (dCons (dTup (dCons (dTup (dCons (dTup (dCons (dC (.int 2)) (dCons (dC (.int 2)) (dNil)))) (dNil))) (dNil))) (dNil)))))
noncomputable def st5 : DS := dSet 0 (dOp dAddLO (dVar 0) (dLst (dCons (dTup (dCons (dC (.str "answered")) (dCons (dTup (dCons (dTup (dCons (dTup (dCons (dC (.int 2)) (dCons (dC (.int 2)) (dNil)))) (dNil))) (dNil))) (dCons (dTup (dCons (dVar 4) (dNil))) (dCons (dC (.int 3)) (dNil)))))) (dCons (dTup (dCons (dC (.str "answered")) (dCons (dTup (dCons (dTup (dCons (dTup (dCons (dC (.int 0)) (dCons (dC (.int 1)) (dNil)))) (dNil))) (dNil))) (dCons (dTup (dCons (dTup (dCons (dTup (dCons (dC (.int 0)) (dCons (dC (.int 0)) (dNil)))) (dNil))) (dNil))) (dCons (dC (.int 2)) (dNil)))))) (dNil)))))
noncomputable def st6 : DS := dSet 1 (dComp (dSeq (dFrz (dVar 0))) (dNm 5) (dYes) (dCall sp_broken (dCons (dTup (dCons (dVar 5) (dNil))) (dCons (dVar 3) (dNil)))) [5])
noncomputable def st7 : DS := dSet 2 (dLst (dCons (dTup (dCons (dC (.int 2)) (dCons (dC (.int 0)) (dNil)))) (dCons (dTup (dCons (dC (.int 5)) (dCons (dC (.int 0)) (dNil)))) (dCons (dTup (dCons (dC (.int 1)) (dCons (dC (.int 0)) (dNil)))) (dCons (dTup (dCons (dC (.int 5)) (dCons (dC (.int 0)) (dNil)))) (dCons (dTup (dCons (dC (.int 4)) (dCons (dC (.int 0)) (dNil)))) (dCons (dC .non) (dCons (dTup (dCons (dC (.int 1)) (dCons (dC (.int 0)) (dNil)))) (dCons (dC .non) (dCons (dTup (dCons (dC (.int 2)) (dCons (dC (.int 0)) (dNil)))) (dCons (dTup (dCons (dC (.int 5)) (dCons (dC (.int 0)) (dNil)))) (dCons (dTup (dCons (dC (.int 3)) (dCons (dC (.int 0)) (dNil)))) (dNil)))))))))))))
noncomputable def st8 : DS := dRet (dCB (rBools fun l => l.all id) (dCons (dComp (dZip (dVar 1) (dVar 2)) (dTg 2 (dGCons (dNm 5) (dGCons (dNm 6) (dGNil)))) (dYes) (dCall sp__law_is (dCons (dVar 5) (dCons (dVar 6) (dNil)))) [5, 6]) (dNil)))
theorem go1 {rt : D → OH → Prop} {O : OH} {L : D} (nx : DV → OH → Prop) (hn : ∀ e O', KR O L (boxD [(9, 9)]) wsA e O' → nx e O') : st1 { nx := nx, rt := rt } [none, none, none, some L, some (boxD [(9, 9)]), none, none] O := by
  unfold st1
  generalize hb : boxD [(9, 9)] = b9 at hn ⊢
  walk_at "sc"
  repeat refine ⟨s3, ?_⟩
  refine fun p hp => hn _ _ ⟨p, ?_, hp, ?_, rfl⟩
  · exact Sup.new (fun _ _ e => e) hp
  · rw [oset_same, ← hb]; rfl
theorem go2 {rt : D → OH → Prop} {O : OH} {L fa : D} (nx : DV → OH → Prop) (hn : ∀ e O', KR O L fa (wsA ++ wsB) e O' → nx e O') : ∀ e O', KR O L fa wsA e O' → st2 { nx := nx, rt := rt } e O' := by
  rintro e O' ⟨p, s, np, hp, rfl⟩
  unfold st2
  generalize hw : wsA.map W.d = wA at hp
  walk_at "sc"
  simp only [hp]
  have : wA.length = 4 := by rw [← hw]; rfl
  repeat refine ⟨s3, ?_⟩
  refine ⟨by rw [this]; exact s3, fun q hq => hn _ _ ⟨q, s.new hq, s.free hq, ?_, rfl⟩⟩
  rw [oset_same, ← hw]; rfl
theorem go3 {rt : D → OH → Prop} {O : OH} {L fa : D} (nx : DV → OH → Prop) (hn : ∀ e O', KR O L fa (wsA ++ wsB ++ wsC) e O' → nx e O') : ∀ e O', KR O L fa (wsA ++ wsB) e O' → st3 { nx := nx, rt := rt } e O' := by
  rintro e O' ⟨p, s, np, hp, rfl⟩
  unfold st3
  generalize hw : (wsA ++ wsB).map W.d = wA at hp
  walk_at "sc"
  simp only [hp]
  have : wA.length = 6 := by rw [← hw]; rfl
  repeat refine ⟨s3, ?_⟩
  refine ⟨by rw [this]; exact s3, fun q hq => hn _ _ ⟨q, s.new hq, s.free hq, ?_, rfl⟩⟩
  rw [oset_same, ← hw]; rfl
theorem go4 {rt : D → OH → Prop} {O : OH} {L fa : D} (nx : DV → OH → Prop) (hn : ∀ e O', KR O L fa (wsA ++ wsB ++ wsC ++ [W.ahead [] a22]) e O' → nx e O') : ∀ e O', KR O L fa (wsA ++ wsB ++ wsC) e O' → st4 { nx := nx, rt := rt } e O' := by
  rintro e O' ⟨p, s, np, hp, rfl⟩
  unfold st4
  generalize hw : (wsA ++ wsB ++ wsC).map W.d = wA at hp
  walk_at "sc"
  simp only [hp]
  have : wA.length = 8 := by rw [← hw]; rfl
  repeat refine ⟨s3, ?_⟩
  refine ⟨by rw [this]; exact lt_len (by decide), hn _ _ ⟨p, s.set np, np, ?_, rfl⟩⟩
  rw [oset_same, ← hw]; rfl
theorem go5 {rt : D → OH → Prop} {O : OH} {L : D} (nx : DV → OH → Prop) (hn : ∀ e O', KR O L (boxD [(9, 9)]) wsF e O' → nx e O') : ∀ e O', KR O L (boxD [(9, 9)]) (wsA ++ wsB ++ wsC ++ [W.ahead [] a22]) e O' → st5 { nx := nx, rt := rt } e O' := by
  rintro e O' ⟨p, s, np, hp, rfl⟩
  unfold st5
  generalize hb : boxD [(9, 9)] = b9 at hn ⊢
  generalize hw : (wsA ++ wsB ++ wsC ++ [W.ahead [] a22]).map W.d = wA at hp
  walk_at "sc"
  simp only [hp]
  have : wA.length = 9 := by rw [← hw]; rfl
  repeat refine ⟨s3, ?_⟩
  refine ⟨by rw [this]; exact s3, fun q hq => hn _ _ ⟨q, s.new hq, s.free hq, ?_, rfl⟩⟩
  rw [oset_same, ← hw, ← hb]; rfl
theorem go6 {rt : D → OH → Prop} {O : OH} {fa : D} (nx : DV → OH → Prop) (hn : ∀ e O', (∃ p x, Sup O O' ∧ e = [some (.own p), some (.lst (duesF.map dueD)), none, some (.lst (lineP.map rowD)), some fa, x, none]) → nx e O') : ∀ e O', KR O (.lst (lineP.map rowD)) fa wsF e O' → st6 { nx := nx, rt := rt } e O' := by
  rintro e O' ⟨p, s, np, hp, rfl⟩
  unfold st6
  generalize hL : D.lst (lineP.map rowD) = L at hn ⊢
  walk_at "sc"
  unfold dFrz frzD
  walk_at "sc"
  simp only [hp]
  refine ⟨s3, dAcc_map W.d (fun w => dueD (due [w] lineP)) _ _ _ (fun w hw O k' h' => ?_) ?_⟩
  · walk_at "sc"
    refine ⟨s3, 9, 1, [w], lineP, L, rfl, .inr hL.symm, okN91, ⟨by show 1 ≤ 10; decide, fun v hv => by rw [List.mem_singleton.mp hv]; exact okF w hw⟩, okL, h'⟩
  · rw [List.nil_append]
    refine hn _ _ ⟨p, none, s.del np, ?_⟩
    rw [← dues_F, List.map_map]; rfl
theorem go7 {rt : D → OH → Prop} {O : OH} {L fa : D} (nx : DV → OH → Prop) (hn : ∀ e O', (∃ p x, Sup O O' ∧ e = [some (.own p), some (.lst (duesF.map dueD)), some (.lst (duesF.map dueD)), some L, some fa, x, none]) → nx e O') : ∀ e O', (∃ p x, Sup O O' ∧ e = [some (.own p), some (.lst (duesF.map dueD)), none, some L, some fa, x, none]) → st7 { nx := nx, rt := rt } e O' := by
  rintro e O' ⟨p, x, s, rfl⟩
  unfold st7
  generalize hL : D.lst (duesF.map dueD) = M at hn ⊢
  walk_at "sc"
  repeat refine ⟨s3, ?_⟩
  refine hn _ _ ⟨p, x, s, ?_⟩
  rw [← hL]; rfl
theorem go8 {kk : D → OH → Prop} {nx : DV → OH → Prop} {O : OH} {L fa : D} (h : ∀ O', Sup O O' → kk (.bl true) O') : ∀ e O', (∃ p x, Sup O O' ∧ e = [some (.own p), some (.lst (duesF.map dueD)), some (.lst (duesF.map dueD)), some L, some fa, x, none]) → st8 { nx := nx, rt := kk } e O' := by
  rintro e O' ⟨p, x, s, rfl⟩
  unfold st8
  generalize hd : duesF = du
  have hk : ∀ u ∈ du, okDue u := by
    rw [← hd]
    intro u hu
    simp only [duesF, List.mem_cons, List.not_mem_nil, or_false] at hu
    rcases hu with rfl | rfl | rfl | rfl | rfl | rfl | rfl | rfl | rfl | rfl | rfl <;> simp [okDue]
  have hl : du.length ≤ 100 := by rw [← hd]; decide
  walk_at "sc"
  rw [pairsD_map]
  refine ⟨small_len (by rw [List.length_map, List.length_zip]; omega), dAcc_map _ (fun _ => .bl true) _ _ _ (fun q hq O k' h' => ?_) ?_⟩
  · walk_at "sc"
    have e : q.1 = q.2 ∧ q.1 ∈ du := by
      obtain ⟨i, hi⟩ := List.mem_iff_getElem?.mp hq
      rw [List.getElem?_zip_eq_some] at hi
      exact ⟨Option.some.inj (hi.1.symm.trans hi.2), List.mem_of_getElem? hi.1⟩
    exact ⟨q.1, by rw [← e.1], hk _ e.2, h'⟩
  · rw [List.nil_append, boolsD_map' (fun _ => true)]
    show kk (.bl ((List.map _ _).all id)) O'
    rw [all_true]; exact h _ s
theorem rd__law_are_known_right : ∀ ds O (kk : D → OH → Prop), sp__law_are_known_right ds O kk → bd__law_are_known_right { nx := fun _ O' => kk .non O', rt := kk } (startD ["some", "told", "dues", "line", "far", "one", "due"] ds) O := by
  rintro ds O kk ⟨rfl, h⟩
  unfold bd__law_are_known_right
  refine dThen_by (fun e O' => O' = O ∧ e = [none, none, none, some (.lst (lineP.map rowD)), some (boxD [(9, 9)]), none, none]) (fun nx hn => ?_) ?_
  · walk_at "sc"
    repeat refine ⟨s3, ?_⟩
    exact hn _ _ ⟨rfl, rfl⟩
  rintro e O' ⟨rfl, rfl⟩
  show dThen st1 (dThen st2 (dThen st3 (dThen st4 (dThen st5 (dThen st6 (dThen st7 st8)))))) _ _ _
  exact go1 _ (go2 _ (go3 _ (go4 _ (go5 _ (go6 _ (go7 _ (go8 h)))))))
end Lk17
namespace Lk17
open PySem PySem.Spec PyProof.Rows L2 SC
open Lk19 (Box Area W pairD boxD areaD rowD okS okB okA okK okN betw tupB spanB spansB boxB areaB oneB wishB items brk okR okP inArea pl plL wds wdsO wdsK plL_mem plL_of)
variable [PlC] [XCx]
local macro_rules | `(tactic| walk_at "sc") => `(tactic| simp only [dThen, dSet, dRet, dCall, dCons, dNil, dVar, dC, dCB, dComp, dZip, dSeq, dOp, dIf, dB, dIfE, dNot, dAnd, dOr, dAndV, dOrV, dNotV, dSkip, dExpr, dFor, dApp, dTup, dLst, dLstO, dUn, dPar, dPar3, dAsg, dSetIx, dSl, dPart, dPart0, dRng1, dRng2, dZip3, dEnum, dEnumT, dZipS, dGetT, dFld, dMake, dMulA, dChain, dNm, dTg, dGCons, dGNil, dYes, dI0, dI, dU, dEqS, eqS, dIsN, isNon, dAddA, dAddL, dAddLO, dMulT, dSlS, dCompO, dIn, rIxD, rLenD, rLenS, SC.rListD, rReprD, rNeSame, rBools, rAbsD, rIntD, rTwo, rTupD, rTupX, rIsiD, tyD,
  startD, List.map_cons, List.map_nil, List.length_cons, List.length_nil, Nat.reduceAdd, Nat.reduceSub, List.replicate_succ, List.replicate_zero, List.cons_append, List.nil_append, List.append_nil,
  List.getElem?_cons_zero, List.getElem?_cons_succ, List.set_cons_zero, List.set_cons_succ, wipeD, atI_0, atI_1, atI_2, atI_3, atI_4, oset_same, oset_oset, true_and, and_true, ix5])
/-! ### bent things -/
structure Ls (b k : Nat) (xs : List D) : Prop where
  ok : okTs xs = true
  c : noCs xs = true
  l : noLs xs = true
  b : bulkDs xs ≤ b
  d : depDs xs ≤ k
theorem okTs_app : ∀ xs ys : List D, okTs (xs ++ ys) = (okTs xs && okTs ys)
  | [], _ => by simp [okTs]
  | x :: xs, ys => by simp [okTs, okTs_app xs ys, Bool.and_assoc]
theorem noCs_app : ∀ xs ys : List D, noCs (xs ++ ys) = (noCs xs && noCs ys)
  | [], _ => by simp [noCs]
  | x :: xs, ys => by simp [noCs, noCs_app xs ys, Bool.and_assoc]
theorem noLs_app : ∀ xs ys : List D, noLs (xs ++ ys) = (noLs xs && noLs ys)
  | [], _ => by simp [noLs]
  | x :: xs, ys => by simp [noLs, noLs_app xs ys, Bool.and_assoc]
theorem bulk_app : ∀ xs ys : List D, bulkDs (xs ++ ys) = bulkDs xs + bulkDs ys
  | [], _ => by simp [bulkDs]
  | x :: xs, ys => by
    have := bulk_app xs ys
    simp only [List.cons_append, bulkDs]; omega
theorem dep_app : ∀ xs ys : List D, depDs (xs ++ ys) = max (depDs xs) (depDs ys)
  | [], _ => by simp [depDs]
  | x :: xs, ys => by
    have := dep_app xs ys
    simp only [List.cons_append, depDs]; omega
theorem Ls.app {b c k : Nat} {xs ys : List D} (h : Ls b k xs) (h2 : Ls c k ys) : Ls (b + c) k (xs ++ ys) :=
  ⟨by rw [okTs_app, h.ok, h2.ok]; rfl, by rw [noCs_app, h.c, h2.c]; rfl, by rw [noLs_app, h.l, h2.l]; rfl, by have := h.b; have := h2.b; rw [bulk_app]; omega, by have := h.d; have := h2.d; rw [dep_app]; omega⟩
theorem Ls.left {b k : Nat} {xs ys : List D} (h : Ls b k (xs ++ ys)) : Ls b k xs := by
  obtain ⟨h1, h2, h3, h4, h5⟩ := h
  rw [okTs_app] at h1; rw [noCs_app] at h2; rw [noLs_app] at h3; rw [bulk_app] at h4; rw [dep_app] at h5
  simp only [Bool.and_eq_true] at h1 h2 h3
  exact ⟨h1.1, h2.1, h3.1, by omega, by omega⟩
theorem Ls.right {b k : Nat} {xs ys : List D} (h : Ls b k (xs ++ ys)) : Ls b k ys := by
  obtain ⟨h1, h2, h3, h4, h5⟩ := h
  rw [okTs_app] at h1; rw [noCs_app] at h2; rw [noLs_app] at h3; rw [bulk_app] at h4; rw [dep_app] at h5
  simp only [Bool.and_eq_true] at h1 h2 h3
  exact ⟨h1.2, h2.2, h3.2, by omega, by omega⟩
theorem Ls.nil {k : Nat} : Ls 0 k [] := ⟨by simp [okTs], by simp [noCs], by simp [noLs], by simp [bulkDs], by simp [depDs]⟩
theorem Ls.one {b k : Nat} {x : D} (h1 : okT x = true) (h2 : noC x = true) (h3 : noL x = true) (h4 : bulkD x ≤ b) (h5 : depD x ≤ k) : Ls (b + 1) k [x] :=
  ⟨by simp [okTs, h1], by simp [noCs, h2], by simp [noLs, h3], by simp only [bulkDs]; omega, by simp only [depDs]; omega⟩
theorem Ls.up {b c k n : Nat} {xs : List D} (h : Ls b k xs) (h1 : b ≤ c) (h2 : k ≤ n) : Ls c n xs := ⟨h.ok, h.c, h.l, Nat.le_trans h.b h1, Nat.le_trans h.d h2⟩
theorem Ls.rev {b k : Nat} : ∀ {xs : List D}, Ls b k xs → Ls b k xs.reverse
  | [], h => h
  | x :: xs, h => by
    rw [List.reverse_cons]
    have h' : Ls b k ([x] ++ xs) := h
    have r := Ls.rev (h'.right.up (Nat.le_refl _) (Nat.le_refl _))
    have e : bulkDs xs.reverse = bulkDs xs := bulk_rev xs
    have hx := h'.left
    refine ⟨by rw [okTs_app, r.ok, hx.ok]; rfl, by rw [noCs_app, r.c, hx.c]; rfl, by rw [noLs_app, r.l, hx.l]; rfl, ?_, by have := r.d; have := hx.d; rw [dep_app]; omega⟩
    have := h'.b
    rw [bulk_app] at this
    rw [bulk_app, e]; omega
where
  bulk_rev : ∀ xs : List D, bulkDs xs.reverse = bulkDs xs
    | [] => rfl
    | x :: xs => by
      rw [List.reverse_cons, bulk_app, bulk_rev xs]
      simp only [bulkDs]; omega
theorem len_bulk : ∀ xs : List D, xs.length ≤ bulkDs xs
  | [] => Nat.le_refl _
  | x :: xs => by
    have := len_bulk xs
    simp only [List.length_cons, bulkDs]; omega
theorem Ls.bt {b k m n : Nat} {xs : List D} (h : Ls b k xs) (hb : b ≤ 7 * m + 3000) (hk : k + 1 ≤ n + 45) : Bt m n (.tup xs) :=
  ⟨by simpa only [okT] using h.ok, by have := h.b; simp only [bulkD]; omega, by have := h.d; simp only [depD]; omega, .inl (by simpa only [noC] using h.c)⟩
theorem Ls.btL {b k m n : Nat} {xs : List D} (h : Ls b k xs) (hb : b ≤ 7 * m + 3000) (hk : k + 1 ≤ n + 45) : Bt m n (.lst xs) :=
  ⟨by simpa only [okT] using h.ok, by have := h.b; simp only [bulkD]; omega, by have := h.d; simp only [depD]; omega, .inl (by simpa only [noC] using h.c)⟩
theorem log_lt {n : Nat} (h : n < 2 ^ 99) : n.log2 < 100 := by
  by_cases z : n = 0
  · rw [z]; decide
  · exact Nat.lt_succ_of_lt ((Nat.log2_lt z).mpr h)
theorem ok_int {i : Int} (h : i.natAbs < 2 ^ 99) : okT (.int i) = true := by simp only [okT]; exact decide_eq_true (log_lt h)
theorem bt_int {m n : Nat} {i : Int} (h : i.natAbs < 2 ^ 99) : Bt m n (.int i) := ⟨ok_int h, by simp [bulkD], by simp [depD], .inl rfl⟩
mutual
theorem sm_ok : ∀ d : D, smT d = true → okT d = true ∧ noC d = true ∧ noL d = true
  | .int i, h => by
    simp only [smT, Bool.and_eq_true, decide_eq_true_eq] at h
    exact ⟨ok_int (Nat.lt_of_le_of_lt (m := 1000000) (by omega) (by decide)), by simp [noC], by simp [noL]⟩
  | .str x, h => by
    refine ⟨?_, by simp [noC], by simp [noL]⟩
    simp only [smT] at h
    simp only [okT]; exact h
  | .tup xs, h => by
    have := sm_oks xs (by simpa only [smT] using h)
    simpa only [okT, noC, noL] using this
  | .non, h => by simp [smT] at h
  | .bl _, h => by simp [smT] at h
  | .lst _, h => by simp [smT] at h
  | .dct, h => by simp [smT] at h
  | .ty _, h => by simp [smT] at h
  | .own _, h => by simp [smT] at h
  | .fz _, h => by simp [smT] at h
  | .obj _ _ _, h => by simp [smT] at h
theorem sm_oks : ∀ ds : List D, smTs ds = true → okTs ds = true ∧ noCs ds = true ∧ noLs ds = true
  | [], _ => ⟨by simp [okTs], by simp [noCs], by simp [noLs]⟩
  | d :: ds, h => by
    simp only [smTs, Bool.and_eq_true] at h
    have h1 := sm_ok d h.1
    have h2 := sm_oks ds h.2
    simp [okTs, noCs, noLs, h1, h2]
end
theorem smTs_app : ∀ xs ys : List D, smTs (xs ++ ys) = (smTs xs && smTs ys)
  | [], _ => by simp [smTs]
  | x :: xs, ys => by simp [smTs, smTs_app xs ys, Bool.and_assoc]
theorem sm_ls {m n : Nat} {xs : List D} (h : smT (.tup xs) = true) (hb : bulkD (.tup xs) ≤ m) (hd : depD (.tup xs) ≤ n + 1) : Ls m n xs := by
  have := sm_oks xs (by simpa only [smT] using h)
  exact ⟨this.1, this.2.1, this.2.2, by simpa only [bulkD] using hb, by simp only [depD] at hd; omega⟩
noncomputable def bn4 : DS := dThen (dSet 2 (dLst (dCons (dC (.str "never")) (dCons (dC (.str "within")) (dCons (dC (.str "answered")) (dCons (dC (.str "ahead")) (dCons (dC (.str "again")) (dCons (dC (.str "Never")) (dCons (dC (.str "")) (dCons (dC .non) (dCons (dC (.bl true)) (dCons (dC (.int 0)) (dCons (dTup (dNil)) (dCons (dLst (dNil)) (dCons (dC .dct) (dCons (dC (.str "1")) (dCons (dOp (dI CPow fun i j => .int (i ^ j.toNat)) (dC (.int 10)) (dC (.int 19))) (dNil)))))))))))))))))) (dRet (dCall sp__law_some (dCons (dVar 0) (dCons (dOp dAddA (dVar 2) (dLst (dCons (dCall sp__law_deep (dCons (dVar 0) (dCons (dC (.int 0)) (dNil)))) (dCons (dTup (dCons (dTup (dCons (dC (.int 0)) (dCons (dC (.int 1)) (dNil)))) (dNil))) (dCons (dTup (dCons (dTup (dCons (dTup (dCons (dC (.int 0)) (dCons (dC (.int 1)) (dNil)))) (dNil))) (dNil))) (dNil)))))) (dNil)))))
noncomputable def bn3 : DS := dThen (dIf (dAnd (dB (dCB rIsiD (dCons (dVar 1) (dCons (dC (.ty "int")) (dNil))))) (dB (dOp (dI0 fun i j => .bl (decide (j < i))) (dCall sp__law_draw (dCons (dVar 0) (dCons (dC (.int 4)) (dNil)))) (dC (.int 0))))) (dRet (dCall sp__law_some (dCons (dVar 0) (dCons (dLst (dCons (dOp dAddA (dVar 1) (dC (.int 1))) (dCons (dOp (dI0 fun i j => .int (i - j)) (dVar 1) (dC (.int 1))) (dCons (dC (.int 0)) (dCons (dC (.int 31)) (dCons (dC (.int 1000)) (dCons (dC (.int 1001)) (dCons (dUn (dU fun i => .int (-i)) (dC (.int 1001))) (dCons (dC (.bl true)) (dCons (dC (.bl false)) (dCons (dOp (dI0 fun i j => .int (i - j)) (dC (.int 0)) (dVar 1)) (dCons (dC (.int 30)) (dNil))))))))))))) (dNil))))) (dSkip)) bn4
noncomputable def bn2 : DS := dThen (dIf (dAnd (dB (dCB rIsiD (dCons (dVar 1) (dCons (dC (.ty "tuple")) (dNil))))) (dB (dOp (dI0 fun i j => .bl (decide (j < i))) (dCall sp__law_draw (dCons (dVar 0) (dCons (dC (.int 4)) (dNil)))) (dC (.int 0))))) (dThen (dSet 2 (dLst (dCons (dCB SC.rListD (dCons (dVar 1) (dNil))) (dCons (dOp dAddA (dVar 1) (dSl (dVar 1) (dPart0) (dPart (dC (.int 1))))) (dCons (dSl (dVar 1) (dPart (dC (.int 1))) (dPart0)) (dCons (dSlS (dVar 1) (dUn (dU fun i => .int (-i)) (dC (.int 1)))) (dCons (dOp dMulA (dVar 1) (dC (.int 7))) (dCons (dOp dAddA (dVar 1) (dTup (dCons (dC (.int 1)) (dNil)))) (dCons (dTup (dCons (dVar 1) (dNil))) (dNil)))))))))) (dRet (dCall sp__law_some (dCons (dVar 0) (dCons (dVar 2) (dNil)))))) (dSkip)) bn3
theorem bt_c {m n : Nat} {d : D} (h1 : okT d = true := by decide +kernel) (h2 : bulkD d ≤ 3000 := by decide +kernel) (h3 : depD d ≤ 45 := by decide +kernel) (h4 : (noC d || noL d) = true := by decide +kernel) : Bt m n d :=
  ⟨h1, by omega, by omega, by simpa only [Bool.or_eq_true] using h4⟩
theorem bn4_go {nx : DV → OH → Prop} {kk : D → OH → Prop} {O : OH} {p : Addr} {h : List D} {d x y : Option D} {m n : Nat} (hO : O p = some h) (hh : HandOk h) (hk : ∀ d' h', Bt m n d' → HandOk h' → kk d' (oset O p h')) : bn4 { nx := nx, rt := kk } [some (.own p), d, x, y] O := by
  unfold bn4
  walk_at "sc"
  refine ⟨s3, s3, ⟨by decide, by decide, by decide⟩, s3, p, h, .int 0, 0, 0, rfl, hO, hh, by decide +kernel, by decide +kernel, by decide +kernel, by decide +kernel, fun z h1 z1 z2 z3 z4 hh1 => ?_⟩
  refine ⟨s3, s3, s3, s3, s3, s3, s3, p, h1, _, _, rfl, oset_same, hh1, .inl rfl, by simp, by simp, fun u hu h2 hh2 => ?_⟩
  rw [oset_oset]
  refine hk _ h2 ?_ hh2
  simp only [List.mem_cons, List.not_mem_nil, or_false] at hu
  rcases hu with rfl | rfl | rfl | rfl | rfl | rfl | rfl | rfl | rfl | rfl | rfl | rfl | rfl | rfl | rfl | rfl | rfl | rfl
  · exact bt_c
  · exact bt_c
  · exact bt_c
  · exact bt_c
  · exact bt_c
  · exact bt_c
  · exact bt_c
  · exact bt_c
  · exact bt_c
  · exact bt_c
  · exact bt_c
  · exact bt_c
  · exact bt_c
  · exact bt_c
  · exact bt_c
  · exact ⟨z1, by omega, by omega, .inl z2⟩
  · exact bt_c
  · exact bt_c
theorem bn3_go {nx : DV → OH → Prop} {kk : D → OH → Prop} {O : OH} {p : Addr} {h : List D} {d : D} {x y : Option D} {m n : Nat} (hO : O p = some h) (hh : HandOk h) (hd : smT d = true) (hk : ∀ d' h', Bt m n d' → HandOk h' → kk d' (oset O p h')) : bn3 { nx := nx, rt := kk } [some (.own p), some d, x, y] O := by
  unfold bn3
  walk_at "sc"
  cases d <;> first | (simp [smT] at hd; done) | skip
  · rename_i i
    simp only [smT, Bool.and_eq_true, decide_eq_true_eq] at hd
    have t1 : isTy "int" "int" = true := by decide
    refine ⟨by simp, ?_⟩
    dsimp only
    rw [t1]
    refine ⟨p, h, 4, rfl, hO, hh, by decide, by decide, fun z h1 z0 z1 hh1 => ?_⟩
    by_cases zz : 0 < z
    · simp only [decide_eq_true zz]
      refine ⟨s3, p, h1, _, _, rfl, oset_same, hh1, .inl rfl, by simp, by simp, fun u hu h2 hh2 => ?_⟩
      rw [oset_oset]
      refine hk _ h2 ?_ hh2
      have sm : ∀ j : Int, j.natAbs ≤ 10000000 → Bt m n (.int j) := fun j hj => bt_int (Nat.lt_of_le_of_lt hj (by decide))
      simp only [List.mem_cons, List.not_mem_nil, or_false] at hu
      rcases hu with rfl | rfl | rfl | rfl | rfl | rfl | rfl | rfl | rfl | rfl | rfl
      · exact sm _ (by omega)
      · exact sm _ (by omega)
      · exact sm _ (by omega)
      · exact sm _ (by omega)
      · exact sm _ (by omega)
      · exact sm _ (by omega)
      · exact sm _ (by omega)
      · exact bt_c
      · exact bt_c
      · exact sm _ (by omega)
      · exact sm _ (by omega)
    · simp only [decide_eq_false zz]
      exact bn4_go oset_same hh1 fun d' h' hb hh' => by rw [oset_oset]; exact hk d' h' hb hh'
  · refine ⟨by simp, ?_⟩
    exact bn4_go hO hh hk
  · refine ⟨by simp, ?_⟩
    exact bn4_go hO hh hk
theorem bn2_no {nx : DV → OH → Prop} {kk : D → OH → Prop} {O : OH} {p : Addr} {h : List D} {d : D} {x y : Option D} {m n : Nat} (hO : O p = some h) (hh : HandOk h) (hd : smT d = true) (hx : ∀ xs, d ≠ .tup xs) (hk : ∀ d' h', Bt m n d' → HandOk h' → kk d' (oset O p h')) : bn2 { nx := nx, rt := kk } [some (.own p), some d, x, y] O := by
  unfold bn2
  walk_at "sc"
  cases d <;> first | (simp [smT] at hd; done) | skip
  · refine ⟨by simp, ?_⟩
    exact bn3_go hO hh hd hk
  · refine ⟨by simp, ?_⟩
    exact bn3_go hO hh hd hk
  · exact absurd rfl (hx _)
theorem bn2_go {nx : DV → OH → Prop} {kk : D → OH → Prop} {O : OH} {p : Addr} {h : List D} {xs : List D} {x y : Option D} {m n : Nat} (hO : O p = some h) (hh : HandOk h) (hd : smT (.tup xs) = true) (hb : bulkD (.tup xs) ≤ m) (hm : m ≤ 1000) (hn : depD (.tup xs) ≤ n + 1) (hk : ∀ d' h', Bt m (n + 1) d' → HandOk h' → kk d' (oset O p h')) : bn2 { nx := nx, rt := kk } [some (.own p), some (.tup xs), x, y] O := by
  have L := sm_ls hd hb hn
  have len := len_bulk xs
  have lb := L.b
  have t1 : isTy "tuple" "tuple" = true := by decide
  unfold bn2
  walk_at "sc"
  rw [t1]
  refine ⟨by simp, p, h, 4, rfl, hO, hh, by decide, by decide, fun z h1 z0 z1 hh1 => ?_⟩
  have hk1 : ∀ d' h', Bt m (n + 1) d' → HandOk h' → kk d' (oset (oset O p h1) p h') := fun d' h' hb hh' => by rw [oset_oset]; exact hk d' h' hb hh'
  by_cases zz : 0 < z
  · simp only [decide_eq_true zz]
    have c1 : cutA xs none (some 1) = xs.take 1 := cut_take (n := 1) (i := 1) rfl
    have c2 : cutA xs (some 1) none = xs.drop 1 := cut_drop (n := 1) (i := 1) rfl
    have c3 : (bif (-1 : Int) == 1 then xs else xs.reverse) = xs.reverse := rfl
    have sp : Ls m n (xs.take 1 ++ xs.drop 1) := by rw [List.take_append_drop]; exact L
    rw [c1, c2, c3]
    refine ⟨small_len (by rw [List.length_take]; omega), by simp, ⟨by omega, by decide, by decide⟩, s3, small_len (by omega), s3, s3, p, h1, _, _, rfl, oset_same, hh1, .inl rfl, by simp, by simp, fun u hu h2 hh2 => ?_⟩
    refine hk1 _ h2 ?_ hh2
    simp only [List.mem_cons, List.not_mem_nil, or_false] at hu
    have o1 : Ls 1 n [D.int 1] := Ls.one (b := 0) (by decide +kernel) rfl rfl (by decide +kernel) (by simp [depD])
    rcases hu with rfl | rfl | rfl | rfl | rfl | rfl | rfl
    · exact L.btL (by omega) (by omega)
    · exact (L.app sp.left).bt (by omega) (by omega)
    · exact sp.right.bt (by omega) (by omega)
    · exact L.rev.bt (by omega) (by omega)
    · have e : (List.replicate (Int.toNat 7) xs).flatten = xs ++ (xs ++ (xs ++ (xs ++ (xs ++ (xs ++ (xs ++ [])))))) := rfl
      rw [e]
      exact (L.app (L.app (L.app (L.app (L.app (L.app (L.app Ls.nil))))))).bt (by omega) (by omega)
    · exact (L.app o1).bt (by omega) (by omega)
    · have sm := sm_ok _ hd
      exact (Ls.one (b := m) (k := n + 1) sm.1 sm.2.1 sm.2.2 hb hn).bt (by omega) (by omega)
  · simp only [decide_eq_false zz]
    exact bn3_go oset_same hh1 hd hk1
theorem bent_at {m n : Nat} {xs ys : List D} {u v : D} (hd : smT (.tup (xs ++ u :: ys)) = true) (hb : bulkD (.tup (xs ++ u :: ys)) ≤ m) (hn : depD (.tup (xs ++ u :: ys)) ≤ n + 1) (B : Bt (bulkD u) n v) : Bt m (n + 1) (.tup (xs ++ [v] ++ ys)) := by
  have hu : smTs (xs ++ u :: ys) = true := by simpa only [smT] using hd
  rw [smTs_app] at hu
  simp only [smTs, Bool.and_eq_true] at hu
  have ox := sm_oks xs hu.1
  have oy := sm_oks ys hu.2.2
  simp only [bulkD] at hb
  simp only [depD] at hn
  rw [bulk_app] at hb
  rw [dep_app] at hn
  simp only [bulkDs] at hb
  simp only [depDs] at hn
  obtain ⟨b1, b2, b3, b4⟩ := B
  refine ⟨?_, ?_, ?_, ?_⟩
  · simp only [okT]
    rw [okTs_app, okTs_app, ox.1, oy.1]
    simp [okTs, b1]
  · simp only [bulkD]
    rw [bulk_app, bulk_app]
    simp only [bulkDs]; omega
  · simp only [depD]
    rw [dep_app, dep_app]
    simp only [depDs]; omega
  · simp only [noC, noL]
    rw [noCs_app, noCs_app, noLs_app, noLs_app, ox.2.1, ox.2.2, oy.2.1, oy.2.2]
    simpa [noCs, noLs] using b4
theorem rd__law_bent (n : Nat) : ∀ ds O (kk : D → OH → Prop), sp__law_bent (n + 1) ds O kk → bd__law_bent n { nx := fun _ O' => kk .non O', rt := kk } (startD ["hand", "thing", "some", "at"] ds) O := by
  rintro ds O kk ⟨p, h, d, m, rfl, hO, hh, hd, hb, hm, hn, hk⟩
  unfold bd__law_bent
  show dThen _ bn2 _ _ _
  walk_at "sc"
  cases d <;> first | (simp [smT] at hd; done) | skip
  · refine ⟨by simp, ?_⟩
    exact bn2_no hO hh hd (fun _ => D.noConfusion) hk
  · refine ⟨by simp, ?_⟩
    exact bn2_no hO hh hd (fun _ => D.noConfusion) hk
  · rename_i xs
    have t1 : isTy "tuple" "tuple" = true := by decide
    dsimp only
    rw [t1]
    refine ⟨by simp, ?_⟩
    dsimp only
    obtain ⟨k, rfl⟩ : ∃ k, n = k + 1 := by
      cases n with
      | zero => simp only [depD] at hn; omega
      | succ k => exact ⟨k, rfl⟩
    by_cases z : (0 : Int) < xs.length
    · simp only [decide_eq_true z]
      refine ⟨p, h, 5, rfl, hO, hh, by decide, by decide, fun v h1 v0 v1 hh1 => ?_⟩
      have hk1 : ∀ d' h', Bt m (k + 1) d' → HandOk h' → kk d' (oset (oset O p h1) p h') := fun d' h' hb hh' => by rw [oset_oset]; exact hk d' h' hb hh'
      by_cases zz : 0 < v
      · simp only [decide_eq_true zz]
        have lm : xs.length ≤ 1000 := by
          have := len_bulk xs
          simp only [bulkD] at hb
          omega
        refine ⟨p, h1, _, rfl, oset_same, hh1, z, by omega, fun i h2 i0 i1 hh2 => ?_⟩
        obtain ⟨j, rfl⟩ := Int.eq_ofNat_of_zero_le i0
        have hj : j < xs.length := by omega
        have ex : xs = xs.take j ++ xs[j] :: xs.drop (j + 1) := by
          rw [← List.drop_eq_getElem_cons hj, List.take_append_drop]
        have hat : atI xs (j : Int) = some xs[j] := atI_in (n := j) (by omega) (List.getElem?_eq_getElem hj)
        have c1 : cutA xs none (some (j : Int)) = xs.take j := cut_take rfl
        have c2 : cutA xs (some ((j : Int) + 1)) none = xs.drop (j + 1) := cut_drop (by omega)
        show (match atI xs (j : Int) with
          | some d => _
          | none => _)
        rw [hat, c1]
        dsimp only
        rw [c2]
        have l1 : (xs.take j).length ≤ 1000 := by rw [List.length_take]; omega
        have l2 : (xs.drop (j + 1)).length ≤ 1000 := by rw [List.length_drop]; omega
        have hd' := hd
        have hb' := hb
        have hn' := hn
        rw [ex] at hd' hb' hn'
        have hu : smTs (xs.take j ++ xs[j] :: xs.drop (j + 1)) = true := by simpa only [smT] using hd'
        rw [smTs_app] at hu
        simp only [smTs, Bool.and_eq_true] at hu
        have hbu : bulkD xs[j] ≤ m ∧ depD xs[j] ≤ k := by
          have a := hb'
          have b := hn'
          simp only [bulkD] at a
          simp only [depD] at b
          rw [bulk_app] at a
          rw [dep_app] at b
          simp only [bulkDs] at a
          simp only [depDs] at b
          constructor <;> omega
        refine ⟨p, h2, xs[j], bulkD xs[j], rfl, oset_same, hh2, hu.2.1, Nat.le_refl _, by omega, hbu.2, fun v h3 B hh3 => ?_⟩
        refine ⟨s3, small_len (by omega), small_len (by simp only [List.length_append, List.length_cons, List.length_nil]; omega), ?_⟩
        have := hk _ h3 (bent_at hd' hb' hn' B) hh3
        rw [oset_oset, oset_oset]
        exact this
      · simp only [decide_eq_false zz]
        exact bn2_go oset_same hh1 hd hb hm hn hk1
    · simp only [decide_eq_false z]
      exact bn2_go hO hh hd hb hm hn hk
end Lk17
namespace Lk17
open PySem PySem.Spec PyProof.Rows L2 SC
open Lk19 (Box Area W pairD boxD areaD rowD okS okB okA okK okN betw tupB spanB spansB boxB areaB oneB wishB items brk okR okP inArea pl plL wds wdsO wdsK plL_mem plL_of)
variable [PlC] [XCx]
local macro_rules | `(tactic| walk_at "sc") => `(tactic| simp only [dThen, dSet, dRet, dCall, dCons, dNil, dVar, dC, dCB, dComp, dZip, dSeq, dOp, dIf, dB, dIfE, dNot, dAnd, dOr, dAndV, dOrV, dNotV, dSkip, dExpr, dFor, dApp, dTup, dLst, dLstO, dUn, dPar, dPar3, dAsg, dSetIx, dSl, dPart, dPart0, dRng1, dRng2, dZip3, dEnum, dEnumT, dZipS, dGetT, dFld, dMake, dMulA, dChain, dNm, dTg, dGCons, dGNil, dYes, dI0, dI, dU, dEqS, eqS, dIsN, isNon, dAddA, dAddL, dAddLO, dMulT, dSlS, dCompO, dIn, rIxD, rLenD, rLenS, SC.rListD, rReprD, rNeSame, rBools, rAbsD, rIntD, rTwo, rTupD, rTupX, rIsiD, tyD,
  startD, List.map_cons, List.map_nil, List.length_cons, List.length_nil, Nat.reduceAdd, Nat.reduceSub, List.replicate_succ, List.replicate_zero, List.cons_append, List.nil_append, List.append_nil,
  List.getElem?_cons_zero, List.getElem?_cons_succ, List.set_cons_zero, List.set_cons_succ, wipeD, atI_0, atI_1, atI_2, atI_3, atI_4, oset_same, oset_oset, true_and, and_true, ix5])
noncomputable def u1 : DS := dSet 3 (dOp dAddA (dC (.int 1)) (dCall sp__law_draw (dCons (dVar 1) (dCons (dC (.int 3)) (dNil)))))
noncomputable def u2 : DS := dSet 4 (dCall sp__law_plant (dCons (dVar 3) (dNil)))
noncomputable def u3 : DS := dSet 5 (dUn rTupD (dComp (dRng1 (dCall sp__law_draw (dCons (dVar 1) (dCons (dC (.int 5)) (dNil))))) (dNm 8) (dYes) (dCall sp__law_wish (dCons (dVar 1) (dCons (dVar 3) (dNil)))) [8]))
noncomputable def u4 : DS := dSet 6 (dLst (dCons (dVar 5) (dCons (dOp dAddA (dVar 5) (dOp dMulA (dTup (dCons (dCall sp__law_wish (dCons (dVar 1) (dCons (dVar 3) (dNil)))) (dNil))) (dC (.int 2)))) (dCons (dCall sp__law_wish (dCons (dVar 1) (dCons (dVar 3) (dNil)))) (dCons (dCB rListD (dCons (dVar 5) (dNil))) (dNil))))))
noncomputable def u5 : DS := dSet 6 (dOp dAddA (dOp dAddA (dVar 6) (dComp (dRng1 (dC (.int 8))) (dNm 8) (dYes) (dCall (sp__law_bent 7) (dCons (dVar 1) (dCons (dVar 5) (dNil)))) [8])) (dLst (dCons (dTup (dCons (dCall sp__law_wish (dCons (dVar 1) (dCons (dOp dAddA (dC (.int 1)) (dCall sp__law_draw (dCons (dVar 1) (dCons (dC (.int 3)) (dNil))))) (dNil)))) (dNil))) (dNil))))
noncomputable def u6 : DS := dFor (dSeq (dVar 6)) (dNm 7) (dThen (dPar 10 11 (dCons (dCall sp_are_wishes (dCons (dVar 4) (dCons (dVar 7) (dNil)))) (dCons (dCB rReprD (dCons (dVar 7) (dNil))) (dNil)))) (dIf (dOr (dNot (dB (dCB rIsiD (dCons (dVar 10) (dCons (dC (.ty "bool")) (dNil)))))) (dOr (dB (dOp (dEqS fun r => !r) (dVar 10) (dCall sp__law_are_wishes (dCons (dVar 7) (dCons (dVar 3) (dNil)))))) (dB (dOp (dEqS fun r => !r) (dCB rReprD (dCons (dVar 7) (dNil))) (dVar 11))))) (dRet (dC (.bl false))) (dSkip)))
noncomputable def u7 : DS := dFor (dRng1 (dC (.int 3))) (dNm 8) (dThen (dSet 9 (dCall sp__law_places (dCons (dVar 1) (dCons (dVar 3) (dCons (dCall sp__law_some (dCons (dVar 1) (dCons (dLst (dCons (dC (.int 0)) (dCons (dC (.int 1)) (dCons (dC (.int 5)) (dCons (dC (.int 12)) (dCons (dC (.int 40)) (dNil))))))) (dNil)))) (dNil)))))) (dThen (dPar 12 11 (dCons (dCall sp__law_due (dCons (dVar 5) (dCons (dVar 9) (dNil)))) (dCons (dCB rListD (dCons (dVar 9) (dNil))) (dNil)))) (dThen (dIf (dOr (dNot (dB (dCall sp__law_is (dCons (dCall sp_broken (dCons (dVar 5) (dCons (dUn rTupD (dVar 9)) (dNil)))) (dCons (dVar 12) (dNil)))))) (dNot (dB (dCall sp__law_is (dCons (dCall sp_broken (dCons (dVar 5) (dCons (dVar 9) (dNil)))) (dCons (dVar 12) (dNil))))))) (dRet (dC (.bl false))) (dSkip)) (dIf (dB (dOp rNeSame (dVar 9) (dVar 11))) (dRet (dC (.bl false))) (dSkip)))))
noncomputable def b6 : DS := dThen (dPar 10 11 (dCons (dCall sp_are_wishes (dCons (dVar 4) (dCons (dVar 7) (dNil)))) (dCons (dCB rReprD (dCons (dVar 7) (dNil))) (dNil)))) (dIf (dOr (dNot (dB (dCB rIsiD (dCons (dVar 10) (dCons (dC (.ty "bool")) (dNil)))))) (dOr (dB (dOp (dEqS fun r => !r) (dVar 10) (dCall sp__law_are_wishes (dCons (dVar 7) (dCons (dVar 3) (dNil)))))) (dB (dOp (dEqS fun r => !r) (dCB rReprD (dCons (dVar 7) (dNil))) (dVar 11))))) (dRet (dC (.bl false))) (dSkip))
noncomputable def b7 : DS := dThen (dSet 9 (dCall sp__law_places (dCons (dVar 1) (dCons (dVar 3) (dCons (dCall sp__law_some (dCons (dVar 1) (dCons (dLst (dCons (dC (.int 0)) (dCons (dC (.int 1)) (dCons (dC (.int 5)) (dCons (dC (.int 12)) (dCons (dC (.int 40)) (dNil))))))) (dNil)))) (dNil)))))) (dThen (dPar 12 11 (dCons (dCall sp__law_due (dCons (dVar 5) (dCons (dVar 9) (dNil)))) (dCons (dCB rListD (dCons (dVar 9) (dNil))) (dNil)))) (dThen (dIf (dOr (dNot (dB (dCall sp__law_is (dCons (dCall sp_broken (dCons (dVar 5) (dCons (dUn rTupD (dVar 9)) (dNil)))) (dCons (dVar 12) (dNil)))))) (dNot (dB (dCall sp__law_is (dCons (dCall sp_broken (dCons (dVar 5) (dCons (dVar 9) (dNil)))) (dCons (dVar 12) (dNil))))))) (dRet (dC (.bl false))) (dSkip)) (dIf (dB (dOp rNeSame (dVar 9) (dVar 11))) (dRet (dC (.bl false))) (dSkip))))
noncomputable def v1 : DS := dSet 9 (dCall sp__law_places (dCons (dVar 1) (dCons (dVar 3) (dCons (dCall sp__law_some (dCons (dVar 1) (dCons (dLst (dCons (dC (.int 0)) (dCons (dC (.int 1)) (dCons (dC (.int 5)) (dCons (dC (.int 12)) (dCons (dC (.int 40)) (dNil))))))) (dNil)))) (dNil)))))
noncomputable def v2 : DS := dPar 12 11 (dCons (dCall sp__law_due (dCons (dVar 5) (dCons (dVar 9) (dNil)))) (dCons (dCB rListD (dCons (dVar 9) (dNil))) (dNil)))
noncomputable def v3 : DS := dIf (dOr (dNot (dB (dCall sp__law_is (dCons (dCall sp_broken (dCons (dVar 5) (dCons (dUn rTupD (dVar 9)) (dNil)))) (dCons (dVar 12) (dNil)))))) (dNot (dB (dCall sp__law_is (dCons (dCall sp_broken (dCons (dVar 5) (dCons (dVar 9) (dNil)))) (dCons (dVar 12) (dNil))))))) (dRet (dC (.bl false))) (dSkip)
noncomputable def v4 : DS := dIf (dB (dOp rNeSame (dVar 9) (dVar 11))) (dRet (dC (.bl false))) (dSkip)
/-! ### what the wishes weigh -/
mutual
theorem pl_ok : ∀ d : D, okT d = true → pl d = true
  | .tup xs, h => by simp only [pl]; exact pl_oks xs (by simpa only [okT] using h)
  | .lst xs, h => by simp only [pl]; exact pl_oks xs (by simpa only [okT] using h)
  | .non, _ => by simp [pl]
  | .bl _, _ => by simp [pl]
  | .int _, _ => by simp [pl]
  | .str _, _ => by simp [pl]
  | .dct, _ => by simp [pl]
  | .ty _, h => by simp [okT] at h
  | .own _, h => by simp [okT] at h
  | .fz _, h => by simp [okT] at h
  | .obj _ _ _, h => by simp [okT] at h
theorem pl_oks : ∀ ds : List D, okTs ds = true → plL ds = true
  | [], _ => by simp [plL]
  | d :: ds, h => by
    simp only [okTs, Bool.and_eq_true] at h
    simp only [plL, Bool.and_eq_true]
    exact ⟨pl_ok d h.1, pl_oks ds h.2⟩
end
structure Sm (b n : Nat) (d : D) : Prop where
  s : smT d = true
  b : bulkD d ≤ b
  d : depD d ≤ n
theorem sm_list {b n : Nat} : ∀ {xs : List D}, (∀ x ∈ xs, Sm b n x) → smTs xs = true ∧ bulkDs xs ≤ xs.length * (b + 1) ∧ depDs xs ≤ n
  | [], _ => ⟨by simp [smTs], by simp [bulkDs], by simp [depDs]⟩
  | x :: xs, h => by
    obtain ⟨h1, h2, h3⟩ := h x (by simp)
    obtain ⟨q1, q2, q3⟩ := sm_list (xs := xs) fun y hy => h y (by simp [hy])
    refine ⟨by simp [smTs, h1, q1], ?_, by simp only [depDs]; omega⟩
    simp only [bulkDs, List.length_cons, Nat.add_mul]; omega
theorem sm_tup {b n m : Nat} {xs : List D} (h : ∀ x ∈ xs, Sm b n x) (hl : xs.length ≤ m) : Sm (m * (b + 1)) (n + 1) (.tup xs) := by
  obtain ⟨q1, q2, q3⟩ := sm_list h
  refine ⟨by simpa only [smT] using q1, ?_, by simp only [depD]; omega⟩
  simp only [bulkD]
  exact Nat.le_trans q2 (Nat.mul_le_mul_right _ hl)
theorem Sm.up {b n c m : Nat} {d : D} (h : Sm b n d) (h1 : b ≤ c) (h2 : n ≤ m) : Sm c m d := ⟨h.s, Nat.le_trans h.b h1, Nat.le_trans h.d h2⟩
theorem sm_int {i : Int} (h : -1000000 ≤ i ∧ i ≤ 1000000) : Sm 0 0 (.int i) := ⟨by simp [smT, h.1, h.2], by simp [bulkD], by simp [depD]⟩
theorem sm_pair {q : Int × Int} (h : okS 6 q) : Sm 2 1 (pairD q) := by
  obtain ⟨h1, h2, h3⟩ := h
  refine sm_tup (m := 2) (b := 0) (n := 0) (fun x hx => ?_) (by simp)
  simp only [List.mem_cons, List.not_mem_nil, or_false] at hx
  rcases hx with rfl | rfl <;> exact sm_int (by omega)
theorem sm_box {N : Nat} {b : Box} (h : okB 6 (N : Int) b) (hN : N ≤ 3) : Sm 9 2 (boxD b) := by
  refine sm_tup (m := 3) (b := 2) (n := 1) (fun x hx => ?_) (by have := h.1; rw [List.length_map]; omega)
  obtain ⟨q, hq, rfl⟩ := List.mem_map.mp hx
  exact sm_pair (h.2 q hq)
theorem sm_area {N : Nat} {a : Area} (h : okA 6 (N : Int) a) (hN : N ≤ 3) : Sm 60 3 (areaD a) := by
  refine sm_tup (m := 6) (b := 9) (n := 2) (fun x hx => ?_) (by have := h.1; rw [List.length_map]; omega)
  obtain ⟨q, hq, rfl⟩ := List.mem_map.mp hx
  exact sm_box (h.2 q hq) hN
theorem sm_word {x : Str} (h : smT (.str x) = true := by decide +kernel) (h2 : bulkD (.str x) ≤ 60 := by decide +kernel) : Sm 60 3 (.str x) := ⟨h, h2, by simp [depD]⟩
theorem sm_k {k : Int} (h : okK k) : Sm 60 3 (.int k) := (sm_int (by have := h.1; have := h.2; omega)).up (by decide) (by decide)
theorem sm_W {N : Nat} {w : W} (h : w.ok 6 (N : Int)) (hN : N ≤ 3) : Sm 244 4 w.d := by
  have go : ∀ xs : List D, (∀ x ∈ xs, Sm 60 3 x) → xs.length ≤ 4 → Sm 244 4 (.tup xs) := fun xs h hl => sm_tup (m := 4) (b := 60) (n := 3) h hl
  cases w with
  | never a =>
    refine go _ (fun x hx => ?_) (by simp)
    simp only [List.mem_cons, List.not_mem_nil, or_false] at hx
    rcases hx with rfl | rfl
    · exact sm_word
    · exact sm_area h hN
  | within a k =>
    refine go _ (fun x hx => ?_) (by simp)
    simp only [List.mem_cons, List.not_mem_nil, or_false] at hx
    rcases hx with rfl | rfl | rfl
    · exact sm_word
    · exact sm_area h.1 hN
    · exact sm_k h.2
  | answered a b k =>
    refine go _ (fun x hx => ?_) (by simp)
    simp only [List.mem_cons, List.not_mem_nil, or_false] at hx
    rcases hx with rfl | rfl | rfl | rfl
    · exact sm_word
    · exact sm_area h.1 hN
    · exact sm_area h.2.1 hN
    · exact sm_k h.2.2
  | ahead a b =>
    refine go _ (fun x hx => ?_) (by simp)
    simp only [List.mem_cons, List.not_mem_nil, or_false] at hx
    rcases hx with rfl | rfl | rfl
    · exact sm_word
    · exact sm_area h.1 hN
    · exact sm_area h.2 hN
  | again a k =>
    refine go _ (fun x hx => ?_) (by simp)
    simp only [List.mem_cons, List.not_mem_nil, or_false] at hx
    rcases hx with rfl | rfl | rfl
    · exact sm_word
    · exact sm_area h.1 hN
    · exact sm_k h.2
theorem ls_of {b n : Nat} {xs : List D} (h : ∀ x ∈ xs, Sm b n x) : Ls (xs.length * (b + 1)) n xs := by
  obtain ⟨q1, q2, q3⟩ := sm_list h
  obtain ⟨o1, o2, o3⟩ := sm_oks xs q1
  exact ⟨o1, o2, o3, q2, q3⟩
theorem Sm.bt {b n : Nat} {d : D} (h : Sm b n d) (h1 : b ≤ 10000) (h2 : n ≤ 52) : Bt 1000 7 d := by
  obtain ⟨o1, o2, o3⟩ := sm_ok d h.s
  exact ⟨o1, by have := h.b; omega, by have := h.d; omega, .inl o2⟩
theorem Bt.shw {d : D} (h : Bt 1000 7 d) : Shw d := ⟨h.ok, by have := h.bulk; omega, by have := h.dep; omega, h.lc⟩
/-! ### the break that is due -/
theorem fst_lt {ps : List Lk19.Row} {n : Nat} : ∀ (ws : List W) (j i : Nat), fstB ps n j ws = some i → i < j + ws.length
  | [], j, i, h => by simp [fstB] at h
  | w :: ws, j, i, h => by
    unfold fstB at h
    cases e : brk w ps n with
    | true => rw [e] at h; simp at h; simp only [List.length_cons]; omega
    | false =>
      rw [e] at h
      have := fst_lt ws (j + 1) i h
      simp only [List.length_cons]; omega
theorem due_lt {ws : List W} {ps : List Lk19.Row} : ∀ (ns : List Nat) (n j : Nat), dueL ws ps ns = some (n, j) → n ∈ ns ∧ j < ws.length
  | [], n, j, h => by simp [dueL] at h
  | m :: ns, n, j, h => by
    unfold dueL at h
    cases e : fstB ps m 0 ws with
    | some i =>
      rw [e] at h
      cases h
      have := fst_lt ws 0 _ e
      exact ⟨by simp, by omega⟩
    | none =>
      rw [e] at h
      have := due_lt ns n j h
      exact ⟨by simp [this.1], this.2⟩
theorem due_ok {ws : List W} {ps : List Lk19.Row} (h1 : ws.length ≤ 10) (h2 : ps.length ≤ 1000) : okDue (due ws ps) := by
  unfold due
  cases e : dueL ws ps (List.range ps.length) with
  | none => trivial
  | some u =>
    obtain ⟨n, j⟩ := u
    have := due_lt _ _ _ e
    have := List.mem_range.mp this.1
    exact ⟨by omega, by omega⟩
/-! ### the law -/
def Q0 (S : D) : DV → OH → Prop := fun e O => ∃ (p : Addr) (h : List D) (x2 x3 x4 x5 x6 x7 x8 x9 x10 x11 x12 : Option D), HandOk h ∧ O p = some h ∧ e = [some S, some (.own p), x2, x3, x4, x5, x6, x7, x8, x9, x10, x11, x12]
def Q1 (S : D) : DV → OH → Prop := fun e O => ∃ (p : Addr) (h : List D) (N : Nat) (x2 x4 x5 x6 x7 x8 x9 x10 x11 x12 : Option D), HandOk h ∧ O p = some h ∧ (1 ≤ N ∧ N ≤ 3) ∧ e = [some S, some (.own p), x2, some (.int (N : Nat)), x4, x5, x6, x7, x8, x9, x10, x11, x12]
def Q2 (S : D) : DV → OH → Prop := fun e O => ∃ (p : Addr) (h : List D) (N : Nat) (x2 x5 x6 x7 x8 x9 x10 x11 x12 : Option D), HandOk h ∧ O p = some h ∧ (1 ≤ N ∧ N ≤ 3) ∧ e = [some S, some (.own p), x2, some (.int (N : Nat)), some (plantD N), x5, x6, x7, x8, x9, x10, x11, x12]
def okV (N : Nat) (ws : List W) : Prop := ws.length ≤ 4 ∧ ∀ w ∈ ws, w.ok 6 (N : Int)
def Q3 (S : D) : DV → OH → Prop := fun e O => ∃ (p : Addr) (h : List D) (N : Nat) (ws : List W) (x2 x6 x7 x8 x9 x10 x11 x12 : Option D), HandOk h ∧ O p = some h ∧ (1 ≤ N ∧ N ≤ 3) ∧ okV N ws ∧ e = [some S, some (.own p), x2, some (.int (N : Nat)), some (plantD N), some (.tup (ws.map W.d)), x6, x7, x8, x9, x10, x11, x12]
def okH (n : Nat) (th : List D) : Prop := th.length ≤ n ∧ ∀ t ∈ th, Bt 1000 7 t
def Q4 (S : D) (n : Nat) : DV → OH → Prop := fun e O => ∃ (p : Addr) (h : List D) (N : Nat) (ws : List W) (th : List D) (x2 x7 x8 x9 x10 x11 x12 : Option D), HandOk h ∧ O p = some h ∧ (1 ≤ N ∧ N ≤ 3) ∧ okV N ws ∧ okH n th ∧ e = [some S, some (.own p), x2, some (.int (N : Nat)), some (plantD N), some (.tup (ws.map W.d)), some (.lst th), x7, x8, x9, x10, x11, x12]
theorem u1_go {S : D} {k : DEnds} (hk : ∀ e O, Q1 S e O → k.nx e O) : ∀ e O, Q0 S e O → u1 k e O := by
  rintro e O ⟨p, h, x2, x3, x4, x5, x6, x7, x8, x9, x10, x11, x12, hh, hO, rfl⟩
  unfold u1
  walk_at "sc"
  refine ⟨p, h, 3, rfl, hO, hh, by decide, by decide, fun n h1 n0 n1 hh1 => ?_⟩
  obtain ⟨j, rfl⟩ := Int.eq_ofNat_of_zero_le n0
  refine hk _ _ ⟨p, h1, 1 + j, x2, x4, x5, x6, x7, x8, x9, x10, x11, x12, hh1, oset_same, by omega, ?_⟩
  rw [Int.natCast_add]; rfl
theorem u2_go {S : D} {k : DEnds} (hk : ∀ e O, Q2 S e O → k.nx e O) : ∀ e O, Q1 S e O → u2 k e O := by
  rintro e O ⟨p, h, N, x2, x4, x5, x6, x7, x8, x9, x10, x11, x12, hh, hO, hN, rfl⟩
  unfold u2
  walk_at "sc"
  exact ⟨N, rfl, hN.1, hN.2, hk _ _ ⟨p, h, N, x2, x5, x6, x7, x8, x9, x10, x11, x12, hh, hO, hN, rfl⟩⟩
theorem u3_go {S : D} {k : DEnds} (hk : ∀ e O, Q3 S e O → k.nx e O) : ∀ e O, Q2 S e O → u3 k e O := by
  rintro e O ⟨p, h, N, x2, x5, x6, x7, x8, x9, x10, x11, x12, hh, hO, hN, rfl⟩
  unfold u3
  generalize hP : plantD N = PL
  walk_at "sc"
  refine ⟨p, h, 5, rfl, hO, hh, by decide, by decide, fun v h1 v0 v1 hh1 => ?_⟩
  refine ⟨⟨by omega, by omega⟩, small_len (by rw [rngD_length]; omega), ?_⟩
  refine dAcc_inv (fun O2 => ∃ h, HandOk h ∧ O2 p = some h) (fun y => ∃ w : W, y = w.d ∧ w.ok 6 (N : Int)) _ _ _ ?_ ⟨h1, hh1, oset_same⟩ ?_
  · rintro d _ O2 k' ⟨h6, hh6, s0⟩ hk'
    walk_at "sc"
    exact ⟨p, h6, (N : Int), rfl, s0, hh6, by omega, by omega, fun d h' hd hh' => hk' _ _ hd ⟨h', hh', oset_same⟩⟩
  · rintro ys O2 hr hl ⟨h6, hh6, s0⟩
    obtain ⟨ws, rfl, hl3, hb⟩ := all_map hr
    rw [List.nil_append]
    rw [rngD_length] at hl
    exact hk _ _ ⟨p, h6, N, ws, x2, x6, x7, x8, x9, x10, x11, x12, hh6, s0, hN, ⟨by omega, hb⟩, by rw [hP]⟩
theorem u4_go {S : D} {k : DEnds} (hk : ∀ e O, Q4 S 4 e O → k.nx e O) : ∀ e O, Q3 S e O → u4 k e O := by
  rintro e O ⟨p, h, N, ws, x2, x6, x7, x8, x9, x10, x11, x12, hh, hO, hN, hw, rfl⟩
  have lw : ∀ x ∈ ws.map W.d, Sm 244 4 x := fun x hx => by obtain ⟨w, hw', rfl⟩ := List.mem_map.mp hx; exact sm_W (hw.2 w hw') hN.2
  have hl : (ws.map W.d).length ≤ 4 := by rw [List.length_map]; exact hw.1
  unfold u4
  generalize hP : plantD N = PL
  generalize hD : ws.map W.d = wd at lw hl
  walk_at "sc"
  refine ⟨p, h, (N : Int), rfl, hO, hh, by omega, by omega, fun d h1 ⟨w1, e1, ow1⟩ hh1 => ?_⟩
  subst e1
  refine ⟨small_len (by simp), ⟨by simp, by decide, by decide⟩, ?_⟩
  have fl : (List.replicate (Int.toNat 2) [w1.d]).flatten = [w1.d, w1.d] := rfl
  rw [fl]
  refine ⟨small_len (by simp only [List.length_cons, List.length_nil]; omega), p, h1, (N : Int), rfl, oset_same, hh1, by omega, by omega, fun d h2 ⟨w2, e2, ow2⟩ hh2 => ?_⟩
  subst e2
  refine ⟨s3, hk _ _ ⟨p, h2, N, ws, _, x2, x7, x8, x9, x10, x11, x12, hh2, oset_same, hN, hw, ⟨?_, fun t ht => ?_⟩, by rw [hP, hD]⟩⟩
  · simp
  · have s1 := sm_W ow1 hN.2
    have s2 := sm_W ow2 hN.2
    simp only [List.mem_cons, List.not_mem_nil, or_false] at ht
    rcases ht with rfl | rfl | rfl | rfl
    · exact (sm_tup (m := 4) lw hl).bt (by decide) (by decide)
    · refine (sm_tup (b := 244) (n := 4) (m := 6) (fun x hx => ?_) (by simp only [List.length_append, List.length_cons, List.length_nil]; omega)).bt (by decide) (by decide)
      rcases List.mem_append.mp hx with hx | hx
      · exact lw x hx
      · simp only [List.mem_cons, List.not_mem_nil, or_false] at hx
        rcases hx with rfl | rfl <;> exact s1
    · exact s2.bt (by decide) (by decide)
    · exact (ls_of lw).btL (by omega) (by decide)
theorem u5_go {S : D} {k : DEnds} (hk : ∀ e O, Q4 S 20 e O → k.nx e O) : ∀ e O, Q4 S 4 e O → u5 k e O := by
  rintro e O ⟨p, h, N, ws, th, x2, x7, x8, x9, x10, x11, x12, hh, hO, hN, hw, ht, rfl⟩
  have lw : ∀ x ∈ ws.map W.d, Sm 244 4 x := fun x hx => by obtain ⟨w, hw', rfl⟩ := List.mem_map.mp hx; exact sm_W (hw.2 w hw') hN.2
  have hl : (ws.map W.d).length ≤ 4 := by rw [List.length_map]; exact hw.1
  have sw := sm_tup lw hl
  unfold u5
  generalize hP : plantD N = PL
  generalize hD : D.tup (ws.map W.d) = wd at sw
  walk_at "sc"
  refine ⟨⟨by decide, by decide⟩, s3, ?_⟩
  refine dAcc_inv (fun O2 => ∃ h, HandOk h ∧ O2 p = some h) (Bt 1000 7) _ _ _ ?_ ⟨h, hh, hO⟩ ?_
  · rintro d _ O2 k' ⟨h6, hh6, s0⟩ hk'
    walk_at "sc"
    exact ⟨p, h6, wd, 1000, rfl, s0, hh6, sw.s, Nat.le_trans sw.b (by decide), by decide, Nat.le_trans sw.d (by decide), fun d' h' hb hh' => hk' _ _ ⟨hb.ok, hb.bulk, Nat.le_trans hb.dep (by decide), hb.lc⟩ ⟨h', hh', oset_same⟩⟩
  · rintro ys O2 hr hl2 ⟨h6, hh6, s0⟩
    rw [List.nil_append]
    rw [rngD_length] at hl2
    have l8 : ys.length = 8 := hl2
    have l4 := ht.1
    refine ⟨small_len (by omega), p, h6, 3, rfl, s0, hh6, by decide, by decide, fun n h7 n0 n1 hh7 => ?_⟩
    obtain ⟨j, rfl⟩ := Int.eq_ofNat_of_zero_le n0
    refine ⟨p, h7, 1 + (j : Int), rfl, oset_same, hh7, by omega, by omega, fun d h8 ⟨w, e1, ow⟩ hh8 => ?_⟩
    subst e1
    have sv : Sm 244 4 w.d := sm_W (N := 1 + j) (by rw [Int.natCast_add]; exact ow) (by omega)
    refine ⟨s3, s3, small_len (by simp only [List.length_append, List.length_cons, List.length_nil]; omega), ?_⟩
    refine hk _ _ ⟨p, h8, N, ws, _, x2, x7, x8, x9, x10, x11, x12, hh8, oset_same, hN, hw, ⟨?_, fun t ht' => ?_⟩, by rw [hP, hD]⟩
    · simp only [List.length_append, List.length_cons, List.length_nil]; omega
    · rcases List.mem_append.mp ht' with ht' | ht'
      · rcases List.mem_append.mp ht' with ht' | ht'
        · exact ht.2 t ht'
        · exact hr t ht'
      · rw [List.mem_singleton.mp ht']
        exact (sm_tup (b := 244) (n := 4) (m := 1) (fun x hx => by rw [List.mem_singleton.mp hx]; exact sv) (by simp)).bt (by decide) (by decide)
theorem loop6 {k : DEnds} {O : OH} {N : Nat} {s a b c d f x9 x12 : Option D} (hN : 1 ≤ N ∧ N ≤ 3) (hk : ∀ x7 x10 x11, k.nx [s, a, b, some (.int (N : Nat)), some (plantD N), c, d, x7, f, x9, x10, x11, x12] O) : ∀ (l : List D) (x7 x10 x11 : Option D), (∀ t ∈ l, Bt 1000 7 t) →
    dLoop (dNm 7) b6 k l [s, a, b, some (.int (N : Nat)), some (plantD N), c, d, x7, f, x9, x10, x11, x12] O
  | [], x7, x10, x11, _ => by unfold dLoop; exact hk _ _ _
  | t :: l, x7, x10, x11, hl => by
    have ht := hl t (by simp)
    have ih := fun x10 x11 => loop6 hN hk l (some t) x10 x11 fun u hu => hl u (by simp [hu])
    have pt := pl_ok _ ht.ok
    unfold dLoop
    show b6 _ [s, a, b, some (.int (N : Nat)), some (plantD N), c, d, some t, f, x9, x10, x11, x12] O
    unfold b6
    walk_at "sc"
    refine ⟨N, t, rfl, hN.1, hN.2, pt, t, rfl, ht.shw, by simp, t, (N : Int), rfl, pt, ?_⟩
    simp only [decide_true, Bool.not_true]
    refine ⟨t, rfl, ht.shw, ?_⟩
    simp only [strEq_self, Bool.not_true]
    exact ih _ _
theorem u6_go {S : D} {k : DEnds} (hk : ∀ e O, Q3 S e O → k.nx e O) : ∀ e O, Q4 S 20 e O → u6 k e O := by
  rintro e O ⟨p, h, N, ws, th, x2, x7, x8, x9, x10, x11, x12, hh, hO, hN, hw, ht, rfl⟩
  show dLoop (dNm 7) b6 k th _ O
  exact loop6 hN (fun x7 x10 x11 => hk _ _ ⟨p, h, N, ws, _, _, x7, x8, x9, x10, x11, x12, hh, hO, hN, hw, rfl⟩) th _ _ _ ht.2
theorem v1_go {S : D} {k : DEnds} {p : Addr} {N : Nat} {ws : List W} {x2 x6 x7 x8 x9 x10 x11 x12 : Option D} (hN : 1 ≤ N ∧ N ≤ 3) {O : OH} {h : List D} (hh : HandOk h) (hO : O p = some h)
    (hk : ∀ ps h, okP (N : Int) ps → HandOk h → k.nx [some S, some (.own p), x2, some (.int (N : Nat)), some (plantD N), some (.tup (ws.map W.d)), x6, x7, x8, some (.lst (ps.map rowD)), x10, x11, x12] (oset O p h)) :
    v1 k [some S, some (.own p), x2, some (.int (N : Nat)), some (plantD N), some (.tup (ws.map W.d)), x6, x7, x8, x9, x10, x11, x12] O := by
  unfold v1
  generalize hP : plantD N = PL at hk ⊢
  generalize hD : D.tup (ws.map W.d) = wd at hk ⊢
  walk_at "sc"
  refine ⟨s3, p, h, _, _, rfl, hO, hh, .inl rfl, by simp, by simp, fun m hm h1 hh1 => ?_⟩
  have : ∃ j : Int, m = .int j ∧ 0 ≤ j ∧ j ≤ 100 := by
    simp only [List.mem_cons, List.not_mem_nil, or_false] at hm
    rcases hm with rfl | rfl | rfl | rfl | rfl <;> exact ⟨_, rfl, by decide, by decide⟩
  obtain ⟨j, rfl, j0, j1⟩ := this
  refine ⟨p, h1, (N : Int), j, rfl, oset_same, hh1, by omega, by omega, j0, j1, fun ps h2 op hh2 => ?_⟩
  rw [oset_oset]
  exact hk ps h2 op hh2
theorem v2_go {k : DEnds} {N : Nat} {ws : List W} {ps : List Lk19.Row} {s a b c x6 x7 x8 x10 x11 x12 : Option D} {O : OH} (hN : 1 ≤ N ∧ N ≤ 3) (hw : okV N ws) (hp : okP (N : Int) ps)
    (hk : k.nx [s, a, b, some (.int (N : Nat)), c, some (.tup (ws.map W.d)), x6, x7, x8, some (.lst (ps.map rowD)), x10, some (.lst (ps.map rowD)), some (dueD (due ws ps))] O) :
    v2 k [s, a, b, some (.int (N : Nat)), c, some (.tup (ws.map W.d)), x6, x7, x8, some (.lst (ps.map rowD)), x10, x11, x12] O := by
  unfold v2
  generalize hD : D.tup (ws.map W.d) = wd at hk ⊢
  generalize hR : ps.map rowD = rd at hk ⊢
  walk_at "sc"
  exact ⟨6, (N : Int), ws, ps, by rw [hD, hR], ⟨by decide, by decide, by omega, by omega⟩, ⟨Nat.le_trans hw.1 (by decide), hw.2⟩, hp, hk⟩
theorem v3_go {k : DEnds} {N : Nat} {ws : List W} {ps : List Lk19.Row} {s a b c x6 x7 x8 x10 x11 : Option D} {O : OH} (hN : 1 ≤ N ∧ N ≤ 3) (hw : okV N ws) (hp : okP (N : Int) ps)
    (hk : k.nx [s, a, b, some (.int (N : Nat)), c, some (.tup (ws.map W.d)), x6, x7, x8, some (.lst (ps.map rowD)), x10, x11, some (dueD (due ws ps))] O) :
    v3 k [s, a, b, some (.int (N : Nat)), c, some (.tup (ws.map W.d)), x6, x7, x8, some (.lst (ps.map rowD)), x10, x11, some (dueD (due ws ps))] O := by
  have ow : okWs 6 (N : Int) ws := ⟨Nat.le_trans hw.1 (by decide), hw.2⟩
  have oN : okN 6 (N : Int) := ⟨by decide, by decide, by omega, by omega⟩
  have od : okDue (due ws ps) := due_ok ow.1 hp.2.1
  unfold v3
  generalize hU : due ws ps = u at hk od ⊢
  generalize hD : D.tup (ws.map W.d) = wd at hk ⊢
  generalize hR : ps.map rowD = rd at hk ⊢
  walk_at "sc"
  refine ⟨6, (N : Int), ws, ps, .tup rd, by rw [hD], .inl (by rw [hR]), oN, ow, hp, u, by rw [hU], od, ?_⟩
  refine ⟨6, (N : Int), ws, ps, .lst rd, by rw [hD], .inr (by rw [hR]), oN, ow, hp, u, by rw [hU], od, ?_⟩
  exact hk
theorem v4_go {k : DEnds} {N : Nat} {ws : List W} {ps : List Lk19.Row} {s a b c d x6 x7 x8 x10 x12 : Option D} {O : OH}
    (hk : k.nx [s, a, b, c, d, some (.tup (ws.map W.d)), x6, x7, x8, some (.lst (ps.map rowD)), x10, some (.lst (ps.map rowD)), x12] O) :
    v4 k [s, a, b, c, d, some (.tup (ws.map W.d)), x6, x7, x8, some (.lst (ps.map rowD)), x10, some (.lst (ps.map rowD)), x12] O := by
  unfold v4
  generalize hD : D.tup (ws.map W.d) = wd at hk ⊢
  generalize hR : D.lst (ps.map rowD) = rd at hk ⊢
  walk_at "sc"
  exact ⟨ps, hR.symm, hR.symm, hk⟩
theorem u7_go {S : D} {k : DEnds} (hk : ∀ e O, Q3 S e O → k.nx e O) : ∀ e O, Q3 S e O → u7 k e O := by
  intro e O hP
  show _ ∧ _
  refine ⟨⟨by decide, by decide⟩, ?_⟩
  refine dLoop_ind (α := Nat) (fun i => .int (0 + (i : Int))) (fun rest e O' => Q3 S e O') ?_ hk (List.range 3) e O hP
  rintro i rest e O ⟨p, h, N, ws, x2, x6, x7, x8, x9, x10, x11, x12, hh, hO, hN, hw, rfl⟩ nx hn
  show dThen v1 (dThen v2 (dThen v3 v4)) _ [some S, some (.own p), x2, some (.int (N : Nat)), some (plantD N), some (.tup (ws.map W.d)), x6, x7, some (.int (0 + (i : Int))), x9, x10, x11, x12] O
  refine v1_go hN hh hO fun ps h1 op hh1 => v2_go hN hw op (v3_go hN hw op (v4_go (N := N) ?_))
  exact hn _ _ ⟨p, h1, N, ws, x2, x6, x7, _, _, x10, _, _, hh1, oset_same, hN, hw, rfl⟩
theorem turn_go {S : D} {k : DEnds} (hk : ∀ e O, Q0 S e O → k.nx e O) : ∀ e O, Q0 S e O → dThen u1 (dThen u2 (dThen u3 (dThen u4 (dThen u5 (dThen u6 u7))))) k e O := by
  intro e O hP
  refine u1_go (u2_go (u3_go (u4_go (u5_go (u6_go (u7_go ?_)))))) e O hP
  rintro e O ⟨p, h, N, ws, x2, x6, x7, x8, x9, x10, x11, x12, hh, hO, hN, hw, rfl⟩
  exact hk _ _ ⟨p, h, _, _, _, _, _, _, _, _, _, _, _, hh, hO, rfl⟩
theorem rd_law : ∀ ds O (kk : D → OH → Prop), sp_law ds O kk → bd_law { nx := fun _ O' => kk .non O', rt := kk } (startD ["script", "hand", "turn", "axes", "plant", "wishes", "things", "thing", "again", "places", "told", "kept", "due"] ds) O := by
  rintro ds O kk ⟨ns, rfl, hl, hk⟩
  unfold bd_law
  refine dThen_by (Q0 (.fz (ns.map .int))) (fun nx hn => ?_) fun e O' hP => dThen_by (Q0 (.fz (ns.map .int))) (fun nx hn => ?_) fun e O' hP => dThen_by (Q0 (.fz (ns.map .int))) (fun nx hn => ?_) fun e O' hP => ?_
  · walk_at "sc"
    exact ⟨ns, rfl, hl, fun p h np hh => hn _ _ ⟨p, h, none, none, none, none, none, none, none, none, none, none, none, hh, oset_same, rfl⟩⟩
  · obtain ⟨p, h, x2, x3, x4, x5, x6, x7, x8, x9, x10, x11, x12, hh, hO, rfl⟩ := hP
    walk_at "sc"
    exact ⟨rfl, fun O2 s => hn _ _ ⟨p, h, x2, x3, x4, x5, x6, x7, x8, x9, x10, x11, x12, hh, s p h hO, rfl⟩⟩
  · show _ ∧ _
    refine ⟨⟨by decide, by decide⟩, ?_⟩
    refine dLoop_ind (α := Nat) (fun i => .int (0 + (i : Int))) (fun rest e O' => Q0 (.fz (ns.map .int)) e O') ?_ hn (List.range 3) e O' hP
    rintro i rest e O ⟨p, h, x2, x3, x4, x5, x6, x7, x8, x9, x10, x11, x12, hh, hO, rfl⟩ nx hn2
    show dThen u1 (dThen u2 (dThen u3 (dThen u4 (dThen u5 (dThen u6 u7))))) _ [some (.fz (ns.map .int)), some (.own p), some (.int (0 + (i : Int))), x3, x4, x5, x6, x7, x8, x9, x10, x11, x12] O
    exact turn_go hn2 _ _ ⟨p, h, _, x3, x4, x5, x6, x7, x8, x9, x10, x11, x12, hh, hO, rfl⟩
  · exact hk _
end Lk17
namespace Lk17
open PySem PySem.Spec PyProof.Rows L2 SC
variable [TabL] [XCx] [PlC] {P : Program} {w : World} {mg : Str → Option Value} {base : Heap}
theorem ok_is_integer (T : Tx PlC.K mg) : FnOk P w PlC.K mg base CX0 1 T.a_is_integer T.d_is_integer ["thing"] (upSp PlC.K sp_is_integer) :=
  okD T.f_is_integer sc_is_integer ln_is_integer fun cdv A outer s H E hr => ⟨bd_is_integer, pbd_one (psd_ret (pd_and (pd_callB call_isi cd_isi (by rfl) T.z_isinstance boot_isinstance (pad_cons (pd_v 0) (pad_cons (pd_tyc (by rfl) T.z_int boot_int) (pad_nil)))) (pd_one (pd_not (pd_callB call_isi cd_isi (by rfl) T.z_isinstance boot_isinstance (pad_cons (pd_v 0) (pad_cons (pd_tyc (by rfl) T.z_bool boot_bool) (pad_nil)))))))), rd_is_integer⟩
theorem ok_is_between (T : Tx PlC.K mg) : FnOk P w PlC.K mg base CX0 2 T.a_is_between T.d_is_between ["least", "most", "thing"] (upSp PlC.K sp_is_between) :=
  okD T.f_is_between sc_is_between ln_is_between fun cdv A outer s H E hr => ⟨bd_is_between, pbd_one (psd_ret (pd_and (pd_callF (ok_is_integer T) (hr.mono (by decide)) (by rfl) T.m_is_integer T.f_is_integer.kp T.b_is_integer (pad_cons (pd_v 2) (pad_nil))) (pd_one (pd_lele (pd_v 0) (pd_v 2) (pd_v 1))))), rd_is_between⟩
theorem ok_is_tuple (T : Tx PlC.K mg) : FnOk P w PlC.K mg base CX0 1 T.a_is_tuple T.d_is_tuple ["least", "most", "thing"] (upSp PlC.K sp_is_tuple) :=
  okD T.f_is_tuple sc_is_tuple ln_is_tuple fun cdv A outer s H E hr => ⟨bd_is_tuple, pbd_one (psd_ret (pd_and (pd_callB call_isi cd_isi (by rfl) T.z_isinstance boot_isinstance (pad_cons (pd_v 2) (pad_cons (pd_tyc (by rfl) T.z_tuple boot_tuple) (pad_nil)))) (pd_one (pd_lele (pd_v 0) (pd_callB call_len_seq cd_len (by rfl) T.z_len boot_len (pad_cons (pd_v 2) (pad_nil))) (pd_v 1))))), rd_is_tuple⟩
theorem ok_is_pair (T : Tx PlC.K mg) : FnOk P w PlC.K mg base CX0 2 T.a_is_pair T.d_is_pair ["thing"] (upSp PlC.K sp_is_pair) :=
  okD T.f_is_pair sc_is_pair ln_is_pair fun cdv A outer s H E hr => ⟨bd_is_pair, pbd_one (psd_ret (pd_callF (ok_is_tuple T) (hr.mono (by decide)) (by rfl) T.m_is_tuple T.f_is_tuple.kp T.b_is_tuple (pad_cons (pd_int) (pad_cons (pd_int) (pad_cons (pd_v 0) (pad_nil)))))), rd_is_pair⟩
theorem ok_is_one_of (T : Tx PlC.K mg) : FnOk P w PlC.K mg base CX0 1 T.a_is_one_of T.d_is_one_of ["words", "thing"] (upSp PlC.K sp_is_one_of) :=
  okD T.f_is_one_of sc_is_one_of ln_is_one_of fun cdv A outer s H E hr => ⟨bd_is_one_of, pbd_one (psd_ret (pd_and (pd_callB call_isi cd_isi (by rfl) T.z_isinstance boot_isinstance (pad_cons (pd_v 1) (pad_cons (pd_tyc (by rfl) T.z_str boot_str) (pad_nil)))) (pd_one (pd_in (pd_v 1) (pd_v 0))))), rd_is_one_of⟩
theorem ok_is_span (T : Tx PlC.K mg) : FnOk P w PlC.K mg base CX0 3 T.a_is_span T.d_is_span ["least", "most", "thing"] (upSp PlC.K sp_is_span) :=
  okD T.f_is_span sc_is_span ln_is_span fun cdv A outer s H E hr => ⟨bd_is_span, pbd_one (psd_ret (pd_and (pd_callF (ok_is_pair T) (hr.mono (by decide)) (by rfl) T.m_is_pair T.f_is_pair.kp T.b_is_pair (pad_cons (pd_v 2) (pad_nil))) (pd_and (pd_callF (ok_is_between T) (hr.mono (by decide)) (by rfl) T.m_is_between T.f_is_between.kp T.b_is_between (pad_cons (pd_v 0) (pad_cons (pd_v 1) (pad_cons (pd_ix ix_seq od_ix (pd_v 2) (pd_int)) (pad_nil))))) (pd_one (pd_callF (ok_is_between T) (hr.mono (by decide)) (by rfl) T.m_is_between T.f_is_between.kp T.b_is_between (pad_cons (pd_ix ix_seq od_ix (pd_v 2) (pd_int)) (pad_cons (pd_v 1) (pad_cons (pd_ix ix_seq od_ix (pd_v 2) (pd_int)) (pad_nil))))))))), rd_is_span⟩
theorem ok_are_spans (T : Tx PlC.K mg) : FnOk P w PlC.K mg base CX0 4 T.a_are_spans T.d_are_spans ["fewest", "many", "least", "most", "thing"] (upSp PlC.K sp_are_spans) :=
  okD T.f_are_spans sc_are_spans ln_are_spans fun cdv A outer s H E hr => ⟨bd_are_spans, pbd_one (psd_ret (pd_and (pd_callF (ok_is_tuple T) (hr.mono (by decide)) (by rfl) T.m_is_tuple T.f_is_tuple.kp T.b_is_tuple (pad_cons (pd_v 0) (pad_cons (pd_v 1) (pad_cons (pd_v 4) (pad_nil))))) (pd_one (pd_callB (cr_all rfl) cd_bools (by rfl) T.z_all boot_all (pad_cons (pd_lc (own := [("span", 5)]) rfl sc_are_spans.nd (pid_seq (pd_v 4)) (blkOk_by (by dsimp only [cxOf, Cx.nox, Cx.wish, Cx.blk, compEnvC, envOfC, relabel_S]; decide +kernel)) (by decide) (fun _ _ _ _ _ => pgd_name (i := 5) sc_are_spans.nd rfl (by first | exact .inl rfl | exact .inr rfl)) (fun _ _ _ _ _ => ptsd_nil) (fun _ _ _ _ _ => pd_callF (ok_is_span T) (hr.mono (by decide)) (by rfl) T.m_is_span T.f_is_span.kp T.b_is_span (pad_cons (pd_v 2) (pad_cons (pd_v 3) (pad_cons (pd_v 5) (pad_nil)))))) (pad_nil)))))), rd_are_spans⟩
theorem ok_many_rows (T : Tx PlC.K mg) : FnOk P w PlC.K mg base CX0 1 T.a_many_rows T.d_many_rows ["spans"] (upSp PlC.K sp_many_rows) :=
  okD T.f_many_rows sc_many_rows ln_many_rows fun cdv A outer s H E hr => ⟨bd_many_rows, pbd_cons (psd_set (i := 1) sc_many_rows.nd rfl (by first | exact .inl rfl | exact .inr rfl) (pd_int)) (pbd_cons (psd_for PassesOwn.never rfl (pid_seq (pd_v 0)) (pgd_tup (K := PlC.K) rfl (pgds_cons (pgd_name (i := 2) sc_many_rows.nd rfl (by first | exact .inl rfl | exact .inr rfl)) (pgds_cons (pgd_name (i := 3) sc_many_rows.nd rfl (by first | exact .inl rfl | exact .inr rfl)) (pgds_nil)))) (pbd_one (psd_set (i := 1) sc_many_rows.nd rfl (by first | exact .inl rfl | exact .inr rfl) (pd_mul (pd_v 1) (pd_addA (pd_sub (pd_v 3) (pd_v 2)) (pd_int)))))) (pbd_one (psd_ret (pd_v 1)))), rd_many_rows⟩
theorem ok_is_way (T : Tx PlC.K mg) : FnOk P w PlC.K mg base CX0 2 T.a_is_way T.d_is_way ["thing"] (upSp PlC.K sp_is_way) :=
  okD T.f_is_way sc_is_way ln_is_way fun cdv A outer s H E hr => ⟨bd_is_way, pbd_one (psd_ret (pd_callF (ok_is_one_of T) (hr.mono (by decide)) (by rfl) T.m_is_one_of T.f_is_one_of.kp T.b_is_one_of (pad_cons (pd_c (pe_glob (v := .ref T.a_WAYS) (by rfl) T.m_WAYS rfl) T.r_WAYS) (pad_cons (pd_v 0) (pad_nil))))), rd_is_way⟩
theorem ok_is_leaf (T : Tx PlC.K mg) : FnOk P w PlC.K mg base CX0 3 T.a_is_leaf T.d_is_leaf ["inputs", "thing"] (upSp PlC.K sp_is_leaf) :=
  okD T.f_is_leaf sc_is_leaf ln_is_leaf fun cdv A outer s H E hr => ⟨bd_is_leaf, pbd_cons (psd_if (ptd_not (ptd_val (pd_callF (ok_is_tuple T) (hr.mono (by decide)) (by rfl) T.m_is_tuple T.f_is_tuple.kp T.b_is_tuple (pad_cons (pd_int) (pad_cons (pd_int) (pad_cons (pd_v 1) (pad_nil))))))) (pbd_one (psd_ret (pd_bl))) (pbd_nil)) (pbd_cons (psd_asg (pd_v 1) (pgd_tup (K := PlC.K) rfl (pgds_cons (pgd_name (i := 2) sc_is_leaf.nd rfl (by first | exact .inl rfl | exact .inr rfl)) (pgds_cons (pgd_name (i := 3) sc_is_leaf.nd rfl (by first | exact .inl rfl | exact .inr rfl)) (pgds_nil))))) (pbd_cons (psd_if (ptd_val (pd_callF (ok_is_one_of T) (hr.mono (by decide)) (by rfl) T.m_is_one_of T.f_is_one_of.kp T.b_is_one_of (pad_cons (pd_tup (pad_cons (pd_str) (pad_nil))) (pad_cons (pd_v 2) (pad_nil))))) (pbd_one (psd_ret (pd_callF (ok_is_between T) (hr.mono (by decide)) (by rfl) T.m_is_between T.f_is_between.kp T.b_is_between (pad_cons (pd_int) (pad_cons (pd_sub (pd_v 0) (pd_int)) (pad_cons (pd_v 3) (pad_nil))))))) (pbd_nil)) (pbd_one (psd_dead)))), rd_is_leaf⟩
theorem ok_operations (T : Tx PlC.K mg) : FnOk P w PlC.K mg base CX0 4 T.a_operations T.d_operations ["inputs", "thing", "deep"] (upSp PlC.K sp_operations) :=
  okD T.f_operations sc_operations ln_operations fun cdv A outer s H E hr => ⟨bd_operations, pbd_cons (psd_if (ptd_val (pd_callF (ok_is_leaf T) (hr.mono (by decide)) (by rfl) T.m_is_leaf T.f_is_leaf.kp T.b_is_leaf (pad_cons (pd_v 0) (pad_cons (pd_v 1) (pad_nil))))) (pbd_one (psd_ret (pd_int))) (pbd_nil)) (pbd_cons (psd_dead) (pbd_cons (psd_dead) (pbd_cons (psd_dead) (pbd_cons (psd_dead) (pbd_one (psd_dead)))))), rd_operations⟩
theorem ok_is_formula (T : Tx PlC.K mg) : FnOk P w PlC.K mg base CX0 5 T.a_is_formula T.d_is_formula ["inputs", "thing"] (upSp PlC.K sp_is_formula) :=
  okD T.f_is_formula sc_is_formula ln_is_formula fun cdv A outer s H E hr => ⟨bd_is_formula, pbd_cons (psd_set (i := 2) sc_is_formula.nd rfl (by first | exact .inl rfl | exact .inr rfl) (pd_callF (ok_operations T) (hr.mono (by decide)) (by rfl) T.m_operations T.f_operations.kp T.b_operations (pad_cons (pd_v 0) (pad_cons (pd_v 1) (pad_cons (pd_int) (pad_nil)))))) (pbd_one (psd_ret (pd_and (pd_isnot (pd_v 2) (pd_non)) (pd_one (pd_le (pd_v 2) (pd_int)))))), rd_is_formula⟩
theorem ok_is_box (T : Tx PlC.K mg) : FnOk P w PlC.K mg base CX0 5 T.a_is_box T.d_is_box ["axes", "thing"] (upSp PlC.K sp_is_box) :=
  okD T.f_is_box sc_is_box ln_is_box fun cdv A outer s H E hr => ⟨bd_is_box, pbd_one (psd_ret (pd_callF (ok_are_spans T) (hr.mono (by decide)) (by rfl) T.m_are_spans T.f_are_spans.kp T.b_are_spans (pad_cons (pd_v 0) (pad_cons (pd_v 0) (pad_cons (pd_neg (pd_int)) (pad_cons (pd_int) (pad_cons (pd_v 1) (pad_nil)))))))), rd_is_box⟩
theorem ok_is_area (T : Tx PlC.K mg) : FnOk P w PlC.K mg base CX0 6 T.a_is_area T.d_is_area ["axes", "thing"] (upSp PlC.K sp_is_area) :=
  okD T.f_is_area sc_is_area ln_is_area fun cdv A outer s H E hr => ⟨bd_is_area, pbd_one (psd_ret (pd_and (pd_callF (ok_is_tuple T) (hr.mono (by decide)) (by rfl) T.m_is_tuple T.f_is_tuple.kp T.b_is_tuple (pad_cons (pd_int) (pad_cons (pd_int) (pad_cons (pd_v 1) (pad_nil))))) (pd_one (pd_callB (cr_all rfl) cd_bools (by rfl) T.z_all boot_all (pad_cons (pd_lc (own := [("box", 2)]) rfl sc_is_area.nd (pid_seq (pd_v 1)) (blkOk_by (by dsimp only [cxOf, Cx.nox, Cx.wish, Cx.blk, compEnvC, envOfC, relabel_S]; decide +kernel)) (by decide) (fun _ _ _ _ _ => pgd_name (i := 2) sc_is_area.nd rfl (by first | exact .inl rfl | exact .inr rfl)) (fun _ _ _ _ _ => ptsd_nil) (fun _ _ _ _ _ => pd_callF (ok_is_box T) (hr.mono (by decide)) (by rfl) T.m_is_box T.f_is_box.kp T.b_is_box (pad_cons (pd_v 0) (pad_cons (pd_v 2) (pad_nil))))) (pad_nil)))))), rd_is_area⟩
theorem ok_in_box (T : Tx PlC.K mg) : FnOk P w PlC.K mg base CX0 1 T.a_in_box T.d_in_box ["box", "place"] (upSp PlC.K sp_in_box) :=
  okD T.f_in_box sc_in_box ln_in_box fun cdv A outer s H E hr => ⟨bd_in_box, pbd_one (psd_ret (pd_callB (cr_all rfl) cd_bools (by rfl) T.z_all boot_all (pad_cons (pd_lc (own := [("item", 2), ("low", 3), ("high", 4)]) rfl sc_in_box.nd (pid_zip (by rfl) T.z_zip (pd_v 1) (pd_v 0)) (blkOk_by (by dsimp only [cxOf, Cx.nox, Cx.wish, Cx.blk, compEnvC, envOfC, relabel_S]; decide +kernel)) (by decide) (fun _ _ _ _ _ => pgd_tup (K := PlC.K) rfl (pgds_cons (pgd_name (i := 2) sc_in_box.nd rfl (by first | exact .inl rfl | exact .inr rfl)) (pgds_cons (pgd_tup (K := PlC.K) rfl (pgds_cons (pgd_name (i := 3) sc_in_box.nd rfl (by first | exact .inl rfl | exact .inr rfl)) (pgds_cons (pgd_name (i := 4) sc_in_box.nd rfl (by first | exact .inl rfl | exact .inr rfl)) (pgds_nil)))) (pgds_nil)))) (fun _ _ _ _ _ => ptsd_nil) (fun _ _ _ _ _ => pd_lele (pd_v 3) (pd_v 2) (pd_v 4))) (pad_nil)))), rd_in_box⟩
theorem ok_in_area (T : Tx PlC.K mg) : FnOk P w PlC.K mg base CX0 2 T.a_in_area T.d_in_area ["area", "place"] (upSp PlC.K sp_in_area) :=
  okD T.f_in_area sc_in_area ln_in_area fun cdv A outer s H E hr => ⟨bd_in_area, pbd_one (psd_ret (pd_callB (cr_any rfl) cd_bools (by rfl) T.z_any boot_any (pad_cons (pd_lc (own := [("box", 2)]) rfl sc_in_area.nd (pid_seq (pd_v 0)) (blkOk_by (by dsimp only [cxOf, Cx.nox, Cx.wish, Cx.blk, compEnvC, envOfC, relabel_S]; decide +kernel)) (by decide) (fun _ _ _ _ _ => pgd_name (i := 2) sc_in_area.nd rfl (by first | exact .inl rfl | exact .inr rfl)) (fun _ _ _ _ _ => ptsd_nil) (fun _ _ _ _ _ => pd_callF (ok_in_box T) (hr.mono (by decide)) (by rfl) T.m_in_box T.f_in_box.kp T.b_in_box (pad_cons (pd_v 2) (pad_cons (pd_v 1) (pad_nil))))) (pad_nil)))), rd_in_area⟩
theorem ok_is_mode (T : Tx PlC.K mg) : FnOk P w PlC.K mg base CX0 7 T.a_is_mode T.d_is_mode ["axes", "last", "thing"] (upSp PlC.K sp_is_mode) :=
  okD T.f_is_mode sc_is_mode ln_is_mode fun cdv A outer s H E hr => ⟨bd_is_mode, pbd_cons (psd_if (ptd_not (ptd_val (pd_callF (ok_is_pair T) (hr.mono (by decide)) (by rfl) T.m_is_pair T.f_is_pair.kp T.b_is_pair (pad_cons (pd_v 2) (pad_nil))))) (pbd_one (psd_ret (pd_bl))) (pbd_nil)) (pbd_cons (psd_asg (pd_v 2) (pgd_tup (K := PlC.K) rfl (pgds_cons (pgd_name (i := 3) sc_is_mode.nd rfl (by first | exact .inl rfl | exact .inr rfl)) (pgds_cons (pgd_name (i := 4) sc_is_mode.nd rfl (by first | exact .inl rfl | exact .inr rfl)) (pgds_nil))))) (pbd_cons (psd_if (ptd_w (pwd_or (ptd_w (pwd_and (ptd_val (pd_v 1)) (pwd_and1 (ptd_isnot (pd_v 3) (pd_non))))) (pwd_or1 (ptd_w (pwd_and (ptd_not (ptd_val (pd_v 1))) (pwd_and1 (ptd_not (ptd_val (pd_callF (ok_is_area T) (hr.mono (by decide)) (by rfl) T.m_is_area T.f_is_area.kp T.b_is_area (pad_cons (pd_v 0) (pad_cons (pd_v 3) (pad_nil)))))))))))) (pbd_one (psd_ret (pd_bl))) (pbd_nil)) (pbd_one (psd_ret (pd_and (pd_callF (ok_is_tuple T) (hr.mono (by decide)) (by rfl) T.m_is_tuple T.f_is_tuple.kp T.b_is_tuple (pad_cons (pd_v 0) (pad_cons (pd_v 0) (pad_cons (pd_v 4) (pad_nil))))) (pd_one (pd_callB (cr_all rfl) cd_bools (by rfl) T.z_all boot_all (pad_cons (pd_lc (own := [("formula", 5)]) rfl sc_is_mode.nd (pid_seq (pd_v 4)) (blkOk_by (by dsimp only [cxOf, Cx.nox, Cx.wish, Cx.blk, compEnvC, envOfC, relabel_S]; decide +kernel)) (by decide) (fun _ _ _ _ _ => pgd_name (i := 5) sc_is_mode.nd rfl (by first | exact .inl rfl | exact .inr rfl)) (fun _ _ _ _ _ => ptsd_nil) (fun _ _ _ _ _ => pd_callF (ok_is_formula T) (hr.mono (by decide)) (by rfl) T.m_is_formula T.f_is_formula.kp T.b_is_formula (pad_cons (pd_addA (pd_v 0) (pd_int)) (pad_cons (pd_v 5) (pad_nil))))) (pad_nil))))))))), rd_is_mode⟩
theorem ok_are_modes (T : Tx PlC.K mg) : FnOk P w PlC.K mg base CX0 8 T.a_are_modes T.d_are_modes ["axes", "thing"] (upSp PlC.K sp_are_modes) :=
  okD T.f_are_modes sc_are_modes ln_are_modes fun cdv A outer s H E hr => ⟨bd_are_modes, pbd_cons (psd_if (ptd_not (ptd_val (pd_callF (ok_is_tuple T) (hr.mono (by decide)) (by rfl) T.m_is_tuple T.f_is_tuple.kp T.b_is_tuple (pad_cons (pd_int) (pad_cons (pd_int) (pad_cons (pd_v 1) (pad_nil))))))) (pbd_one (psd_ret (pd_bl))) (pbd_nil)) (pbd_one (psd_ret (pd_callB (cr_all rfl) cd_bools (by rfl) T.z_all boot_all (pad_cons (pd_lc (own := [("at", 2), ("mode", 3)]) rfl sc_are_modes.nd (pid_enumT (by rfl) T.z_enumerate (pd_v 1)) (blkOk_by (by dsimp only [cxOf, Cx.nox, Cx.wish, Cx.blk, compEnvC, envOfC, relabel_S]; decide +kernel)) (by decide) (fun _ _ _ _ _ => pgd_tup (K := PlC.K) rfl (pgds_cons (pgd_name (i := 2) sc_are_modes.nd rfl (by first | exact .inl rfl | exact .inr rfl)) (pgds_cons (pgd_name (i := 3) sc_are_modes.nd rfl (by first | exact .inl rfl | exact .inr rfl)) (pgds_nil)))) (fun _ _ _ _ _ => ptsd_nil) (fun _ _ _ _ _ => pd_callF (ok_is_mode T) (hr.mono (by decide)) (by rfl) T.m_is_mode T.f_is_mode.kp T.b_is_mode (pad_cons (pd_v 0) (pad_cons (pd_eq (pd_v 2) (pd_sub (pd_callB call_len_seq cd_len (by rfl) T.z_len boot_len (pad_cons (pd_v 1) (pad_nil))) (pd_int))) (pad_cons (pd_v 3) (pad_nil)))))) (pad_nil))))), rd_are_modes⟩
theorem ok_is_wish (T : Tx PlC.K mg) : FnOk P w PlC.K mg base CX0 7 T.a_is_wish T.d_is_wish ["axes", "thing"] (upSp PlC.K sp_is_wish) :=
  okD T.f_is_wish sc_is_wish ln_is_wish fun cdv A outer s H E hr => ⟨bd_is_wish, pbd_cons (psd_if (ptd_w (pwd_or (ptd_not (ptd_val (pd_callF (ok_is_tuple T) (hr.mono (by decide)) (by rfl) T.m_is_tuple T.f_is_tuple.kp T.b_is_tuple (pad_cons (pd_int) (pad_cons (pd_int) (pad_cons (pd_v 1) (pad_nil))))))) (pwd_or1 (ptd_not (ptd_val (pd_callF (ok_is_one_of T) (hr.mono (by decide)) (by rfl) T.m_is_one_of T.f_is_one_of.kp T.b_is_one_of (pad_cons (pd_c (pe_glob (v := .ref T.a_WORDS_wishes) (by rfl) T.m_WORDS_wishes rfl) T.r_WORDS_wishes) (pad_cons (pd_ix ix_seq od_ix (pd_v 1) (pd_int)) (pad_nil))))))))) (pbd_one (psd_ret (pd_bl))) (pbd_nil)) (pbd_cons (psd_set (i := 2) sc_is_wish.nd rfl (by first | exact .inl rfl | exact .inr rfl) (pd_ifE (ptd_in (pd_ix ix_seq od_ix (pd_v 1) (pd_int)) (pd_c (pe_glob (v := .ref T.a_WITH_OTHER) (by rfl) T.m_WITH_OTHER rfl) T.r_WITH_OTHER)) (pd_int) (pd_int))) (pbd_cons (psd_if (ptd_in (pd_ix ix_seq od_ix (pd_v 1) (pd_int)) (pd_c (pe_glob (v := .ref T.a_WITH_K) (by rfl) T.m_WITH_K rfl) T.r_WITH_K)) (pbd_one (psd_if (ptd_w (pwd_or (ptd_ne (pd_callB call_len_seq cd_len (by rfl) T.z_len boot_len (pad_cons (pd_v 1) (pad_nil))) (pd_addA (pd_v 2) (pd_int))) (pwd_or1 (ptd_not (ptd_val (pd_callF (ok_is_between T) (hr.mono (by decide)) (by rfl) T.m_is_between T.f_is_between.kp T.b_is_between (pad_cons (pd_int) (pad_cons (pd_int) (pad_cons (pd_ix ix_seq od_ix (pd_v 1) (pd_v 2)) (pad_nil)))))))))) (pbd_one (psd_ret (pd_bl))) (pbd_nil))) (pbd_one (psd_if (ptd_ne (pd_callB call_len_seq cd_len (by rfl) T.z_len boot_len (pad_cons (pd_v 1) (pad_nil))) (pd_v 2)) (pbd_one (psd_ret (pd_bl))) (pbd_nil)))) (pbd_one (psd_ret (pd_callB (cr_all rfl) cd_bools (by rfl) T.z_all boot_all (pad_cons (pd_lc (own := [("area", 3)]) rfl sc_is_wish.nd (pid_seq (pd_slice (pd_v 1) (pod_some (pd_int)) (pod_some (pd_v 2)))) (blkOk_by (by dsimp only [cxOf, Cx.nox, Cx.wish, Cx.blk, compEnvC, envOfC, relabel_S]; decide +kernel)) (by decide) (fun _ _ _ _ _ => pgd_name (i := 3) sc_is_wish.nd rfl (by first | exact .inl rfl | exact .inr rfl)) (fun _ _ _ _ _ => ptsd_nil) (fun _ _ _ _ _ => pd_callF (ok_is_area T) (hr.mono (by decide)) (by rfl) T.m_is_area T.f_is_area.kp T.b_is_area (pad_cons (pd_v 0) (pad_cons (pd_v 3) (pad_nil))))) (pad_nil))))))), rd_is_wish⟩
theorem ok_are_wishes (T : Tx PlC.K mg) : FnOk P w PlC.K mg base CX0 8 T.a_are_wishes T.d_are_wishes ["plant", "thing"] (upSp PlC.K sp_are_wishes) :=
  okD T.f_are_wishes sc_are_wishes ln_are_wishes fun cdv A outer s H E hr => ⟨bd_are_wishes, pbd_one (psd_ret (pd_and (pd_callF (ok_is_tuple T) (hr.mono (by decide)) (by rfl) T.m_is_tuple T.f_is_tuple.kp T.b_is_tuple (pad_cons (pd_int) (pad_cons (pd_int) (pad_cons (pd_v 1) (pad_nil))))) (pd_one (pd_callB (cr_all rfl) cd_bools (by rfl) T.z_all boot_all (pad_cons (pd_lc (own := [("wish", 2)]) rfl sc_are_wishes.nd (pid_seq (pd_v 1)) (blkOk_by (by dsimp only [cxOf, Cx.nox, Cx.wish, Cx.blk, compEnvC, envOfC, relabel_S]; decide +kernel)) (by decide) (fun _ _ _ _ _ => pgd_name (i := 2) sc_are_wishes.nd rfl (by first | exact .inl rfl | exact .inr rfl)) (fun _ _ _ _ _ => ptsd_nil) (fun _ _ _ _ _ => pd_callF (ok_is_wish T) (hr.mono (by decide)) (by rfl) T.m_is_wish T.f_is_wish.kp T.b_is_wish (pad_cons (pd_callB call_len_seq cd_len (by rfl) T.z_len boot_len (pad_cons (pd_fld (pd_v 0)) (pad_nil))) (pad_cons (pd_v 2) (pad_nil))))) (pad_nil)))))), rd_are_wishes⟩
theorem ok_marks (T : Tx PlC.K mg) : FnOk P w PlC.K mg base CX0 3 T.a_marks T.d_marks ["wishes", "place"] (upSp PlC.K sp_marks) :=
  okD T.f_marks sc_marks ln_marks fun cdv A outer s H E hr => ⟨bd_marks, pbd_cons (psd_set (i := 2) sc_marks.nd rfl (by first | exact .inl rfl | exact .inr rfl) (pd_lstO (pad_nil))) (pbd_cons (psd_for PassesOwn.never rfl (pid_seq (pd_v 0)) (pgd_name (i := 3) sc_marks.nd rfl (by first | exact .inl rfl | exact .inr rfl)) (pbd_cons (psd_set (i := 4) sc_marks.nd rfl (by first | exact .inl rfl | exact .inr rfl) (pd_and (pd_in (pd_ix ix_seq od_ix (pd_v 3) (pd_int)) (pd_c (pe_glob (v := .ref T.a_WITH_OTHER) (by rfl) T.m_WITH_OTHER rfl) T.r_WITH_OTHER)) (pd_one (pd_callF (ok_in_area T) (hr.mono (by decide)) (by rfl) T.m_in_area T.f_in_area.kp T.b_in_area (pad_cons (pd_ix ix_seq od_ix (pd_v 3) (pd_int)) (pad_cons (pd_v 1) (pad_nil))))))) (pbd_one (psd_app (pd_v 2) (pd_tup (pad_cons (pd_callF (ok_in_area T) (hr.mono (by decide)) (by rfl) T.m_in_area T.f_in_area.kp T.b_in_area (pad_cons (pd_ix ix_seq od_ix (pd_v 3) (pd_int)) (pad_cons (pd_v 1) (pad_nil)))) (pad_cons (pd_v 4) (pad_nil)))))))) (pbd_one (psd_ret (pd_tupleX (by rfl) T.z_tuple (pd_v 2))))), rd_marks⟩
theorem ok_ahead_count (T : Tx PlC.K mg) : FnOk P w PlC.K mg base CX0 1 T.a_ahead_count T.d_ahead_count ["inside", "other"] (upSp PlC.K sp_ahead_count) :=
  okD T.f_ahead_count sc_ahead_count ln_ahead_count fun cdv A outer s H E hr => ⟨bd_ahead_count, pbd_cons (psd_if (ptd_val (pd_v 0)) (pbd_one (psd_ret (pd_int))) (pbd_nil)) (pbd_one (psd_ret (pd_ifE (ptd_val (pd_v 1)) (pd_non) (pd_int)))), rd_ahead_count⟩
theorem ok_count_at_first (T : Tx PlC.K mg) : FnOk P w PlC.K mg base CX0 2 T.a_count_at_first T.d_count_at_first ["wish", "inside", "other"] (upSp PlC.K sp_count_at_first) :=
  okD T.f_count_at_first sc_count_at_first ln_count_at_first fun cdv A outer s H E hr => ⟨bd_count_at_first, pbd_cons (psd_set (i := 3) sc_count_at_first.nd rfl (by first | exact .inl rfl | exact .inr rfl) (pd_ix ix_seq od_ix (pd_v 0) (pd_int))) (pbd_cons (psd_if (ptd_eq (pd_v 3) (pd_str)) (pbd_one (psd_ret (pd_ifE (ptd_val (pd_v 1)) (pd_non) (pd_int)))) (pbd_nil)) (pbd_cons (psd_if (ptd_eq (pd_v 3) (pd_str)) (pbd_one (psd_ret (pd_ifE (ptd_val (pd_v 1)) (pd_neg (pd_int)) (pd_int)))) (pbd_nil)) (pbd_cons (psd_if (ptd_eq (pd_v 3) (pd_str)) (pbd_one (psd_ret (pd_ifE (ptd_w (pwd_and (ptd_val (pd_v 1)) (pwd_and1 (ptd_not (ptd_val (pd_v 2)))))) (pd_int) (pd_int)))) (pbd_nil)) (pbd_cons (psd_if (ptd_eq (pd_v 3) (pd_str)) (pbd_one (psd_ret (pd_callF (ok_ahead_count T) (hr.mono (by decide)) (by rfl) T.m_ahead_count T.f_ahead_count.kp T.b_ahead_count (pad_cons (pd_v 1) (pad_cons (pd_v 2) (pad_nil)))))) (pbd_nil)) (pbd_one (psd_ret (pd_ifE (ptd_val (pd_v 1)) (pd_int) (pd_int)))))))), rd_count_at_first⟩
theorem ok_unless_above (T : Tx PlC.K mg) : FnOk P w PlC.K mg base CX0 1 T.a_unless_above T.d_unless_above ["count", "most"] (upSp PlC.K sp_unless_above) :=
  okD T.f_unless_above sc_unless_above ln_unless_above fun cdv A outer s H E hr => ⟨bd_unless_above, pbd_one (psd_ret (pd_ifE (ptd_gt (pd_v 0) (pd_v 1)) (pd_non) (pd_v 0))), rd_unless_above⟩
theorem ok_next_waiting (T : Tx PlC.K mg) : FnOk P w PlC.K mg base CX0 2 T.a_next_waiting T.d_next_waiting ["wish", "count", "inside", "other"] (upSp PlC.K sp_next_waiting) :=
  okD T.f_next_waiting sc_next_waiting ln_next_waiting fun cdv A outer s H E hr => ⟨bd_next_waiting, pbd_cons (psd_if (ptd_val (pd_v 3)) (pbd_one (psd_ret (pd_int))) (pbd_nil)) (pbd_cons (psd_if (ptd_gt (pd_v 1) (pd_int)) (pbd_one (psd_ret (pd_callF (ok_unless_above T) (hr.mono (by decide)) (by rfl) T.m_unless_above T.f_unless_above.kp T.b_unless_above (pad_cons (pd_addA (pd_v 1) (pd_int)) (pad_cons (pd_ix ix_seq od_ix (pd_v 0) (pd_int)) (pad_nil)))))) (pbd_nil)) (pbd_one (psd_ret (pd_ifE (ptd_val (pd_v 2)) (pd_int) (pd_int))))), rd_next_waiting⟩
theorem ok_next_count (T : Tx PlC.K mg) : FnOk P w PlC.K mg base CX0 3 T.a_next_count T.d_next_count ["wish", "count", "inside", "other"] (upSp PlC.K sp_next_count) :=
  okD T.f_next_count sc_next_count ln_next_count fun cdv A outer s H E hr => ⟨bd_next_count, pbd_cons (psd_set (i := 4) sc_next_count.nd rfl (by first | exact .inl rfl | exact .inr rfl) (pd_ix ix_seq od_ix (pd_v 0) (pd_int))) (pbd_cons (psd_if (ptd_is (pd_v 1) (pd_non)) (pbd_one (psd_ret (pd_non))) (pbd_nil)) (pbd_cons (psd_if (ptd_eq (pd_v 4) (pd_str)) (pbd_one (psd_ret (pd_ifE (ptd_val (pd_v 2)) (pd_non) (pd_int)))) (pbd_nil)) (pbd_cons (psd_if (ptd_eq (pd_v 4) (pd_str)) (pbd_one (psd_ret (pd_ifE (ptd_eq (pd_v 1) (pd_int)) (pd_int) (pd_callF (ok_ahead_count T) (hr.mono (by decide)) (by rfl) T.m_ahead_count T.f_ahead_count.kp T.b_ahead_count (pad_cons (pd_v 2) (pad_cons (pd_v 3) (pad_nil))))))) (pbd_nil)) (pbd_cons (psd_if (ptd_eq (pd_v 4) (pd_str)) (pbd_cons (psd_if (ptd_w (pwd_or (ptd_val (pd_v 2)) (pwd_or1 (ptd_eq (pd_v 1) (pd_neg (pd_int)))))) (pbd_one (psd_ret (pd_neg (pd_int)))) (pbd_nil)) (pbd_one (psd_ret (pd_callF (ok_unless_above T) (hr.mono (by decide)) (by rfl) T.m_unless_above T.f_unless_above.kp T.b_unless_above (pad_cons (pd_addA (pd_v 1) (pd_int)) (pad_cons (pd_sub (pd_ix ix_seq od_ix (pd_v 0) (pd_int)) (pd_int)) (pad_nil))))))) (pbd_nil)) (pbd_cons (psd_if (ptd_eq (pd_v 4) (pd_str)) (pbd_one (psd_ret (pd_callF (ok_next_waiting T) (hr.mono (by decide)) (by rfl) T.m_next_waiting T.f_next_waiting.kp T.b_next_waiting (pad_cons (pd_v 0) (pad_cons (pd_v 1) (pad_cons (pd_v 2) (pad_cons (pd_v 3) (pad_nil)))))))) (pbd_nil)) (pbd_one (psd_ret (pd_ifE (ptd_val (pd_v 2)) (pd_int) (pd_callF (ok_unless_above T) (hr.mono (by decide)) (by rfl) T.m_unless_above T.f_unless_above.kp T.b_unless_above (pad_cons (pd_addA (pd_v 1) (pd_int)) (pad_cons (pd_ix ix_seq od_ix (pd_v 0) (pd_int)) (pad_nil)))))))))))), rd_next_count⟩
theorem ok_begun_by (T : Tx PlC.K mg) : FnOk P w PlC.K mg base CX0 3 T.a_begun_by T.d_begun_by ["wishes", "marked"] (upSp PlC.K sp_begun_by) :=
  okD T.f_begun_by sc_begun_by ln_begun_by fun cdv A outer s H E hr => ⟨bd_begun_by, pbd_one (psd_ret (pd_tuple (by rfl) T.z_tuple (pd_lc (own := [("wish", 2), ("inside", 3), ("other", 4)]) rfl sc_begun_by.nd (pid_zip (by rfl) T.z_zip (pd_v 0) (pd_v 1)) (blkOk_by (by dsimp only [cxOf, Cx.nox, Cx.wish, Cx.blk, compEnvC, envOfC, relabel_S]; decide +kernel)) (by decide) (fun _ _ _ _ _ => pgd_tup (K := PlC.K) rfl (pgds_cons (pgd_name (i := 2) sc_begun_by.nd rfl (by first | exact .inl rfl | exact .inr rfl)) (pgds_cons (pgd_tup (K := PlC.K) rfl (pgds_cons (pgd_name (i := 3) sc_begun_by.nd rfl (by first | exact .inl rfl | exact .inr rfl)) (pgds_cons (pgd_name (i := 4) sc_begun_by.nd rfl (by first | exact .inl rfl | exact .inr rfl)) (pgds_nil)))) (pgds_nil)))) (fun _ _ _ _ _ => ptsd_nil) (fun _ _ _ _ _ => pd_callF (ok_count_at_first T) (hr.mono (by decide)) (by rfl) T.m_count_at_first T.f_count_at_first.kp T.b_count_at_first (pad_cons (pd_v 2) (pad_cons (pd_v 3) (pad_cons (pd_v 4) (pad_nil)))))))), rd_begun_by⟩
theorem ok_counted_by (T : Tx PlC.K mg) : FnOk P w PlC.K mg base CX0 4 T.a_counted_by T.d_counted_by ["wishes", "counts", "marked"] (upSp PlC.K sp_counted_by) :=
  okD T.f_counted_by sc_counted_by ln_counted_by fun cdv A outer s H E hr => ⟨bd_counted_by, pbd_cons (psd_set (i := 3) sc_counted_by.nd rfl (by first | exact .inl rfl | exact .inr rfl) (pd_lstO (pad_nil))) (pbd_cons (psd_for PassesOwn.never rfl (pid_zip3 (by rfl) T.z_zip (pd_v 0) (pd_v 1) (pd_v 2)) (pgd_tup (K := PlC.K) rfl (pgds_cons (pgd_name (i := 4) sc_counted_by.nd rfl (by first | exact .inl rfl | exact .inr rfl)) (pgds_cons (pgd_name (i := 5) sc_counted_by.nd rfl (by first | exact .inl rfl | exact .inr rfl)) (pgds_cons (pgd_tup (K := PlC.K) rfl (pgds_cons (pgd_name (i := 6) sc_counted_by.nd rfl (by first | exact .inl rfl | exact .inr rfl)) (pgds_cons (pgd_name (i := 7) sc_counted_by.nd rfl (by first | exact .inl rfl | exact .inr rfl)) (pgds_nil)))) (pgds_nil))))) (pbd_one (psd_app (pd_v 3) (pd_callF (ok_next_count T) (hr.mono (by decide)) (by rfl) T.m_next_count T.f_next_count.kp T.b_next_count (pad_cons (pd_v 4) (pad_cons (pd_v 5) (pad_cons (pd_v 6) (pad_cons (pd_v 7) (pad_nil))))))))) (pbd_one (psd_ret (pd_tupleX (by rfl) T.z_tuple (pd_v 3))))), rd_counted_by⟩
theorem ok_begun (T : Tx PlC.K mg) : FnOk P w PlC.K mg base CX0 4 T.a_begun T.d_begun ["wishes", "place"] (upSp PlC.K sp_begun) :=
  okD T.f_begun sc_begun ln_begun fun cdv A outer s H E hr => ⟨bd_begun, pbd_one (psd_ret (pd_callF (ok_begun_by T) (hr.mono (by decide)) (by rfl) T.m_begun_by T.f_begun_by.kp T.b_begun_by (pad_cons (pd_v 0) (pad_cons (pd_callF (ok_marks T) (hr.mono (by decide)) (by rfl) T.m_marks T.f_marks.kp T.b_marks (pad_cons (pd_v 0) (pad_cons (pd_v 1) (pad_nil)))) (pad_nil))))), rd_begun⟩
theorem ok_counted (T : Tx PlC.K mg) : FnOk P w PlC.K mg base CX0 5 T.a_counted T.d_counted ["wishes", "counts", "place"] (upSp PlC.K sp_counted) :=
  okD T.f_counted sc_counted ln_counted fun cdv A outer s H E hr => ⟨bd_counted, pbd_one (psd_ret (pd_callF (ok_counted_by T) (hr.mono (by decide)) (by rfl) T.m_counted_by T.f_counted_by.kp T.b_counted_by (pad_cons (pd_v 0) (pad_cons (pd_v 1) (pad_cons (pd_callF (ok_marks T) (hr.mono (by decide)) (by rfl) T.m_marks T.f_marks.kp T.b_marks (pad_cons (pd_v 0) (pad_cons (pd_v 2) (pad_nil)))) (pad_nil)))))), rd_counted⟩
theorem ok_first_broken (T : Tx PlC.K mg) : FnOk P w PlC.K mg base CX0 1 T.a_first_broken T.d_first_broken ["counts"] (upSp PlC.K sp_first_broken) :=
  okD T.f_first_broken sc_first_broken ln_first_broken fun cdv A outer s H E hr => ⟨bd_first_broken, pbd_cons (psd_for PassesOwn.never rfl (pid_enumT (by rfl) T.z_enumerate (pd_v 0)) (pgd_tup (K := PlC.K) rfl (pgds_cons (pgd_name (i := 1) sc_first_broken.nd rfl (by first | exact .inl rfl | exact .inr rfl)) (pgds_cons (pgd_name (i := 2) sc_first_broken.nd rfl (by first | exact .inl rfl | exact .inr rfl)) (pgds_nil)))) (pbd_one (psd_if (ptd_is (pd_v 2) (pd_non)) (pbd_one (psd_ret (pd_v 1))) (pbd_nil)))) (pbd_one (psd_ret (pd_non))), rd_first_broken⟩
theorem ok_broken (T : Tx PlC.K mg) : FnOk P w PlC.K mg base CX0 6 T.a_broken T.d_broken ["wishes", "places"] (upSp PlC.K sp_broken) :=
  okD T.f_broken sc_broken ln_broken fun cdv A outer s H E hr => ⟨bd_broken, pbd_cons (psd_set (i := 2) sc_broken.nd rfl (by first | exact .inl rfl | exact .inr rfl) (pd_callF (ok_begun T) (hr.mono (by decide)) (by rfl) T.m_begun T.f_begun.kp T.b_begun (pad_cons (pd_v 0) (pad_cons (pd_ix ix_seq od_ix (pd_v 1) (pd_int)) (pad_nil))))) (pbd_cons (psd_for PassesOwn.never rfl (pid_enumT (by rfl) T.z_enumerate (pd_v 1)) (pgd_tup (K := PlC.K) rfl (pgds_cons (pgd_name (i := 3) sc_broken.nd rfl (by first | exact .inl rfl | exact .inr rfl)) (pgds_cons (pgd_name (i := 4) sc_broken.nd rfl (by first | exact .inl rfl | exact .inr rfl)) (pgds_nil)))) (pbd_cons (psd_if (ptd_gt (pd_v 3) (pd_int)) (pbd_one (psd_set (i := 2) sc_broken.nd rfl (by first | exact .inl rfl | exact .inr rfl) (pd_callF (ok_counted T) (hr.mono (by decide)) (by rfl) T.m_counted T.f_counted.kp T.b_counted (pad_cons (pd_v 0) (pad_cons (pd_v 2) (pad_cons (pd_v 4) (pad_nil))))))) (pbd_nil)) (pbd_cons (psd_set (i := 5) sc_broken.nd rfl (by first | exact .inl rfl | exact .inr rfl) (pd_callF (ok_first_broken T) (hr.mono (by decide)) (by rfl) T.m_first_broken T.f_first_broken.kp T.b_first_broken (pad_cons (pd_v 2) (pad_nil)))) (pbd_one (psd_if (ptd_isnot (pd_v 5) (pd_non)) (pbd_one (psd_ret (pd_tup (pad_cons (pd_v 3) (pad_cons (pd_v 5) (pad_nil)))))) (pbd_nil)))))) (pbd_one (psd_ret (pd_non)))), rd_broken⟩
theorem ok__law_hand (T : Tx PlC.K mg) : FnOk P w PlC.K mg base CX0 1 T.a__law_hand T.d__law_hand ["script"] (upSp PlC.K sp__law_hand) :=
  okD T.f__law_hand sc__law_hand ln__law_hand fun cdv A outer s H E hr => ⟨bd__law_hand, pbd_cons (psd_setLc (own := [("cell", 2)]) (i := 1) rfl sc__law_hand.nd rfl rfl (sw_true rfl rfl rfl (by decide +kernel)) (pid_seq (pd_slice (pd_v 0) (pod_none) (pod_some (pd_int)))) (blkOk_by (by dsimp only [cxOf, Cx.nox, Cx.wish, Cx.blk, compEnvC, envOfC, relabel_S]; decide +kernel)) (by decide) (fun _ _ _ _ _ => pgd_name (i := 2) sc__law_hand.nd rfl (by first | exact .inl rfl | exact .inr rfl)) (fun _ _ _ _ _ => ptsd_nil) (fun _ _ _ _ _ => pd_callB call_abs cd_abs (by rfl) T.z_abs boot_abs (pad_cons (pd_callTy call_int1 cd_int (by rfl) T.z_int boot_int (pad_cons (pd_v 2) (pad_nil))) (pad_nil)))) (pbd_one (psd_ret (pd_lstO (pad_cons (pd_v 1) (pad_cons (pd_int) (pad_cons (pd_int) (pad_cons (pd_addA (pd_int) (pd_mul (pd_int) (pd_callB call_len_seq cd_len (by rfl) T.z_len boot_len (pad_cons (pd_v 1) (pad_nil))))) (pad_cons (pd_int) (pad_nil))))))))), rd__law_hand⟩
theorem ok__law_draw (T : Tx PlC.K mg) : FnOk P w PlC.K mg base CX0 1 T.a__law_draw T.d__law_draw ["hand", "many"] (upSp PlC.K sp__law_draw) :=
  okD T.f__law_draw sc__law_draw ln__law_draw fun cdv A outer s H E hr => ⟨bd__law_draw, pbd_cons (psd_if (ptd_w (pwd_and (ptd_eq (pd_ix ix_seq od_ix (pd_v 0) (pd_int)) (pd_int)) (pwd_and1 (ptd_lt (pd_ix ix_seq od_ix (pd_v 0) (pd_int)) (pd_callB call_len_seq cd_len (by rfl) T.z_len boot_len (pad_cons (pd_ix ix_seq od_ix (pd_v 0) (pd_int)) (pad_nil))))))) (pbd_cons (psd_set (i := 3) sc__law_draw.nd rfl (by first | exact .inl rfl | exact .inr rfl) (pd_ix ix_seq od_ix (pd_ix ix_seq od_ix (pd_v 0) (pd_int)) (pd_ix ix_seq od_ix (pd_v 0) (pd_int)))) (pbd_cons (psd_setix (pd_v 0) (pd_int) (pd_addA (pd_ix ix_seq od_ix (pd_v 0) (pd_int)) (pd_int))) (pbd_cons (psd_setix (pd_v 0) (pd_int) (pd_mod (pd_callTy call_int1 cd_int (by rfl) T.z_int boot_int (pad_cons (pd_addA (pd_addA (pd_mul (pd_ix ix_seq od_ix (pd_v 0) (pd_int)) (pd_int)) (pd_v 3)) (pd_int)) (pad_nil))) (pd_int))) (pbd_one (psd_if (ptd_ge (pd_v 3) (pd_pow (pd_int) (pd_int))) (pbd_one (psd_setix (pd_v 0) (pd_int) (pd_v 3))) (pbd_nil)))))) (pbd_nil)) (pbd_cons (psd_if (ptd_gt (pd_ix ix_seq od_ix (pd_v 0) (pd_int)) (pd_int)) (pbd_cons (psd_set (i := 4) sc__law_draw.nd rfl (by first | exact .inl rfl | exact .inr rfl) (pd_mod (pd_callTy call_int1 cd_int (by rfl) T.z_int boot_int (pad_cons (pd_ix ix_seq od_ix (pd_v 0) (pd_int)) (pad_nil))) (pd_v 1))) (pbd_cons (psd_setix (pd_v 0) (pd_int) (pd_fdiv (pd_ix ix_seq od_ix (pd_v 0) (pd_int)) (pd_v 1))) (pbd_one (psd_ret (pd_v 4))))) (pbd_nil)) (pbd_cons (psd_setix (pd_v 0) (pd_int) (pd_addA (pd_ix ix_seq od_ix (pd_v 0) (pd_int)) (pd_int))) (pbd_cons (psd_set (i := 2) sc__law_draw.nd rfl (by first | exact .inl rfl | exact .inr rfl) (pd_mod (pd_callTy call_int1 cd_int (by rfl) T.z_int boot_int (pad_cons (pd_mul (pd_callTy call_int1 cd_int (by rfl) T.z_int boot_int (pad_cons (pd_addA (pd_ix ix_seq od_ix (pd_v 0) (pd_int)) (pd_mul (pd_int) (pd_ix ix_seq od_ix (pd_v 0) (pd_int)))) (pad_nil))) (pd_int)) (pad_nil))) (pd_int))) (pbd_cons (psd_set (i := 2) sc__law_draw.nd rfl (by first | exact .inl rfl | exact .inr rfl) (pd_mod (pd_callTy call_int1 cd_int (by rfl) T.z_int boot_int (pad_cons (pd_mul (pd_v 2) (pd_addA (pd_fdiv (pd_v 2) (pd_int)) (pd_int))) (pad_nil))) (pd_int))) (pbd_cons (psd_set (i := 2) sc__law_draw.nd rfl (by first | exact .inl rfl | exact .inr rfl) (pd_mod (pd_callTy call_int1 cd_int (by rfl) T.z_int boot_int (pad_cons (pd_mul (pd_v 2) (pd_addA (pd_fdiv (pd_v 2) (pd_int)) (pd_int))) (pad_nil))) (pd_int))) (pbd_one (psd_ret (pd_mod (pd_callTy call_int1 cd_int (by rfl) T.z_int boot_int (pad_cons (pd_fdiv (pd_v 2) (pd_int)) (pad_nil))) (pd_v 1))))))))), rd__law_draw⟩
theorem ok__law_some (T : Tx PlC.K mg) : FnOk P w PlC.K mg base CX0 2 T.a__law_some T.d__law_some ["hand", "things"] (upSp PlC.K sp__law_some) :=
  okD T.f__law_some sc__law_some ln__law_some fun cdv A outer s H E hr => ⟨bd__law_some, pbd_one (psd_ret (pd_ix ix_seq od_ix (pd_v 1) (pd_callF (ok__law_draw T) (hr.mono (by decide)) (by rfl) T.m__law_draw T.f__law_draw.kp T.b__law_draw (pad_cons (pd_v 0) (pad_cons (pd_callB call_len_seq cd_len (by rfl) T.z_len boot_len (pad_cons (pd_v 1) (pad_nil))) (pad_nil)))))), rd__law_some⟩
theorem ok__law_deep (T : Tx PlC.K mg) : FnOk P w PlC.K mg base CX0 2 T.a__law_deep T.d__law_deep ["hand", "thing"] (upSp PlC.K sp__law_deep) :=
  okD T.f__law_deep sc__law_deep ln__law_deep fun cdv A outer s H E hr => ⟨bd__law_deep, pbd_cons (psd_for PassesOwn.never rfl (pid_range1 (by rfl) T.z_range (pd_addA (pd_int) (pd_callF (ok__law_draw T) (hr.mono (by decide)) (by rfl) T.m__law_draw T.f__law_draw.kp T.b__law_draw (pad_cons (pd_v 0) (pad_cons (pd_int) (pad_nil)))))) (pgd_name (i := 2) sc__law_deep.nd rfl (by first | exact .inl rfl | exact .inr rfl)) (pbd_one (psd_set (i := 1) sc__law_deep.nd rfl (by first | exact .inl rfl | exact .inr rfl) (pd_ifE (ptd_eq (pd_callF (ok__law_draw T) (hr.mono (by decide)) (by rfl) T.m__law_draw T.f__law_draw.kp T.b__law_draw (pad_cons (pd_v 0) (pad_cons (pd_int) (pad_nil)))) (pd_int)) (pd_tup (pad_cons (pd_v 1) (pad_nil))) (pd_lst (pad_cons (pd_v 1) (pad_nil))))))) (pbd_one (psd_ret (pd_v 1))), rd__law_deep⟩
theorem ok__law_in (T : Tx PlC.K mg) : FnOk P w PlC.K mg base CX0 1 T.a__law_in T.d__law_in ["area", "place"] (upSp PlC.K sp__law_in) :=
  okD T.f__law_in sc__law_in ln__law_in fun cdv A outer s H E hr => ⟨bd__law_in, pbd_one (psd_ret (pd_callB (cr_any rfl) cd_bools (by rfl) T.z_any boot_any (pad_cons (pd_lc (own := [("box", 2)]) rfl sc__law_in.nd (pid_seq (pd_v 0)) (blkOk_by (by dsimp only [cxOf, Cx.nox, Cx.wish, Cx.blk, compEnvC, envOfC, relabel_S]; decide +kernel)) (by decide) (fun _ _ _ _ _ => pgd_name (i := 2) sc__law_in.nd rfl (by first | exact .inl rfl | exact .inr rfl)) (fun _ _ _ _ _ => ptsd_nil) (fun _ _ _ _ _ => pd_callB (cr_all rfl) cd_bools (by rfl) T.z_all boot_all (pad_cons (pd_lc (own := [("one", 3), ("low", 4), ("high", 5)]) rfl sc__law_in.nd (pid_zip (by rfl) T.z_zip (pd_v 1) (pd_v 2)) (blkOk_by (by dsimp only [cxOf, Cx.nox, Cx.wish, Cx.blk, compEnvC, envOfC, relabel_S]; decide +kernel)) (by decide) (fun _ _ _ _ _ => pgd_tup (K := PlC.K) rfl (pgds_cons (pgd_name (i := 3) sc__law_in.nd rfl (by first | exact .inl rfl | exact .inr rfl)) (pgds_cons (pgd_tup (K := PlC.K) rfl (pgds_cons (pgd_name (i := 4) sc__law_in.nd rfl (by first | exact .inl rfl | exact .inr rfl)) (pgds_cons (pgd_name (i := 5) sc__law_in.nd rfl (by first | exact .inl rfl | exact .inr rfl)) (pgds_nil)))) (pgds_nil)))) (fun _ _ _ _ _ => ptsd_nil) (fun _ _ _ _ _ => pd_lele (pd_v 4) (pd_v 3) (pd_v 5))) (pad_nil)))) (pad_nil)))), rd__law_in⟩
theorem ok__law_breaks (T : Tx PlC.K mg) : FnOk P w PlC.K mg base CX0 2 T.a__law_breaks T.d__law_breaks ["wish", "places", "at"] (upSp PlC.K sp__law_breaks) :=
  okD T.f__law_breaks sc__law_breaks ln__law_breaks fun cdv A outer s H E hr => ⟨bd__law_breaks, pbd_cons (psd_par (i := 4) (j := 5) rfl sc__law_breaks.nd rfl rfl (by decide) rfl rfl (pad_cons (pd_ix ix_seq od_ix (pd_v 0) (pd_int)) (pad_cons (pd_lc (own := [("place", 6)]) rfl sc__law_breaks.nd (pid_seq (pd_slice (pd_v 1) (pod_none) (pod_some (pd_addA (pd_v 2) (pd_int))))) (blkOk_by (by dsimp only [cxOf, Cx.nox, Cx.wish, Cx.blk, compEnvC, envOfC, relabel_S]; decide +kernel)) (by decide) (fun _ _ _ _ _ => pgd_name (i := 6) sc__law_breaks.nd rfl (by first | exact .inl rfl | exact .inr rfl)) (fun _ _ _ _ _ => ptsd_nil) (fun _ _ _ _ _ => pd_callF (ok__law_in T) (hr.mono (by decide)) (by rfl) T.m__law_in T.f__law_in.kp T.b__law_in (pad_cons (pd_ix ix_seq od_ix (pd_v 0) (pd_int)) (pad_cons (pd_v 6) (pad_nil))))) (pad_nil))) (by rfl)) (pbd_cons (psd_if (ptd_eq (pd_v 4) (pd_str)) (pbd_one (psd_ret (pd_ix ix_seq od_ix (pd_v 5) (pd_v 2)))) (pbd_nil)) (pbd_cons (psd_if (ptd_eq (pd_v 4) (pd_str)) (pbd_one (psd_ret (pd_and (pd_eq (pd_v 2) (pd_ix ix_seq od_ix (pd_v 0) (pd_int))) (pd_one (pd_not (pd_callB (cr_any rfl) cd_bools (by rfl) T.z_any boot_any (pad_cons (pd_v 5) (pad_nil)))))))) (pbd_nil)) (pbd_cons (psd_if (ptd_eq (pd_v 4) (pd_str)) (pbd_one (psd_ret (pd_and (pd_ge (pd_v 2) (pd_ix ix_seq od_ix (pd_v 0) (pd_int))) (pd_one (pd_not (pd_callB (cr_any rfl) cd_bools (by rfl) T.z_any boot_any (pad_cons (pd_slice (pd_v 5) (pod_some (pd_sub (pd_v 2) (pd_ix ix_seq od_ix (pd_v 0) (pd_int)))) (pod_none)) (pad_nil)))))))) (pbd_nil)) (pbd_cons (psd_setLc (own := [("place", 6)]) (i := 3) rfl sc__law_breaks.nd rfl rfl (sw_true rfl rfl rfl (by decide +kernel)) (pid_seq (pd_slice (pd_v 1) (pod_none) (pod_some (pd_addA (pd_v 2) (pd_int))))) (blkOk_by (by dsimp only [cxOf, Cx.nox, Cx.wish, Cx.blk, compEnvC, envOfC, relabel_S]; decide +kernel)) (by decide) (fun _ _ _ _ _ => pgd_name (i := 6) sc__law_breaks.nd rfl (by first | exact .inl rfl | exact .inr rfl)) (fun _ _ _ _ _ => ptsd_nil) (fun _ _ _ _ _ => pd_callF (ok__law_in T) (hr.mono (by decide)) (by rfl) T.m__law_in T.f__law_in.kp T.b__law_in (pad_cons (pd_ix ix_seq od_ix (pd_v 0) (pd_int)) (pad_cons (pd_v 6) (pad_nil))))) (pbd_cons (psd_if (ptd_eq (pd_v 4) (pd_str)) (pbd_one (psd_ret (pd_and (pd_ix ix_seq od_ix (pd_v 3) (pd_v 2)) (pd_one (pd_not (pd_callB (cr_any rfl) cd_bools (by rfl) T.z_any boot_any (pad_cons (pd_v 5) (pad_nil)))))))) (pbd_nil)) (pbd_one (psd_ret (pd_and (pd_ge (pd_v 2) (pd_ix ix_seq od_ix (pd_v 0) (pd_int))) (pd_and (pd_ix ix_seq od_ix (pd_v 5) (pd_sub (pd_v 2) (pd_ix ix_seq od_ix (pd_v 0) (pd_int)))) (pd_one (pd_not (pd_callB (cr_any rfl) cd_bools (by rfl) T.z_any boot_any (pad_cons (pd_slice (pd_v 3) (pod_some (pd_sub (pd_v 2) (pd_ix ix_seq od_ix (pd_v 0) (pd_int)))) (pod_none)) (pad_nil)))))))))))))), rd__law_breaks⟩
theorem ok__law_box (T : Tx PlC.K mg) : FnOk P w PlC.K mg base CX0 3 T.a__law_box T.d__law_box ["hand", "axes"] (upSp PlC.K sp__law_box) :=
  okD T.f__law_box sc__law_box ln__law_box fun cdv A outer s H E hr => ⟨bd__law_box, pbd_cons (psd_set (i := 2) sc__law_box.nd rfl (by first | exact .inl rfl | exact .inr rfl) (pd_lstO (pad_nil))) (pbd_cons (psd_for PassesOwn.never rfl (pid_range1 (by rfl) T.z_range (pd_v 1)) (pgd_name (i := 3) sc__law_box.nd rfl (by first | exact .inl rfl | exact .inr rfl)) (pbd_cons (psd_set (i := 4) sc__law_box.nd rfl (by first | exact .inl rfl | exact .inr rfl) (pd_callF (ok__law_draw T) (hr.mono (by decide)) (by rfl) T.m__law_draw T.f__law_draw.kp T.b__law_draw (pad_cons (pd_v 0) (pad_cons (pd_int) (pad_nil))))) (pbd_one (psd_app (pd_v 2) (pd_tup (pad_cons (pd_v 4) (pad_cons (pd_addA (pd_v 4) (pd_callF (ok__law_some T) (hr.mono (by decide)) (by rfl) T.m__law_some T.f__law_some.kp T.b__law_some (pad_cons (pd_v 0) (pad_cons (pd_lst (pad_cons (pd_int) (pad_cons (pd_int) (pad_cons (pd_int) (pad_cons (pd_int) (pad_cons (pd_int) (pad_nil))))))) (pad_nil))))) (pad_nil)))))))) (pbd_one (psd_ret (pd_tupleX (by rfl) T.z_tuple (pd_v 2))))), rd__law_box⟩
theorem ok__law_area (T : Tx PlC.K mg) : FnOk P w PlC.K mg base CX0 4 T.a__law_area T.d__law_area ["hand", "axes"] (upSp PlC.K sp__law_area) :=
  okD T.f__law_area sc__law_area ln__law_area fun cdv A outer s H E hr => ⟨bd__law_area, pbd_one (psd_ret (pd_tuple (by rfl) T.z_tuple (pd_lc (own := [("turn", 2)]) rfl sc__law_area.nd (pid_range1 (by rfl) T.z_range (pd_callF (ok__law_some T) (hr.mono (by decide)) (by rfl) T.m__law_some T.f__law_some.kp T.b__law_some (pad_cons (pd_v 0) (pad_cons (pd_lst (pad_cons (pd_int) (pad_cons (pd_int) (pad_cons (pd_int) (pad_cons (pd_int) (pad_cons (pd_int) (pad_cons (pd_int) (pad_cons (pd_int) (pad_nil))))))))) (pad_nil))))) (blkOk_by (by dsimp only [cxOf, Cx.nox, Cx.wish, Cx.blk, compEnvC, envOfC, relabel_S]; decide +kernel)) (by decide) (fun _ _ _ _ _ => pgd_name (i := 2) sc__law_area.nd rfl (by first | exact .inl rfl | exact .inr rfl)) (fun _ _ _ _ _ => ptsd_nil) (fun _ _ _ _ _ => pd_callF (ok__law_box T) (hr.mono (by decide)) (by rfl) T.m__law_box T.f__law_box.kp T.b__law_box (pad_cons (pd_v 0) (pad_cons (pd_v 1) (pad_nil))))))), rd__law_area⟩
theorem ok__law_wish (T : Tx PlC.K mg) : FnOk P w PlC.K mg base CX0 5 T.a__law_wish T.d__law_wish ["hand", "axes"] (upSp PlC.K sp__law_wish) :=
  okD T.f__law_wish sc__law_wish ln__law_wish fun cdv A outer s H E hr => ⟨bd__law_wish, pbd_cons (psd_par3 (i := 3) (j := 4) (l := 5) rfl sc__law_wish.nd rfl rfl rfl (by decide) (by decide) (by decide) rfl rfl rfl (pad_cons (pd_callF (ok__law_area T) (hr.mono (by decide)) (by rfl) T.m__law_area T.f__law_area.kp T.b__law_area (pad_cons (pd_v 0) (pad_cons (pd_v 1) (pad_nil)))) (pad_cons (pd_callF (ok__law_area T) (hr.mono (by decide)) (by rfl) T.m__law_area T.f__law_area.kp T.b__law_area (pad_cons (pd_v 0) (pad_cons (pd_v 1) (pad_nil)))) (pad_cons (pd_callF (ok__law_some T) (hr.mono (by decide)) (by rfl) T.m__law_some T.f__law_some.kp T.b__law_some (pad_cons (pd_v 0) (pad_cons (pd_lst (pad_cons (pd_int) (pad_cons (pd_int) (pad_cons (pd_int) (pad_cons (pd_int) (pad_cons (pd_int) (pad_cons (pd_int) (pad_cons (pd_int) (pad_cons (pd_int) (pad_nil)))))))))) (pad_nil)))) (pad_nil)))) (by rfl)) (pbd_cons (psd_set (i := 2) sc__law_wish.nd rfl (by first | exact .inl rfl | exact .inr rfl) (pd_lst (pad_cons (pd_tup (pad_cons (pd_str) (pad_cons (pd_v 3) (pad_nil)))) (pad_cons (pd_tup (pad_cons (pd_str) (pad_cons (pd_v 3) (pad_cons (pd_v 5) (pad_nil))))) (pad_cons (pd_tup (pad_cons (pd_str) (pad_cons (pd_v 3) (pad_cons (pd_v 4) (pad_cons (pd_v 5) (pad_nil)))))) (pad_cons (pd_tup (pad_cons (pd_str) (pad_cons (pd_v 3) (pad_cons (pd_v 4) (pad_nil))))) (pad_cons (pd_tup (pad_cons (pd_str) (pad_cons (pd_v 3) (pad_cons (pd_v 5) (pad_nil))))) (pad_nil)))))))) (pbd_one (psd_ret (pd_callF (ok__law_some T) (hr.mono (by decide)) (by rfl) T.m__law_some T.f__law_some.kp T.b__law_some (pad_cons (pd_v 0) (pad_cons (pd_v 2) (pad_nil))))))), rd__law_wish⟩
theorem ok__law_places (T : Tx PlC.K mg) : FnOk P w PlC.K mg base CX0 2 T.a__law_places T.d__law_places ["hand", "axes", "many"] (upSp PlC.K sp__law_places) :=
  okD T.f__law_places sc__law_places ln__law_places fun cdv A outer s H E hr => ⟨bd__law_places, pbd_cons (psd_set (i := 3) sc__law_places.nd rfl (by first | exact .inl rfl | exact .inr rfl) (pd_tuple (by rfl) T.z_tuple (pd_lc (own := [("axis", 6)]) rfl sc__law_places.nd (pid_range1 (by rfl) T.z_range (pd_v 1)) (blkOk_by (by dsimp only [cxOf, Cx.nox, Cx.wish, Cx.blk, compEnvC, envOfC, relabel_S]; decide +kernel)) (by decide) (fun _ _ _ _ _ => pgd_name (i := 6) sc__law_places.nd rfl (by first | exact .inl rfl | exact .inr rfl)) (fun _ _ _ _ _ => ptsd_nil) (fun _ _ _ _ _ => pd_callF (ok__law_draw T) (hr.mono (by decide)) (by rfl) T.m__law_draw T.f__law_draw.kp T.b__law_draw (pad_cons (pd_v 0) (pad_cons (pd_int) (pad_nil))))))) (pbd_cons (psd_set (i := 4) sc__law_places.nd rfl (by first | exact .inl rfl | exact .inr rfl) (pd_lstO (pad_cons (pd_v 3) (pad_nil)))) (pbd_cons (psd_for PassesOwn.never rfl (pid_range1 (by rfl) T.z_range (pd_v 2)) (pgd_name (i := 5) sc__law_places.nd rfl (by first | exact .inl rfl | exact .inr rfl)) (pbd_cons (psd_if (ptd_gt (pd_callF (ok__law_draw T) (hr.mono (by decide)) (by rfl) T.m__law_draw T.f__law_draw.kp T.b__law_draw (pad_cons (pd_v 0) (pad_cons (pd_int) (pad_nil)))) (pd_int)) (pbd_one (psd_set (i := 3) sc__law_places.nd rfl (by first | exact .inl rfl | exact .inr rfl) (pd_tuple (by rfl) T.z_tuple (pd_lc (own := [("one", 7)]) rfl sc__law_places.nd (pid_seq (pd_v 3)) (blkOk_by (by dsimp only [cxOf, Cx.nox, Cx.wish, Cx.blk, compEnvC, envOfC, relabel_S]; decide +kernel)) (by decide) (fun _ _ _ _ _ => pgd_name (i := 7) sc__law_places.nd rfl (by first | exact .inl rfl | exact .inr rfl)) (fun _ _ _ _ _ => ptsd_nil) (fun _ _ _ _ _ => pd_callB (call_max2 rfl) cd_two (by rfl) T.z_max boot_max (pad_cons (pd_int) (pad_cons (pd_callB (call_min2 rfl) cd_two (by rfl) T.z_min boot_min (pad_cons (pd_int) (pad_cons (pd_sub (pd_addA (pd_v 7) (pd_callF (ok__law_draw T) (hr.mono (by decide)) (by rfl) T.m__law_draw T.f__law_draw.kp T.b__law_draw (pad_cons (pd_v 0) (pad_cons (pd_int) (pad_nil))))) (pd_int)) (pad_nil)))) (pad_nil)))))))) (pbd_nil)) (pbd_one (psd_app (pd_v 4) (pd_v 3))))) (pbd_one (psd_ret (pd_frz (pd_v 4)))))), rd__law_places⟩
theorem ok__law_is_int (T : Tx PlC.K mg) : FnOk P w PlC.K mg base CX0 1 T.a__law_is_int T.d__law_is_int ["thing", "low", "high"] (upSp PlC.K sp__law_is_int) :=
  okD T.f__law_is_int sc__law_is_int ln__law_is_int fun cdv A outer s H E hr => ⟨bd__law_is_int, pbd_one (psd_ret (pd_and (pd_callB call_isi cd_isi (by rfl) T.z_isinstance boot_isinstance (pad_cons (pd_v 0) (pad_cons (pd_tyc (by rfl) T.z_int boot_int) (pad_nil)))) (pd_and (pd_not (pd_callB call_isi cd_isi (by rfl) T.z_isinstance boot_isinstance (pad_cons (pd_v 0) (pad_cons (pd_tyc (by rfl) T.z_bool boot_bool) (pad_nil))))) (pd_one (pd_lele (pd_v 1) (pd_v 0) (pd_v 2)))))), rd__law_is_int⟩
theorem ok__law_is_area (T : Tx PlC.K mg) : FnOk P w PlC.K mg base CX0 2 T.a__law_is_area T.d__law_is_area ["thing", "axes"] (upSp PlC.K sp__law_is_area) :=
  okD T.f__law_is_area sc__law_is_area ln__law_is_area fun cdv A outer s H E hr => ⟨bd__law_is_area, pbd_cons (psd_if (ptd_w (pwd_or (ptd_not (ptd_val (pd_callB call_isi cd_isi (by rfl) T.z_isinstance boot_isinstance (pad_cons (pd_v 0) (pad_cons (pd_tyc (by rfl) T.z_tuple boot_tuple) (pad_nil)))))) (pwd_or1 (ptd_gt (pd_callB call_len_seq cd_len (by rfl) T.z_len boot_len (pad_cons (pd_v 0) (pad_nil))) (pd_int))))) (pbd_one (psd_ret (pd_bl))) (pbd_nil)) (pbd_cons (psd_for PassesOwn.never rfl (pid_seq (pd_v 0)) (pgd_name (i := 2) sc__law_is_area.nd rfl (by first | exact .inl rfl | exact .inr rfl)) (pbd_cons (psd_if (ptd_w (pwd_or (ptd_not (ptd_val (pd_callB call_isi cd_isi (by rfl) T.z_isinstance boot_isinstance (pad_cons (pd_v 2) (pad_cons (pd_tyc (by rfl) T.z_tuple boot_tuple) (pad_nil)))))) (pwd_or1 (ptd_ne (pd_callB call_len_seq cd_len (by rfl) T.z_len boot_len (pad_cons (pd_v 2) (pad_nil))) (pd_v 1))))) (pbd_one (psd_ret (pd_bl))) (pbd_nil)) (pbd_one (psd_for PassesOwn.never rfl (pid_seq (pd_v 2)) (pgd_name (i := 3) sc__law_is_area.nd rfl (by first | exact .inl rfl | exact .inr rfl)) (pbd_cons (psd_if (ptd_w (pwd_or (ptd_not (ptd_val (pd_callB call_isi cd_isi (by rfl) T.z_isinstance boot_isinstance (pad_cons (pd_v 3) (pad_cons (pd_tyc (by rfl) T.z_tuple boot_tuple) (pad_nil)))))) (pwd_or1 (ptd_ne (pd_callB call_len_seq cd_len (by rfl) T.z_len boot_len (pad_cons (pd_v 3) (pad_nil))) (pd_int))))) (pbd_one (psd_ret (pd_bl))) (pbd_nil)) (pbd_one (psd_if (ptd_w (pwd_or (ptd_not (ptd_val (pd_callB (cr_all rfl) cd_bools (by rfl) T.z_all boot_all (pad_cons (pd_lc (own := [("one", 4)]) rfl sc__law_is_area.nd (pid_seq (pd_v 3)) (blkOk_by (by dsimp only [cxOf, Cx.nox, Cx.wish, Cx.blk, compEnvC, envOfC, relabel_S]; decide +kernel)) (by decide) (fun _ _ _ _ _ => pgd_name (i := 4) sc__law_is_area.nd rfl (by first | exact .inl rfl | exact .inr rfl)) (fun _ _ _ _ _ => ptsd_nil) (fun _ _ _ _ _ => pd_callF (ok__law_is_int T) (hr.mono (by decide)) (by rfl) T.m__law_is_int T.f__law_is_int.kp T.b__law_is_int (pad_cons (pd_v 4) (pad_cons (pd_neg (pd_int)) (pad_cons (pd_int) (pad_nil)))))) (pad_nil))))) (pwd_or1 (ptd_gt (pd_ix ix_seq od_ix (pd_v 3) (pd_int)) (pd_ix ix_seq od_ix (pd_v 3) (pd_int)))))) (pbd_one (psd_ret (pd_bl))) (pbd_nil)))))))) (pbd_one (psd_ret (pd_bl)))), rd__law_is_area⟩
theorem ok__law_is_wish (T : Tx PlC.K mg) : FnOk P w PlC.K mg base CX0 3 T.a__law_is_wish T.d__law_is_wish ["thing", "axes"] (upSp PlC.K sp__law_is_wish) :=
  okD T.f__law_is_wish sc__law_is_wish ln__law_is_wish fun cdv A outer s H E hr => ⟨bd__law_is_wish, pbd_cons (psd_if (ptd_w (pwd_or (ptd_not (ptd_val (pd_callB call_isi cd_isi (by rfl) T.z_isinstance boot_isinstance (pad_cons (pd_v 0) (pad_cons (pd_tyc (by rfl) T.z_tuple boot_tuple) (pad_nil)))))) (pwd_or (ptd_eq (pd_callB call_len_seq cd_len (by rfl) T.z_len boot_len (pad_cons (pd_v 0) (pad_nil))) (pd_int)) (pwd_or1 (ptd_not (ptd_val (pd_callB call_isi cd_isi (by rfl) T.z_isinstance boot_isinstance (pad_cons (pd_ix ix_seq od_ix (pd_v 0) (pd_int)) (pad_cons (pd_tyc (by rfl) T.z_str boot_str) (pad_nil)))))))))) (pbd_one (psd_ret (pd_bl))) (pbd_nil)) (pbd_cons (psd_set (i := 2) sc__law_is_wish.nd rfl (by first | exact .inl rfl | exact .inr rfl) (pd_getT (tbl := ([("never", "a"), ("within", "ak"), ("answered", "aak"), ("ahead", "aa"), ("again", "ak")] : List (Str × Str))) (hu_of hr) (pps_cons pe_str pe_str (pps_cons pe_str pe_str (pps_cons pe_str pe_str (pps_cons pe_str pe_str (pps_cons pe_str pe_str (pps_nil)))))) (pd_ix ix_seq od_ix (pd_v 0) (pd_int)) pe_non ⟨by rfl, by rfl, by rfl, by rfl⟩ (by decide +kernel) (by rfl) (by rfl) (by simp) (by decide) (by decide))) (pbd_cons (psd_if (ptd_w (pwd_or (ptd_is (pd_v 2) (pd_non)) (pwd_or1 (ptd_ne (pd_callB call_len_seq cd_len (by rfl) T.z_len boot_len (pad_cons (pd_v 0) (pad_nil))) (pd_addA (pd_int) (pd_callB call_len_str cd_lenS (by rfl) T.z_len boot_len (pad_cons (pd_v 2) (pad_nil)))))))) (pbd_one (psd_ret (pd_bl))) (pbd_nil)) (pbd_cons (psd_for PassesOwn.never rfl (pid_zipS (by rfl) T.z_zip (pd_v 2) (pd_slice (pd_v 0) (pod_some (pd_int)) (pod_none))) (pgd_tup (K := PlC.K) rfl (pgds_cons (pgd_name (i := 3) sc__law_is_wish.nd rfl (by first | exact .inl rfl | exact .inr rfl)) (pgds_cons (pgd_name (i := 4) sc__law_is_wish.nd rfl (by first | exact .inl rfl | exact .inr rfl)) (pgds_nil)))) (pbd_one (psd_if (ptd_not (ptd_ifEB (ptd_eq (pd_v 3) (pd_str)) (ptd_val (pd_callF (ok__law_is_area T) (hr.mono (by decide)) (by rfl) T.m__law_is_area T.f__law_is_area.kp T.b__law_is_area (pad_cons (pd_v 4) (pad_cons (pd_v 1) (pad_nil))))) (ptd_val (pd_callF (ok__law_is_int T) (hr.mono (by decide)) (by rfl) T.m__law_is_int T.f__law_is_int.kp T.b__law_is_int (pad_cons (pd_v 4) (pad_cons (pd_int) (pad_cons (pd_int) (pad_nil)))))))) (pbd_one (psd_ret (pd_bl))) (pbd_nil)))) (pbd_one (psd_ret (pd_bl)))))), rd__law_is_wish⟩
theorem ok__law_are_wishes (T : Tx PlC.K mg) : FnOk P w PlC.K mg base CX0 4 T.a__law_are_wishes T.d__law_are_wishes ["thing", "axes"] (upSp PlC.K sp__law_are_wishes) :=
  okD T.f__law_are_wishes sc__law_are_wishes ln__law_are_wishes fun cdv A outer s H E hr => ⟨bd__law_are_wishes, pbd_one (psd_ret (pd_and (pd_callB call_isi cd_isi (by rfl) T.z_isinstance boot_isinstance (pad_cons (pd_v 0) (pad_cons (pd_tyc (by rfl) T.z_tuple boot_tuple) (pad_nil)))) (pd_and (pd_le (pd_callB call_len_seq cd_len (by rfl) T.z_len boot_len (pad_cons (pd_v 0) (pad_nil))) (pd_int)) (pd_one (pd_callB (cr_all rfl) cd_bools (by rfl) T.z_all boot_all (pad_cons (pd_lc (own := [("one", 2)]) rfl sc__law_are_wishes.nd (pid_seq (pd_v 0)) (blkOk_by (by dsimp only [cxOf, Cx.nox, Cx.wish, Cx.blk, compEnvC, envOfC, relabel_S]; decide +kernel)) (by decide) (fun _ _ _ _ _ => pgd_name (i := 2) sc__law_are_wishes.nd rfl (by first | exact .inl rfl | exact .inr rfl)) (fun _ _ _ _ _ => ptsd_nil) (fun _ _ _ _ _ => pd_callF (ok__law_is_wish T) (hr.mono (by decide)) (by rfl) T.m__law_is_wish T.f__law_is_wish.kp T.b__law_is_wish (pad_cons (pd_v 2) (pad_cons (pd_v 1) (pad_nil))))) (pad_nil))))))), rd__law_are_wishes⟩
theorem ok__law_due (T : Tx PlC.K mg) : FnOk P w PlC.K mg base CX0 3 T.a__law_due T.d__law_due ["wishes", "places"] (upSp PlC.K sp__law_due) :=
  okD T.f__law_due sc__law_due ln__law_due fun cdv A outer s H E hr => ⟨bd__law_due, pbd_cons (psd_for PassesOwn.never rfl (pid_range1 (by rfl) T.z_range (pd_callB call_len_seq cd_len (by rfl) T.z_len boot_len (pad_cons (pd_v 1) (pad_nil)))) (pgd_name (i := 2) sc__law_due.nd rfl (by first | exact .inl rfl | exact .inr rfl)) (pbd_one (psd_for PassesOwn.never rfl (pid_enumT (by rfl) T.z_enumerate (pd_v 0)) (pgd_tup (K := PlC.K) rfl (pgds_cons (pgd_name (i := 3) sc__law_due.nd rfl (by first | exact .inl rfl | exact .inr rfl)) (pgds_cons (pgd_name (i := 4) sc__law_due.nd rfl (by first | exact .inl rfl | exact .inr rfl)) (pgds_nil)))) (pbd_one (psd_if (ptd_val (pd_callF (ok__law_breaks T) (hr.mono (by decide)) (by rfl) T.m__law_breaks T.f__law_breaks.kp T.b__law_breaks (pad_cons (pd_v 4) (pad_cons (pd_v 1) (pad_cons (pd_v 2) (pad_nil)))))) (pbd_one (psd_ret (pd_tup (pad_cons (pd_v 2) (pad_cons (pd_v 3) (pad_nil)))))) (pbd_nil)))))) (pbd_one (psd_ret (pd_non))), rd__law_due⟩
theorem ok__law_is (T : Tx PlC.K mg) : FnOk P w PlC.K mg base CX0 2 T.a__law_is T.d__law_is ["told", "due"] (upSp PlC.K sp__law_is) :=
  okD T.f__law_is sc__law_is ln__law_is fun cdv A outer s H E hr => ⟨bd__law_is, pbd_cons (psd_if (ptd_w (pwd_or (ptd_is (pd_v 1) (pd_non)) (pwd_or1 (ptd_is (pd_v 0) (pd_non))))) (pbd_one (psd_ret (pd_and (pd_is (pd_v 0) (pd_non)) (pd_one (pd_is (pd_v 1) (pd_non)))))) (pbd_nil)) (pbd_cons (psd_if (ptd_w (pwd_or (ptd_not (ptd_val (pd_callB call_isi cd_isi (by rfl) T.z_isinstance boot_isinstance (pad_cons (pd_v 0) (pad_cons (pd_tyc (by rfl) T.z_tuple boot_tuple) (pad_nil)))))) (pwd_or (ptd_ne (pd_callB call_len_seq cd_len (by rfl) T.z_len boot_len (pad_cons (pd_v 0) (pad_nil))) (pd_int)) (pwd_or1 (ptd_not (ptd_val (pd_callB (cr_all rfl) cd_bools (by rfl) T.z_all boot_all (pad_cons (pd_lc (own := [("one", 2)]) rfl sc__law_is.nd (pid_seq (pd_v 0)) (blkOk_by (by dsimp only [cxOf, Cx.nox, Cx.wish, Cx.blk, compEnvC, envOfC, relabel_S]; decide +kernel)) (by decide) (fun _ _ _ _ _ => pgd_name (i := 2) sc__law_is.nd rfl (by first | exact .inl rfl | exact .inr rfl)) (fun _ _ _ _ _ => ptsd_nil) (fun _ _ _ _ _ => pd_callF (ok__law_is_int T) (hr.mono (by decide)) (by rfl) T.m__law_is_int T.f__law_is_int.kp T.b__law_is_int (pad_cons (pd_v 2) (pad_cons (pd_int) (pad_cons (pd_pow (pd_int) (pd_int)) (pad_nil)))))) (pad_nil))))))))) (pbd_one (psd_ret (pd_bl))) (pbd_nil)) (pbd_one (psd_ret (pd_and (pd_eq (pd_ix ix_seq od_ix (pd_v 0) (pd_int)) (pd_ix ix_seq od_ix (pd_v 1) (pd_int))) (pd_one (pd_eq (pd_ix ix_seq od_ix (pd_v 0) (pd_int)) (pd_ix ix_seq od_ix (pd_v 1) (pd_int)))))))), rd__law_is⟩
theorem ok__law_are_known_right (T : Tx PlC.K mg) : FnOk P w PlC.K mg base CX0 7 T.a__law_are_known_right T.d__law_are_known_right [] (upSp PlC.K sp__law_are_known_right) :=
  okD T.f__law_are_known_right sc__law_are_known_right ln__law_are_known_right fun cdv A outer s H E hr => ⟨bd__law_are_known_right, pbd_cons (psd_asg (pd_tup (pad_cons (pd_lst (pad_cons (pd_tup (pad_cons (pd_int) (pad_nil))) (pad_cons (pd_tup (pad_cons (pd_int) (pad_nil))) (pad_cons (pd_tup (pad_cons (pd_int) (pad_nil))) (pad_cons (pd_tup (pad_cons (pd_int) (pad_nil))) (pad_cons (pd_tup (pad_cons (pd_int) (pad_nil))) (pad_cons (pd_tup (pad_cons (pd_int) (pad_nil))) (pad_nil)))))))) (pad_cons (pd_tup (pad_cons (pd_tup (pad_cons (pd_int) (pad_cons (pd_int) (pad_nil)))) (pad_nil))) (pad_nil)))) (pgd_tup (K := PlC.K) rfl (pgds_cons (pgd_name (i := 3) sc__law_are_known_right.nd rfl (by first | exact .inl rfl | exact .inr rfl)) (pgds_cons (pgd_name (i := 4) sc__law_are_known_right.nd rfl (by first | exact .inl rfl | exact .inr rfl)) (pgds_nil))))) (pbd_cons (psd_set (i := 0) sc__law_are_known_right.nd rfl (by first | exact .inl rfl | exact .inr rfl) (pd_lstO (pad_cons (pd_tup (pad_cons (pd_str) (pad_cons (pd_tup (pad_cons (pd_tup (pad_cons (pd_tup (pad_cons (pd_int) (pad_cons (pd_int) (pad_nil)))) (pad_nil))) (pad_nil))) (pad_nil)))) (pad_cons (pd_tup (pad_cons (pd_str) (pad_cons (pd_tup (pad_cons (pd_v 4) (pad_nil))) (pad_cons (pd_int) (pad_nil))))) (pad_cons (pd_tup (pad_cons (pd_str) (pad_cons (pd_tup (pad_cons (pd_tup (pad_cons (pd_tup (pad_cons (pd_int) (pad_cons (pd_int) (pad_nil)))) (pad_nil))) (pad_nil))) (pad_cons (pd_int) (pad_nil))))) (pad_cons (pd_tup (pad_cons (pd_str) (pad_cons (pd_tup (pad_cons (pd_tup (pad_cons (pd_tup (pad_cons (pd_int) (pad_cons (pd_int) (pad_nil)))) (pad_nil))) (pad_nil))) (pad_cons (pd_int) (pad_nil))))) (pad_nil))))))) (pbd_cons (psd_set (i := 0) sc__law_are_known_right.nd rfl (by first | exact .inl rfl | exact .inr rfl) (pd_addLO (pd_v 0) (pd_lst (pad_cons (pd_tup (pad_cons (pd_str) (pad_cons (pd_tup (pad_cons (pd_tup (pad_cons (pd_tup (pad_cons (pd_int) (pad_cons (pd_int) (pad_nil)))) (pad_nil))) (pad_cons (pd_tup (pad_cons (pd_tup (pad_cons (pd_int) (pad_cons (pd_int) (pad_nil)))) (pad_nil))) (pad_nil)))) (pad_cons (pd_int) (pad_nil))))) (pad_cons (pd_tup (pad_cons (pd_str) (pad_cons (pd_tup (pad_cons (pd_tup (pad_cons (pd_tup (pad_cons (pd_int) (pad_cons (pd_int) (pad_nil)))) (pad_nil))) (pad_nil))) (pad_cons (pd_tup (pad_cons (pd_tup (pad_cons (pd_tup (pad_cons (pd_int) (pad_cons (pd_int) (pad_nil)))) (pad_nil))) (pad_nil))) (pad_cons (pd_int) (pad_nil)))))) (pad_nil)))))) (pbd_cons (psd_set (i := 0) sc__law_are_known_right.nd rfl (by first | exact .inl rfl | exact .inr rfl) (pd_addLO (pd_v 0) (pd_lst (pad_cons (pd_tup (pad_cons (pd_str) (pad_cons (pd_tup (pad_cons (pd_tup (pad_cons (pd_tup (pad_cons (pd_int) (pad_cons (pd_int) (pad_nil)))) (pad_nil))) (pad_nil))) (pad_cons (pd_tup (pad_cons (pd_tup (pad_cons (pd_tup (pad_cons (pd_int) (pad_cons (pd_int) (pad_nil)))) (pad_nil))) (pad_nil))) (pad_cons (pd_int) (pad_nil)))))) (pad_cons (pd_tup (pad_cons (pd_str) (pad_cons (pd_tup (pad_cons (pd_tup (pad_cons (pd_tup (pad_cons (pd_int) (pad_cons (pd_int) (pad_nil)))) (pad_nil))) (pad_nil))) (pad_cons (pd_tup (pad_cons (pd_tup (pad_cons (pd_tup (pad_cons (pd_int) (pad_cons (pd_int) (pad_nil)))) (pad_nil))) (pad_nil))) (pad_nil))))) (pad_nil)))))) (pbd_cons (psd_app (pd_v 0) (pd_tup (pad_cons (pd_str) (pad_cons (pd_tup (pad_nil)) (pad_cons (pd_tup (pad_cons (pd_tup (pad_cons (pd_tup (pad_cons (pd_int) (pad_cons (pd_int) (pad_nil)))) (pad_nil))) (pad_nil))) (pad_nil)))))) (pbd_cons (psd_set (i := 0) sc__law_are_known_right.nd rfl (by first | exact .inl rfl | exact .inr rfl) (pd_addLO (pd_v 0) (pd_lst (pad_cons (pd_tup (pad_cons (pd_str) (pad_cons (pd_tup (pad_cons (pd_tup (pad_cons (pd_tup (pad_cons (pd_int) (pad_cons (pd_int) (pad_nil)))) (pad_nil))) (pad_nil))) (pad_cons (pd_tup (pad_cons (pd_v 4) (pad_nil))) (pad_cons (pd_int) (pad_nil)))))) (pad_cons (pd_tup (pad_cons (pd_str) (pad_cons (pd_tup (pad_cons (pd_tup (pad_cons (pd_tup (pad_cons (pd_int) (pad_cons (pd_int) (pad_nil)))) (pad_nil))) (pad_nil))) (pad_cons (pd_tup (pad_cons (pd_tup (pad_cons (pd_tup (pad_cons (pd_int) (pad_cons (pd_int) (pad_nil)))) (pad_nil))) (pad_nil))) (pad_cons (pd_int) (pad_nil)))))) (pad_nil)))))) (pbd_cons (psd_setLc (own := [("one", 5)]) (i := 1) rfl sc__law_are_known_right.nd rfl rfl (sw_true rfl rfl rfl (by decide +kernel)) (pid_seq (pd_frz (pd_v 0))) (blkOk_by (by dsimp only [cxOf, Cx.nox, Cx.wish, Cx.blk, compEnvC, envOfC, relabel_S]; decide +kernel)) (by decide) (fun _ _ _ _ _ => pgd_name (i := 5) sc__law_are_known_right.nd rfl (by first | exact .inl rfl | exact .inr rfl)) (fun _ _ _ _ _ => ptsd_nil) (fun _ _ _ _ _ => pd_callF (ok_broken T) (hr.mono (by decide)) (by rfl) T.m_broken T.f_broken.kp T.b_broken (pad_cons (pd_tup (pad_cons (pd_v 5) (pad_nil))) (pad_cons (pd_v 3) (pad_nil))))) (pbd_cons (psd_set (i := 2) sc__law_are_known_right.nd rfl (by first | exact .inl rfl | exact .inr rfl) (pd_lst (pad_cons (pd_tup (pad_cons (pd_int) (pad_cons (pd_int) (pad_nil)))) (pad_cons (pd_tup (pad_cons (pd_int) (pad_cons (pd_int) (pad_nil)))) (pad_cons (pd_tup (pad_cons (pd_int) (pad_cons (pd_int) (pad_nil)))) (pad_cons (pd_tup (pad_cons (pd_int) (pad_cons (pd_int) (pad_nil)))) (pad_cons (pd_tup (pad_cons (pd_int) (pad_cons (pd_int) (pad_nil)))) (pad_cons (pd_non) (pad_cons (pd_tup (pad_cons (pd_int) (pad_cons (pd_int) (pad_nil)))) (pad_cons (pd_non) (pad_cons (pd_tup (pad_cons (pd_int) (pad_cons (pd_int) (pad_nil)))) (pad_cons (pd_tup (pad_cons (pd_int) (pad_cons (pd_int) (pad_nil)))) (pad_cons (pd_tup (pad_cons (pd_int) (pad_cons (pd_int) (pad_nil)))) (pad_nil)))))))))))))) (pbd_one (psd_ret (pd_callB (cr_all rfl) cd_bools (by rfl) T.z_all boot_all (pad_cons (pd_lc (own := [("one", 5), ("due", 6)]) rfl sc__law_are_known_right.nd (pid_zip (by rfl) T.z_zip (pd_v 1) (pd_v 2)) (blkOk_by (by dsimp only [cxOf, Cx.nox, Cx.wish, Cx.blk, compEnvC, envOfC, relabel_S]; decide +kernel)) (by decide) (fun _ _ _ _ _ => pgd_tup (K := PlC.K) rfl (pgds_cons (pgd_name (i := 5) sc__law_are_known_right.nd rfl (by first | exact .inl rfl | exact .inr rfl)) (pgds_cons (pgd_name (i := 6) sc__law_are_known_right.nd rfl (by first | exact .inl rfl | exact .inr rfl)) (pgds_nil)))) (fun _ _ _ _ _ => ptsd_nil) (fun _ _ _ _ _ => pd_callF (ok__law_is T) (hr.mono (by decide)) (by rfl) T.m__law_is T.f__law_is.kp T.b__law_is (pad_cons (pd_v 5) (pad_cons (pd_v 6) (pad_nil))))) (pad_nil)))))))))))), rd__law_are_known_right⟩
end Lk17
namespace Lk17
open PySem PySem.Spec PyProof.Rows L2 SC
open Lk19 (Box Area W pairD boxD areaD rowD okS okB okA okK okN betw tupB spanB spansB boxB areaB oneB wishB items brk okR okP inArea pl plL wds wdsO wdsK plL_mem plL_of)
/-! ### the classes -/
def s_initF : Stmt := match topS 17 with
  | .ClassDef (body := b) .. => b.getD 0 (.Pass ⟨0, 0, 0, 0⟩)
  | st => st
def s_initP : Stmt := match topS 32 with
  | .ClassDef (body := b) .. => b.getD 0 (.Pass ⟨0, 0, 0, 0⟩)
  | st => st
theorem sc_initF : FnScope ["self", "bits", "low", "high"] ["self", "bits", "low", "high"] (defScope s_initF) := ⟨rfl, rfl, rfl, by decide +kernel, rfl, by decide +kernel, by decide +kernel⟩
theorem sc_initP : FnScope ["self", "form", "way", "box", "modes", "pushes"] ["self", "form", "way", "box", "modes", "pushes"] (defScope s_initP) := ⟨rfl, rfl, rfl, by decide +kernel, rfl, by decide +kernel, by decide +kernel⟩
theorem hu100 {A : Around} {k : Nat} (hr : Room k A) : A.units + 100 < cLine := by have := hr.un; omega
theorem hu64 {A : Around} {k : Nat} (hr : Room k A) : A.units + 64 < cLine := by have := hr.un; omega
theorem put_len (f : Str) (v : V) : ∀ fs : List (Str × V), (putF f v fs).length ≤ fs.length + 1
  | [] => by simp [putF]
  | (g, x) :: r => by
    have := put_len f v r
    unfold putF
    split
    · simp
    · simp only [List.length_cons]; omega
inductive Few : List (Str × V) → Nat → Prop
  | nil : Few [] 0
  | put {f : Str} {v : V} {fs : List (Str × V)} {n : Nat} (h : Few fs n) : Few (putF f v fs) (n + 1)
theorem Few.le {fs : List (Str × V)} {n : Nat} (h : Few fs n) : fs.length ≤ n := by
  induction h with
  | nil => exact Nat.le_refl _
  | put h ih => exact Nat.le_trans (put_len _ _ _) (Nat.succ_le_succ ih)
theorem few {fs : List (Str × V)} {n : Nat} (h : Few fs n) (l : n < 1000 := by decide) : fs.length < 1000 := Nat.lt_of_le_of_lt h.le l
theorem pe_n {X : Cx} (i : Nat) {x : Str} {pos : Pos} (hN : X.N[i]? = some x := by rfl) (hv : Vis X.env.scope x := by first | exact Or.inl rfl | exact Or.inr (Or.inl rfl) | exact Or.inr (Or.inr rfl)) (hd : (x == ("__debug__" : Str)) = false := by decide)
    (hcd : (x == ("__classdict__" : Str)) = false := by decide) : PE X (.Name x pos) (tVar i) := pe_var hN hv hd hcd
structure Ec [PlC] {mg : Str → Option Value} (T : Tx PlC.K mg) where
  m_Format : mg "Format" = some (.ref PlC.cF)
  aF : Addr
  dF : FuncData
  mk_Format : Mk PlC.K PlC.cF aF
  f_F : Fun PlC.K "__init__" "Format.__init__" s_initF aF dF
  isF : IsC PlC.K PlC.cF
  b_Format : Binds PlC.K dF ["self", "bits", "low", "high"] []
  m_Plant : mg "Plant" = some (.ref PlC.cP)
  aP : Addr
  dP : FuncData
  mk_Plant : Mk PlC.K PlC.cP aP
  f_P : Fun PlC.K "__init__" "Plant.__init__" s_initP aP dP
  b_Plant : Binds PlC.K dP ["self", "form", "way", "box", "modes", "pushes"] []
section
variable [TabL] [XCx] [PlC] {P : Program} {w : World} {mg : Str → Option Value} {base : Heap}
theorem ok_init_Format (T : Tx PlC.K mg) (E : Ec T) : FnOk P w PlC.K mg base CX0 3 E.aF E.dF ["self", "bits", "low", "high"] (spInitR PlC.K PlC.cF ["bits", "low", "high"] FmtP) := by
  refine E.f_F.ok sc_initF (fun vs H Q Ek h => ?_) fun cdv A outer s H vs Q Ek hr h => ?_
  · obtain ⟨x, dx, H0, F, O, us, ds, rfl, _, _, _, _, _, r, hp, _⟩ := h
    have l := r.length
    rw [show ds = _ from hp] at l
    simpa using l
  · obtain ⟨x, dx, H0, F, O, us, ds, rfl, rfl, nx, nd, ne, st, r, hp, hq⟩ := h
    refine ⟨_, pss_test (psd_if (ptd_not (ptd_val (pd_callF (ok_is_between T) (hr.mono (by decide)) (by rfl) T.m_is_between T.f_is_between.kp T.b_is_between (pad_cons pd_int (pad_cons pd_int (pad_cons (pd_v 1) pad_nil)))))) pbd_dead pbd_nil)
      (pss_test (psd_if (ptd_not (ptd_val (pd_callF (ok_is_between T) (hr.mono (by decide)) (by rfl) T.m_is_between T.f_is_between.kp T.b_is_between (pad_cons (pd_neg pd_int) (pad_cons pd_int (pad_cons (pd_v 2) pad_nil)))))) pbd_dead pbd_nil)
      (pss_test (psd_if (ptd_not (ptd_val (pd_callF (ok_is_between T) (hr.mono (by decide)) (by rfl) T.m_is_between T.f_is_between.kp T.b_is_between (pad_cons (pd_v 2) (pad_cons pd_int (pad_cons (pd_v 3) pad_nil)))))) pbd_dead pbd_nil)
      (pss_cons (ps_fld (pe_n 0) (pe_n 1) (by rfl)) (pss_cons (ps_fld (pe_n 0) (pe_n 2) (by rfl)) (pss_one (ps_fld (pe_n 0) (pe_n 3) (by rfl))))))), ?_⟩
    rw [show ds = _ from hp] at r hq
    clear hp
    have nx' : upd H0 dx (.own x) x = none := by rw [upd_ne ne.symm]; exact nx
    have g1 := (st.junk (o := .own x) nd).trans ((st.junk (o := .own x) nd).stt.junk (o := .ins PlC.cF dx []) nx')
    have e0 := erep_start (F := F) (.cons (.own x) r) ["self", "bits", "low", "high"]
    refine ⟨F, _, O, g1.stt, e0, ?_, fun F1 H1 σ1 g2 er1 => ⟨F1, _, O, g2.stt, er1, ?_, fun F2 H2 σ2 g3 er2 => ⟨F2, _, O, g3.stt, er2, ?_, fun F3 H3 σ3 g4 er3 => ?_⟩⟩⟩
    · simp only [dIf, dNot, dB, dCall, dCons, dNil, dVar, dC, startD, List.map_cons, List.map_nil, List.length_cons, List.length_nil, Nat.reduceAdd, Nat.reduceSub, List.replicate_zero, List.cons_append, List.nil_append, List.append_nil, List.getElem?_cons_zero, List.getElem?_cons_succ]
      exact ⟨2, 24, .int 8, rfl, by simp [Lk19.pl], rfl, rfl⟩
    · simp only [dIf, dNot, dB, dCall, dCons, dNil, dVar, dC, dUn, dU, startD, List.map_cons, List.map_nil, List.length_cons, List.length_nil, Nat.reduceAdd, Nat.reduceSub, List.replicate_zero, List.cons_append, List.nil_append, List.append_nil, List.getElem?_cons_zero, List.getElem?_cons_succ]
      exact ⟨-40, 40, .int 0, rfl, by simp [Lk19.pl], rfl, rfl⟩
    · simp only [dIf, dNot, dB, dCall, dCons, dNil, dVar, dC, startD, List.map_cons, List.map_nil, List.length_cons, List.length_nil, Nat.reduceAdd, Nat.reduceSub, List.replicate_zero, List.cons_append, List.nil_append, List.append_nil, List.getElem?_cons_zero, List.getElem?_cons_succ]
      exact ⟨0, 40, .int 4, rfl, by simp [Lk19.pl], rfl, rfl⟩
    · have gg := (g2.trans g3).trans g4
      obtain ⟨v0, h0, r0⟩ := er3.get (i := 0) rfl
      obtain ⟨v1, h1, r1⟩ := er3.get (i := 1) rfl
      obtain ⟨v2, h2, r2⟩ := er3.get (i := 2) rfl
      obtain ⟨v3, h3, r3⟩ := er3.get (i := 3) rfl
      cases r0
      have hx : H3 x = some (.ins PlC.cF dx []) := (gg.frame x _ upd_same (free_F st nx) (free_O st nx) (fun ps z => by cases z)).1
      have fx : F3 x = none := (gg.frame x _ upd_same (free_F st nx) (free_O st nx) (fun ps z => by cases z)).2.1
      refine sFld_go h0 h1 hx PlC.clF (PlC.nF _ (by simp)) (by simp) ?_
      refine sFld_go h0 h2 upd_same PlC.clF (PlC.nF _ (by simp)) (few (.put .nil)) ?_
      refine sFld_go h0 h3 upd_same PlC.clF (PlC.nF _ (by simp)) (few (.put (.put .nil))) ?_
      have gm := Go.madeObj (fs := (["bits", "low", "high"] : List Str).zip [v1, v2, v3]) st nx nd ne gg
      rw [upd_upd, upd_upd]
      have sm : Same F3 (upd F3 x (.ins PlC.cF dx ((["bits", "low", "high"] : List Str).zip [v1, v2, v3]))) := same_upd fx
      exact hq _ _ gm (.obj upd_same (.cons (r1.mono sm) (.cons (r2.mono sm) (.cons (r3.mono sm) .nil))))
theorem ok_init_Plant (T : Tx PlC.K mg) (E : Ec T) : FnOk P w PlC.K mg base CX0 9 E.aP E.dP ["self", "form", "way", "box", "modes", "pushes"] (spInitR PlC.K PlC.cP ["form", "way", "box", "modes", "pushes"] PltP) := by
  refine E.f_P.ok sc_initP (fun vs H Q Ek h => ?_) fun cdv A outer s H vs Q Ek hr h => ?_
  · obtain ⟨x, dx, H0, F, O, us, ds, rfl, _, _, _, _, _, r, ⟨n, _, _, hp⟩, _⟩ := h
    have l := r.length
    rw [hp] at l
    simpa [partsD] using l
  · obtain ⟨x, dx, H0, F, O, us, ds, rfl, rfl, nx, nd, ne, st, r, ⟨n, n1, n3, hp⟩, hq⟩ := h
    refine ⟨_, pss_test (psd_if (ptd_not (ptd_val (pd_callB (call_isC E.isF) cd_isC (by rfl) T.z_isinstance boot_isinstance (pad_cons (pd_v 1) (pad_cons (pd_c (pe_glob (v := .ref PlC.cF) (by rfl) E.m_Format rfl) fun _ => .own _) pad_nil))))) pbd_dead pbd_nil)
      (pss_test (psd_if (ptd_not (ptd_val (pd_callF (ok_is_way T) (hr.mono (by decide)) (by rfl) T.m_is_way T.f_is_way.kp T.b_is_way (pad_cons (pd_v 2) pad_nil)))) pbd_dead pbd_nil)
      (pss_test (psd_if (ptd_w (pwd_or (ptd_not (ptd_val (pd_callF (ok_are_spans T) (hr.mono (by decide)) (by rfl) T.m_are_spans T.f_are_spans.kp T.b_are_spans (pad_cons pd_int (pad_cons pd_int (pad_cons (pd_neg pd_int) (pad_cons pd_int (pad_cons (pd_v 3) pad_nil)))))))) (pwd_or1 (ptd_gt (pd_callF (ok_many_rows T) (hr.mono (by decide)) (by rfl) T.m_many_rows T.f_many_rows.kp T.b_many_rows (pad_cons (pd_v 3) pad_nil)) pd_int)))) pbd_dead pbd_nil)
      (pss_test (psd_if (ptd_not (ptd_val (pd_callF (ok_are_modes T) (hr.mono (by decide)) (by rfl) T.m_are_modes T.f_are_modes.kp T.b_are_modes (pad_cons (pd_callB call_len_seq cd_len (by rfl) T.z_len boot_len (pad_cons (pd_v 3) pad_nil)) (pad_cons (pd_v 4) pad_nil))))) pbd_dead pbd_nil)
      (pss_test (psd_if (ptd_w (pwd_or (ptd_not (ptd_val (pd_callF (ok_are_spans T) (hr.mono (by decide)) (by rfl) T.m_are_spans T.f_are_spans.kp T.b_are_spans (pad_cons (pd_callB call_len_seq cd_len (by rfl) T.z_len boot_len (pad_cons (pd_v 3) pad_nil)) (pad_cons (pd_callB call_len_seq cd_len (by rfl) T.z_len boot_len (pad_cons (pd_v 3) pad_nil)) (pad_cons (pd_neg pd_int) (pad_cons pd_int (pad_cons (pd_v 5) pad_nil)))))))) (pwd_or1 (ptd_gt (pd_callF (ok_many_rows T) (hr.mono (by decide)) (by rfl) T.m_many_rows T.f_many_rows.kp T.b_many_rows (pad_cons (pd_v 5) pad_nil)) pd_int)))) pbd_dead pbd_nil)
      (pss_cons (ps_fld (pe_n 0) (pe_n 1) (by rfl)) (pss_cons (ps_fld (pe_n 0) (pe_n 2) (by rfl)) (pss_cons (ps_fld (pe_n 0) (pe_n 3) (by rfl)) (pss_cons (ps_fld (pe_n 0) (pe_n 4) (by rfl)) (pss_one (ps_fld (pe_n 0) (pe_n 5) (by rfl))))))))))), ?_⟩
    rw [hp] at r hq
    clear hp
    have lenR : ∀ q : Int × Int, (List.replicate n (pairD q)).length = n := fun q => List.length_replicate
    have spR : ∀ (q : Int × Int) (l m : Int), spanB l m (pairD q) = true → spansB (n : Int) (n : Int) l m (rep n q) = true ∧ spansB 1 3 l m (rep n q) = true := fun q l m h => by
      have al : (List.replicate n (pairD q)).all (spanB l m) = true := List.all_eq_true.mpr fun y hy => by rw [(List.mem_replicate.mp hy).2]; exact h
      unfold spansB rep tupB items
      simp only [lenR, al, Bool.and_true, Bool.and_eq_true, decide_eq_true_eq]
      omega
    have plR : ∀ q : Int × Int, pl (rep n q) = true := fun q => by
      simp only [rep, pl]; exact plL_of fun d hd => by rw [(List.mem_replicate.mp hd).2]; exact Lk19.pl_pair q
    have nx' : upd H0 dx (.own x) x = none := by rw [upd_ne ne.symm]; exact nx
    have g1 := (st.junk (o := .own x) nd).trans ((st.junk (o := .own x) nd).stt.junk (o := .ins PlC.cP dx []) nx')
    have e0 := erep_start (F := F) (.cons (.own x) r) ["self", "form", "way", "box", "modes", "pushes"]
    refine ⟨F, _, O, g1.stt, e0, ?_, fun F1 H1 σ1 g2 er1 => ⟨F1, _, O, g2.stt, er1, ?_, fun F2 H2 σ2 g3 er2 => ⟨F2, _, O, g3.stt, er2, ?_, fun F3 H3 σ3 g4 er3 => ⟨F3, _, O, g4.stt, er3, ?_, fun F4 H4 σ4 g5 er4 => ⟨F4, _, O, g5.stt, er4, ?_, fun F5 H5 σ5 g6 er5 => ?_⟩⟩⟩⟩⟩
    · unfold partsD
      simp only [dIf, dNot, dB, dCB, dCall, dCons, dNil, dVar, dC, startD, List.map_cons, List.map_nil, List.length_cons, List.length_nil, Nat.reduceAdd, Nat.reduceSub, List.replicate_zero, List.cons_append, List.nil_append, List.append_nil, List.getElem?_cons_zero, List.getElem?_cons_succ]
      exact ⟨_, _, rfl, rfl, rfl⟩
    · unfold partsD
      simp only [dIf, dNot, dB, dCall, dCons, dNil, dVar, dC, startD, List.map_cons, List.map_nil, List.length_cons, List.length_nil, Nat.reduceAdd, Nat.reduceSub, List.replicate_zero, List.cons_append, List.nil_append, List.append_nil, List.getElem?_cons_zero, List.getElem?_cons_succ]
      exact ⟨rfl, rfl, rfl⟩
    · unfold partsD
      simp only [dIf, dNot, dOr, dB, dCall, dCons, dNil, dVar, dC, dUn, dU, dOp, dI0, dI, startD, List.map_cons, List.map_nil, List.length_cons, List.length_nil, Nat.reduceAdd, Nat.reduceSub, List.replicate_zero, List.cons_append, List.nil_append, List.append_nil, List.getElem?_cons_zero, List.getElem?_cons_succ]
      refine ⟨1, 3, -1000, 1000, _, rfl, by decide, plR _, ?_⟩
      rw [(spR (0, 6) (-1000) 1000 (by decide)).2]
      refine ⟨n, 0, 6, rfl, n1, n3, by decide, by decide, ?_⟩
      have : ¬ (400 : Int) < (6 - 0 + 1) ^ n := by
        have : n = 1 ∨ n = 2 ∨ n = 3 := by omega
        rcases this with rfl | rfl | rfl <;> decide
      simp only [this, decide_false]
      exact ⟨rfl, rfl⟩
    · unfold partsD
      simp only [dIf, dNot, dB, dCB, dCall, dCons, dNil, dVar, dC, rLenD, rep, startD, List.map_cons, List.map_nil, List.length_cons, List.length_nil, Nat.reduceAdd, Nat.reduceSub, List.replicate_zero, List.cons_append, List.nil_append, List.append_nil, List.getElem?_cons_zero, List.getElem?_cons_succ, lenR]
      exact ⟨n, rfl, n3, rfl, rfl⟩
    · unfold partsD
      simp only [dIf, dNot, dOr, dB, dCB, dCall, dCons, dNil, dVar, dC, dUn, dU, dOp, dI0, dI, rLenD, rep, startD, List.map_cons, List.map_nil, List.length_cons, List.length_nil, Nat.reduceAdd, Nat.reduceSub, List.replicate_zero, List.cons_append, List.nil_append, List.append_nil, List.getElem?_cons_zero, List.getElem?_cons_succ, lenR]
      refine ⟨n, n, -20, 20, _, rfl, by omega, plR _, ?_⟩
      rw [show spansB (n : Int) (n : Int) (-20) 20 (.tup (List.replicate n (pairD (0, 0)))) = true from (spR (0, 0) (-20) 20 (by decide)).1]
      refine ⟨n, 0, 0, rfl, n1, n3, by decide, by decide, ?_⟩
      have : ¬ (81 : Int) < (0 - 0 + 1) ^ n := by
        have : n = 1 ∨ n = 2 ∨ n = 3 := by omega
        rcases this with rfl | rfl | rfl <;> decide
      simp only [this, decide_false]
      exact ⟨rfl, rfl⟩
    · have gg := (((g2.trans g3).trans g4).trans g5).trans g6
      obtain ⟨v0, h0, r0⟩ := er5.get (i := 0) rfl
      obtain ⟨v1, h1, r1⟩ := er5.get (i := 1) rfl
      obtain ⟨v2, h2, r2⟩ := er5.get (i := 2) rfl
      obtain ⟨v3, h3, r3⟩ := er5.get (i := 3) rfl
      obtain ⟨v4, h4, r4⟩ := er5.get (i := 4) rfl
      obtain ⟨v5, h5, r5⟩ := er5.get (i := 5) rfl
      cases r0
      have hx : H5 x = some (.ins PlC.cP dx []) := (gg.frame x _ upd_same (free_F st nx) (free_O st nx) (fun ps z => by cases z)).1
      have fx : F5 x = none := (gg.frame x _ upd_same (free_F st nx) (free_O st nx) (fun ps z => by cases z)).2.1
      refine sFld_go h0 h1 hx PlC.clP (PlC.nP _ (by simp)) (by simp) ?_
      refine sFld_go h0 h2 upd_same PlC.clP (PlC.nP _ (by simp)) (few (.put .nil)) ?_
      refine sFld_go h0 h3 upd_same PlC.clP (PlC.nP _ (by simp)) (few (.put (.put .nil))) ?_
      refine sFld_go h0 h4 upd_same PlC.clP (PlC.nP _ (by simp)) (few (.put (.put (.put .nil)))) ?_
      refine sFld_go h0 h5 upd_same PlC.clP (PlC.nP _ (by simp)) (few (.put (.put (.put (.put .nil))))) ?_
      have gm := Go.madeObj (fs := (["form", "way", "box", "modes", "pushes"] : List Str).zip [v1, v2, v3, v4, v5]) st nx nd ne gg
      rw [upd_upd, upd_upd, upd_upd, upd_upd]
      have sm : Same F5 (upd F5 x (.ins PlC.cP dx ((["form", "way", "box", "modes", "pushes"] : List Str).zip [v1, v2, v3, v4, v5]))) := same_upd fx
      exact hq _ _ gm (.obj upd_same (.cons (r1.mono sm) (.cons (r2.mono sm) (.cons (r3.mono sm) (.cons (r4.mono sm) (.cons (r5.mono sm) .nil))))))
end
end Lk17
namespace Lk17
open PySem PySem.Spec PyProof.Rows L2 SC
open Lk19 (Box Area W pairD boxD areaD rowD okS okB okA okK okN betw tupB spanB spansB boxB areaB oneB wishB items brk okR okP inArea pl plL wds wdsO wdsK plL_mem plL_of)
section
variable [TabL] [XCx] [PlC] {P : Program} {w : World} {mg : Str → Option Value} {base : Heap}
theorem ok__law_bent (T : Tx PlC.K mg) : ∀ n : Nat, FnOk P w PlC.K mg base CX0 (n + 3) T.a__law_bent T.d__law_bent ["hand", "thing"] (upSp PlC.K (sp__law_bent n)) 
  | 0 => okD T.f__law_bent sc__law_bent (ln__law_bent 0) fun cdv A outer s H E hr => ⟨dDead, pbd_dead, fun ds O kk h => h.elim⟩
  | n + 1 => okD T.f__law_bent sc__law_bent (ln__law_bent (n + 1)) fun cdv A outer s H E hr => ⟨bd__law_bent n, pbd_cons (psd_if (ptd_w (pwd_and (ptd_val (pd_callB call_isi cd_isi (by rfl) T.z_isinstance boot_isinstance (pad_cons (pd_v 1) (pad_cons (pd_tyc (by rfl) T.z_tuple boot_tuple) (pad_nil))))) (pwd_and (ptd_gt (pd_callB call_len_seq cd_len (by rfl) T.z_len boot_len (pad_cons (pd_v 1) (pad_nil))) (pd_int)) (pwd_and1 (ptd_gt (pd_callF (ok__law_draw T) (hr.mono (by omega)) (by rfl) T.m__law_draw T.f__law_draw.kp T.b__law_draw (pad_cons (pd_v 0) (pad_cons (pd_int) (pad_nil)))) (pd_int)))))) (pbd_cons (psd_set (i := 3) sc__law_bent.nd rfl (by first | exact .inl rfl | exact .inr rfl) (pd_callF (ok__law_draw T) (hr.mono (by omega)) (by rfl) T.m__law_draw T.f__law_draw.kp T.b__law_draw (pad_cons (pd_v 0) (pad_cons (pd_callB call_len_seq cd_len (by rfl) T.z_len boot_len (pad_cons (pd_v 1) (pad_nil))) (pad_nil))))) (pbd_one (psd_ret (pd_addA (pd_addA (pd_slice (pd_v 1) (pod_none) (pod_some (pd_v 3))) (pd_tup (pad_cons (pd_callF (ok__law_bent T n) (hr.mono (by omega)) (by rfl) T.m__law_bent T.f__law_bent.kp T.b__law_bent (pad_cons (pd_v 0) (pad_cons (pd_ix ix_seq od_ix (pd_v 1) (pd_v 3)) (pad_nil)))) (pad_nil)))) (pd_slice (pd_v 1) (pod_some (pd_addA (pd_v 3) (pd_int))) (pod_none)))))) (pbd_nil)) (pbd_cons (psd_if (ptd_w (pwd_and (ptd_val (pd_callB call_isi cd_isi (by rfl) T.z_isinstance boot_isinstance (pad_cons (pd_v 1) (pad_cons (pd_tyc (by rfl) T.z_tuple boot_tuple) (pad_nil))))) (pwd_and1 (ptd_gt (pd_callF (ok__law_draw T) (hr.mono (by omega)) (by rfl) T.m__law_draw T.f__law_draw.kp T.b__law_draw (pad_cons (pd_v 0) (pad_cons (pd_int) (pad_nil)))) (pd_int))))) (pbd_cons (psd_set (i := 2) sc__law_bent.nd rfl (by first | exact .inl rfl | exact .inr rfl) (pd_lst (pad_cons (pd_callTy call_list_of cd_list (by rfl) T.z_list boot_list (pad_cons (pd_v 1) (pad_nil))) (pad_cons (pd_addA (pd_v 1) (pd_slice (pd_v 1) (pod_none) (pod_some (pd_int)))) (pad_cons (pd_slice (pd_v 1) (pod_some (pd_int)) (pod_none)) (pad_cons (pd_sliceS (pd_v 1) (pd_neg (pd_int))) (pad_cons (pd_mulA (pd_v 1) (pd_int)) (pad_cons (pd_addA (pd_v 1) (pd_tup (pad_cons (pd_int) (pad_nil)))) (pad_cons (pd_tup (pad_cons (pd_v 1) (pad_nil))) (pad_nil)))))))))) (pbd_one (psd_ret (pd_callF (ok__law_some T) (hr.mono (by omega)) (by rfl) T.m__law_some T.f__law_some.kp T.b__law_some (pad_cons (pd_v 0) (pad_cons (pd_v 2) (pad_nil))))))) (pbd_nil)) (pbd_cons (psd_if (ptd_w (pwd_and (ptd_val (pd_callB call_isi cd_isi (by rfl) T.z_isinstance boot_isinstance (pad_cons (pd_v 1) (pad_cons (pd_tyc (by rfl) T.z_int boot_int) (pad_nil))))) (pwd_and1 (ptd_gt (pd_callF (ok__law_draw T) (hr.mono (by omega)) (by rfl) T.m__law_draw T.f__law_draw.kp T.b__law_draw (pad_cons (pd_v 0) (pad_cons (pd_int) (pad_nil)))) (pd_int))))) (pbd_one (psd_ret (pd_callF (ok__law_some T) (hr.mono (by omega)) (by rfl) T.m__law_some T.f__law_some.kp T.b__law_some (pad_cons (pd_v 0) (pad_cons (pd_lst (pad_cons (pd_addA (pd_v 1) (pd_int)) (pad_cons (pd_sub (pd_v 1) (pd_int)) (pad_cons (pd_int) (pad_cons (pd_int) (pad_cons (pd_int) (pad_cons (pd_int) (pad_cons (pd_neg (pd_int)) (pad_cons (pd_bl) (pad_cons (pd_bl) (pad_cons (pd_sub (pd_int) (pd_v 1)) (pad_cons (pd_int) (pad_nil))))))))))))) (pad_nil)))))) (pbd_nil)) (pbd_cons (psd_set (i := 2) sc__law_bent.nd rfl (by first | exact .inl rfl | exact .inr rfl) (pd_lst (pad_cons (pd_str) (pad_cons (pd_str) (pad_cons (pd_str) (pad_cons (pd_str) (pad_cons (pd_str) (pad_cons (pd_str) (pad_cons (pd_str) (pad_cons (pd_non) (pad_cons (pd_bl) (pad_cons (pd_int) (pad_cons (pd_tup (pad_nil)) (pad_cons (pd_lst (pad_nil)) (pad_cons (pd_dct) (pad_cons (pd_str) (pad_cons (pd_pow (pd_int) (pd_int)) (pad_nil)))))))))))))))))) (pbd_one (psd_ret (pd_callF (ok__law_some T) (hr.mono (by omega)) (by rfl) T.m__law_some T.f__law_some.kp T.b__law_some (pad_cons (pd_v 0) (pad_cons (pd_addA (pd_v 2) (pd_lst (pad_cons (pd_callF (ok__law_deep T) (hr.mono (by omega)) (by rfl) T.m__law_deep T.f__law_deep.kp T.b__law_deep (pad_cons (pd_v 0) (pad_cons (pd_int) (pad_nil)))) (pad_cons (pd_tup (pad_cons (pd_tup (pad_cons (pd_int) (pad_cons (pd_int) (pad_nil)))) (pad_nil))) (pad_cons (pd_tup (pad_cons (pd_tup (pad_cons (pd_tup (pad_cons (pd_int) (pad_cons (pd_int) (pad_nil)))) (pad_nil))) (pad_nil))) (pad_nil)))))) (pad_nil))))))))), rd__law_bent n⟩
theorem ok__law_plant (T : Tx PlC.K mg) (E : Ec T) : FnOk P w PlC.K mg base CX0 11 T.a__law_plant T.d__law_plant ["axes"] (upSp PlC.K sp__law_plant) :=
  okD T.f__law_plant sc__law_plant ln__law_plant fun cdv A outer s H Ek hr => ⟨bd__law_plant, pbd_cons (psd_set (i := 1) sc__law_plant.nd rfl (by first | exact .inl rfl | exact .inr rfl) (pd_tuple (by rfl) T.z_tuple (pd_lc (own := [("axis", 2)]) rfl sc__law_plant.nd (pid_range1 (by rfl) T.z_range (pd_v 0)) (blkOk_by (by dsimp only [cxOf, Cx.nox, Cx.wish, Cx.blk, compEnvC, envOfC, relabel_S]; decide +kernel)) (by decide) (fun _ _ _ _ _ => pgd_name (i := 2) sc__law_plant.nd rfl (by first | exact .inl rfl | exact .inr rfl)) (fun _ _ _ _ _ => ptsd_nil) (fun _ _ _ _ _ => pd_tup (pad_cons (pd_str) (pad_cons (pd_v 2) (pad_nil))))))) (pbd_one (psd_ret (pd_make E.mk_Plant (ok_init_Plant T E) (hr.mono (by decide)) (by rfl) E.m_Plant E.b_Plant (pad_cons (pd_make E.mk_Format (ok_init_Format T E) (hr.mono (by decide)) (by rfl) E.m_Format E.b_Format (pad_cons (pd_int) (pad_cons (pd_int) (pad_cons (pd_int) (pad_nil))))) (pad_cons (pd_str) (pad_cons (pd_mulA (pd_tup (pad_cons (pd_tup (pad_cons (pd_int) (pad_cons (pd_int) (pad_nil)))) (pad_nil))) (pd_v 0)) (pad_cons (pd_tup (pad_cons (pd_tup (pad_cons (pd_non) (pad_cons (pd_v 1) (pad_nil)))) (pad_nil))) (pad_cons (pd_mulA (pd_tup (pad_cons (pd_tup (pad_cons (pd_int) (pad_cons (pd_int) (pad_nil)))) (pad_nil))) (pd_v 0)) (pad_nil))))))))), rd__law_plant⟩
end
end Lk17
namespace Lk17
open PySem PySem.Spec PyProof.Rows L2 SC
open Lk19 (Box Area W pairD boxD areaD rowD okS okB okA okK okN betw tupB spanB spansB boxB areaB oneB wishB items brk okR okP inArea pl plL wds wdsO wdsK plL_mem plL_of)
section
variable [PlC] {mg : Str → Option Value}
instance : TabL := ⟨[]⟩
instance : XCx := XCx.nil
theorem pbd_law {P : Program} {w : World} {base : Heap} (T : Tx PlC.K mg) (E : Ec T) {cdv : Value} {outer : List Env} {s : Shared} {H : Hp} {Ek : XK} (hr : Room 12 (callerA.deeper (envOfC "law" (defScope s_law) s.heap.objs.size T.a_law cdv))) :
    PBD (cxOf CX0 P w PlC.K mg base ["script", "hand", "turn", "axes", "plant", "wishes", "things", "thing", "again", "places", "told", "kept", "due"] "law" (defScope s_law) T.a_law cdv callerA outer s H Ek).nox (defBody s_law) bd_law :=
  pbd_cons (psd_set (i := 1) sc_law.nd rfl (by first | exact .inl rfl | exact .inr rfl) (pd_callF (ok__law_hand T) (hr.mono (by decide)) (by rfl) T.m__law_hand T.f__law_hand.kp T.b__law_hand (pad_cons (pd_v 0) (pad_nil)))) (pbd_cons (psd_if (ptd_not (ptd_val (pd_callF0 (ok__law_are_known_right T) (hr.mono (by decide)) (by rfl) T.m__law_are_known_right T.f__law_are_known_right.kp T.b__law_are_known_right))) (pbd_one (psd_ret (pd_bl))) (pbd_nil)) (pbd_cons (psd_for PassesOwn.never rfl (pid_range1 (by rfl) T.z_range (pd_int)) (pgd_name (i := 2) sc_law.nd rfl (by first | exact .inl rfl | exact .inr rfl)) (pbd_cons (psd_set (i := 3) sc_law.nd rfl (by first | exact .inl rfl | exact .inr rfl) (pd_addA (pd_int) (pd_callF (ok__law_draw T) (hr.mono (by decide)) (by rfl) T.m__law_draw T.f__law_draw.kp T.b__law_draw (pad_cons (pd_v 1) (pad_cons (pd_int) (pad_nil)))))) (pbd_cons (psd_set (i := 4) sc_law.nd rfl (by first | exact .inl rfl | exact .inr rfl) (pd_callF (ok__law_plant T E) (hr.mono (by decide)) (by rfl) T.m__law_plant T.f__law_plant.kp T.b__law_plant (pad_cons (pd_v 3) (pad_nil)))) (pbd_cons (psd_set (i := 5) sc_law.nd rfl (by first | exact .inl rfl | exact .inr rfl) (pd_tuple (by rfl) T.z_tuple (pd_lc (own := [("again", 8)]) rfl sc_law.nd (pid_range1 (by rfl) T.z_range (pd_callF (ok__law_draw T) (hr.mono (by decide)) (by rfl) T.m__law_draw T.f__law_draw.kp T.b__law_draw (pad_cons (pd_v 1) (pad_cons (pd_int) (pad_nil))))) (blkOk_by (by dsimp only [cxOf, Cx.nox, Cx.wish, Cx.blk, compEnvC, envOfC, relabel_S]; decide +kernel)) (by decide) (fun _ _ _ _ _ => pgd_name (i := 8) sc_law.nd rfl (by first | exact .inl rfl | exact .inr rfl)) (fun _ _ _ _ _ => ptsd_nil) (fun _ _ _ _ _ => pd_callF (ok__law_wish T) (hr.mono (by decide)) (by rfl) T.m__law_wish T.f__law_wish.kp T.b__law_wish (pad_cons (pd_v 1) (pad_cons (pd_v 3) (pad_nil))))))) (pbd_cons (psd_set (i := 6) sc_law.nd rfl (by first | exact .inl rfl | exact .inr rfl) (pd_lst (pad_cons (pd_v 5) (pad_cons (pd_addA (pd_v 5) (pd_mulA (pd_tup (pad_cons (pd_callF (ok__law_wish T) (hr.mono (by decide)) (by rfl) T.m__law_wish T.f__law_wish.kp T.b__law_wish (pad_cons (pd_v 1) (pad_cons (pd_v 3) (pad_nil)))) (pad_nil))) (pd_int))) (pad_cons (pd_callF (ok__law_wish T) (hr.mono (by decide)) (by rfl) T.m__law_wish T.f__law_wish.kp T.b__law_wish (pad_cons (pd_v 1) (pad_cons (pd_v 3) (pad_nil)))) (pad_cons (pd_callTy call_list_of cd_list (by rfl) T.z_list boot_list (pad_cons (pd_v 5) (pad_nil))) (pad_nil))))))) (pbd_cons (psd_set (i := 6) sc_law.nd rfl (by first | exact .inl rfl | exact .inr rfl) (pd_addA (pd_addA (pd_v 6) (pd_lc (own := [("again", 8)]) rfl sc_law.nd (pid_range1 (by rfl) T.z_range (pd_int)) (blkOk_by (by dsimp only [cxOf, Cx.nox, Cx.wish, Cx.blk, compEnvC, envOfC, relabel_S]; decide +kernel)) (by decide) (fun _ _ _ _ _ => pgd_name (i := 8) sc_law.nd rfl (by first | exact .inl rfl | exact .inr rfl)) (fun _ _ _ _ _ => ptsd_nil) (fun _ _ _ _ _ => pd_callF (ok__law_bent T 7) (hr.mono (by decide)) (by rfl) T.m__law_bent T.f__law_bent.kp T.b__law_bent (pad_cons (pd_v 1) (pad_cons (pd_v 5) (pad_nil)))))) (pd_lst (pad_cons (pd_tup (pad_cons (pd_callF (ok__law_wish T) (hr.mono (by decide)) (by rfl) T.m__law_wish T.f__law_wish.kp T.b__law_wish (pad_cons (pd_v 1) (pad_cons (pd_addA (pd_int) (pd_callF (ok__law_draw T) (hr.mono (by decide)) (by rfl) T.m__law_draw T.f__law_draw.kp T.b__law_draw (pad_cons (pd_v 1) (pad_cons (pd_int) (pad_nil))))) (pad_nil)))) (pad_nil))) (pad_nil))))) (pbd_cons (psd_for PassesOwn.never rfl (pid_seq (pd_v 6)) (pgd_name (i := 7) sc_law.nd rfl (by first | exact .inl rfl | exact .inr rfl)) (pbd_cons (psd_par (i := 10) (j := 11) rfl sc_law.nd rfl rfl (by decide) rfl rfl (pad_cons (pd_callF (ok_are_wishes T) (hr.mono (by decide)) (by rfl) T.m_are_wishes T.f_are_wishes.kp T.b_are_wishes (pad_cons (pd_v 4) (pad_cons (pd_v 7) (pad_nil)))) (pad_cons (pd_callB (call_reprD rfl (hu100 hr)) cd_repr (by rfl) T.z_repr boot_repr (pad_cons (pd_v 7) (pad_nil))) (pad_nil))) (by rfl)) (pbd_one (psd_if (ptd_w (pwd_or (ptd_not (ptd_val (pd_callB call_isi cd_isi (by rfl) T.z_isinstance boot_isinstance (pad_cons (pd_v 10) (pad_cons (pd_tyc (by rfl) T.z_bool boot_bool) (pad_nil)))))) (pwd_or (ptd_ne (pd_v 10) (pd_callF (ok__law_are_wishes T) (hr.mono (by decide)) (by rfl) T.m__law_are_wishes T.f__law_are_wishes.kp T.b__law_are_wishes (pad_cons (pd_v 7) (pad_cons (pd_v 3) (pad_nil))))) (pwd_or1 (ptd_ne (pd_callB (call_reprD rfl (hu100 hr)) cd_repr (by rfl) T.z_repr boot_repr (pad_cons (pd_v 7) (pad_nil))) (pd_v 11)))))) (pbd_one (psd_ret (pd_bl))) (pbd_nil))))) (pbd_one (psd_for PassesOwn.never rfl (pid_range1 (by rfl) T.z_range (pd_int)) (pgd_name (i := 8) sc_law.nd rfl (by first | exact .inl rfl | exact .inr rfl)) (pbd_cons (psd_set (i := 9) sc_law.nd rfl (by first | exact .inl rfl | exact .inr rfl) (pd_callF (ok__law_places T) (hr.mono (by decide)) (by rfl) T.m__law_places T.f__law_places.kp T.b__law_places (pad_cons (pd_v 1) (pad_cons (pd_v 3) (pad_cons (pd_callF (ok__law_some T) (hr.mono (by decide)) (by rfl) T.m__law_some T.f__law_some.kp T.b__law_some (pad_cons (pd_v 1) (pad_cons (pd_lst (pad_cons (pd_int) (pad_cons (pd_int) (pad_cons (pd_int) (pad_cons (pd_int) (pad_cons (pd_int) (pad_nil))))))) (pad_nil)))) (pad_nil)))))) (pbd_cons (psd_par (i := 12) (j := 11) rfl sc_law.nd rfl rfl (by decide) rfl rfl (pad_cons (pd_callF (ok__law_due T) (hr.mono (by decide)) (by rfl) T.m__law_due T.f__law_due.kp T.b__law_due (pad_cons (pd_v 5) (pad_cons (pd_v 9) (pad_nil)))) (pad_cons (pd_callTy call_list_of cd_list (by rfl) T.z_list boot_list (pad_cons (pd_v 9) (pad_nil))) (pad_nil))) (by rfl)) (pbd_cons (psd_if (ptd_w (pwd_or (ptd_not (ptd_val (pd_callF (ok__law_is T) (hr.mono (by decide)) (by rfl) T.m__law_is T.f__law_is.kp T.b__law_is (pad_cons (pd_callF (ok_broken T) (hr.mono (by decide)) (by rfl) T.m_broken T.f_broken.kp T.b_broken (pad_cons (pd_v 5) (pad_cons (pd_tuple (by rfl) T.z_tuple (pd_v 9)) (pad_nil)))) (pad_cons (pd_v 12) (pad_nil)))))) (pwd_or1 (ptd_not (ptd_val (pd_callF (ok__law_is T) (hr.mono (by decide)) (by rfl) T.m__law_is T.f__law_is.kp T.b__law_is (pad_cons (pd_callF (ok_broken T) (hr.mono (by decide)) (by rfl) T.m_broken T.f_broken.kp T.b_broken (pad_cons (pd_v 5) (pad_cons (pd_v 9) (pad_nil)))) (pad_cons (pd_v 12) (pad_nil))))))))) (pbd_one (psd_ret (pd_bl))) (pbd_nil)) (pbd_one (psd_if (ptd_neSame (hu64 hr) (pd_v 9) (pd_v 11)) (pbd_one (psd_ret (pd_bl))) (pbd_nil))))))))))))))) (pbd_one (psd_ret (pd_bl)))))
theorem room13 : Room 13 callerA := ⟨rfl, by decide, by decide⟩
theorem law_run {l : PySem.W.OpenLaw} {w : World} (T : Tx PlC.K mg) (E : Ec T) {s : Shared} {base : Heap} {H : Hp} {a : Addr} {ns : List Int} (hl : ns.length ≤ 63) (e0 : Env0 l.prog w PlC.K mg base callerA [] s H) (sq : SqL PlC.K H a (ns.map V.int)) (nt : ∀ b ps, H b ≠ some (.tbl ps)) :
    codeAny (model l.prog w) callerA (.call (.ref T.a_law) ⟨[.ref a], []⟩) (CR CX0 [] l.prog w H s (fun v _ => v = .bl true) fun _ _ _ => False) s := by
  obtain ⟨oc, od, kV, doc, pm, an, cdv, ct, osl, efd, lk, hcd⟩ := T.f_law.ex
  rw [efd] at lk
  refine runAt (k := 12) (us := [.ref a]) (vs := [.ref a]) lk hcd sc_law room13 e0 (.of_eq rfl) (.cons rfl .nil) rfl ⟨_, (pbd_law T E (room13.deeper _)).pb.nox, H, _, fun _ => none, { nx := fun _ _ => D.non = .bl true, rt := fun d _ => d = .bl true },
    ⟨Same.refl _, (fun _ _ z => by cases z), (fun t ht => by cases ht), ⟨(fun _ _ z => by cases z), fun _ _ z => by cases z⟩, nt⟩, erep_start (.cons (.fz sq (reps_ints ns)) .nil) ["script", "hand", "turn", "axes", "plant", "wishes", "things", "thing", "again", "places", "told", "kept", "due"], ?_, ?_⟩
  · exact rd_law _ _ (fun d _ => d = .bl true) ⟨ns, rfl, hl, fun _ => rfl⟩
  · refine ⟨fun e' O' F' H' σ' h' g' _ => ?_, fun d O' F' H' v e g r => ?_, fun _ _ _ _ _ z => ?_, fun _ _ _ _ _ z => ?_⟩
    · have h' : D.non = .bl true := h'
      cases h'
    · have e : d = .bl true := e
      subst e
      cases r
      rfl
    · exact False.elim z
    · exact False.elim z
end
end Lk17
namespace Lk17
open PySem PySem.Spec PyProof.Rows L2 SC
/-! ### what the top has left -/
section
variable {K : PySem.W.Frag} {h : Heap} {mg : Str → Option Value}
def mkT (X : K.In h) (G : h.Ns mainGlobals mg)
    {f_is_integer : Addr} {od_is_integer an_is_integer : Option Addr} {sl_is_integer : Array (Option Value)} {oc_is_integer kV_is_integer dc_is_integer pm_is_integer cd_is_integer ct_is_integer : Value}
    (a_is_integer : PySem.W.nsIn K mainGlobals "is_integer" = some (some (.ref f_is_integer))) (l_is_integer : K.lookup f_is_integer = some ⟨oc_is_integer, od_is_integer, .func (PySem.W.fnOf "is_integer" "is_integer" (defArgs s_is_integer) (defBody s_is_integer) (defScope s_is_integer) .none kV_is_integer dc_is_integer pm_is_integer an_is_integer cd_is_integer ct_is_integer), sl_is_integer⟩) (c_is_integer : PySem.W.codeIn K cd_is_integer "is_integer" = true) (k_is_integer : PySem.W.keepIn K (.ref f_is_integer) = true)
    {f_is_between : Addr} {od_is_between an_is_between : Option Addr} {sl_is_between : Array (Option Value)} {oc_is_between kV_is_between dc_is_between pm_is_between cd_is_between ct_is_between : Value}
    (a_is_between : PySem.W.nsIn K mainGlobals "is_between" = some (some (.ref f_is_between))) (l_is_between : K.lookup f_is_between = some ⟨oc_is_between, od_is_between, .func (PySem.W.fnOf "is_between" "is_between" (defArgs s_is_between) (defBody s_is_between) (defScope s_is_between) .none kV_is_between dc_is_between pm_is_between an_is_between cd_is_between ct_is_between), sl_is_between⟩) (c_is_between : PySem.W.codeIn K cd_is_between "is_between" = true) (k_is_between : PySem.W.keepIn K (.ref f_is_between) = true)
    {f_is_tuple : Addr} {od_is_tuple an_is_tuple : Option Addr} {sl_is_tuple : Array (Option Value)} {oc_is_tuple kV_is_tuple dc_is_tuple pm_is_tuple cd_is_tuple ct_is_tuple : Value}
    (a_is_tuple : PySem.W.nsIn K mainGlobals "is_tuple" = some (some (.ref f_is_tuple))) (l_is_tuple : K.lookup f_is_tuple = some ⟨oc_is_tuple, od_is_tuple, .func (PySem.W.fnOf "is_tuple" "is_tuple" (defArgs s_is_tuple) (defBody s_is_tuple) (defScope s_is_tuple) .none kV_is_tuple dc_is_tuple pm_is_tuple an_is_tuple cd_is_tuple ct_is_tuple), sl_is_tuple⟩) (c_is_tuple : PySem.W.codeIn K cd_is_tuple "is_tuple" = true) (k_is_tuple : PySem.W.keepIn K (.ref f_is_tuple) = true)
    {f_is_pair : Addr} {od_is_pair an_is_pair : Option Addr} {sl_is_pair : Array (Option Value)} {oc_is_pair kV_is_pair dc_is_pair pm_is_pair cd_is_pair ct_is_pair : Value}
    (a_is_pair : PySem.W.nsIn K mainGlobals "is_pair" = some (some (.ref f_is_pair))) (l_is_pair : K.lookup f_is_pair = some ⟨oc_is_pair, od_is_pair, .func (PySem.W.fnOf "is_pair" "is_pair" (defArgs s_is_pair) (defBody s_is_pair) (defScope s_is_pair) .none kV_is_pair dc_is_pair pm_is_pair an_is_pair cd_is_pair ct_is_pair), sl_is_pair⟩) (c_is_pair : PySem.W.codeIn K cd_is_pair "is_pair" = true) (k_is_pair : PySem.W.keepIn K (.ref f_is_pair) = true)
    {f_is_one_of : Addr} {od_is_one_of an_is_one_of : Option Addr} {sl_is_one_of : Array (Option Value)} {oc_is_one_of kV_is_one_of dc_is_one_of pm_is_one_of cd_is_one_of ct_is_one_of : Value}
    (a_is_one_of : PySem.W.nsIn K mainGlobals "is_one_of" = some (some (.ref f_is_one_of))) (l_is_one_of : K.lookup f_is_one_of = some ⟨oc_is_one_of, od_is_one_of, .func (PySem.W.fnOf "is_one_of" "is_one_of" (defArgs s_is_one_of) (defBody s_is_one_of) (defScope s_is_one_of) .none kV_is_one_of dc_is_one_of pm_is_one_of an_is_one_of cd_is_one_of ct_is_one_of), sl_is_one_of⟩) (c_is_one_of : PySem.W.codeIn K cd_is_one_of "is_one_of" = true) (k_is_one_of : PySem.W.keepIn K (.ref f_is_one_of) = true)
    {f_is_span : Addr} {od_is_span an_is_span : Option Addr} {sl_is_span : Array (Option Value)} {oc_is_span kV_is_span dc_is_span pm_is_span cd_is_span ct_is_span : Value}
    (a_is_span : PySem.W.nsIn K mainGlobals "is_span" = some (some (.ref f_is_span))) (l_is_span : K.lookup f_is_span = some ⟨oc_is_span, od_is_span, .func (PySem.W.fnOf "is_span" "is_span" (defArgs s_is_span) (defBody s_is_span) (defScope s_is_span) .none kV_is_span dc_is_span pm_is_span an_is_span cd_is_span ct_is_span), sl_is_span⟩) (c_is_span : PySem.W.codeIn K cd_is_span "is_span" = true) (k_is_span : PySem.W.keepIn K (.ref f_is_span) = true)
    {f_are_spans : Addr} {od_are_spans an_are_spans : Option Addr} {sl_are_spans : Array (Option Value)} {oc_are_spans kV_are_spans dc_are_spans pm_are_spans cd_are_spans ct_are_spans : Value}
    (a_are_spans : PySem.W.nsIn K mainGlobals "are_spans" = some (some (.ref f_are_spans))) (l_are_spans : K.lookup f_are_spans = some ⟨oc_are_spans, od_are_spans, .func (PySem.W.fnOf "are_spans" "are_spans" (defArgs s_are_spans) (defBody s_are_spans) (defScope s_are_spans) .none kV_are_spans dc_are_spans pm_are_spans an_are_spans cd_are_spans ct_are_spans), sl_are_spans⟩) (c_are_spans : PySem.W.codeIn K cd_are_spans "are_spans" = true) (k_are_spans : PySem.W.keepIn K (.ref f_are_spans) = true)
    {f_many_rows : Addr} {od_many_rows an_many_rows : Option Addr} {sl_many_rows : Array (Option Value)} {oc_many_rows kV_many_rows dc_many_rows pm_many_rows cd_many_rows ct_many_rows : Value}
    (a_many_rows : PySem.W.nsIn K mainGlobals "many_rows" = some (some (.ref f_many_rows))) (l_many_rows : K.lookup f_many_rows = some ⟨oc_many_rows, od_many_rows, .func (PySem.W.fnOf "many_rows" "many_rows" (defArgs s_many_rows) (defBody s_many_rows) (defScope s_many_rows) .none kV_many_rows dc_many_rows pm_many_rows an_many_rows cd_many_rows ct_many_rows), sl_many_rows⟩) (c_many_rows : PySem.W.codeIn K cd_many_rows "many_rows" = true) (k_many_rows : PySem.W.keepIn K (.ref f_many_rows) = true)
    {f_is_way : Addr} {od_is_way an_is_way : Option Addr} {sl_is_way : Array (Option Value)} {oc_is_way kV_is_way dc_is_way pm_is_way cd_is_way ct_is_way : Value}
    (a_is_way : PySem.W.nsIn K mainGlobals "is_way" = some (some (.ref f_is_way))) (l_is_way : K.lookup f_is_way = some ⟨oc_is_way, od_is_way, .func (PySem.W.fnOf "is_way" "is_way" (defArgs s_is_way) (defBody s_is_way) (defScope s_is_way) .none kV_is_way dc_is_way pm_is_way an_is_way cd_is_way ct_is_way), sl_is_way⟩) (c_is_way : PySem.W.codeIn K cd_is_way "is_way" = true) (k_is_way : PySem.W.keepIn K (.ref f_is_way) = true)
    {f_is_leaf : Addr} {od_is_leaf an_is_leaf : Option Addr} {sl_is_leaf : Array (Option Value)} {oc_is_leaf kV_is_leaf dc_is_leaf pm_is_leaf cd_is_leaf ct_is_leaf : Value}
    (a_is_leaf : PySem.W.nsIn K mainGlobals "is_leaf" = some (some (.ref f_is_leaf))) (l_is_leaf : K.lookup f_is_leaf = some ⟨oc_is_leaf, od_is_leaf, .func (PySem.W.fnOf "is_leaf" "is_leaf" (defArgs s_is_leaf) (defBody s_is_leaf) (defScope s_is_leaf) .none kV_is_leaf dc_is_leaf pm_is_leaf an_is_leaf cd_is_leaf ct_is_leaf), sl_is_leaf⟩) (c_is_leaf : PySem.W.codeIn K cd_is_leaf "is_leaf" = true) (k_is_leaf : PySem.W.keepIn K (.ref f_is_leaf) = true)
    {f_operations : Addr} {od_operations an_operations : Option Addr} {sl_operations : Array (Option Value)} {oc_operations kV_operations dc_operations pm_operations cd_operations ct_operations : Value}
    (a_operations : PySem.W.nsIn K mainGlobals "operations" = some (some (.ref f_operations))) (l_operations : K.lookup f_operations = some ⟨oc_operations, od_operations, .func (PySem.W.fnOf "operations" "operations" (defArgs s_operations) (defBody s_operations) (defScope s_operations) .none kV_operations dc_operations pm_operations an_operations cd_operations ct_operations), sl_operations⟩) (c_operations : PySem.W.codeIn K cd_operations "operations" = true) (k_operations : PySem.W.keepIn K (.ref f_operations) = true)
    {f_is_formula : Addr} {od_is_formula an_is_formula : Option Addr} {sl_is_formula : Array (Option Value)} {oc_is_formula kV_is_formula dc_is_formula pm_is_formula cd_is_formula ct_is_formula : Value}
    (a_is_formula : PySem.W.nsIn K mainGlobals "is_formula" = some (some (.ref f_is_formula))) (l_is_formula : K.lookup f_is_formula = some ⟨oc_is_formula, od_is_formula, .func (PySem.W.fnOf "is_formula" "is_formula" (defArgs s_is_formula) (defBody s_is_formula) (defScope s_is_formula) .none kV_is_formula dc_is_formula pm_is_formula an_is_formula cd_is_formula ct_is_formula), sl_is_formula⟩) (c_is_formula : PySem.W.codeIn K cd_is_formula "is_formula" = true) (k_is_formula : PySem.W.keepIn K (.ref f_is_formula) = true)
    {f_is_box : Addr} {od_is_box an_is_box : Option Addr} {sl_is_box : Array (Option Value)} {oc_is_box kV_is_box dc_is_box pm_is_box cd_is_box ct_is_box : Value}
    (a_is_box : PySem.W.nsIn K mainGlobals "is_box" = some (some (.ref f_is_box))) (l_is_box : K.lookup f_is_box = some ⟨oc_is_box, od_is_box, .func (PySem.W.fnOf "is_box" "is_box" (defArgs s_is_box) (defBody s_is_box) (defScope s_is_box) .none kV_is_box dc_is_box pm_is_box an_is_box cd_is_box ct_is_box), sl_is_box⟩) (c_is_box : PySem.W.codeIn K cd_is_box "is_box" = true) (k_is_box : PySem.W.keepIn K (.ref f_is_box) = true)
    {f_is_area : Addr} {od_is_area an_is_area : Option Addr} {sl_is_area : Array (Option Value)} {oc_is_area kV_is_area dc_is_area pm_is_area cd_is_area ct_is_area : Value}
    (a_is_area : PySem.W.nsIn K mainGlobals "is_area" = some (some (.ref f_is_area))) (l_is_area : K.lookup f_is_area = some ⟨oc_is_area, od_is_area, .func (PySem.W.fnOf "is_area" "is_area" (defArgs s_is_area) (defBody s_is_area) (defScope s_is_area) .none kV_is_area dc_is_area pm_is_area an_is_area cd_is_area ct_is_area), sl_is_area⟩) (c_is_area : PySem.W.codeIn K cd_is_area "is_area" = true) (k_is_area : PySem.W.keepIn K (.ref f_is_area) = true)
    {f_in_box : Addr} {od_in_box an_in_box : Option Addr} {sl_in_box : Array (Option Value)} {oc_in_box kV_in_box dc_in_box pm_in_box cd_in_box ct_in_box : Value}
    (a_in_box : PySem.W.nsIn K mainGlobals "in_box" = some (some (.ref f_in_box))) (l_in_box : K.lookup f_in_box = some ⟨oc_in_box, od_in_box, .func (PySem.W.fnOf "in_box" "in_box" (defArgs s_in_box) (defBody s_in_box) (defScope s_in_box) .none kV_in_box dc_in_box pm_in_box an_in_box cd_in_box ct_in_box), sl_in_box⟩) (c_in_box : PySem.W.codeIn K cd_in_box "in_box" = true) (k_in_box : PySem.W.keepIn K (.ref f_in_box) = true)
    {f_in_area : Addr} {od_in_area an_in_area : Option Addr} {sl_in_area : Array (Option Value)} {oc_in_area kV_in_area dc_in_area pm_in_area cd_in_area ct_in_area : Value}
    (a_in_area : PySem.W.nsIn K mainGlobals "in_area" = some (some (.ref f_in_area))) (l_in_area : K.lookup f_in_area = some ⟨oc_in_area, od_in_area, .func (PySem.W.fnOf "in_area" "in_area" (defArgs s_in_area) (defBody s_in_area) (defScope s_in_area) .none kV_in_area dc_in_area pm_in_area an_in_area cd_in_area ct_in_area), sl_in_area⟩) (c_in_area : PySem.W.codeIn K cd_in_area "in_area" = true) (k_in_area : PySem.W.keepIn K (.ref f_in_area) = true)
    {f_is_mode : Addr} {od_is_mode an_is_mode : Option Addr} {sl_is_mode : Array (Option Value)} {oc_is_mode kV_is_mode dc_is_mode pm_is_mode cd_is_mode ct_is_mode : Value}
    (a_is_mode : PySem.W.nsIn K mainGlobals "is_mode" = some (some (.ref f_is_mode))) (l_is_mode : K.lookup f_is_mode = some ⟨oc_is_mode, od_is_mode, .func (PySem.W.fnOf "is_mode" "is_mode" (defArgs s_is_mode) (defBody s_is_mode) (defScope s_is_mode) .none kV_is_mode dc_is_mode pm_is_mode an_is_mode cd_is_mode ct_is_mode), sl_is_mode⟩) (c_is_mode : PySem.W.codeIn K cd_is_mode "is_mode" = true) (k_is_mode : PySem.W.keepIn K (.ref f_is_mode) = true)
    {f_are_modes : Addr} {od_are_modes an_are_modes : Option Addr} {sl_are_modes : Array (Option Value)} {oc_are_modes kV_are_modes dc_are_modes pm_are_modes cd_are_modes ct_are_modes : Value}
    (a_are_modes : PySem.W.nsIn K mainGlobals "are_modes" = some (some (.ref f_are_modes))) (l_are_modes : K.lookup f_are_modes = some ⟨oc_are_modes, od_are_modes, .func (PySem.W.fnOf "are_modes" "are_modes" (defArgs s_are_modes) (defBody s_are_modes) (defScope s_are_modes) .none kV_are_modes dc_are_modes pm_are_modes an_are_modes cd_are_modes ct_are_modes), sl_are_modes⟩) (c_are_modes : PySem.W.codeIn K cd_are_modes "are_modes" = true) (k_are_modes : PySem.W.keepIn K (.ref f_are_modes) = true)
    {f_is_wish : Addr} {od_is_wish an_is_wish : Option Addr} {sl_is_wish : Array (Option Value)} {oc_is_wish kV_is_wish dc_is_wish pm_is_wish cd_is_wish ct_is_wish : Value}
    (a_is_wish : PySem.W.nsIn K mainGlobals "is_wish" = some (some (.ref f_is_wish))) (l_is_wish : K.lookup f_is_wish = some ⟨oc_is_wish, od_is_wish, .func (PySem.W.fnOf "is_wish" "is_wish" (defArgs s_is_wish) (defBody s_is_wish) (defScope s_is_wish) .none kV_is_wish dc_is_wish pm_is_wish an_is_wish cd_is_wish ct_is_wish), sl_is_wish⟩) (c_is_wish : PySem.W.codeIn K cd_is_wish "is_wish" = true) (k_is_wish : PySem.W.keepIn K (.ref f_is_wish) = true)
    {f_are_wishes : Addr} {od_are_wishes an_are_wishes : Option Addr} {sl_are_wishes : Array (Option Value)} {oc_are_wishes kV_are_wishes dc_are_wishes pm_are_wishes cd_are_wishes ct_are_wishes : Value}
    (a_are_wishes : PySem.W.nsIn K mainGlobals "are_wishes" = some (some (.ref f_are_wishes))) (l_are_wishes : K.lookup f_are_wishes = some ⟨oc_are_wishes, od_are_wishes, .func (PySem.W.fnOf "are_wishes" "are_wishes" (defArgs s_are_wishes) (defBody s_are_wishes) (defScope s_are_wishes) .none kV_are_wishes dc_are_wishes pm_are_wishes an_are_wishes cd_are_wishes ct_are_wishes), sl_are_wishes⟩) (c_are_wishes : PySem.W.codeIn K cd_are_wishes "are_wishes" = true) (k_are_wishes : PySem.W.keepIn K (.ref f_are_wishes) = true)
    {f_marks : Addr} {od_marks an_marks : Option Addr} {sl_marks : Array (Option Value)} {oc_marks kV_marks dc_marks pm_marks cd_marks ct_marks : Value}
    (a_marks : PySem.W.nsIn K mainGlobals "marks" = some (some (.ref f_marks))) (l_marks : K.lookup f_marks = some ⟨oc_marks, od_marks, .func (PySem.W.fnOf "marks" "marks" (defArgs s_marks) (defBody s_marks) (defScope s_marks) .none kV_marks dc_marks pm_marks an_marks cd_marks ct_marks), sl_marks⟩) (c_marks : PySem.W.codeIn K cd_marks "marks" = true) (k_marks : PySem.W.keepIn K (.ref f_marks) = true)
    {f_ahead_count : Addr} {od_ahead_count an_ahead_count : Option Addr} {sl_ahead_count : Array (Option Value)} {oc_ahead_count kV_ahead_count dc_ahead_count pm_ahead_count cd_ahead_count ct_ahead_count : Value}
    (a_ahead_count : PySem.W.nsIn K mainGlobals "ahead_count" = some (some (.ref f_ahead_count))) (l_ahead_count : K.lookup f_ahead_count = some ⟨oc_ahead_count, od_ahead_count, .func (PySem.W.fnOf "ahead_count" "ahead_count" (defArgs s_ahead_count) (defBody s_ahead_count) (defScope s_ahead_count) .none kV_ahead_count dc_ahead_count pm_ahead_count an_ahead_count cd_ahead_count ct_ahead_count), sl_ahead_count⟩) (c_ahead_count : PySem.W.codeIn K cd_ahead_count "ahead_count" = true) (k_ahead_count : PySem.W.keepIn K (.ref f_ahead_count) = true)
    {f_count_at_first : Addr} {od_count_at_first an_count_at_first : Option Addr} {sl_count_at_first : Array (Option Value)} {oc_count_at_first kV_count_at_first dc_count_at_first pm_count_at_first cd_count_at_first ct_count_at_first : Value}
    (a_count_at_first : PySem.W.nsIn K mainGlobals "count_at_first" = some (some (.ref f_count_at_first))) (l_count_at_first : K.lookup f_count_at_first = some ⟨oc_count_at_first, od_count_at_first, .func (PySem.W.fnOf "count_at_first" "count_at_first" (defArgs s_count_at_first) (defBody s_count_at_first) (defScope s_count_at_first) .none kV_count_at_first dc_count_at_first pm_count_at_first an_count_at_first cd_count_at_first ct_count_at_first), sl_count_at_first⟩) (c_count_at_first : PySem.W.codeIn K cd_count_at_first "count_at_first" = true) (k_count_at_first : PySem.W.keepIn K (.ref f_count_at_first) = true)
    {f_unless_above : Addr} {od_unless_above an_unless_above : Option Addr} {sl_unless_above : Array (Option Value)} {oc_unless_above kV_unless_above dc_unless_above pm_unless_above cd_unless_above ct_unless_above : Value}
    (a_unless_above : PySem.W.nsIn K mainGlobals "unless_above" = some (some (.ref f_unless_above))) (l_unless_above : K.lookup f_unless_above = some ⟨oc_unless_above, od_unless_above, .func (PySem.W.fnOf "unless_above" "unless_above" (defArgs s_unless_above) (defBody s_unless_above) (defScope s_unless_above) .none kV_unless_above dc_unless_above pm_unless_above an_unless_above cd_unless_above ct_unless_above), sl_unless_above⟩) (c_unless_above : PySem.W.codeIn K cd_unless_above "unless_above" = true) (k_unless_above : PySem.W.keepIn K (.ref f_unless_above) = true)
    {f_next_waiting : Addr} {od_next_waiting an_next_waiting : Option Addr} {sl_next_waiting : Array (Option Value)} {oc_next_waiting kV_next_waiting dc_next_waiting pm_next_waiting cd_next_waiting ct_next_waiting : Value}
    (a_next_waiting : PySem.W.nsIn K mainGlobals "next_waiting" = some (some (.ref f_next_waiting))) (l_next_waiting : K.lookup f_next_waiting = some ⟨oc_next_waiting, od_next_waiting, .func (PySem.W.fnOf "next_waiting" "next_waiting" (defArgs s_next_waiting) (defBody s_next_waiting) (defScope s_next_waiting) .none kV_next_waiting dc_next_waiting pm_next_waiting an_next_waiting cd_next_waiting ct_next_waiting), sl_next_waiting⟩) (c_next_waiting : PySem.W.codeIn K cd_next_waiting "next_waiting" = true) (k_next_waiting : PySem.W.keepIn K (.ref f_next_waiting) = true)
    {f_next_count : Addr} {od_next_count an_next_count : Option Addr} {sl_next_count : Array (Option Value)} {oc_next_count kV_next_count dc_next_count pm_next_count cd_next_count ct_next_count : Value}
    (a_next_count : PySem.W.nsIn K mainGlobals "next_count" = some (some (.ref f_next_count))) (l_next_count : K.lookup f_next_count = some ⟨oc_next_count, od_next_count, .func (PySem.W.fnOf "next_count" "next_count" (defArgs s_next_count) (defBody s_next_count) (defScope s_next_count) .none kV_next_count dc_next_count pm_next_count an_next_count cd_next_count ct_next_count), sl_next_count⟩) (c_next_count : PySem.W.codeIn K cd_next_count "next_count" = true) (k_next_count : PySem.W.keepIn K (.ref f_next_count) = true)
    {f_begun_by : Addr} {od_begun_by an_begun_by : Option Addr} {sl_begun_by : Array (Option Value)} {oc_begun_by kV_begun_by dc_begun_by pm_begun_by cd_begun_by ct_begun_by : Value}
    (a_begun_by : PySem.W.nsIn K mainGlobals "begun_by" = some (some (.ref f_begun_by))) (l_begun_by : K.lookup f_begun_by = some ⟨oc_begun_by, od_begun_by, .func (PySem.W.fnOf "begun_by" "begun_by" (defArgs s_begun_by) (defBody s_begun_by) (defScope s_begun_by) .none kV_begun_by dc_begun_by pm_begun_by an_begun_by cd_begun_by ct_begun_by), sl_begun_by⟩) (c_begun_by : PySem.W.codeIn K cd_begun_by "begun_by" = true) (k_begun_by : PySem.W.keepIn K (.ref f_begun_by) = true)
    {f_counted_by : Addr} {od_counted_by an_counted_by : Option Addr} {sl_counted_by : Array (Option Value)} {oc_counted_by kV_counted_by dc_counted_by pm_counted_by cd_counted_by ct_counted_by : Value}
    (a_counted_by : PySem.W.nsIn K mainGlobals "counted_by" = some (some (.ref f_counted_by))) (l_counted_by : K.lookup f_counted_by = some ⟨oc_counted_by, od_counted_by, .func (PySem.W.fnOf "counted_by" "counted_by" (defArgs s_counted_by) (defBody s_counted_by) (defScope s_counted_by) .none kV_counted_by dc_counted_by pm_counted_by an_counted_by cd_counted_by ct_counted_by), sl_counted_by⟩) (c_counted_by : PySem.W.codeIn K cd_counted_by "counted_by" = true) (k_counted_by : PySem.W.keepIn K (.ref f_counted_by) = true)
    {f_begun : Addr} {od_begun an_begun : Option Addr} {sl_begun : Array (Option Value)} {oc_begun kV_begun dc_begun pm_begun cd_begun ct_begun : Value}
    (a_begun : PySem.W.nsIn K mainGlobals "begun" = some (some (.ref f_begun))) (l_begun : K.lookup f_begun = some ⟨oc_begun, od_begun, .func (PySem.W.fnOf "begun" "begun" (defArgs s_begun) (defBody s_begun) (defScope s_begun) .none kV_begun dc_begun pm_begun an_begun cd_begun ct_begun), sl_begun⟩) (c_begun : PySem.W.codeIn K cd_begun "begun" = true) (k_begun : PySem.W.keepIn K (.ref f_begun) = true)
    {f_counted : Addr} {od_counted an_counted : Option Addr} {sl_counted : Array (Option Value)} {oc_counted kV_counted dc_counted pm_counted cd_counted ct_counted : Value}
    (a_counted : PySem.W.nsIn K mainGlobals "counted" = some (some (.ref f_counted))) (l_counted : K.lookup f_counted = some ⟨oc_counted, od_counted, .func (PySem.W.fnOf "counted" "counted" (defArgs s_counted) (defBody s_counted) (defScope s_counted) .none kV_counted dc_counted pm_counted an_counted cd_counted ct_counted), sl_counted⟩) (c_counted : PySem.W.codeIn K cd_counted "counted" = true) (k_counted : PySem.W.keepIn K (.ref f_counted) = true)
    {f_first_broken : Addr} {od_first_broken an_first_broken : Option Addr} {sl_first_broken : Array (Option Value)} {oc_first_broken kV_first_broken dc_first_broken pm_first_broken cd_first_broken ct_first_broken : Value}
    (a_first_broken : PySem.W.nsIn K mainGlobals "first_broken" = some (some (.ref f_first_broken))) (l_first_broken : K.lookup f_first_broken = some ⟨oc_first_broken, od_first_broken, .func (PySem.W.fnOf "first_broken" "first_broken" (defArgs s_first_broken) (defBody s_first_broken) (defScope s_first_broken) .none kV_first_broken dc_first_broken pm_first_broken an_first_broken cd_first_broken ct_first_broken), sl_first_broken⟩) (c_first_broken : PySem.W.codeIn K cd_first_broken "first_broken" = true) (k_first_broken : PySem.W.keepIn K (.ref f_first_broken) = true)
    {f_broken : Addr} {od_broken an_broken : Option Addr} {sl_broken : Array (Option Value)} {oc_broken kV_broken dc_broken pm_broken cd_broken ct_broken : Value}
    (a_broken : PySem.W.nsIn K mainGlobals "broken" = some (some (.ref f_broken))) (l_broken : K.lookup f_broken = some ⟨oc_broken, od_broken, .func (PySem.W.fnOf "broken" "broken" (defArgs s_broken) (defBody s_broken) (defScope s_broken) .none kV_broken dc_broken pm_broken an_broken cd_broken ct_broken), sl_broken⟩) (c_broken : PySem.W.codeIn K cd_broken "broken" = true) (k_broken : PySem.W.keepIn K (.ref f_broken) = true)
    {f__law_hand : Addr} {od__law_hand an__law_hand : Option Addr} {sl__law_hand : Array (Option Value)} {oc__law_hand kV__law_hand dc__law_hand pm__law_hand cd__law_hand ct__law_hand : Value}
    (a__law_hand : PySem.W.nsIn K mainGlobals "_law_hand" = some (some (.ref f__law_hand))) (l__law_hand : K.lookup f__law_hand = some ⟨oc__law_hand, od__law_hand, .func (PySem.W.fnOf "_law_hand" "_law_hand" (defArgs s__law_hand) (defBody s__law_hand) (defScope s__law_hand) .none kV__law_hand dc__law_hand pm__law_hand an__law_hand cd__law_hand ct__law_hand), sl__law_hand⟩) (c__law_hand : PySem.W.codeIn K cd__law_hand "_law_hand" = true) (k__law_hand : PySem.W.keepIn K (.ref f__law_hand) = true)
    {f__law_draw : Addr} {od__law_draw an__law_draw : Option Addr} {sl__law_draw : Array (Option Value)} {oc__law_draw kV__law_draw dc__law_draw pm__law_draw cd__law_draw ct__law_draw : Value}
    (a__law_draw : PySem.W.nsIn K mainGlobals "_law_draw" = some (some (.ref f__law_draw))) (l__law_draw : K.lookup f__law_draw = some ⟨oc__law_draw, od__law_draw, .func (PySem.W.fnOf "_law_draw" "_law_draw" (defArgs s__law_draw) (defBody s__law_draw) (defScope s__law_draw) .none kV__law_draw dc__law_draw pm__law_draw an__law_draw cd__law_draw ct__law_draw), sl__law_draw⟩) (c__law_draw : PySem.W.codeIn K cd__law_draw "_law_draw" = true) (k__law_draw : PySem.W.keepIn K (.ref f__law_draw) = true)
    {f__law_some : Addr} {od__law_some an__law_some : Option Addr} {sl__law_some : Array (Option Value)} {oc__law_some kV__law_some dc__law_some pm__law_some cd__law_some ct__law_some : Value}
    (a__law_some : PySem.W.nsIn K mainGlobals "_law_some" = some (some (.ref f__law_some))) (l__law_some : K.lookup f__law_some = some ⟨oc__law_some, od__law_some, .func (PySem.W.fnOf "_law_some" "_law_some" (defArgs s__law_some) (defBody s__law_some) (defScope s__law_some) .none kV__law_some dc__law_some pm__law_some an__law_some cd__law_some ct__law_some), sl__law_some⟩) (c__law_some : PySem.W.codeIn K cd__law_some "_law_some" = true) (k__law_some : PySem.W.keepIn K (.ref f__law_some) = true)
    {f__law_deep : Addr} {od__law_deep an__law_deep : Option Addr} {sl__law_deep : Array (Option Value)} {oc__law_deep kV__law_deep dc__law_deep pm__law_deep cd__law_deep ct__law_deep : Value}
    (a__law_deep : PySem.W.nsIn K mainGlobals "_law_deep" = some (some (.ref f__law_deep))) (l__law_deep : K.lookup f__law_deep = some ⟨oc__law_deep, od__law_deep, .func (PySem.W.fnOf "_law_deep" "_law_deep" (defArgs s__law_deep) (defBody s__law_deep) (defScope s__law_deep) .none kV__law_deep dc__law_deep pm__law_deep an__law_deep cd__law_deep ct__law_deep), sl__law_deep⟩) (c__law_deep : PySem.W.codeIn K cd__law_deep "_law_deep" = true) (k__law_deep : PySem.W.keepIn K (.ref f__law_deep) = true)
    {f__law_in : Addr} {od__law_in an__law_in : Option Addr} {sl__law_in : Array (Option Value)} {oc__law_in kV__law_in dc__law_in pm__law_in cd__law_in ct__law_in : Value}
    (a__law_in : PySem.W.nsIn K mainGlobals "_law_in" = some (some (.ref f__law_in))) (l__law_in : K.lookup f__law_in = some ⟨oc__law_in, od__law_in, .func (PySem.W.fnOf "_law_in" "_law_in" (defArgs s__law_in) (defBody s__law_in) (defScope s__law_in) .none kV__law_in dc__law_in pm__law_in an__law_in cd__law_in ct__law_in), sl__law_in⟩) (c__law_in : PySem.W.codeIn K cd__law_in "_law_in" = true) (k__law_in : PySem.W.keepIn K (.ref f__law_in) = true)
    {f__law_breaks : Addr} {od__law_breaks an__law_breaks : Option Addr} {sl__law_breaks : Array (Option Value)} {oc__law_breaks kV__law_breaks dc__law_breaks pm__law_breaks cd__law_breaks ct__law_breaks : Value}
    (a__law_breaks : PySem.W.nsIn K mainGlobals "_law_breaks" = some (some (.ref f__law_breaks))) (l__law_breaks : K.lookup f__law_breaks = some ⟨oc__law_breaks, od__law_breaks, .func (PySem.W.fnOf "_law_breaks" "_law_breaks" (defArgs s__law_breaks) (defBody s__law_breaks) (defScope s__law_breaks) .none kV__law_breaks dc__law_breaks pm__law_breaks an__law_breaks cd__law_breaks ct__law_breaks), sl__law_breaks⟩) (c__law_breaks : PySem.W.codeIn K cd__law_breaks "_law_breaks" = true) (k__law_breaks : PySem.W.keepIn K (.ref f__law_breaks) = true)
    {f__law_box : Addr} {od__law_box an__law_box : Option Addr} {sl__law_box : Array (Option Value)} {oc__law_box kV__law_box dc__law_box pm__law_box cd__law_box ct__law_box : Value}
    (a__law_box : PySem.W.nsIn K mainGlobals "_law_box" = some (some (.ref f__law_box))) (l__law_box : K.lookup f__law_box = some ⟨oc__law_box, od__law_box, .func (PySem.W.fnOf "_law_box" "_law_box" (defArgs s__law_box) (defBody s__law_box) (defScope s__law_box) .none kV__law_box dc__law_box pm__law_box an__law_box cd__law_box ct__law_box), sl__law_box⟩) (c__law_box : PySem.W.codeIn K cd__law_box "_law_box" = true) (k__law_box : PySem.W.keepIn K (.ref f__law_box) = true)
    {f__law_area : Addr} {od__law_area an__law_area : Option Addr} {sl__law_area : Array (Option Value)} {oc__law_area kV__law_area dc__law_area pm__law_area cd__law_area ct__law_area : Value}
    (a__law_area : PySem.W.nsIn K mainGlobals "_law_area" = some (some (.ref f__law_area))) (l__law_area : K.lookup f__law_area = some ⟨oc__law_area, od__law_area, .func (PySem.W.fnOf "_law_area" "_law_area" (defArgs s__law_area) (defBody s__law_area) (defScope s__law_area) .none kV__law_area dc__law_area pm__law_area an__law_area cd__law_area ct__law_area), sl__law_area⟩) (c__law_area : PySem.W.codeIn K cd__law_area "_law_area" = true) (k__law_area : PySem.W.keepIn K (.ref f__law_area) = true)
    {f__law_wish : Addr} {od__law_wish an__law_wish : Option Addr} {sl__law_wish : Array (Option Value)} {oc__law_wish kV__law_wish dc__law_wish pm__law_wish cd__law_wish ct__law_wish : Value}
    (a__law_wish : PySem.W.nsIn K mainGlobals "_law_wish" = some (some (.ref f__law_wish))) (l__law_wish : K.lookup f__law_wish = some ⟨oc__law_wish, od__law_wish, .func (PySem.W.fnOf "_law_wish" "_law_wish" (defArgs s__law_wish) (defBody s__law_wish) (defScope s__law_wish) .none kV__law_wish dc__law_wish pm__law_wish an__law_wish cd__law_wish ct__law_wish), sl__law_wish⟩) (c__law_wish : PySem.W.codeIn K cd__law_wish "_law_wish" = true) (k__law_wish : PySem.W.keepIn K (.ref f__law_wish) = true)
    {f__law_places : Addr} {od__law_places an__law_places : Option Addr} {sl__law_places : Array (Option Value)} {oc__law_places kV__law_places dc__law_places pm__law_places cd__law_places ct__law_places : Value}
    (a__law_places : PySem.W.nsIn K mainGlobals "_law_places" = some (some (.ref f__law_places))) (l__law_places : K.lookup f__law_places = some ⟨oc__law_places, od__law_places, .func (PySem.W.fnOf "_law_places" "_law_places" (defArgs s__law_places) (defBody s__law_places) (defScope s__law_places) .none kV__law_places dc__law_places pm__law_places an__law_places cd__law_places ct__law_places), sl__law_places⟩) (c__law_places : PySem.W.codeIn K cd__law_places "_law_places" = true) (k__law_places : PySem.W.keepIn K (.ref f__law_places) = true)
    {f__law_is_int : Addr} {od__law_is_int an__law_is_int : Option Addr} {sl__law_is_int : Array (Option Value)} {oc__law_is_int kV__law_is_int dc__law_is_int pm__law_is_int cd__law_is_int ct__law_is_int : Value}
    (a__law_is_int : PySem.W.nsIn K mainGlobals "_law_is_int" = some (some (.ref f__law_is_int))) (l__law_is_int : K.lookup f__law_is_int = some ⟨oc__law_is_int, od__law_is_int, .func (PySem.W.fnOf "_law_is_int" "_law_is_int" (defArgs s__law_is_int) (defBody s__law_is_int) (defScope s__law_is_int) .none kV__law_is_int dc__law_is_int pm__law_is_int an__law_is_int cd__law_is_int ct__law_is_int), sl__law_is_int⟩) (c__law_is_int : PySem.W.codeIn K cd__law_is_int "_law_is_int" = true) (k__law_is_int : PySem.W.keepIn K (.ref f__law_is_int) = true)
    {f__law_is_area : Addr} {od__law_is_area an__law_is_area : Option Addr} {sl__law_is_area : Array (Option Value)} {oc__law_is_area kV__law_is_area dc__law_is_area pm__law_is_area cd__law_is_area ct__law_is_area : Value}
    (a__law_is_area : PySem.W.nsIn K mainGlobals "_law_is_area" = some (some (.ref f__law_is_area))) (l__law_is_area : K.lookup f__law_is_area = some ⟨oc__law_is_area, od__law_is_area, .func (PySem.W.fnOf "_law_is_area" "_law_is_area" (defArgs s__law_is_area) (defBody s__law_is_area) (defScope s__law_is_area) .none kV__law_is_area dc__law_is_area pm__law_is_area an__law_is_area cd__law_is_area ct__law_is_area), sl__law_is_area⟩) (c__law_is_area : PySem.W.codeIn K cd__law_is_area "_law_is_area" = true) (k__law_is_area : PySem.W.keepIn K (.ref f__law_is_area) = true)
    {f__law_is_wish : Addr} {od__law_is_wish an__law_is_wish : Option Addr} {sl__law_is_wish : Array (Option Value)} {oc__law_is_wish kV__law_is_wish dc__law_is_wish pm__law_is_wish cd__law_is_wish ct__law_is_wish : Value}
    (a__law_is_wish : PySem.W.nsIn K mainGlobals "_law_is_wish" = some (some (.ref f__law_is_wish))) (l__law_is_wish : K.lookup f__law_is_wish = some ⟨oc__law_is_wish, od__law_is_wish, .func (PySem.W.fnOf "_law_is_wish" "_law_is_wish" (defArgs s__law_is_wish) (defBody s__law_is_wish) (defScope s__law_is_wish) .none kV__law_is_wish dc__law_is_wish pm__law_is_wish an__law_is_wish cd__law_is_wish ct__law_is_wish), sl__law_is_wish⟩) (c__law_is_wish : PySem.W.codeIn K cd__law_is_wish "_law_is_wish" = true) (k__law_is_wish : PySem.W.keepIn K (.ref f__law_is_wish) = true)
    {f__law_are_wishes : Addr} {od__law_are_wishes an__law_are_wishes : Option Addr} {sl__law_are_wishes : Array (Option Value)} {oc__law_are_wishes kV__law_are_wishes dc__law_are_wishes pm__law_are_wishes cd__law_are_wishes ct__law_are_wishes : Value}
    (a__law_are_wishes : PySem.W.nsIn K mainGlobals "_law_are_wishes" = some (some (.ref f__law_are_wishes))) (l__law_are_wishes : K.lookup f__law_are_wishes = some ⟨oc__law_are_wishes, od__law_are_wishes, .func (PySem.W.fnOf "_law_are_wishes" "_law_are_wishes" (defArgs s__law_are_wishes) (defBody s__law_are_wishes) (defScope s__law_are_wishes) .none kV__law_are_wishes dc__law_are_wishes pm__law_are_wishes an__law_are_wishes cd__law_are_wishes ct__law_are_wishes), sl__law_are_wishes⟩) (c__law_are_wishes : PySem.W.codeIn K cd__law_are_wishes "_law_are_wishes" = true) (k__law_are_wishes : PySem.W.keepIn K (.ref f__law_are_wishes) = true)
    {f__law_bent : Addr} {od__law_bent an__law_bent : Option Addr} {sl__law_bent : Array (Option Value)} {oc__law_bent kV__law_bent dc__law_bent pm__law_bent cd__law_bent ct__law_bent : Value}
    (a__law_bent : PySem.W.nsIn K mainGlobals "_law_bent" = some (some (.ref f__law_bent))) (l__law_bent : K.lookup f__law_bent = some ⟨oc__law_bent, od__law_bent, .func (PySem.W.fnOf "_law_bent" "_law_bent" (defArgs s__law_bent) (defBody s__law_bent) (defScope s__law_bent) .none kV__law_bent dc__law_bent pm__law_bent an__law_bent cd__law_bent ct__law_bent), sl__law_bent⟩) (c__law_bent : PySem.W.codeIn K cd__law_bent "_law_bent" = true) (k__law_bent : PySem.W.keepIn K (.ref f__law_bent) = true)
    {f__law_due : Addr} {od__law_due an__law_due : Option Addr} {sl__law_due : Array (Option Value)} {oc__law_due kV__law_due dc__law_due pm__law_due cd__law_due ct__law_due : Value}
    (a__law_due : PySem.W.nsIn K mainGlobals "_law_due" = some (some (.ref f__law_due))) (l__law_due : K.lookup f__law_due = some ⟨oc__law_due, od__law_due, .func (PySem.W.fnOf "_law_due" "_law_due" (defArgs s__law_due) (defBody s__law_due) (defScope s__law_due) .none kV__law_due dc__law_due pm__law_due an__law_due cd__law_due ct__law_due), sl__law_due⟩) (c__law_due : PySem.W.codeIn K cd__law_due "_law_due" = true) (k__law_due : PySem.W.keepIn K (.ref f__law_due) = true)
    {f__law_is : Addr} {od__law_is an__law_is : Option Addr} {sl__law_is : Array (Option Value)} {oc__law_is kV__law_is dc__law_is pm__law_is cd__law_is ct__law_is : Value}
    (a__law_is : PySem.W.nsIn K mainGlobals "_law_is" = some (some (.ref f__law_is))) (l__law_is : K.lookup f__law_is = some ⟨oc__law_is, od__law_is, .func (PySem.W.fnOf "_law_is" "_law_is" (defArgs s__law_is) (defBody s__law_is) (defScope s__law_is) .none kV__law_is dc__law_is pm__law_is an__law_is cd__law_is ct__law_is), sl__law_is⟩) (c__law_is : PySem.W.codeIn K cd__law_is "_law_is" = true) (k__law_is : PySem.W.keepIn K (.ref f__law_is) = true)
    {f__law_plant : Addr} {od__law_plant an__law_plant : Option Addr} {sl__law_plant : Array (Option Value)} {oc__law_plant kV__law_plant dc__law_plant pm__law_plant cd__law_plant ct__law_plant : Value}
    (a__law_plant : PySem.W.nsIn K mainGlobals "_law_plant" = some (some (.ref f__law_plant))) (l__law_plant : K.lookup f__law_plant = some ⟨oc__law_plant, od__law_plant, .func (PySem.W.fnOf "_law_plant" "_law_plant" (defArgs s__law_plant) (defBody s__law_plant) (defScope s__law_plant) .none kV__law_plant dc__law_plant pm__law_plant an__law_plant cd__law_plant ct__law_plant), sl__law_plant⟩) (c__law_plant : PySem.W.codeIn K cd__law_plant "_law_plant" = true) (k__law_plant : PySem.W.keepIn K (.ref f__law_plant) = true)
    {f__law_are_known_right : Addr} {od__law_are_known_right an__law_are_known_right : Option Addr} {sl__law_are_known_right : Array (Option Value)} {oc__law_are_known_right kV__law_are_known_right dc__law_are_known_right pm__law_are_known_right cd__law_are_known_right ct__law_are_known_right : Value}
    (a__law_are_known_right : PySem.W.nsIn K mainGlobals "_law_are_known_right" = some (some (.ref f__law_are_known_right))) (l__law_are_known_right : K.lookup f__law_are_known_right = some ⟨oc__law_are_known_right, od__law_are_known_right, .func (PySem.W.fnOf "_law_are_known_right" "_law_are_known_right" (defArgs s__law_are_known_right) (defBody s__law_are_known_right) (defScope s__law_are_known_right) .none kV__law_are_known_right dc__law_are_known_right pm__law_are_known_right an__law_are_known_right cd__law_are_known_right ct__law_are_known_right), sl__law_are_known_right⟩) (c__law_are_known_right : PySem.W.codeIn K cd__law_are_known_right "_law_are_known_right" = true) (k__law_are_known_right : PySem.W.keepIn K (.ref f__law_are_known_right) = true)
    {f_law : Addr} {od_law an_law : Option Addr} {sl_law : Array (Option Value)} {oc_law kV_law dc_law pm_law cd_law ct_law : Value}
    (a_law : PySem.W.nsIn K mainGlobals "law" = some (some (.ref f_law))) (l_law : K.lookup f_law = some ⟨oc_law, od_law, .func (PySem.W.fnOf "law" "law" (defArgs s_law) (defBody s_law) (defScope s_law) .none kV_law dc_law pm_law an_law cd_law ct_law), sl_law⟩) (c_law : PySem.W.codeIn K cd_law "law" = true) (k_law : PySem.W.keepIn K (.ref f_law) = true)
    {f_WAYS : Addr} {od_WAYS : Option Addr} {n_WAYS : Nat} {sl_WAYS : Array (Option Value)} {t0_WAYS t1_WAYS t2_WAYS t3_WAYS t4_WAYS : Tok}
    (a_WAYS : PySem.W.nsIn K mainGlobals "WAYS" = some (some (.ref f_WAYS))) (l_WAYS : K.lookup f_WAYS = some ⟨.type "tuple", od_WAYS, .seq #[.str "up" t0_WAYS, .str "down" t1_WAYS, .str "cut" t2_WAYS, .str "near" t3_WAYS, .str "far" t4_WAYS] n_WAYS, sl_WAYS⟩)
    {f_WITH_K : Addr} {od_WITH_K : Option Addr} {n_WITH_K : Nat} {sl_WITH_K : Array (Option Value)} {t0_WITH_K t1_WITH_K t2_WITH_K : Tok}
    (a_WITH_K : PySem.W.nsIn K mainGlobals "WITH_K" = some (some (.ref f_WITH_K))) (l_WITH_K : K.lookup f_WITH_K = some ⟨.type "tuple", od_WITH_K, .seq #[.str "within" t0_WITH_K, .str "answered" t1_WITH_K, .str "again" t2_WITH_K] n_WITH_K, sl_WITH_K⟩)
    {f_WITH_OTHER : Addr} {od_WITH_OTHER : Option Addr} {n_WITH_OTHER : Nat} {sl_WITH_OTHER : Array (Option Value)} {t0_WITH_OTHER t1_WITH_OTHER : Tok}
    (a_WITH_OTHER : PySem.W.nsIn K mainGlobals "WITH_OTHER" = some (some (.ref f_WITH_OTHER))) (l_WITH_OTHER : K.lookup f_WITH_OTHER = some ⟨.type "tuple", od_WITH_OTHER, .seq #[.str "answered" t0_WITH_OTHER, .str "ahead" t1_WITH_OTHER] n_WITH_OTHER, sl_WITH_OTHER⟩)
    {f_WORDS_wishes : Addr} {od_WORDS_wishes : Option Addr} {n_WORDS_wishes : Nat} {sl_WORDS_wishes : Array (Option Value)} {t0_WORDS_wishes t1_WORDS_wishes t2_WORDS_wishes t3_WORDS_wishes t4_WORDS_wishes : Tok}
    (a_WORDS_wishes : PySem.W.nsIn K mainGlobals "WORDS_wishes" = some (some (.ref f_WORDS_wishes))) (l_WORDS_wishes : K.lookup f_WORDS_wishes = some ⟨.type "tuple", od_WORDS_wishes, .seq #[.str "never" t0_WORDS_wishes, .str "within" t1_WORDS_wishes, .str "answered" t2_WORDS_wishes, .str "ahead" t3_WORDS_wishes, .str "again" t4_WORDS_wishes] n_WORDS_wishes, sl_WORDS_wishes⟩)
    (z_abs : PySem.W.nsIn K mainGlobals "abs" = some none)
    (z_all : PySem.W.nsIn K mainGlobals "all" = some none)
    (z_any : PySem.W.nsIn K mainGlobals "any" = some none)
    (z_bool : PySem.W.nsIn K mainGlobals "bool" = some none)
    (z_enumerate : PySem.W.nsIn K mainGlobals "enumerate" = some none)
    (z_int : PySem.W.nsIn K mainGlobals "int" = some none)
    (z_isinstance : PySem.W.nsIn K mainGlobals "isinstance" = some none)
    (z_len : PySem.W.nsIn K mainGlobals "len" = some none)
    (z_list : PySem.W.nsIn K mainGlobals "list" = some none)
    (z_max : PySem.W.nsIn K mainGlobals "max" = some none)
    (z_min : PySem.W.nsIn K mainGlobals "min" = some none)
    (z_range : PySem.W.nsIn K mainGlobals "range" = some none)
    (z_repr : PySem.W.nsIn K mainGlobals "repr" = some none)
    (z_str : PySem.W.nsIn K mainGlobals "str" = some none)
    (z_tuple : PySem.W.nsIn K mainGlobals "tuple" = some none)
    (z_zip : PySem.W.nsIn K mainGlobals "zip" = some none) : Tx K mg where
  a_is_integer := f_is_integer
  d_is_integer := _
  f_is_integer := fun_mk (st := s_is_integer) l_is_integer c_is_integer k_is_integer
  b_is_integer := (fun_mk (st := s_is_integer) l_is_integer c_is_integer k_is_integer).binds (ps := ["thing"]) fun _ _ _ _ _ _ us hl => match us, hl with | [_], _ => rfl
  m_is_integer := PySem.W.mg_of X G a_is_integer
  a_is_between := f_is_between
  d_is_between := _
  f_is_between := fun_mk (st := s_is_between) l_is_between c_is_between k_is_between
  b_is_between := (fun_mk (st := s_is_between) l_is_between c_is_between k_is_between).binds (ps := ["least", "most", "thing"]) fun _ _ _ _ _ _ us hl => match us, hl with | [_, _, _], _ => rfl
  m_is_between := PySem.W.mg_of X G a_is_between
  a_is_tuple := f_is_tuple
  d_is_tuple := _
  f_is_tuple := fun_mk (st := s_is_tuple) l_is_tuple c_is_tuple k_is_tuple
  b_is_tuple := (fun_mk (st := s_is_tuple) l_is_tuple c_is_tuple k_is_tuple).binds (ps := ["least", "most", "thing"]) fun _ _ _ _ _ _ us hl => match us, hl with | [_, _, _], _ => rfl
  m_is_tuple := PySem.W.mg_of X G a_is_tuple
  a_is_pair := f_is_pair
  d_is_pair := _
  f_is_pair := fun_mk (st := s_is_pair) l_is_pair c_is_pair k_is_pair
  b_is_pair := (fun_mk (st := s_is_pair) l_is_pair c_is_pair k_is_pair).binds (ps := ["thing"]) fun _ _ _ _ _ _ us hl => match us, hl with | [_], _ => rfl
  m_is_pair := PySem.W.mg_of X G a_is_pair
  a_is_one_of := f_is_one_of
  d_is_one_of := _
  f_is_one_of := fun_mk (st := s_is_one_of) l_is_one_of c_is_one_of k_is_one_of
  b_is_one_of := (fun_mk (st := s_is_one_of) l_is_one_of c_is_one_of k_is_one_of).binds (ps := ["words", "thing"]) fun _ _ _ _ _ _ us hl => match us, hl with | [_, _], _ => rfl
  m_is_one_of := PySem.W.mg_of X G a_is_one_of
  a_is_span := f_is_span
  d_is_span := _
  f_is_span := fun_mk (st := s_is_span) l_is_span c_is_span k_is_span
  b_is_span := (fun_mk (st := s_is_span) l_is_span c_is_span k_is_span).binds (ps := ["least", "most", "thing"]) fun _ _ _ _ _ _ us hl => match us, hl with | [_, _, _], _ => rfl
  m_is_span := PySem.W.mg_of X G a_is_span
  a_are_spans := f_are_spans
  d_are_spans := _
  f_are_spans := fun_mk (st := s_are_spans) l_are_spans c_are_spans k_are_spans
  b_are_spans := (fun_mk (st := s_are_spans) l_are_spans c_are_spans k_are_spans).binds (ps := ["fewest", "many", "least", "most", "thing"]) fun _ _ _ _ _ _ us hl => match us, hl with | [_, _, _, _, _], _ => rfl
  m_are_spans := PySem.W.mg_of X G a_are_spans
  a_many_rows := f_many_rows
  d_many_rows := _
  f_many_rows := fun_mk (st := s_many_rows) l_many_rows c_many_rows k_many_rows
  b_many_rows := (fun_mk (st := s_many_rows) l_many_rows c_many_rows k_many_rows).binds (ps := ["spans"]) fun _ _ _ _ _ _ us hl => match us, hl with | [_], _ => rfl
  m_many_rows := PySem.W.mg_of X G a_many_rows
  a_is_way := f_is_way
  d_is_way := _
  f_is_way := fun_mk (st := s_is_way) l_is_way c_is_way k_is_way
  b_is_way := (fun_mk (st := s_is_way) l_is_way c_is_way k_is_way).binds (ps := ["thing"]) fun _ _ _ _ _ _ us hl => match us, hl with | [_], _ => rfl
  m_is_way := PySem.W.mg_of X G a_is_way
  a_is_leaf := f_is_leaf
  d_is_leaf := _
  f_is_leaf := fun_mk (st := s_is_leaf) l_is_leaf c_is_leaf k_is_leaf
  b_is_leaf := (fun_mk (st := s_is_leaf) l_is_leaf c_is_leaf k_is_leaf).binds (ps := ["inputs", "thing"]) fun _ _ _ _ _ _ us hl => match us, hl with | [_, _], _ => rfl
  m_is_leaf := PySem.W.mg_of X G a_is_leaf
  a_operations := f_operations
  d_operations := _
  f_operations := fun_mk (st := s_operations) l_operations c_operations k_operations
  b_operations := (fun_mk (st := s_operations) l_operations c_operations k_operations).binds (ps := ["inputs", "thing", "deep"]) fun _ _ _ _ _ _ us hl => match us, hl with | [_, _, _], _ => rfl
  m_operations := PySem.W.mg_of X G a_operations
  a_is_formula := f_is_formula
  d_is_formula := _
  f_is_formula := fun_mk (st := s_is_formula) l_is_formula c_is_formula k_is_formula
  b_is_formula := (fun_mk (st := s_is_formula) l_is_formula c_is_formula k_is_formula).binds (ps := ["inputs", "thing"]) fun _ _ _ _ _ _ us hl => match us, hl with | [_, _], _ => rfl
  m_is_formula := PySem.W.mg_of X G a_is_formula
  a_is_box := f_is_box
  d_is_box := _
  f_is_box := fun_mk (st := s_is_box) l_is_box c_is_box k_is_box
  b_is_box := (fun_mk (st := s_is_box) l_is_box c_is_box k_is_box).binds (ps := ["axes", "thing"]) fun _ _ _ _ _ _ us hl => match us, hl with | [_, _], _ => rfl
  m_is_box := PySem.W.mg_of X G a_is_box
  a_is_area := f_is_area
  d_is_area := _
  f_is_area := fun_mk (st := s_is_area) l_is_area c_is_area k_is_area
  b_is_area := (fun_mk (st := s_is_area) l_is_area c_is_area k_is_area).binds (ps := ["axes", "thing"]) fun _ _ _ _ _ _ us hl => match us, hl with | [_, _], _ => rfl
  m_is_area := PySem.W.mg_of X G a_is_area
  a_in_box := f_in_box
  d_in_box := _
  f_in_box := fun_mk (st := s_in_box) l_in_box c_in_box k_in_box
  b_in_box := (fun_mk (st := s_in_box) l_in_box c_in_box k_in_box).binds (ps := ["box", "place"]) fun _ _ _ _ _ _ us hl => match us, hl with | [_, _], _ => rfl
  m_in_box := PySem.W.mg_of X G a_in_box
  a_in_area := f_in_area
  d_in_area := _
  f_in_area := fun_mk (st := s_in_area) l_in_area c_in_area k_in_area
  b_in_area := (fun_mk (st := s_in_area) l_in_area c_in_area k_in_area).binds (ps := ["area", "place"]) fun _ _ _ _ _ _ us hl => match us, hl with | [_, _], _ => rfl
  m_in_area := PySem.W.mg_of X G a_in_area
  a_is_mode := f_is_mode
  d_is_mode := _
  f_is_mode := fun_mk (st := s_is_mode) l_is_mode c_is_mode k_is_mode
  b_is_mode := (fun_mk (st := s_is_mode) l_is_mode c_is_mode k_is_mode).binds (ps := ["axes", "last", "thing"]) fun _ _ _ _ _ _ us hl => match us, hl with | [_, _, _], _ => rfl
  m_is_mode := PySem.W.mg_of X G a_is_mode
  a_are_modes := f_are_modes
  d_are_modes := _
  f_are_modes := fun_mk (st := s_are_modes) l_are_modes c_are_modes k_are_modes
  b_are_modes := (fun_mk (st := s_are_modes) l_are_modes c_are_modes k_are_modes).binds (ps := ["axes", "thing"]) fun _ _ _ _ _ _ us hl => match us, hl with | [_, _], _ => rfl
  m_are_modes := PySem.W.mg_of X G a_are_modes
  a_is_wish := f_is_wish
  d_is_wish := _
  f_is_wish := fun_mk (st := s_is_wish) l_is_wish c_is_wish k_is_wish
  b_is_wish := (fun_mk (st := s_is_wish) l_is_wish c_is_wish k_is_wish).binds (ps := ["axes", "thing"]) fun _ _ _ _ _ _ us hl => match us, hl with | [_, _], _ => rfl
  m_is_wish := PySem.W.mg_of X G a_is_wish
  a_are_wishes := f_are_wishes
  d_are_wishes := _
  f_are_wishes := fun_mk (st := s_are_wishes) l_are_wishes c_are_wishes k_are_wishes
  b_are_wishes := (fun_mk (st := s_are_wishes) l_are_wishes c_are_wishes k_are_wishes).binds (ps := ["plant", "thing"]) fun _ _ _ _ _ _ us hl => match us, hl with | [_, _], _ => rfl
  m_are_wishes := PySem.W.mg_of X G a_are_wishes
  a_marks := f_marks
  d_marks := _
  f_marks := fun_mk (st := s_marks) l_marks c_marks k_marks
  b_marks := (fun_mk (st := s_marks) l_marks c_marks k_marks).binds (ps := ["wishes", "place"]) fun _ _ _ _ _ _ us hl => match us, hl with | [_, _], _ => rfl
  m_marks := PySem.W.mg_of X G a_marks
  a_ahead_count := f_ahead_count
  d_ahead_count := _
  f_ahead_count := fun_mk (st := s_ahead_count) l_ahead_count c_ahead_count k_ahead_count
  b_ahead_count := (fun_mk (st := s_ahead_count) l_ahead_count c_ahead_count k_ahead_count).binds (ps := ["inside", "other"]) fun _ _ _ _ _ _ us hl => match us, hl with | [_, _], _ => rfl
  m_ahead_count := PySem.W.mg_of X G a_ahead_count
  a_count_at_first := f_count_at_first
  d_count_at_first := _
  f_count_at_first := fun_mk (st := s_count_at_first) l_count_at_first c_count_at_first k_count_at_first
  b_count_at_first := (fun_mk (st := s_count_at_first) l_count_at_first c_count_at_first k_count_at_first).binds (ps := ["wish", "inside", "other"]) fun _ _ _ _ _ _ us hl => match us, hl with | [_, _, _], _ => rfl
  m_count_at_first := PySem.W.mg_of X G a_count_at_first
  a_unless_above := f_unless_above
  d_unless_above := _
  f_unless_above := fun_mk (st := s_unless_above) l_unless_above c_unless_above k_unless_above
  b_unless_above := (fun_mk (st := s_unless_above) l_unless_above c_unless_above k_unless_above).binds (ps := ["count", "most"]) fun _ _ _ _ _ _ us hl => match us, hl with | [_, _], _ => rfl
  m_unless_above := PySem.W.mg_of X G a_unless_above
  a_next_waiting := f_next_waiting
  d_next_waiting := _
  f_next_waiting := fun_mk (st := s_next_waiting) l_next_waiting c_next_waiting k_next_waiting
  b_next_waiting := (fun_mk (st := s_next_waiting) l_next_waiting c_next_waiting k_next_waiting).binds (ps := ["wish", "count", "inside", "other"]) fun _ _ _ _ _ _ us hl => match us, hl with | [_, _, _, _], _ => rfl
  m_next_waiting := PySem.W.mg_of X G a_next_waiting
  a_next_count := f_next_count
  d_next_count := _
  f_next_count := fun_mk (st := s_next_count) l_next_count c_next_count k_next_count
  b_next_count := (fun_mk (st := s_next_count) l_next_count c_next_count k_next_count).binds (ps := ["wish", "count", "inside", "other"]) fun _ _ _ _ _ _ us hl => match us, hl with | [_, _, _, _], _ => rfl
  m_next_count := PySem.W.mg_of X G a_next_count
  a_begun_by := f_begun_by
  d_begun_by := _
  f_begun_by := fun_mk (st := s_begun_by) l_begun_by c_begun_by k_begun_by
  b_begun_by := (fun_mk (st := s_begun_by) l_begun_by c_begun_by k_begun_by).binds (ps := ["wishes", "marked"]) fun _ _ _ _ _ _ us hl => match us, hl with | [_, _], _ => rfl
  m_begun_by := PySem.W.mg_of X G a_begun_by
  a_counted_by := f_counted_by
  d_counted_by := _
  f_counted_by := fun_mk (st := s_counted_by) l_counted_by c_counted_by k_counted_by
  b_counted_by := (fun_mk (st := s_counted_by) l_counted_by c_counted_by k_counted_by).binds (ps := ["wishes", "counts", "marked"]) fun _ _ _ _ _ _ us hl => match us, hl with | [_, _, _], _ => rfl
  m_counted_by := PySem.W.mg_of X G a_counted_by
  a_begun := f_begun
  d_begun := _
  f_begun := fun_mk (st := s_begun) l_begun c_begun k_begun
  b_begun := (fun_mk (st := s_begun) l_begun c_begun k_begun).binds (ps := ["wishes", "place"]) fun _ _ _ _ _ _ us hl => match us, hl with | [_, _], _ => rfl
  m_begun := PySem.W.mg_of X G a_begun
  a_counted := f_counted
  d_counted := _
  f_counted := fun_mk (st := s_counted) l_counted c_counted k_counted
  b_counted := (fun_mk (st := s_counted) l_counted c_counted k_counted).binds (ps := ["wishes", "counts", "place"]) fun _ _ _ _ _ _ us hl => match us, hl with | [_, _, _], _ => rfl
  m_counted := PySem.W.mg_of X G a_counted
  a_first_broken := f_first_broken
  d_first_broken := _
  f_first_broken := fun_mk (st := s_first_broken) l_first_broken c_first_broken k_first_broken
  b_first_broken := (fun_mk (st := s_first_broken) l_first_broken c_first_broken k_first_broken).binds (ps := ["counts"]) fun _ _ _ _ _ _ us hl => match us, hl with | [_], _ => rfl
  m_first_broken := PySem.W.mg_of X G a_first_broken
  a_broken := f_broken
  d_broken := _
  f_broken := fun_mk (st := s_broken) l_broken c_broken k_broken
  b_broken := (fun_mk (st := s_broken) l_broken c_broken k_broken).binds (ps := ["wishes", "places"]) fun _ _ _ _ _ _ us hl => match us, hl with | [_, _], _ => rfl
  m_broken := PySem.W.mg_of X G a_broken
  a__law_hand := f__law_hand
  d__law_hand := _
  f__law_hand := fun_mk (st := s__law_hand) l__law_hand c__law_hand k__law_hand
  b__law_hand := (fun_mk (st := s__law_hand) l__law_hand c__law_hand k__law_hand).binds (ps := ["script"]) fun _ _ _ _ _ _ us hl => match us, hl with | [_], _ => rfl
  m__law_hand := PySem.W.mg_of X G a__law_hand
  a__law_draw := f__law_draw
  d__law_draw := _
  f__law_draw := fun_mk (st := s__law_draw) l__law_draw c__law_draw k__law_draw
  b__law_draw := (fun_mk (st := s__law_draw) l__law_draw c__law_draw k__law_draw).binds (ps := ["hand", "many"]) fun _ _ _ _ _ _ us hl => match us, hl with | [_, _], _ => rfl
  m__law_draw := PySem.W.mg_of X G a__law_draw
  a__law_some := f__law_some
  d__law_some := _
  f__law_some := fun_mk (st := s__law_some) l__law_some c__law_some k__law_some
  b__law_some := (fun_mk (st := s__law_some) l__law_some c__law_some k__law_some).binds (ps := ["hand", "things"]) fun _ _ _ _ _ _ us hl => match us, hl with | [_, _], _ => rfl
  m__law_some := PySem.W.mg_of X G a__law_some
  a__law_deep := f__law_deep
  d__law_deep := _
  f__law_deep := fun_mk (st := s__law_deep) l__law_deep c__law_deep k__law_deep
  b__law_deep := (fun_mk (st := s__law_deep) l__law_deep c__law_deep k__law_deep).binds (ps := ["hand", "thing"]) fun _ _ _ _ _ _ us hl => match us, hl with | [_, _], _ => rfl
  m__law_deep := PySem.W.mg_of X G a__law_deep
  a__law_in := f__law_in
  d__law_in := _
  f__law_in := fun_mk (st := s__law_in) l__law_in c__law_in k__law_in
  b__law_in := (fun_mk (st := s__law_in) l__law_in c__law_in k__law_in).binds (ps := ["area", "place"]) fun _ _ _ _ _ _ us hl => match us, hl with | [_, _], _ => rfl
  m__law_in := PySem.W.mg_of X G a__law_in
  a__law_breaks := f__law_breaks
  d__law_breaks := _
  f__law_breaks := fun_mk (st := s__law_breaks) l__law_breaks c__law_breaks k__law_breaks
  b__law_breaks := (fun_mk (st := s__law_breaks) l__law_breaks c__law_breaks k__law_breaks).binds (ps := ["wish", "places", "at"]) fun _ _ _ _ _ _ us hl => match us, hl with | [_, _, _], _ => rfl
  m__law_breaks := PySem.W.mg_of X G a__law_breaks
  a__law_box := f__law_box
  d__law_box := _
  f__law_box := fun_mk (st := s__law_box) l__law_box c__law_box k__law_box
  b__law_box := (fun_mk (st := s__law_box) l__law_box c__law_box k__law_box).binds (ps := ["hand", "axes"]) fun _ _ _ _ _ _ us hl => match us, hl with | [_, _], _ => rfl
  m__law_box := PySem.W.mg_of X G a__law_box
  a__law_area := f__law_area
  d__law_area := _
  f__law_area := fun_mk (st := s__law_area) l__law_area c__law_area k__law_area
  b__law_area := (fun_mk (st := s__law_area) l__law_area c__law_area k__law_area).binds (ps := ["hand", "axes"]) fun _ _ _ _ _ _ us hl => match us, hl with | [_, _], _ => rfl
  m__law_area := PySem.W.mg_of X G a__law_area
  a__law_wish := f__law_wish
  d__law_wish := _
  f__law_wish := fun_mk (st := s__law_wish) l__law_wish c__law_wish k__law_wish
  b__law_wish := (fun_mk (st := s__law_wish) l__law_wish c__law_wish k__law_wish).binds (ps := ["hand", "axes"]) fun _ _ _ _ _ _ us hl => match us, hl with | [_, _], _ => rfl
  m__law_wish := PySem.W.mg_of X G a__law_wish
  a__law_places := f__law_places
  d__law_places := _
  f__law_places := fun_mk (st := s__law_places) l__law_places c__law_places k__law_places
  b__law_places := (fun_mk (st := s__law_places) l__law_places c__law_places k__law_places).binds (ps := ["hand", "axes", "many"]) fun _ _ _ _ _ _ us hl => match us, hl with | [_, _, _], _ => rfl
  m__law_places := PySem.W.mg_of X G a__law_places
  a__law_is_int := f__law_is_int
  d__law_is_int := _
  f__law_is_int := fun_mk (st := s__law_is_int) l__law_is_int c__law_is_int k__law_is_int
  b__law_is_int := (fun_mk (st := s__law_is_int) l__law_is_int c__law_is_int k__law_is_int).binds (ps := ["thing", "low", "high"]) fun _ _ _ _ _ _ us hl => match us, hl with | [_, _, _], _ => rfl
  m__law_is_int := PySem.W.mg_of X G a__law_is_int
  a__law_is_area := f__law_is_area
  d__law_is_area := _
  f__law_is_area := fun_mk (st := s__law_is_area) l__law_is_area c__law_is_area k__law_is_area
  b__law_is_area := (fun_mk (st := s__law_is_area) l__law_is_area c__law_is_area k__law_is_area).binds (ps := ["thing", "axes"]) fun _ _ _ _ _ _ us hl => match us, hl with | [_, _], _ => rfl
  m__law_is_area := PySem.W.mg_of X G a__law_is_area
  a__law_is_wish := f__law_is_wish
  d__law_is_wish := _
  f__law_is_wish := fun_mk (st := s__law_is_wish) l__law_is_wish c__law_is_wish k__law_is_wish
  b__law_is_wish := (fun_mk (st := s__law_is_wish) l__law_is_wish c__law_is_wish k__law_is_wish).binds (ps := ["thing", "axes"]) fun _ _ _ _ _ _ us hl => match us, hl with | [_, _], _ => rfl
  m__law_is_wish := PySem.W.mg_of X G a__law_is_wish
  a__law_are_wishes := f__law_are_wishes
  d__law_are_wishes := _
  f__law_are_wishes := fun_mk (st := s__law_are_wishes) l__law_are_wishes c__law_are_wishes k__law_are_wishes
  b__law_are_wishes := (fun_mk (st := s__law_are_wishes) l__law_are_wishes c__law_are_wishes k__law_are_wishes).binds (ps := ["thing", "axes"]) fun _ _ _ _ _ _ us hl => match us, hl with | [_, _], _ => rfl
  m__law_are_wishes := PySem.W.mg_of X G a__law_are_wishes
  a__law_bent := f__law_bent
  d__law_bent := _
  f__law_bent := fun_mk (st := s__law_bent) l__law_bent c__law_bent k__law_bent
  b__law_bent := (fun_mk (st := s__law_bent) l__law_bent c__law_bent k__law_bent).binds (ps := ["hand", "thing"]) fun _ _ _ _ _ _ us hl => match us, hl with | [_, _], _ => rfl
  m__law_bent := PySem.W.mg_of X G a__law_bent
  a__law_due := f__law_due
  d__law_due := _
  f__law_due := fun_mk (st := s__law_due) l__law_due c__law_due k__law_due
  b__law_due := (fun_mk (st := s__law_due) l__law_due c__law_due k__law_due).binds (ps := ["wishes", "places"]) fun _ _ _ _ _ _ us hl => match us, hl with | [_, _], _ => rfl
  m__law_due := PySem.W.mg_of X G a__law_due
  a__law_is := f__law_is
  d__law_is := _
  f__law_is := fun_mk (st := s__law_is) l__law_is c__law_is k__law_is
  b__law_is := (fun_mk (st := s__law_is) l__law_is c__law_is k__law_is).binds (ps := ["told", "due"]) fun _ _ _ _ _ _ us hl => match us, hl with | [_, _], _ => rfl
  m__law_is := PySem.W.mg_of X G a__law_is
  a__law_plant := f__law_plant
  d__law_plant := _
  f__law_plant := fun_mk (st := s__law_plant) l__law_plant c__law_plant k__law_plant
  b__law_plant := (fun_mk (st := s__law_plant) l__law_plant c__law_plant k__law_plant).binds (ps := ["axes"]) fun _ _ _ _ _ _ us hl => match us, hl with | [_], _ => rfl
  m__law_plant := PySem.W.mg_of X G a__law_plant
  a__law_are_known_right := f__law_are_known_right
  d__law_are_known_right := _
  f__law_are_known_right := fun_mk (st := s__law_are_known_right) l__law_are_known_right c__law_are_known_right k__law_are_known_right
  b__law_are_known_right := (fun_mk (st := s__law_are_known_right) l__law_are_known_right c__law_are_known_right k__law_are_known_right).binds (ps := []) fun _ _ _ _ _ _ us hl => match us, hl with | [], _ => rfl
  m__law_are_known_right := PySem.W.mg_of X G a__law_are_known_right
  a_law := f_law
  d_law := _
  f_law := fun_mk (st := s_law) l_law c_law k_law
  b_law := (fun_mk (st := s_law) l_law c_law k_law).binds (ps := ["script"]) fun _ _ _ _ _ _ us hl => match us, hl with | [_], _ => rfl
  m_law := PySem.W.mg_of X G a_law
  a_WAYS := f_WAYS
  m_WAYS := PySem.W.mg_of X G a_WAYS
  r_WAYS := rep_txts (its := [.str "up" t0_WAYS, .str "down" t1_WAYS, .str "cut" t2_WAYS, .str "near" t3_WAYS, .str "far" t4_WAYS]) l_WAYS (.cons ⟨_, rfl⟩ (.cons ⟨_, rfl⟩ (.cons ⟨_, rfl⟩ (.cons ⟨_, rfl⟩ (.cons ⟨_, rfl⟩ .nil))))) (by simp)
  a_WITH_K := f_WITH_K
  m_WITH_K := PySem.W.mg_of X G a_WITH_K
  r_WITH_K := rep_txts (its := [.str "within" t0_WITH_K, .str "answered" t1_WITH_K, .str "again" t2_WITH_K]) l_WITH_K (.cons ⟨_, rfl⟩ (.cons ⟨_, rfl⟩ (.cons ⟨_, rfl⟩ .nil))) (by simp)
  a_WITH_OTHER := f_WITH_OTHER
  m_WITH_OTHER := PySem.W.mg_of X G a_WITH_OTHER
  r_WITH_OTHER := rep_txts (its := [.str "answered" t0_WITH_OTHER, .str "ahead" t1_WITH_OTHER]) l_WITH_OTHER (.cons ⟨_, rfl⟩ (.cons ⟨_, rfl⟩ .nil)) (by simp)
  a_WORDS_wishes := f_WORDS_wishes
  m_WORDS_wishes := PySem.W.mg_of X G a_WORDS_wishes
  r_WORDS_wishes := rep_txts (its := [.str "never" t0_WORDS_wishes, .str "within" t1_WORDS_wishes, .str "answered" t2_WORDS_wishes, .str "ahead" t3_WORDS_wishes, .str "again" t4_WORDS_wishes]) l_WORDS_wishes (.cons ⟨_, rfl⟩ (.cons ⟨_, rfl⟩ (.cons ⟨_, rfl⟩ (.cons ⟨_, rfl⟩ (.cons ⟨_, rfl⟩ .nil))))) (by simp)
  z_abs := PySem.W.mg_none_of X G z_abs
  z_all := PySem.W.mg_none_of X G z_all
  z_any := PySem.W.mg_none_of X G z_any
  z_bool := PySem.W.mg_none_of X G z_bool
  z_enumerate := PySem.W.mg_none_of X G z_enumerate
  z_int := PySem.W.mg_none_of X G z_int
  z_isinstance := PySem.W.mg_none_of X G z_isinstance
  z_len := PySem.W.mg_none_of X G z_len
  z_list := PySem.W.mg_none_of X G z_list
  z_max := PySem.W.mg_none_of X G z_max
  z_min := PySem.W.mg_none_of X G z_min
  z_range := PySem.W.mg_none_of X G z_range
  z_repr := PySem.W.mg_none_of X G z_repr
  z_str := PySem.W.mg_none_of X G z_str
  z_tuple := PySem.W.mg_none_of X G z_tuple
  z_zip := PySem.W.mg_none_of X G z_zip
theorem lawAt {l : PySem.W.OpenLaw} {w : World} {fa : Addr} (X : K.In h) (G : h.Ns mainGlobals mg) (hfa : mg "law" = some (.ref fa)) (T : Tx K mg)
    {cF iF : Addr} {odF anF : Option Addr} {slF : Array (Option Value)} {ocF kVF dcF pmF cdF ctF : Value}
    (mF : PySem.W.nsIn K mainGlobals "Format" = some (some (.ref cF)))
    (mmF : PySem.W.makesIn K cF = true) (miF : PySem.W.findIn K (.ref cF) "__init__" = some (some (.ref iF))) (mfF : PySem.W.isFn K (.ref iF) = true) (mkF : PySem.W.keepIn K (.ref cF) = true)
    (liF : K.lookup iF = some ⟨ocF, odF, .func (PySem.W.fnOf "__init__" "Format.__init__" (defArgs s_initF) (defBody s_initF) (defScope s_initF) .none kVF dcF pmF anF cdF ctF), slF⟩) (ciF : PySem.W.codeIn K cdF "Format.__init__" = true) (kiF : PySem.W.keepIn K (.ref iF) = true)
    (pgF : PySem.W.plainGet K cF Str.empty = true) (hdF : PySem.W.hasDictIn K cF = true) (poF : PySem.W.plainOver K cF = true) (saF : PySem.W.findIn K (.ref cF) "__setattr__" = some (some (.builtin "object.__setattr__")))
    (icF : PySem.W.findIn K (.ref cF) "__class__" = some (some (.builtin "object.__class__"))) (mrF : PySem.W.mroIn K cF (.type "object") = some true)
    (nF_bits : PySem.W.findIn K (.ref cF) "bits" = some none)
    (nF_low : PySem.W.findIn K (.ref cF) "low" = some none)
    (nF_high : PySem.W.findIn K (.ref cF) "high" = some none)
    {cP iP : Addr} {odP anP : Option Addr} {slP : Array (Option Value)} {ocP kVP dcP pmP cdP ctP : Value}
    (mP : PySem.W.nsIn K mainGlobals "Plant" = some (some (.ref cP)))
    (mmP : PySem.W.makesIn K cP = true) (miP : PySem.W.findIn K (.ref cP) "__init__" = some (some (.ref iP))) (mfP : PySem.W.isFn K (.ref iP) = true) (mkP : PySem.W.keepIn K (.ref cP) = true)
    (liP : K.lookup iP = some ⟨ocP, odP, .func (PySem.W.fnOf "__init__" "Plant.__init__" (defArgs s_initP) (defBody s_initP) (defScope s_initP) .none kVP dcP pmP anP cdP ctP), slP⟩) (ciP : PySem.W.codeIn K cdP "Plant.__init__" = true) (kiP : PySem.W.keepIn K (.ref iP) = true)
    (pgP : PySem.W.plainGet K cP Str.empty = true) (hdP : PySem.W.hasDictIn K cP = true) (poP : PySem.W.plainOver K cP = true) (saP : PySem.W.findIn K (.ref cP) "__setattr__" = some (some (.builtin "object.__setattr__")))
    (icP : PySem.W.findIn K (.ref cP) "__class__" = some (some (.builtin "object.__class__"))) (mrP : PySem.W.mroIn K cP (.type "object") = some true)
    (nP_form : PySem.W.findIn K (.ref cP) "form" = some none)
    (nP_way : PySem.W.findIn K (.ref cP) "way" = some none)
    (nP_box : PySem.W.findIn K (.ref cP) "box" = some none)
    (nP_modes : PySem.W.findIn K (.ref cP) "modes" = some none)
    (nP_pushes : PySem.W.findIn K (.ref cP) "pushes" = some none)
    (sc : PySem.W.specialIn K (.builtin "object.__class__") "__get__" = some (some (.builtin "getset_descriptor.__get__"))) (tk : PySem.W.takesIn K (.builtin "object.__class__") = some true)
    {s : Shared} {base : Heap} {H : Hp} {a : Addr} {ns : List Int} (hl : ns.length ≤ 63) (e0 : Env0 l.prog w K mg base callerA [] s H) (sq : SqL K H a (ns.map V.int)) (nt : ∀ b ps, H b ≠ some (.tbl ps)) :
    codeAny (model l.prog w) callerA (.call (.ref fa) ⟨[.ref a], []⟩) (CR CX0 [] l.prog w H s (fun v _ => v = .bl true) fun _ _ _ => False) s := by
  have e := hfa.symm.trans T.m_law
  cases e
  have hF : ∀ f ∈ (["bits", "low", "high"] : List Str), NoAttr K cF f := fun f hf => by
    simp only [List.mem_cons, List.not_mem_nil, or_false] at hf
    rcases hf with rfl | rfl | rfl
    · exact nF_bits
    · exact nF_low
    · exact nF_high
  have hP : ∀ f ∈ (["form", "way", "box", "modes", "pushes"] : List Str), NoAttr K cP f := fun f hf => by
    simp only [List.mem_cons, List.not_mem_nil, or_false] at hf
    rcases hf with rfl | rfl | rfl | rfl | rfl
    · exact nP_form
    · exact nP_way
    · exact nP_box
    · exact nP_modes
    · exact nP_pushes
  letI : PlC := ⟨K, cF, cP, ⟨pgF, hdF, poF, saF⟩, ⟨pgP, hdP, poP, saP⟩, hF, hP⟩
  have E : Ec (T : Tx PlC.K mg) := {
    m_Format := PySem.W.mg_of X G mF
    aF := iF
    dF := _
    mk_Format := ⟨mmF, miF, mfF, mkF⟩
    f_F := fun_mk (st := s_initF) liF ciF kiF
    b_Format := (fun_mk (st := s_initF) liF ciF kiF).binds (ps := ["self", "bits", "low", "high"]) fun _ _ _ _ _ _ us hl => match us, hl with | [_, _, _, _], _ => rfl
    isF := ⟨PlC.clF, icF, sc, tk, mrF⟩
    m_Plant := PySem.W.mg_of X G mP
    aP := iP
    dP := _
    mk_Plant := ⟨mmP, miP, mfP, mkP⟩
    f_P := fun_mk (st := s_initP) liP ciP kiP
    b_Plant := (fun_mk (st := s_initP) liP ciP kiP).binds (ps := ["self", "form", "way", "box", "modes", "pushes"]) fun _ _ _ _ _ _ us hl => match us, hl with | [_, _, _, _, _, _], _ => rfl
  }
  exact law_run T E hl e0 sq nt
end
end Lk17
open PySem PySem.W PyProof.Rows
set_option maxHeartbeats 0 in
theorem PySem.Challenge.cw_steadycraft_k17_whole_wishes_judged_and_holds : PySem.Challenge.rw_steadycraft_k17_whole_wishes_judged_and.Holds := by
  w_on; o_law; k_head; (case hw => w_witness2)
  k_fill
  refine SC.walk_at (l := PySem.Challenge.rw_steadycraft_k17_whole_wishes_judged_and) (n := 63) rfl (by decide) rfl (fun w h Y => PySem.W.kIn_of Y) ?F
  case F =>
    intro w mg fa h KX G hmg s base H a ns hl e0 sq nt
    refine' Lk17.lawAt KX G hmg (Lk17.mkT KX G ?a_is_integer ?l_is_integer ?c_is_integer ?k_is_integer ?a_is_between ?l_is_between ?c_is_between ?k_is_between ?a_is_tuple ?l_is_tuple ?c_is_tuple ?k_is_tuple ?a_is_pair ?l_is_pair ?c_is_pair ?k_is_pair ?a_is_one_of ?l_is_one_of ?c_is_one_of ?k_is_one_of ?a_is_span ?l_is_span ?c_is_span ?k_is_span ?a_are_spans ?l_are_spans ?c_are_spans ?k_are_spans ?a_many_rows ?l_many_rows ?c_many_rows ?k_many_rows ?a_is_way ?l_is_way ?c_is_way ?k_is_way ?a_is_leaf ?l_is_leaf ?c_is_leaf ?k_is_leaf ?a_operations ?l_operations ?c_operations ?k_operations ?a_is_formula ?l_is_formula ?c_is_formula ?k_is_formula ?a_is_box ?l_is_box ?c_is_box ?k_is_box ?a_is_area ?l_is_area ?c_is_area ?k_is_area ?a_in_box ?l_in_box ?c_in_box ?k_in_box ?a_in_area ?l_in_area ?c_in_area ?k_in_area ?a_is_mode ?l_is_mode ?c_is_mode ?k_is_mode ?a_are_modes ?l_are_modes ?c_are_modes ?k_are_modes ?a_is_wish ?l_is_wish ?c_is_wish ?k_is_wish ?a_are_wishes ?l_are_wishes ?c_are_wishes ?k_are_wishes ?a_marks ?l_marks ?c_marks ?k_marks ?a_ahead_count ?l_ahead_count ?c_ahead_count ?k_ahead_count ?a_count_at_first ?l_count_at_first ?c_count_at_first ?k_count_at_first ?a_unless_above ?l_unless_above ?c_unless_above ?k_unless_above ?a_next_waiting ?l_next_waiting ?c_next_waiting ?k_next_waiting ?a_next_count ?l_next_count ?c_next_count ?k_next_count ?a_begun_by ?l_begun_by ?c_begun_by ?k_begun_by ?a_counted_by ?l_counted_by ?c_counted_by ?k_counted_by ?a_begun ?l_begun ?c_begun ?k_begun ?a_counted ?l_counted ?c_counted ?k_counted ?a_first_broken ?l_first_broken ?c_first_broken ?k_first_broken ?a_broken ?l_broken ?c_broken ?k_broken ?a__law_hand ?l__law_hand ?c__law_hand ?k__law_hand ?a__law_draw ?l__law_draw ?c__law_draw ?k__law_draw ?a__law_some ?l__law_some ?c__law_some ?k__law_some ?a__law_deep ?l__law_deep ?c__law_deep ?k__law_deep ?a__law_in ?l__law_in ?c__law_in ?k__law_in ?a__law_breaks ?l__law_breaks ?c__law_breaks ?k__law_breaks ?a__law_box ?l__law_box ?c__law_box ?k__law_box ?a__law_area ?l__law_area ?c__law_area ?k__law_area ?a__law_wish ?l__law_wish ?c__law_wish ?k__law_wish ?a__law_places ?l__law_places ?c__law_places ?k__law_places ?a__law_is_int ?l__law_is_int ?c__law_is_int ?k__law_is_int ?a__law_is_area ?l__law_is_area ?c__law_is_area ?k__law_is_area ?a__law_is_wish ?l__law_is_wish ?c__law_is_wish ?k__law_is_wish ?a__law_are_wishes ?l__law_are_wishes ?c__law_are_wishes ?k__law_are_wishes ?a__law_bent ?l__law_bent ?c__law_bent ?k__law_bent ?a__law_due ?l__law_due ?c__law_due ?k__law_due ?a__law_is ?l__law_is ?c__law_is ?k__law_is ?a__law_plant ?l__law_plant ?c__law_plant ?k__law_plant ?a__law_are_known_right ?l__law_are_known_right ?c__law_are_known_right ?k__law_are_known_right ?a_law ?l_law ?c_law ?k_law ?a_WAYS ?l_WAYS ?a_WITH_K ?l_WITH_K ?a_WITH_OTHER ?l_WITH_OTHER ?a_WORDS_wishes ?l_WORDS_wishes ?z_abs ?z_all ?z_any ?z_bool ?z_enumerate ?z_int ?z_isinstance ?z_len ?z_list ?z_max ?z_min ?z_range ?z_repr ?z_str ?z_tuple ?z_zip) ?e_mF ?e_mmF ?e_miF ?e_mfF ?e_mkF ?e_liF ?e_ciF ?e_kiF ?e_pgF ?e_hdF ?e_poF ?e_saF ?e_icF ?e_mrF ?e_nF_bits ?e_nF_low ?e_nF_high ?e_mP ?e_mmP ?e_miP ?e_mfP ?e_mkP ?e_liP ?e_ciP ?e_kiP ?e_pgP ?e_hdP ?e_poP ?e_saP ?e_icP ?e_mrP ?e_nP_form ?e_nP_way ?e_nP_box ?e_nP_modes ?e_nP_pushes ?e_sc ?e_tk hl e0 sq nt
    (case a_is_integer => k_is); (case l_is_integer => k_is); (case c_is_integer => k_is); (case k_is_integer => k_is); (case a_is_between => k_is); (case l_is_between => k_is); (case c_is_between => k_is); (case k_is_between => k_is); (case a_is_tuple => k_is); (case l_is_tuple => k_is); (case c_is_tuple => k_is); (case k_is_tuple => k_is); (case a_is_pair => k_is); (case l_is_pair => k_is); (case c_is_pair => k_is); (case k_is_pair => k_is); (case a_is_one_of => k_is); (case l_is_one_of => k_is); (case c_is_one_of => k_is); (case k_is_one_of => k_is); (case a_is_span => k_is); (case l_is_span => k_is); (case c_is_span => k_is); (case k_is_span => k_is); (case a_are_spans => k_is); (case l_are_spans => k_is); (case c_are_spans => k_is); (case k_are_spans => k_is); (case a_many_rows => k_is); (case l_many_rows => k_is); (case c_many_rows => k_is); (case k_many_rows => k_is); (case a_is_way => k_is); (case l_is_way => k_is); (case c_is_way => k_is); (case k_is_way => k_is); (case a_is_leaf => k_is); (case l_is_leaf => k_is); (case c_is_leaf => k_is); (case k_is_leaf => k_is); (case a_operations => k_is); (case l_operations => k_is); (case c_operations => k_is); (case k_operations => k_is); (case a_is_formula => k_is); (case l_is_formula => k_is); (case c_is_formula => k_is); (case k_is_formula => k_is); (case a_is_box => k_is); (case l_is_box => k_is); (case c_is_box => k_is); (case k_is_box => k_is); (case a_is_area => k_is); (case l_is_area => k_is); (case c_is_area => k_is); (case k_is_area => k_is); (case a_in_box => k_is); (case l_in_box => k_is); (case c_in_box => k_is); (case k_in_box => k_is); (case a_in_area => k_is); (case l_in_area => k_is); (case c_in_area => k_is); (case k_in_area => k_is); (case a_is_mode => k_is); (case l_is_mode => k_is); (case c_is_mode => k_is); (case k_is_mode => k_is); (case a_are_modes => k_is); (case l_are_modes => k_is); (case c_are_modes => k_is); (case k_are_modes => k_is); (case a_is_wish => k_is); (case l_is_wish => k_is); (case c_is_wish => k_is); (case k_is_wish => k_is); (case a_are_wishes => k_is); (case l_are_wishes => k_is); (case c_are_wishes => k_is); (case k_are_wishes => k_is); (case a_marks => k_is); (case l_marks => k_is); (case c_marks => k_is); (case k_marks => k_is); (case a_ahead_count => k_is); (case l_ahead_count => k_is); (case c_ahead_count => k_is); (case k_ahead_count => k_is); (case a_count_at_first => k_is); (case l_count_at_first => k_is); (case c_count_at_first => k_is); (case k_count_at_first => k_is); (case a_unless_above => k_is); (case l_unless_above => k_is); (case c_unless_above => k_is); (case k_unless_above => k_is); (case a_next_waiting => k_is); (case l_next_waiting => k_is); (case c_next_waiting => k_is); (case k_next_waiting => k_is); (case a_next_count => k_is); (case l_next_count => k_is); (case c_next_count => k_is); (case k_next_count => k_is); (case a_begun_by => k_is); (case l_begun_by => k_is); (case c_begun_by => k_is); (case k_begun_by => k_is); (case a_counted_by => k_is); (case l_counted_by => k_is); (case c_counted_by => k_is); (case k_counted_by => k_is); (case a_begun => k_is); (case l_begun => k_is); (case c_begun => k_is); (case k_begun => k_is); (case a_counted => k_is); (case l_counted => k_is); (case c_counted => k_is); (case k_counted => k_is); (case a_first_broken => k_is); (case l_first_broken => k_is); (case c_first_broken => k_is); (case k_first_broken => k_is); (case a_broken => k_is); (case l_broken => k_is); (case c_broken => k_is); (case k_broken => k_is); (case a__law_hand => k_is); (case l__law_hand => k_is); (case c__law_hand => k_is); (case k__law_hand => k_is); (case a__law_draw => k_is); (case l__law_draw => k_is); (case c__law_draw => k_is); (case k__law_draw => k_is); (case a__law_some => k_is); (case l__law_some => k_is); (case c__law_some => k_is); (case k__law_some => k_is); (case a__law_deep => k_is); (case l__law_deep => k_is); (case c__law_deep => k_is); (case k__law_deep => k_is); (case a__law_in => k_is); (case l__law_in => k_is); (case c__law_in => k_is); (case k__law_in => k_is); (case a__law_breaks => k_is); (case l__law_breaks => k_is); (case c__law_breaks => k_is); (case k__law_breaks => k_is); (case a__law_box => k_is); (case l__law_box => k_is); (case c__law_box => k_is); (case k__law_box => k_is); (case a__law_area => k_is); (case l__law_area => k_is); (case c__law_area => k_is); (case k__law_area => k_is); (case a__law_wish => k_is); (case l__law_wish => k_is); (case c__law_wish => k_is); (case k__law_wish => k_is); (case a__law_places => k_is); (case l__law_places => k_is); (case c__law_places => k_is); (case k__law_places => k_is); (case a__law_is_int => k_is); (case l__law_is_int => k_is); (case c__law_is_int => k_is); (case k__law_is_int => k_is); (case a__law_is_area => k_is); (case l__law_is_area => k_is); (case c__law_is_area => k_is); (case k__law_is_area => k_is); (case a__law_is_wish => k_is); (case l__law_is_wish => k_is); (case c__law_is_wish => k_is); (case k__law_is_wish => k_is); (case a__law_are_wishes => k_is); (case l__law_are_wishes => k_is); (case c__law_are_wishes => k_is); (case k__law_are_wishes => k_is); (case a__law_bent => k_is); (case l__law_bent => k_is); (case c__law_bent => k_is); (case k__law_bent => k_is); (case a__law_due => k_is); (case l__law_due => k_is); (case c__law_due => k_is); (case k__law_due => k_is); (case a__law_is => k_is); (case l__law_is => k_is); (case c__law_is => k_is); (case k__law_is => k_is); (case a__law_plant => k_is); (case l__law_plant => k_is); (case c__law_plant => k_is); (case k__law_plant => k_is); (case a__law_are_known_right => k_is); (case l__law_are_known_right => k_is); (case c__law_are_known_right => k_is); (case k__law_are_known_right => k_is); (case a_law => k_is); (case l_law => k_is); (case c_law => k_is); (case k_law => k_is); (case a_WAYS => k_is); (case l_WAYS => k_is); (case a_WITH_K => k_is); (case l_WITH_K => k_is); (case a_WITH_OTHER => k_is); (case l_WITH_OTHER => k_is); (case a_WORDS_wishes => k_is); (case l_WORDS_wishes => k_is); (case z_abs => k_is); (case z_all => k_is); (case z_any => k_is); (case z_bool => k_is); (case z_enumerate => k_is); (case z_int => k_is); (case z_isinstance => k_is); (case z_len => k_is); (case z_list => k_is); (case z_max => k_is); (case z_min => k_is); (case z_range => k_is); (case z_repr => k_is); (case z_str => k_is); (case z_tuple => k_is); (case z_zip => k_is)
    (case e_mF => first | k_is | rfl); (case e_mmF => first | k_is | rfl); (case e_miF => first | k_is | rfl); (case e_mfF => first | k_is | rfl); (case e_mkF => first | k_is | rfl); (case e_liF => first | k_is | rfl); (case e_ciF => first | k_is | rfl); (case e_kiF => first | k_is | rfl); (case e_pgF => first | k_is | rfl); (case e_hdF => first | k_is | rfl); (case e_poF => first | k_is | rfl); (case e_saF => first | k_is | rfl); (case e_icF => first | k_is | rfl); (case e_mrF => first | k_is | rfl); (case e_nF_bits => first | k_is | rfl); (case e_nF_low => first | k_is | rfl); (case e_nF_high => first | k_is | rfl); (case e_mP => first | k_is | rfl); (case e_mmP => first | k_is | rfl); (case e_miP => first | k_is | rfl); (case e_mfP => first | k_is | rfl); (case e_mkP => first | k_is | rfl); (case e_liP => first | k_is | rfl); (case e_ciP => first | k_is | rfl); (case e_kiP => first | k_is | rfl); (case e_pgP => first | k_is | rfl); (case e_hdP => first | k_is | rfl); (case e_poP => first | k_is | rfl); (case e_saP => first | k_is | rfl); (case e_icP => first | k_is | rfl); (case e_mrP => first | k_is | rfl); (case e_nP_form => first | k_is | rfl); (case e_nP_way => first | k_is | rfl); (case e_nP_box => first | k_is | rfl); (case e_nP_modes => first | k_is | rfl); (case e_nP_pushes => first | k_is | rfl); (case e_sc => first | k_is | rfl); (case e_tk => first | k_is | rfl)
